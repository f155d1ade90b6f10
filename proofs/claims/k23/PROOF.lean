import PyProof.Rows.All
import Wide.All
import OpenK.AllK
import Wide.FinOn
import PyProof.EqAt
import PyProof.EqKinds
import PyProof.TupleCall
import PyProof.NeKinds
import PyProof.EnumMake
import PyProof.ConsumeWalk
import KE.LcSums
import PyProof.ReprLen
import PyProof.StrLawsRepr
import PyProof.Rows.StrNews2
import PyProof.Rows.SetFrom
import PyProof.WalksMore
import PyProof.StrLawsChain
import PyProof.StrLawsTight
import PyProof.StrLawsIdx
import PyProof.ZipIter
import PyProof.Draws
import PyProof.Rows.FactsT2
import PyProof.ListStr
import PyProof.Rows.StrPartPair
import KE.KSortTup
import KE.KDictSum
import KE.KRevIter
import KE.KSortKey
import KE.KLam
import KE.KNestM
import PyProof.DictItems
import KE.KPairComp
import PyProof.AutoSeq1
import PyProof.SetNew
import PyProof.AttrMissHeap
import KE.KDictOf
import PyProof.ListRange
import Lean
import PySem.Challenge.RW_touchboats_k23_whole_deeds_tell_the_plac
set_option Elab.async false
set_option linter.all false
set_option maxRecDepth 100000
set_option maxHeartbeats 4000000
namespace PySem.W.Fast
def tw7783881788487814452:=0
def tw12301224387839704409:=0
def tw1838045152681251449:=0
def tw73423768417942574:=0
def tw2022533684273930751:=0
def tw706903551765386126:=0
def tw15861658465517351827:=0
def tw9374622479304799909:=0
def tw15044357757457388420:=0
def tw5256429742362572661:=0
def tw10621166649776824900:=0
def tw6154574332294390807:=0
def tw12539684629348632634:=0
def tw14677479525645838602:=0
def tw4257369931928210843:=0
def tw1539992851656543899:=0
def tw6950018720077927176:=0
def tw16460943453634218259:=0
def tw2916200131655892243:=0
def tw12187237952054134837:=0
def tw15575488565772732288:=0
def tw13156248635778788111:=0
def tw8525704915924187067:=0
def tw2730664454257823215:=0
def tw14269432932895279297:=0
def tw10725786094411110958:=0
def tw12894761282043999346:=0
def tw9638886825337781831:=0
def tw11789624809580319957:=0
def tw7049423634422181497:=0
def tw18000021081530039396:=0
def tw11600644771187790070:=0
def tw12769429901255177068:=0
def tw3840691824722542744:=0
def tw14246421322861448138:=0
def tw902631149936201020:=0
def tw5111737473039947778:=0
def tw7125219150386870704:=0
def tw9988488804815868062:=0
def tw7689697849584023327:=0
def tw8330128937231402345:=0
def tw13583351372447926517:=0
end PySem.W.Fast
open PySem renaming wpAny_bind->A0,wpAny_pure->A5,sizeLine->B5,wpAny_mono->E7,assignEach->F5,starEach->D6,Program->C5,wpAny_newObj_type->O6,foldedSetIterable->P1,wpAny_holding->M7,sysModules->G9,bootBuiltins->M8,wpAny_field->L3,sizeLine_eq->L6,wpAny_callSpecial?_slot->l4,mem_of_lookup->d8,wpAny_call_entry->W0,wpAny_standAt->U2,letOwnedTupleGo->d9,wpAny_of_eq->R3,compareOp->O0,attributeBase->Y6,mainGlobals->U3,wpAny_pyIter_tuple->As,wpAny_Call_Name_kw->At,wpAny_setField_rec->Au,keywordEach->W3,wpAny_seqItems->l5,wpAny_newFunctionEnv->BC,wpAny_passesOwn->u9,wpAny_comprehension_free->Df,codeAny->M9,wpAny_getItem_str_slice->Dg,wpAny_pyIter_list->BD,binaryOp->Q2,behindInMarks->v4,Keyword->O1,wpAny_rule->e6,swapsWith->Y7,tupleKind_room_in1->Dh,codeAny_builtin->BE,wpAny_pyIter_rangeiter->Fv,codeAny_compStart_list->Fw,wpAny_truthy_bool->Di,sliceBounds->v5,bindArgs->W4,backToKw->W5,isSubtype_type->BF,codeAny_mono->Av,Builtin->R5,tupleKind->l6,wpAny_execs_nil->Dj,getItem->U4,theTreesLotGoes->Dk,post_val_or_str->Dl,codeAny_of_tree->Dm,holding->Y8
open PySem.W renaming Frag->A4,fnOf->U5,kas_place->R6,kas_rev->N8,kas_sort->O7,kas_asc->Q3,keepIn->BG,kas_desc->Y9,codeIn->Dn,methodObj->Fx
open PySem.Heap renaming get?_push_of_some->B7,lt_size->C0,get?_push_size->F3,size_push->U6,SameBut->w4,ExtBut->BH
open List renaming mem_cons_of_mem->B3,mem_cons_self->B8,length_map->B2,getElem?_eq_some_iff->D9,getElem?_eq_getElem->D7,mem_cons->B6,length_append->E1,size_toArray->E3,mem_append_right->G4,getElem?_set_ne->F9,getElem?_set_self->J5,length_cons->E8,getElem?_map->F6,mem_of_getElem?->K2,range->C2,mem_singleton->J8,length_set->G6,mem_append->K8,map_cons->J9,getElem?_append_right->W6,nodup_cons->L7,map_append->L8,drop_of_length_le->R7,getElem?_append_left->W7,drop_eq_getElem_cons->W8,getElem?_eq_none->R8,mem_map->K4,mem_append_left->U7,length_singleton->W9,all_eq_true->P2,mem_filter->O8,mem_range->O2,length_take->Q4,mem_flatMap->Q5,append_nil->P3,foldl_cons->Q6,zip_cons_cons->X0,length_drop->U8,append_assoc->X1,flatMap_cons->X2,take_of_length_le->l7,reverse_cons->Z0,getD_eq_getElem?_getD->Aw,pairwise_iff_getElem->Ax,nil_append->Z1,not_mem_nil->e7,map_map->R9,cons_append->h9,getElem_mem->l8,drop_zero->i3,length_range->w5,getElem_of_mem->Ay,length_reverse->Az,filter_eq_nil_iff->BI,Nodup->T0,length_filter_le->BJ,nodup_append->AA,map_nil->i4,filterMap_cons->BK,filter_cons_of_pos->Do,drop_length->AB,filter_append->BL,find?_cons->AC,mem_of_mem_take->Dq,getElem?_of_mem->Dr,any_eq_true->BM,filter_eq_self->Ds,getElem?_replicate->Fy,getElem?_cons_zero->Fz,getElem?_cons_succ->FA,getElem_range->Dt,length_zip->BN,getElem?_take->Du,filter_cons_of_neg->FB,range_succ_eq_map->FC,find?_cons_of_neg->FD,foldl_append->Dv,map_set->AD,map_snd_zip->Dw,take_length->Dx,mem_of_mem_drop->FE
open PySem.Str renaming ofString->A3
open Nat renaming le_refl->B4,ne_of_lt->C3,lt_of_lt_of_le->K1,zero_add->F7,lt_succ_of_lt->O3,le_trans->K5,zero_le->J6,lt_irrefl->Z2,sub_succ_lt_self->BO,ne_of_gt->i5,le_of_eq->i6,sub_self->i7,le_succ->Z3,min_eq_left->AE,lt_succ_self->BP,min_eq_right->BQ,le_succ_of_le->Dz,min_self->AF,le_of_not_lt->DA,le_of_lt->BR,le_total->BS,sub_zero->BT
open Bool renaming false_ne_true->N5,false_eq_true->Z4,and_eq_true->l9,eq_iff_iff->n6,beq_eq_decide_eq->BU,or_false->BV
open PySem.Obj renaming mapSeq->F4
open Option.some renaming inj->N0
open Sum renaming inr->C7,inl->N1
open PySem.Builtin.SmallTypes renaming nextOf->Z5,ownedTupleIsFree->DB,ownedTupleHandOut->Iq
open Int renaming toNat_natCast->P4,emod_lt_of_pos->AG,eq_ofNat_of_zero_le->DC,emod_nonneg->AH
open Array renaming length_toList->T1,perm_iff_toList_perm->FF,getElem?_eq_none->FG,getElem?_toList->FH
open PyProof.Rows renaming callWith_type1->o0,slot_tuple_getitem->AI,get?_update_seq->AJ,listUpdate_at->w6,envOfC->DE
open PySem.Builtin.Range renaming rangeFitsLong->o1,rangeSize->AK
open PySem.Builtin.Slice renaming slicePlaces->o5,sliceAdjust->BW,sliceApplied->DF,sliceFields->Ir
open PySem.Builtin.Tuple renaming tupleExact->o6,tupleItemsOf->FI
open PySem.Value renaming type->L9,ref->N3,none->X3
open PySem.Heap.SameBut renaming update->o7
open PySem.Builtin.Str renaming occurrences->AM
open ForInStep renaming yield->Z6
open PySem.PyData renaming showable->Z7,showableAll->AN,shownAll->w8,depth->i8,shown->i9,shownKv->AO,depthAll->BX,showableKv->DG,str->DH,depthKv->DI
open PySem.F renaming slot_dict_get->AQ,plainAttrs_list->BY,slot_tuple_iterator_next->DK,entry_dict_get->DL,args_tuple_add_2->FJ,entry_tuple_add->FK,slot_tuple_add->FM,slot_zip_next->DN
open PySem.Calls renaming spliced_cons->AR,callWith_builtin->DO,spliced_nil->DP,evalArgs_plain->FN
open Option renaming isSome_iff_exists->DQ
open PySem.AutoSeq1 renaming wpAny_loadPart'->DR
open Array.Perm renaming refl->w9
open PySem.Txt renaming slice->T3,slice_le->AS
open False renaming elim->Z8
open PySem.Around renaming under_plainId->DS
open PyProof.Rows.F renaming plain_set_update_loop->FO
open PySem.Spec renaming countIn->DT,same->BZ
open PySem.StrLaws renaming sliceText->DU
open PySem.SeqAt renaming RcNeAt->AT,EqAt->x4,RcAt->AU
open PySem.Paired renaming length->B_
open True renaming intro->x5
open PySem.Builtin.List renaming listFitsIndex->Iu
open PySem.Heap.IsSliceOf renaming new->FP
open Prod.mk renaming inj->Ca
local macro_rules|`(tactic|omega)=>`(tactic|lia)
section
namespace L2
open PySem PySem.Spec PyProof.Rows
abbrev Key:=Sum Int Str
def AV:Key->Value->Bool
 | .inl k,v=>Value.isInt k v
 | .inr x,v=>Value.isStrOf x v
def keyH (w:World):Key->Int
 | .inl k=>hashInt k
 | .inr x=>hashStr w x
theorem Z9:∀{k:Key} {v:Value},AV k v=true->(∃i t,k=N1 i/\v=Value.int i t)\/(∃x t,k=C7 x/\v=Value.str x t)
 | .inl i, v, h => by
   obtain⟨t,e⟩:=Value.isInt_shape (k:=i) (v:=v) h;exact .inl ⟨i,t,rfl,e⟩
 | .inr x, v, h => by
   obtain⟨t,e⟩:=Value.isStrOf_shape (x:=x) (v:=v) h;exact .inr ⟨x,t,rfl,e⟩
theorem MH (i:Int)(t:Tok):AV (.inl i) (.int i t)=true:=by simp [AV,Value.isInt]
theorem MI (x:Str)(t:Tok):AV (.inr x) (.str x t)=true:=by simp [AV,Value.isStrOf]
theorem key_ll (a b:Int):decide ((N1 a:Key)=N1 b)=(a == b):=by grind
theorem key_rr (a b:Str):decide ((C7 a:Key)=C7 b)=decide (a=b):=by simp
theorem key_lr (a:Int)(b:Str):decide ((N1 a:Key)=C7 b)=false:=rfl
theorem key_rl (a:Str)(b:Int):decide ((C7 a:Key)=N1 b)=false:=rfl
def F2 (prog:C5)(w:World):PySem.KeyKind prog w Key where
 is:=AV
 hash:=keyH w
 inj:=fun v a b ha hb=>by
   rcases Z9 ha with⟨i,t,rfl,rfl⟩ | ⟨x,t,rfl,rfl⟩
   · rcases Z9 hb with⟨j,u,rfl,e⟩ | ⟨y,u,rfl,e⟩
     · injection e with e1 _;rw [e1]
     · exact nomatch e
   · rcases Z9 hb with⟨j,u,rfl,e⟩ | ⟨y,u,rfl,e⟩
     · exact nomatch e
     · injection e with e1 _;rw [e1]
 byValue:=fun k v h=>by
   rcases Z9 h with⟨i,t,rfl,rfl⟩ | ⟨x,t,rfl,rfl⟩ <;> rfl
 pyHash:=fun hv h=>by
   rcases Z9 hv with⟨i,t,rfl,rfl⟩ | ⟨x,t,rfl,rfl⟩
   · exact wpAny_pyHash_int h
   · exact wpAny_pyHash_str h
 eqBool:=fun hu hv h=>by
   rcases Z9 hu with⟨i,t,rfl,rfl⟩ | ⟨x,t,rfl,rfl⟩
   · rcases Z9 hv with⟨j,u,rfl,rfl⟩ | ⟨y,u,rfl,rfl⟩
     · rw [key_ll] at h;exact wpAny_eqBool_int h
     · rw [key_lr] at h;exact SeqAt.EqAt.int_str i t y u _ _ _ _ h
   · rcases Z9 hv with⟨j,u,rfl,rfl⟩ | ⟨y,u,rfl,rfl⟩
     · rw [key_rl] at h;exact SeqAt.EqAt.str_int x t j u _ _ _ _ h
     · rw [key_rr] at h;exact wpAny_eqBool_str h
 «strs»:=fun k x t v h=>by
   rcases Z9 h with⟨i,u,rfl,e⟩ | ⟨y,u,rfl,e⟩
   · exact nomatch e
   · injection e with e1 _;subst e1;cases v <;> rfl
theorem MJ (prog:C5)(w:World)(i:Int)(t:Tok):(F2 prog w).is (.inl i) (.int i t)=true:=MH i t
theorem Iv (prog:C5)(w:World)(x:Str)(t:Tok):(F2 prog w).is (.inr x) (.str x t)=true:=MI x t
inductive V where
 | non | bl (b:Bool) | int (i:Int) | str (x:Str) | byt (b:Array UInt8) | flt (b:UInt64) | ref (a:Addr) | ty (n:String)
 deriving DecidableEq
def RelV:V->Value->Prop
 | .non,u=>u=X3
 | .bl b,u=>u=Value.bool b
 | .int i,u=>∃t,u=Value.int i t
 | .str x,u=>∃t,u=Value.str x t
 | .byt b,u=>∃t,u=Value.bytes b t
 | .flt b,u=>∃t,u=Value.float b t
 | .ref a,u=>u=N3 a
 | .ty n,u=>u=L9 n
abbrev Vals:List V->List Value->Prop:=Paired RelV
theorem Vals.length (r:Vals xs us):xs.length=us.length:=B_ r
theorem Vals.get:∀{xs:List V} {us:List Value} {i:Nat} {x:V},Vals xs us->xs[i]?=some x->∃u,us[i]?=some u/\RelV x u
 | _,_,_,_,.nil,e=>by simp at e
 | _,_,0,_,.cons r _,e=>by simp at e;subst e;exact⟨_,rfl,r⟩
 | _, _, i + 1, x, .cons _ t, e => by
   obtain⟨u,h1,h2⟩:=Vals.get (i:=i) (x:=x) t (by grind);exact⟨u,by simpa using h1,h2⟩
theorem Vals.set (r:RelV x u):∀{xs:List V} {us:List Value} (i:Nat),Vals xs us->Vals (xs.set i x) (us.set i u)
 | _,_,_,.nil=>.nil
 | _,_,0,.cons _ t=>.cons r t
 | _,_,i + 1,.cons q t=>.cons q (Vals.set r i t)
theorem Vals.append (h:Vals xs us)(s:Vals ys ws):Vals (xs++ys) (us++ws):=by
 induction h with
 | nil=>exact s
 | cons r _ ih=>exact .cons r ih
theorem Vals.take:∀{xs:List V} {us:List Value} (n:Nat),Vals xs us->Vals (xs.take n) (us.take n)
 | _,_,0,_=>.nil
 | _,_,_ + 1,.nil=>.nil
 | _,_,n + 1,.cons r t=>.cons r (Vals.take n t)
theorem Vals.drop:∀{xs:List V} {us:List Value} (n:Nat),Vals xs us->Vals (xs.drop n) (us.drop n)
 | _,_,0,r=>r
 | _,_,_ + 1,.nil=>.nil
 | _,_,n + 1,.cons _ t=>Vals.drop n t
def RelO:Option V->Option Value->Prop
 | some v,some u=>RelV v u
 | none,none=>True
 | _,_=>False
def KV {κ:Type}:List (κ×V)->List (κ×Value)->Prop:=Paired fun(p:κ×V) (q:κ×Value)=>p.1=q.1/\RelV p.2 q.2
def kV:Key->V
 | .inl i=>.int i
 | .inr x=>.str x
inductive HO where
 /-- a list -/
 | lst (xs:List V)
 /-- a tuple (never changes) -/
 | tup (xs:List V)
 /-- a dict whose keys are ints and T4; one whose keys are tuples of ints and T4 (the empty one is both) -/
 | dK (kvs:List (Key×V)) | dT (kvs:List (List Key×V))
 /-- a set of ints: its members, its size -/
 | set (S:Key->Bool) (n:Nat)
 /-- an instance of the class at C, its dict at dx, its attributes -/
 | ins (C dx:Addr) (fs:List (Str×V))
 /-- the dict of the instance at x -/
 | own (x:Addr)
 /-- the dict of an exception -/
 | xd (fs:List (Str×V))
 /-- a bound method, f of x -/
 | met (f x:Addr)
 /-- a range object lo, lo + 1, .. below hi -/
 | rng (lo hi:Int)
 /-- a thing that is known to the object (the script; a dict while a loop walks it): read, never written while it is so -/
 | frz (o:Obj) (u:HO)
 /-- a code object's table -/
 | tbl (ps:Array Value)
 /-- any other thing, by what is true of its one object (a def of one's own: SetO a S n := HO.ext fun h => ..) -/
 | ext (φ:Heap->Prop)
abbrev Hp:=Addr->Option HO
def upd (H:Hp)(a:Addr)(o:HO):Hp:=fun b=>if b=a then some o else H b
theorem C4:upd H a o a=some o:=by unfold upd;rw [if_pos rfl]
theorem A7 (h:b≠a):upd H a o b=H b:=by unfold upd;rw [if_neg h]
theorem DV:upd (upd H a o) a u=upd H a u:=by
 funext b;unfold upd;split <;> rfl
theorem ne_of {H:Hp}(h:H a=some o)(h':H b=some u)(d:o≠u):a≠b:=by
 intro e;subst e;rw [h] at h';exact d (N0 h')
theorem X4 {H:Hp}(h:H a=some o)(h':H b=none):a≠b:=by
 intro e;subst e;rw [h] at h';cases h'
def X5 (h:Heap)(a:Addr)(items:Array Value):Prop:=∃o,h.get? a=some o/\(o.cls,o.dict)=(L9 "tuple",none)/\∃n,o.data=.seq items n
theorem X5.is (x:X5 h a items):IsTup h a items:=let ⟨o,e,c,r⟩:=x;⟨o,e,(Ca c).1,r⟩
theorem X5.lt (x:X5 h a items):a < h.objs.size:=let ⟨_,e,_⟩:=x;C0 e
theorem X5.new (h:Heap)(items:Array Value):X5 (h.push { cls:=.type "tuple",data:=.seq items }) h.objs.size items:=⟨_,F3 _ rfl,rfl,_,rfl⟩
section
variable (P:C5)(w:World)
def G5 (H:Hp)(h:Heap)(a:Addr):HO->Prop
 | .lst xs=>xs.length<=B5/\∃(its:List Value) (n:Nat),Vals xs its/\h.get? a=some { cls:=.type "list",data:=.seq its.toArray n }
 | .tup xs=>xs.length<=B5/\∃its:List Value,Vals xs its/\X5 h a its.toArray
 | .dK kvs=>kvs.length<=B5/\(a == G9)=false/\∃vs,KV kvs vs/\h.DictOf (F2 P w) a vs
 | .dT kvs=>kvs.length<=B5/\(a == G9)=false/\∃xs:List (List Key×Addr×Value),
     Paired (fun(p:List Key×V) (q:List Key×Addr×Value)=>p.1=q.1/\H q.2.1=some (.tup (p.1.map kV))/\RelV p.2 q.2.2) kvs xs/\
     ∃o es ep,h.get? a=some o/\o.ExactDict/\o.data=.dict es ep/\es.toList=xs.map (entryOfKey (l6 (F2 P w)))/\(xs.map (·.1)).Nodup
 | .set S n=>h.SetOf (F2 P w) a S n
 | .ins C dx fs=>H dx=some (.own a)/\fs.length<=1000/\dx≠a/\h.get? a=some (PySem.W.instObj C dx)/\
     ∃mA,h.Ns1 dx mA/\(∀f,RelO (fs.lookup f) (mA f))/\PySem.Within mA (fs.map (·.1))
 | .own _=>∃o,h.get? a=some o
 | .xd fs=>∃mA,h.Ns1 a mA/\∀f,RelO (fs.lookup f) (mA f)
 | .rng lo hi=>∃t u v,h.get? a=some { cls:=.type "range",data:=.fields #[.int lo t,.int hi u,.int 1 v] }
 | .frz o u=>h.get? a=some o/\G5 H h a u
 | .tbl ps=>h.get? a=some { cls:=.none,data:=.fields ps }
 | .met f x=>h.get? a=some (Fx (.ref f) (.ref x))
 | .ext φ=>φ h/\(∃o,h.get? a=some o)/\∀h1 h2:Heap,φ h1->(∀o,h1.get? a=some o->h2.get? a=some o)->φ h2
def HOk (H:Hp)(h:Heap):Prop:=∀a o,H a=some o->G5 P w H h a o
end
section
variable {P:C5}{w:World}{H H':Hp}{h h':Heap}{a:Addr}{o:HO}
theorem G5.lt (x:G5 P w H h a o):a < h.objs.size:=by
 cases o with
 | lst xs=>obtain⟨_,_,_,_,e⟩:=x;exact C0 e
 | tup xs=>obtain⟨_,_,_,p⟩:=x;exact p.lt
 | dK kvs=>obtain⟨_,_,_,_,o,_,_,e,_⟩:=x;exact C0 e
 | dT kvs=>obtain⟨_,_,_,_,o,_,_,e,_⟩:=x;exact C0 e
 | set S n=>obtain⟨o,_,_,_,e,_⟩:=x;exact C0 e
 | ins C dx fs=>obtain⟨_,_,_,e,_⟩:=x;exact C0 e
 | own y=>obtain⟨_,e⟩:=x;exact C0 e
 | xd fs=>obtain⟨_,⟨_,_,_,e,_⟩,_⟩:=x;exact C0 e
 | rng lo hi=>obtain⟨_,_,_,e⟩:=x;exact C0 e
 | frz ob u=>obtain⟨e,_⟩:=x;exact C0 e
 | tbl ps=>exact C0 (show h.get? a=some _ from x)
 | met f y=>exact C0 (show h.get? a=some _ from x)
 | ext φ=>obtain⟨_,⟨_,e⟩,_⟩:=x;exact C0 e
theorem Paired.mapP {α β:Type}{F G:α->β->Prop}{l₁:List α}{l₂:List β}(h:Paired F l₁ l₂)(f:∀a b,F a b->G a b):Paired G l₁ l₂:=by
 induction h with
 | nil=>exact .nil
 | cons r _ ih=>exact .cons (f _ _ r) ih
theorem Paired.imp' {α β:Type}{F G:α->β->Prop}(f:∀a b,F a b->G a b){l₁:List α}{l₂:List β}(r:Paired F l₁ l₂):Paired G l₁ l₂:=Paired.mapP r f
theorem G5.stay (x:G5 P w H h a o)(k:∀b u,(b=a\/H b=some (.own a))->h.get? b=some u->h'.get? b=some u)
   (ho:∀b,H b=some (.own a)->H' b=some (.own a)) (ht:∀b xs,H b=some (.tup xs)->H' b=some (.tup xs)):G5 P w H' h' a o:=by
 induction o with
 | lst xs=>obtain⟨z,its,n,r,e⟩:=x;exact⟨z,its,n,r,k _ _ (.inl rfl) e⟩
 | tup xs=>obtain⟨z,its,r,ob,e,c⟩:=x;exact⟨z,its,r,ob,k _ _ (.inl rfl) e,c⟩
 | dK kvs=>obtain⟨z,y,vs,r,ob,es,ep,e,c⟩:=x;exact⟨z,y,vs,r,ob,es,ep,k _ _ (.inl rfl) e,c⟩
 | dT kvs =>
   obtain⟨z,y,xs,r,ob,es,ep,e,c⟩:=x;exact⟨z,y,xs,Paired.mapP r fun p q z=>⟨z.1,ht _ _ z.2.1,z.2.2⟩,ob,es,ep,k _ _ (.inl rfl) e,c⟩
 | set S n=>obtain⟨ob,es,ep,t,e,c⟩:=x;exact⟨ob,es,ep,t,k _ _ (.inl rfl) e,c⟩
 | ins C dx fs =>
   obtain⟨d,z,ne,e,mA,⟨od,es,ep,e2,c⟩,r⟩:=x;exact⟨ho _ d,z,ne,k _ _ (.inl rfl) e,mA,⟨od,es,ep,k _ _ (.inr d) e2,c⟩,r⟩
 | own y=>obtain⟨ob,e⟩:=x;exact⟨ob,k _ _ (.inl rfl) e⟩
 | xd fs=>obtain⟨mA,⟨od,es,ep,e,c⟩,r⟩:=x;exact⟨mA,⟨od,es,ep,k _ _ (.inl rfl) e,c⟩,r⟩
 | rng lo hi=>obtain⟨t,u,v,e⟩:=x;exact⟨t,u,v,k _ _ (.inl rfl) e⟩
 | frz ob u ih=>obtain⟨e,q⟩:=x;exact⟨k _ _ (.inl rfl) e,ih q⟩
 | tbl ps =>
   have e:h.get? a=some { cls:=.none,data:=.fields ps }:=x;show h'.get? a=some { cls:=.none,data:=.fields ps };exact k a _ (.inl rfl) e
 | met f y =>
   have e:h.get? a=some (Fx (.ref f) (.ref y)):=x;show h'.get? a=some (Fx (.ref f) (.ref y));exact k a _ (.inl rfl) e
 | ext φ=>obtain⟨p,⟨o,e⟩,st⟩:=x;exact⟨st _ _ p fun o q=>k _ _ (.inl rfl) q,⟨o,k _ _ (.inl rfl) e⟩,st⟩
theorem HOk.lt (x:HOk P w H h)(e:H a=some o):a < h.objs.size:=(x a o e).lt
theorem HOk.fresh (x:HOk P w H h)(e:h.objs.size<=a):H a=none:=by
 cases q:H a with
 | none=>rfl
 | some u=>exact absurd (K1 (x.lt q) e) (Z2 _)
theorem HOk.kept (x:HOk P w H h)(k:∀b u,h.get? b=some u->h'.get? b=some u):HOk P w H h':=fun a o e=>
 (x a o e).stay (fun b u _ q=>k b u q) (fun _ q=>q) fun _ _ q=>q
theorem HOk.laid (x:HOk P w H h)(k:∀b u,h.get? b=some u->h'.get? b=some u)(hp:h.objs.size<=a)(new:G5 P w (upd H a o) h' a o):HOk P w (upd H a o) h':=fun b u e=>by
 have hn:=x.fresh hp
 by_cases hb:b=a
 · subst hb;rw [C4] at e;cases e;exact new
 · rw [A7 hb] at e;exact(x b u e).stay (fun c v _ q=>k c v q) (fun c q=>by rw [A7 (X4 q hn)];exact q) fun c xs q=>by rw [A7 (X4 q hn)];exact q
end
def Rd (H:Hp)(a:Addr)(u:HO):Prop:=H a=some u\/∃o,H a=some (.frz o u)
theorem Rd.ok (r:Rd H a u)(x:HOk P w H h):G5 P w H h a u:=by
 rcases r with r | ⟨o,r⟩
 · exact x a u r
 · obtain⟨_,q⟩:=x a _ r;exact q
def Mut:Option HO->Prop
 | some (.lst _)=>True
 | some (.dK _)=>True
 | some (.dT _)=>True
 | some (.set _ _)=>True
 | some (.ins _ _ _)=>True
 | some (.ext _)=>True
 | _=>False
section
variable {P:C5}{w:World}{H:Hp}{h h':Heap}{x e:Addr}{o':HO}
theorem HOk.write (ok:HOk P w H h)(mu:Mut (H x))(he:e=x\/H e=some (.own x))(k:∀b u,b≠e->h.get? b=some u->h'.get? b=some u)(heo:∃u,h'.get? e=some u)
   (new:G5 P w (upd H x o') h' x o'):HOk P w (upd H x o') h':=fun b u q=>by
 have nown:∀c y,H c=some (.own y)->c≠x:=fun c y r z=>by subst z;rw [r] at mu;exact mu
 have ntup:∀c xs,H c=some (.tup xs)->c≠x:=fun c xs r z=>by subst z;rw [r] at mu;exact mu
 by_cases hb:b=x
 · subst hb;rw [C4] at q;cases q;exact new
 · rw [A7 hb] at q
   by_cases hbe:b=e
   · have q':H b=some (.own x):=by
       rcases he with z | z
       · exact absurd (hbe.trans z) hb
       · rw [hbe];exact z
     rw [q] at q';cases q';obtain⟨v,hv⟩:=heo;exact⟨v,by rw [hbe];exact hv⟩
   · refine(ok b u q).stay (fun c v hc r=>k c v ?_ r) (fun c r=>by rw [A7 (nown c b r)];exact r) fun c xs r=>by rw [A7 (ntup c xs r)];exact r
     rcases hc with rfl | hc
     · exact hbe
     · rintro rfl;rcases he with z | z
       · exact nown c b hc z
       · rw [hc] at z;cases z;exact hb rfl
end
def NS (H:Hp):Prop:=H G9=none\/∃o u,H G9=some (.frz o u)
structure Un (fs ex:List Addr)(H H':Hp)(h h':Heap):Prop where
 keep:∀b o,h.get? b=some o->H b=none->b∉fs->b∉ex->h'.get? b=some o
 slot:∀b o,h.get? b=some o->H b=none->b∈fs->b∉ex->∃sl,h'.get? b=some { o with slots:=sl }
 free:∀b o,h.get? b=some o->H b=none->b∉ex->H' b=none
 there:∀b o,h.get? b=some o->b∉ex->∃o',h'.get? b=some o'
 tups:∀b xs,H b=some (.tup xs)->H' b=some (.tup xs)
 frzs:∀b o u,H b=some (.frz o u)->H' b=some (.frz o u)
 tbls:∀b ps,H b=some (.tbl ps)->∃more,H' b=some (.tbl (ps++more))
 sys:NS H->NS H'
section
variable {fs fs' ex ex':List Addr}{H H1 H2:Hp}{h h1 h2 h':Heap}{a x e:Addr}{o:HO}
theorem Un.any (u:Un fs ex H H1 h h1)(q:h.get? b=some ob)(n:H b=none)(hx:b∉ex):∃sl,h1.get? b=some { ob with slots:=sl }:=by
 by_cases hb:b∈fs
 · exact u.slot b ob q n hb hx
 · exact⟨ob.slots,u.keep b ob q n hb hx⟩
theorem Un.kept (k:∀b u,h.get? b=some u->h'.get? b=some u):Un fs ex H H h h':=
 ⟨fun b ob q _ _ _=>k b ob q,fun b ob q _ _ _=>⟨ob.slots,k b ob q⟩,fun _ _ _ n _=>n,fun b ob q _=>⟨ob,k b ob q⟩,fun _ _ q=>q,fun _ _ _ q=>q,fun _ ps q=>⟨#[],by rw [q];simp⟩,fun z=>z⟩
theorem Un.refl:Un fs ex H H h h:=Un.kept fun _ _ q=>q
theorem Un.laid (k:∀b u,h.get? b=some u->h'.get? b=some u)(hp:h.objs.size<=a)(hn:H a=none)(hy:G9 < h.objs.size):Un fs ex H (upd H a o) h h' where
 keep:=fun b u q _ _ _=>k b u q
 slot:=fun b u q _ _ _=>⟨u.slots,k b u q⟩
 free:=fun b u q n _=>by rw [A7 (C3 (K1 (C0 q) hp))];exact n
 there:=fun b u q _=>⟨u,k b u q⟩
 tups:=fun b xs q=>by rw [A7 (X4 q hn)];exact q
 frzs:=fun b u xs q=>by rw [A7 (X4 q hn)];exact q
 tbls:=fun b ps q=>⟨#[],by rw [A7 (X4 q hn),q];simp⟩
 sys:=fun z=>by unfold NS;rw [A7 (C3 (K1 hy hp))];exact z
theorem Un.write (mu:Mut (H x))(he:e=x\/H e=some (.own x))(k:∀b u,b≠e->h.get? b=some u->h'.get? b=some u)(heo:∃u,h'.get? e=some u):Un fs ex H (upd H x o) h h':=by
 have hx:∀b,H b=none->b≠x:=fun b n z=>by subst z;rw [n] at mu;exact mu
 have hb:∀b,H b=none->b≠e:=fun b n z=>by
   subst z;rcases he with r | r
   · exact hx b n r
   · rw [n] at r;cases r
 have hm:∀b u,H b=some u->¬Mut (some u)->b≠x:=fun b u q nm z=>by subst z;rw [q] at mu;exact nm mu
 refine⟨fun b u q n _ _=>k b u (hb b n) q,fun b u q n _ _=>⟨u.slots,k b u (hb b n) q⟩,fun b u q n _=>by rw [A7 (hx b n)];exact n,fun b u q _=>?_,
   fun b xs q=>by rw [A7 (hm b _ q fun z=>z)];exact q,fun b u xs q=>by rw [A7 (hm b _ q fun z=>z)];exact q,fun b ps q=>⟨#[],by rw [A7 (hm b _ q fun z=>z),q];simp⟩,fun z=>by
     rcases z with z | ⟨ob,u,z⟩
     · exact .inl (by rw [A7 (hx _ z)];exact z)
     · exact .inr ⟨ob,u,by rw [A7 (hm _ _ z fun z=>z)];exact z⟩⟩
 by_cases hbe:b=e
 · subst hbe;exact heo
 · exact⟨u,k b u hbe q⟩
end
def trk (h:Heap)(H:Hp):List Addr:=(C2 h.objs.size).filter fun a=>(H a).isSome
def hidT (h:Heap)(H:Hp):Heap:=PySem.W.hideAll h (trk h H)
theorem MK (h:Heap)(H:Hp):(hidT h H).objs.size=h.objs.size:=PySem.W.hideAll_size _ _
theorem MM (e:h.get? b=some o)(n:H b=none):(hidT h H).get? b=some o:=
 PySem.W.hideAll_get _ e fun hm=>by
   have q:(H b).isSome=true:=(O8.mp hm).2;rw [n] at q;simp at q
theorem MN (e:(hidT h H).get? b=some o):h.get? b=some o/\H b=none:=by
 have e':h.get? b=some o:=PySem.W.of_hideAll (trk h H) e;refine⟨e',?_⟩;cases q:H b with
 | none=>rfl
 | some x =>
   have hm:b∈trk h H:=O8.mpr ⟨O2.mpr (C0 e'),by simp [q]⟩;have z:(hidT h H).get? b=none:=PySem.W.hideAll_none (trk h H) hm;rw [z] at e;cases e
def MO (g h:Heap)(L:Addr):List (Addr×Obj):=(C2 h.objs.size).filterMap fun a=>if a=L\/(g.get? a).isSome=true then none else(h.get? a).map fun o=>(a,o)
def rest (g h:Heap)(L d:Addr):List (Addr×Obj):=(MO g h L).filter fun p=>decide (p.1≠d)
structure Mod (K:A4)(mg:Str->Option Value)(base:Heap):Prop where
 kin:K.In base
 glob:base.Ns U3 mg
 blt:∃mb,base.Ns builtinsNs mb/\∀x:Str,x≠"__name__"->mb x=M8 x
 nolimit:base.NoLimit
structure Cx where
 prog:C5
 w:World
 K:A4
 mg:Str->Option Value
 base:Heap
 A:Around
 N:List Str
 s₀:Shared
 H₀:Hp
 env:Env
 outer:List Env
 stack:List Env
 ex:List Addr
 fn:Str->Bool
 calm:Bool
 pn:List (Addr×Obj)
 xe:Value->Shared->Prop
def frs (l:List Env):List Addr:=l.filterMap (·.frame)
abbrev Cx.fs (X:Cx):List Addr:=frs X.outer
def Vis (sc:Scope)(x:Str):Prop:=sc.names.lookup x=some .local\/sc.names.lookup x=some .cell\/sc.names.lookup x=some .free
def Loc (sc:Scope)(x:Str):Prop:=sc.names.lookup x=some .local\/sc.names.lookup x=some .cell
def Look (env:Env)(h:Heap)(m:Str->Option Value)(x:Str)(u:Value):Prop:=
 (env.kindOf x=some .local/\m x=some u)\/((env.kindOf x=some .cell\/env.kindOf x=some .free)/\∃c,env.cells.lookup x=some c/\h.IsCell c (some u))
structure Cx.Ok (X:Cx):Prop where
 mod:Mod X.K X.mg X.base
 kind:X.env.scope.kind=.function
 glob:X.env.globals=U3
 blt:X.env.builtins=builtinsNs
 above:X.s₀.heap.objs.size<=X.env.locals
 inj:∀x y c,X.env.cells.lookup x=some c->X.env.cells.lookup y=some c->x=y
 has:∀x,(X.env.kindOf x=some .cell\/X.env.kindOf x=some .free)->∃c,X.env.cells.lookup x=some c
 cab:∀x c,X.fn x=true->X.env.cells.lookup x=some c->X.s₀.heap.objs.size<=c
 hd:X.calm=true->X.A.handled=none
 frames:X.A.frames=some X.stack
 stk:X.stack=X.outer\/(X.stack=X.env::X.outer/\X.env.frame=some X.env.locals)
 exf:∀b∈X.ex,b≠X.env.locals/\∀x c,X.env.cells.lookup x=some c->c≠b
 bs:∀b o,X.base.get? b=some o->X.s₀.heap.get? b=some o/\X.H₀ b=none
 bsz:X.base.objs.size<=X.s₀.heap.objs.size
 noex:∀b o,X.base.get? b=some o->b∉X.ex
 exfs:∀b∈X.ex,b∉X.fs
 funs:X.s₀.heap.FunFrames X.base X.outer
 frf:∀b∈X.fs,X.H₀ b=none
 nos:NS X.H₀
structure Inv (X:Cx)(pins:List (Addr×Obj))(σ:List (Option V))(H:Hp)(s:Shared):Prop where
 ok:X.Ok
 os:s.os=X.s₀.os
 bare:AllBare s.gens
 base:Un X.fs X.ex X.H₀ H X.s₀.heap s.heap
 loc:∃m,s.heap.Ns X.env.locals m/\∀(i:Nat) (x:Str) (v:V),X.N[i]?=some x->σ[i]?=some (some v)->Vis X.env.scope x->∃u,RelV v u/\Look X.env s.heap m x u
 cell:∀x c,X.env.cells.lookup x=some c->∃v,s.heap.IsCell c v
 free:H X.env.locals=none
 freeC:∀x c,X.env.cells.lookup x=some c->H c=none
 pin:∀p∈X.pn++pins,s.heap.get? p.1=some p.2/\H p.1=none/\p.1≠X.env.locals/\p.1∉X.fs/\∀v,p.2.data≠.cell v
 hok:HOk X.prog X.w H s.heap
 len:σ.length=X.N.length
section
variable {X:Cx}{pins:List (Addr×Obj)}{σ:List (Option V)}{H H':Hp}{s:Shared}{h':Heap}
theorem Cx.Ok.nofr (ok:X.Ok)(e:X.base.get? b=some o):b∉X.fs:=fun hb=>by
 have:=(ok.funs.mem hb).1;rw [e] at this;cases this
theorem Inv.bs (I:Inv X pins σ H s):∀b o,X.base.get? b=some o->s.heap.get? b=some o/\H b=none:=fun b o e=>
 ⟨I.base.keep b o (I.ok.bs b o e).1 (I.ok.bs b o e).2 (I.ok.nofr e) (I.ok.noex b o e),I.base.free b o (I.ok.bs b o e).1 (I.ok.bs b o e).2 (I.ok.noex b o e)⟩
theorem Inv.bk (I:Inv X pins σ H s):∀b o,X.base.get? b=some o->s.heap.get? b=some o:=fun b o e=>(I.bs b o e).1
theorem Inv.mod (I:Inv X pins σ H s):Mod X.K X.mg X.base:=I.ok.mod
theorem Inv.nos (I:Inv X pins σ H s):NS H:=I.base.sys I.ok.nos
theorem Inv.bigS (I:Inv X pins σ H s):G9 < s.heap.objs.size:=Nat.lt_trans (by decide) (I.mod.glob.keeps I.bk).lt
theorem Inv.kIn (I:Inv X pins σ H s):X.K.In s.heap:=I.ok.mod.kin.keeps I.bk
theorem Inv.nolimit (I:Inv X pins σ H s):s.heap.NoLimit:=I.ok.mod.nolimit.keeps I.bk
theorem Inv.lt (I:Inv X pins σ H s):X.env.locals < s.heap.objs.size:=let ⟨_,hn,_⟩:=I.loc;hn.lt
theorem Inv.sz (I:Inv X pins σ H s):X.s₀.heap.objs.size<=s.heap.objs.size:=K5 I.ok.above (BR I.lt)
theorem Inv.nofs (I:Inv X pins σ H s)(h:s.heap.objs.size<=a):a∉X.fs:=fun hb=>by
 obtain⟨_,o,ho,_⟩:=I.ok.funs.mem hb;exact absurd (K1 (C0 ho) (K5 I.sz h)) (Z2 _)
theorem Inv.cne (I:Inv X pins σ H s):∀x c,X.env.cells.lookup x=some c->c≠X.env.locals:=fun x c e z=>by
 obtain⟨v,o,ho,hd⟩:=I.cell x c e;obtain⟨m,⟨o',es,ep,ho',hd',_⟩,_⟩:=I.loc;rw [z,ho'] at ho;cases ho;rw [hd'] at hd;cases hd
theorem Inv.funs (I:Inv X pins σ H s):s.heap.FunFrames X.base X.outer:=by
 have all:∀(l:List Env),(∀b∈frs l,b∈X.fs)->X.s₀.heap.FunFrames X.base l->s.heap.FunFrames X.base l:=by
   intro l
   induction l with
   | nil=>intro _ _;trivial
   | cons env r ih =>
     intro hs hl;obtain⟨hk,⟨L,o,hf,hn,ho,hd⟩,hr⟩:=hl;have hL:L∈X.fs:=hs L (by unfold frs;rw [BK,hf];exact B8);obtain⟨sl,e⟩:=I.base.slot L o ho (I.ok.frf L hL) hL fun z=>I.ok.exfs L z hL;exact⟨hk,⟨L,_,hf,hn,e,hd⟩,ih (fun b hb=>hs b (by unfold frs;rw [BK,hf];exact B3 _ hb)) hr⟩
 exact all X.outer (fun _ hb=>hb) I.ok.funs
theorem Inv.stack (I:Inv X pins σ H s):s.heap.FunFrames X.base X.stack:=by
 rcases I.ok.stk with e | ⟨e,hf⟩
 · rw [e];exact I.funs
 · rw [e];obtain⟨m,hn,_⟩:=I.loc;refine .cons (by rw [I.ok.kind];decide) hf hn ?_ I.funs;exact Heap.get?_none_of_le (K5 I.ok.bsz I.ok.above)
theorem Inv.stkSub (I:Inv X pins σ H s):∀b∈frs X.stack,b∈X.env.locals::X.fs:=fun b hb=>by
 rcases I.ok.stk with e | ⟨e,hf⟩
 · rw [e] at hb;exact B3 _ hb
 · rw [e] at hb;unfold frs at hb;rw [BK,hf] at hb;exact hb
theorem Inv.stkFree (I:Inv X pins σ H s):∀b∈frs X.stack,H b=none:=fun b hb=>by
 rcases B6.mp (I.stkSub b hb) with e | hb
 · rw [e];exact I.free
 · obtain⟨_,o,ho,_⟩:=I.ok.funs.mem hb;exact I.base.free b o ho (I.ok.frf b hb) fun z=>I.ok.exfs b z hb
theorem Inv.step {ch:List Addr}(I:Inv X pins σ H s)
   (hch:∀b∈ch,(b∈X.ex\/X.s₀.heap.objs.size<=b)/\b≠X.env.locals/\(∀x c,X.env.cells.lookup x=some c->c≠b)/\∀p∈X.pn++pins,p.1≠b)
   (keep:∀b o,b≠X.env.locals->b∉X.fs->b∉ch->s.heap.get? b=some o->H b=none->h'.get? b=some o)
   (slot:∀b o,b≠X.env.locals->b∈X.fs->b∉ch->s.heap.get? b=some o->H b=none->∃sl,h'.get? b=some { o with slots:=sl }) (free:∀b o,b∉ch->s.heap.get? b=some o->H b=none->H' b=none)
   (there:∀b o,b∉ch->s.heap.get? b=some o->∃o',h'.get? b=some o')
   (tups:∀b xs,H b=some (.tup xs)->H' b=some (.tup xs)) (frzs:∀b o u,H b=some (.frz o u)->H' b=some (.frz o u)) (tbls:∀b ps,H b=some (.tbl ps)->∃more,H' b=some (.tbl (ps++more))) (sys:NS H->NS H')
   (ns:∀m,s.heap.Ns X.env.locals m->h'.Ns X.env.locals m) (hok:HOk X.prog X.w H' h') (hg:AllBare g') :
   Inv X pins σ H' { s with heap:=h',gens:=g',drawn:=d',toks:=t' }:=by
 have neL:∀b o,X.s₀.heap.get? b=some o->b≠X.env.locals:=fun b o e=>C3 (K1 (C0 e) I.ok.above)
 have neC:∀b o,X.s₀.heap.get? b=some o->b∉X.ex->b∉ch:=fun b o e hx hb=>by
   rcases(hch b hb).1 with z | z
   · exact hx z
   · exact absurd (K1 (C0 e) z) (Z2 _)
 have cellK:∀x c,X.env.cells.lookup x=some c->∀v,s.heap.IsCell c v->h'.IsCell c v:=fun x c e v ⟨o,ho,hd⟩=>by
   have nch:c∉ch:=fun z=>(hch c z).2.2.1 x c e rfl
   by_cases hc:c∈X.fs
   · obtain⟨sl,q⟩:=slot c o (I.cne x c e) hc nch ho (I.freeC x c e);exact⟨_,q,hd⟩
   · exact⟨o,keep c o (I.cne x c e) hc nch ho (I.freeC x c e),hd⟩
 refine⟨I.ok,I.os,hg,⟨fun b o e n hb hx=>?_,fun b o e n hb hx=>?_,fun b o e n hx=>?_,fun b o e hx=>?_,fun b xs e=>tups b xs (I.base.tups b xs e),fun b o xs e=>frzs b o xs (I.base.frzs b o xs e),fun b ps e=>?_,fun z=>sys (I.base.sys z)⟩,?_,fun x c e=>?_,?_,fun x c e=>?_,fun p hp=>?_,hok,I.len⟩
 · exact keep b o (neL b o e) hb (neC b o e hx) (I.base.keep b o e n hb hx) (I.base.free b o e n hx)
 · obtain⟨sl,e1⟩:=I.base.slot b o e n hb hx;obtain⟨sl',e2⟩:=slot b _ (neL b o e) hb (neC b o e hx) e1 (I.base.free b o e n hx);exact⟨sl',e2⟩
 · obtain⟨o',e1⟩:=I.base.there b o e hx;exact free b o' (neC b o e hx) e1 (I.base.free b o e n hx)
 · obtain⟨o',e1⟩:=I.base.there b o e hx;exact there b o' (neC b o e hx) e1
 · obtain⟨m1,e1⟩:=I.base.tbls b ps e;obtain⟨m2,e2⟩:=tbls b _ e1;exact⟨m1++m2,by rw [e2,Array.append_assoc]⟩
 · obtain⟨m,hn,hl⟩:=I.loc;refine⟨m,ns m hn,fun i x v e1 e2 e3=>?_⟩;obtain⟨u,r,l⟩:=hl i x v e1 e2 e3;refine⟨u,r,?_⟩;rcases l with l | ⟨k,c,e,z⟩
   · exact .inl l
   · exact .inr ⟨k,c,e,cellK x c e _ z⟩
 · obtain⟨v,z⟩:=I.cell x c e;exact⟨v,cellK x c e v z⟩
 · obtain⟨m,⟨o,_,_,ho,_⟩,_⟩:=I.loc;exact free _ o (fun z=>(hch _ z).2.1 rfl) ho I.free
 · obtain⟨v,o,ho,hd⟩:=I.cell x c e;exact free c o (fun z=>(hch c z).2.2.1 x c e rfl) ho (I.freeC x c e)
 · obtain⟨e,n,ne,nf,d⟩:=I.pin p hp;have nch:p.1∉ch:=fun z=>(hch p.1 z).2.2.2 p hp rfl;exact⟨keep p.1 p.2 ne nf nch e n,free p.1 p.2 nch e n,ne,nf,d⟩
theorem Inv.un (I:Inv X pins σ H s)(u:Un X.fs [] H H' s.heap h')(hok:HOk X.prog X.w H' h'):Inv X pins σ H' { s with heap:=h',toks:=t' }:=by
 obtain⟨m,⟨o,es,ep,ho,r⟩,_⟩:=id I.loc;obtain⟨sl,hL⟩:=u.any ho I.free (by simp)
 exact I.step (g':=s.gens) (d':=s.drawn) (ch:=[]) (fun _ z=>nomatch z) (fun b o _ hb _ e n=>u.keep b o e n hb (by simp)) (fun b o _ hb _ e n=>u.slot b o e n hb (by simp)) (fun b o _ e n=>u.free b o e n (by simp)) (fun b o _ e=>u.there b o e (by simp)) u.tups u.frzs u.tbls u.sys (fun m' hm=>by
   obtain⟨o',es',ep',ho',r'⟩:=hm;rw [ho] at ho';cases ho'
   exact⟨_,es',ep',hL,r'⟩) hok I.bare
theorem Inv.call (I:Inv X pins σ H s)(u:Un (frs X.stack) ch H H' s.heap h')(hok:HOk X.prog X.w H' h')(hg:AllBare g')
   (hch:∀b∈ch,(b∈X.ex\/X.s₀.heap.objs.size<=b)/\b≠X.env.locals/\(∀x c,X.env.cells.lookup x=some c->c≠b)/\∀p∈X.pn++pins,p.1≠b) :
   Inv X pins σ H' { s with heap:=h',gens:=g',drawn:=d',toks:=t' }:=by
 obtain⟨m,⟨o,es,ep,ho,r⟩,_⟩:=id I.loc;obtain⟨sl,hL⟩:=u.any ho I.free fun z=>(hch _ z).2.1 rfl
 exact I.step (ch:=ch) hch (fun b o hL hb hc e n=>u.keep b o e n (fun z=>(B6.mp (I.stkSub b z)).elim hL hb) hc) (fun b o _ _ hc e n=>u.any e n hc) (fun b o hc e n=>u.free b o e n hc) (fun b o hc e=>u.there b o e hc) u.tups u.frzs u.tbls u.sys (fun m' hm=>by
   obtain⟨o',es',ep',ho',r'⟩:=hm;rw [ho] at ho';cases ho'
   exact⟨_,es',ep',hL,r'⟩) hok hg
theorem Inv.turned {t':Nat}{it:Addr}(I:Inv X pins σ H s)(k:∀b o,b≠it->s.heap.get? b=some o->h'.get? b=some o)(hn:H it=none)(hL:it≠X.env.locals)
   (h1:it∈X.ex\/X.s₀.heap.objs.size<=it) (h2:∀x c,X.env.cells.lookup x=some c->c≠it) (h3:∀p∈X.pn++pins,p.1≠it):Inv X pins σ H { s with heap:=h',toks:=t' }:=by
 have nit:∀b u,H b=some u->b≠it:=fun b u e z=>by rw [z,hn] at e;cases e
 refine I.step (g':=s.gens) (d':=s.drawn) (ch:=[it]) (fun b hb=>?_) (fun b o _ _ hc e _=>k b o (fun z=>hc (by simp [z])) e) (fun b o _ _ hc e _=>⟨o.slots,k b o (fun z=>hc (by simp [z])) e⟩) (fun _ _ _ _ n=>n)
   (fun b o hc e=>⟨o,k b o (fun z=>hc (by simp [z])) e⟩) (fun _ _ e=>e) (fun _ _ _ e=>e) (fun b ps e=>⟨#[],by rw [e];simp⟩) (fun z=>z) (fun m hm=>?_) (fun b u e=>?_) I.bare
 · grind
 · obtain⟨o,es,ep,ho,r⟩:=hm;exact⟨o,es,ep,k _ o (Ne.symm hL) ho,r⟩
 · refine(I.hok b u e).stay (fun c v hc q=>k c v ?_ q) (fun _ q=>q) fun _ _ q=>q;rcases hc with z | z
   · grind
   · grind
theorem Inv.tok (I:Inv X pins σ H s)(t:Nat):Inv X pins σ H { s with toks:=t }:=I.un (h':=s.heap) (t':=t) Un.refl I.hok
theorem Inv.kept (I:Inv X pins σ H s)(k:∀b u,s.heap.get? b=some u->h'.get? b=some u):Inv X pins σ H { s with heap:=h',toks:=t' }:=I.un (Un.kept k) (I.hok.kept k)
theorem Inv.laid (I:Inv X pins σ H s)(k:∀b u,s.heap.get? b=some u->h'.get? b=some u)(hp:s.heap.objs.size<=a)(new:G5 X.prog X.w (upd H a o) h' a o) :
   Inv X pins σ (upd H a o) { s with heap:=h',toks:=t' }:=I.un (Un.laid k hp (I.hok.fresh hp) I.bigS) (I.hok.laid k hp new)
theorem Inv.write (I:Inv X pins σ H s)(mu:Mut (H x))(he:e=x\/H e=some (.own x))(k:∀b u,b≠e->s.heap.get? b=some u->h'.get? b=some u)(heo:∃u,h'.get? e=some u)
   (new:G5 X.prog X.w (upd H x o) h' x o):Inv X pins σ (upd H x o) { s with heap:=h',toks:=t' }:=I.un (Un.write mu he k heo) (I.hok.write mu he k heo new)
theorem Inv.pins_of (I:Inv X pins σ H s)(h:∀p∈pins',s.heap.get? p.1=some p.2/\H p.1=none/\p.1≠X.env.locals/\p.1∉X.fs/\∀v,p.2.data≠.cell v):Inv X pins' σ H s:=
 ⟨I.ok,I.os,I.bare,I.base,I.loc,I.cell,I.free,I.freeC,fun p hp=>(K8.mp hp).elim (fun z=>I.pin p (U7 _ z)) (h p),I.hok,I.len⟩
theorem nodup_ix {N:List Str}(hN:N.Nodup){i j:Nat}{x:Str}(a:N[i]?=some x)(b:N[j]?=some x):i=j:=by
 obtain⟨h1,e1⟩:=D9.mp a;obtain⟨h2,e2⟩:=D9.mp b;exact(List.getElem_inj hN).mp (e1.trans e2.symm)
theorem Iw (I:Inv X pins σ H s)(hN:X.N.Nodup)(hi:X.N[i]?=some x)(hx:Loc X.env.scope x)(r:RelV v u)
   (h:∀s',Inv X pins (σ.set i (some v)) H s'->(∃a,w4 a s.heap s'.heap/\(a=X.env.locals\/X.env.cells.lookup x=some a))->Q () s') (hf:X.fn x=true\/X.env.scope.names.lookup x=some .local:=by first | exact .inl rfl | exact .inr rfl | assumption):wpAny M A (storeName X.env x u) Q E s:=by
 obtain⟨m,hn,hl⟩:=id I.loc;have hcls:(X.env.scope.kind == .class || (X.env.scope.kind == .module && X.env.locals != X.env.globals))=false:=by rw [I.ok.kind];rfl
 have hiσ:i < σ.length:=by rw [I.len];exact(D9.mp hi).1
 have cne:=I.cne
 have tracked:∀{a:Addr} {h':Heap},(∃o,s.heap.get? a=some o/\H a=none)->w4 a s.heap h'->HOk X.prog X.w H h':=fun {a h'} ha hs b ob e=>by
   obtain⟨_,_,hfree⟩:=ha;refine(I.hok b ob e).stay (fun c w' hc q=>(hs.2 c ?_).trans q) (fun _ q=>q) fun _ _ q=>q;rintro rfl;rcases hc with rfl | hc
   · rw [hfree] at e;cases e
   · rw [hfree] at hc;cases hc
 rcases hx with hk | hk
 · refine wpAny_storeName_local hk hn (fun h' hn' hs=>?_) hcls;obtain⟨oL,_,_,hoL,_⟩:=id hn;refine h _ ⟨I.ok,I.os,I.bare,⟨fun b o e n hb hx=>?_,fun b o e n hb hx=>?_,I.base.free,fun b o e hx=>?_,I.base.tups,I.base.frzs,I.base.tbls,I.base.sys⟩,⟨_,hn',fun j y v' e1 e2 e3=>?_⟩,fun y c e=>?_,I.free,I.freeC,fun p hp=>?_,tracked ⟨oL,hoL,I.free⟩ hs,by simpa using I.len⟩ ⟨_,hs,.inl rfl⟩
   · exact(hs.2 b (C3 (K1 (C0 e) I.ok.above))).trans (I.base.keep b o e n hb hx)
   · obtain⟨sl,e1⟩:=I.base.slot b o e n hb hx;exact⟨sl,(hs.2 b (C3 (K1 (C0 e) I.ok.above))).trans e1⟩
   · obtain⟨o',e1⟩:=I.base.there b o e hx;exact⟨o',(hs.2 b (C3 (K1 (C0 e) I.ok.above))).trans e1⟩
   · by_cases hj:j=i
     · subst hj;rw [hi] at e1;cases e1;rw [J5 hiσ] at e2;cases e2;exact⟨u,r,.inl ⟨hk,by simp⟩⟩
     · rw [F9 (Ne.symm hj)] at e2;obtain⟨u',r',q⟩:=hl j y v' e1 e2 e3;refine⟨u',r',?_⟩;rcases q with⟨k,e⟩ | ⟨k,c,e,z⟩
       · refine .inl ⟨k,?_⟩;have:y≠x:=fun e=>hj (nodup_ix hN e1 (e▸hi));simp [this,e]
       · exact .inr ⟨k,c,e,z.sameBut hs (cne y c e)⟩
   · obtain⟨w',z⟩:=I.cell y c e;exact⟨w',z.sameBut hs (cne y c e)⟩
   · obtain⟨e,n,ne,nf,d⟩:=I.pin p hp;exact⟨(hs.2 p.1 ne).trans e,n,ne,nf,d⟩
 · have hfn:X.fn x=true:=by
     rcases hf with z | z
     · exact z
     · rw [z] at hk;cases hk
   obtain⟨c,hc⟩:=I.ok.has x (.inl hk);obtain⟨w',z⟩:=I.cell x c hc;refine wpAny_storeName_cell I.ok.kind hk hc z (fun h' hc' hs=>?_);obtain⟨oc,hoc,hocd⟩:=id z;refine h { s with heap:=h' } ⟨I.ok,I.os,I.bare,⟨fun b o e n hb hx=>?_,fun b o e n hb hx=>?_,I.base.free,fun b o e hx=>?_,I.base.tups,I.base.frzs,I.base.tbls,I.base.sys⟩,⟨m,hn.sameBut hs (Ne.symm (cne x c hc)),fun j y v' e1 e2 e3=>?_⟩,fun y c' e=>?_,I.free,I.freeC,fun p hp=>?_,tracked ⟨oc,hoc,I.freeC x c hc⟩ hs,by simpa using I.len⟩ ⟨c,hs,.inr hc⟩
   · exact(hs.2 b (C3 (K1 (C0 e) (I.ok.cab x c hfn hc)))).trans (I.base.keep b o e n hb hx)
   · obtain⟨sl,e1⟩:=I.base.slot b o e n hb hx;exact⟨sl,(hs.2 b (C3 (K1 (C0 e) (I.ok.cab x c hfn hc)))).trans e1⟩
   · obtain⟨o',e1⟩:=I.base.there b o e hx;exact⟨o',(hs.2 b (C3 (K1 (C0 e) (I.ok.cab x c hfn hc)))).trans e1⟩
   · by_cases hj:j=i
     · subst hj;rw [hi] at e1;cases e1;rw [J5 hiσ] at e2;cases e2;exact⟨u,r,.inr ⟨.inl hk,c,hc,hc'⟩⟩
     · rw [F9 (Ne.symm hj)] at e2;obtain⟨u',r',q⟩:=hl j y v' e1 e2 e3;refine⟨u',r',?_⟩;rcases q with q | ⟨k,c',e,z'⟩
       · exact .inl q
       · refine .inr ⟨k,c',e,z'.sameBut hs ?_⟩;rintro rfl;exact hj (nodup_ix hN e1 (I.ok.inj _ _ _ e hc▸hi))
   · by_cases hcc:c'=c
     · subst hcc;exact⟨_,hc'⟩
     · obtain⟨w2,z2⟩:=I.cell y c' e;exact⟨w2,z2.sameBut hs hcc⟩
   · obtain⟨e,n,ne,nf,d⟩:=I.pin p hp;refine⟨(hs.2 p.1 ?_).trans e,n,ne,nf,d⟩;intro q;rw [q,hoc] at e;have q':oc=p.2:=N0 e;exact d w' (by rw [<- q'];exact hocd)
theorem DW (I:Inv X pins σ H s)(hN:X.N.Nodup)(hi:X.N[i]?=some x)(hx:Loc X.env.scope x)(r:RelV v u)
   (h:∀s',Inv X pins (σ.set i (some v)) H s'->Q () s') (hf:X.fn x=true\/X.env.scope.names.lookup x=some .local:=by first | exact .inl rfl | exact .inr rfl | assumption):wpAny M A (storeName X.env x u) Q E s:=
 Iw I hN hi hx r (fun s' I' _=>h s' I') hf
end
abbrev XK:=Value->Option Addr->Hp->Prop
abbrev St:=List (Option V)
abbrev VK:=V->Hp->Prop
abbrev TE:=St->Hp->VK->Prop
abbrev TT:=St->Hp->(Bool->Hp->Prop)->Prop
abbrev TA:=St->Hp->(List V->Hp->Prop)->Prop
structure Ends where
 nx:St->Hp->Prop
 rt:VK
 bk:St->Hp->Prop:=fun _ _=>False
 ct:St->Hp->Prop:=fun _ _=>False
abbrev TS:=Ends->St->Hp->Prop
def EP (X:Cx)(pins:List (Addr×Obj))(σ:St)(Q:VK)(u:Value)(s':Shared):Prop:=∃v H',Inv X pins σ H' s'/\RelV v u/\Q v H'
def TP (X:Cx)(pins:List (Addr×Obj))(σ:St)(Q:Bool->Hp->Prop)(b:Bool)(s':Shared):Prop:=∃H',Inv X pins σ H' s'/\Q b H'
def AP (X:Cx)(pins:List (Addr×Obj))(σ:St)(Q:List V->Hp->Prop)(us:List Value)(s':Shared):Prop:=∃vs H',Inv X pins σ H' s'/\Vals vs us/\Q vs H'
def SP (X:Cx)(pins:List (Addr×Obj))(D:Ends)(f:Flow)(s':Shared):Prop:=
 match f with
 | .next=>∃σ' H',Inv X pins σ' H' s'/\D.nx σ' H'
 | .brk=>∃σ' H',Inv X pins σ' H' s'/\D.bk σ' H'
 | .cont=>∃σ' H',Inv X pins σ' H' s'/\D.ct σ' H'
 | .ret u=>∃v σ' H',Inv X pins σ' H' s'/\RelV v u/\D.rt v H'
def PE (X:Cx)(e:Expr)(t:TE):Prop:=
 ∀(pins:List (Addr×Obj)) (s:Shared) (σ:St) (H:Hp) (Q:VK),Inv X pins σ H s->t σ H Q->wpAny (model X.prog X.w) X.A (eval e X.env) (EP X pins σ Q) X.xe s
def PT (X:Cx)(e:Expr)(t:TT):Prop:=
 ∀(pins:List (Addr×Obj)) (s:Shared) (σ:St) (H:Hp) (Q:Bool->Hp->Prop),Inv X pins σ H s->t σ H Q->wpAny (model X.prog X.w) X.A (isTrue e X.env (eval e X.env)) (TP X pins σ Q) X.xe s
def PW (X:Cx)(e:Expr)(t:TT):Prop:=
 ∀(whole:Sem Value) (pins:List (Addr×Obj)) (s:Shared) (σ:St) (H:Hp) (Q:Bool->Hp->Prop),Inv X pins σ H s->t σ H Q->wpAny (model X.prog X.w) X.A (isTrue e X.env whole) (TP X pins σ Q) X.xe s
theorem PW.pt (h:PW X e t):PT X e t:=h _
def PA (X:Cx)(es:List Expr)(t:TA):Prop:=
 ∀(pos:Pos) (pins:List (Addr×Obj)) (s:Shared) (σ:St) (H:Hp) (Q:List V->Hp->Prop),Inv X pins σ H s->t σ H Q->wpAny (model X.prog X.w) X.A (spliced (backTo pos (D6 es X.env))) (AP X pins σ Q) X.xe s
def PS (X:Cx)(st:Stmt)(t:TS):Prop:=
 ∀(pins:List (Addr×Obj)) (s:Shared) (σ:St) (H:Hp) (D:Ends),Inv X pins σ H s->t D σ H->wpAny (model X.prog X.w) X.A (exec st X.env) (SP X pins D) X.xe s
def PSs (X:Cx)(st:List Stmt)(t:TS):Prop:=
 ∀(pins:List (Addr×Obj)) (s:Shared) (σ:St) (H:Hp) (D:Ends),Inv X pins σ H s->t D σ H->wpAny (model X.prog X.w) X.A (execs st X.env) (SP X pins D) X.xe s
theorem thn {α:Type}{t:Sem α}{Q Q':α->Shared->Prop}{M:Model}{A:Around}{E:Value->Shared->Prop}{s:Shared}(h:wpAny M A t Q E s)(hQ:∀a s,Q a s->Q' a s):wpAny M A t Q' E s:=E7 h hQ fun _ _ x=>x
section
variable {X:Cx}
def tVar (i:Nat):TE:=fun σ H Q=>∃v,σ[i]?=some (some v)/\Q v H
def tC (v:V):TE:=fun _ H Q=>Q v H
theorem Ix (hN:X.N[i]?=some x)(hv:Vis X.env.scope x)(hd:(x == ("__debug__":Str))=false:=by decide)(hcd:(x == ("__classdict__":Str))=false:=by decide):PE X (.Name x pos) (tVar i):=by
 intro pins s σ H Q I h;obtain⟨v,e,h⟩:=h;obtain⟨m,hn,hl⟩:=I.loc;obtain⟨u,r,l⟩:=hl i x v hN e hv;have fin:EP X pins σ Q u s:=⟨v,H,I,r,h⟩;rcases l with⟨hk,hm⟩ | ⟨hk,c,hc,hcell⟩
 · exact wpAny_Name (wpAny_loadName_local I.ok.kind hk hn hm fin) hd
 · rcases hk with hk | hk
   · exact wpAny_Name (wpAny_loadName_cell I.ok.kind hk hc hcell fin) hd
   · exact wpAny_Name (wpAny_loadName_free I.ok.kind hk hc hcell fin hcd) hd
theorem K9 {i j pos}:PE X (.Constant (.int i) j pos) (tC (.int i)):=fun _ _ _ H _ I h=>wpAny_Constant_int ⟨.int i,H,I.tok _,⟨_,rfl⟩,h⟩
theorem pe_bl {b j pos}:PE X (.Constant (.bool b) j pos) (tC (.bl b)):=fun _ _ _ H _ I h=>Constant_bool ⟨.bl b,H,I,rfl,h⟩
theorem pe_non {j pos}:PE X (.Constant .none j pos) (tC .non):=fun _ _ _ H _ I h=>Constant_none ⟨.non,H,I,rfl,h⟩
theorem L0 {x j pos}:PE X (.Constant (.str x) j pos) (tC (.str x)):=fun _ _ _ H _ I h=>Calls.Constant_str ⟨.str x,H,I.tok _,⟨_,rfl⟩,h⟩
def Gl (X:Cx)(x:Str):Prop:=X.env.kindOf x=some .globalImplicit
theorem MP (I:Inv X pins σ H s)(hg:Gl X x)(hm:X.mg x=some u)(h:Q u s)
   (hd:(x == ("__debug__":Str))=false:=by decide):wpAny (model X.prog X.w) X.A (eval (.Name x pos) X.env) Q E s:=
 Calls.Name_function_global I.ok.kind hg (Calls.loadGlobal_global (by rw [I.ok.glob];exact I.mod.glob.keeps I.bk) hm h) hd
theorem b0 (I:Inv X pins σ H s)(hg:Gl X x)(hm:X.mg x=none)(hv:M8 x=some u)(h:Q u s)
   (hn:x≠"__name__":=by decide) (hd:(x == ("__debug__":Str))=false:=by decide):wpAny (model X.prog X.w) X.A (eval (.Name x pos) X.env) Q E s:=by
 obtain⟨mb,h1,h2⟩:=I.mod.blt;exact Calls.Name_function_global I.ok.kind hg (Calls.loadGlobal_builtin (by rw [I.ok.glob];exact I.mod.glob.keeps I.bk) hm (by rw [I.ok.blt];exact h1.keeps I.bk) ((h2 x hn).trans hv) h) hd
variable {a b:Expr}{ta tb:TE}{pos:Pos}
def tB (t:TE):TT:=fun σ H Q=>t σ H fun x H1=>∃c,x=.bl c/\Q c H1
theorem pt_val (h:PE X e t)(he:∀whole,isTrue e X.env whole=(do let v ← whole;standAt e.pos;Y8 [v] (truthy v)):=by intro _;rfl):PT X e (tB t):=by
 intro pins s σ H Q I hw;refine isTrue_plain (thn (h pins s σ H _ I hw) fun v s1 ⟨x,H1,I1,r1,q1⟩=>?_) (he _);obtain⟨d,rfl,q⟩:=q1;cases r1;exact Di ⟨H1,I1,q⟩
variable {tA tB':TT}{rest:List Expr}
def tAnd (t u:TT):TT:=fun σ H Q=>t σ H fun c H1=>if c=true then u σ H1 Q else Q false H1
def tOr (t u:TT):TT:=fun σ H Q=>t σ H fun c H1=>if c=true then Q true H1 else u σ H1 Q
def tNot (t:TT):TT:=fun σ H Q=>t σ H fun c H1=>Q (!c) H1
theorem Iy (ha:PT X a tA):PW X (.BoolOp .And [a] pos) tA:=by
 intro wh pins s σ H Q I h;refine isTrue_and (thn (ha pins s σ H Q I h) fun c s1 e=>?_);cases c with
 | true=>exact isTrue_and_nil e
 | false=>exact e
theorem pw_or1 (ha:PT X a tA):PW X (.BoolOp .Or [a] pos) tA:=by
 intro wh pins s σ H Q I h;refine isTrue_or (thn (ha pins s σ H Q I h) fun c s1 e=>?_);cases c with
 | false=>exact isTrue_or_nil e
 | true=>exact e
theorem Iz (ha:PT X a tA)(hb:PW X (.BoolOp .And (b::rest) pos) tB'):PW X (.BoolOp .And (a::b::rest) pos) (tAnd tA tB'):=by
 intro wh pins s σ H Q I h;refine isTrue_and (thn (ha pins s σ H _ I h) fun c s1 ⟨H1,I1,q1⟩=>?_);cases c with
 | true=>exact hb wh pins s1 σ H1 Q I1 q1
 | false=>exact⟨H1,I1,q1⟩
theorem pw_or (ha:PT X a tA)(hb:PW X (.BoolOp .Or (b::rest) pos) tB'):PW X (.BoolOp .Or (a::b::rest) pos) (tOr tA tB'):=by
 intro wh pins s σ H Q I h;refine isTrue_or (thn (ha pins s σ H _ I h) fun c s1 ⟨H1,I1,q1⟩=>?_);cases c with
 | true=>exact⟨H1,I1,q1⟩
 | false=>exact hb wh pins s1 σ H1 Q I1 q1
theorem pt_not (ha:PT X a tA):PT X (.UnaryOp .Not a pos) (tNot tA):=by
 intro pins s σ H Q I h;exact isTrue_not (ha pins s σ H (fun c H1=>Q (!c) H1) I h)
theorem pe_one {op}{t:TE}(h:PE X a t):PE X (.BoolOp op [a] pos) t:=fun pins s σ H Q I hw=>BoolOp_one (h pins s σ H Q I hw)
def tIf (t:TT)(ta tb:TE):TE:=fun σ H Q=>t σ H fun c H1=>if c=true then ta σ H1 Q else tb σ H1 Q
theorem MQ (hc:PT X c tA)(ha:PE X a ta)(hb:PE X b tb):PE X (.IfExp c a b pos) (tIf tA ta tb):=by
 intro pins s σ H Q I h;refine wpAny_IfExp (thn (hc pins s σ H _ I h) fun d s1 ⟨H1,I1,q1⟩=>?_);cases d with
 | true=>exact ha pins s1 σ H1 Q I1 q1
 | false=>exact hb pins s1 σ H1 Q I1 q1
end
def SqL (K:A4)(H:Hp)(a:Addr)(xs:List V):Prop:=
 Rd H a (.lst xs)\/
   ∃(o:Obj) (its:Array Value) (n:Nat),K.lookup a=some o/\o.cls=.type "list"/\o.dict=none/\o.data=.seq its n/\its.size<=B5/\Vals xs its.toList
def SqT (K:A4)(H:Hp)(a:Addr)(xs:List V):Prop:=
 Rd H a (.tup xs)\/
   ∃(o:Obj) (its:Array Value) (n:Nat),K.lookup a=some o/\o.cls=.type "tuple"/\o.data=.seq its n/\its.size<=B5/\Vals xs its.toList
def absV:Value->Option V
 | .none=>some .non
 | .bool b=>some (.bl b)
 | .int i _=>some (.int i)
 | .str x _=>some (.str x)
 | .bytes b _=>some (.byt b)
 | .float b _=>some (.flt b)
 | .ref a=>some (.ref a)
 | .type n=>some (.ty n)
 | _=>none
theorem RelV.abs {x:V}{u:Value}(r:RelV x u):absV u=some x:=by grind [RelV,V,absV]
theorem RelV.inj {x y:V}{u:Value}(r:RelV x u)(q:RelV y u):x=y:=by grind [RelV,V]
theorem Vals.inj (h:Vals xs us)(h':Vals ys us):xs=ys:=by
 induction h generalizing ys with
 | nil=>cases h';rfl
 | cons r t ih=>cases h' with | cons r' t'=>rw [r.inj r',ih t']
section
variable {X:Cx}{pins:List (Addr×Obj)}{σ:St}{H:Hp}{s:Shared}{a:Addr}{xs ys:List V}
theorem SqL.of {K:A4}(h:H a=some (.lst xs)):SqL K H a xs:=.inl (.inl h)
theorem SqT.of {K:A4}(h:H a=some (.tup xs)):SqT K H a xs:=.inl (.inl h)
theorem Inv.list (I:Inv X pins σ H s)(h:SqL X.K H a xs):∃its:List Value,Vals xs its/\PlainL s.heap a its.toArray/\xs.length<=B5:=by
 rcases h with h | ⟨o,its,n,hk,hc,hd,hs,hz,r⟩
 · obtain⟨z,its,n,r,e⟩:=h.ok I.hok;exact⟨its,r,⟨_,n,e,rfl,rfl,rfl⟩,z⟩
 · refine⟨its.toList,r,⟨o,n,I.kIn a o hk,hc,hd,by simpa using hs⟩,?_⟩;have e:=r.length;simp only [T1] at e;omega
theorem Inv.tuple (I:Inv X pins σ H s)(h:SqT X.K H a xs):∃its:List Value,Vals xs its/\IsTup s.heap a its.toArray/\xs.length<=B5:=by
 rcases h with h | ⟨o,its,n,hk,hc,hs,hz,r⟩
 · obtain⟨z,its,r,p⟩:=h.ok I.hok;exact⟨its,r,p.is,z⟩
 · refine⟨its.toList,r,⟨o,I.kIn a o hk,hc,n,by simpa using hs⟩,?_⟩;have e:=r.length;simp only [T1] at e;omega
theorem Inv.list_inj (I:Inv X pins σ H s)(h:SqL X.K H a xs)(h':SqL X.K H a ys):xs=ys:=by
 obtain⟨its,r,⟨o,n,e,_,_,d⟩,_⟩:=I.list h;obtain⟨its',r',⟨o',n',e',_,_,d'⟩,_⟩:=I.list h';rw [e] at e';cases e';rw [d] at d';injection d' with d1 _;have:its=its':=by simpa using congrArg Array.toList d1
 subst this;exact r.inj r'
theorem Inv.tuple_inj (I:Inv X pins σ H s)(h:SqT X.K H a xs)(h':SqT X.K H a ys):xs=ys:=by
 obtain⟨its,r,⟨o,e,_,n,d⟩,_⟩:=I.tuple h;obtain⟨its',r',⟨o',e',_,n',d'⟩,_⟩:=I.tuple h';rw [e] at e';cases e';rw [d] at d';injection d' with d1 _;have:its=its':=by simpa using congrArg Array.toList d1
 subst this;exact r.inj r'
end
abbrev Cx.wish (X:Cx)(E:Value->Shared->Prop):Cx:={ X with xe:=E }
abbrev Cx.nox (X:Cx):Cx:=X.wish fun _ _=>False
theorem Cx.Ok.wish {X:Cx}(ok:X.Ok)(E:Value->Shared->Prop):(X.wish E).Ok:=
 ⟨ok.mod,ok.kind,ok.glob,ok.blt,ok.above,ok.inj,ok.has,ok.cab,ok.hd,ok.frames,ok.stk,ok.exf,ok.bs,ok.bsz,ok.noex,ok.exfs,ok.funs,ok.frf,ok.nos⟩
theorem Cx.Ok.unwish {X:Cx}(ok:(X.wish E).Ok):X.Ok:=
 ⟨ok.mod,ok.kind,ok.glob,ok.blt,ok.above,ok.inj,ok.has,ok.cab,ok.hd,ok.frames,ok.stk,ok.exf,ok.bs,ok.bsz,ok.noex,ok.exfs,ok.funs,ok.frf,ok.nos⟩
section
variable {X:Cx}{pins:List (Addr×Obj)}{σ:St}{H:Hp}{s:Shared}{E:Value->Shared->Prop}
theorem Inv.wish (I:Inv X pins σ H s)(E:Value->Shared->Prop):Inv (X.wish E) pins σ H s:=⟨I.ok.wish E,I.os,I.bare,I.base,I.loc,I.cell,I.free,I.freeC,I.pin,I.hok,I.len⟩
theorem Inv.unwish (I:Inv (X.wish E) pins σ H s):Inv X pins σ H s:=⟨I.ok.unwish,I.os,I.bare,I.base,I.loc,I.cell,I.free,I.freeC,I.pin,I.hok,I.len⟩
theorem SP.unwish (h:SP (X.wish E) pins D f s'):SP X pins D f s':=by
 cases f with
 | next=>obtain⟨σ',H',I,q⟩:=h;exact⟨σ',H',I.unwish,q⟩
 | brk=>obtain⟨σ',H',I,q⟩:=h;exact⟨σ',H',I.unwish,q⟩
 | cont=>obtain⟨σ',H',I,q⟩:=h;exact⟨σ',H',I.unwish,q⟩
 | ret u=>obtain⟨v,σ',H',I,r,q⟩:=h;exact⟨v,σ',H',I.unwish,r,q⟩
theorem PSs.nox {st:List Stmt}(h:PSs X.nox st t):PSs X st t:=fun pins s σ H D I hw=>
 E7 (h pins s σ H D (I.wish _) hw) (fun _ _ q=>q.unwish) fun _ _ z=>Z8 z
end
section
variable {X:Cx}{st:Stmt}{rest:List Stmt}{t u:TS}{e:Expr}{te:TE}{pos:Pos}
def tNext:TS:=fun D σ H=>D.nx σ H
def tSeq (t u:TS):TS:=fun D σ H=>t { D with nx:=u D } σ H
theorem FQ:PSs X [] tNext:=fun _ _ σ H _ I h=>Dj ⟨σ,H,I,h⟩
theorem U9 (h1:PS X st t)(h2:PSs X rest u):PSs X (st::rest) (tSeq t u):=by
 intro pins s σ H D I h;refine wpAny_execs_cons (thn (h1 pins s σ H { D with nx:=u D } I h) fun f s1 q=>?_);cases f with
 | next =>
   obtain⟨σ',H',I',q⟩:=q;exact h2 pins s1 σ' H' D I' q
 | ret v=>exact q
 | brk=>exact q
 | cont=>exact q
theorem AX (h1:PS X st t):PSs X [st] t:=by
 intro pins s σ H D I h;refine wpAny_execs_cons (thn (h1 pins s σ H D I h) fun f s1 q=>?_);cases f with
 | next=>exact Dj q
 | ret v=>exact q
 | brk=>exact q
 | cont=>exact q
theorem Inv.quiet (I:Inv X pins σ H s):interactive X.env=false:=by simp [interactive,I.ok.kind]
def Cb (te:TE):TS:=fun D σ H=>te σ H fun _ H1=>D.nx σ H1
theorem MR (he:PE X e te)(hs:Y7 e none pos.line X.env=pure false:=by rfl):PS X (.Expr e pos) (Cb te):=by
 intro pins s σ H D I h;exact wpAny_Expr_any (thn (he pins s σ H _ I h) fun v s1 ⟨x,H1,I1,r1,q1⟩=>⟨σ,H1,I1,q1⟩) I.quiet hs
def tRet (te:TE):TS:=fun D σ H=>te σ H D.rt
theorem AY (he:PE X e te):PS X (.Return (some e) pos) (tRet te):=by
 intro pins s σ H D I h;exact wpAny_Return_some (thn (he pins s σ H _ I h) fun v s1 ⟨x,H1,I1,r1,q1⟩=>⟨x,σ,H1,I1,r1,q1⟩)
def tIfS (c:TT)(t u:TS):TS:=fun D σ H=>c σ H fun b H1=>if b=true then t D σ H1 else u D σ H1
theorem FR (hc:PT X c tc)(ha:PSs X a t)(hb:PSs X b u):PS X (.If c a b pos) (tIfS tc t u):=by
 intro pins s σ H D I h;refine wpAny_If (thn (hc pins s σ H _ I h) fun d s1 ⟨H1,I1,q1⟩=>?_);cases d with
 | true=>exact ha pins s1 σ H1 D I1 q1
 | false=>exact hb pins s1 σ H1 D I1 q1
end
abbrev TG:=V->St->Hp->(St->Hp->Prop)->Prop
abbrev TGs:=List V->St->Hp->(St->Hp->Prop)->Prop
def PG (X:Cx)(target:Expr)(t:TG):Prop:=
 ∀ (pins : List (Addr × Obj)) (s : Shared) (σ : St) (H : Hp) (v : V) (u : Value) (Q : St -> Hp -> Prop), Inv X pins σ H s -> RelV v u -> t v σ H Q ->
   wpAny (model X.prog X.w) X.A (assign target X.env u) (fun _ s'=>∃σ' H',Inv X pins σ' H' s'/\Q σ' H') X.xe s
def PGs (X:Cx)(ts:List Expr)(t:TGs):Prop:=
 ∀ (pins : List (Addr × Obj)) (s : Shared) (σ : St) (H : Hp) (vs : List V) (us : List Value) (Q : St -> Hp -> Prop), Inv X pins σ H s -> Vals vs us -> t vs σ H Q ->
   wpAny (model X.prog X.w) X.A (assignInOrder ((F5 ts X.env).map (·.2)) us) (fun _ s'=>∃σ' H',Inv X pins σ' H' s'/\Q σ' H') X.xe s
abbrev TSet:=V->V->V->Hp->(Hp->Prop)->Prop
def PSet (X:Cx)(t:TSet):Prop:=
 ∀ (pins : List (Addr × Obj)) (s : Shared) (σ : St) (H : Hp) (o i v : V) (ov iv u : Value) (Q : Hp -> Prop), Inv X pins σ H s -> RelV o ov -> RelV i iv -> RelV v u -> t o i v H Q ->
   wpAny (model X.prog X.w) X.A (setItem ov iv u) (fun _ s'=>∃H',Inv X pins σ H' s'/\Q H') X.xe s
section
variable {X:Cx}{pos:Pos}
def K6 (i:Nat):TG:=fun v σ H Q=>Q (σ.set i (some v)) H
theorem MS (hN:X.N.Nodup)(hi:X.N[i]?=some x)(hx:Loc X.env.scope x)(hf:X.fn x=true\/X.env.scope.names.lookup x=some .local:=by first | exact .inl rfl | exact .inr rfl | assumption):PG X (.Name x pos) (K6 i):=by
 intro pins s σ H v u Q I r h;exact wpAny_assign_Name (DW I hN hi hx r (fun s' I'=>⟨_,H,I',h⟩) hf)
def gNil:TGs:=fun vs σ H Q=>vs=[]/\Q σ H
def X6 (t:TG)(u:TGs):TGs:=fun vs σ H Q=>∃v r,vs=v::r/\t v σ H fun σ' H'=>u r σ' H' Q
theorem DX:PGs X [] gNil:=by
 intro pins s σ H vs us Q I r h;obtain⟨e,h⟩:=h;subst e;cases r;exact assignInOrder_nil ⟨σ,H,I,h⟩
theorem AZ (h1:PG X e t)(h2:PGs X es u)
   (hs:(F5 (e::es) X.env).map (·.2)=assign e X.env::(F5 es X.env).map (·.2):=by rfl):PGs X (e::es) (X6 t u):=by
 intro pins s σ H vs us Q I r h;obtain⟨v,vr,e1,h⟩:=h;subst e1;cases r with
 | cons r rr =>
   rw [hs];refine assignInOrder_cons (thn (h1 pins s σ H _ _ _ I r h) fun _ s1 ⟨σ1,H1,I1,q1⟩=>?_);exact h2 pins s1 σ1 H1 _ _ Q I1 rr q1
def gTup (K:A4)(n:Nat)(t:TGs):TG:=fun v σ H Q=>∃a xs,v=.ref a/\SqT K H a xs/\xs.length=n/\t xs σ H Q
theorem DY (hc:X.calm=true)(h:PGs X es t)
   (hn:(F5 es X.env).length=n:=by rfl) (hst:(F5 es X.env).findIdx? (·.1)=none:=by rfl):PG X (.Tuple es k pos) (gTup X.K n t):=by
 intro pins s σ H v u Q I r hw;obtain⟨a,xs,e1,hq,hl,hw⟩:=hw;subst e1;cases r;obtain⟨its,rv,ht,hz⟩:=I.tuple hq;refine assign_Tuple_tuple (I.ok.hd hc) ht (by simp [hn,<- hl,rv.length]) hst fun h' hx=>?_;have I1:Inv X pins σ H { s with heap:=h' }:=I.kept (t':=s.toks) fun b o e=>hx b o (C3 (C0 e)) e;exact h pins _ σ H xs _ Q I1 (by simpa using rv) hw
def gSub (to ti:TE)(t:TSet):TG:=fun v σ H Q=>to σ H fun o H1=>ti σ H1 fun i H2=>t o i v H2 fun H3=>Q σ H3
theorem pg_sub (ho:PE X o to)(hi:PE X i ti)(hs:PSet X t)
   (ha:∀v,assign (.Subscript o i pos) X.env v=(do
     let ov ← Y8 [v] (eval o X.env)
     let iv ← Y8 [v,ov] (eval i X.env)
     standAt pos
     Y8 [v,ov,iv] (setItem ov iv v)
     release [v,ov,iv] []):=by intro _;rfl):PG X (.Subscript o i pos) (gSub to ti t):=by
 intro pins s σ H v u Q I r h;rw [ha];refine A0 (M7 (thn (ho pins s σ H _ I h) fun ov s1 ⟨x,H1,I1,r1,q1⟩=>?_));refine A0 (M7 (thn (hi pins s1 σ H1 _ I1 q1) fun iv s2 ⟨y,H2,I2,r2,q2⟩=>?_));refine A0 (U2 (A0 (M7 (thn (hs pins s2 σ H2 x y v ov iv u _ I2 r1 r2 r q2) fun _ s3 ⟨H3,I3,q3⟩=>?_))));exact wpAny_release ⟨σ,H3,I3,q3⟩
def tAsg (te:TE)(g:TG):TS:=fun D σ H=>te σ H fun x H1=>g x σ H1 D.nx
theorem ps_asg (he:PE X e te)(hg:PG X tg g)(hs:swapsWithSole [tg] e pos.line X.env=pure false:=by rfl)(hw:swappedStores [tg] e X.env=pure none:=by rfl)
   (h1:(F5 [tg] X.env).map (·.2)=[assign tg X.env]:=by rfl):PS X (.Assign [tg] e pos) (tAsg te g):=by
 intro pins s σ H D I h;refine wpAny_Assign_stores (thn (he pins s σ H _ I h) fun v s1 ⟨x,H1,I1,r1,q1⟩=>?_) hs hw;rw [h1];exact thn (hg pins s1 σ H1 x v _ I1 r1 q1) fun _ s2 q=>q
theorem FS (hN:X.N.Nodup)(hi:X.N[i]?=some x)(hx:Loc X.env.scope x)(he:PE X e te)(hs:Y7 e (some (.Name x pos')) pos.line X.env=pure false:=by rfl)(hf:X.fn x=true\/X.env.scope.names.lookup x=some .local:=by first | exact .inl rfl | exact .inr rfl | assumption) :
   PS X (.Assign [.Name x pos'] e pos) (tAsg te (K6 i)):=by
 intro pins s σ H D I h;refine wpAny_Assign_Name (thn (he pins s σ H _ I h) fun v s1 ⟨y,H1,I1,r1,q1⟩=>?_) hs;exact DW I1 hN hi hx r1 (fun s2 I2=>⟨_,H1,I2,q1⟩) hf
def tPar (i j:Nat)(ta:TA):TS:=fun D σ H=>ta σ H fun vs H1=>∃v w,vs=[v,w]/\D.nx ((σ.set i (some v)).set j (some w)) H1
theorem ps_par {i j:Nat}{x y:Str}{a b:Expr}{ta:TA}{px py pt:Pos}{kt k2 pt2}(hc:X.calm=true)(hN:X.N.Nodup)(hi:X.N[i]?=some x)(hj:X.N[j]?=some y)(hij:i≠j)
   (hx:X.env.scope.names.lookup x=some .local) (hy:X.env.scope.names.lookup y=some .local) (ha:PA X [a,b] ta)
   (hw:swappedStores [.Tuple [.Name x px,.Name y py] kt pt] (.Tuple [a,b] k2 pt2) X.env=pure (some [x,y]))
   (hs:swapsWithSole [.Tuple [.Name x px,.Name y py] kt pt] (.Tuple [a,b] k2 pt2) pos.line X.env=pure false:=by rfl) :
   PS X (.Assign [.Tuple [.Name x px,.Name y py] kt pt] (.Tuple [a,b] k2 pt2) pos) (tPar i j ta):=by
 intro pins s σ H D I h;rw [exec_Assign_arm];refine A0 (U2 ?_);rw [hs];refine A0 (A5 ?_);rw [if_neg (by decide)];refine A0 (Tuple_ (thn (ha _ pins s σ H _ I h) fun us s1 ⟨vs,H1,I1,r1,q1⟩=>?_));obtain⟨v,w,e1,q1⟩:=q1;subst e1
 obtain⟨u1,u2,rfl,rv,rw'⟩:∃u1 u2,us=[u1,u2]/\RelV v u1/\RelV w u2:=by
   cases r1 with
   | cons p q =>
     cases q with
     | cons p' q' =>
       cases q';exact⟨_,_,rfl,p,p'⟩
 refine O6 ?_ (by show 2<=B5;decide);have I2:Inv X pins σ H1 { s1 with heap:=s1.heap.push { cls:=.type "tuple",data:=.seq [u1,u2].toArray } }:=I1.kept (t':=s1.toks) fun b o e=>B7 _ e;rw [hw];refine A0 (A5 ?_);show wpAny (model X.prog X.w) X.A (do rule "assign.swapped-stores";let items ← unpackItems (.ref s1.heap.objs.size) 2 none;assignInOrder [fun v=>bindName X.env y v,fun v=>bindName X.env x v] items.reverse;pure Flow.next) _ _ _;refine A0 (e6 (A0 (unpackItems_tuple (items:=#[u1,u2]) (I.ok.hd hc) (IsTup.new s1.heap _) fun h' hx'=>?_)));have I3:=I2.kept (h':=h') (t':=s1.toks) fun b o e=>hx' b o (C3 (C0 e)) e;show wpAny _ _ (assignInOrder [fun v=>bindName X.env y v,fun v=>bindName X.env x v] [u2,u1]>>=fun _=>pure Flow.next) _ _ _;refine A0 (assignInOrder_cons (wpAny_bindName (DW I3 hN hj (.inl hy) rw' (fun s2 I4=>?_) (.inr hy))));refine assignInOrder_cons (wpAny_bindName (DW I4 hN hi (.inl hx) rv (fun s3 I5=>assignInOrder_nil (A5 ?_)) (.inr hx)));rw [List.set_comm _ _ (Ne.symm hij)] at I5;exact⟨_,H1,I5,q1⟩
end
section
variable {X:Cx}{pos:Pos}
def tWhile (c:TT)(tb:TS):TS:=fun D σ H=>∃W:Nat->St->Hp->Prop,(∃m,W m σ H)/\∀m σ H,W m σ H->
 c σ H fun b H1=>if b=true then ∃N:St->Hp->Prop,(∀σ' H',N σ' H'->∃m',m' < m/\W m' σ' H')/\tb { D with nx:=N,ct:=N,bk:=D.nx } σ H1 else D.nx σ H1
theorem MT (hp:PassesOwn (model X.prog X.w) X.A X.env X.xe)(hc:PT X c tc)(hb:PSs X body tb):PS X (.While c body [] pos) (tWhile tc tb):=by
 intro pins s σ H D I h;obtain⟨W,⟨m0,w0⟩,turn⟩:=h;refine wpAny_While (codeAny_whileLoop (fun n s'=>∃σ' H',Inv X pins σ' H' s'/\W n σ' H') ?_ m0 ⟨σ,H,I,w0⟩);rintro n s1 ⟨σ1,H1,I1,w1⟩;refine u9 hp (thn (hc pins s1 σ1 H1 _ I1 (turn n σ1 H1 w1)) fun b s2 ⟨H2,I2,q2⟩=>?_);cases b with
 | true =>
   obtain⟨N,hN,q2⟩:=q2;rw [if_pos rfl];refine u9 hp (thn (hb pins s2 σ1 H2 _ I2 q2) fun f s3 q3=>?_);cases f with
   | next =>
     obtain⟨σ3,H3,I3,n3⟩:=q3;obtain⟨m',hm,w3⟩:=hN σ3 H3 n3;exact⟨m',hm,σ3,H3,I3,w3⟩
   | cont =>
     obtain⟨σ3,H3,I3,n3⟩:=q3;obtain⟨m',hm,w3⟩:=hN σ3 H3 n3;exact⟨m',hm,σ3,H3,I3,w3⟩
   | brk=>exact q3
   | ret v=>exact q3
 | false =>
   rw [if_neg N5];exact Dj ⟨σ1,H2,I2,q2⟩
end
structure It where
 go:Nat->Hp->Prop
 yld:Nat->Hp->V->Hp->Prop
 stop:Nat->Hp->Prop
def FpOk (X:Cx)(pins:List (Addr×Obj))(H:Hp)(b:Addr):Prop:=
 H b=none/\b≠X.env.locals/\b∉X.fs/\(b∈X.ex\/X.s₀.heap.objs.size<=b)/\(∀x c,X.env.cells.lookup x=some c->c≠b)/\∀p∈X.pn++pins,p.1≠b
theorem Inv.fpOk (I:Inv X pins σ H s)(hb:s.heap.objs.size<=b)(hn:H' b=none):FpOk X pins H' b:=by
 refine⟨hn,i5 (K1 I.lt hb),I.nofs hb,.inr (K5 I.sz hb),fun x c e z=>?_,fun p hp z=>?_⟩
 · obtain⟨v,q⟩:=I.cell x c e;exact absurd (K1 q.lt (by rw [z];exact hb)) (Z2 _)
 · exact absurd (K1 (C0 (I.pin p hp).1) (by rw [z];exact hb)) (Z2 _)
structure Turn (P:C5)(w:World)(K:A4)(tg:Expr)(J:It)(fp:List Addr)(it:Addr)(tn:Nat->Heap->Prop):Prop where
 mem:it∈fp
 obj:∀i h,tn i h->∀b∈fp,∃o,h.get? b=some o/\∀v,o.data≠.cell v
 keep:∀i h h',tn i h->(∀b∈fp,∀o,h.get? b=some o->h'.get? b=some o)->tn i h'
 item:∀(X:Cx),X.prog=P->X.w=w->X.K=K->X.calm=true->∀(i:Nat) (pins:List (Addr×Obj)) (s:Shared) (σ:St) (H:Hp) (E:Value->Shared->Prop),Inv X pins σ H s->(∀b∈fp,FpOk X pins H b)->tn i s.heap->J.go i H->
   wpAny (model P w) X.A (pyNext (.ref it)) (fun r s1=>∃u,r=some u/\
     wpAny (model P w) X.A (d9 tg (.ref it) u) (fun _ s2=>∃x H',Inv X pins σ H' s2/\RelV x u/\J.yld i H x H'/\tn (i + 1) s2.heap/\∀b∈fp,H' b=none) E s1) E s
 done:∀(X:Cx),X.prog=P->X.w=w->X.K=K->X.calm=true->∀(i:Nat) (pins:List (Addr×Obj)) (s:Shared) (σ:St) (H:Hp) (E:Value->Shared->Prop),Inv X pins σ H s->(∀b∈fp,FpOk X pins H b)->tn i s.heap->J.stop i H->
   wpAny (model P w) X.A (pyNext (.ref it)) (fun r s1=>r=none/\Inv X pins σ H s1) E s
 self:∀(A:Around) (i:Nat) (s:Shared) (Q:Value->Shared->Prop) (E:Value->Shared->Prop),tn i s.heap->Q (.ref it) s->wpAny (model P w) A (pyIter (.ref it)) Q E s
abbrev TI:=St->Hp->(It->Hp->Prop)->Prop
def PIE (X:Cx)(pins:List (Addr×Obj))(σ:St)(tg:Expr)(R:It->Hp->Prop)(itv:Value)(s2:Shared):Prop:=
 ∃(it:Addr) (fp:List Addr) (tn:Nat->Heap->Prop) (J:It) (H':Hp),itv=.ref it/\Inv X pins σ H' s2/\Turn X.prog X.w X.K tg J fp it tn/\tn 0 s2.heap/\(∀b∈fp,FpOk X pins H' b)/\R J H'
def PI (X:Cx)(tg iter:Expr)(wi:TI):Prop:=
 ∀ (pins : List (Addr × Obj)) (s : Shared) (σ : St) (H : Hp) (R : It -> Hp -> Prop), Inv X pins σ H s -> wi σ H R ->
   wpAny (model X.prog X.w) X.A (eval iter X.env) (fun v s1=>wpAny (model X.prog X.w) X.A (pyIter v) (PIE X pins σ tg R) X.xe s1) X.xe s
theorem DZ (ho:s.heap.get? it=some o)(hc:o.cls=.type n)(hd:o.data=.fields vs)
   (hn:["enumerate","zip","dict_itemiterator","dict_reverseitemiterator","odict_iterator","itertools.zip_longest","itertools.pairwise"].contains n=false) (hQ:Q () s):wpAny M A (d9 tg (.ref it) u) Q E s:=by
 unfold d9
 cases tg <;> first
   | exact A5 hQ
   | (cases u <;> first
       | exact A5 hQ
       | (refine A0 (wpAny_load ho ?_)
          rw [hc,hd];show wpAny M A (if(["enumerate","zip","dict_itemiterator","dict_reverseitemiterator","odict_iterator","itertools.zip_longest","itertools.pairwise"].contains n && vs[0]? == some (rawInt _))=true then _ else _) Q E s;rw [if_neg (by intro h;rw [hn,Bool.false_and] at h;cases h)]
          exact A5 hQ))
def Itl (K:A4)(a:Addr):It:=
 ⟨fun i H=>∃xs x,SqL K H a xs/\xs[i]?=some x,fun i H x H'=>H'=H/\∀xs,SqL K H a xs->xs[i]?=some x,fun i H=>∃xs,SqL K H a xs/\xs.length<=i⟩
def Itt (K:A4)(a:Addr):It:=
 ⟨fun i H=>∃xs x,SqT K H a xs/\xs[i]?=some x,fun i H x H'=>H'=H/\∀xs,SqT K H a xs->xs[i]?=some x,fun i H=>∃xs,SqT K H a xs/\xs.length<=i⟩
def Itr (lo:Int)(n:Nat):It:=⟨fun i _=>i < n,fun i H x H'=>H'=H/\x=.int (lo + i),fun i _=>n<=i⟩
theorem MU {K:A4}(a it:Addr):Turn P w K tg (Itl K a) [it] it (fun i h=>h.IsListIter it a i) where
 mem:=by simp
 obj:=fun i h st b hb=>by
   have e:b=it:=by simpa using hb
   subst e;obtain⟨o,e,c,d⟩:=st;exact⟨o,e,fun v z=>by rw [d] at z;cases z⟩
 keep:=fun i h h' st k=>st.at fun o e=>k it (by simp) o e
 item:=by
   intro X hP hw hK hc i pins s σ H E I hf st hg;subst hP hw hK;obtain⟨xs,x,hq,hx⟩:=hg;obtain⟨its,rv,p,hz⟩:=I.list hq;obtain⟨u,hu,ru⟩:=rv.get hx;obtain⟨f0,f1,f2,f3,f4,f5⟩:=hf it (by simp);refine wpAny_pyNext_list_item st p.isList (x:=u) (by simpa using hu) fun h' st' sb=>?_;have I1:Inv X pins σ H { s with heap:=h' }:=I.turned (t':=s.toks) (fun b o hb e=>(sb.2 b hb).trans e) f0 f1 f3 f4 f5;obtain⟨o,e,c,d⟩:=id st';exact⟨u,rfl,DZ (s:={ s with heap:=h' }) e c d (by decide) ⟨x,H,I1,ru,⟨rfl,fun ys hy=>by rw [I.list_inj hy hq];exact hx⟩,st',fun b hb=>(hf b hb).1⟩⟩
 done:=by
   intro X hP hw hK hc i pins s σ H E I hf st hg;subst hP hw hK;obtain⟨xs,hq,hx⟩:=hg;obtain⟨its,rv,p,hz⟩:=I.list hq;obtain⟨f0,f1,f2,f3,f4,f5⟩:=hf it (by simp);have hl:=rv.length;exact wpAny_pyNext_list_end (I.ok.hd hc) st p.isList (by simp;omega) fun h' eb=>⟨rfl,I.turned (t':=s.toks) (fun b o hb e=>eb b o hb e) f0 f1 f3 f4 f5⟩
 self:=fun _ _ _ _ _ st h=>wpAny_pyIter_listiter st h
theorem MV {K:A4}(a it:Addr):Turn P w K tg (Itt K a) [it] it (fun i h=>h.IsTupleIter it a i) where
 mem:=by simp
 obj:=fun i h st b hb=>by
   have e:b=it:=by simpa using hb
   subst e;obtain⟨o,e,c,d⟩:=st;exact⟨o,e,fun v z=>by rw [d] at z;cases z⟩
 keep:=fun i h h' st k=>st.at fun o e=>k it (by simp) o e
 item:=by
   intro X hP hw hK hc i pins s σ H E I hf st hg;subst hP hw hK;obtain⟨xs,x,hq,hx⟩:=hg;obtain⟨its,rv,p,hz⟩:=I.tuple hq;obtain⟨u,hu,ru⟩:=rv.get hx;obtain⟨f0,f1,f2,f3,f4,f5⟩:=hf it (by simp);refine wpAny_pyNext_tuple_item st (show s.heap.IsTuple a its.toArray from p) (x:=u) (by simpa using hu) fun h' st' sb=>?_;have I1:Inv X pins σ H { s with heap:=h' }:=I.turned (t':=s.toks) (fun b o hb e=>(sb.2 b hb).trans e) f0 f1 f3 f4 f5;obtain⟨o,e,c,d⟩:=id st';exact⟨u,rfl,DZ (s:={ s with heap:=h' }) e c d (by decide) ⟨x,H,I1,ru,⟨rfl,fun ys hy=>by rw [I.tuple_inj hy hq];exact hx⟩,st',fun b hb=>(hf b hb).1⟩⟩
 done:=by
   intro X hP hw hK hc i pins s σ H E I hf st hg;subst hP hw hK;obtain⟨xs,hq,hx⟩:=hg;obtain⟨its,rv,p,hz⟩:=I.tuple hq;obtain⟨f0,f1,f2,f3,f4,f5⟩:=hf it (by simp);have hl:=rv.length;exact wpAny_pyNext_tuple_end (I.ok.hd hc) st (show s.heap.IsTuple a its.toArray from p) (by simp;omega) fun h' eb=>⟨rfl,I.turned (t':=s.toks) (fun b o hb e=>eb b o hb e) f0 f1 f3 f4 f5⟩
 self:=fun _ _ _ _ _ st h=>wpAny_pyIter_tupleiter st h
theorem MW {K:A4}(it:Addr)(lo:Int)(n:Nat):Turn P w K tg (Itr lo n) [it] it (fun i h=>IsRangeIter h it (lo + (i:Nat) * 1) ((n:Int) - (i:Nat)) 1) where
 mem:=by simp
 obj:=fun i h st b hb=>by
   have e:b=it:=by simpa using hb
   subst e
   exact⟨_,st,fun v z=>by
     have z':Data.fields _=Data.cell v:=z
     cases z'⟩
 keep:=fun i h h' st k=>k it (by simp) _ st
 item:=by
   intro X hP hw hK hc i pins s σ H E I hf st hg;subst hP hw hK;obtain⟨f0,f1,f2,f3,f4,f5⟩:=hf it (by simp);have W:=Walks.range (prog:=X.prog) (w:=X.w) (I.ok.hd hc) it lo 1 n;refine W.item i s _ _ hg st fun v h' tk hv st' kk=>?_;obtain⟨t,rfl⟩:=hv;have I1:Inv X pins σ H { s with heap:=h',toks:=tk }:=I.turned (fun b o hb e=>kk b o (by simpa using hb) e) f0 f1 f3 f4 f5;refine⟨_,rfl,DZ (s:={ s with heap:=h',toks:=tk }) (n:="range_iterator") st' rfl rfl (by decide) ⟨.int (lo + i),H,I1,⟨t,?_⟩,⟨rfl,rfl⟩,st',fun b hb=>(hf b hb).1⟩⟩;rw [Int.mul_one]
 done:=by
   intro X hP hw hK hc i pins s σ H E I hf st hg;subst hP hw hK;obtain⟨f0,f1,f2,f3,f4,f5⟩:=hf it (by simp);exact wpAny_pyNext_range_end (I.ok.hd hc) st (by have:n<=i:=hg;omega) fun h' eb=>⟨rfl,I.turned (t':=s.toks) (fun b o hb e=>eb b o hb e) f0 f1 f3 f4 f5⟩
 self:=fun _ _ _ _ _ st h=>Fv st h
section
variable {X:Cx}{tg:Expr}
def iList (K:A4)(tl:TE):TI:=fun σ H R=>tl σ H fun x H1=>∃a,x=.ref a/\(∃xs,SqL K H1 a xs)/\R (Itl K a) H1
def iTup (K:A4)(tl:TE):TI:=fun σ H R=>tl σ H fun x H1=>∃a,x=.ref a/\(∃xs,SqT K H1 a xs)/\R (Itt K a) H1
theorem MX (hl:PE X l tl):PI X tg l (iList X.K tl):=by
 intro pins s σ H R I h;refine thn (hl pins s σ H _ I h) fun v s1 ⟨x,H1,I1,r1,q1⟩=>?_;obtain⟨a,e,⟨xs,hq⟩,q⟩:=q1;subst e;cases r1;obtain⟨its,rv,p,hz⟩:=I1.list hq;refine BD p.isList ?_;refine⟨s1.heap.objs.size,[s1.heap.objs.size],_,_,H1,rfl,I1.kept (t':=s1.toks) fun b o e=>B7 _ e,MU a _,⟨_,F3 _ rfl,rfl,rfl⟩,fun b hb=>?_,q⟩;have e:b=s1.heap.objs.size:=by simpa using hb
 subst e;exact I1.fpOk (B4 _) (I1.hok.fresh (B4 _))
theorem pi_tup (hl:PE X l tl):PI X tg l (iTup X.K tl):=by
 intro pins s σ H R I h;refine thn (hl pins s σ H _ I h) fun v s1 ⟨x,H1,I1,r1,q1⟩=>?_;obtain⟨a,e,⟨xs,hq⟩,q⟩:=q1;subst e;cases r1;obtain⟨its,rv,p,hz⟩:=I1.tuple hq;refine As (show s1.heap.IsTuple a its.toArray from p) ?_;refine⟨s1.heap.objs.size,[s1.heap.objs.size],_,_,H1,rfl,I1.kept (t':=s1.toks) fun b o e=>B7 _ e,MV a _,⟨_,F3 _ rfl,rfl,rfl⟩,fun b hb=>?_,q⟩;have e:b=s1.heap.objs.size:=by simpa using hb
 subst e;exact I1.fpOk (B4 _) (I1.hok.fresh (B4 _))
theorem MY {lo hi:Int}(I:Inv X pins σ H s)(h1:-(2 ^ 62)<=lo)(h2:lo < 2 ^ 62)(h3:-(2 ^ 62)<=hi)(h4:hi < 2 ^ 62)
   (q:R (Itr lo (hi - lo).toNat) H):wpAny (model X.prog X.w) X.A (pyIter (.ref s.heap.objs.size)) (PIE X pins σ tg R) E { s with heap:=s.heap.push { cls:=.type "range",data:=.fields #[.int lo t,.int hi u,.int 1 v] },toks:=tk }:=by
 refine wpAny_pyIter_range (IsRange.new ..) (small_one h1 h2 h3 h4) ?_;have I1:Inv X pins σ H { s with heap:=s.heap.push { cls:=.type "range",data:=.fields #[.int lo t,.int hi u,.int 1 v] },toks:=tk }:=I.kept fun b o e=>B7 _ e
 refine⟨(s.heap.push { cls:=.type "range",data:=.fields #[.int lo t,.int hi u,.int 1 v] }).objs.size,[(s.heap.push { cls:=.type "range",data:=.fields #[.int lo t,.int hi u,.int 1 v] }).objs.size],_,_,H,rfl,
   I1.kept (t':=tk) fun b o e=>B7 _ e,MW _ lo (hi - lo).toNat,?_,fun b hb=>?_,q⟩
 · have e1:lo + ((0:Nat):Int) * 1=lo:=by simp
   have e2:(((hi - lo).toNat:Nat):Int) - ((0:Nat):Int)=AK lo hi 1:=by rw [rangeSize_one];split <;> omega
   show IsRangeIter _ _ (lo + ((0:Nat):Int) * 1) ((((hi - lo).toNat:Nat):Int) - ((0:Nat):Int)) 1;rw [e1,e2];exact F3 _ rfl
 · have e:b=(s.heap.push { cls:=.type "range",data:=.fields #[.int lo t,.int hi u,.int 1 v] }).objs.size:=by simpa using hb
   subst e;exact I1.fpOk (B4 _) (I1.hok.fresh (B4 _))
def iRng1 (ta:TA):TI:=fun σ H R=>ta σ H fun vs H1=>∃j:Int,vs=[.int j]/\-(2 ^ 62)<=j/\j < 2 ^ 62/\R (Itr 0 j.toNat) H1
theorem MZ (hg:Gl X "range")(hm:X.mg "range"=none)(ha:PA X [a] ta)(hs:D6 [a] X.env=[(false,eval a X.env)]:=by rfl):PI X tg (.Call (.Name "range" p) [a] [] pos) (iRng1 ta):=by
 intro pins s σ H R I h;refine Call_ (b0 I hg hm boot_range (o0 (thn (ha pos pins s σ H _ I h) fun us s1 ⟨vs,H1,I1,r1,q1⟩=>?_) hs rfl));obtain⟨j,e,q1,q2,q⟩:=q1;subst e;cases r1 with
 | cons r rr =>
   cases rr;obtain⟨t,rfl⟩:=r;exact call_range_1 (MY I1 (by omega) (by omega) q1 q2 (by simpa using q))
def tFor (wi:TI)(g:TG)(tb:TS):TS:=fun D σ H=>wi σ H fun J H1=>∃W:Nat->Nat->St->Hp->Prop,(∃m,W 0 m σ H1)/\∀i m σ H,W i m σ H->
 (J.stop i H/\D.nx σ H)\/(J.go i H/\∃N:St->Hp->Prop,(∀σ' H',N σ' H'->∃m',m' < m/\W (i + 1) m' σ' H')/\∀x H',J.yld i H x H'->g x σ H' fun σ2 H2=>tb { D with nx:=N,ct:=N,bk:=D.nx } σ2 H2)
def x6 (fp:List Addr)(h:Heap):List (Addr×Obj):=fp.filterMap fun b=>(h.get? b).map fun o=>(b,o)
theorem Cc (hb:b∈fp)(e:h.get? b=some o):(b,o)∈x6 fp h:=List.mem_filterMap.mpr ⟨b,hb,by rw [e];rfl⟩
theorem M_ (hp:p∈x6 fp h):p.1∈fp/\h.get? p.1=some p.2:=by
 obtain⟨b,hb,e⟩:=List.mem_filterMap.mp hp;cases q:h.get? b with
 | none=>rw [q] at e;cases e
 | some o =>
   rw [q] at e;have e':(b,o)=p:=N0 e;subst e';exact⟨hb,q⟩
theorem Inv.pinned (I:Inv X pins σ H s)(hf:∀b∈fp,FpOk X pins H b)(ho:∀b∈fp,∃o,s.heap.get? b=some o/\∀v,o.data≠.cell v):Inv X (pins++x6 fp s.heap) σ H s:=
 I.pins_of fun p hp=>(K8.mp hp).elim (fun z=>I.pin p (G4 _ z)) fun z=>by
   obtain⟨hb,e⟩:=M_ z;obtain⟨f0,f1,f2,_⟩:=hf p.1 hb;obtain⟨o,e',d⟩:=ho p.1 hb;rw [e] at e';cases e';exact⟨e,f0,f1,f2,d⟩
theorem Inv.unpinned (I:Inv X (pins++pl) σ H s):Inv X pins σ H s:=I.pins_of fun p hp=>I.pin p (G4 _ (U7 _ hp))
theorem IA (hp:PassesOwn (model X.prog X.w) X.A X.env X.xe)(hc:X.calm=true)(hi:PI X tg iter wi)(hg:PG X tg g)(hb:PSs X body tb)
   (hs:∀x,P1 iter X.env x=pure x:=by intro _;rfl):PS X (.For tg iter body [] pos) (tFor wi g tb):=by
 intro pins s σ H D I h;refine wpAny_For (thn (hi pins s σ H _ I h) fun v s1 h1=>thn h1 fun itv s2 h2=>?_) hs;obtain⟨it,fp,tn,J,H2,e,I2,T,st2,f2,W,⟨m0,w0⟩,turn⟩:=h2;subst e
 -- what stays true of the iterator's objects through the loop
 have stat:∀{H':Hp},(∀b∈fp,H' b=none)->∀b∈fp,FpOk X pins H' b:=fun hn b hb=>⟨hn b hb,(f2 b hb).2⟩;refine codeAny_forLoop_any (fun n s'=>∃i σ' H',Inv X pins σ' H' s'/\tn i s'.heap/\(∀b∈fp,H' b=none)/\W i n σ' H') ?_ m0 ⟨0,σ,H2,I2,st2,fun b hb=>(f2 b hb).1,w0⟩;rintro n s3 ⟨i,σ3,H3,I3,st3,fr3,w3⟩;rcases turn i n σ3 H3 w3 with⟨stop,qn⟩ | ⟨go,N,hN,step⟩
 · refine u9 hp (thn (T.done X rfl rfl rfl hc i pins s3 σ3 H3 X.xe I3 (stat fr3) st3 stop) fun r s4 ⟨hr,I4⟩=>?_);subst hr;exact Dj ⟨σ3,H3,I4,qn⟩
 · refine u9 hp (thn (T.item X rfl rfl rfl hc i pins s3 σ3 H3 X.xe I3 (stat fr3) st3 go) fun r s4 ⟨u,hr,h4⟩=>?_);subst hr;refine u9 hp (thn h4 fun _ s5 ⟨x,H5,I5,r5,y5,st5,fr5⟩=>?_);have I5':=I5.pinned (stat fr5) (T.obj _ _ st5);refine u9 hp (thn (hg _ s5 σ3 H5 x u _ I5' r5 (step x H5 y5)) fun _ s6 ⟨σ6,H6,I6,q6⟩=>?_);refine u9 hp (thn (hb _ s6 σ6 H6 _ I6 q6) fun f s7 q7=>?_)
   have again:∀{σ7:St} {H7:Hp},Inv X (pins++x6 fp s5.heap) σ7 H7 s7->N σ7 H7->∃m,m < n/\∃i σ' H',Inv X pins σ' H' s7/\tn i s7.heap/\(∀b∈fp,H' b=none)/\W i m σ' H':=fun {σ7 H7} I7 n7=>by
     obtain⟨m',hm,w7⟩:=hN σ7 H7 n7;refine⟨m',hm,i + 1,σ7,H7,I7.unpinned,T.keep _ _ _ st5 fun b hb o e=>(I7.pin (b,o) (G4 _ (G4 _ (Cc hb e)))).1,fun b hb=>?_,w7⟩;obtain⟨o,e,d⟩:=T.obj _ _ st5 b hb;exact(I7.pin (b,o) (G4 _ (G4 _ (Cc hb e)))).2.1
   cases f with
   | next=>obtain⟨σ7,H7,I7,n7⟩:=q7;exact again I7 n7
   | cont=>obtain⟨σ7,H7,I7,n7⟩:=q7;exact again I7 n7
   | brk=>obtain⟨σ7,H7,I7,q7⟩:=q7;exact⟨σ7,H7,I7.unpinned,q7⟩
   | ret v=>obtain⟨x7,σ7,H7,I7,r7,q7⟩:=q7;exact⟨x7,σ7,H7,I7.unpinned,r7,q7⟩
end
abbrev R2:=V->V->Hp->VK->Prop
def OpR (X:Cx)(f:Value->Value->Sem Value)(r:R2):Prop:=
 ∀ (pins : List (Addr × Obj)) (s : Shared) (σ : St) (H : Hp) (x y : V) (v u : Value) (Q : VK), Inv X pins σ H s -> RelV x v -> RelV y u -> r x y H Q ->
   wpAny (model X.prog X.w) X.A (f v u) (EP X pins σ Q) X.xe s
def UnR (X:Cx)(f:Value->Sem Value)(r:V->Hp->VK->Prop):Prop:=
 ∀ (pins : List (Addr × Obj)) (s : Shared) (σ : St) (H : Hp) (x : V) (v : Value) (Q : VK), Inv X pins σ H s -> RelV x v -> r x H Q ->
   wpAny (model X.prog X.w) X.A (f v) (EP X pins σ Q) X.xe s
def M3 (X:Cx)(f:Value)(r:List V->Hp->VK->Prop):Prop:=
 ∀ (pins : List (Addr × Obj)) (s : Shared) (σ : St) (H : Hp) (xs : List V) (us : List Value) (Q : VK), Inv X pins σ H s -> Vals xs us -> r xs H Q ->
   wpAny (model X.prog X.w) X.A (call f us) (EP X pins σ Q) X.xe s
def TruR (X:Cx)(r:V->Hp->(Bool->Hp->Prop)->Prop):Prop:=
 ∀ (pins : List (Addr × Obj)) (s : Shared) (σ : St) (H : Hp) (x : V) (v : Value) (Q : Bool -> Hp -> Prop), Inv X pins σ H s -> RelV x v -> r x H Q ->
   wpAny (model X.prog X.w) X.A (truthy v) (TP X pins σ Q) X.xe s
def tOp (r:R2)(ta tb:TE):TE:=fun σ H Q=>ta σ H fun x H1=>tb σ H1 fun y H2=>r x y H2 Q
def tUn (r:V->Hp->VK->Prop)(ta:TE):TE:=fun σ H Q=>ta σ H fun x H1=>r x H1 Q
def rI (C:Int->Int->Prop)(g:Int->Int->V):R2:=fun x y H Q=>∃i j,x=.int i/\y=.int j/\C i j/\Q (g i j) H
def rI0 (g:Int->Int->V):R2:=fun x y H Q=>∃i j,x=.int i/\y=.int j/\Q (g i j) H
def rU (g:Int->V):V->Hp->VK->Prop:=fun x H Q=>∃i,x=.int i/\Q (g i) H
section
variable {X:Cx}{a b c:Expr}{ta tb tc:TE}{pos:Pos}
theorem binT (ha:PE X a ta)(hb:PE X b tb){R:V->V->Hp->Prop}(I:Inv X pins σ H s)
   (h:ta σ H fun x H1=>tb σ H1 fun y H2=>R x y H2) {f:Value->Value->Sem Value}
   (hf:∀v u s2 x y H2,Inv X pins σ H2 s2->RelV x v->RelV y u->R x y H2->wpAny (model X.prog X.w) X.A (f v u) Q X.xe s2) :
   wpAny (model X.prog X.w) X.A (eval a X.env) (fun v s₁=>wpAny (model X.prog X.w) X.A (eval b X.env) (fun u s₂=>wpAny (model X.prog X.w) X.A (f v u) Q X.xe s₂) X.xe s₁) X.xe s:=by
 refine thn (ha pins s σ H _ I h) fun v s1 ⟨x,H1,I1,r1,q1⟩=>?_;refine thn (hb pins s1 σ H1 _ I1 q1) fun u s2 ⟨y,H2,I2,r2,q2⟩=>?_;exact hf v u s2 x y H2 I2 r1 r2 q2
theorem L4 (ho:OpR X (Q2 op) r)(ha:PE X a ta)(hb:PE X b tb):PE X (.BinOp a op b pos) (tOp r ta tb):=by
 intro pins s σ H Q I h;exact wpAny_BinOp (binT ha hb I h fun v u s2 x y H2 I2 rx ry q=>ho pins s2 σ H2 x y v u Q I2 rx ry q)
theorem FT (ho:UnR X (unaryOp op) r)(ha:PE X a ta):PE X (.UnaryOp op a pos) (tUn r ta):=by
 intro pins s σ H Q I h;exact UnaryOp_ (thn (ha pins s σ H _ I h) fun v s1 ⟨x,H1,I1,r1,q1⟩=>ho pins s1 σ H1 x v Q I1 r1 q1)
theorem opI {g:Int->Int->Int}
   (rule:∀(i j:Int) (t u:Tok) (s:Shared) (Q:Value->Shared->Prop) (E:Value->Shared->Prop),C i j->Q (.int (g i j) s.toks) { s with toks:=s.toks + 1 }->wpAny (model X.prog X.w) X.A (f (.int i t) (.int j u)) Q E s) :
   OpR X f (rI C fun i j=>.int (g i j)):=by
 intro pins s σ H x y v u Q I rx ry h;obtain⟨i,j,rfl,rfl,hc,q⟩:=h;obtain⟨t,rfl⟩:=rx;obtain⟨t',rfl⟩:=ry;exact rule i j t t' s _ _ hc ⟨.int (g i j),H,I.tok _,⟨_,rfl⟩,q⟩
theorem opI0 {g:Int->Int->Int}
   (rule:∀(i j:Int) (t u:Tok) (s:Shared) (Q:Value->Shared->Prop) (E:Value->Shared->Prop),Q (.int (g i j) s.toks) { s with toks:=s.toks + 1 }->wpAny (model X.prog X.w) X.A (f (.int i t) (.int j u)) Q E s) :
   OpR X f (rI0 fun i j=>.int (g i j)):=by
 intro pins s σ H x y v u Q I rx ry h;obtain⟨i,j,rfl,rfl,q⟩:=h;obtain⟨t,rfl⟩:=rx;obtain⟨t',rfl⟩:=ry;exact rule i j t t' s _ _ ⟨.int (g i j),H,I.tok _,⟨_,rfl⟩,q⟩
theorem opB0 {g:Int->Int->Bool}
   (rule:∀(i j:Int) (t u:Tok) (s:Shared) (Q:Value->Shared->Prop) (E:Value->Shared->Prop),Q (.bool (g i j)) s->wpAny (model X.prog X.w) X.A (f (.int i t) (.int j u)) Q E s) :
   OpR X f (rI0 fun i j=>.bl (g i j)):=by
 intro pins s σ H x y v u Q I rx ry h;obtain⟨i,j,rfl,rfl,q⟩:=h;obtain⟨t,rfl⟩:=rx;obtain⟨t',rfl⟩:=ry;exact rule i j t t' s _ _ ⟨.bl (g i j),H,I,rfl,q⟩
def CDiv (i j:Int):Prop:=0 < j/\j < 1073741824
def CPow (i j:Int):Prop:=0<=j/\j<=1000000/\i.natAbs < 2 ^ 64
def CMul (i j:Int):Prop:=(-(2 ^ 64) < i/\i < 2 ^ 64)\/(-(2 ^ 64) < j/\j < 2 ^ 64)
theorem CMul.ok (h:CMul i j):IntMulOk i j:=by
 rcases h with⟨h1,h2⟩ | ⟨h1,h2⟩
 · exact .of_left (intBits_le_64 h1 h2)
 · exact .of_right (intBits_le_64 h1 h2)
theorem A_:OpR X (Q2 .Add) (rI0 fun i j=>.int (i + j)):=opI0 fun _ _ _ _ _ _ _ q=>add_int q
theorem op_sub:OpR X (Q2 .Sub) (rI0 fun i j=>.int (i - j)):=opI0 fun _ _ _ _ _ _ _ q=>sub_int q
theorem Cd:OpR X (Q2 .Mult) (rI CMul fun i j=>.int (i * j)):=opI fun _ _ _ _ _ _ _ hc q=>mul_int q hc.ok
theorem FU:OpR X (Q2 .FloorDiv) (rI CDiv fun i j=>.int (i / j)):=opI fun i j _ _ _ _ _ hc q=>by
 have h1:(0:Int) < j:=hc.1;have h2:j < 1073741824:=hc.2;exact floordiv_int (by omega) (by rw [Int.fdiv_eq_ediv_of_nonneg i (by omega)];exact q) (.inl (PyProof.noPylong_small (by omega)))
theorem x8:OpR X (Q2 .Mod) (rI (fun _ j=>0 < j) fun i j=>.int (i % j)):=opI fun i j _ _ _ _ _ hc q=>by
 have h1:(0:Int) < j:=hc;exact mod_int' (by omega) (by rw [Int.fmod_eq_emod_of_nonneg i (by omega)];exact q)
theorem IB:OpR X (Q2 .Pow) (rI CPow fun i j=>.int (i ^ j.toNat)):=opI fun _ _ _ _ _ _ _ hc q=>pow_int_small hc.1 hc.2.1 hc.2.2 q
theorem unI {g:Int->Int}
   (rule:∀(i:Int) (t:Tok) (s:Shared) (Q:Value->Shared->Prop) (E:Value->Shared->Prop),Q (.int (g i) s.toks) { s with toks:=s.toks + 1 }->wpAny (model X.prog X.w) X.A (f (.int i t)) Q E s) :
   UnR X f (rU fun i=>.int (g i)):=by
 intro pins s σ H x v Q I rx h;obtain⟨i,rfl,q⟩:=h;obtain⟨t,rfl⟩:=rx;exact rule i t s _ _ ⟨.int (g i),H,I.tok _,⟨_,rfl⟩,q⟩
theorem FV:UnR X (unaryOp .USub) (rU fun i=>.int (-i)):=unI fun _ _ _ _ _ q=>neg_int q
end
def scal:V->V->Bool
 | .non,.non=>true | .non,.int _=>true | .int _,.non=>true | .non,.bl _=>true | .bl _,.non=>true | .non,.str _=>true | .str _,.non=>true
 | .int _,.int _=>true | .bl _,.bl _=>true | .str _,.str _=>true | .byt _,.byt _=>true
 | .int _,.str _=>true | .str _,.int _=>true | .bl _,.str _=>true | .str _,.bl _=>true
 | _,_=>false
def rEq:R2:=fun x y H Q=>scal x y=true/\Q (.bl (decide (x=y))) H
theorem Na:decide (V.int i=V.int j)=(i == j):=by
 rw [n6];simp
theorem dec_bl:decide (V.bl i=V.bl j)=(i == j):=by
 rw [n6];simp
theorem Nb:decide (V.str i=V.str j)=(i == j):=by
 rw [n6];simp
theorem Nc:decide (V.byt i=V.byt j)=(i.toList == j.toList):=by
 rw [n6];cases i;cases j;simp
section
variable {X:Cx}{a b c:Expr}{ta tb tc:TE}{pos:Pos}
theorem N6 (I:Inv X pins σ H s)(q:Q (.bl k) H)(e:k=k'):EP X pins σ Q (.bool k') s:=by
 subst e;exact⟨.bl k,H,I,rfl,q⟩
theorem op_eq:OpR X (O0 .Eq) rEq:=by
 intro pins s σ H x y v u Q I rx ry h;obtain⟨hs,q⟩:=h;cases x with
 | non =>
   cases rx;cases y with
   | non=>cases ry;exact PySem.EqNone.eq_none_none (N6 I q (by simp))
   | bl j=>cases ry;exact PySem.EqNone.eq_none_bool (N6 I q (by simp))
   | int j=>obtain⟨t',rfl⟩:=ry;exact PySem.EqNone.eq_none_int (N6 I q (by simp))
   | str j=>obtain⟨t',rfl⟩:=ry;exact PySem.EqNone.eq_none_str (N6 I q (by simp))
   | _=>exact absurd (show false=true from hs) N5
 | bl i =>
   cases rx;cases y with
   | non=>cases ry;exact PySem.EqNone.eq_bool_none (N6 I q (by simp))
   | bl j=>cases ry;exact eq_bool (N6 I q dec_bl)
   | str j=>obtain⟨t',rfl⟩:=ry;exact PySem.EqMixed.eq_bool_str (N6 I q (by simp))
   | _=>exact absurd (show false=true from hs) N5
 | int i =>
   obtain⟨t,rfl⟩:=rx;cases y with
   | non=>cases ry;exact PySem.EqNone.eq_int_none (N6 I q (by simp))
   | int j=>obtain⟨t',rfl⟩:=ry;exact eq_int (N6 I q Na)
   | str j=>obtain⟨t',rfl⟩:=ry;exact PySem.EqMixed.eq_int_str (N6 I q (by simp))
   | _=>exact absurd (show false=true from hs) N5
 | str i =>
   obtain⟨t,rfl⟩:=rx;cases y with
   | non=>cases ry;exact PySem.EqNone.eq_str_none (N6 I q (by simp))
   | bl j=>cases ry;exact PySem.EqMixed.eq_str_bool (N6 I q (by simp))
   | int j=>obtain⟨t',rfl⟩:=ry;exact PySem.EqMixed.eq_str_int (N6 I q (by simp))
   | str j=>obtain⟨t',rfl⟩:=ry;exact eq_str (N6 I q Nb)
   | _=>exact absurd (show false=true from hs) N5
 | byt i =>
   obtain⟨t,rfl⟩:=rx;cases y with
   | byt j=>obtain⟨t',rfl⟩:=ry;exact PySem.W.eq_bytes (N6 I q Nc)
   | _=>exact absurd (show false=true from hs) N5
 | _=>cases y <;> exact absurd (show false=true from hs) N5
theorem op_lt:OpR X (O0 .Lt) (rI0 fun i j=>.bl (decide (i < j))):=opB0 fun _ _ _ _ _ _ _ q=>lt_int q
theorem op_gt:OpR X (O0 .Gt) (rI0 fun i j=>.bl (decide (j < i))):=opB0 fun _ _ _ _ _ _ _ q=>gt_int q
theorem op_ge:OpR X (O0 .GtE) (rI0 fun i j=>.bl (decide (j<=i))):=opB0 fun _ _ _ _ _ _ _ q=>ge_int q
theorem Nd:OpR X (O0 .Lt) (fun x y H Q=>∃i j,x=.str i/\y=.str j/\Q (.bl (decide (i.cps.toList < j.cps.toList))) H):=by
 intro pins s σ H x y v u Q I rx ry h;obtain⟨i,j,rfl,rfl,q⟩:=h;obtain⟨t,rfl⟩:=rx;obtain⟨t',rfl⟩:=ry;exact lt_str (N6 I q rfl)
theorem Nf:OpR X (O0 .In) (fun x y H Q=>∃i j,x=.str i/\y=.str j/\Q (.bl (!(AM j i 0 j.length 1).isEmpty)) H):=by
 intro pins s σ H x y v u Q I rx ry h;obtain⟨i,j,rfl,rfl,q⟩:=h;obtain⟨t,rfl⟩:=rx;obtain⟨t',rfl⟩:=ry;exact in_str (N6 I q rfl)
theorem op_isN:OpR X (O0 .Is) (fun x y H Q=>y=.non/\Q (.bl (decide (x=.non))) H):=by
 intro pins s σ H x y v u Q I rx ry h;obtain⟨rfl,q⟩:=h;cases ry;refine is_none_gen (N6 I q ?_)
 cases x <;> first
   | (cases rx;rfl)
   | (obtain⟨t,rfl⟩:=rx;rfl)
theorem Ng:OpR X (O0 .IsNot) (fun x y H Q=>y=.non/\Q (.bl (!decide (x=.non))) H):=by
 intro pins s σ H x y v u Q I rx ry h;obtain⟨rfl,q⟩:=h;cases ry;refine isnot_none_gen (N6 I q ?_)
 cases x <;> first
   | (cases rx;rfl)
   | (obtain⟨t,rfl⟩:=rx;rfl)
theorem OpR.or (h:OpR X f r)(h':OpR X f r'):OpR X f (fun x y H Q=>r x y H Q\/r' x y H Q):=by
 intro pins s σ H x y v u Q I rx ry q;rcases q with q | q
 · exact h pins s σ H x y v u Q I rx ry q
 · exact h' pins s σ H x y v u Q I rx ry q
theorem D4 (b:Expr)(h:op≠.In:=by decide)(h2:op≠.NotIn:=by decide):v4 op b=false:=by
 have e1:(op == CmpOp.In)=false:=by cases op <;> first | rfl | exact absurd rfl h
 have e2:(op == CmpOp.NotIn)=false:=by cases op <;> first | rfl | exact absurd rfl h2
 cases b <;> simp [v4,e1,e2]
theorem IC (ho:OpR X (O0 op) r)(ha:PE X a ta)(hb:PE X b tb)(hm:v4 op b=false):PE X (.Compare a [op] [b] pos) (tOp r ta tb):=by
 intro pins s σ H Q I h;exact wpAny_Compare1 (binT ha hb I h fun v u s2 x y H2 I2 rx ry q=>ho pins s2 σ H2 x y v u Q I2 rx ry q) hm
def tTest (t:TE):TT:=fun σ H Q=>t σ H fun x H'=>∃k,x=.bl k/\Q k H'
theorem Ce (ho:OpR X (O0 op) r)(ha:PE X a ta)(hb:PE X b tb)(hm:v4 op b=false):PT X (.Compare a [op] [b] pos) (tTest (tOp r ta tb)):=by
 intro pins s σ H Q I h
 refine wpAny_isTrue_Compare1 (thn (ha pins s σ H _ I h) fun v s1 ⟨x,H1,I1,r1,q1⟩=>thn (hb pins s1 σ H1 _ I1 q1) fun u s2 ⟨y,H2,I2,r2,q2⟩=>
   thn (ho pins s2 σ H2 x y v u _ I2 r1 r2 q2) fun c s3 ⟨z,H3,I3,r3,k,e,q3⟩=>?_) hm
 subst e;cases r3;exact Di ⟨H3,I3,q3⟩
def TruV (K:A4)(x:V)(H:Hp)(k:Bool):Prop:=
 match x with
 | .non=>k=false
 | .bl b=>k=b
 | .int i=>k=(i != 0)
 | .str y=>y.length<=B5/\k=((y.length:Int) != 0)
 | .byt y=>y.size<=B5/\k=((y.size:Int) != 0)
 | .ref p=>(∃xs,SqL K H p xs/\k=!xs.isEmpty)\/(∃xs,SqT K H p xs/\k=!xs.isEmpty)\/∃kvs,H p=some (.dK kvs)/\k=!kvs.isEmpty
 | _=>False
theorem Nh {κ:Type}{kvs:List (κ×V)}{vs:List (κ×Value)}(r:KV kvs vs):(!vs.isEmpty)=!kvs.isEmpty:=by
 cases r <;> rfl
theorem ID (r:Vals xs its):(!its.toArray.isEmpty)=!xs.isEmpty:=by
 cases r <;> simp
theorem x9:(B5:Nat) < 2 ^ 63:=by rw [L6];decide
theorem tru_ok:TruR X (fun x H Q=>∃k,TruV X.K x H k/\Q k H):=by
 intro pins s σ H x v Q I rx h;obtain⟨k,e,q⟩:=h;have hl:=x9;have hs:B5=16777216:=L6;cases x with
 | non =>
   cases rx;have e':k=false:=e;subst e';exact truthy_none ⟨H,I,q⟩
 | bl b =>
   cases rx;have e':k=b:=e;subst e';exact Di ⟨H,I,q⟩
 | int i =>
   obtain⟨t,rfl⟩:=rx;have e':k=(i != 0):=e;subst e';exact PySem.P.truthy_int ⟨H,I,q⟩
 | str y =>
   obtain⟨t,rfl⟩:=rx;obtain⟨hy,e'⟩:y.length<=B5/\k=((y.length:Int) != 0):=e;subst e';exact PySem.P.truthy_str (by omega) ⟨H,I.tok _,q⟩
 | byt y =>
   obtain⟨t,rfl⟩:=rx;obtain⟨hy,e'⟩:y.size<=B5/\k=((y.size:Int) != 0):=e;subst e';exact PySem.W.truthy_bytes (by omega) ⟨H,I.tok _,q⟩
 | ref p =>
   cases rx;have e':(∃xs,SqL X.K H p xs/\k=!xs.isEmpty)\/(∃xs,SqT X.K H p xs/\k=!xs.isEmpty)\/∃kvs,H p=some (.dK kvs)/\k=!kvs.isEmpty:=e;rcases e' with⟨xs,hx,e'⟩ | ⟨xs,hx,e'⟩ | ⟨kvs,hx,e'⟩
   · subst e';obtain⟨its,r,pl,hz⟩:=I.list hx;have hlen:=r.length;exact wpAny_truthy_list pl.isList (by simp only [E3];omega) ⟨H,I.tok _,by rw [ID r];exact q⟩
   · subst e';obtain⟨its,r,pl,hz⟩:=I.tuple hx;have hlen:=r.length;exact truthy_tuple pl (by simp only [E3];omega) ⟨H,I.tok _,by rw [ID r];exact q⟩
   · subst e';obtain⟨hz,hS,vs,r,m⟩:kvs.length<=B5/\(p == G9)=false/\∃vs,KV kvs vs/\s.heap.DictOf (F2 X.prog X.w) p vs:=I.hok p _ hx;have hlen:kvs.length=vs.length:=B_ r;exact wpAny_truthy_dict hS m (by omega) ⟨H,I.tok _,by rw [Nh r];exact q⟩
 | _=>exact(show False from e).elim
theorem Ni:OpR X (Q2 .Add) (fun x y H Q=>∃i j,x=.str i/\y=.str j/\i.length + j.length<=B5/\Q (.str (i++j)) H):=by
 intro pins s σ H x y v u Q I rx ry h;obtain⟨i,j,rfl,rfl,hz,q⟩:=h;obtain⟨t,rfl⟩:=rx;obtain⟨t',rfl⟩:=ry;exact add_str (fun t' tk=>⟨.str (i++j),H,I.tok _,⟨_,rfl⟩,q⟩) hz
theorem o8 (r:Vals [x] us):∃u,us=[u]/\RelV x u:=by
 cases r with
 | cons r1 r2=>cases r2;exact⟨_,rfl,r1⟩
theorem vals2 (r:Vals [x,y] us):∃u w',us=[u,w']/\RelV x u/\RelV y w':=by
 cases r with
 | cons r1 r2 =>
   cases r2 with
   | cons r3 r4=>cases r4;exact⟨_,_,rfl,r1,r3⟩
theorem Nj:M3 X (.builtin "abs") (fun xs H Q=>∃i,xs=[.int i]/\Q (.int (if i < 0 then -i else i)) H):=by
 intro pins s σ H xs us Q I r h;obtain⟨i,rfl,q⟩:=h;obtain⟨u,rfl,t,rfl⟩:=o8 r;exact call_abs_int fun u tk=>⟨.int (if i < 0 then -i else i),H,I.tok _,⟨_,rfl⟩,q⟩
theorem Nk (hc:X.calm=true):M3 X (.builtin "max") (fun xs H Q=>∃i j,xs=[.int i,.int j]/\Q (.int (if j > i then j else i)) H):=by
 intro pins s σ H xs us Q I r h;obtain⟨i,j,rfl,q⟩:=h;obtain⟨u,w',rfl,⟨t,rfl⟩,⟨t',rfl⟩⟩:=vals2 r;refine max_two_ints (I.ok.hd hc) fun h' tk k=>⟨_,H,I.kept k,?_,q⟩
 by_cases hj:j > i
 · rw [if_pos hj,if_pos hj];exact⟨_,rfl⟩
 · rw [if_neg hj,if_neg hj];exact⟨_,rfl⟩
theorem Nl (hc:X.calm=true):M3 X (.builtin "min") (fun xs H Q=>∃i j,xs=[.int i,.int j]/\Q (.int (if j < i then j else i)) H):=by
 intro pins s σ H xs us Q I r h;obtain⟨i,j,rfl,q⟩:=h;obtain⟨u,w',rfl,⟨t,rfl⟩,⟨t',rfl⟩⟩:=vals2 r;refine min_two_ints (I.ok.hd hc) fun h' tk k=>⟨_,H,I.kept k,?_,q⟩
 by_cases hj:j < i
 · rw [if_pos hj,if_pos hj];exact⟨_,rfl⟩
 · rw [if_neg hj,if_neg hj];exact⟨_,rfl⟩
theorem IE:M3 X (.type "int") (fun xs H Q=>(∃i,xs=[.int i]/\Q (.int i) H)\/∃k,xs=[.bl k]/\Q (.int (if k then 1 else 0)) H):=by
 intro pins s σ H xs us Q I r h;rcases h with⟨i,rfl,q⟩ | ⟨k,rfl,q⟩
 · obtain⟨u,rfl,t,rfl⟩:=o8 r;exact call_int_int ⟨.int i,H,I,⟨_,rfl⟩,q⟩
 · obtain⟨u,rfl,r1⟩:=o8 r;cases r1;exact call_int_bool ⟨.int (if k then 1 else 0),H,I.tok _,⟨_,rfl⟩,q⟩
end
theorem RelO.some_of (r:RelO (some v) o):∃u,o=some u/\RelV v u:=by
 cases o with
 | none=>exact(show False from r).elim
 | some u=>exact⟨u,rfl,r⟩
structure Room (k:Nat)(A:Around):Prop where
 hd:A.handled=none
 dp:A.depth + 3 * k + 5 < recursionLimit
 un:A.units + 16 * k + 200 < cLine
 gd:A.guards=some []
theorem Room.mono (r:Room k A)(h:j<=k):Room j A:=⟨r.hd,by have:=r.dp;omega,by have:=r.un;omega,r.gd⟩
theorem Room.deeper (r:Room (k + 1) A)(env:Env):Room k (A.deeper env):=
 ⟨r.hd,by have:=r.dp;show A.depth + 1 + 3 * k + 5 < _;omega,by have:=r.un;show A.units + 3 + 16 * k + 200 < _;omega,r.gd⟩
theorem Room.in1 {k:Nat}{A:Around}(r:Room (k + 1) A):Room k A.in1:=
 ⟨r.hd,by have:=r.dp;show A.depth + 3 * k + 5 < _;omega,by have:=r.un;show A.units + 1 + 16 * k + 200 < _;omega,r.gd⟩
theorem Room.depth (r:Room k A):A.depth < recursionLimit:=by have:=r.dp;omega
theorem Room.units (r:Room k A):A.units + 64 < cLine:=by have:=r.un;omega
def tNil:TA:=fun _ H Q=>Q [] H
def V0 (ta:TE)(tr:TA):TA:=fun σ H Q=>ta σ H fun x H1=>tr σ H1 fun xs H2=>Q (x::xs) H2
section
variable {X:Cx}{e:Expr}{es:List Expr}{te:TE}{t:TA}{pos:Pos}
theorem G7:PA X [] tNil:=fun _ _ _ _ H Q I h=>DP ⟨[],H,I,.nil,h⟩
theorem E9 (ha:PE X e te)(hr:PA X es t)(hs:D6 (e::es) X.env=(false,eval e X.env)::D6 es X.env:=by rfl):PA X (e::es) (V0 te t):=by
 intro pos pins s σ H Q I h;rw [hs];show wpAny _ _ (spliced ((false,eval e X.env)::backTo pos (D6 es X.env))) _ _ s;refine AR (thn (ha pins s σ H _ I h) fun u s1 ⟨x,H1,I1,r1,q1⟩=>?_);exact thn (hr pos pins s1 σ H1 _ I1 q1) fun us s2 ⟨xs,H2,I2,r2,q2⟩=>⟨x::xs,H2,I2,.cons r1 r2,q2⟩
def tTup (t:TA):TE:=fun σ H Q=>t σ H fun xs H1=>xs.length<=B5/\∀p,H1 p=none->Q (.ref p) (upd H1 p (.tup xs))
def tLst (t:TA):TE:=fun σ H Q=>t σ H fun xs H1=>xs.length<=B5/\∀p,H1 p=none->Q (.ref p) (upd H1 p (.lst xs))
theorem FW {x1}(h:PA X es t):PE X (.Tuple es x1 pos) (tTup t):=by
 intro pins s σ H Q I hq;refine wpAny_Tuple_spliced (thn (h pos pins s σ H _ I hq) fun us s1 ⟨xs,H1,I1,r,z,q⟩=>⟨by rw [<- r.length];exact z,?_⟩);have hf:H1 s1.heap.objs.size=none:=I1.hok.fresh (B4 _);refine⟨.ref s1.heap.objs.size,upd H1 s1.heap.objs.size (.tup xs),I1.laid (t':=s1.toks) (fun b u e=>B7 _ e) (B4 _) ?_,rfl,q _ hf⟩;exact⟨z,us,r,⟨_,F3 _ rfl,rfl,_,rfl⟩⟩
theorem pe_lst (h:PA X es t):PE X (.List es pos) (tLst t):=by
 intro pins s σ H Q I hq;refine wpAny_List_spliced (thn (h pos pins s σ H _ I hq) fun us s1 ⟨xs,H1,I1,r,z,q⟩=>⟨by rw [<- r.length];exact z,?_⟩);have hf:H1 s1.heap.objs.size=none:=I1.hok.fresh (B4 _);refine⟨.ref s1.heap.objs.size,upd H1 s1.heap.objs.size (.lst xs),I1.laid (t':=s1.toks) (fun b u e=>B7 _ e) (B4 _) ?_,rfl,q _ hf⟩;exact⟨z,us,0,r,F3 _ rfl⟩
end
abbrev Sp:=List V->Hp->VK->XK->Prop
abbrev CXT:=List Env->Hp->Shared->XK->Value->Shared->Prop
structure Env0 (P:C5)(w:World)(K:A4)(mg:Str->Option Value)(base:Heap)(A:Around)(outer:List Env)(s:Shared)(H:Hp):Prop where
 frames:A.frames=some outer
 mod:Mod K mg base
 bs:∀b o,base.get? b=some o->s.heap.get? b=some o/\H b=none
 bsz:base.objs.size<=s.heap.objs.size
 funs:s.heap.FunFrames base outer
 frf:∀b∈frs outer,H b=none
 hok:HOk P w H s.heap
 bare:AllBare s.gens
 nos:NS H
def CE (outer:List Env)(P:C5)(w:World)(H:Hp)(s:Shared)(Q:VK)(u:Value)(s':Shared):Prop:=
 ∃v H',s'.os=s.os/\AllBare s'.gens/\Un (frs outer) [] H H' s.heap s'.heap/\HOk P w H' s'.heap/\RelV v u/\Q v H'
def CR (CX:CXT)(outer:List Env)(P:C5)(w:World)(H:Hp)(s:Shared)(Q:VK)(E:XK)(r:Result)(s':Shared):Prop:=
 match r with
 | .ok (.ret u)=>CE outer P w H s Q u s'
 | .ok _=>False
 | .error e=>CX outer H s E e s'
structure FnOk (P:C5)(w:World)(K:A4)(mg:Str->Option Value)(base:Heap)(CX:CXT)(k:Nat)(f:Addr)(fd:FuncData)(ps:List Str)(sp:Sp):Prop where
 len:∀vs H Q E,sp vs H Q E->vs.length=ps.length
 run:∀(A:Around) (outer:List Env) (s:Shared) (H:Hp) (args:Args) (us:List Value) (vs:List V) (Q:VK) (E:XK),Room k A->Env0 P w K mg base A outer s H->BindsTo s fd args (ps.zip us)->Vals vs us->sp vs H Q E->
   M9 (model P w) A (.call (.ref f) args) (CR CX outer P w H s Q E) s
theorem FnOk.imp {K:A4}(F:FnOk P w K mg base CX k f fd ps sp)
   (h:∀vs H Q E,sp' vs H Q E->sp vs H Q E):FnOk P w K mg base CX k f fd ps sp':=
 ⟨fun vs H Q E q=>F.len vs H Q E (h _ _ _ _ q),fun A outer s H args us vs Q E hr he hb hv hs=>F.run A outer s H args us vs Q E hr he hb hv (h _ _ _ _ hs)⟩
section
variable {X:Cx}{pins:List (Addr×Obj)}{σ:St}{H:Hp}{s s':Shared}
theorem Inv.env0 (I:Inv X pins σ H s):Env0 X.prog X.w X.K X.mg X.base X.A X.stack s H:=
 ⟨I.ok.frames,I.ok.mod,I.bs,K5 I.ok.bsz I.sz,I.stack,I.stkFree,I.hok,I.bare,I.nos⟩
theorem Inv.after (I:Inv X pins σ H s)(h:CE X.stack X.prog X.w H s Q u s'):EP X pins σ Q u s':=by
 obtain⟨v,H',os,bare,un,hok,r,q⟩:=h;obtain⟨hh,g,d,t,os'⟩:=s';obtain rfl:os'=s.os:=os;exact⟨v,H',I.call (h':=hh) (g':=g) (d':=d) (t':=t) (ch:=[]) un hok bare (fun b z=>absurd z (by simp)),r,q⟩
end
def tCall (sp:Sp)(dvs:List V)(E:XK)(t:TA):TE:=fun σ H Q=>t σ H fun vs H1=>sp (vs++dvs) H1 Q E
def Ba (K:A4)(fd:FuncData)(ps:List Str)(ds:List Value):Prop:=
 ∀(s:Shared) (us:List Value),K.In s.heap->(us++ds).length=ps.length->BindsTo s fd ⟨us,[]⟩ (ps.zip (us++ds))
theorem Ba.all {K:A4}(h:∀us:List Value,us.length=ps.length->W4 fd ⟨us,[]⟩=pure (ps.zip us)):Ba K fd ps []:=fun s us _ hl=>by
 rw [P3] at hl ⊢;exact .of_eq (h us hl)
def FX (CX:CXT)(X:Cx)(E:XK):Prop:=∀(pins:List (Addr×Obj)) (σ:St) (H:Hp) (s:Shared) (e:Value) (s':Shared),Inv X pins σ H s->CX X.stack H s E e s'->X.xe e s'
section
variable {X:Cx}{CX:CXT}{k:Nat}{f C:Addr}{fd:FuncData}{ps:List Str}{sp:Sp}{dvs:List V}{ds:List Value}{E:XK}{x m:Str}{p pos apos:Pos}{e o:Expr}{es:List Expr}{ta:TE}{t:TA}
theorem run_fn (F:FnOk X.prog X.w X.K X.mg X.base CX k f fd ps sp)(hr:Room k X.A)(hb:Ba X.K fd ps ds)(hd:Vals dvs ds)(hx:FX CX X E)
   (I:Inv X pins σ H s) (r:Vals vs us) (h:sp (vs++dvs) H Q E):wpAny (model X.prog X.w) X.A (call (.ref f) us) (EP X pins σ Q) X.xe s:=by
 have r2:Vals (vs++dvs) (us++ds):=r.append hd;have hl:(us++ds).length=ps.length:=by rw [<- r2.length];exact F.len _ _ _ _ h
 refine wpAny_call (Av (F.run X.A X.stack s H ⟨us,[]⟩ (us++ds) (vs++dvs) Q E hr I.env0 (hb s us I.kIn hl) r2 h) fun r s' hq=>?_);cases r with
 | error e=>exact hx pins σ H s e s' I hq
 | ok fl =>
   cases fl with
   | ret u=>exact I.after hq
   | next=>exact Z8 hq
   | brk=>exact Z8 hq
   | cont=>exact Z8 hq
theorem Nm (F:FnOk X.prog X.w X.K X.mg X.base CX k f fd ps sp)(hr:Room k X.A)(hg:Gl X x)(hm:X.mg x=some (.ref f))(hk:BG X.K (.ref f)=true)(hb:Ba X.K fd ps ds)(hd:Vals dvs ds)(hx:FX CX X E)
   (ha:PA X (e::es) t) (hdb:(x == ("__debug__":Str))=false:=by decide) (he:D6 (e::es) X.env=(false,eval e X.env)::D6 es X.env:=by rfl) (hpl:(backTo pos (D6 es X.env)).any (·.1)=false:=by rfl) :
   PE X (.Call (.Name x p) (e::es) [] pos) (tCall sp dvs E t):=by
 intro pins s σ H Q I h;refine At (MP I hg hm ?_ hdb);refine PySem.W.callWith_K (h₀:=X.base) I.ok.mod.kin hk (thn (ha pos pins s σ H _ I h) fun us s1 ⟨vs,H1,I1,r,q⟩=>⟨I1.kIn,?_⟩) he hpl;exact run_fn F hr hb hd hx I1 r q
end
def PK (X:Cx)(kws:List O1)(t:TA):Prop:=
 ∀(pos:Pos) (pins:List (Addr×Obj)) (s:Shared) (σ:St) (H:Hp) (Q:List V->Hp->Prop),Inv X pins σ H s->t σ H Q->wpAny (model X.prog X.w) X.A (evalAll ((W5 pos (W3 kws X.env)).map (·.2))) (AP X pins σ Q) X.xe s
structure Q7 (N P:List Str)(sc:Scope):Prop where
 kind:sc.kind=.function
 co:sc.isCoroutine=false
 gen:sc.isGenerator=false
 nd:N.Nodup
 pre:N.take P.length=P
 par:∀x∈P,sc.names.lookup x=some .local\/sc.names.lookup x=some .cell
 nofree:∀y∈sc.names,y.2≠.free
theorem IF {kindOf:Str->Option NameKind}:∀{binds:List (Str×Value)} {m:Str->Option Value},(∀v,(x,v)∉binds)->bindL kindOf binds m x=m x
 | [],_,_=>rfl
 | (n, v) :: r, m, h => by
   unfold bindL;rw [IF fun w hw=>h w (B3 _ hw)]
   split
   · have:x≠n:=by rintro rfl;exact h v B8
     simp [this]
   · rfl
theorem IG {kindOf:Str->Option NameKind}:∀{binds:List (Str×Value)} {m:Str->Option Value},(∀v,(x,v)∉binds)->bindC kindOf binds m x=m x
 | [],_,_=>rfl
 | (n, v) :: r, m, h => by
   unfold bindC;rw [IG fun w hw=>h w (B3 _ hw)]
   split
   · rfl
   · have:x≠n:=by rintro rfl;exact h v B8
     simp [this]
theorem IH {kindOf:Str->Option NameKind}:∀{P:List Str} {vs:List Value} {i:Nat} {m:Str->Option Value},P.Nodup->P[i]?=some x->vs[i]?=some v->kindOf x=some .local->
   bindL kindOf (P.zip vs) m x=some v
 | [],_,_,_,_,h,_,_=>by simp at h
 | _::_,[],_,_,_,_,h,_=>by simp at h
 | p :: P, w :: vs, 0, m, nd, h1, h2, hk => by
   simp at h1 h2;subst h1;subst h2;show bindL kindOf ((p,w)::P.zip vs) m p=_;unfold bindL;rw [IF fun v hv=>(L7.mp nd).1 (List.of_mem_zip hv).1,if_pos hk];simp
 | p :: P, w :: vs, i + 1, m, nd, h1, h2, hk => by
   show bindL kindOf ((p,w)::P.zip vs) m x=_;unfold bindL;exact IH (i:=i) (L7.mp nd).2 (by simpa using h1) (by simpa using h2) hk
theorem II {kindOf:Str->Option NameKind}:∀{P:List Str} {vs:List Value} {i:Nat} {m:Str->Option Value},P.Nodup->P[i]?=some x->vs[i]?=some v->kindOf x≠some .local->
   bindC kindOf (P.zip vs) m x=some v
 | [],_,_,_,_,h,_,_=>by simp at h
 | _::_,[],_,_,_,_,h,_=>by simp at h
 | p :: P, w :: vs, 0, m, nd, h1, h2, hk => by
   simp at h1 h2;subst h1;subst h2;show bindC kindOf ((p,w)::P.zip vs) m p=_;unfold bindC;rw [IG fun v hv=>(L7.mp nd).1 (List.of_mem_zip hv).1,if_neg hk];simp
 | p :: P, w :: vs, i + 1, m, nd, h1, h2, hk => by
   show bindC kindOf ((p,w)::P.zip vs) m x=_;unfold bindC;exact II (i:=i) (L7.mp nd).2 (by simpa using h1) (by simpa using h2) hk
def start (N:List Str)(vs:List V):St:=vs.map some++List.replicate (N.length - vs.length) none
def cxOf (CX:CXT)(P:C5)(w:World)(K:A4)(mg:Str->Option Value)(base:Heap)(N:List Str)(qual:Str)(scope:Scope)(f:Addr)(cd:Value)(A:Around)(outer:List Env)(s:Shared)(H:Hp)(E:XK):Cx where
 prog:=P
 w:=w
 K:=K
 mg:=mg
 base:=base
 A:=A.deeper (envOfC qual scope s.heap.objs.size f cd)
 N:=N
 s₀:=s
 H₀:=H
 env:=envOfC qual scope s.heap.objs.size f cd
 outer:=outer
 stack:=envOfC qual scope s.heap.objs.size f cd::outer
 ex:=[]
 calm:=true
 fn:=fun _=>true
 pn:=[]
 xe:=fun e s'=>wpAny (model P w) (A.deeper (envOfC qual scope s.heap.objs.size f cd)) (leaving (envOfC qual scope s.heap.objs.size f cd) e) (fun _ s''=>CX outer H s E e s'') (fun e' s''=>CX outer H s E e' s'') s'
theorem IJ {sc:Scope}(h:sc.names.lookup x=some .cell):∃c,(cellsFrom n sc.names []).lookup x=some c:=by
 have q:=PySem.W.cellsFrom_some sc.names n [] (.inl h);exact DQ.mp q
theorem Nn {K:A4}
   (S:Q7 N ps scope) (hd:A.handled=none) (e0:Env0 P w K mg base A outer s H) (hl:vs.length=ps.length) (r:Vals vs us)
   (x:InCallC s s.heap.objs.size (bindL (envOfC qual scope s.heap.objs.size f cd).kindOf (ps.zip us) fun _=>none) (cellsFrom (s.heap.objs.size + 1) scope.names []) (bindC (envOfC qual scope s.heap.objs.size f cd).kindOf (ps.zip us) fun _=>none) s1) :
   Inv (cxOf CX P w K mg base N qual scope f cd A outer s H E) [] (start N vs) H s1:=by
 have hpl:ps.length<=N.length:=by have:=congrArg List.length S.pre;rw [Q4] at this;omega
 obtain⟨h1,tk,rfl,hk⟩:=x.done;have noA:∀b:Addr,b∉(cxOf CX P w K mg base N qual scope f cd A outer s H E).ex:=fun b z=>absurd (show b∈([]:List Addr) from z) (by simp)
 refine⟨⟨e0.mod,S.kind,rfl,rfl,B4 _,fun y z c h1 h2=>?_,fun y hy=>?_,fun y c _ h=>?_,fun _=>hd,Around.frames_deeper e0.frames,.inr ⟨rfl,rfl⟩,fun b z=>absurd z (noA b),e0.bs,e0.bsz,fun b _ _=>noA b,fun b z=>absurd z (noA b),e0.funs,e0.frf,e0.nos⟩,
   rfl,e0.bare,Un.kept hk,⟨_,x.toInCall.ns,fun i y v h1 h2 h3=>?_⟩,fun y c h=>⟨_,x.cell y c h⟩,e0.hok.fresh (B4 _),fun y c h=>?_,fun p hp=>absurd (show p∈([]:List (Addr×Obj)) from hp) (by simp),e0.hok.kept hk,?_⟩
 · exact name_of_addr x.apart (d8 h1) (d8 h2)
 · have hy:scope.names.lookup y=some .cell\/scope.names.lookup y=some .free:=hy;rcases hy with hy | hy
   · exact IJ hy
   · exact absurd rfl (S.nofree _ (d8 hy))
 · exact BR (x.above y c (d8 h))
 · have hi:i < vs.length:=by
     unfold start at h2
     by_cases hi:i < vs.length
     · exact hi
     · rw [W6 (by simpa using hi)] at h2;rw [Fy] at h2
       split at h2 <;> cases h2
   have ha:vs[i]?=some v:=by
     unfold start at h2;rw [W7 (by simpa using hi),F6] at h2;cases e:vs[i]? with
     | none=>rw [e] at h2;cases h2
     | some a=>rw [e] at h2;cases h2;rfl
   obtain⟨u,hu,rv⟩:=r.get ha
   have hp:ps[i]?=some y:=by
     rw [<- S.pre,List.getElem?_take_of_lt (by omega)];exact h1
   have ndP:ps.Nodup:=by rw [<- S.pre];exact S.nd.sublist (List.take_sublist _ _)
   refine⟨u,rv,?_⟩;rcases S.par y (K2 hp) with k | k
   · exact .inl ⟨k,IH ndP hp hu k⟩
   · obtain⟨c,e⟩:=IJ (n:=s.heap.objs.size + 1) k;refine .inr ⟨.inl k,c,e,?_⟩;have q:=x.cell y c e;rw [II ndP hp hu (by show scope.names.lookup y≠_;rw [k];decide)] at q;exact q
 · exact e0.hok.fresh (BR (x.above y c (d8 h)))
 · unfold start;show _=N.length;rw [E1,B2,List.length_replicate];omega
theorem fn_of {K:A4}{dV kV doc pm cdv ct oc:Value}
 (lk:K.lookup f=some ⟨oc,od,.func (U5 name qual params body scope dV kV doc pm an cdv ct),osl⟩) (hcd:Dn K cdv qual=true) (S:Q7 N ps scope)
   (len:∀vs H Q E,sp vs H Q E->vs.length=ps.length)
   (hbody:∀(A:Around) (outer:List Env) (s:Shared) (H:Hp) (vs:List V) (Q:VK) (E:XK),Room k (A.deeper (envOfC qual scope s.heap.objs.size f cdv))->sp vs H Q E->
     ∃t,PSs (cxOf CX P w K mg base N qual scope f cdv A outer s H E) body t/\t { nx:=fun _ H'=>Q .non H',rt:=Q } (start N vs) H) :
   FnOk P w K mg base CX (k + 1) f (U5 name qual params body scope dV kV doc pm an cdv ct) ps sp:=by
 refine⟨len,fun A outer s H args us vs Q E hr e0 hb r hsp=>?_⟩;have hl:=len _ _ _ _ hsp;have KX:K.In s.heap:=e0.mod.kin.keeps fun b o e=>(e0.bs b o e).1;have lim:s.heap.NoLimit:=e0.mod.nolimit.keeps fun b o e=>(e0.bs b o e).1
 have hkind:∀y∈ps.zip us,scope.names.lookup y.1=some .local\/(scope.names.lookup y.1=some .cell/\((cellsFrom (s.heap.objs.size + 1) scope.names []).lookup y.1).isSome=true):=fun⟨n,v⟩ hy=>by
   rcases S.par n (List.of_mem_zip hy).1 with q | q
   · exact .inl q
   · exact .inr ⟨q,PySem.W.cellsFrom_some _ _ _ (.inl q)⟩
 refine codeAny_call_function hr.depth (KX _ _ lk) rfl S.co S.gen rfl (PySem.W.codeRec_of KX hcd) (hb _ _ _ _ ?_);refine wpAny_newFunctionEnv_cells S.kind hkind fun env he s1 x=>?_;subst he;refine⟨lim.keeps x.toInCall.keep,codeAny_func ?_⟩;obtain⟨t,ht,hq⟩:=hbody A outer s H vs Q E (hr.deeper _) hsp;have I:Inv (cxOf CX P w K mg base N qual scope f cdv A outer s H E) [] (start N vs) H s1:=Nn S hr.hd e0 hl r x;refine E7 (ht [] s1 (start N vs) H _ I hq) (fun fl s' hs=>?_) fun e s' hs=>hs
 have fin:∀{σ':St} {H':Hp} {v:V} {u:Value},Inv (cxOf CX P w K mg base N qual scope f cdv A outer s H E) [] σ' H' s'->RelV v u->Q v H'->CE outer P w H s Q u s':=
   fun {σ' H' v u} J rv q=>⟨v,H',J.os,J.bare,J.base,J.hok,rv,q⟩
 cases fl with
 | ret u =>
   obtain⟨v,σ',H',J,rv,q⟩:=hs;exact fin J rv q
 | next =>
   obtain⟨σ',H',J,q⟩:=hs;exact fin (v:=V.non) (u:=X3) J rfl q
 | brk =>
   obtain⟨_,_,_,q⟩:=hs;exact Z8 q
 | cont =>
   obtain⟨_,_,_,q⟩:=hs;exact Z8 q
section
variable {X:Cx}{x:Str}{p pos:Pos}{e:Expr}{es:List Expr}{t:TA}{id T:String}{r:List V->Hp->VK->Prop}
def tCB (r:List V->Hp->VK->Prop)(t:TA):TE:=fun σ H Q=>t σ H fun vs H1=>r vs H1 Q
theorem y0 (hc:M3 X (.builtin id) r)(hg:Gl X x)(hm:X.mg x=none)(hv:M8 x=some (.builtin id))(ha:PA X (e::es) t)(hn:x≠"__name__":=by decide)(hdb:(x == ("__debug__":Str))=false:=by decide)
   (he:D6 (e::es) X.env=(false,eval e X.env)::D6 es X.env:=by rfl) (hpl:(backTo pos (D6 es X.env)).any (·.1)=false:=by rfl):PE X (.Call (.Name x p) (e::es) [] pos) (tCB r t):=by
 intro pins s σ H Q I h;refine At (b0 I hg hm hv ?_ hn hdb);exact PyProof.Rows.callWith_builtin1 (thn (ha pos pins s σ H _ I h) fun us s1 ⟨vs,H1,I1,r1,q1⟩=>hc pins s1 σ H1 vs us Q I1 r1 q1) he hpl
theorem Cf (hc:M3 X (.type T) r)(hg:Gl X x)(hm:X.mg x=none)(hv:M8 x=some (.type T))(ha:PA X (e::es) t)(hn:x≠"__name__":=by decide)(hdb:(x == ("__debug__":Str))=false:=by decide)
   (he:D6 (e::es) X.env=(false,eval e X.env)::D6 es X.env:=by rfl) (hpl:(backTo pos (D6 es X.env)).any (·.1)=false:=by rfl):PE X (.Call (.Name x p) (e::es) [] pos) (tCB r t):=by
 intro pins s σ H Q I h;refine At (b0 I hg hm hv ?_ hn hdb);exact o0 (thn (ha pos pins s σ H _ I h) fun us s1 ⟨vs,H1,I1,r1,q1⟩=>hc pins s1 σ H1 vs us Q I1 r1 q1) he hpl
end
end L2
namespace HT
open PySem PyProof.Rows
section
variable {prog:C5}{w:World}{A:Around}{E:Value->Shared->Prop}{s:Shared}
theorem cat_tup (ht:IsTup s.heap t vs.toArray)(hb:IsTup s.heap b ws.toArray)(hv:vs≠[])
   (h1:ws=[]->Q (.ref t) s) (h2:ws≠[]->Q (.ref s.heap.objs.size) { s with heap:=s.heap.push { cls:=.type "tuple",data:=.seq (vs++ws).toArray } })
   (hsz:vs.length + ws.length<=B5):wpAny (model prog w) A (Q2 .Add (.ref t) (.ref b)) Q E s:=by
 obtain⟨⟨cls,dd,data,sl⟩,ho,hc,n,hd⟩:=id ht;obtain⟨⟨cls2,dd2,data2,sl2⟩,ho2,hc2,n2,hd2⟩:=id hb;simp only at hc hd hc2 hd2;subst hc hd hc2 hd2;have e:vs.toArray++ws.toArray=(vs++ws).toArray:=by simp
 by_cases hw:ws=[]
 · exact concat_meets ⟨_,ho,rfl⟩ ⟨_,ho2,rfl⟩ noFill_tuple_add seq_tuple_add FM FK (FJ _ _)
     (tuple_addW1 t b vs.toArray ws.toArray n n2 dd dd2 sl sl2 (by simpa using hv) (by simp [hw])) ⟨ho,ho2,h1 hw⟩
 · refine concat_meets ⟨_,ho,rfl⟩ ⟨_,ho2,rfl⟩ noFill_tuple_add seq_tuple_add FM FK (FJ _ _)
     (tuple_addW2 t b vs.toArray ws.toArray n n2 dd dd2 sl sl2 (by simpa using hv) (by simpa using hw) (by rw [E3,E3];exact hsz)) ⟨ho,ho2,?_⟩
   rw [e];exact h2 hw
def sIx (n d:Nat):Option Int->Nat
 | none=>d
 | some v=>if v < 0 then(v + (n:Int)).toNat else min v.toNat n
theorem sIx_none (n d:Nat):sIx n d none=d:=rfl
theorem sIx_nat (n d k:Nat):sIx n d (some (k:Int))=min k n:=by
 show(if(k:Int) < 0 then((k:Int) + (n:Int)).toNat else min (k:Int).toNat n)=min k n;rw [if_neg (by omega),P4]
theorem sIx_le (n d:Nat)(hd:d<=n)(o:Option Int):sIx n d o<=n:=by
 cases o with
 | none=>exact hd
 | some v =>
   show(if v < 0 then(v + (n:Int)).toNat else min v.toNat n)<=n
   by_cases hv:v < 0
   · rw [if_pos hv];omega
   · rw [if_neg hv];exact Nat.min_le_right _ _
theorem IK (v:Int)(n d:Nat):(if v < 0 then max (v + (n:Int)) 0 else min v (n:Int))=((sIx n d (some v):Nat):Int):=by
 show(if v < 0 then max (v + (n:Int)) 0 else min v (n:Int))=(((if v < 0 then(v + (n:Int)).toNat else min v.toNat n):Nat):Int)
 by_cases hv:v < 0
 · simp only [if_pos hv];omega
 · simp only [if_neg hv];omega
theorem No (lo hi:Option Int)(n:Nat):BW lo hi 1 (n:Int)=(((sIx n 0 lo:Nat):Int),((sIx n n hi:Nat):Int)):=by
 have h1:¬((1:Int) < 0):=by omega
 unfold BW;simp only [h1,if_false];refine Prod.ext ?_ ?_
 · cases lo with
   | none=>rfl
   | some v=>exact IK v n 0
 · cases hi with
   | none=>rfl
   | some v=>exact IK v n n
theorem Np (i j:Nat):o5 (i:Int) (j:Int) 1=j - i:=by
 unfold o5;have h1:(1:Int) > 0:=by omega
 simp only [h1,if_true,Int.ediv_one]
 split <;> omega
theorem Cg (p:IsPart v o)(h:Q o s):wpAny (model prog w) A (Builtin.Slice.slicePartIndex v) Q E s:=by
 cases p with
 | none=>exact slicePart_none h
 | int i t=>exact slicePart_int h
theorem IL {lo hi:Option Int}{n:Nat}{Q:Int×Int×Nat->Shared->Prop}(hs:s.heap.IsSliceOf sl vl vu .none)(pl:IsPart vl lo)(pu:IsPart vu hi)
   (h:Q (((sIx n 0 lo:Nat):Int),1,sIx n n hi - sIx n 0 lo) s):wpAny (model prog w) A (DF (.ref sl) (pure (n:Int))) Q E s:=by
 obtain⟨os,hos,hcs,hds⟩:=id hs;unfold DF Ir;refine A0 (A0 (L3 hos hds (x:=vl) rfl (A0 (L3 hos hds (x:=vu) rfl (A0 (L3 hos hds (x:=.none) rfl (A5 ?_)))))));refine A0 (slicePart_none ?_);show wpAny _ _ (if((1:Int) == 0)=true then _ else _) _ _ s;rw [if_neg (by decide)];refine A0 (Cg pl (A0 (Cg pu (A0 (A5 ?_)))));show wpAny _ _ (match BW lo hi 1 (n:Int) with | (lo,hi)=>pure (lo,(1:Int),o5 lo hi 1)) _ _ s;rw [No lo hi n];show wpAny _ _ (pure (((sIx n 0 lo:Nat):Int),(1:Int),o5 ((sIx n 0 lo:Nat):Int) ((sIx n n hi:Nat):Int) 1)) _ _ s;rw [Np];exact A5 h
theorem Nq (xs:Array Value)(i k:Nat):((C2 k).filterMap fun(m:Nat)=>xs[((i:Int) + (m:Int) * 1).toNat]?).toArray=((xs.toList.drop i).take k).toArray:=by
 have e:(fun(m:Nat)=>xs[((i:Int) + (m:Int) * 1).toNat]?)=fun m=>xs[i + m]?:=by
   funext m
   have:((i:Int) + (m:Int) * 1).toNat=i + m:=by omega
   rw [this]
 rw [e];have:=pick_run xs i k;rw [List.filterMap_map] at this;have e2:((fun x=>xs[x]?)∘fun x=>i + x)=fun m=>xs[i + m]?:=rfl
 grind
theorem getItem_tuple_cut {lo hi:Option Int}(ht:IsTup s.heap t items)(hs:s.heap.IsSliceOf sl vl vu .none)(pl:IsPart vl lo)(pu:IsPart vu hi)
   (hw:¬(sIx items.size 0 lo=0/\sIx items.size items.size hi=items.size))
   (h:Q (.ref s.heap.objs.size) { s with heap:=s.heap.push { cls:=.type "tuple",data:=.seq ((items.toList.drop (sIx items.size 0 lo)).take (sIx items.size items.size hi - sIx items.size 0 lo)).toArray } })
   (hsz:items.size<=B5):wpAny (model prog w) A (U4 (.ref t) (.ref sl)) Q E s:=by
 have htake:sizeOk (.seq ((items.toList.drop (sIx items.size 0 lo)).take (sIx items.size items.size hi - sIx items.size 0 lo)).toArray):=by
   show((items.toList.drop (sIx items.size 0 lo)).take (sIx items.size items.size hi - sIx items.size 0 lo)).toArray.size<=B5;rw [E3,Q4,U8,T1];omega
 have hj:sIx items.size items.size hi<=items.size:=sIx_le _ _ (B4 _) hi;obtain⟨os,hos,hcs,hds⟩:=id hs;have hTs:s.TypeIs (.ref sl) "slice":=⟨os,hos,hcs⟩;unfold U4
 try with_reducible refine M7 ?_
 first | refine A0 (A5 ?_) | skip
 refine A0 (wpAny_sequenceKey ht.typeIs (by decide) ?_)
 refine A0 (l4 (name:=A3 "__getitem__") ht.typeIs AI
   (W0 AI ht.typeIs entry_tuple_getitem ?_ (args_tuple_getitem _ _)))
 show wpAny _ _ (FI (.ref t)>>=_) _ _ s;refine A0 (tupleItemsOf_ ht ?_);refine A0 (wpAny_typeOf hTs ?_);rw [if_pos (by decide)];refine A0 (IL hs pl pu ?_)
 have hno:¬((((sIx items.size 0 lo:Nat):Int) == 0 && (1:Int) == 1 && (sIx items.size items.size hi - sIx items.size 0 lo) == items.size)=true):=by
   intro q;rw [l9,l9] at q;have q1:((sIx items.size 0 lo:Nat):Int)=0:=eq_of_beq q.1.1;have q2:sIx items.size items.size hi - sIx items.size 0 lo=items.size:=eq_of_beq q.2;exact hw ⟨by omega,by omega⟩
 show wpAny _ _ (if(((sIx items.size 0 lo:Nat):Int) == 0 && (1:Int) == 1 && (sIx items.size items.size hi - sIx items.size 0 lo) == items.size)=true then _ else _) _ _ s;rw [if_neg hno,Nq]
 first
   | exact A0 (m:=o6 _) (O6 (A5 ⟨_,rfl,A5 h⟩) htake)
   | exact A0 (m:=o6 _) (O6 (A0 (A5 (A5 ⟨_,rfl,A5 h⟩))) htake)
   | exact A0 (A0 (m:=o6 _) (O6 (A5 (A5 ⟨_,rfl,A5 h⟩)) htake))
   | exact A0 (A0 (m:=o6 _) (O6 (A5 ⟨_,rfl,A5 h⟩) htake))
end
end HT
namespace L2
open PySem PySem.Spec PyProof.Rows
abbrev TO:=St->Hp->(Option Int->Hp->Prop)->Prop
def PO (X:Cx)(e:Option Expr)(t:TO):Prop:=
 ∀ (pins : List (Addr × Obj)) (s : Shared) (σ : St) (H : Hp) (Q : Option Int -> Hp -> Prop), Inv X pins σ H s -> t σ H Q ->
   wpAny (model X.prog X.w) X.A (evalPart e X.env) (fun u s'=>∃o H',Inv X pins σ H' s'/\IsPart u o/\Q o H') X.xe s
def Nr:TO:=fun _ H Q=>Q none H
def tPart (t:TE):TO:=fun σ H Q=>t σ H fun x H1=>∃i,x=.int i/\Q (some i) H1
section
variable {X:Cx}{e:Expr}{te:TE}{lo hi:Option Expr}{tl th:TO}{pos p2:Pos}
theorem FY:PO X none Nr:=by
 intro pins s σ H Q I h;rw [evalPart_none];exact A5 ⟨none,H,I,.none,h⟩
theorem FZ (h:PE X e te):PO X (some e) (tPart te):=by
 intro pins s σ H Q I hw;rw [evalPart_some];refine thn (h pins s σ H _ I hw) fun u s1 ⟨x,H1,I1,r1,q1⟩=>?_;obtain⟨i,rfl,q⟩:=q1;obtain⟨t,rfl⟩:=r1;exact⟨some i,H1,I1,.int i t,q⟩
def SlR (X:Cx)(r:V->Option Int->Option Int->Hp->VK->Prop):Prop:=
 ∀ (pins : List (Addr × Obj)) (s : Shared) (σ : St) (H : Hp) (x : V) (v vl vu : Value) (lo hi : Option Int) (sl : Addr) (Q : VK), Inv X pins σ H s -> RelV x v -> s.heap.IsSliceOf sl vl vu .none -> IsPart vl lo -> IsPart vu hi -> r x lo hi H Q ->
   ∃T id,typeLookup (.type T) "__getitem__"=pure (some (.builtin id))/\s.TypeIs v T/\wpAny (model X.prog X.w) X.A (U4 v (.ref sl)) (EP X pins σ Q) X.xe s
theorem SlR.or (h:SlR X r)(h':SlR X r'):SlR X (fun x lo hi H Q=>r x lo hi H Q\/r' x lo hi H Q):=by
 intro pins s σ H x v vl vu lo hi sl Q I rx hs pl pu q;rcases q with q | q
 · exact h pins s σ H x v vl vu lo hi sl Q I rx hs pl pu q
 · exact h' pins s σ H x v vl vu lo hi sl Q I rx hs pl pu q
def tSl (r:V->Option Int->Option Int->Hp->VK->Prop)(te:TE)(tl th:TO):TE:=fun σ H Q=>te σ H fun x H1=>tl σ H1 fun l H2=>th σ H2 fun u H3=>r x l u H3 Q
theorem F_ (hr:SlR X r)(he:PE X e te)(hl:PO X lo tl)(hu:PO X hi th):PE X (.Subscript e (.Slice lo hi none p2) pos) (tSl r te tl th):=by
 intro pins s σ H Q I h;refine Subscript_ (thn (he pins s σ H _ I h) fun v s1 ⟨x,H1,I1,r1,q1⟩=>?_);refine wpAny_Slice (thn (hl pins s1 σ H1 _ I1 q1) fun vl s2 ⟨l,H2,I2,pl,q2⟩=>thn (hu pins s2 σ H2 _ I2 q2) fun vu s3 ⟨u,H3,I3,pu,q3⟩=>?_);rw [evalPart_none];refine A5 ?_;have I4:Inv X pins σ H3 { s3 with heap:=s3.heap.push { cls:=.type "slice",data:=.fields #[vl,vu,.none] } }:=I3.kept (t':=s3.toks) fun b ob q=>B7 _ q;obtain⟨T,id,hT,ht,hg⟩:=hr pins { s3 with heap:=s3.heap.push { cls:=.type "slice",data:=.fields #[vl,vu,.none] } } σ H3 x v vl vu l u s3.heap.objs.size Q I4 r1 (FP ..) pl pu q3;show wpAny (model X.prog X.w) X.A (subscriptTail e (.Slice lo hi none p2) v (.ref s3.heap.objs.size)) (EP X pins σ Q) X.xe { s3 with heap:=s3.heap.push { cls:=.type "slice",data:=.fields #[vl,vu,.none] } };exact tail_any (ops:=[.ref s3.heap.objs.size,v]) ht hT hg (by with_unfolding_all rfl)
def cutV (xs:List V)(lo hi:Option Int):List V:=(xs.drop (HT.sIx xs.length 0 lo)).take (HT.sIx xs.length xs.length hi - HT.sIx xs.length 0 lo)
theorem IM (xs:List V)(lo hi:Option Int):(cutV xs lo hi).length<=xs.length:=by
 unfold cutV;rw [Q4,U8];omega
def rSlT (K:A4):V->Option Int->Option Int->Hp->VK->Prop:=fun x lo hi H Q=>∃a xs,x=.ref a/\SqT K H a xs/\
 ¬(HT.sIx xs.length 0 lo=0/\HT.sIx xs.length xs.length hi=xs.length)/\∀p,H p=none->Q (.ref p) (upd H p (.tup (cutV xs lo hi)))
theorem sl_tup:SlR X (rSlT X.K):=by
 intro pins s σ H x v vl vu lo hi sl Q I rx hs pl pu h;obtain⟨a,xs,rfl,hx,hw,q⟩:=h;cases rx;obtain⟨its,r,ht,hz⟩:=I.tuple hx;have hlen:its.toArray.size=xs.length:=by rw [E3];exact r.length.symm
 refine⟨"tuple",_,PyProof.Rows.slot_tuple_getitem.lookup,ht.typeIs,?_⟩;refine HT.getItem_tuple_cut ht hs pl pu (by rw [hlen];exact hw) ?_ (by rw [hlen];exact hz);rw [hlen];refine⟨.ref s.heap.objs.size,_,I.laid (t':=s.toks) (o:=.tup (cutV xs lo hi)) (fun b ob q=>B7 _ q) (B4 _) ?_,rfl,q _ (I.hok.fresh (B4 _))⟩;exact⟨K5 (IM xs lo hi) hz,_,(r.drop (HT.sIx xs.length 0 lo)).take (HT.sIx xs.length xs.length hi - HT.sIx xs.length 0 lo),X5.new _ _⟩
def rCatT (K:A4):R2:=fun x y H Q=>∃a b xs ys,x=.ref a/\y=.ref b/\SqT K H a xs/\SqT K H b ys/\xs≠[]/\xs.length + ys.length<=B5/\
 (ys=[]->Q (.ref a) H)/\(ys≠[]->∀p,H p=none->Q (.ref p) (upd H p (.tup (xs++ys))))
theorem Vals.nil_iff (r:Vals xs us):us=[]↔xs=[]:=by
 cases r with
 | nil=>simp
 | cons _ _=>simp
theorem Nt:OpR X (Q2 .Add) (rCatT X.K):=by
 intro pins s σ H x y v u Q I rx ry h;obtain⟨a,b,xs,ys,rfl,rfl,ha,hb,hx,hz,q1,q2⟩:=h;cases rx;cases ry;obtain⟨its,r1,p1,_⟩:=I.tuple ha;obtain⟨its2,r2,p2,_⟩:=I.tuple hb;refine HT.cat_tup p1 p2 (fun z=>hx (r1.nil_iff.mp z)) (fun z=>⟨.ref a,H,I,rfl,q1 (r2.nil_iff.mp z)⟩) (fun z=>?_) (by rw [<- r1.length,<- r2.length];exact hz);refine⟨.ref s.heap.objs.size,_,I.laid (t':=s.toks) (o:=.tup (xs++ys)) (fun b ob q=>B7 _ q) (B4 _) ?_,rfl,q2 (fun w=>z (r2.nil_iff.mpr w)) _ (I.hok.fresh (B4 _))⟩;exact⟨by rw [E1];exact hz,_,r1.append r2,X5.new _ _⟩
end
def ixN (n:Nat)(i:Int):Option Nat:=if 0<=i then(if i < n then some i.toNat else none) else if -(n:Int)<=i then some (i + n).toNat else none
def atI {α:Type}(xs:List α)(i:Int):Option α:=(ixN xs.length i).bind fun j=>xs[j]?
theorem IN (h:ixN n i=some j):seqIndex? i n=some j/\j < n/\-(n:Int)<=i/\i < n:=by
 unfold ixN at h
 by_cases h0:0<=i
 · rw [if_pos h0] at h
   by_cases h1:i < n
   · rw [if_pos h1] at h;have e:i.toNat=j:=N0 h;exact⟨by rw [seqIndex_of h0 h1,e],by omega,by omega,h1⟩
   · rw [if_neg h1] at h;cases h
 · rw [if_neg h0] at h
   by_cases h1:-(n:Int)<=i
   · rw [if_pos h1] at h;have e:(i + n).toNat=j:=N0 h;exact⟨by rw [seqIndex_neg (by omega) h1,e],by omega,h1,by omega⟩
   · rw [if_neg h1] at h;cases h
theorem Ga {α:Type}{xs:List α}{i:Int}{v:α}(h:atI xs i=some v):∃j,seqIndex? i xs.length=some j/\xs[j]?=some v/\j < xs.length/\-(xs.length:Int)<=i/\i < xs.length:=by
 unfold atI at h;cases e:ixN xs.length i with
 | none=>rw [e] at h;cases h
 | some j =>
   rw [e] at h;obtain⟨h1,h2,h3,h4⟩:=IN e;exact⟨j,h1,h,h2,h3,h4⟩
theorem y4 {α:Type}{xs:List α}{j:Nat}{v:α}(h:xs[j]?=some v):atI xs (j:Int)=some v:=by
 have hj:j < xs.length:=(D9.mp h).1
 have e:ixN xs.length (j:Int)=some j:=by
   unfold ixN;rw [if_pos (by omega),if_pos (by omega)];simp
 unfold atI;rw [e];exact h
theorem IP {α:Type}(xs:List α)(v:α):atI (xs++[v]) (-1)=some v:=by
 have hl:(xs++[v]).length=xs.length + 1:=by simp
 have e:ixN (xs++[v]).length (-1)=some xs.length:=by
   unfold ixN;rw [hl,if_neg (by decide),if_pos (by omega)]
   congr 1
   omega
 unfold atI;rw [e];show(xs++[v])[xs.length]?=some v;simp
def Gb (b:Expr):Prop:=∀o i,subscripted b false o i=operate [o,i] (U4 o i)
def IxR (X:Cx)(r:R2):Prop:=
 ∀ (value slice : Expr) (pins : List (Addr × Obj)) (s : Shared) (σ : St) (H : Hp) (x y : V) (v u : Value) (Q : VK), Inv X pins σ H s -> RelV x v -> RelV y u -> r x y H Q ->
   subscripted slice false v u=operate [v,u] (U4 v u)->wpAny (model X.prog X.w) X.A (subscriptTail value slice v u) (EP X pins σ Q) X.xe s
def MtR (X:Cx)(id:String)(r:V->List V->Hp->VK->Prop):Prop:=
 ∀ (pins : List (Addr × Obj)) (s : Shared) (σ : St) (H : Hp) (x : V) (xs : List V) (v : Value) (us : List Value) (Q : VK), Inv X pins σ H s -> RelV x v -> Vals xs us -> r x xs H Q ->
   wpAny (model X.prog X.w) X.A (call (.builtin id) (v::us)) (EP X pins σ Q) X.xe s
section
variable {X:Cx}{a b:Expr}{ta tb:TE}{pos:Pos}
theorem IxR.or (h:IxR X r)(h':IxR X r'):IxR X (fun x y H Q=>r x y H Q\/r' x y H Q):=by
 intro value slice pins s σ H x y v u Q I rx ry q hs;rcases q with q | q
 · exact h value slice pins s σ H x y v u Q I rx ry q hs
 · exact h' value slice pins s σ H x y v u Q I rx ry q hs
theorem Gc (hr:IxR X r)(ha:PE X a ta)(hb:PE X b tb)(hs:Gb b):PE X (.Subscript a b pos) (tOp r ta tb):=by
 intro pins s σ H Q I h;exact Subscript_ (binT ha hb I h fun v u s2 x y H2 I2 rx ry q=>hr a b pins s2 σ H2 x y v u Q I2 rx ry q (hs _ _))
def rIxL (K:A4):R2:=fun x y H Q=>∃p xs i v,x=.ref p/\y=.int i/\SqL K H p xs/\atI xs i=some v/\Q v H
def rIxT (K:A4):R2:=fun x y H Q=>∃p xs i v,x=.ref p/\y=.int i/\SqT K H p xs/\atI xs i=some v/\Q v H
def rIxS:R2:=fun x y H Q=>∃z i c,x=.str z/\y=.int i/\z.length<=B5/\atI z.cps.toList i=some c/\Q (.str ⟨#[c]⟩) H
theorem IQ:IxR X (rIxL X.K):=by
 intro value slice pins s σ H x y v u Q I rx ry h hs;obtain⟨p,xs,i,z,rfl,rfl,hq,he,q⟩:=h;cases rx;obtain⟨t,rfl⟩:=ry;obtain⟨its,r,pl,hz⟩:=I.list hq;obtain⟨j,h1,h2,h3,h4,h5⟩:=Ga he;obtain⟨w,ew,rw'⟩:=r.get h2;have hl:=r.length;have hn:=x9;have fin:EP X pins σ Q w s:=⟨z,H,I,rw',q⟩
 by_cases h0:0<=i
 · have hj:i.toNat=j:=by
     rw [seqIndex_of h0 h5] at h1;exact N0 h1
   exact item_listR pl.isList h0 (by omega) (by rw [hj];simpa using ew) fin hs
 · have hj:(i + (its.toArray.size:Int)).toNat=j:=by
     rw [seqIndex_neg (by omega) h4] at h1;rw [E3,<- hl];exact N0 h1
   exact subscriptTail_builtinR (x:=w) pl.isList.typeIs slot_list_getitem.lookup
     (wpAny_getItem_list_neg (Q:=fun r s'=>r=w/\EP X pins σ Q r s') pl.isList (by omega) (by rw [E3] <;> omega) (by omega) (by rw [hj];simpa using ew) ⟨rfl,fin⟩) hs
theorem ix_tup:IxR X (rIxT X.K):=by
 intro value slice pins s σ H x y v u Q I rx ry h hs;obtain⟨p,xs,i,z,rfl,rfl,hq,he,q⟩:=h;cases rx;obtain⟨t,rfl⟩:=ry;obtain⟨its,r,pl,hz⟩:=I.tuple hq;obtain⟨j,h1,h2,h3,h4,h5⟩:=Ga he;obtain⟨w,ew,rw'⟩:=r.get h2;have hl:=r.length;have hn:=x9;have fin:EP X pins σ Q w s:=⟨z,H,I,rw',q⟩
 exact subscriptTail_builtinR (x:=w) pl.typeIs slot_tuple_getitem.lookup
   (getItem_tuple (j:=j) (Q:=fun r s'=>r=w/\EP X pins σ Q r s') pl (by omega) (by omega) (by grind) (by grind) ⟨rfl,fin⟩) hs
theorem ix_str:IxR X rIxS:=by
 intro value slice pins s σ H x y v u Q I rx ry h hs;obtain⟨z,i,c,rfl,rfl,hz,he,q⟩:=h;obtain⟨t,rfl⟩:=rx;obtain⟨t',rfl⟩:=ry;obtain⟨j,h1,h2,h3,h4,h5⟩:=Ga he;have hl:z.cps.toList.length=z.length:=by simp [Str.length]
 rw [hl] at h1 h4 h5;have hn:=x9
 exact tail_any (typeIs_str s z t) slot_str_getitem.lookup (getItem_str (c:=c) (by
   have e1:decide (i < -(2 ^ 63:Int))=false:=decide_eq_false (by omega);have e2:decide (i>=2 ^ 63)=false:=decide_eq_false (by omega)
   rw [e1,e2,BV]) (by grind) ⟨.str ⟨#[c]⟩,H,I.tok _,⟨_,rfl⟩,q⟩) hs
def rIx (K:A4):R2:=fun x y H Q=>rIxL K x y H Q\/rIxT K x y H Q\/rIxS x y H Q
theorem IR:IxR X (rIx X.K):=IQ.or (ix_tup.or ix_str)
theorem Nu (its:List Value)(n j:Nat)(u:Value):F4 (·.setIfInBounds j u) { cls:=.type "list",data:=.seq its.toArray n }={ cls:=.type "list",data:=.seq (its.set j u).toArray n }:=by
 simp [F4]
theorem Inv.lst (I:Inv X pins σ H s)(h:H p=some (.lst xs)) :
   ∃(its:List Value) (n:Nat),Vals xs its/\s.heap.get? p=some { cls:=.type "list",data:=.seq its.toArray n }/\xs.length<=B5:=by
 obtain⟨z,its,n,r,e⟩:=I.hok p _ h;exact⟨its,n,r,e,z⟩
theorem Inv.lstUpd {its its':List Value}(I:Inv X pins σ H s)(h:H p=some (.lst xs))
   (ho:s.heap.get? p=some { cls:=.type "list",data:=.seq its.toArray n }) (hf:f { cls:=.type "list",data:=.seq its.toArray n }={ cls:=.type "list",data:=.seq its'.toArray n' }) (r:Vals ys its') (hz:ys.length<=B5) (t:Nat) :
   Inv X pins σ (upd H p (.lst ys)) { s with heap:=s.heap.update p f,toks:=t }:=by
 have e:(s.heap.update p f).get? p=some { cls:=.type "list",data:=.seq its'.toArray n' }:=by
   rw [Heap.get?_update_self f ho (by rw [hf] <;> rfl),hf]
 refine I.write (x:=p) (e:=p) (by rw [h];trivial) (.inl rfl) (fun b u hb q=>(Heap.get?_update_other _ _ (Ne.symm hb)).trans q) ⟨_,e⟩ ?_;exact⟨hz,its',n',r,e⟩
def Ch:V->V->V->Hp->(Hp->Prop)->Prop:=fun o i v H Q=>∃p xs k j,o=.ref p/\i=.int k/\H p=some (.lst xs)/\ixN xs.length k=some j/\Q (upd H p (.lst (xs.set j v)))
theorem Nv:PSet X Ch:=by
 intro pins s σ H o i v ov iv u Q I ro ri rv h;obtain⟨p,xs,k,j,rfl,rfl,hp,hj,q⟩:=h;cases ro;obtain⟨t,rfl⟩:=ri;obtain⟨its,n,r,ho,hz⟩:=I.lst hp;obtain⟨h1,h2,h3,h4⟩:=IN hj;have hl:=r.length;have hn:=x9
 have I':Inv X pins σ (upd H p (.lst (xs.set j v))) { s with heap:=s.heap.update p (F4 (·.setIfInBounds j u)) }:=
   I.lstUpd hp ho (Nu its n j u) (r.set rv j) (by grind) s.toks
 by_cases h0:0<=k
 · have hk:k.toNat=j:=by
     rw [seqIndex_of h0 h4] at h1;exact N0 h1
   exact PySem.W.ki_setAt ho h0 (by omega) (by grind) (by grind)
 · have hk:(k + (its.toArray.size:Int)).toNat=j:=by
     rw [seqIndex_neg (by omega) h3] at h1;rw [E3,<- hl];exact N0 h1
   exact PySem.W.ki_setBack ho (by omega) (by rw [E3,<- hl];exact h3) (by omega) (by rw [hk];exact⟨_,I',q⟩)
theorem Nw (lo hi:Option Int)(n:Nat):(v5 lo hi none n).1=((HT.sIx n 0 lo:Nat):Int)/\(v5 lo hi none n).2.1=((HT.sIx n n hi:Nat):Int)/\(v5 lo hi none n).2.2=1:=by
 refine⟨?_,?_,rfl⟩
 · cases lo with
   | none=>simp [v5,HT.sIx]
   | some i =>
     simp only [v5,HT.sIx,Option.getD_none,show(1:Int) > 0 by decide,if_true]
     by_cases h:i < 0
     · simp only [h,if_true] <;> omega
     · simp only [h,if_false] <;> omega
 · cases hi with
   | none=>simp [v5,HT.sIx]
   | some i =>
     simp only [v5,HT.sIx,Option.getD_none,show(1:Int) > 0 by decide,if_true]
     by_cases h:i < 0
     · simp only [h,if_true] <;> omega
     · simp only [h,if_false] <;> omega
theorem Nx (its:List Value)(lo hi:Option Int):slicePick its.toArray lo hi none=((its.drop (HT.sIx its.length 0 lo)).take (HT.sIx its.length its.length hi - HT.sIx its.length 0 lo)).toArray:=by
 obtain⟨h1,h2,h3⟩:=Nw lo hi its.toArray.size;unfold slicePick;rw [h1,h2,h3];simp only [sliceRange_one,pick_run,E3] <;> rfl
def rSlL (K:A4):V->Option Int->Option Int->Hp->VK->Prop:=fun x lo hi H Q=>∃a xs,x=.ref a/\SqL K H a xs/\∀p,H p=none->Q (.ref p) (upd H p (.lst (cutV xs lo hi)))
theorem Gd:SlR X (rSlL X.K):=by
 intro pins s σ H x v vl vu lo hi sl Q I rx hs pl pu h;obtain⟨a,xs,rfl,hx,q⟩:=h;cases rx;obtain⟨its,r,ht,hz⟩:=I.list hx;have hlen:=r.length;refine⟨"list",_,slot_list_getitem.lookup,ht.isList.typeIs,?_⟩;refine wpAny_getItem_list_slice ht.isList hs pl pu .none (by simp) ?_ (by rw [E3] <;> omega)
 rw [Nx,<- hlen];refine⟨.ref s.heap.objs.size,_,I.laid (t':=s.toks) (o:=.lst (cutV xs lo hi)) (fun b ob q=>B7 _ q) (B4 _) ?_,rfl,q _ (I.hok.fresh (B4 _))⟩;exact⟨K5 (IM xs lo hi) hz,_,0,(r.drop (HT.sIx xs.length 0 lo)).take (HT.sIx xs.length xs.length hi - HT.sIx xs.length 0 lo),F3 _ rfl⟩
def P5:V->Bool
 | .non=>true
 | .bl _=>true
 | .int _=>true
 | .str _=>true
 | _=>false
def eqV:V->V->Bool
 | .non,.non=>true
 | .bl a,.bl b=>a == b
 | .bl a,.int b=>(if a then 1 else 0) == b
 | .int a,.bl b=>a == (if b then 1 else 0)
 | .int a,.int b=>a == b
 | .str a,.str b=>a == b
 | _,_=>false
theorem IS (ry:RelV y u)(rx:RelV x v)(fy:P5 y=true)(fx:P5 x=true):x4 A s u v (eqV y x):=by
 cases y with
 | non =>
   cases ry;cases x with
   | non=>cases rx;exact SeqAt.EqAt.same _
   | bl b=>cases rx;exact SeqAt.EqAt.none_bool b
   | int b=>obtain⟨t,rfl⟩:=rx;exact SeqAt.EqAt.none_int b t
   | str b=>obtain⟨t,rfl⟩:=rx;exact SeqAt.EqAt.none_str b t
   | _=>exact absurd (show false=true from fx) N5
 | bl a =>
   cases ry;cases x with
   | non=>cases rx;exact SeqAt.EqAt.bool_none a
   | bl b=>cases rx;exact SeqAt.EqAt.bool_bool a b
   | int b=>obtain⟨t,rfl⟩:=rx;exact SeqAt.EqAt.bool_int a b t
   | str b=>obtain⟨t,rfl⟩:=rx;exact SeqAt.EqAt.bool_str a b t
   | _=>exact absurd (show false=true from fx) N5
 | int a =>
   obtain⟨t',rfl⟩:=ry;cases x with
   | non=>cases rx;exact SeqAt.EqAt.int_none a t'
   | bl b=>cases rx;exact SeqAt.EqAt.int_bool a t' b
   | int b=>obtain⟨t,rfl⟩:=rx;exact SeqAt.EqAt.int_int a t' b t
   | str b=>obtain⟨t,rfl⟩:=rx;exact SeqAt.EqAt.int_str a t' b t
   | _=>exact absurd (show false=true from fx) N5
 | str a =>
   obtain⟨t',rfl⟩:=ry;cases x with
   | non=>cases rx;exact SeqAt.EqAt.str_none a t'
   | bl b=>cases rx;exact SeqAt.EqAt.str_bool a t' b
   | int b=>obtain⟨t,rfl⟩:=rx;exact SeqAt.EqAt.str_int a t' b t
   | str b=>obtain⟨t,rfl⟩:=rx;exact SeqAt.EqAt.str_str a t' b t
   | _=>exact absurd (show false=true from fx) N5
 | _=>exact absurd (show false=true from fy) N5
theorem Ny:OpR X (O0 .NotIn) (fun x y H Q=>∃i j,x=.str i/\y=.str j/\Q (.bl (!(!(AM j i 0 j.length 1).isEmpty))) H):=by
 intro pins s σ H x y v u Q I rx ry h;obtain⟨i,j,rfl,rfl,q⟩:=h;obtain⟨t,rfl⟩:=rx;obtain⟨t',rfl⟩:=ry;exact notIn_str ⟨.bl _,H,I,rfl,q⟩
theorem Ge:M3 X (.builtin "len") (fun xs H Q=>∃p ys,xs=[.ref p]/\(SqL X.K H p ys\/SqT X.K H p ys)/\Q (.int ys.length) H):=by
 intro pins s σ H xs us Q I r h;obtain⟨p,ys,rfl,hq,q⟩:=h;obtain⟨u,rfl,rx⟩:=o8 r;cases rx;have hn:=x9;rcases hq with hq | hq
 · obtain⟨its,r',pl,hz⟩:=I.list hq;have hlen:=r'.length;exact Calls.call_len_list pl.isList (by simp only [E3] <;> omega) ⟨.int ys.length,H,I.tok _,⟨s.toks + 1,by rw [E3,hlen]⟩,q⟩
 · obtain⟨its,r',pl,hz⟩:=I.tuple hq;have hlen:=r'.length;exact len_tuple pl (by simp only [E3] <;> omega) ⟨.int ys.length,H,I.tok _,⟨s.toks + 1,by rw [E3,hlen]⟩,q⟩
theorem Nz:M3 X (.builtin "len") (fun xs H Q=>∃z,xs=[.str z]/\z.length<=B5/\Q (.int z.length) H):=by
 intro pins s σ H xs us Q I r h;obtain⟨z,rfl,hz,q⟩:=h;obtain⟨u,rfl,t,rfl⟩:=o8 r;have hn:=x9;exact len_str (by omega) ⟨.int z.length,H,I.tok _,⟨_,rfl⟩,q⟩
theorem M3.or (h:M3 X f r)(h':M3 X f r'):M3 X f (fun xs H Q=>r xs H Q\/r' xs H Q):=by
 intro pins s σ H xs us Q I rs q;rcases q with q | q
 · exact h pins s σ H xs us Q I rs q
 · exact h' pins s σ H xs us Q I rs q
theorem IT:M3 X (.type "list") (fun xs H Q=>∃p ys,xs=[.ref p]/\(SqL X.K H p ys\/SqT X.K H p ys)/\∀l,H l=none->Q (.ref l) (upd H l (.lst ys))):=by
 intro pins s σ H xs us Q I r h;obtain⟨p,ys,rfl,hq,q⟩:=h;obtain⟨u,rfl,rx⟩:=o8 r;cases rx
 have fin:∀(its:List Value),Vals ys its->ys.length<=B5->∀(h':Heap) (c':Nat),(∀b o',s.heap.get? b=some o'->h'.get? b=some o')->
     h'.get? s.heap.objs.size=some { cls:=.type "list",dict:=none,data:=.seq its.toArray c',slots:=#[] }->EP X pins σ Q (.ref s.heap.objs.size) { s with heap:=h' }:=fun its r' hz h' c' kp e=>
   ⟨.ref s.heap.objs.size,_,I.laid (t':=s.toks) kp (B4 _) (show G5 X.prog X.w _ h' _ (.lst ys) from⟨hz,its,c',r',e⟩),rfl,q _ (I.hok.fresh (B4 _))⟩
 rcases hq with hq | hq
 · obtain⟨its,r',pl,hz⟩:=I.list hq;have hlen:=r'.length;obtain⟨o,ho,hc,n,hd⟩:=pl.isList;exact call_list_seq p (.inl rfl) ho hc hd (fun h' c' kp e=>fin its r' hz h' c' kp e) (by simp only [E3] <;> omega)
 · obtain⟨its,r',pl,hz⟩:=I.tuple hq;have hlen:=r'.length;obtain⟨o,ho,hc,n,hd⟩:=pl;exact call_list_seq p (.inr rfl) ho hc hd (fun h' c' kp e=>fin its r' hz h' c' kp e) (by simp only [E3] <;> omega)
theorem NA:M3 X (.type "tuple") (fun xs H Q=>∃p ys,xs=[.ref p]/\((SqL X.K H p ys/\∀l,H l=none->Q (.ref l) (upd H l (.tup ys)))\/(SqT X.K H p ys/\Q (.ref p) H))):=by
 intro pins s σ H xs us Q I r h;obtain⟨p,ys,rfl,h⟩:=h;obtain⟨u,rfl,rx⟩:=o8 r;cases rx;rcases h with⟨hq,q⟩ | ⟨hq,q⟩
 · obtain⟨its,r',pl,hz⟩:=I.list hq;have hlen:=r'.length;refine call_tuple_list pl.isList (fun h' kp=>?_) (by simp only [E3] <;> omega)
   have I1:Inv X pins σ H { s with heap:=h' }:=I.kept (t':=s.toks) kp
   have I2:Inv X pins σ (upd H h'.objs.size (.tup ys)) { s with heap:=h'.push { cls:=.type "tuple",data:=.seq its.toArray } }:=
     I1.laid (t':=s.toks) (fun b o e=>B7 _ e) (B4 _) (show G5 X.prog X.w _ _ _ (.tup ys) from⟨hz,its,r',X5.new _ _⟩)
   exact⟨.ref h'.objs.size,_,I2,rfl,q _ (I1.hok.fresh (B4 _))⟩
 · obtain⟨its,r',pl,hz⟩:=I.tuple hq;exact call_tuple_same pl ⟨.ref p,H,I,rfl,q⟩
def tyV (K:A4)(T:String)(x:V)(H:Hp):Prop:=match x with
 | .str _=>T="str"
 | .int _=>T="int"
 | .ref p=>(T="list"/\∃xs,SqL K H p xs)\/(T="tuple"/\((∃o,K.lookup p=some o/\o.cls=.type "tuple"/\o.dict=none)\/∃xs,H p=some (.tup xs)))\/
     (T="dict"/\((∃kvs,H p=some (.dK kvs))\/∃kvs,H p=some (.dT kvs)))\/(T="set"/\∃S n,H p=some (.set S n))
 | _=>False
theorem IU (I:Inv X pins σ H s)(r:RelV x v)(ty:tyV X.K T x H) :
   s.TypeIs v T/\∀a,v=.ref a->∃ob,s.heap.get? a=some ob/\ob.dict=none:=by
 cases x with
 | str z =>
   obtain⟨t,rfl⟩:=r;cases(show T="str" from ty);exact⟨typeIs_str s z t,fun _ e=>nomatch e⟩
 | int i =>
   obtain⟨t,rfl⟩:=r;cases(show T="int" from ty);exact⟨typeIs_int s i t,fun _ e=>nomatch e⟩
 | ref p =>
   cases r;rcases ty with⟨rfl,xs,hq⟩ | ⟨rfl,hk⟩ | ⟨rfl,hk⟩ | ⟨rfl,S,n,hk⟩
   · obtain⟨its,_,pl,_⟩:=I.list hq;refine⟨pl.isList.typeIs,fun a e=>?_⟩;cases e;obtain⟨o,n,e,c,hd,_⟩:=pl;exact⟨o,e,hd⟩
   · rcases hk with⟨o,hk,hc,hd⟩ | ⟨xs,hk⟩
     · refine⟨⟨o,I.kIn p o hk,hc⟩,fun a e=>?_⟩;cases e;exact⟨o,I.kIn _ o hk,hd⟩
     · obtain⟨_,_,_,o,e,c,_⟩:=(show G5 X.prog X.w H s.heap p (.tup xs) from I.hok p _ hk);refine⟨⟨o,e,(Ca c).1⟩,fun a e2=>?_⟩;cases e2;exact⟨o,e,(Ca c).2⟩
   · have z:∃o,s.heap.get? p=some o/\o.ExactDict:=by
       rcases hk with⟨kvs,hk⟩ | ⟨kvs,hk⟩
       · obtain⟨_,_,_,_,o,_,_,e,ex,_⟩:=I.hok p _ hk;exact⟨o,e,ex⟩
       · obtain⟨_,_,_,_,o,_,_,e,ex,_⟩:=I.hok p _ hk;exact⟨o,e,ex⟩
     obtain⟨o,e,ex⟩:=z;refine⟨⟨o,e,ex.1⟩,fun a e2=>?_⟩;cases e2;exact⟨o,e,ex.2.1⟩
   · obtain⟨o,_,_,_,e,ex,_⟩:=I.hok p _ hk;refine⟨⟨o,e,ex.1⟩,fun a e2=>?_⟩;cases e2;exact⟨o,e,ex.2.1⟩
 | _=>exact Z8 ty
def tBM0 (K:A4)(T:String)(r:V->List V->Hp->VK->Prop)(to:TE):TE:=fun σ H Q=>to σ H fun x H1=>tyV K T x H1/\r x [] H1 Q
def tBM (K:A4)(T:String)(r:V->List V->Hp->VK->Prop)(to:TE)(t:TA):TE:=fun σ H Q=>to σ H fun x H1=>tyV K T x H1/\t σ H1 fun xs H2=>r x xs H2 Q
variable {o e:Expr}{es:List Expr}{to:TE}{t:TA}{name:Str}{apos cpos:Pos}{T id:String}{r:V->List V->Hp->VK->Prop}
theorem pe_bm0 (pa:PlainAttrs T)(slot:Slot T name id)(hty:typeOf (.builtin id)=pure (.type "method_descriptor"))(hm:MtR X id r)(ho:PE X o to)
   (hbase:Y6 o name X.env (eval o X.env)=eval o X.env:=by rfl) (hline:(apos.endLine == cpos.line)=true:=by rfl):PE X (.Call (.Attribute o name apos) [] [] cpos) (tBM0 X.K T r to):=by
 intro pins s σ H Q I h;refine wpAny_Call_method0_late hbase hline (thn (ho pins s σ H _ I h) fun v s1 ⟨x,H1,I1,r1,ty,q1⟩=>?_);obtain⟨h1,h2⟩:=IU I1 r1 ty;exact⟨T,id,pa,slot,hty,h1,h2,DO rfl (PySem.evalArgs_none (hm pins s1 σ H1 x [] v [] Q I1 r1 .nil q1))⟩
theorem Ci (pa:PlainAttrs T)(slot:Slot T name id)(hty:typeOf (.builtin id)=pure (.type "method_descriptor"))(hm:MtR X id r)(ho:PE X o to)(ha:PA X (e::es) t)
   (hbase:Y6 o name X.env (eval o X.env)=eval o X.env:=by rfl)
   (hfew:((backTo cpos (D6 (e::es) X.env)).all (fun x=>!x.1) && (W5 cpos (W3 [] X.env)).all (fun x=>x.1.isSome)
     && decide ((e::es).length + ([]:List O1).length + (if([]:List O1).isEmpty then 0 else 1) < 30))=true:=by rfl)
   (hline:(apos.endLine == cpos.line)=true:=by rfl) (hs:D6 (e::es) X.env=(false,eval e X.env)::D6 es X.env:=by rfl) (hplain:(backTo cpos (D6 es X.env)).any (·.1)=false:=by rfl) :
   PE X (.Call (.Attribute o name apos) (e::es) [] cpos) (tBM X.K T r to t):=by
 intro pins s σ H Q I h;refine wpAny_Call_method_late hbase hfew hline rfl (thn (ho pins s σ H _ I h) fun v s1 ⟨x,H1,I1,r1,ty,q1⟩=>?_);obtain⟨h1,h2⟩:=IU I1 r1 ty;refine⟨T,id,pa,slot,hty,h1,h2,?_⟩;have hA:=ha cpos pins s1 σ H1 _ I1 q1;rw [hs] at hA ⊢;refine DO (by show(false || (backTo cpos (D6 es X.env)).any (·.1))=false;rw [hplain] <;> rfl) (FN ?_)
 exact thn hA fun us s2 ⟨vs,H2,I2,r2,q2⟩=>hm pins s2 σ H2 x vs v us Q I2 r1 r2 q2
end
def MtM (X:Cx)(id:String)(r:V->List V->Hp->VK->Prop):Prop:=
 ∀ (pins : List (Addr × Obj)) (s : Shared) (σ : St) (H : Hp) (x : V) (xs : List V) (v : Value) (us : List Value) (Q : VK), Inv X pins σ H s -> RelV x v -> Vals xs us -> r x xs H Q ->
   wpAny (model X.prog X.w) X.A (call (.builtin id) (v::us)) (EP X pins σ Q) X.xe s
theorem Vals.one (h:Vals [x] us):∃u,us=[u]/\RelV x u:=by
 cases h with | cons r h=>cases h;exact⟨_,rfl,r⟩
theorem Vals.zero:∀{us:List Value},Vals [] us->us=[]
 | _,.nil=>rfl
theorem Vals.dropLast (h:Vals xs us):Vals xs.dropLast us.dropLast:=by
 induction h with
 | nil=>exact .nil
 | cons r t ih =>
   cases t with
   | nil=>exact .nil
   | cons q t'=>exact .cons r ih
theorem NB {α:Type}(l:List α):l.eraseIdx (l.length - 1)=l.dropLast:=by simp
section
variable {X:Cx}{pins:List (Addr×Obj)}{σ:St}{H:Hp}{s:Shared}{l b:Addr}{xs ys zs:List V}
theorem Inv.lset {its its':List Value}(I:Inv X pins σ H s)(hH:H l=some (.lst xs))
   (e:s.heap.get? l=some { cls:=.type "list",data:=.seq its.toArray n }) (hf:f its.toArray=its'.toArray) (hv:Vals ys its') (hz:ys.length<=B5) :
   Inv X pins σ (upd H l (.lst ys)) { s with heap:=s.heap.update l (F4 f),toks:=t' }:=by
 have q:=PySem.IsL.update e f;rw [hf] at q;refine I.write (x:=l) (e:=l) (by rw [hH];exact trivial) (.inl rfl) (fun b' u hb hu=>(Heap.get?_update_other s.heap (F4 f) (Ne.symm hb)).trans hu) ⟨_,q⟩ ?_;exact⟨hz,its',_,hv,q⟩
theorem Inv.lnew {its:List Value}{t':Nat}(I:Inv X pins σ H s)(hv:Vals ys its)(hz:ys.length<=B5) :
   Inv X pins σ (upd H s.heap.objs.size (.lst ys)) { s with heap:=s.heap.push { cls:=.type "list",data:=.seq its.toArray },toks:=t' }:=
 I.laid (fun _ _ q=>B7 _ q) (B4 _) ⟨hz,its,0,hv,F3 _ rfl⟩
theorem Inv.fresh (I:Inv X pins σ H s):H s.heap.objs.size=none:=I.hok.fresh (B4 _)
theorem Inv.lstM (I:Inv X pins σ H s)(hH:H l=some (.lst xs)):xs.length<=B5/\∃(its:List Value) (n:Nat),Vals xs its/\xs.length=its.length/\s.heap.get? l=some { cls:=.type "list",data:=.seq its.toArray n }:=by
 obtain⟨z,its,n,r,e⟩:=I.hok l _ hH;exact⟨z,its,n,r,r.length,e⟩
end
section
variable {X:Cx}
def Gf:V->List V->Hp->VK->Prop:=fun x vs H Q=>∃l xs y,x=.ref l/\vs=[y]/\H l=some (.lst xs)/\xs.length < B5/\Q .non (upd H l (.lst (xs++[y])))
theorem Gg:MtM X "list.append" Gf:=by
 intro pins s σ H x vs v us Q I rx rv h;obtain⟨l,xs,y,rfl,rfl,hH,hz,q⟩:=h;cases rx;obtain⟨u,rfl,ru⟩:=rv.one;obtain⟨z,its,n,r,hl,e⟩:=I.lstM hH;refine call_meets F.slot_list_append ⟨_,e,rfl⟩ F.entry_list_append (F.args_list_append_2 _ _) (PySem.list_append l its.toArray n u (by rw [E3];omega)) ⟨e,?_⟩;refine⟨.non,_,I.lset (its':=its++[u]) hH e (by simp) (r.append (.cons ru .nil)) ?_,rfl,q⟩;rw [E1,W9];omega
def rPop:V->List V->Hp->VK->Prop:=fun x vs H Q=>∃l xs y,x=.ref l/\vs=[]/\H l=some (.lst xs)/\xs[xs.length - 1]?=some y/\Q y (upd H l (.lst xs.dropLast))
theorem mt_pop:MtM X "list.pop" rPop:=by
 intro pins s σ H x vs v us Q I rx rv h;obtain⟨l,xs,y,rfl,rfl,hH,hy,q⟩:=h;cases rx;have hus:=rv.zero;subst hus;obtain⟨z,its,n,r,hl,e⟩:=I.lstM hH;obtain⟨u,hu,ru⟩:=r.get hy
 have hy':its.toArray[its.toArray.size - 1]?=some u:=by
   show its.toArray[its.length - 1]?=some u;rw [<- FH,<- hl];exact hu
 refine call_meets F.slot_list_pop ⟨_,e,rfl⟩ F.entry_list_pop (F.args_list_pop_1 _) (MeetsSeq.list_pop_last l its.toArray n u hy' (by rw [E3];omega)) ⟨e,?_⟩;refine⟨y,_,I.lset (its':=its.dropLast) hH e ?_ r.dropLast ?_,ru,q⟩
 · show its.toArray.eraseIdxIfInBounds (its.toArray.size - 1)=its.dropLast.toArray;rw [E3,List.eraseIdxIfInBounds_toArray,NB]
 · rw [List.length_dropLast];omega
def rCat:R2:=fun x y H Q=>∃l b xs zs,x=.ref l/\y=.ref b/\H l=some (.lst xs)/\H b=some (.lst zs)/\xs.length + zs.length<=B5/\∀p,H p=none->Q (.ref p) (upd H p (.lst (xs++zs)))
theorem op_cat:OpR X (Q2 .Add) rCat:=by
 intro pins s σ H x y v u Q I rx ry h;obtain⟨l,b,xs,zs,rfl,rfl,hH,hB,hz,q⟩:=h;cases rx;cases ry;obtain⟨z,its,n,r,hl,e⟩:=I.lstM hH;obtain⟨z2,its2,n2,r2,hl2,e2⟩:=I.lstM hB;refine PySem.P.add_list e e2 ?_ (by rw [E3,E3];omega);have ea:its.toArray++its2.toArray=(its++its2).toArray:=by simp
 rw [ea];exact⟨.ref _,_,I.lnew (t':=s.toks) (r.append r2) (by rw [E1];omega),rfl,q _ I.fresh⟩
end
end L2
namespace Att
open PySem PySem.W PySem.Calls PyProof.Rows
theorem NC:∀(ns:List Int) (vs:List Value),WellAll P h vs (ns.map WData.int)->IntsAre vs ns:=by
 intro ns
 induction ns with
 | nil =>
   intro vs w;rw [i4] at w;cases w;exact .nil
 | cons n ns ih =>
   intro vs w;rw [J9] at w;cases w with
   | cons a b =>
     cases a;exact .cons _ _ (ih _ b)
theorem ND {l:OpenLaw}(hn:l.most=some n)
   (hpre:l.row.toRowW.claim.pre args=true) (hwl:WellAll P h vals args) :
   ∃a vs ns,vals=[N3 a]/\args=[WData.list (ns.map WData.int)]/\h.get? a=some { cls:=.type "list",data:=.seq vs.toArray }/\IntsAre vs ns/\ns.length<=n:=by
 have hsh:WShape.hasAll [] args [.list .int]=true:=(pre_splitW hpre).1;have hc:l.pre.holds [] { args:=args }=true:=(pre_splitW hpre).2;obtain⟨d,r,rfl,h1,h2⟩:=hasAllW_cons hsh;obtain rfl:=hasAllW_nil h2;obtain⟨xs,rfl,h3⟩:=hasW_list h1;obtain⟨ns,rfl⟩:=items_int h3
 have hlen:ns.length<=n:=by
   unfold OpenLaw.pre at hc
   have h4:(WTm.not (.lt (.lit (.int (n:Int))) (.len (.arg 0)))).holds [] { args:=[.list (ns.map .int)] }=true:=by
     have h4:=(holds_andW hc).1;rw [hn] at h4;exact h4
   have h5:=condW_of h4 (w_not (w_lt w_lit (w_len_list (w_arg rfl))));rw [B2] at h5;refine DA fun q=>?_;have q':(n:Int) < ((ns.length:Nat):Int):=by omega
   first
     | (rw [decide_eq_true q'] at h5;exact absurd h5 (by decide))
     | (simp at h5;omega)
 cases hwl with
 | cons w1 w2 =>
   cases w2;cases w1 with
   | list ho hall=>exact⟨_,_,ns,rfl,rfl,ho,NC ns _ hall,hlen⟩
theorem NE (l:OpenLaw)(args:List WData):l.row.toRowW.claim.post args (.bool true) args=true:=
 postW_of (r:=l.row.toRowW) (X:=(true == true))
   (show WShape.has [] (.bool true) .bool=true by first | rfl | decide | simp [WShape.has,WShape.arms,WShape.armsAll])
   (show(WTm.eq .res (.lit (.bool true))).value [] { args:=args,res:=some (.bool true),after:=args }=some (.bool (true == true)) from w_eq_bool (w_res rfl) w_lit) rfl
theorem attach_call {l:OpenLaw}
   (hn:l.most=some n) (hdf:d.params.defaults=[])
   (call:∀(w:World) (s₀ s₁:Shared) (mg mb:Str->Option Value) (fa:Addr) (o:Obj) (pm cd doc:Value) (a:Addr) (vs:List Value) (ns:List Int),
     Ground q loose [] XP w s₀ mg mb s₁.heap->YP w s₁.heap->
     s₁.heap.get? fa=some o->o.data=.func (docDef d.name d.params d.body d.scope pm cd doc)->s₁.heap.CodeRec cd d.name->mg d.name=some (.ref fa)->
     s₁.heap.get? a=some { cls:=.type "list",data:=.seq vs.toArray }->IntsAre vs ns->ns.length<=n->s₁.gens=#[]->
     M9 (model l.prog w) callerA (.call (.ref fa) ⟨[.ref a],[]⟩) (fun r s'=>r=.ok (.ret (.bool true))/\OldK s₁.heap s'.heap/\s'.os=s₁.os/\AllBare s'.gens) s₁) :
   WalkO q loose XP YP l.row.toRowW d [] (fun f vs=>PySem.call f vs):=by
 intro w s₀ s₁ mg mb G Y fa o pm cd doc dV kV ho hd hcd hD hmg hg args vals as hpre hlay hrd hwl hlo;obtain rfl:dV=.none:=Dflts.none hD hdf;obtain rfl:kV=.none:=Dflts.noKw hD;obtain⟨a,vs,ns,rfl,rfl,hobj,hints,hlen⟩:=ND hn hpre hwl;refine enter_call (Av (call w s₀ s₁ mg mb fa o pm cd doc a vs ns G Y ho (fd_plain hd) hcd hmg hobj hints hlen hg) fun r s' hq=>?_);obtain⟨rfl,h2,h3,h4⟩:=hq;exact⟨.inl ⟨.bool true,.bool true,[],rfl,fun _=>rfl,.bool true,NE l _,fun _=>⟨List.Pairwise.nil,fun _ hm=>(nomatch hm)⟩⟩,h2,h3,h4⟩
end Att
namespace L2
open PySem PySem.Spec PyProof.Rows
theorem NF (h:IntsAre vs ns):Vals (ns.map V.int) vs:=by
 induction h with
 | nil=>exact .nil
 | cons n t _ ih=>exact .cons ⟨t,rfl⟩ ih
abbrev KOf {K:A4}{h:Heap}(_:K.In h):A4:=K
def Q8 (s:Stmt):Arguments:=match s with
 | .FunctionDef _ a _ _ _ _ _ _ _ _=>a
 | _=>{ posonlyargs:=[],args:=[],vararg:=none,kwonlyargs:=[],kw_defaults:=[],kwarg:=none,defaults:=[] }
def M4 (s:Stmt):List Stmt:=match s with
 | .FunctionDef _ _ b _ _ _ _ _ _ _=>b
 | _=>[]
def E4 (s:Stmt):Scope:=match s with
 | .FunctionDef _ _ _ _ _ _ sc _ _ _=>sc
 | _=>{ kind:=.function,names:=[],isGenerator:=false,isCoroutine:=false }
abbrev CX0:CXT:=fun _ _ _ _ _ _=>False
abbrev E0:XK:=fun _ _ _=>False
theorem pass0:FX CX0 X E0:=fun _ _ _ _ _ _ _ h=>h.elim
structure Fun (K:A4)(x qual:Str)(st:Stmt)(f:Addr)(fd:FuncData):Prop where
 ex:∃(oc:Value) (od:Option Addr) (kV doc pm:Value) (an:Option Addr) (cdv ct:Value) (osl:Array (Option Value)),
   fd=U5 x qual (Q8 st) (M4 st) (E4 st) .none kV doc pm an cdv ct/\K.lookup f=some ⟨oc,od,.func fd,osl⟩/\Dn K cdv qual=true
 kp:BG K (.ref f)=true
section
variable {P:C5}{w:World}{K:A4}{mg:Str->Option Value}{base:Heap}
theorem Fun.ok {st:Stmt}(F:Fun K x qual st f fd)(S:Q7 N ps (E4 st))(len:∀vs H Q E,sp vs H Q E->vs.length=ps.length)
   (hbody:∀(cdv:Value) (A:Around) (outer:List Env) (s:Shared) (H:Hp) (vs:List V) (Q:VK) (E:XK),Room k (A.deeper (envOfC qual (E4 st) s.heap.objs.size f cdv))->sp vs H Q E->
     ∃t,PSs (cxOf CX0 P w K mg base N qual (E4 st) f cdv A outer s H E).nox (M4 st) t/\t { nx:=fun _ H'=>Q .non H',rt:=Q } (start N vs) H):FnOk P w K mg base CX0 (k + 1) f fd ps sp:=by
 obtain⟨oc,od,kV,doc,pm,an,cdv,ct,osl,rfl,lk,hcd⟩:=F.ex;refine fn_of lk hcd S len fun A outer s H vs Q E hr hsp=>?_;obtain⟨t,h,q⟩:=hbody cdv A outer s H vs Q E hr hsp;exact⟨t,h.nox,q⟩
theorem Fun.binds {st:Stmt}{f:Addr}{fd:FuncData}{ps:List Str}(F:Fun K x qual st f fd)
   (h:∀(kV doc pm:Value) (an:Option Addr) (cdv ct:Value) (us:List Value),us.length=ps.length->W4 (U5 x qual (Q8 st) (M4 st) (E4 st) .none kV doc pm an cdv ct) ⟨us,[]⟩=pure (ps.zip us)):Ba K fd ps []:=by
 obtain⟨oc,od,kV,doc,pm,an,cdv,ct,osl,rfl,lk,hcd⟩:=F.ex;exact .all (h kV doc pm an cdv ct)
theorem fun_mk {x qual:Str}{st:Stmt}{f:Addr}{oc:Value}{od an:Option Addr}{osl:Array (Option Value)}{kV doc pm cdv ct:Value}(l:K.lookup f=some ⟨oc,od,.func (U5 x qual (Q8 st) (M4 st) (E4 st) .none kV doc pm an cdv ct),osl⟩)
   (c:Dn K cdv qual=true) (k:BG K (.ref f)=true):Fun K x qual st f (U5 x qual (Q8 st) (M4 st) (E4 st) .none kV doc pm an cdv ct):=⟨⟨oc,od,kV,doc,pm,an,cdv,ct,osl,rfl,l,c⟩,k⟩
end
theorem X7 {A:Around}{k:Nat}(hr:Room k A):A.units + 1 < cLine:=Nat.lt_of_le_of_lt (Nat.add_le_add_left (by decide:1<=64) _) hr.units
section
variable {X:Cx}
theorem pv (i:Nat){x:Str}{pos:Pos}(hN:X.N[i]?=some x:=by rfl)(hv:Vis X.env.scope x:=by first | exact Or.inl rfl | exact Or.inr (Or.inl rfl) | exact Or.inr (Or.inr rfl))(hd:(x == ("__debug__":Str))=false:=by decide)
   (hcd:(x == ("__classdict__":Str))=false:=by decide):PE X (.Name x pos) (tVar i):=Ix hN hv hd hcd
end
theorem iteF {A B:Prop}(h:B):if false=true then A else B:=by grind
theorem iteT {A B:Prop}(h:A):if true=true then A else B:=by grind
theorem ite2 {c A B:Prop}[Decidable c](h1:c->A)(h2:¬c->B):if c then A else B:=by grind
def Same (H H':Hp):Prop:=∀b o,H b=some o->H' b=some o
theorem Same.refl (H:Hp):Same H H:=fun _ _ h=>h
theorem Same.trans {H H1 H2:Hp}(a:Same H H1)(b:Same H1 H2):Same H H2:=fun c o h=>b c o (a c o h)
end L2
end
section
namespace L2
open PySem PySem.Spec PyProof.Rows
theorem IV {prog:C5}{w:World}{A:Around}{R:Result->Shared->Prop}{s:Shared}{elt target iter:Expr}{ifs:List Expr}{scope:Scope}{pos:Pos}{it acc:Value}{env:Env}(I:Nat->Shared->Prop)
   (turn:∀n s,I n s->wpAny (model prog w) A (pyNext it) (fun r s₁=>match r with
     | none=>R (.ok .next) s₁
     | some v=>wpAny (model prog w) A (d9 target it v) (fun _ s₁'=>wpAny (model prog w) A (assign target env v) (fun _ s₂=>
         wpAny (model prog w) A (forIn ifs true fun c r=>if r=true then do let ok ← isTrue c env (eval c env);pure (Z6 ok) else pure (Z6 r)) (fun ok s₃=>
           if ok=true then wpAny (model prog w) A (eval elt env) (fun x s₄=>
             wpAny (model prog w) A (call (.builtin "list.append") [acc,x]) (fun _ s₅=>∃m,m < n/\I m s₅) (fun _ _=>False) s₄) (fun _ _=>False) s₃
           else ∃m,m < n/\I m s₃) (fun _ _=>False) s₂) (fun _ _=>False) s₁') (fun _ _=>False) s₁) (fun _ _=>False) s)
   (n:Nat) (h:I n s) :
   M9 (model prog w) A (.compLoop (.ListComp elt [⟨target,iter,ifs,0⟩] scope pos) 0 it acc env) R s:=by
 refine codeAny_loop rfl I (fun n s hI=>?_) n h;show wpAny _ A ((compTurn (.ListComp elt [⟨target,iter,ifs,0⟩] scope pos) 0 it acc env).onRaise (fun x=>do noteFrame x env;Dk x)) _ _ s;refine wpAny_noted ?_;rw [compTurn_list];refine A0 (U2 (A0 (E7 (turn n s hI) (fun r s₁ h₁=>?_) fun _ _ h'=>h'.elim)));cases r with
 | none=>exact A5 h₁
 | some v =>
   refine A0 (E7 h₁ (fun _ s₁' h₁'=>?_) fun _ _ h'=>h'.elim);refine A0 (E7 h₁' (fun _ s₂ h₂=>A0 (E7 h₂ (fun ok s₃ h₃=>?_) fun _ _ h'=>h'.elim)) fun _ _ h'=>h'.elim);cases ok with
   | false=>exact A5 ⟨rfl,h₃⟩
   | true =>
     exact A0 (A0 (E7 h₃ (fun x s₄ h₄=>A0 (E7 h₄ (fun _ s₅ h₅=>A5 (A5 ⟨rfl,h₅⟩)) fun _ _ h'=>h'.elim)) fun _ _ h'=>h'.elim))
def D3 (X:Cx)(scope:Scope)(cl:List (Str×Addr))(N:List Str)(fp:List Addr)(C:Addr)(s:Shared)(H:Hp):Cx where
 prog:=X.prog
 w:=X.w
 K:=X.K
 mg:=X.mg
 base:=X.base
 A:=X.A
 N:=N
 s₀:=s
 H₀:=H
 env:=compEnvC scope cl C X.env
 outer:=X.stack
 stack:=X.stack
 ex:=fp
 fn:=fun _=>false
 calm:=X.calm
 pn:=X.pn
 xe:=fun _ _=>False
structure X8 (X:Cx)(scope:Scope)(cl:List (Str×Addr))(N:List Str)(cs:List (Option Nat)):Prop where
 clos:closureFor scope X.env=pure cl
 kind:scope.kind=.function
 nocell:∀y∈scope.names,y.2≠.cell
 names:∀y∈scope.names,y.2=.local->scope.names.lookup y.1=some .local
 sub:∀x c,cl.lookup x=some c->X.env.cells.lookup x=some c
 has:∀x,((relabel scope X.env).names.lookup x=some .cell\/(relabel scope X.env).names.lookup x=some .free)->∃c,cl.lookup x=some c
 len:cs.length=N.length
 cap:∀(k j:Nat) (x:Str),cs[k]?=some (some j)->N[k]?=some x->X.N[j]?=some x/\Vis X.env.scope x/\X.env.kindOf x≠some .local/\(∃c,cl.lookup x=some c)/\((relabel scope X.env).names.lookup x=some .cell\/(relabel scope X.env).names.lookup x=some .free)
def Cj:List (Str×Addr)->List (Str×Addr)->Prop
 | [],_=>True
 | y::r,cells=>cells.lookup y.1=some y.2/\Cj r cells
theorem Cj.get:∀{cl cells:List (Str×Addr)},Cj cl cells->∀x c,cl.lookup x=some c->cells.lookup x=some c:=by intro a;induction a <;> intros <;> grind [Cj]
theorem X9 {X:Cx}{scope:Scope}{cl:List (Str×Addr)}{N:List Str}{cs:List (Option Nat)}(clos:closureFor scope X.env=pure cl)(kind:scope.kind=.function)(nocell:(scope.names.all fun y=>!(y.2 == .cell))=true)
   (names:(scope.names.all fun y=>!(y.2 == .local) || scope.names.lookup y.1 == some .local)=true) (sub:Cj cl X.env.cells)
   (has:((relabel scope X.env).names.all fun y=>!(y.2 == .cell || y.2 == .free) || (cl.lookup y.1).isSome)=true) (len:cs.length=N.length)
   (cap:((cs.zip N).all fun y=>match y.1 with | none=>true | some j=>X.N[j]? == some y.2 && (X.env.scope.names.lookup y.2 == some .cell || X.env.scope.names.lookup y.2 == some .free) && (cl.lookup y.2).isSome &&
     ((relabel scope X.env).names.lookup y.2 == some .cell || (relabel scope X.env).names.lookup y.2 == some .free))=true):X8 X scope cl N cs:=by
 refine⟨clos,kind,fun y hy=>?_,fun y hy e=>?_,sub.get,fun x hx=>?_,len,fun k j x hk hN=>?_⟩
 · have:=P2.mp nocell y hy;intro z;rw [z] at this;cases this
 · have:=P2.mp names y hy;rw [e] at this
   simpa using this
 · rcases hx with hx | hx
   · have:=P2.mp has _ (d8 hx);exact DQ.mp (by simpa using this)
   · have:=P2.mp has _ (d8 hx);exact DQ.mp (by simpa using this)
 · have hz:(cs.zip N)[k]?=some (some j,x):=by rw [List.getElem?_zip_eq_some];exact⟨hk,hN⟩
   have:=P2.mp cap _ (K2 hz);simp only [l9,Bool.or_eq_true,beq_iff_eq] at this;obtain⟨⟨⟨h1,h2⟩,h3⟩,h4⟩:=this;refine⟨h1,?_,?_,DQ.mp h3,h4⟩
   · rcases h2 with h2 | h2
     · exact .inr (.inl h2)
     · exact .inr (.inr h2)
   · intro z;have z':X.env.scope.names.lookup x=some .local:=z;rw [z'] at h2;rcases h2 with h2 | h2 <;> cases h2
def p5 (cs:List (Option Nat))(σ:St):St:=cs.map fun o=>o.bind fun j=>(σ[j]?).bind id
def PIf (X:Cx)(ifs:List Expr)(t:TT):Prop:=
 ∀ (pins : List (Addr × Obj)) (s : Shared) (σ : St) (H : Hp) (Q : Bool -> Hp -> Prop), Inv X pins σ H s -> t σ H Q ->
   wpAny (model X.prog X.w) X.A (forIn ifs true fun c r=>if r=true then do let ok ← isTrue c X.env (eval c X.env);pure (Z6 ok) else pure (Z6 r)) (TP X pins σ Q) X.xe s
def tTru:TT:=fun _ H Q=>Q true H
theorem IW {X:Cx}:PIf X [] tTru:=fun pins s σ H Q I h=>wpAny_tests_nil ⟨H,I,h⟩
theorem NG {X:Cx}{c:Expr}{t:TT}(h:PT X c t):PIf X [c] t:=fun pins s σ H Q I hq=>wpAny_tests_one (h pins s σ H Q I hq)
def CompW (J:It)(g:TG)(tt:TT)(te:TE)(Q:VK)(D:Addr)(σc:St)(H1:Hp):Prop:=∃W:Nat->Nat->St->Hp->Prop,(∃m,W 0 m σc H1)/\
 ∀i m σ' H',W i m σ' H'->(J.stop i H'/\Q (.ref D) H')\/(J.go i H'/\∀x H2,J.yld i H' x H2->g x σ' H2 fun σ3 H3=>tt σ3 H3 fun b H4=>
    if b=true then te σ3 H4 fun v H5=>∃ys,H5 D=some (.lst ys)/\ys.length < B5/\∃m',m' < m/\W (i + 1) m' σ3 (upd H5 D (.lst (ys++[v])))
    else ∃m',m' < m/\W (i + 1) m' σ3 H4)
def tComp (cs:List (Option Nat))(wi:TI)(g:TG)(tt:TT)(te:TE):TE:=fun σ H Q=>wi σ H fun J H1=>∀D,H1 D=none->CompW J g tt te Q D (p5 cs σ) (upd H1 D (.lst []))
theorem Gi {X:Cx}{scope:Scope}{cl:List (Str×Addr)}{N:List Str}{cs:List (Option Nat)}(S:X8 X scope cl N cs){pins:List (Addr×Obj)}{σ:St}{H:Hp}{s:Shared}{fp:List Addr}{h₁:Heap}{tk:Nat}
   (I:Inv X pins σ H s) (f2:∀b∈fp,FpOk X pins H b) (ho:∀b∈fp,∃o,s.heap.get? b=some o)
   (old:∀b o,s.heap.get? b=some o->h₁.get? b=some o) (hns:h₁.Ns (s.heap.objs.size + 1) (fun x=>([]:List (Str×Value)).reverse.lookup x))
   (hD:h₁.get? s.heap.objs.size=some { cls:=.type "list",data:=.seq ([]:List Value).toArray }) :
   Inv (D3 X scope cl N fp (s.heap.objs.size + 1) s H) pins (p5 cs σ) (upd H s.heap.objs.size (.lst [])) { s with heap:=h₁,toks:=tk }:=by
 have lt:∀b o,s.heap.get? b=some o->b < s.heap.objs.size:=fun b o e=>C0 e;have neC:∀b o,s.heap.get? b=some o->b≠s.heap.objs.size + 1:=fun b o e=>C3 (O3 (lt b o e));have neD:∀b o,s.heap.get? b=some o->b≠s.heap.objs.size:=fun b o e=>C3 (lt b o e);have nstk:∀b,b≠X.env.locals->b∉X.fs->b∉frs X.stack:=fun b h1 h2 hb=>(B6.mp (I.stkSub b hb)).elim h1 h2
 have cellO:∀x c,cl.lookup x=some c->∃v o,s.heap.get? c=some o/\s.heap.IsCell c v:=fun x c e=>by
   obtain⟨v,q⟩:=I.cell x c (S.sub x c e);obtain⟨o,h1,_⟩:=id q;exact⟨v,o,h1,q⟩
 refine⟨⟨I.ok.mod,S.kind,I.ok.glob,I.ok.blt,Z3 _,fun x y c h1 h2=>I.ok.inj x y c (S.sub x c h1) (S.sub y c h2),fun x hx=>S.has x hx,fun x c hx=>(by cases hx),I.ok.hd,I.ok.frames,.inl rfl,fun b hb=>?_,I.bs,K5 I.ok.bsz I.sz,fun b o e hb=>?_,fun b hb=>?_,I.stack,I.stkFree,I.nos⟩,
   rfl,I.bare,Un.laid old (B4 _) I.fresh I.bigS,⟨_,hns,fun i x v e1 e2 e3=>?_⟩,fun x c e=>?_,?_,fun x c e=>?_,fun p hp=>?_,I.hok.laid old (B4 _) ⟨J6 _,[],0,.nil,hD⟩,?_⟩
 · obtain⟨o,e⟩:=ho b hb;exact⟨neC b o e,fun x c ec=>(f2 b hb).2.2.2.2.1 x c (S.sub x c ec)⟩
 · rcases(f2 b hb).2.2.2.1 with z | z
   · exact I.ok.noex b o e z
   · exact absurd (K1 (C0 e) (K5 I.ok.bsz z)) (Z2 _)
 · exact nstk b (f2 b hb).2.1 (f2 b hb).2.2.1
 · have e2':(cs.map fun o=>o.bind fun j=>(σ[j]?).bind id)[i]?=some (some v):=e2;rw [F6] at e2';cases ec:cs[i]? with
   | none=>rw [ec] at e2';cases e2'
   | some o =>
     rw [ec] at e2';cases o with
     | none=>cases e2'
     | some j =>
       have e2'':(σ[j]?).bind id=some v:=by simpa using e2'
       cases es:σ[j]? with
       | none=>rw [es] at e2'';cases e2''
       | some ov =>
         rw [es] at e2'';have e4:ov=some v:=by simpa using e2''
         subst e4;obtain⟨hN,hv,hnl,⟨c,hc⟩,hk⟩:=S.cap i j x ec e1;obtain⟨m,hn,hl⟩:=I.loc;obtain⟨u,r,l⟩:=hl j x v hN es hv;refine⟨u,r,?_⟩;rcases l with⟨hk',_⟩ | ⟨_,c',hc',z⟩
         · grind
         · have ecc:c'=c:=by
             have:=S.sub x c hc;rw [hc'] at this;exact N0 this
           subst ecc;obtain⟨o,h1,h2⟩:=z;exact .inr ⟨hk,c',hc,⟨o,old _ o h1,h2⟩⟩
 · obtain⟨v,o,h1,o',h2,h3⟩:=cellO x c e;exact⟨v,o',old _ o' h2,h3⟩
 · show upd H s.heap.objs.size (.lst []) (s.heap.objs.size + 1)=none;rw [A7 (Nat.succ_ne_self _)];exact I.hok.fresh (Z3 _)
 · obtain⟨v,o,h1,_⟩:=cellO x c e;rw [A7 (neD c o h1)];exact I.freeC x c (S.sub x c e)
 · obtain⟨e,n,ne,nf,d⟩:=I.pin p hp;exact⟨old _ _ e,by rw [A7 (neD _ _ e)];exact n,neC _ _ e,nstk _ ne nf,d⟩
 · show(cs.map _).length=N.length;rw [B2];exact S.len
theorem Inv.uncomp
   (I:Inv X pins σ H s) (f2:∀b∈fp,FpOk X pins H b)
   (J:Inv (D3 X scope cl N fp (s.heap.objs.size + 1) s H) pins σ' H' s') (hs:∀b,b≠s.heap.objs.size + 1->h'.get? b=s'.heap.get? b) :
   Inv X pins σ H' { s' with heap:=h' }:=by
 obtain⟨hh,g,d,t,os'⟩:=s';obtain rfl:os'=s.os:=J.os;have U:Un (frs X.stack) fp H H' s.heap hh:=J.base;have old:∀b o,s.heap.get? b=some o->b≠s.heap.objs.size + 1:=fun b o e=>C3 (O3 (C0 e));have hs':∀b,b≠s.heap.objs.size + 1->h'.get? b=hh.get? b:=hs
 have trC:∀b u,H' b=some u->b≠s.heap.objs.size + 1:=fun b u e z=>by
   have q:H' (s.heap.objs.size + 1)=none:=J.free;rw [z,q] at e;cases e
 show Inv X pins σ H' { s with heap:=h',gens:=g,drawn:=d,toks:=t };refine I.call (h':=h') (g':=g) (d':=d) (t':=t) (ch:=fp) ⟨fun b o e n hb hx=>?_,fun b o e n hb hx=>?_,U.free,fun b o e hx=>?_,U.tups,U.frzs,U.tbls,U.sys⟩ (fun b u e=>?_) J.bare fun b hb=>?_
 · rw [hs' b (old b o e)];exact U.keep b o e n hb hx
 · rw [hs' b (old b o e)];exact U.slot b o e n hb hx
 · rw [hs' b (old b o e)];exact U.there b o e hx
 · refine(J.hok b u e).stay (fun c v hc q=>?_) (fun _ q=>q) fun _ _ q=>q
   have ne:c≠s.heap.objs.size + 1:=by
     rcases hc with z | z
     · rw [z];exact trC b u e
     · exact trC c _ z
   rw [hs' c ne];exact q
 · exact⟨(f2 b hb).2.2.2.1,(f2 b hb).2.1,(f2 b hb).2.2.2.2.1,(f2 b hb).2.2.2.2.2⟩
theorem Gj {K:A4}{W:Nat->Nat->St->Hp->Prop}{s5 s7:Shared}(T:Turn P w K tg J fp it tn)(st5:tn (i + 1) s5.heap)(I7:Inv Y (pins++x6 fp s5.heap) σ7 H7 s7)(n7:∃m',m' < n/\W (i + 1) m' σ7 H7):∃m,m < n/\∃i σ' H',Inv Y pins σ' H' s7/\tn i s7.heap/\(∀b∈fp,H' b=none)/\W i m σ' H':=by
 obtain⟨m',hm,w7⟩:=n7;have pn:∀b∈fp,∀o,s5.heap.get? b=some o->_:=fun b hb o e=>I7.pin (b,o) (G4 _ (G4 _ (Cc hb e)));refine⟨m',hm,i + 1,σ7,H7,I7.unpinned,T.keep _ _ _ st5 fun b hb o e=>(pn b hb o e).1,fun b hb=>?_,w7⟩;obtain⟨o,e,d⟩:=T.obj _ _ st5 b hb;exact(pn b hb o e).2.1
theorem Gk {Y:Cx}{pins:List (Addr×Obj)}{tg elt:Expr}{ifs:List Expr}{g:TG}{tt:TT}{te:TE}{J:It}{fp:List Addr}{it D:Addr}{tn:Nat->Heap->Prop}{W:Nat->Nat->St->Hp->Prop}{N:St->Hp->Prop}{Rn:Shared->Prop}(T:Turn Y.prog Y.w Y.K tg J fp it tn)(hc:Y.calm=true)(stat:∀{H':Hp},(∀b∈fp,H' b=none)->∀b∈fp,FpOk Y pins H' b)(hg:PG Y tg g)(hf:PIf Y ifs tt)(he:PE Y elt te)(fin:∀s σ H,Inv Y pins σ H s->N σ H->Rn s)
   (turn:∀i m σ' H',W i m σ' H'->(J.stop i H'/\N σ' H')\/(J.go i H'/\∀x H2,J.yld i H' x H2->g x σ' H2 fun σ3 H3=>tt σ3 H3 fun b H4=>
    if b=true then te σ3 H4 fun v H5=>∃ys,H5 D=some (.lst ys)/\ys.length < B5/\∃m',m' < m/\W (i + 1) m' σ3 (upd H5 D (.lst (ys++[v])))
    else ∃m',m' < m/\W (i + 1) m' σ3 H4)) (n:Nat) (s:Shared) (hI:∃i σ' H',Inv Y pins σ' H' s/\tn i s.heap/\(∀b∈fp,H' b=none)/\W i n σ' H') :
   wpAny (model Y.prog Y.w) Y.A (pyNext (.ref it)) (fun r s₁=>match r with
     | none=>Rn s₁
     | some v=>wpAny (model Y.prog Y.w) Y.A (d9 tg (.ref it) v) (fun _ s₁'=>wpAny (model Y.prog Y.w) Y.A (assign tg Y.env v) (fun _ s₂=>
         wpAny (model Y.prog Y.w) Y.A (forIn ifs true fun c r=>if r=true then do let ok ← isTrue c Y.env (eval c Y.env);pure (Z6 ok) else pure (Z6 r)) (fun ok s₃=>
           if ok=true then wpAny (model Y.prog Y.w) Y.A (eval elt Y.env) (fun x s₄=>
             wpAny (model Y.prog Y.w) Y.A (call (.builtin "list.append") [.ref D,x]) (fun _ s₅=>∃m,m < n/\∃i σ' H',Inv Y pins σ' H' s₅/\tn i s₅.heap/\(∀b∈fp,H' b=none)/\W i m σ' H') Y.xe s₄) Y.xe s₃
           else ∃m,m < n/\∃i σ' H',Inv Y pins σ' H' s₃/\tn i s₃.heap/\(∀b∈fp,H' b=none)/\W i m σ' H') Y.xe s₂) Y.xe s₁') Y.xe s₁) Y.xe s:=by
 obtain⟨i,σ3,H3,I3,st3,fr3,w3⟩:=hI;rcases turn i n σ3 H3 w3 with⟨stop,qn⟩ | ⟨go,step⟩
 · refine thn (T.done Y rfl rfl rfl hc i pins s σ3 H3 Y.xe I3 (stat fr3) st3 stop) fun r s4 ⟨hr,I4⟩=>?_;subst hr;exact fin s4 σ3 H3 I4 qn
 · refine thn (T.item Y rfl rfl rfl hc i pins s σ3 H3 Y.xe I3 (stat fr3) st3 go) fun r s4 ⟨u,hr,h4⟩=>?_;subst hr;refine thn h4 fun _ s5 ⟨x,H5,I5,r5,y5,st5,fr5⟩=>?_;refine thn (hg _ s5 σ3 H5 x u _ (I5.pinned (stat fr5) (T.obj _ _ st5)) r5 (step x H5 y5)) fun _ s6 ⟨σ6,H6,I6,q6⟩=>?_;refine thn (hf _ s6 σ6 H6 _ I6 q6) fun ok s7 ⟨H7,I7,q7⟩=>?_;cases ok with
   | false=>exact Gj T st5 I7 q7
   | true =>
     refine thn (he _ s7 σ6 H7 _ I7 q7) fun y s8 ⟨v8,H8,I8,r8,ys,e8,z8,n8⟩=>?_;have ma:=Gg (X:=Y) _ s8 σ6 H8 (.ref D) [v8] (.ref D) [y] (fun v H9=>∃m',m' < n/\W (i + 1) m' σ6 H9) I8 rfl (.cons r8 .nil) ⟨_,ys,v8,rfl,rfl,e8,z8,n8⟩;exact thn ma fun _ s9 ⟨v9,H9,I9,_,q9⟩=>Gj T st5 I9 q9
theorem IX {X:Cx}{scope:Scope}{cl:List (Str×Addr)}{N:List Str}{cs:List (Option Nat)}{elt tg iter:Expr}{ifs:List Expr}{pos:Pos}{wi:TI}{g:TG}{tt:TT}{te:TE}(S:X8 X scope cl N cs)(hc:X.calm=true)(hi:PI X tg iter wi)
   (hb:∀(fp:List Addr) (C:Addr) (s:Shared) (H:Hp),PG (D3 X scope cl N fp C s H) tg g/\PIf (D3 X scope cl N fp C s H) ifs tt/\PE (D3 X scope cl N fp C s H) elt te)
   (hs:∀x,P1 iter X.env x=pure x:=by intro _;rfl) :
   PE X (.ListComp elt [⟨tg,iter,ifs,0⟩] scope pos) (tComp cs wi g tt te):=by
 intro pins s σ H Q I h;rw [eval_ListComp];refine Df (use:=none) rfl hs S.clos S.kind S.names (thn (hi pins s σ H _ I h) fun v s1 h1=>thn h1 fun itv s2 h2=>?_);obtain⟨it,fp,tn,J,H2,rfl,I2,T,st2,f2,q⟩:=h2
 have ho:∀b∈fp,∃o,s2.heap.get? b=some o:=fun b hb=>by
   obtain⟨o,e,_⟩:=T.obj 0 _ st2 b hb;exact⟨o,e⟩
 refine O6 (BC S.nocell (by intro y hy;simp at hy) (fun h₁ hns₁ hsb₁=>?_) S.kind);dsimp only at hns₁ hsb₁ ⊢;have hC:(s2.heap.push { cls:=.type "list",dict:=none,data:=.seq ([]:List Value).toArray }).objs.size=s2.heap.objs.size + 1:=by rw [U6]
 generalize hH2:s2.heap.push { cls:=.type "list",dict:=none,data:=.seq ([]:List Value).toArray }=hp2 at hns₁ hsb₁ hC ⊢;have old:∀b o,s2.heap.get? b=some o->h₁.get? b=some o:=fun b o e=>hsb₁.extBut b o (by rw [hC];exact C3 (O3 (C0 e))) (B7 _ (hH2▸B7 _ e));have hD:h₁.get? s2.heap.objs.size=some { cls:=.type "list",data:=.seq ([]:List Value).toArray }:=hsb₁.extBut _ _ (by rw [hC];exact C3 (BP _)) (B7 _ (hH2▸F3 _ rfl));rw [hC] at hns₁ ⊢;obtain⟨W,⟨m0,w0⟩,turn⟩:=q s2.heap.objs.size I2.fresh;have Ic:=Gi S (tk:=s2.toks + ([]:List (Str×Value)).length) I2 f2 ho old hns₁ hD;have nstk:∀b,b≠X.env.locals->b∉X.fs->b∉frs X.stack:=fun b h1 h2 hb=>(B6.mp (I2.stkSub b hb)).elim h1 h2
 have stat:∀{H':Hp},(∀b∈fp,H' b=none)->∀b∈fp,FpOk (D3 X scope cl N fp (s2.heap.objs.size + 1) s2 H2) pins H' b:=fun hn b hb=>by
   obtain⟨o,e⟩:=ho b hb;exact⟨hn b hb,C3 (O3 (C0 e)),nstk b (f2 b hb).2.1 (f2 b hb).2.2.1,.inl hb,fun x c ec=>(f2 b hb).2.2.2.2.1 x c (S.sub x c ec),(f2 b hb).2.2.2.2.2⟩
 obtain⟨hg,hf,he⟩:=hb fp (s2.heap.objs.size + 1) s2 H2;have st1:tn 0 h₁:=T.keep _ _ _ st2 fun b hb o e=>old b o e
 have fr1:∀b∈fp,upd H2 s2.heap.objs.size (.lst []) b=none:=fun b hb=>by
   obtain⟨o,e⟩:=ho b hb;rw [A7 (C3 (C0 e))];exact(f2 b hb).1
 have loop:∀s₃:Shared,s₃={ s2 with heap:=h₁,toks:=s2.toks + ([]:List (Str×Value)).length }->
     M9 (model X.prog X.w) X.A (.compLoop (.ListComp elt [⟨tg,iter,ifs,0⟩] scope pos) 0 (.ref it) (.ref s2.heap.objs.size) (compEnvC scope cl (s2.heap.objs.size + 1) X.env))
       (compPost (model X.prog X.w) X.A X.xe none (EP X pins σ Q) (.ref s2.heap.objs.size) (s2.heap.objs.size + 1)) s₃:=by
   rintro s₃ rfl;refine IV _ (Gk (Y:=D3 X scope cl N fp (s2.heap.objs.size + 1) s2 H2) T hc stat hg hf he (fun s4 σ3 H3 I4 qn=>?_) turn) m0 ⟨0,_,_,Ic,st1,fr1,w0⟩;obtain⟨m4,hn4,_⟩:=I4.loc;exact⟨m4,hn4,fun h' hs'=>⟨.ref s2.heap.objs.size,H3,Inv.uncomp I2 f2 I4 fun b hb=>hs'.2 b hb,rfl,qn⟩⟩
 exact Fw (loop _ rfl) (T.self _ 0 _ _ _ st1 (loop _ rfl))
end L2
end
section
namespace L2
open PySem PySem.Spec PyProof.Rows
section
variable {X:Cx}
theorem Vals.getE (r:Vals xs us)(h:j < us.length):∃x,xs[j]?=some x/\RelV x us[j]:=by
 have hl:=r.length;have h':j < xs.length:=by omega
 obtain⟨u,e,q⟩:=r.get (i:=j) (x:=xs[j]) (by simp [h']);refine⟨xs[j],by simp [h'],?_⟩;have e':us[j]?=some us[j]:=by simp [h]
 rw [e'] at e;cases e;exact q
theorem IY (h:P5 x=true):eqV x x=true:=by
 cases x <;> simp_all [P5,eqV]
theorem NH:∀{bs:List Bool} {us:List Value} {j:Nat} {u:Value},Vals (bs.map V.bl) us->us[j]?=some u->∃b,bs[j]?=some b/\u=Value.bool b:=by
 intro bs us j u r e
 have hj:j < us.length:=by
   obtain⟨h,_⟩:=D9.mp e;exact h
 obtain⟨x,e1,q1⟩:=r.getE hj;rw [F6] at e1;cases eb:bs[j]? with
 | none=>rw [eb] at e1;cases e1
 | some b =>
   rw [eb] at e1;cases e1;have e2:us[j]?=some us[j]:=by simp [hj]
   rw [e2] at e;cases e;exact⟨b,rfl,q1⟩
theorem NI (bs:List Bool):((C2 bs.length).any fun i=>(bs[i]?).getD false)=bs.any id:=by
 rw [n6,BM,BM];constructor
 · rintro⟨i,hi,e⟩;have hi':=O2.mp hi;simp only [D7 hi',Option.getD_some] at e;exact⟨_,l8 hi',e⟩
 · rintro⟨b,hb,e⟩;obtain⟨i,hi,rfl⟩:=Ay hb;exact⟨i,O2.mpr hi,by simp only [D7 hi,Option.getD_some];exact e⟩
theorem NJ {s:Shared}{h':Heap}{o:Obj}(hk:∀b x,b∉[s.heap.objs.size]->(s.heap.push o).get? b=some x->h'.get? b=some x):∀b x,s.heap.get? b=some x->h'.get? b=some x:=
 fun b x e=>hk b x (fun hm=>by rw [J8.mp hm] at e;exact Z2 _ (C0 e)) (B7 _ e)
def rAny (K:A4):List V->Hp->VK->Prop:=fun vs H Q=>∃(p:Addr) (bs:List Bool),vs=[.ref p]/\SqL K H p (bs.map V.bl)/\Q (.bl (bs.any id)) H
theorem NK (hc:X.calm=true):M3 X (.builtin "any") (rAny X.K):=by
 intro pins s σ H vs us Q I rv h;obtain⟨p,bs,rfl,hq,q⟩:=h;obtain⟨u,rfl,r1⟩:=rv.one;cases r1;obtain⟨its,r,pl,hz⟩:=I.list hq;have hl:=pl.isList;have hlt:p < s.heap.objs.size:=by obtain⟨_,e,_⟩:=hl;exact C0 e
 have len:its.toArray.size=bs.length:=by simpa using r.length.symm
 refine call_any_walk (BD hl ?_)
 refine⟨s.heap.objs.size,[s.heap.objs.size,p],[s.heap.objs.size],its.toArray.size,_,_,fun i=>(bs[i]?).getD false,rfl,Walks.list (A:=X.A.in1) (I.ok.hd hc) _ p (C3 hlt) its.toArray,
   ⟨⟨_,F3 _ rfl,rfl,rfl⟩,hl.push _⟩,fun i v s' Q' E' hP hQ=>?_,fun h' tk hk=>?_⟩
 · obtain⟨b,e,rfl⟩:=NH r (j:=i) (u:=v) (by simpa using hP);simp only [e,Option.getD_some] at hQ;exact Di hQ
 · rw [len,NI];exact⟨.bl _,H,I.kept (NJ hk),rfl,q⟩
theorem Inv.turnedNew {ch:List Addr}(I:Inv X pins σ H s)(k:∀b o,b∉ch->s.heap.get? b=some o->h'.get? b=some o)
   (hf:∀b∈ch,FpOk X pins H b) (new:G5 X.prog X.w (upd H s.heap.objs.size (.tup xs)) h' s.heap.objs.size (.tup xs)):Inv X pins σ (upd H s.heap.objs.size (.tup xs)) { s with heap:=h',toks:=t' }:=by
 have nch:∀b u,H b=some u->b∉ch:=fun b u e z=>by rw [(hf b z).1] at e;cases e
 have nD:∀b o,s.heap.get? b=some o->b≠s.heap.objs.size:=fun b o e=>C3 (C0 e)
 refine I.step (g':=s.gens) (d':=s.drawn) (ch:=ch) (fun b hb=>⟨(hf b hb).2.2.2.1,(hf b hb).2.1,(hf b hb).2.2.2.2.1,(hf b hb).2.2.2.2.2⟩) (fun b o _ _ hc e _=>k b o hc e) (fun b o _ _ hc e _=>⟨o.slots,k b o hc e⟩) (fun b o _ e n=>by rw [A7 (nD b o e)];exact n)
   (fun b o hc e=>⟨o,k b o hc e⟩) (fun b ys e=>by rw [A7 (X4 e I.fresh)];exact e) (fun b o u e=>by rw [A7 (X4 e I.fresh)];exact e) (fun b ps e=>⟨#[],by rw [A7 (X4 e I.fresh),e];simp⟩) (fun z=>by unfold NS;rw [A7 (C3 I.bigS)];exact z) (fun m hm=>?_) (fun b u e=>?_) I.bare
 · obtain⟨o,es,ep,ho,r⟩:=hm;exact⟨o,es,ep,k _ o (fun z=>(hf _ z).2.1 rfl) ho,r⟩
 · by_cases hb:b=s.heap.objs.size
   · subst hb;rw [C4] at e;cases e;exact new
   · rw [A7 hb] at e;refine(I.hok b u e).stay (fun c v hc q=>k c v ?_ q) (fun c q=>by rw [A7 (X4 q I.fresh)];exact q) fun c ys q=>by rw [A7 (X4 q I.fresh)];exact q
     rcases hc with z | z
     · rw [z];exact nch b u e
     · exact nch c _ z
end
end L2
end
section
namespace L2
open PySem PySem.Spec PyProof.Rows
theorem D_:M8 "len"=some (.builtin "len"):=by decide +kernel
theorem bt_abs:M8 "abs"=some (.builtin "abs"):=by decide +kernel
theorem bt_min:M8 "min"=some (.builtin "min"):=by decide +kernel
theorem bt_max:M8 "max"=some (.builtin "max"):=by decide +kernel
theorem bt_any:M8 "any"=some (.builtin "any"):=by decide +kernel
theorem IZ:M8 "sorted"=some (.builtin "sorted"):=by decide +kernel
theorem bt_repr:M8 "repr"=some (.builtin "repr"):=by decide +kernel
theorem I_:M8 "int"=some (.type "int"):=by decide +kernel
theorem Gm:M8 "list"=some (.type "list"):=by decide +kernel
theorem NL:M8 "tuple"=some (.type "tuple"):=by decide +kernel
theorem bt_set:M8 "set"=some (.type "set"):=by decide +kernel
theorem at_map {ns:List Int}(h0:0<=k)(h:k < (ns.length:Int)):∃v,atI (ns.map V.int) k=some (.int v):=by
 have hk:k.toNat < ns.length:=by omega
 have q:atI (ns.map V.int) ((k.toNat:Nat):Int)=some (.int ns[k.toNat]):=y4 (by rw [F6,D7 hk] <;> rfl)
 rw [show((k.toNat:Nat):Int)=k by omega] at q;exact⟨_,q⟩
structure Kn (P:C5)(w:World)(K:A4)(mg:Str->Option Value)(base:Heap)(x:Str)(k:Nat)(ps:List Str)(sp:Sp):Prop where
 ex:∃(f:Addr) (fd:FuncData),FnOk P w K mg base CX0 k f fd ps sp/\Ba K fd ps []/\BG K (.ref f)=true/\mg x=some (.ref f)/\∃oc od osl,K.lookup f=some ⟨oc,od,.func fd,osl⟩
structure Fn0 (K:A4)(mg:Str->Option Value)(x:Str)(st:Stmt):Prop where
 ex:∃(f:Addr) (fd:FuncData),Fun K x x st f fd/\mg x=some (.ref f)
theorem fn0_mk {K:A4}{st:Stmt}(X:K.In h)(G:h.Ns U3 mg){kV doc pm cdv ct:Value}
   (a:PySem.W.nsIn K U3 x=some (some (.ref f))) (l:K.lookup f=some ⟨oc,od,.func (U5 x x (Q8 st) (M4 st) (E4 st) .none kV doc pm an cdv ct),osl⟩)
   (c:Dn K cdv x=true) (k:BG K (.ref f)=true):Fn0 K mg x st:=⟨f,_,fun_mk l c k,PySem.W.mg_of X G a⟩
section
variable {P:C5}{w:World}{K:A4}{mg:Str->Option Value}{base:Heap}
theorem Fn0.ok {st:Stmt}{N ps:List Str}{k:Nat}{sp:Sp}(F:Fn0 K mg x st)(S:Q7 N ps (E4 st))(len:∀vs H Q E,sp vs H Q E->vs.length=ps.length)
   (bd:∀(kV doc pm:Value) (an:Option Addr) (cdv ct:Value) (us:List Value),us.length=ps.length->W4 (U5 x x (Q8 st) (M4 st) (E4 st) .none kV doc pm an cdv ct) ⟨us,[]⟩=pure (ps.zip us))
   (hbody:∀(f:Addr) (cdv:Value) (A:Around) (outer:List Env) (s:Shared) (H:Hp) (vs:List V) (Q:VK) (E:XK),Room k (A.deeper (envOfC x (E4 st) s.heap.objs.size f cdv))->sp vs H Q E->
     ∃t,PSs (cxOf CX0 P w K mg base N x (E4 st) f cdv A outer s H E).nox (M4 st) t/\t { nx:=fun _ H'=>Q .non H',rt:=Q } (start N vs) H):Kn P w K mg base x (k + 1) ps sp:=by
 obtain⟨f,fd,F1,m⟩:=F.ex
 have lk:∃oc od osl,K.lookup f=some ⟨oc,od,.func fd,osl⟩:=by
   obtain⟨oc,od,kV,doc,pm,an,cdv,ct,osl,_,lk,hcd⟩:=F1.ex;exact⟨oc,od,osl,lk⟩
 exact⟨f,fd,F1.ok S len fun cdv A outer s H vs Q E hr h=>hbody f cdv A outer s H vs Q E hr h,F1.binds bd,F1.kp,m,lk⟩
theorem Kn.imp {x:Str}{k:Nat}{ps:List Str}{sp sp':Sp}(G:Kn P w K mg base x k ps sp)(h:∀vs H Q E,sp' vs H Q E->sp vs H Q E):Kn P w K mg base x k ps sp':=by
 obtain⟨f,fd,a,b,c,d⟩:=G.ex;exact⟨f,fd,a.imp h,b,c,d⟩
end
section
variable {X:Cx}{x:Str}{p pos:Pos}{e:Expr}{es:List Expr}{t:TA}{ps:List Str}{sp:Sp}{j k:Nat}
theorem pe_fn (G:Kn X.prog X.w X.K X.mg X.base x k ps sp)(hr:Room j X.A)(hk:k<=j)(hg:Gl X x)(ha:PA X (e::es) t)(hdb:(x == ("__debug__":Str))=false:=by decide)
   (he:D6 (e::es) X.env=(false,eval e X.env)::D6 es X.env:=by rfl) (hpl:(backTo pos (D6 es X.env)).any (·.1)=false:=by rfl) :
   PE X (.Call (.Name x p) (e::es) [] pos) (tCall sp [] E0 t):=by
 intro pins s σ H Q I h;obtain⟨f,fd,F,hb,hkp,hm,_⟩:=G.ex;exact Nm F (hr.mono hk) hg hm hkp hb .nil pass0 ha hdb he hpl pins s σ H Q I h
end
end L2
end
section
namespace L2
open PySem PySem.Spec PyProof.Rows
section
variable {X:Cx}
theorem NM:OpR X (Q2 .Mult) (fun x y H Q=>∃i n,x=.str i/\y=.int n/\i.length<=100/\0<=n/\n<=1000/\Q (.str (Txt.mul i n)) H):=by
 intro pins s σ H x y v u Q I rx ry h;obtain⟨i,n,rfl,rfl,h1,h2,h3,q⟩:=h;obtain⟨t,rfl⟩:=rx;obtain⟨t',rfl⟩:=ry;exact SB.mul (mulOk_of 100 1000 h1 h3 (by omega) (by decide) (by decide)) fun t' tk=>⟨.str _,H,I.tok _,⟨_,rfl⟩,q⟩
theorem Ck (x y:Str):(x++y).cps.toList=x.cps.toList++y.cps.toList:=by
 show(x.cps++y.cps).toList=_;simp
theorem y7 (x:Str):x.length=x.cps.toList.length:=by
 show x.cps.size=_;simp
end
theorem Same.lay {H H':Hp}{p:Addr}{o:HO}(s:Same H H')(h:H' p=none):Same H (upd H' p o):=fun b u e=>by
 rw [A7 (X4 (s b u e) h)];exact s b u e
theorem NN {c:TT}{t u:TS}{D:Ends}{σ:St}{H:Hp}(p:St->Hp->Prop)(h:(∀σ' H',p σ' H'->D.nx σ' H')->tIfS c t u D σ H)(hp:∀σ' H',p σ' H'->D.nx σ' H'):tIfS c t u D σ H:=h hp
theorem p6 {n:Nat}{d:Int}(h0:0<=d)(h1:d < n):ixN n d=some d.toNat:=by grind [ixN]
theorem Ja {α:Type}{xs:List α}{d:Int}(h0:0<=d)(h1:d < xs.length):∃x,xs[d.toNat]?=some x/\atI xs d=some x:=by
 have hk:d.toNat < xs.length:=by omega
 refine⟨xs[d.toNat],D7 hk,?_⟩;unfold atI;rw [p6 h0 h1];simp
end L2
end
section
namespace L2
open PySem PySem.Spec PyProof.Rows
section
variable {X:Cx}
def rSlS:V->Option Int->Option Int->Hp->VK->Prop:=fun x lo hi H Q=>∃z,x=.str z/\z.length<=B5/\Q (.str (T3 z lo hi)) H
theorem sl_str:SlR X rSlS:=by
 intro pins s σ H x v vl vu lo hi sl Q I rx hs pl pu h;obtain⟨z,rfl,hz,q⟩:=h;obtain⟨t,rfl⟩:=rx;refine⟨"str",_,F.slot_str_getitem.lookup,typeIs_str _ _ _,?_⟩;cases pl with
 | none =>
   cases pu with
   | none=>exact Dg (l:=none) (u:=none) (st:=none) hs rfl (Dl ⟨K5 (AS z _ _) hz,fun t' k=>⟨.str _,H,I.tok _,⟨_,rfl⟩,q⟩⟩)
   | int j tj=>exact Dg (l:=none) (u:=some (j,tj)) (st:=none) hs rfl (Dl ⟨K5 (AS z _ _) hz,fun t' k=>⟨.str _,H,I.tok _,⟨_,rfl⟩,q⟩⟩)
 | int i ti =>
   cases pu with
   | none=>exact Dg (l:=some (i,ti)) (u:=none) (st:=none) hs rfl (Dl ⟨K5 (AS z _ _) hz,fun t' k=>⟨.str _,H,I.tok _,⟨_,rfl⟩,q⟩⟩)
   | int j tj=>exact Dg (l:=some (i,ti)) (u:=some (j,tj)) (st:=none) hs rfl (Dl ⟨K5 (AS z _ _) hz,fun t' k=>⟨.str _,H,I.tok _,⟨_,rfl⟩,q⟩⟩)
def rCatA (K:A4):R2:=fun x y H Q=>∃a b xs ys,x=.ref a/\y=.ref b/\SqT K H a xs/\SqT K H b ys/\xs.length + ys.length<=B5/\
 (xs=[]->Q (.ref b) H)/\(xs≠[]->ys=[]->Q (.ref a) H)/\(xs≠[]->ys≠[]->∀p,H p=none->Q (.ref p) (upd H p (.tup (xs++ys))))
theorem NO:OpR X (Q2 .Add) (rCatA X.K):=by
 intro pins s σ H x y v u Q I rx ry h;obtain⟨a,b,xs,ys,rfl,rfl,ha,hb,hz,q0,q1,q2⟩:=h
 by_cases hx:xs=[]
 · cases rx;cases ry;obtain⟨its,r1,p1,_⟩:=I.tuple ha;obtain⟨its2,r2,p2,_⟩:=I.tuple hb;obtain⟨⟨cls,dd,data,sl⟩,ho,hc,n,hd⟩:=id p1;obtain⟨⟨cls2,dd2,data2,sl2⟩,ho2,hc2,n2,hd2⟩:=id p2;simp only at hc hd hc2 hd2;subst hc hd hc2 hd2;have he:its=[]:=r1.nil_iff.mpr hx
   exact concat_meets ⟨_,ho,rfl⟩ ⟨_,ho2,rfl⟩ noFill_tuple_add seq_tuple_add FM FK (FJ _ _)
     (tuple_addW0 a b its.toArray its2.toArray n n2 dd dd2 sl sl2 (by simp [he])) ⟨ho,ho2,⟨.ref b,H,I,rfl,q0 hx⟩⟩
 · exact Nt pins s σ H _ _ v u Q I rx ry ⟨a,b,xs,ys,rfl,rfl,ha,hb,hx,hz,q1 hx,q2 hx⟩
theorem Inv.big {pins:List (Addr×Obj)}{σ:St}{H:Hp}{s:Shared}(I:Inv X pins σ H s):G9 < s.heap.objs.size:=by
 have h:U3 < s.heap.objs.size:=(I.mod.glob.keeps I.bk).lt;exact Nat.lt_trans (by decide) h
theorem Jb {P:C5}{w:World}{H:Hp}(h:Heap)(hb:G9 < h.objs.size):G5 P w H (h.push { cls:=.type "dict",data:=.dict #[] }) h.objs.size (.dK []):=
 ⟨J6 _,beq_eq_false_iff_ne.mpr (Ne.symm (C3 hb)),[],.nil,Heap.DictOf.new h⟩
def tDNewK:TE:=fun _ H Q=>∀p,H p=none->Q (.ref p) (upd H p (.dK []))
theorem NP {pos:Pos}:PE X (.Dict [] [] pos) tDNewK:=fun pins s σ H Q I h=>
 wpAny_Dict_empty ⟨.ref s.heap.objs.size,_,I.laid (a:=s.heap.objs.size) (o:=.dK []) (t':=s.toks) (fun _ _ q=>B7 _ q) (B4 _) (Jb s.heap I.big),rfl,h _ (I.hok.fresh (B4 _))⟩
end
end L2
end
section
namespace Pu
open PySem PySem.Spec L2
inductive PV where
 | non | bl (b:Bool) | int (i:Int) | str (x:Str) | ty (n:String) | pot (k:Nat)
 | tup (xs:List PV) | lst (xs:List PV) | dct (ks:List Key) (xs:List PV)
 /-- the script -/
 | scr (ns:List Int)
 /-- a dict by tuples that nothing changes any more -/
 | fdt (ks:List (List Key)) (xs:List PV)
structure Gh where
 M:List Addr
 pots:List Addr
def KLst (K:A4)(a:Addr)(xs:List V):Prop:=∃(o:Obj) (its:Array Value) (n:Nat),K.lookup a=some o/\o.cls=.type "list"/\o.dict=none/\o.data=.seq its n/\its.size<=B5/\Vals xs its.toList
def AtL (M:List Addr)(H:Hp)(a:Addr)(xs:List V):Prop:=a∉M/\H a=some (.lst xs)
def AtT (M:List Addr)(H:Hp)(a:Addr)(xs:List V):Prop:=a∉M/\H a=some (.tup xs)
theorem AtL.sq {K:A4}{M:List Addr}{H:Hp}{a:Addr}{xs:List V}(h:AtL M H a xs):SqL K H a xs:=SqL.of h.2
theorem AtT.sq {K:A4}{M:List Addr}{H:Hp}{a:Addr}{xs:List V}(h:AtT M H a xs):SqT K H a xs:=SqT.of h.2
mutual
def Rep (K:A4)(G:Gh)(H:Hp):PV->V->Prop
 | .non,v=>v=.non
 | .bl b,v=>v=.bl b
 | .int i,v=>v=.int i
 | .str x,v=>v=.str x
 | .ty n,v=>v=.ty n
 | .pot k,v=>∃p,G.pots[k]?=some p/\v=.ref p
 | .tup xs,v=>∃a vs,v=.ref a/\AtT G.M H a vs/\Reps K G H xs vs
 | .lst xs,v=>∃a vs,v=.ref a/\AtL G.M H a vs/\Reps K G H xs vs
 | .scr ns,v=>∃a,v=.ref a/\((a∉G.M/\∃o,H a=some (.frz o (.lst (ns.map V.int))))\/KLst K a (ns.map V.int))
 | .dct ks xs,v=>∃a kvs,v=.ref a/\a∉G.M/\H a=some (.dK kvs)/\kvs.map (·.1)=ks/\Reps K G H xs (kvs.map (·.2))
 | .fdt ks xs,v=>∃a kvs,v=.ref a/\a∉G.M/\Rd H a (.dT kvs)/\kvs.map (·.1)=ks/\Reps K G H xs (kvs.map (·.2))
def Reps (K:A4)(G:Gh)(H:Hp):List PV->List V->Prop
 | [],vs=>vs=[]
 | x::xs,vs=>∃v r,vs=v::r/\Rep K G H x v/\Reps K G H xs r
end
section
variable {K:A4}{G G':Gh}{H H':Hp}
theorem Rd.keep {a:Addr}{u:HO}(h:Rd H a u)(k:∀o,H a=some o->H' a=some o):Rd H' a u:=by grind [HO,Rd]
theorem Rd.ne {a:Addr}{u:HO}(h:Rd H a u):H a≠none:=by grind [HO,Rd]
mutual
theorem Rep.mono (hk:∀b o,b∉G.M->H b=some o->H' b=some o)(hM:∀a∈G'.M,a∈G.M\/H a=none)(hp:∀(k:Nat) (p:Addr),G.pots[k]?=some p->G'.pots[k]?=some p):∀(x:PV) (v:V),Rep K G H x v->Rep K G' H' x v
 | .non,v,h=>h
 | .bl b,v,h=>h
 | .int i,v,h=>h
 | .str x,v,h=>h
 | .ty n,v,h=>h
 | .pot k, v, h => by
   obtain⟨p,e,r⟩:=h;exact⟨p,hp k p e,r⟩
 | .tup xs, v, h => by
   obtain⟨a,vs,e,t,r⟩:=h;refine⟨a,vs,e,?_,Reps.mono hk hM hp xs vs r⟩;obtain⟨n,t⟩:=t;exact⟨fun z=>(hM a z).elim n (fun z=>by rw [z] at t;cases t),hk a _ n t⟩
 | .lst xs, v, h => by
   obtain⟨a,vs,e,t,r⟩:=h;refine⟨a,vs,e,?_,Reps.mono hk hM hp xs vs r⟩;obtain⟨n,t⟩:=t;exact⟨fun z=>(hM a z).elim n (fun z=>by rw [z] at t;cases t),hk a _ n t⟩
 | .scr ns, v, h => by
   obtain⟨a,e,h⟩:=h;refine⟨a,e,?_⟩;rcases h with⟨n,o,t⟩ | h
   · exact .inl ⟨fun z=>(hM a z).elim n (fun z=>by rw [z] at t;cases t),o,hk a _ n t⟩
   · exact .inr h
 | .dct ks xs, v, h => by
   obtain⟨a,kvs,e,n,t,ek,r⟩:=h;exact⟨a,kvs,e,fun z=>(hM a z).elim n (fun z=>by rw [z] at t;cases t),hk a _ n t,ek,Reps.mono hk hM hp xs _ r⟩
 | .fdt ks xs, v, h => by
   obtain⟨a,kvs,e,n,t,ek,r⟩:=h;exact⟨a,kvs,e,fun z=>(hM a z).elim n (fun z=>Rd.ne (u:=.dT kvs) t z),Rd.keep (u:=.dT kvs) t (fun o e=>hk a o n e),ek,Reps.mono hk hM hp xs _ r⟩
theorem Reps.mono (hk:∀b o,b∉G.M->H b=some o->H' b=some o)(hM:∀a∈G'.M,a∈G.M\/H a=none)(hp:∀(k:Nat) (p:Addr),G.pots[k]?=some p->G'.pots[k]?=some p):∀(xs:List PV) (vs:List V),Reps K G H xs vs->Reps K G' H' xs vs
 | [],vs,h=>h
 | x :: xs, vs, h => by
   obtain⟨v,r,e,hx,hr⟩:=h;exact⟨v,r,e,Rep.mono hk hM hp x v hx,Reps.mono hk hM hp xs r hr⟩
end
theorem Rep.same (h:Rep K G H x v)(s:Same H H'):Rep K G H' x v:=Rep.mono (fun b o _ e=>s b o e) (fun a z=>.inl z) (fun _ _ e=>e) x v h
theorem Reps.same (h:Reps K G H x v)(s:Same H H'):Reps K G H' x v:=Reps.mono (fun b o _ e=>s b o e) (fun a z=>.inl z) (fun _ _ e=>e) x v h
def Fr (G:Gh)(H H':Hp):Prop:=∀b o,b∉G.M->H b=some o->H' b=some o
theorem Fr.refl:Fr G H H:=fun _ _ _ e=>e
theorem Fr.trans (a:Fr G H H')(b:Fr G H' H2):Fr G H H2:=fun c o n e=>b c o n (a c o n e)
theorem Fr.of (s:Same H H'):Fr G H H':=fun b o _ e=>s b o e
theorem Rep.fr (h:Rep K G H x v)(s:Fr G H H'):Rep K G H' x v:=Rep.mono s (fun a z=>.inl z) (fun _ _ e=>e) x v h
theorem Reps.fr (h:Reps K G H x v)(s:Fr G H H'):Reps K G H' x v:=Reps.mono s (fun a z=>.inl z) (fun _ _ e=>e) x v h
theorem Reps.length:∀{xs:List PV} {vs:List V},Reps K G H xs vs->xs.length=vs.length
 | [],vs,h=>by cases(show vs=[] from h);rfl
 | x :: xs, vs, h => by
   obtain⟨v,r,e,hx,hr⟩:=h;subst e;simp [Reps.length hr]
theorem Reps.get:∀{xs:List PV} {vs:List V} {i:Nat} {v:V},Reps K G H xs vs->vs[i]?=some v->∃x,xs[i]?=some x/\Rep K G H x v
 | [],vs,i,v,h,e=>by cases(show vs=[] from h);simp at e
 | x :: xs, vs, i, v, h, e => by
   obtain⟨w,r,e1,hx,hr⟩:=h;subst e1;cases i with
   | zero=>simp at e;subst e;exact⟨x,rfl,hx⟩
   | succ i=>simpa using Reps.get (i:=i) hr (by grind)
theorem Reps.get':∀{xs:List PV} {vs:List V} {i:Nat} {x:PV},Reps K G H xs vs->xs[i]?=some x->∃v,vs[i]?=some v/\Rep K G H x v:=fun {xs vs i x} h e=>by
 obtain⟨hi,_⟩:=D9.mp e;have hl:=h.length;have e2:vs[i]?=some (vs[i]'(by omega)):=D7 (by omega);obtain⟨y,ey,r⟩:=h.get e2;rw [e] at ey;cases ey;exact⟨_,e2,r⟩
theorem Reps.append:∀{xs ys:List PV} {vs us:List V},Reps K G H xs vs->Reps K G H ys us->Reps K G H (xs++ys) (vs++us)
 | [],ys,vs,us,h,h'=>by cases(show vs=[] from h);exact h'
 | x :: xs, ys, vs, us, h, h' => by
   obtain⟨w,r,e1,hx,hr⟩:=h;subst e1;exact⟨w,r++us,rfl,hx,Reps.append hr h'⟩
theorem Reps.take:∀{xs:List PV} {vs:List V} (n:Nat),Reps K G H xs vs->Reps K G H (xs.take n) (vs.take n)
 | xs,vs,0,h=>by simp [Reps]
 | [],vs,n + 1,h=>by cases(show vs=[] from h);exact rfl
 | x :: xs, vs, n + 1, h => by
   obtain⟨w,r,e1,hx,hr⟩:=h;subst e1;exact⟨w,r.take n,rfl,hx,Reps.take n hr⟩
theorem Reps.drop:∀{xs:List PV} {vs:List V} (n:Nat),Reps K G H xs vs->Reps K G H (xs.drop n) (vs.drop n)
 | xs,vs,0,h=>by simpa using h
 | [],vs,n + 1,h=>by cases(show vs=[] from h);exact rfl
 | x :: xs, vs, n + 1, h => by
   obtain⟨w,r,e1,hx,hr⟩:=h;subst e1;exact Reps.drop n hr
theorem Reps.one (h:Rep K G H x v):Reps K G H [x] [v]:=⟨v,[],rfl,h,rfl⟩
theorem Reps.set:∀{xs:List PV} {vs:List V} (n:Nat) {x:PV} {v:V},Reps K G H xs vs->Rep K G H x v->Reps K G H (xs.set n x) (vs.set n v)
 | [],vs,n,x,v,h,_=>by cases(show vs=[] from h);exact rfl
 | y :: xs, vs, 0, x, v, h, h' => by
   obtain⟨w,r,e1,hx,hr⟩:=h;subst e1;exact⟨v,r,rfl,h',hr⟩
 | y :: xs, vs, n + 1, x, v, h, h' => by
   obtain⟨w,r,e1,hx,hr⟩:=h;subst e1;exact⟨w,r.set n v,rfl,hx,Reps.set n hr h'⟩
def MutO:HO->Prop
 | .lst _=>True
 | .dK _=>True
 | .dT _=>True
 | .set _ _=>True
 | .tbl _=>True
 | _=>False
end
inductive OK where
 | lst | dk (ks:List Key) | dt (ks:List (List Key)) | st (zs:List Key)
def memS (zs:List Key)(k:Key):Bool:=zs.any fun z=>decide (z=k)
def mkO:OK->List V->HO
 | .lst,vs=>.lst vs
 | .dk ks,vs=>.dK (ks.zip vs)
 | .dt ks,vs=>.dT (ks.zip vs)
 | .st zs,_=>.set (memS zs) zs.length
theorem Jc (k:OK)(vs:List V):MutO (mkO k vs):=by cases k <;> trivial
inductive Slot where
 | v (x:PV)
 | ow (k:OK) (xs:List PV)
abbrev Slot.own (xs:List PV):Slot:=.ow .lst xs
abbrev Env:=List (Option Slot)
structure PotK where
 at_:List Addr->Hp->Addr->Nat->Prop
 mono:∀{M H p n m},at_ M H p n->n<=m->at_ M H p m
 keep:∀{M H H' p n},at_ M H p n->H' p=H p->(∀b o,b∉M->H b=some o->H' b=some o)->at_ M H' p n
 more:∀{M M' H p n},at_ M H p n->(∀a∈M',a∈M\/H a=none)->at_ M' H p n
 mu:∀{M H p n},at_ M H p n->∃o,H p=some o/\MutO o
 /-- what is known of all pots together -/
 has:List Addr->Prop:=fun _=>True
 hasM:∀{l:List Addr} {p:Addr},has l->p∉l->has (l++[p]):=by intro _ _ _ _;trivial
structure Ct where
 K:A4
 T:PotK
 M0:List Addr
 pots0:List Addr
 H0:Hp
 np:Bool
def Cm (C:Ct)(G:Gh)(H:Hp)(o:Option (Option V)):Slot->Prop
 | .v x=>∃v,o=some (some v)/\Rep C.K G H x v
 | .ow k xs=>∃a vs,o=some (some (.ref a))/\a∈G.M/\a∉C.M0/\a∉G.pots/\H a=some (mkO k vs)/\Reps C.K G H xs vs
structure SR (C:Ct)(G:Gh)(σ:St)(H:Hp)(env:Env)(n:Nat):Prop where
 frame:∀b o,b∉C.pots0->C.H0 b=some o->H b=some o
 sub:∀a∈G.M,a∈C.M0\/C.H0 a=none
 sup:∀a∈C.M0,a∈G.M
 pots:∀p∈G.pots,p∈G.M/\C.T.at_ G.M H p n
 pre:∃l,G.pots=C.pots0++l/\(l=[]\/C.np=true)
 mu:∀a∈G.M,∃o,H a=some o/\MutO o
 slots:∀(i:Nat) (s:Slot),env[i]?=some (some s)->Cm C G H (σ[i]?) s
 inj:∀(i j:Nat) (xs ys:OK×List PV) (a:Addr),env[i]?=some (some (.ow xs.1 xs.2))->env[j]?=some (some (.ow ys.1 ys.2))->σ[i]?=some (some (.ref a))->σ[j]?=some (some (.ref a))->i=j
 p0:(∀p∈C.pots0,p∈C.M0)/\C.T.has G.pots
 len:env.length=σ.length
 newp:∀p∈G.pots,p∉C.pots0->p∈C.M0->False
section
variable {C:Ct}{G G':Gh}{σ:St}{H H':Hp}{env:Env}{n:Nat}
theorem SR.hasG (S:SR C G σ H env n):C.T.has G.pots:=S.p0.2
theorem SR.fresh (S:SR C G σ H env n)(h:H p=none):p∉G.M:=fun z=>by
 obtain⟨o,e,_⟩:=S.mu p z;rw [h] at e;cases e
theorem SR.same (S:SR C G σ H env n)(s:Same H H'):SR C G σ H' env n where
 frame b o hb e:=s b o (S.frame b o hb e)
 sub:=S.sub
 sup:=S.sup
 pots p hp:=⟨(S.pots p hp).1,C.T.keep (S.pots p hp).2 (by
   obtain⟨o,e,_⟩:=C.T.mu (S.pots p hp).2
   rw [e,s p o e]) fun b o _ e=>s b o e⟩
 pre:=S.pre
 mu a ha:=by
   obtain⟨o,e,m⟩:=S.mu a ha;exact⟨o,s a o e,m⟩
 slots i x e:=by
   have:=S.slots i x e;cases x with
   | v x =>
     obtain⟨v,e1,r⟩:=this;exact⟨v,e1,r.same s⟩
   | ow kk xs =>
     obtain⟨a,vs,e1,h1,h2,h3,h4,r⟩:=this;exact⟨a,vs,e1,h1,h2,h3,s _ _ h4,r.same s⟩
 inj:=S.inj
 p0:=S.p0
 len:=S.len
 newp:=S.newp
theorem Same.lay1 (h:H p=none):Same H (upd H p o):=(Same.refl H).lay h
end
end Pu
end
section
namespace Pu
open PySem PySem.Spec L2
abbrev PK:=PV->Env->Nat->Prop
abbrev pE:=Env->Nat->PK->Prop
abbrev pT:=Env->Nat->(Bool->Env->Nat->Prop)->Prop
abbrev pA:=Env->Nat->(List PV->Env->Nat->Prop)->Prop
abbrev pF:=List PV->Nat->(PV->Nat->Prop)->Prop
def RdV (K:A4)(G:Gh)(H:Hp)(x:PV)(v:V):Prop:=Rep K G H x v\/∃a vs xs,x=.lst xs/\v=.ref a/\H a=some (.lst vs)/\Reps K G H xs vs
def RdS (C:Ct)(G:Gh)(σ:St)(H:Hp)(env:Env)(x:PV)(v:V):Prop:=Rep C.K G H x v\/∃(i:Nat) (a:Addr) (xs:List PV),env[i]?=some (some (.ow .lst xs))/\σ[i]?=some (some (.ref a))/\x=.lst xs/\v=.ref a
def EOk (K:A4)(T:PotK)(t:TE)(pe:pE):Prop:=∀(C:Ct) (G:Gh) (σ:St) (H:Hp) (env:Env) (n:Nat) (R:PK) (Q:VK),C.K=K->C.T=T->SR C G σ H env n->pe env n R->
 (∀x env' n' v H',R x env' n'->SR C G σ H' env' n'->Rep K G H' x v->Fr G H H'->Q v H')->t σ H Q
def ROk (K:A4)(T:PotK)(t:TE)(pe:pE):Prop:=∀(C:Ct) (G:Gh) (σ:St) (H:Hp) (env:Env) (n:Nat) (R:PK) (Q:VK),C.K=K->C.T=T->SR C G σ H env n->pe env n R->
 (∀x env' n' v H',R x env' n'->SR C G σ H' env' n'->RdS C G σ H' env' x v->Fr G H H'->Q v H')->t σ H Q
def NOk (K:A4)(T:PotK)(t:TE)(pn:pA):Prop:=∀(C:Ct) (G:Gh) (σ:St) (H:Hp) (env:Env) (n:Nat) (R:List PV->Env->Nat->Prop) (Q:VK),C.K=K->C.T=T->SR C G σ H env n->pn env n R->
 (∀xs env' n' a vs Hb,R xs env' n'->SR C G σ Hb env' n'->Fr G H Hb->Hb a=none->Reps K G Hb xs vs->Q (.ref a) (upd Hb a (.lst vs)))->t σ H Q
def TOk (K:A4)(T:PotK)(t:TT)(pt:pT):Prop:=∀(C:Ct) (G:Gh) (σ:St) (H:Hp) (env:Env) (n:Nat) (R:Bool->Env->Nat->Prop) (Q:Bool->Hp->Prop),C.K=K->C.T=T->SR C G σ H env n->pt env n R->
 (∀b env' n' H',R b env' n'->SR C G σ H' env' n'->Fr G H H'->Q b H')->t σ H Q
def AOk (K:A4)(T:PotK)(t:TA)(pa:pA):Prop:=∀(C:Ct) (G:Gh) (σ:St) (H:Hp) (env:Env) (n:Nat) (R:List PV->Env->Nat->Prop) (Q:List V->Hp->Prop),C.K=K->C.T=T->SR C G σ H env n->pa env n R->
 (∀xs env' n' vs H',R xs env' n'->SR C G σ H' env' n'->Reps K G H' xs vs->Fr G H H'->Q vs H')->t σ H Q
structure EW (X:Cx)(e:Expr)(t:TE):Prop where
 h:PE X e t
structure SW (X:Cx)(st:Stmt)(t:TS):Prop where
 h:PS X st t
structure GW (X:Cx)(e:Expr)(g:TG):Prop where
 h:PG X e g
theorem vw (i:Nat)(hN:X.N[i]?=some x:=by rfl)(hv:Vis X.env.scope x:=by first | exact Or.inl rfl | exact Or.inr (Or.inl rfl) | exact Or.inr (Or.inr rfl))(hd:(x == ("__debug__":Str))=false:=by decide)(hcd:(x == ("__classdict__":Str))=false:=by decide):EW X (.Name x pos) (tVar i):=⟨Ix hN hv hd hcd⟩
def QE {ι:Type}(T:PotK)(K:A4)(F:ι->Cx)(e:Expr)(pe:pE):Prop:=∃t,(∀z,PE (F z) e t)/\EOk K T t pe
def QR {ι:Type}(T:PotK)(K:A4)(F:ι->Cx)(e:Expr)(pe:pE):Prop:=∃t,(∀z,PE (F z) e t)/\ROk K T t pe
def QN {ι:Type}(T:PotK)(K:A4)(F:ι->Cx)(e:Expr)(pn:pA):Prop:=∃t,(∀z,PE (F z) e t)/\NOk K T t pn
def QT {ι:Type}(T:PotK)(K:A4)(F:ι->Cx)(e:Expr)(pt:pT):Prop:=∃t,(∀z,PT (F z) e t)/\TOk K T t pt
def QW {ι:Type}(T:PotK)(K:A4)(F:ι->Cx)(e:Expr)(pt:pT):Prop:=∃t,(∀z,PW (F z) e t)/\TOk K T t pt
def QA {ι:Type}(T:PotK)(K:A4)(F:ι->Cx)(es:List Expr)(pa:pA):Prop:=∃t,(∀z,PA (F z) es t)/\AOk K T t pa
section
variable {T:PotK}{ι:Type}{K:A4}{F:ι->Cx}{e a b:Expr}{es:List Expr}{pe pa pb:pE}
theorem Reps.nil:Reps K G H [] []:=rfl
theorem Reps.cons (h:Rep K G H x v)(h':Reps K G H xs vs):Reps K G H (x::xs) (v::vs):=⟨v,vs,rfl,h,h'⟩
theorem RdS.rd (S:SR C G σ H env n)(h:RdS C G σ H env x v):RdV C.K G H x v:=by
 rcases h with h | ⟨i,a,xs,e1,e2,ex,ev⟩
 · exact .inl h
 · obtain⟨a',vs,e3,_,_,_,h4,r⟩:=S.slots i _ e1;rw [e2] at e3;cases e3;exact .inr ⟨a,vs,xs,ex,ev,h4,r⟩
theorem RdS.fr (h:RdS C G σ H env x v)(f:Fr G H H'):RdS C G σ H' env x v:=by
 rcases h with h | h
 · exact .inl (h.fr f)
 · exact .inr h
theorem RdV.lst (h:RdV K G H (.lst xs) v):∃a vs,v=.ref a/\SqL K H a vs/\Reps K G H xs vs:=by
 rcases h with⟨a,vs,e,t,r⟩ | ⟨a,vs,ys,ex,ev,h4,r⟩
 · exact⟨a,vs,e,t.sq,r⟩
 · cases ex;exact⟨a,vs,ev,SqL.of h4,r⟩
theorem RdV.rep {K:A4}{G:Gh}{H:Hp}{x:PV}{v:V}(h:RdV K G H x v)(hx:∀xs,x≠.lst xs):Rep K G H x v:=by simp_all [Gh,Hp,PV,RdV,V]
theorem RdV.tup (h:RdV K G H (.tup xs) v):∃a vs,v=.ref a/\SqT K H a vs/\Reps K G H xs vs:=by
 obtain⟨a,vs,e,t,r⟩:=h.rep (fun _ z=>nomatch z);exact⟨a,vs,e,t.sq,r⟩
theorem RdV.int (h:RdV K G H (.int i) v):v=.int i:=h.rep (fun _ z=>nomatch z)
theorem RdV.str (h:RdV K G H (.str i) v):v=.str i:=h.rep (fun _ z=>nomatch z)
theorem RdV.bl (h:RdV K G H (.bl i) v):v=.bl i:=h.rep (fun _ z=>nomatch z)
theorem RdV.non (h:RdV K G H .non v):v=.non:=h.rep (fun _ z=>nomatch z)
def qV (i:Nat):pE:=fun env n R=>match env[i]? with | some (some (.v x))=>R x env n | _=>False
def qO (i:Nat):pE:=fun env n R=>match env[i]? with | some (some (.ow .lst xs))=>R (.lst xs) env n | _=>False
def qC (c:PV):pE:=fun env n R=>R c env n
theorem qV_ex (h:qV i env n R):∃x,env[i]?=some (some (.v x))/\R x env n:=by
 unfold qV at h
 split at h
 · exact⟨_,by assumption,h⟩
 · exact h.elim
theorem qO_ex (h:qO i env n R):∃xs,env[i]?=some (some (.ow .lst xs))/\R (.lst xs) env n:=by
 unfold qO at h
 split at h
 · exact⟨_,by assumption,h⟩
 · exact h.elim
theorem qe_var (i:Nat)(h:∀z,EW (F z) (.Name x pos) (tVar i)):QE T K F (.Name x pos) (qV i):=by
 refine⟨_,fun z=>(h z).h,fun C G σ H env n R Q hK hT S hp k=>?_⟩;obtain⟨x,e,r⟩:=qV_ex hp;obtain⟨v,ev,rv⟩:=S.slots i _ e;exact⟨v,ev,k _ _ _ _ _ r S (hK▸rv) Fr.refl⟩
theorem V1 (i:Nat)(h:∀z,EW (F z) (.Name x pos) (tVar i)):QR T K F (.Name x pos) (qO i):=by
 refine⟨_,fun z=>(h z).h,fun C G σ H env n R Q hK hT S hp k=>?_⟩;obtain⟨xs,e,r⟩:=qO_ex hp;obtain⟨a,vs,ev,_,_,_,_,rv⟩:=S.slots i _ e;exact⟨.ref a,ev,k _ _ _ _ _ r S (.inr ⟨i,a,xs,e,ev,rfl,rfl⟩) Fr.refl⟩
theorem QE.r (h:QE T K F e pe):QR T K F e pe:=by
 obtain⟨t,h1,h2⟩:=h;exact⟨t,h1,fun C G σ H env n R Q hK hT S hp k=>h2 C G σ H env n R Q hK hT S hp fun x env' n' v H' r S' rp f=>k x env' n' v H' r S' (.inl (by rw [hK];exact rp)) f⟩
theorem ok_c (h:∀G H,Rep K G H c v):EOk K T (tC v) (qC c):=fun C G σ H env n R Q hK hT S hp k=>k _ _ _ _ _ hp S (h G H) Fr.refl
theorem A9 {i j pos}:QE T K F (.Constant (.int i) j pos) (qC (.int i)):=⟨_,fun z=>K9,ok_c fun _ _=>rfl⟩
theorem Y0 {i j pos}:QE T K F (.Constant (.bool i) j pos) (qC (.bl i)):=⟨_,fun z=>pe_bl,ok_c fun _ _=>rfl⟩
theorem C6 {i j pos}:QE T K F (.Constant (.str i) j pos) (qC (.str i)):=⟨_,fun z=>L0,ok_c fun _ _=>rfl⟩
theorem T5 {j pos}:QE T K F (.Constant .none j pos) (qC .non):=⟨_,fun z=>pe_non,ok_c fun _ _=>rfl⟩
abbrev w1:=PV->(PV->Prop)->Prop
abbrev w2:=PV->PV->(PV->Prop)->Prop
def W2 (K:A4)(r:R2)(w:w2):Prop:=∀(G:Gh) (H:Hp) (x y:PV) (v u:V) (R:PV->Prop) (Q:VK),(∀p,H p=none->p∉G.M)->RdV K G H x v->RdV K G H y u->w x y R->
 (∀z v' H',R z->Same H H'->Rep K G H' z v'->Q v' H')->r v u H Q
def W1 (K:A4)(r:V->Hp->VK->Prop)(w:w1):Prop:=∀(G:Gh) (H:Hp) (x:PV) (v:V) (R:PV->Prop) (Q:VK),(∀p,H p=none->p∉G.M)->RdV K G H x v->w x R->
 (∀z v' H',R z->Same H H'->Rep K G H' z v'->Q v' H')->r v H Q
def qOp (w:w2)(pa pb:pE):pE:=fun env n R=>pa env n fun x env1 n1=>pb env1 n1 fun y env2 n2=>w x y fun z=>R z env2 n2
def qOpR (w:w2)(pa pb:pE):pE:=fun env n R=>pa env n fun x env1 n1=>pb env1 n1 fun y env2 n2=>env2=env1/\w x y fun z=>R z env2 n2
def qUn (w:w1)(pa:pE):pE:=fun env n R=>pa env n fun x env1 n1=>w x fun z=>R z env1 n1
theorem Cn (hw:W2 K r w)(ha:EOk K T ta pa)(hb:ROk K T tb pb):EOk K T (tOp r ta tb) (qOp w pa pb):=fun C G σ H env n R Q hK hT S hp k=>by
 refine ha C G σ H env n _ _ hK hT S hp fun x env1 n1 v H1 p1 S1 r1 f1=>?_;refine hb C G σ H1 env1 n1 _ _ hK hT S1 p1 fun y env2 n2 u H2 p2 S2 r2 f2=>?_;subst hK;exact hw G H2 x y v u _ _ (fun p hp=>S2.fresh hp) (.inl (r1.fr f2)) (r2.rd S2) p2 fun z v' H' rz s rv=>k _ _ _ _ _ rz (S2.same s) rv ((f1.trans f2).trans (Fr.of s))
theorem Jd (hw:W2 K r w)(ha:ROk K T ta pa)(hb:ROk K T tb pb):EOk K T (tOp r ta tb) (qOpR w pa pb):=fun C G σ H env n R Q hK hT S hp k=>by
 refine ha C G σ H env n _ _ hK hT S hp fun x env1 n1 v H1 p1 S1 r1 f1=>?_;refine hb C G σ H1 env1 n1 _ _ hK hT S1 p1 fun y env2 n2 u H2 p2 S2 r2 f2=>?_;subst hK;obtain⟨e,p2⟩:=p2;subst e;exact hw G H2 x y v u _ _ (fun p hp=>S2.fresh hp) ((r1.fr f2).rd S2) (r2.rd S2) p2 fun z v' H' rz s rv=>k _ _ _ _ _ rz (S2.same s) rv ((f1.trans f2).trans (Fr.of s))
theorem ok_un (hw:W1 K r w)(ha:ROk K T ta pa):EOk K T (tUn r ta) (qUn w pa):=fun C G σ H env n R Q hK hT S hp k=>by
 refine ha C G σ H env n _ _ hK hT S hp fun x env1 n1 v H1 p1 S1 r1 f1=>?_;subst hK;exact hw G H1 x v _ _ (fun p hp=>S1.fresh hp) (r1.rd S1) p1 fun z v' H' rz s rv=>k _ _ _ _ _ rz (S1.same s) rv (f1.trans (Fr.of s))
def wI (C:Int->Int->Prop)(g:Int->Int->PV):w2:=fun x y R=>match x,y with | .int i,.int j=>C i j/\R (g i j) | _,_=>False
theorem W2.I (hg:∀i j G H,Rep K G H (g' i j) (g i j)):W2 K (rI C g) (wI C g'):=by
 intro G H x y v u R Q hf rx ry hw k;unfold wI at hw
 split at hw
 · exact⟨_,_,rx.int,ry.int,hw.1,k _ _ _ hw.2 (Same.refl _) (hg _ _ _ _)⟩
 · exact hw.elim
def wI0 (g:Int->Int->PV):w2:=fun x y R=>match x,y with | .int i,.int j=>R (g i j) | _,_=>False
theorem W2.I0 (hg:∀i j G H,Rep K G H (g' i j) (g i j)):W2 K (rI0 g) (wI0 g'):=by
 intro G H x y v u R Q hf rx ry hw k;unfold wI0 at hw
 split at hw
 · exact⟨_,_,rx.int,ry.int,k _ _ _ hw (Same.refl _) (hg _ _ _ _)⟩
 · exact hw.elim
def wAdd:w2:=fun x y R=>match x,y with
 | .int i,.int j=>R (.int (i + j))
 | .str i,.str j=>i.length + j.length<=1000000/\R (.str (i++j))
 | .tup xs,.tup ys=>xs.length + ys.length<=1000000/\R (.tup (xs++ys))
 | _,_=>False
theorem mil (h:n<=1000000):n<=B5:=K5 h (by rw [L6];decide)
theorem mil' (h:n<=1000000):n < B5:=Nat.lt_of_le_of_lt h (by rw [L6];decide)
theorem y8 (hf:p∉G.M)(hn:H p=none)(r:Reps K G H xs vs):Rep K G (upd H p (.tup vs)) (.tup xs) (.ref p):=
 ⟨p,vs,rfl,⟨hf,C4⟩,r.same (Same.lay1 hn)⟩
theorem Co (hf:p∉G.M)(hn:H p=none)(r:Reps K G H xs vs):Rep K G (upd H p (.lst vs)) (.lst xs) (.ref p):=
 ⟨p,vs,rfl,⟨hf,C4⟩,r.same (Same.lay1 hn)⟩
theorem W2.add:W2 K (fun x y H Q=>(rI0 fun i j=>.int (i + j)) x y H Q\/(∃i j,x=.str i/\y=.str j/\i.length + j.length<=B5/\Q (.str (i++j)) H)\/rCatA K x y H Q) wAdd:=by
 intro G H x y v u R Q hf rx ry hw k;unfold wAdd at hw
 split at hw
 · exact .inl ⟨_,_,rx.int,ry.int,k _ _ _ hw (Same.refl _) rfl⟩
 · exact .inr (.inl ⟨_,_,rx.str,ry.str,mil hw.1,k _ _ _ hw.2 (Same.refl _) rfl⟩)
 · rename_i xs ys;obtain⟨a,vs,ea,ta,ra⟩:=rx.rep (fun _ z=>nomatch z);obtain⟨b,us,eb,tb,rb⟩:=ry.rep (fun _ z=>nomatch z);refine .inr (.inr ⟨a,b,vs,us,ea,eb,ta.sq,tb.sq,?_,fun z=>?_,fun z1 z2=>?_,fun z1 z2 p hp=>?_⟩)
   · rw [<- ra.length,<- rb.length];exact mil hw.1
   · subst z;have:xs=[]:=List.eq_nil_of_length_eq_zero ra.length;subst this;exact k _ _ _ hw.2 (Same.refl _) ⟨b,us,rfl,tb,rb⟩
   · subst z2;have:ys=[]:=List.eq_nil_of_length_eq_zero rb.length;subst this;exact k _ _ _ hw.2 (Same.refl _) (by rw [P3];exact⟨a,vs,rfl,ta,ra⟩)
   · exact k _ _ _ hw.2 (Same.lay1 hp) (y8 (hf p hp) hp (ra.append rb))
 · exact hw.elim
theorem G8 (ha:QE T K F a pa)(hb:QE T K F b pb)(hK:∀z,(F z).K=K:=by intro _;rfl):QE T K F (.BinOp a .Add b pos) (qOp wAdd pa pb):=by
 obtain⟨ta,h1,h2⟩:=ha;obtain⟨tb,h3,h4⟩:=hb.r;exact⟨_,fun z=>L4 (A_.or (Ni.or (hK z▸NO))) (h1 z) (h3 z),Cn W2.add h2 h4⟩
theorem Ea (ho:∀z,OpR (F z) (Q2 op) r)(hw:W2 K r w)(ha:QE T K F a pa)(hb:QE T K F b pb):QE T K F (.BinOp a op b pos) (qOp w pa pb):=by
 obtain⟨ta,h1,h2⟩:=ha;obtain⟨tb,h3,h4⟩:=hb.r;exact⟨_,fun z=>L4 (ho z) (h1 z) (h3 z),Cn hw h2 h4⟩
def wSub:w2:=wI0 fun i j=>.int (i - j)
def wMul:w2:=fun x y R=>match x,y with
 | .int i,.int j=>CMul i j/\R (.int (i * j))
 | .str i,.int n=>i.length<=100/\0<=n/\n<=1000/\R (.str (Txt.mul i n))
 | _,_=>False
def Eb:w2:=wI CDiv fun i j=>.int (i / j)
def wMod:w2:=wI (fun _ j=>0 < j) fun i j=>.int (i % j)
theorem W2.mul:W2 K (fun x y H Q=>(rI CMul fun i j=>.int (i * j)) x y H Q\/(∃i n,x=.str i/\y=.int n/\i.length<=100/\0<=n/\n<=1000/\Q (.str (Txt.mul i n)) H)) wMul:=by
 intro G H x y v u R Q hf rx ry hw k;unfold wMul at hw
 split at hw
 · exact .inl ⟨_,_,rx.int,ry.int,hw.1,k _ _ _ hw.2 (Same.refl _) rfl⟩
 · exact .inr ⟨_,_,rx.str,ry.int,hw.1,hw.2.1,hw.2.2.1,k _ _ _ hw.2.2.2 (Same.refl _) rfl⟩
 · exact hw.elim
theorem b7 (ha:QE T K F a pa)(hb:QE T K F b pb):QE T K F (.BinOp a .Sub b pos) (qOp wSub pa pb):=Ea (fun _=>op_sub) (W2.I0 fun _ _ _ _=>rfl) ha hb
theorem Gn (ha:QE T K F a pa)(hb:QE T K F b pb):QE T K F (.BinOp a .Mult b pos) (qOp wMul pa pb):=Ea (fun _=>Cd.or NM) W2.mul ha hb
theorem Je (ha:QE T K F a pa)(hb:QE T K F b pb):QE T K F (.BinOp a .FloorDiv b pos) (qOp Eb pa pb):=Ea (fun _=>FU) (W2.I fun _ _ _ _=>rfl) ha hb
theorem qe_mod (ha:QE T K F a pa)(hb:QE T K F b pb):QE T K F (.BinOp a .Mod b pos) (qOp wMod pa pb):=Ea (fun _=>x8) (W2.I fun _ _ _ _=>rfl) ha hb
end
end Pu
end
section
namespace L2
open PySem PySem.Spec PyProof.Rows
def EqD (K:A4)(H:Hp):Nat->V->V->Bool->Prop
 | 0,x,y,b=>P5 x=true/\P5 y=true/\b=eqV x y
 | d + 1, x, y, b => (P5 x = true /\ P5 y = true /\ b = eqV x y) \/
   (∃p q xs ys,∃f:Nat->Bool,x=.ref p/\y=.ref q/\SqT K H p xs/\SqT K H q ys/\(∀(j:Nat) x' y',xs[j]?=some x'->ys[j]?=some y'->EqD K H d x' y' (f j))/\b=((C2 (min xs.length ys.length)).all f && xs.length == ys.length))\/
   (∃p q xs ys,∃f:Nat->Bool,x=.ref p/\y=.ref q/\SqL K H p xs/\SqL K H q ys/\(∀(j:Nat) x' y',xs[j]?=some x'->ys[j]?=some y'->EqD K H d x' y' (f j))/\b=((C2 (min xs.length ys.length)).all f && xs.length == ys.length))\/
   (b=false/\((∃p xs,x=.ref p/\(SqT K H p xs\/SqL K H p xs)/\P5 y=true)\/(∃p xs,y=.ref p/\(SqT K H p xs\/SqL K H p xs)/\P5 x=true)\/
     (∃p q xs ys,x=.ref p/\y=.ref q/\SqT K H p xs/\SqL K H q ys)\/(∃p q xs ys,x=.ref p/\y=.ref q/\SqL K H p xs/\SqT K H q ys)))
section
variable {X:Cx}{pins:List (Addr×Obj)}{σ:St}{H:Hp}{s:Shared}
theorem V2 (I:Inv X pins σ H s)(h:SqT X.K H p xs)(h':SqL X.K H p ys):False:=by
 obtain⟨its,r,⟨o,e,c,n,d⟩,_⟩:=I.tuple h;obtain⟨its',r',⟨o',n',e',c',_,d'⟩,_⟩:=I.list h';rw [e] at e';cases e';rw [c] at c';injection c' with c';exact absurd c' (by decide)
theorem EqD.refl (I:Inv X pins σ H s):∀(d:Nat) (x:V) (b:Bool),EqD X.K H d x x b->b=true:=by
 intro d
 induction d with
 | zero =>
   intro x b h;obtain⟨h1,_,rfl⟩:=h;exact IY h1
 | succ d ih =>
   intro x b h;rcases h with⟨h1,_,rfl⟩ | ⟨p,q,xs,ys,f,e1,e2,s1,s2,hf,rfl⟩ | ⟨p,q,xs,ys,f,e1,e2,s1,s2,hf,rfl⟩ | ⟨rfl,h⟩
   · exact IY h1
   · subst e1;cases e2;have:=I.tuple_inj s1 s2;subst this;simp only [AF,beq_self_eq_true,Bool.and_true,P2,O2];intro j hj;exact ih _ _ (hf j xs[j] xs[j] (by simp [hj]) (by simp [hj]))
   · subst e1;cases e2;have:=I.list_inj s1 s2;subst this;simp only [AF,beq_self_eq_true,Bool.and_true,P2,O2];intro j hj;exact ih _ _ (hf j xs[j] xs[j] (by simp [hj]) (by simp [hj]))
   · rcases h with⟨p,xs,rfl,_,h⟩ | ⟨p,xs,rfl,_,h⟩ | ⟨p,q,xs,ys,e1,e2,s1,s2⟩ | ⟨p,q,xs,ys,e1,e2,s1,s2⟩
     · cases h
     · cases h
     · subst e1;cases e2;exact(V2 I s1 s2).elim
     · subst e1;cases e2;exact(V2 I s2 s1).elim
theorem Inv.sqL (I:Inv X pins σ H s)(h:SqL X.K H p xs):∃its:List Value,Vals xs its/\s.heap.IsList p its.toArray:=by
 obtain⟨its,r,pl,_⟩:=I.list h;exact⟨its,r,pl.isList⟩
theorem Inv.sqT (I:Inv X pins σ H s)(h:SqT X.K H p xs):∃its:List Value,Vals xs its/\s.heap.IsTuple p its.toArray:=by
 obtain⟨its,r,pl,_⟩:=I.tuple h;exact⟨its,r,pl⟩
theorem Jf (I:Inv X pins σ H s)(hu:A.units < cLine)(hq:SqT X.K H p xs\/SqL X.K H p xs)(ry:RelV y w)(fy:P5 y=true) :
   AU A s (.ref p) w false/\AT A s (.ref p) w true/\AU A s w (.ref p) false/\AT A s w (.ref p) true/\x4 A s (.ref p) w false/\x4 A s w (.ref p) false:=by
 rcases hq with hq | hq
 · obtain⟨its,r,il⟩:=I.sqT hq;cases y with
   | non=>cases ry;exact⟨.tuple_none il hu,.tuple_none il hu,.none_tuple il hu,.none_tuple il hu,.tuple_none il hu,.none_tuple il hu⟩
   | bl b=>cases ry;exact⟨.tuple_bool b il hu,.tuple_bool b il hu,.bool_tuple b il hu,.bool_tuple b il hu,.tuple_bool b il hu,.bool_tuple b il hu⟩
   | int i=>obtain⟨t,rfl⟩:=ry;exact⟨.tuple_int i t il hu,.tuple_int i t il hu,.int_tuple i t il hu,.int_tuple i t il hu,.tuple_int i t il hu,.int_tuple i t il hu⟩
   | str i=>obtain⟨t,rfl⟩:=ry;exact⟨.tuple_str i t il hu,.tuple_str i t il hu,.str_tuple i t il hu,.str_tuple i t il hu,.tuple_str i t il hu,.str_tuple i t il hu⟩
   | _=>cases fy
 · obtain⟨its,r,il⟩:=I.sqL hq;cases y with
   | non=>cases ry;exact⟨.list_none il hu,.list_none il hu,.none_list il hu,.none_list il hu,.list_none il hu,.none_list il hu⟩
   | bl b=>cases ry;exact⟨.list_bool b il hu,.list_bool b il hu,.bool_list b il hu,.bool_list b il hu,.list_bool b il hu,.bool_list b il hu⟩
   | int i=>obtain⟨t,rfl⟩:=ry;exact⟨.list_int i t il hu,.list_int i t il hu,.int_list i t il hu,.int_list i t il hu,.list_int i t il hu,.int_list i t il hu⟩
   | str i=>obtain⟨t,rfl⟩:=ry;exact⟨.list_str i t il hu,.list_str i t il hu,.str_list i t il hu,.str_list i t il hu,.list_str i t il hu,.str_list i t il hu⟩
   | _=>cases fy
theorem Jg (rx:RelV x u)(ry:RelV y w)(fx:P5 x=true)(fy:P5 y=true):AU A s u w (eqV x y)/\AT A s u w (!eqV x y):=by
 cases x with
 | non =>
   cases rx;cases y with
   | non=>cases ry;exact⟨.none_none,.none_none⟩
   | bl j=>cases ry;exact⟨.none_bool j,.none_bool j⟩
   | int j=>obtain⟨t,rfl⟩:=ry;exact⟨.none_int j t,.none_int j t⟩
   | str j=>obtain⟨t,rfl⟩:=ry;exact⟨.none_str j t,.none_str j t⟩
   | _=>cases fy
 | bl i =>
   cases rx;cases y with
   | non=>cases ry;exact⟨.bool_none i,.bool_none i⟩
   | bl j=>cases ry;exact⟨.bool_bool i j,.bool_bool i j⟩
   | int j=>obtain⟨t,rfl⟩:=ry;exact⟨.bool_int i j t,.bool_int i j t⟩
   | str j=>obtain⟨t,rfl⟩:=ry;exact⟨.bool_str i j t,.bool_str i j t⟩
   | _=>cases fy
 | int i =>
   obtain⟨ti,rfl⟩:=rx;cases y with
   | non=>cases ry;exact⟨.int_none i ti,.int_none i ti⟩
   | bl j=>cases ry;exact⟨.int_bool i ti j,.int_bool i ti j⟩
   | int j=>obtain⟨t,rfl⟩:=ry;exact⟨.int_int i ti j t,.int_int i ti j t⟩
   | str j=>obtain⟨t,rfl⟩:=ry;exact⟨.int_str i ti j t,.int_str i ti j t⟩
   | _=>cases fy
 | str i =>
   obtain⟨ti,rfl⟩:=rx;cases y with
   | non=>cases ry;exact⟨.str_none i ti,.str_none i ti⟩
   | bl j=>cases ry;exact⟨.str_bool i ti j,.str_bool i ti j⟩
   | int j=>obtain⟨t,rfl⟩:=ry;exact⟨.str_int i ti j t,.str_int i ti j t⟩
   | str j=>obtain⟨t,rfl⟩:=ry;exact⟨.str_str i ti j t,.str_str i ti j t⟩
   | _=>cases fy
 | _=>cases fx
theorem Cp (A:Around):A.in1.units=A.units + 1:=rfl
theorem EqD.at (I:Inv X pins σ H s):∀(d:Nat) (A:Around) (x y:V) (u w:Value) (b:Bool),A.units + d < cLine->RelV x u->RelV y w->EqD X.K H d x y b->x4 A s u w b/\AU A s u w b/\AT A s u w (!b):=by
 intro d
 induction d with
 | zero =>
   intro A x y u w b hu rx ry h;obtain⟨h1,h2,rfl⟩:=h;exact⟨IS rx ry h1 h2,Jg rx ry h1 h2⟩
 | succ d ih =>
   intro A x y u w b hu rx ry h;have hu0:A.units < cLine:=by omega
   have hu1:A.in1.units + d < cLine:=by rw [Cp];omega
   have hrefl:=EqD.refl I (d + 1) x b;rcases h with⟨h1,h2,rfl⟩ | ⟨p,q,xs,ys,f,e1,e2,s1,s2,hf,eb⟩ | ⟨p,q,xs,ys,f,e1,e2,s1,s2,hf,eb⟩ | ⟨rfl,h⟩
   · exact⟨IS rx ry h1 h2,Jg rx ry h1 h2⟩
   · subst e1 e2;cases rx;cases ry;obtain⟨its,r1,t1⟩:=I.sqT s1;obtain⟨its2,r2,t2⟩:=I.sqT s2;have z1:its.toArray.size=xs.length:=by simpa using r1.length.symm
     have z2:its2.toArray.size=ys.length:=by simpa using r2.length.symm
     have he:∀j (h1:j < its.toArray.size) (h2:j < its2.toArray.size),x4 A.in1 s its.toArray[j] its2.toArray[j] (f j):=by
       intro j h1 h2;obtain⟨x',e1,q1⟩:=r1.getE (j:=j) (by omega);obtain⟨y',e2,q2⟩:=r2.getE (j:=j) (by grind);exact(ih A.in1 x' y' _ _ (f j) hu1 (by grind) (by grind) (hf j x' y' e1 e2)).1
     have rc:AU A s (.ref p) (.ref q) b:=by
       rw [eb,<- z1,<- z2];exact SeqAt.RcAt.tuples t1 t2 hu0 he
     have rn:AT A s (.ref p) (.ref q) (!b):=by
       rw [eb,<- z1,<- z2];exact SeqAt.RcNeAt.tuples t1 t2 hu0 he
     refine⟨?_,rc,rn⟩
     by_cases hpq:p=q
     · subst hpq;rw [hrefl (.inr (.inl ⟨p,p,xs,ys,f,rfl,rfl,s1,s2,hf,eb⟩))];exact .same _
     · exact .of_refs hpq rc
   · subst e1 e2;cases rx;cases ry;obtain⟨its,r1,t1⟩:=I.sqL s1;obtain⟨its2,r2,t2⟩:=I.sqL s2;have z1:its.toArray.size=xs.length:=by simpa using r1.length.symm
     have z2:its2.toArray.size=ys.length:=by simpa using r2.length.symm
     have he:∀j (h1:j < its.toArray.size) (h2:j < its2.toArray.size),x4 A.in1 s its.toArray[j] its2.toArray[j] (f j):=by
       intro j h1 h2;obtain⟨x',e1,q1⟩:=r1.getE (j:=j) (by omega);obtain⟨y',e2,q2⟩:=r2.getE (j:=j) (by grind);exact(ih A.in1 x' y' _ _ (f j) hu1 (by grind) (by grind) (hf j x' y' e1 e2)).1
     have rr:AU A s (.ref p) (.ref q) b/\AT A s (.ref p) (.ref q) (!b):=by
       by_cases hl:xs.length=ys.length
       · have e3:b=(C2 its.toArray.size).all f:=by rw [eb,hl,AF,beq_self_eq_true,Bool.and_true,z1,hl]
         rw [e3];exact⟨SeqAt.RcAt.lists t1 t2 (by grind) hu0 he,SeqAt.RcNeAt.lists t1 t2 (by grind) hu0 he⟩
       · have e3:b=false:=by
           rw [eb];have:(xs.length == ys.length)=false:=by simpa using hl
           rw [this,Bool.and_false]
         rw [e3];have e4:(its.toArray.size != its2.toArray.size)=true:=by rw [z1,z2];simpa using hl
         exact⟨SeqAt.RcAt.lists_lengths t1 t2 e4 hu0,SeqAt.RcNeAt.lists_lengths t1 t2 e4 hu0⟩
     refine⟨?_,rr⟩
     by_cases hpq:p=q
     · subst hpq;rw [hrefl (.inr (.inr (.inl ⟨p,p,xs,ys,f,rfl,rfl,s1,s2,hf,eb⟩)))];exact .same _
     · exact .of_refs hpq rr.1
   · rcases h with⟨p,xs,rfl,hq,fy⟩ | ⟨p,xs,rfl,hq,fx⟩ | ⟨p,q,xs,ys,e1,e2,s1,s2⟩ | ⟨p,q,xs,ys,e1,e2,s1,s2⟩
     · cases rx;obtain⟨a1,a2,a3,a4,a5,a6⟩:=Jf I hu0 hq ry fy;exact⟨a5,a1,a2⟩
     · cases ry;obtain⟨a1,a2,a3,a4,a5,a6⟩:=Jf I hu0 hq rx fx;exact⟨a6,a3,a4⟩
     · subst e1 e2;cases rx;cases ry;obtain⟨its,r1,t1⟩:=I.sqT s1;obtain⟨its2,r2,t2⟩:=I.sqL s2;exact⟨.tuple_list t1 t2 hu0,.tuple_list t1 t2 hu0,.tuple_list t1 t2 hu0⟩
     · subst e1 e2;cases rx;cases ry;obtain⟨its,r1,t1⟩:=I.sqL s1;obtain⟨its2,r2,t2⟩:=I.sqT s2;exact⟨.list_tuple t1 t2 hu0,.list_tuple t1 t2 hu0,.list_tuple t1 t2 hu0⟩
end
section
variable {X:Cx}
def rEqD (K:A4)(d:Nat)(neg:Bool):R2:=fun x y H Q=>∃b,EqD K H d x y b/\Q (.bl (if neg then !b else b)) H
theorem op_eqD (d:Nat)(hu:X.A.units + d < cLine):OpR X (O0 .Eq) (rEqD X.K d false):=by
 intro pins s σ H x y v u Q I rx ry h;obtain⟨b,hb,q⟩:=h;exact(hb.at I d X.A x y v u b hu rx ry).2.1 X.prog X.w X.xe _ ⟨.bl _,H,I,rfl,q⟩
theorem op_neD (d:Nat)(hu:X.A.units + d < cLine):OpR X (O0 .NotEq) (rEqD X.K d true):=by
 intro pins s σ H x y v u Q I rx ry h;obtain⟨b,hb,q⟩:=h;exact(hb.at I d X.A x y v u b hu rx ry).2.2 X.prog X.w X.xe _ ⟨.bl _,H,I,rfl,q⟩
def rInD (K:A4)(d:Nat)(neg:Bool):R2:=fun x y H Q=>∃p ys,∃f:Nat->Bool,y=.ref p/\(SqL K H p ys\/SqT K H p ys)/\(∀(j:Nat) z,ys[j]?=some z->EqD K H d z x (f j))/\Q (.bl (if neg then !((C2 ys.length).any f) else(C2 ys.length).any f)) H
theorem Jh (h:∀j,j < n->f j=g j):(C2 n).all f=(C2 n).all g:=by
 rw [n6,P2,P2];constructor
 · intro k j hj;rw [<- h j (O2.mp hj)];exact k j hj
 · intro k j hj;rw [h j (O2.mp hj)];exact k j hj
theorem EqD.det (I:Inv X pins σ H s):∀(d:Nat) (x y:V) (b b':Bool),EqD X.K H d x y b->EqD X.K H d x y b'->b=b':=by
 intro d
 induction d with
 | zero =>
   intro x y b b' h h';rw [h.2.2,h'.2.2]
 | succ d ih =>
   intro x y b b' h h';rcases h with⟨h1,h2,rfl⟩ | ⟨p,q,xs,ys,f,rfl,rfl,s1,s2,hf,rfl⟩ | ⟨p,q,xs,ys,f,rfl,rfl,s1,s2,hf,rfl⟩ | ⟨rfl,h⟩
   · rcases h' with⟨h1',h2',rfl⟩ | ⟨p,q,xs,ys,f,rfl,rfl,s1,s2,hf,rfl⟩ | ⟨p,q,xs,ys,f,rfl,rfl,s1,s2,hf,rfl⟩ | ⟨rfl,h⟩
     · rfl
     · cases h1
     · cases h1
     · rcases h with⟨p,xs,rfl,_,h⟩ | ⟨p,xs,rfl,_,h⟩ | ⟨p,q,xs,ys,rfl,rfl,s1,s2⟩ | ⟨p,q,xs,ys,rfl,rfl,s1,s2⟩
       · cases h1
       · cases h2
       · cases h1
       · cases h1
   · rcases h' with⟨h1',h2',rfl⟩ | ⟨p',q',xs',ys',f',e1,e2,s1',s2',hf',rfl⟩ | ⟨p',q',xs',ys',f',e1,e2,s1',s2',hf',rfl⟩ | ⟨rfl,h⟩
     · cases h1'
     · cases e1;cases e2;have:=I.tuple_inj s1 s1';subst this;have:=I.tuple_inj s2 s2';subst this;rw [Jh fun j hj=>ih _ _ _ _ (hf j (xs[j]'(by omega)) (ys[j]'(by omega)) (D7 _) (D7 _)) (hf' j (xs[j]'(by omega)) (ys[j]'(by omega)) (D7 _) (D7 _))]
     · cases e1;exact(V2 I s1 s1').elim
     · rcases h with⟨p',xs',e1,_,h⟩ | ⟨p',xs',e1,_,h⟩ | ⟨p',q',xs',ys',e1,e2,s1',s2'⟩ | ⟨p',q',xs',ys',e1,e2,s1',s2'⟩
       · cases h
       · cases h
       · cases e2;exact(V2 I s2 s2').elim
       · cases e1;exact(V2 I s1 s1').elim
   · rcases h' with⟨h1',h2',rfl⟩ | ⟨p',q',xs',ys',f',e1,e2,s1',s2',hf',rfl⟩ | ⟨p',q',xs',ys',f',e1,e2,s1',s2',hf',rfl⟩ | ⟨rfl,h⟩
     · cases h1'
     · cases e1;exact(V2 I s1' s1).elim
     · cases e1;cases e2;have:=I.list_inj s1 s1';subst this;have:=I.list_inj s2 s2';subst this;rw [Jh fun j hj=>ih _ _ _ _ (hf j (xs[j]'(by omega)) (ys[j]'(by omega)) (D7 _) (D7 _)) (hf' j (xs[j]'(by omega)) (ys[j]'(by omega)) (D7 _) (D7 _))]
     · rcases h with⟨p',xs',e1,_,h⟩ | ⟨p',xs',e1,_,h⟩ | ⟨p',q',xs',ys',e1,e2,s1',s2'⟩ | ⟨p',q',xs',ys',e1,e2,s1',s2'⟩
       · cases h
       · cases h
       · cases e1;exact(V2 I s1' s1).elim
       · cases e2;exact(V2 I s2' s2).elim
   · rcases h' with⟨h1',h2',rfl⟩ | ⟨p',q',xs',ys',f',rfl,rfl,s1',s2',hf',rfl⟩ | ⟨p',q',xs',ys',f',rfl,rfl,s1',s2',hf',rfl⟩ | ⟨rfl,h'⟩
     · rcases h with⟨p,xs,rfl,_,h⟩ | ⟨p,xs,rfl,_,h⟩ | ⟨p,q,xs,ys,rfl,rfl,s1,s2⟩ | ⟨p,q,xs,ys,rfl,rfl,s1,s2⟩
       · cases h1'
       · cases h2'
       · cases h1'
       · cases h1'
     · rcases h with⟨p,xs,e1,_,h⟩ | ⟨p,xs,e1,_,h⟩ | ⟨p,q,xs,ys,e1,e2,s1,s2⟩ | ⟨p,q,xs,ys,e1,e2,s1,s2⟩
       · cases h
       · cases h
       · cases e2;exact(V2 I s2' s2).elim
       · cases e1;exact(V2 I s1' s1).elim
     · rcases h with⟨p,xs,e1,_,h⟩ | ⟨p,xs,e1,_,h⟩ | ⟨p,q,xs,ys,e1,e2,s1,s2⟩ | ⟨p,q,xs,ys,e1,e2,s1,s2⟩
       · cases h
       · cases h
       · cases e1;exact(V2 I s1 s1').elim
       · cases e2;exact(V2 I s2 s2').elim
     · rfl
open Classical in
theorem Ec (I:Inv X pins σ H s)(hu:A.units + d < cLine)(r:Vals ys its)(rx:RelV x v)(hf:∀(j:Nat) z,ys[j]?=some z->EqD X.K H d z x (f j)) :
   ∃e:Value->Bool,(∀y,y∈its->x4 A s y v (e y))/\its.any e=(C2 ys.length).any f:=by
 have key:∀(j j':Nat) (z:Value),its[j]?=some z->its[j']?=some z->f j=f j':=by
   intro j j' z h h';obtain⟨hj,_⟩:=D9.mp h;obtain⟨hj',_⟩:=D9.mp h';obtain⟨w1,a1,b1⟩:=r.getE hj;obtain⟨w2,a2,b2⟩:=r.getE hj';rw [D7 hj] at h;rw [D7 hj'] at h';cases h;rw [N0 h'] at b2;have:=b1.inj b2;subst this;exact EqD.det I d _ _ _ _ (hf j _ a1) (hf j' _ a2)
 let e:Value->Bool:=fun y=>decide (∃j,its[j]?=some y/\f j=true)
 have he:∀(j:Nat) (y:Value),its[j]?=some y->e y=f j:=by
   intro j y h;show decide _=_;cases hb:f j with
   | true=>exact decide_eq_true ⟨j,h,hb⟩
   | false=>exact decide_eq_false fun⟨j',h1,h2⟩=>by rw [key j j' y h h1,h2] at hb;cases hb
 refine⟨e,fun y hy=>?_,?_⟩
 · obtain⟨j,hj,rfl⟩:=Ay hy;obtain⟨w1,a1,b1⟩:=r.getE hj;rw [he j _ (D7 hj)];exact((hf j w1 a1).at I d A w1 x _ v (f j) hu b1 rx).1
 · have hl:=r.length;rw [n6,BM,BM];constructor
   · rintro⟨y,hy,h⟩;obtain⟨j,hj,rfl⟩:=Ay hy;exact⟨j,O2.mpr (by omega),by rw [<- he j _ (D7 hj)];exact h⟩
   · rintro⟨j,hj,h⟩;have hj':j < its.length:=by have:=O2.mp hj;omega
     exact⟨its[j],l8 hj',by rw [he j _ (D7 hj')];exact h⟩
theorem op_inD (d:Nat)(hu:X.A.units + (d + 1) < cLine):OpR X (O0 .In) (rInD X.K d false):=by
 intro pins s σ H x y v u Q I rx ry h;obtain⟨p,ys,f,rfl,hq,hf,q⟩:=h;cases ry;rcases hq with hq | hq
 · obtain⟨its,r,il⟩:=I.sqL hq;obtain⟨e,h1,h2⟩:=Ec I (A:=X.A.in1) (by rw [Cp];omega) r rx hf;refine SeqAt.in_listAt e il (fun y hy=>h1 y (by simpa using hy)) ⟨.bl _,H,I,rfl,?_⟩;rw [show its.toArray.any e=its.any e by simp,h2];exact q
 · obtain⟨its,r,il⟩:=I.sqT hq;obtain⟨e,h1,h2⟩:=Ec I (A:=X.A.in1) (by rw [Cp];omega) r rx hf;refine SeqAt.in_tupleAt e il (fun y hy=>h1 y (by simpa using hy)) ⟨.bl _,H,I,rfl,?_⟩;rw [show its.toArray.any e=its.any e by simp,h2];exact q
theorem NQ (d:Nat)(hu:X.A.units + (d + 1) < cLine):OpR X (O0 .NotIn) (rInD X.K d true):=by
 intro pins s σ H x y v u Q I rx ry h;obtain⟨p,ys,f,rfl,hq,hf,q⟩:=h;cases ry;rcases hq with hq | hq
 · obtain⟨its,r,il⟩:=I.sqL hq;obtain⟨e,h1,h2⟩:=Ec I (A:=X.A.in1) (by rw [Cp];omega) r rx hf;refine SeqAt.notIn_listAt e il (fun y hy=>h1 y (by simpa using hy)) ⟨.bl _,H,I,rfl,?_⟩;rw [show its.toArray.any e=its.any e by simp,h2];exact q
 · obtain⟨its,r,il⟩:=I.sqT hq;obtain⟨e,h1,h2⟩:=Ec I (A:=X.A.in1) (by rw [Cp];omega) r rx hf;refine SeqAt.notIn_tupleAt e il (fun y hy=>h1 y (by simpa using hy)) ⟨.bl _,H,I,rfl,?_⟩;rw [show its.toArray.any e=its.any e by simp,h2];exact q
end
end L2
namespace Pu
open PySem PySem.Spec L2
def p7:PV->Bool
 | .non=>true
 | .bl _=>true
 | .int _=>true
 | .str _=>true
 | _=>false
def cmpb:Nat->PV->Bool
 | 0,x=>p7 x
 | d + 1,.tup xs=>xs.all (cmpb d)
 | d + 1,.lst xs=>xs.all (cmpb d)
 | _ + 1,x=>p7 x
mutual
def eqP:PV->PV->Bool
 | .non,.non=>true
 | .bl a,.bl b=>a == b
 | .bl a,.int b=>(if a then 1 else 0) == b
 | .int a,.bl b=>a == (if b then 1 else 0)
 | .int a,.int b=>a == b
 | .str a,.str b=>a == b
 | .tup xs,.tup ys=>eqPs xs ys
 | .lst xs,.lst ys=>eqPs xs ys
 | _,_=>false
def eqPs:List PV->List PV->Bool
 | [],[]=>true
 | x::xs,y::ys=>eqP x y && eqPs xs ys
 | _,_=>false
end
theorem Go:∀(xs ys:List PV),((C2 (min xs.length ys.length)).all (fun j=>match xs[j]?,ys[j]? with | some x,some y=>eqP x y | _,_=>false) && xs.length == ys.length)=eqPs xs ys
 | [],[]=>rfl
 | [],_::_=>rfl
 | _::_,[]=>rfl
 | x :: xs, y :: ys => by
   have ih:=Go xs ys;show _=(eqP x y && eqPs xs ys);rw [<- ih];simp only [E8,Nat.succ_min_succ,FC,List.all_cons,List.all_map,Function.comp_def,Fz,FA];rw [Bool.and_assoc]
   congr 1
   simp
end Pu
end
section
namespace Pu
open PySem PySem.Spec L2
section
variable {K:A4}{G:Gh}{H:Hp}
inductive Sort3 (K:A4)(G:Gh)(H:Hp)(d:Nat)(x:PV)(v:V):Prop where
 | fl (h:P5 v=true) (s:p7 x=true)
 | tp (p:Addr) (xs:List PV) (vs:List V) (e:x=.tup xs) (ev:v=.ref p) (h:SqT K H p vs) (r:Reps K G H xs vs) (c:xs.all (cmpb d)=true)
 | ls (p:Addr) (xs:List PV) (vs:List V) (e:x=.lst xs) (ev:v=.ref p) (h:SqL K H p vs) (r:Reps K G H xs vs) (c:xs.all (cmpb d)=true)
theorem Bb (s:p7 x=true)(h:RdV K G H x v):P5 v=true:=by
 cases x with
 | non=>rw [h.non];rfl
 | bl b=>rw [h.bl];rfl
 | int b=>rw [h.int];rfl
 | str b=>rw [h.str];rfl
 | _=>cases s
theorem Ed (c:cmpb (d + 1) x=true)(h:RdV K G H x v):Sort3 K G H d x v:=by
 cases x with
 | tup xs =>
   obtain⟨a,vs,e,t,r⟩:=h.tup;exact .tp a xs vs rfl e t r c
 | lst xs =>
   obtain⟨a,vs,e,t,r⟩:=h.lst;exact .ls a xs vs rfl e t r c
 | non=>exact .fl (Bb c h) c
 | bl _=>exact .fl (Bb c h) c
 | int _=>exact .fl (Bb c h) c
 | str _=>exact .fl (Bb c h) c
 | ty _=>cases c
 | pot _=>cases c
 | scr _=>cases c
 | dct _ _=>cases c
 | fdt _ _=>cases c
theorem Ji (sx:p7 x=true)(sy:p7 y=true)(hx:RdV K G H x v)(hy:RdV K G H y u):eqP x y=eqV v u:=by
 cases x with
 | non =>
   cases hx.non;cases y with
   | non=>cases hy.non;rfl
   | bl j=>cases hy.bl;rfl
   | int j=>cases hy.int;rfl
   | str j=>cases hy.str;rfl
   | _=>cases sy
 | bl i =>
   cases hx.bl;cases y with
   | non=>cases hy.non;rfl
   | bl j=>cases hy.bl;rfl
   | int j=>cases hy.int;rfl
   | str j=>cases hy.str;rfl
   | _=>cases sy
 | int i =>
   cases hx.int;cases y with
   | non=>cases hy.non;rfl
   | bl j=>cases hy.bl;rfl
   | int j=>cases hy.int;rfl
   | str j=>cases hy.str;rfl
   | _=>cases sy
 | str i =>
   cases hx.str;cases y with
   | non=>cases hy.non;rfl
   | bl j=>cases hy.bl;rfl
   | int j=>cases hy.int;rfl
   | str j=>cases hy.str;rfl
   | _=>cases sy
 | _=>cases sx
theorem Ee (sy:p7 y=true):eqP (.tup xs) y=false/\eqP (.lst xs) y=false/\eqP y (.tup xs)=false/\eqP y (.lst xs)=false:=by
 cases y <;> first | exact⟨rfl,rfl,rfl,rfl⟩ | cases sy
theorem Gp:∀(d:Nat) (x y:PV) (v u:V),cmpb d x=true->cmpb d y=true->RdV K G H x v->RdV K G H y u->EqD K H d v u (eqP x y):=by
 intro d
 induction d with
 | zero=>intro x y v u cx cy hx hy;exact⟨Bb cx hx,Bb cy hy,Ji cx cy hx hy⟩
 | succ d ih =>
   intro x y v u cx cy hx hy
   have el:∀(xs ys:List PV) (vs us:List V),Reps K G H xs vs->Reps K G H ys us->xs.all (cmpb d)=true->ys.all (cmpb d)=true->∀(j:Nat) x' y',vs[j]?=some x'->us[j]?=some y'->EqD K H d x' y' (match xs[j]?,ys[j]? with | some x,some y=>eqP x y | _,_=>false):=by
     intro xs ys vs us r1 r2 c1 c2 j x' y' e1 e2;obtain⟨x1,ex,rx⟩:=r1.get e1;obtain⟨y1,ey,ry⟩:=r2.get e2;rw [ex,ey];exact ih x1 y1 x' y' (P2.mp c1 x1 (K2 ex)) (P2.mp c2 y1 (K2 ey)) (.inl rx) (.inl ry)
   cases Ed cx hx with
   | fl fx sx =>
     cases Ed cy hy with
     | fl fy sy=>exact .inl ⟨fx,fy,Ji sx sy hx hy⟩
     | tp q ys us e ev h r c=>subst e;exact .inr (.inr (.inr ⟨(Ee sx).2.2.1,.inr (.inl ⟨q,us,ev,.inl h,fx⟩)⟩))
     | ls q ys us e ev h r c=>subst e;exact .inr (.inr (.inr ⟨(Ee sx).2.2.2,.inr (.inl ⟨q,us,ev,.inr h,fx⟩)⟩))
   | tp p xs vs e ev h r c =>
     subst e;cases Ed cy hy with
     | fl fy sy=>exact .inr (.inr (.inr ⟨(Ee sy).1,.inl ⟨p,vs,ev,.inl h,fy⟩⟩))
     | tp q ys us e2 ev2 h2 r2 c2 =>
       subst e2;refine .inr (.inl ⟨p,q,vs,us,_,ev,ev2,h,h2,el xs ys vs us r r2 c c2,?_⟩);rw [<- r.length,<- r2.length];exact(Go xs ys).symm
     | ls q ys us e2 ev2 h2 r2 c2=>subst e2;exact .inr (.inr (.inr ⟨rfl,.inr (.inr (.inl ⟨p,q,vs,us,ev,ev2,h,h2⟩))⟩))
   | ls p xs vs e ev h r c =>
     subst e;cases Ed cy hy with
     | fl fy sy=>exact .inr (.inr (.inr ⟨(Ee sy).2.1,.inl ⟨p,vs,ev,.inr h,fy⟩⟩))
     | tp q ys us e2 ev2 h2 r2 c2=>subst e2;exact .inr (.inr (.inr ⟨rfl,.inr (.inr (.inr ⟨p,q,vs,us,ev,ev2,h,h2⟩))⟩))
     | ls q ys us e2 ev2 h2 r2 c2 =>
       subst e2;refine .inr (.inr (.inl ⟨p,q,vs,us,_,ev,ev2,h,h2,el xs ys vs us r r2 c c2,?_⟩));rw [<- r.length,<- r2.length];exact(Go xs ys).symm
end
section
variable {T:PotK}{ι:Type}{K:A4}{F:ι->Cx}{e a b c:Expr}{es rest:List Expr}{pe pa pb pc:pE}{pos:Pos}
def grd (b:Bool)(P:Prop):Prop:=match b with | true=>P | false=>False
theorem grd_t {P:Prop}:grd true P=P:=rfl
theorem grd_i {b:Bool}{P:Prop}(h:b=true)(p:P):grd b P:=by subst h;exact p
theorem Ef {b:Bool}{P:Prop}(h:grd b P):b=true:=by grind [grd]
theorem Bc {b:Bool}{P:Prop}(h:grd b P):P:=by cases b;exact h.elim;exact h
theorem gd2 {a b:Bool}{P:Prop}(h1:a=true)(h2:b=true)(p:P):grd a (grd b P):=grd_i h1 (grd_i h2 p)
def wEq (d:Nat):w2:=fun x y R=>grd (cmpb d x) (grd (cmpb d y) (R (.bl (eqP x y))))
def wNe (d:Nat):w2:=fun x y R=>grd (cmpb d x) (grd (cmpb d y) (R (.bl (!eqP x y))))
theorem W2.eq (d:Nat):W2 K (rEqD K d false) (wEq d):=fun G H x y v u R Q hf rx ry hw k=>⟨_,Gp d x y v u (Ef hw) (Ef (Bc hw)) rx ry,k _ _ _ (Bc (Bc hw)) (Same.refl _) rfl⟩
theorem W2.ne (d:Nat):W2 K (rEqD K d true) (wNe d):=fun G H x y v u R Q hf rx ry hw k=>⟨_,Gp d x y v u (Ef hw) (Ef (Bc hw)) rx ry,k _ _ _ (Bc (Bc hw)) (Same.refl _) rfl⟩
def memP (x:PV)(ys:List PV):Bool:=ys.any fun y=>eqP y x
def wIn (d:Nat)(neg:Bool):w2:=fun x y R=>match x,y with
 | .str i,.str j=>R (.bl (if neg then !(!(AM j i 0 j.length 1).isEmpty) else !(AM j i 0 j.length 1).isEmpty))
 | x,.lst ys=>cmpb d x=true/\ys.all (cmpb d)=true/\R (.bl (if neg then !memP x ys else memP x ys))
 | x,.tup ys=>cmpb d x=true/\ys.all (cmpb d)=true/\R (.bl (if neg then !memP x ys else memP x ys))
 | _,_=>False
theorem Jj {x:PV}:∀ys:List PV,((C2 ys.length).any fun j=>match ys[j]? with | some y=>eqP y x | none=>false)=memP x ys
 | []=>rfl
 | y :: ys => by
   have ih:=Jj (x:=x) ys;show _=(eqP y x || memP x ys);rw [<- ih];simp only [E8,FC,List.any_cons,List.any_map,Function.comp_def,Fz,FA]
theorem W2.in_ {K:A4}(d:Nat)(neg:Bool){r:R2}(hr:∀x y H Q,(∃i j,x=.str i/\y=.str j/\Q (.bl (if neg then !(!(AM j i 0 j.length 1).isEmpty) else !(AM j i 0 j.length 1).isEmpty)) H)\/rInD K d neg x y H Q->r x y H Q):W2 K r (wIn d neg):=by
 intro G H x y v u R Q hf rx ry hw k;refine hr _ _ _ _ ?_
 have seq:∀(ys:List PV) (p:Addr) (us:List V),u=.ref p->(SqL K H p us\/SqT K H p us)->Reps K G H ys us->cmpb d x=true/\ys.all (cmpb d)=true/\R (.bl (if neg then !memP x ys else memP x ys))->rInD K d neg v u H Q:=by
   intro ys p us eu hq r h;refine⟨p,us,fun j=>match ys[j]? with | some y=>eqP y x | none=>false,eu,hq,fun j z ez=>?_,?_⟩
   · obtain⟨y1,ey,ry⟩:=r.get ez;dsimp only;rw [ey];exact Gp d y1 x z v (P2.mp h.2.1 y1 (K2 ey)) h.1 (.inl ry) rx
   · rw [<- r.length,Jj];exact k _ _ _ h.2.2 (Same.refl _) rfl
 unfold wIn at hw
 split at hw
 · exact .inl ⟨_,_,rx.str,ry.str,k _ _ _ hw (Same.refl _) rfl⟩
 · obtain⟨p,us,eu,hq,r⟩:=ry.lst;exact .inr (seq _ p us eu (.inl hq) r hw)
 · obtain⟨p,us,eu,hq,r⟩:=ry.tup;exact .inr (seq _ p us eu (.inr hq) r hw)
 · exact hw.elim
def wLt:w2:=fun x y R=>match x,y with | .int i,.int j=>R (.bl (decide (i < j))) | .str i,.str j=>R (.bl (decide (i.cps.toList < j.cps.toList))) | _,_=>False
def wGt:w2:=wI0 fun i j=>.bl (decide (j < i))
theorem W2.lt:W2 K (fun x y H Q=>(rI0 fun i j=>.bl (decide (i < j))) x y H Q\/∃i j,x=.str i/\y=.str j/\Q (.bl (decide (i.cps.toList < j.cps.toList))) H) wLt:=by
 intro G H x y v u R Q hf rx ry hw k;unfold wLt at hw
 split at hw
 · exact .inl ⟨_,_,rx.int,ry.int,k _ _ _ hw (Same.refl _) rfl⟩
 · exact .inr ⟨_,_,rx.str,ry.str,k _ _ _ hw (Same.refl _) rfl⟩
 · exact hw.elim
def Gq:PV->Bool
 | .non=>true
 | _=>false
def wIsN:w2:=fun x y R=>match y with | .non=>R (.bl (Gq x)) | _=>False
def j3:w2:=fun x y R=>match y with | .non=>R (.bl (!Gq x)) | _=>False
theorem isnon {K:A4}{G:Gh}{H:Hp}{x:PV}{v:V}(h:RdV K G H x v):decide (v=.non)=Gq x:=by
 cases x with
 | non=>rw [h.non];rfl
 | bl b=>rw [h.bl];rfl
 | int b=>rw [h.int];rfl
 | str b=>rw [h.str];rfl
 | tup xs=>obtain⟨a,vs,e,_⟩:=h.tup;rw [e];rfl
 | lst xs=>obtain⟨a,vs,e,_⟩:=h.lst;rw [e];rfl
 | ty n=>rw [show v=.ty n from h.rep (fun _ z=>nomatch z)];rfl
 | pot k=>obtain⟨p,_,e⟩:=h.rep (fun _ z=>nomatch z);rw [e];rfl
 | scr k=>obtain⟨p,e,_⟩:=h.rep (fun _ z=>nomatch z);rw [e];rfl
 | dct ks xs=>obtain⟨a,kvs,e,_⟩:=h.rep (fun _ z=>nomatch z);rw [e];rfl
 | fdt ks xs=>obtain⟨a,kvs,e,_⟩:=h.rep (fun _ z=>nomatch z);rw [e];rfl
theorem W2.isN {K:A4}:W2 K (fun x y H Q=>y=.non/\Q (.bl (decide (x=.non))) H) wIsN:=by
 intro G H x y v u R Q hf rx ry hw k;unfold wIsN at hw
 split at hw
 · exact⟨ry.non,k _ _ _ hw (Same.refl _) (by rw [isnon rx];rfl)⟩
 · exact hw.elim
theorem W2.notN {K:A4}:W2 K (fun x y H Q=>y=.non/\Q (.bl (!decide (x=.non))) H) j3:=by
 intro G H x y v u R Q hf rx ry hw k;unfold j3 at hw
 split at hw
 · refine⟨ry.non,k _ _ _ hw (Same.refl _) ?_⟩;rw [isnon rx]
   rfl
 · exact hw.elim
structure Cmp {ι:Type}(K:A4)(F:ι->Cx)(op:CmpOp)(w:w2):Prop where
 ex:∃r,(∀z,OpR (F z) (O0 op) r)/\W2 K r w
theorem cEq (d:Nat)(hr:∀z,Room k (F z).A)(hd:d<=30:=by decide)(hK:∀z,(F z).K=K:=by intro _;rfl):Cmp K F .Eq (wEq d):=⟨_,fun z=>hK z▸op_eqD d (by have:=(hr z).units;omega),W2.eq d⟩
theorem cNe (d:Nat)(hr:∀z,Room k (F z).A)(hd:d<=30:=by decide)(hK:∀z,(F z).K=K:=by intro _;rfl):Cmp K F .NotEq (wNe d):=⟨_,fun z=>hK z▸op_neD d (by have:=(hr z).units;omega),W2.ne d⟩
theorem cIn (d:Nat)(hr:∀z,Room k (F z).A)(hd:d<=30:=by decide)(hK:∀z,(F z).K=K:=by intro _;rfl):Cmp K F .In (wIn d false):=⟨_,fun z=>Nf.or (hK z▸op_inD d (by have:=(hr z).units;omega)),W2.in_ d false fun _ _ _ _ h=>h⟩
theorem Cq (d:Nat)(hr:∀z,Room k (F z).A)(hd:d<=30:=by decide)(hK:∀z,(F z).K=K:=by intro _;rfl):Cmp K F .NotIn (wIn d true):=⟨_,fun z=>Ny.or (hK z▸NQ d (by have:=(hr z).units;omega)),W2.in_ d true fun _ _ _ _ h=>h⟩
theorem cLt:Cmp K F .Lt wLt:=⟨_,fun _=>op_lt.or Nd,W2.lt⟩
theorem cGt:Cmp K F .Gt wGt:=⟨_,fun _=>op_gt,W2.I0 fun _ _ _ _=>rfl⟩
theorem cIs:Cmp K F .Is wIsN:=⟨_,fun _=>op_isN,W2.isN⟩
theorem Cr:Cmp K F .IsNot j3:=⟨_,fun _=>Ng,W2.notN⟩
theorem b8 (hc:Cmp K F op w)(ha:QE T K F a pa)(hb:QR T K F b pb)(hm:v4 op b=false):QE T K F (.Compare a [op] [b] pos) (qOp w pa pb):=by
 obtain⟨r,ho,hw⟩:=hc.ex;obtain⟨ta,h1,h2⟩:=ha;obtain⟨tb,h3,h4⟩:=hb;exact⟨_,fun z=>IC (ho z) (h1 z) (h3 z) hm,Cn hw h2 h4⟩
def qB (pe:pE):pT:=fun env n R=>pe env n fun x env' n'=>match x with | .bl b=>R b env' n' | _=>False
theorem ok_b (h:EOk K T t pe):TOk K T (tB t) (qB pe):=fun C G σ H env n R Q hK hT S hp k=>by
 refine h C G σ H env n _ _ hK hT S hp fun x env' n' v H' r S' rp f=>?_;cases x with
 | bl b=>exact⟨b,rp,k _ _ _ _ r S' f⟩
 | _=>exact r.elim
theorem Jk (h:EOk K T t pe):TOk K T (tTest t) (qB pe):=fun C G σ H env n R Q hK hT S hp k=>by
 refine h C G σ H env n _ _ hK hT S hp fun x env' n' v H' r S' rp f=>?_;cases x with
 | bl b=>exact⟨b,rp,k _ _ _ _ r S' f⟩
 | _=>exact r.elim
theorem Cs (h:QE T K F e pe)(he:∀z whole,isTrue e (F z).env whole=(do let v ← whole;standAt e.pos;Y8 [v] (truthy v)):=by intro _ _;rfl):QT T K F e (qB pe):=by
 obtain⟨t,h1,h2⟩:=h;exact⟨_,fun z=>pt_val (h1 z) (he z),ok_b h2⟩
theorem E2 (hc:Cmp K F op w)(ha:QE T K F a pa)(hb:QR T K F b pb)(hm:v4 op b=false):QT T K F (.Compare a [op] [b] pos) (qB (qOp w pa pb)):=by
 obtain⟨r,ho,hw⟩:=hc.ex;obtain⟨ta,h1,h2⟩:=ha;obtain⟨tb,h3,h4⟩:=hb;exact⟨_,fun z=>Ce (ho z) (h1 z) (h3 z) hm,Jk (Cn hw h2 h4)⟩
theorem Gr (hc:Cmp K F op w)(ha:QR T K F a pa)(hb:QR T K F b pb)(hm:v4 op b=false):QT T K F (.Compare a [op] [b] pos) (qB (qOpR w pa pb)):=by
 obtain⟨r,ho,hw⟩:=hc.ex;obtain⟨ta,h1,h2⟩:=ha;obtain⟨tb,h3,h4⟩:=hb;exact⟨_,fun z=>Ce (ho z) (h1 z) (h3 z) hm,Jk (Jd hw h2 h4)⟩
variable {pt pu:pT}
def qAnd (t u:pT):pT:=fun env n R=>t env n fun b env1 n1=>if b=true then u env1 n1 R else R false env1 n1
def qOr (t u:pT):pT:=fun env n R=>t env n fun b env1 n1=>if b=true then R true env1 n1 else u env1 n1 R
def qNot (t:pT):pT:=fun env n R=>t env n fun b env1 n1=>R (!b) env1 n1
theorem ok_and (h:TOk K T t pt)(h':TOk K T u pu):TOk K T (tAnd t u) (qAnd pt pu):=fun C G σ H env n R Q hK hT S hp k=>by
 refine h C G σ H env n _ _ hK hT S hp fun b env1 n1 H1 p1 S1 f1=>?_;cases b with
 | true=>exact h' C G σ H1 env1 n1 _ _ hK hT S1 p1 fun b env2 n2 H2 p2 S2 f2=>k _ _ _ _ p2 S2 (f1.trans f2)
 | false=>exact k _ _ _ _ p1 S1 f1
theorem ok_or (h:TOk K T t pt)(h':TOk K T u pu):TOk K T (tOr t u) (qOr pt pu):=fun C G σ H env n R Q hK hT S hp k=>by
 refine h C G σ H env n _ _ hK hT S hp fun b env1 n1 H1 p1 S1 f1=>?_;cases b with
 | false=>exact h' C G σ H1 env1 n1 _ _ hK hT S1 p1 fun b env2 n2 H2 p2 S2 f2=>k _ _ _ _ p2 S2 (f1.trans f2)
 | true=>exact k _ _ _ _ p1 S1 f1
theorem ok_not {K:A4}{t:TT}(h:TOk K T t pt):TOk K T (tNot t) (qNot pt):=fun C G σ H env n R Q hK hT S hp k=>h C G σ H env n _ _ hK hT S hp fun b env1 n1 H1 p1 S1 f1=>k _ _ _ _ p1 S1 f1
theorem Eg (ha:QT T K F a pt):QW T K F (.BoolOp .And [a] pos) pt:=let ⟨t,h1,h2⟩:=ha;⟨t,fun z=>Iy (h1 z),h2⟩
theorem y9 (ha:QT T K F a pt):QW T K F (.BoolOp .Or [a] pos) pt:=let ⟨t,h1,h2⟩:=ha;⟨t,fun z=>pw_or1 (h1 z),h2⟩
theorem Eh (ha:QT T K F a pt)(hb:QW T K F (.BoolOp .And (b::rest) pos) pu):QW T K F (.BoolOp .And (a::b::rest) pos) (qAnd pt pu):=let ⟨t,h1,h2⟩:=ha;let ⟨u,h3,h4⟩:=hb;⟨_,fun z=>Iz (h1 z) (h3 z),ok_and h2 h4⟩
theorem z0 (ha:QT T K F a pt)(hb:QW T K F (.BoolOp .Or (b::rest) pos) pu):QW T K F (.BoolOp .Or (a::b::rest) pos) (qOr pt pu):=let ⟨t,h1,h2⟩:=ha;let ⟨u,h3,h4⟩:=hb;⟨_,fun z=>pw_or (h1 z) (h3 z),ok_or h2 h4⟩
theorem QW.qt (h:QW T K F e pt):QT T K F e pt:=let ⟨t,h1,h2⟩:=h;⟨t,fun z=>(h1 z).pt,h2⟩
theorem qt_not (ha:QT T K F a pt):QT T K F (.UnaryOp .Not a pos) (qNot pt):=let ⟨t,h1,h2⟩:=ha;⟨_,fun z=>pt_not (h1 z),ok_not h2⟩
theorem qe_one {op}(h:QE T K F a pa):QE T K F (.BoolOp op [a] pos) pa:=let ⟨t,h1,h2⟩:=h;⟨t,fun z=>pe_one (h1 z),h2⟩
def qIf (t:pT)(pa pb:pE):pE:=fun env n R=>t env n fun b env1 n1=>if b=true then pa env1 n1 R else pb env1 n1 R
theorem Gs (hc:QT T K F c pt)(ha:QE T K F a pa)(hb:QE T K F b pb):QE T K F (.IfExp c a b pos) (qIf pt pa pb):=by
 obtain⟨tc,c1,c2⟩:=hc;obtain⟨t,h1,h2⟩:=ha;obtain⟨u,h3,h4⟩:=hb;refine⟨_,fun z=>MQ (c1 z) (h1 z) (h3 z),fun C G σ H env n R Q hK hT S hp k=>?_⟩;refine c2 C G σ H env n _ _ hK hT S hp fun d env1 n1 H1 p1 S1 f1=>?_;cases d with
 | true=>exact h2 C G σ H1 env1 n1 _ _ hK hT S1 p1 fun x env2 n2 v H2 p2 S2 r2 f2=>k _ _ _ _ _ p2 S2 r2 (f1.trans f2)
 | false=>exact h4 C G σ H1 env1 n1 _ _ hK hT S1 p1 fun x env2 n2 v H2 p2 S2 r2 f2=>k _ _ _ _ _ p2 S2 r2 (f1.trans f2)
variable {pl pr:pA}
def qNil:pA:=fun env n R=>R [] env n
def A1 (pe:pE)(pr:pA):pA:=fun env n R=>pe env n fun x env1 n1=>pr env1 n1 fun xs env2 n2=>R (x::xs) env2 n2
theorem A6:QA T K F [] qNil:=⟨_,fun _=>G7,fun C G σ H env n R Q hK hT S hp k=>k _ _ _ _ _ hp S Reps.nil Fr.refl⟩
theorem NR (h:EOk K T t pe)(h':AOk K T u pr):AOk K T (V0 t u) (A1 pe pr):=fun C G σ H env n R Q hK hT S hp k=>by
 refine h C G σ H env n _ _ hK hT S hp fun x env1 n1 v H1 p1 S1 r1 f1=>?_;exact h' C G σ H1 env1 n1 _ _ hK hT S1 p1 fun xs env2 n2 vs H2 p2 S2 r2 f2=>k _ _ _ _ _ p2 S2 (.cons (r1.fr f2) r2) (f1.trans f2)
def E5:Expr->Bool
 | .Starred ..=>false
 | _=>true
theorem C8 (h:E5 e=true):D6 (e::es) env=(false,eval e env)::D6 es env:=by
 cases e <;> first | rfl | cases h
theorem A2 (ha:QE T K F e pe)(hr:QA T K F es pr)(h:E5 e=true:=by rfl):QA T K F (e::es) (A1 pe pr):=by
 obtain⟨t,h1,h2⟩:=ha;obtain⟨u,h3,h4⟩:=hr;exact⟨_,fun z=>E9 (h1 z) (h3 z) (C8 h),NR h2 h4⟩
def qTup (pa:pA):pE:=fun env n R=>pa env n fun xs env1 n1=>xs.length<=1000000/\R (.tup xs) env1 n1
def qLst (pa:pA):pA:=fun env n R=>pa env n fun xs env1 n1=>xs.length<=1000000/\R xs env1 n1
def qL (pn:pA):pE:=fun env n R=>pn env n fun xs env1 n1=>R (.lst xs) env1 n1
theorem K3 {x1}(h:QA T K F es pl):QE T K F (.Tuple es x1 pos) (qTup pl):=by
 obtain⟨t,h1,h2⟩:=h;refine⟨_,fun z=>FW (h1 z),fun C G σ H env n R Q hK hT S hp k=>?_⟩;refine h2 C G σ H env n _ _ hK hT S hp fun xs env1 n1 vs H1 p1 S1 r1 f1=>⟨by rw [<- r1.length];exact mil p1.1,fun p hp=>?_⟩;exact k _ _ _ _ _ p1.2 (S1.same (Same.lay1 hp)) (y8 (S1.fresh hp) hp r1) (f1.trans (Fr.of (Same.lay1 hp)))
theorem M5 (h:QA T K F es pl):QN T K F (.List es pos) (qLst pl):=by
 obtain⟨t,h1,h2⟩:=h;refine⟨_,fun z=>pe_lst (h1 z),fun C G σ H env n R Q hK hT S hp k=>?_⟩;exact h2 C G σ H env n _ _ hK hT S hp fun xs env1 n1 vs H1 p1 S1 r1 f1=>⟨by rw [<- r1.length];exact mil p1.1,fun p hp=>k _ _ _ _ _ _ p1.2 S1 f1 hp r1⟩
theorem QN.ee (h:QN T K F e pl):QE T K F e (qL pl):=by
 obtain⟨t,h1,h2⟩:=h;refine⟨t,h1,fun C G σ H env n R Q hK hT S hp k=>?_⟩;refine h2 C G σ H env n _ _ hK hT S hp fun xs env1 n1 a vs Hb p1 S1 f1 hn r1=>?_;exact k _ _ _ _ _ p1 (S1.same (Same.lay1 hn)) (Co (S1.fresh hn) hn r1) (f1.trans (Fr.of (Same.lay1 hn)))
theorem Ei (h:ROk K T t pe)(hK:C.K=K)(hT:C.T=T)(S:SR C G σ H env n)(hp:pe env n R)
   (k:∀x env' n' v H',R x env' n'->SR C G σ H' env' n'->RdS C G σ H' env' x v->Fr G H H'->Q [v] H'):V0 t tNil σ H Q:=
 h C G σ H env n _ _ hK hT S hp fun x env1 n1 v H1 p1 S1 r1 f1=>k _ _ _ _ _ p1 S1 r1 f1
end
end Pu
end
section
namespace HT
open PySem PySem.Spec PyProof.Rows
section
variable {prog:C5}{w:World}{A:Around}{E:Value->Shared->Prop}{s:Shared}
theorem getItem_tuple_whole {lo hi:Option Int}(ht:IsTup s.heap t items)(hs:s.heap.IsSliceOf sl vl vu .none)(pl:IsPart vl lo)(pu:IsPart vu hi)
   (hw:sIx items.size 0 lo=0/\sIx items.size items.size hi=items.size) (h:Q (.ref t) s):wpAny (model prog w) A (U4 (.ref t) (.ref sl)) Q E s:=by
 obtain⟨os,hos,hcs,hds⟩:=id hs;have hTs:s.TypeIs (.ref sl) "slice":=⟨os,hos,hcs⟩;have hTt:s.TypeIs (.ref t) "tuple":=ht.typeIs;unfold U4
 try with_reducible refine M7 ?_
 first | refine A0 (A5 ?_) | skip
 refine A0 (wpAny_sequenceKey ht.typeIs (by decide) ?_)
 refine A0 (l4 (name:=A3 "__getitem__") ht.typeIs AI
   (W0 AI ht.typeIs entry_tuple_getitem ?_ (args_tuple_getitem _ _)))
 show wpAny _ _ (FI (.ref t)>>=_) _ _ s;refine A0 (tupleItemsOf_ ht ?_);refine A0 (wpAny_typeOf hTs ?_);rw [if_pos (by decide)];refine A0 (IL hs pl pu ?_)
 have hyes:(((sIx items.size 0 lo:Nat):Int) == 0 && (1:Int) == 1 && (sIx items.size items.size hi - sIx items.size 0 lo) == items.size)=true:=by
   rw [hw.1,hw.2];simp
 show wpAny _ _ (if(((sIx items.size 0 lo:Nat):Int) == 0 && (1:Int) == 1 && (sIx items.size items.size hi - sIx items.size 0 lo) == items.size)=true then _ else _) _ _ s;rw [if_pos hyes];unfold Builtin.Tuple.tupleIsExact;refine A0 (A0 (wpAny_typeOf hTt (A5 ?_)));rw [if_pos (by rfl)];exact A0 (e6 (A5 ⟨_,rfl,A5 h⟩))
end
end HT
namespace L2
open PySem PySem.Spec PyProof.Rows
section
variable {X:Cx}
def rSlTA (K:A4):V->Option Int->Option Int->Hp->VK->Prop:=fun x lo hi H Q=>∃a xs,x=.ref a/\SqT K H a xs/\
 (cutV xs lo hi=xs->Q (.ref a) H)/\∀p,H p=none->Q (.ref p) (upd H p (.tup (cutV xs lo hi)))
theorem NT:SlR X (rSlTA X.K):=by
 intro pins s σ H x v vl vu lo hi sl Q I rx hs pl pu h;obtain⟨a,xs,rfl,hx,h1,h2⟩:=h
 by_cases hw:HT.sIx xs.length 0 lo=0/\HT.sIx xs.length xs.length hi=xs.length
 · cases rx;obtain⟨its,r,ht,hz⟩:=I.tuple hx;have hlen:its.toArray.size=xs.length:=by rw [E3];exact r.length.symm
   refine⟨"tuple",_,PyProof.Rows.slot_tuple_getitem.lookup,ht.typeIs,?_⟩;refine HT.getItem_tuple_whole ht hs pl pu (by rw [hlen];exact hw) ⟨.ref a,H,I,rfl,h1 ?_⟩;unfold cutV;rw [hw.1,hw.2];simp
 · exact sl_tup pins s σ H (.ref a) v vl vu lo hi sl Q I rx hs pl pu ⟨a,xs,rfl,hx,hw,h2⟩
end
end L2
namespace Pu
open PySem PySem.Spec L2
section
variable {T:PotK}{ι:Type}{K:A4}{F:ι->Cx}{e a b c:Expr}{es rest:List Expr}{pe pa pb pc:pE}{pos:Pos}{pl pr:pA}
def wIx:w2:=fun x y R=>match x,y with
 | .lst xs,.int i=>match atI xs i with | some z=>R z | none=>False
 | .tup xs,.int i=>match atI xs i with | some z=>R z | none=>False
 | .scr ns,.int i=>match atI ns i with | some z=>R (.int z) | none=>False
 | .str z,.int i=>z.length<=1000000/\match atI z.cps.toList i with | some c=>R (.str ⟨#[c]⟩) | none=>False
 | _,_=>False
theorem Jl (r:Reps K G H xs vs)(h:atI xs i=some z):∃v,atI vs i=some v/\Rep K G H z v:=by
 unfold atI at h ⊢;rw [<- r.length];cases e:ixN xs.length i with
 | none=>rw [e] at h;cases h
 | some j =>
   rw [e] at h;exact r.get' h
theorem Cu (h:RdV K G H (.scr ns) v):∃a,v=.ref a/\SqL K H a (ns.map V.int):=by
 obtain⟨a,e,h⟩:=h.rep (fun _ z=>nomatch z);refine⟨a,e,?_⟩;rcases h with⟨_,o,h⟩ | h
 · exact .inl (.inr ⟨o,h⟩)
 · exact .inr h
theorem W2.ix:W2 K (rIx K) wIx:=by
 intro G H x y v u R Q hf rx ry hw k;unfold wIx at hw
 split at hw
 · rename_i xs i;obtain⟨a,vs,ev,hq,r⟩:=rx.lst;cases ez:atI xs i with
   | none=>rw [ez] at hw;exact hw.elim
   | some z =>
     rw [ez] at hw;obtain⟨v',e1,r1⟩:=Jl r ez;exact .inl ⟨a,vs,i,v',ev,ry.int,hq,e1,k _ _ _ hw (Same.refl _) r1⟩
 · rename_i xs i;obtain⟨a,vs,ev,hq,r⟩:=rx.tup;cases ez:atI xs i with
   | none=>rw [ez] at hw;exact hw.elim
   | some z =>
     rw [ez] at hw;obtain⟨v',e1,r1⟩:=Jl r ez;exact .inr (.inl ⟨a,vs,i,v',ev,ry.int,hq,e1,k _ _ _ hw (Same.refl _) r1⟩)
 · rename_i ns i;obtain⟨a,ev,hq⟩:=Cu rx;cases ez:atI ns i with
   | none=>rw [ez] at hw;exact hw.elim
   | some z =>
     rw [ez] at hw;refine .inl ⟨a,_,i,.int z,ev,ry.int,hq,?_,k _ _ _ hw (Same.refl _) rfl⟩;unfold atI at ez ⊢;rw [B2];cases e:ixN ns.length i with
     | none=>rw [e] at ez;cases ez
     | some j =>
       rw [e] at ez;show(ns.map V.int)[j]?=_;rw [F6,show ns[j]?=some z from ez]
       rfl
 · rename_i z i;obtain⟨hz,hw⟩:=hw;cases ez:atI z.cps.toList i with
   | none=>rw [ez] at hw;exact hw.elim
   | some c =>
     rw [ez] at hw;exact .inr (.inr ⟨z,i,c,rx.str,ry.int,mil hz,ez,k _ _ _ hw (Same.refl _) rfl⟩)
 · exact hw.elim
theorem C9 (ha:QE T K F a pa)(hb:QE T K F b pb)(hs:Gb b:=by exact fun _ _=>rfl)(hK:∀z,(F z).K=K:=by intro _;rfl):QE T K F (.Subscript a b pos) (qOp wIx pa pb):=by
 obtain⟨ta,h1,h2⟩:=ha;obtain⟨tb,h3,h4⟩:=hb.r;exact⟨_,fun z=>Gc (hK z▸IR) (h1 z) (h3 z) hs,Cn W2.ix h2 h4⟩
theorem qe_ixR (ha:QR T K F a pa)(hb:QE T K F b pb)(hs:Gb b:=by exact fun _ _=>rfl)(hK:∀z,(F z).K=K:=by intro _;rfl):QE T K F (.Subscript a b pos) (qOpR wIx pa pb):=by
 obtain⟨ta,h1,h2⟩:=ha;obtain⟨tb,h3,h4⟩:=hb.r;exact⟨_,fun z=>Gc (hK z▸IR) (h1 z) (h3 z) hs,Jd W2.ix h2 h4⟩
abbrev pO:=Env->Nat->(Option Int->Env->Nat->Prop)->Prop
def qNo:pO:=fun env n R=>R none env n
def K7 (pe:pE):pO:=fun env n R=>pe env n fun x env1 n1=>match x with | .int i=>R (some i) env1 n1 | _=>False
def OOk (K:A4)(T:PotK)(t:TO)(po:pO):Prop:=∀(C:Ct) (G:Gh) (σ:St) (H:Hp) (env:Env) (n:Nat) (R:Option Int->Env->Nat->Prop) (Q:Option Int->Hp->Prop),C.K=K->C.T=T->SR C G σ H env n->po env n R->
 (∀x env' n' H',R x env' n'->SR C G σ H' env' n'->Fr G H H'->Q x H')->t σ H Q
def QO {ι:Type}(T:PotK)(K:A4)(F:ι->Cx)(e:Option Expr)(po:pO):Prop:=∃t,(∀z,PO (F z) e t)/\OOk K T t po
theorem j6:QO T K F none qNo:=⟨_,fun _=>FY,fun C G σ H env n R Q hK hT S hp k=>k _ _ _ _ hp S Fr.refl⟩
theorem M6 (h:QE T K F e pe):QO T K F (some e) (K7 pe):=by
 obtain⟨t,h1,h2⟩:=h;refine⟨_,fun z=>FZ (h1 z),fun C G σ H env n R Q hK hT S hp k=>?_⟩;refine h2 C G σ H env n _ _ hK hT S hp fun x env1 n1 v H1 p1 S1 r1 f1=>?_;cases x with
 | int i=>exact⟨i,r1,k _ _ _ _ p1 S1 f1⟩
 | _=>exact p1.elim
def cutP {α:Type}(xs:List α)(lo hi:Option Int):List α:=(xs.drop (HT.sIx xs.length 0 lo)).take (HT.sIx xs.length xs.length hi - HT.sIx xs.length 0 lo)
theorem Reps.cut (r:Reps K G H xs vs)(lo hi:Option Int):Reps K G H (cutP xs lo hi) (cutV vs lo hi):=by
 unfold cutP cutV;rw [<- r.length];exact(r.drop _).take _
def wSl (x:PV)(lo hi:Option Int)(R:PV->Prop):Prop:=match x with
 | .lst xs=>R (.lst (cutP xs lo hi))
 | .scr ns=>R (.lst ((cutP ns lo hi).map PV.int))
 | .tup xs=>R (.tup (cutP xs lo hi))
 | .str z=>z.length<=1000000/\R (.str (T3 z lo hi))
 | _=>False
def qSl (pe:pE)(pl ph:pO):pE:=fun env n R=>pe env n fun x env1 n1=>pl env1 n1 fun lo env2 n2=>ph env2 n2 fun hi env3 n3=>wSl x lo hi fun z=>R z env3 n3
theorem Jm:∀ns:List Int,Reps K G H (ns.map PV.int) (ns.map V.int):=by
 intro xq
 induction xq with
 | nil =>
   exact rfl
 | cons i ns ih =>
   exact⟨.int i,ns.map V.int,rfl,rfl,ih⟩
theorem b9 {α β:Type}(f:α->β)(xs:List α)(lo hi:Option Int):cutP (xs.map f) lo hi=(cutP xs lo hi).map f:=by simp [cutP]
theorem sl_ok (hf:∀p,H p=none->p∉G.M)(rx:RdV K G H x v)(hw:wSl x lo hi R)(k:∀z v' H',R z->Same H H'->Rep K G H' z v'->Q v' H') :
   rSlL K v lo hi H Q\/rSlTA K v lo hi H Q\/rSlS v lo hi H Q:=by
 unfold wSl at hw
 split at hw
 · obtain⟨a,vs,ev,hq,r⟩:=rx.lst;exact .inl ⟨a,vs,ev,hq,fun p hp=>k _ _ _ hw (Same.lay1 hp) (Co (hf p hp) hp (r.cut lo hi))⟩
 · rename_i ns;obtain⟨a,ev,hq⟩:=Cu rx;refine .inl ⟨a,_,ev,hq,fun p hp=>k _ _ _ hw (Same.lay1 hp) (Co (hf p hp) hp ?_)⟩;have:=(Jm (K:=K) (G:=G) (H:=H) ns).cut lo hi;rw [b9] at this;exact this
 · obtain⟨a,vs,ev,t,r⟩:=rx.rep (fun _ z=>nomatch z);refine .inr (.inl ⟨a,vs,ev,t.sq,fun z=>k _ _ _ hw (Same.refl _) ?_,fun p hp=>k _ _ _ hw (Same.lay1 hp) (y8 (hf p hp) hp (r.cut lo hi))⟩);have rc:=r.cut lo hi;rw [z] at rc;exact⟨a,vs,rfl,t,rc⟩
 · exact .inr (.inr ⟨_,rx.str,mil hw.1,k _ _ _ hw.2 (Same.refl _) rfl⟩)
 · exact hw.elim
theorem P6 (he:QE T K F e pe)(hl:QO T K F lo ql)(hh:QO T K F hi qh)(hK:∀z,(F z).K=K:=by intro _;rfl):QE T K F (.Subscript e (.Slice lo hi none p2) pos) (qSl pe ql qh):=by
 obtain⟨t,h1,h2⟩:=he;obtain⟨tl,l1,l2⟩:=hl;obtain⟨th,u1,u2⟩:=hh;refine⟨_,fun z=>F_ ((hK z▸Gd).or ((hK z▸NT).or sl_str)) (h1 z) (l1 z) (u1 z),fun C G σ H env n R Q hK hT S hp k=>?_⟩;refine h2 C G σ H env n _ _ hK hT S hp fun x env1 n1 v H1 p1 S1 r1 f1=>?_;refine l2 C G σ H1 env1 n1 _ _ hK hT S1 p1 fun lo env2 n2 H2 p2 S2 f2=>?_;refine u2 C G σ H2 env2 n2 _ _ hK hT S2 p2 fun hi env3 n3 H3 p3 S3 f3=>?_;exact sl_ok (fun p hp=>S3.fresh hp) (.inl ((r1.fr f2).fr f3)) p3 fun z v' H' rz s rv=>k _ _ _ _ _ rz (S3.same s) rv (((f1.trans f2).trans f3).trans (Fr.of s))
def WA1 (K:A4)(r:List V->Hp->VK->Prop)(w:w1):Prop:=∀(G:Gh) (H:Hp) (x:PV) (v:V) (R:PV->Prop) (Q:VK),(∀p,H p=none->p∉G.M)->RdV K G H x v->w x R->
 (∀z v' H',R z->Same H H'->Rep K G H' z v'->Q v' H')->r [v] H Q
theorem Jn (hw:WA1 K r w)(h:ROk K T t pe):EOk K T (tCB r (V0 t tNil)) (qUn w pe):=fun C G σ H env n R Q hK hT S hp k=>by
 refine Ei h hK hT S hp fun x env1 n1 v H1 p1 S1 r1 f1=>?_;subst hK;exact hw G H1 x v _ _ (fun p hp=>S1.fresh hp) (r1.rd S1) p1 fun z v' H' rz s rv=>k _ _ _ _ _ rz (S1.same s) rv (f1.trans (Fr.of s))
theorem Ej {id:String}(hc:∀z,M3 (F z) (.builtin id) r)(hw:WA1 K r w)(hg:∀z,Gl (F z) x)(hm:∀z,(F z).mg x=none)(hv:M8 x=some (.builtin id))(ha:QR T K F e pe)(hs:E5 e=true:=by rfl)(hn:x≠"__name__":=by decide)(hdb:(x == ("__debug__":Str))=false:=by decide) :
   QE T K F (.Call (.Name x p) [e] [] pos) (qUn w pe):=by
 obtain⟨t,h1,h2⟩:=ha;exact⟨_,fun z=>y0 (hc z) (hg z) (hm z) hv (E9 (h1 z) G7 (C8 hs)) hn hdb (C8 hs),Jn hw h2⟩
theorem Jo {id:String}(hc:∀z,M3 (F z) (.type id) r)(hw:WA1 K r w)(hg:∀z,Gl (F z) x)(hm:∀z,(F z).mg x=none)(hv:M8 x=some (.type id))(ha:QR T K F e pe)(hs:E5 e=true:=by rfl)(hn:x≠"__name__":=by decide)(hdb:(x == ("__debug__":Str))=false:=by decide) :
   QE T K F (.Call (.Name x p) [e] [] pos) (qUn w pe):=by
 obtain⟨t,h1,h2⟩:=ha;exact⟨_,fun z=>Cf (hc z) (hg z) (hm z) hv (E9 (h1 z) G7 (C8 hs)) hn hdb (C8 hs),Jn hw h2⟩
def wLen:w1:=fun x R=>match x with
 | .lst xs=>R (.int xs.length)
 | .tup xs=>R (.int xs.length)
 | .scr xs=>R (.int xs.length)
 | .str z=>z.length<=1000000/\R (.int z.length)
 | _=>False
theorem WA1.len:WA1 K (fun xs H Q=>(∃p ys,xs=[.ref p]/\(SqL K H p ys\/SqT K H p ys)/\Q (.int ys.length) H)\/∃z,xs=[.str z]/\z.length<=B5/\Q (.int z.length) H) wLen:=by
 intro G H x v R Q hf rx hw k;unfold wLen at hw
 split at hw
 · obtain⟨a,vs,ev,hq,r⟩:=rx.lst;exact .inl ⟨a,vs,by rw [ev],.inl hq,k _ _ _ hw (Same.refl _) (by rw [r.length];rfl)⟩
 · obtain⟨a,vs,ev,hq,r⟩:=rx.tup;exact .inl ⟨a,vs,by rw [ev],.inr hq,k _ _ _ hw (Same.refl _) (by rw [r.length];rfl)⟩
 · obtain⟨a,ev,hq⟩:=Cu rx;exact .inl ⟨a,_,by rw [ev],.inl hq,k _ _ _ hw (Same.refl _) (by rw [B2];rfl)⟩
 · exact .inr ⟨_,by rw [rx.str],mil hw.1,k _ _ _ hw.2 (Same.refl _) rfl⟩
 · exact hw.elim
theorem Q9 (hg:∀z,Gl (F z) "len")(hm:∀z,(F z).mg "len"=none)(ha:QR T K F e pe)(hs:E5 e=true:=by rfl)(hK:∀z,(F z).K=K:=by intro _;rfl):QE T K F (.Call (.Name "len" p) [e] [] pos) (qUn wLen pe):=Ej (fun z=>(hK z▸Ge).or Nz) WA1.len hg hm D_ ha hs
def wAbs:w1:=fun x R=>match x with | .int i=>R (.int (if i < 0 then -i else i)) | _=>False
theorem qe_abs {p:Pos}(hg:∀z,Gl (F z) "abs")(hm:∀z,(F z).mg "abs"=none)(ha:QR T K F e pe)(hs:E5 e=true:=by rfl):QE T K F (.Call (.Name "abs" p) [e] [] pos) (qUn wAbs pe):=Ej (fun _=>Nj) (fun G H x v R Q hf rx hw k=>by
 unfold wAbs at hw
 split at hw
 · exact⟨_,by rw [rx.int],k _ _ _ hw (Same.refl _) rfl⟩
 · exact hw.elim) hg hm bt_abs ha hs
def wInt:w1:=fun x R=>match x with | .int i=>R (.int i) | .bl b=>R (.int (if b then 1 else 0)) | _=>False
theorem Jp {p:Pos}(hg:∀z,Gl (F z) "int")(hm:∀z,(F z).mg "int"=none)(ha:QR T K F e pe)(hs:E5 e=true:=by rfl):QE T K F (.Call (.Name "int" p) [e] [] pos) (qUn wInt pe):=Jo (fun _=>IE) (fun G H x v R Q hf rx hw k=>by
 unfold wInt at hw
 split at hw
 · exact .inl ⟨_,by rw [rx.int],k _ _ _ hw (Same.refl _) rfl⟩
 · exact .inr ⟨_,by rw [rx.bl],k _ _ _ hw (Same.refl _) rfl⟩
 · exact hw.elim) hg hm I_ ha hs
def j7:List PV->Option (List Bool)
 | []=>some []
 | .bl b::xs=>(j7 xs).map (b::·)
 | _=>none
theorem Jq {K:A4}{G:Gh}{H:Hp}:∀{xs:List PV} {vs:List V} {bs:List Bool},j7 xs=some bs->Reps K G H xs vs->vs=bs.map V.bl
 | [],vs,bs,h,r=>by cases h;exact r
 | .bl b :: xs, vs, bs, h, r => by
   obtain⟨v,t,e,rv,rt⟩:=r;cases e1:j7 xs with
   | none=>simp [j7,e1] at h
   | some cs =>
     have:b::cs=bs:=by simpa [j7,e1] using h
     subst this;rw [e,show v=.bl b from rv,Jq e1 rt]
     rfl
 | .non::_,_,_,h,_=>by cases h
 | .int _::_,_,_,h,_=>by cases h
 | .str _::_,_,_,h,_=>by cases h
 | .ty _::_,_,_,h,_=>by cases h
 | .pot _::_,_,_,h,_=>by cases h
 | .tup _::_,_,_,h,_=>by cases h
 | .lst _::_,_,_,h,_=>by cases h
 | .dct _ _::_,_,_,h,_=>by cases h
 | .fdt _ _::_,_,_,h,_=>by cases h
 | .scr _::_,_,_,h,_=>by cases h
theorem NU:∀bs:List Bool,j7 (bs.map PV.bl)=some bs:=by
 intro xq
 induction xq with
 | nil =>
   exact rfl
 | cons b bs ih =>
   simp [j7,ih]
def wAll:w1:=fun x R=>match x with | .lst xs=>(match j7 xs with | some bs=>R (.bl (bs.all id)) | none=>False) | _=>False
def wAny:w1:=fun x R=>match x with | .lst xs=>(match j7 xs with | some bs=>R (.bl (bs.any id)) | none=>False) | _=>False
theorem qe_any {p:Pos}(hc:∀z,(F z).calm=true)(hg:∀z,Gl (F z) "any")(hm:∀z,(F z).mg "any"=none)(ha:QR T K F e pe)(hs:E5 e=true:=by rfl)(hK:∀z,(F z).K=K:=by intro _;rfl):QE T K F (.Call (.Name "any" p) [e] [] pos) (qUn wAny pe):=Ej (fun z=>hK z▸NK (hc z)) (fun G H x v R Q hf rx hw k=>by
 unfold wAny at hw
 split at hw
 · rename_i xs;obtain⟨a,vs,ev,hq,r⟩:=rx.lst
   split at hw
   · rename_i bs eb;exact⟨a,bs,by rw [ev],Jq eb r▸hq,k _ _ _ hw (Same.refl _) rfl⟩
   · exact hw.elim
 · exact hw.elim) hg hm bt_any ha hs
def P7:w1:=fun x R=>match x with | .lst xs=>R (.tup xs) | .tup xs=>R (.tup xs) | _=>False
theorem V3 (hg:∀z,Gl (F z) "tuple")(hm:∀z,(F z).mg "tuple"=none)(ha:QR T K F e pe)(hs:E5 e=true:=by rfl)(hK:∀z,(F z).K=K:=by intro _;rfl):QE T K F (.Call (.Name "tuple" p) [e] [] pos) (qUn P7 pe):=Jo (fun z=>hK z▸NA) (fun G H x v R Q hf rx hw k=>by
 unfold P7 at hw
 split at hw
 · obtain⟨a,vs,ev,hq,r⟩:=rx.lst;exact⟨a,vs,by rw [ev],.inl ⟨hq,fun l hl=>k _ _ _ hw (Same.lay1 hl) (y8 (hf l hl) hl r)⟩⟩
 · obtain⟨a,vs,ev,t,r⟩:=rx.rep (fun _ z=>nomatch z);exact⟨a,vs,by rw [ev],.inr ⟨t.sq,k _ _ _ hw (Same.refl _) ⟨a,vs,rfl,t,r⟩⟩⟩
 · exact hw.elim) hg hm NL ha hs
def Cv (pe:pE):pA:=fun env n R=>pe env n fun x env1 n1=>match x with | .lst xs=>R xs env1 n1 | .tup xs=>R xs env1 n1 | .scr ns=>R (ns.map PV.int) env1 n1 | _=>False
theorem Gu (hg:∀z,Gl (F z) "list")(hm:∀z,(F z).mg "list"=none)(ha:QR T K F e pe)(hs:E5 e=true:=by rfl)(hK:∀z,(F z).K=K:=by intro _;rfl):QN T K F (.Call (.Name "list" p) [e] [] pos) (Cv pe):=by
 obtain⟨t,h1,h2⟩:=ha;refine⟨_,fun z=>Cf (hK z▸IT) (hg z) (hm z) Gm (E9 (h1 z) G7 (C8 hs)) (by decide) (by decide) (C8 hs),fun C G σ H env n R Q hK hT S hp k=>?_⟩;refine Ei h2 hK hT S hp fun x env1 n1 v H1 p1 S1 r1 f1=>?_;have rd:RdV K G H1 x v:=hK▸r1.rd S1;cases x with
 | lst xs =>
   obtain⟨a,vs,ev,hq,r⟩:=rd.lst;exact⟨a,vs,by rw [ev],.inl hq,fun l hl=>k _ _ _ _ _ _ p1 S1 f1 hl r⟩
 | tup xs =>
   obtain⟨a,vs,ev,hq,r⟩:=rd.tup;exact⟨a,vs,by rw [ev],.inr hq,fun l hl=>k _ _ _ _ _ _ p1 S1 f1 hl r⟩
 | scr ns =>
   obtain⟨a,ev,hq⟩:=Cu rd;exact⟨a,_,by rw [ev],.inl hq,fun l hl=>k _ _ _ _ _ _ p1 S1 f1 hl (Jm ns)⟩
 | _=>exact p1.elim
def wMin:w2:=fun x y R=>match x,y with | .int i,.int j=>R (.int (if j < i then j else i)) | _,_=>False
def wMax:w2:=fun x y R=>match x,y with | .int i,.int j=>R (.int (if j > i then j else i)) | _,_=>False
theorem Jr (hw:W2 K (fun x y H Q=>r [x,y] H Q) w)(h:EOk K T t pa)(h':EOk K T u pb):EOk K T (tCB r (V0 t (V0 u tNil))) (qOp w pa pb):=fun C G σ H env n R Q hK hT S hp k=>by
 refine h C G σ H env n _ _ hK hT S hp fun x env1 n1 v H1 p1 S1 r1 f1=>?_;refine h' C G σ H1 env1 n1 _ _ hK hT S1 p1 fun y env2 n2 u H2 p2 S2 r2 f2=>?_;exact hw G H2 x y v u _ _ (fun p hp=>S2.fresh hp) (.inl (r1.fr f2)) (.inl r2) p2 fun z v' H' rz s rv=>k _ _ _ _ _ rz (S2.same s) rv ((f1.trans f2).trans (Fr.of s))
theorem Gv (hc:∀z,(F z).calm=true)(hg:∀z,Gl (F z) "min")(hm:∀z,(F z).mg "min"=none)(ha:QE T K F a pa)(hb:QE T K F b pb)(hs:E5 a=true:=by rfl)(hs2:E5 b=true:=by rfl):QE T K F (.Call (.Name "min" p) [a,b] [] pos) (qOp wMin pa pb):=by
 obtain⟨t,h1,h2⟩:=ha;obtain⟨u,h3,h4⟩:=hb;refine⟨_,fun z=>y0 (Nl (hc z)) (hg z) (hm z) bt_min (E9 (h1 z) (E9 (h3 z) G7 (C8 hs2)) (C8 hs)) (by decide) (by decide) (C8 hs) (by rw [C8 hs2];rfl),Jr (fun G H x y v u R Q hf rx ry hw k=>?_) h2 h4⟩;unfold wMin at hw
 split at hw
 · exact⟨_,_,by rw [rx.int,ry.int],k _ _ _ hw (Same.refl _) rfl⟩
 · exact hw.elim
theorem qe_max {p:Pos}(hc:∀z,(F z).calm=true)(hg:∀z,Gl (F z) "max")(hm:∀z,(F z).mg "max"=none)(ha:QE T K F a pa)(hb:QE T K F b pb)(hs:E5 a=true:=by rfl)(hs2:E5 b=true:=by rfl):QE T K F (.Call (.Name "max" p) [a,b] [] pos) (qOp wMax pa pb):=by
 obtain⟨t,h1,h2⟩:=ha;obtain⟨u,h3,h4⟩:=hb;refine⟨_,fun z=>y0 (Nk (hc z)) (hg z) (hm z) bt_max (E9 (h1 z) (E9 (h3 z) G7 (C8 hs2)) (C8 hs)) (by decide) (by decide) (C8 hs) (by rw [C8 hs2];rfl),Jr (fun G H x y v u R Q hf rx ry hw k=>?_) h2 h4⟩;unfold wMax at hw
 split at hw
 · exact⟨_,_,by rw [rx.int,ry.int],k _ _ _ hw (Same.refl _) rfl⟩
 · exact hw.elim
def D8 (K:A4)(T:PotK)(f:pF):Sp:=fun vs H Q _=>∃(G:Gh) (xs:List PV) (n:Nat) (R:PV->Nat->Prop),(∀p∈G.pots,p∈G.M/\T.at_ G.M H p n)/\(∀a∈G.M,∃o,H a=some o/\MutO o)/\T.has G.pots/\Reps K G H xs vs/\f xs n R/\
 ∀r n' v H',R r n'->Rep K G H' r v->(∀p∈G.pots,T.at_ G.M H' p n')->(∀b o,b∉G.pots->H b=some o->H' b=some o)->Q v H'
def B9 (f:pF)(pa:pA):pE:=fun env n R=>pa env n fun xs env1 n1=>f xs n1 fun r n2=>R r env1 n2
theorem SR.call (S:SR C G σ H env n)(hk:∀b o,b∉G.pots->H b=some o->H' b=some o)(hp:∀p∈G.pots,C.T.at_ G.M H' p n'):SR C G σ H' env n' where
 frame b o hb e:=by
   by_cases hp:b∈G.pots
   · -- a pot that is new since the entry has no old object
     obtain⟨l,el,_⟩:=S.pre;rw [el] at hp;rcases K8.mp hp with z | z
     · exact absurd z hb
     · have hM:=(S.pots b (by rw [el];exact hp)).1;rcases S.sub b hM with z2 | z2
       · exact(S.newp b (by rw [el];exact hp) hb z2).elim
       · rw [z2] at e;cases e
   · exact hk b o hp (S.frame b o hb e)
 sub:=S.sub
 sup:=S.sup
 pots p h:=⟨(S.pots p h).1,hp p h⟩
 pre:=S.pre
 mu a ha:=by
   by_cases h:a∈G.pots
   · exact C.T.mu (hp a h)
   · obtain⟨o,e,m⟩:=S.mu a ha;exact⟨o,hk a o h e,m⟩
 slots i x e:=by
   have f:Fr G H H':=fun b o hb he=>hk b o (fun z=>hb (S.pots b z).1) he;have:=S.slots i x e;cases x with
   | v x =>
     obtain⟨v,e1,r⟩:=this;exact⟨v,e1,r.fr f⟩
   | ow kk xs =>
     obtain⟨a,vs,e1,h1,h2,h3,h4,r⟩:=this;exact⟨a,vs,e1,h1,h2,h3,hk _ _ h3 h4,r.fr f⟩
 inj:=S.inj
 p0:=S.p0
 len:=S.len
 newp:=S.newp
theorem qe_fn (hG:∀z,Kn (F z).prog (F z).w (F z).K (F z).mg (F z).base x k ps (D8 K T f))(hr:∀z,Room j (F z).A)(hk:k<=j)(hg:∀z,Gl (F z) x)(ha:QA T K F (e::es) pl)(hdb:(x == ("__debug__":Str))=false:=by decide)
   (hs:E5 e=true:=by rfl) (hpl:∀z,(backTo pos (D6 es (F z).env)).any (·.1)=false:=by intro _;rfl):QE T K F (.Call (.Name x p) (e::es) [] pos) (B9 f pl):=by
 obtain⟨t,h1,h2⟩:=ha;refine⟨_,fun z=>pe_fn (hG z) (hr z) hk (hg z) (h1 z) hdb (C8 hs) (hpl z),fun C G σ H env n R Q hK hT S hp k=>?_⟩;refine h2 C G σ H env n _ _ hK hT S hp fun xs env1 n1 vs H1 p1 S1 r1 f1=>?_;subst hT;rw [P3];refine⟨G,xs,n1,_,fun p hp=>S1.pots p hp,S1.mu,S1.hasG,r1,p1,fun r n' v H' rr rv hp hk'=>?_⟩;exact k _ _ _ _ _ rr (S1.call hk' hp) rv (f1.trans fun b o hb e=>hk' b o (fun z=>hb (S1.pots b z).1) e)
end
end Pu
end
section
namespace Pu
open PySem PySem.Spec L2
abbrev pG:=PV->Env->(Env->Prop)->Prop
abbrev pGs:=List PV->Env->(Env->Prop)->Prop
def GOk (K:A4)(g:TG)(pg:pG):Prop:=∀(C:Ct) (G:Gh) (σ:St) (H:Hp) (env:Env) (n:Nat) (x:PV) (v:V) (R:Env->Prop) (Q:St->Hp->Prop),C.K=K->SR C G σ H env n->Rep K G H x v->pg x env R->
 (∀env' σ',R env'->SR C G σ' H env' n->Q σ' H)->g v σ H Q
def GsOk (K:A4)(g:TGs)(pg:pGs):Prop:=∀(C:Ct) (G:Gh) (σ:St) (H:Hp) (env:Env) (n:Nat) (x:List PV) (v:List V) (R:Env->Prop) (Q:St->Hp->Prop),C.K=K->SR C G σ H env n->Reps K G H x v->pg x env R->
 (∀env' σ',R env'->SR C G σ' H env' n->Q σ' H)->g v σ H Q
def QG {ι:Type}(K:A4)(F:ι->Cx)(e:Expr)(pg:pG):Prop:=∃g,(∀z,PG (F z) e g)/\GOk K g pg
def QGs {ι:Type}(K:A4)(F:ι->Cx)(e:List Expr)(pg:pGs):Prop:=∃g,(∀z,PGs (F z) e g)/\GsOk K g pg
def gN (i:Nat):pG:=fun x env R=>R (env.set i (some (.v x)))
def gNl:pGs:=fun xs env R=>match xs with | []=>R env | _=>False
def gCn (g:pG)(r:pGs):pGs:=fun xs env R=>match xs with | x::xs=>g x env fun env1=>r xs env1 R | []=>False
def gTp (k:Nat)(g:pGs):pG:=fun x env R=>match x with | .tup xs=>xs.length=k/\g xs env R | _=>False
theorem SR.set (S:SR C G σ H env n)(i:Nat)(r:Rep C.K G H x v):SR C G (σ.set i (some v)) H (env.set i (some (.v x))) n where
 frame:=S.frame
 sub:=S.sub
 sup:=S.sup
 pots:=S.pots
 pre:=S.pre
 mu:=S.mu
 slots j s e:=by
   by_cases h:i=j
   · subst h
     by_cases hl:i < env.length
     · rw [J5 hl] at e;cases e;exact⟨v,by rw [J5 (by rw [<- S.len];exact hl)],r⟩
     · rw [R8 (by rw [G6];omega)] at e;cases e
   · rw [F9 h] at e ⊢;exact S.slots j s e
 inj j k xs ys a e1 e2 e3 e4:=by
   have nj:∀(j:Nat) (xs:OK×List PV),(env.set i (some (.v x)))[j]?=some (some (Slot.ow xs.1 xs.2))->i≠j:=by
     intro j xs e h;subst h
     by_cases hl:i < env.length
     · rw [J5 hl] at e;cases e
     · rw [R8 (by rw [G6];omega)] at e;cases e
   have n1:=nj j xs e1;have n2:=nj k ys e2;rw [F9 n1] at e1 e3;rw [F9 n2] at e2 e4;exact S.inj j k xs ys a e1 e2 e3 e4
 p0:=S.p0
 len:=by rw [G6,G6];exact S.len
 newp:=S.newp
section
variable {T:PotK}{ι:Type}{K:A4}{F:ι->Cx}{e a b c:Expr}{es rest:List Expr}{pe pa pb pc:pE}{pos:Pos}{pl pr:pA}{pg:pG}{pgs:pGs}{pt:pT}
theorem Bd (i:Nat)(hN:X.N.Nodup)(hi:X.N[i]?=some x)(hx:Loc X.env.scope x)(hf:X.fn x=true\/X.env.scope.names.lookup x=some .local:=by first | exact .inl rfl | exact .inr rfl | assumption):GW X (.Name x pos) (K6 i):=⟨MS hN hi hx hf⟩
theorem NV (h:∀z,GW (F z) (.Name x pos) (K6 i)):QG K F (.Name x pos) (gN i):=⟨_,fun z=>(h z).h,fun C G σ H env n x v R Q hK S r hp k=>k _ _ hp (S.set i (hK▸r))⟩
theorem P8:QGs K F [] gNl:=⟨_,fun _=>DX,fun C G σ H env n x v R Q hK S r hp k=>by
 cases x with
 | nil=>exact⟨r,k _ _ hp S⟩
 | cons _ _=>exact hp.elim⟩
theorem G0 (h1:QG K F e pg)(h2:QGs K F es pgs)(hs:∀z,(F5 (e::es) (F z).env).map (·.2)=assign e (F z).env::(F5 es (F z).env).map (·.2):=by intro _;rfl):QGs K F (e::es) (gCn pg pgs):=by
 obtain⟨g,a1,a2⟩:=h1;obtain⟨gs,b1,b2⟩:=h2;refine⟨_,fun z=>AZ (a1 z) (b1 z) (hs z),fun C G σ H env n x v R Q hK S r hp k=>?_⟩;cases x with
 | nil=>exact hp.elim
 | cons x xs =>
   obtain⟨u,us,rfl,ru,rs⟩:=r;exact⟨u,us,rfl,a2 C G σ H env n x u _ _ hK S ru hp fun env' σ' re S'=>b2 C G σ' H env' n xs us _ _ hK S' rs re k⟩
theorem R0 (hc:∀z,(F z).calm=true)(h:QGs K F es pgs)(hn:∀z,(F5 es (F z).env).length=m:=by intro _;rfl)(hst:∀z,(F5 es (F z).env).findIdx? (·.1)=none:=by intro _;rfl)(hK:∀z,(F z).K=K:=by intro _;rfl):QG K F (.Tuple es k pos) (gTp m pgs):=by
 obtain⟨g,a1,a2⟩:=h;refine⟨_,fun z=>hK z▸DY (hc z) (a1 z) (hn z) (hst z),fun C G σ H env n x v R Q hK S r hp k=>?_⟩;cases x with
 | tup xs =>
   obtain⟨a,vs,rfl,t,rs⟩:=r;exact⟨a,vs,rfl,t.sq,by rw [<- rs.length];exact hp.1,a2 C G σ H env n xs vs _ _ hK S rs hp.2 k⟩
 | _=>exact hp.elim
def ItR (K:A4)(G:Gh)(H:Hp)(J:It)(xs:List PV):Prop:=∀(G2:Gh) (H2:Hp),(∀b o,b∉G.M->H b=some o->H2 b=some o)->(∀a∈G2.M,a∈G.M\/H a=none)->(∀(k:Nat) (p:Addr),G.pots[k]?=some p->G2.pots[k]?=some p)->(∀p,H2 p=none->p∉G2.M)->
 (∀(i:Nat) x,xs[i]?=some x->J.go i H2/\∀v H3,J.yld i H2 v H3->Same H2 H3/\Rep K G2 H3 x v)/\∀i,xs.length<=i->J.stop i H2
def IOk (K:A4)(T:PotK)(wi:TI)(pi:pA):Prop:=∀(C:Ct) (G:Gh) (σ:St) (H:Hp) (env:Env) (n:Nat) (R:List PV->Env->Nat->Prop) (Q:It->Hp->Prop),C.K=K->C.T=T->SR C G σ H env n->pi env n R->
 (∀xs env' n' J H',R xs env' n'->SR C G σ H' env' n'->Fr G H H'->ItR K G H' J xs->Q J H')->wi σ H Q
def QI {ι:Type}(T:PotK)(K:A4)(F:ι->Cx)(tg iter:Expr)(pi:pA):Prop:=∃wi,(∀z,PI (F z) tg iter wi)/\IOk K T wi pi
variable {tg:Expr}
theorem NW {a:Addr}(t:AtL G.M H a vs)(r:Reps K G H xs vs):ItR K G H (Itl K a) xs:=by
 intro G2 H2 hk hM hp hf;have hq:SqL K H2 a vs:=SqL.of (hk a _ t.1 t.2);have r2:Reps K G2 H2 xs vs:=Reps.mono hk hM hp _ _ r;refine⟨fun i x e=>?_,fun i hi=>⟨vs,hq,by rw [<- r.length];exact hi⟩⟩;obtain⟨v,ev,rv⟩:=r2.get' e;refine⟨⟨vs,v,hq,ev⟩,fun v' H3 y=>?_⟩;obtain⟨e3,y⟩:=y;subst e3;have:=y vs hq;rw [ev] at this;cases this;exact⟨Same.refl _,rv⟩
theorem NX {a:Addr}(t:AtT G.M H a vs)(r:Reps K G H xs vs):ItR K G H (Itt K a) xs:=by
 intro G2 H2 hk hM hp hf;have hq:SqT K H2 a vs:=SqT.of (hk a _ t.1 t.2);have r2:Reps K G2 H2 xs vs:=Reps.mono hk hM hp _ _ r;refine⟨fun i x e=>?_,fun i hi=>⟨vs,hq,by rw [<- r.length];exact hi⟩⟩;obtain⟨v,ev,rv⟩:=r2.get' e;refine⟨⟨vs,v,hq,ev⟩,fun v' H3 y=>?_⟩;obtain⟨e3,y⟩:=y;subst e3;have:=y vs hq;rw [ev] at this;cases this;exact⟨Same.refl _,rv⟩
def qIl (pe:pE):pA:=fun env n R=>pe env n fun x env1 n1=>match x with | .lst xs=>R xs env1 n1 | _=>False
def qIt (pe:pE):pA:=fun env n R=>pe env n fun x env1 n1=>match x with | .tup xs=>R xs env1 n1 | _=>False
theorem Cw (h:QE T K F e pe)(hK:∀z,(F z).K=K:=by intro _;rfl):QI T K F tg e (qIl pe):=by
 obtain⟨t,h1,h2⟩:=h;refine⟨_,fun z=>hK z▸MX (h1 z),fun C G σ H env n R Q hK hT S hp k=>?_⟩;refine h2 C G σ H env n _ _ hK hT S hp fun x env1 n1 v H1 p1 S1 r1 f1=>?_;cases x with
 | lst xs =>
   obtain⟨a,vs,rfl,t,r⟩:=r1;exact⟨a,rfl,⟨vs,t.sq⟩,k _ _ _ _ _ p1 S1 f1 (NW t r)⟩
 | _=>exact p1.elim
theorem O4 (h:QE T K F e pe)(hK:∀z,(F z).K=K:=by intro _;rfl):QI T K F tg e (qIt pe):=by
 obtain⟨t,h1,h2⟩:=h;refine⟨_,fun z=>hK z▸pi_tup (h1 z),fun C G σ H env n R Q hK hT S hp k=>?_⟩;refine h2 C G σ H env n _ _ hK hT S hp fun x env1 n1 v H1 p1 S1 r1 f1=>?_;cases x with
 | tup xs =>
   obtain⟨a,vs,rfl,t,r⟩:=r1;exact⟨a,rfl,⟨vs,t.sq⟩,k _ _ _ _ _ p1 S1 f1 (NX t r)⟩
 | _=>exact p1.elim
theorem NY (lo:Int)(m:Nat):ItR K G H (Itr lo m) ((C2 m).map fun(k:Nat)=>PV.int (lo + k)):=by
 intro G2 H2 hk hM hp hf;refine⟨fun i x e=>?_,fun i hi=>(show m<=i by simpa using hi)⟩;rw [F6] at e;cases e1:(C2 m)[i]? with
 | none=>rw [e1] at e;cases e
 | some j =>
   rw [e1] at e;cases e;obtain⟨hi,e2⟩:=D9.mp e1;rw [Dt] at e2;subst e2;refine⟨(show i < m by simpa using hi),fun v H3 y=>?_⟩;obtain⟨e3,y⟩:=y;subst e3 y;exact⟨Same.refl _,rfl⟩
def Be (pe:pE):pA:=fun env n R=>pe env n fun x env1 n1=>match x with | .int j=>(-1000000<=j/\j<=1000000)/\R ((C2 j.toNat).map fun(k:Nat)=>PV.int (0 + k)) env1 n1 | _=>False
theorem Ek (hg:∀z,Gl (F z) "range")(hm:∀z,(F z).mg "range"=none)(h:QE T K F e pe)(hs:E5 e=true:=by rfl):QI T K F tg (.Call (.Name "range" p) [e] [] pos) (Be pe):=by
 obtain⟨t,h1,h2⟩:=h;refine⟨_,fun z=>MZ (hg z) (hm z) (E9 (h1 z) G7 (C8 hs)) (by rw [C8 hs];rfl),fun C G σ H env n R Q hK hT S hp k=>?_⟩;refine Ei (pe:=pe) (fun C G σ H env n R Q hK hT S hp k=>h2 C G σ H env n R Q hK hT S hp fun x env' n' v H' r S' rp f=>k x env' n' v H' r S' (.inl (hK▸rp)) f) hK hT S hp fun x env1 n1 v H1 p1 S1 r1 f1=>?_;cases x with
 | int j=>exact⟨j,by rw [(r1.rd S1).int],by omega,by omega,k _ _ _ _ _ p1.2 S1 f1 (NY 0 _)⟩
 | _=>exact p1.elim
def Cy (xs:List PV):List PV:=xs.zipIdx.map fun y=>.tup [.int (y.2:Nat),y.1]
theorem Js {xs:List PV}{i:Nat}{x:PV}(h:(Cy xs)[i]?=some x):∃y,xs[i]?=some y/\x=.tup [.int (i:Nat),y]:=by
 unfold Cy at h;rw [F6,List.getElem?_zipIdx] at h;cases e:xs[i]? with
 | none=>rw [e] at h;cases h
 | some y =>
   rw [e] at h;cases h;exact⟨y,rfl,by simp⟩
theorem NZ (xs:List PV):(Cy xs).length=xs.length:=by unfold Cy;simp
def capS:Option (Option Slot)->Option Slot
 | some (some (.v x))=>some (.v x)
 | _=>none
def capV (cs:List (Option Nat))(env:Env):Env:=cs.map fun o=>o.bind fun j=>capS (env[j]?)
def Y1 (g:pG)(tt:pT)(te:pE):List PV->Env->Nat->(List PV->Nat->Prop)->Prop
 | [],_,n,R=>R [] n
 | x::xs,env,n,R=>g x env fun env1=>tt env1 n fun b env2 n2=>if b=true then te env2 n2 fun y env3 n3=>Y1 g tt te xs env3 n3 fun ys n4=>R (y::ys) n4 else Y1 g tt te xs env2 n2 R
def qTru:pT:=fun env n R=>R true env n
def V4 (cs:List (Option Nat))(pi:pA)(g:pG)(tt:pT)(te:pE):pA:=fun env n R=>pi env n fun xs env1 n1=>xs.length<=1000000/\Y1 g tt te xs (capV cs env1) n1 fun ys n2=>R ys env1 n2
structure Inn (K:A4)(T:PotK)(G:Gh)(σ:St)(H:Hp)(env:Env)(n:Nat):Prop where
 pots:∀p∈G.pots,p∈G.M/\T.at_ G.M H p n
 has:T.has G.pots
 mu:∀a∈G.M,∃o,H a=some o/\MutO o
 slots:∀(i:Nat) (s:Slot),env[i]?=some (some s)->∃x v,s=.v x/\σ[i]?=some (some v)/\Rep K G H x v
 len:env.length=σ.length
theorem Inn.sr (I:Inn K T G σ H env n):SR ⟨K,T,G.M,G.pots,H,false⟩ G σ H env n where
 frame b o _ e:=e
 sub a ha:=.inl ha
 sup a ha:=ha
 pots:=I.pots
 pre:=⟨[],by simp,.inl rfl⟩
 mu:=I.mu
 slots i s e:=by
   obtain⟨x,v,rfl,ev,r⟩:=I.slots i s e;exact⟨v,ev,r⟩
 inj i j xs ys a e1:=by
   obtain⟨x,v,z,_⟩:=I.slots i _ e1;cases z
 p0:=⟨fun p hp=>(I.pots p hp).1,I.has⟩
 len:=I.len
 newp p hp hn:=absurd hp hn
theorem SR.inn (S:SR ⟨K,T,G.M,G.pots,H0,false⟩ G σ H env n):Inn K T G σ H env n where
 pots:=S.pots
 has:=S.hasG
 mu:=S.mu
 slots i s e:=by
   cases s with
   | v x =>
     obtain⟨v,ev,r⟩:=S.slots i _ e;exact⟨x,v,rfl,ev,r⟩
   | ow kk xs =>
     obtain⟨a,vs,ev,h1,h2,_⟩:=S.slots i _ e;exact absurd h1 h2
 len:=S.len
theorem N_:TOk K T tTru qTru:=fun C G σ H env n R Q hK hT S hp k=>k _ _ _ _ hp S Fr.refl
structure CI (K:A4)(T:PotK)(G:Gh)(H1:Hp)(D:Addr)(σ:St)(H:Hp)(env:Env)(n:Nat)(acc:List PV)(us:List V):Prop where
 inn:Inn K T ⟨D::G.M,G.pots⟩ σ H env n
 kp:∀b o,b∉G.pots->H1 b=some o->H b=some o
 eD:H D=some (.lst us)
 ra:Reps K ⟨D::G.M,G.pots⟩ H acc us
theorem CI.start {K:A4}{T:PotK}{G:Gh}{H1:Hp}{D:Addr}{σ:St}{env:Env}{n:Nat}(hD:H1 D=none)(I0:Inn K T G σ H1 env n):CI K T G H1 D σ (upd H1 D (.lst [])) env n [] []:=by
 have lay:∀b o,H1 b=some o->upd H1 D (.lst []) b=some o:=fun b o e=>Same.lay1 hD b o e;have new:∀a,a∈D::G.M->a∈G.M\/H1 a=none:=fun a ha=>(B6.mp ha).elim (fun z=>.inr (z▸hD)) .inl;refine⟨⟨fun p hp=>⟨B3 _ (I0.pots p hp).1,?_⟩,I0.has,fun a ha=>?_,fun i s e=>?_,I0.len⟩,fun b o _ e=>lay b o e,C4,rfl⟩
 · have h1:=T.more (M':=D::G.M) (I0.pots p hp).2 new;obtain⟨o,e,_⟩:=T.mu h1;exact T.keep h1 (by rw [e,lay p o e]) fun b o _ e=>lay b o e
 · rcases B6.mp ha with rfl | ha
   · exact⟨_,C4,trivial⟩
   · obtain⟨o,e,m⟩:=I0.mu a ha;exact⟨o,lay a o e,m⟩
 · obtain⟨x,v,rfl,ev,r⟩:=I0.slots i s e;exact⟨x,v,rfl,ev,Rep.mono (G':=⟨D::G.M,G.pots⟩) (fun b o _ e=>lay b o e) new (fun _ _ e=>e) _ _ r⟩
theorem CI.go {K:A4}{T:PotK}{G:Gh}{H1:Hp}{D:Addr}{σ σ':St}{H H':Hp}{env env':Env}{n n':Nat}{acc:List PV}{us:List V}(c:CI K T G H1 D σ H env n acc us)(nD:D∉G.pots)(S:SR ⟨K,T,D::G.M,G.pots,H,false⟩ ⟨D::G.M,G.pots⟩ σ' H' env' n'):CI K T G H1 D σ' H' env' n' acc us:=
 ⟨S.inn,fun b o hb e=>S.frame b o hb (c.kp b o hb e),S.frame D _ nD c.eD,Reps.mono (fun b o hb e=>S.frame b o (fun z=>hb (c.inn.pots b z).1) e) (fun a ha=>.inl ha) (fun _ _ e=>e) _ _ c.ra⟩
theorem CI.fD {G:Gh}(o:HO):Fr ⟨D::G.M,G.pots⟩ H (upd H D o):=fun b u hb e=>by
 rw [A7 (fun z=>hb (by rw [z];exact B8))];exact e
theorem CI.add {K:A4}{T:PotK}{G:Gh}{H1:Hp}{D:Addr}{σ:St}{H:Hp}{env:Env}{n:Nat}{acc:List PV}{us:List V}{y:PV}{u:V}(c:CI K T G H1 D σ H env n acc us)(nD:D∉G.pots)(hD:H1 D=none)(r:Rep K ⟨D::G.M,G.pots⟩ H y u):CI K T G H1 D σ (upd H D (.lst (us++[u]))) env n (acc++[y]) (us++[u]):=by
 refine⟨⟨fun p hp=>⟨(c.inn.pots p hp).1,T.keep (c.inn.pots p hp).2 (A7 fun z=>nD (by rw [<- z];exact hp)) (CI.fD _)⟩,c.inn.has,fun a ha=>?_,fun q s e=>?_,c.inn.len⟩,fun b o hb e=>?_,C4,(c.ra.append (.one r)).fr (CI.fD _)⟩
 · by_cases haD:a=D
   · subst haD;exact⟨_,C4,trivial⟩
   · rw [A7 haD];exact c.inn.mu a ha
 · obtain⟨x,v,rfl,ev,r⟩:=c.inn.slots q s e;exact⟨x,v,rfl,ev,r.fr (CI.fD _)⟩
 · rw [A7 (fun z=>by rw [z,hD] at e;cases e)];exact c.kp b o hb e
theorem CI.it {K:A4}{T:PotK}{G:Gh}{H1:Hp}{D:Addr}{σ:St}{H:Hp}{env:Env}{n:Nat}{acc:List PV}{us:List V}{J:It}{xs:List PV}(c:CI K T G H1 D σ H env n acc us)(hD:H1 D=none)(hJ:ItR K G H1 J xs):(∀(i:Nat) x,xs[i]?=some x->J.go i H/\∀v H3,J.yld i H v H3->Same H H3/\Rep K ⟨D::G.M,G.pots⟩ H3 x v)/\∀i,xs.length<=i->J.stop i H:=
 hJ ⟨D::G.M,G.pots⟩ H (fun b o hb e=>by
   by_cases z:b∈G.pots
   · obtain⟨h1,_⟩:=c.inn.pots b z;rcases B6.mp h1 with rfl | h1
     · rw [hD] at e;cases e
     · exact absurd h1 hb
   · exact c.kp b o z e) (fun a ha=>(B6.mp (show a∈D::G.M from ha)).elim (fun z=>.inr (z▸hD)) .inl) (fun _ _ e=>e) fun p hp=>c.inn.sr.fresh hp
theorem Jt {K:A4}{T:PotK}{J:It}{g:TG}{tt:TT}{te:TE}{pg:pG}{ptt:pT}{pte:pE}(hg:GOk K g pg)(ht:TOk K T tt ptt)(he:EOk K T te pte){G:Gh}{H1:Hp}{xs:List PV}(hJ:ItR K G H1 J xs)(hl:xs.length<=1000000)
   {σc:St} {env:Env} {n:Nat} {R:List PV->Nat->Prop} {Q:VK} {D:Addr} (hD:H1 D=none) (I0:Inn K T G σc H1 env n) (hp:Y1 pg ptt pte xs env n R)
   (hQ:∀ys n' us H',R ys n'->(∀p∈G.pots,T.at_ (D::G.M) H' p n')->(∀b o,b∉G.pots->H1 b=some o->H' b=some o)->H' D=some (.lst us)->Reps K ⟨D::G.M,G.pots⟩ H' ys us->Q (.ref D) H') :
   CompW J g tt te Q D σc (upd H1 D (.lst [])):=by
 have nD:D∉G.pots:=fun z=>I0.sr.fresh hD (I0.pots D z).1;refine⟨fun i m σ H=>m=xs.length - i/\i<=xs.length/\∃env n acc us,CI K T G H1 D σ H env n acc us/\acc.length<=i/\Y1 pg ptt pte (xs.drop i) env n fun ys n'=>R (acc++ys) n',⟨xs.length,rfl,J6 _,env,n,[],[],.start hD I0,B4 _,hp⟩,?_⟩;rintro i m σ H ⟨rfl,hi,env,n,acc,us,c,la,hc⟩;obtain⟨hgo,hstop⟩:=c.it hD hJ
 by_cases hlt:i < xs.length
 · obtain⟨g1,g2⟩:=hgo i _ (D7 hlt);refine .inr ⟨g1,fun v H2 y=>?_⟩;obtain⟨s2,rv⟩:=g2 v H2 y;rw [W8 hlt] at hc;refine hg _ _ σ H2 env n xs[i] v _ _ rfl (c.inn.sr.same s2) rv hc fun env1 σ1 hc1 S2=>?_;refine ht _ _ σ1 H2 env1 n _ _ rfl rfl S2 hc1 fun b env2 n2 H4 hc2 S4 f4=>?_;cases b with
   | false=>exact⟨xs.length - (i + 1),BO _ _ hlt,rfl,hlt,env2,n2,acc,us,c.go nD S4,Dz la,hc2⟩
   | true =>
     refine he _ _ σ1 H4 env2 n2 _ _ rfl rfl S4 hc2 fun y env3 n3 u H5 hc3 S5 r5 f5=>?_;have c5:=c.go nD S5;refine⟨us,c5.eD,by rw [<- c.ra.length];exact mil' (by omega),xs.length - (i + 1),BO _ _ hlt,rfl,hlt,env3,n3,acc++[y],us++[u],c5.add nD hD r5,by rw [E1,W9];omega,?_⟩;simp only [X1];exact hc3
 · obtain rfl:i=xs.length:=Nat.le_antisymm hi (DA hlt);refine .inl ⟨hstop _ (B4 _),?_⟩;rw [AB] at hc;have hc':R (acc++[]) n:=hc;rw [P3] at hc';exact hQ _ n us H hc' (fun p hp=>(c.inn.pots p hp).2) c.kp c.eD c.ra
end
end Pu
end
section
namespace Pu
open PySem PySem.Spec L2
section
variable {T:PotK}{ι:Type}{K:A4}{F:ι->Cx}{e a b c:Expr}{es rest:List Expr}{pe pa pb pc:pE}{pos:Pos}{pl pr:pA}{pg:pG}{pgs:pGs}{pt:pT}
def QIf {ι:Type}(T:PotK)(K:A4)(F:ι->Cx)(ifs:List Expr)(pt:pT):Prop:=∃t,(∀z,PIf (F z) ifs t)/\TOk K T t pt
theorem Aa:QIf T K F [] qTru:=⟨_,fun _=>IW,N_⟩
theorem Gw (h:QT T K F c pt):QIf T K F [c] pt:=let ⟨t,h1,h2⟩:=h;⟨t,fun z=>NG (h1 z),h2⟩
theorem Em {C:Ct}{G:Gh}{σ:St}{H:Hp}{env:Env}{n:Nat}(S:SR C G σ H env n)(cs:List (Option Nat)):Inn C.K C.T G (p5 cs σ) H (capV cs env) n where
 pots:=S.pots
 has:=S.hasG
 mu:=S.mu
 len:=by simp [capV,p5]
 slots i s e:=by
   unfold capV at e;rw [F6] at e;cases ec:cs[i]? with
   | none=>rw [ec] at e;cases e
   | some o =>
     rw [ec] at e;cases o with
     | none=>cases e
     | some j =>
       have e':capS (env[j]?)=some s:=by simpa using e
       unfold capS at e'
       split at e'
       · rename_i x ex;cases e';obtain⟨v,ev,r⟩:=S.slots j _ ex;refine⟨x,v,rfl,?_,r⟩;unfold p5;rw [F6,ec];simp [ev]
       · cases e'
def cutH (H:Hp)(D:Addr):Hp:=fun b=>if b=D then none else H b
theorem T6 {H:Hp}{D b:Addr}(h:b≠D):cutH H D b=H b:=if_neg h
theorem Gx {H:Hp}{D:Addr}{o:HO}(h:H D=some o):upd (cutH H D) D o=H:=by
 funext b
 by_cases hb:b=D
 · subst hb;rw [C4,h]
 · rw [A7 hb,T6 hb]
theorem Bf {scope:Scope}{cl:ι->List (Str×Addr)}{N:List Str}{cs:List (Option Nat)}{elt tg iter:Expr}{ifs:List Expr}{pi:pA}{ptt:pT}{pte:pE}(S:∀z,X8 (F z) scope (cl z) N cs)(hc:∀z,(F z).calm=true)(hi:QI T K F tg iter pi)
   (hg:QG K (fun y:ι×List Addr×Addr×Shared×Hp=>D3 (F y.1) scope (cl y.1) N y.2.1 y.2.2.1 y.2.2.2.1 y.2.2.2.2) tg pg) (ht:QIf T K (fun y:ι×List Addr×Addr×Shared×Hp=>D3 (F y.1) scope (cl y.1) N y.2.1 y.2.2.1 y.2.2.2.1 y.2.2.2.2) ifs ptt)
   (he:QE T K (fun y:ι×List Addr×Addr×Shared×Hp=>D3 (F y.1) scope (cl y.1) N y.2.1 y.2.2.1 y.2.2.2.1 y.2.2.2.2) elt pte)
   (hs:∀z x,P1 iter (F z).env x=pure x:=by intro _ _;rfl):QN T K F (.ListComp elt [⟨tg,iter,ifs,0⟩] scope pos) (V4 cs pi pg ptt pte):=by
 obtain⟨wi,i1,i2⟩:=hi;obtain⟨g,hg0,hg⟩:=hg;obtain⟨tt,ht0,ht⟩:=ht;obtain⟨te,he0,he⟩:=he;refine⟨_,fun z=>IX (S z) (hc z) (i1 z) (fun fp C s H=>⟨hg0 (z,fp,C,s,H),ht0 (z,fp,C,s,H),he0 (z,fp,C,s,H)⟩) (hs z),fun C G σ H env n R Q hK hT S hp k=>?_⟩;refine i2 C G σ H env n _ _ hK hT S hp fun xs env1 n1 J H1 p1 S1 f1 hJ=>?_;intro D hD;have hDM:=S1.fresh hD;refine Jt (G:=G) hg ht he hJ p1.1 hD (hT▸hK▸Em S1 cs) p1.2 fun ys n2 us H' rr hpots hk eD ry=>?_
 -- the heap without D
 have nD:∀b o,H1 b=some o->b≠D:=fun b o e z=>by rw [z,hD] at e;cases e
 have hD0:C.H0 D=none:=by
   cases z:C.H0 D with
   | none=>rfl
   | some o =>
     by_cases hp:D∈C.pots0
     · exact absurd (S1.sup D (S1.p0.1 D hp)) hDM
     · have:=S1.frame D o hp z;rw [hD] at this;cases this
 have hk2:∀b o,b∉G.pots->H1 b=some o->cutH H' D b=some o:=fun b o hb e=>by rw [T6 (nD b o e)];exact hk b o hb e
 have nc:∀b,b∉D::G.M->b≠D:=fun b hb z=>hb (by rw [z];exact B8);have np:∀p∈G.pots,p≠D:=fun p hp z=>hDM (z▸(S1.pots p hp).1)
 have Sb:SR C G σ (cutH H' D) env1 n2:=S1.call hk2 fun p hp=>by
   subst hT;have h2:=C.T.keep (hpots p hp) (H':=cutH H' D) (T6 (np p hp)) fun b o hb e=>by rw [T6 (nc b hb)];exact e
   exact C.T.more h2 fun a ha=>.inl (B3 _ ha)
 have:=k ys env1 n2 D us (cutH H' D) rr Sb (f1.trans fun b o hb e=>hk2 b o (fun z=>hb (S1.pots b z).1) e) (by unfold cutH;rw [if_pos rfl]) ?_
 · rw [Gx eD] at this;exact this
 · exact Reps.mono (G:=⟨D::G.M,G.pots⟩) (fun b o hb e=>by rw [T6 (nc b hb)];exact e) (fun a ha=>.inl (B3 _ ha)) (fun _ _ e=>e) _ _ ry
end
end Pu
end
section
namespace Pu
open PySem PySem.Spec L2
structure Bg where
 nx:Env->Nat->Prop
 rt:PV->Nat->Prop
 bk:Env->Nat->Prop:=fun _ _=>False
 ct:Env->Nat->Prop:=fun _ _=>False
abbrev pS:=Bg->Env->Nat->Prop
structure Ext (G:Gh)(H:Hp)(G':Gh)(H':Hp):Prop where
 keep:∀b o,b∉G.M->H b=some o->H' b=some o
 new:∀a∈G'.M,a∈G.M\/H a=none
 pot:∀(k:Nat) (p:Addr),G.pots[k]?=some p->G'.pots[k]?=some p
theorem Ext.refl:Ext G H G H:=⟨fun _ _ _ e=>e,fun _ h=>.inl h,fun _ _ e=>e⟩
theorem Ext.fr (f:Fr G H H'):Ext G H G H':=⟨f,fun _ h=>.inl h,fun _ _ e=>e⟩
theorem Ext.trans (a:Ext G H G1 H1)(b:Ext G1 H1 G2 H2):Ext G H G2 H2 where
 keep c o hc e:=b.keep c o (fun z=>(a.new c z).elim hc fun z=>by rw [z] at e;cases e) (a.keep c o hc e)
 new c hc:=(b.new c hc).elim (fun z=>a.new c z) fun z=>by
   by_cases hM:c∈G.M
   · exact .inl hM
   · refine .inr ?_;cases e:H c with
     | none=>rfl
     | some o=>rw [a.keep c o hM e] at z;cases z
 pot k p e:=b.pot k p (a.pot k p e)
structure Link (C:Ct)(G:Gh)(H:Hp)(PD:Bg)(D:Ends):Prop where
 nx:∀env n G' σ H',PD.nx env n->SR C G' σ H' env n->Ext G H G' H'->D.nx σ H'
 rt:∀x n v G' σ H' env,PD.rt x n->SR C G' σ H' env n->Rep C.K ⟨C.M0,G'.pots⟩ H' x v->Ext G H G' H'->D.rt v H'
 bk:∀env n G' σ H',PD.bk env n->SR C G' σ H' env n->Ext G H G' H'->D.bk σ H'
 ct:∀env n G' σ H',PD.ct env n->SR C G' σ H' env n->Ext G H G' H'->D.ct σ H'
theorem Link.ext (L:Link C G H PD D)(x:Ext G H G' H'):Link C G' H' PD D:=
 ⟨fun env n G2 σ H2 p S e=>L.nx env n G2 σ H2 p S (x.trans e),fun y n v G2 σ H2 env p S r e=>L.rt y n v G2 σ H2 env p S r (x.trans e),fun env n G2 σ H2 p S e=>L.bk env n G2 σ H2 p S (x.trans e),fun env n G2 σ H2 p S e=>L.ct env n G2 σ H2 p S (x.trans e)⟩
def SOk (K:A4)(T:PotK)(np:Bool)(t:TS)(ps:pS):Prop:=∀(C:Ct) (G:Gh) (σ:St) (H:Hp) (env:Env) (n:Nat) (PD:Bg) (D:Ends),C.K=K->C.T=T->C.np=np->SR C G σ H env n->ps PD env n->Link C G H PD D->t D σ H
def QS {ι:Type}(T:PotK)(np:Bool)(K:A4)(F:ι->Cx)(st:Stmt)(ps:pS):Prop:=∃t,(∀z,PS (F z) st t)/\SOk K T np t ps
def QSs {ι:Type}(T:PotK)(np:Bool)(K:A4)(F:ι->Cx)(st:List Stmt)(ps:pS):Prop:=∃t,(∀z,PSs (F z) st t)/\SOk K T np t ps
theorem SR.out (S:SR C G σ H env n)(r:Rep C.K G H x v):Rep C.K ⟨C.M0,G.pots⟩ H x v:=
 Rep.mono (G':=⟨C.M0,G.pots⟩) (fun _ _ _ e=>e) (fun a ha=>.inl (S.sup a ha)) (fun _ _ e=>e) _ _ r
theorem SR.old (S:SR C G σ H env n)(h:H a=none):C.H0 a=none:=by
 cases z:C.H0 a with
 | none=>rfl
 | some o =>
   by_cases hp:a∈C.pots0
   · exact absurd (S.sup a (S.p0.1 a hp)) (S.fresh h)
   · have:=S.frame a o hp z;rw [h] at this;cases this
theorem SR.moreO (S:SR C G σ H env n)(mo:MutO ob)(h:H a=none):SR C ⟨a::G.M,G.pots⟩ σ (upd H a ob) env n where
 frame b o hb e:=Same.lay1 h b o (S.frame b o hb e)
 sub b hb:=(B6.mp hb).elim (fun z=>.inr (z▸S.old h)) (S.sub b)
 sup b hb:=B3 _ (S.sup b hb)
 pots p hp:=⟨B3 _ (S.pots p hp).1,by
   have h1:=C.T.more (M':=a::G.M) (S.pots p hp).2 (fun c hc=>(B6.mp hc).elim (fun z=>.inr (z▸h)) .inl);obtain⟨o,e,_⟩:=C.T.mu h1
   exact C.T.keep h1 (by rw [e,Same.lay1 h p o e]) fun b o _ e=>Same.lay1 h b o e⟩
 pre:=S.pre
 mu b hb:=by
   rcases B6.mp hb with rfl | hb
   · exact⟨_,C4,mo⟩
   · obtain⟨o,e,m⟩:=S.mu b hb;exact⟨o,Same.lay1 h b o e,m⟩
 slots i s e:=by
   have mm:∀{x:PV} {v:V},Rep C.K G H x v->Rep C.K ⟨a::G.M,G.pots⟩ (upd H a ob) x v:=fun r=>Rep.mono (G':=⟨a::G.M,G.pots⟩) (H':=upd H a ob) (fun b o _ e=>Same.lay1 h b o e) (fun c hc=>(B6.mp (show c∈a::G.M from hc)).elim (fun z=>.inr (z▸h)) .inl) (fun _ _ e=>e) _ _ r;have:=S.slots i s e;cases s with
   | v x =>
     obtain⟨v,e1,r⟩:=this;exact⟨v,e1,mm r⟩
   | ow kk xs =>
     obtain⟨b,us,e1,h1,h2,h3,h4,r⟩:=this;exact⟨b,us,e1,B3 _ h1,h2,h3,Same.lay1 h _ _ h4,Reps.mono (G':=⟨a::G.M,G.pots⟩) (H':=upd H a ob) (fun b o _ e=>Same.lay1 h b o e) (fun c hc=>(B6.mp (show c∈a::G.M from hc)).elim (fun z=>.inr (z▸h)) .inl) (fun _ _ e=>e) _ _ r⟩
 inj:=S.inj
 p0:=S.p0
 len:=S.len
 newp:=S.newp
theorem SR.more (S:SR C G σ H env n)(h:H a=none):SR C ⟨a::G.M,G.pots⟩ σ (upd H a (.lst vs)) env n:=S.moreO (ob:=.lst vs) trivial h
theorem SR.ow (S:SR C G σ H env n)(i:Nat)(kk:OK)(h:H a=none)(r:Reps C.K G H xs vs) :
   SR C ⟨a::G.M,G.pots⟩ (σ.set i (some (.ref a))) (upd H a (mkO kk vs)) (env.set i (some (.ow kk xs))) n:=by
 have S1:=S.moreO (Jc kk vs) h;have aM:a∉G.M:=S.fresh h;have r1:Reps C.K ⟨a::G.M,G.pots⟩ (upd H a (mkO kk vs)) xs vs:=Reps.mono (G':=⟨a::G.M,G.pots⟩) (H':=upd H a (mkO kk vs)) (fun b o _ e=>Same.lay1 h b o e) (fun c hc=>(B6.mp (show c∈a::G.M from hc)).elim (fun z=>.inr (z▸h)) .inl) (fun _ _ e=>e) _ _ r
 have other:∀(j:Nat) (ys:OK×List PV),env[j]?=some (some (Slot.ow ys.1 ys.2))->σ[j]?≠some (some (.ref a)):=by
   intro j ys e z;obtain⟨b,us,e1,h1,_⟩:=S.slots j _ e;rw [z] at e1;cases e1;exact aM h1
 exact {
   frame:=S1.frame
   sub:=S1.sub
   sup:=S1.sup
   pots:=S1.pots
   pre:=S1.pre
   mu:=S1.mu
   slots:=fun j s e=>by
     by_cases hj:i=j
     · subst hj
       by_cases hl:i < env.length
       · rw [J5 hl] at e;cases e;exact⟨a,vs,by rw [J5 (by rw [<- S.len];exact hl)],B8,fun z=>aM (S.sup a z),fun z=>aM (S.pots a z).1,C4,r1⟩
       · rw [R8 (by rw [G6];omega)] at e;cases e
     · rw [F9 hj] at e ⊢;exact S1.slots j s e
   inj:=fun j k xs' ys b e1 e2 e3 e4=>by
     by_cases hj:i=j
     · by_cases hk:i=k
       · omega
       · subst hj;rw [F9 hk] at e2 e4
         by_cases hl:i < σ.length
         · rw [J5 hl] at e3;cases e3;exact absurd e4 (other k ys e2)
         · rw [R8 (by rw [G6];omega)] at e3;cases e3
     · rw [F9 hj] at e1 e3
       by_cases hk:i=k
       · subst hk
         by_cases hl:i < σ.length
         · rw [J5 hl] at e4;cases e4;exact absurd e3 (other j xs' e1)
         · rw [R8 (by rw [G6];omega)] at e4;cases e4
       · rw [F9 hk] at e2 e4;exact S.inj j k xs' ys b e1 e2 e3 e4
   p0:=S.p0
   len:=by rw [G6,G6];exact S.len
   newp:=S.newp }
theorem SR.own (S:SR C G σ H env n)(i:Nat)(h:H a=none)(r:Reps C.K G H xs vs) :
   SR C ⟨a::G.M,G.pots⟩ (σ.set i (some (.ref a))) (upd H a (.lst vs)) (env.set i (some (.ow .lst xs))) n:=S.ow i .lst h r
theorem SR.putO {C:Ct}{G:Gh}{σ:St}{H:Hp}{env:Env}{n:Nat}(S:SR C G σ H env n){i:Nat}{kk:OK}(k':OK){a:Addr}{xs ys:List PV}{vs:List V}(e:env[i]?=some (some (.ow kk xs)))(ea:σ[i]?=some (some (.ref a)))(r:Reps C.K G H ys vs) :
   SR C G σ (upd H a (mkO k' vs)) (env.set i (some (.ow k' ys))) n/\Fr G H (upd H a (mkO k' vs)):=by
 obtain⟨a',us,ea',aM,a0,ap,eH,_⟩:=S.slots i _ e;rw [ea] at ea';cases ea';have f:Fr G H (upd H a (mkO k' vs)):=fun b o hb he=>by rw [A7 (fun z=>hb (by grind))];exact he
 refine⟨{
   frame:=fun b o hb he=>?_
   sub:=S.sub
   sup:=S.sup
   pots:=fun p hp=>⟨(S.pots p hp).1,C.T.keep (S.pots p hp).2 (A7 fun z=>ap (by grind)) f⟩
   pre:=S.pre
   mu:=fun b hb=>?_
   slots:=fun j s es=>?_
   inj:=fun j k xs' ys' b e1 e2 e3 e4=>?_
   p0:=S.p0
   len:=by rw [G6];exact S.len
   newp:=S.newp },f⟩
 · have hb2:b≠a:=fun z=>by
     rcases S.sub a aM with z2 | z2
     · grind
     · grind
   rw [A7 hb2];exact S.frame b o hb he
 · by_cases hba:b=a
   · subst hba;exact⟨_,C4,Jc k' vs⟩
   · obtain⟨o,he,m⟩:=S.mu b hb;exact⟨o,by rw [A7 hba];exact he,m⟩
 · by_cases hj:i=j
   · subst hj;have hl:i < env.length:=(D9.mp e).1;rw [J5 hl] at es;cases es;exact⟨a,vs,ea,aM,a0,ap,C4,r.fr f⟩
   · rw [F9 hj] at es;have:=S.slots j s es;cases s with
     | v x =>
       obtain⟨v,e1,r⟩:=this;exact⟨v,e1,r.fr f⟩
     | ow kz zs =>
       obtain⟨b,us',e1,h1,h2,h3,h4,r⟩:=this;have hba:b≠a:=fun z=>hj (S.inj i j (kk,xs) (kz,zs) a e es ea (by rw [e1,z]));exact⟨b,us',e1,h1,h2,h3,by rw [A7 hba];exact h4,r.fr f⟩
 · have back:∀(j:Nat) (zs:OK×List PV),(env.set i (some (.ow k' ys)))[j]?=some (some (Slot.ow zs.1 zs.2))->∃zs':OK×List PV,env[j]?=some (some (.ow zs'.1 zs'.2)):=by
     intro j zs h
     by_cases hj:i=j
     · simp_all
     · grind
   obtain⟨z1,e1'⟩:=back j xs' e1;obtain⟨z2,e2'⟩:=back k ys' e2;exact S.inj j k z1 z2 b e1' e2' e3 e4
theorem SR.put (S:SR C G σ H env n)(e:env[i]?=some (some (.ow .lst xs)))(ea:σ[i]?=some (some (.ref a)))(r:Reps C.K G H ys vs) :
   SR C G σ (upd H a (.lst vs)) (env.set i (some (.ow .lst ys))) n/\Fr G H (upd H a (.lst vs)):=S.putO .lst e ea r
section
variable {T:PotK}{np:Bool}{ι:Type}{K:A4}{F:ι->Cx}{e a b c:Expr}{es:List Expr}{st:Stmt}{rest:List Stmt}{pe pa pb pc:pE}{pos:Pos}{pl pr:pA}{pg:pG}{pt:pT}{p1 p2:pS}
def qNx:pS:=fun D env n=>D.nx env n
def qSeq (p q:pS):pS:=fun D env n=>p { D with nx:=fun e m=>q D e m } env n
theorem J7:QSs T np K F [] qNx:=⟨_,fun _=>FQ,fun C G σ H env n PD D hK hT hn S hp L=>L.nx _ _ _ _ _ hp S Ext.refl⟩
theorem B0 (h:QS T np K F st p1):QSs T np K F [st] p1:=let ⟨t,h1,h2⟩:=h;⟨t,fun z=>AX (h1 z),h2⟩
theorem A8 (h:QS T np K F st p1)(h':QSs T np K F rest p2):QSs T np K F (st::rest) (qSeq p1 p2):=by
 obtain⟨t,a1,a2⟩:=h;obtain⟨u,b1,b2⟩:=h';refine⟨_,fun z=>U9 (a1 z) (b1 z),fun C G σ H env n PD D hK hT hn S hp L=>?_⟩;refine a2 C G σ H env n _ _ hK hT hn S hp ⟨fun env1 n1 G1 σ1 H1 q1 S1 x1=>?_,L.rt,L.bk,L.ct⟩;exact b2 C G1 σ1 H1 env1 n1 PD D hK hT hn S1 q1 (L.ext x1)
theorem Ju (hN:X.N.Nodup)(hi:X.N[i]?=some x)(hx:Loc X.env.scope x)(hs:Y7 e (some (.Name x pos')) pos.line X.env=pure false:=by rfl)(hf:X.fn x=true\/X.env.scope.names.lookup x=some .local:=by first | exact .inl rfl | exact .inr rfl | assumption)(te:TE)(h:EW X e te):SW X (.Assign [.Name x pos'] e pos) (tAsg te (K6 i)):=⟨FS hN hi hx h.h hs hf⟩
theorem O5 (hs:swapsWithSole [tg] e pos.line X.env=pure false:=by rfl)(hw:swappedStores [tg] e X.env=pure none:=by rfl)(h1:(F5 [tg] X.env).map (·.2)=[assign tg X.env]:=by rfl)(te:TE)(g:TG)(h:EW X e te)(hg:GW X tg g):SW X (.Assign [tg] e pos) (tAsg te g):=⟨ps_asg h.h hg.h hs hw h1⟩
theorem V5 (hs:Y7 e none pos.line X.env=pure false:=by rfl)(te:TE)(h:EW X e te):SW X (.Expr e pos) (Cb te):=⟨MR h.h hs⟩
def qSet (i:Nat)(pe:pE):pS:=fun D env n=>pe env n fun x env1 n1=>D.nx (env1.set i (some (.v x))) n1
theorem E6 (i:Nat)(h:∀z te,EW (F z) e te->SW (F z) st (tAsg te (K6 i)))(he:QE T K F e pe):QS T np K F st (qSet i pe):=by
 obtain⟨t,a1,a2⟩:=he;refine⟨_,fun z=>(h z _ ⟨a1 z⟩).h,fun C G σ H env n PD D hK hT hn S hp L=>?_⟩;refine a2 C G σ H env n _ _ hK hT S hp fun x env1 n1 v H1 q1 S1 r1 f1=>?_;exact L.nx _ _ _ _ _ q1 (S1.set i (hK▸r1)) (Ext.fr f1)
def qOwn (i:Nat)(pn:pA):pS:=fun D env n=>pn env n fun xs env1 n1=>D.nx (env1.set i (some (.ow .lst xs))) n1
theorem Eo {a:Addr}(h:H a=none):Ext G H ⟨a::G.M,G.pots⟩ (upd H a o):=⟨fun b u _ e=>Same.lay1 h b u e,fun c hc=>(B6.mp (show c∈a::G.M from hc)).elim (fun z=>.inr (z▸h)) .inl,fun _ _ e=>e⟩
theorem Ep (i:Nat)(h:∀z te,EW (F z) e te->SW (F z) st (tAsg te (K6 i)))(he:QN T K F e pl):QS T np K F st (qOwn i pl):=by
 obtain⟨t,a1,a2⟩:=he;refine⟨_,fun z=>(h z _ ⟨a1 z⟩).h,fun C G σ H env n PD D hK hT hn S hp L=>?_⟩;refine a2 C G σ H env n _ _ hK hT S hp fun xs env1 n1 a vs Hb q1 S1 f1 hn1 r1=>?_;exact L.nx _ _ _ _ _ q1 (S1.own i hn1 (hK▸r1)) ((Ext.fr f1).trans (Eo hn1))
def qAsg (pe:pE)(g:pG):pS:=fun D env n=>pe env n fun x env1 n1=>g x env1 fun env2=>D.nx env2 n1
theorem c0 (h:∀z te g,EW (F z) e te->GW (F z) tg g->SW (F z) st (tAsg te g))(he:QE T K F e pe)(hg:QG K F tg pg):QS T np K F st (qAsg pe pg):=by
 obtain⟨t,a1,a2⟩:=he;obtain⟨g,b1,b2⟩:=hg;refine⟨_,fun z=>(h z _ _ ⟨a1 z⟩ ⟨b1 z⟩).h,fun C G σ H env n PD D hK hT hn S hp L=>?_⟩;refine a2 C G σ H env n _ _ hK hT S hp fun x env1 n1 v H1 q1 S1 r1 f1=>?_;exact b2 C G σ H1 env1 n1 x v _ _ hK S1 r1 q1 fun env' σ' re S'=>L.nx _ _ _ _ _ re S' (Ext.fr f1)
def O9 (pe:pE):pS:=fun D env n=>pe env n fun _ env1 n1=>D.nx env1 n1
theorem Y2 (h:∀z te,EW (F z) e te->SW (F z) st (Cb te))(he:QE T K F e pe):QS T np K F st (O9 pe):=by
 obtain⟨t,a1,a2⟩:=he;refine⟨_,fun z=>(h z _ ⟨a1 z⟩).h,fun C G σ H env n PD D hK hT hn S hp L=>?_⟩;exact a2 C G σ H env n _ _ hK hT S hp fun x env1 n1 v H1 q1 S1 r1 f1=>L.nx _ _ _ _ _ q1 S1 (Ext.fr f1)
def qRet (pe:pE):pS:=fun D env n=>pe env n fun x _ n1=>D.rt x n1
theorem D0 (he:QE T K F e pe):QS T np K F (.Return (some e) pos) (qRet pe):=by
 obtain⟨t,a1,a2⟩:=he;refine⟨_,fun z=>AY (a1 z),fun C G σ H env n PD D hK hT hn S hp L=>?_⟩;exact a2 C G σ H env n _ _ hK hT S hp fun x env1 n1 v H1 q1 S1 r1 f1=>L.rt _ _ _ _ _ _ _ q1 S1 (S1.out (hK▸r1)) (Ext.fr f1)
def Er (i:Nat):pS:=fun D env n=>match env[i]? with | some (some (.ow .lst xs))=>D.rt (.lst xs) n | _=>False
theorem Oa (i:Nat)(h:∀z,EW (F z) (.Name x p) (tVar i)):QS T np K F (.Return (some (.Name x p)) pos) (Er i):=by
 refine⟨_,fun z=>AY (h z).h,fun C G σ H env n PD D hK hT hn S hp L=>?_⟩;unfold Er at hp
 split at hp
 · rename_i xs ex;obtain⟨a,vs,ev,h1,h2,h3,h4,r⟩:=S.slots i _ ex;refine⟨.ref a,ev,L.rt _ _ _ _ _ _ _ hp S ⟨a,vs,rfl,⟨h2,h4⟩,?_⟩ Ext.refl⟩;exact Reps.mono (G':=⟨C.M0,G.pots⟩) (fun _ _ _ e=>e) (fun a ha=>.inl (S.sup a ha)) (fun _ _ e=>e) _ _ r
 · exact hp.elim
def qIfS (t:pT)(p q:pS):pS:=fun D env n=>t env n fun b env1 n1=>if b=true then p D env1 n1 else q D env1 n1
theorem F8 (hc:QT T K F c pt)(h1:QSs T np K F x p1)(h2:QSs T np K F y p2):QS T np K F (.If c x y pos) (qIfS pt p1 p2):=by
 obtain⟨tc,c1,c2⟩:=hc;obtain⟨t,a1,a2⟩:=h1;obtain⟨u,b1,b2⟩:=h2;refine⟨_,fun z=>FR (c1 z) (a1 z) (b1 z),fun C G σ H env n PD D hK hT hn S hp L=>?_⟩;refine c2 C G σ H env n _ _ hK hT S hp fun d env1 n1 H1 q1 S1 f1=>?_;cases d with
 | true=>exact a2 C G σ H1 env1 n1 PD D hK hT hn S1 q1 (L.ext (Ext.fr f1))
 | false=>exact b2 C G σ H1 env1 n1 PD D hK hT hn S1 q1 (L.ext (Ext.fr f1))
def forL (g:pG)(b:pS)(D:Bg):List PV->Env->Nat->Prop
 | [],env,n=>D.nx env n
 | x::xs,env,n=>g x env fun env1=>b { D with nx:=fun e m=>forL g b D xs e m,ct:=fun e m=>forL g b D xs e m,bk:=D.nx } env1 n
def qFor (pi:pA)(g:pG)(b:pS):pS:=fun D env n=>pi env n fun xs env1 n1=>forL g b D xs env1 n1
theorem N4 (hc:∀z,(F z).calm=true)(hi:QI T K F tg iter pl)(hg:QG K F tg pg)(hb:QSs T np K F body p1)(hp:∀z,PassesOwn (model (F z).prog (F z).w) (F z).A (F z).env (F z).xe:=by intro _;exact PassesOwn.never)(hs:∀z x,P1 iter (F z).env x=pure x:=by intro _ _;rfl):QS T np K F (.For tg iter body [] pos) (qFor pl pg p1):=by
 obtain⟨wi,i1,i2⟩:=hi;obtain⟨g,g1,g2⟩:=hg;obtain⟨t,b1,b2⟩:=hb;refine⟨_,fun z=>IA (hp z) (hc z) (i1 z) (g1 z) (b1 z) (hs z),fun C G σ H env n PD D hK hT hn S hp L=>?_⟩;refine i2 C G σ H env n _ _ hK hT S hp fun xs env1 n1 J H1 q1 S1 f1 hJ=>?_;have L1:=L.ext (Ext.fr f1);refine⟨fun i m σ H=>m=xs.length - i/\i<=xs.length/\∃G' env n,SR C G' σ H env n/\Ext G H1 G' H/\forL pg p1 PD (xs.drop i) env n,⟨xs.length,by simp,J6 _,G,env1,n1,S1,Ext.refl,by simpa using q1⟩,?_⟩;rintro i m σ' H' ⟨rfl,hi,G',env',n',S',x',q'⟩;have hf:∀p,H' p=none->p∉G'.M:=fun p hp=>S'.fresh hp;obtain⟨hgo,hstop⟩:=hJ G' H' x'.keep x'.new x'.pot hf
 by_cases hlt:i < xs.length
 · obtain⟨go1,go2⟩:=hgo i _ (D7 hlt);rw [W8 hlt] at q';refine .inr ⟨go1,fun σ H=>∃G' env n,SR C G' σ H env n/\Ext G H1 G' H/\forL pg p1 PD (xs.drop (i + 1)) env n,fun σ2 H2 h2=>⟨xs.length - (i + 1),by omega,rfl,hlt,h2⟩,fun v H2 y=>?_⟩;obtain⟨s2,rv⟩:=go2 v H2 y;have x2:Ext G' H' G' H2:=Ext.fr (Fr.of s2);refine g2 C G' σ' H2 env' n' _ v _ _ hK (S'.same s2) rv q' fun env2 σ2 q2 S2=>?_;refine b2 C G' σ2 H2 env2 n' _ _ hK hT hn S2 q2 ⟨fun e3 n3 G3 σ3 H3 q3 S3 x3=>?_,fun y n3 v G3 σ3 H3 e3 q3 S3 r3 x3=>?_,fun e3 n3 G3 σ3 H3 q3 S3 x3=>?_,fun e3 n3 G3 σ3 H3 q3 S3 x3=>?_⟩
   · exact⟨G3,e3,n3,S3,(x'.trans x2).trans x3,q3⟩
   · exact L1.rt _ _ _ _ _ _ _ q3 S3 r3 ((x'.trans x2).trans x3)
   · exact L1.nx _ _ _ _ _ q3 S3 ((x'.trans x2).trans x3)
   · exact⟨G3,e3,n3,S3,(x'.trans x2).trans x3,q3⟩
 · have ei:i=xs.length:=by omega
   subst ei;rw [AB] at q';exact .inl ⟨hstop _ (B4 _),L1.nx _ _ _ _ _ q' S' x'⟩
def j8 (t:pT)(b:pS)(D:Bg):Nat->Env->Nat->Prop
 | 0,_,_=>False
 | k + 1,env,n=>t env n fun c env1 n1=>if c=true then b { D with nx:=fun e m=>j8 t b D k e m,ct:=fun e m=>j8 t b D k e m,bk:=D.nx } env1 n1 else D.nx env1 n1
def Jv (t:pT)(b:pS):pS:=fun D env n=>∃k,j8 t b D k env n
theorem Ob (hc:QT T K F c pt)(hb:QSs T np K F body p1)(hp:∀z,PassesOwn (model (F z).prog (F z).w) (F z).A (F z).env (F z).xe:=by intro _;exact PassesOwn.never):QS T np K F (.While c body [] pos) (Jv pt p1):=by
 obtain⟨tc,c1,c2⟩:=hc;obtain⟨t,b1,b2⟩:=hb;refine⟨_,fun z=>MT (hp z) (c1 z) (b1 z),fun C G σ H env n PD D hK hT hn S hp L=>?_⟩;obtain⟨k,hp⟩:=hp;refine⟨fun m σ H'=>∃G' env n,SR C G' σ H' env n/\Ext G H G' H'/\j8 pt p1 PD m env n,⟨k,G,env,n,S,Ext.refl,hp⟩,?_⟩;rintro m σ1 H1 ⟨G1,env1,n1,S1,x1,q1⟩;cases m with
 | zero=>exact q1.elim
 | succ m =>
   refine c2 C G1 σ1 H1 env1 n1 _ _ hK hT S1 q1 fun d env2 n2 H2 q2 S2 f2=>?_;have x2:=x1.trans (Ext.fr f2);cases d with
   | false=>exact iteF (L.nx _ _ _ _ _ q2 S2 x2)
   | true =>
     refine iteT ⟨fun σ H'=>∃G' env n,SR C G' σ H' env n/\Ext G H G' H'/\j8 pt p1 PD m env n,fun σ' H' h=>⟨m,by omega,h⟩,?_⟩;exact b2 C G1 σ1 H2 env2 n2 _ _ hK hT hn S2 q2 ⟨fun e3 n3 G3 σ3 H3 q3 S3 x3=>⟨G3,e3,n3,S3,x2.trans x3,q3⟩,fun y n3 v G3 σ3 H3 e3 q3 S3 r3 x3=>L.rt _ _ _ _ _ _ _ q3 S3 r3 (x2.trans x3),fun e3 n3 G3 σ3 H3 q3 S3 x3=>L.nx _ _ _ _ _ q3 S3 (x2.trans x3),fun e3 n3 G3 σ3 H3 q3 S3 x3=>⟨G3,e3,n3,S3,x2.trans x3,q3⟩⟩
def Gy (i:Nat)(pe:pE):pE:=fun env n R=>pe env n fun y env1 n1=>match env1[i]? with | some (some (.ow .lst xs))=>xs.length < 1000000/\R .non (env1.set i (some (.ow .lst (xs++[y])))) n1 | _=>False
theorem j9 (i:Nat)(hv:∀z,EW (F z) (.Name x p) (tVar i))(he:QE T K F e pe)(hs:E5 e=true:=by rfl)(hbase:∀z,Y6 (.Name x p) "append" (F z).env (eval (.Name x p) (F z).env)=eval (.Name x p) (F z).env:=by intro _;rfl)(hline:(ap.endLine == pos.line)=true:=by rfl)
   (hfew:∀z,((backTo pos (D6 [e] (F z).env)).all (fun x=>!x.1) && (W5 pos (W3 [] (F z).env)).all (fun x=>x.1.isSome) && decide (([e]:List Expr).length + ([]:List O1).length + (if([]:List O1).isEmpty then 0 else 1) < 30))=true:=by intro _;rfl) (hK:∀z,(F z).K=K:=by intro _;rfl):QE T K F (.Call (.Attribute (.Name x p) "append" ap) [e] [] pos) (fun env n R=>(∃xs,env[i]?=some (some (.ow .lst xs)))/\Gy i pe env n R):=by
 obtain⟨t,a1,a2⟩:=he;refine⟨tBM K "list" Gf (tVar i) (V0 t tNil),fun z=>hK z▸Ci BY PySem.F.slot_list_append PySem.F.type_list_append Gg (hv z).h (E9 (a1 z) G7 (C8 hs)) (hbase z) (hfew z) hline (C8 hs),fun C G σ H env n R Q hK hT S hp k=>?_⟩;obtain⟨⟨xs0,e0⟩,hp⟩:=hp;obtain⟨a,vs,ev,h1,h2,h3,h4,r⟩:=S.slots i _ e0;refine⟨.ref a,ev,.inl ⟨rfl,vs,SqL.of h4⟩,?_⟩;refine a2 C G σ H env n _ _ hK hT S hp fun y env1 n1 v H1 q1 S1 r1 f1=>?_
 split at q1
 · rename_i xs ex;obtain⟨a',us,ev',g1,g2,g3,g4,r'⟩:=S1.slots i _ ex;rw [ev] at ev';cases ev';subst hK;obtain⟨S2,f2⟩:=S1.put ex ev (r'.append (.one r1));exact⟨a,us,v,rfl,rfl,g4,by rw [<- r'.length];exact mil' (by omega),k _ _ _ _ _ q1.2 S2 rfl (f1.trans f2)⟩
 · exact q1.elim
def qPop (i:Nat):pE:=fun env n R=>match env[i]? with | some (some (.ow .lst xs))=>(match xs[xs.length - 1]? with | some y=>R y (env.set i (some (.ow .lst xs.dropLast))) n | none=>False) | _=>False
theorem Oc (r:Reps K G H xs vs):Reps K G H xs.dropLast vs.dropLast:=by
 rw [List.dropLast_eq_take,List.dropLast_eq_take,<- r.length];exact r.take _
theorem Gz (i:Nat)(hv:∀z,EW (F z) (.Name x p) (tVar i))(hbase:∀z,Y6 (.Name x p) "pop" (F z).env (eval (.Name x p) (F z).env)=eval (.Name x p) (F z).env:=by intro _;rfl)(hline:(ap.endLine == pos.line)=true:=by rfl)(hK:∀z,(F z).K=K:=by intro _;rfl):QE T K F (.Call (.Attribute (.Name x p) "pop" ap) [] [] pos) (qPop i):=by
 refine⟨tBM0 K "list" rPop (tVar i),fun z=>hK z▸pe_bm0 BY PySem.F.slot_list_pop PySem.F.type_list_pop mt_pop (hv z).h (hbase z) hline,fun C G σ H env n R Q hK hT S hp k=>?_⟩;unfold qPop at hp
 split at hp
 · rename_i xs ex
   split at hp
   · rename_i y ey;obtain⟨a,vs,ev,h1,h2,h3,h4,r⟩:=S.slots i _ ex;obtain⟨v,e1,rv⟩:=r.get' ey;obtain⟨S2,f2⟩:=S.put ex ev (Oc r);subst hK;exact⟨.ref a,ev,.inl ⟨rfl,vs,SqL.of h4⟩,a,vs,v,rfl,rfl,h4,by rw [<- r.length];exact e1,k _ _ _ _ _ hp S2 (rv.fr f2) f2⟩
   · exact hp.elim
 · exact hp.elim
end
end Pu
end
section
namespace Pu
open PySem PySem.Spec L2
abbrev pSl:=Env->Nat->(Slot->Env->Nat->Prop)->Prop
def Cz (σ:St)(env:Env)(a:Addr):Prop:=∃(j:Nat) (ys:OK×List PV),env[j]?=some (some (.ow ys.1 ys.2))/\σ[j]?=some (some (.ref a))
theorem SR.slot (S:SR C G σ H env n)(i:Nat)(r:Cm C G H (some (some v)) s)(h:∀(xs:OK×List PV) a,s=.ow xs.1 xs.2->v=.ref a->¬Cz σ env a):SR C G (σ.set i (some v)) H (env.set i (some s)) n where
 frame:=S.frame
 sub:=S.sub
 sup:=S.sup
 pots:=S.pots
 pre:=S.pre
 mu:=S.mu
 slots j t e:=by
   by_cases hj:i=j
   · subst hj
     by_cases hl:i < env.length
     · rw [J5 hl] at e;cases e;rw [J5 (by rw [<- S.len];exact hl)];exact r
     · rw [R8 (by rw [G6];omega)] at e;cases e
   · rw [F9 hj] at e ⊢;exact S.slots j t e
 inj j k xs ys b e1 e2 e3 e4:=by
   by_cases hj:i=j
   · by_cases hk:i=k
     · omega
     · subst hj;rw [F9 hk] at e2 e4
       by_cases hl:i < env.length
       · rw [J5 hl] at e1;rw [J5 (by rw [<- S.len];exact hl)] at e3;cases e1;cases e3;exact absurd ⟨k,ys,e2,e4⟩ (h xs b rfl rfl)
       · rw [R8 (by rw [G6];omega)] at e1;cases e1
   · rw [F9 hj] at e1 e3
     by_cases hk:i=k
     · subst hk
       by_cases hl:i < env.length
       · rw [J5 hl] at e2;rw [J5 (by rw [<- S.len];exact hl)] at e4;cases e2;cases e4;exact absurd ⟨j,xs,e1,e3⟩ (h ys b rfl rfl)
       · rw [R8 (by rw [G6];omega)] at e2;cases e2
     · rw [F9 hk] at e2 e4;exact S.inj j k xs ys b e1 e2 e3 e4
 p0:=S.p0
 len:=by rw [G6,G6];exact S.len
 newp:=S.newp
def Ct.guard (C:Ct)(a:Addr)(vs:List V):Ct:={ C with M0:=a::C.M0,H0:=upd C.H0 a (.lst vs) }
theorem SR.guard (S:SR C G σ H env n)(vs:List V)(h:H a=none):SR (C.guard a vs) ⟨a::G.M,G.pots⟩ σ (upd H a (.lst vs)) env n:=by
 have S1:=S.more (vs:=vs) h;have aM:=S.fresh h
 exact {
   frame:=fun b o hb e=>by
     by_cases hba:b=a
     · subst hba;have e':upd C.H0 b (.lst vs) b=some o:=e;rw [C4] at e' ⊢;exact e'
     · have e':upd C.H0 a (.lst vs) b=some o:=e;rw [A7 hba] at e';exact S1.frame b o hb e'
   sub:=fun b hb=>by
     by_cases hba:b=a
     · exact .inl (by rw [hba];exact B8)
     · rcases S1.sub b hb with z | z
       · exact .inl (B3 _ z)
       · refine .inr ?_;show upd C.H0 a (.lst vs) b=none;rw [A7 hba];exact z
   sup:=fun b hb=>by
     rcases B6.mp (show b∈a::C.M0 from hb) with rfl | z
     · exact B8
     · exact S1.sup b z
   pots:=S1.pots
   pre:=S1.pre
   mu:=S1.mu
   slots:=fun i s e=>by
     cases s with
     | v x =>
       obtain⟨v,ev,r⟩:=S1.slots i _ e;exact⟨v,ev,r⟩
     | ow kk xs =>
       obtain⟨b,us,ev,h1,h2,h3,h4,r⟩:=S1.slots i _ e;obtain⟨b',us',ev',g1,_⟩:=S.slots i _ e;rw [ev] at ev';cases ev';refine⟨b,us,ev,h1,fun z=>?_,h3,h4,r⟩;rcases B6.mp (show b∈a::C.M0 from z) with rfl | z
       · exact aM g1
       · exact h2 z
   inj:=S1.inj
   p0:=⟨fun p hp=>B3 _ (S1.p0.1 p hp),S1.p0.2⟩
   len:=S1.len
   newp:=fun p hp hn hM=>by
     rcases B6.mp (show p∈a::C.M0 from hM) with rfl | z
     · exact aM (S.pots p hp).1
     · exact S1.newp p hp hn z }
theorem SR.unguard (S:SR (C.guard a vs) G σ H env n)(ha:a∉C.M0)(hp0:∀p∈C.pots0,p∈C.M0)(h0:C.H0 a=none):SR C G σ H env n/\H a=some (.lst vs)/\¬Cz σ env a:=by
 have hap:a∉C.pots0:=fun z=>ha (hp0 a z)
 refine⟨{
   frame:=fun b o hb e=>S.frame b o hb (by
     show upd C.H0 a (.lst vs) b=some o
     rw [A7 (fun z=>by rw [z,h0] at e;cases e)];exact e)
   sub:=fun b hb=>by
     by_cases hba:b=a
     · exact .inr (hba▸h0)
     · rcases S.sub b hb with z | z
       · rcases B6.mp (show b∈a::C.M0 from z) with z | z
         · exact absurd z hba
         · exact .inl z
       · have z':upd C.H0 a (.lst vs) b=none:=z;rw [A7 hba] at z';exact .inr z'
   sup:=fun b hb=>S.sup b (B3 _ hb)
   pots:=S.pots
   pre:=S.pre
   mu:=S.mu
   slots:=fun i s e=>by
     cases s with
     | v x =>
       obtain⟨v,ev,r⟩:=S.slots i _ e;exact⟨v,ev,r⟩
     | ow kk xs =>
       obtain⟨b,us,ev,h1,h2,h3,h4,r⟩:=S.slots i _ e;exact⟨b,us,ev,h1,fun z=>h2 (B3 _ z),h3,h4,r⟩
   inj:=S.inj
   p0:=⟨hp0,S.p0.2⟩
   len:=S.len
   newp:=fun p hp hn hM=>S.newp p hp hn (B3 _ hM) },S.frame a _ hap C4,?_⟩
 rintro⟨j,ys,e1,e2⟩;obtain⟨b,us,ev,h1,h2,_⟩:=S.slots j _ e1;rw [e2] at ev;cases ev;exact h2 B8
def LOk (K:A4)(T:PotK)(t:TE)(pl:pSl):Prop:=∀(C:Ct) (G:Gh) (σ:St) (H:Hp) (env:Env) (n:Nat) (R:Slot->Env->Nat->Prop) (Q:VK),C.K=K->C.T=T->SR C G σ H env n->pl env n R->
 (∀x env' n' v H',R (.v x) env' n'->SR C G σ H' env' n'->Rep K G H' x v->Fr G H H'->Q v H')->
 (∀xs env' n' a vs Hb,R (.ow .lst xs) env' n'->SR C G σ Hb env' n'->Fr G H Hb->Hb a=none->Reps K G Hb xs vs->Q (.ref a) (upd Hb a (.lst vs)))->t σ H Q
def QL {ι:Type}(T:PotK)(K:A4)(F:ι->Cx)(e:Expr)(pl:pSl):Prop:=∃t,(∀z,PE (F z) e t)/\LOk K T t pl
def sV (pe:pE):pSl:=fun env n R=>pe env n fun x env1 n1=>R (.v x) env1 n1
def sO (pn:pA):pSl:=fun env n R=>pn env n fun xs env1 n1=>R (.ow .lst xs) env1 n1
section
variable {T:PotK}{np:Bool}{ι:Type}{K:A4}{F:ι->Cx}{e a b c:Expr}{es:List Expr}{st:Stmt}{rest:List Stmt}{pe pa pb pc:pE}{pos:Pos}{pl pr:pA}{pg:pG}{pt:pT}{p1 p2:pS}{s1 s2 s3:pSl}
theorem ql_v (h:QE T K F e pe):QL T K F e (sV pe):=let ⟨t,h1,h2⟩:=h;⟨t,h1,fun C G σ H env n R Q hK hT S hp k _=>h2 C G σ H env n _ _ hK hT S hp fun x env' n' v H' r S' rp f=>k x env' n' v H' r S' rp f⟩
theorem ql_o (h:QN T K F e pl):QL T K F e (sO pl):=let ⟨t,h1,h2⟩:=h;⟨t,h1,fun C G σ H env n R Q hK hT S hp _ k=>h2 C G σ H env n _ _ hK hT S hp fun xs env' n' a vs Hb r S' f hn rs=>k xs env' n' a vs Hb r S' f hn rs⟩
def Got (C:Ct)(G:Gh)(H:Hp)(σ:St)(env:Env)(s:Slot)(v:V):Prop:=Cm C G H (some (some v)) s/\∀(xs:OK×List PV) a,s=.ow xs.1 xs.2->v=.ref a->¬Cz σ env a
theorem Jw (h:LOk K T t s1)(hK:C.K=K)(hT:C.T=T)(S:SR C G σ H env n)(hp:s1 env n R)
   (k:∀s env' n' v G' H',R s env' n'->SR C G' σ H' env' n'->Ext G H G' H'->Got C G' H' σ env' s v->Q v H'):t σ H Q:=by
 refine h C G σ H env n _ _ hK hT S hp (fun x env' n' v H' r S' rp f=>?_) fun xs env' n' a vs Hb r S' f hn rs=>?_
 · exact k _ _ _ _ _ _ r S' (Ext.fr f) ⟨⟨v,rfl,hK▸rp⟩,fun _ _ z=>nomatch z⟩
 · have aM:=S'.fresh hn;have S1:=S'.more (vs:=vs) hn;refine k _ _ _ _ _ _ r S1 ((Ext.fr f).trans (Eo hn)) ⟨⟨a,vs,rfl,B8,fun z=>aM (S'.sup a z),fun z=>aM (S'.pots a z).1,C4,?_⟩,fun ys b e1 e2=>?_⟩
   · exact Reps.mono (G':=⟨a::G.M,G.pots⟩) (H':=upd Hb a (.lst vs)) (fun b o _ e=>Same.lay1 hn b o e) (fun c hc=>(B6.mp (show c∈a::G.M from hc)).elim (fun z=>.inr (z▸hn)) .inl) (fun _ _ e=>e) _ _ (hK▸rs)
   · cases e2;rintro⟨j,zs,z1,z2⟩;obtain⟨b,us,ev,g1,_⟩:=S'.slots j _ z1;rw [z2] at ev;cases ev;exact aM g1
theorem Jx {R:Slot->Slot->Env->Nat->Prop}{Q:V->V->Hp->Prop}(h:LOk K T t s1)(h':LOk K T u s2)(hK:C.K=K)(hT:C.T=T)(S:SR C G σ H env n)(hp:s1 env n fun x env1 n1=>s2 env1 n1 fun y env2 n2=>R x y env2 n2)
   (k:∀x y env' n' v w G' H',R x y env' n'->SR C G' σ H' env' n'->Ext G H G' H'->Got C G' H' σ env' x v->Got C G' H' σ env' y w->(∀(xs ys:OK×List PV) a,x=.ow xs.1 xs.2->y=.ow ys.1 ys.2->v=.ref a->w≠.ref a)->Q v w H'):t σ H fun v H1=>u σ H1 fun w H2=>Q v w H2:=by
 refine h C G σ H env n _ _ hK hT S hp (fun x env1 n1 v H1 q1 S1 r1 f1=>?_) fun xs env1 n1 a vs Hb q1 S1 f1 hn rs=>?_
 · refine Jw h' hK hT S1 q1 fun y env2 n2 w G2 H2 q2 S2 x2 g2=>?_;exact k _ _ _ _ _ _ _ _ q2 S2 ((Ext.fr f1).trans x2) ⟨⟨v,rfl,Rep.mono x2.keep x2.new x2.pot _ _ (hK▸r1)⟩,fun _ _ z=>nomatch z⟩ g2 (fun _ _ _ z=>nomatch z)
 · have aM:=S1.fresh hn;have Od:=S1.guard vs hn;have a0:a∉C.M0:=fun z=>aM (S1.sup a z);have aH:=S1.old hn;have x1:Ext G H ⟨a::G.M,G.pots⟩ (upd Hb a (.lst vs)):=(Ext.fr f1).trans (Eo hn);have r1:Reps C.K ⟨a::G.M,G.pots⟩ (upd Hb a (.lst vs)) xs vs:=Reps.mono (G':=⟨a::G.M,G.pots⟩) (H':=upd Hb a (.lst vs)) (fun b o _ e=>Same.lay1 hn b o e) (fun c hc=>(B6.mp (show c∈a::G.M from hc)).elim (fun z=>.inr (z▸hn)) .inl) (fun _ _ e=>e) _ _ (hK▸rs);refine Jw (C:=C.guard a vs) h' hK hT Od q1 fun y env2 n2 w G2 H2 q2 S2 x2 g2=>?_;obtain⟨S3,e3,no⟩:=S2.unguard a0 S1.p0.1 aH;have aM2:a∈G2.M:=S2.sup a B8
   have ap2:a∉G2.pots:=fun z=>by
     by_cases hz:a∈C.pots0
     · exact a0 (S1.p0.1 a hz)
     · exact S2.newp a z hz B8
   have gy:Got C G2 H2 σ env2 y w:=by
     refine⟨?_,g2.2⟩;cases y with
     | v x=>exact g2.1
     | ow kk ys =>
       obtain⟨b,us,ev,h1,h2,h3,h4,r⟩:=g2.1;exact⟨b,us,ev,h1,fun z=>h2 (B3 _ z),h3,h4,r⟩
   refine k _ _ _ _ _ _ _ _ q2 S3 (x1.trans x2) ⟨⟨a,vs,rfl,aM2,a0,ap2,e3,Reps.mono x2.keep x2.new x2.pot _ _ r1⟩,fun _ _ _ e=>by cases e;exact no⟩ gy fun xs' ys b ex ey ev ew=>?_;subst ey;cases ev;obtain⟨b,us,ev,h1,h2,_⟩:=g2.1;rw [ew] at ev;cases ev;exact h2 B8
structure AW (X:Cx)(es:List Expr)(t:TA):Prop where
 h:PA X es t
theorem Es {X:Cx}{i j:Nat}{x y:Str}{a b:Expr}{px py pt:Pos}{kt k2 pt2}{pos:Pos}(hc:X.calm=true)(hN:X.N.Nodup)(hi:X.N[i]?=some x)(hj:X.N[j]?=some y)(hij:i≠j)
   (hx:X.env.scope.names.lookup x=some .local) (hy:X.env.scope.names.lookup y=some .local) (hw:swappedStores [.Tuple [.Name x px,.Name y py] kt pt] (.Tuple [a,b] k2 pt2) X.env=pure (some [x,y]))
   (hs:swapsWithSole [.Tuple [.Name x px,.Name y py] kt pt] (.Tuple [a,b] k2 pt2) pos.line X.env=pure false:=by rfl) (ta:TA) (h:AW X [a,b] ta) :
   SW X (.Assign [.Tuple [.Name x px,.Name y py] kt pt] (.Tuple [a,b] k2 pt2) pos) (tPar i j ta):=⟨ps_par hc hN hi hj hij hx hy h.h hw hs⟩
def qPar (i j:Nat)(s1 s2:pSl):pS:=fun D env n=>s1 env n fun a env1 n1=>s2 env1 n1 fun b env2 n2=>D.nx ((env2.set i (some a)).set j (some b)) n2
theorem GA {a:Addr}(hl:env.length=σ.length)(h:Cz (σ.set i (some v)) (env.set i (some s)) a):Cz σ env a\/((∃xs:OK×List PV,s=.ow xs.1 xs.2)/\v=.ref a):=by
 obtain⟨j,ys,e1,e2⟩:=h
 by_cases hj:i=j
 · subst hj
   by_cases hl':i < env.length
   · rw [J5 hl'] at e1;rw [J5 (by omega)] at e2;cases e1;cases e2;exact .inr ⟨⟨_,rfl⟩,rfl⟩
   · rw [R8 (by rw [G6];omega)] at e1;cases e1
 · rw [F9 hj] at e1 e2;exact .inl ⟨j,ys,e1,e2⟩
theorem Et (i j:Nat)(h:∀z ta,AW (F z) [a,b] ta->SW (F z) st (tPar i j ta))(h1:QL T K F a s1)(h2:QL T K F b s2)(n1:E5 a=true:=by rfl)(n2:E5 b=true:=by rfl):QS T np K F st (qPar i j s1 s2):=by
 obtain⟨t,a1,a2⟩:=h1;obtain⟨u,b1,b2⟩:=h2;refine⟨_,fun z=>(h z _ ⟨E9 (a1 z) (E9 (b1 z) G7 (C8 n2)) (C8 n1)⟩).h,fun C G σ H env n PD D hK hT hn S hp L=>?_⟩;refine Jx (Q:=fun v w H2=>∃v' w',[v,w]=[v',w']/\D.nx ((σ.set i (some v')).set j (some w')) H2) a2 b2 hK hT S hp fun x y env2 n2 v w G2 H2 q S2 x2 gx gy ne=>?_;refine⟨v,w,rfl,L.nx _ _ _ _ _ q ((S2.slot i gx.1 gx.2).slot j gy.1 fun ys b e1 e2 z=>?_) x2⟩;rcases GA S2.len z with z | ⟨⟨xs,ex⟩,ev⟩
 · exact gy.2 ys b e1 e2 z
 · exact ne xs ys b ex e1 ev e2
theorem Ab (ho:EW X o (tVar i))(ha:∀v,assign (.Subscript o ix pos) X.env v=(do
     let ov ← Y8 [v] (eval o X.env)
     let iv ← Y8 [v,ov] (eval ix X.env)
     standAt pos
     Y8 [v,ov,iv] (setItem ov iv v)
     release [v,ov,iv] []):=by intro _;rfl) (ti:TE) (hi:EW X ix ti):GW X (.Subscript o ix pos) (gSub (tVar i) ti Ch):=⟨pg_sub ho.h hi.h Nv ha⟩
def gAt (i:Nat)(pe:pE):PV->Env->Nat->(Env->Nat->Prop)->Prop:=fun x env n R=>pe env n fun y env1 n1=>match env1[i]?,y with | some (some (.ow .lst xs)),.int d=>(match ixN xs.length d with | some j=>R (env1.set i (some (.ow .lst (xs.set j x)))) n1 | none=>False) | _,_=>False
def qPut (i:Nat)(pv:pE)(pe:pE):pS:=fun D env n=>pv env n fun x env1 n1=>(∃xs,env1[i]?=some (some (.ow .lst xs)))/\gAt i pe x env1 n1 D.nx
theorem CA (i:Nat){pv:pE}(h:∀z te g,EW (F z) v te->GW (F z) (.Subscript o ix pos) g->SW (F z) st (tAsg te g))(hv:QE T K F v pv)(hg:∀z ti,EW (F z) ix ti->GW (F z) (.Subscript o ix pos) (gSub (tVar i) ti Ch))(he:QE T K F ix pe):QS T np K F st (qPut i pv pe):=by
 obtain⟨tv,v1,v2⟩:=hv;obtain⟨ti,i1,i2⟩:=he;refine⟨_,fun z=>(h z _ _ ⟨v1 z⟩ (hg z _ ⟨i1 z⟩)).h,fun C G σ H env n PD D hK hT hn S hp L=>?_⟩;refine v2 C G σ H env n _ _ hK hT S hp fun x env1 n1 v H1 q1 S1 r1 f1=>?_;obtain⟨⟨xs0,e0⟩,q1⟩:=q1;obtain⟨a,vs,ev,h1,h2,h3,h4,r⟩:=S1.slots i _ e0;refine⟨.ref a,ev,?_⟩;refine i2 C G σ H1 env1 n1 _ _ hK hT S1 q1 fun y env2 n2 w H2 q2 S2 r2 f2=>?_
 split at q2
 · rename_i xs d ex
   split at q2
   · rename_i j ej;obtain⟨a',us,ev',g1,g2,g3,g4,r'⟩:=S2.slots i _ ex;rw [ev] at ev';cases ev';subst hK;obtain⟨S3,f3⟩:=S2.put ex ev (r'.set j (r1.fr f2));exact⟨a,us,d,j,rfl,r2,g4,by rw [<- r'.length];exact ej,L.nx _ _ _ _ _ q2 S3 (Ext.fr ((f1.trans f2).trans f3))⟩
   · exact q2.elim
 · exact q2.elim
end
end Pu
end
section
namespace Pu
open PySem PySem.Spec L2
def p8 (N:List Str)(xs:List PV):Env:=xs.map (fun x=>some (.v x))++List.replicate (N.length - xs.length) none
def fnP (N ps:List Str)(body:pS):pF:=fun xs n R=>xs.length=ps.length/\body ⟨fun _ m=>R .non m,R,fun _ _=>False,fun _ _=>False⟩ (p8 N xs) n
theorem GB (hp:∀p∈G.pots,p∈G.M/\T.at_ G.M H p n)(hm:∀a∈G.M,∃o,H a=some o/\MutO o)(hh:T.has G.pots)(r:Reps K G H xs vs) :
   SR ⟨K,T,G.M,G.pots,H,np⟩ G (L2.start N vs) H (p8 N xs) n where
 frame b o _ e:=e
 sub a ha:=.inl ha
 sup a ha:=ha
 pots:=hp
 pre:=⟨[],by simp,.inl rfl⟩
 mu:=hm
 slots i s e:=by
   unfold p8 at e
   by_cases hi:i < xs.length
   · rw [W7 (by simpa using hi),F6] at e;cases ex:xs[i]? with
     | none=>rw [ex] at e;cases e
     | some x =>
       rw [ex] at e;cases e;obtain⟨v,ev,rv⟩:=r.get' ex;refine⟨v,?_,rv⟩;unfold L2.start;rw [W7 (by rw [B2,<- r.length];exact hi),F6,ev]
       rfl
   · rw [W6 (by simpa using hi),Fy] at e
     split at e <;> cases e
 inj i j xs' ys a e1:=by
   exfalso
   unfold p8 at e1
   by_cases hi:i < xs.length
   · rw [W7 (by simpa using hi),F6] at e1;cases ex:xs[i]? with
     | none=>rw [ex] at e1;cases e1
     | some x=>rw [ex] at e1;cases e1
   · rw [W6 (by simpa using hi),Fy] at e1
     split at e1 <;> cases e1
 p0:=⟨fun p h=>(hp p h).1,hh⟩
 len:=by unfold p8 L2.start;simp [r.length]
 newp p h hn:=absurd h hn
section
variable {P:C5}{w:World}{K:A4}{mg:Str->Option Value}{base:Heap}{T:PotK}
theorem bd1 {P:List Value->Prop}(h:∀a,P [a])(us:List Value)(e:us.length=1):P us:=by
 obtain⟨a,rfl⟩:=List.length_eq_one_iff.mp e;exact h a
theorem bdS {P:List Value->Prop}(h:∀a us,us.length=n->P (a::us))(us:List Value)(e:us.length=n + 1):P us:=by
 obtain⟨a,us,rfl⟩:=List.exists_cons_of_length_eq_add_one e;exact h a us (Nat.succ.inj e)
theorem bd2 {P:List Value->Prop}(h:∀a b,P [a,b])(us:List Value)(e:us.length=2):P us:=bdS (fun a us e=>bd1 (P:=fun us=>P (a::us)) (h a) us e) us e
theorem bd3 {P:List Value->Prop}(h:∀a b c,P [a,b,c])(us:List Value)(e:us.length=3):P us:=bdS (fun a us e=>bd2 (P:=fun us=>P (a::us)) (h a) us e) us e
theorem bd4 {P:List Value->Prop}(h:∀a b c d,P [a,b,c,d])(us:List Value)(e:us.length=4):P us:=bdS (fun a us e=>bd3 (P:=fun us=>P (a::us)) (h a) us e) us e
theorem bd5 {P:List Value->Prop}(h:∀a b c d e,P [a,b,c,d,e])(us:List Value)(e:us.length=5):P us:=bdS (fun a us e=>bd4 (P:=fun us=>P (a::us)) (h a) us e) us e
theorem fn_ok (F0:Fn0 K mg x st)(sc:Q7 N ps (E4 st))
   (bd:∀(kV doc pm:Value) (an:Option Addr) (cdv ct:Value) (us:List Value),us.length=ps.length->W4 (U5 x x (Q8 st) (M4 st) (E4 st) .none kV doc pm an cdv ct) ⟨us,[]⟩=pure (ps.zip us))
   (h:∀(f:Addr) (cdv:Value) (A:Around) (outer:List PySem.Env) (s:Shared) (H:Hp) (E:XK),Room k (A.deeper (DE x (E4 st) s.heap.objs.size f cdv))->
     QSs T false K (fun _:Unit=>(cxOf CX0 P w K mg base N x (E4 st) f cdv A outer s H E).nox) (M4 st) body) :
   Kn P w K mg base x (k + 1) ps (D8 K T (fnP N ps body)):=by
 refine F0.ok sc (fun vs H Q E h=>?_) bd (fun f cdv A outer s H vs Q E hr hsp=>?_)
 · obtain⟨G,xs,n,R,_,_,_,r,hf,_⟩:=h;rw [<- r.length];exact hf.1
 · obtain⟨t,h1,h2⟩:=h f cdv A outer s H E hr;obtain⟨G,xs,n,R,hp,hm,hh,r,hf,k'⟩:=hsp;refine⟨t,h1 (),?_⟩;have S0:=GB (N:=N) (np:=false) hp hm hh r
   have fin:∀(x:PV) (n':Nat) (v:V) (G':Gh) (σ:St) (H':Hp) (env:Env),R x n'->SR ⟨K,T,G.M,G.pots,H,false⟩ G' σ H' env n'->Rep K ⟨G.M,G'.pots⟩ H' x v->Q v H':=by
     intro x n' v G' σ H' env rr S' rv
     have ep:G'.pots=G.pots:=by
       obtain⟨l,el,hl⟩:=S'.pre;rcases hl with hl | hl
       · rw [el,hl,P3]
       · cases hl
     rw [ep] at rv;exact k' _ _ _ _ rr rv (fun p hp'=>T.more (S'.pots p (by rw [ep];exact hp')).2 fun a ha=>.inl (S'.sup a ha)) S'.frame
   refine h2 _ G _ H _ n _ _ rfl rfl rfl S0 hf.2 ⟨fun env n' G' σ H' q S' _=>?_,fun x n' v G' σ H' env q S' rv _=>fin x n' v G' σ H' env q S' rv,fun _ _ _ _ _ q=>q.elim,fun _ _ _ _ _ q=>q.elim⟩;exact fin .non n' .non G' σ H' env q S' rfl
end
def CB:pF:=fun xs n R=>match xs with | [.pot _,.int m]=>(0 < m/\m < 1000000/\n < 1000000000)/\∀d:Int,0<=d->d < m->R (.int d) (n + 1) | _=>False
end Pu
end
section
namespace Pu
open PySem PySem.Spec L2
section
variable {T:PotK}{np:Bool}{ι:Type}{K:A4}{F:ι->Cx}{e a b c:Expr}{es:List Expr}{pe pa pb pc:pE}{pos:Pos}{pl pr:pA}
theorem RdV.lst' {G:Gh}{H:Hp}{xs:List PV}{v:V}(h:RdV K G H (.lst xs) v):∃a vs,v=.ref a/\H a=some (.lst vs)/\Reps K G H xs vs:=by
 rcases h with⟨a,vs,e,t,r⟩ | ⟨a,vs,ys,ex,ev,h4,r⟩
 · exact⟨a,vs,e,t.2,r⟩
 · cases ex;exact⟨a,vs,ev,h4,r⟩
def qCat (pa pb:pE):pA:=fun env n R=>pa env n fun x env1 n1=>pb env1 n1 fun y env2 n2=>match x,y with | .lst xs,.lst ys=>env2=env1/\xs.length + ys.length<=1000000/\R (xs++ys) env2 n2 | _,_=>False
theorem qn_cat (ha:QR T K F a pa)(hb:QR T K F b pb):QN T K F (.BinOp a .Add b pos) (qCat pa pb):=by
 obtain⟨t,a1,a2⟩:=ha;obtain⟨u,b1,b2⟩:=hb;refine⟨_,fun z=>L4 op_cat (a1 z) (b1 z),fun C G σ H env n R Q hK hT S hp k=>?_⟩;refine a2 C G σ H env n _ _ hK hT S hp fun x env1 n1 v H1 q1 S1 r1 f1=>?_;refine b2 C G σ H1 env1 n1 _ _ hK hT S1 q1 fun y env2 n2 w H2 q2 S2 r2 f2=>?_
 split at q2
 · rename_i xs ys;obtain⟨e1,hl,q2⟩:=q2;subst e1;obtain⟨l,vs,ev,e1,rx⟩:=RdV.lst' ((r1.fr f2).rd S2);obtain⟨m,us,ew,e2,ry⟩:=RdV.lst' (r2.rd S2);exact⟨l,m,vs,us,ev,ew,e1,e2,by rw [<- rx.length,<- ry.length];exact mil hl,fun p hn=>k _ _ _ _ _ _ q2 S2 (f1.trans f2) hn (hK▸rx.append ry)⟩
 · exact q2.elim
def T4:List PV->Option (List Str)
 | []=>some []
 | .str b::xs=>(T4 xs).map (b::·)
 | _=>none
theorem Eu:∀{xs:List PV} {vs:List V} {bs:List Str},T4 xs=some bs->Reps K G H xs vs->vs=bs.map V.str
 | [],vs,bs,h,r=>by cases h;exact r
 | .str b :: xs, vs, bs, h, r => by
   obtain⟨v,t,e,rv,rt⟩:=r;cases e1:T4 xs with
   | none=>simp [T4,e1] at h
   | some cs =>
     have:b::cs=bs:=by simpa [T4,e1] using h
     subst this;rw [e,show v=.str b from rv,Eu e1 rt]
     rfl
 | .non::_,_,_,h,_=>by cases h
 | .int _::_,_,_,h,_=>by cases h
 | .bl _::_,_,_,h,_=>by cases h
 | .ty _::_,_,_,h,_=>by cases h
 | .pot _::_,_,_,h,_=>by cases h
 | .tup _::_,_,_,h,_=>by cases h
 | .lst _::_,_,_,h,_=>by cases h
 | .dct _ _::_,_,_,h,_=>by cases h
 | .fdt _ _::_,_,_,h,_=>by cases h
 | .scr _::_,_,_,h,_=>by cases h
theorem Jy:∀bs:List Str,T4 (bs.map PV.str)=some bs:=by
 intro xq
 induction xq with
 | nil =>
   exact rfl
 | cons b bs ih =>
   simp [T4,ih]
def GC:PV->Option Bool
 | .non=>some false
 | .bl b=>some b
 | .int i=>some (i != 0)
 | .str z=>if z.length<=1000000 then some ((z.length:Int) != 0) else none
 | .lst xs=>some (!xs.isEmpty)
 | .tup xs=>some (!xs.isEmpty)
 | _=>none
theorem Jz (r:Reps K G H xs vs):(!vs.isEmpty)=!xs.isEmpty:=by
 have:=r.length;cases xs <;> cases vs <;> simp_all
theorem tru_of {b:Bool}(h:GC x=some b)(r:RdV K G H x v):TruV K v H b:=by
 cases x with
 | non=>rw [r.non];cases h;rfl
 | bl c=>rw [r.bl];cases h;rfl
 | int i=>rw [r.int];cases h;rfl
 | str z =>
   rw [r.str]
   by_cases hz:z.length<=1000000
   · have h':(if z.length<=1000000 then some ((z.length:Int) != 0) else none)=some b:=h;rw [if_pos hz] at h';cases h';exact⟨mil hz,rfl⟩
   · have h':(if z.length<=1000000 then some ((z.length:Int) != 0) else none)=some b:=h;rw [if_neg hz] at h';cases h'
 | lst xs=>obtain⟨a,vs,ev,hq,rs⟩:=r.lst;rw [ev];cases h;exact .inl ⟨vs,hq,(Jz rs).symm⟩
 | tup xs=>obtain⟨a,vs,ev,hq,rs⟩:=r.tup;rw [ev];cases h;exact .inr (.inl ⟨vs,hq,(Jz rs).symm⟩)
 | _=>cases h
def wNeg:w1:=fun x R=>match x with | .int i=>R (.int (-i)) | _=>False
theorem JA (h:QE T K F a pa):QE T K F (.UnaryOp .USub a pos) (qUn wNeg pa):=by
 obtain⟨t,a1,a2⟩:=h.r;refine⟨_,fun z=>FT FV (a1 z),ok_un (fun G H x v R Q hf rx hw k=>?_) a2⟩;unfold wNeg at hw
 split at hw
 · exact⟨_,rx.int,k _ _ _ hw (Same.refl _) rfl⟩
 · exact hw.elim
end
def T7 (i:Nat)(pe:pE):pE:=fun env n R=>(∃xs,env[i]?=some (some (.ow .lst xs)))/\Gy i pe env n R
end Pu
end
section
namespace Pu
open PySem PySem.Spec L2
theorem Oe {te:pE}{rest:Env}(f:PV->PV):∀(xs:List PV) (s0:Option Slot) (n:Nat) (R:List PV->Nat->Prop),(∀x∈xs,∀m Q,Q (f x) (some (.v x)::rest) m->te (some (.v x)::rest) m Q)->R (xs.map f) n->Y1 (gN 0) qTru te xs (s0::rest) n R:=by
 intro xq
 induction xq with
 | nil =>
   intro _ _ _ _ h;exact h
 | cons x xs ih =>
   intro s0 n R ht h;show te (some (.v x)::rest) n _;refine ht x B8 n _ ?_;exact ih _ n _ (fun y hy=>ht y (B3 _ hy)) h
theorem N7 (I:Nat->Env->Nat->Prop):∀(xs:List PV) (k:Nat) (env:Env) (n:Nat),I k env n->
   (∀(i:Nat) x env n (N:Env->Nat->Prop),xs[i]?=some x->I (k + i) env n->(∀e m,I (k + i + 1) e m->N e m)->g x env fun env1=>b { D with nx:=N,ct:=N,bk:=D.nx } env1 n)->(∀env n,I (k + xs.length) env n->D.nx env n)->forL g b D xs env n:=by
 intro xq
 induction xq with
 | nil =>
   intro k env n h0 _ hd;exact hd env n h0
 | cons x xs ih =>
   intro k env n h0 hs hd;show g x env fun env1=>b { D with nx:=fun e m=>forL g b D xs e m,ct:=fun e m=>forL g b D xs e m,bk:=D.nx } env1 n;refine hs 0 x env n _ rfl h0 fun e m h1=>?_;refine ih (k + 1) e m h1 (fun i y env n N e1 h2 h3=>?_) fun env n h2=>hd env n (by rw [E8,show k + (xs.length + 1)=k + 1 + xs.length by omega];exact h2);refine hs (i + 1) y env n N (by simpa using e1) (by rw [show k + (i + 1)=k + 1 + i by omega];exact h2) fun e m h4=>h3 e m (by rw [show k + 1 + i + 1=k + (i + 1) + 1 by omega];exact h4)
theorem Ew {j i:Nat}{lo:Int}{x:PV}(h:((C2 j).map fun(k:Nat)=>PV.int (lo + k))[i]?=some x):i < j/\x=.int (lo + i):=by grind
theorem GE:((C2 j).map fun(k:Nat)=>PV.int (lo + k)).length=j:=by simp
theorem CC {α:Type}{xs:List α}{d:Int}(h0:0<=d)(h1:d < xs.length):∃x,x∈xs/\atI xs d=some x:=by
 obtain⟨x,e1,e2⟩:=Ja h0 h1;exact⟨x,K2 e1,e2⟩
theorem JB (a b:Int):eqP (.int a) (.int b)=decide (a=b):=rfl
theorem GF (a b:Str):eqP (.str a) (.str b)=decide (a=b):=rfl
theorem GG (a b:Bool):eqP (.bl a) (.bl b)=decide (a=b):=rfl
theorem JC (xs ys:List PV):eqP (.lst xs) (.lst ys)=eqPs xs ys:=rfl
theorem JD (xs ys:List PV):eqP (.tup xs) (.tup ys)=eqPs xs ys:=rfl
theorem JE (x y:PV)(xs ys:List PV):eqPs (x::xs) (y::ys)=(eqP x y && eqPs xs ys):=rfl
theorem Of:eqPs [] []=true:=rfl
theorem if_t {A B:Prop}(h:b=true)(q:A):if b=true then A else B:=by rw [if_pos h];exact q
theorem if_f {A B:Prop}{b:Bool}(h:b=false)(q:B):if b=true then A else B:=by grind
end Pu
end
section
namespace Pu
open PySem PySem.Spec L2
section
variable {T:PotK}{np:Bool}{ι:Type}{K:A4}{F:ι->Cx}{a b:Expr}{st:Stmt}{pos:Pos}{s1 s2:pSl}
theorem gw_two (K:A4)(i j:Nat)(hc:X.calm=true)(h1:GW X (.Name x px) (K6 i))(h2:GW X (.Name y py) (K6 j))(hn:(F5 [.Name x px,.Name y py] X.env).length=2:=by rfl)(hst:(F5 [.Name x px,.Name y py] X.env).findIdx? (·.1)=none:=by rfl)
   (hs:(F5 [.Name x px,.Name y py] X.env).map (·.2)=assign (.Name x px) X.env::(F5 [.Name y py] X.env).map (·.2):=by rfl) (hs2:(F5 [.Name y py] X.env).map (·.2)=assign (.Name y py) X.env::(F5 [] X.env).map (·.2):=by rfl) (hK:X.K=K:=by rfl) :
   GW X (.Tuple [.Name x px,.Name y py] k pos) (gTup K 2 (X6 (K6 i) (X6 (K6 j) gNil))):=⟨hK▸DY hc (AZ h1.h (AZ h2.h DX hs2) hs) hn hst⟩
theorem Og (i j:Nat)(h:∀z te g,EW (F z) (.Tuple [a,b] k p) te->GW (F z) tg g->SW (F z) st (tAsg te g))(hg:∀z,GW (F z) tg (gTup K 2 (X6 (K6 i) (X6 (K6 j) gNil))))(h1:QL T K F a s1)(h2:QL T K F b s2)(n1:E5 a=true:=by rfl)(n2:E5 b=true:=by rfl):QS T np K F st (qPar i j s1 s2):=by
 obtain⟨t,a1,a2⟩:=h1;obtain⟨u,b1,b2⟩:=h2;refine⟨_,fun z=>(h z _ _ ⟨FW (E9 (a1 z) (E9 (b1 z) G7 (C8 n2)) (C8 n1))⟩ (hg z)).h,fun C G σ H env n PD D hK hT hn S hp L=>?_⟩;refine Jx (Q:=fun v w H2=>[v,w].length<=B5/\∀p,H2 p=none->gTup K 2 (X6 (K6 i) (X6 (K6 j) gNil)) (.ref p) σ (upd H2 p (.tup [v,w])) D.nx) a2 b2 hK hT S hp fun x y env2 n2 v w G2 H2 q S2 x2 gx gy ne=>?_;refine⟨by show 2<=B5;decide,fun p hn'=>⟨p,[v,w],rfl,SqT.of C4,rfl,v,[w],rfl,w,[],rfl,rfl,?_⟩⟩;have sm:Same H2 (upd H2 p (.tup [v,w])):=Same.lay1 hn';have S3:=S2.same sm
 have keep:∀{s:Slot} {u:V},Cm C G2 H2 (some (some u)) s->Cm C G2 (upd H2 p (.tup [v,w])) (some (some u)) s:=fun {s u} r=>by
   cases s with
   | v x=>obtain⟨v',e,r⟩:=r;exact⟨v',e,r.same sm⟩
   | ow kk xs=>obtain⟨b,us,e,h1,h2,h3,h4,r⟩:=r;exact⟨b,us,e,h1,h2,h3,sm _ _ h4,r.same sm⟩
 refine L.nx _ _ _ _ _ q ((S3.slot i (keep gx.1) gx.2).slot j (keep gy.1) fun ys b e1 e2 z=>?_) (x2.trans (Ext.fr (Fr.of sm)));rcases GA S3.len z with z | ⟨⟨xs,ex⟩,ev⟩
 · exact gy.2 ys b e1 e2 z
 · exact ne xs ys b ex e1 ev e2
end
end Pu
end
section
namespace L2
open PySem PySem.Spec PyProof.Rows
section
variable {κ:Type}[DecidableEq κ]
def valV (kvs:List (κ×V))(k:κ):Option V:=(kvs.find? fun kv=>decide (kv.1=k)).map (·.2)
def putK (kvs:List (κ×V))(k:κ)(v:V):List (κ×V):=
 if(kvs.any fun kv=>decide (kv.1=k))=true then kvs.map (fun kv=>if kv.1=k then(kv.1,v) else kv) else kvs++[(k,v)]
theorem Bh {k:κ}(e:p.1=k):valV (p::r) k=some p.2:=by simp [valV,AC,e]
theorem Bi {k:κ}(e:¬p.1=k):valV (p::r) k=valV r k:=by simp [valV,AC,e]
theorem JF (k:κ):∀kvs:List (κ×V),(kvs.any fun kv=>decide (kv.1=k))=(valV kvs k).isSome:=by
 intro xq
 induction xq with
 | nil =>
   exact rfl
 | cons p r ih =>
   rw [List.any_cons]
   by_cases e:p.1=k
   · simp only [Bh e,decide_eq_true e,Bool.true_or,Option.isSome_some]
   · rw [Bi e,decide_eq_false e,Bool.false_or];exact ih
theorem Ex (kvs:List (κ×V))(k:κ)(v:V):(putK kvs k v).length<=kvs.length + 1:=by
 unfold putK
 split
 · rw [B2];omega
 · rw [E1,E8,List.length_nil];omega
theorem putK_new {kvs:List (κ×V)}{k:κ}(v:V)(h:valV kvs k=none):putK kvs k v=kvs++[(k,v)]:=by
 unfold putK;rw [JF,h];exact if_neg (by decide)
theorem RelO.isSome_eq (r:RelO o u):o.isSome=u.isSome:=by
 cases o with
 | none => cases u with
   | none=>rfl
   | some _=>exact(show False from r).elim
 | some _ => cases u with
   | none=>exact(show False from r).elim
   | some _=>rfl
theorem RelO.getD {o:Option V}{u:Option Value}{d:V}{d':Value}(r:RelO o u)(rd:RelV d d'):RelV (o.getD d) (u.getD d'):=by
 cases o with
 | none => cases u with
   | none=>exact rd
   | some _=>exact(show False from r).elim
 | some _ => cases u with
   | none=>exact(show False from r).elim
   | some _=>exact r
theorem KV.val (r:KV kvs vs)(k:κ):RelO (valV kvs k) (valueAt vs k):=by
 unfold KV at r
 induction r with
 | nil=>exact x5
 | @cons p q ps qs h t ih =>
   obtain⟨h1,h2⟩:=h
   by_cases e:p.1=k
   · have e':q.1=k:=h1.symm.trans e;have b:valueAt (q::qs) k=some q.2:=by simp [valueAt,AC,e']
     rw [Bh e,b];exact h2
   · have e':¬q.1=k:=fun z=>e (h1.trans z);have b:valueAt (q::qs) k=valueAt qs k:=by simp [valueAt,AC,e']
     rw [Bi e,b];exact ih
theorem KV.any {kvs:List (κ×V)}{vs:List (κ×Value)}(r:KV kvs vs)(k:κ):(kvs.any fun kv=>decide (kv.1=k))=vs.any fun kv=>decide (kv.1=k):=by induction r <;> grind
theorem KV.repl (r:KV kvs vs)(k:κ)(ry:RelV y u) :
   KV (kvs.map fun kv=>if kv.1=k then(kv.1,y) else kv) (vs.map fun kv=>if kv.1=k then(kv.1,u) else kv):=by
 unfold KV at r ⊢
 induction r with
 | nil=>exact .nil
 | @cons p q ps qs h t ih =>
   rw [J9,J9];refine .cons ?_ ih;obtain⟨h1,h2⟩:=h
   by_cases e:p.1=k
   · rw [if_pos e,if_pos (h1.symm.trans e)];exact⟨h1,ry⟩
   · rw [if_neg e,if_neg (fun z=>e (h1.trans z))];exact⟨h1,h2⟩
theorem KV.put (r:KV kvs vs)(k:κ)(ry:RelV y u):KV (putK kvs k y) (stored vs k u):=by
 unfold putK stored;rw [r.any k]
 by_cases e:(vs.any fun kv=>decide (kv.1=k))=true
 · rw [if_pos e,if_pos e];exact r.repl k ry
 · rw [if_neg e,if_neg e];exact Paired.snoc r ⟨rfl,ry⟩
theorem KV.keys {kvs:List (κ×V)}{vs:List (κ×Value)}(r:KV kvs vs):kvs.map (·.1)=vs.map (·.1):=by induction r <;> grind
theorem KV.length (r:KV kvs vs):kvs.length=vs.length:=B_ r
end
theorem Ac (r:RelV (kV k) u):(F2 P w).is k u=true:=by
 cases k with
 | inl i=>obtain⟨t,e⟩:=(show ∃t,u=Value.int i t from r);subst e;exact MJ P w i t
 | inr x=>obtain⟨t,e⟩:=(show ∃t,u=Value.str x t from r);subst e;exact Iv P w x t
theorem JG {P:C5}{w:World}:∀{ks:List Key} {us:List Value},Vals (ks.map kV) us->ItemsAre (F2 P w) ks us
 | [],_,r=>by rw [i4] at r;cases r;exact .nil
 | k :: ks, _, r => by
   rw [J9] at r;cases r with
   | cons h t=>exact .cons (Ac h) (JG t)
abbrev KT (H:Hp):List (List Key×V)->List (List Key×Addr×Value)->Prop:=Paired fun p q=>p.1=q.1/\H q.2.1=some (.tup (p.1.map kV))/\RelV p.2 q.2.2
theorem KT.val (r:KT H kvs xs)(k:List Key):RelO (valV kvs k) ((atKey xs k).map (·.2)):=by
 induction r with
 | nil=>exact x5
 | @cons p q ps qs h t ih =>
   obtain⟨h1,_,h2⟩:=h
   by_cases e:p.1=k
   · have e':q.1=k:=h1.symm.trans e;have b:atKey (q::qs) k=some q.2:=by simp [atKey,AC,e']
     rw [Bh e,b];exact h2
   · have e':¬q.1=k:=fun z=>e (h1.trans z);have b:atKey (q::qs) k=atKey qs k:=by simp [atKey,AC,e']
     rw [Bi e,b];exact ih
theorem KT.repl {H:Hp}{kvs:List (List Key×V)}{xs:List (List Key×Addr×Value)}(r:KT H kvs xs)(k:List Key){y:V}{u:Value}(ry:RelV y u) :
   KT H (kvs.map fun kv=>if kv.1=k then(kv.1,y) else kv) (xs.map (putAt k u)):=by
 induction r with
 | nil=>exact .nil
 | @cons p q ps qs h t ih =>
   rw [J9,J9];refine .cons ?_ ih;obtain⟨h1,h2,h3⟩:=h;unfold putAt
   by_cases e:p.1=k
   · grind
   · grind
theorem KT.put (r:KT H kvs xs)(k:List Key)(hb:H b=some (.tup (k.map kV)))(ry:RelV y u) :
   KT H (putK kvs k y) (storedH xs k b u):=by
 have e:(kvs.any fun kv=>decide (kv.1=k))=(atKey xs k).isSome:=by
   rw [JF,(r.val k).isSome_eq,Option.isSome_map]
 unfold putK storedH;rw [e]
 by_cases q:(atKey xs k).isSome=true
 · rw [if_pos q,if_pos q];exact r.repl k ry
 · rw [if_neg q,if_neg q];exact Paired.snoc r ⟨rfl,hb,ry⟩
theorem KT.keeps (r:KT H kvs xs)(ht:∀b ys,H b=some (.tup ys)->H' b=some (.tup ys)):KT H' kvs xs:=
 Paired.mapP r fun _ _ z=>⟨z.1,ht _ _ z.2.1,z.2.2⟩
section
variable {P:C5}{w:World}{H:Hp}{h:Heap}{a:Addr}
theorem rd_of (ok:HOk P w H h)(e:Rd H a u):G5 P w H h a u:=e.ok ok
theorem Bj (ok:HOk P w H h)(e:Rd H a (.dK kvs)):kvs.length<=B5/\(a == G9)=false/\∃vs,KV kvs vs/\h.DictOf (F2 P w) a vs:=
 show G5 P w H h a (.dK kvs) from rd_of ok e
theorem GH (ok:HOk P w H h)(e:H a=some (.dK kvs)):kvs.length<=B5/\(a == G9)=false/\∃vs,KV kvs vs/\h.DictOf (F2 P w) a vs:=Bj ok (.inl e)
theorem CD (ok:HOk P w H h)(e:H a=some (.tup (ks.map kV))):(l6 (F2 P w)).is h ks a:=by
 obtain⟨_,its,r,o,h1,h2,n,h3⟩:=(show G5 P w H h a (.tup (ks.map kV)) from ok a _ e);exact⟨o,its.toArray,n,h1,(Ca h2).1,h3,by simpa using JG r⟩
theorem Bk {kvs:List (List Key×V)}(ok:HOk P w H h)(e:Rd H a (.dT kvs)):kvs.length<=B5/\(a == G9)=false/\
   ∃xs,KT H kvs xs/\h.DictOfH (l6 (F2 P w)) a xs:=by
 obtain⟨z,y,xs,r,o,es,ep,h1,h2,h3,h4,h5⟩:=(show G5 P w H h a (.dT kvs) from rd_of ok e);refine⟨z,y,xs,r,o,es,ep,h1,h2,h3,h4,fun x hx=>?_,h5⟩
 have all:∀{l:List (List Key×V)} {m:List (List Key×Addr×Value)},KT H l m->∀x∈m,(l6 (F2 P w)).is h x.1 x.2.1:=by
   intro l m q
   induction q with
   | nil=>intro x hx;exact nomatch hx
   | @cons p q ps qs hq t ih =>
     intro x hx;rcases B6.mp hx with e | hx
     · subst e;exact CD ok (by grind)
     · grind
 grind
theorem dt_of (ok:HOk P w H h)(e:H a=some (.dT kvs)):kvs.length<=B5/\(a == G9)=false/\
   ∃xs,KT H kvs xs/\h.DictOfH (l6 (F2 P w)) a xs:=Bk ok (.inl e)
end
def DGet (H:Hp)(a:Addr)(y:V)(r:Option V):Prop:=
 (∃kvs k,Rd H a (.dK kvs)/\y=kV k/\r=valV kvs k)\/∃kvs k b,Rd H a (.dT kvs)/\y=.ref b/\H b=some (.tup (k.map kV))/\r=valV kvs k
def DPut (H:Hp)(a:Addr)(y v:V)(H':Hp):Prop:=
 (∃kvs k,H a=some (.dK kvs)/\y=kV k/\kvs.length < B5/\H'=upd H a (.dK (putK kvs k v)))\/
 ∃kvs k b,H a=some (.dT kvs)/\y=.ref b/\H b=some (.tup (k.map kV))/\kvs.length < B5/\H'=upd H a (.dT (putK kvs k v))
theorem DGet.k {k:Key}(e:H a=some (.dK kvs)):DGet H a (kV k) (valV kvs k):=.inl ⟨kvs,k,.inl e,rfl,rfl⟩
theorem DGet.t {k:List Key}(e:H a=some (.dT kvs))(eb:H b=some (.tup (k.map kV))):DGet H a (.ref b) (valV kvs k):=.inr ⟨kvs,k,b,.inl e,rfl,eb,rfl⟩
theorem DPut.k {k:Key}(e:H a=some (.dK kvs))(hl:kvs.length < B5):DPut H a (kV k) v (upd H a (.dK (putK kvs k v))):=.inl ⟨kvs,k,e,rfl,hl,rfl⟩
theorem DPut.t {k:List Key}(e:H a=some (.dT kvs))(eb:H b=some (.tup (k.map kV)))(hl:kvs.length < B5) :
   DPut H a (.ref b) v (upd H a (.dT (putK kvs k v))):=.inr ⟨kvs,k,b,e,rfl,eb,hl,rfl⟩
section
variable {X:Cx}{pins:List (Addr×Obj)}{σ:St}{H:Hp}{s:Shared}{a:Addr}{y v:V}{u r:Value}{o:Option V}{A:Around}{E:Value->Shared->Prop}
theorem Oh (hu:A.units + 1 < cLine)(I:Inv X pins σ H s)(g:DGet H a y (some v))(ry:RelV y u)(h:∀w' s',Inv X pins σ H s'->RelV v w'->Q w' s') :
   wpAny (model X.prog X.w) A (U4 (.ref a) u) Q E s:=by
 rcases g with⟨kvs,k,e,ey,l⟩ | ⟨kvs,k,b,e,ey,eb,l⟩
 · subst ey;obtain⟨z,hd,vs,rel,dd⟩:=Bj I.hok e;obtain⟨w',hw,rw'⟩:=RelO.some_of (v:=v) (o:=valueAt vs k) (by rw [l];exact rel.val k);exact wpAny_getItem_of (Ac ry) dd.mapOf hw (h w' _ (I.tok _) rw')
 · subst ey;cases(show u=N3 b from ry);obtain⟨z,hd,xs,rel,dd⟩:=Bk I.hok e;obtain⟨w',hw,rw'⟩:=RelO.some_of (v:=v) (o:=(atKey xs k).map (·.2)) (by rw [l];exact rel.val k);obtain⟨p,hp,hp2⟩:=Option.map_eq_some_iff.mp hw;refine wpAny_getItem_heap (Dh hu) (CD I.hok eb) dd hp ?_;rw [hp2];exact h w' _ (I.tok _) rw'
theorem Ey (I:Inv X pins σ H s)(mu:Mut (H a))(hs:w4 a s.heap h')(he:∃q,h'.get? a=some q)(new:G5 X.prog X.w (upd H a ob) h' a ob) :
   Inv X pins σ (upd H a ob) { s with heap:=h',toks:=t' }:=
 I.write (x:=a) (e:=a) mu (.inl rfl) (fun b q hb z=>(hs.2 b hb).trans z) he new
theorem GI (z:kvs.length<=B5)(hd:(a == G9)=false)(rel:KV kvs vs)(dd:h'.DictOf (F2 P w) a vs) :
   G5 P w H' h' a (.dK kvs):=⟨z,hd,vs,rel,dd⟩
theorem Oi (hu:A.units + 1 < cLine)(I:Inv X pins σ H s)(g:DPut H a y v H')(ry:RelV y u)(rv:RelV v r)(h:∀s',Inv X pins σ H' s'->Q () s') :
   wpAny (model X.prog X.w) A (setItem (.ref a) u r) Q E s:=by
 rcases g with⟨kvs,k,e,ey,l,eH⟩ | ⟨kvs,k,b,e,ey,eb,l,eH⟩
 · subst ey eH;obtain⟨z,hd,vs,rel,dd⟩:=GH I.hok e;have hz:vs.length<=B5:=by rw [<- rel.length];exact z
   have hl:(putK kvs k v).length<=B5:=by have:=Ex kvs k v;omega
   refine wpAny_setItem_pairs (hsz:=hz) (Ac ry) dd fun h' dd' hs=>h _ ?_;have he:∃q,h'.get? a=some q:=let ⟨q,_,_,hq,_⟩:=dd';⟨q,hq⟩;exact Ey I (by rw [e];exact x5) hs he (GI hl hd (rel.put k rv) dd')
 · subst ey eH;cases(show u=N3 b from ry);obtain⟨z,hd,xs,rel,dd⟩:=dt_of I.hok e;have hz:xs.length<=B5:=by rw [<- B_ rel];exact z
   have hl:(putK kvs k v).length<=B5:=by have:=Ex kvs k v;omega
   refine wpAny_setItem_heap (hsz:=hz) (Dh hu) (CD I.hok eb) dd fun h' dd' hs=>h _ ?_;obtain⟨q,es,ep,hq,h2,h3,h4,_,h5⟩:=dd';refine Ey I (by rw [e];exact x5) hs ⟨q,hq⟩ ⟨hl,hd,_,(rel.put k eb rv).keeps fun c ys ec=>?_,q,es,ep,hq,h2,h3,h4,h5⟩;rw [A7 (ne_of ec e (fun z=>nomatch z))];exact ec
end
def NoSl (i:Expr):Prop:=∀ov iv,subscripted i false ov iv=operate [ov,iv] (U4 ov iv)
theorem Oj {T id:String}
   (hl:typeLookup (.type T) "__getitem__"=pure (some (.builtin id))) (hs:NoSl slice)
   (h:wpAny (model prog w) A (eval value env) (fun o s₁=>wpAny (model prog w) A (eval slice env) (fun i s₂=>s₂.TypeIs o T/\wpAny (model prog w) A (U4 o i) Q E s₂) E s₁) E s) :
   wpAny (model prog w) A (eval (.Subscript value slice pos) env) Q E s:=by
 refine Subscript_ (E7 h (fun o s₁ h₁=>E7 h₁ (fun i s₂ h₂=>?_) fun _ _ x=>x) fun _ _ x=>x);obtain⟨hT,h₂⟩:=h₂;unfold subscriptTail;refine A0 ?_;rw [getitemInPython_of_ne hT.not_modules];refine A0 (wpAny_specialOf hT hl ?_)
 have fin:wpAny (model prog w) A (subscripted slice false o i) (fun r s₃=>wpAny (model prog w) A (letTemporaryGo value o r>>=fun _=>pure r) Q E s₃) E s₂:=by
   rw [hs o i];exact wpAny_operating (E7 h₂ (fun r s₃ h₃=>A0 (wpAny_letTemporaryGo (A5 h₃))) fun _ _ x=>x)
 first
   | exact A5 (A0 fin)
   | exact A0 (A5 (A0 fin))
   | exact A0 fin
theorem Ol (I:Inv X pins σ H s)(g:DGet H a y o):s.TypeIs (.ref a) "dict":=by
 rcases g with⟨kvs,k,e,_,_⟩ | ⟨kvs,k,b,e,_,_,_⟩
 · obtain⟨_,_,vs,_,dd⟩:=Bj I.hok e;exact dd.typeIs
 · obtain⟨_,_,xs,_,dd⟩:=Bk I.hok e;exact dd.typeIs
def GJ (td ty:TE):TE:=fun σ H Q=>td σ H fun x H1=>ty σ H1 fun y H2=>∃a v,x=.ref a/\DGet H2 a y (some v)/\Q v H2
def GK (td ty tv:TE):TS:=fun D σ H=>tv σ H fun v H1=>td σ H1 fun x H2=>ty σ H2 fun y H3=>∃a H4,x=.ref a/\DPut H3 a y v H4/\D.nx σ H4
section
variable {X:Cx}{o i e value:Expr}{pos pos' tpos:Pos}{td ty tv:TE}
theorem P9 (hu:X.A.units + 1 < cLine)(ho:PE X o td)(hi:PE X i ty)(hs:NoSl i):PE X (.Subscript o i pos) (GJ td ty):=by
 intro pins s σ H Q I h;refine Oj PySem.F.slot_dict_getitem.lookup hs (thn (ho pins s σ H _ I h) fun u s1 ⟨x,H1,I1,rx,q1⟩=>thn (hi pins s1 σ H1 _ I1 q1) fun iv s2 ⟨y,H2,I2,ry,a,v,ex,g,q2⟩=>?_);subst ex;obtain rfl:u=N3 a:=rx;exact⟨Ol I2 g,Oh hu I2 g ry fun w' s3 I3 rw'=>⟨v,H2,I3,rw',q2⟩⟩
theorem Bm (hu:X.A.units + 1 < cLine)(ho:PE X o td)(hi:PE X i ty)(hv:PE X value tv)(hs:Y7 value (some (.Subscript o i pos')) pos.line X.env=pure false) :
   PS X (.Assign [.Subscript o i pos'] value pos) (GK td ty tv):=by
 intro pins s σ H D I h;refine wpAny_Assign_Subscript (thn (hv pins s σ H _ I h) fun r s1 ⟨v,H1,I1,rv,q1⟩=>thn (ho pins s1 σ H1 _ I1 q1) fun u s2 ⟨x,H2,I2,rx,q2⟩=>thn (hi pins s2 σ H2 _ I2 q2) fun iv s3 ⟨y,H3,I3,ry,a,H4,ex,g,q3⟩=>?_) hs;subst ex;obtain rfl:u=N3 a:=rx;exact Oi hu I3 g ry rv fun s4 I4=>⟨σ,H4,I4,q3⟩
end
def GM:List (TE×TE)->St->Hp->(List (V×V)->Hp->Prop)->Prop
 | [],_,H,Q=>Q [] H
 | (tk,tv)::r,σ,H,Q=>tk σ H fun x H1=>tv σ H1 fun y H2=>GM r σ H2 fun ps H3=>Q ((x,y)::ps) H3
abbrev VV:List (V×V)->List (Value×Value)->Prop:=Paired fun p q=>RelV p.1 q.1/\RelV p.2 q.2
def PPs (X:Cx)(pos:Pos)(keys:List (Option Expr))(values:List Expr)(trs:List (TE×TE)):Prop:=
 ∀ (pins : List (Addr × Obj)) (s : Shared) (σ : St) (H : Hp) (Q : List (V × V) -> Hp -> Prop), Inv X pins σ H s -> GM trs σ H Q ->
   wpAny (model X.prog X.w) X.A (evalPairs (pairTrees keys values X.env pos)) (fun vs s'=>∃ps H',Inv X pins σ H' s'/\VV ps vs/\Q ps H') X.xe s
theorem Om:PPs X pos [] [] []:=fun pins s σ H Q I h=>pairTrees_nil_walk ⟨[],H,I,.nil,h⟩
theorem Ez (hk:PE X k tk)(hv:PE X v tv)(hr:PPs X pos ks vs trs) :
   PPs X pos (some k::ks) (v::vs) ((tk,tv)::trs):=fun pins s σ H Q I h=>
 pairTrees_cons_walk (thn (hk pins s σ H _ I h) fun u s1 ⟨x,H1,I1,rx,q1⟩=>thn (hv pins s1 σ H1 _ I1 q1) fun w2 s2 ⟨y,H2,I2,ry,q2⟩=>
   thn (hr pins s2 σ H2 _ I2 q2) fun ws s3 ⟨ps,H3,I3,rel,q3⟩=>⟨(x,y)::ps,H3,I3,.cons ⟨rx,ry⟩ rel,q3⟩)
def Ad (kvs more:List (Key×V)):List (Key×V):=more.foldl (fun acc kv=>putK acc kv.1 kv.2) kvs
theorem KV.merge:∀{more:List (Key×V)} {rs:List (Key×Value)} {kvs:List (Key×V)} {vs:List (Key×Value)},KV more rs->KV kvs vs->KV (Ad kvs more) (merged vs rs):=by
 intro more rs kvs vs r;unfold KV at r
 induction r generalizing kvs vs with
 | nil=>intro q;exact q
 | @cons p q ps qs h t ih =>
   intro r0
   have e:KV (putK kvs p.1 p.2) (stored vs q.1 q.2):=by
     have:=r0.put p.1 h.2;rw [<- h.1];exact this
   exact ih e
theorem On:∀(more kvs:List (Key×V)),(Ad kvs more).length<=kvs.length + more.length:=by
 intro xq
 induction xq with
 | nil =>
   intro kvs;show kvs.length<=kvs.length + 0;omega
 | cons p r ih =>
   intro kvs;have h1:=ih (putK kvs p.1 p.2);have h2:=Ex kvs p.1 p.2;show(Ad (putK kvs p.1 p.2) r).length<=_;rw [E8];omega
theorem JH:∀{kvs:List (Key×V)} {ws:List (Value×Value)},VV (kvs.map fun kv=>(kV kv.1,kv.2)) ws->∃rs,Carries (F2 P w) ws rs/\KV kvs rs
 | [],_,r=>by rw [i4] at r;cases r;exact⟨[],x5,.nil⟩
 | p :: kvs, _, r => by
   rw [J9] at r;cases r with
   | @cons a b as bs h t =>
     obtain⟨rs,c,q⟩:=JH (P:=P) (w:=w) t;obtain⟨b1,b2⟩:=b;exact⟨(p.1,b2)::rs,⟨Ac h.1,rfl,c⟩,.cons ⟨rfl,h.2⟩ q⟩
def tDisp (trs:List (TE×TE)):TE:=fun σ H Q=>∀p,H p=none->GM trs σ (upd H p (.dK [])) fun ps H2=>H2 p=some (.dK [])/\∃kvs:List (Key×V),ps=kvs.map (fun kv=>(kV kv.1,kv.2))/\kvs.length<=15/\Q (.ref p) (upd H2 p (.dK (Ad [] kvs)))
theorem Oo (h:PPs X pos keys values trs)(hall:keys.all (·.isSome)=true)(hl:keys.length=values.length)(h0:keys≠[])
   (h15:keys.length<=15):PE X (.Dict keys values pos) (tDisp trs):=by
 intro pins s σ H Q I q;have hn:=I.hok.fresh (B4 s.heap.objs.size);have I1:=I.laid (a:=s.heap.objs.size) (o:=.dK []) (h':=s.heap.push { cls:=.type "dict",data:=.dict #[] }) (t':=s.toks) (fun _ _ q=>B7 _ q) (B4 _) (Jb s.heap I.big);refine wpAny_Dict_walk (knd:=F2 X.prog X.w) hall hl h0 h15 (thn (h pins _ σ _ _ I1 (q _ hn)) fun ws s2 ⟨ps,H2,I2,rel,e,kvs,ep,lk,q2⟩=>?_);subst ep;obtain⟨rs,c,rk⟩:=JH (P:=X.prog) (w:=X.w) rel;obtain⟨z,hd,vs0,r0,dd⟩:=GH I2.hok e;cases r0;refine⟨rs,c,dd,fun h' dd' hs=>⟨.ref s.heap.objs.size,_,?_,rfl,q2⟩⟩
 have hz:(Ad [] kvs).length<=B5:=by
   have h1:=On kvs [];rw [List.length_nil] at h1;rw [L6];omega
 have he:∃q,h'.get? s.heap.objs.size=some q:=let ⟨q,_,_,hq,_⟩:=dd';⟨q,hq⟩;exact Ey I2 (by rw [e];exact x5) hs he (GI hz hd (rk.merge .nil) dd')
structure M1 (X:Cx)(o:Expr)(m:Str)(apos:Pos)(e:Expr)(cpos:Pos):Prop where
 base:Y6 o m X.env (eval o X.env)=eval o X.env
 few:((backTo cpos (D6 [e] X.env)).all (fun x=>!x.1) && (W5 cpos (W3 [] X.env)).all (fun x=>x.1.isSome)
   && decide (([e]:List Expr).length + ([]:List O1).length + (if([]:List O1).isEmpty then 0 else 1) < 30))=true
 line:(apos.endLine == cpos.line)=true
 trees:backTo cpos (D6 [e] X.env)=[(false,eval e X.env)]
structure M2 (X:Cx)(o:Expr)(m:Str)(apos:Pos)(e f:Expr)(cpos:Pos):Prop where
 base:Y6 o m X.env (eval o X.env)=eval o X.env
 few:((backTo cpos (D6 [e,f] X.env)).all (fun x=>!x.1) && (W5 cpos (W3 [] X.env)).all (fun x=>x.1.isSome)
   && decide (([e,f]:List Expr).length + ([]:List O1).length + (if([]:List O1).isEmpty then 0 else 1) < 30))=true
 line:(apos.endLine == cpos.line)=true
 trees:backTo cpos (D6 [e,f] X.env)=[(false,eval e X.env),(false,eval f X.env)]
def IsD (H:Hp)(a:Addr):Prop:=(∃kvs,Rd H a (.dK kvs))\/∃kvs,Rd H a (.dT kvs)
theorem JI {X:Cx}{pins:List (Addr×Obj)}{σ:St}{H:Hp}{s:Shared}{a:Addr}(I:Inv X pins σ H s)(d:IsD H a) :
   s.TypeIs (.ref a) "dict"/\(∀b,N3 a=.ref b->∃ob,s.heap.get? b=some ob/\ob.dict=none)/\(a == G9)=false:=by
 rcases d with⟨kvs,e⟩ | ⟨kvs,e⟩
 · obtain⟨_,hd,vs,_,dd⟩:=Bj I.hok e;refine⟨dd.typeIs,fun b q=>?_,hd⟩;cases q;obtain⟨ob,_,_,h1,h2,_⟩:=dd;exact⟨ob,h1,h2.2.1⟩
 · obtain⟨_,hd,xs,_,dd⟩:=Bk I.hok e;refine⟨dd.typeIs,fun b q=>?_,hd⟩;cases q;obtain⟨ob,_,_,h1,h2,_⟩:=dd;exact⟨ob,h1,h2.2.1⟩
section
variable {X:Cx}{pins:List (Addr×Obj)}{σ:St}{H:Hp}{s:Shared}{a:Addr}{y d:V}{u r:Value}{o:Option V}{A:Around}{E:Value->Shared->Prop}
theorem d_get1 {Q:Value->Shared->Prop}(hu:A.units + 1 < cLine)(I:Inv X pins σ H s)(g:DGet H a y o)(ry:RelV y u)(h:∀w' s',Inv X pins σ H s'->RelV (o.getD .non) w'->Q w' s') :
   wpAny (model X.prog X.w) A (call (.builtin "dict.get") [.ref a,u]) Q E s:=by
 rcases g with⟨kvs,k,e,ey,l⟩ | ⟨kvs,k,b,e,ey,eb,l⟩
 · subst ey;obtain⟨z,hd,vs,rel,dd⟩:=Bj I.hok e;refine call_meetsIn AQ dd.typeIs DL (PySem.F.args_dict_get_2 _ _) (meets_dict_get (F2 X.prog X.w) a (Ac ry) hd) ⟨_,dd.mapOf,h _ _ (I.tok _) ?_⟩;rw [l];exact(rel.val k).getD rfl
 · subst ey;cases(show u=N3 b from ry);obtain⟨z,hd,xs,rel,dd⟩:=Bk I.hok e;refine call_meetsIn AQ dd.typeIs DL (PySem.F.args_dict_get_2 _ _) (meetsH_dict_get (l6 (F2 X.prog X.w)) a b hd) ⟨Dh hu,k,xs,CD I.hok eb,dd,h _ _ (I.tok _) ?_⟩;rw [l];exact(rel.val k).getD rfl
theorem d_get2 {Q:Value->Shared->Prop}(hu:A.units + 1 < cLine)(I:Inv X pins σ H s)(g:DGet H a y o)(ry:RelV y u)(rd:RelV d r)(h:∀w' s',Inv X pins σ H s'->RelV (o.getD d) w'->Q w' s') :
   wpAny (model X.prog X.w) A (call (.builtin "dict.get") [.ref a,u,r]) Q E s:=by
 rcases g with⟨kvs,k,e,ey,l⟩ | ⟨kvs,k,b,e,ey,eb,l⟩
 · subst ey;obtain⟨z,hd,vs,rel,dd⟩:=Bj I.hok e;refine call_meetsIn AQ dd.typeIs DL (PySem.F.args_dict_get_3 _ _ _) (meets_dict_get_default (F2 X.prog X.w) a (Ac ry) hd r) ⟨_,dd.mapOf,h _ _ (I.tok _) ?_⟩;rw [l];exact(rel.val k).getD rd
 · subst ey;cases(show u=N3 b from ry);obtain⟨z,hd,xs,rel,dd⟩:=Bk I.hok e;refine call_meetsIn AQ dd.typeIs DL (PySem.F.args_dict_get_3 _ _ _) (meetsH_dict_get_default (l6 (F2 X.prog X.w)) a b hd r) ⟨Dh hu,k,xs,CD I.hok eb,dd,h _ _ (I.tok _) ?_⟩;rw [l];exact(rel.val k).getD rd
end
def JJ (td ty:TE):TE:=fun σ H Q=>td σ H fun x H1=>∃a,x=.ref a/\IsD H1 a/\ty σ H1 fun y H2=>∃o,DGet H2 a y o/\Q (o.getD .non) H2
def JK (td ty tx:TE):TE:=fun σ H Q=>td σ H fun x H1=>∃a,x=.ref a/\IsD H1 a/\ty σ H1 fun y H2=>tx σ H2 fun z H3=>∃o,DGet H3 a y o/\Q (o.getD z) H3
section
variable {X:Cx}{o e f:Expr}{apos cpos:Pos}{td ty tx:TE}
theorem Op (hu:X.A.units + 1 < cLine)(ho:PE X o td)(he:PE X e ty)(m:M1 X o "get" apos e cpos):PE X (.Call (.Attribute o "get" apos) [e] [] cpos) (JJ td ty):=by
 intro pins s σ H Q I h;refine wpAny_Call_method m.base m.few m.line PySem.F.plainAttrs_dict AQ PySem.F.type_dict_get (thn (ho pins s σ H _ I h) fun u s1 ⟨x,H1,I1,rx,a,ex,d,q1⟩=>?_);subst ex;obtain rfl:u=N3 a:=rx;obtain⟨t1,t2,_⟩:=JI I1 d;refine⟨t1,t2,?_⟩;rw [m.trees];refine DO rfl (FN (AR (thn (he pins s1 σ H1 _ I1 q1) fun iv s2 ⟨y,H2,I2,ry,ov,g,q2⟩=>DP ?_)));exact d_get1 hu I2 g ry fun w' s3 I3 rw'=>⟨_,H2,I3,rw',q2⟩
theorem Oq (hu:X.A.units + 1 < cLine)(ho:PE X o td)(he:PE X e ty)(hf:PE X f tx)(m:M2 X o "get" apos e f cpos):PE X (.Call (.Attribute o "get" apos) [e,f] [] cpos) (JK td ty tx):=by
 intro pins s σ H Q I h;refine wpAny_Call_method m.base m.few m.line PySem.F.plainAttrs_dict AQ PySem.F.type_dict_get (thn (ho pins s σ H _ I h) fun u s1 ⟨x,H1,I1,rx,a,ex,d,q1⟩=>?_);subst ex;obtain rfl:u=N3 a:=rx;obtain⟨t1,t2,_⟩:=JI I1 d;refine⟨t1,t2,?_⟩;rw [m.trees]
 refine DO rfl (FN (AR (thn (he pins s1 σ H1 _ I1 q1) fun iv s2 ⟨y,H2,I2,ry,q2⟩=>
   AR (thn (hf pins s2 σ H2 _ I2 q2) fun fv s3 ⟨z,H3,I3,rz,ov,g,q3⟩=>DP ?_))))
 exact d_get2 hu I3 g ry rz fun w' s4 I4 rw'=>⟨_,H3,I4,rw',q3⟩
end
end L2
end
section
namespace L2
open PySem PySem.Spec PyProof.Rows
def keyD:Key->PyData
 | .inl i=>.int i
 | .inr x=>.str x
mutual
def RdD (H:Hp):PyData->V->Prop
 | .none,v=>v=.non
 | .bool b,v=>v=.bl b
 | .int i,v=>v=.int i
 | .str x,v=>v=.str x
 | .list xs,v=>∃a vs,v=.ref a/\H a=some (.lst vs)/\RdDs H xs vs
 | .tuple xs,v=>∃a vs,v=.ref a/\H a=some (.tup vs)/\RdDs H xs vs
 | .dict kvs,v=>∃a ws,v=.ref a/\H a=some (.dK ws)/\RdKv H kvs ws
def RdDs (H:Hp):List PyData->List V->Prop
 | [],vs=>vs=[]
 | d::ds,vs=>∃v r,vs=v::r/\RdD H d v/\RdDs H ds r
def RdKv (H:Hp):List (PyData×PyData)->List (Key×V)->Prop
 | [],ws=>ws=[]
 | (k,d)::r,ws=>∃q w ws',ws=(q,w)::ws'/\k=keyD q/\RdD H d w/\RdKv H r ws'
end
section
variable {P:C5}{w:World}{H:Hp}{h:Heap}
mutual
theorem GN (hok:HOk P w H h)(sy:NS H):∀(d:PyData) (v:V) (u:Value),RdD H d v->RelV v u->∃as,Reads h u d as/\G9∉as
 | .none, v, u, r, e => by
   obtain rfl:v=.non:=r;obtain rfl:u=.none:=e;exact⟨[],.none,nofun⟩
 | .bool b, v, u, r, e => by
   obtain rfl:v=.bl b:=r;obtain rfl:u=.bool b:=e;exact⟨[],.bool b,nofun⟩
 | .int i, v, u, r, e => by
   obtain rfl:v=.int i:=r;obtain⟨t,rfl⟩:=e;exact⟨[],.int i t,nofun⟩
 | .str x, v, u, r, e => by
   obtain rfl:v=.str x:=r;obtain⟨t,rfl⟩:=e;exact⟨[],.str x t,nofun⟩
 | .list xs, v, u, r, e => by
   obtain⟨a,vs,rfl,ha,rs⟩:=r;obtain rfl:u=.ref a:=e;obtain⟨_,its,n,rv,ho⟩:=hok a _ ha;obtain⟨as,rr,ns⟩:=GO hok sy xs vs its rs rv;refine⟨a::as,.list ho rfl rfl rr,fun z=>?_⟩;rcases B6.mp z with z | z
   · rw [<- z] at ha;rcases sy with sy | ⟨o,u,sy⟩ <;> rw [sy] at ha <;> cases ha
   · exact ns z
 | .tuple xs, v, u, r, e => by
   obtain⟨a,vs,rfl,ha,rs⟩:=r;obtain rfl:u=.ref a:=e;obtain⟨_,its,rv,ho⟩:=hok a _ ha;obtain⟨as,rr,ns⟩:=GO hok sy xs vs its rs rv;obtain⟨o,e1,e2,n,e3⟩:=ho;exact⟨as,.tuple e1 (Ca e2).1 e3 rr,ns⟩
 | .dict kvs, v, u, r, e => by
   obtain⟨a,ws,rfl,ha,rs⟩:=r;obtain rfl:u=.ref a:=e;obtain⟨_,hs,us,rv,o,es,ep,e1,e2,e3,_,e5,_⟩:=hok a _ ha;obtain⟨as,bs,r1,r2,n1,n2⟩:=JL hok sy kvs ws us es.toList rs rv e5;refine⟨a::as++bs,.dict e1 e2.1 e3 r1 r2,fun z=>?_⟩;rcases K8.mp z with z | z
   · rcases B6.mp z with z | z
     · rw [<- z] at hs;exact absurd hs (by decide)
     · exact n1 z
   · exact n2 z
theorem GO (hok:HOk P w H h)(sy:NS H):∀(ds:List PyData) (vs:List V) (us:List Value),RdDs H ds vs->Vals vs us->∃as,ReadsAll h us ds as/\G9∉as
 | [], vs, us, r, e => by
   obtain rfl:vs=[]:=r;cases e;exact⟨[],.nil,nofun⟩
 | d :: ds, vs, us, r, e => by
   obtain⟨v,r',rfl,r1,r2⟩:=r;cases e with
   | cons e1 e2 =>
     obtain⟨as,a1,a2⟩:=GN hok sy d v _ r1 e1;obtain⟨bs,b1,b2⟩:=GO hok sy ds r' _ r2 e2;exact⟨as++bs,.cons a1 b1,fun z=>(K8.mp z).elim a2 b2⟩
theorem JL (hok:HOk P w H h)(sy:NS H):∀(kvs:List (PyData×PyData)) (ws:List (Key×V)) (us:List (Key×Value)) (es:List DictEntry),RdKv H kvs ws->KV ws us->Pairs (F2 P w) es us->
   ∃as bs,ReadsAll h (es.map (·.key)) (kvs.map (·.1)) as/\ReadsAll h (es.map (·.val)) (kvs.map (·.2)) bs/\G9∉as/\G9∉bs
 | [], ws, us, es, r, e, p => by
   obtain rfl:ws=[]:=r;cases e;cases p;exact⟨[],[],.nil,.nil,nofun,nofun⟩
 | (k, d) :: kvs, ws, us, es, r, e, p => by
   obtain⟨q,w1,ws',rfl,rfl,r1,r2⟩:=r;cases e with
   | cons e1 e2 =>
     cases p with
     | cons p1 p2 p3 =>
       obtain⟨as,bs,a1,a2,a3,a4⟩:=JL hok sy kvs ws' _ _ r2 e2 p3;obtain⟨e1,e1'⟩:=e1;dsimp only at e1 e1';obtain⟨cs,c1,c2⟩:=GN hok sy d w1 _ r1 e1';rw [<- e1] at p1;refine⟨[]++as,cs++bs,.cons ?_ a1,.cons (by dsimp only;rw [p2];exact c1) a2,a3,fun z=>(K8.mp z).elim c2 a4⟩;rcases Z9 p1 with⟨i,t,rfl,e⟩ | ⟨x,t,rfl,e⟩
       · dsimp only;rw [e];exact .int i t
       · dsimp only;rw [e];exact .str x t
end
end
section
variable {X:Cx}{pins:List (Addr×Obj)}{σ:St}{H:Hp}{s:Shared}
theorem Os (hr:Room k X.A):M3 X (.builtin "repr") (fun vs H Q=>∃v d,vs=[v]/\RdD H d v/\d.showable=true/\d.depth<=40/\d.shown.length<=B5/\Q (.str d.shown) H):=by
 intro pins s σ H vs us Q I rv h;obtain⟨v,d,rfl,r,h1,h2,h3,q⟩:=h;obtain⟨u,rfl,ru⟩:=rv.one;obtain⟨as,rr,ns⟩:=GN I.hok I.nos d v u r ru;have fin:∀(h':Heap) (t:Tok) (tk:Tok),(∀b o,s.heap.get? b=some o->h'.get? b=some o)->∃v' H',Inv X pins σ H' { s with heap:=h',toks:=tk }/\RelV v' (.str d.shown t)/\Q v' H':=fun h' t tk kp=>⟨.str d.shown,H,I.kept kp,⟨t,rfl⟩,q⟩;cases rr with
 | none=>exact P.repr_of_none (fin s.heap _ _ fun _ _ z=>z)
 | bool b=>exact P.repr_of_bool (by cases b <;> exact fin s.heap _ _ fun _ _ z=>z)
 | int i t=>exact P.repr_of_int (by simpa [Z7] using h1) (fin s.heap _ _ fun _ _ z=>z)
 | str x t=>exact P.repr_of_str (fin s.heap _ _ fun _ _ z=>z) h3
 | list e1 e2 e3 e4=>exact repr_of_reads' (.list e1 e2 e3 e4) h1 (fun _=>ns) hr.gd (by have:=hr.units;omega) (fun _ _ z=>z) (fun h' u tk kp=>fin h' u tk kp) h3
 | tuple e1 e2 e3 e4=>exact repr_of_reads' (.tuple e1 e2 e3 e4) h1 (fun _=>ns) hr.gd (by have:=hr.units;omega) (fun _ _ z=>z) (fun h' u tk kp=>fin h' u tk kp) h3
 | dict e1 e2 e3 e4 e5=>exact repr_of_reads' (.dict e1 e2 e3 e4 e5) h1 (fun _=>ns) hr.gd (by have:=hr.units;omega) (fun _ _ z=>z) (fun h' u tk kp=>fin h' u tk kp) h3
end
end L2
namespace Pu
open PySem PySem.Spec L2
mutual
/-- what a thing holds, for repr -/
def dat:PV->Option PyData
 | .non=>some .none
 | .bl b=>some (.bool b)
 | .int i=>some (.int i)
 | .str x=>some (.str x)
 | .tup xs=>match dats xs with | some ds=>some (.tuple ds) | none=>none
 | .lst xs=>match dats xs with | some ds=>some (.list ds) | none=>none
 | .dct ks xs=>match dats xs with | some ds=>some (.dict ((ks.map keyD).zip ds)) | none=>none
 | _=>none
def dats:List PV->Option (List PyData)
 | []=>some []
 | x::xs=>match dat x,dats xs with | some d,some ds=>some (d::ds) | _,_=>none
end
theorem kv_rd:∀(kvs:List (Key×V)) (ds:List PyData),RdDs H ds (kvs.map (·.2))->RdKv H (((kvs.map (·.1)).map keyD).zip ds) kvs
 | [], ds, r => by
   cases ds with
   | nil=>exact rfl
   | cons d ds=>obtain⟨v,r',e,_⟩:=r;cases e
 | (q, w) :: kvs, ds, r => by
   cases ds with
   | nil=>exact(List.cons_ne_nil _ _ r).elim
   | cons d ds =>
     obtain⟨v,r',e,r1,r2⟩:=r;cases e;exact⟨q,w,kvs,rfl,rfl,r1,kv_rd kvs ds r2⟩
section
variable {K:A4}{G:Gh}{H:Hp}
mutual
theorem JM:∀(x:PV) (v:V) (d:PyData),Rep K G H x v->dat x=some d->RdD H d v
 | .non,v,d,r,e=>by cases e;exact r
 | .bl b,v,d,r,e=>by cases e;exact r
 | .int i,v,d,r,e=>by cases e;exact r
 | .str x,v,d,r,e=>by cases e;exact r
 | .tup xs, v, d, r, e => by
   obtain⟨a,vs,rfl,t,rs⟩:=r;rw [dat] at e;cases ed:dats xs with
   | none=>rw [ed] at e;cases e
   | some ds=>rw [ed] at e;cases e;exact⟨a,vs,rfl,t.2,CF xs vs ds rs ed⟩
 | .lst xs, v, d, r, e => by
   obtain⟨a,vs,rfl,t,rs⟩:=r;rw [dat] at e;cases ed:dats xs with
   | none=>rw [ed] at e;cases e
   | some ds=>rw [ed] at e;cases e;exact⟨a,vs,rfl,t.2,CF xs vs ds rs ed⟩
 | .ty _,v,d,r,e=>by cases e
 | .pot _,v,d,r,e=>by cases e
 | .scr _,v,d,r,e=>by cases e
 | .fdt _ _,v,d,r,e=>by cases e
 | .dct ks xs, v, d, r, e => by
   obtain⟨a,kvs,rfl,_,ha,hk,rs⟩:=r;rw [dat] at e;cases ed:dats xs with
   | none=>rw [ed] at e;cases e
   | some ds=>rw [ed] at e;cases e;exact⟨a,kvs,rfl,ha,hk▸kv_rd kvs ds (CF xs _ ds rs ed)⟩
theorem CF:∀(xs:List PV) (vs:List V) (ds:List PyData),Reps K G H xs vs->dats xs=some ds->RdDs H ds vs
 | [],vs,ds,r,e=>by cases e;exact r
 | x :: xs, vs, ds, r, e => by
   obtain⟨v,r',rfl,r1,r2⟩:=r;rw [dats] at e;cases e1:dat x with
   | none=>rw [e1] at e;cases e
   | some d =>
     cases e2:dats xs with
     | none=>rw [e1,e2] at e;cases e
     | some ds'=>rw [e1,e2] at e;cases e;exact⟨v,r',rfl,JM x v d r1 e1,CF xs r' ds' r2 e2⟩
end
end
def Bn:w1:=fun x R=>match dat x with | some d=>d.showable=true/\d.depth<=40/\d.shown.length<=B5/\R (.str d.shown) | none=>False
theorem bt_repr:M8 "repr"=some (.builtin "repr"):=by decide +kernel
section
variable {T:PotK}{ι:Type}{K:A4}{F:ι->Cx}{e:Expr}{pe:pE}{pos:Pos}
theorem JN (hr:∀z,Room k (F z).A)(hg:∀z,Gl (F z) "repr")(hm:∀z,(F z).mg "repr"=none)(ha:QR T K F e pe)(hs:E5 e=true:=by rfl):QE T K F (.Call (.Name "repr" p) [e] [] pos) (qUn Bn pe):=Ej (fun z=>Os (hr z)) (fun G H x v R Q hf rx hw k=>by
 unfold Bn at hw;cases ed:dat x with
 | none=>rw [ed] at hw;exact hw.elim
 | some d =>
   rw [ed] at hw;obtain⟨h1,h2,h3,q⟩:=hw;refine⟨v,d,rfl,?_,h1,h2,h3,k _ _ _ q (Same.refl _) rfl⟩;rcases rx with rx | ⟨a,vs,xs,rfl,rfl,hv,rs⟩
   · exact JM x v d rx ed
   · rw [dat] at ed;cases es:dats xs with
     | none=>rw [es] at ed;cases ed
     | some ds=>rw [es] at ed;cases ed;exact⟨a,vs,rfl,hv,CF xs vs ds rs es⟩) hg hm bt_repr ha hs
end
end Pu
end
section
namespace HT
open PySem PySem.Spec PyProof.Rows
section
variable {prog:C5}{w:World}{A:Around}{E:Value->Shared->Prop}{s:Shared}
theorem Ot (n:Nat):BW none none (-1) (n:Int)=((n:Int) - 1,-1):=rfl
theorem Ou (n:Nat):o5 ((n:Int) - 1) (-1) (-1)=n:=by
 unfold o5;rw [if_neg (by decide)];have h1:(- -1:Int)=1:=by decide
 rw [h1]
 by_cases h:(n:Int) - 1 > -1
 · rw [if_pos h,Int.ediv_one];omega
 · rw [if_neg h];omega
theorem Ov {n:Nat}(hs:s.heap.IsSliceOf sl .none .none vk)(pk:IsPart vk (some (-1)))
   (h:Q ((n:Int) - 1,-1,n) s):wpAny (model prog w) A (DF (.ref sl) (pure (n:Int))) Q E s:=by
 obtain⟨os,hos,hcs,hds⟩:=id hs;unfold DF Ir;refine A0 (A0 (L3 hos hds (x:=.none) rfl (A0 (L3 hos hds (x:=.none) rfl (A0 (L3 hos hds (x:=vk) rfl (A5 ?_)))))));refine A0 (Cg pk ?_);show wpAny _ _ (if((-1:Int) == 0)=true then _ else _) _ _ s;rw [if_neg (by decide)];refine A0 (Cg .none (A0 (Cg .none (A0 (A5 ?_)))));show wpAny _ _ (match BW none none (-1) (n:Int) with | (lo,hi)=>pure (lo,(-1:Int),o5 lo hi (-1))) _ _ s;rw [Ot];show wpAny _ _ (pure ((n:Int) - 1,(-1:Int),o5 ((n:Int) - 1) (-1) (-1))) _ _ s;rw [Ou];exact A5 h
theorem Ow {α β:Type}{f g:α->Option β}:∀l:List α,(∀m∈l,f m=g m)->l.filterMap f=l.filterMap g:=by
 intro xq
 induction xq with
 | nil =>
   intro _;exact rfl
 | cons x l ih =>
   intro h;rw [BK,BK,h x B8,ih fun m hm=>h m (B3 _ hm)]
theorem Ox (xs:Array Value):((C2 xs.size).filterMap fun(m:Nat)=>xs[((xs.size:Int) - 1 + (m:Int) * -1).toNat]?).toArray=xs.toList.reverse.toArray:=by
 congr 1
 have e:(C2 xs.size).filterMap (fun(m:Nat)=>xs[((xs.size:Int) - 1 + (m:Int) * -1).toNat]?)=((C2 xs.size).map fun k=>xs.size - 1 - k).filterMap (xs[·]?):=by
   rw [List.filterMap_map];refine Ow _ fun m hm=>?_;have:=O2.mp hm;show _=xs[xs.size - 1 - m]?
   congr 1
   omega
 rw [e,PySem.W.krv_range,List.filterMap_reverse,PySem.W.krv_all]
theorem getItem_tuple_rev (ht:IsTup s.heap t items)(hs:s.heap.IsSliceOf sl .none .none vk)(pk:IsPart vk (some (-1)))
   (h:Q (.ref s.heap.objs.size) { s with heap:=s.heap.push { cls:=.type "tuple",data:=.seq items.toList.reverse.toArray } })
   (hsz:items.size<=B5):wpAny (model prog w) A (U4 (.ref t) (.ref sl)) Q E s:=by
 have htake:sizeOk (.seq items.toList.reverse.toArray):=by
   show items.toList.reverse.toArray.size<=B5;rw [E3,Az,T1];omega
 obtain⟨os,hos,hcs,hds⟩:=id hs;have hTs:s.TypeIs (.ref sl) "slice":=⟨os,hos,hcs⟩;unfold U4
 try with_reducible refine M7 ?_
 first | refine A0 (A5 ?_) | skip
 refine A0 (wpAny_sequenceKey ht.typeIs (by decide) ?_)
 refine A0 (l4 (name:=A3 "__getitem__") ht.typeIs AI
   (W0 AI ht.typeIs entry_tuple_getitem ?_ (args_tuple_getitem _ _)))
 show wpAny _ _ (FI (.ref t)>>=_) _ _ s;refine A0 (tupleItemsOf_ ht ?_);refine A0 (wpAny_typeOf hTs ?_);rw [if_pos (by decide)];refine A0 (Ov hs pk ?_)
 have hno:¬((((items.size:Int) - 1) == 0 && (-1:Int) == 1 && items.size == items.size)=true):=by
   intro q;rw [l9,l9] at q;exact absurd (eq_of_beq q.1.2) (by decide)
 show wpAny _ _ (if(((items.size:Int) - 1) == 0 && (-1:Int) == 1 && items.size == items.size)=true then _ else _) _ _ s;rw [if_neg hno,Ox]
 first
   | exact A0 (m:=o6 _) (O6 (A5 ⟨_,rfl,A5 h⟩) htake)
   | exact A0 (m:=o6 _) (O6 (A0 (A5 (A5 ⟨_,rfl,A5 h⟩))) htake)
   | exact A0 (A0 (m:=o6 _) (O6 (A5 (A5 ⟨_,rfl,A5 h⟩)) htake))
   | exact A0 (A0 (m:=o6 _) (O6 (A5 ⟨_,rfl,A5 h⟩) htake))
end
end HT
namespace L2
open PySem PySem.Spec PyProof.Rows
section
variable {X:Cx}{e st:Expr}{te:TE}{ts:TE}{pos p2:Pos}
def rRev (K:A4):V->Hp->VK->Prop:=fun x H Q=>∃a xs,x=.ref a/\((SqL K H a xs/\∀p,H p=none->Q (.ref p) (upd H p (.lst xs.reverse)))\/(SqT K H a xs/\∀p,H p=none->Q (.ref p) (upd H p (.tup xs.reverse))))
def tRev (K:A4)(te ts:TE):TE:=fun σ H Q=>te σ H fun x H1=>ts σ H1 fun y H2=>y=.int (-1)/\rRev K x H2 Q
theorem Vals.rev (r:Vals xs us):Vals xs.reverse us.reverse:=by
 induction r with
 | nil=>exact .nil
 | cons r1 _ ih =>
   rw [Z0,Z0];exact ih.append (.cons r1 .nil)
theorem pe_rev (he:PE X e te)(hs:PE X st ts):PE X (.Subscript e (.Slice none none (some st) p2) pos) (tRev X.K te ts):=by
 intro pins s σ H Q I h;refine Subscript_ (thn (he pins s σ H _ I h) fun v s1 ⟨x,H1,I1,r1,q1⟩=>?_);refine wpAny_Slice ?_;rw [evalPart_none];refine A5 (A5 ?_);rw [evalPart_some];refine thn (hs pins s1 σ H1 _ I1 q1) fun vk s3 ⟨y,H3,I3,ry,q3⟩=>?_;obtain⟨rfl,a,xs,rfl,q⟩:=q3;obtain⟨t,rfl⟩:=ry;obtain rfl:v=.ref a:=r1;have I4:Inv X pins σ H3 { s3 with heap:=s3.heap.push { cls:=.type "slice",data:=.fields #[.none,.none,.int (-1) t] } }:=I3.kept (t':=s3.toks) fun b ob q=>B7 _ q;show wpAny (model X.prog X.w) X.A (subscriptTail e (.Slice none none (some st) p2) (.ref a) (.ref s3.heap.objs.size)) (EP X pins σ Q) X.xe { s3 with heap:=s3.heap.push { cls:=.type "slice",data:=.fields #[.none,.none,.int (-1) t] } };rcases q with⟨hq,q⟩ | ⟨hq,q⟩
 · obtain⟨its,r,ht,hz⟩:=I4.list hq;refine tail_any (ops:=[.ref a,.ref s3.heap.objs.size]) ht.isList.typeIs slot_list_getitem.lookup ?_ (by with_unfolding_all rfl);refine wpAny_getItem_list_slice ht.isList (FP ..) .none .none (.int (-1) t) (by decide) ?_ (by rw [E3];have:=r.length;omega);rw [PySem.W.krv_pick];refine⟨.ref _,_,I4.laid (t':=s3.toks) (o:=.lst xs.reverse) (fun b ob q=>B7 _ q) (B4 _) ?_,rfl,q _ (I4.hok.fresh (B4 _))⟩;exact⟨by rw [Az];exact hz,its.reverse,0,r.rev,F3 _ rfl⟩
 · obtain⟨its,r,ht,hz⟩:=I4.tuple hq;refine tail_any (ops:=[.ref a,.ref s3.heap.objs.size]) ht.typeIs PyProof.Rows.slot_tuple_getitem.lookup ?_ (by with_unfolding_all rfl);refine HT.getItem_tuple_rev ht (FP ..) (.int (-1) t) ?_ (by rw [E3];have:=r.length;omega);refine⟨.ref _,_,I4.laid (t':=s3.toks) (o:=.tup xs.reverse) (fun b ob q=>B7 _ q) (B4 _) ?_,rfl,q _ (I4.hok.fresh (B4 _))⟩;exact⟨by rw [Az];exact hz,its.reverse,r.rev,X5.new _ _⟩
end
end L2
namespace Pu
open PySem PySem.Spec L2
section
variable {T:PotK}{ι:Type}{K:A4}{F:ι->Cx}{e:Expr}{pe:pE}{pos p2 p3 p4:Pos}
theorem Reps.rev:∀{xs:List PV} {vs:List V},Reps K G H xs vs->Reps K G H xs.reverse vs.reverse
 | [],vs,r=>by obtain rfl:vs=[]:=r;exact rfl
 | x :: xs, vs, r => by
   obtain⟨v,r',rfl,r1,r2⟩:=r;rw [Z0,Z0];exact(Reps.rev r2).append ⟨v,[],rfl,r1,rfl⟩
def wRev:w1:=fun x R=>match x with | .lst xs=>R (.lst xs.reverse) | .tup xs=>R (.tup xs.reverse) | _=>False
theorem qe_rev {i:Nat}(he:QR T K F e pe)(hK:∀z,(F z).K=K:=by intro _;rfl):QE T K F (.Subscript e (.Slice none none (some (.UnaryOp .USub (.Constant (.int 1) i p3) p4)) p2) pos) (qUn wRev pe):=by
 obtain⟨t,h1,h2⟩:=he;refine⟨_,fun z=>hK z▸pe_rev (h1 z) (FT FV K9),fun C G σ H env n R Q hK hT S hp k=>?_⟩;refine h2 C G σ H env n _ _ hK hT S hp fun x env1 n1 v H1 p1 S1 r1 f1=>?_;subst hK;have rx:=r1.rd S1;refine⟨1,rfl,rfl,?_⟩;unfold wRev at p1
 split at p1
 · obtain⟨a,vs,ev,hq,r⟩:=rx.lst;exact⟨a,vs,ev,.inl ⟨hq,fun p hn=>k _ _ _ _ _ p1 (S1.same (Same.lay1 hn)) (Co (S1.fresh hn) hn r.rev) (f1.trans (Fr.of (Same.lay1 hn)))⟩⟩
 · obtain⟨a,vs,ev,hq,r⟩:=rx.tup;exact⟨a,vs,ev,.inr ⟨hq,fun p hn=>k _ _ _ _ _ p1 (S1.same (Same.lay1 hn)) (y8 (S1.fresh hn) hn r.rev) (f1.trans (Fr.of (Same.lay1 hn)))⟩⟩
 grind
end
end Pu
end
section
namespace L2
open PySem PySem.Spec PyProof.Rows
def Itd (a:Int)(n:Nat):It:=⟨fun i _=>i < n,fun i H x H'=>H'=H/\x=.int (a - i),fun i _=>n<=i⟩
theorem Oy {K:A4}(it:Addr)(lo:Int)(n:Nat):Turn P w K tg (Itd lo n) [it] it (fun i h=>IsRangeIter h it (lo + (i:Nat) * -1) ((n:Int) - (i:Nat)) (-1)) where
 mem:=by simp
 obj:=fun i h st b hb=>by
   have e:b=it:=by simpa using hb
   subst e
   exact⟨_,st,fun v z=>by
     have z':Data.fields _=Data.cell v:=z
     cases z'⟩
 keep:=fun i h h' st k=>k it (by simp) _ st
 item:=by
   intro X hP hw hK hc i pins s σ H E I hf st hg;subst hP hw hK;obtain⟨f0,f1,f2,f3,f4,f5⟩:=hf it (by simp);have W:=Walks.range (prog:=X.prog) (w:=X.w) (I.ok.hd hc) it lo (-1) n;refine W.item i s _ _ hg st fun v h' tk hv st' kk=>?_;obtain⟨t,rfl⟩:=hv;have I1:Inv X pins σ H { s with heap:=h',toks:=tk }:=I.turned (fun b o hb e=>kk b o (by simpa using hb) e) f0 f1 f3 f4 f5;refine⟨_,rfl,DZ (s:={ s with heap:=h',toks:=tk }) (n:="range_iterator") st' rfl rfl (by decide) ⟨.int (lo - i),H,I1,⟨t,?_⟩,⟨rfl,rfl⟩,st',fun b hb=>(hf b hb).1⟩⟩;have e:lo + (i:Int) * -1=lo - i:=by omega
   rw [e]
 done:=by
   intro X hP hw hK hc i pins s σ H E I hf st hg;subst hP hw hK;obtain⟨f0,f1,f2,f3,f4,f5⟩:=hf it (by simp);exact wpAny_pyNext_range_end (I.ok.hd hc) st (by have:n<=i:=hg;omega) fun h' eb=>⟨rfl,I.turned (t':=s.toks) (fun b o hb e=>eb b o hb e) f0 f1 f3 f4 f5⟩
 self:=fun _ _ _ _ _ st h=>Fv st h
section
variable {X:Cx}{tg:Expr}
theorem JO (a b:Int):AK a b (-1)=if a > b then a - b else 0:=by
 unfold AK;rw [if_neg (by decide)];have h1:(- -1:Int)=1:=by decide
 rw [h1,Int.ediv_one]
 split <;> omega
theorem Oz {a b:Int}(ha:-1000000<=a)(ha':a<=1000000)(hb:-1000000<=b)(hb':b<=1000000):Builtin.Range.small a b (-1)=true:=by
 unfold Builtin.Range.small;rw [JO];simp only [o1,l9,Bool.or_eq_true,decide_eq_true_eq,beq_iff_eq,show ¬((-1:Int) > 0) by decide,if_false]
 split <;> omega
end
end L2
namespace Pu
open PySem PySem.Spec L2
section
variable {T:PotK}{ι:Type}{K:A4}{F:ι->Cx}{tg a b c:Expr}{pa pb pc:pE}{pos:Pos}
theorem OA {K:A4}{G:Gh}{H:Hp}(lo:Int)(m:Nat):ItR K G H (Itd lo m) ((C2 m).map fun(k:Nat)=>PV.int (lo - k)):=by
 intro G2 H2 hk hM hp hf;refine⟨fun i x e=>?_,fun i hi=>(show m<=i by simpa using hi)⟩;rw [F6] at e;cases e1:(C2 m)[i]? with
 | none=>rw [e1] at e;cases e
 | some j =>
   rw [e1] at e;cases e;obtain⟨hi,e2⟩:=D9.mp e1;rw [Dt] at e2;subst e2;refine⟨(show i < m by simpa using hi),fun v H3 y=>?_⟩;obtain⟨e3,y⟩:=y;subst e3 y;exact⟨Same.refl _,rfl⟩
def GP (pa pb:pE):pA:=fun env n R=>pa env n fun x env1 n1=>pb env1 n1 fun y env2 n2=>match x,y with | .int i,.int j=>(-1000000<=i/\i<=1000000/\-1000000<=j/\j<=1000000)/\R ((C2 (i - j).toNat).map fun(k:Nat)=>PV.int (i - k)) env2 n2 | _,_=>False
end
end Pu
end
section
namespace L2
open PySem PySem.Spec PyProof.Rows
theorem GQ:∀{ys:List Str} {us:List Value},Vals (ys.map V.str) us->StrsAre us ys
 | [],us,r=>by rw [i4] at r;cases r;exact .nil
 | y :: ys, us, r => by
   rw [J9] at r;cases r with
   | cons r1 r2 =>
     obtain⟨t,e⟩:=r1;subst e;exact .cons y t (GQ r2)
section
variable {X:Cx}
def JP (K:A4):V->List V->Hp->VK->Prop:=fun x vs H Q=>∃(l:Addr) (k:Str) (ys:List Str),x=.ref l/\vs=[.str k]/\SqL K H l (ys.map V.str)/\Q (.int (countIn (.str k) (ys.map PyData.str))) H
theorem OB:MtM X "list.count" (JP X.K):=by
 intro pins s σ H x vs v us Q I rx rv h;obtain⟨l,k,ys,rfl,rfl,hq,q⟩:=h;cases rx;obtain⟨u,rfl,ru⟩:=rv.one;obtain⟨t,rfl⟩:=ru;obtain⟨its,r,p,hz⟩:=I.list hq;exact count_list_strs p.isList (GQ r) ⟨.int _,H,I.tok _,⟨_,rfl⟩,q⟩
end
end L2
namespace Pu
open PySem PySem.Spec PyProof.Rows L2
section
variable {T:PotK}{ι:Type}{K:A4}{F:ι->Cx}{e c:Expr}{pe pc:pE}{pos:Pos}
def EA:w2:=fun x y R=>match x,y with | .lst xs,.str k=>(match T4 xs with | some ys=>R (.int (countIn (.str k) (ys.map PyData.str))) | none=>False) | _,_=>False
theorem OC {ap:Pos}(he:QE T K F e pe)(hc:QE T K F c pc)(hs:E5 c=true:=by rfl)(hbase:∀z,Y6 e "count" (F z).env (eval e (F z).env)=eval e (F z).env:=by intro _;rfl)(hline:(ap.endLine == pos.line)=true:=by rfl)
   (hfew:∀z,((backTo pos (D6 [c] (F z).env)).all (fun x=>!x.1) && (W5 pos (W3 [] (F z).env)).all (fun x=>x.1.isSome) && decide (([c]:List Expr).length + ([]:List O1).length + (if([]:List O1).isEmpty then 0 else 1) < 30))=true:=by intro _;rfl) (hK:∀z,(F z).K=K:=by intro _;rfl):QE T K F (.Call (.Attribute e "count" ap) [c] [] pos) (fun env n R=>pe env n fun x env1 n1=>(∃xs,x=.lst xs)/\pc env1 n1 fun y env2 n2=>EA x y fun z=>R z env2 n2):=by
 obtain⟨t,a1,a2⟩:=he;obtain⟨u,b1,b2⟩:=hc;refine⟨tBM K "list" (JP K) t (V0 u tNil),fun z=>hK z▸Ci BY PySem.F.slot_list_count PySem.F.type_list_count OB (a1 z) (E9 (b1 z) G7 (C8 hs)) (hbase z) (hfew z) hline (C8 hs),fun C G σ H env n R Q hK hT S hp k=>?_⟩;refine a2 C G σ H env n _ _ hK hT S hp fun x env1 n1 v H1 q1 S1 r1 f1=>?_;obtain⟨⟨xs,rfl⟩,q1⟩:=q1;obtain⟨a,vs,rfl,ta,ra⟩:=r1;refine⟨.inl ⟨rfl,vs,SqL.of ta.2⟩,?_⟩;refine b2 C G σ H1 env1 n1 _ _ hK hT S1 q1 fun y env2 n2 w H2 q2 S2 r2 f2=>?_;unfold EA at q2
 split at q2
 · rename_i xs' kk e1;cases e1
   split at q2
   · rename_i ys ey;obtain⟨a',vs',e3,ta',ra'⟩:=(show Rep K G H1 (.lst xs) (.ref a) from⟨a,vs,rfl,ta,ra⟩).fr f2;cases e3;exact⟨a,kk,ys,rfl,by rw [show w=.str kk from r2],Eu ey ra'▸SqL.of ta'.2,k _ _ _ _ _ q2 S2 rfl (f1.trans f2)⟩
   · exact q2.elim
 · exact q2.elim
end
end Pu
namespace Pu
def JQ (pe pc:pE):pE:=fun env n R=>pe env n fun x env1 n1=>(∃xs,x=.lst xs)/\pc env1 n1 fun y env2 n2=>EA x y fun z=>R z env2 n2
end Pu
end
section
namespace L2
open PySem PySem.Spec PyProof.Rows
theorem OD {X:Cx}{scope:Scope}{cl:List (Str×Addr)}{N:List Str}{cs:List (Option Nat)}{elt tg iter:Expr}{ifs:List Expr}{pos spos py:Pos}{wi:TI}{g:TG}{tt:TT}{te:TE}{i:Nat}{y:Str}(hN:X.N.Nodup)(hiy:X.N[i]?=some y)(hy:Loc X.env.scope y)(S:X8 X scope cl N cs)(hc:X.calm=true)(hi:PI X tg iter wi)
   (hb:∀(fp:List Addr) (C:Addr) (s:Shared) (H:Hp),PG (D3 X scope cl N fp C s H) tg g/\PIf (D3 X scope cl N fp C s H) ifs tt/\PE (D3 X scope cl N fp C s H) elt te)
   (hsw:Y7 (.ListComp elt [⟨tg,iter,ifs,0⟩] scope pos) (some (.Name y py)) spos.line X.env=pure true:=by rfl)
   (hs:∀x,P1 iter X.env x=pure x:=by intro _;rfl) (hff:X.fn y=true\/X.env.scope.names.lookup y=some .local:=by first | exact .inl rfl | exact .inr rfl | assumption) :
   PS X (.Assign [.Name y py] (.ListComp elt [⟨tg,iter,ifs,0⟩] scope pos) spos) (tAsg (tComp cs wi g tt te) (K6 i)):=by
 have bn:∀(M:Model) (A:Around) (v:Value) (Q:Unit->Shared->Prop) (E:Value->Shared->Prop) (s:Shared),wpAny M A (storeName X.env y v) Q E s->wpAny M A (assign (.Name y py) X.env v) Q E s:=fun M A v Q E s h=>wpAny_assign_Name h;intro pins s σ H DD I h;rw [exec_Assign_Name_used _ _ _ _ hsw];refine A0 (U2 (A0 ?_));show wpAny _ _ (do let _ ← comprehension (.ListComp elt [⟨tg,iter,ifs,0⟩] scope pos) scope X.env _ (newList []) false (eval iter X.env) (some (assign (.Name y py) X.env))) _ _ s;refine A0 (E7 (Q:=fun _ s'=>SP X pins DD .next s') ?_ (fun _ s' hq=>A5 (A5 hq)) fun _ _ e=>e);refine Df (use:=some (assign (.Name y py) X.env)) rfl hs S.clos S.kind S.names (thn (hi pins s σ H _ I h) fun v s1 h1=>thn h1 fun itv s2 h2=>?_);obtain⟨it,fp,tn,J,H2,rfl,I2,T,st2,f2,q⟩:=h2
 have ho:∀b∈fp,∃o,s2.heap.get? b=some o:=fun b hb=>by
   obtain⟨o,e,_⟩:=T.obj 0 _ st2 b hb;exact⟨o,e⟩
 refine O6 (BC S.nocell (by intro y hy;simp at hy) (fun h₁ hns₁ hsb₁=>?_) S.kind);dsimp only at hns₁ hsb₁ ⊢;have hC:(s2.heap.push { cls:=.type "list",dict:=none,data:=.seq ([]:List Value).toArray }).objs.size=s2.heap.objs.size + 1:=by rw [U6]
 generalize hH2:s2.heap.push { cls:=.type "list",dict:=none,data:=.seq ([]:List Value).toArray }=hp2 at hns₁ hsb₁ hC ⊢;have old:∀b o,s2.heap.get? b=some o->h₁.get? b=some o:=fun b o e=>hsb₁.extBut b o (by rw [hC];exact C3 (O3 (C0 e))) (B7 _ (hH2▸B7 _ e));have hD:h₁.get? s2.heap.objs.size=some { cls:=.type "list",data:=.seq ([]:List Value).toArray }:=hsb₁.extBut _ _ (by rw [hC];exact C3 (BP _)) (B7 _ (hH2▸F3 _ rfl));rw [hC] at hns₁ ⊢;obtain⟨W,⟨m0,w0⟩,turn⟩:=q s2.heap.objs.size I2.fresh;have Ic:=Gi S (tk:=s2.toks + ([]:List (Str×Value)).length) I2 f2 ho old hns₁ hD;have nstk:∀b,b≠X.env.locals->b∉X.fs->b∉frs X.stack:=fun b h1 h2 hb=>(B6.mp (I2.stkSub b hb)).elim h1 h2
 have stat:∀{H':Hp},(∀b∈fp,H' b=none)->∀b∈fp,FpOk (D3 X scope cl N fp (s2.heap.objs.size + 1) s2 H2) pins H' b:=fun hn b hb=>by
   obtain⟨o,e⟩:=ho b hb;exact⟨hn b hb,C3 (O3 (C0 e)),nstk b (f2 b hb).2.1 (f2 b hb).2.2.1,.inl hb,fun x c ec=>(f2 b hb).2.2.2.2.1 x c (S.sub x c ec),(f2 b hb).2.2.2.2.2⟩
 obtain⟨hg,hf,he⟩:=hb fp (s2.heap.objs.size + 1) s2 H2;have st1:tn 0 h₁:=T.keep _ _ _ st2 fun b hb o e=>old b o e
 have fr1:∀b∈fp,upd H2 s2.heap.objs.size (.lst []) b=none:=fun b hb=>by
   obtain⟨o,e⟩:=ho b hb;rw [A7 (C3 (C0 e))];exact(f2 b hb).1
 have loop:∀s₃:Shared,s₃={ s2 with heap:=h₁,toks:=s2.toks + ([]:List (Str×Value)).length }->
     M9 (model X.prog X.w) X.A (.compLoop (.ListComp elt [⟨tg,iter,ifs,0⟩] scope pos) 0 (.ref it) (.ref s2.heap.objs.size) (compEnvC scope cl (s2.heap.objs.size + 1) X.env))
       (compPost (model X.prog X.w) X.A X.xe (some (assign (.Name y py) X.env)) (fun _ s'=>SP X pins DD .next s') (.ref s2.heap.objs.size) (s2.heap.objs.size + 1)) s₃:=by
   rintro s₃ rfl;refine IV _ (Gk (Y:=D3 X scope cl N fp (s2.heap.objs.size + 1) s2 H2) T hc stat hg hf he (fun s4 σ3 H3 I4 qn=>?_) turn) m0 ⟨0,_,_,Ic,st1,fr1,w0⟩;obtain⟨m4,hn4,_⟩:=I4.loc;have I5:Inv X pins σ H3 s4:=Inv.uncomp (h':=s4.heap) I2 f2 I4 fun b hb=>rfl;have oldne:∀b o,s2.heap.get? b=some o->b≠s2.heap.objs.size + 1:=fun b o e=>C3 (O3 (C0 e));have locne:X.env.locals≠s2.heap.objs.size + 1:=C3 (O3 I2.lt)
   have cellne:∀x c,X.env.cells.lookup x=some c->c≠s2.heap.objs.size + 1:=fun x c e=>by
     obtain⟨v,o,h1,_⟩:=I2.cell x c e;exact oldne c o h1
   refine bn _ _ _ _ _ _ (Iw I5 hN hiy hy (v:=.ref s2.heap.objs.size) rfl (fun s6 I6 ⟨a6,sb6,ha6⟩=>?_) hff)
   have ane:s2.heap.objs.size + 1≠a6:=by
     rcases ha6 with rfl | ha6
     · exact Ne.symm locne
     · exact Ne.symm (cellne _ _ ha6)
   refine⟨m4,hn4.sameBut sb6 ane,fun h' hs'=>⟨_,H3,?_,qn⟩⟩;have hs7:∀b,b≠s2.heap.objs.size + 1->h'.get? b=s6.heap.get? b:=fun b hb=>hs'.2 b hb;have U0:Un (frs X.stack) [s2.heap.objs.size + 1] H3 H3 s6.heap s6.heap:=Un.refl
   have trC:∀b u,H3 b=some u->b≠s2.heap.objs.size + 1:=fun b u e z=>by
     have q:H3 (s2.heap.objs.size + 1)=none:=I4.free;rw [z,q] at e;cases e
   obtain⟨hh6,g6,d6,t6,os6⟩:=s6;refine I6.call (h':=h') (g':=g6) (d':=d6) (t':=t6) (ch:=[s2.heap.objs.size + 1]) ⟨fun b o e n hb hx=>?_,fun b o e n hb hx=>?_,U0.free,fun b o e hx=>?_,U0.tups,U0.frzs,U0.tbls,U0.sys⟩ (fun b u e=>?_) I6.bare fun b hb=>?_
   · have hb':b≠s2.heap.objs.size + 1:=fun z=>hx (by rw [z];exact J8.mpr rfl);rw [hs7 b hb'];exact U0.keep b o e n hb hx
   · have hb':b≠s2.heap.objs.size + 1:=fun z=>hx (by rw [z];exact J8.mpr rfl);rw [hs7 b hb'];exact U0.slot b o e n hb hx
   · have hb':b≠s2.heap.objs.size + 1:=fun z=>hx (by rw [z];exact J8.mpr rfl);rw [hs7 b hb'];exact U0.there b o e hx
   · refine(I6.hok b u e).stay (fun c v hc q=>?_) (fun _ q=>q) fun _ _ q=>q
     have ne:c≠s2.heap.objs.size + 1:=by
       rcases hc with z | z
       · rw [z];exact trC b u e
       · exact trC c _ z
     rw [hs7 c ne];exact q
   · rw [J8.mp hb];refine⟨.inr (Dz I2.sz),Ne.symm locne,cellne,fun p hp=>?_⟩;exact oldne _ _ (I2.pin p hp).1
 exact Fw (loop _ rfl) (T.self _ 0 _ _ _ st1 (loop _ rfl))
end L2
namespace Pu
open PySem PySem.Spec L2
def SwOk (X:Cx)(e:Expr)(t:TE):Prop:=∀(i:Nat) (y:Str) (py spos:Pos),X.N.Nodup->X.N[i]?=some y->Loc X.env.scope y->Y7 e (some (.Name y py)) spos.line X.env=pure true->(X.fn y=true\/X.env.scope.names.lookup y=some .local)->PS X (.Assign [.Name y py] e spos) (tAsg t (K6 i))
def QNC {ι:Type}(T:PotK)(K:A4)(F:ι->Cx)(e:Expr)(pn:pA):Prop:=∃t,(∀z,PE (F z) e t)/\(∀z,SwOk (F z) e t)/\NOk K T t pn
section
variable {T:PotK}{np:Bool}{ι:Type}{K:A4}{F:ι->Cx}{e:Expr}{pl:pA}{pg:pG}{pos:Pos}
theorem GR {scope:Scope}{cl:ι->List (Str×Addr)}{N:List Str}{cs:List (Option Nat)}{elt tg iter:Expr}{ifs:List Expr}{pi:pA}{ptt:pT}{pte:pE}(S:∀z,X8 (F z) scope (cl z) N cs)(hc:∀z,(F z).calm=true)(hi:QI T K F tg iter pi)
   (hg:QG K (fun y:ι×List Addr×Addr×Shared×Hp=>D3 (F y.1) scope (cl y.1) N y.2.1 y.2.2.1 y.2.2.2.1 y.2.2.2.2) tg pg) (ht:QIf T K (fun y:ι×List Addr×Addr×Shared×Hp=>D3 (F y.1) scope (cl y.1) N y.2.1 y.2.2.1 y.2.2.2.1 y.2.2.2.2) ifs ptt)
   (he:QE T K (fun y:ι×List Addr×Addr×Shared×Hp=>D3 (F y.1) scope (cl y.1) N y.2.1 y.2.2.1 y.2.2.2.1 y.2.2.2.2) elt pte)
   (hs:∀z x,P1 iter (F z).env x=pure x:=by intro _ _;rfl):QNC T K F (.ListComp elt [⟨tg,iter,ifs,0⟩] scope pos) (V4 cs pi pg ptt pte):=by
 obtain⟨wi,i1,i2⟩:=hi;obtain⟨g,hg0,hg⟩:=hg;obtain⟨tt,ht0,ht⟩:=ht;obtain⟨te,he0,he⟩:=he;refine⟨_,fun z=>IX (S z) (hc z) (i1 z) (fun fp C s H=>⟨hg0 (z,fp,C,s,H),ht0 (z,fp,C,s,H),he0 (z,fp,C,s,H)⟩) (hs z),fun z i y py spos hN hi hy hsw hf=>OD hN hi hy (S z) (hc z) (i1 z) (fun fp C s H=>⟨hg0 (z,fp,C,s,H),ht0 (z,fp,C,s,H),he0 (z,fp,C,s,H)⟩) hsw (hs z) hf,fun C G σ H env n R Q hK hT S hp k=>?_⟩;refine i2 C G σ H env n _ _ hK hT S hp fun xs env1 n1 J H1 p1 S1 f1 hJ=>?_;intro D hD;have hDM:=S1.fresh hD;refine Jt (G:=G) hg ht he hJ p1.1 hD (hT▸hK▸Em S1 cs) p1.2 fun ys n2 us H' rr hpots hk eD ry=>?_
 -- the heap without D
 have nD:∀b o,H1 b=some o->b≠D:=fun b o e z=>by rw [z,hD] at e;cases e
 have hD0:C.H0 D=none:=by
   cases z:C.H0 D with
   | none=>rfl
   | some o =>
     by_cases hp:D∈C.pots0
     · exact absurd (S1.sup D (S1.p0.1 D hp)) hDM
     · have:=S1.frame D o hp z;rw [hD] at this;cases this
 have hk2:∀b o,b∉G.pots->H1 b=some o->cutH H' D b=some o:=fun b o hb e=>by rw [T6 (nD b o e)];exact hk b o hb e
 have nc:∀b,b∉D::G.M->b≠D:=fun b hb z=>hb (by rw [z];exact B8);have np:∀p∈G.pots,p≠D:=fun p hp z=>hDM (z▸(S1.pots p hp).1)
 have Sb:SR C G σ (cutH H' D) env1 n2:=S1.call hk2 fun p hp=>by
   subst hT;have h2:=C.T.keep (hpots p hp) (H':=cutH H' D) (T6 (np p hp)) fun b o hb e=>by rw [T6 (nc b hb)];exact e
   exact C.T.more h2 fun a ha=>.inl (B3 _ ha)
 have:=k ys env1 n2 D us (cutH H' D) rr Sb (f1.trans fun b o hb e=>hk2 b o (fun z=>hb (S1.pots b z).1) e) (by unfold cutH;rw [if_pos rfl]) ?_
 · rw [Gx eD] at this;exact this
 · exact Reps.mono (G:=⟨D::G.M,G.pots⟩) (fun b o hb e=>by rw [T6 (nc b hb)];exact e) (fun a ha=>.inl (B3 _ ha)) (fun _ _ e=>e) _ _ ry
theorem GS (i:Nat){y:Str}{py spos:Pos}(h:QNC T K F e pl)(hN:∀z,(F z).N.Nodup)(hi:∀z,(F z).N[i]?=some y)(hy:∀z,Loc (F z).env.scope y)(hsw:∀z,Y7 e (some (.Name y py)) spos.line (F z).env=pure true:=by intro _;rfl)(hf:∀z,(F z).fn y=true\/(F z).env.scope.names.lookup y=some .local:=by intro _;first | exact .inl rfl | exact .inr rfl):QS T np K F (.Assign [.Name y py] e spos) (qSet i (qL pl)):=by
 obtain⟨t,a1,a3,a2⟩:=h
 have he:EOk K T t (qL pl):=fun C G σ H env n R Q hK hT S hp k=>by
   refine a2 C G σ H env n _ _ hK hT S hp fun xs env1 n1 a vs Hb p1 S1 f1 hn r1=>?_;exact k _ _ _ _ _ p1 (S1.same (Same.lay1 hn)) (Co (S1.fresh hn) hn r1) (f1.trans (Fr.of (Same.lay1 hn)))
 refine⟨_,fun z=>a3 z i y py spos (hN z) (hi z) (hy z) (hsw z) (hf z),fun C G σ H env n PD D hK hT hn S hp L=>?_⟩;refine he C G σ H env n _ _ hK hT S hp fun x env1 n1 v H1 q1 S1 r1 f1=>?_;exact L.nx _ _ _ _ _ q1 (S1.set i (hK▸r1)) (Ext.fr f1)
end
end Pu
end
section
namespace Pu
open PySem PySem.Spec L2
def shK:Key->Prop
 | .inl i=>i.natAbs < 10 ^ 60
 | .inr x=>∀c∈x.cps.toList,c < 16 ^ 8
def CG:Key->Nat
 | .inl _=>61
 | .inr x=>10 * x.length + 2
mutual
def shw:PV->Prop
 | .non=>True
 | .bl _=>True
 | .int i=>i.natAbs < 10 ^ 60
 | .str x=>∀c∈x.cps.toList,c < 16 ^ 8
 | .tup xs=>shws xs
 | .lst xs=>shws xs
 | .dct ks xs=>(∀k∈ks,shK k)/\shws xs
 | _=>False
def shws:List PV->Prop
 | []=>True
 | x::xs=>shw x/\shws xs
end
mutual
def cost:PV->Nat
 | .non=>4
 | .bl _=>5
 | .int _=>61
 | .str x=>10 * x.length + 2
 | .tup xs=>c6 xs + 3
 | .lst xs=>c6 xs + 3
 | .dct ks xs=>(ks.map fun k=>CG k + 4).sum + c6 xs + 3
 | _=>0
def c6:List PV->Nat
 | []=>0
 | x::xs=>cost x + 2 + c6 xs
end
mutual
def dep:PV->Nat
 | .tup xs=>deps xs + 1
 | .lst xs=>deps xs + 1
 | .dct _ xs=>deps xs + 1
 | _=>0
def deps:List PV->Nat
 | []=>0
 | x::xs=>max (dep x) (deps xs)
end
theorem JR {i:Int}(h:i.natAbs < 10 ^ 60):(A3 (toString i)).length<=61:=by
 have e:=int_text_length_le10 (k:=60) (by decide) h;rw [ofString_length];omega
theorem JS {i:Int}(h:i.natAbs < 10 ^ 60):i.natAbs.log2 < 1920:=by
 by_cases h0:i.natAbs=0
 · simp_all
 · exact(Nat.log2_lt h0).mpr (Nat.lt_trans h (by grind))
theorem key_ok {k:Key}(h:shK k):(keyD k).showable=true/\(keyD k).depth=0/\(keyD k).shown.length<=CG k:=by
 cases k with
 | inl i=>exact⟨by simpa [keyD,Z7] using JS h,by simp [keyD,i8],by simpa [keyD,i9,CG] using JR h⟩
 | inr x=>exact⟨by simp [keyD,Z7],by simp [keyD,i8],by simpa [keyD,i9,CG] using StrLaws.reprText_len x h⟩
theorem kv_ok:∀(ks:List Key) (ds:List PyData),(∀k∈ks,shK k)->AN ds=true->DG ((ks.map keyD).zip ds)=true/\DI ((ks.map keyD).zip ds)<=BX ds/\((AO ((ks.map keyD).zip ds)).map (·.length)).sum + 2 * (AO ((ks.map keyD).zip ds)).length<=(ks.map fun k=>CG k + 4).sum + ((w8 ds).map (·.length)).sum + 2 * ds.length
 | [],ds,_,_=>by simp [DG,DI,AO]
 | k::ks,[],_,_=>by simp [DG,DI,AO]
 | k :: ks, d :: ds, hk, hd => by
   have hd':d.showable=true/\AN ds=true:=by simpa [AN] using hd
   obtain⟨h1,h2,h3⟩:=kv_ok ks ds (fun x hx=>hk x (B3 _ hx)) hd'.2;obtain⟨g1,g2,g3⟩:=key_ok (hk k B8);refine⟨?_,?_,?_⟩
   · simp [DG,g1,hd'.1,h1]
   · simp only [J9,X0,DI,BX,g2];omega
   · simp only [J9,X0,AO,w8,List.sum_cons,E8];rw [strLen_append,strLen_append];have:(A3 ": ").length=2:=rfl;omega
theorem OE (ps:List Str):(dictText ps).length<=(ps.map (·.length)).sum + 2 * ps.length + 3:=by
 have h:(Str.join ", " ps).length<=(ps.map (·.length)).sum + ps.length * 2:=StrLaws.join_length_le ", " ps
 have e:(dictText ps).length=1 + (Str.join ", " ps).length + 1:=by
   unfold dictText;rw [strLen_append,strLen_append];rfl
 omega
mutual
theorem JT:∀(x:PV),shw x->∃d,dat x=some d/\d.showable=true/\d.depth<=dep x/\d.shown.length<=cost x
 | .non,_=>⟨_,rfl,by simp [Z7],by simp [i8],by simp only [i9,cost];decide⟩
 | .bl b,_=>⟨_,rfl,by simp [Z7],by simp [i8],by simp only [i9,cost];cases b <;> decide⟩
 | .int i,h=>⟨_,rfl,by simpa [Z7] using JS h,by simp [i8],by simpa [i9,cost] using JR h⟩
 | .str x,h=>⟨_,rfl,by simp [Z7],by simp [i8],by simpa [i9,cost] using StrLaws.reprText_len x h⟩
 | .tup xs, h => by
   obtain⟨ds,e,h1,h2,h3,h4⟩:=EB xs h;refine⟨.tuple ds,by rw [dat,e],by simpa [Z7] using h1,by simp only [i8,dep];omega,?_⟩;have:=tupleText_len_le (w8 ds);have e2:=PyData.shownAll_length ds;simp only [i9,cost];omega
 | .lst xs, h => by
   obtain⟨ds,e,h1,h2,h3,h4⟩:=EB xs h;refine⟨.list ds,by rw [dat,e],by simpa [Z7] using h1,by simp only [i8,dep];omega,?_⟩;have:=listText_len_le (w8 ds);have e2:=PyData.shownAll_length ds;simp only [i9,cost];omega
 | .dct ks xs, h => by
   have h':(∀k∈ks,shK k)/\shws xs:=h;obtain⟨ds,e,h1,h2,h3,h4⟩:=EB xs h'.2;obtain⟨g1,g2,g3⟩:=kv_ok ks ds h'.1 h1;refine⟨.dict ((ks.map keyD).zip ds),by rw [dat,e],by simpa [Z7] using g1,by simp only [i8,dep];omega,?_⟩;have:=OE (AO ((ks.map keyD).zip ds));simp only [i9,cost];omega
 | .ty _,h=>h.elim
 | .pot _,h=>h.elim
 | .scr _,h=>h.elim
 | .fdt _ _,h=>h.elim
theorem EB:∀(xs:List PV),shws xs->∃ds,dats xs=some ds/\AN ds=true/\BX ds<=deps xs/\ds.length=xs.length/\((w8 ds).map (·.length)).sum + 2 * ds.length<=c6 xs
 | [],_=>⟨[],rfl,by simp [AN],by simp [BX],rfl,by simp [w8,c6]⟩
 | x :: xs, h => by
   have h':shw x/\shws xs:=h;obtain⟨d,e,a1,a2,a3⟩:=JT x h'.1;obtain⟨ds,e2,b1,b2,b3,b4⟩:=EB xs h'.2;refine⟨d::ds,by rw [dats,e,e2],by simp [AN,a1,b1],by simp only [BX,deps];omega,by simp [b3],?_⟩;simp only [w8,c6,J9,List.sum_cons,E8];omega
end
def JU (x:PV):Str:=match dat x with | some d=>d.shown | none=>A3 ""
theorem JV {x:PV}{R:PV->Prop}(h:shw x)(h1:dep x<=40)(h2:cost x<=10000000)(q:R (.str (JU x))):Bn x R:=by
 obtain⟨d,e,a1,a2,a3⟩:=JT x h;unfold Bn JU at *;rw [e] at q ⊢;exact⟨a1,by omega,by unfold B5;omega,q⟩
theorem OF:∀(xs:List PV),(∀x∈xs,shw x)->shws xs:=by
 intro xq
 induction xq with
 | nil =>
   intro _;exact trivial
 | cons x xs ih =>
   intro h;exact⟨h x B8,ih fun y hy=>h y (B3 _ hy)⟩
theorem OG (k:Nat):∀(xs:List PV),(∀x∈xs,dep x<=k)->deps xs<=k:=by
 intro xq
 induction xq with
 | nil =>
   intro _;exact J6 _
 | cons x xs ih =>
   intro h;have:=h x B8;have:=ih fun y hy=>h y (B3 _ hy);simp only [deps];omega
theorem OH (k:Nat):∀(xs:List PV),(∀x∈xs,cost x<=k)->c6 xs<=(k + 2) * xs.length:=by
 intro xq
 induction xq with
 | nil =>
   intro _;exact J6 _
 | cons x xs ih =>
   intro h;have h1:=h x B8;have h2:=ih fun y hy=>h y (B3 _ hy);simp only [c6,E8,Nat.mul_succ];omega
end Pu
end
section
namespace L2
open PySem PySem.Spec PyProof.Rows
def met (val:Nat->Key):Nat->List Key
 | 0=>[]
 | i + 1=>if(met val i).any (fun y=>decide (y=val i)) then met val i else met val i++[val i]
theorem met_le (val:Nat->Key):∀i,(met val i).length<=i:=by
 intro xq
 induction xq with
 | zero =>
   exact B4 _
 | succ i ih =>
   have:=ih;unfold met
   split
   · omega
   · rw [E1,W9];omega
theorem OI (val:Nat->Key)(i:Nat)(k:Key):(met val (i + 1)).any (fun y=>decide (y=k))=((met val i).any (fun y=>decide (y=k)) || decide (k=val i)):=by
 show(if(met val i).any (fun y=>decide (y=val i)) then met val i else met val i++[val i]).any (fun y=>decide (y=k))=_
 by_cases hk:k=val i
 · subst hk;rw [decide_eq_true rfl,Bool.or_true]
   split
   · assumption
   · rw [List.any_append];simp
 · rw [decide_eq_false hk,BV]
   split
   · rfl
   · rw [List.any_append]
     have:([val i].any (fun y=>decide (y=k)))=false:=by
       rw [List.any_cons,List.any_nil,BV];exact decide_eq_false (Ne.symm hk)
     rw [this,BV]
theorem OJ (val:Nat->Key)(i:Nat):(met val (i + 1)).length=if(met val i).any (fun y=>decide (y=val i)) then(met val i).length else(met val i).length + 1:=by
 show(if(met val i).any (fun y=>decide (y=val i)) then met val i else met val i++[val i]).length=_
 split
 · rfl
 · rw [E1,W9]
section
variable {prog:C5}{w:World}{A:Around}{R:Result->Shared->Prop}{I:Addr}{fp wr:List Addr}{G:Array GenState->Array GenState->Prop}{n:Nat}{P:Nat->Value->Prop}{St:Nat->Shared->Prop}
theorem OL (Wk:WalksS prog w A.in1 I fp wr G n P St)(S:Addr)(nf:S∉fp)(val:Nat->Key)(hv:∀i v,P i v->(F2 prog w).is (val i) v=true/\v.scannable=true)(room:n + 1 < scanBound) :
   ∀ (k i : Nat) (s : Shared), n - i = k -> i <= n -> St i s -> s.heap.SetOf (F2 prog w) S (fun q => (met val i).any (fun y => decide (y = q))) (met val i).length ->
     (∀s',Moved (S::wr) G s s'->s'.heap.SetOf (F2 prog w) S (fun q=>(met val n).any (fun y=>decide (y=q))) (met val n).length->R (.ok (.ret .none)) s')->
     M9 (model prog w) A (.builtin "set.update.loop" ⟨[.ref S,.ref I],[]⟩) R s:=by
 have nw:S∉wr:=fun h=>nf (Wk.sub _ h);have sub:∀b∈wr,b∈S::wr:=fun b hb=>B3 _ hb;intro k
 induction k with
 | zero =>
   intro i s hk hi st so fin;have ei:i=n:=by omega
   subst ei;refine BE F.entry_set_update_loop ?_;rw [DS FO _];refine A0 (m:=pyNext (.ref I)) (Wk.done s _ _ st fun s' mv=>?_);refine A5 (fin s' (mv.mono sub) ?_);obtain⟨o,es,ep,t,ho,more⟩:=so;exact⟨o,es,ep,t,mv.heap S _ nw ho,more⟩
 | succ k ih =>
   intro i s hk hi st so fin;have lt:i < n:=by omega
   refine BE F.entry_set_update_loop ?_;rw [DS FO _];refine A0 (m:=pyNext (.ref I)) (Wk.item i s _ _ lt st fun v s' pv' st' mv=>?_);obtain⟨kv,sc⟩:=hv i v pv'
   have so':s'.heap.SetOf (F2 prog w) S (fun q=>(met val i).any (fun y=>decide (y=q))) (met val i).length:=by
     obtain⟨o,es,ep,t,ho,more⟩:=so;exact⟨o,es,ep,t,mv.heap S _ nw ho,more⟩
   refine A0 (m:=Y8 [v] (setAdd S v)) (M7 ?_);unfold setAdd;refine M7 (A0 ((F2 prog w).pyHash (k:=val i) kv ?_));have rm:(met val i).length + 1 < scanBound:=by have:=met_le val i;omega
   refine wpAny_setAddHashed_of (knd:=F2 prog w) (s:={ s' with toks:=s'.toks + 1 }) kv sc so' rm fun h' sb so2=>?_
   have so3:h'.SetOf (F2 prog w) S (fun q=>(met val (i + 1)).any (fun y=>decide (y=q))) (met val (i + 1)).length:=by
     have e1:(fun q=>(met val i).any (fun y=>decide (y=q)) || decide (q=val i))=fun q=>(met val (i + 1)).any (fun y=>decide (y=q)):=funext fun q=>(OI val i q).symm;rw [OJ,<- e1];exact so2
   refine A5 ⟨plainId_quiet FO _,ih (i + 1) _ (by omega) lt (Wk.frame _ s' _ _ st' (Z3 _) fun b hb o e=>?_) so3 fun s2 mv2 so4=>?_⟩
   · rw [sb.2 b (fun z:b=S=>nf (by rw [<- z];exact hb))];exact e
   · refine fin s2 (Moved.trans Wk.gtrans ((mv.mono sub).then_heap (Z3 _) fun b o hb e=>?_) mv2) so4;rw [sb.2 b (fun z:b=S=>hb (by rw [z];exact B8))];exact e
end
section
variable {prog:C5}{w:World}{A:Around}{E:Value->Shared->Prop}{s:Shared}
theorem OM:isSubtype (.type "tuple") (.type "set")=pure false:=by rw [BF] <;> kernel_rfl
theorem ON:isSubtype (.type "tuple") (.type "frozenset")=pure false:=by rw [BF] <;> kernel_rfl
theorem OP:isSubtype (.type "list") (.type "set")=pure false:=by rw [BF] <;> kernel_rfl
theorem OQ:isSubtype (.type "list") (.type "frozenset")=pure false:=by rw [BF] <;> kernel_rfl
theorem OR (x:Value){Q₁:Value->Shared->Prop}
   (h:∀led:Bool,led=(!(w.params.followText "set-order"))->Q₁ (.ref s.heap.objs.size) { s with heap:=s.heap.push { cls:=.type "set",dict:=none,data:=.set #[] 0 (.fresh 0 0 led) } }) :
   M9 (model prog w) A (.call (.builtin "set.__new__") ⟨[.type "set",x],[]⟩) (wants Q₁ E) s:=by
 refine Dm (show wpAny (model prog w) A.in1 (checkBuiltinCall "set.__new__" ⟨[.type "set",x],[]⟩>>=fun _=>again (.builtin "set.__new__" ⟨[.type "set",x],[]⟩)) _ _ s from ?_);refine A0 (R3 (F.newCall_set_1 x) (A5 ⟨plainId_quiet F.plain_set_new _,BE F.entry_set_new ?_⟩));rw [DS F.plain_set_new _];unfold R5.«set.__new__» Builtin.Frozenset.newClass;have ss:=sub_set_self;obtain⟨hp,gs,dr,tk,sy⟩:=s;dsimp only
 wp_walk
 refine wpAny_askSetting (A5 ?_);dsimp only;unfold newObj;refine A0 (wpAny_alloc (A5 (A5 (h _ ?_))))
 first | rfl | simp
abbrev soN (led:Bool):Obj:={ cls:=.type "set",dict:=none,data:=.set #[] 0 (.fresh 0 0 led) }
theorem OS {a:Addr}{its:Array Value}{Z:Heap->Prop}{Q:Value->Shared->Prop}(hd:A.handled=none)(ht:s.heap.IsList a its\/s.heap.IsTuple a its)
   (lp:∀(I:Addr) (St:Nat->Shared->Prop) (fp:List Addr) (G:Array GenState->Array GenState->Prop) (s1:Shared) (R:Result->Shared->Prop) (led:Bool),led=(!(w.params.followText "set-order"))->s.heap.objs.size < I->
     WalksS prog w A.in1.in1.in1 I fp [I] G its.size (fun i v=>its[i]?=some v) St->s.heap.objs.size∉fp->St 0 s1->s1.heap.get? s.heap.objs.size=some (soN led)->(∀b o,s.heap.get? b=some o->s1.heap.get? b=some o)->
     (∀s',Moved [s.heap.objs.size,I] G s1 s'->Z s'.heap->R (.ok (.ret .none)) s')->M9 (model prog w) A.in1.in1 (.builtin "set.update.loop" ⟨[.ref s.heap.objs.size,.ref I],[]⟩) R s1)
   (fin:∀(h':Heap) (tk:Nat),Z h'->(∀b o,b < s.heap.objs.size->s.heap.get? b=some o->h'.get? b=some o)->Q (.ref s.heap.objs.size) { s with heap:=h',toks:=tk }):wpAny (model prog w) A (call (.type "set") [.ref a]) Q E s:=by
 obtain⟨c,tl,mr⟩:=PySem.F.called_set.mro;have md:=PySem.F.called_set.made;have sb:=PySem.F.called_set.sub;refine wpAny_call (Dm (show wpAny (model prog w) _ (callAny (.type "set") _) _ _ s from ?_));refine A5 ⟨Code.quiet_builtin _ (by decide +kernel),BE PySem.F.entry_type_call ?_⟩;rw [Around.under_plain (weight_type_call_type "set" [.ref a] []) rfl];have x1:=PySem.F.called_set.notType;have x2:=PySem.F.called_set.canCreate;have x3:=PySem.F.typeCall_set_1 (.ref a)
 repeat (any_goals (first | wp_step | assumption))
 refine Av (OR (.ref a) (E:=E) (Q₁:=fun ob s₁=>∃led:Bool,led=(!(w.params.followText "set-order"))/\ob=.ref s.heap.objs.size/\s₁={ s with heap:=s.heap.push (soN led) }) fun led hl=>⟨led,hl,rfl,rfl⟩) fun r s₁ hr=>?_;cases r with
 | error e=>exact hr
 | ok fl =>
   cases fl with
   | ret ob =>
     obtain⟨led,hled,rfl,rfl⟩:=hr;have g0:(s.heap.push (soN led)).get? s.heap.objs.size=some (soN led):=F3 _ rfl;have ty:Shared.TypeIs { s with heap:=s.heap.push (soN led) } (.ref s.heap.objs.size) "set":=⟨_,g0,rfl⟩;have y1:=PySem.F.called_set.init.lookup;have y2:=PySem.F.called_set.init.bind (.ref s.heap.objs.size)
     repeat (any_goals (first | wp_step | assumption))
     refine Av (codeAny_call_builtin (R:=wants (fun r s₂=>r=.none/\∃h' tk,s₂={ s with heap:=h',toks:=tk }/\Z h'/\
         (∀b o,b < s.heap.objs.size->s.heap.get? b=some o->h'.get? b=some o)) E) PySem.F.called_set.init.plain PySem.F.entry_set_init (PySem.check_set_init_1 ty ?_)) fun r₂ s₂ hr₂=>?_
     · clear fin;have h3:A.in1.in1.in1.handled=none:=by simp [hd]
       unfold R5.«set.__init__» noKeywords Builtin.Frozenset.updateFrom;generalize hP:pyIter=PI;rcases ht with⟨⟨oc,od,odt,os⟩,ho,hc,nl,hdl⟩ | ⟨⟨oc,od,odt,os⟩,ho,hc,nl,hdl⟩ <;>
       · cases hc;cases hdl;have ho':=B7 (soN led) ho;have z1:=OP;have z2:=OQ;have z3:(L9 "list" == L9 "dict")=false:=by decide
         have z4:=OM;have z5:=ON;have z6:(L9 "tuple" == L9 "dict")=false:=by decide
         wp_walk
         subst hP;have la:a < s.heap.objs.size:=C0 ho;have n1:a≠(s.heap.push (soN led)).objs.size:=by rw [U6];exact C3 (O3 la)
         have lI:s.heap.objs.size < (s.heap.push (soN led)).objs.size:=by rw [U6];exact BP _
         have n2:s.heap.objs.size∉[(s.heap.push (soN led)).objs.size,a]:=fun z=>by
           rcases B6.mp z with z | z
           · exact C3 lI z
           · exact i5 la (J8.mp z)
         have en:∀{s1 s':Shared} {G},Moved [s.heap.objs.size,(s.heap.push (soN led)).objs.size] G s1 s'->Z s'.heap->s1.gens=s.gens->s1.drawn=s.drawn->s1.os=s.os->(∀b o,s.heap.get? b=some o->s1.heap.get? b=some o)->(∀x y,G x y->y=x)->∃h' tk,s'={ s with heap:=h',toks:=tk }/\Z h'/\(∀b o,b < s.heap.objs.size->s.heap.get? b=some o->h'.get? b=some o):=by
           intro s1 s' G mv zz e1 e2 e3 kp hG;obtain⟨h',g',d',tk',os'⟩:=s';obtain rfl:g'=s.gens:=(hG _ _ mv.gens).trans e1;obtain rfl:d'=s.drawn:=mv.drawn.trans e2;obtain rfl:os'=s.os:=mv.os.trans e3;refine⟨h',tk',rfl,zz,fun b o hb e=>mv.heap b o (fun z=>?_) (kp _ _ e)⟩;rcases B6.mp z with z | z
           · exact C3 hb z
           · exact C3 (Nat.lt_trans hb lI) (J8.mp z)
         first
           | (refine BD ⟨_,ho',rfl,nl,rfl⟩ (A0 (wpAny_runValue ?_))
              refine lp _ _ _ _ _ _ led hled lI ((Walks.list h3 _ a n1 its).toS) n2 ⟨⟨_,F3 _ rfl,rfl,rfl⟩,⟨_,B7 _ ho',rfl,nl,rfl⟩⟩ (B7 _ g0) (fun b o e=>B7 _ (B7 _ e)) fun s' mv zz=>A5 (A5 ⟨rfl,?_⟩))
           | (refine As ⟨_,ho',rfl,nl,rfl⟩ (A0 (wpAny_runValue ?_))
              refine lp _ _ _ _ _ _ led hled lI ((Walks.tuple h3 _ a n1 its).toS) n2 ⟨⟨_,F3 _ rfl,rfl,rfl⟩,⟨_,B7 _ ho',rfl,nl,rfl⟩⟩ (B7 _ g0) (fun b o e=>B7 _ (B7 _ e)) fun s' mv zz=>A5 (A5 ⟨rfl,?_⟩))
         exact en mv zz rfl rfl rfl (fun b o e=>B7 _ (B7 _ e)) fun _ _ e=>e
     · cases r₂ with
       | error e=>exact hr₂
       | ok fl₂ =>
         cases fl₂ with
         | ret r =>
           obtain⟨rfl,h',tk,rfl,so',kp⟩:=hr₂
           repeat (any_goals (first | wp_step | assumption))
           exact fin _ _ so' kp
         | _=>exact hr₂.elim
   | _=>exact hr.elim
theorem set_of {h:Heap}{S:Addr}{val:Nat->Key}{led:Bool}(g1:h.get? S=some (soN led)):h.SetOf (F2 prog w) S (fun q=>(met val 0).any (fun y=>decide (y=q))) (met val 0).length:=by
 refine⟨soN led,#[],0,.fresh 0 0 led,g1,⟨rfl,rfl,rfl⟩,rfl,fun e he=>(nomatch he),fun k=>⟨fun z=>(nomatch z),fun⟨e,he,_⟩=>(nomatch he)⟩,by decide,?_,rfl⟩;cases led <;> decide
theorem OT {a:Addr}{its:Array Value}{val:Nat->Key}{Q:Value->Shared->Prop}(hd:A.handled=none)(ht:s.heap.IsList a its\/s.heap.IsTuple a its)(hv:∀(i:Nat) (v:Value),its[i]?=some v->(F2 prog w).is (val i) v=true/\v.scannable=true)(room:its.size + 1 < scanBound)
   (fin:∀(h':Heap) (tk:Nat),h'.SetOf (F2 prog w) s.heap.objs.size (fun q=>(met val its.size).any (fun y=>decide (y=q))) (met val its.size).length->
     (∀b o,b < s.heap.objs.size->s.heap.get? b=some o->h'.get? b=some o)->Q (.ref s.heap.objs.size) { s with heap:=h',toks:=tk }):wpAny (model prog w) A (call (.type "set") [.ref a]) Q E s:=
 OS hd ht (fun I St fp G s1 R led _ _ Wk nf h0 g1 _ k=>OL Wk _ nf val hv room (its.size - 0) 0 s1 rfl (J6 _) h0 (set_of g1) k) fin
end
end L2
end
section
namespace L2
open PySem PySem.Spec PyProof.Rows
def p9 (ys:List Str)(i:Nat):Key:=C7 (ys.getD i (A3 ""))
def SetX (X:Cx)(p:Addr)(S:Key->Bool)(n:Nat):HO:=.ext fun h=>h.SetOf (F2 X.prog X.w) p S n
theorem OU {ys:List Str}{us:List Value}(r:Vals (ys.map V.str) us){i:Nat}{u:Value}(h:us[i]?=some u):∃t,u=.str (ys.getD i (A3 "")) t:=by
 obtain⟨hi,e⟩:=D9.mp h;obtain⟨x,ex,rx⟩:=r.getE hi;rw [F6] at ex;cases ey:ys[i]? with
 | none=>rw [ey] at ex;cases ex
 | some y =>
   rw [ey] at ex;cases ex;obtain⟨t,et⟩:=rx;refine⟨t,?_⟩;rw [<- e,et,List.getD,ey]
   rfl
section
variable {X:Cx}
theorem OV:M3 X (.builtin "len") (fun vs H Q=>∃p S n,vs=[.ref p]/\H p=some (SetX X p S n)/\Q (.int n) H):=by
 intro pins s σ H vs us Q I rv h;obtain⟨p,S,n,rfl,e,q⟩:=h;obtain⟨u,rfl,ru⟩:=rv.one;obtain rfl:u=.ref p:=ru;obtain⟨so,_,_⟩:=I.hok p _ e;obtain⟨o,es,ep,t,ho,hex,hd,_,_,hb,hf,hn⟩:=so;refine call_len_set ho hex hd hf (by unfold scanBound at hb;omega) ⟨.int n,H,I.tok _,⟨_,by rw [hn]⟩,q⟩
end
end L2
end
section
namespace Pu
open PySem PySem.Spec L2
theorem JW (x:Str)(l u:Option Int):T3 x l u=DU x l u:=rfl
theorem OW (x:Str){p:Nat}(h:p<=x.length):(T3 x none (some (p:Int))).cps.toList=x.cps.toList.take p:=by
 rw [JW]
 have e:DU x none (some (p:Int))=DU x (some ((0:Nat):Int)) (some (p:Int)):=by
   unfold DU;rw [StrLaws.sliceIdx_none_lo];rfl
 rw [e,StrLaws.sliceText_nat x (J6 _) h];simp
def Ltr (c:Nat):Prop:=97<=c/\c<=122
def k5 (z:Str):Prop:=1<=z.cps.toList.length/\z.cps.toList.length<=8/\∀c∈z.cps.toList,Ltr c
abbrev LETS:Str:=A3 "abcdefghijklmnopqrstuvwxyz"
theorem OX:LETS.cps.toList=(C2 26).map (97 + ·):=by decide +kernel
theorem JX:LETS.length=26:=by decide +kernel
theorem JY {d:Int}(d0:0<=d)(d1:d < 26):atI LETS.cps.toList d=some (97 + d.toNat):=by
 obtain⟨x,e1,e2⟩:=Ja (xs:=LETS.cps.toList) d0 (by rw [<- y7,JX];exact d1);rw [e2,<- e1,OX,F6,List.getElem?_range (by omega)]
 rfl
theorem OY {α:Type}{zs:List α}(h:zs.Nodup){z:α}(hz:z∉zs)(j:Nat):(zs.set j z).Nodup:=by
 refine Ax.mpr fun a b ha hb hab=>?_;rw [G6] at ha hb;rw [List.getElem_set,List.getElem_set]
 split
 · split
   · omega
   · intro e;exact hz (e▸l8 hb)
 · split
   · intro e;exact hz (e▸l8 ha)
   · exact Ax.mp h a b ha hb hab
end Pu
end
section
namespace L2
open PySem PySem.Spec PyProof.Rows
def ItB (b:Bool)(h:Heap)(it l:Addr)(i:Nat):Prop:=match b with | true=>h.IsListIter it l i | false=>h.IsTupleIter it l i
def SeB (b:Bool)(h:Heap)(l:Addr)(items:Array Value):Prop:=match b with | true=>h.IsList l items | false=>h.IsTuple l items
theorem ItB.at {b:Bool}{h h':Heap}{it l:Addr}{i:Nat}(x:ItB b h it l i)(e:∀o,h.get? it=some o->h'.get? it=some o):ItB b h' it l i:=by
 cases b with
 | true=>exact(show h.IsListIter it l i from x).at e
 | false=>exact(show h.IsTupleIter it l i from x).at e
theorem SeB.at (x:SeB b h l items)(e:∀o,h.get? l=some o->h'.get? l=some o):SeB b h' l items:=by
 cases b with
 | true=>exact(show h.IsList l items from x).at e
 | false=>exact(show h.IsTuple l items from x).at e
theorem ItB.obj (x:ItB b h it l i):∃o,h.get? it=some o/\(o.cls=.type "list_iterator"\/o.cls=.type "tuple_iterator")/\∀v,o.data≠.cell v:=by
 cases b with
 | true=>obtain⟨o,e,c,d⟩:=(show h.IsListIter it l i from x);exact⟨o,e,.inl c,fun v z=>by rw [d] at z;cases z⟩
 | false=>obtain⟨o,e,c,d⟩:=(show h.IsTupleIter it l i from x);exact⟨o,e,.inr c,fun v z=>by rw [d] at z;cases z⟩
theorem SeB.obj (x:SeB b h l items):∃o,h.get? l=some o/\(o.cls=.type "list"\/o.cls=.type "tuple"):=by
 cases b with
 | true=>obtain⟨o,e,c,d⟩:=(show h.IsList l items from x);exact⟨o,e,.inl c⟩
 | false=>obtain⟨o,e,c,d⟩:=(show h.IsTuple l items from x);exact⟨o,e,.inr c⟩
theorem ItB.ne (x:ItB b h it l i)(y:SeB b' h a items):a≠it:=fun z=>by
 obtain⟨o,e,c,_⟩:=x.obj;obtain⟨o',e',c'⟩:=y.obj;rw [z,e] at e';cases e';rcases c with c | c <;> rcases c' with c' | c' <;> (rw [c] at c';exact absurd c' (by decide))
section
variable {prog:C5}{w:World}{A:Around}{E:Value->Shared->Prop}{s:Shared}
theorem OZ (hit:s.heap.IsTupleIter it t i)(ht:s.heap.IsTuple t items)(hx:items[i]?=some x)
   (hQ:∀h',h'.IsTupleIter it t (i + 1)->w4 it s.heap h'->Q x { s with heap:=h' }):wpAny (model prog w) A (Z5 (.ref it)) Q E s:=by
 obtain⟨oi,hoi,hci,hdi⟩:=id hit;obtain⟨ot,hot,_,nt,hdt⟩:=ht;have ty:=hit.typeIs;unfold Z5
 refine A0 (l4 (name:=A3 "__next__") ty DK
   (W0 DK ty F.entry_tuple_iterator_next ?_ (F.args_tuple_iterator_next_1 _)))
 show wpAny _ _ (field (.ref it) 0>>=_) _ _ s;refine A0 (L3 hoi hdi (x:=.ref t) rfl ?_);show wpAny _ _ (if(N3 t == X3)=true then _ else _) _ _ s;rw [if_neg (show ¬((N3 t == X3)=true) from N5)];show wpAny _ _ (field (.ref it) 1>>=_) _ _ s;refine A0 (L3 hoi hdi (x:=.int i 0) rfl ?_);show wpAny _ _ (seqItems? (.ref t)>>=_) _ _ s;refine A0 (l5 hot hdt ?_);simp only [P4,hx];refine A0 (wpAny_setField hoi hdi (by simp) (A5 ⟨x,rfl,A5 (hQ _ ?_ (o7 ..))⟩));exact⟨_,Heap.get?_update_self _ hoi (Obj.isFreed_of_fields (Obj.data_mapFields hdi _)),(Obj.cls_mapFields ..).trans hci,by rw [Obj.data_mapFields hdi];simp [rawInt]⟩
theorem O_ (hh:A.handled=none)(hit:s.heap.IsTupleIter it t i)(ht:s.heap.IsTuple t items)(hx:items[i]?=none)
   (hE:∀h' e,BH it s.heap h'->(∃o,h'.get? e=some o/\o.cls=.type "StopIteration")->E (.ref e) { s with heap:=h' }):wpAny (model prog w) A (Z5 (.ref it)) Q E s:=by
 obtain⟨oi,hoi,hci,hdi⟩:=id hit;obtain⟨ot,hot,_,nt,hdt⟩:=ht;have ty:=hit.typeIs;unfold Z5
 refine A0 (l4 (name:=A3 "__next__") ty DK
   (W0 DK ty F.entry_tuple_iterator_next ?_ (F.args_tuple_iterator_next_1 _)))
 show wpAny _ _ (field (.ref it) 0>>=_) _ _ s;refine A0 (L3 hoi hdi (x:=.ref t) rfl ?_);show wpAny _ _ (if(N3 t == X3)=true then _ else _) _ _ s;rw [if_neg (show ¬((N3 t == X3)=true) from N5)];show wpAny _ _ (field (.ref it) 1>>=_) _ _ s;refine A0 (L3 hoi hdi (x:=.int i 0) rfl ?_);show wpAny _ _ (seqItems? (.ref t)>>=_) _ _ s;refine A0 (l5 hot hdt ?_);simp only [P4,hx];refine A0 (e6 (A0 (wpAny_setField hoi hdi (by simp) ?_)));show wpAny _ _ (newExc (.type "StopIteration") []>>=_) _ _ _;refine A0 ?_;simp only [newExc,newTuple];refine A0 (O6 ?_ (by size_fits));refine A0 (m:=firstArgMember _ _) (R3 (a:=X3) (by first | rfl | (simp only [firstArgMember];rfl)) ?_);refine O6 ?_ (by size_fits);simp only [raiseNew];refine A0 (wpAny_handled ?_)
 first | rw [show A.in1.handled=none from hh] | rw [hh]
 refine A0 (A5 (wpAny_throw ?_));exact hE _ _ (((o7 ..).extBut.push _).push _) ⟨_,F3 _ rfl,rfl⟩
theorem EC (hit:ItB b s.heap it t i)(ht:SeB b s.heap t items)(hx:items[i]?=some x)
   (hQ:∀h',ItB b h' it t (i + 1)->w4 it s.heap h'->Q x { s with heap:=h' }):wpAny (model prog w) A (Z5 (.ref it)) Q E s:=by
 cases b with
 | true=>exact wpAny_nextOf_list_item hit ht hx hQ
 | false=>exact OZ hit ht hx hQ
theorem ED (hh:A.handled=none)(hit:ItB b s.heap it t i)(ht:SeB b s.heap t items)(hx:items[i]?=none)
   (hE:∀h' e,BH it s.heap h'->(∃o,h'.get? e=some o/\o.cls=.type "StopIteration")->E (.ref e) { s with heap:=h' }):wpAny (model prog w) A (Z5 (.ref it)) Q E s:=by
 cases b with
 | true=>exact wpAny_nextOf_list_end hh hit ht hx hE
 | false=>exact O_ hh hit ht hx hE
theorem drawsB {b:Bool}(hh:A.handled=none)(it l:Addr)(hne:l≠it)(items:Array Value):Draws prog w A it [it,l] items.size (fun i v=>items[i]?=some v) (fun i h=>ItB b h it l i/\SeB b h l items) where
 live:=fun _ _ st=>let ⟨o,ho,_⟩:=st.1.obj;⟨o,ho⟩
 frame:=fun _ _ _ st hk=>⟨st.1.at fun o e=>hk it (by simp) o e,st.2.at fun o e=>hk l (by simp) o e⟩
 item:=fun i s Q E hi st hQ=>by
   refine EC st.1 st.2 (x:=items[i]) (by simp [hi]) fun h' hit' hs'=>?_;exact hQ _ h' s.toks (by simp [hi]) ⟨hit',st.2.at fun o e=>hs'.extBut _ o hne e⟩ hs'
 done:=fun s Q E st hE=>ED hh st.1 st.2 (by simp) hE
theorem Pa (l:Addr)(items:Array Value)(n:Nat)(dct:Option Addr)(sl:Array (Option Value)) :
   Meets (R5.«enumerate.__new__» ⟨[.type "enumerate",.ref l],[]⟩) (fun _ R s=>s.heap.get? l=some { cls:=.type "tuple",dict:=dct,data:=.seq items n,slots:=sl }/\
     R (.ok (.ret (.ref (s.heap.push { cls := .type "tuple_iterator", data := .fields #[.ref l, .int 0 0] }).objs.size)))
       { s with heap:=(s.heap.push { cls:=.type "tuple_iterator",data:=.fields #[.ref l,.int 0 0] }).push { cls:=.type "enumerate",data:=.fields #[.none,.bool false,.ref s.heap.objs.size,rawInt 0,.none,.none] } }):=
 .of_wp fun prog w A R s hyp=>by
   obtain⟨hp,g,d,tk,os⟩:=s;obtain⟨hl,fin⟩:=hyp;have hsub:=sub_enumerate;have hL:Heap.IsTuple (Shared.heap ⟨hp,g,d,tk,os⟩) l items:=⟨_,hl,rfl,n,rfl⟩
   wp_walk using DR hl
   refine wpAny_stack_any fun st=>A5 ?_
   split
   · rename_i c _ _ _ _ _;cases(c == L9 "enumerate")
     · wp_walk using DR hl,As hL
       exact⟨_,rfl,fin⟩
     · wp_walk using DR hl,As hL
       exact⟨_,rfl,fin⟩
   · wp_walk using DR hl,As hL
     exact⟨_,rfl,fin⟩
theorem enumT {l:Addr}{items:Array Value}{Q:Value->Shared->Prop}(hL:s.heap.IsTuple l items)
   (h:∀h',IsEnum h' (s.heap.objs.size + 1) s.heap.objs.size 0 .none->h'.IsTupleIter s.heap.objs.size l 0->(∀b o,s.heap.get? b=some o->h'.get? b=some o)->Q (.ref (s.heap.objs.size + 1)) { s with heap:=h' }) :
   wpAny (model prog w) A (call (.type "enumerate") [.ref l]) Q E s:=by
 obtain⟨⟨c,dct,dt,sl⟩,hl,hc,n,hd⟩:=hL
 replace hc:c=.type "tuple":=hc
 replace hd:dt=.seq items n:=hd
 subst hc hd;refine callType_new F.called_enumerate (by decide) (F.typeCall_enumerate_1 _) (F.newCall_enumerate_1 _) (fun obj=>F.args_object_init_2 obj _) F.entry_enumerate_new (Pa l items n dct sl) ⟨hl,?_⟩;have hz:(s.heap.push { cls:=.type "tuple_iterator",data:=.fields #[.ref l,.int 0 0] }).objs.size=s.heap.objs.size + 1:=U6 ..;show _/\_;rw [hz]
 have he:IsEnum ((s.heap.push { cls:=.type "tuple_iterator",data:=.fields #[.ref l,.int 0 0] }).push { cls:=.type "enumerate",data:=.fields #[.none,.bool false,.ref s.heap.objs.size,rawInt 0,.none,.none] }) (s.heap.objs.size + 1) s.heap.objs.size 0 .none:=by
   have:=F3 (s.heap.push { cls:=.type "tuple_iterator",data:=.fields #[.ref l,.int 0 0] }) (o:={ cls:=.type "enumerate",data:=.fields #[.none,.bool false,.ref s.heap.objs.size,rawInt 0,.none,.none] }) rfl;rw [hz] at this;exact this
 exact⟨⟨_,he,rfl⟩,h _ he ⟨_,B7 _ (F3 _ rfl),rfl,rfl⟩ fun b o x=>B7 _ (B7 _ x)⟩
theorem enumB {b:Bool}{l:Addr}{items:Array Value}{Q:Value->Shared->Prop}(hL:SeB b s.heap l items)
   (h:∀h',IsEnum h' (s.heap.objs.size + 1) s.heap.objs.size 0 .none->ItB b h' s.heap.objs.size l 0->(∀b o,s.heap.get? b=some o->h'.get? b=some o)->Q (.ref (s.heap.objs.size + 1)) { s with heap:=h' }) :
   wpAny (model prog w) A (call (.type "enumerate") [.ref l]) Q E s:=by
 cases b with
 | true=>exact call_enumerate_list hL fun h' a b _ c=>h h' a b c
 | false=>exact enumT hL h
theorem Pb {b:Bool}{e it l:Addr}{j:Nat}{i:Int}{items:Array Value}{old:Value}{Q:Option Value->Shared->Prop}(hh:A.handled=none)(he:IsEnum s.heap e it i old)(hit:ItB b s.heap it l j)(ht:SeB b s.heap l items)(hx:items[j]?=none)
   (hQ:∀h',BH it s.heap h'->Q none { s with heap:=h' }):wpAny (model prog w) A (pyNext (.ref e)) Q E s:=by
 have ty:s.TypeIs (.ref e) "enumerate":=⟨_,he,rfl⟩;unfold pyNext;refine A0 (wpAny_attempt (l4 (name:=A3 "__next__") ty F.slot_enumerate_next (W0 F.slot_enumerate_next ty F.entry_enumerate_next ?_ (F.args_enumerate_next_1 _))));show wpAny _ _ (field (.ref e) 2>>=_) _ _ _;refine A0 (L3 he rfl (x:=.ref it) rfl ?_);refine A0 (ED (A:=A.in1) hh hit ht hx fun h' x he' hx'=>?_);obtain⟨o,ho,hc⟩:=hx';exact A0 (wpAny_isInstance (T:="StopIteration") (b:=true) ⟨o,ho,hc⟩ isSubtype_stop (A5 (hQ _ he')))
end
def SqB (b:Bool)(K:A4)(H:Hp)(a:Addr)(xs:List V):Prop:=match b with | true=>SqL K H a xs | false=>SqT K H a xs
section
variable {X:Cx}
theorem Inv.seqB (I:Inv X pins σ H s)(h:SqB b X.K H a xs):∃its:List Value,Vals xs its/\SeB b s.heap a its.toArray/\xs.length<=B5:=by
 cases b with
 | true=>obtain⟨its,r,p,z⟩:=I.list h;exact⟨its,r,p.isList,z⟩
 | false=>obtain⟨its,r,p,z⟩:=I.tuple h;exact⟨its,r,p,z⟩
theorem Inv.seqB_inj (I:Inv X pins σ H s)(h:SqB b X.K H a xs)(h':SqB b X.K H a ys):xs=ys:=by
 cases b with
 | true=>exact I.list_inj h h'
 | false=>exact I.tuple_inj h h'
def IteB (b:Bool)(K:A4)(a:Addr):It:=
 ⟨fun i H=>∃xs x,SqB b K H a xs/\xs[i]?=some x,fun i H x H'=>∃p v,H p=none/\x=.ref p/\H'=upd H p (.tup [.int i,v])/\∀xs,SqB b K H a xs->xs[i]?=some v,fun i H=>∃xs,SqB b K H a xs/\xs.length<=i⟩
theorem Pc {b:Bool}{P:C5}{w:World}{K:A4}{elts:List Expr}{x1}{pos:Pos}(a e it:Addr)(hne:e≠it) :
   Turn P w K (.Tuple elts x1 pos) (IteB b K a) [e,it] e (fun i h=>(∃old,IsEnum h e it i old)/\ItB b h it a i) where
 mem:=by simp
 obj:=fun i h st c hc=>by
   obtain⟨⟨old,he⟩,st⟩:=st;obtain⟨o,e1,_,d⟩:=st.obj;have hc':c=e\/c=it:=by simpa using hc
   rcases hc' with rfl | rfl
   · exact⟨_,he,fun v z=>by cases z⟩
   · exact⟨o,e1,d⟩
 keep:=fun i h h' st k=>by
   obtain⟨⟨old,he⟩,st⟩:=st;exact⟨⟨old,k e (by simp) _ he⟩,st.at fun o e=>k it (by simp) o e⟩
 item:=by
   intro X hP hw hK hc i pins s σ H E I hf st hg;subst hP hw hK;obtain⟨⟨old,he⟩,st⟩:=st;obtain⟨xs,x,hq,hx⟩:=hg;obtain⟨its,rv,p,hz⟩:=I.seqB hq;obtain⟨u,hu,ru⟩:=rv.get hx;have nla:a≠it:=st.ne p
   have nea:e≠a:=fun z=>by
     obtain⟨o,e1,c1⟩:=p.obj;rw [<- z,he] at e1;cases e1;rcases c1 with c1 | c1
     · exact absurd (show L9 "enumerate"=L9 "list" from c1) (by decide)
     · exact absurd (show L9 "enumerate"=L9 "tuple" from c1) (by decide)
   have hi:i < its.toArray.size:=by
     obtain⟨h1,_⟩:=D9.mp hu
     simpa using h1
   refine wpAny_pyNext_enum_itemD (drawsB (A:=X.A.in1) (I.ok.hd hc) it a nla its.toArray) he ⟨st,p⟩ hi hne (by simp [hne,nea]) fun y h' tk hy he' st' ht hz' k=>?_
   have ey:y=u:=by
     have:its[i]?=some y:=by simpa using hy
     rw [hu] at this;exact(N0 this).symm
   subst ey;refine⟨_,rfl,wpAny_letOwnedTupleGo_enum (s:={ s with heap:=h',toks:=tk + 1 }) he' fun h'' he'' sb=>?_⟩;have hpe:s.heap.objs.size≠e:=i5 (C0 he);have ht'':h''.get? s.heap.objs.size=some { cls:=.type "tuple",data:=.seq #[.int i tk,y] }:=(sb.2 _ hpe).trans ht
   have k':∀c o,c∉[e,it]->s.heap.get? c=some o->h''.get? c=some o:=fun c o hb q=>by
     have hb1:c≠e:=fun z=>hb (by simp [z]);have hb2:c≠it:=fun z=>hb (by simp [z]);exact(sb.2 c hb1).trans (k c o hb1 hb2 q)
   have I1:Inv X pins σ (upd H s.heap.objs.size (.tup [.int i,x])) { s with heap:=h'',toks:=tk + 1 }:=
     I.turnedNew k' hf ⟨by show 2<=B5;decide,[.int i tk,y],.cons ⟨_,rfl⟩ (.cons ru .nil),⟨_,ht'',rfl,_,rfl⟩⟩
   refine⟨.ref s.heap.objs.size,_,I1,rfl,⟨_,x,I.fresh,rfl,rfl,fun ys hy=>by rw [I.seqB_inj hy hq];exact hx⟩,⟨⟨y,he''⟩,st'.1.at fun o q=>(sb.2 it (Ne.symm hne)).trans q⟩,fun c hb=>?_⟩;have hb':c=e\/c=it:=by simpa using hb
   have hbs:c≠s.heap.objs.size:=by
     rcases hb' with rfl | rfl
     · exact Ne.symm hpe
     · obtain⟨o,e1,_⟩:=st.obj;exact C3 (C0 e1)
   rw [A7 hbs];exact(hf c hb).1
 done:=by
   intro X hP hw hK hc i pins s σ H E I hf st hg;subst hP hw hK;obtain⟨⟨old,he⟩,st⟩:=st;obtain⟨xs,hq,hx⟩:=hg;obtain⟨its,rv,p,hz⟩:=I.seqB hq;obtain⟨f0,f1,f2,f3,f4,f5⟩:=hf it (by simp);have hl:=rv.length;refine Pb (I.ok.hd hc) he st p (FG (by rw [E3];omega)) fun h' eb=>⟨rfl,I.turned (t':=s.toks) (fun c o hb e=>eb c o hb e) f0 f1 f3 f4 f5⟩
 self:=fun _ _ _ _ _ st h=>by
   obtain⟨⟨old,he⟩,_⟩:=st;exact wpAny_pyIter_enum he h
def iEnumB (b:Bool)(K:A4)(ta:TA):TI:=fun σ H R=>ta σ H fun vs H1=>∃a,vs=[.ref a]/\(∃xs,SqB b K H1 a xs)/\R (IteB b K a) H1
theorem Pd (b:Bool){l:Expr}{ta:TA}{p pos:Pos}{elts:List Expr}{x1}{tpos:Pos}(hg:Gl X "enumerate")(hm:X.mg "enumerate"=none)(ha:PA X [l] ta)(hs:D6 [l] X.env=[(false,eval l X.env)]:=by rfl) :
   PI X (.Tuple elts x1 tpos) (.Call (.Name "enumerate" p) [l] [] pos) (iEnumB b X.K ta):=by
 intro pins s σ H R I h;refine Call_ (b0 I hg hm boot_enumerate (o0 (thn (ha pos pins s σ H _ I h) fun us s1 ⟨vs,H1,I1,r1,q1⟩=>?_) hs rfl));obtain⟨a,e,⟨xs,hq⟩,q⟩:=q1;subst e;obtain⟨u,rfl,ru⟩:=r1.one;obtain rfl:u=N3 a:=ru;obtain⟨its,rv,pl,hz⟩:=I1.seqB hq;refine enumB pl fun h' hE hI hk=>?_;refine wpAny_pyIter_enum hE ?_;have I2:Inv X pins σ H1 { s1 with heap:=h' }:=I1.kept (t':=s1.toks) hk;refine⟨s1.heap.objs.size + 1,[s1.heap.objs.size + 1,s1.heap.objs.size],_,_,H1,rfl,I2,Pc a _ _ (Nat.succ_ne_self _),⟨⟨_,hE⟩,hI⟩,fun c hb=>?_,q⟩;have hb':c=s1.heap.objs.size + 1\/c=s1.heap.objs.size:=by simpa using hb
 rcases hb' with rfl | rfl
 · exact I1.fpOk (Z3 _) (I1.hok.fresh (Z3 _))
 · exact I1.fpOk (B4 _) (I1.hok.fresh (B4 _))
end
end L2
end
section
namespace L2
open PySem PySem.Spec PyProof.Rows
section
variable {prog:C5}{w:World}{A:Around}{E:Value->Shared->Prop}{s:Shared}
structure ZAp (z TI TO i1 i2:Addr):Prop where
 a1:TI≠z
 a2:TO≠z
 a3:i1≠z
 a4:i2≠z
 a5:TI≠TO
 a6:TI≠i1
 a7:TI≠i2
 a8:TO≠i1
 a9:TO≠i2
 a10:i1≠i2
theorem Pe {z TI TO i1 i2 l1 l2:Addr}{Q:Value->Shared->Prop}(D:ZAp z TI TO i1 i2)(m1:l1≠z)(m2:l2≠z)(m3:l1≠TO)(m4:l2≠TO)(m5:l1≠i1)(m6:l2≠i1)
   (hz:IsZip s.heap z TI TO .none) (hTI:IsPair s.heap TI (.ref i1) (.ref i2)) (hTO:IsPair s.heap TO a b) (h1:ItB b1 s.heap i1 l1 k) (h2:ItB b2 s.heap i2 l2 k) (hl1:SeB b1 s.heap l1 xs) (hl2:SeB b2 s.heap l2 ys) (hx:xs[k]?=some x) (hy:ys[k]?=some y)
   (hQ:∀h',IsZip h' z TI TO (rawInt s.heap.objs.size)->IsPair h' TO x y->ItB b1 h' i1 l1 (k + 1)->ItB b2 h' i2 l2 (k + 1)->IsPair h' s.heap.objs.size x y->
     (∀c o,c≠z->c≠TO->c≠i1->c≠i2->s.heap.get? c=some o->h'.get? c=some o)->Q (.ref s.heap.objs.size) { s with heap:=h' }) :
   wpAny (model prog w) A (R5.«zip.__next__» ⟨[.ref z],[]⟩) (fun fin s'=>∃v,fin=.done (.ret v)/\Q v s') E s:=by
 show wpAny _ _ (field (.ref z) 2>>=_) _ _ _;refine A0 (L3 hz rfl (x:=.bool false) rfl ?_);show wpAny _ _ (field (.ref z) 3>>=_) _ _ _;refine A0 (L3 hz rfl (x:=.ref TI) rfl (A0 (l5 hTI rfl ?_)));show wpAny _ _ (DB (.ref z)>>=_) _ _ _;refine A0 ?_;unfold DB;refine A0 (L3 hz rfl (x:=.none) rfl (A5 ?_));simp only [if_true];refine A0 (e6 (A0 (L3 hz rfl (x:=.ref TO) rfl (A0 (Au hz (by simp) fun g1 z1 s1=>?_)))))
 replace z1:IsZip g1 z TI TO .ellipsis:=z1
 refine A0 ?_;simp only [List.zipIdx_cons,List.zipIdx_nil,List.forIn_cons,List.forIn_nil];refine A0 (A0 (wpAny_onRaise ?_));show wpAny _ _ (Z5 (.ref i1)>>=_) _ _ _;refine A0 (EC (s:={ s with heap:=g1 }) (h1.at fun o e=>s1.extBut _ o D.a3 e) (hl1.at fun o e=>s1.extBut _ o m1 e) hx fun g2 j2 s2=>A5 ?_);have t2:IsPair g2 TO a b:=s2.extBut _ _ D.a8 (s1.extBut _ _ D.a2 hTO);refine A0 (l5 t2 rfl (A0 (wpAny_updateSeq_pair (s:={ s with heap:=g2 }) t2 fun g3 t3 s3=>A0 (wpAny_letGo (A5 ?_)))))
 replace t3:IsPair g3 TO x b:=t3
 refine A0 (A0 (wpAny_onRaise ?_));show wpAny _ _ (Z5 (.ref i2)>>=_) _ _ _;have up3:∀c o,c≠z->c≠i1->c≠TO->s.heap.get? c=some o->g3.get? c=some o:=fun c o c1 c2 c3 e=>s3.extBut _ o c3 (s2.extBut _ o c2 (s1.extBut _ o c1 e));refine A0 (EC (s:={ s with heap:=g3 }) (h2.at fun o e=>up3 _ o D.a4 D.a10.symm D.a9.symm e) (hl2.at fun o e=>up3 _ o m2 m6 m4 e) hy fun g4 j4 s4=>A5 ?_);have t4:IsPair g4 TO x b:=s4.extBut _ _ D.a9 t3;refine A0 (l5 t4 rfl (A0 (wpAny_updateSeq_pair (s:={ s with heap:=g4 }) t4 fun g5 t5 s5=>A0 (wpAny_letGo (A5 (A5 ?_))))))
 replace t5:IsPair g5 TO x y:=t5
 refine A0 (l5 t5 rfl (A0 (wpAny_newTuple ?_)));have hsz:g5.objs.size=s.heap.objs.size:=by rw [s5.1,s4.1,s3.1,s2.1,s1.1]
 have z5:IsZip g5 z TI TO .ellipsis:=s5.extBut _ _ D.a2.symm (s4.extBut _ _ D.a4.symm (s3.extBut _ _ D.a2.symm (s2.extBut _ _ D.a3.symm z1)));have up5:∀c o,c≠z->c≠TO->c≠i1->c≠i2->s.heap.get? c=some o->g5.get? c=some o:=fun c o c1 c2 c3 c4 e=>s5.extBut _ _ c2 (s4.extBut _ _ c4 (up3 c o c1 c3 c2 e));have j1:ItB b1 g5 i1 l1 (k + 1):=j2.at fun o e=>s5.extBut _ o D.a8.symm (s4.extBut _ o D.a10 (s3.extBut _ o D.a8.symm e));have j5:ItB b2 g5 i2 l2 (k + 1):=j4.at fun o e=>s5.extBut _ o D.a9.symm e;have zlt:z < g5.objs.size:=C0 z5;show wpAny _ _ (Iq (.ref z) (.ref g5.objs.size)>>=_) _ _ _;refine A0 ?_;unfold Iq;have z6:IsZip (g5.push { cls:=.type "tuple",data:=.seq #[x,y] }) z TI TO .ellipsis:=B7 _ z5;refine A0 (Au z6 (by simp) fun g7 z7 s7=>?_)
 replace z7:IsZip g7 z TI TO (rawInt g5.objs.size):=z7
 refine Au z7 (by simp) fun g8 z8 s8=>?_
 replace z8:IsZip g8 z TI TO (rawInt g5.objs.size):=z8
 have up8:∀c o,c≠z->g5.get? c=some o->g8.get? c=some o:=fun c o c1 e=>s8.extBut _ _ c1 (s7.extBut _ _ c1 (B7 _ e));have t8:IsPair g8 g5.objs.size x y:=s8.extBut _ _ (i5 zlt) (s7.extBut _ _ (i5 zlt) (F3 _ rfl));rw [hsz] at z8 t8;refine A5 ⟨_,rfl,?_⟩;show Q (.ref g5.objs.size) _;rw [hsz];exact hQ g8 z8 (up8 _ _ D.a2 t5) (j1.at fun o e=>up8 _ o D.a3 e) (j5.at fun o e=>up8 _ o D.a4 e) t8 fun c o c1 c2 c3 c4 e=>up8 c o c1 (up5 c o c1 c2 c3 c4 e)
theorem zipEnd {z TI TO i1 i2 l1 l2:Addr}(hh:A.handled=none)(D:ZAp z TI TO i1 i2)(m1:l1≠z)(m2:l2≠z)(m3:l1≠TO)(m4:l2≠TO)(m5:l1≠i1)(m6:l2≠i1)
   (hz:IsZip s.heap z TI TO .none) (hTI:IsPair s.heap TI (.ref i1) (.ref i2)) (hTO:IsPair s.heap TO a b) (h1:ItB b1 s.heap i1 l1 k) (h2:ItB b2 s.heap i2 l2 k) (hl1:SeB b1 s.heap l1 xs) (hl2:SeB b2 s.heap l2 ys) (hend:xs[k]?=none\/ys[k]?=none)
   (hE:∀h' e,(∀c o,c≠z->c≠TO->c≠i1->c≠i2->s.heap.get? c=some o->h'.get? c=some o)->(∃o,h'.get? e=some o/\o.cls=.type "StopIteration")->E (.ref e) { s with heap:=h' }) :
   wpAny (model prog w) A (R5.«zip.__next__» ⟨[.ref z],[]⟩) Q E s:=by
 show wpAny _ _ (field (.ref z) 2>>=_) _ _ _;refine A0 (L3 hz rfl (x:=.bool false) rfl ?_);show wpAny _ _ (field (.ref z) 3>>=_) _ _ _;refine A0 (L3 hz rfl (x:=.ref TI) rfl (A0 (l5 hTI rfl ?_)));show wpAny _ _ (DB (.ref z)>>=_) _ _ _;refine A0 ?_;unfold DB;refine A0 (L3 hz rfl (x:=.none) rfl (A5 ?_));simp only [if_true];refine A0 (e6 (A0 (L3 hz rfl (x:=.ref TO) rfl (A0 (Au hz (by simp) fun g1 z1 s1=>?_)))))
 replace z1:IsZip g1 z TI TO .ellipsis:=z1
 refine A0 ?_;simp only [List.zipIdx_cons,List.zipIdx_nil,List.forIn_cons,List.forIn_nil];refine A0 (A0 (wpAny_onRaise ?_));show wpAny _ _ (Z5 (.ref i1)>>=_) _ _ _;have h1':ItB b1 g1 i1 l1 k:=h1.at fun o e=>s1.extBut _ o D.a3 e;have hl1':SeB b1 g1 l1 xs:=hl1.at fun o e=>s1.extBut _ o m1 e
 have nz:∀{g:Heap} {e:Addr} {o:Obj},IsZip g z TI TO .ellipsis->g.get? e=some o->o.cls=.type "StopIteration"->e≠z:=fun {g e o} hz ho hc x=>by
   subst x;rw [hz] at ho;cases ho;exact absurd (show L9 "zip"=L9 "StopIteration" from hc) (by decide)
 cases hx:xs[k]? with
 | none =>
   refine A0 (ED (s:={ s with heap:=g1 }) hh h1' hl1' hx fun g2 e s2 ⟨oe,hoe,hce⟩=>?_);have z2:IsZip g2 z TI TO .ellipsis:=s2 _ _ D.a3.symm z1;exact Au z2 (by simp) fun g3 _ s3=>hE g3 e (fun c o c1 _ c3 _ x=>s3.extBut _ _ c1 (s2 _ _ c3 (s1.extBut _ _ c1 x))) ⟨oe,s3.extBut _ _ (nz z2 hoe hce) hoe,hce⟩
 | some x =>
   have hy:ys[k]?=none:=hend.elim (fun h=>by rw [hx] at h;cases h) id;refine A0 (EC (s:={ s with heap:=g1 }) h1' hl1' hx fun g2 j2 s2=>A5 ?_);have t2:IsPair g2 TO a b:=s2.extBut _ _ D.a8 (s1.extBut _ _ D.a2 hTO);refine A0 (l5 t2 rfl (A0 (wpAny_updateSeq_pair (s:={ s with heap:=g2 }) t2 fun g3 t3 s3=>A0 (wpAny_letGo (A5 ?_)))));refine A0 (A0 (wpAny_onRaise ?_));show wpAny _ _ (Z5 (.ref i2)>>=_) _ _ _;have up3:∀c o,c≠z->c≠i1->c≠TO->s.heap.get? c=some o->g3.get? c=some o:=fun c o c1 c2 c3 e=>s3.extBut _ o c3 (s2.extBut _ o c2 (s1.extBut _ o c1 e));refine A0 (ED (s:={ s with heap:=g3 }) hh (h2.at fun o e=>up3 _ o D.a4 D.a10.symm D.a9.symm e) (hl2.at fun o e=>up3 _ o m2 m6 m4 e) hy fun g4 e s4 ⟨oe,hoe,hce⟩=>?_);have z4:IsZip g4 z TI TO .ellipsis:=s4 _ _ D.a4.symm (s3.extBut _ _ D.a2.symm (s2.extBut _ _ D.a3.symm z1));exact Au z4 (by simp) fun g5 _ s5=>hE g5 e (fun c o c1 c2 c3 c4 x=>s5.extBut _ _ c1 (s4 _ _ c4 (up3 c o c1 c3 c2 x))) ⟨oe,s5.extBut _ _ (nz z4 hoe hce) hoe,hce⟩
end
def itO (b:Bool)(l:Addr):Obj:=match b with | true=>{ cls:=.type "list_iterator",data:=.fields #[.ref l,.int 0 0] } | false=>{ cls:=.type "tuple_iterator",data:=.fields #[.ref l,.int 0 0] }
theorem JZ (b:Bool)(l:Addr):(itO b l).isFreed=false:=by cases b <;> rfl
theorem J_ (e:h.get? a=some (itO b l)):ItB b h a l 0:=by
 cases b with
 | true=>exact⟨_,e,rfl,rfl⟩
 | false=>exact⟨_,e,rfl,rfl⟩
theorem iterO (ht:SeB b s.heap t items)(hQ:Q (.ref s.heap.objs.size) { s with heap:=s.heap.push (itO b t) }):wpAny (model prog w) A (pyIter (.ref t)) Q E s:=by
 cases b with
 | true=>exact BD ht hQ
 | false=>exact As ht hQ
abbrev zh2 (h:Heap)(b1 b2:Bool)(l1 l2:Addr):Heap:=(h.push (itO b1 l1)).push (itO b2 l2)
abbrev zh3 (h:Heap)(b1 b2:Bool)(l1 l2:Addr):Heap:=(zh2 h b1 b2 l1 l2).push { cls:=.type "tuple",data:=.seq #[.ref h.objs.size,.ref (h.push (itO b1 l1)).objs.size] }
abbrev zh4 (h:Heap)(b1 b2:Bool)(l1 l2:Addr):Heap:=(zh3 h b1 b2 l1 l2).push { cls:=.type "tuple",data:=.seq #[.none,.none] }
abbrev zh5 (h:Heap)(b1 b2:Bool)(l1 l2:Addr):Heap:=(zh4 h b1 b2 l1 l2).push { cls:=.type "zip",data:=.fields #[.none,.bool false,.bool false,.ref (zh2 h b1 b2 l1 l2).objs.size,.ref (zh3 h b1 b2 l1 l2).objs.size] }
theorem zipNew (b1 b2:Bool)(l1 l2:Addr)(xs ys:Array Value) :
   Meets (R5.«zip.__new__» ⟨[.type "zip",.ref l1,.ref l2],[]⟩) (fun _ R s=>SeB b1 s.heap l1 xs/\SeB b2 s.heap l2 ys/\R (.ok (.ret (.ref (zh4 s.heap b1 b2 l1 l2).objs.size))) { s with heap:=zh5 s.heap b1 b2 l1 l2 }):=
 .of_wp fun prog w A R s hyp=>by
   obtain⟨hp,g,d,tk,os⟩:=s;obtain⟨k1,k2,fin⟩:=hyp;have hsub:=sub_zip;have L1:SeB b1 (Shared.heap ⟨hp,g,d,tk,os⟩) l1 xs:=k1;have L2:SeB b2 (Shared.heap ⟨hp.push (itO b1 l1),g,d,tk,os⟩) l2 ys:=k2.at fun o e=>B7 _ e
   wp_walk using iterO L1,iterO L2
   exact⟨_,rfl,fin⟩
section
variable {prog:C5}{w:World}{A:Around}{E:Value->Shared->Prop}{s:Shared}
theorem zipB (hl1:SeB b1 s.heap l1 xs)(hl2:SeB b2 s.heap l2 ys)
   (h:∀h',IsZip h' (s.heap.objs.size + 4) (s.heap.objs.size + 2) (s.heap.objs.size + 3) .none->IsPair h' (s.heap.objs.size + 2) (.ref s.heap.objs.size) (.ref (s.heap.objs.size + 1))->
     IsPair h' (s.heap.objs.size + 3) .none .none->ItB b1 h' s.heap.objs.size l1 0->ItB b2 h' (s.heap.objs.size + 1) l2 0->(∀c o,s.heap.get? c=some o->h'.get? c=some o)->Q (.ref (s.heap.objs.size + 4)) { s with heap:=h' }) :
   wpAny (model prog w) A (call (.type "zip") [.ref l1,.ref l2]) Q E s:=by
 refine callType_new F.called_zip (by decide) (F.typeCall_zip_2 _ _) (F.newCall_zip_2 _ _) (fun obj=>F.args_object_init_3 obj _ _) F.entry_zip_new (zipNew b1 b2 l1 l2 xs ys) ⟨hl1,hl2,?_⟩;have z1:(s.heap.push (itO b1 l1)).objs.size=s.heap.objs.size + 1:=U6 ..;have z2:(zh2 s.heap b1 b2 l1 l2).objs.size=s.heap.objs.size + 2:=by rw [U6,z1]
 have z3:(zh3 s.heap b1 b2 l1 l2).objs.size=s.heap.objs.size + 3:=by rw [U6,z2]
 have z4:(zh4 s.heap b1 b2 l1 l2).objs.size=s.heap.objs.size + 4:=by rw [U6,z3]
 have g5:(zh5 s.heap b1 b2 l1 l2).get? (zh4 s.heap b1 b2 l1 l2).objs.size=some _:=F3 _ rfl;have g4:(zh5 s.heap b1 b2 l1 l2).get? (zh3 s.heap b1 b2 l1 l2).objs.size=some _:=B7 _ (F3 _ rfl);have g3:(zh5 s.heap b1 b2 l1 l2).get? (zh2 s.heap b1 b2 l1 l2).objs.size=some _:=B7 _ (B7 _ (F3 _ rfl));have g2:(zh5 s.heap b1 b2 l1 l2).get? (s.heap.push (itO b1 l1)).objs.size=some _:=B7 _ (B7 _ (B7 _ (F3 _ (JZ b2 l2))));have g1:(zh5 s.heap b1 b2 l1 l2).get? s.heap.objs.size=some _:=B7 _ (B7 _ (B7 _ (B7 _ (F3 _ (JZ b1 l1)))));show _/\_;rw [z2,z3,z4] at g5;rw [z1,z2] at g3;rw [z3] at g4;rw [z1] at g2;rw [z4];exact⟨⟨_,g5,rfl⟩,h _ g5 g3 g4 (J_ g1) (J_ g2) fun c o x=>B7 _ (B7 _ (B7 _ (B7 _ (B7 _ x))))⟩
end
section
variable {X:Cx}
def ItzB (b1 b2:Bool)(K:A4)(a c:Addr):It:=
 ⟨fun i H=>∃xs ys x y,SqB b1 K H a xs/\SqB b2 K H c ys/\xs[i]?=some x/\ys[i]?=some y,
  fun i H x H'=>∃p u v,H p=none/\x=.ref p/\H'=upd H p (.tup [u,v])/\(∀xs,SqB b1 K H a xs->xs[i]?=some u)/\∀ys,SqB b2 K H c ys->ys[i]?=some v,
  fun i H=>∃xs ys,SqB b1 K H a xs/\SqB b2 K H c ys/\min xs.length ys.length<=i⟩
theorem EE (p:SeB b h l items)(he:h.get? e=some o)(hc:o.cls=.type n)(h1:n≠"list")(h2:n≠"tuple"):l≠e:=fun z=>by
 obtain⟨o',e1,c1⟩:=p.obj;rw [z,he] at e1;cases e1;rw [hc] at c1;rcases c1 with c1 | c1
 · exact h1 (Value.type.inj c1)
 · exact h2 (Value.type.inj c1)
theorem EF {l z TI TO i1 i2:Addr}(I:Inv X pins σ H s)(hf:∀d∈[z,TI,TO,i1,i2],FpOk X pins H d)(hTO:IsPair s.heap TO p q)(hq:SqB b X.K H l xs):l≠TO:=fun zz=>by
 obtain⟨f0,f1,f2,f3,f4,f5⟩:=hf TO (by simp);subst zz;cases b with
 | true =>
   obtain⟨its,_,pl,_⟩:=I.list hq;obtain⟨o,e,c1,_⟩:=pl.isList;rw [hTO] at e;cases e;exact absurd (show L9 "tuple"=L9 "list" from c1) (by decide)
 | false =>
   rcases hq with hq | ⟨o,its,n,hk,hc1,hs,hz,r⟩
   · rcases hq with e | ⟨o,e⟩
     · rw [f0] at e;cases e
     · rw [f0] at e;cases e
   · have eb:X.base.get? l=some o:=I.ok.mod.kin l o hk;rcases f3 with f3 | f3
     · exact I.ok.noex l o eb f3
     · exact absurd (K1 (C0 eb) (K5 I.ok.bsz f3)) (Z2 _)
theorem Inv.turnedAll {ch:List Addr}(I:Inv X pins σ H s)(k:∀b o,b∉ch->s.heap.get? b=some o->h'.get? b=some o)(hf:∀b∈ch,FpOk X pins H b):Inv X pins σ H { s with heap:=h',toks:=t' }:=by
 have nch:∀b u,H b=some u->b∉ch:=fun b u e z=>by rw [(hf b z).1] at e;cases e
 refine I.step (g':=s.gens) (d':=s.drawn) (ch:=ch) (fun b hb=>⟨(hf b hb).2.2.2.1,(hf b hb).2.1,(hf b hb).2.2.2.2.1,(hf b hb).2.2.2.2.2⟩) (fun b o _ _ hc e _=>k b o hc e) (fun b o _ _ hc e _=>⟨o.slots,k b o hc e⟩) (fun _ _ _ _ n=>n)
   (fun b o hc e=>⟨o,k b o hc e⟩) (fun _ _ e=>e) (fun _ _ _ e=>e) (fun b ps e=>⟨#[],by rw [e];simp⟩) (fun z=>z) (fun m hm=>?_) (fun b u e=>?_) I.bare
 · obtain⟨o,es,ep,ho,r⟩:=hm;exact⟨o,es,ep,k _ o (fun z=>(hf _ z).2.1 rfl) ho,r⟩
 · refine(I.hok b u e).stay (fun c v hc q=>k c v ?_ q) (fun c q=>q) fun c ys q=>q;rcases hc with z | z
   · rw [z];exact nch b u e
   · exact nch c _ z
theorem Pf {b1 b2:Bool}{P:C5}{w:World}{K:A4}{elts:List Expr}{x1}{pos:Pos}(a c z TI TO i1 i2:Addr)(D:ZAp z TI TO i1 i2) :
   Turn P w K (.Tuple elts x1 pos) (ItzB b1 b2 K a c) [z,TI,TO,i1,i2] z (fun i h=>IsZip h z TI TO .none/\IsPair h TI (.ref i1) (.ref i2)/\(∃p q,IsPair h TO p q)/\ItB b1 h i1 a i/\ItB b2 h i2 c i) where
 mem:=by simp
 obj:=fun i h st e he=>by
   obtain⟨hz,h1,⟨p,q,h2⟩,h3,h4⟩:=st;obtain⟨o3,e3,_,d3⟩:=h3.obj;obtain⟨o4,e4,_,d4⟩:=h4.obj;have he':e=z\/e=TI\/e=TO\/e=i1\/e=i2:=by simpa using he
   rcases he' with rfl | rfl | rfl | rfl | rfl
   · exact⟨_,hz,fun v z=>by cases z⟩
   · exact⟨_,h1,fun v z=>by cases z⟩
   · exact⟨_,h2,fun v z=>by cases z⟩
   · exact⟨_,e3,d3⟩
   · exact⟨_,e4,d4⟩
 keep:=fun i h h' st k=>by
   obtain⟨hz,h1,⟨p,q,h2⟩,h3,h4⟩:=st;exact⟨k z (by simp) _ hz,k TI (by simp) _ h1,⟨p,q,k TO (by simp) _ h2⟩,h3.at fun o e=>k i1 (by simp) o e,h4.at fun o e=>k i2 (by simp) o e⟩
 item:=by
   intro X hP hw hK hc i pins s σ H E I hf st hg;subst hP hw hK;obtain⟨hz,hTI,⟨p,q,hTO⟩,h3,h4⟩:=st;obtain⟨xs,ys,x,y,hq1,hq2,hx,hy⟩:=hg;obtain⟨is1,rv1,p1,hz1⟩:=I.seqB hq1;obtain⟨is2,rv2,p2,hz2⟩:=I.seqB hq2;obtain⟨u,hu,ru⟩:=rv1.get hx;obtain⟨v,hv,rv⟩:=rv2.get hy;have ty:s.TypeIs (.ref z) "zip":=⟨_,hz,rfl⟩;unfold pyNext;refine A0 (wpAny_attempt (l4 (name:=A3 "__next__") ty DN (W0 DN ty F.entry_zip_next (Pe D (EE p1 hz rfl (by decide) (by decide)) (EE p2 hz rfl (by decide) (by decide)) (EF I hf hTO hq1) (EF I hf hTO hq2) (h3.ne p1) (h3.ne p2) hz hTI hTO h3 h4 p1 p2 (by simpa using hu) (by simpa using hv) fun h' a1 a2 a3 a4 a5 k=>A5 ?_) (F.args_zip_next_1 _))));refine⟨_,rfl,wpAny_letOwnedTupleGo_zip (s:={ s with heap:=h' }) a1 fun h'' z'' sb=>?_⟩;have lt:∀{d:Addr} {o:Obj},s.heap.get? d=some o->s.heap.objs.size≠d:=fun e=>i5 (C0 e);have ht'':h''.get? s.heap.objs.size=some { cls:=.type "tuple",data:=.seq #[u,v] }:=(sb.2 _ (lt hz)).trans a5
   have k':∀d o,d∉[z,TI,TO,i1,i2]->s.heap.get? d=some o->h''.get? d=some o:=fun d o hb q=>by
     have hb1:d≠z:=fun e=>hb (by simp [e]);exact(sb.2 d hb1).trans (k d o hb1 (fun e=>hb (by simp [e])) (fun e=>hb (by simp [e])) (fun e=>hb (by simp [e])) q)
   have I1:Inv X pins σ (upd H s.heap.objs.size (.tup [x,y])) { s with heap:=h'' }:=
     I.turnedNew (t':=s.toks) k' hf ⟨by show 2<=B5;decide,[u,v],.cons ru (.cons rv .nil),⟨_,ht'',rfl,_,rfl⟩⟩
   obtain⟨o3,e3,_,_⟩:=h3.obj;obtain⟨o4,e4,_,_⟩:=h4.obj
   refine⟨.ref s.heap.objs.size,_,I1,rfl,⟨_,x,y,I.fresh,rfl,rfl,fun zs hzs=>by rw [I.seqB_inj hzs hq1];exact hx,fun zs hzs=>by rw [I.seqB_inj hzs hq2];exact hy⟩,
     ⟨z'',sb.extBut _ _ D.a1 (k _ _ D.a1 D.a5 D.a6 D.a7 hTI),⟨u,v,sb.extBut _ _ D.a2 a2⟩,a3.at fun o e=>sb.extBut _ o D.a3 e,a4.at fun o e=>sb.extBut _ o D.a4 e⟩,fun d hd=>?_⟩
   have hd':d=z\/d=TI\/d=TO\/d=i1\/d=i2:=by simpa using hd
   have hds:d≠s.heap.objs.size:=by
     rcases hd' with rfl | rfl | rfl | rfl | rfl
     · exact(lt hz).symm
     · exact(lt hTI).symm
     · exact(lt hTO).symm
     · exact(lt e3).symm
     · exact(lt e4).symm
   rw [A7 hds];exact(hf d hd).1
 done:=by
   intro X hP hw hK hc i pins s σ H E I hf st hg;subst hP hw hK;obtain⟨hz,hTI,⟨p,q,hTO⟩,h3,h4⟩:=st;obtain⟨xs,ys,hq1,hq2,hmin⟩:=hg;obtain⟨is1,rv1,p1,hz1⟩:=I.seqB hq1;obtain⟨is2,rv2,p2,hz2⟩:=I.seqB hq2;have l1:=rv1.length;have l2:=rv2.length;have ty:s.TypeIs (.ref z) "zip":=⟨_,hz,rfl⟩
   have hend:is1.toArray[i]?=none\/is2.toArray[i]?=none:=by
     rcases BS xs.length ys.length with h | h
     · exact .inl (FG (by rw [E3];omega))
     · exact .inr (FG (by rw [E3];omega))
   unfold pyNext;refine A0 (wpAny_attempt (l4 (name:=A3 "__next__") ty DN (W0 DN ty F.entry_zip_next (zipEnd (A:=X.A.in1) (I.ok.hd hc) D (EE p1 hz rfl (by decide) (by decide)) (EE p2 hz rfl (by decide) (by decide)) (EF I hf hTO hq1) (EF I hf hTO hq2) (h3.ne p1) (h3.ne p2) hz hTI hTO h3 h4 p1 p2 hend fun h' e k he=>?_) (F.args_zip_next_1 _))));obtain⟨o,ho,hce⟩:=he;refine A0 (wpAny_isInstance (T:="StopIteration") (b:=true) ⟨o,ho,hce⟩ isSubtype_stop (A5 ⟨rfl,?_⟩));exact I.turnedAll (t':=s.toks) (ch:=[z,TI,TO,i1,i2]) (fun d o hd e=>k d o (fun z=>hd (by simp [z])) (fun z=>hd (by simp [z])) (fun z=>hd (by simp [z])) (fun z=>hd (by simp [z])) e) hf
 self:=fun _ _ _ _ _ st h=>wpAny_pyIter_zip st.1 h
end
end L2
end
section
namespace L2
open PySem PySem.Spec PyProof.Rows
section
variable {X:Cx}
def iZipB (b1 b2:Bool)(K:A4)(ta:TA):TI:=fun σ H R=>ta σ H fun vs H1=>∃a c,vs=[.ref a,.ref c]/\(∃xs,SqB b1 K H1 a xs)/\(∃ys,SqB b2 K H1 c ys)/\R (ItzB b1 b2 K a c) H1
theorem Pg (b1 b2:Bool){a b:Expr}{ta:TA}{p pos:Pos}{elts:List Expr}{x1}{tpos:Pos}(hg:Gl X "zip")(hm:X.mg "zip"=none)(ha:PA X [a,b] ta)(hs:D6 [a,b] X.env=[(false,eval a X.env),(false,eval b X.env)]:=by rfl)(hs2:D6 [b] X.env=[(false,eval b X.env)]:=by rfl) :
   PI X (.Tuple elts x1 tpos) (.Call (.Name "zip" p) [a,b] [] pos) (iZipB b1 b2 X.K ta):=by
 intro pins s σ H R I h;refine Call_ (b0 I hg hm boot_zip (o0 (thn (ha pos pins s σ H _ I h) fun us s1 ⟨vs,H1,I1,r1,q1⟩=>?_) (by rw [hs,hs2]) (by rw [hs2];rfl)));obtain⟨a,c,e,⟨xs,h1⟩,⟨ys,h2⟩,q⟩:=q1;subst e;cases r1 with
 | cons r rr =>
   cases rr with
   | cons r' rr =>
     cases rr;cases r;cases r';obtain⟨is1,rv1,p1,hz1⟩:=I1.seqB h1;obtain⟨is2,rv2,p2,hz2⟩:=I1.seqB h2;refine zipB p1 p2 fun h' e1 e2 e3 e4 e5 hk=>?_;refine wpAny_pyIter_zip e1 ?_;have I2:Inv X pins σ H1 { s1 with heap:=h' }:=I1.kept (t':=s1.toks) hk;refine⟨s1.heap.objs.size + 4,[s1.heap.objs.size + 4,s1.heap.objs.size + 2,s1.heap.objs.size + 3,s1.heap.objs.size,s1.heap.objs.size + 1],_,_,H1,rfl,I2,Pf a c _ _ _ _ _ ⟨by simp,by simp,by simp,by simp,by simp,by simp,by simp,by simp,by simp,by simp⟩,⟨e1,e2,⟨_,_,e3⟩,e4,e5⟩,fun d hd=>?_,q⟩
     have hd':s1.heap.objs.size<=d:=by
       simp only [B6,e7,or_false] at hd;rcases hd with rfl | rfl | rfl | rfl | rfl <;> omega
     exact I1.fpOk hd' (I1.hok.fresh hd')
end
end L2
namespace Pu
open PySem PySem.Spec L2
section
variable {T:PotK}{ι:Type}{K:A4}{F:ι->Cx}{e a b tg:Expr}{pe pa pb:pE}{pos:Pos}
def GT (pe:pE):pA:=fun env n R=>pe env n fun x env1 n1=>match x with | .tup xs=>R (Cy xs) env1 n1 | _=>False
theorem Ph {p:Pos}{elts:List Expr}{x1:Nat}{tpos:Pos}(hg:∀z,Gl (F z) "enumerate")(hm:∀z,(F z).mg "enumerate"=none)(h:QE T K F e pe)(hs:E5 e=true:=by rfl)(hK:∀z,(F z).K=K:=by intro _;rfl):QI T K F (.Tuple elts x1 tpos) (.Call (.Name "enumerate" p) [e] [] pos) (GT pe):=by
 obtain⟨t,h1,h2⟩:=h;refine⟨_,fun z=>hK z▸Pd false (hg z) (hm z) (E9 (h1 z) G7 (C8 hs)) (by rw [C8 hs];rfl),fun C G σ H env n R Q hK hT S hp k=>?_⟩;refine h2 C G σ H env n _ _ hK hT S hp fun x env1 n1 v H1 p1 S1 r1 f1=>?_;cases x with
 | tup xs =>
   obtain⟨a,vs,rfl,t,r⟩:=r1;refine⟨a,rfl,⟨vs,t.sq⟩,k _ _ _ _ _ p1 S1 f1 ?_⟩;intro G2 H2 hk hM hp hf;have hq:SqB false K H2 a vs:=SqT.of (hk a _ t.1 t.2);have r2:Reps K G2 H2 xs vs:=Reps.mono hk hM hp _ _ r;refine⟨fun i x e=>?_,fun i hi=>⟨vs,hq,by rw [<- r.length,<- NZ];exact hi⟩⟩;obtain⟨y,ey,rfl⟩:=Js e;obtain⟨v,ev,rv⟩:=r2.get' ey;refine⟨⟨vs,v,hq,ev⟩,fun v' H3 y=>?_⟩;obtain⟨p,w,hn,rfl,rfl,y⟩:=y;have:=y vs hq;rw [ev] at this;cases this;exact⟨Same.lay1 hn,y8 (hf p hn) hn (.cons rfl (.one rv))⟩
 | _=>exact p1.elim
def zipP (xs ys:List PV):List PV:=(xs.zip ys).map fun y=>.tup [y.1,y.2]
def Ae (b:Bool):PV->Option (List PV)
 | .lst xs=>if b then some xs else none
 | .tup xs=>if b then none else some xs
 | _=>none
theorem Pi {b:Bool}(h:Ae b x=some xs):x=(match b with | true=>.lst xs | false=>.tup xs):=by
 cases x <;> cases b <;> simp [Ae] at h <;> simp [h]
theorem Ka {b:Bool}(h:Ae b x=some xs)(r:Rep K G H x v):∃a vs,v=.ref a/\a∉G.M/\Reps K G H xs vs/\∀H2,(∀c o,c∉G.M->H c=some o->H2 c=some o)->SqB b K H2 a vs:=by
 rw [Pi h] at r;cases b with
 | true =>
   obtain⟨a,vs,e,t,r⟩:=r;exact⟨a,vs,e,t.1,r,fun H2 hk=>SqL.of (hk a _ t.1 t.2)⟩
 | false =>
   obtain⟨a,vs,e,t,r⟩:=r;exact⟨a,vs,e,t.1,r,fun H2 hk=>SqT.of (hk a _ t.1 t.2)⟩
def qZip (b1 b2:Bool)(pa pb:pE):pA:=fun env n R=>pa env n fun x env1 n1=>pb env1 n1 fun y env2 n2=>match Ae b1 x,Ae b2 y with | some xs,some ys=>R (zipP xs ys) env2 n2 | _,_=>False
theorem Kb (xs ys:List PV):(zipP xs ys).length=min xs.length ys.length:=by simp [zipP]
theorem Kc {xs ys:List PV}{i:Nat}{x:PV}(h:(zipP xs ys)[i]?=some x):∃u v,xs[i]?=some u/\ys[i]?=some v/\x=.tup [u,v]:=by grind [PV,zipP]
theorem Kd (b1 b2:Bool)(hg:∀z,Gl (F z) "zip")(hm:∀z,(F z).mg "zip"=none)(ha:QE T K F a pa)(hb:QE T K F b pb)(hs:E5 a=true:=by rfl)(hs2:E5 b=true:=by rfl)(hK:∀z,(F z).K=K:=by intro _;rfl):QI T K F (.Tuple elts x1 tpos) (.Call (.Name "zip" p) [a,b] [] pos) (qZip b1 b2 pa pb):=by
 obtain⟨t,h1,h2⟩:=ha;obtain⟨u,h3,h4⟩:=hb;refine⟨_,fun z=>hK z▸Pg b1 b2 (hg z) (hm z) (E9 (h1 z) (E9 (h3 z) G7 (C8 hs2)) (C8 hs)) (by rw [C8 hs,C8 hs2];rfl) (by rw [C8 hs2];rfl),fun C G σ H env n R Q hK hT S hp k=>?_⟩;refine h2 C G σ H env n _ _ hK hT S hp fun x env1 n1 v H1 p1 S1 r1 f1=>?_;refine h4 C G σ H1 env1 n1 _ _ hK hT S1 p1 fun y env2 n2 w H2 p2 S2 r2 f2=>?_
 split at p2
 · rename_i xs ys ex ey;obtain⟨a,vs,rfl,na,ra,sa⟩:=Ka ex (r1.fr f2);obtain⟨c,us,rfl,nc,rc,scq⟩:=Ka ey r2;refine⟨a,c,rfl,⟨vs,sa H2 fun _ _ _ e=>e⟩,⟨us,scq H2 fun _ _ _ e=>e⟩,k _ _ _ _ _ p2 S2 (f1.trans f2) ?_⟩;intro G2 H3 hk hM hp hf;have ra':Reps K G2 H3 xs vs:=Reps.mono hk hM hp _ _ ra;have rc':Reps K G2 H3 ys us:=Reps.mono hk hM hp _ _ rc;refine⟨fun i x e=>?_,fun i hi=>⟨vs,us,sa H3 hk,scq H3 hk,by rw [<- ra.length,<- rc.length,<- Kb];exact hi⟩⟩;obtain⟨u,v,eu,ev,rfl⟩:=Kc e;obtain⟨u',eu',ru⟩:=ra'.get' eu;obtain⟨v',ev',rv⟩:=rc'.get' ev;refine⟨⟨vs,us,u',v',sa H3 hk,scq H3 hk,eu',ev'⟩,fun x' H4 y=>?_⟩;obtain⟨p,u2,v2,hn,rfl,rfl,y1,y2⟩:=y;have q1:=y1 vs (sa H3 hk);have q2:=y2 us (scq H3 hk);rw [eu'] at q1;rw [ev'] at q2;cases q1;cases q2;exact⟨Same.lay1 hn,y8 (hf p hn) hn (.cons ru (.one rv))⟩
 · exact p2.elim
end
end Pu
end
section
namespace L2
open PySem PySem.Spec PyProof.Rows
section
variable {X:Cx}
theorem Ke:∀(xs:List V) (us:List Value),xs.length=us.length->(∀(j:Nat) (x:V) (u:Value),xs[j]?=some x->us[j]?=some u->RelV x u)->Vals xs us
 | [],[],_,_=>.nil
 | [],_::_,h,_=>by cases h
 | _::_,[],h,_=>by cases h
 | x::xs,u::us,h,hr=>.cons (hr 0 x u rfl rfl) (Ke xs us (by simpa using h) fun j x u e1 e2=>hr (j + 1) x u (by simpa using e1) (by simpa using e2))
end
end L2
end
section
namespace Pu
open PySem PySem.Spec L2
def jn (sep:List Nat):List (List Nat)->List Nat
 | []=>[]
 | [x]=>x
 | x::y::r=>x++sep++jn sep (y::r)
mutual
def pln:PV->Bool
 | .non=>true
 | .bl _=>true
 | .int _=>true
 | .str _=>true
 | .tup xs=>plns xs
 | .lst xs=>plns xs
 | _=>false
def plns:List PV->Bool
 | []=>true
 | x::xs=>pln x && plns xs
end
mutual
theorem Kf:∀x:PV,pln x=true->eqP x x=true
 | .non,_=>rfl
 | .bl b,_=>by rw [GG];exact decide_eq_true rfl
 | .int i,_=>by rw [JB];exact decide_eq_true rfl
 | .str z,_=>by rw [GF];exact decide_eq_true rfl
 | .tup xs,h=>by rw [JD];exact CH xs (by simpa [pln] using h)
 | .lst xs,h=>by rw [JC];exact CH xs (by simpa [pln] using h)
 | .ty _,h=>by simp [pln] at h
 | .pot _,h=>by simp [pln] at h
 | .scr _,h=>by simp [pln] at h
 | .fdt _ _,h=>by simp [pln] at h
 | .dct _ _,h=>by simp [pln] at h
theorem CH:∀xs:List PV,plns xs=true->eqPs xs xs=true
 | [],_=>rfl
 | x :: xs, h => by
   have h':pln x=true/\plns xs=true:=by simpa [plns] using h
   rw [JE,Kf x h'.1,CH xs h'.2];rfl
end
theorem Kg:∀xs:List PV,(∀x∈xs,pln x=true)->plns xs=true:=by
 intro xq
 induction xq with
 | nil =>
   intro _;exact rfl
 | cons x xs ih =>
   intro h;simp only [plns,l9];exact⟨h x B8,ih fun y hy=>h y (B3 _ hy)⟩
theorem Kh {te:pE}{rest:Env}{α:Type}(f:α->PV)(g:α->PV):∀(xs:List α) (s0:Option Slot) (n:Nat) (R:List PV->Nat->Prop),(∀x∈xs,∀m Q,Q (g x) (some (.v (f x))::rest) m->te (some (.v (f x))::rest) m Q)->R (xs.map g) n->Y1 (gN 0) qTru te (xs.map f) (s0::rest) n R:=by
 intro xq
 induction xq with
 | nil =>
   intro _ _ _ _ h;exact h
 | cons x xs ih =>
   intro s0 n R ht h;show te (some (.v (f x))::rest) n _;refine ht x B8 n _ ?_;exact ih _ n _ (fun y hy=>ht y (B3 _ hy)) h
end Pu
end
section
namespace L2
open PySem PySem.W PyProof.Rows
namespace Kr
def run {α:Type}(lt:Nat->Nat->Bool):KasT α->α
 | .ret a=>a
 | .ask i j k=>run lt (k (lt i j))
theorem Bo {α β:Type}(lt:Nat->Nat->Bool)(f:α->KasT β):∀t:KasT α,run lt (t.bind f)=run lt (f (run lt t))
 | .ret a=>rfl
 | .ask i j k=>Bo lt f (k (lt i j))
structure Ord (lt:Nat->Nat->Bool):Prop where
 ir:∀a,lt a a=false
 tr:∀a b c,lt a b=true->lt b c=true->lt a c=true
 nt:∀a b c,lt a c=true->lt a b=true\/lt b c=true
variable {lt:Nat->Nat->Bool}(O:Ord lt)
include O
theorem Ord.as (h:lt a b=true):lt b a=false:=by
 cases e:lt b a with
 | false=>rfl
 | true=>have:=O.tr _ _ _ h e;rw [O.ir] at this;cases this
theorem Ord.le (h1:lt b a=false)(h2:lt c b=false):lt c a=false:=by
 cases e:lt c a with
 | false=>rfl
 | true=>rcases O.nt c b a e with h | h <;> simp_all
theorem Ord.l1 (h1:lt a b=true)(h2:lt c b=false):lt a c=true:=by
 rcases O.nt a c b h1 with h | h
 · exact h
 · rw [h2] at h;cases h
theorem Ord.l2 (h1:lt b a=false)(h2:lt b c=true):lt a c=true:=by
 rcases O.nt b a c h2 with h | h
 · rw [h1] at h;cases h
 · exact h
omit O
def g (p:Array Nat)(i:Nat):Nat:=p.getD i 0
theorem g_eq (p:Array Nat)(i:Nat):g p i=(p[i]?).getD 0:=by unfold g;rw [Array.getD_eq_getD_getElem?]
theorem c7 (h:j<=p.size)(k:Nat):g (N8 p i j) k=if i<=k/\k < j then g p (i + j - 1 - k) else g p k:=by
 unfold N8;rw [g_eq,getElem?_mirror_all h]
 split <;> rw [g_eq]
theorem g_bub (h:k < p.size)(hl:l<=k)(i:Nat):g (bubble p k (k - l)) i=if i=l then g p k else if l < i/\i<=k then g p (i - 1) else g p i:=by
 rw [g_eq,getElem?_bubble h (k - l) (by omega),show k - (k - l)=l by omega]
 split
 · rw [g_eq]
 · split <;> rw [g_eq]
theorem Af (p:Array Nat)(i j:Nat):(N8 p i j).size=p.size:=mirror_size _ _ _ _
theorem CJ (p:Array Nat)(i j:Nat):(N8 p i j).Perm p:=mirror_perm _ _ _ _
def S (lt:Nat->Nat->Bool)(p:Array Nat)(k:Nat):Prop:=∀i j,i<=j->j < k->lt (g p j) (g p i)=false
def D (lt:Nat->Nat->Bool)(p:Array Nat)(k:Nat):Prop:=∀i j,i<=j->j < k->lt (g p i) (g p j)=false
def B (lt:Nat->Nat->Bool)(p:Array Nat)(a k:Nat):Prop:=∀i j,a<=i->i < k->a<=j->j < k->lt (g p i) (g p j)=false
include O
theorem S_succ (h:S lt p n)(hn:1<=n)(hl:lt (g p n) (g p (n - 1))=false):S lt p (n + 1):=by
 intro i j hij hj;rcases Nat.lt_succ_iff_lt_or_eq.mp hj with h1 | h1
 · exact h i j hij h1
 · subst h1;rcases Nat.lt_or_eq_of_le hij with h2 | h2
   · exact O.le (h i (j - 1) (by omega) (by omega)) hl
   · rw [h2];exact O.ir _
theorem Ki (p:Array Nat):∀(f n:Nat),1<=n->S lt p n->n<=run lt (Q3 p f n)/\run lt (Q3 p f n)<=n + f/\S lt p (run lt (Q3 p f n))/\(run lt (Q3 p f n)=n + f\/lt (g p (run lt (Q3 p f n))) (g p (run lt (Q3 p f n) - 1))=true):=by
 intro xq
 induction xq with
 | zero =>
   intro n hn h;exact⟨B4 _,B4 _,h,.inl rfl⟩
 | succ f ih =>
   intro n hn h;show n<=run lt (if lt (g p n) (g p (n - 1))=true then .ret n else Q3 p f (n + 1))/\run lt (if lt (g p n) (g p (n - 1))=true then .ret n else Q3 p f (n + 1))<=n + (f + 1)/\S lt p (run lt (if lt (g p n) (g p (n - 1))=true then .ret n else Q3 p f (n + 1)))/\(run lt (if lt (g p n) (g p (n - 1))=true then .ret n else Q3 p f (n + 1))=n + (f + 1)\/lt (g p (run lt (if lt (g p n) (g p (n - 1))=true then .ret n else Q3 p f (n + 1)))) (g p (run lt (if lt (g p n) (g p (n - 1))=true then .ret n else Q3 p f (n + 1)) - 1))=true);cases e:lt (g p n) (g p (n - 1)) with
   | true =>
     rw [if_pos rfl];exact⟨B4 _,by show n<=_;omega,h,.inr e⟩
   | false =>
     rw [if_neg (by simp)];obtain⟨h1,h2,h3,h4⟩:=ih (n + 1) (by omega) (S_succ O h hn e);exact⟨by omega,by omega,h3,h4.imp (fun x=>by omega) id⟩
theorem D_rev (hn:n<=p.size)(h:D lt p n)(hb:B lt p a n):D lt (N8 p a n) n:=by
 intro i j hij hj;rw [c7 hn,c7 hn]
 by_cases c1:a<=i
 · rw [if_pos ⟨c1,by omega⟩,if_pos ⟨by omega,hj⟩];exact hb _ _ (by omega) (by omega) (by omega) (by omega)
 · rw [if_neg (by omega)]
   by_cases c2:a<=j
   · rw [if_pos ⟨c2,hj⟩];exact h _ _ (by omega) (by omega)
   · rw [if_neg (by omega)];exact h _ _ hij hj
theorem CK (h:D lt p n)(hn:1<=n)(hl:lt (g p (n - 1)) (g p n)=false):D lt p (n + 1):=by
 intro i j hij hj;rcases Nat.lt_succ_iff_lt_or_eq.mp hj with h1 | h1
 · exact h i j hij h1
 · subst h1;rcases Nat.lt_or_eq_of_le hij with h2 | h2
   · exact O.le hl (h i (j - 1) (by omega) (by omega))
   · rw [h2];exact O.ir _
theorem Pj:∀(f:Nat) (p:Array Nat) (n q:Nat),q + 1<=n->n + f<=p.size->D lt p n->B lt p (n - (q + 1)) n->
   ∃p' n' q',run lt (Y9 f p n q)=(p',n',q')/\p'.Perm p/\p'.size=p.size/\n<=n'/\n'<=n + f/\q' + 1<=n'/\D lt p' n'/\B lt p' (n' - (q' + 1)) n':=by
 intro xq
 induction xq with
 | zero =>
   intro p n q hq hs h hb;exact⟨p,n,q,rfl,w9 _,rfl,B4 _,B4 _,hq,h,hb⟩
 | succ f ih =>
   intro p n q hq hs h hb
   have one:∀p n,B lt p (n + 1 - (0 + 1)) (n + 1):=fun p n i j h1 h2 h3 h4=>by
     have:i=j:=by omega
     rw [this];exact O.ir _
   cases e:lt (g p n) (g p (n - 1)) with
   | true =>
     by_cases c:q > 0
     · have hd:=D_rev O (by omega:n<=p.size) h hb;have e1:g (N8 p (n - (q + 1)) n) n=g p n:=by rw [c7 (by omega),if_neg (by omega)]
       have e2:g (N8 p (n - (q + 1)) n) (n - 1)=g p (n - (q + 1)):=by rw [c7 (by omega),if_pos (by omega)];congr 1;omega
       have e3:lt (g p (n - (q + 1))) (g p n)=false:=O.as (O.l1 e (hb _ _ (by omega) (by omega) (by omega) (by omega)));obtain⟨p',n',q',a1,a2,a3,a4,a5,a6,a7,a8⟩:=ih (N8 p (n - (q + 1)) n) (n + 1) 0 (by omega) (by rw [Af];omega) (CK O hd (by omega) (by rw [e1,e2];exact e3)) (one _ _);refine⟨p',n',q',?_,a2.trans (CJ _ _ _),by rw [a3,Af],by omega,by omega,a6,a7,a8⟩;show run lt (if lt (g p n) (g p (n - 1))=true then(if q > 0 then Y9 f (N8 p (n - (q + 1)) n) (n + 1) 0 else Y9 f p (n + 1) 0) else _)=_;rw [if_pos e,if_pos c];exact a1
     · obtain⟨p',n',q',a1,a2,a3,a4,a5,a6,a7,a8⟩:=ih p (n + 1) 0 (by omega) (by omega) (CK O h (by omega) (O.as e)) (one _ _);refine⟨p',n',q',?_,a2,a3,by omega,by omega,a6,a7,a8⟩;show run lt (if lt (g p n) (g p (n - 1))=true then(if q > 0 then Y9 f (N8 p (n - (q + 1)) n) (n + 1) 0 else Y9 f p (n + 1) 0) else _)=_;rw [if_pos e,if_neg c];exact a1
   | false =>
     cases e':lt (g p (n - 1)) (g p n) with
     | true =>
       refine⟨p,n,q,?_,w9 _,rfl,B4 _,by omega,hq,h,hb⟩;show run lt (if lt (g p n) (g p (n - 1))=true then _ else KasT.ask (g p (n - 1)) (g p n) fun d=>if d=true then .ret (p,n,q) else Y9 f p (n + 1) (q + 1))=_;rw [if_neg (by rw [e];simp)];show run lt (if lt (g p (n - 1)) (g p n)=true then .ret (p,n,q) else Y9 f p (n + 1) (q + 1))=_;rw [if_pos e'];rfl
     | false =>
       have hb':B lt p (n + 1 - (q + 1 + 1)) (n + 1):=by
         have up:∀i,n - (q + 1)<=i->i < n->lt (g p i) (g p n)=false/\lt (g p n) (g p i)=false:=fun i h1 h2=>
           ⟨O.le e' (hb i (n - 1) h1 h2 (by omega) (by omega)),O.le (hb (n - 1) i (by omega) (by omega) h1 h2) e⟩
         intro i j h1 h2 h3 h4
         by_cases ci:i < n
         · by_cases cj:j < n
           · exact hb i j (by omega) ci (by omega) cj
           · rw [show j=n by omega];exact(up i (by omega) ci).1
         · rw [show i=n by omega]
           by_cases cj:j < n
           · exact(up j (by omega) cj).2
           · rw [show j=n by omega];exact O.ir _
       obtain⟨p',n',q',a1,a2,a3,a4,a5,a6,a7,a8⟩:=ih p (n + 1) (q + 1) (by omega) (by omega) (CK O h (by omega) e') hb';refine⟨p',n',q',?_,a2,a3,by omega,by omega,a6,a7,a8⟩;show run lt (if lt (g p n) (g p (n - 1))=true then _ else KasT.ask (g p (n - 1)) (g p n) fun d=>if d=true then .ret (p,n,q) else Y9 f p (n + 1) (q + 1))=_;rw [if_neg (by rw [e];simp)];show run lt (if lt (g p (n - 1)) (g p n)=true then .ret (p,n,q) else Y9 f p (n + 1) (q + 1))=_;rw [if_neg (by rw [e'];simp)];exact a1
theorem S_of_D (hn:n<=p.size)(h:D lt p n):S lt (N8 p 0 n) n:=by
 intro i j hij hj;rw [c7 hn,c7 hn,if_pos ⟨by omega,hj⟩,if_pos ⟨by omega,by omega⟩];exact h _ _ (by omega) (by omega)
theorem Kj (h1:1<=n)(hn:n<=nrem)(hs:nrem<=p.size)(h:D lt p n) :
   ∃m p',run lt (kas_tail3 n nrem p)=(m,p')/\p'.Perm p/\p'.size=p.size/\1<=m/\m<=nrem/\S lt p' m:=by
 obtain⟨a1,a2,a3,_⟩:=Ki O (N8 p 0 n) (nrem - n) n h1 (S_of_D O (by omega) h);refine⟨_,N8 p 0 n,?_,CJ _ _ _,Af _ _ _,?_,?_,a3⟩
 · unfold kas_tail3;rw [Bo];rfl
 · omega
 · omega
theorem Kk (h1:1<=n)(hn:n + 1<=nrem)(hs:nrem<=p.size)(h:D lt p (n + 1)) :
   ∃m p',run lt (kas_descPart n nrem p)=(m,p')/\p'.Perm p/\p'.size=p.size/\1<=m/\m<=nrem/\S lt p' m:=by
 obtain⟨p',n',q',a1,a2,a3,a4,a5,a6,a7,a8⟩:=Pj O (nrem - (n + 1)) p (n + 1) 0 (by omega) (by omega) h (fun i j h1 h2 h3 h4=>by
   have:i=j:=by omega
   rw [this];exact O.ir _)
 unfold kas_descPart;rw [Bo,a1];dsimp only
 by_cases c:q' > 0
 · rw [if_pos c];obtain⟨m,p2,b1,b2,b3,b4,b5,b6⟩:=Kj O (p:=N8 p' (n' - (q' + 1)) n') (n:=n') (nrem:=nrem) (by omega) (by omega) (by rw [Af];omega) (D_rev O (by omega) a7 a8);exact⟨m,p2,b1,(b2.trans (CJ _ _ _)).trans a2,by rw [b3,Af,a3],b4,b5,b6⟩
 · rw [if_neg c];obtain⟨m,p2,b1,b2,b3,b4,b5,b6⟩:=Kj O (p:=p') (n:=n') (nrem:=nrem) (by omega) (by omega) (by omega) a7;exact⟨m,p2,b1,b2.trans a2,by rw [b3,a3],b4,b5,b6⟩
theorem Pk (h1:1<=n)(hs:p.size=n):∃m p',run lt (kas_count n p)=(m,p')/\p'.Perm p/\p'.size=p.size/\1<=m/\m<=n/\S lt p' m:=by
 have s1:S lt p 1:=fun i j h2 h3=>by
   have:i=j:=by omega
   rw [this];exact O.ir _
 obtain⟨a1,a2,a3,a4⟩:=Ki O p (n - 1) 1 (B4 _) s1;unfold kas_count;rw [Bo];generalize run lt (Q3 p (n - 1) 1)=k at a1 a2 a3 a4 ⊢
 by_cases c:k=n
 · rw [if_pos (by rw [c];exact beq_self_eq_true n)];exact⟨k,p,rfl,w9 _,rfl,a1,by omega,a3⟩
 · rw [if_neg (by simpa using c)];have a5:lt (g p k) (g p (k - 1))=true:=a4.resolve_left (by omega)
   by_cases c1:k > 1
   · rw [if_pos c1];show ∃m p',run lt (if lt (g p 0) (g p (k - 1))=true then .ret (k,p) else kas_descPart k n (N8 p 0 k))=(m,p')/\_;cases e:lt (g p 0) (g p (k - 1)) with
     | true=>rw [if_pos rfl];exact⟨k,p,rfl,w9 _,rfl,a1,by omega,a3⟩
     | false =>
       rw [if_neg (by simp)]
       have al:∀i j,i < k->j < k->lt (g p i) (g p j)=false:=fun i j hi hj=>by
         have x1:=a3 j (k - 1) (by omega) (by omega);have x2:=a3 0 i (by omega) hi;exact O.le (O.le x1 e) x2
       have hd:D lt (N8 p 0 k) (k + 1):=by
         refine CK O (fun i j hij hj=>?_) a1 ?_
         · rw [c7 (by omega),c7 (by omega),if_pos ⟨by omega,by omega⟩,if_pos ⟨by omega,hj⟩];exact al _ _ (by omega) (by omega)
         · rw [c7 (by omega),c7 (by omega),if_pos ⟨by omega,by omega⟩,if_neg (by omega)];exact O.as (O.l1 a5 (al _ _ (by omega) (by omega)))
       obtain⟨m,p2,b1,b2,b3,b4,b5,b6⟩:=Kk O (p:=N8 p 0 k) (n:=k) (nrem:=n) a1 (by omega) (by rw [Af];omega) hd;exact⟨m,p2,b1,b2.trans (CJ _ _ _),by rw [b3,Af],b4,b5,b6⟩
   · rw [if_neg c1];have hk:k=1:=by omega
     subst hk
     exact Kk O (B4 _) (by omega) (by omega) (CK O (fun i j h2 h3=>by
       have:i=j:=by omega
       rw [this];exact O.ir _) (B4 _) (O.as a5))
theorem Pl (h:S lt p k):∀(f l r:Nat),l<=r->r<=k->r - l<=f->(∀i,i < l->lt (g p k) (g p i)=false)->(∀i,r<=i->i < k->lt (g p k) (g p i)=true)->
   run lt (R6 p k f l r)<=k/\(∀i,i < run lt (R6 p k f l r)->lt (g p k) (g p i)=false)/\(∀i,run lt (R6 p k f l r)<=i->i < k->lt (g p k) (g p i)=true):=by
 intro xq
 induction xq with
 | zero =>
   intro l r h1 h2 h3 h4 h5;have:l=r:=by omega
   subst this;exact⟨h2,h4,h5⟩
 | succ f ih =>
   intro l r h1 h2 h3 h4 h5
   by_cases c:l>=r
   · have:l=r:=by omega
     subst this;unfold R6;rw [if_pos c];exact⟨h2,h4,h5⟩
   · have e:run lt (R6 p k (f + 1) l r)=run lt (if lt (g p k) (g p ((l + r) / 2))=true then R6 p k f l ((l + r) / 2) else R6 p k f ((l + r) / 2 + 1) r):=by
       conv=>lhs;unfold R6
       rw [if_neg c];rfl
     rw [e];cases e2:lt (g p k) (g p ((l + r) / 2)) with
     | true =>
       rw [if_pos rfl];exact ih l ((l + r) / 2) (by omega) (by omega) (by omega) h4 fun i i1 i2=>O.l1 e2 (h _ _ i1 i2)
     | false =>
       rw [if_neg (by simp)];exact ih ((l + r) / 2 + 1) r (by omega) h2 (by omega) (fun i i1=>O.le (h i ((l + r) / 2) (by omega) (by omega)) e2) h5
theorem bin_ok:∀(f:Nat) (p:Array Nat) (k:Nat),k + f<=p.size->S lt p k->(run lt (kas_bin f p k)).Perm p/\(run lt (kas_bin f p k)).size=p.size/\S lt (run lt (kas_bin f p k)) (k + f):=by
 intro xq
 induction xq with
 | zero =>
   intro p k _ h;exact⟨w9 _,rfl,h⟩
 | succ f ih =>
   intro p k hs h;obtain⟨a1,a2,a3⟩:=Pl O h k 0 k (by omega) (B4 _) (by omega) (fun i z=>by omega) (fun i z z2=>by omega)
   have e:run lt (kas_bin (f + 1) p k)=run lt (kas_bin f (bubble p k (k - run lt (R6 p k k 0 k))) (k + 1)):=by
     show run lt ((R6 p k k 0 k).bind fun l=>kas_bin f (bubble p k (k - l)) (k + 1))=_;rw [Bo]
   rw [e];generalize run lt (R6 p k k 0 k)=l at a1 a2 a3 ⊢
   have hS:S lt (bubble p k (k - l)) (k + 1):=by
     intro i j hij hj;rw [g_bub (by omega) a1,g_bub (by omega) a1]
     by_cases ci:i=l
     · rw [if_pos ci]
       by_cases cj:j=l
       · rw [if_pos cj];exact O.ir _
       · rw [if_neg cj,if_pos ⟨by omega,by omega⟩];exact O.as (a3 _ (by omega) (by omega))
     · rw [if_neg ci]
       by_cases cj:j=l
       · grind
       · rw [if_neg cj]
         by_cases c2:l < j
         · rw [if_pos ⟨c2,by omega⟩]
           by_cases c3:l < i
           · rw [if_pos ⟨c3,by omega⟩];exact h _ _ (by omega) (by omega)
           · rw [if_neg (by omega)];exact h _ _ (by omega) (by omega)
         · rw [if_neg (by omega),if_neg (by omega)];exact h _ _ hij (by omega)
   obtain⟨b1,b2,b3⟩:=ih (bubble p k (k - l)) (k + 1) (by rw [bubble_size];omega) hS;exact⟨b1.trans (bubble_perm _ _ _),by rw [b2,bubble_size],by rw [show k + (f + 1)=k + 1 + f by omega];exact b3⟩
theorem sort_ok (h1:1<=n):(run lt (O7 n)).Perm (List.toArray (C2 n))/\(run lt (O7 n)).size=n/\S lt (run lt (O7 n)) n:=by
 have hz:(List.toArray (C2 n)).size=n:=by simp
 obtain⟨m,p,a1,a2,a3,a4,a5,a6⟩:=Pk O (p:=List.toArray (C2 n)) h1 hz;unfold O7;rw [Bo,a1];dsimp only
 by_cases c:m < n
 · rw [if_pos c,Nat.max_eq_left a4];obtain⟨b1,b2,b3⟩:=bin_ok O (n - m) p m (by omega) a6;rw [show m + (n - m)=n by omega] at b3;exact⟨b1.trans a2,by rw [b2,a3,hz],b3⟩
 · rw [if_neg c];have:m=n:=by omega
   subst this;exact⟨a2,by rw [<- hz,<- a3];rfl,a6⟩
omit O
def InQ {α:Type}(n:Nat)(Q:α->Prop):KasT α->Prop
 | .ret a=>Q a
 | .ask i j k=>i < n/\j < n/\∀b,InQ n Q (k b)
theorem Bp {α β:Type}{n:Nat}{Q:α->Prop}{R:β->Prop}{f:α->KasT β}(hf:∀a,Q a->InQ n R (f a)):∀t:KasT α,InQ n Q t->InQ n R (t.bind f)
 | .ret a,h=>hf a h
 | .ask _ _ k,h=>⟨h.1,h.2.1,fun b=>Bp hf (k b) (h.2.2 b)⟩
def En (n:Nat)(p:Array Nat):Prop:=0 < n/\∀x∈p,x < n
theorem En.g (h:En n p)(i:Nat):p.getD i 0 < n:=by
 by_cases c:i < p.size
 · rw [show p.getD i 0=p[i] by simp [Array.getD,c]];exact h.2 _ (Array.getElem_mem c)
 · rw [show p.getD i 0=0 by simp [Array.getD,c]];exact h.1
theorem En.perm {n:Nat}{p q:Array Nat}(h:En n p)(hp:q.Perm p):En n q:=by grind [En]
theorem En.rev (h:En n p)(i j:Nat):En n (N8 p i j):=h.perm (CJ _ _ _)
theorem Kl (h:En n p):∀f m,InQ n (fun _=>True) (Q3 p f m):=by
 intro xq
 induction xq with
 | zero =>
   intro _;exact trivial
 | succ f ih =>
   intro m
   exact⟨h.g _,h.g _,fun b=>by
   cases b with
   | true=>exact trivial
   | false=>exact ih (m + 1)⟩
theorem Pm:∀f p m q,En n p->InQ n (fun r=>En n r.1) (Y9 f p m q):=by
 intro xq
 induction xq with
 | zero =>
   intro _ _ _ h;exact h
 | succ f ih =>
   intro p m q h
   exact⟨h.g _,h.g _,fun b=>by
   cases b with
   | true =>
     show InQ n _ (if q > 0 then _ else _)
     by_cases c:q > 0
     · rw [if_pos c];exact ih _ _ _ (h.rev _ _)
     · rw [if_neg c];exact ih _ _ _ h
   | false =>
     refine⟨h.g _,h.g _,fun d=>?_⟩;cases d with
     | true=>exact h
     | false=>exact ih _ _ _ h⟩
theorem Km (h:En n p):InQ n (fun r=>En n r.2) (kas_tail3 m k p):=by
 unfold kas_tail3;refine Bp (Q:=fun _=>True) (fun a _=>?_) _ (Kl (h.rev _ _) _ _);exact(h.rev _ _:En n _)
theorem Ko (h:En n p):InQ n (fun r=>En n r.2) (kas_descPart m k p):=Bp (fun r hr=>by
   by_cases c:r.2.2 > 0
   · rw [if_pos c];exact Km (hr.rev _ _)
   · rw [if_neg c];exact Km hr) _ (Pm _ _ _ _ h)
theorem Pn (h:En n p):InQ n (fun r=>En n r.2) (kas_count k p):=Bp (fun m _=>by
   by_cases c:(m == k)=true
   · rw [if_pos c];exact h
   · rw [if_neg c]
     by_cases c1:m > 1
     · rw [if_pos c1];refine⟨h.g _,h.g _,fun b=>?_⟩;cases b with
       | true=>exact h
       | false=>exact Ko (h.rev _ _)
     · rw [if_neg c1];exact Ko h) _ (Kl h _ _)
theorem Po (h:En n p):∀f l r,InQ n (fun _=>True) (R6 p k f l r):=by
 intro xq
 induction xq with
 | zero =>
   intro _ _;exact trivial
 | succ f ih =>
   intro l r;unfold R6
   by_cases c:l>=r
   · rw [if_pos c];exact trivial
   · rw [if_neg c];refine⟨h.g _,h.g _,fun b=>?_⟩;cases b with
     | true=>exact ih _ _
     | false=>exact ih _ _
theorem bin_in:∀f p k,En n p->InQ n (fun _=>True) (kas_bin f p k):=by
 intro xq
 induction xq with
 | zero =>
   intro _ _ _;exact trivial
 | succ f ih =>
   intro p k h;exact Bp (fun l _=>ih _ _ (h.perm (bubble_perm _ _ _))) _ (Po h k 0 k)
theorem sort_in (h1:1<=n):InQ n (fun _=>True) (O7 n):=Bp (fun r hr=>by
   by_cases c:r.1 < n
   · rw [if_pos c];exact bin_in _ _ _ hr
   · rw [if_neg c];exact trivial) _ (Pn ⟨h1,fun x hx=>by simpa using hx⟩)
theorem wp_run {α:Type}{lt:Nat->Nat->Bool}{n:Nat}{P:α->Prop}{ask:Nat->Nat->(Bool->Shared->Prop)->Shared->Prop}{Q:α->Shared->Prop}{s:Shared}(h:∀i j C,i < n->j < n->C (lt i j) s->ask i j C s):∀t:KasT α,InQ n P t->Q (run lt t) s->t.kasWp ask Q s
 | .ret a,_,q=>q
 | .ask i j k,hi,q=>h i j _ hi.1 hi.2.1 (wp_run h (k (lt i j)) (hi.2.2 _) q)
theorem out_ok {α:Type}(lt:α->α->Bool)(O:(∀a,lt a a=false)/\(∀a b c,lt a b=true->lt b c=true->lt a c=true)/\(∀a b c,lt a c=true->lt a b=true\/lt b c=true))(d:α)(xs:List α)(h1:1<=xs.length) :
   let p:=run (fun i j=>lt (xs.getD i d) (xs.getD j d)) (O7 xs.length)
   (p.toList.map fun i=>xs.getD i d).Perm xs/\(p.toList.map fun i=>xs.getD i d).Pairwise (fun a b=>lt b a=false):=by
 intro p;have OO:Ord fun i j=>lt (xs.getD i d) (xs.getD j d):=⟨fun a=>O.1 _,fun a b c=>O.2.1 _ _ _,fun a b c=>O.2.2 _ _ _⟩;obtain⟨a1,a2,a3⟩:=sort_ok OO h1;constructor
 · have hp:p.toList.Perm (C2 xs.length):=FF.mp a1;have:=hp.map fun i=>xs.getD i d;refine this.trans (List.Perm.of_eq ?_)
   apply List.ext_getElem (by simp)
   intro i h2 h3;simp [h3]
 · rw [Ax];intro i j hi hj hij;have hi':i < p.size:=by simpa using hi
   have hj':j < p.size:=by simpa using hj
   have:=a3 i j (BR hij) (by rw [<- a2];exact hj');simp only [List.getElem_map,Array.getElem_toList];have e1:g p i=p[i]:=by unfold g;simp [Array.getD,hi']
   have e2:g p j=p[j]:=by unfold g;simp [Array.getD,hj']
   have this':lt (xs.getD (g p j) d) (xs.getD (g p i) d)=false:=this;rw [e1,e2] at this';exact this'
end Kr
end L2
end
section
namespace L2
open PySem PySem.W PySem.Spec PyProof.Rows
def T8 (lt:Nat->Nat->Bool)(vs:List Value):List Value:=if vs.length < 2 then vs else(Kr.run lt (O7 vs.length)).toList.map fun i=>vs.getD i X3
section
variable {prog:C5}{w:World}{A:Around}{E:Value->Shared->Prop}{s:Shared}
def EG (h h1:Heap)(a:Addr):Prop:=∀b o,b≠a->h.get? b=some o->h1.get? b=some o
theorem Pp (ho:s.heap.get? a=some (seqObj "list" vs.toArray n))(h64:vs.length < 64)
   (hk:2<=vs.length->∀h1,EG s.heap h1 a->∃κ,(∀Q:SortKind->Shared->Prop,Q κ { s with heap:=h1 }->wpAny (model prog w) A (keyKind' vs.toArray) Q E { s with heap:=h1 })/\∀i j (C:Bool->Shared->Prop),i < vs.length->j < vs.length->C (lt i j) { s with heap:=h1 }->kas_ask prog w A κ vs i j C { s with heap:=h1 })
   (h:∀h2 e,EG s.heap h2 a->h2.get? a=some (seqObj "list" (T8 lt vs).toArray e)->P (.done (.ret .none)) { s with heap:=h2 }):wpAny (model prog w) A (R5.«list.sort» ⟨[.ref a],[]⟩) P E s:=by
 have ha:a < s.heap.objs.size:=C0 ho;have hsz:vs.toArray.size=vs.length:=by simp
 rw [list_sort_plain];refine A0 (listItems_at ho rfl ?_);refine A0 (w6 ho rfl ?_ (by rw [hsz,L6];omega) (J6 _));obtain⟨e1,ho1⟩:∃e1,(s.heap.update a (F4 fun _=>(#[]:Array Value))).get? a=some (seqObj "list" #[] e1):=⟨_,AJ ho fun _=>#[]⟩;refine A0 (seqEpoch_at ho1 rfl ?_);refine A0 (wpAny_newTuple ?_ (by show vs.length<=_;rw [L6];omega));refine A0 (wpAny_newList ?_ (J6 _));refine M7 ?_;show wpAny (model prog w) A _ P E { s with heap:=((s.heap.update a (F4 fun _=>(#[]:Array Value))).push (seqObj "tuple" vs.toArray 0)).push (seqObj "list" #[] 0) };have ho3:=B7 (seqObj "list" #[] 0) (B7 (seqObj "tuple" vs.toArray 0) ho1)
 have k3:EG s.heap (((s.heap.update a (F4 fun _=>(#[]:Array Value))).push (seqObj "tuple" vs.toArray 0)).push (seqObj "list" #[] 0)) a:=fun b o hb e=>
   B7 _ (B7 _ (((o7 s.heap a (F4 fun _=>(#[]:Array Value))).2 b hb).trans e))
 generalize ((s.heap.update a (F4 fun _=>(#[]:Array Value))).push (seqObj "tuple" vs.toArray 0)).push (seqObj "list" #[] 0)=h3 at ho3 k3 ⊢;dsimp only
 have last:∀out:Array Value,out.size=vs.length->out=(T8 lt vs).toArray->∃e,(h3.update a (F4 fun _=>out)).get? a=some (seqObj "list" (T8 lt vs).toArray e)/\EG s.heap (h3.update a (F4 fun _=>out)) a:=fun out _ eo=>
   ⟨_,by rw [<- eo];exact AJ ho3 fun _=>out,fun b o hb e=>((o7 h3 a (F4 fun _=>out)).2 b hb).trans (k3 b o hb e)⟩
 by_cases h2:vs.toArray.size < 2
 · rw [if_pos h2,if_pos h2];refine A0 (A5 ?_);rw [StateT.run_pure];refine A0 (A5 ?_);dsimp only
   have eo:(arrOf (SortSt.mk' general' (vs.toArray.zip vs.toArray) #[] 7 none)).map (·.2)=(T8 lt vs).toArray:=by
     have e2:(arrOf (SortSt.mk' general' (vs.toArray.zip vs.toArray) #[] 7 none))=vs.toArray.zip vs.toArray:=rfl;rw [e2];unfold T8;rw [if_pos (by omega)]
     apply Array.toList_inj.mp
     rw [Array.toList_map,Array.toList_zip];exact Dw (B4 _)
   obtain⟨e,x1,x2⟩:=last _ (by rw [eo];unfold T8;rw [if_pos (by omega)];simp) eo;refine A0 (seqEpoch_at ho3 rfl ?_);refine A0 (w6 ho3 rfl ?_ (J6 _) (by rw [eo];unfold T8;rw [if_pos (by omega),hsz,L6];omega));simp only [bne_self_eq_false,Z4,if_false];exact A5 (h _ e x2 x1)
 · rw [if_neg h2,if_neg h2];have l2:2<=vs.length:=by omega
   obtain⟨κ,q1,q2⟩:=hk l2 h3 k3;refine A0 (q1 _ ?_);have wp:=Kr.wp_run (Q:=fun p s'=>p=Kr.run lt (O7 vs.length)/\s'={ s with heap:=h3 }) (P:=fun _=>True) q2 (O7 vs.length) (Kr.sort_in (by omega)) ⟨rfl,rfl⟩;refine A0 (E7 (kat_run (E:=E) (Q:=fun st' s'=>∃p:Array Nat,p.size=vs.length/\arrOf st'=p.map (kas_item (vs.toArray.zip vs.toArray))/\failedOf st'=none/\p=Kr.run lt (O7 vs.length)/\s'={ s with heap:=h3 }) rfl l2 h64 (fun p' st' s' a1 a2 a3 a4=>⟨p',a1,a2,a3,a4⟩) wp) ?_ fun _ _ e=>e);rintro⟨⟨⟩,st'⟩ s' ⟨p,hp,har,hf,ep,rfl⟩;dsimp only
   have eo:(arrOf st').map (·.2)=(T8 lt vs).toArray:=by
     rw [kat_snds rfl har,ep];unfold T8;rw [if_neg (by omega)]
   have so:((arrOf st').map (·.2)).size=vs.length:=by rw [eo];unfold T8;rw [if_neg (by omega),E3,B2,T1,<- ep,hp]
   obtain⟨e,x1,x2⟩:=last _ so eo;refine A0 (seqEpoch_at ho3 rfl ?_);refine A0 (w6 ho3 rfl ?_ (J6 _) (by rw [so,L6];omega));rw [hf];simp only [bne_self_eq_false,Z4,if_false];exact A5 (h _ e x2 x1)
theorem Pq (h64:vs.length < 64)
   (hcol:∀(R:List Value->Shared->Prop),(∀h1 tk,(∀b o,s.heap.get? b=some o->h1.get? b=some o)->s.heap.objs.size<=h1.objs.size->R vs { s with heap:=h1,toks:=tk })->wpAny (model prog w) A.in1 (collect v) R E s)
   (hk:2<=vs.length->∀(A:Around) (E:Value->Shared->Prop) h1 tk,(∀b o,s.heap.get? b=some o->h1.get? b=some o)->∃κ,(∀Q:SortKind->Shared->Prop,Q κ { s with heap:=h1,toks:=tk }->wpAny (model prog w) A (keyKind' vs.toArray) Q E { s with heap:=h1,toks:=tk })/\∀i j (C:Bool->Shared->Prop),i < vs.length->j < vs.length->C (lt i j) { s with heap:=h1,toks:=tk }->kas_ask prog w A κ vs i j C { s with heap:=h1,toks:=tk })
   (h:∀h2 tk D e,(∀b o,s.heap.get? b=some o->h2.get? b=some o)->s.heap.objs.size<=D->h2.get? D=some (seqObj "list" (T8 lt vs).toArray e)->Q (.ref D) { s with heap:=h2,toks:=tk }) :
   wpAny (model prog w) A (call (.builtin "sorted") [v]) Q E s:=by
 refine Calls.call_function_entry kind_sorted plain_sorted entry_sorted (args_sorted1 _) ?_;unfold R5.«sorted»;refine A0 (m:=checkCount "sorted" 1 1 _) (A5 ?_);refine A0 (hcol _ fun h1 tk k1 z1=>?_);refine A0 (wpAny_newList ?_ (by rw [L6];omega));have hoL:(h1.push (seqObj "list" vs.toArray 0)).get? h1.objs.size=some (seqObj "list" vs.toArray 0):=F3 _ rfl;have kL:∀b o,s.heap.get? b=some o->(h1.push (seqObj "list" vs.toArray 0)).get? b=some o:=fun b o e=>B7 _ (k1 b o e);have ne:∀b o,s.heap.get? b=some o->b≠h1.objs.size:=fun b o e=>C3 (K1 (C0 e) z1);refine A0 (M7 (W0 slot_list_sort ⟨_,hoL,rfl⟩ entry_list_sort ?body (args_list_sort _)))
 case body=>
   refine Pp (lt:=lt) (s:={ s with heap:=h1.push (seqObj "list" vs.toArray 0),toks:=tk }) hoL h64 (fun l2 h3 k3=>?_) fun h3 e k3 e3=>?_
   · exact hk l2 _ _ h3 tk fun b o x=>k3 b o (ne b o x) (kL b o x)
   · exact⟨_,rfl,A5 ⟨_,rfl,h h3 tk _ e (fun b o x=>k3 b o (ne b o x) (kL b o x)) z1 e3⟩⟩
end
end L2
end
section
namespace L2
open PySem PySem.W PySem.Spec PyProof.Rows
def L5:Key->Key->Bool
 | .inl a,.inl b=>decide (a < b)
 | .inr a,.inr b=>decide (a.cps.toList < b.cps.toList)
 | .inl _,.inr _=>true
 | .inr _,.inl _=>false
def lexK:List Key->List Key->Bool
 | [],[]=>false
 | [],_::_=>true
 | _::_,[]=>false
 | x::xs,y::ys=>if x=y then lexK xs ys else L5 x y
theorem Pr {a b:Str}(h:a.cps.toList=b.cps.toList):a=b:=by
 cases a;cases b
 congr 1
 exact Array.toList_inj.mp h
theorem GU (x:Key):L5 x x=false:=by
 cases x with
 | inl a=>exact decide_eq_false (Int.lt_irrefl a)
 | inr a=>exact decide_eq_false (List.lt_irrefl _)
theorem Pv (h1:L5 x y=true)(h2:L5 y z=true):L5 x z=true:=by
 cases x <;> cases y <;> cases z <;> simp only [L5,decide_eq_true_eq,reduceCtorEq] at * <;> first | omega | exact List.lt_trans h1 h2 | skip
theorem Pw (h:x≠y):L5 x y=true\/L5 y x=true:=by
 cases x with
 | inl a =>
   cases y with
   | inl b =>
     have:a≠b:=fun e=>h (by rw [e]);simp only [L5,decide_eq_true_eq];omega
   | inr b=>exact .inl rfl
 | inr a =>
   cases y with
   | inl b=>exact .inr rfl
   | inr b =>
     have hn:a.cps.toList≠b.cps.toList:=fun e=>h (by rw [Pr e]);simp only [L5,decide_eq_true_eq]
     by_cases c:a.cps.toList < b.cps.toList
     · exact .inl c
     · by_cases c2:b.cps.toList < a.cps.toList
       · exact .inr c2
       · exact absurd (List.le_antisymm (List.not_lt.mp c2) (List.not_lt.mp c)) hn
theorem Kp:∀x:List Key,lexK x x=false:=by
 intro xq
 induction xq with
 | nil =>
   exact rfl
 | cons x xs ih =>
   show(if x=x then lexK xs xs else _)=false;rw [if_pos rfl,ih]
theorem EH:∀{x y z:List Key},lexK x y=true->lexK y z=true->lexK x z=true
 | [],[],_,h,_=>by cases h
 | [],_::_,[],_,h=>by cases h
 | [],_::_,_::_,_,_=>rfl
 | _::_,[],_,h,_=>by cases h
 | _::_,_::_,[],_,h=>by cases h
 | x :: xs, y :: ys, z :: zs, h1, h2 => by
   change (if x=y then lexK xs ys else L5 x y)=true at h1
   change (if y=z then lexK ys zs else L5 y z)=true at h2
   show(if x=z then lexK xs zs else L5 x z)=true
   by_cases c1:x=y
   · rw [if_pos c1] at h1;subst c1
     by_cases c2:x=z
     · rw [if_pos c2] at h2 ⊢;exact EH h1 h2
     · rw [if_neg c2] at h2 ⊢;exact h2
   · rw [if_neg c1] at h1
     by_cases c2:y=z
     · subst c2;rw [if_neg c1];exact h1
     · rw [if_neg c2] at h2;have h3:=Pv h1 h2
       by_cases c3:x=z
       · rw [c3,GU] at h3;cases h3
       · rw [if_neg c3];exact h3
theorem Kq:∀{x y:List Key},x≠y->lexK x y=true\/lexK y x=true
 | [],[],h=>absurd rfl h
 | [],_::_,_=>.inl rfl
 | _::_,[],_=>.inr rfl
 | x :: xs, y :: ys, h => by
   show(if x=y then lexK xs ys else L5 x y)=true\/(if y=x then lexK ys xs else L5 y x)=true
   by_cases c:x=y
   · rw [if_pos c,if_pos c.symm];exact Kq fun e=>h (by rw [c,e])
   · rw [if_neg c,if_neg (fun e=>c e.symm)];exact Pw c
theorem Ks {x y z:List Key}(h:lexK x z=true):lexK x y=true\/lexK y z=true:=by
 by_cases c:x=y
 · grind
 · rcases Kq c with h1 | h1
   · grind
   · exact .inr (EH h1 h)
def Al:List Key->List Key->Prop
 | .inl _::xs,.inl _::ys=>Al xs ys
 | .inr _::xs,.inr _::ys=>Al xs ys
 | _::_,_::_=>False
 | _,_=>True
def KeyV:Key->Value->Prop
 | .inl i,v=>∃t,v=.int i t
 | .inr z,v=>∃t,v=.str z t
inductive Ag:List Key->List Value->Prop
 | nil:Ag [] []
 | cons {k v ks vs} (h:KeyV k v) (t:Ag ks vs):Ag (k::ks) (v::vs)
section
variable {prog:C5}{w:World}{A:Around}{E:Value->Shared->Prop}{s:Shared}
theorem Px (hx:KeyV x u)(hy:KeyV y v)(al:Al (x::xs) (y::ys))(h:Q (decide (x=y)) s):wpAny (model prog w) A (eqBool u v) Q E s:=by
 cases x with
 | inl a =>
   cases y with
   | inl b =>
     obtain⟨t,rfl⟩:=hx;obtain⟨t',rfl⟩:=hy;refine wpAny_eqBool_int ?_
     have e:(a == b)=decide ((N1 a:Key)=.inl b):=by
       rw [BU];exact decide_eq_decide.mpr ⟨fun e=>by rw [e],fun e=>by injection e⟩
     rw [e];exact h
   | inr b=>exact al.elim
 | inr a =>
   cases y with
   | inl b=>exact al.elim
   | inr b =>
     obtain⟨t,rfl⟩:=hx;obtain⟨t',rfl⟩:=hy;refine eqBool_str ?_
     have e:(a == b)=decide ((C7 a:Key)=.inr b):=by
       rw [BU];exact decide_eq_decide.mpr ⟨fun e=>by rw [e],fun e=>by injection e⟩
     rw [e];exact h
theorem lt_key (hx:KeyV x u)(hy:KeyV y v)(al:Al (x::xs) (y::ys))(h:Q (.bool (L5 x y)) s):wpAny (model prog w) A (O0 .Lt u v) Q E s:=by
 cases x with
 | inl a =>
   cases y with
   | inl b =>
     obtain⟨t,rfl⟩:=hx;obtain⟨t',rfl⟩:=hy;exact PyProof.Rows.lt_int h
   | inr b=>exact al.elim
 | inr a =>
   cases y with
   | inl b=>exact al.elim
   | inr b =>
     obtain⟨t,rfl⟩:=hx;obtain⟨t',rfl⟩:=hy;exact PyProof.Rows.lt_str h
theorem GV (hx:KeyV x u)(hy:KeyV y v)(al:Al (x::xs) (y::ys))(h:Q (L5 x y) s):wpAny (model prog w) A (oneLt' b u v) Q E s:=by
 cases b with
 | false=>exact kat_one u v (lt_key hx hy al h)
 | true =>
   cases x with
   | inl a =>
     cases y with
     | inl b =>
       obtain⟨t,rfl⟩:=hx;obtain⟨t',rfl⟩:=hy;exact oneLt_int h
     | inr b=>exact al.elim
   | inr a =>
     cases y with
     | inl b=>exact al.elim
     | inr b =>
       obtain⟨t,rfl⟩:=hx;obtain⟨t',rfl⟩:=hy;exact oneLt_str h
theorem Py:∀{xs ys:List Key} {us vs:List Value} (i:Nat),Ag xs us->Ag ys vs->Al xs ys->fin=decide (us.length < vs.length)->Q (lexK xs ys) s->KatLex prog w A b fin Q (us.zip vs) i s:=by
 intro xs
 induction xs with
 | nil =>
   intro ys us vs i hx hy al hf h;cases hx;refine kat_nil ?_;cases hy with
   | nil=>rw [hf];exact h
   | cons _ _=>rw [hf];exact h
 | cons x xs ih =>
   intro ys us vs i hx hy al hf h;cases hx with
   | @cons _ u _ us' hx1 hx2 =>
     cases hy with
     | nil=>rw [List.zip_nil_right];refine kat_nil ?_;rw [hf];exact h
     | @cons y v ys' vs' hy1 hy2 =>
       rw [X0];refine kat_cons (Px hx1 hy1 al ?_);have h':Q (if x=y then lexK xs ys' else L5 x y) s:=h
       by_cases c:x=y
       · rw [decide_eq_true c];rw [if_pos c] at h';refine kat_yes (ih (i + 1) hx2 hy2 ?_ ?_ h')
         · cases x <;> cases y <;> first | exact al | exact al.elim
         · rw [hf,E8,E8];exact decide_eq_decide.mpr (by omega)
       · rw [decide_eq_false c];rw [if_neg c] at h';exact kat_no (GV hx1 hy1 al h')
def TupK (h:Heap)(v:Value)(ks:List Key):Prop:=∃a o items n,v=.ref a/\h.get? a=some o/\o.cls=.type "tuple"/\o.data=.seq items n/\Ag ks items.toList
theorem Pz (hx:TupK s.heap u xs)(hy:TupK s.heap v ys)(al:Al xs ys)(h:Q (lexK xs ys) s):wpAny (model prog w) A (keyLt' (tuples' b) u v) Q E s:=by
 obtain⟨a,o,items,n,rfl,ho,hc,hd,hk⟩:=hx;obtain⟨a',o',items',n',rfl,ho',hc',hd',hk'⟩:=hy;exact kat_lt ho hd ho' hd' (Py 0 hk hk' al (by rw [T1,T1]) h)
end
end L2
end
section
namespace L2
open PySem PySem.W PySem.Spec PyProof.Rows
theorem GX:∀{ks:List Key} {us:List Value},Vals (ks.map kV) us->Ag ks us
 | [],_,h=>by cases h;exact .nil
 | .inl i :: ks, _, h => by
   cases h with
   | cons h1 h2=>exact .cons h1 (GX h2)
 | .inr z :: ks, _, h => by
   cases h with
   | cons h1 h2=>exact .cons h1 (GX h2)
section
variable {X:Cx}
theorem PB (I:Inv X pins σ H s)(h:SqT X.K H a (ks.map kV)):TupK s.heap (.ref a) ks:=by
 obtain⟨its,r,⟨o,ho,hc,n,hd⟩,_⟩:=I.tuple h;exact⟨a,o,its.toArray,n,rfl,ho,hc,hd,GX r⟩
theorem TupK.keep (t:TupK h v ks)(k:∀b o,h.get? b=some o->h'.get? b=some o):TupK h' v ks:=by
 obtain⟨a,o,its,n,e,ho,hc,hd,hk⟩:=t;exact⟨a,o,its,n,e,k _ _ ho,hc,hd,hk⟩
def KM (K:A4)(H:Hp):Nat->V->List Key->Prop
 | 0,y,ks=>∃i,y=.int i/\ks=[.inl i]
 | 1,y,ks=>∃z,y=.str z/\ks=[.inr z]
 | _,y,ks=>∃a,y=.ref a/\SqT K H a (ks.map kV)/\ks≠[]
def Kv1 (h:Heap):Nat->Value->List Key->Prop
 | 0,u,ks=>∃i t,u=.int i t/\ks=[.inl i]
 | 1,u,ks=>∃z t,u=.str z t/\ks=[.inr z]
 | _,u,ks=>TupK h u ks/\ks≠[]
def ltIx (kss:List (List Key))(i j:Nat):Bool:=lexK (kss.getD i []) (kss.getD j [])
theorem Kt (kss:List (List Key)):Kr.Ord (ltIx kss):=⟨fun _=>Kp _,fun _ _ _ h1 h2=>EH h1 h2,fun _ _ _ h=>Ks h⟩
def GY (kss:List (List Key)):Prop:=∀x∈kss,∀y∈kss,Al x y
theorem kv1_of (I:Inv X pins σ H s)(m:Nat)(a:Vals ys vs)(b:Paired (KM X.K H m) ys kss):Paired (Kv1 s.heap m) vs kss:=by
 induction a generalizing kss with
 | nil=>cases b;exact .nil
 | cons h1 _ ih => cases b with
   | cons h2 r2 =>
     refine .cons ?_ (ih r2);rcases m with _ | _ | m
     · obtain⟨i,e1,e2⟩:=h2;subst e1;obtain⟨t,rfl⟩:=h1;exact⟨i,t,rfl,e2⟩
     · obtain⟨i,e1,e2⟩:=h2;subst e1;obtain⟨t,rfl⟩:=h1;exact⟨i,t,rfl,e2⟩
     · obtain⟨a,e1,e2,e3⟩:=h2;subst e1;cases h1;exact⟨PB I e2,e3⟩
theorem Kv1.keep (k:∀b o,h.get? b=some o->h'.get? b=some o)(m:Nat)(x:Kv1 h m u ks):Kv1 h' m u ks:=by
 match m,x with
 | 0,x=>exact x
 | 1,x=>exact x
 | _ + 2,x=>exact⟨x.1.keep k,x.2⟩
theorem Ah {α β:Type}{F:α->β->Prop}{xs:List α}{ys:List β}(h:Paired F xs ys)(d:α)(e:β):∀i,i < xs.length->F (xs.getD i d) (ys.getD i e):=by
 induction h with
 | nil=>intro i hi;exact absurd hi (Nat.not_lt_zero _)
 | cons h1 _ ih =>
   intro i hi;cases i with
   | zero=>exact h1
   | succ i=>exact ih i (Nat.lt_of_succ_lt_succ hi)
theorem Ku {α β:Type}{F:α->β->Prop}{xs:List α}{ys:List β}(h:Paired F xs ys):∀x∈xs,∃y∈ys,F x y:=by
 induction h with
 | nil=>intro x hx;cases hx
 | cons h1 _ ih =>
   intro x hx;rcases B6.mp hx with rfl | hx
   · exact⟨_,B8,h1⟩
   · obtain⟨y,hy,hf⟩:=ih x hx;exact⟨y,B3 _ hy,hf⟩
theorem PC (p:Paired (Kv1 h (m + 2)) vs kss):∃fs,KatTups h vs fs/\fs.length=vs.length/\∀f∈fs,∃k r,(k::r)∈kss/\KeyV k f:=by
 induction p with
 | nil=>exact⟨[],trivial,rfl,fun _ z=>nomatch z⟩
 | cons h1 _ ih =>
   obtain⟨⟨a,o,its,n,rfl,ho,hc,hd,hk⟩,hne⟩:=h1;obtain⟨fs,t,hl,hf⟩:=ih;cases e:its.toList with
   | nil=>rw [e] at hk;cases hk;exact absurd rfl hne
   | cons f us =>
     rw [e] at hk;cases hk with
     | @cons k _ ks _ h2 h3 =>
       have ef:its[0]?=some f:=by rw [<- FH,e];rfl
       refine⟨f::fs,KatTups.cons ho hc hd ef t,by rw [E8,E8,hl],fun g hg=>?_⟩;rcases B6.mp hg with rfl | hg
       · exact⟨k,ks,B8,h2⟩
       · obtain⟨k',r',h4,h5⟩:=hf g hg;exact⟨k',r',B3 _ h4,h5⟩
theorem PF {s:Shared}(h2:2<=vs.length)(p:Paired (Kv1 s.heap m) vs kss)(al:GY kss)(A:Around)(E:Value->Shared->Prop)(h1:Heap)(tk:Nat)(k:∀b o,s.heap.get? b=some o->h1.get? b=some o) :
   ∃κ,(∀Q:SortKind->Shared->Prop,Q κ { s with heap:=h1,toks:=tk }->wpAny (model prog w) A (keyKind' vs.toArray) Q E { s with heap:=h1,toks:=tk })/\∀i j (C:Bool->Shared->Prop),i < vs.length->j < vs.length->C (ltIx kss i j) { s with heap:=h1,toks:=tk }->kas_ask prog w A κ vs i j C { s with heap:=h1,toks:=tk }:=by
 have p1:Paired (Kv1 h1 m) vs kss:=Paired.imp' (fun _ _ x=>x.keep k m) p;have lk:=B_ p1
 have mem:∀i,i < vs.length->kss.getD i []∈kss:=fun i hi=>by
   rw [Aw,D7 (by omega)];exact l8 _
 match m,p1 with
 | 0, p1 =>
   refine⟨oneType',fun Q q=>kas_kind (T:=.type "int") h2 (fun v hv=>?_) rfl rfl q,fun i j C hi hj c=>?_⟩
   · obtain⟨ks,_,i,t,rfl,_⟩:=Ku p1 v hv;exact Looks.of_pure rfl
   · obtain⟨a,t,e1,e2⟩:=Ah p1 .none [] i hi;obtain⟨b,t',e3,e4⟩:=Ah p1 .none [] j hj;unfold kas_ask;unfold ltIx at c;rw [e1,e3,keyLt'_oneType];rw [e2,e4] at c;refine GV (x:=.inl a) (y:=.inl b) (xs:=[]) (ys:=[]) ⟨t,rfl⟩ ⟨t',rfl⟩ trivial ?_
     have e:lexK [.inl a] [.inl b]=L5 (.inl a) (.inl b):=by
       show(if(N1 a:Key)=.inl b then false else L5 (.inl a) (.inl b))=_
       by_cases c:(N1 a:Key)=.inl b
       · rw [if_pos c,c,GU]
       · rw [if_neg c]
     rw [<- e];exact c
 | 1, p1 =>
   refine⟨oneType',fun Q q=>kas_kind (T:=.type "str") h2 (fun v hv=>?_) rfl rfl q,fun i j C hi hj c=>?_⟩
   · obtain⟨ks,_,i,t,rfl,_⟩:=Ku p1 v hv;exact Looks.of_pure rfl
   · obtain⟨a,t,e1,e2⟩:=Ah p1 .none [] i hi;obtain⟨b,t',e3,e4⟩:=Ah p1 .none [] j hj;unfold kas_ask;unfold ltIx at c;rw [e1,e3,keyLt'_oneType];rw [e2,e4] at c;refine GV (x:=.inr a) (y:=.inr b) (xs:=[]) (ys:=[]) ⟨t,rfl⟩ ⟨t',rfl⟩ trivial ?_
     have e:lexK [.inr a] [.inr b]=L5 (.inr a) (.inr b):=by
       show(if(C7 a:Key)=.inr b then false else L5 (.inr a) (.inr b))=_
       by_cases c:(C7 a:Key)=.inr b
       · rw [if_pos c,c,GU]
       · rw [if_neg c]
     rw [<- e];exact c
 | m' + 2, p1 =>
   obtain⟨fs,kt,fl,hf⟩:=PC p1
   have asks:∀b i j (C:Bool->Shared->Prop),i < vs.length->j < vs.length->C (ltIx kss i j) { s with heap:=h1,toks:=tk }->kas_ask prog w A (tuples' b) vs i j C { s with heap:=h1,toks:=tk }:=fun b i j C hi hj c=>by
     have x1:=Ah p1 .none [] i hi;have x2:=Ah p1 .none [] j hj;exact Pz (s:={ s with heap:=h1,toks:=tk }) x1.1 x2.1 (al _ (mem i hi) _ (mem j hj)) c
   obtain⟨f0,fr,rfl⟩:∃f0 fr,fs=f0::fr:=by
     cases fs with
     | nil=>rw [<- fl] at h2;exact absurd h2 (by simp)
     | cons a r=>exact⟨a,r,rfl⟩
   obtain⟨k0,r0,m0,v0⟩:=hf f0 B8
   have all:∀T:String,(∀f k r,(k::r)∈kss->KeyV k f->typeOf f=pure (.type T))->∀v∈f0::fr,Looks (model prog w) h1 (typeOf v) (.type T):=fun T hT v hv=>by
     obtain⟨k,r,h3,h4⟩:=hf v hv;exact Looks.of_pure (hT v k r h3 h4)
   cases k0 with
   | inl i0 =>
     refine⟨tuples' (L9 "int" != L9 "tuple"),fun Q q=>kat_kind (s:={ s with heap:=h1,toks:=tk }) kt (by simp) (all "int" fun f k r h3 h4=>?_) rfl q,asks _⟩;cases k with
     | inl i=>obtain⟨t,rfl⟩:=h4;rfl
     | inr z=>exact(al _ m0 _ h3).elim
   | inr i0 =>
     refine⟨tuples' (L9 "str" != L9 "tuple"),fun Q q=>kat_kind (s:={ s with heap:=h1,toks:=tk }) kt (by simp) (all "str" fun f k r h3 h4=>?_) rfl q,asks _⟩;cases k with
     | inr i=>obtain⟨t,rfl⟩:=h4;rfl
     | inl z=>exact(al _ m0 _ h3).elim
def outV (lt:Nat->Nat->Bool)(ys:List V):List V:=if ys.length < 2 then ys else(Kr.run lt (O7 ys.length)).toList.map fun i=>ys.getD i .non
theorem PH (r:Vals ys vs)(O:Kr.Ord lt):Vals (outV lt ys) (T8 lt vs):=by
 unfold outV T8;rw [r.length]
 by_cases c:vs.length < 2
 · rw [if_pos c,if_pos c];exact r
 · rw [if_neg c,if_neg c];obtain⟨a1,a2,_⟩:=Kr.sort_ok O (n:=vs.length) (by omega)
   have hm:∀i∈(Kr.run lt (O7 vs.length)).toList,i < vs.length:=fun i hi=>by
     have:=(FF.mp a1).mem_iff.mp hi
     simpa using this
   generalize (Kr.run lt (O7 vs.length)).toList=is at hm
   induction is with
   | nil=>exact .nil
   | cons i is ih =>
     refine .cons ?_ (ih fun j hj=>hm j (B3 _ hj));exact Ah r .non .none i (by rw [r.length];exact hm i B8)
theorem PJ:M3 X (.builtin "sorted") (fun xs H Q=>∃p ys m kss,xs=[.ref p]/\SqL X.K H p ys/\ys.length < 64/\Paired (KM X.K H m) ys kss/\GY kss/\∀l,H l=none->Q (.ref l) (upd H l (.lst (outV (ltIx kss) ys)))):=by
 intro pins s σ H xs us Q I r h;obtain⟨p,ys,m,kss,rfl,hq,h64,hp,al,q⟩:=h;obtain⟨u,rfl,rx⟩:=o8 r;cases rx;obtain⟨its,r',pl,hz⟩:=I.list hq;have hlen:=r'.length;have pk:=kv1_of I m r' hp;have O:=Kt kss;refine Pq (vs:=its) (lt:=ltIx kss) (by omega) (fun R hR=>?_) (fun h2 A E h1 tk k=>PF h2 pk al A E h1 tk k) fun h2 tk D e k hD ho=>?_
 · refine collect_list pl.isList (hR _ s.toks (fun b o e=>?_) ?_) (by omega)
   · have hlt:b < s.heap.objs.size:=C0 e;rw [Heap.get?_update_ne _ _ _ _ (C3 hlt)];exact B7 _ e
   · rw [Heap.size_update,size_push'];omega
 · have vo:=PH r' O
   have hl:(outV (ltIx kss) ys).length<=B5:=by
     unfold outV
     split
     · omega
     · rw [B2,T1,(Kr.sort_ok O (by omega)).2.1];omega
   exact⟨.ref D,_,I.laid (t':=tk) k hD (show G5 X.prog X.w _ h2 _ (.lst (outV (ltIx kss) ys)) from⟨hl,_,e,vo,ho⟩),rfl,q _ (I.hok.fresh hD)⟩
end
end L2
end
section
namespace Pu
open PySem PySem.Spec L2
def kP:Key->PV
 | .inl i=>.int i
 | .inr z=>.str z
def t0:List PV->Option (List Key)
 | []=>some []
 | .int i::r=>(t0 r).map (.inl i::·)
 | .str z::r=>(t0 r).map (.inr z::·)
 | _=>none
def keyP:PV->List Key
 | .int i=>[.inl i]
 | .str z=>[.inr z]
 | .tup xs=>(t0 xs).getD []
 | _=>[]
theorem GZ:∀ks:List Key,t0 (ks.map kP)=some ks
 | []=>rfl
 | .inl i::r=>by show(t0 (r.map kP)).map _=_;rw [GZ r];rfl
 | .inr i::r=>by show(t0 (r.map kP)).map _=_;rw [GZ r];rfl
theorem G_ (ks:List Key):keyP (.tup (ks.map kP))=ks:=by show(t0 (ks.map kP)).getD []=_;rw [GZ];rfl
theorem Ha:∀(ks:List Key) {us:List V},Reps K G H (ks.map kP) us->us=ks.map kV
 | [],_,h=>h
 | .inl i :: r, _, h => by
   obtain⟨v,t,rfl,h1,h2⟩:=h;rw [Ha r h2,show v=.int i from h1];rfl
 | .inr i :: r, _, h => by
   obtain⟨v,t,rfl,h1,h2⟩:=h;rw [Ha r h2,show v=.str i from h1];rfl
section
variable {T:PotK}{ι:Type}{K:A4}{F:ι->Cx}{e:Expr}{pe:pE}{pos:Pos}
def Hc (xs:List PV):Prop:=(∀x∈xs,∃i,x=.int i)\/(∀x∈xs,∃z,x=.str z)\/((∀x∈xs,∃ks,x=.tup (ks.map kP)/\ks≠[])/\∀x∈xs,∀y∈xs,Al (keyP x) (keyP y))
def Srt (ys xs:List PV):Prop:=ys.Perm xs/\ys.Pairwise fun a b=>lexK (keyP b) (keyP a)=false
def EI (pe:pE):pA:=fun env n R=>pe env n fun x env1 n1=>match x with | .lst xs=>xs.length < 64/\Hc xs/\∀ys,Srt ys xs->R ys env1 n1 | _=>False
theorem Hd {P:PV->V->List Key->Prop}:∀(xs:List PV) {us:List V},Reps K G H xs us->(∀x∈xs,∀v,Rep K G H x v->P x v (keyP x))->Paired (fun v ks=>∃x,x∈xs/\P x v ks) us (xs.map keyP):=by
 intro xq
 induction xq with
 | nil =>
   intro _ h _;cases h;exact .nil
 | cons x xs ih =>
   intro _ h hP;obtain⟨v,t,rfl,h1,h2⟩:=h;refine .cons ⟨x,B8,hP x B8 v h1⟩ ?_;exact Paired.imp' (fun v ks ⟨y,hy,hp⟩=>⟨y,B3 _ hy,hp⟩) (ih h2 fun y hy=>hP y (B3 _ hy))
theorem km_of (r:Reps K G H xs us)(h:Hc xs):∃m,Paired (KM K H m) us (xs.map keyP)/\GY (xs.map keyP):=by
 rcases h with h | h | ⟨h,h'⟩
 · refine⟨0,Paired.imp' (fun v ks ⟨_,_,hp⟩=>hp) (Hd (P:=fun _ v ks=>KM K H 0 v ks) xs r fun x hx v hv=>?_),fun a ha b hb=>?_⟩
   · obtain⟨i,rfl⟩:=h x hx;exact⟨i,hv,rfl⟩
   · obtain⟨x,hx,rfl⟩:=K4.mp ha;obtain⟨y,hy,rfl⟩:=K4.mp hb;obtain⟨i,rfl⟩:=h x hx;obtain⟨j,rfl⟩:=h y hy;exact trivial
 · refine⟨1,Paired.imp' (fun v ks ⟨_,_,hp⟩=>hp) (Hd (P:=fun _ v ks=>KM K H 1 v ks) xs r fun x hx v hv=>?_),fun a ha b hb=>?_⟩
   · obtain⟨i,rfl⟩:=h x hx;exact⟨i,hv,rfl⟩
   · obtain⟨x,hx,rfl⟩:=K4.mp ha;obtain⟨y,hy,rfl⟩:=K4.mp hb;obtain⟨i,rfl⟩:=h x hx;obtain⟨j,rfl⟩:=h y hy;exact trivial
 · refine⟨2,Paired.imp' (fun v ks ⟨_,_,hp⟩=>hp) (Hd (P:=fun _ v ks=>KM K H 2 v ks) xs r fun x hx v hv=>?_),fun a ha b hb=>?_⟩
   · obtain⟨ks,rfl,hne⟩:=h x hx;obtain⟨a,vs,rfl,at',rr⟩:=hv;rw [G_];refine⟨a,rfl,?_,hne⟩;rw [Ha ks rr] at at';exact SqT.of at'.2
   · obtain⟨x,hx,rfl⟩:=K4.mp ha;obtain⟨y,hy,rfl⟩:=K4.mp hb;exact h' x hx y hy
def outP (xs:List PV):List PV:=if xs.length < 2 then xs else(Kr.run (ltIx (xs.map keyP)) (O7 xs.length)).toList.map fun i=>xs.getD i .non
theorem Kv (xs:List PV)(i:Nat):(xs.map keyP).getD i []=keyP (xs.getD i .non):=by grind [PV,keyP]
theorem PM (xs:List PV):Srt (outP xs) xs:=by
 unfold outP
 by_cases c:xs.length < 2
 · rw [if_pos c];refine⟨List.Perm.refl _,?_⟩
   match xs,c with
   | [],_=>exact .nil
   | [x],_=>exact List.pairwise_singleton _ _
 · rw [if_neg c]
   have e:ltIx (xs.map keyP)=fun i j=>lexK (keyP (xs.getD i .non)) (keyP (xs.getD j .non)):=by
     funext i j
     unfold ltIx;rw [Kv,Kv]
   rw [e];exact Kr.out_ok (fun a b:PV=>lexK (keyP a) (keyP b)) ⟨fun _=>Kp _,fun _ _ _ h1 h2=>EH h1 h2,fun _ _ _ h=>Ks h⟩ .non xs (by omega)
theorem PN (r:Reps K G H xs us)(i:Nat)(hi:i < xs.length):Rep K G H (xs.getD i .non) (us.getD i .non):=by
 induction xs generalizing us i with
 | nil=>exact absurd hi (Nat.not_lt_zero _)
 | cons x xs ih =>
   obtain⟨v,t,rfl,h1,h2⟩:=r;cases i with
   | zero=>exact h1
   | succ i=>exact ih h2 i (Nat.lt_of_succ_lt_succ hi)
theorem PP (r:Reps K G H xs us):Reps K G H (outP xs) (outV (ltIx (xs.map keyP)) us):=by
 unfold outP outV;have hl:us.length=xs.length:=r.length.symm;rw [hl]
 by_cases c:xs.length < 2
 · rw [if_pos c,if_pos c];exact r
 · rw [if_neg c,if_neg c];obtain⟨a1,a2,_⟩:=Kr.sort_ok (Kt (xs.map keyP)) (n:=xs.length) (by omega)
   have hm:∀i∈(Kr.run (ltIx (xs.map keyP)) (O7 xs.length)).toList,i < xs.length:=fun i hi=>by
     have:=(FF.mp a1).mem_iff.mp hi
     simpa using this
   generalize (Kr.run (ltIx (xs.map keyP)) (O7 xs.length)).toList=is at hm
   induction is with
   | nil=>exact rfl
   | cons i is ih=>exact⟨_,_,rfl,PN r i (hm i B8),ih fun j hj=>hm j (B3 _ hj)⟩
theorem Kw (hg:∀z,Gl (F z) "sorted")(hm:∀z,(F z).mg "sorted"=none)(ha:QR T K F e pe)(hs:E5 e=true:=by rfl)(hK:∀z,(F z).K=K:=by intro _;rfl):QN T K F (.Call (.Name "sorted" p) [e] [] pos) (EI pe):=by
 obtain⟨t,h1,h2⟩:=ha;refine⟨_,fun z=>y0 (hK z▸PJ) (hg z) (hm z) IZ (E9 (h1 z) G7 (C8 hs)) (by decide) (by decide) (C8 hs),fun C G σ H env n R Q hK hT S hp k=>?_⟩;refine Ei h2 hK hT S hp fun x env1 n1 v H1 p1 S1 r1 f1=>?_;have rd:RdV K G H1 x v:=hK▸r1.rd S1;cases x with
 | lst xs =>
   obtain⟨h64,so,q⟩:=p1;obtain⟨a,us,rfl,hq,r⟩:=rd.lst;obtain⟨m,pk,al⟩:=km_of r so;have hl:us.length=xs.length:=r.length.symm;exact⟨a,us,m,xs.map keyP,rfl,hq,by omega,pk,al,fun l hl=>k _ _ _ _ _ _ (q _ (PM xs)) S1 f1 hl (PP r)⟩
 | _=>exact p1.elim
end
end Pu
end
section
namespace Pu
open PySem PySem.Spec L2
def V6 {κ:Type}[DecidableEq κ](ks:List κ)(k:κ):List κ:=if k∈ks then ks else ks++[k]
def Q0 {κ α:Type}[DecidableEq κ](ks:List κ)(xs:List α)(k:κ)(x:α):List α:=if k∈ks then(ks.zip xs).map (fun p=>if p.1=k then x else p.2) else xs++[x]
theorem PQ {κ:Type}[DecidableEq κ]{ks:List κ}{vs:List V}(h:ks.length=vs.length)(k:κ)(v:V):putK (ks.zip vs) k v=(V6 ks k).zip (Q0 ks vs k v):=by
 have any:((ks.zip vs).any fun kv=>decide (kv.1=k))=decide (k∈ks):=by
   clear v
   induction ks generalizing vs with
   | nil=>simp
   | cons a ks ih =>
     cases vs with
     | nil=>cases h
     | cons b vs =>
       rw [X0,List.any_cons,ih (by simpa using h)]
       by_cases c:a=k
       · subst c;simp
       · by_cases d:k∈ks
         · simp [d]
         · have:¬k=a:=fun e=>c e.symm;simp [c,d,this]
 unfold putK V6 Q0;rw [any]
 by_cases c:k∈ks
 · rw [if_pos (decide_eq_true c),if_pos c,if_pos c];clear any c
   induction ks generalizing vs with
   | nil=>simp
   | cons a ks ih =>
     cases vs with
     | nil=>cases h
     | cons b vs =>
       simp only [X0,J9];rw [ih (by simpa using h)]
       split <;> rfl
 · rw [if_neg (by simpa using c),if_neg c,if_neg c,List.zip_append h];rfl
theorem put_len {κ α:Type}[DecidableEq κ]{ks:List κ}{xs:List α}(h:ks.length=xs.length)(k:κ)(x:α):(V6 ks k).length=(Q0 ks xs k x).length:=by
 unfold V6 Q0
 by_cases c:k∈ks
 · rw [if_pos c,if_pos c,B2,BN];omega
 · rw [if_neg c,if_neg c,E1,E1,h];rfl
theorem PR {κ:Type}[DecidableEq κ]{K:A4}{G:Gh}{H:Hp}{ks:List κ}{xs:List PV}{vs:List V}(r:Reps K G H xs vs)(h:ks.length=xs.length)(k:κ){x:PV}{v:V}(rx:Rep K G H x v):Reps K G H (Q0 ks xs k x) (Q0 ks vs k v):=by
 unfold Q0
 by_cases c:k∈ks
 · rw [if_pos c,if_pos c];clear c
   induction ks generalizing xs vs with
   | nil=>exact rfl
   | cons a ks ih =>
     cases xs with
     | nil=>cases h
     | cons y ys =>
       obtain⟨u,t,rfl,h1,h2⟩:=r;refine⟨_,_,rfl,?_,ih h2 (by simpa using h)⟩;show Rep K G H (if a=k then x else y) (if a=k then v else u)
       by_cases d:a=k
       · rw [if_pos d,if_pos d];exact rx
       · rw [if_neg d,if_neg d];exact h1
 · rw [if_neg c,if_neg c];exact r.append ⟨v,[],rfl,rx,rfl⟩
def tupP (ks:List Key):PV:=.tup (ks.map kP)
section
variable {T:PotK}{np:Bool}{ι:Type}{K:A4}{F:ι->Cx}{e:Expr}{st:Stmt}{pe pk pv:pE}{pos:Pos}
theorem Bq {X:Cx}{i:Nat}{o ix v:Expr}{pos' pos:Pos}(hu:X.A.units + 1 < cLine)(ho:EW X o (tVar i))(hs:Y7 v (some (.Subscript o ix pos')) pos.line X.env=pure false:=by rfl)(tv ti:TE)(hv:EW X v tv)(hi:EW X ix ti):SW X (.Assign [.Subscript o ix pos'] v pos) (GK (tVar i) ti tv):=⟨Bm hu ho.h hi.h hv.h hs⟩
end
end Pu
end
section
namespace L2
open PySem PySem.Spec PyProof.Rows
theorem PU:M8 "reversed"=some (.type "reversed"):=by decide +kernel
theorem PX:isSubtype (.type "range_iterator") (.type "reversed")=pure false:=by rw [BF];kernel_rfl
def Br (n:Int):Obj:={ cls:=.type "range_iterator",data:=.fields #[rawInt (0 + (n - 1) * 1),rawInt n,rawInt (-1)] }
section
variable {prog:C5}{w:World}{A:Around}{E:Value->Shared->Prop}{s:Shared}
theorem PY (h0:0<=n)(h1:n<=1000000)(hr:s.heap.get? r=some { cls:=.type "range",data:=.fields #[.int 0 t,.int n u,.int 1 v] })
   (h:Q (.ref s.heap.objs.size) { s with heap:=s.heap.push (Br n) }):wpAny (model prog w) A (call (.builtin "range.__reversed__") [.ref r]) Q E s:=by
 have hT:s.TypeIs (.ref r) "range":=⟨_,hr,rfl⟩;refine W0 F.slot_range_reversed hT F.entry_range_reversed ?_ (F.args_range_reversed_1 _);unfold R5.«range.__reversed__»;refine A0 (R3 (a:=N3 r) rfl ?_);refine A0 ?_;unfold Builtin.Range.rangeFields;refine A0 (L3 hr rfl (x:=.int 0 t) rfl ?_);refine A0 (R3 (a:=some (0:Int)) rfl ?_);refine A0 (L3 hr rfl (x:=.int n u) rfl ?_);refine A0 (R3 (a:=some n) rfl ?_);refine A0 (L3 hr rfl (x:=.int 1 v) rfl ?_);refine A0 (R3 (a:=some (1:Int)) rfl ?_);refine A5 ?_
 have hs:AK 0 n 1=n:=by
   unfold AK;rw [if_pos (by decide),Int.ediv_one]
   split <;> omega
 dsimp only;rw [hs]
 have sm:(o1 0 && o1 n && o1 1 && o1 (-1) && o1 (0 - 1) && o1 n)=true:=by
   simp only [o1,l9,decide_eq_true_eq];omega
 rw [sm];simp only [Bool.not_true,Z4,if_false,if_true];exact A0 (O6 (A5 ⟨_,rfl,h⟩))
theorem PZ (h0:0<=n)(h1:n<=1000000)(hr:s.heap.get? r=some { cls:=.type "range",data:=.fields #[.int 0 t,.int n u,.int 1 v] })
   (h:Q (.ref s.heap.objs.size) { s with heap:=s.heap.push (Br n) }):wpAny (model prog w) A (call (.type "reversed") [.ref r]) Q E s:=by
 have hT:s.TypeIs (.ref r) "range":=⟨_,hr,rfl⟩;refine callType_other (U:="range_iterator") (Q₁:=fun obj s₁=>obj=.ref s.heap.objs.size/\s₁={ s with heap:=s.heap.push (Br n) }) (by decide +kernel) F.create_reversed ⟨_,_,F.mro_reversed⟩ F.made_reversed PX (F.typeCall_reversed_1 _) ?_ ?_
 · refine Dm ?_;show wpAny _ A.in1.in1 (do checkBuiltinCall "reversed.__new__" ⟨[.type "reversed",.ref r],[]⟩;again (.builtin "reversed.__new__" ⟨[.type "reversed",.ref r],[]⟩)) _ _ s;refine A0 (R3 (F.newCall_reversed_1 _) (A5 ⟨plainId_quiet F.plain_reversed_new _,BE F.entry_reversed_new ?_⟩));rw [DS F.plain_reversed_new _];unfold R5.«reversed.__new__»;refine A0 (R3 (newClass_reversed _) ?_)
   try dsimp only
   refine A0 (R3 (a:=()) (by first | rfl | kernel_rfl) ?_);refine A0 (R3 (a:=()) (by first | rfl | kernel_rfl) ?_)
   try dsimp only
   refine A0 (wpAny_specialOf hT F.slot_range_reversed.lookup ?_)
   try dsimp only
   refine A0 (R3 (F.slot_range_reversed.bind _) ?_)
   try dsimp only
   first
   | rw [if_neg (show ¬((Value.builtin "range.__reversed__" == X3)=true) from N5)]
   | (show wpAny _ _ (if(Value.builtin "range.__reversed__" == X3)=true then _ else _) _ _ _;rw [if_neg (show ¬((Value.builtin "range.__reversed__" == X3)=true) from N5)])
   refine A0 (e6 ?_);refine A0 (m:=runValue (.call (.builtin "range.__reversed__") ⟨[.ref r],[]⟩)) (show wpAny _ _ (call (.builtin "range.__reversed__") [.ref r]) _ _ _ from PY h0 h1 hr ?_)
   first
   | exact A5 ⟨rfl,rfl⟩
   | exact A0 (A5 (A5 ⟨rfl,rfl⟩))
 · rintro obj s₁ ⟨rfl,rfl⟩;exact⟨⟨_,F3 _ rfl,rfl⟩,h⟩
end
section
variable {X:Cx}{tg:Expr}
def tRng1 (ta:TA):TE:=fun σ H Q=>ta σ H fun vs H1=>∃j:Int,vs=[.int j]/\∀p,H1 p=none->Q (.ref p) (upd H1 p (.rng 0 j))
theorem P_ (hg:Gl X "range")(hm:X.mg "range"=none)(ha:PA X [a] ta)(hs:D6 [a] X.env=[(false,eval a X.env)]:=by rfl):PE X (.Call (.Name "range" p) [a] [] pos) (tRng1 ta):=by
 intro pins s σ H Q I h;refine Call_ (b0 I hg hm boot_range (o0 (thn (ha pos pins s σ H _ I h) fun us s1 ⟨vs,H1,I1,r1,q1⟩=>?_) hs rfl));obtain⟨j,e,q⟩:=q1;subst e;cases r1 with
 | cons r rr =>
   cases rr;obtain⟨t,rfl⟩:=r;refine call_range_1 ?_;exact⟨.ref s1.heap.objs.size,_,I1.laid (a:=s1.heap.objs.size) (o:=.rng 0 j) (fun b o e=>B7 _ e) (B4 _) ⟨_,_,_,F3 _ rfl⟩,rfl,q _ (I1.hok.fresh (B4 _))⟩
def iRevR (ta:TA):TI:=fun σ H R=>ta σ H fun vs H1=>∃(r:Addr) (n:Int),vs=[.ref r]/\H1 r=some (.rng 0 n)/\0<=n/\n<=1000000/\R (Itd (n - 1) n.toNat) H1
theorem Qa (hg:Gl X "reversed")(hm:X.mg "reversed"=none)(ha:PA X [e] ta)(hs:D6 [e] X.env=[(false,eval e X.env)]:=by rfl):PI X tg (.Call (.Name "reversed" p) [e] [] pos) (iRevR ta):=by
 intro pins s σ H R I h;refine Call_ (b0 I hg hm PU (o0 (thn (ha pos pins s σ H _ I h) fun us s1 ⟨vs,H1,I1,r1,q1⟩=>?_) hs rfl));obtain⟨r,n,e,hr,h0,h2,q⟩:=q1;subst e;cases r1 with
 | cons rr0 rr =>
   cases rr;cases rr0;obtain⟨t,u,v,ho⟩:=(show G5 X.prog X.w H1 s1.heap r (.rng 0 n) from I1.hok r _ hr);refine PZ h0 h2 ho ?_;have I2:Inv X pins σ H1 { s1 with heap:=s1.heap.push (Br n) }:=I1.kept (t':=s1.toks) fun b o e=>B7 _ e
   have st:IsRangeIter (s1.heap.push (Br n)) s1.heap.objs.size (n - 1 + ((0:Nat):Int) * -1) ((n.toNat:Int) - ((0:Nat):Int)) (-1):=by
     have e1:n - 1 + ((0:Nat):Int) * -1=0 + (n - 1) * 1:=by omega
     have e2:(n.toNat:Int) - ((0:Nat):Int)=n:=by omega
     rw [e1,e2];exact F3 _ rfl
   refine Fv (s:={ s1 with heap:=s1.heap.push (Br n) }) st ?_;refine⟨s1.heap.objs.size,[s1.heap.objs.size],_,_,H1,rfl,I2,Oy _ (n - 1) n.toNat,st,fun b hb=>?_,q⟩;have e:b=s1.heap.objs.size:=by simpa using hb
   subst e;exact I1.fpOk (B4 _) (I1.hok.fresh (B4 _))
end
end L2
namespace Pu
open PySem PySem.Spec L2
section
variable {T:PotK}{ι:Type}{K:A4}{F:ι->Cx}{tg e:Expr}{pe:pE}{pos:Pos}
def Ai (pe:pE):pA:=fun env n R=>pe env n fun x env1 n1=>match x with | .int j=>(0<=j/\j<=1000000)/\R ((C2 j.toNat).map fun(k:Nat)=>PV.int (j - 1 - k)) env1 n1 | _=>False
theorem CL (hg:∀z,Gl (F z) "reversed")(hm:∀z,(F z).mg "reversed"=none)(hg2:∀z,Gl (F z) "range")(hm2:∀z,(F z).mg "range"=none)(h:QE T K F e pe)(hs:E5 e=true:=by rfl):QI T K F tg (.Call (.Name "reversed" p) [.Call (.Name "range" p2) [e] [] pos2] [] pos) (Ai pe):=by
 obtain⟨t,h1,h2⟩:=h;refine⟨_,fun z=>Qa (hg z) (hm z) (E9 (P_ (hg2 z) (hm2 z) (E9 (h1 z) G7 (C8 hs)) (C8 hs)) G7 (C8 rfl)) (C8 rfl),fun C G σ H env n R Q hK hT S hp k=>?_⟩;refine h2 C G σ H env n _ _ hK hT S hp fun x env1 n1 v H1 p1 S1 r1 f1=>?_;cases x with
 | int j =>
   refine⟨j,by rw [show v=.int j from r1],fun p hn=>⟨p,j,rfl,C4,p1.1.1,p1.1.2,?_⟩⟩;exact k _ _ _ _ _ p1.2 (S1.same (Same.lay1 hn)) (f1.trans (Fr.of (Same.lay1 hn))) (OA (j - 1) _)
 | _=>exact p1.elim
end
end Pu
end
section
namespace Pu
open PySem PySem.Spec L2
section
variable {T:PotK}{np:Bool}{ι:Type}{K:A4}{F:ι->Cx}{e:Expr}{st:Stmt}{pe pk pv:pE}{pos:Pos}
def keyV:PV->Option Key
 | .int i=>some (.inl i)
 | .str z=>some (.inr z)
 | _=>none
theorem Bs {G:Gh}{H:Hp}{x:PV}{v:V}{k:Key}(r:Rep K G H x v)(h:keyV x=some k):v=kV k:=by
 cases x <;> simp [keyV] at h <;> subst h <;> exact r
def CM (i:Nat):pS:=fun D env n=>D.nx (env.set i (some (.ow (.dk []) []))) n
theorem He (i:Nat)(h:∀z te,EW (F z) (.Dict [] [] pos) te->SW (F z) st (tAsg te (K6 i))):QS T np K F st (CM i):=by
 refine⟨_,fun z=>(h z _ ⟨NP⟩).h,fun C G σ H env n PD D hK hT hn S hp L=>?_⟩;intro p hn1;exact L.nx _ _ _ _ _ hp (S.ow i (.dk []) (xs:=[]) (vs:=[]) hn1 rfl) (Eo hn1)
def t7 (i:Nat)(pk pv:pE):pS:=fun D env n=>pv env n fun x env1 n1=>(∃ks xs,env1[i]?=some (some (.ow (.dk ks) xs)))/\pk env1 n1 fun y env2 n2=>match env2[i]?,keyV y with
 | some (some (.ow (.dk ks) xs)),some k=>ks.length=xs.length/\xs.length < 1000000/\D.nx (env2.set i (some (.ow (.dk (V6 ks k)) (Q0 ks xs k x)))) n2
 | _,_=>False
theorem Bt (i:Nat){v ix:Expr}(h:∀z tv ti,EW (F z) v tv->EW (F z) ix ti->SW (F z) st (GK (tVar i) ti tv))(hv:QE T K F v pv)(hi:QE T K F ix pk):QS T np K F st (t7 i pk pv):=by
 obtain⟨tv,v1,v2⟩:=hv;obtain⟨ti,i1,i2⟩:=hi;refine⟨_,fun z=>(h z _ _ ⟨v1 z⟩ ⟨i1 z⟩).h,fun C G σ H env n PD D hK hT hn S hp L=>?_⟩;refine v2 C G σ H env n _ _ hK hT S hp fun x env1 n1 v H1 q1 S1 r1 f1=>?_;obtain⟨⟨ks0,xs0,e0⟩,q1⟩:=q1;obtain⟨a,vs,ev,h1,h2,h3,h4,r⟩:=S1.slots i _ e0;refine⟨.ref a,ev,?_⟩;refine i2 C G σ H1 env1 n1 _ _ hK hT S1 q1 fun y env2 n2 w H2 q2 S2 r2 f2=>?_
 split at q2
 · rename_i ks xs k ex ek;obtain⟨hl,hz,q3⟩:=q2;obtain⟨a',us,ev',g1,g2,g3,g4,r'⟩:=S2.slots i _ ex;rw [ev] at ev';cases ev';subst hK;have hlv:ks.length=us.length:=by rw [hl];exact r'.length
   have ew:=Bs r2 ek;subst ew;have rx:=r1.fr f2;obtain⟨S3,f3⟩:=S2.putO (.dk (V6 ks k)) ex ev (PR r' hl k rx)
   have eH:upd H2 a (mkO (.dk (V6 ks k)) (Q0 ks us k v))=upd H2 a (.dK (putK (ks.zip us) k v)):=by
     show upd H2 a (.dK ((V6 ks k).zip (Q0 ks us k v)))=_;rw [PQ hlv]
   have zl:(ks.zip us).length < B5:=by rw [BN];unfold B5;omega
   rw [eH] at S3 f3;exact⟨a,_,rfl,DPut.k g4 zl,L.nx _ _ _ _ _ q3 S3 (Ext.fr ((f1.trans f2).trans f3))⟩
 · exact q2.elim
end
end Pu
end
section
namespace Pu
open PySem PySem.Spec L2
section
variable {T:PotK}{np:Bool}{ι:Type}{K:A4}{F:ι->Cx}{e:Expr}{st:Stmt}{pe pk pv:pE}{pos:Pos}
def qMove (i j:Nat):pS:=fun D env n=>match env[j]? with | some (some (.ow k xs))=>D.nx ((env.set j none).set i (some (.ow k xs))) n | _=>False
def EJ (i:Nat):pS:=fun D env n=>match env[i]? with | some (some (.ow (.dk ks) xs))=>ks.length=xs.length/\D.rt (.dct ks xs) n | _=>False
theorem Qb (i:Nat){x:Str}{p:Pos}(h:∀z,EW (F z) (.Name x p) (tVar i)):QS T np K F (.Return (some (.Name x p)) pos) (EJ i):=by
 refine⟨_,fun z=>AY (h z).h,fun C G σ H env n PD D hK hT hn S hp L=>?_⟩;unfold EJ at hp
 split at hp
 · rename_i ks xs ex;obtain⟨hl,hp⟩:=hp;obtain⟨a,vs,ev,h1,h2,h3,h4,r⟩:=S.slots i _ ex;have hlv:ks.length=vs.length:=by rw [hl];exact r.length
   refine⟨.ref a,ev,L.rt _ _ _ _ _ _ _ hp S ⟨a,ks.zip vs,rfl,h2,h4,List.map_fst_zip (i6 hlv),?_⟩ Ext.refl⟩;rw [Dw (i6 hlv.symm)];exact Reps.mono (G':=⟨C.M0,G.pots⟩) (fun _ _ _ e=>e) (fun a ha=>.inl (S.sup a ha)) (fun _ _ e=>e) _ _ r
 · exact hp.elim
end
end Pu
end
section
namespace Pu
open PySem PySem.Spec L2
theorem SR.freezeK {C:Ct}{G:Gh}{σ:St}{H:Hp}{env:Env}{n:Nat}(S:SR C G σ H env n){i:Nat}{ks:List Key}{xs:List PV}(ex:env[i]?=some (some (.ow (.dk ks) xs)))(hl:ks.length=xs.length):∃G',SR C G' σ H (env.set i (some (.v (.dct ks xs)))) n/\Ext G H G' H:=by
 obtain⟨a,vs,ev,h1,h2,h3,h4,r⟩:=S.slots i _ ex;have hlv:ks.length=vs.length:=by rw [hl];exact r.length
 let G':Gh:=⟨G.M.filter (·≠a),G.pots⟩
 have sub:∀b∈G'.M,b∈G.M:=fun b hb=>(O8.mp hb).1;have mm:∀{x:PV} {v:V},Rep C.K G H x v->Rep C.K G' H x v:=fun r=>Rep.mono (G':=G') (fun _ _ _ e=>e) (fun b hb=>.inl (sub b hb)) (fun _ _ e=>e) _ _ r;have mms:∀{x:List PV} {v:List V},Reps C.K G H x v->Reps C.K G' H x v:=fun r=>Reps.mono (G':=G') (fun _ _ _ e=>e) (fun b hb=>.inl (sub b hb)) (fun _ _ e=>e) _ _ r
 refine⟨G',{
   frame:=S.frame
   sub:=fun b hb=>S.sub b (sub b hb)
   sup:=fun b hb=>O8.mpr ⟨S.sup b hb,decide_eq_true (show b≠a from fun z=>h2 (by rw [<- z];exact hb))⟩
   pots:=fun p hp=>⟨O8.mpr ⟨(S.pots p hp).1,decide_eq_true (show p≠a from fun z=>h3 (by rw [<- z];exact hp))⟩,C.T.more (S.pots p hp).2 fun b hb=>.inl (sub b hb)⟩
   pre:=S.pre
   mu:=fun b hb=>S.mu b (sub b hb)
   slots:=fun j s es=>?_
   inj:=fun j k xs' ys b e1 e2 e3 e4=>?_
   p0:=S.p0
   len:=by rw [G6];exact S.len
   newp:=S.newp },⟨fun _ _ _ e=>e,fun b hb=>.inl (sub b hb),fun _ _ e=>e⟩⟩
 · by_cases hj:i=j
   · subst hj;rw [J5 (D9.mp ex).1] at es;cases es;refine⟨.ref a,ev,a,ks.zip vs,rfl,fun z=>by simpa using(O8.mp z).2,h4,List.map_fst_zip (i6 hlv),?_⟩;rw [Dw (i6 hlv.symm)];exact mms r
   · rw [F9 hj] at es;have:=S.slots j s es;cases s with
     | v x =>
       obtain⟨v,e1,r⟩:=this;exact⟨v,e1,mm r⟩
     | ow kz zs =>
       obtain⟨b,us,e1,g1,g2,g3,g4,r⟩:=this;have hba:b≠a:=fun z=>hj (S.inj i j (.dk ks,xs) (kz,zs) a ex es ev (by rw [e1,z]));exact⟨b,us,e1,O8.mpr ⟨g1,by simpa using hba⟩,g2,g3,g4,mms r⟩
 · have back:∀(j:Nat) (zs:OK×List PV),(env.set i (some (.v (.dct ks xs))))[j]?=some (some (Slot.ow zs.1 zs.2))->env[j]?=some (some (.ow zs.1 zs.2)):=by
     intro j zs h
     by_cases hj:i=j
     · subst hj;rw [J5 (D9.mp ex).1] at h;cases h
     · rw [F9 hj] at h;exact h
   exact S.inj j k xs' ys b (back j _ e1) (back k _ e2) e3 e4
section
variable {T:PotK}{np:Bool}{ι:Type}{K:A4}{F:ι->Cx}{st:Stmt}{p1:pS}
def CN (i:Nat)(p:pS):pS:=fun D env n=>match env[i]? with | some (some (.ow (.dk ks) xs))=>ks.length=xs.length/\p D (env.set i (some (.v (.dct ks xs)))) n | _=>False
theorem Kx (i:Nat)(h:QS T np K F st p1):QS T np K F st (CN i p1):=by
 obtain⟨t,a1,a2⟩:=h;refine⟨t,a1,fun C G σ H env n PD D hK hT hn S hp L=>?_⟩;unfold CN at hp
 split at hp
 · rename_i ks xs ex;obtain⟨G',S',x'⟩:=S.freezeK ex hp.1;exact a2 C G' σ H _ n PD D hK hT hn S' hp.2 (L.ext x')
 · exact hp.elim
end
end Pu
end
section
namespace L2
open PySem PySem.Spec PyProof.Rows
section
variable {prog:C5}{w:World}{A:Around}{E:Value->Shared->Prop}{s:Shared}
theorem Qc {j:Nat}(ht:s.heap.IsTuple t its)(hS:StrsAre its.toList ys)(hj:ys[j]?=some k)(hlt:∀i,i < j->ys[i]?≠some k)(hsm:ys.length<=1000000)
   (h:∀tk,Q (.int j tk) { s with toks:=s.toks + 1 }):wpAny (model prog w) A (call (.builtin "tuple.index") [.ref t,.str k tok]) Q E s:=by
 obtain⟨o,ho,hc,n,hd⟩:=id ht;have hT:s.TypeIs (.ref t) "tuple":=⟨o,ho,hc⟩;refine W0 F.slot_tuple_index hT F.entry_tuple_index ?_ (F.args_tuple_index_2 _ _);unfold R5.«tuple.index»;refine A0 (R3 (a:=(N3 t,[Value.str k tok])) rfl ?_);refine A0 (wpAny_tupleItemsOf ho hd ?_);dsimp only;refine A0 (A5 (A0 (A5 ?_)));refine A0 ?_;have hlen:ys.length=its.toList.length:=(StrsAre.length hS).symm
 have at_:∀(i:Nat) (y:Str),ys[i]?=some y->∃u,its[i]?=some (.str y u):=by
   intro i y hy
   have:∀{us:List Value} {zs:List Str},StrsAre us zs->∀(i:Nat),zs[i]?=some y->∃u,us[i]?=some (.str y u):=by
     intro us zs hh
     induction hh with
     | nil=>intro i h;cases h
     | cons x t _ ih =>
       intro i h;cases i with
       | zero=>cases h;exact⟨t,rfl⟩
       | succ i=>exact ih i (by simpa using h)
   obtain⟨u,hu⟩:=this hS i hy;exact⟨u,by rw [<- FH];exact hu⟩
 have hjl:j < its.size:=by
   have:=(D9.mp hj).1;rw [hlen,T1] at this;exact this
 rw [Std.Legacy.Range.forIn_eq_forIn_range'];refine wpAny_forIn_list _ (fun rest r s'=>r.1=none/\s'=s/\∃i,rest=List.range' i (its.size - i)/\i<=j) _ ?_ ?_ _ _ ⟨rfl,rfl,0,?_,J6 _⟩
 · rintro x rest ⟨r1,r2⟩ s' ⟨hr,rfl,i0,hi,hij⟩;have hil:its.size - i0=(its.size - i0 - 1) + 1:=by omega
   rw [hil,List.range'_succ] at hi;obtain⟨i,hxi⟩:∃i,x=i:=⟨x,rfl⟩;injection hi with h1 h2;subst h2;have hi0:i0=i:=by rw [<- hxi,h1]
   subst hi0;subst hxi;clear h1
   revert hij hil
   generalize x=i;intro hij hil;have hiy:i < ys.length:=by rw [hlen,T1];omega
   obtain⟨u,hu⟩:=at_ i ys[i] (D7 hiy);rw [hu];dsimp only;refine A0 (eqBool_str ?_)
   by_cases c:i=j
   · subst c
     have:ys[i]=k:=by
       have:=D7 hiy;rw [hj] at this;exact(N0 this).symm
     rw [this,beq_self_eq_true,if_pos rfl];refine A0 (A0 (wpAny_mkInt (A5 (A5 ?_))));exact A5 ⟨_,rfl,h _⟩
   · have:ys[i]≠k:=fun e=>hlt i (by omega) (by rw [D7 hiy,e]);rw [beq_eq_false_iff_ne.mpr this,if_neg N5];refine A5 ⟨rfl,rfl,i + 1,?_,by omega⟩;rw [show its.size - (i + 1)=its.size - i - 1 by omega]
 · rintro⟨r1,r2⟩ s' ⟨hr,rfl,i,hi,hij⟩;have hil:its.size - i=(its.size - i - 1) + 1:=by omega
   rw [hil,List.range'_succ] at hi;cases hi
 · simp [Std.Legacy.Range.size]
end
section
variable {X:Cx}
def Ky (K:A4):V->List V->Hp->VK->Prop:=fun x vs H Q=>∃(l:Addr) (k:Str) (ys:List Str) (j:Nat),x=.ref l/\vs=[.str k]/\SqT K H l (ys.map V.str)/\ys.length<=1000000/\ys[j]?=some k/\(∀i,i < j->ys[i]?≠some k)/\Q (.int j) H
theorem Qd:MtM X "tuple.index" (Ky X.K):=by
 intro pins s σ H x vs v us Q I rx rv h;obtain⟨l,k,ys,j,rfl,rfl,hq,hz0,hj,hlt,q⟩:=h;cases rx;obtain⟨u,rfl,ru⟩:=rv.one;obtain⟨t,rfl⟩:=ru;obtain⟨its,r,p,hz⟩:=I.tuple hq;exact Qc p (GQ r) hj hlt hz0 fun tk=>⟨.int j,H,I.tok _,⟨_,rfl⟩,q⟩
end
end L2
end
section
namespace Pu
open PySem PySem.Spec PyProof.Rows L2
section
variable {T:PotK}{ι:Type}{K:A4}{F:ι->Cx}{e c:Expr}{pe pc:pE}{pos:Pos}
def t9:w2:=fun x y R=>match x,y with | .tup xs,.str k=>(match T4 xs with | some ys=>ys.length<=1000000/\∃j:Nat,ys[j]?=some k/\(∀i,i < j->ys[i]?≠some k)/\R (.int j) | none=>False) | _,_=>False
def T9 (pe pc:pE):pE:=fun env n R=>pe env n fun x env1 n1=>(∃xs,x=.tup xs)/\pc env1 n1 fun y env2 n2=>t9 x y fun z=>R z env2 n2
theorem k6 (he:QE T K F e pe)(hc:QE T K F c pc)(hs:E5 c=true:=by rfl)(hbase:∀z,Y6 e "index" (F z).env (eval e (F z).env)=eval e (F z).env:=by intro _;rfl)(hline:(ap.endLine == pos.line)=true:=by rfl)
   (hfew:∀z,((backTo pos (D6 [c] (F z).env)).all (fun x=>!x.1) && (W5 pos (W3 [] (F z).env)).all (fun x=>x.1.isSome) && decide (([c]:List Expr).length + ([]:List O1).length + (if([]:List O1).isEmpty then 0 else 1) < 30))=true:=by intro _;rfl) (hK:∀z,(F z).K=K:=by intro _;rfl):QE T K F (.Call (.Attribute e "index" ap) [c] [] pos) (T9 pe pc):=by
 obtain⟨t,a1,a2⟩:=he;obtain⟨u,b1,b2⟩:=hc;refine⟨tBM K "tuple" (Ky K) t (V0 u tNil),fun z=>hK z▸Ci PySem.F.plainAttrs_tuple PySem.F.slot_tuple_index PySem.F.type_tuple_index Qd (a1 z) (E9 (b1 z) G7 (C8 hs)) (hbase z) (hfew z) hline (C8 hs),fun C G σ H env n R Q hK hT S hp k=>?_⟩;refine a2 C G σ H env n _ _ hK hT S hp fun x env1 n1 v H1 q1 S1 r1 f1=>?_;obtain⟨⟨xs,rfl⟩,q1⟩:=q1;obtain⟨a,vs,rfl,ta,ra⟩:=r1;refine⟨?_,?_⟩
 · exact .inr (.inl ⟨rfl,.inr ⟨vs,ta.2⟩⟩)
 refine b2 C G σ H1 env1 n1 _ _ hK hT S1 q1 fun y env2 n2 w H2 q2 S2 r2 f2=>?_;unfold t9 at q2
 split at q2
 · rename_i xs' kk e1;cases e1
   split at q2
   · rename_i ys ey;obtain⟨hz,j,hj,hlt,q3⟩:=q2;obtain⟨a',vs',e3,ta',ra'⟩:=(show Rep K G H1 (.tup xs) (.ref a) from⟨a,vs,rfl,ta,ra⟩).fr f2;cases e3;exact⟨a,kk,ys,j,rfl,by rw [show w=.str kk from r2],Eu ey ra'▸SqT.of ta'.2,hz,hj,hlt,k _ _ _ _ _ q3 S2 rfl (f1.trans f2)⟩
   · exact q2.elim
 · exact q2.elim
end
end Pu
end
section
namespace Pu
open PySem PySem.Spec L2
def getP:List Key->List PV->Key->Option PV
 | k'::ks,x::xs,k=>if k'=k then some x else getP ks xs k
 | _,_,_=>none
theorem EK {K:A4}{G:Gh}{H:Hp}(k:Key):∀(kvs:List (Key×V)) (xs:List PV),Reps K G H xs (kvs.map (·.2))->(getP (kvs.map (·.1)) xs k=none/\valV kvs k=none)\/∃x v,getP (kvs.map (·.1)) xs k=some x/\valV kvs k=some v/\Rep K G H x v
 | [],xs,_=>.inl ⟨by cases xs <;> rfl,rfl⟩
 | (k',v')::kvs,[],h=>by cases h
 | (k', v') :: kvs, x :: xs, h => by
   obtain⟨v,t,e,h1,h2⟩:=h;rw [J9] at e;injection e with e1 e2;subst e1;subst e2
   by_cases c:k'=k
   · refine .inr ⟨x,v',?_,?_,h1⟩
     · show(if k'=k then some x else _)=_;rw [if_pos c]
     · show(((k',v')::kvs).find? fun kv=>decide (kv.1=k)).map (·.2)=_;rw [List.find?_cons_of_pos (by exact decide_eq_true c)];rfl
   · have e1:getP (((k',v')::kvs).map (·.1)) (x::xs) k=getP (kvs.map (·.1)) xs k:=by
       show(if k'=k then some x else getP (kvs.map (·.1)) xs k)=_;rw [if_neg c]
     have e2:valV ((k',v')::kvs) k=valV kvs k:=by
       show(((k',v')::kvs).find? fun kv=>decide (kv.1=k)).map (·.2)=_;rw [FD (by simpa using c)];rfl
     rw [e1,e2];exact EK k kvs xs h2
def Hf (pd pk pz:pE):pE:=fun env n R=>pd env n fun d env1 n1=>(∃ks xs,d=.dct ks xs)/\pk env1 n1 fun k env2 n2=>pz env2 n2 fun z env3 n3=>match d,keyV k with | .dct ks xs,some key=>R ((getP ks xs key).getD z) env3 n3 | _,_=>False
section
variable {T:PotK}{ι:Type}{K:A4}{F:ι->Cx}{e c f:Expr}{pe pc pf:pE}{pos:Pos}
theorem Qe {k0:Nat}{ap:Pos}(hr:∀z,Room k0 (F z).A)(he:QE T K F e pe)(hc:QE T K F c pc)(hf:QE T K F f pf)(hm:∀z,M2 (F z) e "get" ap c f pos:=by intro _;exact⟨rfl,rfl,rfl,rfl⟩):QE T K F (.Call (.Attribute e "get" ap) [c,f] [] pos) (Hf pe pc pf):=by
 obtain⟨t,a1,a2⟩:=he;obtain⟨u,b1,b2⟩:=hc;obtain⟨w,c1,c2⟩:=hf;refine⟨JK t u w,fun z=>Oq (X7 (hr z)) (a1 z) (b1 z) (c1 z) (hm z),fun C G σ H env n R Q hK hT S hp k=>?_⟩;refine a2 C G σ H env n _ _ hK hT S hp fun x env1 n1 v H1 q1 S1 r1 f1=>?_;obtain⟨⟨ks,xs,rfl⟩,q1⟩:=q1;obtain⟨a,kvs,rfl,hM,ha,ek,rx⟩:=r1;refine⟨a,rfl,.inl ⟨kvs,.inl ha⟩,?_⟩;refine b2 C G σ H1 env1 n1 _ _ hK hT S1 q1 fun y env2 n2 v2 H2 q2 S2 r2 f2=>?_;refine c2 C G σ H2 env2 n2 _ _ hK hT S2 q2 fun z env3 n3 v3 H3 q3 S3 r3 f3=>?_
 split at q3
 · rename_i ks' xs' key e1 e2;cases e1;have ha3:H3 a=some (.dK kvs):=f3 a _ hM (f2 a _ hM ha);have rx3:Reps K G H3 xs (kvs.map (·.2)):=(rx.fr f2).fr f3;rw [Bs r2 e2];refine⟨valV kvs key,DGet.k ha3,?_⟩;rw [<- ek] at q3;rcases EK key kvs xs rx3 with⟨g1,g2⟩ | ⟨x,v,g1,g2,g3⟩
   · rw [g1] at q3;rw [g2];exact k _ _ _ _ _ q3 S3 r3 ((f1.trans f2).trans f3)
   · rw [g1] at q3;rw [g2];exact k _ _ _ _ _ q3 S3 g3 ((f1.trans f2).trans f3)
 · exact q3.elim
end
end Pu
end
section
namespace Pu
open PySem PySem.Spec L2
def frzS:Slot->Option Slot
 | .v x=>some (.v x)
 | .ow .lst xs=>some (.v (.lst xs))
 | .ow (.dk ks) xs=>if ks.length=xs.length then some (.v (.dct ks xs)) else none
 | .ow (.dt _) _=>none
 | .ow (.st _) _=>none
def frz (env:Env):Env:=env.map fun o=>o.bind frzS
end Pu
end
section
namespace L2
open PySem PySem.Spec PyProof.Rows
theorem Qf {P:C5}{w:World}{h:Heap}{a:Addr}(e:h.get? a=some { cls:=.type "dict",data:=.dict #[] }):h.DictOf (F2 P w) a []:=by
 obtain⟨o,ho,r⟩:=Heap.dictOf_iff.mp (Heap.DictOf.new (knd:=F2 P w) h);rw [F3 _ rfl] at ho;cases ho;exact Heap.dictOf_iff.mpr ⟨_,e,r⟩
theorem Qg {prog:C5}{w:World}{A:Around}{R:Result->Shared->Prop}{s:Shared}{kx vx target iter:Expr}{ifs:List Expr}{scope:Scope}{pos:Pos}{it:Value}{D:Addr}{env:Env}(I:Nat->Shared->Prop)
   (turn:∀n s,I n s->wpAny (model prog w) A (pyNext it) (fun r s₁=>match r with
     | none=>R (.ok .next) s₁
     | some v=>wpAny (model prog w) A (d9 target it v) (fun _ s₁'=>wpAny (model prog w) A (assign target env v) (fun _ s₂=>
         wpAny (model prog w) A (forIn ifs true fun c r=>if r=true then do let ok ← isTrue c env (eval c env);pure (Z6 ok) else pure (Z6 r)) (fun ok s₃=>
           if ok=true then wpAny (model prog w) A (eval kx env) (fun kv s₄=>wpAny (model prog w) A (eval vx env) (fun vv s₅=>
             wpAny (model prog w) A (dictSet D kv vv) (fun _ s₆=>∃m,m < n/\I m s₆) (fun _ _=>False) s₅) (fun _ _=>False) s₄) (fun _ _=>False) s₃
           else ∃m,m < n/\I m s₃) (fun _ _=>False) s₂) (fun _ _=>False) s₁') (fun _ _=>False) s₁) (fun _ _=>False) s)
   (n:Nat) (h:I n s):M9 (model prog w) A (.compLoop (.DictComp kx vx [⟨target,iter,ifs,0⟩] scope pos) 0 it (.ref D) env) R s:=by
 refine codeAny_loop rfl I (fun n s hI=>?_) n h;show wpAny _ A ((compTurn (.DictComp kx vx [⟨target,iter,ifs,0⟩] scope pos) 0 it (.ref D) env).onRaise (fun x=>do noteFrame x env;Dk x)) _ _ s;refine wpAny_noted ?_;rw [compTurn_dict];refine A0 (U2 (A0 (E7 (turn n s hI) (fun r s₁ h₁=>?_) fun _ _ h'=>h'.elim)));cases r with
 | none=>exact A5 h₁
 | some v =>
   refine A0 (E7 h₁ (fun _ s₁' h₁'=>?_) fun _ _ h'=>h'.elim);refine A0 (E7 h₁' (fun _ s₂ h₂=>A0 (E7 h₂ (fun ok s₃ h₃=>?_) fun _ _ h'=>h'.elim)) fun _ _ h'=>h'.elim);cases ok with
   | false=>exact A5 ⟨rfl,h₃⟩
   | true =>
     exact A0 (A0 (E7 h₃ (fun kv s₄ h₄=>A0 (M7 (E7 h₄ (fun vv s₅ h₅=>A0 (U2 (M7 (E7 h₅ (fun _ s₆ h₆=>A5 ⟨rfl,h₆⟩) fun _ _ h'=>h'.elim)))) fun _ _ h'=>h'.elim))) fun _ _ h'=>h'.elim))
def Kz (J:It)(g:TG)(tt:TT)(tk tv:TE)(Q:VK)(D:Addr)(σc:St)(H1:Hp):Prop:=∃W:Nat->Nat->St->Hp->Prop,(∃m,W 0 m σc H1)/\
 ∀i m σ' H',W i m σ' H'->(J.stop i H'/\Q (.ref D) H')\/(J.go i H'/\∀x H2,J.yld i H' x H2->g x σ' H2 fun σ3 H3=>tt σ3 H3 fun b H4=>
    if b=true then tk σ3 H4 fun k H5=>tv σ3 H5 fun v H6=>∃kvs kk,k=kV kk/\H6 D=some (.dK kvs)/\kvs.length < B5/\∃m',m' < m/\W (i + 1) m' σ3 (upd H6 D (.dK (putK kvs kk v)))
    else ∃m',m' < m/\W (i + 1) m' σ3 H4)
def tCompD (cs:List (Option Nat))(wi:TI)(g:TG)(tt:TT)(tk tv:TE):TE:=fun σ H Q=>wi σ H fun J H1=>∀D,H1 D=none->Kz J g tt tk tv Q D (p5 cs σ) (upd H1 D (.dK []))
theorem Qh {X:Cx}{scope:Scope}{cl:List (Str×Addr)}{N:List Str}{cs:List (Option Nat)}(S:X8 X scope cl N cs){pins:List (Addr×Obj)}{σ:St}{H:Hp}{s:Shared}{fp:List Addr}{h₁:Heap}{tk:Nat}
   (I:Inv X pins σ H s) (f2:∀b∈fp,FpOk X pins H b) (ho:∀b∈fp,∃o,s.heap.get? b=some o)
   (old:∀b o,s.heap.get? b=some o->h₁.get? b=some o) (hns:h₁.Ns (s.heap.objs.size + 1) (fun x=>([]:List (Str×Value)).reverse.lookup x))
   (hD:h₁.get? s.heap.objs.size=some { cls:=.type "dict",data:=.dict #[] }) :
   Inv (D3 X scope cl N fp (s.heap.objs.size + 1) s H) pins (p5 cs σ) (upd H s.heap.objs.size (.dK [])) { s with heap:=h₁,toks:=tk }:=by
 have lt:∀b o,s.heap.get? b=some o->b < s.heap.objs.size:=fun b o e=>C0 e;have neC:∀b o,s.heap.get? b=some o->b≠s.heap.objs.size + 1:=fun b o e=>C3 (O3 (lt b o e));have neD:∀b o,s.heap.get? b=some o->b≠s.heap.objs.size:=fun b o e=>C3 (lt b o e);have nstk:∀b,b≠X.env.locals->b∉X.fs->b∉frs X.stack:=fun b h1 h2 hb=>(B6.mp (I.stkSub b hb)).elim h1 h2
 have cellO:∀x c,cl.lookup x=some c->∃v o,s.heap.get? c=some o/\s.heap.IsCell c v:=fun x c e=>by
   obtain⟨v,q⟩:=I.cell x c (S.sub x c e);obtain⟨o,h1,_⟩:=id q;exact⟨v,o,h1,q⟩
 refine⟨⟨I.ok.mod,S.kind,I.ok.glob,I.ok.blt,Z3 _,fun x y c h1 h2=>I.ok.inj x y c (S.sub x c h1) (S.sub y c h2),fun x hx=>S.has x hx,fun x c hx=>(by cases hx),I.ok.hd,I.ok.frames,.inl rfl,fun b hb=>?_,I.bs,K5 I.ok.bsz I.sz,fun b o e hb=>?_,fun b hb=>?_,I.stack,I.stkFree,I.nos⟩,
   rfl,I.bare,Un.laid old (B4 _) I.fresh I.bigS,⟨_,hns,fun i x v e1 e2 e3=>?_⟩,fun x c e=>?_,?_,fun x c e=>?_,fun p hp=>?_,I.hok.laid old (B4 _) ⟨J6 _,beq_eq_false_iff_ne.mpr (Ne.symm (C3 I.big)),[],.nil,Qf hD⟩,?_⟩
 · obtain⟨o,e⟩:=ho b hb;exact⟨neC b o e,fun x c ec=>(f2 b hb).2.2.2.2.1 x c (S.sub x c ec)⟩
 · rcases(f2 b hb).2.2.2.1 with z | z
   · exact I.ok.noex b o e z
   · exact absurd (K1 (C0 e) (K5 I.ok.bsz z)) (Z2 _)
 · exact nstk b (f2 b hb).2.1 (f2 b hb).2.2.1
 · have e2':(cs.map fun o=>o.bind fun j=>(σ[j]?).bind id)[i]?=some (some v):=e2;rw [F6] at e2';cases ec:cs[i]? with
   | none=>rw [ec] at e2';cases e2'
   | some o =>
     rw [ec] at e2';cases o with
     | none=>cases e2'
     | some j =>
       have e2'':(σ[j]?).bind id=some v:=by simpa using e2'
       cases es:σ[j]? with
       | none=>rw [es] at e2'';cases e2''
       | some ov =>
         rw [es] at e2'';have e4:ov=some v:=by simpa using e2''
         subst e4;obtain⟨hN,hv,hnl,⟨c,hc⟩,hk⟩:=S.cap i j x ec e1;obtain⟨m,hn,hl⟩:=I.loc;obtain⟨u,r,l⟩:=hl j x v hN es hv;refine⟨u,r,?_⟩;rcases l with⟨hk',_⟩ | ⟨_,c',hc',z⟩
         · exact absurd hk' hnl
         · have ecc:c'=c:=by
             have:=S.sub x c hc;rw [hc'] at this;exact N0 this
           subst ecc;obtain⟨o,h1,h2⟩:=z;exact .inr ⟨hk,c',hc,⟨o,old _ o h1,h2⟩⟩
 · obtain⟨v,o,h1,o',h2,h3⟩:=cellO x c e;exact⟨v,o',old _ o' h2,h3⟩
 · show upd H s.heap.objs.size (.dK []) (s.heap.objs.size + 1)=none;rw [A7 (Nat.succ_ne_self _)];exact I.hok.fresh (Z3 _)
 · obtain⟨v,o,h1,_⟩:=cellO x c e;rw [A7 (neD c o h1)];exact I.freeC x c (S.sub x c e)
 · obtain⟨e,n,ne,nf,d⟩:=I.pin p hp;exact⟨old _ _ e,by rw [A7 (neD _ _ e)];exact n,neC _ _ e,nstk _ ne nf,d⟩
 · show(cs.map _).length=N.length;rw [B2];exact S.len
end L2
end
section
namespace Pu
open PySem PySem.Spec L2
abbrev pSlN:=Env->Nat->(List Slot->Env->Nat->Prop)->Prop
def Gots (C:Ct)(G:Gh)(H:Hp)(σ:St)(env:Env):List Slot->List V->Prop
 | [],vs=>vs=[]
 | s::ss,vs=>∃v r,vs=v::r/\Got C G H σ env s v/\(∀(xs:OK×List PV) a,s=.ow xs.1 xs.2->v=.ref a->∀(ys:OK×List PV) w,(Slot.ow ys.1 ys.2,w)∈ss.zip r->w≠.ref a)/\Gots C G H σ env ss r
section
variable {T:PotK}{np:Bool}{ι:Type}{K:A4}{F:ι->Cx}{e:Expr}{es:List Expr}{st:Stmt}{s1:pSl}{sl:pSlN}{pos:Pos}
theorem Gots.set (hl:env.length=σ.length):∀{ss:List Slot} {vs:List V},Gots C G H σ env ss vs->(∀(xs:OK×List PV) a,s0=.ow xs.1 xs.2->v0=.ref a->∀(ys:OK×List PV) w,(Slot.ow ys.1 ys.2,w)∈ss.zip vs->w≠.ref a)->Gots C G H (σ.set i (some v0)) (env.set i (some s0)) ss vs
 | [],_,h,_=>h
 | s :: ss, vs, h, no => by
   obtain⟨v,r,rfl,g,ne,h⟩:=h;refine⟨v,r,rfl,⟨g.1,fun xs a e1 e2 z=>?_⟩,ne,Gots.set hl h fun xs a e1 e2 ys w hw=>no xs a e1 e2 ys w (by rw [X0];exact B3 _ hw)⟩;rcases GA hl z with z | ⟨⟨zs,ez⟩,ev⟩
   · exact g.2 xs a e1 e2 z
   · exact no zs a ez ev xs v (by rw [X0,e1];exact B8) e2
end
end Pu
end
section
namespace L2
open PySem PySem.Spec PyProof.Rows
section
variable {prog:C5}{w:World}{A:Around}{E:Value->Shared->Prop}{s:Shared}
theorem Qi (hne:t≠it):∀(n i:Nat) (s:Shared) (Q:List Value->Shared->Prop),s.heap.IsListIter it t i->s.heap.IsList t items->i + n<=items.size->
   (∀h':Heap,h'.IsListIter it t (i + n)->w4 it s.heap h'->Q ((items.toList.drop i).take n) { s with heap:=h' })->wpAny (model prog w) A (draw (.ref it) n) Q E s:=by
 intro xq
 induction xq with
 | zero =>
   intro i s Q hit _ _ hQ;show wpAny _ _ (pure []) Q E s;exact A5 (by simpa using hQ s.heap hit (Heap.SameBut.refl ..))
 | succ n ih =>
   intro i s Q hit ht hle hQ;have hlt:i < items.size:=by omega
   show wpAny _ _ (pyNext (.ref it)>>=_) Q E s;refine A0 (wpAny_pyNext_list_item hit ht (x:=items[i]) (by simp [hlt]) fun h₁ hit₁ hs₁=>?_);refine A0 (M7 (ih (i + 1) _ _ hit₁ (ht.extBut hs₁.extBut hne) (by omega) fun h₂ hit₂ hs₂=>A5 ?_));have hd:items.toList.drop i=items[i]::items.toList.drop (i + 1):=by simp [W8,hlt]
   have:=hQ h₂ (by rw [show i + (n + 1)=i + 1 + n by omega];exact hit₂) (hs₁.trans hs₂);rw [hd,List.take_succ_cons] at this;exact this
theorem Qj {env:Env}{elts:List Expr}{x1}{pos:Pos}{t:Addr}{items:Array Value}{Q:Unit->Shared->Prop}(hh:A.handled=none)(ht:s.heap.IsList t items)
   (hn:(F5 elts env).length=items.size) (hstar:(F5 elts env).findIdx? (·.1)=none)
   (h:∀h',BH s.heap.objs.size s.heap h'->wpAny (model prog w) A (assignInOrder ((F5 elts env).map (·.2)) items.toList) Q E { s with heap:=h' }) :
   wpAny (model prog w) A (assign (.Tuple elts x1 pos) env (.ref t)) Q E s:=by
 rw [assign_Tuple];refine A0 (U2 ?_);have hlt:t≠s.heap.objs.size:=by obtain⟨o,ho,_⟩:=ht;exact C3 (C0 ho)
 unfold unpack;rw [hn,hstar];refine A0 (M7 ?_);unfold unpackItems;refine A0 ?_;unfold notIterableAtAll;refine A0 (wpAny_specialOf ht.typeIs slot_list_iter.lookup ?_);refine A5 ?_;simp only [Z4,if_false];refine A0 (M7 (BD ht ?_));refine A0 (M7 (Qi hlt items.size 0 _ _ ⟨_,F3 _ rfl,rfl,rfl⟩ (ht.push _) (by omega) fun h₁ hit₁ hs₁=>?_))
 have hall:List.take items.size (List.drop 0 items.toList)=items.toList:=by
   rw [i3];exact l7 (by simp)
 rw [hall];rw [if_neg (by simp)];have ht₁:h₁.IsList t items:=(ht.push _).extBut hs₁.extBut hlt;refine A0 (M7 (wpAny_pyNext_list_end hh hit₁ ht₁ (by simp) fun h₂ he₂=>?_));simp only [Option.isSome_none,Z4,if_false];exact A5 (h h₂ fun b o hb e=>he₂ b o hb (hs₁.extBut b o hb (B7 _ e)))
end
section
variable {X:Cx}{pos:Pos}
def gLst (K:A4)(n:Nat)(t:TGs):TG:=fun v σ H Q=>∃a xs,v=.ref a/\SqL K H a xs/\xs.length=n/\t xs σ H Q
theorem pg_lst (hc:X.calm=true)(h:PGs X es t)
   (hn:(F5 es X.env).length=n:=by rfl) (hst:(F5 es X.env).findIdx? (·.1)=none:=by rfl):PG X (.Tuple es k pos) (gLst X.K n t):=by
 intro pins s σ H v u Q I r hw;obtain⟨a,xs,e1,hq,hl,hw⟩:=hw;subst e1;cases r;obtain⟨its,rv,ht⟩:=I.sqL hq;refine Qj (I.ok.hd hc) ht (by simp [hn,<- hl,rv.length]) hst fun h' hx=>?_;have I1:Inv X pins σ H { s with heap:=h' }:=I.kept (t':=s.toks) fun b o e=>hx b o (C3 (C0 e)) e;exact h pins _ σ H xs _ Q I1 (by simpa using rv) hw
end
end L2
namespace Pu
open PySem PySem.Spec L2
section
variable {ι:Type}{K:A4}{F:ι->Cx}{es:List Expr}{pgs:pGs}{pos:Pos}
def gTl (m:Nat)(g:pGs):pG:=fun x env R=>match x with | .lst xs=>xs.length=m/\g xs env R | _=>False
theorem qg_lst (hc:∀z,(F z).calm=true)(h:QGs K F es pgs)(hn:∀z,(F5 es (F z).env).length=m:=by intro _;rfl)(hst:∀z,(F5 es (F z).env).findIdx? (·.1)=none:=by intro _;rfl)(hK:∀z,(F z).K=K:=by intro _;rfl):QG K F (.Tuple es k pos) (gTl m pgs):=by
 obtain⟨g,a1,a2⟩:=h;refine⟨_,fun z=>hK z▸pg_lst (hc z) (a1 z) (hn z) (hst z),fun C G σ H env n x v R Q hK S r hp k=>?_⟩;cases x with
 | lst xs =>
   obtain⟨a,vs,rfl,t,rs⟩:=r;exact⟨a,vs,rfl,t.sq,by rw [<- rs.length];exact hp.1,a2 C G σ H env n xs vs _ _ hK S rs hp.2 k⟩
 | _=>exact hp.elim
end
end Pu
end
section
namespace L2
open PySem PySem.Spec PyProof.Rows
abbrev LC2 (elt t1 i1 t2 i2:Expr)(ifs:List Expr)(scope:Scope)(pos:Pos):Expr:=.ListComp elt [⟨t1,i1,[],0⟩,⟨t2,i2,ifs,0⟩] scope pos
theorem Qk (elt t1 i1 t2 i2:Expr)(ifs:List Expr)(scope:Scope)(pos:Pos)(it acc:Value)(env:Env) :
   compTurn (LC2 elt t1 i1 t2 i2 ifs scope pos) 1 it acc env=(do
     standAt i2.pos
     match ← pyNext it with
     | none=>pure (.done .next)
     | some v =>
       d9 t2 it v
       assign t2 env v
       let mut ok:=true
       for c in ifs do
         if ok then ok ← isTrue c env (eval c env)
       if ok then
         (do let _ ← call (.builtin "list.append") [acc,<- eval elt env])
       again (.compLoop (LC2 elt t1 i1 t2 i2 ifs scope pos) 1 it acc env)):=by rfl
section
variable {prog:C5}{w:World}{A:Around}{R:Result->Shared->Prop}{s:Shared}{elt t1 i1 t2 i2:Expr}{ifs:List Expr}{scope:Scope}{pos:Pos}{it acc:Value}{env:Env}
theorem loop_i (I:Nat->Shared->Prop)
   (turn:∀n s,I n s->wpAny (model prog w) A (pyNext it) (fun r s₁=>match r with
     | none=>R (.ok .next) s₁
     | some v=>wpAny (model prog w) A (d9 t2 it v) (fun _ s₁'=>wpAny (model prog w) A (assign t2 env v) (fun _ s₂=>
         wpAny (model prog w) A (forIn ifs true fun c r=>if r=true then do let ok ← isTrue c env (eval c env);pure (Z6 ok) else pure (Z6 r)) (fun ok s₃=>
           if ok=true then wpAny (model prog w) A (eval elt env) (fun x s₄=>
             wpAny (model prog w) A (call (.builtin "list.append") [acc,x]) (fun _ s₅=>∃m,m < n/\I m s₅) (fun _ _=>False) s₄) (fun _ _=>False) s₃
           else ∃m,m < n/\I m s₃) (fun _ _=>False) s₂) (fun _ _=>False) s₁') (fun _ _=>False) s₁) (fun _ _=>False) s)
   (n:Nat) (h:I n s):M9 (model prog w) A (.compLoop (LC2 elt t1 i1 t2 i2 ifs scope pos) 1 it acc env) R s:=by
 refine codeAny_loop rfl I (fun n s hI=>?_) n h;show wpAny _ A ((compTurn (LC2 elt t1 i1 t2 i2 ifs scope pos) 1 it acc env).onRaise (fun x=>do noteFrame x env;Dk x)) _ _ s;refine wpAny_noted ?_;rw [Qk];refine A0 (U2 (A0 (E7 (turn n s hI) (fun r s₁ h₁=>?_) fun _ _ h'=>h'.elim)));cases r with
 | none=>exact A5 h₁
 | some v =>
   refine A0 (E7 h₁ (fun _ s₁' h₁'=>?_) fun _ _ h'=>h'.elim);refine A0 (E7 h₁' (fun _ s₂ h₂=>A0 (E7 h₂ (fun ok s₃ h₃=>?_) fun _ _ h'=>h'.elim)) fun _ _ h'=>h'.elim);cases ok with
   | false=>exact A5 ⟨rfl,h₃⟩
   | true =>
     exact A0 (A0 (E7 h₃ (fun x s₄ h₄=>A0 (E7 h₄ (fun _ s₅ h₅=>A5 (A5 ⟨rfl,h₅⟩)) fun _ _ h'=>h'.elim)) fun _ _ h'=>h'.elim))
theorem Ql (h0:M9 (model prog w) A (.compLoop (LC2 elt t1 i1 t2 i2 ifs scope pos) 1 it acc env) R s)
   (h:wpAny (model prog w) A (pyIter it) (fun it' s'=>M9 (model prog w) A (.compLoop (LC2 elt t1 i1 t2 i2 ifs scope pos) 1 it' acc env) R s') (fun _ _=>False) s) :
   M9 (model prog w) A (.compStart (LC2 elt t1 i1 t2 i2 ifs scope pos) 1 it acc env) R s:=by
 refine Dm ?_;show wpAny _ _ ((compStart (LC2 elt t1 i1 t2 i2 ifs scope pos) 1 it acc env).onRaise (fun x=>do noteFrame x env;standAt theWindowsPlace)) _ _ s;refine wpAny_notedAt ?_;unfold compStart;show wpAny _ _ (ask>>=_) _ _ s;refine A0 (wpAny_askSetting (wpAny_ite ?_))
 split
 · first
     | exact A0 (A5 (A5 (And.intro rfl h0)))
     | exact A5 (And.intro rfl h0)
 · first
     | exact A0 (e6 (A0 (U2 (A0 (E7 h (fun it' s' h'=>A5 (And.intro rfl h')) fun _ _ x=>x.elim)))))
     | (refine A0 (e6 ?_);show wpAny _ _ (standAt i2.pos>>=_) _ _ s;exact A0 (U2 (A0 (E7 h (fun it' s' h'=>A5 (And.intro rfl h')) fun _ _ x=>x.elim))))
theorem loop_o (hs:∀x,P1 i2 env x=pure x)(I:Nat->Shared->Prop)
   (turn:∀n s,I n s->wpAny (model prog w) A (pyNext it) (fun r s₁=>match r with
     | none=>R (.ok .next) s₁
     | some v=>wpAny (model prog w) A (d9 t1 it v) (fun _ s₁'=>wpAny (model prog w) A (assign t1 env v) (fun _ s₂=>
         wpAny (model prog w) A (eval i2 env) (fun x s₃=>wpAny (model prog w) A (pyIter x) (fun it2 s₄=>
           M9 (model prog w) A (.compStart (LC2 elt t1 i1 t2 i2 ifs scope pos) 1 it2 acc env) (fun r s'=>r=.ok .next/\∃m,m < n/\I m s') s₄) (fun _ _=>False) s₃) (fun _ _=>False) s₂) (fun _ _=>False) s₁') (fun _ _=>False) s₁) (fun _ _=>False) s)
   (n:Nat) (h:I n s):M9 (model prog w) A (.compLoop (LC2 elt t1 i1 t2 i2 ifs scope pos) 0 it acc env) R s:=by
 refine codeAny_loop rfl I (fun n s hI=>?_) n h;show wpAny _ A ((compTurn (LC2 elt t1 i1 t2 i2 ifs scope pos) 0 it acc env).onRaise (fun x=>do noteFrame x env;Dk x)) _ _ s;refine wpAny_noted ?_;unfold compTurn;show wpAny _ _ (standAt i1.pos>>=_) _ _ s;refine A0 (U2 ?_);refine A0 (E7 (turn n s hI) (fun r s₁ h₁=>?_) fun _ _ h'=>h'.elim);cases r with
 | none=>exact A5 h₁
 | some v =>
   refine A0 (E7 h₁ (fun _ s₁' h₁'=>?_) fun _ _ h'=>h'.elim);refine A0 (E7 h₁' (fun _ s₂ h₂=>A0 (wpAny_tests_nil ?_)) fun _ _ h'=>h'.elim);refine A0 (E7 h₂ (fun x s₃ h₃=>?_) fun _ _ h'=>h'.elim);refine A0 (U2 ?_);show wpAny _ _ (P1 i2 env x>>=fun x=>(Y8 [x] (pyIter x)>>=fun it2=>(runOwn (.compStart (LC2 elt t1 i1 t2 i2 ifs scope pos) 1 it2 acc env) env>>=fun _=>again (.compLoop (LC2 elt t1 i1 t2 i2 ifs scope pos) 0 it acc env)))) _ _ _;refine A0 (R3 (hs x) (A0 (M7 (E7 h₃ (fun it2 s₄ h₄=>?_) fun _ _ h'=>h'.elim))));refine A0 (wpAny_runOwn ?_);rw [Around.mark_none];refine Av h₄ fun r s' hr=>?_;obtain⟨rfl,hr⟩:=hr;exact A5 ⟨rfl,hr⟩
end
def KA (J:It)(g:TG)(tt:TT)(te:TE)(D:Addr)(N:St->Hp->Prop)(σ:St)(H:Hp):Prop:=∃W:Nat->Nat->St->Hp->Prop,(∃m,W 0 m σ H)/\
 ∀i m σ' H',W i m σ' H'->(J.stop i H'/\N σ' H')\/(J.go i H'/\∀x H2,J.yld i H' x H2->g x σ' H2 fun σ3 H3=>tt σ3 H3 fun b H4=>
    if b=true then te σ3 H4 fun v H5=>∃ys,H5 D=some (.lst ys)/\ys.length < B5/\∃m',m' < m/\W (i + 1) m' σ3 (upd H5 D (.lst (ys++[v])))
    else ∃m',m' < m/\W (i + 1) m' σ3 H4)
def KB (J:It)(g1:TG)(wi2:TI)(g2:TG)(tt:TT)(te:TE)(Q:VK)(D:Addr)(σc:St)(H1:Hp):Prop:=∃W:Nat->Nat->St->Hp->Prop,(∃m,W 0 m σc H1)/\
 ∀i m σ' H',W i m σ' H'->(J.stop i H'/\Q (.ref D) H')\/(J.go i H'/\∀x H2,J.yld i H' x H2->g1 x σ' H2 fun σ3 H3=>wi2 σ3 H3 fun J2 H4=>KA J2 g2 tt te D (fun σ5 H5=>∃m',m' < m/\W (i + 1) m' σ5 H5) σ3 H4)
def tComp2 (cs:List (Option Nat))(wi:TI)(g1:TG)(wi2:TI)(g2:TG)(tt:TT)(te:TE):TE:=fun σ H Q=>wi σ H fun J H1=>∀D,H1 D=none->KB J g1 wi2 g2 tt te Q D (p5 cs σ) (upd H1 D (.lst []))
theorem Qm {X:Cx}{scope:Scope}{cl:List (Str×Addr)}{N:List Str}{cs:List (Option Nat)}{elt t1 i1 t2 i2:Expr}{ifs:List Expr}{pos:Pos}{wi1 wi2:TI}{g1 g2:TG}{tt:TT}{te:TE}(S:X8 X scope cl N cs)(hc:X.calm=true)(hi:PI X t1 i1 wi1)
   (hb:∀(fp:List Addr) (C:Addr) (s:Shared) (H:Hp),PG (D3 X scope cl N fp C s H) t1 g1/\PI (D3 X scope cl N fp C s H) t2 i2 wi2/\PG (D3 X scope cl N fp C s H) t2 g2/\PIf (D3 X scope cl N fp C s H) ifs tt/\PE (D3 X scope cl N fp C s H) elt te)
   (hs2:∀fp C s H x,P1 i2 (D3 X scope cl N fp C s H).env x=pure x)
   (hs:∀x,P1 i1 X.env x=pure x:=by intro _;rfl) :
   PE X (LC2 elt t1 i1 t2 i2 ifs scope pos) (tComp2 cs wi1 g1 wi2 g2 tt te):=by
 intro pins s σ H Q I h;rw [eval_ListComp];refine Df (use:=none) rfl hs S.clos S.kind S.names (thn (hi pins s σ H _ I h) fun v s1 h1=>thn h1 fun itv s2 h2=>?_);obtain⟨it,fp,tn,J,H2,rfl,I2,T,st2,f2,q⟩:=h2
 have ho:∀b∈fp,∃o,s2.heap.get? b=some o:=fun b hb=>by
   obtain⟨o,e,_⟩:=T.obj 0 _ st2 b hb;exact⟨o,e⟩
 refine O6 (BC S.nocell (by intro y hy;simp at hy) (fun h₁ hns₁ hsb₁=>?_) S.kind);dsimp only at hns₁ hsb₁ ⊢;have hC:(s2.heap.push { cls:=.type "list",dict:=none,data:=.seq ([]:List Value).toArray }).objs.size=s2.heap.objs.size + 1:=by rw [U6]
 generalize hH2:s2.heap.push { cls:=.type "list",dict:=none,data:=.seq ([]:List Value).toArray }=hp2 at hns₁ hsb₁ hC ⊢;have old:∀b o,s2.heap.get? b=some o->h₁.get? b=some o:=fun b o e=>hsb₁.extBut b o (by rw [hC];exact C3 (O3 (C0 e))) (B7 _ (hH2▸B7 _ e));have hD:h₁.get? s2.heap.objs.size=some { cls:=.type "list",data:=.seq ([]:List Value).toArray }:=hsb₁.extBut _ _ (by rw [hC];exact C3 (BP _)) (B7 _ (hH2▸F3 _ rfl));rw [hC] at hns₁ ⊢;obtain⟨W,⟨m0,w0⟩,turn⟩:=q s2.heap.objs.size I2.fresh;have Ic:=Gi S (tk:=s2.toks + ([]:List (Str×Value)).length) I2 f2 ho old hns₁ hD;have nstk:∀b,b≠X.env.locals->b∉X.fs->b∉frs X.stack:=fun b h1 h2 hb=>(B6.mp (I2.stkSub b hb)).elim h1 h2
 have stat:∀{H':Hp},(∀b∈fp,H' b=none)->∀b∈fp,FpOk (D3 X scope cl N fp (s2.heap.objs.size + 1) s2 H2) pins H' b:=fun hn b hb=>by
   obtain⟨o,e⟩:=ho b hb;exact⟨hn b hb,C3 (O3 (C0 e)),nstk b (f2 b hb).2.1 (f2 b hb).2.2.1,.inl hb,fun x c ec=>(f2 b hb).2.2.2.2.1 x c (S.sub x c ec),(f2 b hb).2.2.2.2.2⟩
 obtain⟨hg,hi2,hg2,hf,he⟩:=hb fp (s2.heap.objs.size + 1) s2 H2;have st1:tn 0 h₁:=T.keep _ _ _ st2 fun b hb o e=>old b o e
 have fr1:∀b∈fp,upd H2 s2.heap.objs.size (.lst []) b=none:=fun b hb=>by
   obtain⟨o,e⟩:=ho b hb;rw [A7 (C3 (C0 e))];exact(f2 b hb).1
 have loop:∀s₃:Shared,s₃={ s2 with heap:=h₁,toks:=s2.toks + ([]:List (Str×Value)).length }->
     M9 (model X.prog X.w) X.A (.compLoop (LC2 elt t1 i1 t2 i2 ifs scope pos) 0 (.ref it) (.ref s2.heap.objs.size) (compEnvC scope cl (s2.heap.objs.size + 1) X.env))
       (compPost (model X.prog X.w) X.A X.xe none (EP X pins σ Q) (.ref s2.heap.objs.size) (s2.heap.objs.size + 1)) s₃:=by
   rintro s₃ rfl;refine loop_o (hs2 fp (s2.heap.objs.size + 1) s2 H2) (fun n s'=>∃i σ' H',Inv (D3 X scope cl N fp (s2.heap.objs.size + 1) s2 H2) pins σ' H' s'/\tn i s'.heap/\(∀b∈fp,H' b=none)/\W i n σ' H') ?_ m0 ⟨0,_,_,Ic,st1,fr1,w0⟩;rintro n s3 ⟨i,σ3,H3,I3,st3,fr3,w3⟩;rcases turn i n σ3 H3 w3 with⟨stop,qn⟩ | ⟨go,step⟩
   · refine thn (T.done (D3 X scope cl N fp (s2.heap.objs.size + 1) s2 H2) rfl rfl rfl hc i pins s3 σ3 H3 (fun _ _=>False) I3 (stat fr3) st3 stop) fun r s4 ⟨hr,I4⟩=>?_;subst hr;obtain⟨m4,hn4,_⟩:=I4.loc;exact⟨m4,hn4,fun h' hs'=>⟨.ref s2.heap.objs.size,H3,Inv.uncomp I2 f2 I4 fun b hb=>hs'.2 b hb,rfl,qn⟩⟩
   · refine thn (T.item (D3 X scope cl N fp (s2.heap.objs.size + 1) s2 H2) rfl rfl rfl hc i pins s3 σ3 H3 (fun _ _=>False) I3 (stat fr3) st3 go) fun r s4 ⟨u,hr,h4⟩=>?_;subst hr;refine thn h4 fun _ s5 ⟨x,H5,I5,r5,y5,st5,fr5⟩=>?_;have I5':=I5.pinned (stat fr5) (T.obj _ _ st5);refine thn (hg _ s5 σ3 H5 x u _ I5' r5 (step x H5 y5)) fun _ s6 ⟨σ6,H6,I6,q6⟩=>?_;refine thn (hi2 _ s6 σ6 H6 _ I6 q6) fun v7 s7 h7=>thn h7 fun itv s8 h8=>?_;obtain⟨it2,fp2,tn2,J2,H8,rfl,I8,T2,st8,f8,W2,⟨m2,w2⟩,turn2⟩:=h8;have stat2:∀{H':Hp},(∀b∈fp2,H' b=none)->∀b∈fp2,FpOk (D3 X scope cl N fp (s2.heap.objs.size + 1) s2 H2) (pins++x6 fp s5.heap) H' b:=fun hn b hb=>⟨hn b hb,(f8 b hb).2⟩
     have inner:M9 (model X.prog X.w) X.A (.compLoop (LC2 elt t1 i1 t2 i2 ifs scope pos) 1 (.ref it2) (.ref s2.heap.objs.size) (compEnvC scope cl (s2.heap.objs.size + 1) X.env)) (fun r s'=>r=.ok .next/\∃m,m < n/\∃i σ' H',Inv (D3 X scope cl N fp (s2.heap.objs.size + 1) s2 H2) pins σ' H' s'/\tn i s'.heap/\(∀b∈fp,H' b=none)/\W i m σ' H') s8:=by
       exact loop_i _ (Gk (Y:=D3 X scope cl N fp (s2.heap.objs.size + 1) s2 H2) T2 hc stat2 hg2 hf he (fun s10 σ9 H9 I10 qn2=>⟨rfl,Gj T st5 I10 qn2⟩) turn2) m2 ⟨0,σ6,H8,I8,st8,fun b hb=>(f8 b hb).1,w2⟩
     exact Ql inner (T2.self _ 0 _ _ _ st8 inner)
 exact Fw (loop _ rfl) (T.self _ 0 _ _ _ st1 (loop _ rfl))
end L2
end
section
namespace Pu
open PySem PySem.Spec L2
def CO (g:pG)(tt:pT)(te:pE):List PV->Env->Nat->(List PV->Env->Nat->Prop)->Prop
 | [],env,n,R=>R [] env n
 | x::xs,env,n,R=>g x env fun env1=>tt env1 n fun b env2 n2=>if b=true then te env2 n2 fun y env3 n3=>CO g tt te xs env3 n3 fun ys e m=>R (y::ys) e m else CO g tt te xs env2 n2 R
def Aj (g1:pG)(pi2:pA)(g2:pG)(tt:pT)(te:pE):List PV->Env->Nat->(List PV->Nat->Prop)->Prop
 | [],_,n,R=>R [] n
 | x::xs,env,n,R=>g1 x env fun env1=>pi2 env1 n fun ys env2 n2=>ys.length<=1000/\CO g2 tt te ys env2 n2 fun zs env3 n3=>Aj g1 pi2 g2 tt te xs env3 n3 fun ws n4=>R (zs++ws) n4
def Hg (cs:List (Option Nat))(pi1:pA)(g1:pG)(pi2:pA)(g2:pG)(tt:pT)(te:pE):pA:=fun env n R=>pi1 env n fun xs env1 n1=>xs.length<=1000/\Aj g1 pi2 g2 tt te xs (capV cs env1) n1 fun ys n2=>R ys env1 n2
theorem Qn {K:A4}{T:PotK}{J:It}{g:TG}{tt:TT}{te:TE}{pg:pG}{ptt:pT}{pte:pE}(hg:GOk K g pg)(ht:TOk K T tt ptt)(he:EOk K T te pte){G:Gh}{H1 H4:Hp}{ys:List PV}{D:Addr}(hJ:ItR K ⟨D::G.M,G.pots⟩ H4 J ys)(nD:D∉G.pots)(hD:H1 D=none){σ:St}{env:Env}{n:Nat}{acc:List PV}{us:List V}{P:List PV->Env->Nat->Prop}{N:St->Hp->Prop}(c:CI K T G H1 D σ H4 env n acc us)(hl:acc.length + ys.length<=1001000)(hc:CO pg ptt pte ys env n P)
   (hN:∀zs env n us σ H,P zs env n->CI K T G H1 D σ H env n (acc++zs) us->zs.length<=ys.length->N σ H):KA J g tt te D N σ H4:=by
 refine⟨fun j m σ H'=>m=ys.length - j/\j<=ys.length/\∃env n zs us2,CI K T G H1 D σ H' env n (acc++zs) us2/\Fr ⟨D::G.M,G.pots⟩ H4 H'/\zs.length<=j/\CO pg ptt pte (ys.drop j) env n fun ws e m=>P (zs++ws) e m,⟨ys.length,rfl,J6 _,env,n,[],us,by rw [P3];exact c,Fr.refl,B4 _,hc⟩,?_⟩;rintro j m σ5 H5 ⟨rfl,hj,env5,n5,zs,us5,c5,fr5,la5,hc5⟩;obtain⟨hgo5,hstop5⟩:=hJ _ H5 fr5 (fun a ha=>.inl ha) (fun _ _ e=>e) fun p hp=>c5.inn.sr.fresh hp
 by_cases hlt5:j < ys.length
 · obtain⟨u1,u2⟩:=hgo5 j _ (D7 hlt5);refine .inr ⟨u1,fun v6 H6 y6=>?_⟩;obtain⟨s6,rv6⟩:=u2 v6 H6 y6;rw [W8 hlt5] at hc5;have np:∀b,b∉D::G.M->b∉G.pots:=fun b hb z=>hb (c5.inn.pots b z).1;refine hg _ _ σ5 H6 env5 n5 ys[j] v6 _ _ rfl (c5.inn.sr.same s6) rv6 hc5 fun env7 σ7 hc7 S7=>?_;refine ht _ _ σ7 H6 env7 n5 _ _ rfl rfl S7 hc7 fun b env8 n8 H8 hc8 S8 f8=>?_;cases b with
   | false=>exact⟨ys.length - (j + 1),BO _ _ hlt5,rfl,hlt5,env8,n8,zs,us5,c5.go nD S8,fun b o hb e=>S8.frame b o (np b hb) (fr5 b o hb e),Dz la5,hc8⟩
   | true =>
     refine he _ _ σ7 H8 env8 n8 _ _ rfl rfl S8 hc8 fun y env9 n9 u H9 hc9 S9 r9 f9=>?_;have c9:=c5.go nD S9;have c10:=c9.add nD hD r9;rw [X1] at c10;refine⟨us5,c9.eD,by rw [<- c5.ra.length,E1];exact Nat.lt_of_le_of_lt (show _<=1001000 by omega) (by rw [L6];decide),ys.length - (j + 1),BO _ _ hlt5,rfl,hlt5,env9,n9,zs++[y],us5++[u],c10,Fr.trans (fun b o hb e=>S9.frame b o (np b hb) (fr5 b o hb e)) (CI.fD _),by rw [E1];exact Nat.succ_le_succ la5,?_⟩;simp only [X1];exact hc9
 · obtain rfl:j=ys.length:=Nat.le_antisymm hj (DA hlt5);rw [AB] at hc5;have h5:P (zs++[]) env5 n5:=hc5;rw [P3] at h5;exact .inl ⟨hstop5 _ (B4 _),hN zs env5 n5 us5 σ5 H5 h5 c5 la5⟩
theorem Qo {K:A4}{T:PotK}{J:It}{g1 g2:TG}{wi2:TI}{tt:TT}{te:TE}{pg1 pg2:pG}{pi2:pA}{ptt:pT}{pte:pE}(hg1:GOk K g1 pg1)(hi2:IOk K T wi2 pi2)(hg2:GOk K g2 pg2)(ht:TOk K T tt ptt)(he:EOk K T te pte){G:Gh}{H1:Hp}{xs:List PV}(hJ:ItR K G H1 J xs)(hl:xs.length<=1000)
   {σc:St} {env:Env} {n:Nat} {R:List PV->Nat->Prop} {Q:VK} {D:Addr} (hD:H1 D=none) (I0:Inn K T G σc H1 env n) (hp:Aj pg1 pi2 pg2 ptt pte xs env n R)
   (hQ:∀ys n' us H',R ys n'->(∀p∈G.pots,T.at_ (D::G.M) H' p n')->(∀b o,b∉G.pots->H1 b=some o->H' b=some o)->H' D=some (.lst us)->Reps K ⟨D::G.M,G.pots⟩ H' ys us->Q (.ref D) H') :
   KB J g1 wi2 g2 tt te Q D σc (upd H1 D (.lst [])):=by
 have nD:D∉G.pots:=fun z=>I0.sr.fresh hD (I0.pots D z).1;refine⟨fun i m σ H=>m=xs.length - i/\i<=xs.length/\∃env n acc us,CI K T G H1 D σ H env n acc us/\acc.length<=1000 * i/\Aj pg1 pi2 pg2 ptt pte (xs.drop i) env n fun ys n'=>R (acc++ys) n',⟨xs.length,rfl,J6 _,env,n,[],[],.start hD I0,B4 _,hp⟩,?_⟩;rintro i m σ H ⟨rfl,hi,env,n,acc,us,c,la,hc⟩;obtain⟨hgo,hstop⟩:=c.it hD hJ
 by_cases hlt:i < xs.length
 · obtain⟨gg1,gg2⟩:=hgo i _ (D7 hlt);refine .inr ⟨gg1,fun v H2 y=>?_⟩;obtain⟨s2,rv⟩:=gg2 v H2 y;rw [W8 hlt] at hc;refine hg1 _ _ σ H2 env n xs[i] v _ _ rfl (c.inn.sr.same s2) rv hc fun env1 σ1 hc1 S2=>?_;refine hi2 _ _ σ1 H2 env1 n _ _ rfl rfl S2 hc1 fun ys env2 n2 J2 H4 q4 S4 f4 hJ2=>?_;refine Qn hg2 ht he hJ2 nD hD (c.go nD S4) (by have:=q4.1;omega) q4.2 fun zs env5 n5 us5 σ5 H5 h5 c5 lz=>⟨xs.length - (i + 1),BO _ _ hlt,rfl,hlt,env5,n5,acc++zs,us5,c5,by rw [E1];have:=q4.1;omega,?_⟩;simp only [X1];exact h5
 · obtain rfl:i=xs.length:=Nat.le_antisymm hi (DA hlt);rw [AB] at hc;have hc':R (acc++[]) n:=hc;rw [P3] at hc';exact .inl ⟨hstop _ (B4 _),hQ _ n us H hc' (fun p hp=>(c.inn.pots p hp).2) c.kp c.eD c.ra⟩
section
variable {T:PotK}{ι:Type}{K:A4}{F:ι->Cx}{pg1 pg2:pG}{pos:Pos}
theorem Qp {scope:Scope}{cl:ι->List (Str×Addr)}{N:List Str}{cs:List (Option Nat)}{elt t1 i1 t2 i2:Expr}{ifs:List Expr}{pi1 pi2:pA}{ptt:pT}{pte:pE}(S:∀z,X8 (F z) scope (cl z) N cs)(hc:∀z,(F z).calm=true)(hi:QI T K F t1 i1 pi1)
   (hg:QG K (fun y:ι×List Addr×Addr×Shared×Hp=>D3 (F y.1) scope (cl y.1) N y.2.1 y.2.2.1 y.2.2.2.1 y.2.2.2.2) t1 pg1)
   (hi2:QI T K (fun y:ι×List Addr×Addr×Shared×Hp=>D3 (F y.1) scope (cl y.1) N y.2.1 y.2.2.1 y.2.2.2.1 y.2.2.2.2) t2 i2 pi2)
   (hg2:QG K (fun y:ι×List Addr×Addr×Shared×Hp=>D3 (F y.1) scope (cl y.1) N y.2.1 y.2.2.1 y.2.2.2.1 y.2.2.2.2) t2 pg2)
   (ht:QIf T K (fun y:ι×List Addr×Addr×Shared×Hp=>D3 (F y.1) scope (cl y.1) N y.2.1 y.2.2.1 y.2.2.2.1 y.2.2.2.2) ifs ptt)
   (he:QE T K (fun y:ι×List Addr×Addr×Shared×Hp=>D3 (F y.1) scope (cl y.1) N y.2.1 y.2.2.1 y.2.2.2.1 y.2.2.2.2) elt pte)
   (hs:∀z x,P1 i1 (F z).env x=pure x:=by intro _ _;rfl) (hs2:∀z fp C s H x,P1 i2 (D3 (F z) scope (cl z) N fp C s H).env x=pure x:=by intro _ _ _ _ _ _;rfl):QN T K F (LC2 elt t1 i1 t2 i2 ifs scope pos) (Hg cs pi1 pg1 pi2 pg2 ptt pte):=by
 obtain⟨wi,i1',i2'⟩:=hi;obtain⟨g,hg0,hg⟩:=hg;obtain⟨wj,j1,j2⟩:=hi2;obtain⟨g2,hg20,hg2⟩:=hg2;obtain⟨tt,ht0,ht⟩:=ht;obtain⟨te,he0,he⟩:=he;refine⟨_,fun z=>Qm (S z) (hc z) (i1' z) (fun fp C s H=>⟨hg0 (z,fp,C,s,H),j1 (z,fp,C,s,H),hg20 (z,fp,C,s,H),ht0 (z,fp,C,s,H),he0 (z,fp,C,s,H)⟩) (hs2 z) (hs z),fun C G σ H env n R Q hK hT S hp k=>?_⟩;refine i2' C G σ H env n _ _ hK hT S hp fun xs env1 n1 J H1 p1 S1 f1 hJ=>?_;intro D hD;have hDM:=S1.fresh hD;refine Qo (G:=G) hg j2 hg2 ht he hJ p1.1 hD (hT▸hK▸Em S1 cs) p1.2 fun ys n2 us H' rr hpots hk eD ry=>?_;have nD:∀b o,H1 b=some o->b≠D:=fun b o e z=>by rw [z,hD] at e;cases e
 have hk2:∀b o,b∉G.pots->H1 b=some o->cutH H' D b=some o:=fun b o hb e=>by rw [T6 (nD b o e)];exact hk b o hb e
 have nc:∀b,b∉D::G.M->b≠D:=fun b hb z=>hb (by rw [z];exact B8);have np:∀p∈G.pots,p≠D:=fun p hp z=>hDM (z▸(S1.pots p hp).1)
 have Sb:SR C G σ (cutH H' D) env1 n2:=S1.call hk2 fun p hp=>by
   subst hT;have h2:=C.T.keep (hpots p hp) (H':=cutH H' D) (T6 (np p hp)) fun b o hb e=>by rw [T6 (nc b hb)];exact e
   exact C.T.more h2 fun a ha=>.inl (B3 _ ha)
 have:=k ys env1 n2 D us (cutH H' D) rr Sb (f1.trans fun b o hb e=>hk2 b o (fun z=>hb (S1.pots b z).1) e) (by unfold cutH;rw [if_pos rfl]) ?_
 · rw [Gx eD] at this;exact this
 · exact Reps.mono (G:=⟨D::G.M,G.pots⟩) (fun b o hb e=>by rw [T6 (nc b hb)];exact e) (fun a ha=>.inl (B3 _ ha)) (fun _ _ e=>e) _ _ ry
end
end Pu
end
section
namespace L2
open PySem PySem.W PySem.Spec PyProof.Rows
def Bu (X:Cx)(scope:Scope)(N:List Str)(qual:Str)(f c':Addr)(cl:List (Str×Addr))(s:Shared)(H:Hp):Cx where
 prog:=X.prog
 w:=X.w
 K:=X.K
 mg:=X.mg
 base:=X.base
 A:=X.A.in1.in1.deeper (envX qual scope s.heap.objs.size f (.ref c') cl)
 N:=N
 s₀:=s
 H₀:=H
 env:=envX qual scope s.heap.objs.size f (.ref c') cl
 outer:=X.stack
 stack:=envX qual scope s.heap.objs.size f (.ref c') cl::X.stack
 ex:=[]
 calm:=true
 fn:=fun _=>false
 pn:=[]
 xe:=fun _ _=>False
structure CP (scope:Scope)(x y:Str):Prop where
 kind:scope.kind=.function
 co:scope.isCoroutine=false
 gen:scope.isGenerator=false
 hx:scope.names.lookup x=some .local
 hy:scope.names.lookup y=some .free
 fr:∀z,scope.names.lookup z=some .free->z=y
 nc:∀z∈scope.names,z.2≠.cell
 ne:(y == x)=false
section
variable {X:Cx}{pins:List (Addr×Obj)}{σ:St}{H:Hp}{s:Shared}
theorem Qq {scope:Scope}{x y qual:Str}{f c' c:Addr}{vx vy:V}{ux uy:Value}{h1:Heap}{tk k:Nat}(I:Inv X pins σ H s)(hr:Room k X.A)(S:CP scope x y)(hc:s.heap.IsCell c (some uy))(hH:H c=none)(ry:RelV vy uy)(rx:RelV vx ux)
   (hns:h1.Ns s.heap.objs.size (fun z=>[(x,ux)].reverse.lookup z)) (hsb:w4 s.heap.objs.size (s.heap.push { cls:=.type "frame",data:=.dict #[] }) h1) :
   Inv (Bu X scope [x,y] qual f c' [(y,c)] s H) [] [some vx,some vy] H { s with heap:=h1,toks:=tk }:=by
 have hk:∀b o,s.heap.get? b=some o->h1.get? b=some o:=fun b o e=>hsb.extBut b o (C3 (C0 e)) (B7 _ e);have noA:∀b:Addr,b∉(Bu X scope [x,y] qual f c' [(y,c)] s H).ex:=fun b z=>absurd (show b∈([]:List Addr) from z) (by simp);have e0:=I.env0
 have cl1:∀z d,([(y,c)]:List (Str×Addr)).lookup z=some d->z=y/\d=c:=fun z d e=>by
   rw [List.lookup_cons] at e;cases q:z == y with
   | true=>rw [q] at e;cases e;exact⟨eq_of_beq q,rfl⟩
   | false=>rw [q] at e;cases e
 have cy:([(y,c)]:List (Str×Addr)).lookup y=some c:=by rw [List.lookup_cons,beq_self_eq_true]
 refine⟨⟨e0.mod,S.kind,rfl,rfl,B4 _,fun a b d h1 h2=>?_,fun z hz=>?_,fun z d h _=>absurd (show false=true from h) N5,fun _=>hr.hd,Around.frames_deeper (show X.A.in1.in1.frames=_ from e0.frames),.inr ⟨rfl,rfl⟩,fun b z=>absurd z (noA b),e0.bs,e0.bsz,fun b _ _=>noA b,fun b z=>absurd z (noA b),e0.funs,e0.frf,e0.nos⟩,
   rfl,e0.bare,Un.kept hk,⟨_,hns,fun i z v h1 h2 h3=>?_⟩,fun z d h=>?_,e0.hok.fresh (B4 _),fun z d h=>?_,fun p hp=>absurd (show p∈([]:List (Addr×Obj)) from hp) (by simp),e0.hok.kept hk,rfl⟩
 · exact((cl1 _ _ h1).1).trans (cl1 _ _ h2).1.symm
 · have hz:scope.names.lookup z=some .cell\/scope.names.lookup z=some .free:=hz;rcases hz with hz | hz
   · exact absurd rfl (S.nc _ (d8 hz))
   · exact⟨c,by rw [S.fr z hz];exact cy⟩
 · match i,h1,h2 with
   | 0, h1, h2 =>
     cases h1;cases h2;refine⟨ux,rx,.inl ⟨S.hx,?_⟩⟩;show([(x,ux)]:List (Str×Value)).reverse.lookup x=some ux;rw [List.reverse_singleton,List.lookup_cons,beq_self_eq_true]
   | 1, h1, h2 =>
     cases h1;cases h2;obtain⟨o,ho,hd⟩:=hc;exact⟨uy,ry,.inr ⟨.inr S.hy,c,cy,o,hk _ _ ho,hd⟩⟩
   | i + 2,h1,h2=>cases h2
 · obtain⟨rfl,rfl⟩:=cl1 z d h;obtain⟨o,ho,hd⟩:=hc;exact⟨_,o,hk _ _ ho,hd⟩
 · obtain⟨rfl,rfl⟩:=cl1 z d h;exact hH
theorem Qr {scope:Scope}{x y qual:Str}{params:Arguments}{body:Expr}{f c' c:Addr}{pm ctv:Value}{vx vy:V}{ux uy:Value}{k:Nat}{tb:TE}{Q:VK}{E:Value->Shared->Prop}(I:Inv X pins σ H s)(hr:Room k X.A)(S:CP scope x y)
   (hc:s.heap.IsCell c (some uy)) (hH:H c=none) (ry:RelV vy uy) (rx:RelV vx ux) (fo:s.heap.get? f=some (kla_obj "<lambda>" qual params body scope [(y,c)] pm c' ctv)) (hcd:s.heap.CodeRec (.ref c') qual)
   (bd:∀u,W4 (kla_fn "<lambda>" qual params body scope [(y,c)] pm (.ref c') ctv) ⟨[u],[]⟩=pure [(x,u)])
   (hb:PE (Bu X scope [x,y] qual f c' [(y,c)] s H) body tb) (ht:tb [some vx,some vy] H Q) :
   wpAny (model X.prog X.w) X.A.in1.in1 (call (.ref f) [ux]) (EP X pins σ Q) E s:=by
 refine wpAny_call ?_;refine kla_callFunE (fd:=kla_fn "<lambda>" qual params body scope [(y,c)] pm (.ref c') ctv) (show X.A.depth < recursionLimit from hr.depth) fo rfl S.co S.gen rfl hcd ?_;rw [bd];refine A5 (BC S.nc (fun z hz=>?_) (fun h1 hns hsb=>⟨?_,?_⟩) S.kind)
 · rw [J8.mp hz];exact S.hx
 · refine I.nolimit.keeps fun b o e=>?_;exact hsb.extBut b o (C3 (C0 e)) (B7 _ e)
 · refine kla_codeExpr (E7 (hb [] _ [some vx,some vy] H Q (Qq (tk:=s.toks + 1) I hr S hc hH ry rx hns hsb) ht) (fun v s' h=>?_) fun _ _ z=>z.elim);obtain⟨v',H',J,r,q⟩:=h;exact I.after ⟨v',H',J.os,J.bare,J.base,J.hok,r,q⟩
end
end L2
end
section
namespace L2
open PySem PySem.W PySem.Spec PyProof.Rows
def V7 (c':Addr)(qual:Str):HO:=.ext fun h=>h.CodeRec (.ref c') qual
def Bv (tb:TE)(vy:V)(kS c':Addr)(qual:Str):List V->List Int->Hp->(List Int->Hp->Prop)->Prop
 | [],ks,H,R=>R ks H
 | x::xs,ks,H,R=>H c'=some (V7 c' qual)/\tb [some x,some vy] H fun y H1=>∃k,y=.int k/\H1 kS=some (.lst (ks.map V.int))/\Bv tb vy kS c' qual xs (ks++[k]) (upd H1 kS (.lst ((ks++[k]).map V.int))) R
def KOut (ks:List Int)(xs ys:List V):Prop:=∃ps:List (Int×V),ps.Perm (ks.zip xs)/\ys=ps.map Prod.snd/\ps.Pairwise fun p q=>p.1<=q.1
section
variable {prog:C5}{w:World}{A:Around}{E:Value->Shared->Prop}{s:Shared}{a kS:Addr}{vs:List Value}{kz:List Int}{keys:Array Value}{e e1:Nat}{P:PySem.Fin->Shared->Prop}
theorem kTail {st:SortSt}(nk:s.heap.get? kS=some (seqObj "list" keys e))(na:s.heap.get? a=some (seqObj "list" #[] e1))(hka:kS≠a)
   (hk:IntsAre keys.toList kz) (hlen:kz.length=vs.length) (h64:vs.length < 64) (hp:(arrOf st).Perm (keys.zip vs.toArray)) (hs:SortedTo (arrOf st) (arrOf st).size) (hfl:failedOf st=none)
   (h:∀h' out c c2,(∀b o,b≠a->b≠kS->s.heap.get? b=some o->h'.get? b=some o)->h'.get? a=some (seqObj "list" out c)->h'.get? kS=some (seqObj "list" #[] c2)->KskOut false kz vs out.toList->P (.done (.ret .none)) { s with heap:=h' }) :
   wpAny (model prog w) A (ksk_tail a false e1 (.ref kS) st) P E s:=by
 have hsz:keys.size=vs.length:=by
   have h1:=hk.length;rw [T1] at h1;omega
 have hsz2:(arrOf st).size=vs.length:=by rw [hp.size_eq,Array.size_zip,hsz,E3,AF]
 have s1:=o7 s.heap kS (F4 fun _=>(#[]:Array Value));have na1:(s.heap.update kS (F4 fun _=>(#[]:Array Value))).get? a=some (seqObj "list" #[] e1):=(s1.2 a hka.symm).trans na;obtain⟨ck,hck⟩:∃c,(s.heap.update kS (F4 fun _=>(#[]:Array Value))).get? kS=some (seqObj "list" #[] c):=⟨_,AJ nk fun _=>#[]⟩;have s2:=o7 (s.heap.update kS (F4 fun _=>(#[]:Array Value))) a (F4 fun _=>(arrOf st).map (·.2))
 obtain⟨c2,hc2⟩:∃c2,((s.heap.update kS (F4 fun _=>(#[]:Array Value))).update a (F4 fun _=>(arrOf st).map (·.2))).get? a=some (seqObj "list" ((arrOf st).map (·.2)) c2):=
   ⟨_,AJ na1 fun _=>(arrOf st).map (·.2)⟩
 unfold ksk_tail
 try dsimp only
 refine A0 (w6 nk rfl ?_ (by rw [hsz,L6];omega) (J6 _));refine A0 (wpAny_letGo ?_);refine A0 (seqEpoch_at na1 rfl ?_);simp only [Z4,if_false];refine A0 (w6 na1 rfl ?_ (J6 _) (K5 (i6 ((Array.size_map ..).trans hsz2)) (by rw [L6];omega)));rw [hfl];simp only [bne_self_eq_false,Z4,if_false];exact A5 (h _ _ c2 ck (fun b o h1 h2 e=>(s2.2 b h1).trans ((s1.2 b h2).trans e)) hc2 ((s2.2 kS hka).trans hck) (ksk_out (b:=false) hk hp hs))
theorem kEnd (nk:s.heap.get? kS=some (seqObj "list" keys e))(na:s.heap.get? a=some (seqObj "list" #[] e1))(hka:kS≠a)
   (hk:IntsAre keys.toList kz) (hlen:kz.length=vs.length) (h64:vs.length < 64)
   (h:∀h' out c c2,(∀b o,b≠a->b≠kS->s.heap.get? b=some o->h'.get? b=some o)->h'.get? a=some (seqObj "list" out c)->h'.get? kS=some (seqObj "list" #[] c2)->KskOut false kz vs out.toList->P (.done (.ret .none)) { s with heap:=h' }) :
   wpAny (model prog w) A (ksk_end a false vs.toArray e1 (.ref kS) keys) P E s:=by
 have hsz:keys.size=vs.length:=by
   have h1:=hk.length;rw [T1] at h1;omega
 have hzs:(keys.zip vs.toArray).size=vs.length:=by rw [Array.size_zip,hsz,E3,AF]
 unfold ksk_end;simp only [Z4,if_false]
 by_cases h2:vs.toArray.size < 2
 · rw [if_pos h2,if_pos h2];refine A0 (A5 ?_);rw [StateT.run_pure];refine A0 (A5 ?_)
   try dsimp only
   refine kTail (st:=SortSt.mk' general' (keys.zip vs.toArray) #[] 7 none) nk na hka hk hlen h64 (w9 _) ?_ rfl h;intro i j hij hj;have hj2:j < (keys.zip vs.toArray).size:=hj;rw [hzs] at hj2;rw [E3] at h2;have:i=j:=by omega
   subst this;exact Int.le_refl _
 · rw [if_neg h2,if_neg h2];rw [E3] at h2;rw [ksk_kind hk (by rw [hsz];omega)];refine A0 (A5 ?_)
   refine A0 (E7 (wpS_sortRuns (a₀:=keys.zip vs.toArray) (st:=SortSt.mk' oneType' (keys.zip vs.toArray) #[] 7 none)
     (Q:=fun _ st'=>(arrOf st').Perm (keys.zip vs.toArray)/\failedOf st'=none/\SortedTo (arrOf st') (keys.zip vs.toArray).size)
     (ksk_intKeys hk) ⟨w9 _,rfl,rfl,rfl⟩ (by rw [hzs];omega) (by rw [hzs];exact h64) fun st' a1 a2 a3=>⟨a1,a2,a3⟩) ?_ fun _ _ e=>e)
   rintro⟨⟨⟩,st'⟩ s' ⟨rfl,hp,hf,hs⟩
   try dsimp only
   exact kTail nk na hka hk hlen h64 hp (by rw [hp.size_eq];exact hs) hf h
end
theorem KC:∀{ks:List Int} {us:List Value},Vals (ks.map V.int) us->IntsAre us ks
 | [],_,h=>by cases h;exact .nil
 | k :: ks, _, h => by
   cases h with
   | cons h1 h2 =>
     obtain⟨t,rfl⟩:=h1;exact .cons k t (KC h2)
theorem Qt {ks:List Int}{xs:List V}{vs:List Value}{out:List Value}(r:Vals xs vs)(h:KskOut false ks vs out):∃ys,KOut ks xs ys/\Vals ys out:=by
 obtain⟨ps,hp,rfl,ho⟩:=h
 replace ho:ps.Pairwise fun p q=>p.1<=q.1:=by simpa using ho
 have ab:∀(ks:List Int) {xs:List V} {vs:List Value},Vals xs vs->(ks.zip vs).map (fun p=>(p.1,(absV p.2).getD .non))=ks.zip xs:=by
   intro ks
   induction ks with
   | nil=>intro xs vs _;rfl
   | cons k ks ih =>
     intro xs vs r;cases r with
     | nil=>rfl
     | cons h1 h2 =>
       rw [X0,X0,J9,ih h2];show(k,(absV _).getD _)::_=_;rw [h1.abs];rfl
 have rl:∀(ks:List Int) {xs:List V} {vs:List Value},Vals xs vs->∀p∈ks.zip vs,RelV ((absV p.2).getD .non) p.2:=by
   intro ks
   induction ks with
   | nil=>intro xs vs _ p hp;cases hp
   | cons k ks ih =>
     intro xs vs r p hp;cases r with
     | nil=>cases hp
     | cons h1 h2 =>
       rcases B6.mp hp with rfl | hp
       · show RelV ((absV _).getD _) _;rw [h1.abs];exact h1
       · exact ih h2 p hp
 refine⟨ps.map fun p=>(absV p.2).getD .non,⟨ps.map fun p=>(p.1,(absV p.2).getD .non),?_,by rw [R9];rfl,?_⟩,?_⟩
 · rw [<- ab ks r];exact hp.map _
 · rw [List.pairwise_map];exact ho
 · have rl2:∀p∈ps,RelV ((absV p.2).getD .non) p.2:=fun p h=>rl ks r p (hp.mem_iff.mp h);clear hp ho
   induction ps with
   | nil=>exact .nil
   | cons p ps ih=>exact .cons (rl2 p B8) (ih fun q hq=>rl2 q (B3 _ hq))
section
variable {X:Cx}{pins:List (Addr×Obj)}{σ:St}{H:Hp}{s:Shared}
theorem Inv.retrack {a kS:Addr}{ob:Obj}{ks ys:List V}{out:List Value}{c c2:Nat}{h':Heap}(I:Inv X ((a,ob)::pins) σ H s)(hk:H kS=some (.lst ks))(ha0:X.s₀.heap.objs.size<=a)(hp0:∀p∈X.pn++pins,p.1≠a)(hsa:G9 < a)(hsk:G9 < kS)
   (keep:∀b o,b≠a->b≠kS->s.heap.get? b=some o->h'.get? b=some o) (ea:h'.get? a=some (seqObj "list" out.toArray c)) (ek:h'.get? kS=some (seqObj "list" #[] c2)) (r:Vals ys out) (hl:ys.length<=B5) :
   Inv X pins σ (upd (upd H kS (.lst [])) a (.lst ys)) { s with heap:=h' }:=by
 obtain⟨ea0,na,neL,nf,nc⟩:=I.pin (a,ob) (G4 _ B8);have nka:kS≠a:=fun z=>by rw [z,na] at hk;cases hk
 have I0:Inv X pins σ H s:=I.pins_of fun p hp=>by
   obtain⟨z1,z2,z3,z4,z5⟩:=I.pin p (G4 _ (B3 _ hp));exact⟨z1,z2,z3,z4,z5⟩
 have oth:∀b,b≠a->b≠kS->upd (upd H kS (.lst [])) a (.lst ys) b=H b:=fun b h1 h2=>by rw [A7 h1,A7 h2]
 have ne1:∀b u,H b=some u->(∀z,u≠.lst z)->b≠a/\b≠kS:=fun b u e hu=>⟨(fun z=>by rw [z,na] at e;cases e),(fun z=>by rw [z,hk] at e;cases e;exact hu _ rfl)⟩;refine I0.step (g':=s.gens) (d':=s.drawn) (t':=s.toks) (ch:=[a]) (fun b hb=>?_) (fun b o _ _ hc e n=>?_) (fun b o _ _ hc e n=>⟨o.slots,?_⟩) (fun b o hc e n=>?_) (fun b o hc e=>?_) (fun b xs e=>?_) (fun b o u e=>?_) (fun b ps e=>⟨#[],?_⟩) (fun z=>?_) (fun m hm=>?_) (fun b u e=>?_) I.bare
 · have e:b=a:=by simpa using hb
   subst e;refine⟨.inr ha0,neL,fun x d e z=>?_,hp0⟩;subst z;obtain⟨v,o,ho,hd⟩:=I.cell x _ e;rw [ea0] at ho;cases ho;exact nc _ hd
 · exact keep b o (fun z=>hc (by simp [z])) (fun z=>by rw [z,hk] at n;cases n) e
 · exact keep b o (fun z=>hc (by simp [z])) (fun z=>by rw [z,hk] at n;cases n) e
 · rw [oth b (fun z=>hc (by simp [z])) (fun z=>by rw [z,hk] at n;cases n)];exact n
 · by_cases h2:b=kS
   · exact⟨_,h2▸ek⟩
   · exact⟨o,keep b o (fun z=>hc (by simp [z])) h2 e⟩
 · obtain⟨h1,h2⟩:=ne1 b _ e (fun z q=>by cases q);rw [oth b h1 h2];exact e
 · obtain⟨h1,h2⟩:=ne1 b _ e (fun z q=>by cases q);rw [oth b h1 h2];exact e
 · obtain⟨h1,h2⟩:=ne1 b _ e (fun z q=>by cases q);rw [oth b h1 h2,e];simp
 · unfold NS at z ⊢;rw [oth G9 (C3 hsa) (C3 hsk)];exact z
 · obtain⟨o,es,ep,ho,r'⟩:=hm;exact⟨o,es,ep,keep _ o (Ne.symm neL) (fun z=>by have:=I.free;rw [z,hk] at this;cases this) ho,r'⟩
 · by_cases h1:b=a
   · subst h1;rw [C4] at e;cases e;exact⟨hl,out,c,r,ea⟩
   · rw [A7 h1] at e
     by_cases h2:b=kS
     · subst h2;rw [C4] at e;cases e;exact⟨J6 _,[],c2,.nil,ek⟩
     · rw [A7 h2] at e;refine(I0.hok b u e).stay (fun d v hc q=>keep d v ?_ ?_ q) (fun d q=>?_) fun d xs q=>?_
       · rcases hc with z | z
         · rw [z];exact h1
         · exact(ne1 d _ z (fun z q=>by cases q)).1
       · rcases hc with z | z
         · rw [z];exact h2
         · exact(ne1 d _ z (fun z q=>by cases q)).2
       · obtain⟨z1,z2⟩:=ne1 d _ q (fun z q=>by cases q);rw [oth d z1 z2];exact q
       · obtain⟨z1,z2⟩:=ne1 d _ q (fun z q=>by cases q);rw [oth d z1 z2];exact q
end
end L2
end
section
namespace L2
open PySem PySem.W PySem.Spec PyProof.Rows
structure Ak (X:Cx)(scope:Scope)(params:Arguments)(body:Expr)(qual x y:Str)(c:Addr)(iy:Nat)(k:Nat)(tb:TE):Prop where
 sc:CP scope x y
 room:Room k X.A
 cell:X.env.cells.lookup y=some c
 isc:X.env.scope.names.lookup y=some .cell
 nm:X.N[iy]?=some y
 bd:∀(pm ct cd u:Value),W4 (kla_fn "<lambda>" qual params body scope [(y,c)] pm cd ct) ⟨[u],[]⟩=pure [(x,u)]
 pe:∀(f c':Addr) (s:Shared) (H:Hp),PE (Bu X scope [x,y] qual f c' [(y,c)] s H) body tb
section
variable {X:Cx}{pins:List (Addr×Obj)}{σ:St}{H:Hp}{s:Shared}{scope:Scope}{params:Arguments}{body:Expr}{qual x y:Str}{c:Addr}{iy k:Nat}{tb:TE}
theorem Ak.val (L:Ak X scope params body qual x y c iy k tb)(I:Inv X pins σ H s){vy:V}(hv:σ[iy]?=some (some vy)):∃uy,RelV vy uy/\s.heap.IsCell c (some uy):=by
 obtain⟨m,hn,hl⟩:=I.loc;obtain⟨u,r,l⟩:=hl iy y vy L.nm hv (.inr (.inl L.isc));refine⟨u,r,?_⟩;rcases l with⟨z,_⟩ | ⟨_,d,e,q⟩
 · have z':X.env.scope.names.lookup y=some .local:=z;rw [L.isc] at z';cases z'
 · rw [L.cell] at e;cases e;exact q
theorem Ak.run (L:Ak X scope params body qual x y c iy k tb)(I:Inv X pins σ H s){vy vx:V}{ux:Value}{f c':Addr}{pm ctv:Value}{Q:VK}{E:Value->Shared->Prop}(hv:σ[iy]?=some (some vy))(rx:RelV vx ux)
   (fo:(f,kla_obj "<lambda>" qual params body scope [(y,c)] pm c' ctv)∈pins) (hcd:H c'=some (V7 c' qual)) (ht:tb [some vx,some vy] H Q) :
   wpAny (model X.prog X.w) X.A.in1.in1 (call (.ref f) [ux]) (EP X pins σ Q) E s:=by
 obtain⟨uy,ry,hc⟩:=L.val I hv;obtain⟨e1,_⟩:=I.pin _ (G4 _ fo);obtain⟨e2,_⟩:=(show G5 X.prog X.w H s.heap c' (V7 c' qual) from I.hok c' _ hcd);exact Qr I L.room L.sc hc (I.freeC _ _ L.cell) ry rx e1 e2 (fun u=>L.bd pm ctv (.ref c') u) (L.pe f c' s H) ht
theorem kRest (L:Ak X scope params body qual x y c iy k tb){f c' a kS:Addr}{pm ctv:Value}{vy:V}{xs:List V}{vs:List Value}{e1:Nat}{R:List Int->Hp->Prop}{P:PySem.Fin->Shared->Prop}{E:Value->Shared->Prop}(I:Inv X ((a,seqObj "list" #[] e1)::pins) σ H s)(hv:σ[iy]?=some (some vy))
   (fo:(f,kla_obj "<lambda>" qual params body scope [(y,c)] pm c' ctv)∈pins) (hk:H kS=some (.lst [])) (rv:Vals xs vs) (h64:xs.length < 64) (hka:kS≠a) (ht:Bv tb vy kS c' qual xs [] H R)
   (h:∀s' H3 ks h' out c1 c2,Inv X ((a,seqObj "list" #[] e1)::pins) σ H3 s'->H3 kS=some (.lst (ks.map V.int))->R ks H3->(∀b o,b≠a->b≠kS->s'.heap.get? b=some o->h'.get? b=some o)->h'.get? a=some (seqObj "list" out c1)->
     h'.get? kS=some (seqObj "list" #[] c2)->KskOut false ks vs out.toList->P (.done (.ret .none)) { s' with heap:=h' }) :
   wpAny (model X.prog X.w) X.A.in1.in1 (ksk_rest a (.ref f) false vs.toArray e1 (.ref kS)) P E s:=by
 have lv:xs.length=vs.length:=rv.length;unfold ksk_rest;refine A0 (e6 ?_)
 first
   | rw [List.forIn_toArray]
   | (rw [<- Array.forIn_toList];simp only [List.toList_toArray])
   | rw [<- Array.forIn_toList]
 refine A0 (ksk_fold (fun i s'=>∃H' ks,Inv X ((a,seqObj "list" #[] e1)::pins) σ H' s'/\H' kS=some (.lst (ks.map V.int))/\ks.length=i/\Bv tb vy kS c' qual (xs.drop i) ks H' R) vs 0 s
   ⟨H,[],I,hk,rfl,by simpa using ht⟩ ?step ?done)
 case step=>
   rintro j u s' hx ⟨H',ks,I',hk',hl,hc⟩;simp only [F7] at hl hc ⊢;have hj:j < vs.length:=(D9.mp hx).1;have hjx:j < xs.length:=by omega
   obtain⟨u2,hu2,ru⟩:=rv.get (D7 hjx);rw [hx] at hu2;cases hu2;rw [W8 hjx] at hc;obtain⟨hcd,hc⟩:=hc;refine A0 (wpAny_attempt (E7 (L.run I' hv ru (B3 _ fo) hcd hc (E:=fun _ _=>False)) (fun v s'' he=>?_) fun _ _ hF=>hF.elim));obtain⟨w,H1,I1,rw1,kk,rfl,hk1,hc1⟩:=he;obtain⟨t2,rfl⟩:=rw1
   try dsimp only
   obtain⟨zl,its,n,ri,oi⟩:=(show G5 X.prog X.w H1 s''.heap kS (.lst (ks.map V.int)) from I1.hok kS _ hk1);have li:its.length=ks.length:=by rw [<- ri.length,B2]
   have s1:=o7 s''.heap kS (F4 (·.push (.int kk t2)));obtain⟨c2,hc2⟩:∃c2,(s''.heap.update kS (F4 (·.push (.int kk t2)))).get? kS=some (seqObj "list" (its.toArray.push (.int kk t2)) c2):=⟨_,AJ oi (·.push (.int kk t2))⟩;refine A0 (w6 oi rfl ?_ (by rw [E3,li,L6];omega) (K5 (i6 (Array.size_push ..)) (by rw [E3,li,L6];omega)));refine A5 ⟨rfl,upd H1 kS (.lst ((ks++[kk]).map V.int)),ks++[kk],?_,C4,by rw [E1,hl];rfl,hc1⟩;refine I1.write (t':=s''.toks) (by rw [hk1];trivial) (.inl rfl) (fun b o hb e=>(s1.2 b hb).trans e) ⟨_,hc2⟩ ⟨?_,its++[.int kk t2],c2,?_,?_⟩
   · rw [B2,E1,L6];simp;omega
   · rw [L8];exact ri.append (.cons ⟨t2,rfl⟩ .nil)
   · rw [hc2];simp
 case done=>
   rintro s' ⟨H3,ks,I3,hk3,hl,hc⟩;simp only [F7] at hl hc;rw [R7 (by omega)] at hc;obtain⟨zl,its,n,ri,oi⟩:=(show G5 X.prog X.w H3 s'.heap kS (.lst (ks.map V.int)) from I3.hok kS _ hk3);obtain⟨ea,_⟩:=I3.pin (a,seqObj "list" #[] e1) (G4 _ B8)
   try dsimp only
   refine A0 (listItems_at oi rfl ?_);exact kEnd oi ea hka (by simpa using KC ri) (by omega) (by omega) fun h' out c1 c2 z1 z2 z3 z4=>h s' H3 ks h' out c1 c2 I3 hk3 hc z1 z2 z3 z4
theorem Qu (L:Ak X scope params body qual x y c iy k tb){f c' l:Addr}{pm ctv:Value}{vy:V}{xs:List V}{vs:List Value}{Q:VK}{E:Value->Shared->Prop}(I:Inv X pins σ H s)(hv:σ[iy]?=some (some vy))
   (fo:(f,kla_obj "<lambda>" qual params body scope [(y,c)] pm c' ctv)∈pins) (hl:s.heap.IsList l vs.toArray) (rv:Vals xs vs) (h64:xs.length < 64)
   (h:∀kS a,H kS=none->H a=none->kS≠a->Bv tb vy kS c' qual xs [] (upd H kS (.lst [])) fun ks H3=>H3 a=none->∀ys,KOut ks xs ys->Q (.ref a) (upd (upd H3 kS (.lst [])) a (.lst ys))) :
   wpAny (model X.prog X.w) X.A (call (.builtin "sorted") [.ref l] [(A3 "key",.ref f)]) (EP X pins σ Q) E s:=by
 have lv:xs.length=vs.length:=rv.length;refine call_function_entry_kw kind_sorted plain_sorted entry_sorted (ksk_s1 _ _) ?_;unfold R5.«sorted»;refine A0 (m:=checkCount "sorted" 1 1 _) (A5 ?_);refine A0 (collect_list hl ?_ (by rw [L6];omega));refine A0 (wpAny_newList ?_ (by rw [L6];omega))
 have hsz:((s.heap.push (seqObj "list" #[] 0)).update s.heap.objs.size (F4 (·++vs.toArray))).objs.size=s.heap.objs.size + 1:=by
   rw [Heap.size_update,size_push']
 have hoL:(((s.heap.push (seqObj "list" #[] 0)).update s.heap.objs.size (F4 (·++vs.toArray))).push (seqObj "list" vs.toArray 0)).get? (s.heap.objs.size + 1)=some (seqObj "list" vs.toArray 0):=by
   rw [<- hsz];exact F3 _ rfl
 have keep:∀b o,s.heap.get? b=some o->(((s.heap.push (seqObj "list" #[] 0)).update s.heap.objs.size (F4 (·++vs.toArray))).push (seqObj "list" vs.toArray 0)).get? b=some o:=fun b o q=>by
   have hlt:b < s.heap.objs.size:=C0 q;rw [Heap.get?_push_ne _ _ _ (by rw [hsz];exact C3 (O3 hlt)),Heap.get?_update_ne _ _ _ _ (C3 hlt),Heap.get?_push_ne _ _ _ (C3 hlt)];exact q
 show wpAny _ _ _ _ _ { s with heap:=((s.heap.push (seqObj "list" #[] 0)).update s.heap.objs.size (F4 (·++vs.toArray))).push (seqObj "list" vs.toArray 0) };rw [hsz];generalize ((s.heap.push (seqObj "list" #[] 0)).update s.heap.objs.size (F4 (·++vs.toArray))).push (seqObj "list" vs.toArray 0)=g1 at hoL keep ⊢;have haS:s.heap.objs.size<=s.heap.objs.size + 1:=Z3 _;generalize s.heap.objs.size + 1=a at hoL haS ⊢;refine A0 (M7 (wpAny_call_entry_kw slot_list_sort ⟨_,hoL,rfl⟩ entry_list_sort ?body (ksk_l1 _ _)))
 case body=>
   show wpAny (model X.prog X.w) X.A.in1.in1 (R5.«list.sort» ⟨[.ref a],[(A3 "key",.ref f)]⟩) _ _ _;rw [ksk_t1 f a];have ha:a < g1.objs.size:=C0 hoL;have s1:=o7 g1 a (F4 fun _=>(#[]:Array Value));obtain⟨e1,ho1⟩:∃e1,(g1.update a (F4 fun _=>(#[]:Array Value))).get? a=some (seqObj "list" #[] e1):=⟨_,AJ hoL fun _=>#[]⟩;have hkS:((g1.update a (F4 fun _=>(#[]:Array Value))).push (seqObj "tuple" vs.toArray 0)).objs.size=g1.objs.size + 1:=by rw [size_push',Heap.size_update]
   unfold ksk_tree;refine A0 (listItems_at hoL rfl ?_);refine A0 (w6 hoL rfl ?_ (by rw [E3,L6];omega) (J6 _));refine A0 (seqEpoch_at ho1 rfl ?_);refine A0 (wpAny_newTuple ?_ (by show vs.length<=_;rw [L6];omega));refine A0 (wpAny_newList ?_ (J6 _));refine M7 ?_;show wpAny (model X.prog X.w) X.A.in1.in1 _ _ _ { s with heap:=((g1.update a (F4 fun _=>(#[]:Array Value))).push (seqObj "tuple" vs.toArray 0)).push (seqObj "list" #[] 0) };rw [hkS];have oK:(((g1.update a (F4 fun _=>(#[]:Array Value))).push (seqObj "tuple" vs.toArray 0)).push (seqObj "list" #[] 0)).get? (g1.objs.size + 1)=some (seqObj "list" #[] 0):=by rw [<- hkS];exact F3 _ rfl
   have oA:(((g1.update a (F4 fun _=>(#[]:Array Value))).push (seqObj "tuple" vs.toArray 0)).push (seqObj "list" #[] 0)).get? a=some (seqObj "list" #[] e1):=B7 _ (B7 _ ho1)
   have kp:∀b o,s.heap.get? b=some o->(((g1.update a (F4 fun _=>(#[]:Array Value))).push (seqObj "tuple" vs.toArray 0)).push (seqObj "list" #[] 0)).get? b=some o:=fun b o q=>
     B7 _ (B7 _ ((s1.2 b (C3 (K1 (C0 q) haS))).trans (keep b o q)))
   generalize ((g1.update a (F4 fun _=>(#[]:Array Value))).push (seqObj "tuple" vs.toArray 0)).push (seqObj "list" #[] 0)=g3 at oK oA kp ⊢;have hkS2:s.heap.objs.size<=g1.objs.size + 1:=K5 haS (BR (O3 ha));have hka:g1.objs.size + 1≠a:=i5 (O3 ha);generalize g1.objs.size + 1=kS at oK hkS2 hka ⊢;have nk:H kS=none:=I.hok.fresh hkS2;have na:H a=none:=I.hok.fresh haS;have I5:Inv X pins σ (upd H kS (.lst [])) { s with heap:=g3 }:=I.laid (t':=s.toks) kp hkS2 ⟨J6 _,[],0,.nil,oK⟩;have aL:a≠X.env.locals:=i5 (K1 I.lt haS);have aF:a∉X.fs:=I.nofs haS
   have I6:Inv X ((a,seqObj "list" #[] e1)::pins) σ (upd H kS (.lst [])) { s with heap:=g3 }:=I5.pins_of fun p hp=>by
     rcases B6.mp hp with rfl | hp
     · exact⟨oA,by rw [A7 hka.symm];exact na,aL,aF,fun v z=>by cases z⟩
     · exact I5.pin p (G4 _ hp)
   refine kRest L I6 hv fo C4 rv h64 hka (h kS a nk na hka) fun s' H3 ks h' out c1 c2 I3 hk3 hR z1 z2 z3 z4=>⟨_,rfl,?_⟩;obtain⟨ys,ko,ry⟩:=Qt rv z4;have hn3:H3 a=none:=(I3.pin (a,seqObj "list" #[] e1) (G4 _ B8)).2.1
   have ly:ys.length<=B5:=by
     obtain⟨ps,hp,rfl,_⟩:=ko;rw [B2,hp.length_eq,BN,L6];omega
   refine A5 ⟨_,rfl,.ref a,_,I3.retrack hk3 (K5 I.sz haS) (fun p hp=>?_) (K1 I.bigS haS) (K1 I.bigS hkS2) z1 (out:=out.toList) (by simpa using z2) z3 ry ly,rfl,hR hn3 ys ko⟩;exact C3 (K1 (C0 (I.pin p hp).1) haS)
end
end L2
end
section
namespace L2
open PySem PySem.W PySem.Spec PyProof.Rows
theorem Qv {h h':Heap}{c':Addr}{q:Str}(x:h.CodeRec (.ref c') q)(k:∀o,h.get? c'=some o->h'.get? c'=some o):h'.CodeRec (.ref c') q:=by
 obtain⟨c,oc,vs,t,e,h1,h2,h3⟩:=x;cases e;exact⟨_,oc,vs,t,rfl,k _ h1,h2,h3⟩
theorem Qw {P:C5}{w:World}{H:Hp}{h:Heap}{c':Addr}{q:Str}(x:h.CodeRec (.ref c') q):G5 P w H h c' (V7 c' q):=by
 refine⟨x,?_,fun h1 h2 y k=>Qv y k⟩;obtain⟨c,oc,vs,t,e,h1,_⟩:=x;cases e;exact⟨oc,h1⟩
section
variable {X:Cx}{pins:List (Addr×Obj)}{σ:St}{H:Hp}{s:Shared}
theorem Inv.grow {Pt c':Addr}{ps more:Array Value}{qual:Str}{h':Heap}{t':Nat}(I:Inv X pins σ H s)(hP:H Pt=some (.tbl ps))(hx:BH Pt s.heap h')(hge:s.heap.objs.size<=c')(hrec:h'.CodeRec (.ref c') qual)(htb:h'.get? Pt=some (tabObj (ps++more))) :
   Inv X pins σ (upd (upd H c' (V7 c' qual)) Pt (.tbl (ps++more))) { s with heap:=h',toks:=t' }:=by
 have nc:H c'=none:=I.hok.fresh hge;have oth:∀b,b≠Pt->b≠c'->upd (upd H c' (V7 c' qual)) Pt (.tbl (ps++more)) b=H b:=fun b h1 h2=>by rw [A7 h1,A7 h2]
 have ne1:∀b u,H b=some u->(∀z,u≠.tbl z)->b≠Pt/\b≠c':=fun b u e hu=>⟨(fun z=>by rw [z,hP] at e;cases e;exact hu _ rfl),(fun z=>by rw [z,nc] at e;cases e)⟩;have ne2:∀b o,s.heap.get? b=some o->H b=none->b≠Pt/\b≠c':=fun b o e n=>⟨(fun z=>by rw [z,hP] at n;cases n),C3 (K1 (C0 e) hge)⟩;refine I.un ⟨fun b o e n _ _=>hx b o (ne2 b o e n).1 e,fun b o e n _ _=>⟨o.slots,hx b o (ne2 b o e n).1 e⟩,fun b o e n _=>?_,fun b o e _=>?_,fun b xs e=>?_,fun b o u e=>?_,fun b qs e=>?_,fun z=>?_⟩ (fun b u e=>?_)
 · obtain⟨h1,h2⟩:=ne2 b o e n;rw [oth b h1 h2];exact n
 · by_cases hb:b=Pt
   · exact⟨_,hb▸htb⟩
   · exact⟨o,hx b o hb e⟩
 · obtain⟨h1,h2⟩:=ne1 b _ e (fun z q=>by cases q);rw [oth b h1 h2];exact e
 · obtain⟨h1,h2⟩:=ne1 b _ e (fun z q=>by cases q);rw [oth b h1 h2];exact e
 · by_cases hb:b=Pt
   · subst hb;rw [hP] at e;cases e;exact⟨more,C4⟩
   · have h2:b≠c':=fun z=>by rw [z,nc] at e;cases e
     exact⟨#[],by rw [oth b hb h2,e];simp⟩
 · have h2:G9≠c':=C3 (K1 I.bigS hge)
   have h1:G9≠Pt:=fun q=>by
     unfold NS at z;rw [q,hP] at z;rcases z with z | ⟨_,_,z⟩ <;> cases z
   unfold NS at z ⊢;rw [oth _ h1 h2];exact z
 · by_cases h1:b=Pt
   · subst h1;rw [C4] at e;cases e;exact htb
   · rw [A7 h1] at e
     by_cases h2:b=c'
     · subst h2;rw [C4] at e;cases e;exact Qw hrec
     · rw [A7 h2] at e;refine(I.hok b u e).stay (fun d v hc q=>hx d v ?_ q) (fun d q=>?_) fun d xs q=>?_
       · rcases hc with z | z
         · rw [z];exact h1
         · exact(ne1 d _ z (fun z q=>by cases q)).1
       · obtain⟨z1,z2⟩:=ne1 d _ q (fun z q=>by cases q);rw [oth d z1 z2];exact q
       · obtain⟨z1,z2⟩:=ne1 d _ q (fun z q=>by cases q);rw [oth d z1 z2];exact q
end
def EL (qual:Str)(tb:TE)(vy:V)(xs:List V)(Q:VK)(c':Addr)(H2:Hp):Prop:=∀kS a,H2 kS=none->H2 a=none->kS≠a->Bv tb vy kS c' qual xs [] (upd H2 kS (.lst [])) fun ks H3=>H3 a=none->∀ys,KOut ks xs ys->Q (.ref a) (upd (upd H3 kS (.lst [])) a (.lst ys))
def KD (K:Frag)(Pt:Addr)(lpos:Pos)(qual:Str)(iy:Nat)(te tb:TE):TE:=fun σ H Q=>te σ H fun x H1=>∃a xs vy ps,x=.ref a/\SqL K H1 a xs/\xs.length < 64/\σ[iy]?=some (some vy)/\H1 Pt=some (.tbl ps)/\TriplesOk ps.toList/\
 ((codeAmong lpos ps.toList=none/\∀c',H1 c'=none->EL qual tb vy xs Q c' (upd (upd H1 c' (V7 c' qual)) Pt (.tbl (ps++#[rawInt lpos.line,rawInt lpos.col,.ref c']))))\/∃c',codeAmong lpos ps.toList=some (.ref c')/\H1 c'=some (V7 c' qual)/\EL qual tb vy xs Q c' H1)
section
variable {X:Cx}{scope:Scope}{params:Arguments}{body:Expr}{qual x y:Str}{c cd Pt:Addr}{iy k:Nat}{tb te:TE}{e:Expr}{p pos kpos lpos:Pos}
theorem Qx (L:Ak X scope params body qual x y c iy k tb)(hq:X.env.qual++"<lambda>"=qual)(hcl:closureFor scope X.env=pure [(y,c)])(hcode:X.env.code=.ref cd)(C:CodeHd X.base cd Pt)(hB:X.base.BuiltinsAt X.mg Pt)(hg:Gl X "sorted")(hm:X.mg "sorted"=none)
   (he:PE X e te) (hs:D6 [e] X.env=[(false,eval e X.env)]) (hdef:defaultsOf params X.env=([],[])) :
   PE X (.Call (.Name "sorted" p) [e] [⟨some "key",.Lambda params body scope lpos,kpos⟩] pos) (KD X.K Pt lpos qual iy te tb):=by
 intro pins s σ H Q I h;refine At (b0 I hg hm IZ ?_);refine callWith_kw ?_ (by rw [hs];rfl) (by rw [hs];rfl);rw [hs];show wpAny _ _ (spliced ((false,eval e X.env)::[])) _ _ s;refine AR (thn (he pins s σ H _ I h) fun u s1 ⟨x',H1,I1,r1,q1⟩=>?_);refine DP ?_;obtain⟨a,xs,vy,ps,rfl,hS,h64,hv,hP,ht,hR⟩:=q1;obtain rfl:u=.ref a:=r1;obtain⟨its,rv,⟨ol,nl,ho,hcl',hdl,hsl⟩,_⟩:=I1.list hS;have eP:s1.heap.get? Pt=some (tabObj ps):=I1.hok Pt _ hP;have aP:a≠Pt:=fun z=>by rw [z,eP] at ho;cases ho;cases hcl'
 have C1:CodeHd s1.heap cd Pt:=C.keeps fun b o q=>I1.bk b o q
 have B1:s1.heap.BuiltinsAt X.mg Pt:=by
   obtain⟨bm,o,z1,z2,z3,z4,z5,z6⟩:=hB;exact⟨bm,o,z1,z2,z3,z4,I1.bk _ _ z5,z6⟩
 have gP:U3≠Pt:=fun q=>by
   obtain⟨o,es,ep,e,hd,_⟩:=I1.mod.glob.keeps I1.bk;rw [q,eP] at e;cases e;cases hd
 refine kws_cons (kla_eval hdef ?_);rw [hq]
 -- behind the making
 have fin:∀(c':Addr) (ctv:Value) (h':Heap) (tk:Nat) (H2:Hp),Inv X pins σ H2 { s1 with heap:=h',toks:=tk }->h'.IsList a its.toArray->EL qual tb vy xs Q c' H2->
     wpAny (model X.prog X.w) X.A (evalAll ((W5 pos (W3 [] X.env)).map (·.2))) (fun vs s2=>wpAny (model X.prog X.w) X.A (call (.builtin "sorted") [.ref a] (((W5 pos (W3 [⟨some "key",.Lambda params body scope lpos,kpos⟩] X.env)).filterMap (·.1)).zip (.ref h'.objs.size::vs))) (EP X pins σ Q) X.xe s2) X.xe
       { s1 with heap:=h'.push (kla_obj "<lambda>" qual params body scope [(y,c)] ((X.mg "__name__").getD .none) c' ctv),toks:=tk }:=by
   intro c' ctv h' tk H2 I2 hl hR;refine kws_nil ?_;show wpAny (model X.prog X.w) X.A (call (.builtin "sorted") [.ref a] [(A3 "key",.ref h'.objs.size)]) (EP X pins σ Q) X.xe _;have I3:Inv X pins σ H2 { s1 with heap:=h'.push (kla_obj "<lambda>" qual params body scope [(y,c)] ((X.mg "__name__").getD .none) c' ctv),toks:=tk }:=I2.kept (t':=tk) fun b o q=>B7 _ q
   have I4:Inv X ((h'.objs.size,kla_obj "<lambda>" qual params body scope [(y,c)] ((X.mg "__name__").getD .none) c' ctv)::pins) σ H2 { s1 with heap:=h'.push (kla_obj "<lambda>" qual params body scope [(y,c)] ((X.mg "__name__").getD .none) c' ctv),toks:=tk }:=I3.pins_of fun q hq=>by
     rcases B6.mp hq with rfl | hq
     · exact⟨F3 _ rfl,I2.hok.fresh (B4 _),i5 I2.lt,I2.nofs (B4 _),fun v z=>by cases z⟩
     · exact I3.pin q (G4 _ hq)
   refine thn (Qu L I4 hv B8 (let ⟨o9,z1,z2⟩:=hl;⟨o9,B7 _ z1,z2⟩) rv h64 hR) fun v s2 h2=>?_;obtain⟨v',H5,I5,r5,q5⟩:=h2;exact⟨v',H5,I5.pins_of fun q hq=>I5.pin q (G4 _ (B3 _ hq)),r5,q5⟩
 rcases hR with⟨hnf,hR⟩ | ⟨c',hf,hc',hR⟩
 · refine kla_makeFunction (mg:=X.mg) hcl I1.ok.glob (I1.mod.glob.keeps I1.bk) hcode C1 eP ht hnf gP B1 fun c' ctv h' tk hx hge hlt hrec htb=>?_;exact fin c' ctv h' tk _ (I1.grow hP hx hge hrec htb) ⟨ol,hx _ _ aP ho,hcl',nl,hsl⟩ (hR c' (I1.hok.fresh hge))
 · refine kla_makeFunctionHit (mg:=X.mg) hcl I1.ok.glob (I1.mod.glob.keeps I1.bk) hcode C1 eP ht hf B1 fun ctv h' tk hk hsz=>?_;exact fin c' ctv h' tk _ (I1.kept (t':=tk) hk) ⟨ol,hk _ _ ho,hcl',nl,hsl⟩ hR
end
end L2
end
section
namespace L2
open PySem PySem.Spec PyProof.Rows
def insL {α:Type}(xs:List α)(k:Nat)(y:α):List α:=xs.take k++y::xs.drop k
theorem Qy {α:Type}(xs:List α)(k:Nat)(y:α):(insL xs k y).length=xs.length + 1:=by
 unfold insL;rw [E1,E8,Q4,U8];omega
section
variable {X:Cx}
def KF:V->List V->Hp->VK->Prop:=fun x vs H Q=>∃l xs i y,x=.ref l/\vs=[.int i,y]/\H l=some (.lst xs)/\0<=i/\i<=1000000/\xs.length < B5/\Q .non (upd H l (.lst (insL xs i.toNat y)))
theorem Qz {u:Value}(h0:0<=i):(have k:=if i < 0 then(i + ((its.toArray.size:Nat):Int)).toNat else min i.toNat its.toArray.size;(its.toArray.extract 0 k).push u++its.toArray.extract k)=(insL its i.toNat u).toArray:=by
 have e:(if i < 0 then(i + ((its.toArray.size:Nat):Int)).toNat else min i.toNat its.toArray.size)=min i.toNat its.length:=by
   rw [if_neg (by omega)];simp
 show(its.toArray.extract 0 (if i < 0 then(i + ((its.toArray.size:Nat):Int)).toNat else min i.toNat its.toArray.size)).push u++its.toArray.extract (if i < 0 then(i + ((its.toArray.size:Nat):Int)).toNat else min i.toNat its.toArray.size)=_;rw [e];unfold insL;rcases BS i.toNat its.length with h | h
 · rw [AE h];simp;exact l7 (by rw [U8];exact B4 _)
 · rw [BQ h,l7 h,R7 h];simp
theorem QB:MtM X "list.insert" KF:=by
 intro pins s σ H x vs v us Q I rx rv h;obtain⟨l,xs,i,y,rfl,rfl,hH,h0,h1,hz,q⟩:=h;cases rx;cases rv with
 | cons ri rv =>
   obtain⟨t,rfl⟩:=ri;obtain⟨u,rfl,ru⟩:=Vals.one rv;obtain⟨z,its,n,r,hl,e⟩:=I.lstM hH
   have hf:¬(!Iu i)=true:=by
     simp only [Iu];simp;omega
   refine call_meets F.slot_list_insert ⟨_,e,rfl⟩ F.entry_list_insert (F.args_list_insert_3 _ _ _) (PySem.AutoSeq1.list_insert_list_int_val_1 l its.toArray n i t u hf (by rw [E3];omega)) ⟨e,?_⟩;refine⟨.non,_,I.lset (its':=insL its i.toNat u) hH e (Qz h0) ?_ ?_,rfl,q⟩
   · exact(r.take i.toNat).append (.cons ru (r.drop i.toNat))
   · rw [Qy];omega
end
end L2
namespace Pu
open PySem PySem.Spec L2
section
variable {T:PotK}{ι:Type}{K:A4}{F:ι->Cx}{e ei:Expr}{pe pi:pE}{pos:Pos}
def EM (i:Nat)(pi pe:pE):pE:=fun env n R=>(∃xs,env[i]?=some (some (.ow .lst xs)))/\pi env n fun j env1 n1=>pe env1 n1 fun y env2 n2=>match env2[i]?,j with | some (some (.ow .lst xs)),.int j=>(0<=j/\j<=1000000/\xs.length < 1000000)/\R .non (env2.set i (some (.ow .lst (insL xs j.toNat y)))) n2 | _,_=>False
theorem KG (i:Nat)(hv:∀z,EW (F z) (.Name x p) (tVar i))(hi:QE T K F ei pi)(he:QE T K F e pe)(hs1:E5 ei=true:=by rfl)(hs:E5 e=true:=by rfl)(hbase:∀z,Y6 (.Name x p) "insert" (F z).env (eval (.Name x p) (F z).env)=eval (.Name x p) (F z).env:=by intro _;rfl)(hline:(ap.endLine == pos.line)=true:=by rfl)
   (hfew:∀z,((backTo pos (D6 [ei,e] (F z).env)).all (fun x=>!x.1) && (W5 pos (W3 [] (F z).env)).all (fun x=>x.1.isSome) && decide (([ei,e]:List Expr).length + ([]:List O1).length + (if([]:List O1).isEmpty then 0 else 1) < 30))=true:=by intro _;rfl)
   (hplain:∀z,(backTo pos (D6 [e] (F z).env)).any (·.1)=false:=by intro _;rfl) (hK:∀z,(F z).K=K:=by intro _;rfl):QE T K F (.Call (.Attribute (.Name x p) "insert" ap) [ei,e] [] pos) (EM i pi pe):=by
 obtain⟨ti,i1,i2⟩:=hi;obtain⟨t,a1,a2⟩:=he;refine⟨tBM K "list" KF (tVar i) (V0 ti (V0 t tNil)),fun z=>hK z▸Ci BY PySem.F.slot_list_insert PySem.F.type_list_insert QB (hv z).h (E9 (i1 z) (E9 (a1 z) G7 (C8 hs)) (C8 hs1)) (hbase z) (hfew z) hline (C8 hs1) (hplain z),fun C G σ H env n R Q hK hT S hp k=>?_⟩;obtain⟨⟨xs0,e0⟩,hp⟩:=hp;obtain⟨a,vs,ev,h1,h2,h3,h4,r⟩:=S.slots i _ e0;refine⟨.ref a,ev,.inl ⟨rfl,vs,SqL.of h4⟩,?_⟩;refine i2 C G σ H env n _ _ hK hT S hp fun j env1 n1 v H1 q1 S1 r1 f1=>?_;refine a2 C G σ H1 env1 n1 _ _ hK hT S1 q1 fun y env2 n2 u H2 q2 S2 r2 f2=>?_
 split at q2
 · rename_i xs j' ex;obtain⟨a',us,ev',g1,g2,g3,g4,r'⟩:=S2.slots i _ ex;rw [ev] at ev';cases ev';subst hK;obtain⟨S3,f3⟩:=S2.put ex ev ((r'.take j'.toNat).append (xs:=xs.take j'.toNat) (ys:=y::xs.drop j'.toNat) (us:=u::us.drop j'.toNat) ⟨u,_,rfl,r2,r'.drop j'.toNat⟩);exact⟨a,us,j',u,rfl,by rw [show v=.int j' from r1],g4,q2.1.1,q2.1.2.1,by rw [<- r'.length];exact mil' (by omega),k _ _ _ _ _ q2.2 S3 rfl ((f1.trans f2).trans f3)⟩
 · exact q2.elim
end
end Pu
end
section
namespace Pu
open PySem PySem.Spec L2
def dPot (c:Addr)(at_ left seed:Int):List (Key×V):=[(C7 (A3 "cells"),.ref c),(C7 (A3 "at"),.int at_),(C7 (A3 "left"),.int left),(C7 (A3 "seed"),.int seed)]
theorem k7 (h:a≠b)(e:(A3 a == A3 b)=false:=by decide):¬((C7 (A3 a):Key)=C7 (A3 b)):=fun z=>by
 have:=Sum.inr.inj z;rw [this] at e;simp at e
theorem QC:valV (dPot c a l s) (C7 (A3 "cells"):Key)=some (.ref c):=Bh rfl
theorem QF:valV (dPot c a l s) (C7 (A3 "at"):Key)=some (.int a):=by
 unfold dPot;rw [Bi (k7 (by decide)),Bh rfl]
theorem QH:valV (dPot c a l s) (C7 (A3 "left"):Key)=some (.int l):=by
 unfold dPot;rw [Bi (k7 (by decide)),Bi (k7 (by decide)),Bh rfl]
theorem QJ {c:Addr}{a l s:Int}:valV (dPot c a l s) (C7 (A3 "seed"):Key)=some (.int s):=rfl
theorem QK {k:Key}{v:V}(h:(kvs.any fun kv=>decide (kv.1=k))=true):putK kvs k v=kvs.map (fun kv=>if kv.1=k then(kv.1,v) else kv):=by unfold putK;rw [if_pos h]
theorem QM {c:Addr}{a l s x:Int}:putK (dPot c a l s) (C7 (A3 "at"):Key) (.int x)=dPot c x l s:=rfl
theorem QP {c:Addr}{a l s x:Int}:putK (dPot c a l s) (C7 (A3 "left"):Key) (.int x)=dPot c a x s:=rfl
theorem QQ:putK (dPot c a l s) (C7 (A3 "seed"):Key) (.int x)=dPot c a l x:=by
 rw [QK (by unfold dPot;simp)];unfold dPot;simp only [J9,i4];rw [if_neg (k7 (by decide)),if_neg (k7 (by decide)),if_neg (k7 (by decide)),if_pos trivial]
structure CQ (cells:List Int)(at_ left seed:Int):Prop where
 c63:cells.length<=63
 a0:0<=at_
 l0:0<=left
 s0:0<=seed
 s1:seed < 2 ^ 62
def DPotAt (M:List Addr)(H:Hp)(p:Addr):Prop:=∃(c:Addr) (cells:List Int) (at_ left seed:Int),H p=some (.dK (dPot c at_ left seed))/\c∉M/\H c=some (.lst (cells.map V.int))/\CQ cells at_ left seed
def potD:PotK where
 at_:=fun M H p _=>DPotAt M H p
 mono:=fun h _=>h
 keep:=fun⟨c,cells,a,l,s,h1,h2,h3,h4⟩ e k=>⟨c,cells,a,l,s,e.trans h1,h2,k c _ h2 h3,h4⟩
 more:=fun⟨c,cells,a,l,s,h1,h2,h3,h4⟩ k=>⟨c,cells,a,l,s,h1,fun z=>(k c z).elim h2 fun z=>(by rw [z] at h3;cases h3),h3,h4⟩
 mu:=fun⟨c,cells,a,l,s,h1,h2,h3,h4⟩=>⟨_,h1,trivial⟩
section
variable {P:C5}{w:World}{K:A4}{mg:Str->Option Value}{base:Heap}
def spNext:Sp:=fun vs H Q _=>∃(p c:Addr) (cells:List Int) (at_ left seed many:Int),vs=[.ref p,.int many]/\H p=some (.dK (dPot c at_ left seed))/\H c=some (.lst (cells.map V.int))/\CQ cells at_ left seed/\0 < many/\many < 1000000/\
 ∀d at' left' seed',0<=d->d < many->CQ cells at' left' seed'->Q (.int d) (upd H p (.dK (dPot c at' left' seed')))
theorem QU (G:Kn P w K mg base x k ps spNext):Kn P w K mg base x k ps (D8 K potD CB):=G.imp fun vs H Q E h=>by
 obtain⟨G,xs,n,R,hp,hm,_,r,hf,k⟩:=h;unfold CB at hf
 split at hf
 · rename_i kk m;obtain⟨v,rr,rfl,rv,u,r2,rfl,ru,rfl⟩:=r;obtain⟨p,ep,rfl⟩:=rv;obtain rfl:u=.int m:=ru;have pin:p∈G.pots:=K2 ep;obtain⟨pM,c,cells,a,l,s,e,hc,ec,ok⟩:=hp p pin;refine⟨p,c,cells,a,l,s,m,rfl,e,ec,ok,hf.1.1,hf.1.2.1,fun d a' l' s' d0 d1 ok'=>?_⟩;refine k _ _ _ _ (hf.2 d d0 d1) rfl (fun q hq=>?_) fun b o hb eb=>?_
   · by_cases hqp:q=p
     · subst hqp;exact⟨c,cells,a',l',s',C4,hc,by rw [A7 fun z=>hc (by rw [z];exact pM)];exact ec,ok'⟩
     · obtain⟨_,c2,cells2,a2,l2,s2,e2,hc2,ec2,ok2⟩:=hp q hq;exact⟨c2,cells2,a2,l2,s2,by rw [A7 hqp];exact e2,hc2,by rw [A7 fun z=>hc2 (by rw [z];exact pM)];exact ec2,ok2⟩
   · rw [A7 (fun z=>hb (by rw [z];exact pin))];exact eb
 · exact hf.elim
def EN (K:A4):Sp:=fun vs H Q _=>∃(a:Addr) (ns:List Int),vs=[.ref a]/\SqL K H a (ns.map V.int)/\ns.length<=63/\
 ∀(H':Hp) (p c:Addr) (cells:List Int) (at_ left seed:Int),Same H H'->H p=none->H c=none->H' p=some (.dK (dPot c at_ left seed))->H' c=some (.lst (cells.map V.int))->CQ cells at_ left seed->Q (.ref p) H'
end
section
variable {ι:Type}{K:A4}{F:ι->Cx}{e:Expr}{es:List Expr}{st:Stmt}{pos:Pos}{pl:pA}{pe pa pb:pE}
theorem SR.potG (S:SR C G σ H env n)(hn:C.np=true)(mo:MutO ob)(h:H p=none)(sm:Same H H')(h':H' p=some ob)(ok:C.T.at_ (p::G.M) H' p n) :
   SR C ⟨p::G.M,G.pots++[p]⟩ σ H' env n:=by
 have hM:∀a∈p::G.M,a∈G.M\/H a=none:=fun a ha=>(B6.mp ha).elim (fun z=>.inr (z▸h)) .inl
 have hp:∀(k:Nat) (q:Addr),G.pots[k]?=some q->(G.pots++[p])[k]?=some q:=fun k q e=>by
   obtain⟨hk,_⟩:=D9.mp e;rw [W7 hk];exact e
 have mm:∀{x:PV} {v:V},Rep C.K G H x v->Rep C.K ⟨p::G.M,G.pots++[p]⟩ H' x v:=fun r=>Rep.mono (G':=⟨p::G.M,G.pots++[p]⟩) (fun b o _ e=>sm b o e) hM hp _ _ r;have mms:∀{x:List PV} {v:List V},Reps C.K G H x v->Reps C.K ⟨p::G.M,G.pots++[p]⟩ H' x v:=fun r=>Reps.mono (G':=⟨p::G.M,G.pots++[p]⟩) (fun b o _ e=>sm b o e) hM hp _ _ r;have pM:=S.fresh h
 exact {
   frame:=fun b o hb e=>sm b o (S.frame b o hb e)
   sub:=fun a ha=>(B6.mp ha).elim (fun z=>.inr (z▸S.old h)) (S.sub a)
   sup:=fun a ha=>B3 _ (S.sup a ha)
   pots:=fun q hq=>by
     rcases K8.mp hq with z | z
     · refine⟨B3 _ (S.pots q z).1,?_⟩;have h1:=C.T.more (M':=p::G.M) (S.pots q z).2 hM;obtain⟨o,e,_⟩:=C.T.mu h1;exact C.T.keep h1 (by rw [e,sm q o e]) fun b o _ e=>sm b o e
     · rw [J8.mp z];exact⟨B8,ok⟩
   pre:=by
     obtain⟨l,el,_⟩:=S.pre;exact⟨l++[p],by show G.pots++[p]=_;rw [el,X1],.inr hn⟩
   mu:=fun a ha=>by
     rcases B6.mp ha with rfl | ha
     · exact⟨ob,h',mo⟩
     · obtain⟨o,e,m⟩:=S.mu a ha;exact⟨o,sm a o e,m⟩
   slots:=fun i s e=>by
     cases s with
     | v x =>
       obtain⟨v,ev,r⟩:=S.slots i _ e;exact⟨v,ev,mm r⟩
     | ow kk xs =>
       obtain⟨b,us,ev,h1,h2,h3,h4,r⟩:=S.slots i _ e;refine⟨b,us,ev,B3 _ h1,h2,fun z=>?_,sm _ _ h4,mms r⟩;rcases K8.mp z with z | z
       · exact h3 z
       · rw [J8.mp z] at h1;exact pM h1
   inj:=S.inj
   p0:=⟨S.p0.1,C.T.hasM S.p0.2 fun z=>pM (S.pots p z).1⟩
   len:=S.len
   newp:=fun q hq hn' hM=>by
     rcases K8.mp hq with z | z
     · exact S.newp q z hn' hM
     · rw [J8.mp z] at hM
       exact pM (S.sup p hM) }
end
end Pu
end
section
namespace Pu
open PySem PySem.W PySem.Spec L2
def TabG (lpos:Pos)(qual:Str)(M:List Addr)(H:Hp)(ps:Array Value):Prop:=TriplesOk ps.toList/\(codeAmong lpos ps.toList=none\/∃c',codeAmong lpos ps.toList=some (.ref c')/\c'∉M/\H c'=some (V7 c' qual))
def tabK (T:PotK)(Pt:Addr)(lpos:Pos)(qual:Str):PotK where
 at_:=fun M H p n=>(p≠Pt/\T.at_ M H p n)\/(p=Pt/\∃ps,H Pt=some (.tbl ps)/\TabG lpos qual M H ps)
 mono:=fun h hl=>h.imp (fun z=>⟨z.1,T.mono z.2 hl⟩) id
 keep:=fun h e k=>by
   rcases h with⟨h1,h2⟩ | ⟨rfl,ps,h2,h3,h4⟩
   · exact .inl ⟨h1,T.keep h2 e k⟩
   · refine .inr ⟨rfl,ps,e.trans h2,h3,h4.imp id ?_⟩;rintro⟨c',z1,z2,z3⟩;exact⟨c',z1,z2,k _ _ z2 z3⟩
 more:=fun h k=>by
   rcases h with⟨h1,h2⟩ | ⟨rfl,ps,h2,h3,h4⟩
   · exact .inl ⟨h1,T.more h2 k⟩
   · refine .inr ⟨rfl,ps,h2,h3,h4.imp id ?_⟩;rintro⟨c',z1,z2,z3⟩;exact⟨c',z1,(fun z=>(k c' z).elim z2 (fun q=>by rw [q] at z3;cases z3)),z3⟩
 mu:=fun h=>by
   rcases h with⟨h1,h2⟩ | ⟨rfl,ps,h2,_⟩
   · exact T.mu h2
   · exact⟨_,h2,trivial⟩
 has:=fun l=>∃l',l=Pt::l'/\Pt∉l'
 hasM:=fun {l p} h hp=>by
   obtain⟨l',rfl,h2⟩:=h;refine⟨l'++[p],rfl,fun z=>?_⟩;rcases K8.mp z with z | z
   · exact h2 z
   · exact hp (by rw [<- J8.mp z];exact B8)
def Bw:pF:=fun xs n R=>match xs with | [.pot (_ + 1),.int m]=>(0 < m/\m < 1000000/\n < 1000000000)/\∀d:Int,0<=d->d < m->R (.int d) (n + 1) | _=>False
section
variable {P:C5}{w:World}{K:A4}{mg:Str->Option Value}{base:Heap}{T:PotK}{Pt:Addr}{lpos:Pos}{qual:Str}
theorem QV {x:Str}{k:Nat}{ps:List Str}(G:Kn P w K mg base x k ps (D8 K T CB))(hT:T.has=fun _=>True):Kn P w K mg base x k ps (D8 K (tabK T Pt lpos qual) Bw):=G.imp fun vs H Q E h=>by
 obtain⟨G,xs,n,R,hp,hm,hh,r,hf,k⟩:=h;unfold Bw at hf
 split at hf
 · rename_i kk m;obtain⟨v,rr,rfl,rv,u,r2,rfl,ru,rfl⟩:=r;obtain⟨p,ep,rfl⟩:=rv;obtain rfl:u=.int m:=ru;obtain⟨l',el,nl⟩:=hh;have epl:l'[kk]?=some p:=by rw [el] at ep;simpa using ep
   have pl:p∈l':=K2 epl;have sub:∀q∈l',q∈G.pots:=fun q hq=>by rw [el];exact B3 _ hq
   have at1:∀q∈l',q∈G.M/\T.at_ G.M H q n:=fun q hq=>by
     obtain⟨a1,a2⟩:=hp q (sub q hq);rcases a2 with⟨_,a2⟩ | ⟨z,_⟩
     · exact⟨a1,a2⟩
     · exact absurd (z▸hq) nl
   have ptM:Pt∈G.pots:=by rw [el];exact B8
   refine⟨⟨G.M,l'⟩,[.pot kk,.int m],n,fun r n'=>R r n'/\∃d,r=.int d,at1,hm,by rw [hT];trivial,⟨_,_,rfl,⟨p,epl,rfl⟩,_,_,rfl,rfl,rfl⟩,⟨hf.1,fun d d0 d1=>⟨hf.2 d d0 d1,d,rfl⟩⟩,fun r n' v H' rr rv hp' hk=>?_⟩
   have nr:Rep K G H' r v:=by
     obtain⟨_,d,rfl⟩:=rr;exact rv
   refine k r n' v H' rr.1 nr (fun q hq=>?_) fun b o hb e=>hk b o (fun z=>hb (sub b z)) e;rw [el] at hq;rcases B6.mp hq with rfl | hq
   · rcases(hp q ptM).2 with⟨z,_⟩ | ⟨_,ps,z1,z2,z3⟩
     · exact absurd rfl z
     · refine .inr ⟨rfl,ps,hk _ _ nl z1,z2,z3.imp id ?_⟩;rintro⟨c',y1,y2,y3⟩;exact⟨c',y1,y2,hk _ _ (fun z=>y2 ((hp c' (sub c' z)).1)) y3⟩
   · exact .inl ⟨fun z=>nl (z▸hq),hp' q hq⟩
 · exact hf.elim
end
section
variable {ι:Type}{K:A4}{F:ι->Cx}{e:Expr}{es:List Expr}{st:Stmt}{pos:Pos}{pl:pA}{pe pa pb:pE}{Pt:Addr}{lpos:Pos}{qual:Str}
def Hh (i:Nat)(pa:pE):pS:=fun D env n=>pa env n fun x env1 n1=>match x with | .scr ns=>ns.length<=63/\∀q:Nat,D.nx (env1.set i (some (.v (.pot (q + 1))))) n1 | _=>False
theorem QX (i:Nat){x:Str}{p:Pos}{a:Expr}{k j:Nat}{ps:List Str}(h:∀z te,EW (F z) (.Call (.Name x p) [a] [] pos) te->SW (F z) st (tAsg te (K6 i)))(hG:∀z,Kn (F z).prog (F z).w (F z).K (F z).mg (F z).base x k ps (EN K))(hr:∀z,Room j (F z).A)(hk:k<=j)(hg:∀z,Gl (F z) x)
   (ha:QE (tabK potD Pt lpos qual) K F a pa) (n1:E5 a=true:=by rfl) (hdb:(x == ("__debug__":Str))=false:=by decide):QS (tabK potD Pt lpos qual) true K F st (Hh i pa):=by
 obtain⟨t,a1,a2⟩:=ha;refine⟨_,fun z=>(h z _ ⟨pe_fn (hG z) (hr z) hk (hg z) (E9 (a1 z) G7 (C8 n1)) hdb (C8 n1)⟩).h,fun C G σ H env n PD D hK hT hn S hp L=>?_⟩;refine a2 C G σ H env n _ _ hK hT S hp fun x env1 n1 v H1 q1 S1 r1 f1=>?_
 split at q1
 · rename_i ns;obtain⟨a,ev,hq⟩:=Cu (.inl r1);refine(show EN K [v] H1 (fun x H1=>K6 i x σ H1 D.nx) E0 from ?_);refine⟨a,ns,by rw [ev],hq,q1.1,fun H2 p c cells a l s sm hp hc ep ec ok=>?_⟩;have hh:(tabK potD Pt lpos qual).has G.pots:=hT▸S1.hasG;obtain⟨l',el,nl⟩:=hh;have ptM:Pt∈G.pots:=by rw [el];exact B8
   have S2:=S1.potG hn (p:=p) (ob:=.dK (dPot c a l s)) trivial hp sm ep (by
     rw [hT];refine .inl ⟨fun z=>S1.fresh hp (by rw [z];exact(S1.pots _ ptM).1),c,cells,a,l,s,ep,fun z=>?_,ec,ok⟩;rcases B6.mp z with rfl | z
     · rw [ep] at ec;cases ec
     · exact S1.fresh hc z)
   have S3:=S2.set i (x:=.pot (l'.length + 1)) (v:=.ref p) ⟨p,by show(G.pots++[p])[l'.length + 1]?=_;rw [el];simp,rfl⟩;refine L.nx _ _ _ _ _ (q1.2 _) S3 ((Ext.fr f1).trans ⟨fun b o _ e=>sm b o e,fun c hc=>(B6.mp (show c∈p::G.M from hc)).elim (fun z=>.inr (z▸hp)) .inl,fun k q e=>?_⟩);obtain⟨hk,_⟩:=D9.mp e;show(G.pots++[p])[k]?=_;rw [W7 hk];exact e
 · exact q1.elim
end
end Pu
end
section
namespace Pu
open PySem PySem.W PySem.Spec L2
def Am (pk:pE)(y:PV):List PV->Nat->(List Int->Nat->Prop)->Prop
 | [],n,R=>R [] n
 | x::xs,n,R=>pk [some (.v x),some (.v y)] n fun r _ n1=>∃k,r=.int k/\Am pk y xs n1 fun ks n2=>R (k::ks) n2
def SrtK (ks:List Int)(xs ys:List PV):Prop:=∃ps:List (Int×PV),ps.Perm (ks.zip xs)/\ys=ps.map Prod.snd/\ps.Pairwise fun p q=>p.1<=q.1
def EO (iy:Nat)(pe pk:pE):pA:=fun env n R=>pe env n fun x env1 n1=>match x,env1[iy]? with
 | .lst xs,some (some (.v y))=>xs.length < 64/\Am pk y xs n1 fun ks n2=>∀ys,SrtK ks xs ys->R ys env1 n2
 | _,_=>False
theorem KH {α β:Type}{f:α->β}{ps m:List β}(h:ps.Perm m):∀l:List α,m=l.map f->∃l':List α,l'.Perm l/\ps=l'.map f:=by
 induction h with
 | nil=>intro l e;exact⟨l,.refl _,e⟩
 | cons x _ ih =>
   intro l e;cases l with
   | nil=>cases e
   | cons a l =>
     rw [J9] at e;injection e with e1 e2;obtain⟨l',p,q⟩:=ih l e2;exact⟨a::l',.cons a p,by rw [J9,e1,q]⟩
 | swap x y r =>
   intro l e
   match l,e with
   | a :: b :: l, e =>
     rw [J9,J9] at e;injection e with e1 e2;injection e2 with e2 e3;exact⟨b::a::l,.swap _ _ _,by rw [J9,J9,e1,e2,e3]⟩
 | trans _ _ ih1 ih2 =>
   intro l e;obtain⟨l2,p2,q2⟩:=ih2 l e;obtain⟨l1,p1,q1⟩:=ih1 l2 q2;exact⟨l1,p1.trans p2,q1⟩
theorem zip3 {K:A4}{G:Gh}{H:Hp}:∀(ks:List Int) (xs:List PV) (us:List V),Reps K G H xs us->∃l:List (Int×PV×V),ks.zip us=l.map (fun t=>(t.1,t.2.2))/\ks.zip xs=l.map (fun t=>(t.1,t.2.1))/\∀t∈l,Rep K G H t.2.1 t.2.2
 | [],xs,us,_=>⟨[],by simp,by simp,fun _ z=>nomatch z⟩
 | k::ks,[],us,h=>by cases(show us=[] from h);exact⟨[],rfl,rfl,fun _ z=>nomatch z⟩
 | k :: ks, x :: xs, us, h => by
   obtain⟨v,r,rfl,h1,h2⟩:=h;obtain⟨l,e1,e2,h3⟩:=zip3 ks xs r h2;refine⟨(k,x,v)::l,by rw [X0,e1];rfl,by rw [X0,e2];rfl,fun t ht=>?_⟩;rcases B6.mp ht with rfl | ht
   · exact h1
   · exact h3 t ht
theorem QY {K:A4}{G:Gh}{H:Hp}:∀(l:List (Int×PV×V)),(∀t∈l,Rep K G H t.2.1 t.2.2)->Reps K G H (l.map fun t=>t.2.1) (l.map fun t=>t.2.2):=by
 intro xq
 induction xq with
 | nil =>
   intro _;exact rfl
 | cons t l ih =>
   intro h;exact⟨_,_,rfl,h t B8,ih fun s hs=>h s (B3 _ hs)⟩
theorem QZ {K:A4}{G:Gh}{H:Hp}{ks:List Int}{xs:List PV}{us ys:List V}(r:Reps K G H xs us)(h:KOut ks us ys):∃ys',SrtK ks xs ys'/\Reps K G H ys' ys:=by
 obtain⟨ps,hp,rfl,ho⟩:=h;obtain⟨l,e1,e2,h3⟩:=zip3 ks xs us r;rw [e1] at hp;obtain⟨l',p',rfl⟩:=KH hp l rfl;refine⟨l'.map fun t=>t.2.1,⟨l'.map fun t=>(t.1,t.2.1),by rw [e2];exact p'.map _,by rw [R9];rfl,?_⟩,?_⟩
 · rw [List.pairwise_map] at ho ⊢;exact ho
 · rw [R9];exact QY l' fun t ht=>h3 t (p'.mem_iff.mp ht)
section
variable {T:PotK}{K:A4}{Pt:Addr}{lpos:Pos}{qual:Str}
theorem Q_ {tb:TE}{pk:pE}(hb:EOk K T tb pk){G:Gh}{H1 H2:Hp}{kS c':Addr}{y:PV}{vy:V}(hh:T.has G.pots)(h0:∀b o,b∉G.pots->H1 b=some o->H2 b=some o)(k1:H1 kS=none)(k2:H2 kS=none)(kM:kS∉G.M)(pM:∀p∈G.pots,p∈G.M)(hm:∀a∈G.M,∃o,H1 a=some o/\MutO o)
   (hc:H2 c'=some (V7 c' qual)) (cM:c'∉G.M) (ry:Rep K G H1 y vy) {R4:List Int->Hp->Prop} {RR:List Int->Nat->Prop}
   (fin:∀ks H4 n2,RR ks n2->(∀b o,b∉G.pots->H2 b=some o->H4 b=some o)->(∀p∈G.pots,T.at_ (kS::G.M) H4 p n2)->H4 kS=some (.lst (ks.map V.int))->R4 ks H4) :
   ∀(xs:List PV) (us:List V) (ks:List Int) (n:Nat) (H3:Hp),Reps K G H1 xs us->(∀b o,b∉G.pots->H2 b=some o->H3 b=some o)->(∀p∈G.pots,T.at_ (kS::G.M) H3 p n)->H3 kS=some (.lst (ks.map V.int))->Am pk y xs n (fun more n2=>RR (ks++more) n2)->Bv tb vy kS c' qual us ks H3 R4:=by
 intro xq
 induction xq with
 | nil =>
   intro us ks n H3 r fr at3 e3 hk;cases(show us=[] from r);exact fin ks H3 n (by simpa [Am] using hk) fr at3 e3
 | cons x xs ih =>
   intro us ks n H3 r fr at3 e3 hk;obtain⟨u,us,rfl,rx,rr⟩:=r;have kP:kS∉G.pots:=fun z=>kM (pM _ z);have neK:∀b o,H2 b=some o->b≠kS:=fun b o e z=>by rw [z,k2] at e;cases e
   let GD:Gh:=⟨kS::G.M,G.pots⟩
   have fr1:∀b o,b∉G.M->H1 b=some o->H3 b=some o:=fun b o hb e=>fr b o (fun z=>hb (pM b z)) (h0 b o (fun z=>hb (pM b z)) e);have mv:∀{x:PV} {v:V},Rep K G H1 x v->Rep K GD H3 x v:=fun r=>Rep.mono (G':=GD) fr1 (fun a ha=>(B6.mp (show a∈kS::G.M from ha)).elim (fun z=>.inr (z▸k1)) .inl) (fun _ _ e=>e) _ _ r
   have I:Inn K T GD [some u,some vy] H3 [some (.v x),some (.v y)] n:=by
     refine⟨fun p hp=>⟨B3 _ (pM p hp),at3 p hp⟩,hh,fun a ha=>?_,fun i s e=>?_,rfl⟩
     · rcases B6.mp (show a∈kS::G.M from ha) with rfl | ha
       · exact⟨_,e3,trivial⟩
       · by_cases hp:a∈G.pots
         · exact T.mu (at3 a hp)
         · obtain⟨o,e,m⟩:=hm a ha;exact⟨o,fr a o hp (h0 a o hp e),m⟩
     · match i,e with
       | 0,e=>cases e;exact⟨x,u,rfl,rfl,mv rx⟩
       | 1,e=>cases e;exact⟨y,vy,rfl,rfl,mv ry⟩
       | _ + 2,e=>cases e
   refine⟨fr c' _ (fun z=>cM (pM _ z)) hc,?_⟩;refine hb _ GD _ H3 _ n _ _ rfl rfl I.sr hk fun q env' n1 v H4 rq S4 rv f4=>?_;obtain⟨k,rfl,hk2⟩:=rq;have e4:H4 kS=some (.lst (ks.map V.int)):=S4.frame kS _ kP e3;refine⟨k,rv,e4,?_⟩;refine ih us (ks++[k]) n1 _ rr (fun b o hp e=>?_) (fun p hp=>?_) C4 (by simpa [X1] using hk2)
   · rw [A7 (neK b o e)];exact S4.frame b o hp (fr b o hp e)
   · refine T.keep (S4.pots p hp).2 (A7 fun z=>kP (z▸hp)) fun b o hb e=>?_;rw [A7 (fun z=>hb (by rw [z];exact B8))];exact e
theorem Ra {te tb:TE}{pe pk:pE}{iy:Nat}(h2:ROk K (tabK T Pt lpos qual) te pe)(hb:EOk K (tabK T Pt lpos qual) tb pk):NOk K (tabK T Pt lpos qual) (KD K Pt lpos qual iy te tb) (EO iy pe pk):=by
 intro C G σ H env n R Q hK hT S hp k;refine h2 C G σ H env n _ _ hK hT S hp fun x env1 n1 v H1 p1 S1 r1 f1=>?_;have rd:RdV K G H1 x v:=hK▸r1.rd S1
 split at p1
 · rename_i xs y ey;obtain⟨h64,p1⟩:=p1;obtain⟨a,us,rfl,hq,r⟩:=rd.lst;obtain⟨vy,ev,ry⟩:=S1.slots iy _ ey;rw [hK] at ry;have hh:(tabK T Pt lpos qual).has G.pots:=hT▸S1.hasG;obtain⟨l',el,nl⟩:=id hh;have ptM:Pt∈G.pots:=by rw [el];exact B8
   have atH:∀p∈G.pots,p∈G.M/\(tabK T Pt lpos qual).at_ G.M H1 p n1:=fun p hp=>hT▸S1.pots p hp;have pM:∀p∈G.pots,p∈G.M:=fun p hp=>(atH p hp).1
   obtain⟨ps,eP,tg⟩:∃ps,H1 Pt=some (.tbl ps)/\TabG lpos qual G.M H1 ps:=by
     rcases(atH Pt ptM).2 with⟨z,_⟩ | ⟨_,z⟩
     · exact absurd rfl z
     · exact z
   have ul:us.length=xs.length:=r.length.symm
   have rest:∀c' H2,(∀b o,b∉G.pots->H1 b=some o->H2 b=some o)->(∀p∈G.pots,(tabK T Pt lpos qual).at_ G.M H2 p n1)->H2 c'=some (V7 c' qual)->c'∉G.M->EL qual tb vy us Q c' H2:=by
     intro c' H2 h0 at2 hc cM kS a2 nk na hka
     have k1:H1 kS=none:=by
       cases e:H1 kS with
       | none=>rfl
       | some o =>
         by_cases hp:kS∈G.pots
         · obtain⟨o2,e2,_⟩:=(tabK T Pt lpos qual).mu (at2 kS hp);rw [nk] at e2;cases e2
         · rw [h0 kS o hp e] at nk;cases nk
     have kM:kS∉G.M:=S1.fresh k1;refine Q_ hb hh h0 k1 nk kM pM S1.mu hc cM ry (RR:=fun ks n2=>∀ys,SrtK ks xs ys->R ys env1 n2) (fun ks H4 n2 rr fr4 at4 e4 n4 ys ko=>?_) xs us [] n1 _ r (fun b o hp e=>?_) (fun p hp=>?_) C4 p1
     · obtain⟨ys',so,ry'⟩:=QZ r ko;have ne4:∀b o,H2 b=some o->b≠kS:=fun b o e z=>by rw [z,nk] at e;cases e
       have hk4:∀b o,b∉G.pots->H1 b=some o->upd H4 kS (.lst []) b=some o:=fun b o hp e=>by
         have e2:=h0 b o hp e;rw [A7 (ne4 b o e2)];exact fr4 b o hp e2
       have fr:Fr G H1 (upd H4 kS (.lst [])):=fun b o hb e=>hk4 b o (fun z=>hb (pM b z)) e;refine k ys' env1 n2 a2 ys (upd H4 kS (.lst [])) (rr ys' so) (S1.call hk4 fun p hp=>?_) (f1.trans fr) (by rw [A7 hka.symm];exact n4) (ry'.fr fr);rw [hT];have h5:=(tabK T Pt lpos qual).more (M':=G.M) (at4 p hp) fun a ha=>.inl (B3 _ ha)
       -- kS is none of the pots' things
       have h6:=(tabK T Pt lpos qual).keep (H':=upd H4 kS (.lst [])) (at4 p hp) (A7 fun z=>kM (pM _ (z▸hp))) fun b o hb e=>by
         rw [A7 (fun z=>hb (by rw [z];exact B8))];exact e
       exact(tabK T Pt lpos qual).more (M':=G.M) h6 fun a ha=>.inl (B3 _ ha)
     · rw [A7 (fun z=>by rw [z,nk] at e;cases e)];exact e
     · have h5:=(tabK T Pt lpos qual).more (M':=kS::G.M) (at2 p hp) fun a ha=>(B6.mp ha).elim (fun z=>.inr (z▸nk)) .inl
       exact(tabK T Pt lpos qual).keep h5 (A7 fun z=>kM (pM _ (z▸hp))) fun b o hb e=>by
         rw [A7 (fun z=>hb (by rw [z];exact B8))];exact e
   refine⟨a,us,vy,ps,rfl,hq,by omega,ev,eP,tg.1,?_⟩;rcases tg.2 with hn | ⟨c',z1,z2,z3⟩
   · refine .inl ⟨hn,fun c' hc'=>rest c' _ (fun b o hp e=>?_) (fun p hp=>?_) ?_ (S1.fresh hc')⟩
     · have b1:b≠Pt:=fun z=>hp (by rw [z];exact ptM);rw [A7 b1,A7 (fun z=>by rw [z,hc'] at e;cases e)];exact e
     · by_cases hpp:p=Pt
       · subst hpp;refine .inr ⟨rfl,_,C4,?_,.inr ⟨c',?_,S1.fresh hc',?_⟩⟩
         · have e:(ps++#[rawInt lpos.line,rawInt lpos.col,N3 c']).toList=ps.toList++[rawInt lpos.line,rawInt lpos.col,.ref c']:=by simp
           rw [e];exact TriplesOk_snoc _ _ _ _ tg.1
         · have e:(ps++#[rawInt lpos.line,rawInt lpos.col,N3 c']).toList=ps.toList++[rawInt lpos.line,rawInt lpos.col,.ref c']:=by simp
           rw [e];exact codeAmong_snoc _ tg.1 hn
         · rw [A7 (fun z=>by rw [z,eP] at hc';cases hc'),C4]
       · rcases(atH p hp).2 with⟨_,z⟩ | ⟨z,_⟩
         · refine .inl ⟨hpp,?_⟩;have nc:p≠c':=fun q=>S1.fresh hc' (by rw [<- q];exact pM p hp);have z2:=T.keep (H':=upd H1 c' (V7 c' qual)) z (A7 nc) fun b o _ e=>by rw [A7 (fun q=>by rw [q,hc'] at e;cases e)];exact e
           exact T.keep z2 (by rw [A7 hpp]) fun b o hb e=>by rw [A7 (fun q=>hb (by rw [q];exact pM _ ptM))];exact e
         · exact absurd z hpp
     · rw [A7 (fun z=>by rw [z,eP] at hc';cases hc'),C4]
   · exact .inr ⟨c',z1,z3,rest c' H1 (fun _ _ _ e=>e) (fun p hp=>(atH p hp).2) z3 z2⟩
 · exact p1.elim
end
section
variable {T:PotK}{ι:Type}{K:A4}{F:ι->Cx}{Pt cd:Addr}{lpos p pos kpos:Pos}{qual x y:Str}{e body:Expr}{pe pk:pE}{scope:Scope}{params:Arguments}{iy k:Nat}{c:ι->Addr}
theorem Rb (he:QR (tabK T Pt lpos qual) K F e pe)
   (hb:QE (tabK T Pt lpos qual) K (fun q:ι×Addr×Addr×Shared×Hp=>Bu (F q.1) scope [x,y] qual q.2.1 q.2.2.1 [(y,c q.1)] q.2.2.2.1 q.2.2.2.2) body pk)
   (S:CP scope x y) (hr:∀z,Room k (F z).A) (hc:∀z,(F z).env.cells.lookup y=some (c z)) (hi:∀z,(F z).env.scope.names.lookup y=some .cell) (hn:∀z,(F z).N[iy]?=some y)
   (bd:∀z (pm ct cdv u:Value),W4 (kla_fn "<lambda>" qual params body scope [(y,c z)] pm cdv ct) ⟨[u],[]⟩=pure [(x,u)])
   (hq:∀z,(F z).env.qual++"<lambda>"=qual) (hcl:∀z,closureFor scope (F z).env=pure [(y,c z)]) (hcode:∀z,(F z).env.code=.ref cd) (C:∀z,CodeHd (F z).base cd Pt) (hB:∀z,(F z).base.BuiltinsAt (F z).mg Pt)
   (hg:∀z,Gl (F z) "sorted") (hm:∀z,(F z).mg "sorted"=none) (hdef:∀z,defaultsOf params (F z).env=([],[])) (hs:E5 e=true:=by rfl) (hK:∀z,(F z).K=K:=by intro _;rfl) :
   QN (tabK T Pt lpos qual) K F (.Call (.Name "sorted" p) [e] [⟨some "key",.Lambda params body scope lpos,kpos⟩] pos) (EO iy pe pk):=by
 obtain⟨t,h1,h2⟩:=he;obtain⟨u,h3,h4⟩:=hb;refine⟨_,fun z=>hK z▸Qx (c:=c z) (k:=k) (tb:=u) ⟨S,hr z,hc z,hi z,hn z,bd z,fun f c' s H=>h3 (z,f,c',s,H)⟩ (hq z) (hcl z) (hcode z) (C z) (hB z) (hg z) (hm z) (h1 z) (C8 hs) (hdef z),Ra h2 h4⟩
end
end Pu
end
section
namespace L2
open PySem PySem.W PySem.Spec PyProof.Rows
def Hi (Pt:Addr)(H:Hp):Prop:=∀b,H b=none\/(∃o xs,H b=some (.frz o (.lst xs)))\/(b=Pt/\H b=some (.tbl #[]))
theorem Rc {P:C5}{w:World}{K:Frag}{mg mb:Str->Option Value}{CX:CXT}{k:Nat}{fa a Pt cd:Addr}{fd:FuncData}{x:Str}{sp:Sp}{s₁:Shared}{vs:List Value}{ns:List Int}
   (KX:K.In s₁.heap) (hns:s₁.heap.Ns U3 mg) (hb:s₁.heap.Ns builtinsNs mb) (hbb:∀x:Str,x≠"__name__"->mb x=M8 x) (hlim:s₁.heap.NoLimit) (hg:s₁.gens=#[])
   (ha:s₁.heap.get? a=some { cls:=.type "list",data:=.seq vs.toArray }) (hi:IntsAre vs ns) (hl:ns.length<=B5) (hr:Room k callerA)
   (hP:s₁.heap.get? Pt=some (tabObj #[])) (hC:CodeHd s₁.heap cd Pt) (hB:s₁.heap.BuiltinsAt mg Pt) (hKP:K.lookup Pt=none) (hsy:G9≠Pt)
   (F:∀base:Heap,K.In base->base.Ns U3 mg->CodeHd base cd Pt->base.BuiltinsAt mg Pt->FnOk P w K mg base CX k fa fd [x] sp) (hbind:∀(s:Shared) (u:Value),BindsTo s fd ⟨[u],[]⟩ [(x,u)])
   (hsp:∀H:Hp,Hi Pt H->H Pt=some (.tbl #[])->SqL K H a (ns.map V.int)->sp [.ref a] H (fun v _=>v=.bl true) fun _ _ _=>False)
   (hCX:∀H e s',CX [] H s₁ (fun _ _ _=>False) e s'->False) :
   M9 (model P w) callerA (.call (.ref fa) ⟨[.ref a],[]⟩) (fun r s'=>r=.ok (.ret (.bool true))/\OldK s₁.heap s'.heap/\s'.os=s₁.os/\AllBare s'.gens) s₁:=by
 have rv:=NF hi;have lenV:=hi.length;have haP:a≠Pt:=fun z=>by rw [z,hP] at ha;cases ha
 have core:∀H:Hp,Hi Pt H->H Pt=some (.tbl #[])->SqL K H a (ns.map V.int)->HOk P w H s₁.heap->(∀b,H b≠none->b=a\/b=Pt)->(H a≠none->K.lookup a=none)->
     M9 (model P w) callerA (.call (.ref fa) ⟨[.ref a],[]⟩) (fun r s'=>r=.ok (.ret (.bool true))/\OldK s₁.heap s'.heap/\s'.os=s₁.os/\AllBare s'.gens) s₁:=by
   intro H hO hPt hS hok hA hK;have base_of:∀{b:Addr} {o:Obj},s₁.heap.get? b=some o->H b=none->(hidT s₁.heap H).get? b=some o:=fun e n=>MM e n
   have noA:∀{b:Addr} {o:Obj},s₁.heap.get? b=some o->(∀n,o.data≠.seq vs.toArray n)->(∀ps,o.data≠.fields ps)->H b=none:=fun {b o} e d1 d2=>by
     cases q:H b with
     | none=>rfl
     | some u =>
       rcases hA b (by rw [q];simp) with e' | e'
       · subst e';rw [ha] at e;cases e;exact absurd rfl (d1 _)
       · subst e';rw [hP] at e;cases e;exact absurd rfl (d2 _)
   have nsK:∀{b:Addr} {m:Str->Option Value},s₁.heap.Ns b m->(hidT s₁.heap H).Ns b m:=fun {b m} ⟨o,es,ep,e,d,r⟩=>⟨o,es,ep,base_of e (noA e (fun n z=>by rw [d] at z;cases z) (fun n z=>by rw [d] at z;cases z)),d,r⟩
   have hKb:K.In (hidT s₁.heap H):=fun b o e=>base_of (KX b o e) (by
     cases q:H b with
     | none=>rfl
     | some u =>
       rcases hA b (by rw [q];simp) with e' | e'
       · subst e';rw [hK (by rw [q];simp)] at e;cases e
       · subst e'
         rw [hKP] at e;cases e)
   have hM:Mod K mg (hidT s₁.heap H):=⟨hKb,nsK hns,⟨mb,nsK hb,hbb⟩,let ⟨mc,h1,h2⟩:=hlim;⟨mc,nsK h1,h2⟩⟩
   have hC':CodeHd (hidT s₁.heap H) cd Pt:=by
     obtain⟨o,vs',file,tf,flags,tg,inF,text,tt,e1,r1,r2,r3,r4,r5,r6,r7,r8,hne⟩:=hC;refine⟨o,vs',file,tf,flags,tg,inF,text,tt,base_of e1 ?_,r1,r2,r3,r4,r5,r6,r7,r8,hne⟩;cases q:H cd with
     | none=>rfl
     | some u =>
       rcases hA cd (by rw [q];simp) with e' | e'
       · subst e';rw [ha] at e1;cases e1;have z:L9 "list"=L9 "code":=r1;injection z with z;exact absurd z (by decide)
       · exact absurd e' hne
   have hB':(hidT s₁.heap H).BuiltinsAt mg Pt:=by
     obtain⟨bm,o,z1,z2,z3,z4,z5,z6,z7,z8⟩:=hB;exact⟨bm,o,z1,z2,z3,z4,base_of z5 (noA z5 (fun n z=>by rw [z8] at z;cases z) (fun n z=>by rw [z8] at z;cases z)),z6,z7,z8⟩
   have nsy:NS H:=by
     rcases hO G9 with z | ⟨o,xs,z⟩ | ⟨z,_⟩
     · exact .inl z
     · exact .inr ⟨o,_,z⟩
     · exact absurd z hsy
   have e0:Env0 P w K mg (hidT s₁.heap H) callerA [] s₁ H:=⟨rfl,hM,fun b o e=>MN e,i6 (MK _ _),trivial,fun b hb=>absurd (show b∈([]:List Addr) from hb) (by simp),hok,.of_eq hg,nsy⟩;refine Av ((F _ hKb (nsK hns) hC' hB').run callerA [] s₁ H ⟨[.ref a],[]⟩ [.ref a] [.ref a] _ _ hr e0 (hbind s₁ (.ref a)) (.cons rfl .nil) (hsp H hO hPt hS)) fun r s' h=>?_;cases r with
   | error e=>exact(hCX H e s' h).elim
   | ok fl =>
     cases fl with
     | next=>exact Z8 h
     | brk=>exact Z8 h
     | cont=>exact Z8 h
     | ret u =>
       obtain⟨v,H',os,bare,un,hok',r',q⟩:=h;have q':v=.bl true:=q;subst q';obtain rfl:u=Value.bool true:=r'
       have kept:∀b o,b≠Pt->s₁.heap.get? b=some o->s'.heap.get? b=some o:=fun b o hb e=>by
         cases q:H b with
         | none=>exact un.keep b o e q (by intro z;exact absurd (show b∈([]:List Addr) from z) (by simp)) (by simp)
         | some u =>
           rcases hO b with z | ⟨ob,xs,z⟩ | ⟨z,_⟩
           · rw [q] at z;cases z
           · have z2:=un.frzs b ob _ z;obtain⟨e1,_⟩:=hok b _ z;obtain⟨e2,_⟩:=hok' b _ z2;rw [e] at e1;cases e1;exact e2
           · exact absurd z hb
       obtain⟨more,hm⟩:=un.tbls Pt #[] hPt;have eP:s'.heap.get? Pt=some (tabObj (#[]++more)):=hok' Pt _ hm;refine⟨rfl,⟨fun b o e=>?_,fun b o e=>?_⟩,os,bare⟩
       · by_cases hb:b=Pt
         · subst hb;rw [hP] at e;cases e;exact .inr (.inl ⟨(hC.tab hP).isCodeTable,rfl,#[],more,rfl,eP⟩)
         · exact .inl (kept b o hb e)
       · by_cases hb:b=Pt
         · subst hb;exact⟨_,eP⟩
         · exact⟨o,kept b o hb e⟩
 have tabOk:∀(H:Hp),G5 P w H s₁.heap Pt (.tbl #[]):=fun H=>hP;cases hk:K.lookup a with
 | some o =>
   have e:=KX a o hk;rw [ha] at e;cases e;refine core (fun b=>if b=Pt then some (.tbl #[]) else none) (fun b=>?_) (if_pos rfl) (.inr ⟨_,vs.toArray,_,hk,rfl,rfl,rfl,by rw [E3,lenV];exact hl,by simpa using rv⟩) (fun b u z=>?_) (fun b z=>?_) fun z=>absurd (if_neg haP) z
   · by_cases hb:b=Pt
     · exact .inr (.inr ⟨hb,if_pos hb⟩)
     · exact .inl (if_neg hb)
   · by_cases hb:b=Pt
     · have z':=(if_pos hb).symm.trans z;cases z';subst hb;exact tabOk _
     · have z':=(if_neg hb).symm.trans z;cases z'
   · by_cases hb:b=Pt
     · exact .inr hb
     · exact absurd (if_neg hb) z
 | none =>
   refine core (fun b=>if b=Pt then some (.tbl #[]) else if b=a then some (.frz { cls:=.type "list",data:=.seq vs.toArray } (.lst (ns.map V.int))) else none) (fun b=>?_) (if_pos rfl) (.inl (.inr ⟨{ cls:=.type "list",data:=.seq vs.toArray },?_⟩)) (fun b u z=>?_) (fun b z=>?_) fun _=>hk
   · by_cases hb:b=Pt
     · exact .inr (.inr ⟨hb,if_pos hb⟩)
     · by_cases hb2:b=a
       · exact .inr (.inl ⟨_,_,by simp only [if_neg hb,if_pos hb2];rfl⟩)
       · exact .inl (by simp only [if_neg hb,if_neg hb2])
   · show(if a=Pt then _ else if a=a then _ else _)=_;rw [if_neg haP,if_pos rfl]
   · have z:(if b=Pt then some (HO.tbl #[]) else if b=a then some (.frz { cls:=.type "list",data:=.seq vs.toArray } (.lst (ns.map V.int))) else none)=some u:=z
     by_cases hb:b=Pt
     · rw [if_pos hb] at z;cases z;subst hb;exact tabOk _
     · rw [if_neg hb] at z
       by_cases hb2:b=a
       · rw [if_pos hb2] at z;cases z;subst hb2;exact⟨ha,by rw [B2];exact hl,vs,_,rv,ha⟩
       · rw [if_neg hb2] at z;cases z
   · by_cases hb:b=Pt
     · exact .inr hb
     · by_cases hb2:b=a
       · exact .inl hb2
       · exact absurd (show(if b=Pt then _ else if b=a then _ else none)=none by rw [if_neg hb,if_neg hb2]) z
structure Fn0C (K:Frag)(mg:Str->Option Value)(x:Str)(st:Stmt)(cd:Addr):Prop where
 ex:∃(f:Addr) (oc:Value) (od:Option Addr) (kV doc pm:Value) (an:Option Addr) (ct:Value) (osl:Array (Option Value)),K.lookup f=some ⟨oc,od,.func (fnOf x x (Q8 st) (M4 st) (E4 st) .none kV doc pm an (.ref cd) ct),osl⟩/\codeIn K (.ref cd) x=true/\keepIn K (.ref f)=true/\mg x=some (.ref f)
theorem Re {K:Frag}{h:Heap}{mg:Str->Option Value}{x:Str}{st:Stmt}(X:K.In h)(G:h.Ns U3 mg){f cd:Addr}{oc:Value}{od an:Option Addr}{osl:Array (Option Value)}{kV doc pm ct:Value}
   (a:nsIn K U3 x=some (some (.ref f))) (l:K.lookup f=some ⟨oc,od,.func (fnOf x x (Q8 st) (M4 st) (E4 st) .none kV doc pm an (.ref cd) ct),osl⟩)
   (c:codeIn K (.ref cd) x=true) (k:keepIn K (.ref f)=true):Fn0C K mg x st cd:=⟨f,oc,od,kV,doc,pm,an,ct,osl,l,c,k,mg_of X G a⟩
section
variable {P:C5}{w:World}{K:Frag}{mg:Str->Option Value}{base:Heap}
theorem Fn0C.ok {x:Str}{st:Stmt}{cd:Addr}{N ps:List Str}{k:Nat}{sp:Sp}(F:Fn0C K mg x st cd)(S:Q7 N ps (E4 st))(len:∀vs H Q E,sp vs H Q E->vs.length=ps.length)
   (bd:∀(kV doc pm:Value) (an:Option Addr) (cdv ct:Value) (us:List Value),us.length=ps.length->W4 (fnOf x x (Q8 st) (M4 st) (E4 st) .none kV doc pm an cdv ct) ⟨us,[]⟩=pure (ps.zip us))
   (hbody:∀(f:Addr) (A:Around) (outer:List Env) (s:Shared) (H:Hp) (vs:List V) (Q:VK) (E:XK),Room k (A.deeper (envOfC x (E4 st) s.heap.objs.size f (.ref cd)))->sp vs H Q E->
     ∃t,PSs (cxOf CX0 P w K mg base N x (E4 st) f (.ref cd) A outer s H E).nox (M4 st) t/\t { nx:=fun _ H'=>Q .non H',rt:=Q } (start N vs) H):Kn P w K mg base x (k + 1) ps sp:=by
 obtain⟨f,oc,od,kV,doc,pm,an,ct,osl,l,hcd,kp,m⟩:=F.ex;refine⟨f,_,fn_of l hcd S len fun A outer s H vs Q E hr hsp=>?_,.all (bd kV doc pm an (.ref cd) ct),kp,m,oc,od,osl,l⟩;obtain⟨t,h,q⟩:=hbody f A outer s H vs Q E hr hsp;exact⟨t,h.nox,q⟩
end
def EQ (K:Frag)(Pt:Addr):Sp:=fun vs H Q _=>∃(a:Addr) (ns:List Int),vs=[.ref a]/\SqL K H a (ns.map V.int)/\ns.length<=63/\Hi Pt H/\H Pt=some (.tbl #[])/\∀H',Q (.bl true) H'
theorem Rf {l:OpenLaw}{q:C5}{loose:List Str}{XP:(Str->Option Value)->Heap->Prop}{d:DefRec}{K:Params->Frag}{as:List Addr}{e:∀P,as=(K P).map (·.1)}{Pt:Addr}{x:Str}{k:Nat}(hn:l.most=some 63)(hdf:d.params.defaults=[])(hk:Room k callerA)(hsy:G9≠Pt)
   (F:∀(w:World) (mg:Str->Option Value) (h:Heap),(K w.params).In h->h.Ns U3 mg->∃st x' st',Fn0 (K w.params) mg d.name st/\(∃cd,Fn0C (K w.params) mg x' st' cd/\codeHdIn (K w.params) cd Pt=true)/\(K w.params).lookup Pt=none/\
     (∀(kV doc pm:Value) (an:Option Addr) (cdv ct:Value) (s:Shared) (u:Value),BindsTo s (fnOf d.name d.name (Q8 st) (M4 st) (E4 st) .none kV doc pm an cdv ct) ⟨[u],[]⟩ [(x,u)])/\
     ∀cd,Fn0C (K w.params) mg x' st' cd->∀base:Heap,(K w.params).In base->base.Ns U3 mg->CodeHd base cd Pt->base.BuiltinsAt mg Pt->Kn l.prog w (K w.params) mg base d.name k [x] (EQ (K w.params) Pt)) :
   WalkO q loose XP (kmHook K as e [Pt]).says l.row.toRowW d [] (fun f vs=>PySem.call f vs):=by
 refine Att.attach_call hn hdf fun w s₀ s₁ mg mb fa o pm cdv doc a vs ns G Y ho hd hcd hmg hobj hints hlen hg=>?_;have KX:=km_in_of Y;have hP:=km_tabs_of Y Pt B8;obtain⟨st,x',st',F0,⟨cd,fC,hhd⟩,hKP,hb,hF⟩:=F w mg _ KX G.T.g;obtain⟨f,fd,F1,m⟩:=F0.ex;have e:=hmg.symm.trans m;cases e;have hC:=codeHd_of_K KX hhd
 have hB:s₁.heap.BuiltinsAt mg Pt:=by
   obtain⟨bm,ob,b1,b2,b3,b4,b5,b6⟩:=G.T.bmain;refine⟨bm,ob,b1,b2,fun q=>?_,fun q=>?_,b3,b4,b5,b6⟩
   · obtain⟨o,es,ep,e,hd,_⟩:=G.T.g;rw [q,e] at b3;cases b3;rw [hd] at b6;cases b6
   · rw [q,hP] at b3;cases b3;cases b4
 refine Rc (x:=x) (CX:=CX0) (sp:=EQ (K w.params) Pt) (fd:=fd) KX G.T.g G.T.b G.T.builtins G.T.nolimit hg hobj hints (K5 hlen (by decide)) hk hP hC hB hKP hsy (fun base kb nb c1 c2=>?_) (fun s u=>?_) (fun H hO hPt hS=>⟨a,ns,rfl,hS,hlen,hO,hPt,fun _=>rfl⟩) fun _ _ _ z=>z
 · obtain⟨f',fd',a',b',c',m',oc',od',osl',lk'⟩:=(hF cd fC base kb nb c1 c2).ex;have e:=m.symm.trans m';cases e;obtain⟨oc,od,kV,doc,pm,an,cdv,ct,osl,_,lk,hcd⟩:=F1.ex;have e2:=lk.symm.trans lk';cases e2;exact a'
 · obtain⟨oc,od,kV,doc,pm,an,cdv,ct,osl,rfl,lk,hcd⟩:=F1.ex;exact hb kV doc pm an cdv ct s u
end L2
namespace Pu
open PySem PySem.W PySem.Spec L2
section
variable {P:C5}{w:World}{K:A4}{mg:Str->Option Value}{base:Heap}{T:PotK}{Pt:Addr}{lpos:Pos}{qual:Str}
theorem fn_okC {x:Str}{st:Stmt}{cd:Addr}{N ps:List Str}{k:Nat}{body:pS}(F0:Fn0C K mg x st cd)(sc:Q7 N ps (E4 st))
   (bd:∀(kV doc pm:Value) (an:Option Addr) (cdv ct:Value) (us:List Value),us.length=ps.length->W4 (U5 x x (Q8 st) (M4 st) (E4 st) .none kV doc pm an cdv ct) ⟨us,[]⟩=pure (ps.zip us))
   (h:∀(f:Addr) (A:Around) (outer:List PySem.Env) (s:Shared) (H:Hp) (E:XK),Room k (A.deeper (DE x (E4 st) s.heap.objs.size f (.ref cd)))->
     QSs T false K (fun _:Unit=>(cxOf CX0 P w K mg base N x (E4 st) f (.ref cd) A outer s H E).nox) (M4 st) body) :
   Kn P w K mg base x (k + 1) ps (D8 K T (fnP N ps body)):=by
 refine F0.ok sc (fun vs H Q E h=>?_) bd (fun f A outer s H vs Q E hr hsp=>?_)
 · obtain⟨G,xs,n,R,_,_,_,r,hf,_⟩:=h;rw [<- r.length];exact hf.1
 · obtain⟨t,h1,h2⟩:=h f A outer s H E hr;obtain⟨G,xs,n,R,hp,hm,hh,r,hf,k'⟩:=hsp;refine⟨t,h1 (),?_⟩;have S0:=GB (N:=N) (np:=false) hp hm hh r
   have fin:∀(x:PV) (n':Nat) (v:V) (G':Gh) (σ:St) (H':Hp) (env:Env),R x n'->SR ⟨K,T,G.M,G.pots,H,false⟩ G' σ H' env n'->Rep K ⟨G.M,G'.pots⟩ H' x v->Q v H':=by
     intro x n' v G' σ H' env rr S' rv
     have ep:G'.pots=G.pots:=by
       obtain⟨l,el,hl⟩:=S'.pre;rcases hl with hl | hl
       · rw [el,hl,P3]
       · cases hl
     rw [ep] at rv;exact k' _ _ _ _ rr rv (fun p hp'=>T.more (S'.pots p (by rw [ep];exact hp')).2 fun a ha=>.inl (S'.sup a ha)) S'.frame
   refine h2 _ G _ H _ n _ _ rfl rfl rfl S0 hf.2 ⟨fun env n' G' σ H' q S' _=>?_,fun x n' v G' σ H' env q S' rv _=>fin x n' v G' σ H' env q S' rv,fun _ _ _ _ _ q=>q.elim,fun _ _ _ _ _ q=>q.elim⟩;exact fin .non n' .non G' σ H' env q S' rfl
theorem Rg {x:Str}{st:Stmt}{N:List Str}{y:Str}{k:Nat}{body:pS}(F0:Fn0 K mg x st)(sc:Q7 N [y] (E4 st))
   (bd:∀(kV doc pm:Value) (an:Option Addr) (cdv ct:Value) (us:List Value),us.length=[y].length->W4 (U5 x x (Q8 st) (M4 st) (E4 st) .none kV doc pm an cdv ct) ⟨us,[]⟩=pure ([y].zip us))
   (h:∀(f:Addr) (cdv:Value) (A:Around) (outer:List PySem.Env) (s:Shared) (H:Hp) (E:XK),Room k (A.deeper (DE x (E4 st) s.heap.objs.size f cdv))->
     QSs (tabK T Pt lpos qual) true K (fun _:Unit=>(cxOf CX0 P w K mg base N x (E4 st) f cdv A outer s H E).nox) (M4 st) body)
   (hlaw:∀ns:List Int,ns.length<=63->body ⟨fun _ _=>False,fun r _=>r=.bl true,fun _ _=>False,fun _ _=>False⟩ (p8 N [.scr ns]) 0) :
   Kn P w K mg base x (k + 1) [y] (EQ K Pt):=by
 refine F0.ok sc (fun vs H Q E h=>?_) bd (fun f cdv A outer s H vs Q E hr hsp=>?_)
 · obtain⟨a,ns,rfl,_⟩:=h
   rfl
 · obtain⟨t,h1,h2⟩:=h f cdv A outer s H E hr;obtain⟨a,ns,rfl,hS,hl,hO,hPt,q⟩:=hsp;refine⟨t,h1 (),?_⟩
   let G:Gh:=⟨[Pt],[Pt]⟩
   have r:Reps K G H [.scr ns] [.ref a]:=by
     refine .one ⟨a,rfl,?_⟩;rcases hS with(hS | ⟨o,hS⟩) | hS
     · rcases hO a with z | ⟨o,xs,z⟩ | ⟨_,z⟩
       · rw [z] at hS;cases hS
       · rw [z] at hS;cases hS
       · rw [z] at hS;cases hS
     · refine .inl ⟨fun z=>?_,o,hS⟩;rw [J8.mp (show a∈[Pt] from z),hPt] at hS;cases hS
     · exact .inr hS
   have S0:=GB (T:=tabK T Pt lpos qual) (N:=N) (np:=true) (n:=0) (G:=G) (fun p hp=>by
       rw [J8.mp (show p∈[Pt] from hp)];exact⟨B8,.inr ⟨rfl,#[],hPt,trivial,.inl rfl⟩⟩) (fun a ha=>by
       rw [J8.mp (show a∈[Pt] from ha)]
       exact⟨_,hPt,trivial⟩) ⟨[],rfl,by simp⟩ r
   refine h2 _ G _ H _ 0 _ _ rfl rfl rfl S0 (hlaw ns hl) ⟨fun _ _ _ _ _ q=>q.elim,fun x n' v G' σ H' env qq S' rv _=>?_,fun _ _ _ _ _ q=>q.elim,fun _ _ _ _ _ q=>q.elim⟩;subst qq;obtain rfl:v=.bl true:=rv;exact q H'
end
end Pu
namespace L2
open PySem PySem.W PySem.Spec PyProof.Rows
theorem Rh {X:Cx}{k:Nat}{scope:Scope}{N:List Str}{qual:Str}{f c':Addr}{cl:List (Str×Addr)}{s:Shared}{H:Hp}(hr:Room (k + 3) X.A):Room k (Bu X scope N qual f c' cl s H).A:=((hr.in1).in1).deeper _
theorem Ri {scope:Scope}{x y:Str}(kind:scope.kind=.function)(co:scope.isCoroutine=false)(gen:scope.isGenerator=false)(hx:scope.names.lookup x=some .local)(hy:scope.names.lookup y=some .free)
   (fr:(scope.names.filter fun z=>z.2 == .free).map (·.1)=[y]) (nc:∀z∈scope.names,z.2≠.cell) (ne:(y == x)=false):CP scope x y:=by
 refine⟨kind,co,gen,hx,hy,fun z hz=>?_,nc,ne⟩;have h1:z∈(scope.names.filter fun z=>z.2 == .free).map (·.1):=K4.mpr ⟨(z,.free),O8.mpr ⟨d8 hz,rfl⟩,rfl⟩;rw [fr] at h1;exact J8.mp h1
abbrev ptOf {h:Heap}{c P:Addr}(_:PySem.W.CodeHd h c P):Addr:=P
end L2
end
section
namespace Pu
open PySem PySem.Spec L2
section
variable {T:PotK}{np:Bool}{ι:Type}{K:A4}{F:ι->Cx}{a b ea eb:Expr}{st:Stmt}{pos:Pos}{pa pb pi pj:pE}
theorem Rj (K:A4)(hc:X.calm=true)(h1:GW X x gx)(h2:GW X y gy)(hn:(F5 [x,y] X.env).length=2:=by rfl)(hst:(F5 [x,y] X.env).findIdx? (·.1)=none:=by rfl)
   (hs:(F5 [x,y] X.env).map (·.2)=assign x X.env::(F5 [y] X.env).map (·.2):=by rfl) (hs2:(F5 [y] X.env).map (·.2)=assign y X.env::(F5 [] X.env).map (·.2):=by rfl) (hK:X.K=K:=by rfl) :
   GW X (.Tuple [x,y] k pos) (gTup K 2 (X6 gx (X6 gy gNil))):=⟨hK▸DY hc (AZ h1.h (AZ h2.h DX hs2) hs) hn hst⟩
def Hj (i:Nat)(pa pb pi pj:pE):pS:=fun D env n=>pa env n fun x env1 n1=>pb env1 n1 fun y env2 n2=>(∃xs,env2[i]?=some (some (.ow .lst xs)))/\gAt i pi x env2 n2 fun env3 n3=>gAt i pj y env3 n3 D.nx
theorem Rk (i:Nat){tg:Expr}{k:Nat}{p:Pos}(h:∀z te g,EW (F z) (.Tuple [a,b] k p) te->GW (F z) tg g->SW (F z) st (tAsg te g))(hg:∀z ti tj,EW (F z) ea ti->EW (F z) eb tj->GW (F z) tg (gTup K 2 (X6 (gSub (tVar i) ti Ch) (X6 (gSub (tVar i) tj Ch) gNil))))(h1:QE T K F a pa)(h2:QE T K F b pb)(h3:QE T K F ea pi)(h4:QE T K F eb pj)(n1:E5 a=true:=by rfl)(n2:E5 b=true:=by rfl):QS T np K F st (Hj i pa pb pi pj):=by
 obtain⟨t,a1,a2⟩:=h1;obtain⟨u,b1,b2⟩:=h2;obtain⟨ti,i1,i2⟩:=h3;obtain⟨tj,j1,j2⟩:=h4;refine⟨_,fun z=>(h z _ _ ⟨FW (E9 (a1 z) (E9 (b1 z) G7 (C8 n2)) (C8 n1))⟩ (hg z _ _ ⟨i1 z⟩ ⟨j1 z⟩)).h,fun C G σ H env n PD D hK hT hn S hp L=>?_⟩;refine a2 C G σ H env n _ _ hK hT S hp fun x env1 n1 v H1 q1 S1 r1 f1=>?_;refine b2 C G σ H1 env1 n1 _ _ hK hT S1 q1 fun y env2 n2 w H2 q2 S2 r2 f2=>?_;obtain⟨⟨xs0,e0⟩,q2⟩:=q2;refine⟨by show 2<=B5;decide,fun p hn'=>⟨p,[v,w],rfl,SqT.of C4,rfl,v,[w],rfl,?_⟩⟩;have sm:Same H2 (upd H2 p (.tup [v,w])):=Same.lay1 hn';generalize upd H2 p (.tup [v,w])=H3 at sm ⊢;have S3:=S2.same sm;obtain⟨a,vs,ev,h1,h2,h3,h4,r⟩:=S3.slots i _ e0;refine⟨.ref a,ev,?_⟩;refine i2 C G σ H3 env2 n2 _ _ hK hT S3 q2 fun d env3 n3 ud H4 q3 S4 r4 f4=>?_
 split at q3
 · rename_i xs d ex
   split at q3
   · rename_i jj ej;obtain⟨a',us,ev',g1,g2,g3,g4,r'⟩:=S4.slots i _ ex;rw [ev] at ev';cases ev';subst hK;obtain⟨S5,f5⟩:=S4.put ex ev (r'.set jj (((r1.fr f2).same sm).fr f4));refine⟨a,us,d,jj,rfl,r4,g4,by rw [<- r'.length];exact ej,?_⟩;refine⟨w,[],rfl,.ref a,ev,?_⟩;refine j2 C G σ _ _ n3 _ _ rfl hT S5 q3 fun d2 env5 n5 ud2 H5 q5 S6 r6 f6=>?_
     split at q5
     · rename_i xs2 d2 ex2
       split at q5
       · rename_i jj2 ej2;obtain⟨a',us2,ev',k1,k2,k3,k4,r7⟩:=S6.slots i _ ex2;rw [ev] at ev';cases ev';obtain⟨S7,f7⟩:=S6.put ex2 ev (r7.set jj2 ((((r2.same sm).fr f4).fr f5).fr f6));exact⟨a,us2,d2,jj2,rfl,r6,k4,by rw [<- r7.length];exact ej2,rfl,L.nx _ _ _ _ _ q5 S7 (Ext.fr ((((((f1.trans f2).trans (Fr.of sm)).trans f4).trans f5).trans f6).trans f7))⟩
       · grind
     · grind
   · grind
 grind
end
end Pu
end
section
namespace Pu
open PySem L2
theorem KI (zs:List Int)(d:Nat):(zs.map PV.int).all (cmpb d)=true:=by
 rw [List.all_map,P2];intro x _;cases d <;> rfl
theorem KJ {tt:pT}{rest:Pu.Env}{α:Type}(f:α->PV)(c:α->Bool):∀(xs:List α) (s0:Option Slot) (n:Nat) (R:List PV->Nat->Prop),(∀x∈xs,∀m Q,Q (c x) (some (.v (f x))::rest) m->tt (some (.v (f x))::rest) m Q)->R ((xs.filter c).map f) n->Y1 (gN 0) tt (qV 0) (xs.map f) (s0::rest) n R:=by
 intro xq
 induction xq with
 | nil =>
   intro _ _ _ _ h;exact h
 | cons x xs ih =>
   intro s0 n R ht h;show tt (some (.v (f x))::rest) n _;refine ht x B8 n _ ?_
   by_cases hc:c x=true
   · rw [if_pos hc];rw [List.filter_cons,if_pos hc] at h;show Y1 (gN 0) tt (qV 0) (xs.map f) (some (.v (f x))::rest) n _;exact ih _ n _ (fun y hy=>ht y (B3 _ hy)) h
   · rw [if_neg hc];rw [List.filter_cons,if_neg hc] at h;exact ih _ n _ (fun y hy=>ht y (B3 _ hy)) h
end Pu
end
section
namespace Pu
open PySem PySem.Spec L2
def lt (f t:Int)(k:Nat):Nat:=97 + ((f + (k:Int) * t) % 26).toNat
def An:List Int:=[1,3,5,7,9,11,15,17,19,21,23,25]
theorem lt_ne (ht:t∈An)(f0:0<=f)(hjk:j < k)(hk:k < 26):lt f t j≠lt f t k:=fun h=>by
 have inv:∀t∈An,∃u∈An,t * u=26 * (t * u / 26) + 1:=by decide
 obtain⟨u,_,hu⟩:=inv t ht;have e:(f + (j:Int) * t) % 26=(f + (k:Int) * t) % 26:=by unfold lt at h;omega
 have d:(26:Int) ∣ ((k:Int) - j) * t:=by
   have:=Int.dvd_of_emod_eq_zero (Int.emod_eq_emod_iff_emod_sub_eq_zero.mp e.symm);rw [show f + (k:Int) * t - (f + (j:Int) * t)=((k:Int) - j) * t by rw [Int.sub_mul];omega] at this;exact this
 have d2:(26:Int) ∣ ((k:Int) - j) * t * u:=Int.dvd_trans d (Int.dvd_mul_right _ _);rw [Int.mul_assoc,hu,Int.mul_add,Int.mul_one,<- Int.mul_assoc,Int.mul_comm _ 26,Int.mul_assoc] at d2;have d3:(26:Int) ∣ (k:Int) - j:=(Int.dvd_add_right (Int.dvd_mul_right _ _)).mp d2;omega
theorem lt_ltr:Ltr (lt f t k):=by
 unfold lt Ltr;have:=AH (f + (k:Int) * t) (show(26:Int)≠0 by decide);have:=AG (f + (k:Int) * t) (show(0:Int) < 26 by decide);omega
theorem lt_at {k:Nat}:atI LETS.cps.toList ((f + (k:Int) * t) % 26)=some (lt f t k):=
 JY (AH _ (by decide)) (AG _ (by decide))
theorem Rl (ht:t∈An):-(2 ^ 64) < t/\t < 2 ^ 64:=by
 simp only [An,B6,e7,or_false] at ht;rcases ht with rfl | rfl | rfl | rfl | rfl | rfl | rfl | rfl | rfl | rfl | rfl | rfl <;> decide
def LsE (m:Nat)(z:Str):Prop:=z.cps.toList.length=m/\∀c∈z.cps.toList,Ltr c
theorem LsE.more (h:LsE m z)(hc:Ltr c):LsE (m + 1) (z++⟨#[c]⟩):=by
 refine⟨by rw [Ck,E1,h.1];rfl,fun d hd=>?_⟩;rw [Ck] at hd;rcases K8.mp hd with hd | hd
 · exact h.2 d hd
 · have:d=c:=by simpa using hd
   rw [this];exact hc
theorem Rm (x:Str)(h:a<=b)(hb:b<=x.length):(T3 x (some (a:Int)) (some (b:Int))).cps.toList=(x.cps.toList.drop a).take (b - a):=by
 rw [JW,StrLaws.sliceText_nat x h hb]
theorem Ro {a b c:Nat}(hx:LsE 7 x)(ha:a<=b)(hb:b<=7)(hc:Ltr c) :
   k5 (T3 x none (some (a:Int))++⟨#[c]⟩++T3 x (some (a:Int)) (some (b:Int)))/\(T3 x none (some (a:Int))++⟨#[c]⟩++T3 x (some (a:Int)) (some (b:Int))).cps.toList[a]?=some c:=by
 have lx:x.length=7:=by rw [y7];exact hx.1
 have e:(T3 x none (some (a:Int))++⟨#[c]⟩++T3 x (some (a:Int)) (some (b:Int))).cps.toList=x.cps.toList.take a++c::(x.cps.toList.drop a).take (b - a):=by
   rw [Ck,Ck,OW x (by omega),Rm x ha (by omega)];simp
 have lt:(x.cps.toList.take a).length=a:=by rw [Q4,hx.1];omega
 have hl:(x.cps.toList.take a++c::(x.cps.toList.drop a).take (b - a)).length=b + 1:=by
   rw [E1,E8,lt,Q4,U8,hx.1];omega
 refine⟨⟨by rw [e];omega,by rw [e,hl];omega,fun d hd=>?_⟩,?_⟩
 · rw [e] at hd;rcases K8.mp hd with hd | hd
   · exact hx.2 d (Dq hd)
   · rcases B6.mp hd with hd | hd
     · rw [hd];exact hc
     · exact hx.2 d (FE (Dq hd))
 · rw [e,W6 (by omega),lt,i7];rfl
structure NmA (f t:Int)(a:Nat)(zs:List Str)(i:Nat):Prop where
 len:zs.length=i
 nd:zs.Nodup
 own:∀(j:Nat) (z:Str),zs[j]?=some z->z.cps.toList[a]?=some (lt f t j)
 bt:∀z∈zs,k5 z
theorem NmA.more (h:NmA f t a zs i)(ht:t∈An)(f0:0<=f)(hi:i < 26)(hz:k5 z)(hc:z.cps.toList[a]?=some (lt f t i)):NmA f t a (zs++[z]) (i + 1):=by
 refine⟨by rw [E1,h.len];rfl,?_,fun j y e=>?_,fun y hy=>?_⟩
 · rw [AA];refine⟨h.nd,by simp,fun x hx y hy e=>?_⟩;rw [J8.mp hy] at e;obtain⟨j,hj,ej⟩:=List.mem_iff_getElem.mp hx;have:=h.own j x (by rw [D7 hj,ej]);rw [e,hc] at this;exact lt_ne ht f0 (show j < i by rw [<- h.len];exact hj) hi (N0 this).symm
 · by_cases c:j < zs.length
   · rw [W7 c] at e;exact h.own j y e
   · have hl:=h.len
     have:j=i:=by
       obtain⟨hh,_⟩:=D9.mp e;rw [E1,W9] at hh;omega
     subst this;rw [W6 (by omega),hl,i7] at e;have e':z=y:=by simpa using e
     rw [<- e'];exact hc
 · rcases K8.mp hy with hy | hy
   · exact h.bt y hy
   · rw [J8.mp hy];exact hz
theorem Hk {zs:List Str}:memP (.str z) (zs.map PV.str)=decide (z∈zs):=by
 unfold memP;rw [List.any_map,n6,BM,decide_eq_true_iff];constructor
 · rintro⟨y,hy,e⟩;have e':decide (y=z)=true:=by rw [<- GF];exact e
   rw [<- of_decide_eq_true e'];exact hy
 · intro h;refine⟨z,h,?_⟩;show eqP (.str z) (.str z)=true;rw [GF];exact decide_eq_true rfl
theorem ER (zs:List Str)(d:Nat):(zs.map PV.str).all (cmpb d)=true:=by
 rw [List.all_map,P2];intro x _;cases d <;> rfl
theorem CS {zs:List Str}(hP:zs.map PV.str=P)(h:R (.bl (decide (z∈zs)))):wIn 4 false (.str z) (.tup P) R:=by
 subst hP;exact⟨rfl,ER zs 4,by rw [Hk];exact h⟩
theorem ET {zs:List Str}(hP:zs.map PV.str=P)(h:R (.bl (!decide (z∈zs)))):wIn 4 true (.str z) (.tup P) R:=by
 subst hP;exact⟨rfl,ER zs 4,by rw [Hk];exact h⟩
theorem KK {zs:List Str}(hP:zs.map PV.str=P)(h:R (.bl (!decide (z∈zs)))):wIn 4 true (.str z) (.lst P) R:=by
 subst hP;exact⟨rfl,ER zs 4,by rw [Hk];exact h⟩
def RowS (zs:List Str):Prop:=zs.Nodup/\∀z∈zs,k5 z
abbrev rowP (zs:List Str):PV:=.tup (zs.map PV.str)
inductive Ev where
 | d (x:Str) | t (x y:Str)
abbrev DROP:Str:=A3 "drop"
abbrev u5:Str:=A3 "touch"
def evK:Ev->List Key
 | .d x=>[.inr DROP,.inr x]
 | .t x y=>[.inr u5,.inr x,.inr y]
def evP (e:Ev):PV:=tupP (evK e)
theorem CT (x:Str):evP (.d x)=.tup [.str DROP,.str x]:=rfl
theorem Y3 (x y:Str):evP (.t x y)=.tup [.str u5,.str x,.str y]:=rfl
def shP (es:List Ev):PV:=.tup (es.map evP)
def dayP (ds:List (List Ev)):PV:=.tup (ds.map shP)
theorem ev_al (a b:Ev):Al (evK a) (evK b):=by grind [Al,Ev,evK]
theorem ev_ne (e:Ev):evK e≠[]:=by cases e <;> simp [evK]
theorem evs_of (es:List Ev):∀ys:List PV,(∀y∈ys,y∈es.map evP)->∃es':List Ev,ys=es'.map evP/\∀e∈es',e∈es:=by
 intro xq
 induction xq with
 | nil =>
   intro _;exact⟨[],rfl,fun _ z=>nomatch z⟩
 | cons y ys ih =>
   intro h;obtain⟨e,he,rfl⟩:=K4.mp (h y B8);obtain⟨es',rfl,h2⟩:=ih fun z hz=>h z (B3 _ hz);exact⟨e::es',rfl,fun z hz=>(B6.mp hz).elim (fun e'=>e'▸he) (h2 z)⟩
theorem Rp (es:List Ev):Hc (es.map evP):=by
 refine .inr (.inr ⟨fun x hx=>?_,fun x hx y hy=>?_⟩)
 · obtain⟨e,_,rfl⟩:=K4.mp hx;exact⟨evK e,rfl,ev_ne e⟩
 · obtain⟨e,_,rfl⟩:=K4.mp hx;obtain⟨e',_,rfl⟩:=K4.mp hy;unfold evP tupP;rw [G_,G_];exact ev_al e e'
theorem Rq (h:Srt ys (es.map evP)):∃es':List Ev,ys=es'.map evP/\es'.Perm es:=by
 obtain⟨es',rfl,_⟩:=evs_of es ys fun y hy=>h.1.mem_iff.mp hy;refine⟨es',rfl,?_⟩;have:=h.1;clear h
 have inj:∀{a b:List Ev},(a.map evP).Perm (b.map evP)->a.Perm b:=by
   intro a b p;have h1:=p.map fun y=>(match y with | .tup [_,.str x]=>Ev.d x | .tup [_,.str x,.str y]=>Ev.t x y | _=>Ev.d (A3 ""));rw [R9,R9] at h1
   have e:((fun y=>(match y with | PV.tup [_,.str x]=>Ev.d x | .tup [_,.str x,.str y]=>Ev.t x y | _=>Ev.d (A3 "")))∘evP)=id:=by
     funext e
     cases e <;> rfl
   rw [e,List.map_id,List.map_id] at h1;exact h1
 exact inj this
def evB:Ev->List Str
 | .d x=>[x]
 | .t x y=>[x,y]
theorem Hl {es es':List Ev}(h:es'.Perm es):(es'.flatMap evB).Perm (es.flatMap evB):=h.flatMap_right evB
theorem Bx {zs:List Str}(nd:zs.Nodup){i j:Nat}(h1:zs[i]?=some z)(h2:zs[j]?=some z):i=j:=by
 obtain⟨l1,e1⟩:=D9.mp h1;obtain⟨l2,e2⟩:=D9.mp h2;rcases Nat.lt_trichotomy i j with h | h | h
 · exact absurd (e1.trans e2.symm) (Ax.mp nd i j l1 l2 h)
 · exact h
 · exact absurd (e2.trans e1.symm) (Ax.mp nd j i l2 l1 h)
def ixS (zs:List Str)(z:Str):Nat:=zs.findIdx fun y=>decide (y=z)
theorem V8 (h:z∈zs):zs[ixS zs z]?=some z/\∀i,i < ixS zs z->zs[i]?≠some z:=by
 unfold ixS;have hl:zs.findIdx (fun y=>decide (y=z)) < zs.length:=List.findIdx_lt_length_of_exists ⟨z,h,by simp⟩;refine⟨?_,fun i hi e=>?_⟩
 · rw [D7 hl];have:=List.findIdx_getElem (w:=hl);rw [of_decide_eq_true this]
 · have:=List.not_of_lt_findIdx hi;obtain⟨l1,e1⟩:=D9.mp e;rw [e1] at this;simp at this
theorem Q1 (h:z∈zs):ixS zs z < zs.length:=(D9.mp (V8 h).1).1
theorem m_ix (hP:zs.map PV.str=P)(h:z∈zs)(hl:zs.length<=1000000)(q:R (.int (ixS zs z))):t9 (.tup P) (.str z) R:=by
 subst hP;unfold t9;dsimp only;rw [Jy];exact⟨hl,ixS zs z,(V8 h).1,(V8 h).2,q⟩
end Pu
end
section
namespace Pu
open PySem PySem.Spec L2
inductive Mk where
 | d | o | t | u
 deriving DecidableEq
def mkS:Mk->Str
 | .d=>A3 "d"
 | .o=>A3 "o"
 | .t=>A3 "t"
 | .u=>A3 "u"
def mkP (m:Mk):PV:=.str (mkS m)
theorem mk_t (m:Mk):decide (mkS m=A3 "t")=decide (m=.t):=by cases m <;> decide +kernel
theorem mk_u (m:Mk):decide (mkS m=A3 "u")=decide (m=.u):=by cases m <;> decide +kernel
theorem mk_d (m:Mk):decide (mkS m=A3 "d")=decide (m=.d):=by cases m <;> decide +kernel
def run (r:Int):Nat->List Nat->List Mk->Option (List Nat)
 | _,st,[]=>some st
 | k,st,.t::m=>run r (k + 1) (k::st) m
 | k,st,.d::m=>run r (k + 1) st m
 | k,[],.o::m=>run r (k + 1) [] m
 | _,_::_,.o::_=>none
 | _,[],.u::_=>none
 | k,p::st,.u::m=>if(k:Int) - p - 1<=r then run r (k + 1) st m else none
theorem k9:∀(a:List Mk) (k:Nat) (st:List Nat) (b:List Mk),run r k st (a++b)=(run r k st a).bind fun st'=>run r (k + a.length) st' b
 | [],k,st,b=>rfl
 | .t :: a, k, st, b => by
   rw [h9];show run r (k + 1) (k::st) (a++b)=(run r (k + 1) (k::st) a).bind _;rw [k9 a,E8,show k + 1 + a.length=k + (a.length + 1) by omega]
 | .d :: a, k, st, b => by
   rw [h9];show run r (k + 1) st (a++b)=(run r (k + 1) st a).bind _;rw [k9 a,E8,show k + 1 + a.length=k + (a.length + 1) by omega]
 | .o :: a, k, [], b => by
   rw [h9];show run r (k + 1) [] (a++b)=(run r (k + 1) [] a).bind _;rw [k9 a,E8,show k + 1 + a.length=k + (a.length + 1) by omega]
 | .o::a,k,p::st,b=>rfl
 | .u::a,k,[],b=>rfl
 | .u :: a, k, p :: st, b => by
   rw [h9];show(if(k:Int) - p - 1<=r then run r (k + 1) st (a++b) else none)=(if(k:Int) - p - 1<=r then run r (k + 1) st a else none).bind _
   split
   · rw [k9 a,E8,show k + 1 + a.length=k + (a.length + 1) by omega]
   · rfl
def Cl (r:Int)(k:Nat)(m:List Mk):Prop:=∀st,run r k st m=some st
theorem Cl.app (h1:Cl r k a)(h2:Cl r (k + a.length) b):Cl r k (a++b):=fun st=>by rw [k9,h1 st];exact h2 st
theorem Cl.nil:Cl r k []:=fun _=>rfl
theorem Cl.d (h:Cl r (k + 1) m):Cl r k (.d::m):=fun st=>h st
theorem Cl.tu (h:Cl r (k + 1) m)(hl:(m.length:Int)<=r):Cl r k (.t::m++[.u]):=fun st=>by
 show run r (k + 1) (k::st) (m++[.u])=some st;rw [k9,h (k::st)];show(if((k + 1 + m.length:Nat):Int) - k - 1<=r then some st else none)=some st;rw [if_pos (by omega)]
def Seg (r:Int):List Nat->List Mk->Prop
 | [],m=>run r 0 [] m=some []
 | p::ps,m=>∃m1 m2,m=m1++.d::m2/\m1.length=p/\Cl r (p + 1) m2/\Seg r ps m1
theorem Seg.app:∀{ps:List Nat} {m b:List Mk},Seg r ps m->Cl r m.length b->Seg r ps (m++b):=by
 intro xq
 induction xq with
 | nil =>
   intro m b h hb;show run r 0 [] (m++b)=some [];rw [k9,show run r 0 [] m=some [] from h,F7];exact hb []
 | cons p ps ih =>
   intro m b h hb;obtain⟨m1,m2,rfl,e,h2,h3⟩:=h;refine⟨m1,m2++b,by simp,e,h2.app ?_,h3⟩;rw [E1,E8,e] at hb;rw [show p + 1 + m2.length=p + (m2.length + 1) by omega];exact hb
theorem Seg.wrd:∀{ps:List Nat} {m:List Mk},Seg r ps m->run r 0 [] m=some []
 | [],m,h=>h
 | p :: ps, m, h => by
   obtain⟨m1,m2,rfl,e,h2,h3⟩:=h;rw [k9,Seg.wrd h3,F7,e];exact h2 []
theorem Seg.len {r:Int}:∀{ps:List Nat} {m:List Mk},Seg r ps m->ps.length<=m.length:=by intro a;induction a <;> intros <;> grind [Mk,Seg]
theorem Seg.push (h:Seg r ps m):Seg r (m.length::ps) (m++[.d]):=⟨m,[],rfl,rfl,.nil,h⟩
theorem Seg.over (h:Seg r [] m):Seg r [] (m++[.o]):=by
 show run r 0 [] (m++[.o])=some [];rw [k9,show run r 0 [] m=some [] from h]
 rfl
theorem Seg.drop (h:Seg r ps m):Seg r ps (m++[.d]):=h.app (Cl.d .nil)
theorem Seg.popd (h:Seg r (p::ps) m):p < m.length/\m.set p .d=m/\Seg r ps m:=by
 obtain⟨m1,m2,rfl,rfl,h2,h3⟩:=h;refine⟨by simp,by simp,h3.app (Cl.d h2)⟩
theorem Seg.popt {r:Int}{p:Nat}{ps:List Nat}{m:List Mk}(h:Seg r (p::ps) m)(hr:(m.length:Int) - p - 1<=r):p < m.length/\Seg r ps (m.set p .t++[.u]):=by
 obtain⟨m1,m2,rfl,rfl,h2,h3⟩:=h;refine⟨by simp,?_⟩;have e:(m1++Mk.d::m2).set m1.length .t++[.u]=m1++(.t::m2++[.u]):=by simp
 rw [e];refine h3.app (Cl.tu h2 ?_)
 grind
inductive PE where
 | d (i:Nat) | t (i j:Nat)
def peB:PE->List Nat
 | .d i=>[i]
 | .t i j=>[i,j]
def shE:Nat->List Nat->List Mk->List PE
 | _,_,[]=>[]
 | k,st,.t::m=>shE (k + 1) (k::st) m
 | k,st,.d::m=>.d k::shE (k + 1) st m
 | k,st,.o::m=>shE (k + 1) st m
 | k,[],.u::m=>shE (k + 1) [] m
 | k,p::st,.u::m=>.t k p::shE (k + 1) st m
theorem By:∀(m:List Mk) (k:Nat) (st:List Nat),st.Nodup->(∀p∈st,p < k)->((shE k st m).flatMap peB).Nodup/\∀q∈(shE k st m).flatMap peB,q∈st\/(k<=q/\q < k + m.length)
 | [],k,st,_,_=>⟨by simp [shE],fun q hq=>by simp [shE] at hq⟩
 | .t :: m, k, st, nd, hs => by
   obtain⟨h1,h2⟩:=By m (k + 1) (k::st) (L7.mpr ⟨fun z=>absurd (hs k z) (Z2 k),nd⟩) (fun p hp=>(B6.mp hp).elim (fun e=>by omega) fun hp=>by have:=hs p hp;omega);refine⟨h1,fun q hq=>?_⟩;rw [E8];rcases h2 q hq with h | h
   · grind
   · omega
 | .d :: m, k, st, nd, hs => by
   obtain⟨h1,h2⟩:=By m (k + 1) st nd (fun p hp=>by have:=hs p hp;omega);show((PE.d k::shE (k + 1) st m).flatMap peB).Nodup/\∀q∈(PE.d k::shE (k + 1) st m).flatMap peB,_;simp only [X2,peB,h9,Z1];refine⟨L7.mpr ⟨fun z=>?_,h1⟩,fun q hq=>?_⟩
   · grind
   · grind
 | .o :: m, k, st, nd, hs => by
   obtain⟨h1,h2⟩:=By m (k + 1) st nd (fun p hp=>by have:=hs p hp;omega);refine⟨by unfold shE;exact h1,fun q hq=>?_⟩;unfold shE at hq;rw [E8];rcases h2 q hq with h | h
   · grind
   · grind
 | .u :: m, k, [], nd, hs => by
   obtain⟨h1,h2⟩:=By m (k + 1) [] nd (fun p hp=>by have:=hs p hp;omega);refine⟨by unfold shE;exact h1,fun q hq=>?_⟩;unfold shE at hq;rw [E8];rcases h2 q hq with h | h
   · grind
   · grind
 | .u :: m, k, p :: st, nd, hs => by
   obtain⟨np,nd'⟩:=L7.mp nd;have hp:=hs p B8;obtain⟨h1,h2⟩:=By m (k + 1) st nd' (fun q hq=>by have:=hs q (B3 _ hq);omega);show((PE.t k p::shE (k + 1) st m).flatMap peB).Nodup/\∀q∈(PE.t k p::shE (k + 1) st m).flatMap peB,_;simp only [X2,peB,h9,Z1];refine⟨L7.mpr ⟨fun z=>?_,L7.mpr ⟨fun z=>?_,h1⟩⟩,fun q hq=>?_⟩
   · grind
   · grind
   · grind
def nm (zs:List Str)(i:Nat):Str:=zs.getD i (A3 "")
def evOf (zs:List Str):PE->Ev
 | .d i=>.d (nm zs i)
 | .t i j=>.t (nm zs i) (nm zs j)
theorem evB_of (zs:List Str)(e:PE):evB (evOf zs e)=(peB e).map (nm zs):=by cases e <;> rfl
theorem Hm (zs:List Str)(es:List PE):(es.map (evOf zs)).flatMap evB=(es.flatMap peB).map (nm zs):=by induction es <;> grind [PE,evB,evOf,nm,peB]
theorem l3 {zs:List Str}{i:Nat}(h:i < zs.length):zs[i]?=some (nm zs i):=by grind [nm]
theorem KL (h:i < zs.length):nm zs i∈zs:=K2 (l3 h)
theorem nm_inj (nd:zs.Nodup)(hi:i < zs.length)(hj:j < zs.length)(h:nm zs i=nm zs j):i=j:=Bx nd (l3 hi) (by rw [h];exact l3 hj)
structure Fair (zs:List Str)(es:List Ev):Prop where
 nd:(es.flatMap evB).Nodup
 sub:∀b∈es.flatMap evB,b∈zs
theorem KN {α β:Type}(f:α->β):∀{l:List α},l.Nodup->(∀a∈l,∀b∈l,f a=f b->a=b)->(l.map f).Nodup
 | [],_,_=>by simp
 | a :: l, h, hf => by
   obtain⟨h1,h2⟩:=L7.mp h;rw [J9,L7];refine⟨fun z=>?_,KN f h2 fun x hx y hy=>hf x (B3 _ hx) y (B3 _ hy)⟩;obtain⟨b,hb,e⟩:=K4.mp z;exact h1 (hf b (B3 _ hb) a B8 e▸hb)
theorem Rr (nd:zs.Nodup)(hl:m.length=zs.length):Fair zs ((shE 0 [] m).map (evOf zs)):=by
 obtain⟨h1,h2⟩:=By m 0 [] (by simp) (fun _ z=>nomatch z)
 have h3:∀q∈(shE 0 [] m).flatMap peB,q < zs.length:=fun q hq=>by
   rcases h2 q hq with h | h
   · cases h
   · omega
 refine⟨?_,fun b hb=>?_⟩
 · rw [Hm];exact KN _ h1 fun a ha b hb e=>nm_inj nd (h3 a ha) (h3 b hb) e
 · rw [Hm] at hb;obtain⟨q,hq,rfl⟩:=K4.mp hb;exact KL (h3 q hq)
theorem Fair.perm (h:Fair zs es)(p:es'.Perm es):Fair zs es':=
 ⟨(Hl p).nodup_iff.mpr h.nd,fun b hb=>h.sub b ((Hl p).mem_iff.mp hb)⟩
def setE (st f:List Str):Ev->List Str
 | .d _=>f
 | .t x y=>(f.set (ixS st x) y).set (ixS st y) x
def exch (f:List Str)(i j:Nat):List Str:=(f.set i (nm f j)).set j (nm f i)
def exE (st f:List Str):Ev->List Str
 | .d _=>f
 | .t x y=>exch f (ixS st x) (ixS st y)
def aft (st:List Str)(es:List Ev):List Str:=es.foldl (setE st) st
def rbh (st:List Str)(es:List Ev):List Str:=es.foldl (exE st) st
theorem CU (hx:x∈zs)(hy:y∈zs)(h:ixS zs x=ixS zs y):x=y:=by
 have h1:=(V8 hx).1;rw [h,(V8 hy).1] at h1;exact(N0 h1).symm
theorem Hn:∀(es:List Ev) (f:List Str),(es.flatMap evB).Nodup->(∀b∈es.flatMap evB,b∈st/\f[ixS st b]?=some b)->es.foldl (setE st) f=es.foldl (exE st) f
 | [],f,_,_=>rfl
 | .d x :: es, f, nd, h => by
   simp only [X2,evB,h9,Z1] at nd h;exact Hn es f (L7.mp nd).2 fun b hb=>h b (B3 _ hb)
 | .t x y :: es, f, nd, h => by
   simp only [X2,evB,h9,Z1] at nd h;obtain⟨nx,nd1⟩:=L7.mp nd;obtain⟨ny,nd2⟩:=L7.mp nd1;obtain⟨hx1,hx2⟩:=h x B8;obtain⟨hy1,hy2⟩:=h y (B3 _ B8)
   have e:setE st f (.t x y)=exE st f (.t x y):=by
     show(f.set (ixS st x) y).set (ixS st y) x=exch f (ixS st x) (ixS st y);unfold exch nm;rw [Aw,Aw,hx2,hy2];rfl
   rw [Q6,Q6,e];refine Hn es _ nd2 fun b hb=>?_;obtain⟨hb1,hb2⟩:=h b (B3 _ (B3 _ hb));refine⟨hb1,?_⟩;rw [<- e];show((f.set (ixS st x) y).set (ixS st y) x)[ixS st b]?=some b;have bx:ixS st x≠ixS st b:=fun z=>nx (by rw [CU hx1 hb1 z];exact B3 _ hb);have by_:ixS st y≠ixS st b:=fun z=>ny (by rw [CU hy1 hb1 z];exact hb);rw [F9 by_,F9 bx];exact hb2
theorem CV (h:Fair st es):aft st es=rbh st es:=Hn es st h.nd fun b hb=>⟨h.sub b hb,(V8 (h.sub b hb)).1⟩
theorem KO (st f:List Str)(e:Ev):(setE st f e).length=f.length:=by cases e <;> simp [setE]
theorem Ao (st:List Str)(es:List Ev):(aft st es).length=st.length:=by
 unfold aft
 have:∀(es:List Ev) (f:List Str),(es.foldl (setE st) f).length=f.length:=by
   intro es
   induction es with
   | nil=>intro f;rfl
   | cons e es ih=>intro f;rw [Q6,ih,KO]
 exact this es st
theorem Rs (hi:i < f.length)(hj:j < f.length):(exch f i j).Perm f:=by
 unfold exch nm;rw [Aw,Aw,D7 hi,D7 hj];show((f.set i f[j]).set j f[i]).Perm f;exact List.set_set_perm hi hj
theorem Ho (h:∀b∈es.flatMap evB,b∈st):(rbh st es).Perm st:=by
 unfold rbh
 have:∀(es:List Ev) (f:List Str),(∀b∈es.flatMap evB,b∈st)->f.length=st.length->(es.foldl (exE st) f).Perm f:=by
   intro es
   induction es with
   | nil=>intro f _ _;exact List.Perm.refl _
   | cons e es ih =>
     intro f hb hl;rw [Q6]
     have p:(exE st f e).Perm f:=by
       cases e with
       | d x=>exact List.Perm.refl _
       | t x y=>exact Rs (by rw [hl];exact Q1 (hb x (by simp [evB]))) (by rw [hl];exact Q1 (hb y (by simp [evB])))
     exact(ih _ (fun b h=>hb b (by rw [X2];exact G4 _ h)) (by rw [p.length_eq,hl])).trans p
 exact this es st h rfl
theorem Y4 {α β:Type}{f:α->β}{l:List α}{i:Nat}{y:β}(h:(l.map f)[i]?=some y):∃x,l[i]?=some x/\y=f x:=by
 rw [F6] at h;cases e:l[i]? with
 | none=>rw [e] at h;cases h
 | some x=>rw [e] at h;exact⟨x,rfl,(N0 h).symm⟩
theorem Ap {α:Type}{l:List α}{i:Nat}{x:α}(h:l[i]?=some x):l.take (i + 1)=l.take i++[x]:=by
 rw [List.take_add_one,h];rfl
theorem CW (h:((C2 m).map fun(k:Nat)=>PV.int (j - 1 - k))[i]?=some x):i < m/\x=.int (j - 1 - i):=by
 rw [F6] at h;cases e:(C2 m)[i]? with
 | none=>rw [e] at h;cases h
 | some y =>
   rw [e] at h;obtain⟨h1,h2⟩:=D9.mp e;rw [Dt] at h2;subst h2;rw [w5] at h1;exact⟨h1,(N0 h).symm⟩
theorem EU:((C2 m).map fun(k:Nat)=>PV.int (j - 1 - k)).length=m:=by simp
theorem CY {α:Type}(xs:List α){a b:Nat}(h:b<=xs.length):cutP xs (some (a:Int)) (some (b:Int))=(xs.take b).drop a:=by
 unfold cutP;rw [HT.sIx_nat,HT.sIx_nat,AE h,List.drop_take];rcases BS a xs.length with h2 | h2
 · rw [AE h2]
 · rw [BQ h2,R7 (B4 _),R7 h2];simp
theorem Hq {α:Type}(xs:List α)(b:Nat):cutP xs none (some (b:Int))=xs.take b:=by
 unfold cutP;rw [HT.sIx_none,HT.sIx_nat,i3,BT];rcases BS b xs.length with h2 | h2
 · rw [AE h2]
 · rw [BQ h2,l7 (B4 _),l7 h2]
theorem EV {α:Type}(xs:List α)(a:Nat):cutP xs (some (a:Int)) none=xs.drop a:=by
 unfold cutP;rw [HT.sIx_nat,HT.sIx_none];rcases BS a xs.length with h2 | h2
 · rw [AE h2];exact l7 (by rw [U8];exact B4 _)
 · rw [BQ h2,R7 h2,R7 (B4 _)];simp
def hiN (s n k:Nat):Nat:=min (k * s + s) (n - 1)
def D5 (s n k:Nat)(row:List Str):List Str:=(row.take (hiN s n k + 1)).drop (k * s)
def putN (s n k:Nat)(row b:List Str):List Str:=row.take (k * s)++b++row.drop (hiN s n k + 1)
theorem Rt {s n k:Nat}{row:List Str}:∀z∈D5 s n k row,z∈row:=by grind [D5]
theorem EX {s n k:Nat}{row:List Str}(h:RowS row):RowS (D5 s n k row):=by grind [RowS,D5]
theorem u6 {s n k:Nat}{row:List Str}(hn:row.length=n)(h1:1<=n):(D5 s n k row).length=hiN s n k + 1 - k * s:=by grind [hiN,D5]
theorem Ru {s n k:Nat}{row b:List Str}(hn:row.length=n)(h1:1<=n)(hk:k * s<=hiN s n k)(hb:b.length=(D5 s n k row).length):(putN s n k row b).length=n:=by grind [hiN,putN,D5]
theorem Rv (hk:k * s<=hiN s n k + 1):row.take (k * s)++D5 s n k row++row.drop (hiN s n k + 1)=row:=by
 unfold D5;have e1:row.take (k * s)=(row.take (hiN s n k + 1)).take (k * s):=by rw [List.take_take,AE hk]
 rw [e1,List.take_append_drop,List.take_append_drop]
theorem KQ (hk:k * s<=hiN s n k + 1)(p:b.Perm (D5 s n k row)):(putN s n k row b).Perm row:=by
 have h1:(putN s n k row b).Perm (row.take (k * s)++D5 s n k row++row.drop (hiN s n k + 1)):=(p.append_left _).append_right _;rw [Rv hk] at h1;exact h1
theorem RowS.perm {a b:List Str}(h:RowS a)(p:b.Perm a):RowS b:=by grind [RowS]
theorem at2_0 {α:Type}{a b:α}:atI [a,b] 0=some a:=rfl
theorem at2_1 {α:Type}{a b:α}:atI [a,b] 1=some b:=rfl
theorem at3_0 {α:Type}{a b c:α}:atI [a,b,c] 0=some a:=rfl
theorem at3_1 {α:Type}{a b c:α}:atI [a,b,c] 1=some b:=rfl
theorem at3_2 {α:Type}{a b c:α}:atI [a,b,c] 2=some c:=rfl
theorem KR:decide (DROP=A3 "touch")=false:=by decide +kernel
theorem KU:decide (u5=A3 "drop")=false:=by decide +kernel
def isTo:Ev->Bool
 | .d _=>false
 | .t _ _=>true
theorem Rw (st f:List Str)(e:Ev):(exE st f e).length=f.length:=by cases e <;> simp [exE,exch]
theorem KW (st:List Str):∀(es:List Ev) (f:List Str),(es.foldl (exE st) f).length=f.length:=by
 intro xq
 induction xq with
 | nil =>
   intro f;exact rfl
 | cons e es ih =>
   intro f;rw [Q6,ih,Rw]
theorem Hr (st:List Str):∀(es:List Ev) (f:List Str),(es.filter isTo).foldl (exE st) f=es.foldl (exE st) f
 | [],f=>rfl
 | .d x::es,f=>Hr st es f
 | .t x y :: es, f => by
   rw [List.filter_cons,if_pos (show isTo (.t x y)=true from rfl),Q6,Q6];exact Hr st es _
end Pu
end
section
namespace Pu
open PySem PySem.Spec L2
inductive Dy (P:List Str->List Ev->Prop)(s n mx:Nat)(row:List Str):Nat->List (List Ev)->List (List Str)->List Str->Prop where
 | nil:Dy P s n mx row 0 [] [] row
 | cons {i:Nat} {ess:List (List Ev)} {sts:List (List Str)} {r:List Str} {es:List Ev} (h:Dy P s n mx row i ess sts r) (hi:i < mx) (hp:P (D5 s n (mx - 1 - i) r) es) :
     Dy P s n mx row (i + 1) (es::ess) (D5 s n (mx - 1 - i) r::sts) (putN s n (mx - 1 - i) r (aft (D5 s n (mx - 1 - i) r) es))
section
variable {P:List Str->List Ev->Prop}{s n mx:Nat}{row:List Str}
theorem Dy.len (h:Dy P s n mx row i ess sts r):ess.length=i/\sts.length=i:=by
 induction h with
 | nil=>exact⟨rfl,rfl⟩
 | cons _ _ _ ih=>exact⟨by rw [E8,ih.1],by rw [E8,ih.2]⟩
theorem Dy.down (h:Dy P s n mx row (i + 1) (es::ess) (st::sts) r) :
   ∃r',Dy P s n mx row i ess sts r'/\st=D5 s n (mx - 1 - i) r'/\r=putN s n (mx - 1 - i) r' (aft st es)/\P st es/\i < mx:=by
 cases h with
 | cons h hi hp=>exact⟨_,h,rfl,rfl,hp,hi⟩
theorem Dy.det (h:Dy P s n mx row i ess sts r)(h':Dy P s n mx row i ess sts r'):r=r':=by
 induction h generalizing r' with
 | nil=>cases h';rfl
 | cons h hi hp ih =>
   obtain⟨r2,h2,e2,e3,_,_⟩:=h'.down;rw [e3,ih h2]
theorem Dy.tail (h:Dy P s n mx row i ess sts r):∀j,j<=i->∃r',Dy P s n mx row j (ess.drop (i - j)) (sts.drop (i - j)) r':=by
 induction h with
 | nil=>intro j hj;exact⟨row,by rw [show j=0 by omega];exact .nil⟩
 | @cons i ess sts r es h hi hp ih =>
   intro j hj
   by_cases c:j=i + 1
   · subst c;rw [i7];exact⟨_,.cons h hi hp⟩
   · obtain⟨r',h'⟩:=ih j (by omega);refine⟨r',?_⟩;rw [show i + 1 - j=(i - j) + 1 by omega,List.drop_succ_cons,List.drop_succ_cons];exact h'
theorem Dy.at (h:Dy P s n mx row mx ess sts r)(hi:i < mx) :
   ∃ es st r', ess[mx - 1 - i]? = some es /\ sts[mx - 1 - i]? = some st /\ ess.drop (mx - (i + 1)) = es :: ess.drop (mx - i) /\ sts.drop (mx - (i + 1)) = st :: sts.drop (mx - i) /\
     Dy P s n mx row i (ess.drop (mx - i)) (sts.drop (mx - i)) r'/\st=D5 s n (mx - 1 - i) r'/\P st es/\Dy P s n mx row (i + 1) (ess.drop (mx - (i + 1))) (sts.drop (mx - (i + 1))) (putN s n (mx - 1 - i) r' (aft st es)):=by
 obtain⟨l1,l2⟩:=h.len;obtain⟨r2,h2⟩:=h.tail (i + 1) (by omega)
 have e1:ess.drop (mx - (i + 1))=ess[mx - 1 - i]::ess.drop (mx - i):=by
   rw [show mx - (i + 1)=mx - 1 - i by omega,W8 (by omega),show mx - 1 - i + 1=mx - i by omega]
 have e2:sts.drop (mx - (i + 1))=sts[mx - 1 - i]::sts.drop (mx - i):=by
   rw [show mx - (i + 1)=mx - 1 - i by omega,W8 (by omega),show mx - 1 - i + 1=mx - i by omega]
 have h3:=h2;rw [e1,e2] at h3;obtain⟨r',d,es,er,hp,_⟩:=h3.down;refine⟨_,_,r',D7 (by omega),D7 (by omega),e1,e2,d,es,hp,?_⟩;rw [<- er];exact h2
theorem CZ (h1:1<=s)(hn:1<=n)(hk:k < (n + s - 1) / s):k * s<=n - 1:=by
 have:(n + s - 1) / s * s<=n + s - 1:=Nat.div_mul_le_self _ _;have h2:(k + 1) * s<=(n + s - 1) / s * s:=Nat.mul_le_mul_right s hk;rw [Nat.add_mul,Nat.one_mul] at h2;omega
theorem C_ (h1:1<=s)(hn:1<=n):(n + s - 1) / s<=n:=by
 refine Nat.div_le_of_le_mul ?_;obtain⟨n,rfl⟩:∃k,n=k + 1:=⟨n - 1,by omega⟩;have:s * (n + 1)=s * n + s:=Nat.mul_succ s n;have:n<=s * n:=Nat.le_mul_of_pos_left n h1;omega
theorem EY (h:k * s<=n - 1):k * s<=hiN s n k:=by unfold hiN;omega
theorem Dy.rows (h1:1<=s)(hn:1<=n)(hmx:mx=(n + s - 1) / s)(hf:∀st es,P st es->Fair st es)(hr:RowS row)(hl:row.length=n)(h:Dy P s n mx row i ess sts r):RowS r/\r.length=n:=by
 induction h with
 | nil=>exact⟨hr,hl⟩
 | @cons i ess sts r es h hi hp ih =>
   have f:=hf _ _ hp;have kh:=EY (s:=s) (n:=n) (CZ h1 hn (show mx - 1 - i < (n + s - 1) / s by omega));refine⟨ih.1.perm (KQ (by omega) ?_),Ru ih.2 hn kh (Ao _ _)⟩;rw [CV f];exact Ho f.sub
theorem Dy.mem (h1:1<=s)(hn:1<=n)(hmx:mx=(n + s - 1) / s)(hf:∀st es,P st es->Fair st es)(hr:RowS row)(hl:row.length=n){i:Nat}{ess:List (List Ev)}{sts:List (List Str)}{r:List Str}(h:Dy P s n mx row i ess sts r) :
   (∀es∈ess,∃st,P st es/\RowS st/\st.length<=n)/\∀st∈sts,RowS st/\st.length<=n:=by
 induction h with
 | nil=>exact⟨(fun _ z=>nomatch z),(fun _ z=>nomatch z)⟩
 | @cons i ess sts r es h hi hp ih =>
   obtain⟨rS,rL⟩:=h.rows h1 hn hmx hf hr hl;have a:=EX (s:=s) (n:=n) (k:=mx - 1 - i) rS;have b:(D5 s n (mx - 1 - i) r).length<=n:=by rw [u6 rL hn];unfold hiN;omega
   refine⟨fun e he=>?_,fun st hst=>?_⟩
   · rcases B6.mp he with rfl | he
     · exact⟨_,hp,a,b⟩
     · exact ih.1 e he
   · rcases B6.mp hst with rfl | hst
     · exact⟨a,b⟩
     · exact ih.2 st hst
end
theorem Rx (h:k5 z):shw (.str z):=fun c hc=>by
 have:=(h.2.2 c hc).2;omega
theorem Ry (h:k5 z):cost (.str z)<=82:=by
 have:=h.2.1;have e:z.length=z.cps.toList.length:=y7 z;show 10 * z.length + 2<=82;omega
structure Show (d c:Nat)(x:PV):Prop where
 sh:shw x
 de:dep x<=d
 co:cost x<=c
theorem Show.tup (h:∀x∈xs,Show d c x)(hl:xs.length<=l):Show (d + 1) ((c + 2) * l + 3) (.tup xs):=by
 refine⟨OF _ fun x hx=>(h x hx).sh,?_,?_⟩
 · have:=OG d xs fun x hx=>(h x hx).de;show deps xs + 1<=d + 1;omega
 · have:=OH c xs fun x hx=>(h x hx).co;have h2:=Nat.mul_le_mul_left (c + 2) hl;show c6 xs + 3<=_;omega
theorem Show.le {d c d' c':Nat}{x:PV}(h:Show d c x)(hd:d<=d')(hc:c<=c'):Show d' c' x:=by grind [PV,Show]
theorem Rz (h:k5 z):Show 0 82 (.str z):=⟨Rx h,B4 _,Ry h⟩
theorem RA {zs:List Str}(h:∀z∈zs,k5 z)(hl:zs.length<=24):Show 1 2100 (rowP zs):=
 (Show.tup (d:=0) (c:=82) (l:=24) (xs:=zs.map PV.str) (fun x hx=>by obtain⟨z,hz,rfl⟩:=K4.mp hx;exact Rz (h z hz)) (by grind)).le (B4 _) (by decide)
end Pu
end
section
namespace SeT
open PySem PySem.SetTable L2
def lp (mask:Nat)(h:Int):Nat->Nat×Nat
 | 0=>(bits h % (mask + 1),bits h)
 | k + 1=>leap mask (lp mask h k).1 (lp mask h k).2
def rn (mask i:Nat):Nat:=runEnd mask i - i
def vs (mask:Nat)(h:Int)(k off:Nat):Nat:=(lp mask h k).1 + off
def Msk (mask:Nat):Prop:=mask=7\/mask=31\/mask=127
def Rise (xs:List Nat):Prop:=xs.Pairwise (· < ·)
end SeT
end
section
namespace SeT
open PySem PySem.SetTable L2
def Lx (k' o' k o:Nat):Prop:=k' < k\/(k'=k/\o' < o)
def Rch (mask:Nat)(O:Nat->Prop)(s:Nat)(h:Int):Prop:=∃k o,o<=rn mask (lp mask h k).1/\vs mask h k o=s/\∀k' o',o'<=rn mask (lp mask h k').1->Lx k' o' k o->O (vs mask h k' o')
structure TOk (t:SetTable)(hs:List Int):Prop where
 size:t.place.toList.length=hs.length
 dum:t.dummies=#[]
 mask:Msk t.mask
 rise:Rise t.place.toList
 lim:∀s∈t.place.toList,s<=t.mask
 room:hs.length < t.mask
 reach:∀(i:Nat) s h,t.place.toList[i]?=some s->hs[i]?=some h->Rch t.mask (·∈t.place.toList) s h
section
variable {t:SetTable}{hs:List Int}{h:Int}
def pb (mask:Nat)(h:Int)(k o:Nat):Probe:={ j:=vs mask h k o,more:=rn mask (lp mask h k).1 - o,i:=(lp mask h k).1,perturb:=(lp mask h k).2,dummy:=none }
def nx (mask:Nat)(h:Int)(k o:Nat):Nat×Nat:=if o < rn mask (lp mask h k).1 then(k,o + 1) else(k + 1,0)
end
end SeT
end
section
namespace SeT
open PySem PySem.SetTable L2
structure Own (mask:Nat)(ow:Array (Option Nat))(sl:List Nat):Prop where
 size:ow.size=mask + 1
 nd:sl.Nodup
 lim:∀s∈sl,s<=mask
 has:∀(k s:Nat),sl[k]?=some s->ow[s]?=some (some k)
 no:∀s,s<=mask->s∉sl->ow[s]?=some none
theorem Own.none {mask:Nat}(O:Own mask ow sl)(hs:s<=mask):(ow.getD s (some 0)).isNone=decide (s∉sl):=by
 rw [Array.getD_eq_getD_getElem?]
 by_cases c:s∈sl
 · obtain⟨k,hk⟩:=List.mem_iff_getElem?.mp c;rw [O.has k s hk,decide_eq_false (not_not_intro c)];rfl
 · rw [O.no s hs c,decide_eq_true c];rfl
def live (mask:Nat)(ow:Array (Option Nat)):List (Nat×Nat):=(C2 (mask + 1)).filterMap fun j=>(ow.getD j none).map (j,·)
end SeT
end
section
namespace SeT
open PySem PySem.Spec PyProof.Rows L2
section
variable (prog:C5)(w:World)
abbrev TK:HeapKind prog w (List Key):=l6 (F2 prog w)
def enS (x:List Key×Addr):Int×Value:=((TK prog w).hash x.1,.ref x.2)
structure SetK (h:Heap)(a:Addr)(o:Obj)(es:Array (Int×Value))(ep:Nat)(t:SetTable)(xs:List (List Key×Addr)):Prop where
 ho:h.get? a=some o
 ex:o.ExactSet
 hd:o.data=.set es ep t
 hes:es.toList=xs.map (enS prog w)
 hk:∀x∈xs,(TK prog w).is h x.1 x.2
 nd:(xs.map (·.1)).Nodup
 tb:TOk t (xs.map fun x=>(TK prog w).hash x.1)
 few:5 * xs.length < 3 * t.mask
 led:t.led=!(w.params.followText "set-order")
end
end SeT
end
section
namespace SeT
open PySem PySem.Spec PyProof.Rows L2
section
variable {prog:C5}{w:World}{A:Around}{E:Value->Shared->Prop}{s:Shared}{a:Addr}{o:Obj}{es:Array (Int×Value)}{ep:Nat}{t:SetTable}{xs:List (List Key×Addr)}
theorem TOk.pl (T:TOk t hs)(b:Bool):TOk { t with plain:=b } hs:=⟨T.size,T.dum,T.mask,T.rise,T.lim,T.room,T.reach⟩
end
end SeT
end
section
namespace SeT
open PySem PySem.Spec PyProof.Rows L2
def Holds (prog:C5)(w:World)(h:Heap)(S:Addr)(rs:List (List Key×Addr)):Prop:=
 ∃o es ep t xs,SetK prog w h S o es ep t xs/\(∀x∈xs,x∈rs)/\∀x∈rs,x.1∈xs.map (·.1)
end SeT
end
section
namespace SeT
open PySem PySem.Spec PyProof.Rows L2
section
variable {prog:C5}{w:World}{A:Around}{E:Value->Shared->Prop}{s:Shared}
def SetIt (h:Heap)(I a:Addr)(fst:Value)(i n ep:Nat):Prop:=∃o,h.get? I=some o/\o.cls=.type "set_iterator"/\o.data=.fields #[fst,.int i 0,.ref a,.int n 0,.int ep 0]
theorem SetIt.ty (x:SetIt s.heap I a fst i n ep):s.TypeIs (.ref I) "set_iterator":=by
 obtain⟨o,ho,hc,_⟩:=x;exact⟨o,ho,hc⟩
end
end SeT
end
section
namespace SeT
open PySem PySem.Spec PyProof.Rows L2
def dr (es:Array (Int×Value))(t:SetTable):Bool:=!t.plain && decide (es.size > 1)
end SeT
end
section
namespace SeT
open PySem PySem.W PySem.Spec PyProof.Rows L2
abbrev kks (ys:List (List Key×Addr)):List (List Key):=ys.map (·.1)
section
variable {X:Cx}
def SetO (X:Cx)(p:Addr)(rs:List (List Key×Addr)):HO:=.ext fun h=>∃h0 o es ep t xs,SetK X.prog X.w h0 p o es ep t xs/\h.get? p=some o/\(∀x∈xs,x∈rs)/\∀x∈rs,x.1∈kks xs
end
end SeT
end
section
namespace SeT
open PySem PySem.W PySem.Spec PyProof.Rows L2
section
variable {X:Cx}
def tMo (t:TE):TE:=fun σ H Q=>∃Q',t σ H Q'/\∀v H',Q' v H'->Q v H'
theorem pe_mo (h:PE X e t):PE X e (tMo t):=by
 intro pins s σ H Q I ⟨Q',h1,h2⟩;exact E7 (h pins s σ H Q' I h1) (fun u s' ⟨v,H',I',r,q⟩=>⟨v,H',I',r,h2 _ _ q⟩) fun _ _ e=>e
end
end SeT
end
section
namespace L2
open PySem PySem.Spec PyProof.Rows
section
variable {X:Cx}
theorem RB (hc:X.calm=true):M3 X (.type "set") (fun vs H Q=>∃(a:Addr) (ys:List Str),vs=[.ref a]/\SqL X.K H a (ys.map V.str)/\ys.length<=1000/\∀p,H p=none->Q (.ref p) (upd H p (SetX X p (fun q=>(met (p9 ys) ys.length).any (fun y=>decide (y=q))) (met (p9 ys) ys.length).length))):=by
 intro pins s σ H vs us Q I rv h;obtain⟨a,ys,rfl,hq,hl,k⟩:=h;obtain⟨u,rfl,ru⟩:=rv.one;obtain rfl:u=.ref a:=ru;obtain⟨its,r,ht,_⟩:=I.list hq;have sz:its.toArray.size=ys.length:=by have:=r.length;rw [B2] at this;simpa using this.symm
 refine OT (val:=p9 ys) (I.ok.hd hc) (.inl ht.isList) (fun i v e=>?_) (by rw [sz];unfold scanBound;omega) fun h' tk so kp=>?_
 · obtain⟨t,rfl⟩:=OU r (by simpa using e);exact⟨Iv _ _ _ _,rfl⟩
 · rw [sz] at so
   have I1:Inv X pins σ (upd H s.heap.objs.size (SetX X s.heap.objs.size (fun q=>(met (p9 ys) ys.length).any (fun y=>decide (y=q))) (met (p9 ys) ys.length).length)) { s with heap:=h',toks:=tk }:=
     I.laid (fun b o e=>kp b o (C0 e) e) (B4 _) ⟨so,by obtain⟨o,_,_,_,e,_⟩:=so;exact⟨o,e⟩,fun h1 h2 x k2=>by
       obtain⟨o,es,ep,t,e,more⟩:=x
       exact⟨o,es,ep,t,k2 o e,more⟩⟩
   exact⟨.ref s.heap.objs.size,_,I1,rfl,k _ (I.hok.fresh (B4 _))⟩
def RC (K:A4)(t:TE):TE:=fun σ H Q=>∃Q',t σ H Q'/\∀x H1,Q' x H1->∃(a:Addr) (ys:List Str),x=.ref a/\SqL K H1 a (ys.map V.str)/\ys.length<=1000/\∀H2,Same H1 H2->Q (.int (met (p9 ys) ys.length).length) H2
theorem RD {e:Expr}{t:TE}{p1 p2 pos pos2:Pos}(hc:X.calm=true)(g1:Gl X "len")(m1:X.mg "len"=none)(g2:Gl X "set")(m2:X.mg "set"=none)(he:PE X e t)(hs:D6 [e] X.env=(false,eval e X.env)::D6 [] X.env) :
   PE X (.Call (.Name "len" p1) [.Call (.Name "set" p2) [e] [] pos2] [] pos) (RC X.K t):=by
 have i1:=Cf (p:=p2) (pos:=pos2) (RB hc) g2 m2 bt_set (E9 (SeT.pe_mo he) G7 hs) (by decide) (by decide) hs rfl;have i2:=y0 (p:=p1) (pos:=pos) OV g1 m1 D_ (E9 i1 G7 rfl) (by decide) (by decide) rfl rfl;intro pins s σ H Q I ⟨Q',h1,h2⟩;refine i2 pins s σ H Q I ⟨Q',h1,fun x H1 hx=>?_⟩;obtain⟨a,ys,rfl,hq,hl,k⟩:=h2 x H1 hx;exact⟨a,ys,rfl,hq,hl,fun p hn=>⟨p,_,_,rfl,C4,k _ ((Same.refl _).lay hn)⟩⟩
end
end L2
namespace Pu
open PySem PySem.Spec L2
section
variable {T:PotK}{ι:Type}{K:A4}{F:ι->Cx}{pos:Pos}{e:Expr}{pe:pE}
def Da:w1:=fun x R=>match x with | .lst xs=>(match T4 xs with | some ys=>ys.length<=1000/\R (.int (met (p9 ys) ys.length).length) | none=>False) | _=>False
theorem RE {p1 p2 pos2:Pos}(hc:∀z,(F z).calm=true)(g1:∀z,Gl (F z) "len")(m1:∀z,(F z).mg "len"=none)(g2:∀z,Gl (F z) "set")(m2:∀z,(F z).mg "set"=none)(he:QE T K F e pe)(hs:E5 e=true:=by rfl)(hK:∀z,(F z).K=K:=by intro _;rfl) :
   QE T K F (.Call (.Name "len" p1) [.Call (.Name "set" p2) [e] [] pos2] [] pos) (qUn Da pe):=by
 obtain⟨t,h1,h2⟩:=he;refine⟨_,fun z=>hK z▸RD (hc z) (g1 z) (m1 z) (g2 z) (m2 z) (h1 z) (C8 hs),fun C G σ H env n R Q hK hT S hp k=>?_⟩;refine⟨_,h2 C G σ H env n _ (fun v H'=>∃x env' n',Da x (fun r=>R r env' n')/\SR C G σ H' env' n'/\Rep K G H' x v/\Fr G H H') hK hT S hp (fun x env' n' v H' r S' rv f=>⟨x,env',n',r,S',rv,f⟩),fun v H1 hx=>?_⟩;obtain⟨x,env1,n1,r,S1,rv,f1⟩:=hx;unfold Da at r
 split at r
 · rename_i xs
   split at r
   · rename_i ys ey;obtain⟨a,vs,rfl,t,rs⟩:=rv;exact⟨a,ys,rfl,Eu ey rs▸t.sq,r.1,fun H2 s2=>k _ _ _ _ _ r.2 (S1.same s2) rfl (f1.trans (Fr.of s2))⟩
   · exact r.elim
 · exact r.elim
end
end Pu
end
section
namespace L2
open PySem PySem.Spec PyProof.Rows
section
variable {X:Cx}{a b:Expr}{rest:List Expr}{ta tb:TE}{pos:Pos}
theorem pe_orT (ha:PE X a ta)(hb:PE X (.BoolOp .Or (b::rest) pos) tb):PE X (.BoolOp .Or (a::b::rest) pos) (fun σ H Q=>ta σ H fun x H1=>∃k,TruV X.K x H1 k/\if k=true then Q x H1 else tb σ H1 Q):=by
 intro pins s σ H Q I h;refine BoolOp_or (thn (ha pins s σ H _ I h) fun v s1 ⟨x,H1,I1,r1,q1⟩=>?_);refine thn (tru_ok pins s1 σ H1 x v (fun k H=>if k=true then Q x H else tb σ H Q) I1 r1 q1) fun c s2 ⟨H2,I2,q2⟩=>?_;cases c with
 | false=>exact hb pins s2 σ H2 Q I2 q2
 | true=>exact⟨x,H2,I2,r1,q2⟩
end
end L2
namespace Pu
open PySem PySem.Spec L2
section
variable {T:PotK}{ι:Type}{K:A4}{F:ι->Cx}{a b:Expr}{rest:List Expr}{pa pb:pE}{pos:Pos}
def qOrT (pa pb:pE):pE:=fun env n R=>pa env n fun x env1 n1=>match GC x with | some b=>if b=true then R x env1 n1 else pb env1 n1 R | none=>False
theorem qe_orT (ha:QE T K F a pa)(hb:QE T K F (.BoolOp .Or (b::rest) pos) pb)(hK:∀z,(F z).K=K:=by intro _;rfl):QE T K F (.BoolOp .Or (a::b::rest) pos) (qOrT pa pb):=by
 obtain⟨t,a1,a2⟩:=ha;obtain⟨u,b1,b2⟩:=hb;refine⟨_,fun z=>hK z▸pe_orT (a1 z) (b1 z),fun C G σ H env n R Q hK hT S hp k=>?_⟩;refine a2 C G σ H env n _ _ hK hT S hp fun x env1 n1 v H1 q1 S1 r1 f1=>?_
 split at q1
 · rename_i c ec;refine⟨c,tru_of ec (.inl r1),?_⟩;cases c with
   | true =>
     rw [if_pos rfl] at q1 ⊢;exact k _ _ _ _ _ q1 S1 r1 f1
   | false =>
     rw [if_neg N5] at q1 ⊢;exact b2 C G σ H1 env1 n1 _ _ hK hT S1 q1 fun y env2 n2 w H2 q2 S2 r2 f2=>k _ _ _ _ _ q2 S2 r2 (f1.trans f2)
 · exact q1.elim
end
end Pu
end
section
namespace Pu
open PySem PySem.Spec L2
theorem Db {r:Int}:∀(m:List Mk) (k:Nat) (st:List Nat),st.Pairwise (fun a b=>b < a)->(∀p∈st,p < k)->run r k st m=some []->
   (∀i j,PE.t i j∈shE k st m->j < i/\k<=i/\(j∈st\/k<=j)/\(i:Int) - j - 1<=r/\i < k + m.length/\∀q,j < q->q < i->q∈(shE k st m).flatMap peB\/(q < k/\q∉st))/\
   ∀i j i' j',PE.t i j∈shE k st m->PE.t i' j'∈shE k st m->(i=i'/\j=j')\/i < j'\/i' < j\/(j < j'/\i' < i)\/(j' < j/\i < i')
 | [],k,st,_,_,_=>⟨fun i j h=>by simp [shE] at h,fun i j i' j' h=>by simp [shE] at h⟩
 | .t :: m, k, st, pw, hs, hr => by
   obtain⟨h1,h2⟩:=Db m (k + 1) (k::st) (List.pairwise_cons.mpr ⟨hs,pw⟩) (fun p hp=>(B6.mp hp).elim (fun e=>by omega) fun hp=>by have:=hs p hp;omega) hr;refine⟨fun i j h=>?_,h2⟩;obtain⟨a,b,c,d,l,e⟩:=h1 i j h;rw [E8];refine⟨a,by omega,?_,d,by omega,fun q q1 q2=>?_⟩
   · rcases c with c | c
     · rcases B6.mp c with rfl | c
       · exact .inr (B4 _)
       · exact .inl c
     · exact .inr (by omega)
   · rcases e q q1 q2 with z | ⟨z1,z2⟩
     · exact .inl z
     · refine .inr ⟨?_,fun z=>z2 (B3 _ z)⟩;have:q≠k:=fun z=>z2 (by rw [z];exact B8);omega
 | .d :: m, k, st, pw, hs, hr => by
   obtain⟨h1,h2⟩:=Db m (k + 1) st pw (fun p hp=>by have:=hs p hp;omega) hr;have un:shE k st (.d::m)=PE.d k::shE (k + 1) st m:=rfl;rw [un]
   have tl:∀{i j},PE.t i j∈PE.d k::shE (k + 1) st m->PE.t i j∈shE (k + 1) st m:=fun h=>by
     rcases B6.mp h with z | z
     · cases z
     · exact z
   refine⟨fun i j h=>?_,fun i j i' j' h h'=>h2 i j i' j' (tl h) (tl h')⟩;obtain⟨a,b,c,d,l,e⟩:=h1 i j (tl h);rw [E8,X2];refine⟨a,by omega,c.imp id (fun z=>by omega),d,by omega,fun q q1 q2=>?_⟩;rcases e q q1 q2 with z | ⟨z1,z2⟩
   · exact .inl (G4 _ z)
   · by_cases c:q=k
     · exact .inl (U7 _ (by rw [c];simp [peB]))
     · exact .inr ⟨by omega,z2⟩
 | .o::m,k,p::st,pw,hs,hr=>by cases hr
 | .o :: m, k, [], pw, hs, hr => by
   obtain⟨h1,h2⟩:=Db m (k + 1) [] pw (fun p hp=>nomatch hp) hr;have un:shE k [] (.o::m)=shE (k + 1) [] m:=by simp [shE]
   rw [un];refine⟨fun i j h=>?_,h2⟩;obtain⟨a,b,c,d,l,e⟩:=h1 i j h;have cj:k + 1<=j:=c.elim (fun z=>nomatch z) id;rw [E8];refine⟨a,by omega,.inr (by omega),d,by omega,fun q q1 q2=>?_⟩;rcases e q q1 q2 with z | ⟨z1,z2⟩
   · exact .inl z
   · omega
 | .u::m,k,[],pw,hs,hr=>by cases hr
 | .u :: m, k, p :: st, pw, hs, hr => by
   have hr':(if(k:Int) - p - 1<=r then run r (k + 1) st m else none)=some []:=hr
   split at hr'
   case isFalse=>cases hr'
   case isTrue hpr=>
   obtain⟨pw1,pw2⟩:=List.pairwise_cons.mp pw;have hp:=hs p B8;obtain⟨h1,h2⟩:=Db m (k + 1) st pw2 (fun q hq=>by have:=hs q (B3 _ hq);omega) hr';have un:shE k (p::st) (.u::m)=PE.t k p::shE (k + 1) st m:=rfl;rw [un]
   have tl:∀{i j},PE.t i j∈PE.t k p::shE (k + 1) st m->(i=k/\j=p)\/PE.t i j∈shE (k + 1) st m:=fun h=>by
     rcases B6.mp h with z | z
     · cases z;exact .inl ⟨rfl,rfl⟩
     · exact .inr z
   refine⟨fun i j h=>?_,fun i j i' j' h h'=>?_⟩
   · rw [E8,X2];rcases tl h with⟨rfl,rfl⟩ | h
     · refine⟨hp,B4 _,.inl B8,hpr,by omega,fun q q1 q2=>.inr ⟨q2,fun z=>?_⟩⟩;rcases B6.mp z with z | z
       · omega
       · have:=pw1 q z;omega
     · obtain⟨a,b,c,d,l,e⟩:=h1 i j h;refine⟨a,by omega,c.imp (fun z=>B3 _ z) (fun z=>by omega),d,by omega,fun q q1 q2=>?_⟩;rcases e q q1 q2 with z | ⟨z1,z2⟩
       · exact .inl (G4 _ z)
       · by_cases c1:q=k
         · exact .inl (U7 _ (by rw [c1];simp [peB]))
         · by_cases c2:q=p
           · exact .inl (U7 _ (by rw [c2];simp [peB]))
           · refine .inr ⟨by omega,fun z=>?_⟩;rcases B6.mp z with z | z
             · exact c2 z
             · exact z2 z
   · have t1:=tl h;have t2:=tl h';clear h h';rcases t1 with⟨rfl,rfl⟩ | h
     · rcases t2 with⟨rfl,rfl⟩ | h'
       · exact .inl ⟨rfl,rfl⟩
       · obtain⟨a,b,c,_⟩:=h1 i' j' h';rcases c with c | c
         · have:=pw1 j' c;exact .inr (.inr (.inr (.inr ⟨by omega,by omega⟩)))
         · exact .inr (.inl (by omega))
     · rcases t2 with⟨rfl,rfl⟩ | h'
       · obtain⟨a,b,c,_⟩:=h1 i j h;rcases c with c | c
         · have:=pw1 j c;exact .inr (.inr (.inr (.inl ⟨by omega,by omega⟩)))
         · exact .inr (.inr (.inl (by omega)))
       · exact h2 i j i' j' h h'
def btwU (st:List Str)(x y:Str):List Str:=(st.take (max (ixS st x) (ixS st y))).drop (min (ixS st x) (ixS st y) + 1)
theorem Hs {zs:List Str}(nd:zs.Nodup){i:Nat}(h:i < zs.length):ixS zs (nm zs i)=i:=Bx nd (V8 (KL h)).1 (l3 h)
theorem RF {st:List Str}{x y:Str}(hx:x∈st)(hy:y∈st)(h:ixS st y < ixS st x):(btwU st x y).length=ixS st x - ixS st y - 1:=by
 have:=Q1 hx;unfold btwU
 grind
theorem Ht {st:List Str}(nd:st.Nodup){x y z:Str}(hx:x∈st)(hy:y∈st):z∈btwU st x y↔z∈st/\min (ixS st x) (ixS st y) < ixS st z/\ixS st z < max (ixS st x) (ixS st y):=by
 unfold btwU;constructor
 · intro h;obtain⟨q,hq,e⟩:=Ay h;rw [U8,Q4] at hq;rw [List.getElem_drop,List.getElem_take] at e;have hm:z∈st:=by rw [<- e];exact l8 _
   have ez:st[min (ixS st x) (ixS st y) + 1 + q]?=some z:=by rw [D7 (by omega),e]
   have:=Bx nd (V8 hm).1 ez;exact⟨hm,by omega,by omega⟩
 · rintro⟨hm,h1,h2⟩;have hl:=Q1 hm;have e:=(V8 hm).1;refine K2 (i:=ixS st z - (min (ixS st x) (ixS st y) + 1)) ?_;rw [List.getElem?_drop,show min (ixS st x) (ixS st y) + 1 + (ixS st z - (min (ixS st x) (ixS st y) + 1))=ixS st z by omega,Du,if_pos h2];exact e
structure U1 (r:Int)(st:List Str)(es:List Ev):Prop where
 fair:Fair st es
 ahead:∀x y,Ev.t x y∈es->ixS st y < ixS st x
 near:∀x y,Ev.t x y∈es->((btwU st x y).length:Int)<=r
 full:∀x y,Ev.t x y∈es->∀z∈btwU st x y,z∈es.flatMap evB
 plain:∀x y x' y',Ev.t x y∈es->Ev.t x' y'∈es->(x'∈btwU st x y↔y'∈btwU st x y)
theorem Fair.tx {st:List Str}{es:List Ev}(h:Fair st es){x y:Str}(he:Ev.t x y∈es):x∈st/\y∈st:=
 ⟨h.sub x (Q5.mpr ⟨_,he,by simp [evB]⟩),h.sub y (Q5.mpr ⟨_,he,by simp [evB]⟩)⟩
theorem U1.perm {r:Int}{st:List Str}{es es':List Ev}(h:U1 r st es)(p:es'.Perm es):U1 r st es':=
 ⟨h.fair.perm p,fun x y hx=>h.ahead x y (p.mem_iff.mp hx),fun x y hx=>h.near x y (p.mem_iff.mp hx),fun x y hx z hz=>(Hl p).mem_iff.mpr (h.full x y (p.mem_iff.mp hx) z hz),fun x y x' y' hx hx'=>h.plain x y x' y' (p.mem_iff.mp hx) (p.mem_iff.mp hx')⟩
theorem RG {r:Int}{zs:List Str}(nd:zs.Nodup){m:List Mk}(hl:m.length=zs.length)(hw:run r 0 [] m=some []):U1 r zs ((shE 0 [] m).map (evOf zs)):=by
 have fr:=Rr nd hl;obtain⟨h1,h2⟩:=Db m 0 [] List.Pairwise.nil (fun _ z=>nomatch z) hw
 have ev:∀x y,Ev.t x y∈(shE 0 [] m).map (evOf zs)->∃i j,PE.t i j∈shE 0 [] m/\x=nm zs i/\y=nm zs j/\i < zs.length/\j < i/\ixS zs x=i/\ixS zs y=j:=fun x y h=>by
   obtain⟨e,he,q⟩:=K4.mp h;cases e with
   | d i=>cases q
   | t i j =>
     cases q;obtain⟨a,b,c,d,l,e⟩:=h1 i j he;exact⟨i,j,he,rfl,rfl,by omega,a,Hs nd (by omega),Hs nd (by omega)⟩
 refine⟨fr,fun x y h=>?_,fun x y h=>?_,fun x y h z hz=>?_,fun x y x' y' h h'=>?_⟩
 · grind
 · obtain⟨hx,hy⟩:=fr.tx h;obtain⟨i,j,he,_,_,li,lj,e1,e2⟩:=ev x y h;rw [RF hx hy (by omega),e1,e2];have:=(h1 i j he).2.2.2.1;omega
 · obtain⟨hx,hy⟩:=fr.tx h;obtain⟨i,j,he,_,_,li,lj,e1,e2⟩:=ev x y h;obtain⟨zm,z1,z2⟩:=(Ht nd hx hy).mp hz;rw [e1,e2] at z1 z2;have hq:=(h1 i j he).2.2.2.2.2 (ixS zs z) (by omega) (by omega);rcases hq with hq | ⟨hq,_⟩
   · rw [Hm];refine K4.mpr ⟨_,hq,?_⟩;have:=l3 (zs:=zs) (Q1 zm);rw [(V8 zm).1] at this;exact(N0 this).symm
   · omega
 · obtain⟨hx,hy⟩:=fr.tx h;obtain⟨hx',hy'⟩:=fr.tx h';obtain⟨i,j,he,_,_,li,lj,e1,e2⟩:=ev x y h;obtain⟨i',j',he',_,_,li',lj',e1',e2'⟩:=ev x' y' h';rw [Ht nd hx hy,Ht nd hx hy,e1,e2,e1',e2'];have:=h2 i j i' j' he he';constructor
   · grind
   · grind
end Pu
end
section
namespace Pu
open PySem PySem.Spec L2
def Hu (pd pk:pE):pE:=fun env n R=>pd env n fun d env1 n1=>(∃ks xs,d=.dct ks xs)/\pk env1 n1 fun k env2 n2=>match d,keyV k with | .dct ks xs,some key=>R ((getP ks xs key).getD .non) env2 n2 | _,_=>False
section
variable {T:PotK}{ι:Type}{K:A4}{F:ι->Cx}{e c:Expr}{pe pc:pE}{pos:Pos}
theorem RH {k0:Nat}{ap:Pos}(hr:∀z,Room k0 (F z).A)(he:QE T K F e pe)(hc:QE T K F c pc)(hm:∀z,M1 (F z) e "get" ap c pos:=by intro _;exact⟨rfl,rfl,rfl,rfl⟩):QE T K F (.Call (.Attribute e "get" ap) [c] [] pos) (Hu pe pc):=by
 obtain⟨t,a1,a2⟩:=he;obtain⟨u,b1,b2⟩:=hc;refine⟨JJ t u,fun z=>Op (X7 (hr z)) (a1 z) (b1 z) (hm z),fun C G σ H env n R Q hK hT S hp k=>?_⟩;refine a2 C G σ H env n _ _ hK hT S hp fun x env1 n1 v H1 q1 S1 r1 f1=>?_;obtain⟨⟨ks,xs,rfl⟩,q1⟩:=q1;obtain⟨a,kvs,rfl,hM,ha,ek,rx⟩:=r1;refine⟨a,rfl,.inl ⟨kvs,.inl ha⟩,?_⟩;refine b2 C G σ H1 env1 n1 _ _ hK hT S1 q1 fun y env2 n2 v2 H2 q2 S2 r2 f2=>?_
 split at q2
 · rename_i ks' xs' key e1 e2;cases e1;have ha3:H2 a=some (.dK kvs):=f2 a _ hM ha;have rx3:Reps K G H2 xs (kvs.map (·.2)):=rx.fr f2;rw [Bs r2 e2];refine⟨valV kvs key,DGet.k ha3,?_⟩;rw [<- ek] at q2;rcases EK key kvs xs rx3 with⟨g1,g2⟩ | ⟨x,v,g1,g2,g3⟩
   · rw [g1] at q2;rw [g2];exact k _ _ _ _ _ q2 S2 rfl (f1.trans f2)
   · rw [g1] at q2;rw [g2];exact k _ _ _ _ _ q2 S2 g3 (f1.trans f2)
 · exact q2.elim
end
end Pu
end
section
namespace Pu
open PySem PySem.Spec L2
def qIxD (pd pk:pE):pE:=fun env n R=>pd env n fun d env1 n1=>pk env1 n1 fun k env2 n2=>match d,keyV k with | .dct ks xs,some key=>(match getP ks xs key with | some x=>R x env2 n2 | none=>False) | _,_=>False
section
variable {T:PotK}{ι:Type}{K:A4}{F:ι->Cx}{e c:Expr}{pe pc:pE}{pos:Pos}
theorem Bz {k0:Nat}(hr:∀z,Room k0 (F z).A)(he:QE T K F e pe)(hc:QE T K F c pc)(hs:NoSl c:=by exact fun _ _=>rfl):QE T K F (.Subscript e c pos) (qIxD pe pc):=by
 obtain⟨t,a1,a2⟩:=he;obtain⟨u,b1,b2⟩:=hc;refine⟨GJ t u,fun z=>P9 (X7 (hr z)) (a1 z) (b1 z) hs,fun C G σ H env n R Q hK hT S hp k=>?_⟩;refine a2 C G σ H env n _ _ hK hT S hp fun x env1 n1 v H1 q1 S1 r1 f1=>?_;refine b2 C G σ H1 env1 n1 _ _ hK hT S1 q1 fun y env2 n2 v2 H2 q2 S2 r2 f2=>?_
 split at q2
 · rename_i ks xs key e2;obtain⟨a,kvs,rfl,hM,ha,ek,rx⟩:=r1;have ha2:H2 a=some (.dK kvs):=f2 a _ hM ha;have rx2:Reps K G H2 xs (kvs.map (·.2)):=rx.fr f2;rw [Bs r2 e2];rw [<- ek] at q2;rcases EK key kvs xs rx2 with⟨g1,g2⟩ | ⟨x,v,g1,g2,g3⟩
   · rw [g1] at q2;exact q2.elim
   · rw [g1] at q2;have dg:DGet H2 a (kV key) (valV kvs key):=DGet.k ha2;rw [g2] at dg;exact⟨a,v,rfl,dg,k _ _ _ _ _ q2 S2 g3 (f1.trans f2)⟩
 · exact q2.elim
end
end Pu
end
section
namespace Pu
open PySem PySem.Spec L2
def Ct.plus (C:Ct)(as:List Addr)(H:Hp):Ct:={ C with M0:=as++C.M0,H0:=fun b=>if b∈as then H b else C.H0 b }
section
variable {C:Ct}{G:Gh}{σ:St}{H H1:Hp}{env:Env}{n:Nat}{as:List Addr}
theorem Hv {b:Addr}(h:b∈as):(C.plus as H).H0 b=H b:=if_pos h
theorem Aq {b:Addr}(h:b∉as):(C.plus as H).H0 b=C.H0 b:=if_neg h
theorem RI (h:∀b∈as,H b=H1 b):C.plus as H=C.plus as H1:=by
 unfold Ct.plus
 congr 1
 funext b
 by_cases c:b∈as
 · rw [if_pos c,if_pos c,h b c]
 · rw [if_neg c,if_neg c]
theorem SR.plus_put (S:SR (C.plus as H1) G σ H env n){b:Addr}{o:HO}(hb:b∈as)(mo:MutO o)(hp:b∉G.pots):SR (C.plus as (upd H b o)) G σ (upd H b o) env n/\Fr G H (upd H b o):=by
 have bM:b∈G.M:=S.sup b (U7 _ hb);have f:Fr G H (upd H b o):=fun c u hc e=>by rw [A7 (fun z=>hc (by rw [z];exact bM))];exact e
 refine⟨{ frame:=fun c u hc e=>?_,sub:=fun a ha=>?_,sup:=S.sup,pots:=fun p hp'=>⟨(S.pots p hp').1,C.T.keep (S.pots p hp').2 (A7 fun z=>hp (by rw [<- z];exact hp')) f⟩,pre:=S.pre,mu:=fun a ha=>?_,slots:=fun i s e=>?_,inj:=S.inj,p0:=S.p0,len:=S.len,newp:=S.newp },f⟩
 · by_cases h:c∈as
   · rw [Hv h] at e;exact e
   · rw [Aq h] at e;rw [A7 (fun z=>h (by rw [z];exact hb))];exact S.frame c u hc (by rw [Aq h];exact e)
 · by_cases h:a∈as
   · exact .inl (U7 _ h)
   · rcases S.sub a ha with z | z
     · exact .inl z
     · rw [Aq h] at z ⊢;exact .inr z
 · by_cases h:a=b
   · subst h;exact⟨o,C4,mo⟩
   · rw [A7 h];exact S.mu a ha
 · have q:=S.slots i s e;cases s with
   | v x =>
     obtain⟨v,e1,r⟩:=q;exact⟨v,e1,r.fr f⟩
   | ow k xs =>
     obtain⟨c,us,e1,h1,h2,h3,h4,r⟩:=q;exact⟨c,us,e1,h1,h2,h3,by rw [A7 (fun z=>h2 (U7 _ (by rw [z];exact hb)))];exact h4,r.fr f⟩
end
theorem nodup_ix {α:Type}{l:List α}(nd:l.Nodup){k m:Nat}(h1:k < l.length)(h2:m < l.length)(e:l[k]=l[m]):k=m:=by
 have pw:=Ax.mp nd;rcases Nat.lt_trichotomy k m with c | c | c
 · exact absurd e (pw k m h1 h2 c)
 · exact c
 · exact absurd e.symm (pw m k h2 h1 c)
structure DJ (C:Ct)(i:Nat)(a:Addr)(as:List Addr)(ks:List Key)(G:Gh)(σ:St)(H:Hp)(env:Env)(n:Nat)(xss:List (List PV)):Prop where
 loc:σ[i]?=some (some (.ref a))
 dic:H a=some (.dK (ks.zip (as.map V.ref)))
 lk:ks.length=as.length
 lx:xss.length=as.length
 nd:(a::as).Nodup
 own:∀b∈a::as,b∉G.pots/\b∉C.M0/\C.H0 b=none
 inn:∀(j:Nat) (b:Addr) (xs:List PV),as[j]?=some b->xss[j]?=some xs->∃vs,H b=some (.lst vs)/\Reps C.K G H xs vs
 sr:SR (C.plus (a::as) H) G σ H env n
 p0:∀p∈C.pots0,p∈C.M0
section
variable {C:Ct}{i:Nat}{a:Addr}{as:List Addr}{ks:List Key}{G:Gh}{σ σ':St}{H H':Hp}{env env':Env}{n n':Nat}{xss:List (List PV)}
theorem DJ.ob (j:DJ C i a as ks G σ H env n xss){b:Addr}(hb:b∈a::as):∃o,H b=some o:=by
 rcases B6.mp hb with rfl | hb
 · exact⟨_,j.dic⟩
 · obtain⟨k,hk,e⟩:=Ay hb;have hx:k < xss.length:=by rw [j.lx];exact hk
   obtain⟨vs,h,_⟩:=j.inn k b xss[k] (by rw [D7 hk,e]) (D7 hx);exact⟨_,h⟩
theorem DJ.step (j:DJ C i a as ks G σ H env n xss)(S:SR (C.plus (a::as) H) G σ' H' env' n')(f:Fr G H H')(e:σ'[i]?=σ[i]?):DJ C i a as ks G σ' H' env' n' xss:=by
 have eq:∀b∈a::as,H b=H' b:=fun b hb=>by
   obtain⟨o,ho⟩:=j.ob hb
   have np:b∉(C.plus (a::as) H).pots0:=fun z=>by
     obtain⟨l,el,_⟩:=S.pre;exact(j.own b hb).1 (by rw [el];exact U7 _ z)
   have:=S.frame b o np (by rw [Hv hb];exact ho);rw [ho,this]
 have S':=S;rw [RI eq] at S';refine⟨by rw [e];exact j.loc,by rw [<- eq a B8];exact j.dic,j.lk,j.lx,j.nd,j.own,fun k b xs e1 e2=>?_,S',j.p0⟩;obtain⟨vs,h,r⟩:=j.inn k b xs e1 e2;exact⟨vs,by rw [<- eq b (B3 _ (K2 e1))];exact h,r.fr f⟩
theorem DJ.put (j:DJ C i a as ks G σ H env n xss){k:Nat}{b:Addr}{xs:List PV}{vs:List V}{x:PV}{v:V}(e1:as[k]?=some b)(e2:xss[k]?=some xs)(hb:H b=some (.lst vs))(r:Reps C.K G H xs vs)(rx:Rep C.K G H x v):DJ C i a as ks G σ (upd H b (.lst (vs++[v]))) env n (xss.set k (xs++[x]))/\Fr G H (upd H b (.lst (vs++[v]))):=by
 have bm:b∈as:=K2 e1;have ba:a≠b:=fun z=>(L7.mp j.nd).1 (by rw [z];exact bm);obtain⟨S,f⟩:=j.sr.plus_put (o:=.lst (vs++[v])) (B3 _ bm) trivial (j.own b (B3 _ bm)).1;refine⟨⟨j.loc,by rw [A7 ba];exact j.dic,j.lk,by rw [G6];exact j.lx,j.nd,j.own,fun m c ys f1 f2=>?_,S,j.p0⟩,f⟩
 by_cases hm:k=m
 · subst hm;rw [e1] at f1;cases f1;rw [J5 (D9.mp e2).1] at f2;cases f2;exact⟨_,C4,(r.append (.one rx)).fr f⟩
 · rw [F9 hm] at f2
   have bc:c≠b:=fun z=>by
     subst z;have nd:=(L7.mp j.nd).2;obtain⟨h1,g1⟩:=D9.mp e1;obtain⟨h2,g2⟩:=D9.mp f1;exact hm (nodup_ix nd h1 h2 (g1.trans g2.symm))
   obtain⟨us,h,q⟩:=j.inn m c ys f1 f2;exact⟨us,by rw [A7 bc];exact h,q.fr f⟩
theorem DJ.freeze (j:DJ C i a as ks G σ H env n xss):SR C ⟨G.M.filter fun b=>decide (b∉a::as),G.pots⟩ σ H (env.set i (some (.v (.dct ks (xss.map PV.lst))))) n:=by
 have S:=j.sr
 have sb:∀b,b∈(G.M.filter fun b=>decide (b∉a::as))->b∈G.M/\b∉a::as:=fun b hb=>by
   obtain⟨h1,h2⟩:=O8.mp hb;exact⟨h1,of_decide_eq_true h2⟩
 have bk:∀b,b∈G.M->b∉a::as->b∈(G.M.filter fun b=>decide (b∉a::as)):=fun b h1 h2=>O8.mpr ⟨h1,decide_eq_true h2⟩;have mm:∀{x:PV} {v:V},Rep C.K G H x v->Rep C.K ⟨G.M.filter fun b=>decide (b∉a::as),G.pots⟩ H x v:=fun r=>Rep.mono (G':=⟨G.M.filter fun b=>decide (b∉a::as),G.pots⟩) (fun _ _ _ e=>e) (fun b hb=>.inl (sb b hb).1) (fun _ _ e=>e) _ _ r;have mms:∀{x:List PV} {v:List V},Reps C.K G H x v->Reps C.K ⟨G.M.filter fun b=>decide (b∉a::as),G.pots⟩ H x v:=fun r=>Reps.mono (G':=⟨G.M.filter fun b=>decide (b∉a::as),G.pots⟩) (fun _ _ _ e=>e) (fun b hb=>.inl (sb b hb).1) (fun _ _ e=>e) _ _ r
 have np:∀(k:Nat) (xs:OK×List PV),(env.set i (some (.v (.dct ks (xss.map PV.lst)))))[k]?=some (some (Slot.ow xs.1 xs.2))->i≠k:=by
   intro k xs e h;subst h
   by_cases hl:i < env.length
   · rw [J5 hl] at e;cases e
   · rw [R8 (by rw [G6];omega)] at e;cases e
 have nM:∀b∈a::as,b∉(G.M.filter fun b=>decide (b∉a::as)):=fun b hb z=>(sb b z).2 hb
 have lists:∀(bs:List Addr) (yss:List (List PV)),bs.length=yss.length->(∀b∈bs,b∈a::as)->(∀(k:Nat) (b:Addr) (xs:List PV),bs[k]?=some b->yss[k]?=some xs->∃vs,H b=some (.lst vs)/\Reps C.K G H xs vs)->Reps C.K ⟨G.M.filter fun b=>decide (b∉a::as),G.pots⟩ H (yss.map PV.lst) (bs.map V.ref):=by
   intro bs
   induction bs with
   | nil=>intro yss hl _ _;cases yss with | nil=>exact rfl | cons _ _=>cases hl
   | cons b bs ih =>
     intro yss hl hm h;cases yss with
     | nil=>cases hl
     | cons ys yss =>
       obtain⟨vs,h1,h2⟩:=h 0 b ys rfl rfl;exact .cons ⟨b,vs,rfl,⟨nM b (hm b B8),h1⟩,mms h2⟩ (ih yss (by simpa using hl) (fun c hc=>hm c (B3 _ hc)) fun k c xs e1 e2=>h (k + 1) c xs e1 e2)
 have lz:ks.length=(as.map V.ref).length:=by rw [B2];exact j.lk
 refine { frame:=fun b o hb e=>?_,sub:=fun b hb=>?_,sup:=fun b hb=>?_,pots:=fun p hp=>?_,pre:=S.pre,mu:=fun b hb=>S.mu b (sb b hb).1,slots:=fun k s e=>?_,inj:=fun k l xs ys b e1 e2 e3 e4=>?_,p0:=⟨j.p0,S.p0.2⟩,len:=by rw [G6];exact S.len,newp:=fun p hp h1 h2=>S.newp p hp h1 (G4 _ h2) }
 · by_cases h:b∈a::as
   · rw [(j.own b h).2.2] at e;cases e
   · exact S.frame b o hb (by rw [Aq h];exact e)
 · obtain⟨h1,h2⟩:=sb b hb;rcases S.sub b h1 with z | z
   · exact .inl ((K8.mp z).elim (fun z=>absurd z h2) id)
   · rw [Aq h2] at z;exact .inr z
 · exact bk b (S.sup b (G4 _ hb)) fun z=>(j.own b z).2.1 hb
 · obtain⟨h1,h2⟩:=S.pots p hp;exact⟨bk p h1 fun z=>(j.own p z).1 hp,C.T.more h2 fun b hb=>.inl (sb b hb).1⟩
 · by_cases hk:i=k
   · subst hk
     by_cases hl:i < env.length
     · rw [J5 hl] at e;cases e;refine⟨.ref a,j.loc,a,ks.zip (as.map V.ref),rfl,nM a B8,j.dic,List.map_fst_zip (i6 lz),?_⟩;rw [Dw (i6 lz.symm)];exact lists as xss j.lx.symm (fun b hb=>B3 _ hb) j.inn
     · rw [R8 (by rw [G6];omega)] at e;cases e
   · rw [F9 hk] at e;have q:=S.slots k s e;cases s with
     | v x =>
       obtain⟨v,e1,r⟩:=q;exact⟨v,e1,mm r⟩
     | ow kk xs =>
       obtain⟨c,us,e1,h1,h2,h3,h4,r⟩:=q;exact⟨c,us,e1,bk c h1 fun z=>h2 (U7 _ z),fun z=>h2 (G4 _ z),h3,h4,mms r⟩
 · have n1:=np k xs e1;have n2:=np l ys e2;rw [F9 n1] at e1;rw [F9 n2] at e2;exact S.inj k l xs ys b e1 e2 e3 e4
end
end Pu
end
section
namespace Pu
open PySem PySem.Spec L2
abbrev pD:=List Key->(Env->Nat->List (List PV)->Prop)->Env->Nat->List (List PV)->Prop
def DOk (K:A4)(T:PotK)(i:Nat)(t:TS)(pd:pD):Prop:=∀(C:Ct) (G:Gh) (σ:St) (H:Hp) (env:Env) (n:Nat) (a:Addr) (as:List Addr) (ks:List Key) (xss:List (List PV)) (R:Env->Nat->List (List PV)->Prop) (D:Ends),C.K=K->C.T=T->DJ C i a as ks G σ H env n xss->pd ks R env n xss->
 (∀env' n' xss' σ' H',R env' n' xss'->DJ C i a as ks G σ' H' env' n' xss'->Fr G H H'->D.nx σ' H')->t D σ H
def QD {ι:Type}(T:PotK)(K:A4)(F:ι->Cx)(i:Nat)(st:Stmt)(pd:pD):Prop:=∃t,(∀z,PS (F z) st t)/\DOk K T i t pd
def QDs {ι:Type}(T:PotK)(K:A4)(F:ι->Cx)(i:Nat)(st:List Stmt)(pd:pD):Prop:=∃t,(∀z,PSs (F z) st t)/\DOk K T i t pd
def GKp (K:A4)(i:Nat)(g:TG)(pg:pG):Prop:=∀(C:Ct) (G:Gh) (σ:St) (H:Hp) (env:Env) (n:Nat) (x:PV) (v:V) (R:Env->Prop) (Q:St->Hp->Prop),C.K=K->SR C G σ H env n->Rep K G H x v->pg x env R->
 (∀env' σ',R env'->SR C G σ' H env' n->σ'[i]?=σ[i]?->Q σ' H)->g v σ H Q
def GKs (K:A4)(i:Nat)(g:TGs)(pg:pGs):Prop:=∀(C:Ct) (G:Gh) (σ:St) (H:Hp) (env:Env) (n:Nat) (x:List PV) (v:List V) (R:Env->Prop) (Q:St->Hp->Prop),C.K=K->SR C G σ H env n->Reps K G H x v->pg x env R->
 (∀env' σ',R env'->SR C G σ' H env' n->σ'[i]?=σ[i]?->Q σ' H)->g v σ H Q
def QGk {ι:Type}(K:A4)(F:ι->Cx)(i:Nat)(e:Expr)(pg:pG):Prop:=∃g,(∀z,PG (F z) e g)/\GKp K i g pg
def QGks {ι:Type}(K:A4)(F:ι->Cx)(i:Nat)(e:List Expr)(pg:pGs):Prop:=∃g,(∀z,PGs (F z) e g)/\GKs K i g pg
section
variable {T:PotK}{np:Bool}{ι:Type}{K:A4}{F:ι->Cx}{e:Expr}{es:List Expr}{pe pk:pE}{pos:Pos}{pg:pG}{pgs:pGs}{st:Stmt}{rest:List Stmt}{i:Nat}{p1 p2:pD}{pi:pA}
theorem Hw {j:Nat}{x:Str}(h:∀z,GW (F z) (.Name x pos) (K6 j))(hj:j≠i:=by decide):QGk K F i (.Name x pos) (gN j):=⟨_,fun z=>(h z).h,fun C G σ H env n x v R Q hK S r hp k=>k _ _ hp (S.set j (hK▸r)) (F9 hj)⟩
theorem RJ:QGks K F i [] gNl:=⟨_,fun _=>DX,fun C G σ H env n x v R Q hK S r hp k=>by
 cases x with
 | nil=>exact⟨r,k _ _ hp S rfl⟩
 | cons _ _=>exact hp.elim⟩
theorem KY (h1:QGk K F i e pg)(h2:QGks K F i es pgs)(hs:∀z,(F5 (e::es) (F z).env).map (·.2)=assign e (F z).env::(F5 es (F z).env).map (·.2):=by intro _;rfl):QGks K F i (e::es) (gCn pg pgs):=by
 obtain⟨g,a1,a2⟩:=h1;obtain⟨gs,b1,b2⟩:=h2;refine⟨_,fun z=>AZ (a1 z) (b1 z) (hs z),fun C G σ H env n x v R Q hK S r hp k=>?_⟩;cases x with
 | nil=>exact hp.elim
 | cons x xs =>
   obtain⟨u,us,rfl,ru,rs⟩:=r;exact⟨u,us,rfl,a2 C G σ H env n x u _ _ hK S ru hp fun env' σ' re S' e1=>b2 C G σ' H env' n xs us _ _ hK S' rs re fun env2 σ2 q2 S2 e2=>k env2 σ2 q2 S2 (e2.trans e1)⟩
theorem RK {m:Nat}{k:Nat}(hc:∀z,(F z).calm=true)(h:QGks K F i es pgs)(hn:∀z,(F5 es (F z).env).length=m:=by intro _;rfl)(hst:∀z,(F5 es (F z).env).findIdx? (·.1)=none:=by intro _;rfl)(hK:∀z,(F z).K=K:=by intro _;rfl):QGk K F i (.Tuple es k pos) (gTp m pgs):=by
 obtain⟨g,a1,a2⟩:=h;refine⟨_,fun z=>hK z▸DY (hc z) (a1 z) (hn z) (hst z),fun C G σ H env n x v R Q hK S r hp k=>?_⟩;cases x with
 | tup xs =>
   obtain⟨a,vs,rfl,t,rs⟩:=r;exact⟨a,vs,rfl,t.sq,by rw [<- rs.length];exact hp.1,a2 C G σ H env n xs vs _ _ hK S rs hp.2 k⟩
 | _=>exact hp.elim
def Hx (j:Nat)(pe:pE):pD:=fun ks R env n xss=>pe env n fun x env1 n1=>R (env1.set j (some (.v x))) n1 xss
theorem qd_set (j:Nat)(h:∀z te,EW (F z) e te->SW (F z) st (tAsg te (K6 j)))(he:QE T K F e pe)(hj:j≠i:=by decide):QD T K F i st (Hx j pe):=by
 obtain⟨t,a1,a2⟩:=he;refine⟨_,fun z=>(h z _ ⟨a1 z⟩).h,fun C G σ H env n a as ks xss R D hK hT J hp k=>?_⟩;refine a2 (C.plus (a::as) H) G σ H env n _ _ hK hT J.sr hp fun x env1 n1 v H1 q1 S1 r1 f1=>?_;exact k _ _ _ _ _ q1 (J.step (S1.set j (by subst hK;exact r1)) f1 (F9 hj)) f1
def Hy (p q:pD):pD:=fun ks R env n xss=>p ks (fun env1 n1 xss1=>q ks R env1 n1 xss1) env n xss
theorem KZ (h:QD T K F i st p1):QDs T K F i [st] p1:=let ⟨t,h1,h2⟩:=h;⟨t,fun z=>AX (h1 z),h2⟩
theorem RL (h:QD T K F i st p1)(h':QDs T K F i rest p2):QDs T K F i (st::rest) (Hy p1 p2):=by
 obtain⟨t,a1,a2⟩:=h;obtain⟨u,b1,b2⟩:=h';refine⟨_,fun z=>U9 (a1 z) (b1 z),fun C G σ H env n a as ks xss R D hK hT J hp k=>?_⟩;exact a2 C G σ H env n a as ks xss _ _ hK hT J hp fun env1 n1 xss1 σ1 H1 q1 J1 f1=>b2 C G σ1 H1 env1 n1 a as ks xss1 R D hK hT J1 q1 fun env2 n2 xss2 σ2 H2 q2 J2 f2=>k env2 n2 xss2 σ2 H2 q2 J2 (f1.trans f2)
def forD (g:pG)(b:pD)(ks:List Key)(R:Env->Nat->List (List PV)->Prop):List PV->Env->Nat->List (List PV)->Prop
 | [],env,n,xss=>R env n xss
 | x::xs,env,n,xss=>g x env fun env1=>b ks (fun env2 n2 xss2=>forD g b ks R xs env2 n2 xss2) env1 n xss
def EZ (pi:pA)(g:pG)(b:pD):pD:=fun ks R env n xss=>pi env n fun xs env1 n1=>forD g b ks R xs env1 n1 xss
theorem K_ {tg iter:Expr}{body:List Stmt}(hc:∀z,(F z).calm=true)(hi:QI T K F tg iter pi)(hg:QGk K F i tg pg)(hb:QDs T K F i body p1)(hp:∀z,PassesOwn (model (F z).prog (F z).w) (F z).A (F z).env (F z).xe:=by intro _;exact PassesOwn.never)(hs:∀z x,P1 iter (F z).env x=pure x:=by intro _ _;rfl):QD T K F i (.For tg iter body [] pos) (EZ pi pg p1):=by
 obtain⟨wi,i1,i2⟩:=hi;obtain⟨g,g1,g2⟩:=hg;obtain⟨t,b1,b2⟩:=hb;refine⟨_,fun z=>IA (hp z) (hc z) (i1 z) (g1 z) (b1 z) (hs z),fun C G σ H env n a as ks xss R D hK hT J hp k=>?_⟩;refine i2 (C.plus (a::as) H) G σ H env n _ _ hK hT J.sr hp fun xs env1 n1 It H1 q1 S1 f1 hJ=>?_;have J1:=J.step S1 f1 rfl;refine⟨fun q m σ H'=>m=xs.length - q/\q<=xs.length/\∃env n xss,DJ C i a as ks G σ H' env n xss/\Fr G H1 H'/\forD pg p1 ks R (xs.drop q) env n xss,⟨xs.length,by simp,J6 _,env1,n1,xss,J1,Fr.refl,by simpa using q1⟩,?_⟩;rintro q m σ' H' ⟨rfl,hi,env',n',xss',J',f',q'⟩;obtain⟨hgo,hstop⟩:=hJ G H' f' (fun _ h=>.inl h) (fun _ _ e=>e) (fun p hp=>J'.sr.fresh hp)
 by_cases hlt:q < xs.length
 · obtain⟨go1,go2⟩:=hgo q _ (D7 hlt);rw [W8 hlt] at q';refine .inr ⟨go1,fun σ H'=>∃env n xss,DJ C i a as ks G σ H' env n xss/\Fr G H1 H'/\forD pg p1 ks R (xs.drop (q + 1)) env n xss,fun σ2 H2 h2=>⟨xs.length - (q + 1),by omega,rfl,hlt,h2⟩,fun v H2 y=>?_⟩;obtain⟨s2,rv⟩:=go2 v H2 y;have J2:=J'.step (J'.sr.same s2) (Fr.of s2) rfl;refine g2 (C.plus (a::as) H2) G σ' H2 env' n' _ v _ _ hK J2.sr rv q' fun env2 σ2 q2 S2 es=>?_;have J3:=J2.step S2 Fr.refl es;exact b2 C G σ2 H2 env2 n' a as ks xss' _ _ hK hT J3 q2 fun e3 n3 x3 σ3 H3 q3 J4 f3=>⟨e3,n3,x3,J4,(f'.trans (Fr.of s2)).trans f3,q3⟩
 · have ei:q=xs.length:=by omega
   subst ei;rw [AB] at q';exact .inl ⟨hstop _ (B4 _),k _ _ _ _ _ q' J' (f1.trans f')⟩
def kIx (ks:List Key)(k:Key):Option Nat:=ks.findIdx? fun z=>decide (z=k)
theorem val_ix {k:Key}:∀{ks:List Key} {vs:List V} {j:Nat} {v:V},kIx ks k=some j->vs[j]?=some v->valV (ks.zip vs) k=some v:=by
 intro ks
 induction ks with
 | nil=>intro vs j v h;cases h
 | cons a ks ih =>
   intro vs j v h e;unfold kIx at h;rw [List.findIdx?_cons] at h
   by_cases c:a=k
   · rw [if_pos (decide_eq_true c)] at h;cases h;cases vs with
     | nil=>cases e
     | cons u us =>
       have e:u=v:=by simpa using e
       subst e;show((((a,u)::ks.zip us).find? fun kv=>decide (kv.1=k)).map (·.2))=some u;rw [List.find?_cons_of_pos (by exact decide_eq_true c)];rfl
   · rw [if_neg (by simpa using c)] at h;cases hf:ks.findIdx? (fun z=>decide (z=k)) with
     | none=>rw [hf] at h;cases h
     | some m =>
       rw [hf] at h;cases h;cases vs with
       | nil=>cases e
       | cons u us =>
         show((((a,u)::ks.zip us).find? fun kv=>decide (kv.1=k)).map (·.2))=some v;rw [FD (by simpa using c)];exact ih hf e
def Hz (pk pe:pE):pD:=fun ks R env n xss=>pk env n fun k env1 n1=>match keyV k with
 | some kk => (match kIx ks kk with
   | some j => (match xss[j]? with
     | some xs=>xs.length < 1000000/\pe env1 n1 fun x env2 n2=>R env2 n2 (xss.set j (xs++[x]))
     | none=>False)
   | none=>False)
 | none=>False
theorem qd_app {k0:Nat}(hr:∀z,Room k0 (F z).A){x:Str}{kx:Expr}{p sp ap:Pos}(hst:∀z te,EW (F z) (.Call (.Attribute (.Subscript (.Name x p) kx sp) "append" ap) [e] [] pos) te->SW (F z) st (Cb te))(hv:∀z,EW (F z) (.Name x p) (tVar i))(hk:QE T K F kx pk)(he:QE T K F e pe)(hs:E5 e=true:=by rfl)(hsl:NoSl kx:=by exact fun _ _=>rfl)(hbase:∀z,Y6 (.Subscript (.Name x p) kx sp) "append" (F z).env (eval (.Subscript (.Name x p) kx sp) (F z).env)=eval (.Subscript (.Name x p) kx sp) (F z).env:=by intro _;rfl)(hline:(ap.endLine == pos.line)=true:=by rfl)
   (hfew:∀z,((backTo pos (D6 [e] (F z).env)).all (fun x=>!x.1) && (W5 pos (W3 [] (F z).env)).all (fun x=>x.1.isSome) && decide (([e]:List Expr).length + ([]:List O1).length + (if([]:List O1).isEmpty then 0 else 1) < 30))=true:=by intro _;rfl) (hK:∀z,(F z).K=K:=by intro _;rfl):QD T K F i st (Hz pk pe):=by
 obtain⟨t,a1,a2⟩:=he;obtain⟨u,b1,b2⟩:=hk;refine⟨Cb (tBM K "list" Gf (GJ (tVar i) u) (V0 t tNil)),fun z=>(hst z _ ⟨hK z▸Ci BY PySem.F.slot_list_append PySem.F.type_list_append Gg (P9 (X7 (hr z)) (hv z).h (b1 z) hsl) (E9 (a1 z) G7 (C8 hs)) (hbase z) (hfew z) hline (C8 hs)⟩).h,fun C G σ H env n a as ks xss R D hK hT J hp k=>?_⟩;refine⟨.ref a,J.loc,?_⟩;refine b2 (C.plus (a::as) H) G σ H env n _ _ hK hT J.sr hp fun kx env1 n1 v H1 q1 S1 r1 f1=>?_;have J1:=J.step S1 f1 rfl;cases ek:keyV kx with
 | none=>rw [ek] at q1;exact q1.elim
 | some kk =>
   rw [ek] at q1;dsimp only at q1;cases ei:kIx ks kk with
   | none=>rw [ei] at q1;exact q1.elim
   | some m =>
     rw [ei] at q1;dsimp only at q1;cases ex:xss[m]? with
     | none=>rw [ex] at q1;exact q1.elim
     | some xs =>
       rw [ex] at q1;obtain⟨hl,q2⟩:=q1;have hm:m < as.length:=by rw [<- J.lx];exact(D9.mp ex).1
       obtain⟨b,eb⟩:∃b,as[m]?=some b:=⟨_,D7 hm⟩;obtain⟨vs,hb,rr⟩:=J1.inn m b xs eb ex;have dg:DGet H1 a (kV kk) (valV (ks.zip (as.map V.ref)) kk):=DGet.k J1.dic;rw [val_ix ei (v:=.ref b) (by rw [F6,eb];rfl)] at dg;refine⟨a,.ref b,rfl,by rw [Bs r1 ek];exact dg,.inl ⟨rfl,vs,SqL.of hb⟩,?_⟩;refine a2 (C.plus (a::as) H1) G σ H1 env1 n1 _ _ hK hT J1.sr q2 fun y env2 n2 w H2 q3 S2 r3 f3=>?_;have J2:=J1.step S2 f3 rfl;obtain⟨vs2,hb2,rr2⟩:=J2.inn m b xs eb ex;have r4:Rep C.K G H2 y w:=by rw [hK];exact r3
       obtain⟨J3,f4⟩:=J2.put eb ex hb2 rr2 r4;exact⟨b,vs2,w,rfl,rfl,hb2,by rw [<- rr2.length];exact mil' (by omega),k _ _ _ _ _ q3 J3 ((f1.trans f3).trans f4)⟩
end
end Pu
end
section
namespace Pu
open PySem PySem.Spec L2
theorem Inn.more {K:A4}{T:PotK}{M p:List Addr}{σ:St}{H:Hp}{env:Env}{n:Nat}(I:Inn K T ⟨M,p⟩ σ H env n){b:Addr}{o:HO}(hb:H b=none)(mo:MutO o):Inn K T ⟨b::M,p⟩ σ (upd H b o) env n where
 pots q hq:=by
   obtain⟨h1,h2⟩:=I.pots q hq;refine⟨B3 _ h1,?_⟩;have h3:=T.more (M':=b::M) h2 fun c hc=>(B6.mp hc).elim (fun z=>.inr (by rw [z];exact hb)) .inl;obtain⟨u,e,_⟩:=T.mu h3;exact T.keep h3 (by rw [e,Same.lay1 hb q u e]) fun c u _ e=>Same.lay1 hb c u e
 has:=I.has
 mu c hc:=by
   rcases B6.mp hc with rfl | hc
   · exact⟨_,C4,mo⟩
   · obtain⟨u,e,m⟩:=I.mu c hc;exact⟨u,Same.lay1 hb c u e,m⟩
 slots i s e:=by
   obtain⟨x,v,e1,e2,r⟩:=I.slots i s e;exact⟨x,v,e1,e2,Rep.mono (G:=⟨M,p⟩) (G':=⟨b::M,p⟩) (H':=upd H b o) (fun c u _ e=>Same.lay1 hb c u e) (fun c hc=>(B6.mp (show c∈b::M from hc)).elim (fun z=>.inr (by rw [z];exact hb)) .inl) (fun _ _ e=>e) _ _ r⟩
 len:=I.len
theorem Inn.put {K:A4}{T:PotK}{G:Gh}{σ:St}{H:Hp}{env:Env}{n:Nat}(I:Inn K T G σ H env n){b:Addr}{o:HO}(hb:b∈G.M)(hp:b∉G.pots)(mo:MutO o):Inn K T G σ (upd H b o) env n:=by
 have f:Fr G H (upd H b o):=fun c u hc e=>by rw [A7 (fun z=>hc (by rw [z];exact hb))];exact e
 exact {
   pots:=fun q hq=>⟨(I.pots q hq).1,T.keep (I.pots q hq).2 (A7 fun z=>hp (by rw [<- z];exact hq)) f⟩
   has:=I.has
   mu:=fun c hc=>by
     by_cases h:c=b
     · subst h;exact⟨o,C4,mo⟩
     · rw [A7 h];exact I.mu c hc
   slots:=fun i s e=>by
     obtain⟨x,v,e1,e2,r⟩:=I.slots i s e;exact⟨x,v,e1,e2,r.fr f⟩
   len:=I.len }
def klL (pg:pG)(pk:pE)(pn:pA):List PV->List Key->List (List PV)->Env->Nat->(List Key->List (List PV)->Nat->Prop)->Prop
 | [],ks,yss,_,n,R=>R ks yss n
 | x :: xs, ks, yss, env, n, R => pg x env fun env1 => pk env1 n fun k env2 n2 => pn env2 n2 fun ys env3 n3 => match keyV k with
   | some kk=>kk∉ks/\klL pg pk pn xs (ks++[kk]) (yss++[ys]) env3 n3 R
   | none=>False
theorem RM {k:Key}:∀{ks:List Key} {vs:List V},k∉ks->valV (ks.zip vs) k=none:=by
 intro ks
 induction ks with
 | nil=>intro vs _;rfl
 | cons a ks ih =>
   intro vs h;cases vs with
   | nil=>rfl
   | cons u us =>
     show((((a,u)::ks.zip us).find? fun kv=>decide (kv.1=k)).map (·.2))=none;rw [FD (by simpa using fun z=>h (by rw [z];exact B8))];exact ih fun z=>h (B3 _ z)
structure KE (K:A4)(T:PotK)(G:Gh)(H1:Hp)(D:Addr)(M:List Addr)(as:List Addr)(ks:List Key)(yss:List (List PV))(H:Hp):Prop where
 mem:∀c,c∈M↔c∈as\/c=D\/c∈G.M
 keep:∀b o,b∉G.pots->H1 b=some o->H b=some o
 dic:H D=some (.dK (ks.zip (as.map V.ref)))
 lk:ks.length=as.length
 ly:yss.length=as.length
 nd:(D::as).Nodup
 new:∀b∈as,H1 b=none
 inn:∀(k:Nat) (b:Addr) (ys:List PV),as[k]?=some b->yss[k]?=some ys->∃vs,H b=some (.lst vs)/\Reps K ⟨M,G.pots⟩ H ys vs
theorem kl_ok {K:A4}{T:PotK}{J:It}{g:TG}{tk tv:TE}{pg:pG}{pk:pE}{pn:pA}(hg:GOk K g pg)(hek:EOk K T tk pk)(hen:NOk K T tv pn){G:Gh}{H1:Hp}{xs:List PV}(hJ:ItR K G H1 J xs)(hl:xs.length<=1000000)
   {σc:St} {env:Env} {n:Nat} {R:List Key->List (List PV)->Nat->Prop} {Q:VK} {D:Addr} (hD:H1 D=none) (I0:Inn K T G σc H1 env n) (hp:klL pg pk pn xs [] [] env n R)
   (hQ:∀ks yss n' M as H',R ks yss n'->(∀p∈G.pots,T.at_ M H' p n')->(∀c∈M,∃o,H' c=some o/\MutO o)->KE K T G H1 D M as ks yss H'->Q (.ref D) H') :
   Kz J g tTru tk tv Q D σc (upd H1 D (.dK [])):=by
 have old:∀c∈G.M,∃o,H1 c=some o:=fun c hc=>by
   obtain⟨o,e,_⟩:=I0.mu c hc;exact⟨o,e⟩
 have npt:∀c,H1 c=none->c∉G.pots:=fun c hc z=>by
   obtain⟨o,e⟩:=old c (I0.pots c z).1;rw [hc] at e;cases e
 refine⟨fun i m σ H=>m=xs.length - i/\i<=xs.length/\∃env n ks yss M as,Inn K T ⟨M,G.pots⟩ σ H env n/\KE K T G H1 D M as ks yss H/\as.length<=i/\klL pg pk pn (xs.drop i) ks yss env n R,?_,?_⟩
 · refine⟨xs.length,by simp,J6 _,env,n,[],[],D::G.M,[],I0.more (M:=G.M) (p:=G.pots) (o:=.dK []) hD trivial,⟨fun c=>?_,fun b o _ e=>Same.lay1 hD b o e,C4,rfl,rfl,by simp,(fun _ z=>nomatch z),fun k b ys e=>by cases e⟩,B4 _,by simpa using hp⟩;simp
 · rintro i m σ H ⟨rfl,hi,env,n,ks,yss,M,as,I,E,la,hc⟩
   have hf:∀p,H p=none->p∉(⟨M,G.pots⟩:Gh).M:=fun p hp z=>by
     obtain⟨o,e,_⟩:=I.mu p z;rw [hp] at e;cases e
   have gm:∀c∈G.M,c∈M:=fun c hc=>(E.mem c).mpr (.inr (.inr hc))
   obtain⟨hgo,hstop⟩:=hJ ⟨M,G.pots⟩ H (fun b o hb e=>E.keep b o (fun z=>hb (I0.pots b z).1) e) (fun a ha=>by
     rcases(E.mem a).mp ha with z | z | z
     · exact .inr (E.new a z)
     · exact .inr (by rw [z];exact hD)
     · exact .inl z) (fun _ _ e=>e) hf
   by_cases hlt:i < xs.length
   · have ex:xs[i]?=some xs[i]:=D7 hlt;obtain⟨g1,g2⟩:=hgo i _ ex;refine .inr ⟨g1,fun v H2 y=>?_⟩;obtain⟨s2,rv⟩:=g2 v H2 y;rw [W8 hlt] at hc;have S1:=I.sr.same s2;refine hg _ ⟨M,G.pots⟩ σ H2 env n xs[i] v _ _ rfl S1 rv hc fun env1 σ1 hc1 S2=>?_;show tk σ1 H2 _;refine hek _ ⟨M,G.pots⟩ σ1 H2 env1 n _ _ rfl rfl S2 hc1 fun kx env2 n2 ku H4 hc2 S4 rk f4=>?_;refine hen _ ⟨M,G.pots⟩ σ1 H4 env2 n2 _ _ rfl rfl S4 hc2 fun ys env3 n3 b vs Hb hc3 S5 f5 hb ry=>?_;cases ek:keyV kx with
     | none=>rw [ek] at hc3;exact hc3.elim
     | some kk =>
       rw [ek] at hc3;obtain⟨kn,hc4⟩:=hc3;have fr:∀c o,c∉G.pots->H c=some o->Hb c=some o:=fun c o hc e=>S5.frame c o hc e;have I5:=S5.inn
       have bM:b∉M:=fun z=>by
         obtain⟨o,e,_⟩:=I5.mu b z;rw [hb] at e;cases e
       have bD:b≠D:=fun z=>bM ((E.mem b).mpr (.inr (.inl z)));have ba:b∉as:=fun z=>bM ((E.mem b).mpr (.inl z));have bp:b∉G.pots:=fun z=>bM (gm b (I0.pots b z).1)
       have hbH:H b=none:=by
         cases z:H b with
         | none=>rfl
         | some o=>rw [fr b o bp z] at hb;cases hb
       have hb1:H1 b=none:=by
         cases z:H1 b with
         | none=>rfl
         | some o=>rw [E.keep b o bp z] at hbH;cases hbH
       have DM:D∈M:=(E.mem D).mpr (.inr (.inl rfl));have Dp:D∉G.pots:=npt D hD;have eD:upd Hb b (.lst vs) D=some (.dK (ks.zip (as.map V.ref))):=by rw [A7 (Ne.symm bD)];exact fr D _ Dp E.dic
       have lz:ks.length=(as.map V.ref).length:=by rw [B2];exact E.lk
       refine⟨ks.zip (as.map V.ref),kk,Bs rk ek,eD,?_,xs.length - (i + 1),by omega,rfl,hlt,env3,n3,ks++[kk],yss++[ys],b::M,as++[b],(I5.more (M:=M) (p:=G.pots) (o:=.lst vs) hb trivial).put (o:=.dK (putK (ks.zip (as.map V.ref)) kk (.ref b))) (B3 _ DM) Dp trivial,⟨fun c=>?_,fun c o hc e=>?_,?_,?_,?_,?_,fun c hc=>?_,fun k c zs e1 e2=>?_⟩,?_,hc4⟩
       · rw [BN,B2,E.lk];exact mil' (by omega)
       · rw [B6,E.mem c,K8,J8];constructor
         · rintro(z | z | z | z)
           · exact .inl (.inr z)
           · exact .inl (.inl z)
           · exact .inr (.inl z)
           · exact .inr (.inr z)
         · rintro((z | z) | z | z)
           · exact .inr (.inl z)
           · exact .inl z
           · exact .inr (.inr (.inl z))
           · exact .inr (.inr (.inr z))
       · have h1:Hb c=some o:=fr c o hc (E.keep c o hc e);rw [A7 (fun z=>by rw [z,hD] at e;cases e),A7 (fun z=>by rw [z,hb] at h1;cases h1)];exact h1
       · rw [C4,putK_new _ (RM kn),L8,List.zip_append lz]
         rfl
       · rw [E1,E1,E.lk];rfl
       · rw [E1,E1,E.ly];rfl
       · have h:=L7.mp E.nd;refine L7.mpr ⟨fun z=>?_,?_⟩
         · rcases K8.mp z with z | z
           · exact h.1 z
           · exact bD (J8.mp z).symm
         · rw [AA];exact⟨h.2,by simp,fun c hc d hd e=>ba (by rw [<- J8.mp hd,<- e];exact hc)⟩
       · rcases K8.mp hc with z | z
         · exact E.new c z
         · rw [J8.mp z];exact hb1
       · have hk7:∀c o,c∉M->Hb c=some o->upd (upd Hb b (.lst vs)) D (.dK (putK (ks.zip (as.map V.ref)) kk (.ref b))) c=some o:=fun c o hc e=>by
           rw [A7 (fun z=>hc (by rw [z];exact DM)),A7 (fun z=>by rw [z,hb] at e;cases e)];exact e
         have hM7:∀c∈(⟨b::M,G.pots⟩:Gh).M,c∈M\/Hb c=none:=fun c hc=>(B6.mp (show c∈b::M from hc)).elim (fun z=>.inr (by rw [z];exact hb)) .inl
         by_cases hk:k < as.length
         · rw [W7 hk] at e1;rw [W7 (by rw [E.ly];exact hk)] at e2;obtain⟨us,h1,h2⟩:=E.inn k c zs e1 e2;have cm:=K2 e1;have cD:c≠D:=fun z=>(L7.mp E.nd).1 (by rw [<- z];exact cm);have cb:c≠b:=fun z=>ba (by rw [<- z];exact cm);have h3:Reps K ⟨M,G.pots⟩ Hb zs us:=Reps.mono (fun c o hc e=>fr c o (fun z=>hc (gm c (I0.pots c z).1)) e) (fun a ha=>.inl ha) (fun _ _ e=>e) _ _ h2;exact⟨us,by rw [A7 cD,A7 cb];exact fr c _ (npt c (E.new c cm)) h1,Reps.mono (G:=⟨M,G.pots⟩) (G':=⟨b::M,G.pots⟩) hk7 hM7 (fun _ _ e=>e) _ _ h3⟩
         · have hk2:k=as.length:=by
             have:=(D9.mp e1).1;rw [E1,W9] at this;omega
           subst hk2;rw [W6 (B4 _),i7] at e1;rw [W6 (by rw [E.ly];exact B4 _),E.ly,i7] at e2;cases e1;cases e2;exact⟨vs,by rw [A7 bD];exact C4,Reps.mono (G:=⟨M,G.pots⟩) (G':=⟨b::M,G.pots⟩) hk7 hM7 (fun _ _ e=>e) _ _ ry⟩
       · rw [E1,W9];omega
   · have ei:i=xs.length:=by omega
     subst ei;refine .inl ⟨hstop _ (B4 _),?_⟩;rw [AB] at hc;exact hQ _ _ n M as H hc (fun p hp=>(I.pots p hp).2) I.mu E
theorem dj_of {C:Ct}{G:Gh}{σ:St}{H1 H':Hp}{env1:Env}{n1 n2 i:Nat}(S1:SR C G σ H1 env1 n1){D:Addr}{M as:List Addr}{ks:List Key}{yss:List (List PV)}(hi:i < env1.length)(hD:H1 D=none)(hpots:∀p∈G.pots,C.T.at_ M H' p n2)(hmu:∀c∈M,∃o,H' c=some o/\MutO o)(E:KE C.K C.T G H1 D M as ks yss H'):DJ C i D as ks ⟨M,G.pots⟩ (σ.set i (some (.ref D))) H' (env1.set i none) n2 yss:=by
 have gm:∀c∈G.M,c∈M:=fun c hc=>(E.mem c).mpr (.inr (.inr hc));have hn:∀b∈D::as,H1 b=none:=fun b hb=>(B6.mp hb).elim (fun z=>by rw [z];exact hD) (E.new b);have nG:∀b∈D::as,b∉G.M:=fun b hb=>S1.fresh (hn b hb);have Sb:SR C G σ H' env1 n2:=S1.call E.keep fun p hp=>C.T.more (hpots p hp) fun a ha=>.inl (gm a ha);have dm:∀b∈D::as,b∈M:=fun b hb=>(B6.mp hb).elim (fun z=>(E.mem b).mpr (.inr (.inl z))) fun z=>(E.mem b).mpr (.inl z);have kp:∀b o,b∉G.M->H1 b=some o->H' b=some o:=fun b o hb e=>E.keep b o (fun z=>hb (S1.pots b z).1) e
 have nw:∀a∈(⟨M,G.pots⟩:Gh).M,a∈G.M\/H1 a=none:=fun a ha=>by
   rcases(E.mem a).mp ha with z | z | z
   · exact .inr (E.new a z)
   · exact .inr (by rw [z];exact hD)
   · exact .inl z
 have ni:∀(k:Nat) (xs:OK×List PV),(env1.set i none)[k]?=some (some (Slot.ow xs.1 xs.2))->i≠k:=by
   intro k xs e h;subst h;rw [J5 hi] at e;cases e
 refine⟨J5 (by rw [<- S1.len];exact hi),E.dic,E.lk,E.ly,E.nd,fun b hb=>⟨fun z=>nG b hb (S1.pots b z).1,fun z=>nG b hb (S1.sup b z),S1.old (hn b hb)⟩,E.inn,?_,S1.p0.1⟩;refine { frame:=fun b o hb e=>?_,sub:=fun a ha=>?_,sup:=fun a ha=>?_,pots:=fun p hp=>⟨gm p (S1.pots p hp).1,hpots p hp⟩,pre:=S1.pre,mu:=hmu,slots:=fun k s e=>?_,inj:=fun k l xs ys b e1 e2 e3 e4=>?_,p0:=⟨fun p hp=>G4 _ (S1.p0.1 p hp),S1.p0.2⟩,len:=by rw [G6,G6];exact S1.len,newp:=fun p hp h1 h2=>?_ }
 · by_cases h:b∈D::as
   · rw [Hv h] at e;exact e
   · rw [Aq h] at e;exact Sb.frame b o hb e
 · by_cases h:a∈D::as
   · exact .inl (U7 _ h)
   · have ga:a∈G.M:=by
       rcases(E.mem a).mp ha with z | z | z
       · exact absurd (B3 _ z) h
       · exact absurd (by rw [z];exact B8) h
       · exact z
     rcases Sb.sub a ga with z | z
     · exact .inl (G4 _ z)
     · exact .inr (by rw [Aq h];exact z)
 · rcases K8.mp ha with z | z
   · exact dm a z
   · exact gm a (S1.sup a z)
 · by_cases hk:i=k
   · subst hk;rw [J5 hi] at e;cases e
   · rw [F9 hk] at e ⊢;have q:=S1.slots k s e;cases s with
     | v x =>
       obtain⟨v,e1,r⟩:=q;exact⟨v,e1,Rep.mono (G':=⟨M,G.pots⟩) kp nw (fun _ _ e=>e) _ _ r⟩
     | ow kk xs =>
       obtain⟨c,us,e1,h1,h2,h3,h4,r⟩:=q;exact⟨c,us,e1,gm c h1,fun z=>(K8.mp z).elim (fun z=>nG c z h1) h2,h3,E.keep c _ h3 h4,Reps.mono (G':=⟨M,G.pots⟩) kp nw (fun _ _ e=>e) _ _ r⟩
 · have m1:=ni k xs e1;have m2:=ni l ys e2;rw [F9 m1] at e1 e3;rw [F9 m2] at e2 e4;exact S1.inj k l xs ys b e1 e2 e3 e4
 · rcases K8.mp h2 with z | z
   · exact nG p z (S1.pots p hp).1
   · exact S1.newp p hp h1 z
def qDl (i:Nat)(cs:List (Option Nat))(pi:pA)(pg:pG)(pk:pE)(pn:pA)(pd:pD)(ps:pS):pS:=fun D env n=>pi env n fun xs env1 n1=>xs.length<=1000000/\i < env1.length/\klL pg pk pn xs [] [] (capV cs env1) n1 fun ks yss n2=>pd ks (fun env2 n3 yss2=>ps D (env2.set i (some (.v (.dct ks (yss2.map PV.lst))))) n3) (env1.set i none) n2 yss
end Pu
end
section
namespace L2
open PySem PySem.Spec PyProof.Rows
theorem evalDC {env:Env}(kx vx gens scope pos):eval (.DictComp kx vx gens scope pos) env=comprehension (.DictComp kx vx gens scope pos) scope env (firstIterPos gens pos) newDict (firstAsync gens) (firstIter gens env):=rfl
theorem RN {X:Cx}{scope:Scope}{cl:List (Str×Addr)}{N:List Str}{cs:List (Option Nat)}{kx vx tg iter:Expr}{ifs:List Expr}{pos:Pos}{wi:TI}{g:TG}{tt:TT}{tk tv:TE}(S:X8 X scope cl N cs)(hc:X.calm=true)(hi:PI X tg iter wi)
   (hb:∀(fp:List Addr) (C:Addr) (s:Shared) (H:Hp),PG (D3 X scope cl N fp C s H) tg g/\PIf (D3 X scope cl N fp C s H) ifs tt/\PE (D3 X scope cl N fp C s H) kx tk/\PE (D3 X scope cl N fp C s H) vx tv)
   (hs:∀x,P1 iter X.env x=pure x:=by intro _;rfl) :
   PE X (.DictComp kx vx [⟨tg,iter,ifs,0⟩] scope pos) (tCompD cs wi g tt tk tv):=by
 intro pins s σ H Q I h;rw [evalDC];refine Df (use:=none) rfl hs S.clos S.kind S.names (thn (hi pins s σ H _ I h) fun v s1 h1=>thn h1 fun itv s2 h2=>?_);obtain⟨it,fp,tn,J,H2,rfl,I2,T,st2,f2,q⟩:=h2
 have ho:∀b∈fp,∃o,s2.heap.get? b=some o:=fun b hb=>by
   obtain⟨o,e,_⟩:=T.obj 0 _ st2 b hb;exact⟨o,e⟩
 refine O6 (BC S.nocell (by intro y hy;simp at hy) (fun h₁ hns₁ hsb₁=>?_) S.kind);dsimp only at hns₁ hsb₁ ⊢;have hC:(s2.heap.push { cls:=.type "dict",dict:=none,data:=.dict #[] }).objs.size=s2.heap.objs.size + 1:=by rw [U6]
 generalize hH2:s2.heap.push { cls:=.type "dict",dict:=none,data:=.dict #[] }=hp2 at hns₁ hsb₁ hC ⊢;have old:∀b o,s2.heap.get? b=some o->h₁.get? b=some o:=fun b o e=>hsb₁.extBut b o (by rw [hC];exact C3 (O3 (C0 e))) (B7 _ (hH2▸B7 _ e));have hD:h₁.get? s2.heap.objs.size=some { cls:=.type "dict",data:=.dict #[] }:=hsb₁.extBut _ _ (by rw [hC];exact C3 (BP _)) (B7 _ (hH2▸F3 _ rfl));rw [hC] at hns₁ ⊢;obtain⟨W,⟨m0,w0⟩,turn⟩:=q s2.heap.objs.size I2.fresh;have Ic:=Qh S (tk:=s2.toks + ([]:List (Str×Value)).length) I2 f2 ho old hns₁ hD;have nstk:∀b,b≠X.env.locals->b∉X.fs->b∉frs X.stack:=fun b h1 h2 hb=>(B6.mp (I2.stkSub b hb)).elim h1 h2
 have stat:∀{H':Hp},(∀b∈fp,H' b=none)->∀b∈fp,FpOk (D3 X scope cl N fp (s2.heap.objs.size + 1) s2 H2) pins H' b:=fun hn b hb=>by
   obtain⟨o,e⟩:=ho b hb;exact⟨hn b hb,C3 (O3 (C0 e)),nstk b (f2 b hb).2.1 (f2 b hb).2.2.1,.inl hb,fun x c ec=>(f2 b hb).2.2.2.2.1 x c (S.sub x c ec),(f2 b hb).2.2.2.2.2⟩
 obtain⟨hg,hf,hk,hv⟩:=hb fp (s2.heap.objs.size + 1) s2 H2;have st1:tn 0 h₁:=T.keep _ _ _ st2 fun b hb o e=>old b o e
 have fr1:∀b∈fp,upd H2 s2.heap.objs.size (.dK []) b=none:=fun b hb=>by
   obtain⟨o,e⟩:=ho b hb;rw [A7 (C3 (C0 e))];exact(f2 b hb).1
 have loop:∀s₃:Shared,s₃={ s2 with heap:=h₁,toks:=s2.toks + ([]:List (Str×Value)).length }->
     M9 (model X.prog X.w) X.A (.compLoop (.DictComp kx vx [⟨tg,iter,ifs,0⟩] scope pos) 0 (.ref it) (.ref s2.heap.objs.size) (compEnvC scope cl (s2.heap.objs.size + 1) X.env))
       (compPost (model X.prog X.w) X.A X.xe none (EP X pins σ Q) (.ref s2.heap.objs.size) (s2.heap.objs.size + 1)) s₃:=by
   rintro s₃ rfl;refine Qg (fun n s'=>∃i σ' H',Inv (D3 X scope cl N fp (s2.heap.objs.size + 1) s2 H2) pins σ' H' s'/\tn i s'.heap/\(∀b∈fp,H' b=none)/\W i n σ' H') ?_ m0 ⟨0,_,_,Ic,st1,fr1,w0⟩;rintro n s3 ⟨i,σ3,H3,I3,st3,fr3,w3⟩;rcases turn i n σ3 H3 w3 with⟨stop,qn⟩ | ⟨go,step⟩
   · refine thn (T.done (D3 X scope cl N fp (s2.heap.objs.size + 1) s2 H2) rfl rfl rfl hc i pins s3 σ3 H3 (fun _ _=>False) I3 (stat fr3) st3 stop) fun r s4 ⟨hr,I4⟩=>?_;subst hr;obtain⟨m4,hn4,_⟩:=I4.loc;exact⟨m4,hn4,fun h' hs'=>⟨.ref s2.heap.objs.size,H3,Inv.uncomp I2 f2 I4 fun b hb=>hs'.2 b hb,rfl,qn⟩⟩
   · refine thn (T.item (D3 X scope cl N fp (s2.heap.objs.size + 1) s2 H2) rfl rfl rfl hc i pins s3 σ3 H3 (fun _ _=>False) I3 (stat fr3) st3 go) fun r s4 ⟨u,hr,h4⟩=>?_;subst hr;refine thn h4 fun _ s5 ⟨x,H5,I5,r5,y5,st5,fr5⟩=>?_;have I5':=I5.pinned (stat fr5) (T.obj _ _ st5);refine thn (hg _ s5 σ3 H5 x u _ I5' r5 (step x H5 y5)) fun _ s6 ⟨σ6,H6,I6,q6⟩=>?_
     have again:∀{σ7:St} {H7:Hp} {s7:Shared},Inv (D3 X scope cl N fp (s2.heap.objs.size + 1) s2 H2) (pins++x6 fp s5.heap) σ7 H7 s7->(∃m',m' < n/\W (i + 1) m' σ7 H7)->
         ∃m,m < n/\∃i σ' H',Inv (D3 X scope cl N fp (s2.heap.objs.size + 1) s2 H2) pins σ' H' s7/\tn i s7.heap/\(∀b∈fp,H' b=none)/\W i m σ' H':=fun {σ7 H7 s7} I7 n7=>by
       obtain⟨m',hm,w7⟩:=n7;refine⟨m',hm,i + 1,σ7,H7,I7.unpinned,T.keep _ _ _ st5 fun b hb o e=>(I7.pin (b,o) (G4 _ (G4 _ (Cc hb e)))).1,fun b hb=>?_,w7⟩;obtain⟨o,e,d⟩:=T.obj _ _ st5 b hb;exact(I7.pin (b,o) (G4 _ (G4 _ (Cc hb e)))).2.1
     refine thn (hf _ s6 σ6 H6 _ I6 q6) fun ok s7 ⟨H7,I7,q7⟩=>?_;cases ok with
     | false=>exact again I7 q7
     | true =>
       refine thn (hk _ s7 σ6 H7 _ I7 q7) fun ku s8 ⟨k8,H8,I8,rk,q8⟩=>?_;refine thn (hv _ s8 σ6 H8 _ I8 q8) fun vu s9 ⟨v9,H9,I9,rv,kvs,kk,ek,e9,z9,n9⟩=>?_;subst ek;obtain⟨z,hd,vs,rel,dd⟩:=GH I9.hok e9;have hz:vs.length<=B5:=by rw [<- rel.length];exact z
       have hl:(putK kvs kk v9).length<=B5:=by have:=Ex kvs kk v9;omega
       refine wpAny_dictSet_pairs (hsz:=hz) (Ac rk) dd fun h' dd' hs=>again (σ7:=σ6) ?_ n9;have he:∃q,h'.get? s2.heap.objs.size=some q:=let ⟨q,_,_,hq,_⟩:=dd';⟨q,hq⟩;exact Ey I9 (by rw [e9];exact x5) hs he (GI hl hd (rel.put kk rv) dd')
 exact codeAny_compStart_dict (loop _ rfl) (T.self _ 0 _ _ _ st1 (loop _ rfl))
end L2
end
section
namespace Pu
open PySem PySem.Spec L2
section
variable {T:PotK}{np:Bool}{ι:Type}{K:A4}{F:ι->Cx}{pg:pG}{pos spos py:Pos}{y:Str}{pk:pE}{pn:pA}{pd:pD}{ps:pS}
theorem RO (i:Nat){scope:Scope}{cl:ι->List (Str×Addr)}{N:List Str}{cs:List (Option Nat)}{kx vx tg iter:Expr}{pi:pA}{st:Stmt}{rest:List Stmt}(S:∀z,X8 (F z) scope (cl z) N cs)(hc:∀z,(F z).calm=true)(hi:QI T K F tg iter pi)
   (hg:QG K (fun y:ι×List Addr×Addr×Shared×Hp=>D3 (F y.1) scope (cl y.1) N y.2.1 y.2.2.1 y.2.2.2.1 y.2.2.2.2) tg pg)
   (hk:QE T K (fun y:ι×List Addr×Addr×Shared×Hp=>D3 (F y.1) scope (cl y.1) N y.2.1 y.2.2.1 y.2.2.2.1 y.2.2.2.2) kx pk)
   (hv:QN T K (fun y:ι×List Addr×Addr×Shared×Hp=>D3 (F y.1) scope (cl y.1) N y.2.1 y.2.2.1 y.2.2.2.1 y.2.2.2.2) vx pn)
   (h:∀z te,EW (F z) (.DictComp kx vx [⟨tg,iter,[],0⟩] scope pos) te->SW (F z) (.Assign [.Name y py] (.DictComp kx vx [⟨tg,iter,[],0⟩] scope pos) spos) (tAsg te (K6 i))) (hd:QD T K F i st pd) (hr:QSs T np K F rest ps)
   (hs:∀z x,P1 iter (F z).env x=pure x:=by intro _ _;rfl):QSs T np K F (.Assign [.Name y py] (.DictComp kx vx [⟨tg,iter,[],0⟩] scope pos) spos::st::rest) (qDl i cs pi pg pk pn pd ps):=by
 obtain⟨wi,i1,i2⟩:=hi;obtain⟨g,hg0,hg⟩:=hg;obtain⟨tk,hk0,hk⟩:=hk;obtain⟨tv,hv0,hv⟩:=hv;obtain⟨td,d1,d2⟩:=hd;obtain⟨tr,r1,r2⟩:=hr;refine⟨_,fun z=>U9 (h z _ ⟨RN (S z) (hc z) (i1 z) (fun fp C s H=>⟨hg0 (z,fp,C,s,H),IW,hk0 (z,fp,C,s,H),hv0 (z,fp,C,s,H)⟩) (hs z)⟩).h (U9 (d1 z) (r1 z)),fun C G σ H env n PD DD hK hT hn S hp L=>?_⟩;refine i2 C G σ H env n _ _ hK hT S hp fun xs env1 n1 J H1 p1 S1 f1 hJ=>?_;intro D hD;obtain⟨pl,hi,pc⟩:=p1;refine kl_ok (G:=G) hg hk hv hJ pl hD (hT▸hK▸Em S1 cs) pc fun ks yss n2 M as H' rr hpots hmu E=>?_;have J0:DJ C i D as ks ⟨M,G.pots⟩ (σ.set i (some (.ref D))) H' (env1.set i none) n2 yss:=dj_of S1 hi hD (by rw [hT];exact hpots) hmu (by rw [hK,hT];exact E);refine d2 C ⟨M,G.pots⟩ _ H' (env1.set i none) n2 D as ks yss _ _ hK hT J0 rr fun env2 n3 yss2 σ2 H2 q2 J2 f2=>?_;refine r2 C _ σ2 H2 _ n3 PD DD hK hT hn J2.freeze q2 (L.ext ⟨fun b o hb e=>?_,fun c hc=>?_,fun _ _ e=>e⟩)
 · have e1:=f1 b o hb e;refine f2 b o (fun z=>?_) (E.keep b o (fun z=>hb (S1.pots b z).1) e1);rcases(E.mem b).mp z with z | z | z
   · rw [E.new b z] at e1;cases e1
   · rw [z,hD] at e1;cases e1
   · exact hb z
 · obtain⟨h1,h2⟩:=O8.mp hc;have h3:c∉D::as:=of_decide_eq_true h2;rcases(E.mem c).mp h1 with z | z | z
   · exact absurd (B3 _ z) h3
   · exact absurd (by rw [z];exact B8) h3
   · exact .inl z
end
end Pu
end
section
namespace L2
open PySem PySem.Spec PyProof.Rows
def PrsK (H:Hp):List V->List (Key×V)->Prop:=Paired fun v q=>∃p,v=.ref p/\H p=some (.tup [kV q.1,q.2])
end L2
end
section
namespace Pu
open PySem PySem.Spec L2
structure KP (K:A4)(T:PotK)(G:Gh)(H1:Hp)(D:Addr)(M:List Addr)(as:List Addr)(ws:List V)(ks:List Key)(yss:List (List PV))(H:Hp):Prop where
 mem:∀c,c∈M↔c∈as\/c=D\/c∈G.M
 keep:∀b o,b∉G.pots->H1 b=some o->H b=some o
 lst:H D=some (.lst ws)
 lw:ws.length=as.length
 pr:PrsK H ws (ks.zip (as.map V.ref))
 lk:ks.length=as.length
 ly:yss.length=as.length
 nk:ks.Nodup
 nd:(D::as).Nodup
 new:∀b∈as,H1 b=none
 inn:∀(k:Nat) (b:Addr) (ys:List PV),as[k]?=some b->yss[k]?=some ys->∃vs,H b=some (.lst vs)/\Reps K ⟨M,G.pots⟩ H ys vs
end Pu
end
section
namespace Pu
open PySem PySem.Spec L2
theorem SR.m0 (S:SR C G σ H env n)(h:∀b,b∈C.M0↔b∈M'):SR { C with M0:=M' } G σ H env n where
 frame:=S.frame
 sub:=fun a ha=>(S.sub a ha).imp (h a).mp id
 sup:=fun a ha=>S.sup a ((h a).mpr ha)
 pots:=S.pots
 pre:=S.pre
 mu:=S.mu
 slots:=fun i s e=>by
   have q:=S.slots i s e;cases s with
   | v x=>exact q
   | ow k xs =>
     obtain⟨a,vs,e1,h1,h2,h3,h4,r⟩:=q;exact⟨a,vs,e1,h1,fun z=>h2 ((h a).mpr z),h3,h4,r⟩
 inj:=S.inj
 p0:=⟨fun p hp=>(h p).mp (S.p0.1 p hp),S.p0.2⟩
 len:=S.len
 newp:=fun p hp h1 h2=>S.newp p hp h1 ((h p).mpr h2)
end Pu
end
section
namespace L2
open PySem PySem.Spec PyProof.Rows
section
variable {X:Cx}
def dnV (i:Int)(m:Nat):List V:=(C2 m).map fun(k:Nat)=>.int (i - k)
def tListD (ta:TA):TE:=fun σ H Q=>ta σ H fun vs H1=>∃i j:Int,vs=[.int i,.int j,.int (-1)]/\(-1000000<=i/\i<=1000000/\-1000000<=j/\j<=1000000)/\∀l,H1 l=none->Q (.ref l) (upd H1 l (.lst (dnV i (i - j).toNat)))
theorem RQ {a b c:Expr}{ta:TA}{p1 p2 pos1 pos2:Pos}(hc:X.calm=true)(g1:Gl X "list")(m1:X.mg "list"=none)(g2:Gl X "range")(m2:X.mg "range"=none)(ha:PA X [a,b,c] ta)(hs:D6 [a,b,c] X.env=(false,eval a X.env)::D6 [b,c] X.env:=by rfl)(hs2:(backTo pos2 (D6 [b,c] X.env)).any (·.1)=false:=by rfl) :
   PE X (.Call (.Name "list" p1) [.Call (.Name "range" p2) [a,b,c] [] pos2] [] pos1) (tListD ta):=by
 intro pins s σ H Q I h;refine At (b0 I g1 m1 Gm (o0 (AR ?_) rfl rfl));refine At (b0 I g2 m2 boot_range (o0 (thn (ha pos2 pins s σ H _ I h) fun us s1 h1=>?_) hs hs2));obtain⟨vs,H1,I1,r1,i,j,rfl,⟨i0,i1,j0,j1⟩,q⟩:=h1;cases r1 with
 | cons r rr=>
 cases rr with
 | cons r' rr=>
 cases rr with
 | cons r'' rr =>
   cases rr;obtain⟨t,rfl⟩:=r;obtain⟨t',rfl⟩:=r';obtain⟨t'',rfl⟩:=r'';have hh:X.A.handled=none:=I1.ok.hd hc;refine call_range_3 (by decide) ?_ (.inl (PyProof.noPylong_small (by omega)));refine A5 ?_;have hn:AK i j (-1)=((i - j).toNat:Int):=by rw [JO];split <;> omega
   refine call_list_range (s:={ s1 with heap:=s1.heap.push { cls:=.type "range",data:=.fields #[.int i t,.int j t',.int (-1) t''] } }) hh (IsRange.new ..) (Oz i0 i1 j0 j1) hn (by omega) fun h' tk acc c hk hD hI=>?_;have hs1:s1.heap.objs.size<=(s1.heap.push { cls:=.type "range",data:=.fields #[.int i t,.int j t',.int (-1) t''] }).objs.size:=by rw [U6];exact Z3 _
   generalize (s1.heap.push { cls:=.type "range",data:=.fields #[.int i t,.int j t',.int (-1) t''] }).objs.size=D at hs1 hD ⊢
   have va:Vals (dnV i (i - j).toNat) acc.toList:=by
     unfold dnV;refine Ke _ _ (by have:=hI.1;rw [B2,w5,T1];omega) fun p x u e1 e2=>?_;obtain⟨w,rfl⟩:=hI.2 p u (by simpa using e2);rw [F6] at e1;cases e:(C2 (i - j).toNat)[p]? with
     | none=>rw [e] at e1;cases e1
     | some k =>
       rw [e] at e1;cases e1;obtain⟨_,ek⟩:=D9.mp e;rw [Dt] at ek;subst ek;exact⟨w,by congr 1;omega⟩
   exact⟨.ref D,_,I1.laid (t':=tk) (o:=.lst (dnV i (i - j).toNat)) (fun b o e=>hk b o (B7 _ e)) hs1 ⟨by unfold dnV;rw [B2,w5];unfold B5;omega,acc.toList,c,va,by simpa using hD⟩,rfl,q _ (I1.hok.fresh hs1)⟩
end
end L2
namespace Pu
open PySem PySem.Spec L2
section
variable {T:PotK}{ι:Type}{K:A4}{F:ι->Cx}{a b:Expr}{pa pb:pE}{pos pos2 p1 p2:Pos}
theorem RS {G:Gh}{H:Hp}(i:Int):∀l:List Nat,Reps K G H (l.map fun(k:Nat)=>PV.int (i - k)) (l.map fun(k:Nat)=>V.int (i - k)):=by
 intro xq
 induction xq with
 | nil =>
   exact rfl
 | cons k l ih =>
   exact⟨_,_,rfl,rfl,ih⟩
theorem RT {p3 p4:Pos}{k1:Nat}(hc:∀z,(F z).calm=true)(g1:∀z,Gl (F z) "list")(m1:∀z,(F z).mg "list"=none)(g2:∀z,Gl (F z) "range")(m2:∀z,(F z).mg "range"=none)(ha:QE T K F a pa)(hb:QE T K F b pb)(hs:E5 a=true:=by rfl)(hs2:E5 b=true:=by rfl):QN T K F (.Call (.Name "list" p1) [.Call (.Name "range" p2) [a,b,.UnaryOp .USub (.Constant (.int 1) k1 p3) p4] [] pos2] [] pos) (GP pa pb):=by
 obtain⟨t,h1,h2⟩:=ha;obtain⟨u,h3,h4⟩:=hb;refine⟨_,fun z=>RQ (hc z) (g1 z) (m1 z) (g2 z) (m2 z) (E9 (h1 z) (E9 (h3 z) (E9 (FT FV K9) G7) (C8 hs2)) (C8 hs)) (C8 hs) (by rw [C8 hs2];rfl),fun C G σ H env n R Q hK hT S hp k=>?_⟩;refine h2 C G σ H env n _ _ hK hT S hp fun x env1 n1 v H1 p1 S1 r1 f1=>?_;refine h4 C G σ H1 env1 n1 _ _ hK hT S1 p1 fun y env2 n2 w H2 p2 S2 r2 f2=>?_;cases x with
 | int i =>
   cases y with
   | int j=>exact⟨1,rfl,i,j,by rw [show v=.int i from r1,show w=.int j from r2],⟨by omega,by omega,by omega,by omega⟩,fun l hl=>k _ _ _ _ _ _ p2.2 S2 (f1.trans f2) hl (RS i _)⟩
   | _=>exact p2.elim
 | _=>exact p2.elim
end
end Pu
end
section
namespace Tb
open PySem L2 Pu
abbrev N9:pF:=Bw
abbrev lamP:PySem.Pos:=⟨73,48,73,88⟩
abbrev lamQ:PySem.Str:=A3 "order_of.<locals>.<lambda>"
def La:pS:=(qSeq (qPar 2 3 (sV (qC (.str (A3 "abcdefghijklmnopqrstuvwxyz")))) (sV (qC (.str (A3 "")))))
   (qSeq (qSet 4 (qOp wIx (qL (qLst (A1 (qC (.int 1)) (A1 (qC (.int 3)) (A1 (qC (.int 5)) (A1 (qC (.int 7)) (A1 (qC (.int 9)) (A1 (qC (.int 11)) (A1 (qC (.int 15)) (A1 (qC (.int 17)) (A1 (qC (.int 19)) (A1 (qC (.int 21)) qNil)))))))))))) (B9 N9 (A1 (qV 0) (A1 (qC (.int 10)) qNil)))))
   (qSeq (qSet 5 (B9 N9 (A1 (qV 0) (A1 (qC (.int 26)) qNil))))
   (qSeq (qFor (Be (qC (.int 7))) (gN 6) (qSet 3 (qOp wAdd (qV 3) (qOp wIx (qV 2) (B9 N9 (A1 (qV 0) (A1 (qC (.int 26)) qNil)))))))
   (qSeq (qSet 7 (B9 N9 (A1 (qV 0) (A1 (qC (.int 8)) qNil))))
   (qSeq (qOwn 8 (qLst qNil))
   (qSeq (qFor (Be (qV 1)) (gN 6) (qSeq (qPar 9 10 (sV (qOp wAdd (qV 7) (B9 N9 (A1 (qV 0) (A1 (qOp wSub (qC (.int 8)) (qV 7)) qNil))))) (sV (qOp wIx (qV 2) (qOp wMod (qOp wAdd (qV 5) (qOp wMul (qV 4) (qV 6))) (qC (.int 26))))))
   (O9 (T7 8 (qOp wAdd (qOp wAdd (qSl (qV 3) qNo (K7 (qV 7))) (qV 10)) (qSl (qV 3) (K7 (qV 7)) (K7 (qV 9))))))))
   (qSeq (qSet 11 (qOp wIx (qL (qLst (A1 (qC (.str (A3 "drop"))) (A1 (qC (.str (A3 "touch"))) (A1 (qC (.str (A3 "none"))) (A1 (qC (.str (A3 "d"))) (A1 (qC (.str (A3 "u"))) (A1 (qC (.str (A3 "t"))) (A1 (qC (.str (A3 "o"))) qNil))))))))) (B9 N9 (A1 (qV 0) (A1 (qC (.int 7)) qNil)))))
   (qSeq (qIfS (qAnd (qB (qOp (wIn 4 true) (qV 11) (qO 8))) (qB (qOp (wEq 4) (B9 N9 (A1 (qV 0) (A1 (qC (.int 3)) qNil))) (qC (.int 0))))) (qPut 8 (qV 11) (B9 N9 (A1 (qV 0) (A1 (qV 1) qNil)))) qNx)
   (qRet (qUn P7 (qO 8))))))))))))
def HA:pF:=fnP ["_law_draws","_law_many","_law_letters","_law_stem","_law_step","_law_first","_law_k","_law_at","_law_found","_law_far","_law_sign","_law_word_here"] ["_law_draws","_law_many"] La
def Lb:pS:=(qSeq (qSet 2 (qTup (A1 (qOp wAdd (qC (.int 1)) (B9 N9 (A1 (qV 0) (A1 (qC (.int 8)) qNil)))) (A1 (qOp wIx (qL (qLst (A1 (qC (.int 0)) (A1 (qC (.int 1)) (A1 (qC (.int 7)) (A1 (B9 N9 (A1 (qV 0) (A1 (qC (.int 8)) qNil))) qNil)))))) (B9 N9 (A1 (qV 0) (A1 (qC (.int 4)) qNil)))) qNil))))
   (qSeq (qSet 3 (qOp wIx (qL (qLst (A1 (qOp wAdd (qC (.int 1)) (B9 N9 (A1 (qV 0) (A1 (qV 1) qNil)))) (A1 (qOp wAdd (qC (.int 1)) (B9 N9 (A1 (qV 0) (A1 (qOp wMin (qV 1) (qC (.int 6))) qNil)))) qNil)))) (B9 N9 (A1 (qV 0) (A1 (qC (.int 2)) qNil)))))
   (qRet (qTup (A1 (qV 2) (A1 (B9 HA (A1 (qV 0) (A1 (qV 3) qNil))) qNil))))))
def HB:pF:=fnP ["_law_draws","_law_most","_law_meeting","_law_many"] ["_law_draws","_law_most"] Lb
def Lc:pS:=(qSeq (qSet 3 (qOp wIx (qV 0) (qC (.int 0))))
   (qSeq (qSet 4 (qOp wMul (qV 2) (qV 3)))
   (qRet (qTup (A1 (qV 4) (A1 (qIf (qB (qOp wLt (qOp wAdd (qV 4) (qV 3)) (qV 1))) (qOp wAdd (qV 4) (qV 3)) (qOp wSub (qV 1) (qC (.int 1)))) qNil))))))
def E_:pF:=fnP ["_law_meeting","_law_n","_law_k","_law_size","_law_first"] ["_law_meeting","_law_n","_law_k"] Lc
def Ld:pS:=(qSeq (qPar 2 3 (sO (qLst qNil)) (sO (qLst qNil)))
   (qSeq (qFor (qZip false true (qV 0) (qV 1)) (gTp 2 (gCn (gN 4) (gCn (gN 5) gNl))) (qIfS (qB (qOp (wEq 4) (qV 5) (qC (.str (A3 "t"))))) (O9 (T7 2 (qV 4))) (qIfS (qB (qOp (wEq 4) (qV 5) (qC (.str (A3 "u"))))) (O9 (T7 3 (qTup (A1 (qC (.str (A3 "touch"))) (A1 (qV 4) (A1 (qPop 2) qNil)))))) (qIfS (qB (qOp (wEq 4) (qV 5) (qC (.str (A3 "d"))))) (O9 (T7 3 (qTup (A1 (qC (.str (A3 "drop"))) (A1 (qV 4) qNil))))) qNx))))
   (qRet (qUn P7 (qL (EI (qO 3)))))))
def HC:pF:=fnP ["_law_start","_law_marks","_law_pile","_law_events","_law_boat","_law_mark"] ["_law_start","_law_marks"] Ld
def Le:pS:=(qRet (qOp Eb (qOp wSub (qOp wAdd (qV 1) (qOp wIx (qV 0) (qC (.int 0)))) (qC (.int 1))) (qOp wIx (qV 0) (qC (.int 0)))))
def Fa:pF:=fnP ["_law_meeting","_law_n"] ["_law_meeting","_law_n"] Le
def Lf:pS:=(qSeq (qPar 3 4 (sO (qLst qNil)) (sO (qLst qNil)))
   (qSeq (qFor (Be (qV 1)) (gN 5) (qSeq (Jv (qAnd (qB (qOpR (wNe 4) (qO 4) (qL (qLst qNil)))) (qB (qOp wGt (qOp wSub (qOp wSub (qV 5) (qOpR wIx (qO 4) (qUn wNeg (qC (.int 1))))) (qC (.int 1))) (qV 2)))) (qPut 3 (qC (.str (A3 "d"))) (qPop 4)))
   (qSeq (qSet 6 (B9 N9 (A1 (qV 0) (A1 (qC (.int 5)) qNil))))
   (qIfS (qAnd (qB (qOpR (wNe 4) (qO 4) (qL (qLst qNil)))) (qB (qOp wLt (qV 6) (qC (.int 2))))) (qSeq (qPut 3 (qC (.str (A3 "t"))) (qPop 4))
   (O9 (T7 3 (qC (.str (A3 "u")))))) (qIfS (qOr (qB (qOp (wEq 4) (qV 6) (qC (.int 2)))) (qB (qOp (wEq 4) (qV 6) (qC (.int 3))))) (qSeq (O9 (T7 4 (qV 5)))
   (O9 (T7 3 (qC (.str (A3 "d")))))) (O9 (T7 3 (qIf (qB (qOpR (wNe 4) (qO 4) (qL (qLst qNil)))) (qC (.str (A3 "d"))) (qOp wIx (qL (qLst (A1 (qC (.str (A3 "o"))) (A1 (qC (.str (A3 "o"))) (A1 (qC (.str (A3 "d"))) qNil))))) (B9 N9 (A1 (qV 0) (A1 (qC (.int 3)) qNil))))))))))))
   (Er 3)))
def HD:pF:=fnP ["_law_draws","_law_many","_law_reach","_law_marks","_law_pile","_law_k","_law_way"] ["_law_draws","_law_many","_law_reach"] Lf
def Lg:pS:=(qSeq (qOwn 2 (Cv (qV 0)))
   (qSeq (qFor (qIt (qV 1)) (gN 3) (qIfS (qB (qOp (wEq 4) (qOp wIx (qV 3) (qC (.int 0))) (qC (.str (A3 "touch"))))) (qSeq (qPut 2 (qOp wIx (qV 3) (qC (.int 2))) (T9 (qV 0) (qOp wIx (qV 3) (qC (.int 1)))))
   (qPut 2 (qOp wIx (qV 3) (qC (.int 1))) (T9 (qV 0) (qOp wIx (qV 3) (qC (.int 2)))))) qNx))
   (qRet (qUn P7 (qO 2)))))
def HE:pF:=fnP ["_law_start","_law_sheet_here","_law_found","_law_event"] ["_law_start","_law_sheet_here"] Lg
def Lh:pS:=(qSeq (qPar 3 4 (sO (qLst qNil)) (sO (qLst qNil)))
   (qSeq (qFor (Ai (B9 Fa (A1 (qV 1) (A1 (qUn wLen (qV 2)) qNil)))) (gN 5) (qSeq (qAsg (B9 E_ (A1 (qV 1) (A1 (qUn wLen (qV 2)) (A1 (qV 5) qNil)))) (gTp 2 (gCn (gN 6) (gCn (gN 7) gNl))))
   (qSeq (qSet 8 (qSl (qV 2) (K7 (qV 6)) (K7 (qOp wAdd (qV 7) (qC (.int 1))))))
   (qSeq (qSet 9 (B9 HC (A1 (qV 8) (A1 (B9 HD (A1 (qV 0) (A1 (qUn wLen (qV 8)) (A1 (qOp wIx (qV 1) (qC (.int 1))) qNil)))) qNil))))
   (qSeq (qSet 2 (qOp wAdd (qOp wAdd (qSl (qV 2) qNo (K7 (qV 6))) (B9 HE (A1 (qV 8) (A1 (qV 9) qNil)))) (qSl (qV 2) (K7 (qOp wAdd (qV 7) (qC (.int 1)))) qNo)))
   (qSeq (O9 (EM 3 (qC (.int 0)) (qV 9)))
   (O9 (EM 4 (qC (.int 0)) (qV 8)))))))))
   (qRet (qTup (A1 (qUn P7 (qO 3)) (A1 (qUn P7 (qO 4)) (A1 (qV 2) qNil)))))))
def HF:pF:=fnP ["_law_draws","_law_meeting","_law_row","_law_sheets","_law_starts","_law_k","_law_first","_law_last","_law_start","_law_sheet_here"] ["_law_draws","_law_meeting","_law_row"] Lh
def Li:pS:=(qSeq (qSet 3 (qOp wIx (qV 0) (qC (.int 0))))
   (qSeq (qSet 4 (qOp wMul (qV 2) (qV 3)))
   (qRet (qTup (A1 (qV 4) (A1 (qOp wMin (qOp wAdd (qV 4) (qV 3)) (qOp wSub (qV 1) (qC (.int 1)))) qNil))))))
def Fb:pF:=fnP ["meeting","n","k","size","first"] ["meeting","n","k"] Li
def Lj:pS:=(qSeq (qAsg (B9 Fb (A1 (qV 0) (A1 (qUn wLen (qV 1)) (A1 (qV 2) qNil)))) (gTp 2 (gCn (gN 4) (gCn (gN 5) gNl))))
   (qRet (qOp wAdd (qOp wAdd (qSl (qV 1) qNo (K7 (qV 4))) (qV 3)) (qSl (qV 1) (K7 (qOp wAdd (qV 5) (qC (.int 1)))) qNo))))
def HG:pF:=fnP ["meeting","row","k","boats","first","last"] ["meeting","row","k","boats"] Lj
def Lk:pS:=(qRet (qL (V4 [none] (qIt (qV 0)) (gN 0) (qB (qOp (wEq 4) (qOp wIx (qV 0) (qC (.int 0))) (qC (.str (A3 "touch"))))) (qV 0))))
def u7:pF:=fnP ["events"] ["events"] Lk
def Ll:pS:=(qSeq (qOwn 3 (Cv (qV 0)))
   (qSeq (Hj 3 (qOp wIx (qV 0) (qV 2)) (qOp wIx (qV 0) (qV 1)) (qV 1) (qV 2))
   (qRet (qUn P7 (qO 3)))))
def HH:pF:=fnP ["row","one","other","boats"] ["row","one","other"] Ll
def Lm:pS:=(qSeq (qSet 2 (qV 0))
   (qSeq (qFor (qIl (B9 u7 (A1 (qV 1) qNil))) (gN 3) (qSet 2 (B9 HH (A1 (qV 2) (A1 (T9 (qV 0) (qOp wIx (qV 3) (qC (.int 1)))) (A1 (T9 (qV 0) (qOp wIx (qV 3) (qC (.int 2)))) qNil))))))
   (qRet (qV 2))))
def HI:pF:=fnP ["start","sheet","row","touch"] ["start","sheet"] Lm
def Ln:pS:=(qSeq (qAsg (B9 Fb (A1 (qV 0) (A1 (qUn wLen (qV 1)) (A1 (qV 2) qNil)))) (gTp 2 (gCn (gN 3) (gCn (gN 4) gNl))))
   (qRet (qSl (qV 1) (K7 (qV 3)) (K7 (qOp wAdd (qV 4) (qC (.int 1)))))))
def Dc:pF:=fnP ["meeting","row","k","first","last"] ["meeting","row","k"] Ln
def Lo:pS:=(qRet (B9 HG (A1 (qV 0) (A1 (qV 1) (A1 (qV 2) (A1 (B9 HI (A1 (B9 Dc (A1 (qV 0) (A1 (qV 1) (A1 (qV 2) qNil)))) (A1 (qV 3) qNil))) qNil))))))
def Fc:pF:=fnP ["meeting","row","k","sheet"] ["meeting","row","k","sheet"] Lo
def Lp:pS:=(qSeq (qOwn 3 (qLst qNil))
   (qSeq (qSet 4 (qV 1))
   (qSeq (qFor (Ai (qUn wLen (qV 2))) (gN 5) (qSeq (O9 (T7 3 (B9 Dc (A1 (qV 0) (A1 (qV 4) (A1 (qV 5) qNil))))))
   (qSet 4 (B9 Fc (A1 (qV 0) (A1 (qV 4) (A1 (qV 5) (A1 (qOp wIx (qV 2) (qV 5)) qNil))))))))
   (qRet (qUn P7 (qUn wRev (qO 3)))))))
def Fd:pF:=fnP ["meeting","row","day","starts","stands","k"] ["meeting","row","day"] Lp
def Lq:pS:=(qSeq (CM 1)
   (qSeq (qFor (qIl (B9 u7 (A1 (qV 0) qNil))) (gN 2) (qSeq (t7 1 (qOp wIx (qV 2) (qC (.int 1))) (qOp wIx (qV 2) (qC (.int 2))))
   (t7 1 (qOp wIx (qV 2) (qC (.int 2))) (qOp wIx (qV 2) (qC (.int 1))))))
   (EJ 1)))
def HJ:pF:=fnP ["sheet","others","touch"] ["sheet"] Lq
def Lr:pS:=(qSeq (CM 2)
   (qSeq (qFor (qIt (qV 1)) (gN 3) (qIfS (qB (qOp (wEq 4) (qOp wIx (qV 3) (qC (.int 0))) (qC (.str (A3 "drop"))))) (t7 2 (qOp wIx (qV 3) (qC (.int 1))) (qC (.str (A3 "d")))) (qSeq (t7 2 (qOp wIx (qV 3) (qC (.int 1))) (qC (.str (A3 "u"))))
   (t7 2 (qOp wIx (qV 3) (qC (.int 2))) (qC (.str (A3 "t")))))))
   (CN 2 (qRet (qUn P7 (qL (V4 [none,some 2] (qIt (qV 0)) (gN 0) qTru (Hf (qV 1) (qV 0) (qC (.str (A3 "o")))))))))))
def HK:pF:=fnP ["start","sheet","marks","event"] ["start","sheet"] Lr
def Ls:pS:=(qSeq (qSet 3 (B9 Fd (A1 (qV 0) (A1 (qV 1) (A1 (qV 2) qNil)))))
   (qDl 4 [none] (qIt (qV 1)) (gN 0) (qV 0) (qLst qNil) (EZ (Ai (qUn wLen (qV 2))) (gN 5) (Hy (Hx 6 (B9 HJ (A1 (qOp wIx (qV 2) (qV 5)) qNil))) (EZ (qZip false false (qOp wIx (qV 3) (qV 5)) (B9 HK (A1 (qOp wIx (qV 3) (qV 5)) (A1 (qOp wIx (qV 2) (qV 5)) qNil)))) (gTp 2 (gCn (gN 7) (gCn (gN 8) gNl))) (Hz (qV 7) (qTup (A1 (qV 5) (A1 (qV 8) (A1 (Hu (qV 6) (qV 7)) qNil)))))))) (qRet (qUn P7 (qL (V4 [none,some 4] (qIt (qV 1)) (gN 0) qTru (qTup (A1 (qV 0) (A1 (qUn P7 (qIxD (qV 1) (qV 0))) qNil)))))))))
def HL:pF:=fnP ["meeting","row","day","starts","deeds","k","others","boat","mark"] ["meeting","row","day"] Ls
def Lu:pS:=(qSeq (qSet 2 (qOp wIx (qV 0) (qC (.int 0))))
   (qRet (qOp Eb (qOp wSub (qOp wAdd (qV 1) (qV 2)) (qC (.int 1))) (qV 2))))
def Fe:pF:=fnP ["meeting","n","size"] ["meeting","n"] Lu
def Lv:pS:=(qRet (qL (Hg [none,none] (qIt (qV 0)) (gN 0) (qIt (qSl (qV 0) (K7 (qC (.int 1))) qNo)) (gN 1) qTru (qV 1))))
def BA:pF:=fnP ["events"] ["events"] Lv
def Lw:pS:=(qSeq (qSet 2 (B9 BA (A1 (qV 1) qNil)))
   (qSeq (qFor (qIl (qV 2)) (gN 3) (qSeq (qIfS (qB (qOp (wIn 4 true) (qV 3) (qV 0))) (qRet (qTup (A1 (qC (.str (A3 "strange"))) (A1 (qV 3) qNil)))) qNx)
   (qIfS (qB (qOp wGt (JQ (qV 2) (qV 3)) (qC (.int 1)))) (qRet (qTup (A1 (qC (.str (A3 "twice"))) (A1 (qV 3) qNil)))) qNx)))
   (qRet (qC .non))))
def Ff:pF:=fnP ["start","sheet","boats","boat"] ["start","sheet"] Lw
def Ly:pS:=(qRet (qOp wGt (T9 (qV 0) (qOp wIx (qV 1) (qC (.int 2)))) (T9 (qV 0) (qOp wIx (qV 1) (qC (.int 1))))))
def HM:pF:=fnP ["start","touch"] ["start","touch"] Ly
def Lz:pS:=(qSeq (qAsg (qL (EI (qL (qLst (A1 (T9 (qV 0) (qOp wIx (qV 1) (qC (.int 1)))) (A1 (T9 (qV 0) (qOp wIx (qV 1) (qC (.int 2)))) qNil)))))) (gTl 2 (gCn (gN 2) (gCn (gN 3) gNl))))
   (qRet (qSl (qV 0) (K7 (qOp wAdd (qV 2) (qC (.int 1)))) (K7 (qV 3)))))
def c8:pF:=fnP ["start","touch","low","high"] ["start","touch"] Lz
def LA:pS:=(qRet (qOp wGt (qUn wLen (B9 c8 (A1 (qV 0) (A1 (qV 2) qNil)))) (qV 1)))
def HN:pF:=fnP ["start","reach","touch"] ["start","reach","touch"] LA
def LB:pS:=(qSeq (qIfS (qB (B9 HM (A1 (qV 0) (A1 (qV 3) qNil)))) (qRet (qTup (A1 (qC (.str (A3 "wrong"))) (A1 (qV 3) qNil)))) qNx)
   (qSeq (qIfS (qB (B9 HN (A1 (qV 0) (A1 (qV 1) (A1 (qV 3) qNil))))) (qRet (qTup (A1 (qC (.str (A3 "far"))) (A1 (qV 3) qNil)))) qNx)
   (qSeq (qSet 4 (B9 BA (A1 (qV 2) qNil)))
   (qSeq (qFor (qIt (B9 c8 (A1 (qV 0) (A1 (qV 3) qNil)))) (gN 5) (qIfS (qB (qOp (wIn 4 true) (qV 5) (qV 4))) (qRet (qTup (A1 (qC (.str (A3 "stays"))) (A1 (qV 3) (A1 (qV 5) qNil))))) qNx))
   (qRet (qC .non))))))
def Fg:pF:=fnP ["start","reach","sheet","touch","boats","boat"] ["start","reach","sheet","touch"] LB
def LC:pS:=(qSeq (qIfS (qB (qOp (wNe 4) (qUn Da (B9 BA (A1 (qTup (A1 (qV 1) (A1 (qV 2) qNil))) qNil))) (qC (.int 4)))) (qRet (qC (.bl false))) qNx)
   (qSeq (qSet 3 (B9 c8 (A1 (qV 0) (A1 (qV 1) qNil))))
   (qRet (qOp (wNe 4) (qOp (wIn 4 false) (qOp wIx (qV 2) (qC (.int 1))) (qV 3)) (qOp (wIn 4 false) (qOp wIx (qV 2) (qC (.int 2))) (qV 3))))))
def Fh:pF:=fnP ["start","one","other","inner"] ["start","one","other"] LC
def LD:pS:=(qSeq (qFor (qIl (qV 2)) (gN 3) (qIfS (qB (B9 Fh (A1 (qV 0) (A1 (qV 1) (A1 (qV 3) qNil))))) (qRet (qTup (A1 (qC (.str (A3 "cross"))) (A1 (qV 1) (A1 (qV 3) qNil))))) qNx))
   (qRet (qC .non)))
def Fi:pF:=fnP ["start","touch","touches","other"] ["start","touch","touches"] LD
def LE:pS:=(qSeq (qSet 3 (B9 Ff (A1 (qV 0) (A1 (qV 2) qNil))))
   (qSeq (qIfS (qB (qOp j3 (qV 3) (qC .non))) (qRet (qV 3)) qNx)
   (qSeq (qSet 4 (B9 u7 (A1 (qV 2) qNil)))
   (qSeq (qFor (qIl (qV 4)) (gN 5) (qSeq (qSet 3 (qOrT (B9 Fg (A1 (qV 0) (A1 (qV 1) (A1 (qV 2) (A1 (qV 5) qNil))))) (B9 Fi (A1 (qV 0) (A1 (qV 5) (A1 (qV 4) qNil))))))
   (qIfS (qB (qOp j3 (qV 3) (qC .non))) (qRet (qV 3)) qNx)))
   (qRet (qC .non))))))
def Fj:pF:=fnP ["start","reach","sheet","reason","touches","touch"] ["start","reach","sheet"] LE
def HP:pS:=(qSeq (qSet 3 (B9 Fj (A1 (qV 0) (A1 (qV 1) (A1 (qV 2) qNil)))))
   (qSeq (qIfS (qB (qOp j3 (qV 3) (qC .non))) (qRet (qTup (A1 (qC (.str (A3 "unsound"))) (A1 (qV 3) qNil)))) qNx)
   (qSeq (qSet 4 (qL (V4 [none] (qIt (qV 2)) (gN 0) (qB (qOp (wEq 4) (qOp wIx (qV 0) (qC (.int 0))) (qC (.str (A3 "drop"))))) (qV 0))))
   (qSeq (qSet 5 (qL (EO 0 (B9 u7 (A1 (qV 2) qNil)) (qUn wLen (B9 c8 (A1 (qV 1) (A1 (qV 0) qNil)))))))
   (qRet (qTup (A1 (qC (.str (A3 "course"))) (A1 (qUn P7 (qL (qCat (qV 4) (qV 5)))) qNil))))))))
def HQ:pF:=fnP ["start","reach","sheet","reason","drops","inner_first"] ["start","reach","sheet"] HP
def LF:pS:=(qSeq (qSet 3 (B9 Fe (A1 (qV 0) (A1 (qUn wLen (qV 1)) qNil))))
   (qSeq (qIfS (qB (qOp (wNe 4) (qUn wLen (qV 2)) (qV 3))) (qRet (qTup (A1 (qC (.str (A3 "unsound"))) (A1 (qC .non) (A1 (qTup (A1 (qC (.str (A3 "races"))) (A1 (qV 3) qNil))) qNil))))) qNx)
   (qSeq (qSet 4 (qV 1))
   (qSeq (qFor (Ai (qV 3)) (gN 5) (qSeq (qAsg (B9 HQ (A1 (B9 Dc (A1 (qV 0) (A1 (qV 4) (A1 (qV 5) qNil)))) (A1 (qOp wIx (qV 0) (qC (.int 1))) (A1 (qOp wIx (qV 2) (qV 5)) qNil)))) (gTp 2 (gCn (gN 6) (gCn (gN 7) gNl))))
   (qSeq (qIfS (qB (qOp (wEq 4) (qV 6) (qC (.str (A3 "unsound"))))) (qRet (qTup (A1 (qC (.str (A3 "unsound"))) (A1 (qV 5) (A1 (qV 7) qNil))))) qNx)
   (qSet 4 (B9 Fc (A1 (qV 0) (A1 (qV 4) (A1 (qV 5) (A1 (qOp wIx (qV 2) (qV 5)) qNil)))))))))
   (qRet (qTup (A1 (qC (.str (A3 "row"))) (A1 (qV 4) qNil))))))))
def HR:pF:=fnP ["meeting","row","day","many","stands","k","word","told"] ["meeting","row","day"] LF
def LG:pS:=(qSeq (qFor (GT (qV 0)) (gTp 2 (gCn (gN 3) (gCn (gN 4) gNl))) (qSeq (qAsg (qIxD (qV 1) (qV 4)) (gTp 2 (gCn (gN 5) (gCn (gN 6) gNl))))
   (qSeq (qIfS (qOr (qAnd (qB (qOp (wIn 4 false) (qV 5) (qTup (A1 (qC (.str (A3 "d"))) (A1 (qC (.str (A3 "o"))) qNil))))) (qB (qOp j3 (qV 6) (qC .non)))) (qB (qOp (wIn 4 true) (qV 5) (qTup (A1 (qC (.str (A3 "d"))) (A1 (qC (.str (A3 "o"))) (A1 (qC (.str (A3 "t"))) (A1 (qC (.str (A3 "u"))) qNil)))))))) (qRet (qC (.bl false))) qNx)
   (qIfS (qOr (qB (qOp (wEq 4) (qV 5) (qC (.str (A3 "t"))))) (qB (qOp (wEq 4) (qV 5) (qC (.str (A3 "u")))))) (qSeq (qIfS (qOr (qB (qOp (wIn 4 true) (qV 6) (qV 0))) (qB (qOp (wNe 4) (qIxD (qV 1) (qV 6)) (qTup (A1 (qOp wIx (qL (qLst (A1 (qC (.str (A3 "t"))) (A1 (qC (.str (A3 "u"))) qNil)))) (qUn wInt (qOp (wEq 4) (qV 5) (qC (.str (A3 "t")))))) (A1 (qV 4) qNil)))))) (qRet (qC (.bl false))) qNx)
   (qSeq (qSet 7 (T9 (qV 0) (qV 6)))
   (qSeq (qIfS (qOr (qB (qOp (wNe 4) (qOp (wEq 4) (qV 5) (qC (.str (A3 "u")))) (qOp wLt (qV 7) (qV 3)))) (qB (qOp wGt (qOp wSub (qUn wAbs (qOp wSub (qV 7) (qV 3))) (qC (.int 1))) (qV 2)))) (qRet (qC (.bl false))) qNx)
   (qIfS (qB (qUn wAny (qL (V4 [none,some 1] (qIt (qSl (qV 0) (K7 (qOp wAdd (qOp wMin (qV 3) (qV 7)) (qC (.int 1)))) (K7 (qOp wMax (qV 3) (qV 7))))) (gN 0) qTru (qOp (wEq 4) (qOp wIx (qIxD (qV 1) (qV 0)) (qC (.int 0))) (qC (.str (A3 "o")))))))) (qRet (qC (.bl false))) qNx)))) qNx))))
   (qRet (qC (.bl true))))
def HS:pF:=fnP ["_law_start","_law_marks","_law_reach","_law_p","_law_boat","_law_mark","_law_other","_law_q"] ["_law_start","_law_marks","_law_reach"] LG
def LH:pS:=(qSeq (qAsg (B9 E_ (A1 (qV 0) (A1 (qUn wLen (qV 1)) (A1 (qV 3) qNil)))) (gTp 2 (gCn (gN 4) (gCn (gN 5) gNl))))
   (qSeq (qSet 6 (qSl (qV 1) (K7 (qV 4)) (K7 (qOp wAdd (qV 5) (qC (.int 1))))))
   (qSeq (CM 7)
   (qSeq (qFor (qIt (qV 2)) (gTp 2 (gCn (gN 8) (gCn (gN 9) gNl))) (qSeq (qSet 10 (qL (V4 [none,some 3] (qIt (qV 9)) (gN 0) (qB (qOp (wEq 4) (qOp wIx (qV 0) (qC (.int 0))) (qV 1))) (qV 0))))
   (qSeq (qIfS (qB (qOp (wNe 4) (qUn wLen (qV 10)) (qUn wInt (qOp (wIn 4 false) (qV 8) (qV 6))))) (qRet (qC .non)) qNx)
   (qIfS (qB (qOp (wNe 4) (qV 10) (qL (qLst qNil)))) (t7 7 (qV 8) (qSl (qOp wIx (qV 10) (qC (.int 0))) (K7 (qC (.int 1))) qNo)) qNx))))
   (qSeq (CN 7 (qIfS (qNot (qB (B9 HS (A1 (qV 6) (A1 (qV 7) (A1 (qOp wIx (qV 0) (qC (.int 1))) qNil)))))) (qRet (qC .non)) qNx))
   (qSeq (qSet 11 (qUn P7 (qL (V4 [none,some 7] (qIt (qV 6)) (gN 0) qTru (qIf (qB (qOp j3 (qOp wIx (qIxD (qV 1) (qV 0)) (qC (.int 1))) (qC .non))) (qOp wIx (qIxD (qV 1) (qV 0)) (qC (.int 1))) (qV 0))))))
   (qRet (qOp wAdd (qOp wAdd (qSl (qV 1) qNo (K7 (qV 4))) (qV 11)) (qSl (qV 1) (K7 (qOp wAdd (qV 5) (qC (.int 1)))) qNo)))))))))
def HU:pF:=fnP ["_law_meeting","_law_row","_law_kept","_law_k","_law_first","_law_last","_law_start","_law_marks","_law_boat","_law_some","_law_own","_law_found"] ["_law_meeting","_law_row","_law_kept","_law_k"] LH
def HV:pS:=(qSeq (Hh 1 (qV 0))
   (qSeq (qAsg (B9 HB (A1 (qV 1) (A1 (qC (.int 24)) qNil))) (gTp 2 (gCn (gN 2) (gCn (gN 3) gNl))))
   (qSeq (qFor (Be (qOp wAdd (qC (.int 1)) (B9 N9 (A1 (qV 1) (A1 (qC (.int 5)) qNil))))) (gN 4) (qSeq (qAsg (B9 HF (A1 (qV 1) (A1 (qV 2) (A1 (qV 3) qNil)))) (gTp 3 (gCn (gN 5) (gCn (gN 6) (gCn (gN 7) gNl)))))
   (qSeq (qSet 8 (B9 HL (A1 (qV 2) (A1 (qV 3) (A1 (qV 5) qNil)))))
   (qSeq (qAsg (B9 HR (A1 (qV 2) (A1 (qV 3) (A1 (qV 5) qNil)))) (gTp 2 (gCn (gN 9) (gCn (gN 10) gNl))))
   (qSeq (qIfS (qOr (qB (qOp (wNe 4) (qV 9) (qC (.str (A3 "row"))))) (qB (qOp (wNe 4) (qL (V4 [none,none] (qIt (qV 8)) (gTp 2 (gCn (gN 0) (gCn (gN 1) gNl))) qTru (qV 0))) (qL (Cv (qV 3)))))) (qRet (qC (.bl false))) qNx)
   (qSeq (qFor (qIt (qV 8)) (gTp 2 (gCn (gN 11) (gCn (gN 12) gNl))) (qSeq (qSet 13 (qL (V4 [none] (qIt (qV 12)) (gN 0) qTru (qOp wIx (qV 0) (qC (.int 0))))))
   (qIfS (qOr (qB (qOp (wEq 4) (qV 13) (qL (qLst qNil)))) (qB (qOp (wNe 4) (qV 13) (qL (GP (qOp wIx (qV 13) (qC (.int 0))) (qOp wSub (qOp wIx (qV 13) (qUn wNeg (qC (.int 1)))) (qC (.int 1)))))))) (qRet (qC (.bl false))) qNx)))
   (qSeq (qSet 14 (qV 3))
   (qSeq (qFor (Ai (B9 Fa (A1 (qV 2) (A1 (qUn wLen (qV 3)) qNil)))) (gN 15) (qSeq (qSet 14 (B9 HU (A1 (qV 2) (A1 (qV 14) (A1 (qV 8) (A1 (qV 15) qNil))))))
   (qIfS (qB (qOp wIsN (qV 14) (qC .non))) (qRet (qC (.bl false))) qNx)))
   (qSeq (qIfS (qB (qOp (wNe 4) (qUn Bn (qV 14)) (qUn Bn (qV 10)))) (qRet (qC (.bl false))) qNx)
   (qSet 3 (qV 10)))))))))))
   (qRet (qC (.bl true))))))
end Tb
end
section
namespace Tb
open PySem L2 Pu
def top (i:Nat):Stmt:=PySem.Challenge.pw_touchboats_k23_whole_deeds_tell_the_plac.main.body.getD i (.Pass ⟨0,0,0,0⟩)
end Tb
end
section
namespace Tb
open PySem L2 Pu
theorem HW (a b:Int):eqP (.int a) (.int b)=decide (a=b):=by
 show(a == b)=_;rw [BU]
theorem d7 (a b:Str):eqP (.str a) (.str b)=decide (a=b):=by
 show(a == b)=_;rw [BU]
theorem LI (a b:Bool):eqP (.bl a) (.bl b)=decide (a=b):=by
 show(a == b)=_;rw [BU]
set_option compiler.extract_closed false in
set_option hygiene false in
local macro_rules | `(tactic| walk_at "pd")=>`(tactic| dsimp only [dreduceIte,true_and,and_true,Z4,beq_self_eq_true,Nat.reduceLeDiff,Nat.reduceLT,Int.reduceLT,Int.reduceLE,J6,HW,d7,LI,qSeq,qNx,qSet,qOwn,qAsg,O9,qRet,Er,qIfS,qPar,sV,sO,qPut,gAt,qV,qO,qC,qOp,qOpR,qUn,wI,wI0,wAdd,wSub,wMul,Eb,wMod,wEq,wNe,wLt,wGt,wIsN,j3,qB,qAnd,qOr,qNot,qIf,qNil,A1,qTup,qLst,qL,wIx,qNo,K7,qSl,wSl,wLen,wAbs,wInt,wAll,wAny,P7,Cv,wMin,wMax,B9,gN,gNl,gCn,gTp,qIl,qIt,Be,capV,capS,qTru,V4,qCat,wNeg,T7,Gy,qPop,p8,List.map,List.set,E8,List.length_nil,Fz,FA,h9,Z1,List.replicate,Nat.reduceSub,Nat.reduceAdd,Option.bind,Bool.not_true,Bool.not_false,Bool.true_or,Bool.false_or,BV,Bool.true_and,Bool.false_and,String.reduceBEq,cmpb,p7,JC,JD,JE,Of,decide_true,decide_false,CB,GC,GP,JQ,EA,wRev,GT,qZip,qFor,EI,t0,CM,t7,qMove,EJ,Ai,keyV,EM,T9,Hj,N9,at2_0,at2_1,at3_0,at3_1,at3_2,CN,qIxD,Hu,Hf,qDl,Hy,Hx,EZ,Hz,grd_t,gTl,Hg,Bw,qOrT,EO,Da,Hh])
set_option hygiene false in
local macro_rules | `(tactic| walk_at "pu")=>`(tactic| (try walk_at "pd") <;> (try simp only [HW,d7,LI,decide_true,decide_false,true_and,and_true,reduceIte,Nat.reduceLeDiff,Nat.reduceLT,Int.reduceLT,Int.reduceLE,J6,beq_self_eq_true,Z4]))
theorem RU {q n:Nat}{many:Int}{R:PV->Nat->Prop}(h0:1<=many)(h1:many<=24)(hn:n<=999900000)(h:∀zs n',(zs.length:Int)=many->RowS zs->n'<=n + 100->R (rowP zs) n'):HA [.pot (q + 1),.int many] n R:=by
 refine⟨rfl,?_⟩;unfold La;have ll:LETS.length<=1000000:=by rw [JX];decide
 have lc:∀c:Nat,(⟨#[c]⟩:Str).length=1:=fun _=>rfl;walk_at "pu";refine⟨by omega,fun d d0 d1=>?_⟩;obtain⟨tv,htv,etv⟩:=CC (xs:=[PV.int 1,PV.int 3,PV.int 5,PV.int 7,PV.int 9,PV.int 11,PV.int 15,PV.int 17,PV.int 19,PV.int 21]) d0 (by simpa using d1)
 obtain⟨t,rfl,ht⟩:∃t:Int,tv=.int t/\t∈An:=by
   simp only [B6,e7,or_false] at htv;rcases htv with rfl | rfl | rfl | rfl | rfl | rfl | rfl | rfl | rfl | rfl <;> exact⟨_,rfl,by decide⟩
 have t30:=Rl ht;rw [etv];dsimp only;refine⟨by omega,fun fi f0 f1=>?_⟩;refine N7 (fun i env m=>∃z s6,env=[some (.v (.pot (q + 1))),some (.v (.int many)),some (.v (.str LETS)),some (.v (.str z)),some (.v (.int t)),some (.v (.int fi)),s6,none,none,none,none,none]/\LsE i z/\m<=n + 2 + i) _ 0 _ _ ⟨A3 "",none,rfl,⟨rfl,(fun c hc=>by rw [show(A3 "").cps.toList=[] from rfl] at hc;cases hc)⟩,by omega⟩ (fun i x env m N ex hI hN=>?_) (fun env m hI=>?_)
 · obtain⟨z,s6,rfl,hz,hm⟩:=hI;obtain⟨hi,rfl⟩:=Ew ex;rw [F7] at hz hm hN;have hi7:i < 7:=hi;walk_at "pu";refine⟨by omega,fun u u0 u1=>⟨ll,?_⟩⟩;rw [JY u0 u1];dsimp only;have zl:z.length=i:=by rw [y7];exact hz.1
   refine⟨by rw [zl,lc];omega,?_⟩;exact hN _ _ ⟨_,_,rfl,hz.more ⟨by omega,by omega⟩,by omega⟩
 · obtain⟨z,s6,rfl,hz,hm⟩:=hI;rw [GE,F7] at hz hm;have hz7:LsE 7 z:=hz
   have hm7:m<=n + 9:=by
     have:(7:Int).toNat=7:=rfl;omega
   have zl:z.length=7:=by rw [y7];exact hz7.1
   walk_at "pu";refine⟨by omega,fun at_ a0 a1=>?_⟩;obtain⟨a,rfl⟩:=DC a0;refine⟨⟨by omega,by omega⟩,?_⟩;refine N7 (fun i env m'=>∃zs s6 s9 s10,env=[some (.v (.pot (q + 1))),some (.v (.int many)),some (.v (.str LETS)),some (.v (.str z)),some (.v (.int t)),some (.v (.int fi)),s6,some (.v (.int (a:Int))),some (.own (zs.map PV.str)),s9,s10,none]/\NmA fi t a zs i/\m'<=n + 10 + i) _ 0 _ _ ⟨[],_,_,_,rfl,⟨rfl,List.nodup_nil,(fun j z e=>by simp at e),(fun _ z=>nomatch z)⟩,by omega⟩ (fun i x env m' N ex hI hN=>?_) (fun env m' hI=>?_)
   · obtain⟨zs,s6,s9,s10,rfl,hs,hm'⟩:=hI;obtain⟨hi,rfl⟩:=Ew ex;rw [F7] at hs hm' hN;have sl:=hs.len;walk_at "pu";refine⟨⟨by omega,by omega,by omega⟩,fun u u0 u1=>?_⟩;obtain⟨b,rfl⟩:=DC u0;have em:fi + t * (0 + (i:Int))=fi + (i:Int) * t:=by rw [Int.zero_add,Int.mul_comm]
     rw [em,lt_at];dsimp only;have eab:(a:Int) + (b:Int)=((a + b:Nat):Int):=by omega
     rw [eab];have cl:=Ro hz7 (show a<=a + b by omega) (show a + b<=7 by omega) (lt_ltr (f:=fi) (t:=t) (k:=i));have k1:=AS z none (some (a:Int));have k2:=AS z (some (a:Int)) (some ((a + b:Nat):Int));have k3:(T3 z none (some (a:Int))++⟨#[lt fi t i]⟩).length=(T3 z none (some (a:Int))).length + 1:=by rw [y7,Ck,E1,<- y7];rfl
     refine⟨.inl ⟨by omega,by omega⟩,ll,⟨_,rfl⟩,by omega,by rw [lc];omega,by omega,by omega,by rw [B2];omega,?_⟩;refine hN _ _ ⟨zs++[_],_,_,_,by rw [L8];rfl,hs.more ht f0 (by omega) cl.1 cl.2,by omega⟩
   · obtain⟨zs,s6,s9,s10,rfl,hs,hm'⟩:=hI;rw [GE,F7] at hs hm';have sl:=hs.len;generalize hZ:zs.map PV.str=Z;have Zl:Z.length=zs.length:=by rw [<- hZ,B2]
     walk_at "pu";refine⟨by omega,fun e e0 e1=>?_⟩;obtain⟨x,hx,ex⟩:=CC (xs:=[PV.str (A3 "drop"),PV.str (A3 "touch"),PV.str (A3 "none"),PV.str (A3 "d"),PV.str (A3 "u"),PV.str (A3 "t"),PV.str (A3 "o")]) e0 (by simpa using e1);rw [ex]
     obtain⟨y,rfl,by_⟩:∃z,x=.str z/\k5 z:=by
       simp only [B6,e7,or_false] at hx;rcases hx with rfl | rfl | rfl | rfl | rfl | rfl | rfl <;> exact⟨_,rfl,by decide,by decide,by unfold Ltr;decide⟩
     dsimp only;have fin:∀m2,m2<=n + 100->R (.tup Z) m2:=fun m2 h2=>by rw [<- hZ];exact h zs m2 (by omega) ⟨hs.nd,hs.bt⟩ h2
     refine KK hZ ?_
     by_cases c:y∈zs
     · exact if_f (by simp [c]) (fin _ (by omega))
     · refine if_t (by simp [c]) ⟨by omega,fun d2 d20 d21=>?_⟩
       by_cases c2:d2=0
       · refine if_t (decide_eq_true c2) ⟨⟨_,rfl⟩,⟨by omega,by omega,by omega⟩,fun j j0 j1=>?_⟩;rw [p6 j0 (by omega)];dsimp only;have es:Z.set j.toNat (.str y)=(zs.set j.toNat y).map PV.str:=by rw [<- hZ,AD]
         rw [es];refine h _ _ (by rw [G6];omega) ⟨?_,fun w hw=>?_⟩ (by omega)
         · exact OY hs.nd c j.toNat
         · rcases List.mem_or_eq_of_mem_set hw with hw | hw
           · exact hs.bt w hw
           · rw [hw];exact by_
       · exact if_f (decide_eq_false c2) (fin _ (by omega))
abbrev pin (p:Nat):PV:=.int (p:Int)
theorem LJ (ms:List Mk)(p:Nat)(m:Mk):(ms.map mkP).set p (mkP m)=(ms.set p m).map mkP:=(AD).symm
theorem RV:atI ((p::ps).reverse.map pin) (-1)=some (pin p):=by
 rw [Z0,L8];exact IP (ps.reverse.map pin) (pin p)
theorem LK:((p::ps).reverse.map pin)[((p::ps).reverse.map pin).length - 1]?=some (pin p)/\((p::ps).reverse.map pin).dropLast=ps.reverse.map pin:=by
 rw [Z0,L8];refine⟨?_,by simp⟩;rw [W6 (by simp)];simp
abbrev wEnv (q:Nat)(many r:Int)(ms:List Mk)(ps:List Nat)(s5 s6:Option Pu.Slot):Pu.Env:=[some (.v (.pot (q + 1))),some (.v (.int many)),some (.v (.int r)),some (.own (ms.map mkP)),some (.own (ps.reverse.map pin)),s5,s6]
theorem LL {i m:Nat}:∀(ps:List Nat),Seg r ps ms->(∀ps',Seg r ps' ms->(∀p ps'',ps'=p::ps''->(i:Int) - p - 1<=r)->D.nx (wEnv q many r ms ps' (some (.v (.int (i:Int)))) s6) m)->
   j8 (qAnd (qB (qOpR (wNe 4) (qO 4) (qL (qLst qNil)))) (qB (qOp wGt (qOp wSub (qOp wSub (qV 5) (qOpR wIx (qO 4) (qUn wNeg (qC (.int 1))))) (qC (.int 1))) (qV 2)))) (qPut 3 (qC (.str (A3 "d"))) (qPop 4)) D (ps.length + 1) (wEnv q many r ms ps (some (.v (.int (i:Int)))) s6) m
 | [], hs, h => by
   unfold j8 wEnv;walk_at "pu";exact h [] hs (fun _ _ e=>nomatch e)
 | p :: ps, hs, h => by
   have tp:=RV (p:=p) (ps:=ps);have pp:=LK (p:=p) (ps:=ps)
   have pa:((p::ps).reverse.map pin).all (cmpb 3)=true:=by
     have e:(p::ps).reverse.map pin=((p::ps).reverse.map fun p=>((p:Nat):Int)).map PV.int:=by rw [R9];rfl
     rw [e];exact KI _ 3
   have pe:eqPs ((p::ps).reverse.map pin) []=false:=by
     cases hh:(p::ps).reverse.map pin with
     | nil=>simp at hh
     | cons a l=>rfl
   have base:=fun c=>h (p::ps) hs c;obtain⟨hlt,hset,hs'⟩:=hs.popd;have rec_:=LL (q:=q) (many:=many) (i:=i) (m:=m) (s6:=s6) (D:=D) ps hs' h;show j8 _ _ _ (ps.length + 1 + 1) _ _;unfold wEnv at *;generalize (p::ps).reverse.map pin=PL at *;generalize hM:ms.map mkP=ML at *;have ml:ML.length=ms.length:=by rw [<- hM,B2]
   have mset:ML.set p (.str (A3 "d"))=ML:=by rw [<- hM];exact(LJ ms p .d).trans (by rw [hset])
   unfold j8;walk_at "pu";refine gd2 pa rfl (if_t (by rw [pe];rfl) ?_);rw [tp];dsimp only
   by_cases c:r < (i:Int) - p - 1
   · refine if_t (decide_eq_true c) ⟨⟨_,rfl⟩,?_⟩;rw [pp.1];dsimp only;rw [p6 (by omega) (by omega)];dsimp only;rw [P4,mset,pp.2];exact rec_
   · exact if_f (decide_eq_false c) (base fun p' ps'' e=>by cases e;omega)
theorem m_word {q n many:Nat}{r:Int}{R:PV->Nat->Prop}(h24:many<=24)(hn:n<=999900000)(h:∀ms n',ms.length=many->run r 0 [] ms=some []->n'<=n + 50->R (.lst (ms.map mkP)) n'):HD [.pot (q + 1),.int (many:Int),.int r] n R:=by
 refine⟨rfl,?_⟩;unfold Lf;walk_at "pu";refine⟨⟨by omega,by omega⟩,?_⟩;rw [P4];refine N7 (fun i env m=>∃ms ps s5 s6,env=wEnv q many r ms ps s5 s6/\Seg r ps ms/\ms.length=i/\m<=n + 2 * i) _ 0 _ _ ⟨[],[],none,none,rfl,rfl,rfl,by omega⟩ (fun i x env m N ex hI hN=>?_) (fun env m hI=>?_)
 · obtain⟨ms,ps,s5,s6,rfl,hs,hl,hm⟩:=hI;obtain⟨hi,rfl⟩:=Ew ex;rw [F7] at hl hm hN;have ei:(0:Int) + (i:Int)=(i:Int):=by omega
   rw [ei];have w:=fun D=>LL (q:=q) (many:=(many:Int)) (r:=r) (i:=i) (m:=m) (s6:=s6) (ms:=ms) (D:=D) ps hs;unfold wEnv at w ⊢;walk_at "pu";refine⟨ps.length + 1,w _ fun ps' hs' top=>?_⟩;clear w hs;generalize hP:ps'.reverse.map pin=PL;generalize hM:ms.map mkP=ML;have ml:ML.length=ms.length:=by rw [<- hM,B2]
   walk_at "pu";refine⟨by omega,fun w w0 w1=>?_⟩
   have pl:PL.length<=24:=by
     rw [<- hP,B2,Az];have:=hs'.len;omega
   have pa:PL.all (cmpb 3)=true:=by
     have e:ps'.reverse.map pin=(ps'.reverse.map fun p=>((p:Nat):Int)).map PV.int:=by rw [R9];rfl
     rw [<- hP,e];exact KI _ 3
   have em:∀k:Pu.Mk,ML++[mkP k]=(ms++[k]).map mkP:=fun k=>by rw [L8,hM];rfl
   have emd:ML++[PV.str (A3 "d")]=(ms++[Pu.Mk.d]).map mkP:=em Pu.Mk.d;have emo:ML++[PV.str (A3 "o")]=(ms++[Pu.Mk.o]).map mkP:=em Pu.Mk.o
   have push:∀s5 s6 m',m'<=m + 2->N [some (.v (.pot (q + 1))),some (.v (.int (many:Int))),some (.v (.int r)),some (.own (ML++[PV.str (A3 "d")])),some (.own (PL++[PV.int (i:Int)])),s5,s6] m':=fun s5 s6 m' hm'=>by
     have e2:PL++[PV.int (i:Int)]=(ms.length::ps').reverse.map pin:=by rw [Z0,L8,hP,hl];rfl
     rw [emd,e2];exact hN _ _ ⟨_,_,_,_,rfl,hs'.push,by rw [E1,hl];rfl,by omega⟩
   have stay:∀s5 s6 m',m'<=m + 2->N [some (.v (.pot (q + 1))),some (.v (.int (many:Int))),some (.v (.int r)),some (.own (ML++[PV.str (A3 "d")])),some (.own PL),s5,s6] m':=fun s5 s6 m' hm'=>by
     rw [emd,<- hP];exact hN _ _ ⟨_,_,_,_,rfl,hs'.drop,by rw [E1,hl];rfl,by omega⟩
   refine gd2 pa rfl ?_;cases ps' with
   | nil =>
     have eP:PL=[]:=by rw [<- hP];rfl
     refine if_f (by rw [eP];rfl) ?_
     by_cases c2:w=2
     · exact if_t (decide_eq_true c2) ⟨⟨_,rfl⟩,by omega,⟨_,rfl⟩,by omega,push _ _ _ (by omega)⟩
     refine if_f (decide_eq_false c2) ?_
     by_cases c3:w=3
     · exact if_t (decide_eq_true c3) ⟨⟨_,rfl⟩,by omega,⟨_,rfl⟩,by omega,push _ _ _ (by omega)⟩
     refine if_f (decide_eq_false c3) ⟨⟨_,rfl⟩,gd2 pa rfl (if_f (by rw [eP];rfl) ⟨by omega,fun d d0 d1=>?_⟩)⟩;obtain⟨z,hz,ez⟩:=CC (xs:=[PV.str (A3 "o"),PV.str (A3 "o"),PV.str (A3 "d")]) d0 (by simpa using d1);rw [ez];dsimp only;refine⟨by omega,?_⟩
     have hz':z=PV.str (A3 "o")\/z=PV.str (A3 "d"):=by
       simp only [B6,e7,or_false] at hz;rcases hz with h | h | h
       · exact .inl h
       · exact .inl h
       · exact .inr h
     rcases hz' with rfl | rfl
     · rw [emo,<- hP];exact hN _ _ ⟨_,_,_,_,rfl,hs'.over,by rw [E1,hl];rfl,by omega⟩
     · exact stay _ _ _ (by omega)
   | cons p ps' =>
     have pe:eqPs PL []=false:=by
       rw [<- hP];cases hh:(p::ps').reverse.map pin with
       | nil=>simp at hh
       | cons a l=>rfl
     refine if_t (by rw [pe];rfl) ?_
     by_cases c1:w < 2
     · refine if_t (decide_eq_true c1) ⟨⟨_,rfl⟩,?_⟩;obtain⟨pp1,pp2⟩:=LK (p:=p) (ps:=ps');rw [hP] at pp1 pp2;rw [pp1];dsimp only;obtain⟨hlt,hs2⟩:=hs'.popt (by rw [hl];exact top p ps' rfl);rw [p6 (by omega) (by omega)];dsimp only;rw [P4,pp2]
       have e3:ML.set p (PV.str (A3 "t"))++[PV.str (A3 "u")]=(ms.set p Pu.Mk.t++[Pu.Mk.u]).map mkP:=by
         rw [L8,<- LJ,hM];rfl
       rw [e3];refine⟨⟨_,rfl⟩,by rw [G6];omega,?_⟩;exact hN _ _ ⟨_,_,_,_,rfl,hs2,by rw [E1,G6,hl];rfl,by omega⟩
     refine if_f (decide_eq_false c1) ?_
     by_cases c2:w=2
     · exact if_t (decide_eq_true c2) ⟨⟨_,rfl⟩,by omega,⟨_,rfl⟩,by omega,push _ _ _ (by omega)⟩
     refine if_f (decide_eq_false c2) ?_
     by_cases c3:w=3
     · exact if_t (decide_eq_true c3) ⟨⟨_,rfl⟩,by omega,⟨_,rfl⟩,by omega,push _ _ _ (by omega)⟩
     exact if_f (decide_eq_false c3) ⟨⟨_,rfl⟩,gd2 pa rfl (if_t (by rw [pe];rfl) ⟨by omega,stay _ _ _ (by omega)⟩)⟩
 · obtain⟨ms,ps,s5,s6,rfl,hs,hl,hm⟩:=hI;rw [F7,GE] at hl hm;have:=h ms m (by simpa using hl) hs.wrd (by omega);unfold wEnv;generalize hM:ms.map mkP=ML at *;walk_at "pu";exact this
theorem RW (hk:k < zs.length)(m:Pu.Mk)(ms:List Pu.Mk):zipP ((zs.drop k).map PV.str) ((m::ms).map mkP)=.tup [.str (nm zs k),mkP m]::zipP ((zs.drop (k + 1)).map PV.str) (ms.map mkP):=by
 have e:zs.drop k=nm zs k::zs.drop (k + 1):=by
   rw [W8 hk];have:=l3 hk;rw [D7 hk] at this;rw [N0 this]
 rw [e];rfl
abbrev pst (zs:List Str)(st:List Nat):List PV:=st.reverse.map fun p=>PV.str (nm zs p)
theorem RX:(pst zs (p::ps))[(pst zs (p::ps)).length - 1]?=some (.str (nm zs p))/\(pst zs (p::ps)).dropLast=pst zs ps:=by
 unfold pst;rw [Z0,L8];refine⟨?_,by simp⟩;rw [W6 (by simp)];simp
theorem LM:∀(ms:List Pu.Mk) (k:Nat) (st:List Nat) (acc:List Ev) (s4 s5:Option Pu.Slot),run r k st ms=some []->k + ms.length=zs.length->acc.length<=k->st.length<=k->zs.length<=24->
   (∀s4 s5 pl,D.nx [some (.v (rowP zs)),some (.v X),some (.own pl),some (.own ((acc++(shE k st ms).map (evOf zs)).map evP)),s4,s5] n)->
   forL (gTp 2 (gCn (gN 4) (gCn (gN 5) gNl))) (qIfS (qB (qOp (wEq 4) (qV 5) (qC (.str (A3 "t"))))) (O9 (T7 2 (qV 4))) (qIfS (qB (qOp (wEq 4) (qV 5) (qC (.str (A3 "u"))))) (O9 (T7 3 (qTup (A1 (qC (.str (A3 "touch"))) (A1 (qV 4) (A1 (qPop 2) qNil)))))) (qIfS (qB (qOp (wEq 4) (qV 5) (qC (.str (A3 "d"))))) (O9 (T7 3 (qTup (A1 (qC (.str (A3 "drop"))) (A1 (qV 4) qNil))))) qNx))) D
     (zipP ((zs.drop k).map PV.str) (ms.map mkP)) [some (.v (rowP zs)),some (.v X),some (.own (pst zs st)),some (.own (acc.map evP)),s4,s5] n
 | [], k, st, acc, s4, s5, hr, hk, _, _, _, h => by
   have:zipP ((zs.drop k).map PV.str) ([]:List PV)=[]:=by unfold zipP;simp
   rw [i4,this];have:=h s4 s5 (pst zs st);simp only [shE,i4,P3] at this;exact this
 | m :: ms, k, st, acc, s4, s5, hr, hk, ha, hs, h24, h => by
   rw [E8] at hk;rw [RW (by omega)];have go:=LM (zs:=zs) (r:=r) (n:=n) (D:=D) (X:=X) ms (k + 1);have pl:(pst zs st).length<=24:=by unfold pst;rw [B2,Az];omega
   have al:(acc.map evP).length<=24:=by rw [B2];omega
   have e1:∀e:Ev,acc.map evP++[evP e]=(acc++[e]).map evP:=fun e=>by rw [L8];rfl
   unfold rowP at *;generalize hZ:zs.map PV.str=Z at *;generalize hA:acc.map evP=AL at *;unfold forL;have nt:∀z,(decide (mkS m=z))=decide (mkS m=z):=fun _=>rfl;cases m with
   | t =>
     have h':=go (k::st) acc (some (.v (.str (nm zs k)))) (some (.v (mkP .t))) hr (by omega) (by omega) (by rw [E8];omega) h24 h;have e2:pst zs st++[.str (nm zs k)]=pst zs (k::st):=by unfold pst;rw [Z0,L8];rfl
     rw [hA,<- e2] at h';generalize pst zs st=PS at *;rw [show mkP .t=.str (mkS .t) from rfl] at *;walk_at "pu";refine(if_t (by rw [mk_t];rfl) ⟨⟨_,rfl⟩,by omega,h'⟩)
   | o =>
     cases st with
     | cons p st=>cases hr
     | nil =>
       have h':=go [] acc (some (.v (.str (nm zs k)))) (some (.v (mkP .o))) hr (by omega) (by omega) (by simp) h24 h;rw [hA] at h';generalize pst zs []=PS at *;rw [show mkP .o=.str (mkS .o) from rfl] at *;walk_at "pu";refine(if_f (by rw [mk_t];rfl) ((if_f (by rw [mk_u];rfl) ((if_f (by rw [mk_d];rfl) h')))))
   | d =>
     have h':=go st (acc++[.d (nm zs k)]) (some (.v (.str (nm zs k)))) (some (.v (mkP .d))) hr (by omega) (by rw [E1,W9];omega) (by omega) h24 (by
       intro s4 s5 pl;have:=h s4 s5 pl;rw [X1]
       exact this)
     rw [<- e1] at h';generalize pst zs st=PS at *;rw [show mkP .d=.str (mkS .d) from rfl] at *;walk_at "pu";refine(if_f (by rw [mk_t];rfl) ((if_f (by rw [mk_u];rfl) ((if_t (by rw [mk_d];rfl) ⟨⟨_,rfl⟩,by omega,h'⟩)))))
   | u =>
     cases st with
     | nil=>cases hr
     | cons p st =>
       have hr':run r (k + 1) st ms=some []:=by
         have:(if(k:Int) - p - 1<=r then run r (k + 1) st ms else none)=some []:=hr
         split at this
         · exact this
         · cases this
       have h':=go st (acc++[.t (nm zs k) (nm zs p)]) (some (.v (.str (nm zs k)))) (some (.v (mkP .u))) hr' (by omega) (by rw [E1,W9];omega) (by rw [E8] at hs;omega) h24 (by
         intro s4 s5 pl;have:=h s4 s5 pl;rw [X1]
         exact this)
       rw [<- e1] at h';obtain⟨pp1,pp2⟩:=RX (zs:=zs) (p:=p) (ps:=st);rw [<- pp2] at h';generalize pst zs (p::st)=PS at *;rw [show mkP .u=.str (mkS .u) from rfl] at *;walk_at "pu";refine(if_f (by rw [mk_t];rfl) ((if_t (by rw [mk_u];rfl) ⟨⟨_,rfl⟩,?_⟩)));rw [pp1];dsimp only;exact⟨by omega,h'⟩
theorem Ar:∀(m:List Pu.Mk) (k:Nat) (st:List Nat),(shE k st m).length<=m.length
 | [],_,_=>by simp [shE]
 | .t::m,k,st=>by have:=Ar m (k + 1) (k::st);show(shE (k + 1) (k::st) m).length<=m.length + 1;omega
 | .d::m,k,st=>by have:=Ar m (k + 1) st;show(PE.d k::shE (k + 1) st m).length<=m.length + 1;rw [E8];omega
 | .o::m,k,st=>by have:=Ar m (k + 1) st;unfold shE;rw [E8];omega
 | .u::m,k,[]=>by have:=Ar m (k + 1) [];unfold shE;rw [E8];omega
 | .u::m,k,p::st=>by have:=Ar m (k + 1) st;show(PE.t k p::shE (k + 1) st m).length<=m.length + 1;rw [E8];omega
theorem RY {zs:List Str}{ms:List Pu.Mk}{r:Int}{n:Nat}{R:PV->Nat->Prop}(hl:ms.length=zs.length)(h24:zs.length<=24)(hw:run r 0 [] ms=some [])(h:∀es:List Ev,es.Perm ((shE 0 [] ms).map (evOf zs))->Srt (es.map evP) (((shE 0 [] ms).map (evOf zs)).map evP)->R (shP es) n):HC [rowP zs,.lst (ms.map mkP)] n R:=by
 refine⟨rfl,?_⟩;unfold Ld;have go:=fun D s4 s5=>LM (zs:=zs) (r:=r) (n:=n) (D:=D) (X:=.lst (ms.map mkP)) ms 0 [] [] s4 s5 hw (by omega) (by simp) (by simp) h24;simp only [i3,Z1] at go;unfold rowP at *;generalize hM:ms.map mkP=ML at *;generalize hZ:zs.map PV.str=Z at *;walk_at "pu";unfold Ae;refine go _ _ _ fun s4 s5 pl=>?_;have so:=Rp ((shE 0 [] ms).map (evOf zs));have sl:=Ar ms 0 []
 have hh:∀ys,Srt ys (((shE 0 [] ms).map (evOf zs)).map evP)->R (.tup ys) n:=fun ys hy=>by
   obtain⟨es,rfl,p⟩:=Rq hy;exact h es p hy
 grind
theorem RZ {zs:List Str}{es:List Ev}{n:Nat}{R:PV->Nat->Prop}(h24:zs.length<=1000)(hb:∀b∈es.flatMap evB,b∈zs)(h:R (rowP (aft zs es)) n):HE [rowP zs,shP es] n R:=by
 refine⟨rfl,?_⟩;unfold Lg;unfold rowP shP at *;have hix:∀z∈zs,∀{R:PV->Prop},R (.int (ixS zs z))->t9 (.tup (zs.map PV.str)) (.str z) R:=fun z hz {R} q=>m_ix rfl hz (by omega) q
 have go:∀(D:Bg) (hD:∀s3,D.nx [some (.v (.tup (zs.map PV.str))),some (.v (.tup (es.map evP))),some (.own ((es.foldl (setE zs) zs).map PV.str)),s3] n),forL (gN 3) (qIfS (qB (qOp (wEq 4) (qOp wIx (qV 3) (qC (.int 0))) (qC (.str (A3 "touch"))))) (qSeq (qPut 2 (qOp wIx (qV 3) (qC (.int 2))) (T9 (qV 0) (qOp wIx (qV 3) (qC (.int 1))))) (qPut 2 (qOp wIx (qV 3) (qC (.int 1))) (T9 (qV 0) (qOp wIx (qV 3) (qC (.int 2)))))) qNx) D (es.map evP) [some (.v (.tup (zs.map PV.str))),some (.v (.tup (es.map evP))),some (.own (zs.map PV.str)),none] n:=by
   intro D hD;have hbe:∀e∈es,∀b∈evB e,b∈zs:=fun e he b hb'=>hb b (Q5.mpr ⟨e,he,hb'⟩);generalize hZ:zs.map PV.str=Z at *;generalize hE:es.map evP=E at *;refine N7 (fun i env m=>∃s3,env=[some (.v (.tup Z)),some (.v (.tup E)),some (.own (((es.take i).foldl (setE zs) zs).map PV.str)),s3]/\m=n) _ 0 _ _ ⟨none,by rw [List.take_zero,List.foldl_nil,hZ],rfl⟩ (fun i x env m N ex hI hN=>?_) (fun env m hI=>?_)
   · obtain⟨s3,rfl,rfl⟩:=hI;rw [<- hE] at ex;obtain⟨e,ee,rfl⟩:=Y4 ex;rw [F7] at hN ⊢;have st:(es.take (i + 1)).foldl (setE zs) zs=setE zs ((es.take i).foldl (setE zs) zs) e:=by rw [Ap ee,Dv];rfl
     have fl:((es.take i).foldl (setE zs) zs).length=zs.length:=Ao zs (es.take i);rw [st] at hN;generalize (es.take i).foldl (setE zs) zs=f at *;have em:=hbe e (K2 ee);generalize hF:f.map PV.str=FL at *;have FLl:FL.length=zs.length:=by rw [<- hF,B2];exact fl
     cases e with
     | d x =>
       rw [CT];walk_at "pu";exact if_f KR (hN _ _ ⟨_,by rw [show setE zs f (.d x)=f from rfl,hF],rfl⟩)
     | t x y =>
       have hx:=em x (by simp [evB]);have hy:=em y (by simp [evB]);have lx:=Q1 hx;have ly:=Q1 hy;rw [Y3];walk_at "pu";refine⟨⟨_,rfl⟩,?_⟩;refine⟨⟨_,rfl⟩,hix x hx ?_⟩;dsimp only;rw [p6 (by omega) (by omega)];dsimp only;refine⟨⟨_,rfl⟩,⟨_,rfl⟩,hix y hy ?_⟩;dsimp only;rw [p6 (by omega) (by grind)];dsimp only;rw [P4,P4]
       have e3:(FL.set (ixS zs x) (.str y)).set (ixS zs y) (.str x)=(setE zs f (.t x y)).map PV.str:=by
         show _=((f.set (ixS zs x) y).set (ixS zs y) x).map PV.str;rw [AD,AD,hF]
       rw [e3];exact hN _ _ ⟨_,rfl,rfl⟩
   · grind
 generalize hE:es.map evP=E at *;generalize hZ:zs.map PV.str=Z at *;walk_at "pu";refine go _ fun s3=>?_;have h':=h;unfold aft at h';generalize (es.foldl (setE zs) zs).map PV.str=FL at *;walk_at "pu";exact h'
theorem LN {R:PV->Nat->Prop}(h1:1<=s)(hn:1<=n)(h:R (.int (((n + s - 1) / s:Nat):Int)) m)(h8:s<=8):Fa [.tup [.int (s:Int),.int r],.int (n:Int)] m R:=by
 refine⟨rfl,?_⟩;unfold Le;walk_at "pu";refine⟨⟨by omega,by omega⟩,?_⟩
 have e:((n:Int) + s - 1) / s=(((n + s - 1) / s:Nat):Int):=by
   rw [show(n:Int) + s - 1=((n + s - 1:Nat):Int) by omega]
   rfl
 rw [e];exact h
theorem LO {R:PV->Nat->Prop}(h8:s<=8)(hn:1<=n)(hk:k<=1000)(h:R (.tup [.int ((k * s:Nat):Int),.int ((hiN s n k:Nat):Int)]) m):E_ [.tup [.int (s:Int),.int r],.int (n:Int),.int (k:Int)] m R:=by
 refine⟨rfl,?_⟩;unfold Lc;walk_at "pu";refine⟨.inr ⟨by omega,by omega⟩,?_⟩;have e2:(k:Int) * s=((k * s:Nat):Int):=(Int.natCast_mul k s).symm;rw [e2];unfold hiN at h
 by_cases c:k * s + s < n
 · refine if_t (decide_eq_true (by omega)) ?_
   try dsimp only
   rw [show((k * s:Nat):Int) + (s:Int)=((min (k * s + s) (n - 1):Nat):Int) by omega];exact h
 · refine if_f (decide_eq_false (by omega)) ?_
   try dsimp only
   rw [show(n:Int) - 1=((min (k * s + s) (n - 1):Nat):Int) by omega];exact h
theorem LP {R:PV->Nat->Prop}(h8:s<=8)(hn:1<=n)(hk:k<=1000)(h:R (.tup [.int ((k * s:Nat):Int),.int ((hiN s n k:Nat):Int)]) m):Fb [.tup [.int (s:Int),.int r],.int (n:Int),.int (k:Int)] m R:=by
 refine⟨rfl,?_⟩;unfold Li;walk_at "pu";refine⟨.inr ⟨by omega,by omega⟩,?_⟩;have e2:(k:Int) * s=((k * s:Nat):Int):=(Int.natCast_mul k s).symm
 have e:(if(n:Int) - 1 < (k:Int) * s + s then(n:Int) - 1 else(k:Int) * s + s)=((hiN s n k:Nat):Int):=by
   rw [e2];unfold hiN
   split <;> omega
 try dsimp only
 rw [e,e2];exact h
theorem Fk (hl:es.length<=1000000)(h:R (.lst ((es.filter isTo).map evP)) n):u7 [shP es] n R:=by
 refine⟨rfl,?_⟩;unfold Lk shP;generalize hE:es.map evP=E;have El:E.length=es.length:=by rw [<- hE,B2]
 walk_at "pu";refine⟨by omega,?_⟩;rw [<- hE];refine KJ evP isTo _ _ _ _ (fun e he m Q hQ=>?_) h;cases e with
 | d x =>
   rw [CT] at *;walk_at "pu";rw [KR];exact hQ
 | t x y =>
   rw [Y3] at *;walk_at "pu";exact hQ
theorem R_ {R:PV->Nat->Prop}(hi:i < f.length)(hj:j < f.length)(h:R (rowP (exch f i j)) n):HH [rowP f,.int (i:Int),.int (j:Int)] n R:=by
 refine⟨rfl,?_⟩;unfold Ll;unfold rowP at *;have ai:∀{k:Nat},k < f.length->atI (f.map PV.str) (k:Int)=some (.str (nm f k)):=fun {k} hk=>y4 (by rw [F6,l3 hk];rfl);have e:((f.map PV.str).set i (.str (nm f j))).set j (.str (nm f i))=(exch f i j).map PV.str:=by unfold exch;rw [AD,AD]
 generalize hF:f.map PV.str=F at *;have Fl:F.length=f.length:=by rw [<- hF,B2]
 walk_at "pu";rw [ai hj];dsimp only;rw [ai hi];dsimp only;refine⟨⟨_,rfl⟩,?_⟩;rw [p6 (by omega) (by omega)];dsimp only;rw [p6 (by omega) (by rw [G6];omega)];dsimp only;rw [P4,P4,e];exact h
theorem m_rowb (h24:zs.length<=1000)(hl:es.length<=1000)(hb:∀b∈es.flatMap evB,b∈zs)(h:R (rowP (rbh zs es)) n):HI [rowP zs,shP es] n R:=by
 refine⟨rfl,?_⟩;unfold Lm;have hix:∀z∈zs,∀{R:PV->Prop},R (.int (ixS zs z))->t9 (.tup (zs.map PV.str)) (.str z) R:=fun z hz {R} q=>m_ix rfl hz (by omega) q;have hbe:∀e∈es,∀b∈evB e,b∈zs:=fun e he b hb'=>hb b (Q5.mpr ⟨e,he,hb'⟩);generalize hS:shP es=S;have hr0:rowP zs=.tup (zs.map PV.str):=rfl;generalize hZ:zs.map PV.str=Z at *;rw [hr0];walk_at "pu";rw [<- hS];refine Fk (by omega) ?_;dsimp only;rw [hS];refine N7 (fun i env m=>∃s3,env=[some (.v (.tup Z)),some (.v S),some (.v (rowP (((es.filter isTo).take i).foldl (exE zs) zs))),s3]/\m=n) _ 0 _ _ ⟨none,by rw [List.take_zero,List.foldl_nil,hr0],rfl⟩ (fun i x env m N ex hI hN=>?_) (fun env m hI=>?_)
 · obtain⟨s3,rfl,rfl⟩:=hI;obtain⟨e,ee,rfl⟩:=Y4 ex;rw [F7] at hN ⊢;have st:((es.filter isTo).take (i + 1)).foldl (exE zs) zs=exE zs (((es.filter isTo).take i).foldl (exE zs) zs) e:=by rw [Ap ee,Dv];rfl
   have fl:(((es.filter isTo).take i).foldl (exE zs) zs).length=zs.length:=KW zs _ _;rw [st] at hN;generalize ((es.filter isTo).take i).foldl (exE zs) zs=f at *;obtain⟨he,ht⟩:=O8.mp (K2 ee);have em:=hbe e he;cases e with
   | d x=>cases ht
   | t x y =>
     have hx:=em x (by simp [evB]);have hy:=em y (by simp [evB]);have lx:=Q1 hx;have ly:=Q1 hy;rw [Y3];generalize hF:rowP f=F;walk_at "pu";refine⟨⟨_,rfl⟩,hix x hx ?_⟩;refine⟨⟨_,rfl⟩,hix y hy ?_⟩;rw [<- hF];refine R_ (by omega) (by omega) ?_;exact hN _ _ ⟨_,rfl,rfl⟩
 · obtain⟨s3,rfl,rfl⟩:=hI;rw [F7,B2,Dx,Hr];have h':R (rowP (es.foldl (exE zs) zs)) m:=h;generalize rowP (es.foldl (exE zs) zs)=F at *;walk_at "pu";exact h'
theorem u8 (hn:1<=n):hiN s n k + 1<=n:=by unfold hiN;omega
theorem HX {row:List Str}{R:PV->Nat->Prop}(h8:s<=8)(hn:1<=n)(hl:row.length=n)(hk:k<=1000)(h:R (rowP (D5 s n k row)) m):Dc [.tup [.int (s:Int),.int r],rowP row,.int (k:Int)] m R:=by
 refine⟨rfl,?_⟩;unfold Ln
 have e:cutP (row.map PV.str) (some ((k * s:Nat):Int)) (some (((hiN s n k:Nat):Int) + 1))=(D5 s n k row).map PV.str:=by
   rw [b9,show((hiN s n k:Nat):Int) + 1=((hiN s n k + 1:Nat):Int) by omega,CY row (by rw [hl];exact u8 hn)]
   rfl
 unfold rowP at *;generalize hZ:row.map PV.str=Z at *;have Zl:Z.length=n:=by rw [<- hZ,B2];exact hl
 walk_at "pu";rw [Zl];refine LP h8 hn hk ?_;walk_at "pu";rw [e];exact h
theorem m_put {row b:List Str}{R:PV->Nat->Prop}(h8:s<=8)(hn:1<=n)(h24:n<=1000)(hl:row.length=n)(hb:b.length<=1000)(hk:k<=1000)(h:R (rowP (putN s n k row b)) m):HG [.tup [.int (s:Int),.int r],rowP row,.int (k:Int),rowP b] m R:=by
 refine⟨rfl,?_⟩;unfold Lj;have e1:cutP (row.map PV.str) none (some ((k * s:Nat):Int))=(row.take (k * s)).map PV.str:=by rw [b9,Hq]
 have e2:cutP (row.map PV.str) (some (((hiN s n k:Nat):Int) + 1)) none=(row.drop (hiN s n k + 1)).map PV.str:=by
   rw [b9,show((hiN s n k:Nat):Int) + 1=((hiN s n k + 1:Nat):Int) by omega,EV]
 have l1:((row.take (k * s)).map PV.str).length<=1000:=by rw [B2,Q4];omega
 have l2:((row.drop (hiN s n k + 1)).map PV.str).length<=1000:=by rw [B2,U8];omega
 have e3:(row.take (k * s)).map PV.str++b.map PV.str++(row.drop (hiN s n k + 1)).map PV.str=(putN s n k row b).map PV.str:=by unfold putN;rw [L8,L8]
 unfold rowP at *;generalize hZ:row.map PV.str=Z at *;generalize hB:b.map PV.str=B at *;have Bl:B.length=b.length:=by rw [<- hB,B2]
 have Zl:Z.length=n:=by rw [<- hZ,B2];exact hl
 walk_at "pu";rw [Zl];refine LP h8 hn hk ?_;walk_at "pu";rw [e1,e2];refine⟨by omega,by rw [E1];omega,?_⟩;rw [e3];exact h
theorem LQ (h8:s<=8)(hn:1<=n)(h24:n<=1000)(hl:row.length=n)(hk:k<=1000)(he:es.length<=1000)(hb:∀b∈es.flatMap evB,b∈D5 s n k row)(h:R (rowP (putN s n k row (rbh (D5 s n k row) es))) m):Fc [.tup [.int (s:Int),.int r],rowP row,.int (k:Int),shP es] m R:=by
 refine⟨rfl,?_⟩;unfold Lo;have sl:(D5 s n k row).length<=1000:=by rw [u6 hl hn];have:=u8 (s:=s) (k:=k) hn;omega
 have rl:(rbh (D5 s n k row) es).length<=1000:=by rw [show(rbh (D5 s n k row) es).length=_ from KW _ _ _];exact sl
 generalize hS:shP es=S;generalize hW:rowP row=W;walk_at "pu";rw [<- hW];refine HX h8 hn hl hk ?_;rw [<- hS];refine m_rowb sl he hb ?_;exact m_put h8 hn h24 hl rl hk h
theorem ins0 {α:Type}(xs:List α)(y:α):insL xs (0:Int).toNat y=y::xs:=rfl
theorem m_day {P:List Str->List Ev->Prop}{q n0 s n:Nat}{r:Int}{row:List Str}{R:PV->Nat->Prop}
   (hP:∀st ms es,RowS st->st.length<=n->ms.length=st.length->run r 0 [] ms=some []->es.Perm ((shE 0 [] ms).map (evOf st))->Srt (es.map evP) (((shE 0 [] ms).map (evOf st)).map evP)->P st es) (hf:∀st es,P st es->Fair st es)
   (h1:1<=s) (h8:s<=8) (hn:1<=n) (h24:n<=24) (hr:RowS row) (hl:row.length=n) (hn0:n0<=999000000)
   (h:∀ess sts r' n',Dy P s n ((n + s - 1) / s) row ((n + s - 1) / s) ess sts r'->n'<=n0 + 2000->R (.tup [dayP ess,.tup (sts.map rowP),rowP r']) n'):HF [.pot (q + 1),.tup [.int (s:Int),.int r],rowP row] n0 R:=by
 refine⟨rfl,?_⟩;unfold Lh;have rl:(row.map PV.str).length=n:=by rw [B2];exact hl
 have mle:=C_ (s:=s) (n:=n) h1 hn;generalize hW:rowP row=W;have hW':W=.tup (row.map PV.str):=by rw [<- hW]
 walk_at "pu";rw [hW'];simp only [wLen,rl];refine LN h1 hn ?_ h8;generalize hmx:(n + s - 1) / s=mx at *;refine⟨⟨by omega,by omega⟩,?_⟩;rw [P4];refine N7 (fun i env m=>∃ess sts r' s5 s6 s7 s8 s9,env=[some (.v (.pot (q + 1))),some (.v (.tup [.int (s:Int),.int r])),some (.v (rowP r')),some (.own (ess.map shP)),some (.own (sts.map rowP)),s5,s6,s7,s8,s9]/\Dy P s n mx row i ess sts r'/\m<=n0 + 50 * i) _ 0 _ _ ⟨[],[],row,_,_,_,_,_,rfl,.nil,by omega⟩ (fun i x env m N ex hI hN=>?_) (fun env m hI=>?_)
 · obtain⟨ess,sts,r',s5,s6,s7,s8,s9,rfl,hd,hm⟩:=hI;obtain⟨hi,rfl⟩:=CW ex;rw [F7] at hd hm hN;obtain⟨rS,rL⟩:=hd.rows h1 hn hmx.symm hf hr hl;have el:=hd.len;have ek:(mx:Int) - 1 - i=((mx - 1 - i:Nat):Int):=by omega
   have kp:(mx - 1 - i) * s<=n - 1:=CZ h1 hn (by omega);rw [ek];have step:=fun es hp=>Dy.cons (es:=es) hd hi hp;generalize mx - 1 - i=k at *;have kh:=EY (s:=s) (n:=n) kp;have hh:=u8 (s:=s) (k:=k) hn
   have e1:cutP (r'.map PV.str) (some ((k * s:Nat):Int)) (some (((hiN s n k:Nat):Int) + 1))=(D5 s n k r').map PV.str:=by
     rw [b9,show((hiN s n k:Nat):Int) + 1=((hiN s n k + 1:Nat):Int) by omega,CY r' (by rw [rL];exact hh)]
     rfl
   have e2:cutP (r'.map PV.str) none (some ((k * s:Nat):Int))=(r'.take (k * s)).map PV.str:=by rw [b9,Hq]
   have e3:cutP (r'.map PV.str) (some (((hiN s n k:Nat):Int) + 1)) none=(r'.drop (hiN s n k + 1)).map PV.str:=by
     rw [b9,show((hiN s n k:Nat):Int) + 1=((hiN s n k + 1:Nat):Int) by omega,EV]
   have stS:=EX (s:=s) (n:=n) (k:=k) rS;have stL:=u6 (s:=s) (k:=k) rL hn;have l1:((r'.take (k * s)).map PV.str).length<=24:=by rw [B2,Q4];omega
   have l2:((r'.drop (hiN s n k + 1)).map PV.str).length<=24:=by rw [B2,U8];omega
   have aL:∀es,((aft (D5 s n k r') es).map PV.str).length<=24:=fun es=>by rw [B2,Ao];omega
   have e4:∀es,(r'.take (k * s)).map PV.str++(aft (D5 s n k r') es).map PV.str++(r'.drop (hiN s n k + 1)).map PV.str=(putN s n k r' (aft (D5 s n k r') es)).map PV.str:=fun es=>by unfold putN;rw [L8,L8]
   have sl:((D5 s n k r').map PV.str).length=(D5 s n k r').length:=by rw [B2]
   have rl':(r'.map PV.str).length=n:=by rw [B2];exact rL
   have hE:(ess.map shP).length < 1000000:=by rw [B2];omega
   have hS:(sts.map rowP).length < 1000000:=by rw [B2];omega
   have ec:∀es,shP es::ess.map shP=(es::ess).map shP:=fun _=>rfl;have ed:∀st,rowP st::sts.map rowP=(st::sts).map rowP:=fun _=>rfl;generalize hES:ess.map shP=ES at *;generalize hST:sts.map rowP=ST at *;unfold rowP at *;generalize hZ:r'.map PV.str=Z at *;walk_at "pu";rw [rl'];refine LO h8 hn (by omega) ?_;walk_at "pu";rw [e1];generalize hG:D5 s n k r'=st at *;generalize hQ:st.map PV.str=SP at *;rw [sl];refine m_word (by omega) (by omega) fun ms n' hml hw hn'=>?_;rw [<- hQ];refine RY hml (by omega) hw fun es pe se=>?_;have hp:=hP st ms es stS (by omega) hml hw pe se;have fr:=hf st es hp;refine RZ (by omega) fr.sub ?_
   try dsimp only
   have aL':=aL es;rw [e2,e3];refine⟨by omega,by rw [E1];omega,?_⟩;rw [e4];refine⟨⟨_,rfl⟩,hE,⟨_,rfl⟩,hS,?_⟩;have stp:=step es hp;have x1:insL ES (0:Int).toNat (shP es)=(es::ess).map shP:=by rw [ins0,<- hES];rfl
   have x2:insL ST (0:Int).toNat (PV.tup (st.map PV.str))=(st::sts).map rowP:=by rw [ins0,<- hST];rfl
   rw [x1,x2];exact hN _ _ ⟨_,_,_,_,_,_,_,_,rfl,stp,by omega⟩
 · obtain⟨ess,sts,r',s5,s6,s7,s8,s9,rfl,hd,hm⟩:=hI;rw [F7,EU] at hd hm;have:=h ess sts r' m hd (by omega);unfold dayP at this;generalize ess.map shP=ES at *;generalize sts.map rowP=ST at *;generalize rowP r'=RP at *;walk_at "pu";exact this
theorem m_meet {q n0:Nat}{R:PV->Nat->Prop}(hn0:n0<=999000000)(h:∀(s r:Nat) zs n',1<=s->s<=8->r<=7->1<=zs.length->zs.length<=24->RowS zs->n'<=n0 + 200->R (.tup [.tup [.int (s:Int),.int (r:Int)],rowP zs]) n'):HB [.pot (q + 1),.int 24] n0 R:=by
 refine⟨rfl,?_⟩;unfold Lb;walk_at "pu";refine⟨by omega,fun d0 d00 d01=>⟨by omega,fun d1 d10 d11=>⟨by omega,fun d2 d20 d21=>?_⟩⟩⟩;obtain⟨x,hx,ex⟩:=CC (xs:=[PV.int 0,PV.int 1,PV.int 7,PV.int d1]) d20 (by simpa using d21)
 obtain⟨r,rfl,r0,r7⟩:∃v:Int,x=.int v/\0<=v/\v<=7:=by
   simp only [B6,e7,or_false] at hx;rcases hx with rfl | rfl | rfl | rfl <;> exact⟨_,rfl,by omega,by omega⟩
 rw [ex];dsimp only;obtain⟨s,rfl⟩:=DC d00;obtain⟨r,rfl⟩:=DC r0;refine⟨by omega,fun d3 d30 d31=>⟨by omega,fun d4 d40 d41=>⟨by omega,fun d5 d50 d51=>?_⟩⟩⟩
 have d41':d4 < 6:=by
   have:(if(6:Int) < 24 then(6:Int) else 24)=6:=rfl;omega
 obtain⟨y,hy,ey⟩:=CC (xs:=[PV.int (1 + d3),PV.int (1 + d4)]) d50 (by simpa using d51)
 obtain⟨many,rfl,m0,m1⟩:∃v:Int,y=.int v/\1<=v/\v<=24:=by
   simp only [B6,e7,or_false] at hy;rcases hy with rfl | rfl <;> exact⟨_,rfl,by omega,by omega⟩
 rw [ey];dsimp only;refine RU m0 m1 (by omega) fun zs n' zl zr hn'=>?_;have e:(1:Int) + (s:Int)=((1 + s:Nat):Int):=by omega
 rw [e];exact h (1 + s) r zs n' (by omega) (by omega) (by omega) (by omega) (by omega) zr (by omega)
theorem Sa (h:Srt ys [.int a,.int b]):ys=[.int (min a b),.int (max a b)]:=by
 obtain⟨p,q⟩:=h;have l:=p.length_eq
 match ys,l with
 | [u, v], _ =>
   have hq:lexK (keyP v) (keyP u)=false:=by simpa using q
   have two:(u=.int a/\v=.int b)\/(u=.int b/\v=.int a):=by
     have hu:u∈[PV.int a,PV.int b]:=p.mem_iff.mp (by simp);rcases B6.mp hu with e | hu
     · subst e;exact .inl ⟨rfl,by simpa using(List.perm_cons _).mp p⟩
     · have e:u=.int b:=by simpa using hu
       subst e;have p2:=p.trans (List.Perm.swap (PV.int b) (PV.int a) []);exact .inr ⟨rfl,by simpa using(List.perm_cons _).mp p2⟩
   rcases two with⟨rfl,rfl⟩ | ⟨rfl,rfl⟩
   · have:¬b < a:=by
       intro c
       have e:lexK [N1 b] [N1 a]=true:=by
         show(if(N1 b:Key)=N1 a then lexK [] [] else decide (b < a))=true;rw [if_neg (by intro z;cases z;omega)];exact decide_eq_true c
       rw [show keyP (PV.int b)=[N1 b] from rfl,show keyP (PV.int a)=[N1 a] from rfl,e] at hq;cases hq
     rw [show min a b=a by omega,show max a b=b by omega]
   · have:¬a < b:=by
       intro c
       have e:lexK [N1 a] [N1 b]=true:=by
         show(if(N1 a:Key)=N1 b then lexK [] [] else decide (a < b))=true;rw [if_neg (by intro z;cases z;omega)];exact decide_eq_true c
       rw [show keyP (PV.int b)=[N1 b] from rfl,show keyP (PV.int a)=[N1 a] from rfl,e] at hq;cases hq
     rw [show min a b=b by omega,show max a b=a by omega]
theorem Fm (hs:st.length<=100)(hx:x∈st)(hy:y∈st)(h:R (rowP (btwU st x y)) n):c8 [rowP st,evP (.t x y)] n R:=by
 refine⟨rfl,?_⟩;unfold Lz;have hix:∀z∈st,∀{R:PV->Prop},R (.int (ixS st z))->t9 (.tup (st.map PV.str)) (.str z) R:=fun z hz {R} q=>m_ix rfl hz (by omega) q;have hr0:rowP st=.tup (st.map PV.str):=rfl;have lx:=Q1 hx;have ly:=Q1 hy
 have hcut:cutP (st.map PV.str) (some (min (ixS st x:Int) (ixS st y) + 1)) (some (max (ixS st x:Int) (ixS st y)))=(btwU st x y).map PV.str:=by
   have:=CY (st.map PV.str) (a:=min (ixS st x) (ixS st y) + 1) (b:=max (ixS st x) (ixS st y)) (by rw [B2];omega);unfold btwU;rw [List.map_drop,List.map_take,<- this]
   congr 2 <;> omega
 generalize hZ:st.map PV.str=Z at *;rw [hr0,Y3];walk_at "pu";refine⟨⟨_,rfl⟩,hix x hx ?_⟩;refine⟨⟨_,rfl⟩,hix y hy ?_⟩;refine⟨.inl (by simp),fun ys hys=>?_⟩;rw [Sa hys];refine⟨rfl,?_⟩;walk_at "pu";rw [hcut];exact h
theorem Sc {st:List Str}{x y:Str}{n:Nat}{R:PV->Nat->Prop}(hs:st.length<=100)(hx:x∈st)(hy:y∈st)(h:R (.bl (decide (ixS st x < ixS st y))) n):HM [rowP st,evP (.t x y)] n R:=by
 refine⟨rfl,?_⟩;unfold Ly;have hix:∀z∈st,∀{R:PV->Prop},R (.int (ixS st z))->t9 (.tup (st.map PV.str)) (.str z) R:=fun z hz {R} q=>m_ix rfl hz (by omega) q;have hr0:rowP st=.tup (st.map PV.str):=rfl;generalize hZ:st.map PV.str=Z at *;rw [hr0,Y3];walk_at "pu";refine⟨⟨_,rfl⟩,hix y hy ?_⟩;refine⟨⟨_,rfl⟩,hix x hx ?_⟩;dsimp only;rw [show decide ((ixS st x:Int) < ixS st y)=decide (ixS st x < ixS st y) by rw [decide_eq_decide];omega];exact h
theorem m_far (hs:st.length<=100)(hx:x∈st)(hy:y∈st)(h:R (.bl (decide (r < ((btwU st x y).length:Int)))) n):HN [rowP st,.int r,evP (.t x y)] n R:=by
 refine⟨rfl,?_⟩;unfold LA;generalize hS:rowP st=S;generalize hT:evP (.t x y)=T;walk_at "pu";subst hS hT;refine Fm hs hx hy ?_;dsimp only;rw [B2];exact h
theorem HY:∀(es:List Ev) (s0 s1:Option Pu.Slot) (n:Nat) (R:List PV->Nat->Prop),R ((es.flatMap evB).map PV.str) n->Aj (gN 0) (qIt (qSl (qV 0) (K7 (qC (.int 1))) qNo)) (gN 1) qTru (qV 1) (es.map evP) [s0,s1] n R
 | [],_,_,_,_,h=>h
 | .d x :: es, s0, s1, n, R, h => by
   have ih:=HY es (some (.v (.tup [.str DROP,.str x]))) (some (.v (.str x))) n (fun ws n4=>R (.str x::ws) n4) h;rw [J9,CT];have e:cutP [PV.str DROP,PV.str x] (some 1) none=[.str x]:=rfl;generalize es.map evP=E at *;unfold Aj;walk_at "pu";rw [e];exact⟨by simp,ih⟩
 | .t x y :: es, s0, s1, n, R, h => by
   have ih:=HY es (some (.v (.tup [.str u5,.str x,.str y]))) (some (.v (.str y))) n (fun ws n4=>R (.str x::.str y::ws) n4) h;rw [J9,Y3];have e:cutP [PV.str u5,PV.str x,PV.str y] (some 1) none=[.str x,.str y]:=rfl;generalize es.map evP=E at *;unfold Aj;walk_at "pu";rw [e];exact⟨by simp,ih⟩
theorem HZ {es:List Ev}{n:Nat}{R:PV->Nat->Prop}(hl:es.length<=1000)(h:R (.lst ((es.flatMap evB).map PV.str)) n):BA [shP es] n R:=by
 refine⟨rfl,?_⟩;unfold Lv shP;have go:=fun R' h'=>HY es none none n R' h';generalize hE:es.map evP=E at *;have El:E.length=es.length:=by rw [<- hE,B2]
 walk_at "pu";exact⟨by omega,go _ h⟩
theorem LR {x:Str}:∀{ys:List Str},x∉ys->DT (.str x) (ys.map DH)=0
 | [],_=>rfl
 | y :: ys, h => by
   have hy:y≠x:=fun e=>h (by rw [e];exact B8);show(if BZ (.str y) (.str x) then 1 else 0) + DT (.str x) (ys.map DH)=0;rw [LR fun z=>h (B3 _ z)]
   have e:BZ (.str y) (.str x)=false:=by
     show decide (y=x)=false;exact decide_eq_false hy
   rw [e];rfl
theorem LS {x:Str}:∀{ys:List Str},ys.Nodup->x∈ys->DT (.str x) (ys.map DH)=1
 | [],_,h=>nomatch h
 | y :: ys, nd, h => by
   obtain⟨n1,n2⟩:=L7.mp nd;show(if BZ (.str y) (.str x) then 1 else 0) + DT (.str x) (ys.map DH)=1
   by_cases e:y=x
   · subst e
     have e:BZ (.str y) (.str y)=true:=by
       show decide (y=y)=true;exact decide_eq_true rfl
     rw [LR n1,e];rfl
   · have hx:x∈ys:=(B6.mp h).elim (fun z=>absurd z.symm e) id
     have e':BZ (.str y) (.str x)=false:=by
       show decide (y=x)=false;exact decide_eq_false e
     rw [LS n2 hx,e'];rfl
theorem Sd {st:List Str}{es:List Ev}{n:Nat}{R:PV->Nat->Prop}(hf:Fair st es)(hl:es.length<=1000)(h:R .non n):Ff [rowP st,shP es] n R:=by
 refine⟨rfl,?_⟩;unfold Lw;have hr0:rowP st=.tup (st.map PV.str):=rfl;generalize hS:shP es=S;have nin:∀{z:Str} {R:PV->Prop},R (.bl (!decide (z∈st)))->wIn 4 true (.str z) (.tup (st.map PV.str)) R:=fun q=>ET rfl q;rw [hr0];generalize hZ:st.map PV.str=Z at *;walk_at "pu";rw [<- hS];refine HZ hl ?_;rw [hS];have tx:=Jy (es.flatMap evB);generalize hB:(es.flatMap evB).map PV.str=B at *;refine N7 (fun i env m=>∃s3,env=[some (.v (.tup Z)),some (.v S),some (.v (.lst B)),s3]/\m=n) _ 0 _ _ ⟨none,rfl,rfl⟩ (fun i x env m N ex hI hN=>?_) (fun env m hI=>?_)
 · obtain⟨s3,rfl,rfl⟩:=hI;rw [<- hB] at ex;obtain⟨z,ez,rfl⟩:=Y4 ex;have zm:=K2 ez;have zs:=hf.sub z zm;walk_at "pu";refine nin ?_;rw [decide_eq_true zs];refine if_f rfl ?_;refine⟨⟨_,rfl⟩,?_⟩;rw [tx];dsimp only;rw [LS hf.nd zm];exact hN _ _ ⟨_,rfl,rfl⟩
 · obtain⟨s3,rfl,rfl⟩:=hI;walk_at "pu";exact h
theorem Se {r:Int}{st:List Str}{es:List Ev}{x y:Str}{n:Nat}{R:PV->Nat->Prop}(hs:st.length<=100)(nd:st.Nodup)(so:U1 r st es)(he:Ev.t x y∈es)(hl:es.length<=1000)(h:R .non n):Fg [rowP st,.int r,shP es,evP (.t x y)] n R:=by
 refine⟨rfl,?_⟩;unfold LB;obtain⟨hx,hy⟩:=so.fair.tx he;generalize hS:shP es=S;generalize hW:rowP st=W;generalize hT:evP (.t x y)=T;walk_at "pu";subst hW hT;refine Sc hs hx hy ?_;have ah:=so.ahead x y he;refine if_f (decide_eq_false (by omega)) ?_;refine m_far hs hx hy ?_;have ne:=so.near x y he;refine if_f (decide_eq_false (by omega)) ?_;rw [<- hS];refine HZ hl ?_;rw [hS];refine Fm hs hx hy ?_;have ful:=so.full x y he;have nin:∀{z:Str} {R:PV->Prop},R (.bl (!decide (z∈es.flatMap evB)))->wIn 4 true (.str z) (.lst ((es.flatMap evB).map PV.str)) R:=fun q=>KK rfl q;generalize hB:(es.flatMap evB).map PV.str=B at *;generalize hW:rowP st=W;generalize hT:evP (.t x y)=T;refine N7 (fun i env m=>∃s5,env=[some (.v W),some (.v (.int r)),some (.v S),some (.v T),some (.v (.lst B)),s5]/\m=n) _ 0 _ _ ⟨none,rfl,rfl⟩ (fun i z env m N ex hI hN=>?_) (fun env m hI=>?_)
 · obtain⟨s5,rfl,rfl⟩:=hI;obtain⟨z,ez,rfl⟩:=Y4 ex;have zm:=ful z (K2 ez);walk_at "pu";refine nin ?_;rw [decide_eq_true zm];exact if_f rfl (hN _ _ ⟨_,rfl,rfl⟩)
 · obtain⟨s5,rfl,rfl⟩:=hI;walk_at "pu";exact h
theorem Sf {r:Int}{st:List Str}{es:List Ev}{x y x' y':Str}{n:Nat}{R:PV->Nat->Prop}(hs:st.length<=100)(nd:st.Nodup)(so:U1 r st es)(he:Ev.t x y∈es)(he':Ev.t x' y'∈es)(h:R (.bl false) n):Fh [rowP st,evP (.t x y),evP (.t x' y')] n R:=by
 refine⟨rfl,?_⟩;unfold LC;obtain⟨hx,hy⟩:=so.fair.tx he;have pl:=so.plain x y x' y' he he';have mb:∀{R:PV->Nat->Prop},R (.lst [.str x,.str y,.str x',.str y']) n->BA [.tup [.tup [.str u5,.str x,.str y],.tup [.str u5,.str x',.str y']]] n R:=fun q=>HZ (es:=[.t x y,.t x' y']) (by simp) q;have mw:∀{R:PV->Nat->Prop},R (rowP (btwU st x y)) n->c8 [rowP st,.tup [.str u5,.str x,.str y]] n R:=fun q=>Fm hs hx hy q;generalize hW:rowP st=W at *;rw [Y3,Y3];walk_at "pu";refine mb ?_;have tx:T4 [.str x,.str y,.str x',.str y']=some [x,y,x',y']:=rfl;dsimp only;rw [tx];dsimp only;refine⟨by simp,?_⟩
 by_cases c:((met (p9 [x,y,x',y']) [x,y,x',y'].length).length:Int)=4
 · refine if_f (by rw [decide_eq_true c];rfl) ?_;refine mw ?_;refine CS rfl ?_;refine CS rfl ?_;rw [GG,decide_eq_decide.mpr pl];generalize decide (y'∈btwU st x y)=b;cases b <;> exact h
 · refine if_t (by rw [decide_eq_false c];rfl) ?_;exact h
theorem Sg {r:Int}{st:List Str}{es:List Ev}{x y:Str}{n:Nat}{R:PV->Nat->Prop}(hs:st.length<=100)(nd:st.Nodup)(so:U1 r st es)(he:Ev.t x y∈es)(h:R .non n):Fi [rowP st,evP (.t x y),.lst ((es.filter isTo).map evP)] n R:=by
 refine⟨rfl,?_⟩;unfold LD;have mi:∀{x' y':Str} {R:PV->Nat->Prop},Ev.t x' y'∈es->R (.bl false) n->Fh [rowP st,evP (.t x y),evP (.t x' y')] n R:=fun hh q=>Sf hs nd so he hh q;generalize hW:rowP st=W at *;generalize hT:evP (.t x y)=T at *;generalize hL:(es.filter isTo).map evP=L;walk_at "pu";refine N7 (fun i env m=>∃s3,env=[some (.v W),some (.v T),some (.v (.lst L)),s3]/\m=n) _ 0 _ _ ⟨none,rfl,rfl⟩ (fun i z env m N ex hI hN=>?_) (fun env m hI=>?_)
 · obtain⟨s3,rfl,rfl⟩:=hI;rw [<- hL] at ex;obtain⟨e,ee,rfl⟩:=Y4 ex;obtain⟨em,et⟩:=O8.mp (K2 ee);cases e with
   | d z=>cases et
   | t x' y' =>
     generalize hU:evP (.t x' y')=U at *;walk_at "pu";rw [<- hU];refine mi em ?_;rw [hU];exact if_f rfl (hN _ _ ⟨_,rfl,rfl⟩)
 · obtain⟨s3,rfl,rfl⟩:=hI;walk_at "pu";exact h
theorem Sh {r:Int}{st:List Str}{es:List Ev}{n:Nat}{R:PV->Nat->Prop}(hs:st.length<=100)(nd:st.Nodup)(so:U1 r st es)(hl:es.length<=1000)(h:R .non n):Fj [rowP st,.int r,shP es] n R:=by
 refine⟨rfl,?_⟩;unfold LE;have mt:∀{x y:Str} {R:PV->Nat->Prop},Ev.t x y∈es->R .non n->Fg [rowP st,.int r,shP es,evP (.t x y)] n R:=fun he q=>Se hs nd so he hl q;have mc:∀{x y:Str} {R:PV->Nat->Prop},Ev.t x y∈es->R .non n->Fi [rowP st,evP (.t x y),.lst ((es.filter isTo).map evP)] n R:=fun he q=>Sg hs nd so he q;have mb:∀{R:PV->Nat->Prop},R .non n->Ff [rowP st,shP es] n R:=fun q=>Sd so.fair hl q;have mo:∀{R:PV->Nat->Prop},R (.lst ((es.filter isTo).map evP)) n->u7 [shP es] n R:=fun q=>Fk (by omega) q;generalize hW:rowP st=W at *;generalize hS:shP es=S at *;generalize hL:(es.filter isTo).map evP=L at *;walk_at "pu";refine mb ?_
 try dsimp only
 refine mo ?_;refine N7 (fun i env m=>∃s5,env=[some (.v W),some (.v (.int r)),some (.v S),some (.v .non),some (.v (.lst L)),s5]/\m=n) _ 0 _ _ ⟨none,rfl,rfl⟩ (fun i z env m N ex hI hN=>?_) (fun env m hI=>?_)
 · obtain⟨s3,rfl,rfl⟩:=hI;rw [<- hL] at ex;obtain⟨e,ee,rfl⟩:=Y4 ex;obtain⟨em,et⟩:=O8.mp (K2 ee);cases e with
   | d z=>cases et
   | t x' y' =>
     generalize hU:evP (.t x' y')=U at *;walk_at "pu";rw [<- hU];refine mt em ?_;walk_at "pu";refine mc em ?_;rw [hU];exact hN _ _ ⟨_,rfl,rfl⟩
 · obtain⟨s3,rfl,rfl⟩:=hI;walk_at "pu";exact h
def evL (st:List Str):Ev->Int
 | .d _=>0
 | .t x y=>((btwU st x y).length:Int)
theorem LT {st:List Str}{n:Nat}(hs:st.length<=100):∀(ts:List Ev) (R:List Int->Nat->Prop),(∀e∈ts,∃x y,e=.t x y/\x∈st/\y∈st)->R (ts.map (evL st)) n->Am (qUn wLen (B9 c8 (A1 (qV 1) (A1 (qV 0) qNil)))) (rowP st) (ts.map evP) n R
 | [],R,_,h=>h
 | e :: ts, R, ht, h => by
   obtain⟨x,y,rfl,hx,hy⟩:=ht e B8;have ih:=LT hs (n:=n) ts (fun ks n2=>R (evL st (.t x y)::ks) n2) (fun e he=>ht e (B3 _ he)) h;have mb:∀{R:PV->Nat->Prop},R (rowP (btwU st x y)) n->c8 [rowP st,evP (.t x y)] n R:=fun q=>Fm hs hx hy q;rw [J9];generalize ts.map evP=E at *;generalize hW:rowP st=W at *;generalize hT:evP (.t x y)=T at *;unfold Am;walk_at "pu";refine mb ?_
   try dsimp only
   refine⟨_,rfl,?_⟩;have e:(((btwU st x y).map PV.str).length:Int)=evL st (.t x y):=by rw [B2];rfl
   rw [e];exact ih
theorem Si {ts:List Ev}{f:Ev->Int}{ys:List PV}(h:SrtK (ts.map f) (ts.map evP) ys):∃ts':List Ev,ys=ts'.map evP/\ts'.Perm ts/\ts'.Pairwise fun a b=>f a<=f b:=by
 obtain⟨ps,hp,rfl,ho⟩:=h
 have e:(ts.map f).zip (ts.map evP)=ts.map fun e=>(f e,evP e):=by
   clear hp
   induction ts with
   | nil=>rfl
   | cons t ts ih=>simp [ih]
 rw [e] at hp;obtain⟨l,pl,rfl⟩:=KH hp ts rfl;refine⟨l,by rw [R9];rfl,pl,?_⟩;rw [List.pairwise_map] at ho;exact ho
def isDr (e:Ev):Bool:=!isTo e
theorem Sj {r:Int}{st:List Str}{es:List Ev}{n:Nat}{R:PV->Nat->Prop}(hs:st.length<=63)(nd:st.Nodup)(so:U1 r st es)(hl:es.length<=63)
   (h:∀ts:List Ev,ts.Perm (es.filter isTo)->(ts.Pairwise fun a b=>evL st a<=evL st b)->R (.tup [.str (A3 "course"),.tup ((es.filter isDr++ts).map evP)]) n):HQ [rowP st,.int r,shP es] n R:=by
 refine⟨rfl,?_⟩;unfold HP;have mr:∀{R:PV->Nat->Prop},R .non n->Fj [rowP st,.int r,shP es] n R:=fun q=>Sh (by omega) nd so (by omega) q;have mo:∀{R:PV->Nat->Prop},R (.lst ((es.filter isTo).map evP)) n->u7 [shP es] n R:=fun q=>Fk (by omega) q
 have tl:((es.filter isTo).map evP).length < 64:=by
   rw [B2];have:=BJ isTo es;omega
 have dl:((es.filter isDr).map evP).length < 64:=by
   rw [B2];have:=BJ isDr es;omega
 have kk:∀R,R ((es.filter isTo).map (evL st)) n->Am (qUn wLen (B9 c8 (A1 (qV 1) (A1 (qV 0) qNil)))) (rowP st) ((es.filter isTo).map evP) n R:=fun R q=>LT (by omega) _ R (fun e he=>by
   obtain⟨em,et⟩:=O8.mp he;cases e with
   | d z=>cases et
   | t x y =>
     obtain⟨hx,hy⟩:=so.fair.tx em
     exact⟨x,y,rfl,hx,hy⟩) q
 have hS':shP es=.tup (es.map evP):=rfl;have El:(es.map evP).length=es.length:=B2 ..
 have cf:=fun R' q=>KJ (tt:=(qB (qOp (wEq 4) (qOp wIx (qV 0) (qC (.int 0))) (qC (.str (A3 "drop")))))) (rest:=[]) evP isDr es none n R' (fun e he m Q hQ=>by
   cases e with
   | d x =>
     rw [CT] at *;walk_at "pu";exact hQ
   | t x y =>
     rw [Y3] at *;walk_at "pu";rw [KU]
     exact hQ) q
 generalize hW:rowP st=W at *;generalize hS:shP es=S at *;generalize hL:(es.filter isTo).map evP=L at *;generalize hD:(es.filter isDr).map evP=D at *;generalize hE:es.map evP=E at *;walk_at "pu";refine mr ?_
 try dsimp only
 rw [hS']
 try dsimp only
 refine⟨by omega,cf _ ?_⟩;rw [<- hS'];refine mo ?_
 try dsimp only
 refine⟨tl,kk _ fun ys hy=>?_⟩;rw [<- hL] at hy;obtain⟨ts,rfl,pt,ot⟩:=Si hy;have:=h ts pt ot;rw [L8,hD] at this;have tsl:(ts.map evP).length < 64:=by rw [B2,pt.length_eq,<- B2 (f:=evP),hL];exact tl
 generalize ts.map evP=TE at *
 try dsimp only
 refine⟨by omega,this⟩
theorem Sk {R:PV->Nat->Prop}(h1:1<=s)(hn:1<=n)(h8:s<=8)(h:R (.int (((n + s - 1) / s:Nat):Int)) m):Fe [.tup [.int (s:Int),.int r],.int (n:Int)] m R:=by
 refine⟨rfl,?_⟩;unfold Lu;walk_at "pu";refine⟨⟨by omega,by omega⟩,?_⟩
 have e:((n:Int) + s - 1) / s=(((n + s - 1) / s:Nat):Int):=by
   rw [show(n:Int) + s - 1=((n + s - 1:Nat):Int) by omega]
   rfl
 rw [e];exact h
theorem Sl:decide (A3 "course"=A3 "unsound")=false:=by decide +kernel
theorem m_dayb {P:List Str->List Ev->Prop}{s n m r:Nat}{row row':List Str}{ess:List (List Ev)}{sts:List (List Str)}{R:PV->Nat->Prop}(hf:∀st es,P st es->U1 (r:Int) st es/\es.length<=63)(h1:1<=s)(h8:s<=8)(hn:1<=n)(h24:n<=24)(hr:RowS row)(hl:row.length=n)
   (hd:Dy P s n ((n + s - 1) / s) row ((n + s - 1) / s) ess sts row') (h:R (.tup [.str (A3 "row"),rowP row']) m):HR [.tup [.int (s:Int),.int (r:Int)],rowP row,dayP ess] m R:=by
 refine⟨rfl,?_⟩;unfold LF;have mle:=C_ (s:=s) (n:=n) h1 hn;have mr:∀{R:PV->Nat->Prop},R (.int (((n + s - 1) / s:Nat):Int)) m->Fe [.tup [.int (s:Int),.int (r:Int)],.int (n:Int)] m R:=fun q=>Sk h1 hn h8 q;generalize hmx:(n + s - 1) / s=mx at *;obtain⟨el,sl⟩:=hd.len;have dl:(ess.map shP).length=mx:=by rw [B2];exact el
 have ai:∀{k:Nat} {es:List Ev},ess[k]?=some es->atI (ess.map shP) (k:Int)=some (shP es):=fun {k es} hk=>y4 (by rw [F6,hk];rfl);unfold dayP;have rl:(row.map PV.str).length=n:=by rw [B2];exact hl
 generalize hE:ess.map shP=E at *;generalize hW:rowP row=W;have hW':W=.tup (row.map PV.str):=by rw [<- hW]
 walk_at "pu";rw [hW'];simp only [wLen,rl];refine mr ?_;rw [dl];rw [if_neg (by rw [JB,decide_eq_true rfl];decide)];dsimp only;refine⟨⟨by omega,by omega⟩,?_⟩;rw [P4,<- hW'];refine N7 (fun i env m'=>∃r' s5 s6 s7,env=[some (.v (.tup [.int (s:Int),.int (r:Int)])),some (.v W),some (.v (.tup E)),some (.v (.int (mx:Int))),some (.v (rowP r')),s5,s6,s7]/\Dy P s n mx row i (ess.drop (mx - i)) (sts.drop (mx - i)) r'/\m'=m) _ 0 _ _ ⟨row,_,_,_,by rw [hW],by rw [BT,R7 (by omega),R7 (by omega)];exact .nil,rfl⟩ (fun i x env m' N ex hI hN=>?_) (fun env m' hI=>?_)
 · obtain⟨r',s5,s6,s7,rfl,di,rfl⟩:=hI;obtain⟨hi,rfl⟩:=CW ex;rw [F7] at di hN;obtain⟨es,st,r2,ee,es_,xe,xs,d2,hst,hp,dn⟩:=hd.at hi;have er:=d2.det di;subst er;obtain⟨rS,rL⟩:=di.rows h1 hn hmx.symm (fun st es p=>(hf st es p).1.fair) hr hl;have ek:(mx:Int) - 1 - i=((mx - 1 - i:Nat):Int):=by omega
   rw [ek];obtain⟨so,hlen⟩:=hf st es hp;rw [CV so.fair] at dn;have k24:mx - 1 - i<=1000:=by omega
   have ai':=ai ee;have stS:RowS st:=by rw [hst];exact EX rS
   have stL:st.length<=24:=by
     rw [hst,u6 rL hn];have:=u8 (s:=s) (k:=mx - 1 - i) hn;omega
   generalize mx - 1 - i=k at *;generalize hV:rowP r2=V;walk_at "pu";rw [<- hV];refine HX h8 hn rL k24 ?_
   try dsimp only
   rw [ai',<- hst];dsimp only;refine Sj (by omega) stS.1 so hlen fun ts pt ot=>?_;generalize (es.filter isDr++ts).map evP=TE;generalize hQ:shP es=Q;walk_at "pu";refine if_f Sl ?_
   try dsimp only
   rw [<- hQ];refine LQ h8 hn (by omega) rL k24 (by omega) (by rw [<- hst];exact so.fair.sub) ?_;rw [<- hst];exact hN _ _ ⟨_,_,_,_,rfl,dn,rfl⟩
 · obtain⟨r',s5,s6,s7,rfl,di,rfl⟩:=hI;rw [F7,EU,i7,i3,i3] at di;have e:=di.det hd;subst e;generalize rowP r'=V at *;walk_at "pu";exact h
def hit (b:Str):Ev->Option PV
 | .d x=>if x=b then some (.str (A3 "d")) else none
 | .t x y=>if y=b then some (.str (A3 "t")) else if x=b then some (.str (A3 "u")) else none
def P0 (b:Str)(es:List Ev):Option PV:=es.foldl (fun acc e=>(hit b e).or acc) none
theorem H_ {b:Str}{e:Ev}(h:b∉evB e):hit b e=none:=by
 cases e with
 | d x =>
   have:x≠b:=fun z=>h (by rw [<- z];simp [evB]);simp [hit,this]
 | t x y =>
   have h1:x≠b:=fun z=>h (by rw [<- z];simp [evB]);have h2:y≠b:=fun z=>h (by rw [<- z];simp [evB]);simp [hit,h1,h2]
theorem Sm (b:Str)(es:List Ev)(e:Ev):P0 b (es++[e])=(hit b e).or (P0 b es):=by
 unfold P0;rw [Dv];rfl
theorem LU (b:Str):∀(es:List Ev) (acc:Option PV),(∀e∈es,hit b e=none)->es.foldl (fun acc e=>(hit b e).or acc) acc=acc:=by
 intro xq
 induction xq with
 | nil =>
   intro acc _;exact rfl
 | cons e es ih =>
   intro acc h;rw [Q6,h e B8];exact ih _ fun f hf=>h f (B3 _ hf)
theorem Sn {b:Str}{es:List Ev}(h:b∉es.flatMap evB):P0 b es=none:=LU b es none fun e he=>H_ fun z=>h (Q5.mpr ⟨e,he,z⟩)
theorem Ia {b:Str}{v:PV}:∀(es:List Ev) (acc:Option PV) (e:Ev),(es.flatMap evB).Nodup->e∈es->hit b e=some v->es.foldl (fun acc e=>(hit b e).or acc) acc=some v:=by
 intro xq
 induction xq with
 | nil =>
   intro _ _ _ h _;exact nomatch h
 | cons f es ih =>
   intro acc e nd he hv;rw [X2] at nd;obtain⟨n1,n2,n3⟩:=AA.mp nd;rw [Q6]
   by_cases c:e∈es
   · exact ih _ e n2 c hv
   · have ef:e=f:=(B6.mp he).resolve_right c;subst ef;have hb:b∈evB e:=Classical.byContradiction fun z=>by rw [H_ z] at hv;cases hv
     rw [hv,LU b es _ fun f hf=>H_ fun z=>n3 b hb b (Q5.mpr ⟨f,hf,z⟩) rfl]
     rfl
theorem LV (k j:Key)(v:PV):∀(ks:List Key) (xs:List PV),getP ks ((ks.zip xs).map fun p=>if p.1=k then v else p.2) j=if k=j then(getP ks xs j).map (fun _=>v) else getP ks xs j
 | [],xs=>by cases xs <;> simp [getP]
 | k0::ks,[]=>by simp [getP]
 | k0 :: ks, x0 :: xs => by
   show(if k0=j then some (if k0=k then v else x0) else getP ks ((ks.zip xs).map fun p=>if p.1=k then v else p.2) j)=if k=j then(if k0=j then some x0 else getP ks xs j).map (fun _=>v) else(if k0=j then some x0 else getP ks xs j);rw [LV k j v ks xs]
   by_cases c:k0=j
   · by_cases c2:k=j
     · simp [c,c2]
     · have:¬k0=k:=fun z=>c2 (by rw [<- z,c]);have c3:¬j=k:=fun z=>c2 z.symm;simp [c,c2,c3]
   · simp [c]
theorem LW (k j:Key)(v:PV):∀(ks:List Key) (xs:List PV),ks.length=xs.length->getP (ks++[k]) (xs++[v]) j=(getP ks xs j).or (if k=j then some v else none)
 | [],[],_=>by simp [getP]
 | k0 :: ks, x0 :: xs, h => by
   show(if k0=j then some x0 else getP (ks++[k]) (xs++[v]) j)=(if k0=j then some x0 else getP ks xs j).or _;rw [LW k j v ks xs (by simpa using h)]
   by_cases c:k0=j <;> simp [c]
theorem Ib {k:Key}:∀{ks:List Key} {xs:List PV},ks.length=xs.length->((k∈ks)↔∃x,getP ks xs k=some x)
 | [],[],_=>by simp [getP]
 | k0 :: ks, x0 :: xs, h => by
   have ih:=Ib (k:=k) (ks:=ks) (xs:=xs) (by simpa using h);show _↔∃x,(if k0=k then some x0 else getP ks xs k)=some x
   by_cases c:k0=k
   · simp [c]
   · have c':¬k=k0:=fun z=>c z.symm;simp [c,c',ih]
theorem BB {ks:List Key}{xs:List PV}(k j:Key)(v:PV)(hl:ks.length=xs.length):getP (V6 ks k) (Q0 ks xs k v) j=if k=j then some v else getP ks xs j:=by
 unfold V6 Q0
 by_cases c:k∈ks
 · rw [if_pos c,if_pos c,LV]
   by_cases c2:k=j
   · subst c2;obtain⟨x,hx⟩:=(Ib hl).mp c;simp [hx]
   · simp [c2]
 · rw [if_neg c,if_neg c,LW k j v ks xs hl]
   by_cases c2:k=j
   · subst c2
     have:getP ks xs k=none:=by
       cases e:getP ks xs k with
       | none=>rfl
       | some x=>exact absurd ((Ib hl).mpr ⟨x,e⟩) c
     simp [this]
   · simp [c2]
theorem put_len {ks:List Key}{xs:List PV}(k:Key)(v:PV)(hl:ks.length=xs.length):(V6 ks k).length=(Q0 ks xs k v).length/\(Q0 ks xs k v).length<=xs.length + 1:=by
 unfold V6 Q0
 by_cases c:k∈ks
 · rw [if_pos c,if_pos c,B2,BN];omega
 · rw [if_neg c,if_neg c,E1,E1,W9,W9];omega
theorem So {zs:List Str}{es:List Ev}{n:Nat}{R:PV->Nat->Prop}(hz:zs.length<=1000)(he:es.length<=1000)(h:R (.tup (zs.map fun z=>(P0 z es).getD (.str (A3 "o")))) n):HK [rowP zs,shP es] n R:=by
 refine⟨rfl,?_⟩;unfold Lr rowP shP;generalize hZ:zs.map PV.str=Z;have Zl:Z.length=zs.length:=by rw [<- hZ,B2]
 generalize hE:es.map evP=E;have El:E.length=es.length:=by rw [<- hE,B2]
 walk_at "pu";refine N7 (fun i env m=>∃(ks:List Key) (xs:List PV) (s3:Option Slot),env=[some (.v (.tup Z)),some (.v (.tup E)),some (.ow (.dk ks) xs),s3]/\ks.length=xs.length/\xs.length<=2 * i/\(∀b,getP ks xs (.inr b)=P0 b (es.take i))/\m=n) _ 0 _ _ ⟨[],[],none,rfl,rfl,by simp,(fun _=>rfl),rfl⟩ (fun i x env m N ex hI hN=>?_) (fun env m hI=>?_)
 · obtain⟨ks,xs,s3,rfl,hl,hx,hg,rfl⟩:=hI;rw [F7] at hN hx hg;rw [<- hE] at ex;obtain⟨e,ee,rfl⟩:=Y4 ex;have hi:i < es.length:=(D9.mp ee).1;have et:es.take (i + 1)=es.take i++[e]:=Ap ee;have put:∀(ks:List Key) (xs:List PV) (s3:Option Slot),ks.length=xs.length->xs.length<=2 * (i + 1)->(∀b,getP ks xs (.inr b)=(hit b e).or (P0 b (es.take i)))->N [some (.v (.tup Z)),some (.v (.tup E)),some (.ow (.dk ks) xs),s3] m:=fun ks xs s3 a1 a2 a3=>hN _ _ ⟨ks,xs,s3,rfl,a1,a2,fun b=>by rw [et,Sm];exact a3 b,rfl⟩;cases e with
   | d x =>
     rw [CT];walk_at "pu";have p1:=put_len (.inr x) (.str (A3 "d")) hl;refine⟨⟨_,_,rfl⟩,hl,by omega,put _ _ _ p1.1 (by omega) fun b=>?_⟩;rw [BB _ _ _ hl,hg b]
     by_cases c:x=b <;> simp [hit,c]
   | t x y =>
     rw [Y3];walk_at "pu";rw [KU];have p1:=put_len (.inr x) (.str (A3 "u")) hl;have p2:=put_len (.inr y) (.str (A3 "t")) p1.1;refine if_f rfl ⟨⟨_,_,rfl⟩,hl,by omega,⟨_,_,rfl⟩,p1.1,by omega,put _ _ _ p2.1 (by omega) fun b=>?_⟩;rw [BB _ _ _ p1.1,BB _ _ _ hl,hg b]
     by_cases c:y=b <;> by_cases c2:x=b <;> simp [hit,c,c2]
 · obtain⟨ks,xs,s3,rfl,hl,hx,hg,rfl⟩:=hI;rw [El,F7,Dx] at hg;walk_at "pu";refine⟨hl,by omega,?_⟩;rw [<- hZ];refine Kh PV.str (fun z=>(P0 z es).getD (.str (A3 "o"))) _ _ _ _ (fun z hz' k Q hQ=>?_) ?_
   · walk_at "pu";refine⟨⟨_,_,rfl⟩,?_⟩;rw [hg z];exact hQ
   · exact h
theorem Sq {P:List Str->List Ev->Prop}{s n m:Nat}{r:Int}{row row':List Str}{ess:List (List Ev)}{sts:List (List Str)}{R:PV->Nat->Prop}(hf:∀st es,P st es->Fair st es)(hle:∀st es,P st es->es.length<=1000)(h1:1<=s)(h8:s<=8)(hn:1<=n)(h24:n<=24)(hr:RowS row)(hl:row.length=n)
   (hd:Dy P s n ((n + s - 1) / s) row ((n + s - 1) / s) ess sts row') (h:R (.tup (sts.map rowP)) m):Fd [.tup [.int (s:Int),.int r],rowP row,dayP ess] m R:=by
 refine⟨rfl,?_⟩;unfold Lp;have mle:=C_ (s:=s) (n:=n) h1 hn;generalize hmx:(n + s - 1) / s=mx at *;obtain⟨el,sl⟩:=hd.len;have dl:(ess.map shP).length=mx:=by rw [B2];exact el
 have ai:∀{k:Nat} {es:List Ev},ess[k]?=some es->atI (ess.map shP) (k:Int)=some (shP es):=fun {k es} hk=>y4 (by rw [F6,hk];rfl);unfold dayP;generalize hE:ess.map shP=E at *;generalize hW:rowP row=W;walk_at "pu";rw [dl];refine⟨⟨by omega,by omega⟩,?_⟩;rw [P4];refine N7 (fun i env m'=>∃r' s5,env=[some (.v (.tup [.int (s:Int),.int r])),some (.v W),some (.v (.tup E)),some (.own ((sts.drop (mx - i)).reverse.map rowP)),some (.v (rowP r')),s5]/\Dy P s n mx row i (ess.drop (mx - i)) (sts.drop (mx - i)) r'/\m'=m) _ 0 _ _ ⟨row,_,by rw [hW,BT,R7 (by omega)];rfl,by rw [BT,R7 (by omega),R7 (by omega)];exact .nil,rfl⟩ (fun i x env m' N ex hI hN=>?_) (fun env m' hI=>?_)
 · obtain⟨r',s5,rfl,di,rfl⟩:=hI;obtain⟨hi,rfl⟩:=CW ex;rw [F7] at di hN ⊢;obtain⟨es,st,r2,ee,es_,xe,xs,d2,hst,hp,dn⟩:=hd.at hi;have er:=d2.det di;subst er;obtain⟨rS,rL⟩:=di.rows h1 hn hmx.symm hf hr hl;have ek:(mx:Int) - 1 - i=((mx - 1 - i:Nat):Int):=by omega
   rw [ek];have fr:=hf st es hp;rw [CV fr] at dn;rw [xs] at hN;rw [xs] at dn;have k24:mx - 1 - i<=1000:=by omega
   have hlen:=hle st es hp;have ai':=ai ee;generalize mx - 1 - i=k at *;have x1:(sts.drop (mx - i)).reverse.map rowP++[rowP st]=(st::sts.drop (mx - i)).reverse.map rowP:=by rw [Z0,L8];rfl
   have x2:((sts.drop (mx - i)).reverse.map rowP).length < 1000000:=by rw [B2,Az,U8];omega
   generalize hG:(sts.drop (mx - i)).reverse.map rowP=GL at *;generalize hV:rowP r2=V;walk_at "pu";refine⟨⟨_,rfl⟩,?_⟩;rw [<- hV];refine HX h8 hn rL k24 ?_
   try dsimp only
   refine⟨x2,?_⟩;rw [ai'];dsimp only;refine LQ h8 hn (by omega) rL k24 hlen (by rw [<- hst];exact fr.sub) ?_;rw [<- hst,x1];exact hN _ _ ⟨_,_,rfl,dn,rfl⟩
 · obtain⟨r',s5,rfl,di,rfl⟩:=hI;rw [F7,EU,i7,i3];have e:(sts.reverse.map rowP).reverse=sts.map rowP:=by rw [<- List.map_reverse,List.reverse_reverse]
   generalize sts.reverse.map rowP=GL at *;walk_at "pu";rw [e];exact h
def othr (b:Str):Ev->Option PV
 | .d _=>none
 | .t x y=>if y=b then some (.str x) else if x=b then some (.str y) else none
def R1 (b:Str)(es:List Ev):Option PV:=es.foldl (fun acc e=>(othr b e).or acc) none
theorem Fn {b:Str}{e:Ev}(h:b∉evB e):othr b e=none:=by
 cases e with
 | d x=>rfl
 | t x y =>
   have h1:x≠b:=fun z=>h (by rw [<- z];simp [evB]);have h2:y≠b:=fun z=>h (by rw [<- z];simp [evB]);simp [othr,h1,h2]
theorem LX {f:Ev->Option PV}:∀(es:List Ev) (acc:Option PV),(∀e∈es,f e=none)->es.foldl (fun acc e=>(f e).or acc) acc=acc:=by
 intro xq
 induction xq with
 | nil =>
   intro acc _;exact rfl
 | cons e es ih =>
   intro acc h;rw [Q6,h e B8];exact ih _ fun f hf=>h f (B3 _ hf)
theorem Ie {f:Ev->Option PV}{b:Str}(hf:∀e,b∉evB e->f e=none):∀(es:List Ev) (e:Ev),(es.flatMap evB).Nodup->e∈es->b∈evB e->es.foldl (fun acc e=>(f e).or acc) none=f e:=by
 intro xq
 induction xq with
 | nil =>
   intro _ _ h _;exact nomatch h
 | cons g es ih =>
   intro e nd he hb;rw [X2] at nd;obtain⟨n1,n2,n3⟩:=AA.mp nd;rw [Q6]
   by_cases c:e∈es
   · have hg:b∉evB g:=fun z=>n3 b z b (Q5.mpr ⟨e,c,hb⟩) rfl;rw [hf g hg];exact ih e n2 c hb
   · have ef:e=g:=(B6.mp he).resolve_right c;subst ef;rw [LX es _ fun f' hf'=>hf f' fun z=>n3 b hb b (Q5.mpr ⟨f',hf',z⟩) rfl];cases f e <;> rfl
theorem evb_nd:∀(es:List Ev),(es.flatMap evB).Nodup->∀e∈es,(evB e).Nodup:=by
 intro xq
 induction xq with
 | nil =>
   intro _ _ h;exact nomatch h
 | cons g es ih =>
   intro nd e h;rw [X2] at nd;obtain⟨n1,n2,_⟩:=AA.mp nd;rcases B6.mp h with rfl | h
   · exact n1
   · exact ih n2 e h
theorem Sr (b:Str)(es:List Ev)(e:Ev):R1 b (es++[e])=(othr b e).or (R1 b es):=by
 unfold R1;rw [Dv];rfl
theorem Ig (b:Str):∀(es:List Ev) (acc:Option PV),(es.filter isTo).foldl (fun acc e=>(othr b e).or acc) acc=es.foldl (fun acc e=>(othr b e).or acc) acc
 | [],_=>rfl
 | .d x::es,acc=>Ig b es acc
 | .t x y::es,acc=>Ig b es _
theorem Ss {es:List Ev}{n:Nat}{R:PV->Nat->Prop}(he:es.length<=1000)(h:∀ks xs,ks.length=xs.length->(∀b,getP ks xs (.inr b)=R1 b es)->R (.dct ks xs) n):HJ [shP es] n R:=by
 refine⟨rfl,?_⟩;unfold Lq;have fl:(es.filter isTo).length<=1000:=K5 (BJ _ _) he;generalize hS:shP es=S;walk_at "pu";rw [<- hS];refine Fk (by omega) ?_;rw [hS];dsimp only;refine N7 (fun i env m=>∃(ks:List Key) (xs:List PV) (s2:Option Slot),env=[some (.v S),some (.ow (.dk ks) xs),s2]/\ks.length=xs.length/\xs.length<=2 * i/\(∀b,getP ks xs (.inr b)=R1 b ((es.filter isTo).take i))/\m=n) _ 0 _ _ ⟨[],[],none,rfl,rfl,by simp,(fun _=>rfl),rfl⟩ (fun i x env m N ex hI hN=>?_) (fun env m hI=>?_)
 · obtain⟨ks,xs,s2,rfl,hl,hx,hg,rfl⟩:=hI;rw [F7] at hN hx hg;obtain⟨e,ee,rfl⟩:=Y4 ex;have hi:i < (es.filter isTo).length:=(D9.mp ee).1;obtain⟨_,ht⟩:=O8.mp (K2 ee);rw [Ap ee] at hN;cases e with
   | d x=>cases ht
   | t x y =>
     rw [Y3];walk_at "pu";have p1:=put_len (.inr x) (.str y) hl;have p2:=put_len (.inr y) (.str x) p1.1;refine⟨⟨_,_,rfl⟩,hl,by omega,⟨_,_,rfl⟩,p1.1,by omega,hN _ _ ⟨_,_,_,rfl,p2.1,by omega,fun b=>?_,rfl⟩⟩;rw [BB _ _ _ p1.1,BB _ _ _ hl,hg b,Sr]
     by_cases c:y=b <;> by_cases c2:x=b <;> simp [othr,c,c2]
 · obtain⟨ks,xs,s2,rfl,hl,hx,hg,rfl⟩:=hI;rw [F7,B2,Dx] at hg;have:=h ks xs hl fun b=>by rw [hg b];exact Ig b es none
   walk_at "pu";exact⟨hl,this⟩
abbrev dM (b:Str)(es:List Ev):PV:=(P0 b es).getD (.str (A3 "o"))
abbrev dO (b:Str)(es:List Ev):PV:=(R1 b es).getD .non
abbrev stAt (sts:List (List Str))(k:Nat):List Str:=(sts[k]?).getD []
abbrev esAt (ess:List (List Ev))(k:Nat):List Ev:=(ess[k]?).getD []
def dX (ess:List (List Ev))(b:Str)(k:Nat):PV:=.tup [.int (k:Int),dM b (esAt ess k),dO b (esAt ess k)]
def dL (ess:List (List Ev))(sts:List (List Str))(mx i:Nat)(b:Str):List PV:=((C2 i).filter fun q=>decide (b∈stAt sts (mx - 1 - q))).map fun q=>dX ess b (mx - 1 - q)
theorem Su {ess:List (List Ev)}{sts:List (List Str)}{mx i:Nat}{b:Str}:dL ess sts mx (i + 1) b=dL ess sts mx i b++(if b∈stAt sts (mx - 1 - i) then [dX ess b (mx - 1 - i)] else []):=by
 unfold dL;rw [List.range_succ,BL,L8]
 by_cases c:b∈stAt sts (mx - 1 - i)
 · rw [if_pos c,Do (by exact decide_eq_true c)];rfl
 · rw [if_neg c,FB (by simpa using c)];rfl
theorem dL_len {ess:List (List Ev)}{sts:List (List Str)}{mx i:Nat}{b:Str}:(dL ess sts mx i b).length<=i:=by
 unfold dL;rw [B2];have:=BJ (fun q=>decide (b∈stAt sts (mx - 1 - q))) (C2 i);rw [w5] at this;exact this
def dueR (ess:List (List Ev))(sts:List (List Str))(mx:Nat)(b:Str):PV:=.tup [.str b,.tup (dL ess sts mx mx b)]
theorem LY {g:pG}{b:pD}{ks:List Key}{R:Pu.Env->Nat->List (List PV)->Prop}(I:Nat->Pu.Env->Nat->List (List PV)->Prop):∀(xs:List PV) (k:Nat) (env:Pu.Env) (n:Nat) (yss:List (List PV)),I k env n yss->
   (∀(i:Nat) x env n yss (N:Pu.Env->Nat->List (List PV)->Prop),xs[i]?=some x->I (k + i) env n yss->(∀e m z,I (k + i + 1) e m z->N e m z)->g x env fun env1=>b ks N env1 n yss)->(∀env n yss,I (k + xs.length) env n yss->R env n yss)->forD g b ks R xs env n yss:=by
 intro xq
 induction xq with
 | nil =>
   intro k env n yss h0 _ hd;exact hd env n yss h0
 | cons x xs ih =>
   intro k env n yss h0 hs hd;show g x env fun env1=>b ks (fun env2 n2 xss2=>forD g b ks R xs env2 n2 xss2) env1 n yss;refine hs 0 x env n yss _ rfl h0 fun e m z h1=>?_;refine ih (k + 1) e m z h1 (fun i y env n yss N e1 h2 h3=>?_) fun env n yss h2=>hd env n yss (by rw [E8,show k + (xs.length + 1)=k + 1 + xs.length by omega];exact h2);refine hs (i + 1) y env n yss N e1 (by rw [show k + (i + 1)=k + 1 + i by omega];exact h2) fun e m z h4=>h3 e m z (by rw [show k + 1 + i + 1=k + (i + 1) + 1 by omega];exact h4)
theorem kl_row {rest:Pu.Env}{n:Nat}{R:List Key->List (List PV)->Nat->Prop}:∀(zs:List Str) (ks:List Key) (yss:List (List PV)) (s0:Option Pu.Slot),zs.Nodup->(∀z∈zs,(.inr z:Key)∉ks)->R (ks++zs.map C7) (yss++zs.map fun _=>[]) n->klL (gN 0) (qV 0) (qLst qNil) (zs.map PV.str) ks yss (s0::rest) n R:=by
 intro xq
 induction xq with
 | nil =>
   intro ks yss s0 _ _ h;rw [i4,i4,P3,P3] at h;exact h
 | cons z zs ih =>
   intro ks yss s0 nd hk h;obtain⟨n1,n2⟩:=L7.mp nd;refine⟨J6 _,hk z B8,ih _ _ _ n2 (fun y hy z'=>?_) ?_⟩
   · rcases K8.mp z' with z' | z'
     · exact hk y (B3 _ hy) z'
     · have:y=z:=Sum.inr.inj (J8.mp z');exact n1 (by rw [<- this];exact hy)
   · rw [X1,X1];exact h
theorem LZ {z:Str}:∀{row:List Str},z∈row->∃p,kIx (row.map C7) (.inr z)=some p/\row[p]?=some z
 | [],h=>nomatch h
 | y :: row, h => by
   unfold kIx;rw [J9,List.findIdx?_cons]
   by_cases c:y=z
   · rw [if_pos (decide_eq_true (congrArg _ c))];exact⟨0,rfl,by rw [c];rfl⟩
   · rw [if_neg (by simpa using c)];obtain⟨p,e1,e2⟩:=LZ ((B6.mp h).resolve_left fun e=>c e.symm);unfold kIx at e1;rw [e1];exact⟨p + 1,rfl,e2⟩
theorem L_ {F:Str->PV}{z:Str}:∀{row:List Str},z∈row->getP (row.map C7) (row.map F) (.inr z)=some (F z)
 | [],h=>nomatch h
 | y :: row, h => by
   show(if(C7 y:Key)=.inr z then some (F y) else getP (row.map C7) (row.map F) (.inr z))=_
   by_cases c:y=z
   · rw [if_pos (congrArg _ c),c]
   · rw [if_neg (fun e=>c (Sum.inr.inj e))];exact L_ ((B6.mp h).resolve_left fun e=>c e.symm)
theorem Sv {F G:Str->List PV}{row:List Str}{p:Nat}{z:Str}(nd:row.Nodup)(hp:row[p]?=some z)(h1:∀b∈row,b≠z->G b=F b):(row.map F).set p (G z)=row.map G:=by
 refine List.ext_getElem? fun q=>?_
 by_cases c:p=q
 · subst c;rw [J5 (by rw [B2];exact(D9.mp hp).1),F6,hp];rfl
 · rw [F9 c,F6,F6];cases e:row[q]? with
   | none=>rfl
   | some b =>
     have bz:b≠z:=fun e2=>by
       obtain⟨a1,a2⟩:=D9.mp hp;obtain⟨b1,b2⟩:=D9.mp e;exact c (nodup_ix nd a1 b1 (by rw [a2,b2,e2]))
     show some (F b)=some (G b);rw [h1 b (K2 e) bz]
theorem Ma {P:List Str->List Ev->Prop}{s n mx:Nat}{row:List Str}(h1:1<=s)(hn:1<=n)(hmx:mx=(n + s - 1) / s)(hf:∀st es,P st es->Fair st es)(hr:RowS row)(hl:row.length=n){i:Nat}{ess:List (List Ev)}{sts:List (List Str)}{r:List Str}(h:Dy P s n mx row i ess sts r):r.Perm row/\∀st∈sts,∀b∈st,b∈row:=by
 induction h with
 | nil=>exact⟨.refl _,fun _ z=>nomatch z⟩
 | @cons i ess sts r es h hi hp ih =>
   have hr':=h.rows h1 hn hmx hf hr hl;have kp:(mx - 1 - i) * s<=n - 1:=CZ h1 hn (by omega);have f:=hf _ _ hp;refine⟨(KQ (Dz (EY kp)) ?_).trans ih.1,fun st hst b hb=>?_⟩
   · rw [CV f];exact Ho f.sub
   · rcases B6.mp hst with rfl | hst
     · refine ih.1.mem_iff.mp ?_;unfold D5 at hb;exact Dq (FE hb)
     · exact ih.2 st hst b hb
theorem Y5 (h:∀U:pS,U=q->p { D with nx:=fun e m=>U D e m } env n):qSeq p q D env n:=h q rfl
theorem Sw {P:List Str->List Ev->Prop}{s n m mx:Nat}{r:Int}{row row':List Str}{ess:List (List Ev)}{sts:List (List Str)}{R:PV->Nat->Prop}(hf:∀st es,P st es->Fair st es)(hle:∀st es,P st es->es.length<=1000)(h1:1<=s)(h8:s<=8)(hn:1<=n)(h24:n<=24)(hr:RowS row)(hl:row.length=n)(hmx:mx=(n + s - 1) / s)
   (hd:Dy P s n mx row mx ess sts row') (h:R (.tup (row.map (dueR ess sts mx))) m):HL [.tup [.int (s:Int),.int r],rowP row,dayP ess] m R:=by
 refine⟨rfl,?_⟩;unfold Ls;have mle:mx<=n:=by rw [hmx];exact C_ h1 hn
 obtain⟨el,sl⟩:=hd.len;have sb:=(Ma h1 hn hmx hf hr hl hd).2;have mem:=hd.mem h1 hn hmx hf hr hl;have ms:∀{Q:PV->Nat->Prop},Q (.tup (sts.map rowP)) m->Fd [.tup [.int (s:Int),.int r],rowP row,dayP ess] m Q:=fun {Q} q=>Sq hf hle h1 h8 hn h24 hr hl (by rw [<- hmx];exact hd) q;have ai:∀{k:Nat},k < mx->atI (sts.map rowP) (k:Int)=some (rowP (stAt sts k)):=fun {k} hk=>y4 (by rw [F6,stAt,D7 (by omega)];rfl);have ae:∀{k:Nat},k < mx->atI (ess.map shP) (k:Int)=some (shP (esAt ess k)):=fun {k} hk=>y4 (by rw [F6,esAt,D7 (by omega)];rfl);have stm:∀{k:Nat},k < mx->stAt sts k∈sts:=fun {k} hk=>by rw [stAt,D7 (show k < sts.length by omega)];exact l8 _
 have esm:∀{k:Nat},k < mx->(esAt ess k).length<=1000:=fun {k} hk=>by
   have:esAt ess k∈ess:=by rw [esAt,D7 (show k < ess.length by omega)];exact l8 _
   obtain⟨st,p,_⟩:=mem.1 _ this;exact hle st _ p
 have eE:(ess.map shP).length=mx:=by rw [B2];exact el
 have hW0:rowP row=.tup (row.map PV.str):=rfl;have Zl:(row.map PV.str).length=n:=by rw [B2];exact hl
 unfold dayP at ms ⊢;generalize hE:ess.map shP=E at *;generalize hS:sts.map rowP=S at *;generalize hM:PV.tup [PV.int (s:Int),PV.int r]=M at *;refine Y5 fun U hU=>?_;walk_at "pd";refine ms ?_;subst hU;rw [hW0];refine⟨by omega,by show 4 < 9;decide,kl_row row [] [] none hr.1 (fun _ _ z=>nomatch z) ?_⟩;rw [Z1,Z1];generalize hZ:row.map PV.str=Z at *;walk_at "pd";rw [eE];refine⟨⟨by omega,by omega⟩,?_⟩;rw [P4];refine LY (fun i env m' yss=>∃(s5 s6 s7 s8:Option Pu.Slot),env=[some (.v M),some (.v (.tup Z)),some (.v (.tup E)),some (.v (.tup S)),none,s5,s6,s7,s8]/\m'=m/\yss=row.map (dL ess sts mx i)) _ 0 _ _ _ ⟨none,none,none,none,rfl,rfl,rfl⟩ (fun i x env m' yss N ex hI hN=>?_) (fun env m' yss hI=>?_)
 · obtain⟨s5,s6,s7,s8,rfl,rfl,rfl⟩:=hI;obtain⟨hi,rfl⟩:=CW ex;rw [F7] at hN ⊢;have ek:(mx:Int) - 1 - i=((mx - 1 - i:Nat):Int):=by omega
   rw [ek];have hk:mx - 1 - i < mx:=by omega
   have a1:=ai hk;have a2:=ae hk;have hst:=mem.2 _ (stm hk);have hsub:=sb _ (stm hk);have hes:=esm hk;have hyy:∀b,dL ess sts mx (i + 1) b=dL ess sts mx i b++(if b∈stAt sts (mx - 1 - i) then [dX ess b (mx - 1 - i)] else []):=fun b=>Su;have hdx:∀b,dX ess b (mx - 1 - i)=.tup [.int ((mx - 1 - i:Nat):Int),dM b (esAt ess (mx - 1 - i)),dO b (esAt ess (mx - 1 - i))]:=fun _=>rfl;have dl:∀b,(dL ess sts mx i b).length<=i:=fun b=>dL_len;have hN':∀e m2 (F:Str->List PV),(∀b,dL ess sts mx (i + 1) b=F b)->(∃(s5 s6 s7 s8:Option Pu.Slot),e=[some (.v M),some (.v (.tup Z)),some (.v (.tup E)),some (.v (.tup S)),none,s5,s6,s7,s8]/\m2=m')->N e m2 (row.map F):=fun e m2 F hF ⟨s5,s6,s7,s8,h5,h6⟩=>hN e m2 _ ⟨s5,s6,s7,s8,h5,h6,by rw [show dL ess sts mx (i + 1)=F from funext hF]⟩;clear hN;generalize dL ess sts mx (i + 1)=D2 at *;generalize dL ess sts mx i=D1 at *;generalize stAt sts (mx - 1 - i)=st at *;generalize esAt ess (mx - 1 - i)=es at *;generalize mx - 1 - i=k at *;walk_at "pd";rw [a2];refine Ss hes fun ks' xs' hk' hg'=>?_;walk_at "pd";rw [a1];refine So (by omega) hes ?_;dsimp only [Ae,rowP];refine LY (fun j env m2 yss=>∃(s7 s8:Option Pu.Slot),env=[some (.v M),some (.v (.tup Z)),some (.v (.tup E)),some (.v (.tup S)),none,some (.v (.int (k:Int))),some (.v (.dct ks' xs')),s7,s8]/\m2=m'/\yss=row.map fun b=>D1 b++(if b∈st.take j then [dX ess b k] else [])) _ 0 _ _ _ ⟨s7,s8,rfl,rfl,by simp⟩ (fun j x env m2 yss N2 ex2 hI hN2=>?_) (fun env m2 yss hI=>?_)
   · obtain⟨s7,s8,rfl,rfl,rfl⟩:=hI;rw [F7] at hN2 ⊢;obtain⟨u,v,e1,e2,rfl⟩:=Kc ex2;obtain⟨z,ez,rfl⟩:=Y4 e1;rw [F6,ez] at e2;cases e2;have hz:z∈st:=K2 ez;obtain⟨p,ep,rp⟩:=LZ (hsub z hz)
     have zn:z∉st.take j:=fun hz'=>by
       obtain⟨q,hq,eq⟩:=Ay hz';rw [Q4] at hq;obtain⟨a3,a4⟩:=D9.mp ez;rw [List.getElem_take] at eq;have:=nodup_ix hst.1.1 (show q < st.length by omega) a3 (by rw [a4,eq]);omega
     have yp:(row.map fun b=>D1 b++(if b∈st.take j then [dX ess b k] else []))[p]?=some (D1 z):=by
       rw [F6,rp];show some (D1 z++_)=_;rw [if_neg zn,P3]
     have new:(row.map fun b=>D1 b++(if b∈st.take j then [dX ess b k] else [])).set p (D1 z++[dX ess z k])=row.map fun b=>D1 b++(if b∈st.take (j + 1) then [dX ess b k] else []):=by
       have:=Sv (F:=fun b=>D1 b++(if b∈st.take j then [dX ess b k] else [])) (G:=fun b=>D1 b++(if b∈st.take (j + 1) then [dX ess b k] else [])) hr.1 rp fun b hb bz=>by
         rw [Ap ez]
         by_cases c:b∈st.take j
         · rw [if_pos c,if_pos (U7 _ c)]
         · rw [if_neg c,if_neg (fun w=>(K8.mp w).elim c fun w=>bz (J8.mp w))]
       rw [<- this,if_pos (by rw [Ap ez];exact G4 _ B8)]
     generalize hY:(row.map fun b=>D1 b++(if b∈st.take j then [dX ess b k] else []))=Y at *;walk_at "pd";refine⟨rfl,?_⟩;rw [ep];dsimp only;rw [yp];refine⟨by have:=dl z;omega,?_⟩;refine⟨⟨_,_,rfl⟩,?_⟩;rw [hg' z];refine⟨by decide,hN2 _ _ _ ⟨_,_,rfl,rfl,?_⟩⟩;rw [<- new,hdx z]
   · obtain⟨s7,s8,rfl,rfl,rfl⟩:=hI;refine hN' _ _ _ (fun b=>?_) ⟨_,_,_,_,rfl,rfl⟩;rw [hyy b,Kb,B2,B2,AF,F7,Dx]
 · obtain⟨s5,s6,s7,s8,rfl,rfl,rfl⟩:=hI;rw [EU,F7,R9];have g:∀z∈row,getP (row.map C7) (row.map (PV.lst∘dL ess sts mx mx)) (.inr z)=some (.lst (dL ess sts mx mx z)):=fun z hz=>L_ (F:=PV.lst∘dL ess sts mx mx) hz;generalize row.map (PV.lst∘dL ess sts mx mx)=GL at *;generalize hKS:(row.map C7:List Key)=KS at *;walk_at "pd";refine⟨by omega,?_⟩;rw [<- hZ];refine Kh PV.str (dueR ess sts mx) row _ _ _ (fun z hz k Q hQ=>?_) h;walk_at "pd";rw [g z hz];exact⟨by decide,hQ⟩
theorem Sx {tt:pT}{te:pE}{rest:Pu.Env}{α:Type}(u v:α->PV)(c:α->Bool)(f:α->PV):∀(xs:List α) (s0 s1:Option Pu.Slot) (n:Nat) (R:List PV->Nat->Prop),(∀x∈xs,∀m Q,Q (c x) (some (.v (u x))::some (.v (v x))::rest) m->tt (some (.v (u x))::some (.v (v x))::rest) m Q)->(∀x∈xs,∀m Q,Q (f x) (some (.v (u x))::some (.v (v x))::rest) m->te (some (.v (u x))::some (.v (v x))::rest) m Q)->R ((xs.filter c).map f) n->Y1 (gTp 2 (gCn (gN 0) (gCn (gN 1) gNl))) tt te (xs.map fun x=>.tup [u x,v x]) (s0::s1::rest) n R:=by
 intro xs
 induction xs with
 | nil=>intro _ _ _ _ _ _ h;exact h
 | cons x xs ih =>
   intro s0 s1 n R ht he h;have ht':=fun y hy=>ht y (B3 _ hy);have he':=fun y hy=>he y (B3 _ hy);refine⟨rfl,?_⟩;show tt (some (.v (u x))::some (.v (v x))::rest) n _;refine ht x B8 _ _ ?_;cases e:c x with
   | true =>
     rw [Do (by rw [e])] at h;exact if_t rfl (he x B8 _ _ (ih _ _ _ _ ht' he' h))
   | false =>
     rw [FB (by rw [e];decide)] at h;exact if_f rfl (ih _ _ _ _ ht' he' h)
theorem Ih {st:List Str}{b:Str}(hb:b∈st):∀(es:List Ev) (f:List Str),(∀z∈es.flatMap evB,z∈st)->(∀x y,Ev.t x y∈es->b≠x/\b≠y)->(es.foldl (setE st) f)[ixS st b]?=f[ixS st b]?:=by
 intro es
 induction es with
 | nil=>intro f _ _;rfl
 | cons e es ih =>
   intro f hs hn;rw [Q6,ih _ (fun z hz=>hs z (by grind)) (fun x y h=>hn x y (B3 _ h))];cases e with
   | d x=>rfl
   | t x y =>
     obtain⟨n1,n2⟩:=hn x y B8;have hx:x∈st:=hs x (by simp [evB]);have hy:y∈st:=hs y (by simp [evB]);show((f.set (ixS st x) y).set (ixS st y) x)[ixS st b]?=_;rw [F9 (fun z=>n2 (CU hy hb z).symm),F9 (fun z=>n1 (CU hx hb z).symm)]
theorem Mb {st:List Str}{x y:Str}:∀(es:List Ev) (f:List Str),f.length=st.length->(es.flatMap evB).Nodup->(∀z∈es.flatMap evB,z∈st)->Ev.t x y∈es->(es.foldl (setE st) f)[ixS st x]?=some y/\(es.foldl (setE st) f)[ixS st y]?=some x:=by
 intro es
 induction es with
 | nil=>intro f _ _ _ h;cases h
 | cons e es ih =>
   intro f hl nd hs he;rw [X2] at nd hs;obtain⟨n1,n2,n3⟩:=AA.mp nd;have hs':∀z∈es.flatMap evB,z∈st:=fun z hz=>hs z (G4 _ hz);rw [Q6]
   by_cases c:Ev.t x y∈es
   · exact ih _ (by rw [KO];exact hl) n2 hs' c
   · have e1:Ev.t x y=e:=(B6.mp he).resolve_right c;subst e1;have hx:x∈st:=hs x (by simp [evB]);have hy:y∈st:=hs y (by simp [evB]);have lx:=Q1 hx;have ly:=Q1 hy
     have nxy:x≠y:=by
       have n1':[x,y].Nodup:=n1
       simpa using n1'
     have out:∀b,b∈[x,y]->∀u v,Ev.t u v∈es->b≠u/\b≠v:=fun b hb u v h=>
       ⟨fun z=>n3 b hb u (Q5.mpr ⟨_,h,by simp [evB]⟩) z,fun z=>n3 b hb v (Q5.mpr ⟨_,h,by simp [evB]⟩) z⟩
     rw [Ih hx es _ hs' (out x (by simp)),Ih hy es _ hs' (out y (by simp))];show((f.set (ixS st x) y).set (ixS st y) x)[ixS st x]?=some y/\((f.set (ixS st x) y).set (ixS st y) x)[ixS st y]?=some x;have ne:ixS st y≠ixS st x:=fun z=>nxy (CU hx hy z.symm);constructor
     · grind
     · grind
def pal (st:List Str)(es:List Ev)(y:Str):Str:=nm (aft st es) (ixS st y)
theorem Ii (h:(aft st es)[ixS st y]?=some c):pal st es y=c:=by
 unfold pal nm;rw [Aw,h];rfl
theorem Sy (nd:st.Nodup):aft st es=st.map (pal st es):=by
 apply List.ext_getElem?
 intro i;rw [F6]
 by_cases c:i < st.length
 · rw [l3 c];show _=some (nm (aft st es) (ixS st (nm st i)));rw [Hs nd c];exact l3 (by rw [Ao];exact c)
 · rw [R8 (by rw [Ao];omega),R8 (by omega)];rfl
theorem Ij {tt:pT}{te:pE}{rest:Pu.Env}{α:Type}(g:α->PV)(c:α->Bool)(f:α->PV):∀(xs:List α) (s0:Option Pu.Slot) (n:Nat) (R:List PV->Nat->Prop),(∀x∈xs,∀m Q,Q (c x) (some (.v (g x))::rest) m->tt (some (.v (g x))::rest) m Q)->(∀x∈xs,∀m Q,Q (f x) (some (.v (g x))::rest) m->te (some (.v (g x))::rest) m Q)->R ((xs.filter c).map f) n->Y1 (gN 0) tt te (xs.map g) (s0::rest) n R:=by
 intro xq
 induction xq with
 | nil =>
   intro _ _ _ _ _ h;exact h
 | cons x xs ih =>
   intro s0 n R ht he h;show tt (some (.v (g x))::rest) n _;refine ht x B8 n _ ?_
   by_cases hc:c x=true
   · refine if_t hc (he x B8 n _ ?_);rw [Do hc] at h;exact ih _ n _ (fun y hy=>ht y (B3 _ hy)) (fun y hy=>he y (B3 _ hy)) h
   · refine if_f (by simpa using hc) ?_;rw [FB hc] at h;exact ih _ n _ (fun y hy=>ht y (B3 _ hy)) (fun y hy=>he y (B3 _ hy)) h
theorem V9 {es:List Ev}(nd:(es.flatMap evB).Nodup){x y:Str}(h:Ev.t x y∈es):dM x es=.str (A3 "u")/\dO x es=.str y/\dM y es=.str (A3 "t")/\dO y es=.str x:=by
 have n1:[x,y].Nodup:=evb_nd es nd _ h;have ne:y≠x:=fun z=>by rw [z] at n1;simp at n1
 have u1:hit x (.t x y)=some (.str (A3 "u")):=by simp [hit,ne]
 have u2:hit y (.t x y)=some (.str (A3 "t")):=by simp [hit]
 have u3:othr x (.t x y)=some (.str y):=by simp [othr,ne]
 have u4:othr y (.t x y)=some (.str x):=by simp [othr]
 have b1:x∈evB (.t x y):=by simp [evB]
 have b2:y∈evB (.t x y):=by simp [evB]
 refine⟨?_,?_,?_,?_⟩
 · show(P0 x es).getD _=_;unfold P0;rw [Ia es none _ nd h u1];rfl
 · show(R1 x es).getD _=_;unfold R1;rw [Ie (fun e he=>Fn he) es _ nd h b1,u3];rfl
 · show(P0 y es).getD _=_;unfold P0;rw [Ia es none _ nd h u2];rfl
 · show(R1 y es).getD _=_;unfold R1;rw [Ie (fun e he=>Fn he) es _ nd h b2,u4];rfl
theorem deed_d {es:List Ev}(nd:(es.flatMap evB).Nodup){x:Str}(h:Ev.d x∈es):dM x es=.str (A3 "d")/\dO x es=.non:=by
 have b1:x∈evB (.d x):=by simp [evB]
 constructor
 · show(P0 x es).getD _=_;unfold P0;rw [Ia es none _ nd h (v:=.str (A3 "d")) (by simp [hit])];rfl
 · show(R1 x es).getD _=_;unfold R1;rw [Ie (fun e he=>Fn he) es _ nd h b1];rfl
theorem deed_o {es:List Ev}{x:Str}(h:x∉es.flatMap evB):dM x es=.str (A3 "o")/\dO x es=.non:=by
 constructor
 · show(P0 x es).getD _=_;rw [Sn h];rfl
 · show(R1 x es).getD _=_;unfold R1;rw [LX es none fun e he=>Fn fun z=>h (Q5.mpr ⟨e,he,z⟩)];rfl
theorem Fo {es:List Ev}(nd:(es.flatMap evB).Nodup)(x:Str):(∃m,(m=A3 "d"\/m=A3 "o")/\dM x es=.str m/\dO x es=.non/\(m=A3 "o"->x∉es.flatMap evB)/\∀u v,Ev.t u v∈es->x≠u/\x≠v)\/(∃y,Ev.t x y∈es)\/∃y,Ev.t y x∈es:=by
 by_cases c:x∈es.flatMap evB
 · obtain⟨e,he,hx⟩:=Q5.mp c;cases e with
   | d z =>
     have:x=z:=by simpa [evB] using hx
     subst this;obtain⟨a,b⟩:=deed_d nd he;refine .inl ⟨_,.inl rfl,a,b,fun z=>absurd z (by decide +kernel),fun u v h=>?_⟩;refine⟨fun z=>?_,fun z=>?_⟩
     · subst z;have:=(V9 nd h).1;rw [a] at this;exact absurd (PV.str.inj this) (by decide +kernel)
     · subst z;have:=(V9 nd h).2.2.1;rw [a] at this;exact absurd (PV.str.inj this) (by decide +kernel)
   | t u v =>
     have:x=u\/x=v:=by simpa [evB] using hx
     rcases this with rfl | rfl
     · exact .inr (.inl ⟨v,he⟩)
     · exact .inr (.inr ⟨u,he⟩)
 · obtain⟨a,b⟩:=deed_o c;exact .inl ⟨_,.inr rfl,a,b,fun _=>c,fun u v h=>⟨fun z=>c (Q5.mpr ⟨_,h,by rw [z];simp [evB]⟩),fun z=>c (Q5.mpr ⟨_,h,by rw [z];simp [evB]⟩)⟩⟩
theorem dM_o {es:List Ev}(nd:(es.flatMap evB).Nodup){x:Str}(h:x∈es.flatMap evB):∃m,dM x es=.str m/\m≠A3 "o":=by
 rcases Fo nd x with⟨m,_,a,_,c,_⟩ | ⟨y,a⟩ | ⟨y,a⟩
 · exact⟨m,a,fun z=>c z h⟩
 · exact⟨_,(V9 nd a).1,by decide +kernel⟩
 · exact⟨_,(V9 nd a).2.2.1,by decide +kernel⟩
theorem put_at {s n k p:Nat}{r b:List Str}(hl:r.length=n)(hn:1<=n)(hk:k * s<=hiN s n k)(hb:b.length=(D5 s n k r).length):(putN s n k r b)[p]?=if p < k * s then r[p]? else if p<=hiN s n k then b[p - k * s]? else r[p]?:=by
 have hh:=u8 (s:=s) (k:=k) hn;have l1:(r.take (k * s)).length=k * s:=by rw [Q4];omega
 have l2:b.length=hiN s n k + 1 - k * s:=by rw [hb,u6 hl hn]
 unfold putN
 by_cases c:p < k * s
 · rw [if_pos c,X1,W7 (by omega),Du,if_pos c]
 · rw [if_neg c]
   by_cases d:p<=hiN s n k
   · rw [if_pos d,W7 (by rw [E1,l1,l2];omega),W6 (by omega),l1]
   · rw [if_neg d,W6 (by rw [E1,l1,l2];omega),E1,l1,l2,List.getElem?_drop,show hiN s n k + 1 + (p - (k * s + (hiN s n k + 1 - k * s)))=p by omega]
theorem Mc {s n k p:Nat}{r:List Str}:p < hiN s n k + 1 - k * s->(D5 s n k r)[p]?=r[k * s + p]?:=fun h=>by
 unfold D5;rw [List.getElem?_drop,Du,if_pos (by omega)]
theorem Sz {s n k p:Nat}{r:List Str}{b:Str}(nd:r.Nodup)(hl:r.length=n)(hn:1<=n)(hp:r[p]?=some b):b∈D5 s n k r↔k * s<=p/\p<=hiN s n k:=by
 have hh:=u8 (s:=s) (k:=k) hn;constructor
 · intro h;obtain⟨j,hj⟩:=Dr h;have lj:=(D9.mp hj).1;rw [u6 hl hn] at lj;rw [Mc lj] at hj;have:=Bx nd hp hj;omega
 · rintro⟨a,c⟩;refine K2 (i:=p - k * s) ?_;rw [Mc (by omega),show k * s + (p - k * s)=p by omega];exact hp
theorem SA {P:List Str->List Ev->Prop}{s n mx:Nat}{row:List Str}(h1:1<=s)(hn:1<=n)(hmx:mx=(n + s - 1) / s)(hf:∀st es,P st es->Fair st es)(hr:RowS row)(hl:row.length=n){i:Nat}{ess:List (List Ev)}{sts:List (List Str)}{r:List Str}(h:Dy P s n mx row i ess sts r){b:Str}(hb:b∈row) :
   ∃p,r[p]?=some b/\((p < (mx - i) * s/\∀q,q < i->b∉stAt sts (i - 1 - q))\/∃a e,a < e/\e<=i/\(∀q,q < i->(b∈stAt sts (i - 1 - q)↔a<=q/\q < e))/\((mx - i) * s < p\/(p=(mx - i) * s/\e=i))):=by
 induction h with
 | nil =>
   obtain⟨p,hp⟩:=Dr hb;have:=(D9.mp hp).1;refine⟨p,hp,.inl ⟨?_,fun q hq=>absurd hq (by omega)⟩⟩
   have:n<=mx * s:=by
     rw [hmx];have e:=Nat.div_add_mod (n + s - 1) s;have m:=Nat.mod_lt (n + s - 1) (show 0 < s by omega);rw [Nat.mul_comm] at e;omega
   rw [BT];omega
 | @cons i ess sts r es h hi hp ih =>
   obtain⟨p,rp,ih⟩:=ih;obtain⟨rr,rl⟩:=h.rows h1 hn hmx hf hr hl;obtain⟨l1,l2⟩:=h.len;have kp:(mx - 1 - i) * s<=n - 1:=CZ h1 hn (by omega);have kh:=EY kp;have f:=hf _ _ hp;have e1:(mx - i) * s=(mx - 1 - i) * s + s:=by rw [show mx - i=mx - 1 - i + 1 by omega,Nat.succ_mul]
   have e2:(mx - (i + 1)) * s=(mx - 1 - i) * s:=by rw [show mx - (i + 1)=mx - 1 - i by omega]
   rw [e2];rw [e1] at ih;have pl:p < n:=by rw [<- rl];exact(D9.mp rp).1
   have al:(aft (D5 s n (mx - 1 - i) r) es).length=(D5 s n (mx - 1 - i) r).length:=Ao _ _;have pa:=fun p=>put_at (p:=p) rl hn kh al;have sm:=Sz (s:=s) (k:=mx - 1 - i) rr.1 rl hn rp;have s0:stAt (D5 s n (mx - 1 - i) r::sts) (i + 1 - 1 - i)=D5 s n (mx - 1 - i) r:=by rw [show i + 1 - 1 - i=0 by omega];rfl
   have sq:∀q,q < i->stAt (D5 s n (mx - 1 - i) r::sts) (i + 1 - 1 - q)=stAt sts (i - 1 - q):=fun q hq=>by rw [show i + 1 - 1 - q=i - 1 - q + 1 by omega];rfl
   have out:¬b∈D5 s n (mx - 1 - i) r->(putN s n (mx - 1 - i) r (aft (D5 s n (mx - 1 - i) r) es))[p]?=some b:=fun hnb=>by
     rw [pa p]
     split
     · exact rp
     · split
       · exact absurd (sm.mpr ⟨by omega,by assumption⟩) hnb
       · exact rp
   have inn:b∈D5 s n (mx - 1 - i) r->∃p',(mx - 1 - i) * s<=p'/\(putN s n (mx - 1 - i) r (aft (D5 s n (mx - 1 - i) r) es))[p']?=some b:=fun hb'=>by
     have:b∈aft (D5 s n (mx - 1 - i) r) es:=by rw [CV f];exact(Ho f.sub).mem_iff.mpr hb'
     obtain⟨j,hj⟩:=Dr this;have lj:=(D9.mp hj).1;rw [al,u6 rl hn] at lj;refine⟨(mx - 1 - i) * s + j,by omega,?_⟩;rw [pa,if_neg (by omega),if_pos (by omega),show(mx - 1 - i) * s + j - (mx - 1 - i) * s=j by omega];exact hj
   have hh:hiN s n (mx - 1 - i)=min ((mx - 1 - i) * s + s) (n - 1):=rfl;rcases ih with⟨c1,c2⟩ | ⟨a,e,ae,ei,c2,c3⟩
   · by_cases c:b∈D5 s n (mx - 1 - i) r
     · obtain⟨p',p1,p2⟩:=inn c;refine⟨p',p2,.inr ⟨i,i + 1,by omega,by omega,fun q hq=>?_,?_⟩⟩
       · by_cases qi:q=i
         · subst qi;rw [s0];exact⟨fun _=>⟨B4 _,by omega⟩,fun _=>c⟩
         · rw [sq q (by omega)];exact⟨fun z=>absurd z (c2 q (by omega)),fun z=>by omega⟩
       · rcases Nat.lt_or_ge ((mx - 1 - i) * s) p' with g | g
         · exact .inl g
         · exact .inr ⟨by omega,rfl⟩
     · have:p < (mx - 1 - i) * s:=Nat.lt_of_not_le fun z=>c (sm.mpr ⟨z,by rw [hh];omega⟩);refine⟨p,out c,.inl ⟨this,fun q hq=>?_⟩⟩
       by_cases qi:q=i
       · subst qi;rw [s0];exact c
       · rw [sq q (by omega)];exact c2 q (by omega)
   · by_cases c:b∈D5 s n (mx - 1 - i) r
     · have pe:=(sm.mp c).2
       have ee:e=i:=by
         rcases c3 with c3 | c3
         · rw [hh] at pe;omega
         · exact c3.2
       obtain⟨p',p1,p2⟩:=inn c;refine⟨p',p2,.inr ⟨a,i + 1,by omega,by omega,fun q hq=>?_,?_⟩⟩
       · by_cases qi:q=i
         · subst qi;rw [s0];exact⟨fun _=>⟨by omega,by omega⟩,fun _=>c⟩
         · rw [sq q (by omega),c2 q (by omega)];omega
       · rcases Nat.lt_or_ge ((mx - 1 - i) * s) p' with g | g
         · exact .inl g
         · exact .inr ⟨by omega,rfl⟩
     · have pg:(mx - 1 - i) * s + s < p:=by
         rcases c3 with c3 | c3
         · exact c3
         · exact absurd (sm.mpr ⟨by omega,by rw [hh];omega⟩) c
       refine⟨p,out c,.inr ⟨a,e,ae,by omega,fun q hq=>?_,.inl (by omega)⟩⟩
       by_cases qi:q=i
       · subst qi;rw [s0];exact⟨fun z=>absurd z c,fun z=>by omega⟩
       · rw [sq q (by omega),c2 q (by omega)]
theorem dL_run {ess:List (List Ev)}{sts:List (List Str)}{mx a e:Nat}{b:Str}(ae:a < e)(em:e<=mx)(h:∀q,q < mx->(b∈stAt sts (mx - 1 - q)↔a<=q/\q < e)):dL ess sts mx mx b=(C2 (e - a)).map fun k=>dX ess b (mx - 1 - (a + k)):=by
 unfold dL
 have:(C2 mx).filter (fun q=>decide (b∈stAt sts (mx - 1 - q)))=(C2 (e - a)).map (a + ·):=by
   have c:(C2 mx).filter (fun q=>decide (b∈stAt sts (mx - 1 - q)))=(C2 mx).filter (fun q=>decide (a<=q/\q < e)):=by
     apply List.filter_congr
     intro q hq;rw [decide_eq_decide];exact h q (O2.mp hq)
   rw [c]
   have sp:C2 mx=(C2 a++(C2 (e - a)).map (a + ·))++(C2 (mx - e)).map (e + ·):=by
     rw [<- List.range_add,show a + (e - a)=e by omega,<- List.range_add,show e + (mx - e)=mx by omega]
   rw [sp,BL,BL,BI.mpr (fun q hq=>by have:=O2.mp hq;simp <;> omega),Z1,
     Ds.mpr (fun q hq=>by obtain⟨k,hk,rfl⟩:=K4.mp hq;have:=O2.mp hk;simp <;> omega),
     BI.mpr (fun q hq=>by obtain⟨k,hk,rfl⟩:=K4.mp hq;have:=O2.mp hk;simp <;> omega),P3]
 rw [this,R9]
 rfl
theorem if2 {c d:Bool}{A B:Prop}(h:(c || d)=true)(a:A):if c=true then A else if d=true then A else B:=by
 cases c <;> cases d <;> simp_all
abbrev DOL:List Str:=[A3 "d",A3 "o"]
abbrev DOTU:List Str:=[A3 "d",A3 "o",A3 "t",A3 "u"]
theorem SC {r n:Nat}{st:List Str}{es:List Ev}{ks:List Key}{xs:List PV}{R:PV->Nat->Prop}(so:U1 (r:Int) st es)(nd:st.Nodup)(hl:st.length<=24)(hg:∀b∈st,getP ks xs (.inr b)=some (.tup [dM b es,dO b es]))(h:R (.bl true) n):HS [rowP st,.dct ks xs,.int (r:Int)] n R:=by
 refine⟨rfl,?_⟩;unfold LG;unfold rowP;generalize hZ:st.map PV.str=Z;walk_at "pu";refine N7 (fun i env m=>∃s3 s4 s5 s6 s7,env=[some (.v (.tup Z)),some (.v (.dct ks xs)),some (.v (.int (r:Int))),s3,s4,s5,s6,s7]/\m=n) _ 0 _ _ ⟨_,_,_,_,_,rfl,rfl⟩ (fun i x env m N ex hI hN=>?_) (fun env m hI=>?_)
 · obtain⟨s3,s4,s5,s6,s7,rfl,rfl⟩:=hI;obtain⟨y,ey,rfl⟩:=Js ex;rw [<- hZ,F6] at ey;cases eb:st[i]? with
   | none=>rw [eb] at ey;cases ey
   | some b=>
   rw [eb] at ey;cases ey;have hb:b∈st:=K2 eb;have hgb:=hg b hb;have go:∀s3 s4 s5 s6 s7,N [some (.v (.tup Z)),some (.v (.dct ks xs)),some (.v (.int (r:Int))),s3,s4,s5,s6,s7] m:=fun s3 s4 s5 s6 s7=>hN _ _ ⟨_,_,_,_,_,rfl,rfl⟩;have hi:i=ixS st b:=Bx nd eb (V8 hb).1
   have two:(∃mk,(mk=A3 "d"\/mk=A3 "o")/\dM b es=.str mk/\dO b es=.non)\/∃y mk ok,y∈st/\dM b es=.str mk/\dO b es=.str y/\getP ks xs (.inr y)=some (.tup [.str ok,.str b])/\((mk=A3 "u"/\ok=A3 "t"/\ixS st y < ixS st b)\/(mk=A3 "t"/\ok=A3 "u"/\ixS st b < ixS st y))/\((btwU st b y).length:Int)<=(r:Int)/\∀z∈btwU st b y,z∈es.flatMap evB:=by
     rcases Fo so.fair.nd b with⟨mk,c1,c2,c3,_⟩ | ⟨y,c⟩ | ⟨y,c⟩
     · exact .inl ⟨mk,c1,c2,c3⟩
     · obtain⟨d1,d2,d3,d4⟩:=V9 so.fair.nd c;obtain⟨hx,hy⟩:=so.fair.tx c;exact .inr ⟨y,_,_,hy,d1,d2,by rw [hg y hy,d3,d4],.inl ⟨rfl,rfl,so.ahead _ _ c⟩,so.near _ _ c,so.full _ _ c⟩
     · obtain⟨d1,d2,d3,d4⟩:=V9 so.fair.nd c;obtain⟨hx,hy⟩:=so.fair.tx c;have e:btwU st b y=btwU st y b:=by unfold btwU;rw [Nat.max_comm,Nat.min_comm]
       exact .inr ⟨y,_,_,hx,d3,d4,by rw [hg y hx,d1,d2],.inr ⟨rfl,rfl,so.ahead _ _ c⟩,by rw [e];exact so.near _ _ c,by rw [e];exact so.full _ _ c⟩
   rcases two with⟨mk,c1,c2,c3⟩ | ⟨y,mk,ok,hy,c2,c3,hgy,c1,c4,c5⟩
   · rw [c2,c3] at hgb;walk_at "pd";refine⟨rfl,?_⟩;rw [hgb];walk_at "pd";refine⟨rfl,by decide,CS (zs:=DOL) rfl ?_⟩;have e1:decide (mk∈DOL)=true:=by rcases c1 with rfl | rfl <;> decide +kernel
     have e2:decide (mk∈DOTU)=true:=by rcases c1 with rfl | rfl <;> decide +kernel
     have e3:eqP (.str mk) (.str (A3 "t"))=false:=by rw [d7];rcases c1 with rfl | rfl <;> decide +kernel
     have e4:eqP (.str mk) (.str (A3 "u"))=false:=by rw [d7];rcases c1 with rfl | rfl <;> decide +kernel
     rw [e1];refine if_t rfl (if_f rfl ⟨by decide,ET (zs:=DOTU) rfl ?_⟩);rw [e2];refine if_f rfl (if_f e3 (if_f e4 (go _ _ _ _ _)))
   · rw [c2,c3] at hgb;walk_at "pd";refine⟨rfl,?_⟩;rw [hgb];walk_at "pd";have e1:decide (mk∈DOL)=false:=by rcases c1 with⟨rfl,_,_⟩ | ⟨rfl,_,_⟩ <;> decide +kernel
     have e2:decide (mk∈DOTU)=true:=by rcases c1 with⟨rfl,_,_⟩ | ⟨rfl,_,_⟩ <;> decide +kernel
     have e3:(eqP (.str mk) (.str (A3 "t")) || eqP (.str mk) (.str (A3 "u")))=true:=by rw [d7,d7];rcases c1 with⟨rfl,_,_⟩ | ⟨rfl,_,_⟩ <;> decide +kernel
     have e4:atI [PV.str (A3 "t"),PV.str (A3 "u")] (if eqP (.str mk) (.str (A3 "t"))=true then 1 else 0)=some (.str ok):=by
       rw [d7];rcases c1 with⟨rfl,rfl,_⟩ | ⟨rfl,rfl,_⟩
       · rw [show decide (A3 "u"=A3 "t")=false by decide +kernel];rfl
       · rw [show decide (A3 "t"=A3 "t")=true by decide +kernel];rfl
     have e5:eqP (.str mk) (.str (A3 "u"))=decide ((ixS st y:Int) < (i:Int)):=by
       rw [d7,decide_eq_decide,hi];rcases c1 with⟨rfl,_,q⟩ | ⟨rfl,_,q⟩
       · exact⟨fun _=>by omega,fun _=>rfl⟩
       · exact⟨fun z=>absurd z (by decide +kernel),fun z=>by omega⟩
     have ly:=Q1 hy;have lb:=Q1 hb;have bl:(btwU st b y).length=max (ixS st b) (ixS st y) - (min (ixS st b) (ixS st y) + 1):=by unfold btwU;rw [U8,Q4];omega
     have hcut:cutP Z (some ((if(ixS st y:Int) < (i:Int) then(ixS st y:Int) else(i:Int)) + 1)) (some (if(ixS st y:Int) > (i:Int) then(ixS st y:Int) else(i:Int)))=(btwU st b y).map PV.str:=by
       have:=CY (st.map PV.str) (a:=min (ixS st b) (ixS st y) + 1) (b:=max (ixS st b) (ixS st y)) (by rw [B2];omega);unfold btwU;rw [List.map_drop,List.map_take,<- this,hi,hZ]
       congr 2 <;> split <;> omega
     refine⟨rfl,by decide,CS (zs:=DOL) rfl ?_⟩;rw [e1];refine if_f rfl ⟨by decide,ET (zs:=DOTU) rfl ?_⟩;rw [e2];refine if_f rfl (if2 e3 (ET hZ ?_));rw [decide_eq_true hy];refine if_f rfl ?_;rw [hgy];dsimp only;rw [e4];refine⟨by decide,by decide,gd2 rfl rfl (if_f ?_ ⟨⟨_,rfl⟩,m_ix hZ hy (by omega) ?_⟩)⟩
     · rw [Kf _ rfl];rfl
     dsimp only;rw [e5,hcut];refine if_f (by rw [GG];simp) (if_f (decide_eq_false ?_) ⟨by rw [B2];omega,?_⟩)
     · rw [hi];split <;> omega
     refine Oe (fun _=>.bl false) _ _ _ _ (fun x hx m' Q q=>?_) ?_
     · obtain⟨z,hz,rfl⟩:=K4.mp hx;obtain⟨mz,f1,f2⟩:=dM_o so.fair.nd (c5 z hz);have hgz:=hg z (by unfold btwU at hz;exact Dq (FE hz));rw [f1] at hgz;walk_at "pd";rw [hgz];walk_at "pd";rw [d7,decide_eq_false f2];exact q
     · rw [show((btwU st b y).map PV.str).map (fun _=>PV.bl false)=((btwU st b y).map fun _=>false).map PV.bl by rw [R9,R9];rfl,NU];dsimp only;refine if_f ?_ (go _ _ _ _ _);rw [List.any_eq_false];intro z hz;obtain⟨_,_,rfl⟩:=K4.mp hz
       decide
 · obtain⟨s3,s4,s5,s6,s7,rfl,rfl⟩:=hI;exact h
theorem own_of {ess:List (List Ev)}{sts:List (List Str)}{mx i:Nat}{b:Str}(hi:i < mx):((C2 mx).filter fun q=>decide (b∈stAt sts (mx - 1 - q))).filter (fun q=>decide (((mx - 1 - q:Nat):Int)=((mx - 1 - i:Nat):Int)))=if b∈stAt sts (mx - 1 - i) then [i] else []:=by
 rw [List.filter_filter]
 have e:(C2 mx).filter (fun q=>decide (((mx - 1 - q:Nat):Int)=((mx - 1 - i:Nat):Int)) && decide (b∈stAt sts (mx - 1 - q)))=(C2 mx).filter (fun q=>decide (q=i/\b∈stAt sts (mx - 1 - i))):=by
   apply List.filter_congr
   intro q hq;have:=O2.mp hq;rw [<- Bool.decide_and,decide_eq_decide];constructor
   · rintro⟨z,h⟩;have:q=i:=by omega
     subst this;exact⟨rfl,h⟩
   · rintro⟨rfl,h⟩;exact⟨rfl,h⟩
 rw [e]
 by_cases c:b∈stAt sts (mx - 1 - i)
 · rw [if_pos c]
   have sp:C2 mx=(C2 i++[i])++(C2 (mx - (i + 1))).map (i + 1 + ·):=by
     rw [<- List.range_succ,<- List.range_add,show i + 1 + (mx - (i + 1))=mx by omega]
   rw [sp,BL,BL,BI.mpr (fun q hq=>by have:=O2.mp hq;simp [c];omega),Z1,Do (by simp [c]),List.filter_nil,
     BI.mpr (fun q hq=>by obtain⟨k,hk,rfl⟩:=K4.mp hq;simp [c];omega),P3]
 · rw [if_neg c,BI.mpr (fun q hq=>by simp [c])]
theorem SD {r s n m mx i:Nat}{row r' st:List Str}{es:List Ev}{ess:List (List Ev)}{sts:List (List Str)}{R:PV->Nat->Prop}(h1:1<=s)(h8:s<=8)(hn:1<=n)(h24:n<=24)(mle:mx<=n)(hi:i < mx)(kp:(mx - 1 - i) * s<=n - 1)(nd:row.Nodup)(hl:row.length=n)(rl:r'.length=n)
   (so:U1 (r:Int) st es) (hst:st=D5 s n (mx - 1 - i) r') (sn:st.Nodup) (sub:∀b∈st,b∈row) (e1:stAt sts (mx - 1 - i)=st) (e2:esAt ess (mx - 1 - i)=es)
   (h:R (rowP (putN s n (mx - 1 - i) r' (aft st es))) m):HU [.tup [.int (s:Int),.int (r:Int)],rowP r',.tup (row.map (dueR ess sts mx)),.int ((mx - 1 - i:Nat):Int)] m R:=by
 refine⟨rfl,?_⟩;unfold LH;have hr0:rowP r'=.tup (r'.map PV.str):=rfl;rw [hr0];generalize hZ:r'.map PV.str=Z;generalize hK:row.map (dueR ess sts mx)=KP;generalize hk:mx - 1 - i=k at *;refine Y5 fun U hU=>?_;walk_at "pd";rw [show((Z.length:Nat):Int)=(n:Int) by rw [<- hZ,B2,rl]];refine LO h8 hn (by omega) ?_;subst hU;refine⟨rfl,?_⟩;refine Y5 fun U hU=>?_;walk_at "pd"
 have cst:cutP Z (some ((k * s:Nat):Int)) (some (((hiN s n k:Nat):Int) + 1))=st.map PV.str:=by
   rw [<- hZ,b9,show((hiN s n k:Nat):Int) + 1=((hiN s n k + 1:Nat):Int) by omega,CY r' (by rw [rl];exact u8 hn),hst]
   rfl
 rw [cst];subst hU;have s24:st.length<=24:=by rw [hst,u6 rl hn];have:=u8 (s:=s) (k:=k) hn;omega
 generalize hS:st.map PV.str=S;have ndE:=so.fair.nd
 have shp:∀b,∃m,dM b es=.str m/\(dO b es=.non\/∃y,dO b es=.str y):=fun b=>by
   rcases Fo ndE b with⟨m,_,a,c,_⟩ | ⟨y,c⟩ | ⟨y,c⟩
   · exact⟨m,a,.inl c⟩
   · exact⟨_,(V9 ndE c).1,.inr ⟨_,(V9 ndE c).2.1⟩⟩
   · exact⟨_,(V9 ndE c).2.2.1,.inr ⟨_,(V9 ndE c).2.2.2⟩⟩
 walk_at "pd";refine N7 (fun j env m'=>∃(ks:List Key) (xs:List PV) (s8 s9 s10:Option Pu.Slot),env=[some (.v (.tup [.int (s:Int),.int (r:Int)])),some (.v (.tup Z)),some (.v (.tup KP)),some (.v (.int (k:Int))),some (.v (.int ((k * s:Nat):Int))),some (.v (.int ((hiN s n k:Nat):Int))),some (.v (.tup S)),some (.ow (.dk ks) xs),s8,s9,s10,none]/\ks.length=xs.length/\xs.length<=j/\(∀b,getP ks xs (.inr b)=if b∈row.take j/\b∈st then some (.tup [dM b es,dO b es]) else none)/\m'=m) _ 0 _ _ ⟨[],[],none,none,none,rfl,rfl,by simp,(fun b=>by simp [getP]),rfl⟩ (fun j x env m' N ex hI hN=>?_) (fun env m' hI=>?_)
 · obtain⟨ks,xs,s8,s9,s10,rfl,kl,xl,hg,rfl⟩:=hI;rw [F7] at hN xl hg;rw [<- hK] at ex;obtain⟨b,eb,rfl⟩:=Y4 ex;have jn:j < n:=by rw [<- hl];exact(D9.mp eb).1
   have nin:b∉row.take j:=fun z=>by
     obtain⟨p,hp⟩:=Dr z;rw [Du] at hp
     split at hp
     · have:=Bx nd hp eb;omega
     · cases hp
   have tk:∀z,z∈row.take (j + 1)↔z∈row.take j\/z=b:=fun z=>by rw [Ap eb,K8,J8]
   unfold dueR dL;generalize hQ:(C2 mx).filter (fun q=>decide (b∈stAt sts (mx - 1 - q)))=Qs;have ql:Qs.length<=mx:=by rw [<- hQ];exact K5 (BJ _ _) (by rw [w5];exact B4 _)
   have oo:=own_of (ess:=ess) (sts:=sts) (b:=b) hi;rw [hQ,hk,e1] at oo;walk_at "pd";refine⟨rfl,by rw [B2];omega,?_⟩;refine Ij (fun q=>dX ess b (mx - 1 - q)) (fun q=>decide (((mx - 1 - q:Nat):Int)=(k:Int))) (fun q=>dX ess b (mx - 1 - q)) _ _ _ _ (fun q hq m2 Q z=>?_) (fun q hq m2 Q z=>z) ?_
   · unfold dX at z ⊢;walk_at "pd";rw [HW];exact z
   rw [oo];refine CS hS ?_
   by_cases c:b∈st
   · rw [if_pos c,decide_eq_true c]
     have d1:[i].map (fun q=>dX ess b (mx - 1 - q))=[.tup [.int (k:Int),dM b es,dO b es]]:=by
       show [dX ess b (mx - 1 - i)]=_;rw [hk];unfold dX;rw [e2]
     have gd:[PV.tup [.int (k:Int),dM b es,dO b es]].all (cmpb 3)=true:=by
       obtain⟨mm,f1,f2⟩:=shp b;rw [f1];rcases f2 with f2 | ⟨y,f2⟩ <;> rw [f2] <;> rfl
     rw [d1];refine if_f rfl ⟨by decide,gd2 gd rfl (if_t rfl ?_)⟩;rw [show atI [PV.tup [.int (k:Int),dM b es,dO b es]] 0=some (.tup [.int (k:Int),dM b es,dO b es]) from rfl];dsimp only;rw [show cutP [PV.int (k:Int),dM b es,dO b es] (some 1) none=[dM b es,dO b es] from EV _ 1];have p1:=put_len (.inr b) (.tup [dM b es,dO b es]) kl;refine⟨⟨_,_,rfl⟩,kl,by omega,hN _ _ ⟨_,_,_,_,_,rfl,p1.1,by omega,fun z=>?_,rfl⟩⟩;rw [BB _ _ _ kl,hg z]
     by_cases e:z=b
     · subst e;rw [if_pos rfl,if_pos ⟨(tk z).mpr (.inr rfl),c⟩]
     · rw [if_neg (fun w=>e (Sum.inr.inj w).symm)];simp [tk z,e]
   · rw [if_neg c,decide_eq_false c];refine if_f rfl ⟨by decide,gd2 rfl rfl (if_f rfl (hN _ _ ⟨_,_,_,_,_,rfl,kl,by omega,fun z=>?_,rfl⟩))⟩;rw [hg z]
     by_cases e:z=b
     · subst e;rw [if_neg (fun w=>c w.2),if_neg (fun w=>c w.2)]
     · simp [tk z,e]
 · obtain⟨ks,xs,s8,s9,s10,rfl,kl,xl,hg,rfl⟩:=hI;have kpl:KP.length=n:=by rw [<- hK,B2,hl]
   rw [F7,kpl,l7 (by omega)] at hg;have hg':∀b∈st,getP ks xs (.inr b)=some (.tup [dM b es,dO b es]):=fun b hb=>by rw [hg b,if_pos ⟨sub b hb,hb⟩]
   have pl:∀b∈st,(dO b es=.non/\pal st es b=b)\/∃y,dO b es=.str y/\pal st es b=y:=fun b hb=>by
     rcases Fo ndE b with⟨m,_,_,c,_,d⟩ | ⟨y,c⟩ | ⟨y,c⟩
     · refine .inl ⟨c,Ii ?_⟩;have:=Ih hb es st so.fair.sub d;rw [(V8 hb).1] at this;exact this
     · exact .inr ⟨y,(V9 ndE c).2.1,Ii (Mb es st rfl ndE so.fair.sub c).1⟩
     · exact .inr ⟨y,(V9 ndE c).2.2.2,Ii (Mb es st rfl ndE so.fair.sub c).2⟩
   have c1:cutP Z none (some ((k * s:Nat):Int))=(r'.take (k * s)).map PV.str:=by rw [<- hZ,b9,Hq]
   have c2:cutP Z (some (((hiN s n k:Nat):Int) + 1)) none=(r'.drop (hiN s n k + 1)).map PV.str:=by
     rw [<- hZ,b9,show((hiN s n k:Nat):Int) + 1=((hiN s n k + 1:Nat):Int) by omega,EV]
   walk_at "pd";rw [c1,c2];subst hS;refine⟨kl,SC so sn s24 hg' (if_f rfl ⟨by rw [B2];omega,?_⟩)⟩;refine Ij PV.str (fun _=>true) (fun b=>.str (pal st es b)) _ _ _ _ (fun b hb m2 Q z=>z) (fun b hb m2 Q z=>?_) ?_
   · have hgb:=hg' b hb;walk_at "pd";rw [hgb];walk_at "pd";rcases pl b hb with⟨e,f⟩ | ⟨y,e,f⟩
     · rw [f] at z;rw [e];exact if_f rfl z
     · rw [f] at z;rw [e];exact if_t rfl z
   · rw [Ds.mpr (fun _ _=>rfl),show(st.map fun b=>PV.str (pal st es b))=(aft st es).map PV.str by rw [Sy sn,R9];rfl];have:=Ao st es;refine⟨by rw [B2,B2,Q4];omega,by rw [E1,B2,B2,B2,Q4,U8];omega,?_⟩;rw [<- L8,<- L8];exact h
def Ps (r:Nat)(st:List Str)(es:List Ev):Prop:=U1 (r:Int) st es/\es.length<=24
theorem Ps_of {r:Nat}(st:List Str)(ms:List Pu.Mk)(es:List Ev)(hs:RowS st)(hl:ms.length=st.length)(h24:st.length<=24)(hw:run (r:Int) 0 [] ms=some [])(p:es.Perm ((shE 0 [] ms).map (evOf st))):Ps r st es:=by
 refine⟨(RG hs.1 hl hw).perm p,?_⟩;have:=Ar ms 0 [];rw [p.length_eq,B2];omega
theorem SE {mx a e:Nat}(ae:a < e)(em:e<=mx):(C2 (e - a)).map (fun k=>PV.int ((mx - 1 - (a + k):Nat):Int))=(C2 (e - a)).map (fun(k:Nat)=>PV.int (((mx - 1 - a:Nat):Int) - k))/\atI ((C2 (e - a)).map (fun k=>PV.int ((mx - 1 - (a + k):Nat):Int))) 0=some (.int ((mx - 1 - a:Nat):Int))/\atI ((C2 (e - a)).map (fun k=>PV.int ((mx - 1 - (a + k):Nat):Int))) (-1)=some (.int ((mx - e:Nat):Int)):=by
 refine⟨?_,?_,?_⟩
 · apply List.map_congr_left
   intro k hk;have:=O2.mp hk;rw [show((mx - 1 - (a + k):Nat):Int)=((mx - 1 - a:Nat):Int) - k by omega]
 · refine y4 (j:=0) ?_;rw [F6,List.getElem?_range (by omega)]
   rfl
 · rw [show e - a=e - a - 1 + 1 by omega,List.range_succ,L8];refine(IP _ _).trans ?_;show some (PV.int ((mx - 1 - (a + (e - a - 1)):Nat):Int))=_;rw [show mx - 1 - (a + (e - a - 1))=mx - e by omega]
theorem m_law (ns:List Int)(hl:ns.length<=63):HV ⟨fun _ _=>False,fun r _=>r=.bl true,fun _ _=>False,fun _ _=>False⟩ (p8 ["_law_script","_law_draws","_law_meeting","_law_row","_law_turn","_law_day_here","_law_starts","_law_after_here","_law_kept","_law_word_here","_law_told","_law_boat","_law_some","_law_numbers","_law_walked","_law_k"] [.scr ns]) 0:=by
 unfold HV;refine Y5 fun U hU=>?_;walk_at "pd";refine⟨hl,fun q=>?_⟩;subst hU;refine Y5 fun U hU=>?_;walk_at "pd";refine m_meet (by omega) fun s r zs n0 h1 h8 r7 z1 z24 zr hn0=>?_;subst hU;refine⟨rfl,?_⟩;refine Y5 fun U hU=>?_;generalize hM:PV.tup [.int (s:Int),.int (r:Int)]=M;generalize hZ:rowP zs=Z;walk_at "pd";refine⟨⟨by omega,by omega,by omega⟩,fun d d0 d5=>⟨⟨by omega,by omega⟩,?_⟩⟩;refine N7 (fun i env m=>∃(row:List Str) (s4 s5 s6 s7 s8 s9 s10 s11 s12 s13 s14 s15:Option Pu.Slot),env=[some (.v (.scr ns)),some (.v (.pot (q + 1))),some (.v M),some (.v (rowP row)),s4,s5,s6,s7,s8,s9,s10,s11,s12,s13,s14,s15]/\RowS row/\row.length=zs.length/\m<=n0 + 1 + 2000 * i) _ 0 _ _ ⟨zs,_,_,_,_,_,_,_,_,_,_,_,_,by rw [hZ],zr,rfl,by omega⟩ (fun i x env m N ex hI hN=>?_) (fun env m hI=>?_)
 · obtain⟨row,s4,s5,s6,s7,s8,s9,s10,s11,s12,s13,s14,s15,rfl,rr,rl,hm⟩:=hI;obtain⟨hj,rfl⟩:=Ew ex;have hj5:i < 5:=by omega
   rw [F7] at hm hN;generalize hn:zs.length=n at *;generalize hW:rowP row=W;refine Y5 fun V hV=>?_;walk_at "pd";rw [<- hM,<- hW];refine m_day (P:=Ps r) (n:=n) (fun st ms es hs hsl hl' hw p se=>Ps_of st ms es hs hl' (by omega) hw p) (fun _ _ p=>p.1.fair) h1 h8 z1 z24 rr rl (by omega) fun ess sts r' n2 hd hn2=>?_;subst hV;have mle:=C_ (s:=s) (n:=n) h1 z1;generalize hmx:(n + s - 1) / s=mx at *;obtain⟨rR,rL⟩:=hd.rows h1 z1 hmx.symm (fun _ _ p=>p.1.fair) rr rl;refine⟨rfl,?_⟩;refine Y5 fun V hV=>?_;generalize hD:dayP ess=D;generalize hS:PV.tup (sts.map rowP)=S;generalize hY:rowP r'=Y;rw [hW,hM];walk_at "pd";rw [<- hW,<- hM,<- hD];refine Sw (P:=Ps r) (fun _ _ p=>p.1.fair) (fun _ _ p=>by have:=p.2;omega) h1 h8 z1 z24 rr rl hmx.symm hd ?_;subst hV;refine Y5 fun V hV=>?_;rw [hW,hM,hD];generalize hKP:row.map (dueR ess sts mx)=KP;walk_at "pd";rw [<- hW,<- hM,<- hD];refine m_dayb (P:=Ps r) (fun _ _ p=>⟨p.1,by have:=p.2;omega⟩) h1 h8 z1 z24 rr rl (by rw [hmx];exact hd) ?_;subst hV;refine⟨rfl,?_⟩;rw [hW,hM,hD,hY];obtain⟨Zr,hZr⟩:∃Zr,row.map PV.str=Zr:=⟨_,rfl⟩;have hW2:W=.tup Zr:=by rw [<- hW,<- hZr]
   subst hW2;refine Y5 fun V hV=>?_;walk_at "pd";refine⟨by rw [<- hKP,B2];omega,?_⟩;have kp2:KP=row.map fun b=>.tup [.str b,.tup (dL ess sts mx mx b)]:=hKP.symm;rw [kp2];refine Sx (fun b=>.str b) (fun b=>.tup (dL ess sts mx mx b)) (fun _=>true) PV.str row _ _ _ _ (fun _ _ _ _ z=>z) (fun _ _ _ _ z=>z) ?_;rw [<- kp2,Ds.mpr (fun _ _=>rfl),hZr];have gz:Zr.all (cmpb 3)=true:=by rw [<- hZr];exact ER row 3
   refine gd2 gz gz (if_f ?_ ?_)
   · rw [CH Zr (Kg _ fun x hx=>by rw [<- hZr] at hx;obtain⟨_,_,rfl⟩:=K4.mp hx;rfl)];rfl
   subst hV;refine Y5 fun V hV=>?_;walk_at "pd";refine N7 (fun j env m'=>∃(s11 s12 s13:Option Pu.Slot),env=[some (.v (.scr ns)),some (.v (.pot (q + 1))),some (.v M),some (.v (.tup Zr)),some (.v (.int (0 + (i:Int)))),some (.v D),some (.v S),some (.v Y),some (.v (.tup KP)),some (.v (.str (A3 "row"))),some (.v Y),s11,s12,s13,s14,s15]/\m'=n2) _ 0 _ _ ⟨_,_,_,rfl,rfl⟩ (fun j x env m' N' ex' hI hN'=>?_) (fun env m' hI=>?_)
   · obtain⟨s11,s12,s13,rfl,rfl⟩:=hI;rw [kp2] at ex';obtain⟨b,eb,rfl⟩:=Y4 ex';have hb:b∈row:=K2 eb;obtain⟨p,hp,hsp⟩:=SA h1 z1 hmx.symm (fun _ _ p=>p.1.fair) rr rl hd hb;rw [i7,Nat.zero_mul] at hsp;obtain⟨a,e,ae,em,hq,_⟩:=hsp.resolve_left fun z=>by omega
     rw [dL_run ae em hq];have go:=fun s11 s12 s13=>hN' _ _ ⟨s11,s12,s13,rfl,rfl⟩;walk_at "pd";refine⟨rfl,by rw [B2,w5];omega,?_⟩;refine Ij (fun k=>dX ess b (mx - 1 - (a + k))) (fun _=>true) (fun k=>.int ((mx - 1 - (a + k):Nat):Int)) _ _ _ _ (fun _ _ _ _ z=>z) (fun k _ m2 Q z=>z) ?_;rw [Ds.mpr (fun _ _=>rfl)];obtain⟨u1,u2,u3⟩:=SE (mx:=mx) ae em
     have ng:∀l:List Nat,∀f:Nat->Int,(l.map fun k=>PV.int (f k)).all (cmpb 3)=true:=fun l f=>by
       rw [P2];intro x hx;obtain⟨_,_,rfl⟩:=K4.mp hx
       rfl
     have nz:eqPs ((C2 (e - a)).map (fun k=>PV.int ((mx - 1 - (a + k):Nat):Int))) []=false:=by
       rw [show e - a=e - a - 1 + 1 by omega,FC]
       rfl
     refine⟨by decide,gd2 (ng _ _) rfl (if_f nz ?_)⟩;rw [u2,u3];dsimp only;refine⟨⟨by omega,by omega,by omega,by omega⟩,gd2 (ng _ _) (ng _ fun(k:Nat)=>((mx - 1 - a:Nat):Int) - k) (if_f ?_ (go _ _ _))⟩;rw [show(((mx - 1 - a:Nat):Int) - (((mx - e:Nat):Int) - 1)).toNat=e - a by omega,u1,CH _ (Kg _ fun x hx=>by obtain⟨_,_,rfl⟩:=K4.mp hx;rfl)]
     rfl
   · obtain⟨s11,s12,s13,rfl,rfl⟩:=hI;subst hV;have zl:Zr.length=n:=by rw [<- hZr,B2,rl]
     walk_at "pd";rw [<- hM,zl];refine LN h1 z1 ?_ h8;rw [hmx,hM];dsimp only;refine⟨⟨by omega,by omega⟩,?_⟩;rw [P4];obtain⟨el,sl⟩:=hd.len;refine N7 (fun j env m2=>∃(rj:List Str) (s15:Option Pu.Slot),env=[some (.v (.scr ns)),some (.v (.pot (q + 1))),some (.v M),some (.v (.tup Zr)),some (.v (.int (0 + (i:Int)))),some (.v D),some (.v S),some (.v Y),some (.v (.tup KP)),some (.v (.str (A3 "row"))),some (.v Y),s11,s12,s13,some (.v (rowP rj)),s15]/\Dy (Ps r) s n mx row j (ess.drop (mx - j)) (sts.drop (mx - j)) rj/\m2=m') _ 0 _ _ ⟨row,_,by rw [hW],by rw [R7 (by omega),R7 (by omega)];exact .nil,rfl⟩ (fun j x env m3 N' ex' hI hN'=>?_) (fun env m3 hI=>?_)
     · obtain⟨rj,s15,rfl,dj,rfl⟩:=hI;rw [F7] at hN' dj;obtain⟨hj,rfl⟩:=CW ex';obtain⟨es,st,r2,a1,a2,a3,a4,a5,a6,a7,a8⟩:=hd.at hj;have:=a5.det dj;subst this;obtain⟨jR,jL⟩:=a5.rows h1 z1 hmx.symm (fun _ _ p=>p.1.fair) rr rl;have kp:(mx - 1 - j) * s<=n - 1:=CZ h1 z1 (by omega);have ek:(mx:Int) - 1 - j=((mx - 1 - j:Nat):Int):=by omega
       rw [ek];generalize hX:rowP r2=X;walk_at "pd";rw [<- hM,<- hX,<- hKP];refine SD (es:=es) (st:=st) h1 h8 z1 z24 mle hj kp rr.1 rl jL a7.1 a6 (by rw [a6];exact(EX jR).1) (fun b hb=>(Ma h1 z1 hmx.symm (fun _ _ p=>p.1.fair) rr rl a5).1.mem_iff.mp (Rt b (by rw [<- a6];exact hb))) (by show(sts[mx - 1 - j]?).getD []=st;rw [a2];rfl) (by show(ess[mx - 1 - j]?).getD []=es;rw [a1];rfl) ?_;rw [hM,hKP];exact if_f rfl (hN' _ _ ⟨_,_,rfl,a8,rfl⟩)
     · obtain⟨rj,s15,rfl,dj,rfl⟩:=hI;rw [F7,B2,w5,i7,i3,i3] at dj;have:=dj.det hd;subst this;have sh:=RA rR.2 (by omega);subst hY;generalize hX:rowP rj=X at *;walk_at "pd";refine JV sh.sh (by have:=sh.de;omega) (by have:=sh.co;omega) ?_;refine JV sh.sh (by have:=sh.de;omega) (by have:=sh.co;omega) ?_;refine if_f (by rw [d7,decide_eq_true rfl];rfl) (hN _ _ ⟨rj,_,_,_,_,_,_,_,_,_,_,_,_,by rw [hX],rR,rL,by omega⟩)
 · obtain⟨row,s4,s5,s6,s7,s8,s9,s10,s11,s12,s13,s14,s15,rfl,rr,rl,hm⟩:=hI;subst hU
   rfl
end Tb
end
section
namespace Tb
open PySem L2 Pu
section
variable {P:C5}{w:World}{K:A4}{mg:Str->Option Value}{base:Heap}
theorem Md (h:SqL K H a xs)(s:Same H H'):SqL K H' a xs:=h.elim (fun h=>.inl (Rd.keep h fun o e=>s a o e)) .inr
theorem SF (s:Same H H')(h:H' c=none):H c=none:=by
 cases e:H c with
 | none=>rfl
 | some o=>rw [s c o e] at h;cases h
theorem putK_new {kvs:List (Key×V)}{k:Key}{v:V}(h:∀kv∈kvs,¬kv.1=k):putK kvs k v=kvs++[(k,v)]:=by
 unfold putK;rw [if_neg];rw [Bool.not_eq_true,List.any_eq_false];intro x hx;rw [decide_eq_true_iff];exact h x hx
theorem SG:Ad [] (dPot c a l s)=dPot c a l s:=by
 unfold Ad dPot;simp only [Q6,List.foldl_nil];have e1:putK ([]:List (Key×V)) (C7 (A3 "cells")) (V.ref c)=[(C7 (A3 "cells"),V.ref c)]:=putK_new (fun _ z=>nomatch z);have e2:putK [((C7 (A3 "cells"):Key),V.ref c)] (C7 (A3 "at")) (V.int a)=[(C7 (A3 "cells"),V.ref c),(C7 (A3 "at"),V.int a)]:=putK_new (fun kv hkv=>by rw [J8.mp hkv];exact k7 (by decide))
 have e3:putK [((C7 (A3 "cells"):Key),V.ref c),(C7 (A3 "at"),V.int a)] (C7 (A3 "left")) (V.int l)=[(C7 (A3 "cells"),V.ref c),(C7 (A3 "at"),V.int a),(C7 (A3 "left"),V.int l)]:=putK_new (fun kv hkv=>by
   simp only [B6,e7,or_false] at hkv
   rcases hkv with rfl | rfl <;> exact k7 (by decide))
 have e4:putK [((C7 (A3 "cells"):Key),V.ref c),(C7 (A3 "at"),V.int a),(C7 (A3 "left"),V.int l)] (C7 (A3 "seed")) (V.int s)=[(C7 (A3 "cells"),V.ref c),(C7 (A3 "at"),V.int a),(C7 (A3 "left"),V.int l),(C7 (A3 "seed"),V.int s)]:=putK_new (fun kv hkv=>by
   simp only [B6,e7,or_false] at hkv
   rcases hkv with rfl | rfl | rfl <;> exact k7 (by decide))
 rw [e1,e2,e3,e4]
theorem SH (F:Fn0 K mg "_law_begin" (top 29))(m_len:mg "len"=none)(m_list:mg "list"=none):Kn P w K mg base "_law_begin" 1 ["_law_script"] (Pu.EN K):=by
 have sc:Q7 ["_law_script"] ["_law_script"] (E4 (top 29)):=⟨rfl,rfl,rfl,by decide +kernel,rfl,by decide +kernel,by decide +kernel⟩;refine F.ok sc (fun vs H Q E h=>?_) (fun _ _ _ _ _ _=>bd1 fun _=>rfl) (fun f cdv A outer s H vs Q E hr h=>?_)
 · obtain⟨a,ns,rfl,_⟩:=h
   rfl
 obtain⟨a,ns,rfl,hS,hl63,q⟩:=h;refine⟨_,AX (AY (Oo (Ez L0 (Cf IT rfl m_list Gm (E9 (F_ Gd (pv 0) FY (FZ K9)) G7)) (Ez L0 K9 (Ez L0 K9 (Ez L0 (L4 A_ K9 (y0 Ge rfl m_len D_ (E9 (F_ Gd (pv 0) FY (FZ K9)) G7))) Om)))) rfl rfl (by simp) (by simp))),?_⟩
 have cut:cutV (ns.map V.int) none (some 63)=ns.map V.int:=by
   unfold cutV;rw [HT.sIx_none,show(some (63:Int))=some ((63:Nat):Int) from rfl,HT.sIx_nat,i3,B2,BQ hl63];exact l7 (by rw [B2];omega)
 intro p hp;have sm0:Same H (upd H p (.dK [])):=Same.lay1 hp;refine⟨_,rfl,63,rfl,a,_,rfl,Md hS sm0,fun p0 hp0=>?_⟩;have sm1:=sm0.trans (Same.lay1 (o:=.lst (cutV (ns.map V.int) none (some 63))) hp0);have at1:upd (upd H p (.dK [])) p0 (.lst (cutV (ns.map V.int) none (some 63))) p=some (.dK []):=Same.lay1 hp0 p _ C4;refine⟨p0,_,rfl,.inl (SqL.of C4),fun c hc=>?_⟩;have sm2:=sm1.trans (Same.lay1 (o:=.lst (cutV (ns.map V.int) none (some 63))) hc);have at2:=Same.lay1 (o:=.lst (cutV (ns.map V.int) none (some 63))) hc p _ at1;have cn:=SF sm1 hc;refine⟨_,rfl,63,rfl,a,_,rfl,Md hS sm2,fun p1 hp1=>?_⟩;have sm3:=sm2.trans (Same.lay1 (o:=.lst (cutV (ns.map V.int) none (some 63))) hp1);have at3:=Same.lay1 (o:=.lst (cutV (ns.map V.int) none (some 63))) hp1 p _ at2;have ct3:=Same.lay1 (o:=.lst (cutV (ns.map V.int) none (some 63))) hp1 c _ C4;refine⟨p1,_,rfl,.inl (SqL.of C4),_,_,rfl,rfl,at3,dPot c 0 0 (1000003 + ((cutV (ns.map V.int) none (some 63)).length:Nat)),rfl,by show 4<=15;decide,?_⟩;rw [SG];have ncp:c≠p:=fun z=>by rw [z] at hc;rw [at1] at hc;cases hc
 refine q _ p c ns 0 0 _ (fun b o e=>?_) hp cn C4 (by rw [A7 ncp];rw [ct3,cut]) ⟨hl63,by omega,by omega,by omega,?_⟩
 · have nbp:b≠p:=fun z=>by rw [z,hp] at e;cases e
   rw [A7 nbp];exact sm3 b o e
 · rw [cut,B2];omega
theorem upd_id (h:H p=some o):upd H p o=H:=by
 funext b
 by_cases e:b=p
 · rw [e,C4,h]
 · rw [A7 e]
theorem Me (h:H p=some (.dK (dPot c a l s))):DGet H p (.str (A3 "cells")) (some (.ref c)):=QC (a:=a) (l:=l) (s:=s)▸DGet.k (k:=C7 (A3 "cells")) h
theorem dgAt (h:H p=some (.dK (dPot c a l s))):DGet H p (.str (A3 "at")) (some (.int a)):=QF (c:=c) (l:=l) (s:=s)▸DGet.k (k:=C7 (A3 "at")) h
theorem Fp (h:H p=some (.dK (dPot c a l s))):DGet H p (.str (A3 "left")) (some (.int l)):=QH (c:=c) (a:=a) (s:=s)▸DGet.k (k:=C7 (A3 "left")) h
theorem Fq (h:H p=some (.dK (dPot c a l s))):DGet H p (.str (A3 "seed")) (some (.int s)):=QJ (c:=c) (a:=a) (l:=l)▸DGet.k (k:=C7 (A3 "seed")) h
theorem Ik:(dPot c a l s).length < B5:=by show 4 < B5;decide
theorem dpAt (h:H p=some (.dK (dPot c a l s))):DPut H p (.str (A3 "at")) (.int x) (upd H p (.dK (dPot c x l s))):=QM (c:=c) (a:=a) (l:=l) (s:=s)▸DPut.k (k:=C7 (A3 "at")) h Ik
theorem Mf (h:H p=some (.dK (dPot c a l s))):DPut H p (.str (A3 "left")) (.int x) (upd H p (.dK (dPot c a x s))):=QP (c:=c) (a:=a) (l:=l) (s:=s)▸DPut.k (k:=C7 (A3 "left")) h Ik
theorem Mg (h:H p=some (.dK (dPot c a l s))):DPut H p (.str (A3 "seed")) (.int x) (upd H p (.dK (dPot c a l x))):=QQ (c:=c) (a:=a) (l:=l) (s:=s)▸DPut.k (k:=C7 (A3 "seed")) h Ik
theorem SI (F:Fn0 K mg "_law_next" (top 30))(m_len:mg "len"=none)(m_int:mg "int"=none):Kn P w K mg base "_law_next" 1 ["_law_draws","_law_many"] (D8 K potD CB):=by
 refine QU ?_;have sc:Q7 ["_law_draws","_law_many","_law_cell","_law_digit"] ["_law_draws","_law_many"] (E4 (top 30)):=⟨rfl,rfl,rfl,by decide +kernel,rfl,by decide +kernel,by decide +kernel⟩;refine F.ok sc (fun vs H Q E h=>?_) (fun _ _ _ _ _ _=>bd2 fun _ _=>rfl) (fun f cdv A outer s H vs Q E hr h=>?_)
 · obtain⟨p,c,cells,a,l,s,many,rfl,_⟩:=h
   rfl
 obtain⟨p,c,cells,a,l,sd,many,rfl,hp,hc,⟨c63,a0,l0,s0,s1⟩,n0,n1,q⟩:=h;have hu:=X7 hr
 refine⟨_,(U9 (FR (PW.pt (Iz (Ce op_eq (P9 hu (pv 0) L0 (fun _ _=>rfl)) K9 (D4 _)) (Iy (Ce op_lt (P9 hu (pv 0) L0 (fun _ _=>rfl)) (y0 Ge rfl m_len D_ (E9 (P9 hu (pv 0) L0 (fun _ _=>rfl)) G7)) (D4 _)))))
       (U9 (FS (i:=2) sc.nd rfl (Or.inl rfl) (Gc IQ (P9 hu (pv 0) L0 (fun _ _=>rfl)) (P9 hu (pv 0) L0 (fun _ _=>rfl)) (fun _ _=>rfl)))
       (U9 (Bm hu (pv 0) L0 (L4 A_ (P9 hu (pv 0) L0 (fun _ _=>rfl)) K9) rfl)
       (U9 (Bm hu (pv 0) L0 (L4 x8 (L4 A_ (L4 A_ (L4 Cd (P9 hu (pv 0) L0 (fun _ _=>rfl)) K9) (L4 x8 (pv 2) (L4 IB K9 K9))) K9) K9) rfl)
       (AX (Bm hu (pv 0) L0 (L4 Cd (pv 2) (Cf IE rfl m_int I_ (E9 (IC op_ge (pv 2) (L4 IB K9 K9) (D4 _)) G7))) rfl))))) FQ)
     (U9 (FR (Ce op_gt (P9 hu (pv 0) L0 (fun _ _=>rfl)) K9 (D4 _))
       (U9 (FS (i:=3) sc.nd rfl (Or.inl rfl) (L4 x8 (P9 hu (pv 0) L0 (fun _ _=>rfl)) (pv 1)))
       (U9 (Bm hu (pv 0) L0 (L4 FU (P9 hu (pv 0) L0 (fun _ _=>rfl)) (pv 1)) rfl)
       (AX (AY (pv 3))))) FQ)
     (U9 (Bm hu (pv 0) L0 (L4 x8 (L4 A_ (L4 Cd (P9 hu (pv 0) L0 (fun _ _=>rfl)) K9) K9) K9) rfl)
     (AX (AY (L4 x8 (L4 FU (L4 x8 (L4 Cd (P9 hu (pv 0) L0 (fun _ _=>rfl)) (P9 hu (pv 0) L0 (fun _ _=>rfl))) K9) K9) (pv 1))))))),?_⟩
 have sl:(dPot c a l sd).length < B5:=by show 4 < B5;decide
 have cp:c≠p:=fun z=>by rw [z,hp] at hc;cases hc
 refine NN (fun σ' H'=>∃a' l' s' s2,σ'=[some (.ref p),some (.int many),s2,none]/\CQ cells a' l' s'/\H'=upd H p (.dK (dPot c a' l' s'))) (fun key=>?_) ?_
 · have stay:=key _ _ ⟨a,l,sd,none,rfl,⟨c63,a0,l0,s0,s1⟩,(upd_id hp).symm⟩;refine⟨_,rfl,p,_,rfl,Fp hp,rfl,_,rfl,?_⟩;refine ite2 (fun c1=>?_) (fun c1=>stay);refine⟨_,rfl,p,_,rfl,dgAt hp,_,rfl,p,_,rfl,Me hp,c,_,rfl,.inl (SqL.of hc),_,_,rfl,rfl,_,rfl,?_⟩;refine ite2 (fun c2=>?_) (fun c2=>stay);have c2':a < (((cells.map V.int).length:Nat):Int):=of_decide_eq_true c2;rw [B2] at c2';obtain⟨v,qa⟩:=at_map (ns:=cells) a0 c2';refine⟨_,rfl,p,_,rfl,Me hp,_,rfl,p,_,rfl,dgAt hp,c,_,_,_,rfl,rfl,SqL.of hc,qa,?_⟩;refine⟨_,rfl,p,_,rfl,dgAt hp,_,_,rfl,rfl,_,rfl,p,_,rfl,dpAt hp,?_⟩;refine⟨_,rfl,p,_,rfl,Fq C4,_,_,rfl,rfl,.inl ⟨by omega,by omega⟩,_,rfl,_,_,rfl,rfl,⟨by decide,by decide,by decide⟩,_,_,rfl,rfl,(by show(0:Int) < 10 ^ Int.toNat 30;decide +kernel),_,_,rfl,rfl,_,_,rfl,rfl,_,_,rfl,rfl,(by show(0:Int) < 2305843009213693951;decide),_,rfl,p,_,rfl,Mg C4,?_⟩;rw [DV];refine⟨_,rfl,_,rfl,_,_,rfl,rfl,⟨by decide,by decide,by decide⟩,_,_,rfl,rfl,?_⟩;refine .inr ⟨_,rfl,?_⟩
   have hz:0<=v * (if decide ((10:Int) ^ Int.toNat 18<=v)=true then(1:Int) else 0):=by
     by_cases hb:(10:Int) ^ Int.toNat 18<=v
     · rw [if_pos (decide_eq_true hb),Int.mul_one];exact Int.le_trans (by decide +kernel) hb
     · rw [if_neg (by simpa using hb),Int.mul_zero];exact Int.le_refl _
   have hz2:(0:Int)<=(if decide ((10:Int) ^ Int.toNat 18<=v)=true then(1:Int) else 0)/\(if decide ((10:Int) ^ Int.toNat 18<=v)=true then(1:Int) else 0) < 2 ^ 64:=by split <;> decide
   refine⟨_,_,rfl,rfl,.inr ⟨by have:=hz2.1;omega,hz2.2⟩,_,rfl,p,_,rfl,Mf C4,?_⟩;rw [DV];exact key _ _ ⟨_,_,_,_,rfl,⟨c63,by omega,hz,AH _ (by decide),Int.lt_of_lt_of_le (AG _ (by decide)) (by decide)⟩,rfl⟩
 rintro σ' H' ⟨a',l',s',s2,rfl,⟨_,a0',l0',s0',s1'⟩,rfl⟩;refine⟨_,rfl,p,_,rfl,Fp C4,_,_,rfl,rfl,_,rfl,?_⟩;refine ite2 (fun c1=>?_) (fun c1=>?_)
 · refine⟨_,rfl,p,_,rfl,Fp C4,_,rfl,_,_,rfl,rfl,n0,?_⟩;refine⟨_,rfl,p,_,rfl,Fp C4,_,rfl,_,_,rfl,rfl,⟨n0,by omega⟩,_,rfl,p,_,rfl,Mf C4,?_⟩;rw [DV];refine⟨_,rfl,?_⟩;exact q _ _ _ _ (AH _ (by omega)) (AG _ n0) ⟨c63,a0',Int.ediv_nonneg l0' (by omega),s0',s1'⟩
 · refine⟨_,rfl,p,_,rfl,Fq C4,_,_,rfl,rfl,.inl ⟨by omega,by omega⟩,_,_,rfl,rfl,_,_,rfl,rfl,(by show(0:Int) < 2305843009213693951;decide),_,rfl,p,_,rfl,Mg C4,?_⟩;rw [DV];have m0:=AH (s' * 1181783497276652981 + 12345678910987) (show(2305843009213693951:Int)≠0 by decide);have m1:=AG (s' * 1181783497276652981 + 12345678910987) (show(0:Int) < 2305843009213693951 by decide);generalize (s' * 1181783497276652981 + 12345678910987) % 2305843009213693951=z at m0 m1 ⊢;refine⟨_,rfl,p,_,rfl,Fq C4,_,rfl,p,_,rfl,Fq C4,_,_,rfl,rfl,.inl ⟨by omega,by omega⟩,_,_,rfl,rfl,(by show(0:Int) < 2305843009213693921;decide),_,_,rfl,rfl,⟨by decide,by decide⟩,_,rfl,_,_,rfl,rfl,n0,?_⟩;exact q _ _ _ _ (AH _ (by omega)) (AG _ n0) ⟨c63,a0',l0',m0,by omega⟩
theorem SJ {Pt:Addr}{lpos:Pos}{qual:Str}(F:Fn0 K mg "_law_next" (top 30))(m_len:mg "len"=none)(m_int:mg "int"=none):Kn P w K mg base "_law_next" 1 ["_law_draws","_law_many"] (D8 K (tabK potD Pt lpos qual) Bw):=QV (SI F m_len m_int) rfl
end
end Tb
end
section
namespace Pu
open PySem PySem.Spec L2
section
variable {T:PotK}{ι:Type}{K:A4}{F:ι->Cx}{e:Expr}{es:List Expr}{st:Stmt}{pe:pE}{pl:pA}{pos:Pos}{np:Bool}{x:Str}
theorem qv (i:Nat)(h:∀z,EW (F z) (.Name x pos) (tVar i):=by exact fun _=>vw _):QE T K F (.Name x pos) (qV i):=qe_var i h
theorem qf {p:Pos}{f:pF}{ps:List Str}{k j:Nat}{P:C5}{w:World}{K0:A4}{mg:Str->Option Value}{base:Heap}{A:Around}(hG:Kn P w K0 mg base x k ps (D8 K T f))(hr:Room j A)(ha:QA T K F (e::es) pl)(hF:∀z,(F z).prog=P/\(F z).w=w/\(F z).K=K0/\(F z).mg=mg/\(F z).base=base/\(F z).A=A:=by exact fun _=>⟨rfl,rfl,rfl,rfl,rfl,rfl⟩)(hk:k<=j:=by decide)(hg:∀z,Gl (F z) x:=by intro _;rfl)(hdb:(x == ("__debug__":Str))=false:=by decide)(hs:E5 e=true:=by rfl)(hpl:∀z,(backTo pos (D6 es (F z).env)).any (·.1)=false:=by intro _;rfl):QE T K F (.Call (.Name x p) (e::es) [] pos) (B9 f pl):=qe_fn (fun z=>by obtain⟨h1,h2,h3,h4,h5,_⟩:=hF z;rw [h1,h2,h3,h4,h5];exact hG) (fun z=>by rw [(hF z).2.2.2.2.2];exact hr) hk hg ha hdb hs hpl
theorem gn (i:Nat){N:List Str}(hN:N.Nodup)(hNF:∀z,(F z).N=N:=by exact fun _=>rfl)(hi:∀z,(F z).N[i]?=some x:=by intro _;rfl)(hx:∀z,Loc (F z).env.scope x:=by intro _;first | exact Or.inl rfl | exact Or.inr rfl)(hf:∀z,(F z).fn x=true\/(F z).env.scope.names.lookup x=some .local:=by intro _;first | exact .inl rfl | exact .inr rfl | assumption):QG K F (.Name x pos) (gN i):=NV fun z=>Bd i (hNF z▸hN) (hi z) (hx z) (hf z)
theorem sws (i:Nat){pos':Pos}{N:List Str}(hN:N.Nodup)(hNF:∀z,(F z).N=N:=by exact fun _=>rfl)(hi:∀z,(F z).N[i]?=some x:=by intro _;rfl)(hx:∀z,Loc (F z).env.scope x:=by intro _;first | exact Or.inl rfl | exact Or.inr rfl)(hs:∀z,Y7 e (some (.Name x pos')) pos.line (F z).env=pure false:=by intro _;rfl)(hf:∀z,(F z).fn x=true\/(F z).env.scope.names.lookup x=some .local:=by intro _;first | exact .inl rfl | exact .inr rfl | assumption)(z:ι)(te:TE)(h:EW (F z) e te):SW (F z) (.Assign [.Name x pos'] e pos) (tAsg te (K6 i)):=Ju (hNF z▸hN) (hi z) (hx z) (hs z) (hf z) te h
end
section
variable {P:C5}{w:World}{K:A4}{mg:Str->Option Value}{base:Heap}{T:PotK}{x:Str}{st:Stmt}{N ps:List Str}{k:Nat}{body:pS}
theorem fnk (F0:Fn0 K mg x st)(h:Q7 N ps (E4 st)->∀(f:Addr) (cdv:Value) (A:Around) (outer:List PySem.Env) (s:Shared) (H:Hp) (E:XK),Room k (A.deeper (DE x (E4 st) s.heap.objs.size f cdv))->
     QSs T false K (fun _:Unit=>(cxOf CX0 P w K mg base N x (E4 st) f cdv A outer s H E).nox) (M4 st) body) (sc:Q7 N ps (E4 st):=by exact⟨rfl,rfl,rfl,by decide +kernel,rfl,by decide +kernel,by decide +kernel⟩)
   (bd:∀(kV doc pm:Value) (an:Option Addr) (cdv ct:Value) (us:List Value),us.length=ps.length->W4 (U5 x x (Q8 st) (M4 st) (E4 st) .none kV doc pm an cdv ct) ⟨us,[]⟩=pure (ps.zip us):=by intro _ _ _ _ _ _;first | exact bd1 fun _=>rfl | exact bd2 fun _ _=>rfl | exact bd3 fun _ _ _=>rfl | exact bd4 fun _ _ _ _=>rfl | exact bd5 fun _ _ _ _ _=>rfl) :
   Kn P w K mg base x (k + 1) ps (D8 K T (fnP N ps body)):=fn_ok F0 sc bd (h sc)
end
end Pu
end
section
namespace Tb
open PySem L2 Pu
section
variable (P:C5)(w:World)(K:A4)(mg:Str->Option Value)(base:Heap)(Pt:Addr)
abbrev SK:Prop:=Kn P w K mg base "_law_begin" 1 ["_law_script"] (EN K)
abbrev Fs:Prop:=Kn P w K mg base "_law_next" 1 ["_law_draws","_law_many"] (D8 K (tabK potD Pt lamP lamQ) Bw)
abbrev Mh:Prop:=Kn P w K mg base "_law_names" 2 ["_law_draws","_law_many"] (D8 K (tabK potD Pt lamP lamQ) HA)
abbrev Mi:Prop:=Kn P w K mg base "_law_meet" 3 ["_law_draws","_law_most"] (D8 K (tabK potD Pt lamP lamQ) HB)
abbrev Il:Prop:=Kn P w K mg base "_law_span" 1 ["_law_meeting","_law_n","_law_k"] (D8 K (tabK potD Pt lamP lamQ) E_)
abbrev Mj:Prop:=Kn P w K mg base "_law_sheet" 1 ["_law_start","_law_marks"] (D8 K (tabK potD Pt lamP lamQ) HC)
abbrev Im:Prop:=Kn P w K mg base "_law_races" 1 ["_law_meeting","_law_n"] (D8 K (tabK potD Pt lamP lamQ) Fa)
abbrev Ml:Prop:=Kn P w K mg base "_law_word" 2 ["_law_draws","_law_many","_law_reach"] (D8 K (tabK potD Pt lamP lamQ) HD)
abbrev Mm:Prop:=Kn P w K mg base "_law_after" 1 ["_law_start","_law_sheet_here"] (D8 K (tabK potD Pt lamP lamQ) HE)
abbrev Mn:Prop:=Kn P w K mg base "_law_day" 3 ["_law_draws","_law_meeting","_law_row"] (D8 K (tabK potD Pt lamP lamQ) HF)
abbrev Io:Prop:=Kn P w K mg base "span" 1 ["meeting","n","k"] (D8 K (tabK potD Pt lamP lamQ) Fb)
abbrev Mo:Prop:=Kn P w K mg base "put_on" 2 ["meeting","row","k","boats"] (D8 K (tabK potD Pt lamP lamQ) HG)
abbrev Dd:Prop:=Kn P w K mg base "touches_of" 1 ["events"] (D8 K (tabK potD Pt lamP lamQ) u7)
abbrev Mp:Prop:=Kn P w K mg base "exchanged" 1 ["row","one","other"] (D8 K (tabK potD Pt lamP lamQ) HH)
abbrev Mq:Prop:=Kn P w K mg base "row_behind" 2 ["start","sheet"] (D8 K (tabK potD Pt lamP lamQ) HI)
abbrev Ft:Prop:=Kn P w K mg base "start_on" 2 ["meeting","row","k"] (D8 K (tabK potD Pt lamP lamQ) Dc)
abbrev Ip:Prop:=Kn P w K mg base "raced" 3 ["meeting","row","k","sheet"] (D8 K (tabK potD Pt lamP lamQ) Fc)
abbrev Mr:Prop:=Kn P w K mg base "starts_of" 4 ["meeting","row","day"] (D8 K (tabK potD Pt lamP lamQ) Fd)
abbrev Ms:Prop:=Kn P w K mg base "others_of" 2 ["sheet"] (D8 K (tabK potD Pt lamP lamQ) HJ)
abbrev Mt:Prop:=Kn P w K mg base "marks_of" 1 ["start","sheet"] (D8 K (tabK potD Pt lamP lamQ) HK)
abbrev Mu:Prop:=Kn P w K mg base "deeds_of" 5 ["meeting","row","day"] (D8 K (tabK potD Pt lamP lamQ) HL)
abbrev Mv:Prop:=Kn P w K mg base "races_of" 1 ["meeting","n"] (D8 K (tabK potD Pt lamP lamQ) Fe)
abbrev Fu:Prop:=Kn P w K mg base "boats_of" 1 ["events"] (D8 K (tabK potD Pt lamP lamQ) BA)
abbrev Mw:Prop:=Kn P w K mg base "boat_reason" 2 ["start","sheet"] (D8 K (tabK potD Pt lamP lamQ) Ff)
abbrev Mx:Prop:=Kn P w K mg base "is_wrong" 1 ["start","touch"] (D8 K (tabK potD Pt lamP lamQ) HM)
abbrev De:Prop:=Kn P w K mg base "between" 1 ["start","touch"] (D8 K (tabK potD Pt lamP lamQ) c8)
abbrev My:Prop:=Kn P w K mg base "is_far" 2 ["start","reach","touch"] (D8 K (tabK potD Pt lamP lamQ) HN)
abbrev Mz:Prop:=Kn P w K mg base "touch_reason" 3 ["start","reach","sheet","touch"] (D8 K (tabK potD Pt lamP lamQ) Fg)
abbrev MA:Prop:=Kn P w K mg base "is_cross" 2 ["start","one","other"] (D8 K (tabK potD Pt lamP lamQ) Fh)
abbrev MB:Prop:=Kn P w K mg base "cross_reason" 3 ["start","touch","touches"] (D8 K (tabK potD Pt lamP lamQ) Fi)
abbrev MC:Prop:=Kn P w K mg base "reason_of" 4 ["start","reach","sheet"] (D8 K (tabK potD Pt lamP lamQ) Fj)
abbrev MD:Prop:=Kn P w K mg base "order_of" 5 ["start","reach","sheet"] (D8 K (tabK potD Pt lamP lamQ) HQ)
abbrev ME:Prop:=Kn P w K mg base "day_behind" 6 ["meeting","row","day"] (D8 K (tabK potD Pt lamP lamQ) HR)
abbrev MF:Prop:=Kn P w K mg base "_law_marks_right" 1 ["_law_start","_law_marks","_law_reach"] (D8 K (tabK potD Pt lamP lamQ) HS)
abbrev MG:Prop:=Kn P w K mg base "_law_race" 2 ["_law_meeting","_law_row","_law_kept","_law_k"] (D8 K (tabK potD Pt lamP lamQ) HU)
end
section
variable {P:C5}{w:World}{K:A4}{mg:Str->Option Value}{base:Heap}{Pt cd:Addr}
theorem SL (F0:Fn0 K mg "_law_names" (top 31))(g1:Fs P w K mg base Pt)(m8:mg "range"=none)(m13:mg "tuple"=none):Mh P w K mg base Pt:=fnk F0 fun sc _ _ _ _ _ _ _ hr=>(A8 (Og 2 3 (fun _=>O5) (fun _=>gw_two K 2 3 rfl (Bd 2 sc.nd rfl (Or.inl rfl)) (Bd 3 sc.nd rfl (Or.inl rfl))) (ql_v C6) (ql_v C6))
   (A8 (E6 4 (sws 4 sc.nd) (C9 (QN.ee (M5 (A2 A9 (A2 A9 (A2 A9 (A2 A9 (A2 A9 (A2 A9 (A2 A9 (A2 A9 (A2 A9 (A2 A9 A6)))))))))))) (qf g1 hr (A2 (qv 0) (A2 A9 A6)))))
   (A8 (E6 5 (sws 5 sc.nd) (qf g1 hr (A2 (qv 0) (A2 A9 A6))))
   (A8 (N4 (fun _=>rfl) (Ek (fun _=>rfl) (fun _=>m8) A9) (gn 6 sc.nd) (B0 (E6 3 (sws 3 sc.nd) (G8 (qv 3) (C9 (qv 2) (qf g1 hr (A2 (qv 0) (A2 A9 A6))))))))
   (A8 (E6 7 (sws 7 sc.nd) (qf g1 hr (A2 (qv 0) (A2 A9 A6))))
   (A8 (Ep 8 (sws 8 sc.nd) (M5 A6))
   (A8 (N4 (fun _=>rfl) (Ek (fun _=>rfl) (fun _=>m8) (qv 1)) (gn 6 sc.nd) (A8 (Et 9 10 (fun _=>Es (i:=9) (j:=10) rfl sc.nd rfl rfl (by decide) rfl rfl rfl) (ql_v (G8 (qv 7) (qf g1 hr (A2 (qv 0) (A2 (b7 A9 (qv 7)) A6))))) (ql_v (C9 (qv 2) (qe_mod (G8 (qv 5) (Gn (qv 4) (qv 6))) A9))))
   (B0 (Y2 (fun _=>V5) (j9 8 (fun _=>vw 8) (G8 (G8 (P6 (qv 3) j6 (M6 (qv 7))) (qv 10)) (P6 (qv 3) (M6 (qv 7)) (M6 (qv 9)))))))))
   (A8 (E6 11 (sws 11 sc.nd) (C9 (QN.ee (M5 (A2 C6 (A2 C6 (A2 C6 (A2 C6 (A2 C6 (A2 C6 (A2 C6 A6))))))))) (qf g1 hr (A2 (qv 0) (A2 A9 A6)))))
   (A8 (F8 (QW.qt (Eh (E2 (Cq 4 fun _=>hr) (qv 11) (V1 8 fun _=>vw 8) rfl) (Eg (E2 (cEq 4 fun _=>hr) (qf g1 hr (A2 (qv 0) (A2 A9 A6))) (QE.r A9) (D4 _))))) (B0 (CA 8 (fun _=>O5) (qv 11) (fun _=>Ab (vw 8)) (qf g1 hr (A2 (qv 0) (A2 (qv 1) A6))))) J7)
   (B0 (D0 (V3 (fun _=>rfl) (fun _=>m13) (V1 8 fun _=>vw 8)))))))))))))
theorem SM (F0:Fn0 K mg "_law_meet" (top 38))(g1:Fs P w K mg base Pt)(g2:Mh P w K mg base Pt)(m7:mg "min"=none):Mi P w K mg base Pt:=fnk F0 fun sc _ _ _ _ _ _ _ hr=>(A8 (E6 2 (sws 2 sc.nd) (K3 (A2 (G8 A9 (qf g1 hr (A2 (qv 0) (A2 A9 A6)))) (A2 (C9 (QN.ee (M5 (A2 A9 (A2 A9 (A2 A9 (A2 (qf g1 hr (A2 (qv 0) (A2 A9 A6))) A6)))))) (qf g1 hr (A2 (qv 0) (A2 A9 A6)))) A6))))
   (A8 (E6 3 (sws 3 sc.nd) (C9 (QN.ee (M5 (A2 (G8 A9 (qf g1 hr (A2 (qv 0) (A2 (qv 1) A6)))) (A2 (G8 A9 (qf g1 hr (A2 (qv 0) (A2 (Gv (fun _=>rfl) (fun _=>rfl) (fun _=>m7) (qv 1) A9) A6)))) A6)))) (qf g1 hr (A2 (qv 0) (A2 A9 A6)))))
   (B0 (D0 (K3 (A2 (qv 2) (A2 (qf g2 hr (A2 (qv 0) (A2 (qv 3) A6))) A6)))))))
theorem SN (F0:Fn0 K mg "_law_span" (top 32)):Il P w K mg base Pt:=fnk F0 fun sc _ _ _ _ _ _ _ hr=>(A8 (E6 3 (sws 3 sc.nd) (C9 (qv 0) A9))
   (A8 (E6 4 (sws 4 sc.nd) (Gn (qv 2) (qv 3)))
   (B0 (D0 (K3 (A2 (qv 4) (A2 (Gs (E2 cLt (G8 (qv 4) (qv 3)) (QE.r (qv 1)) (D4 _)) (G8 (qv 4) (qv 3)) (b7 (qv 1) A9)) A6)))))))
theorem SO (F0:Fn0 K mg "_law_sheet" (top 35))(m12:mg "sorted"=none)(m13:mg "tuple"=none)(m14:mg "zip"=none):Mj P w K mg base Pt:=fnk F0 fun sc _ _ _ _ _ _ _ hr=>(A8 (Et 2 3 (fun _=>Es (i:=2) (j:=3) rfl sc.nd rfl rfl (by decide) rfl rfl rfl) (ql_o (M5 A6)) (ql_o (M5 A6)))
   (A8 (N4 (fun _=>rfl) (Kd false true (fun _=>rfl) (fun _=>m14) (qv 0) (qv 1)) (R0 (fun _=>rfl) (G0 (gn 4 sc.nd) (G0 (gn 5 sc.nd) P8))) (B0 (F8 (E2 (cEq 4 fun _=>hr) (qv 5) (QE.r C6) (D4 _)) (B0 (Y2 (fun _=>V5) (j9 2 (fun _=>vw 2) (qv 4)))) (B0 (F8 (E2 (cEq 4 fun _=>hr) (qv 5) (QE.r C6) (D4 _)) (B0 (Y2 (fun _=>V5) (j9 3 (fun _=>vw 3) (K3 (A2 C6 (A2 (qv 4) (A2 (Gz 2 fun _=>vw 2) A6))))))) (B0 (F8 (E2 (cEq 4 fun _=>hr) (qv 5) (QE.r C6) (D4 _)) (B0 (Y2 (fun _=>V5) (j9 3 (fun _=>vw 3) (K3 (A2 C6 (A2 (qv 4) A6)))))) J7)))))))
   (B0 (D0 (V3 (fun _=>rfl) (fun _=>m13) (QE.r (QN.ee (Kw (fun _=>rfl) (fun _=>m12) (V1 3 fun _=>vw 3)))))))))
theorem SQ (F0:Fn0 K mg "_law_races" (top 33)):Im P w K mg base Pt:=fnk F0 fun sc _ _ _ _ _ _ _ hr=>(B0 (D0 (Je (b7 (G8 (qv 1) (C9 (qv 0) A9)) A9) (C9 (qv 0) A9))))
theorem SS (F0:Fn0 K mg "_law_word" (top 34))(g1:Fs P w K mg base Pt)(m8:mg "range"=none):Ml P w K mg base Pt:=fnk F0 fun sc _ _ _ _ _ _ _ hr=>(A8 (Et 3 4 (fun _=>Es (i:=3) (j:=4) rfl sc.nd rfl rfl (by decide) rfl rfl rfl) (ql_o (M5 A6)) (ql_o (M5 A6)))
   (A8 (N4 (fun _=>rfl) (Ek (fun _=>rfl) (fun _=>m8) (qv 1)) (gn 5 sc.nd) (A8 (Ob (QW.qt (Eh (Gr (cNe 4 fun _=>hr) (V1 4 fun _=>vw 4) (QE.r (QN.ee (M5 A6))) (D4 _)) (Eg (E2 cGt (b7 (b7 (qv 5) (qe_ixR (V1 4 fun _=>vw 4) (JA A9))) A9) (QE.r (qv 2)) (D4 _))))) (B0 (CA 3 (fun _=>O5) C6 (fun _=>Ab (vw 3)) (Gz 4 fun _=>vw 4))))
   (A8 (E6 6 (sws 6 sc.nd) (qf g1 hr (A2 (qv 0) (A2 A9 A6))))
   (B0 (F8 (QW.qt (Eh (Gr (cNe 4 fun _=>hr) (V1 4 fun _=>vw 4) (QE.r (QN.ee (M5 A6))) (D4 _)) (Eg (E2 cLt (qv 6) (QE.r A9) (D4 _))))) (A8 (CA 3 (fun _=>O5) C6 (fun _=>Ab (vw 3)) (Gz 4 fun _=>vw 4))
   (B0 (Y2 (fun _=>V5) (j9 3 (fun _=>vw 3) C6)))) (B0 (F8 (QW.qt (z0 (E2 (cEq 4 fun _=>hr) (qv 6) (QE.r A9) (D4 _)) (y9 (E2 (cEq 4 fun _=>hr) (qv 6) (QE.r A9) (D4 _))))) (A8 (Y2 (fun _=>V5) (j9 4 (fun _=>vw 4) (qv 5)))
   (B0 (Y2 (fun _=>V5) (j9 3 (fun _=>vw 3) C6)))) (B0 (Y2 (fun _=>V5) (j9 3 (fun _=>vw 3) (Gs (Gr (cNe 4 fun _=>hr) (V1 4 fun _=>vw 4) (QE.r (QN.ee (M5 A6))) (D4 _)) C6 (C9 (QN.ee (M5 (A2 C6 (A2 C6 (A2 C6 A6))))) (qf g1 hr (A2 (qv 0) (A2 A9 A6)))))))))))))))
   (B0 (Oa 3 fun _=>vw 3))))
theorem SU (F0:Fn0 K mg "_law_after" (top 36))(m5:mg "list"=none)(m13:mg "tuple"=none):Mm P w K mg base Pt:=fnk F0 fun sc _ _ _ _ _ _ _ hr=>(A8 (Ep 2 (sws 2 sc.nd) (Gu (fun _=>rfl) (fun _=>m5) (QE.r (qv 0))))
   (A8 (N4 (fun _=>rfl) (O4 (qv 1)) (gn 3 sc.nd) (B0 (F8 (E2 (cEq 4 fun _=>hr) (C9 (qv 3) A9) (QE.r C6) (D4 _)) (A8 (CA 2 (fun _=>O5) (C9 (qv 3) A9) (fun _=>Ab (vw 2)) (k6 (qv 0) (C9 (qv 3) A9)))
   (B0 (CA 2 (fun _=>O5) (C9 (qv 3) A9) (fun _=>Ab (vw 2)) (k6 (qv 0) (C9 (qv 3) A9))))) J7)))
   (B0 (D0 (V3 (fun _=>rfl) (fun _=>m13) (V1 2 fun _=>vw 2))))))
theorem SV (F0:Fn0 K mg "_law_day" (top 37))(g6:Im P w K mg base Pt)(g4:Il P w K mg base Pt)(g7:Ml P w K mg base Pt)(g5:Mj P w K mg base Pt)(g8:Mm P w K mg base Pt)(m4:mg "len"=none)(m8:mg "range"=none)(m10:mg "reversed"=none)(m13:mg "tuple"=none):Mn P w K mg base Pt:=fnk F0 fun sc _ _ _ _ _ _ _ hr=>(A8 (Et 3 4 (fun _=>Es (i:=3) (j:=4) rfl sc.nd rfl rfl (by decide) rfl rfl rfl) (ql_o (M5 A6)) (ql_o (M5 A6)))
   (A8 (N4 (fun _=>rfl) (CL (fun _=>rfl) (fun _=>m10) (fun _=>rfl) (fun _=>m8) (qf g6 hr (A2 (qv 1) (A2 (Q9 (fun _=>rfl) (fun _=>m4) (QE.r (qv 2))) A6)))) (gn 5 sc.nd) (A8 (c0 (fun _=>O5) (qf g4 hr (A2 (qv 1) (A2 (Q9 (fun _=>rfl) (fun _=>m4) (QE.r (qv 2))) (A2 (qv 5) A6)))) (R0 (fun _=>rfl) (G0 (gn 6 sc.nd) (G0 (gn 7 sc.nd) P8))))
   (A8 (E6 8 (sws 8 sc.nd) (P6 (qv 2) (M6 (qv 6)) (M6 (G8 (qv 7) A9))))
   (A8 (E6 9 (sws 9 sc.nd) (qf g5 hr (A2 (qv 8) (A2 (qf g7 hr (A2 (qv 0) (A2 (Q9 (fun _=>rfl) (fun _=>m4) (QE.r (qv 8))) (A2 (C9 (qv 1) A9) A6)))) A6))))
   (A8 (E6 2 (sws 2 sc.nd) (G8 (G8 (P6 (qv 2) j6 (M6 (qv 6))) (qf g8 hr (A2 (qv 8) (A2 (qv 9) A6)))) (P6 (qv 2) (M6 (G8 (qv 7) A9)) j6)))
   (A8 (Y2 (fun _=>V5) (KG 3 (fun _=>vw 3) A9 (qv 9)))
   (B0 (Y2 (fun _=>V5) (KG 4 (fun _=>vw 4) A9 (qv 8))))))))))
   (B0 (D0 (K3 (A2 (V3 (fun _=>rfl) (fun _=>m13) (V1 3 fun _=>vw 3)) (A2 (V3 (fun _=>rfl) (fun _=>m13) (V1 4 fun _=>vw 4)) (A2 (qv 2) A6))))))))
theorem k_span (F0:Fn0 K mg "span" (top 2))(m7:mg "min"=none):Io P w K mg base Pt:=fnk F0 fun sc _ _ _ _ _ _ _ hr=>(A8 (E6 3 (sws 3 sc.nd) (C9 (qv 0) A9))
   (A8 (E6 4 (sws 4 sc.nd) (Gn (qv 2) (qv 3)))
   (B0 (D0 (K3 (A2 (qv 4) (A2 (Gv (fun _=>rfl) (fun _=>rfl) (fun _=>m7) (G8 (qv 4) (qv 3)) (b7 (qv 1) A9)) A6)))))))
theorem SX (F0:Fn0 K mg "put_on" (top 19))(g10:Io P w K mg base Pt)(m4:mg "len"=none):Mo P w K mg base Pt:=fnk F0 fun sc _ _ _ _ _ _ _ hr=>(A8 (c0 (fun _=>O5) (qf g10 hr (A2 (qv 0) (A2 (Q9 (fun _=>rfl) (fun _=>m4) (QE.r (qv 1))) (A2 (qv 2) A6)))) (R0 (fun _=>rfl) (G0 (gn 4 sc.nd) (G0 (gn 5 sc.nd) P8))))
   (B0 (D0 (G8 (G8 (P6 (qv 1) j6 (M6 (qv 4))) (qv 3)) (P6 (qv 1) (M6 (G8 (qv 5) A9)) j6)))))
theorem SY (F0:Fn0 K mg "touches_of" (top 6)):Dd P w K mg base Pt:=fnk F0 fun sc _ _ _ _ _ _ _ hr=>(B0 (D0 (QN.ee (Bf (N:=["event"]) (cs:=[none]) (fun _=>X9 rfl rfl rfl rfl trivial rfl rfl rfl) (fun _=>rfl) (O4 (qv 0)) (gn 0 (show T0 (["event"]:List Str) by decide +kernel)) (Gw (E2 (cEq 4 fun _=>hr) (C9 (qv 0) A9) (QE.r C6) (D4 _))) (qv 0)))))
theorem SZ (F0:Fn0 K mg "exchanged" (top 3))(m5:mg "list"=none)(m13:mg "tuple"=none):Mp P w K mg base Pt:=fnk F0 fun sc _ _ _ _ _ _ _ hr=>(A8 (Ep 3 (sws 3 sc.nd) (Gu (fun _=>rfl) (fun _=>m5) (QE.r (qv 0))))
   (A8 (Rk 3 (fun _=>O5) (fun _ _ _ h1 h2=>Rj K rfl (Ab (vw 3) (by intro _;rfl) _ h1) (Ab (vw 3) (by intro _;rfl) _ h2)) (C9 (qv 0) (qv 2)) (C9 (qv 0) (qv 1)) (qv 1) (qv 2))
   (B0 (D0 (V3 (fun _=>rfl) (fun _=>m13) (V1 3 fun _=>vw 3))))))
theorem S_ (F0:Fn0 K mg "row_behind" (top 11))(g12:Dd P w K mg base Pt)(g13:Mp P w K mg base Pt):Mq P w K mg base Pt:=fnk F0 fun sc _ _ _ _ _ _ _ hr=>(A8 (E6 2 (sws 2 sc.nd) (qv 0))
   (A8 (N4 (fun _=>rfl) (Cw (qf g12 hr (A2 (qv 1) A6))) (gn 3 sc.nd) (B0 (E6 2 (sws 2 sc.nd) (qf g13 hr (A2 (qv 2) (A2 (k6 (qv 0) (C9 (qv 3) A9)) (A2 (k6 (qv 0) (C9 (qv 3) A9)) A6)))))))
   (B0 (D0 (qv 2)))))
theorem Ta (F0:Fn0 K mg "start_on" (top 18))(g10:Io P w K mg base Pt)(m4:mg "len"=none):Ft P w K mg base Pt:=fnk F0 fun sc _ _ _ _ _ _ _ hr=>(A8 (c0 (fun _=>O5) (qf g10 hr (A2 (qv 0) (A2 (Q9 (fun _=>rfl) (fun _=>m4) (QE.r (qv 1))) (A2 (qv 2) A6)))) (R0 (fun _=>rfl) (G0 (gn 3 sc.nd) (G0 (gn 4 sc.nd) P8))))
   (B0 (D0 (P6 (qv 1) (M6 (qv 3)) (M6 (G8 (qv 4) A9))))))
theorem Tc (F0:Fn0 K mg "raced" (top 20))(g15:Ft P w K mg base Pt)(g14:Mq P w K mg base Pt)(g11:Mo P w K mg base Pt):Ip P w K mg base Pt:=fnk F0 fun sc _ _ _ _ _ _ _ hr=>(B0 (D0 (qf g11 hr (A2 (qv 0) (A2 (qv 1) (A2 (qv 2) (A2 (qf g14 hr (A2 (qf g15 hr (A2 (qv 0) (A2 (qv 1) (A2 (qv 2) A6)))) (A2 (qv 3) A6))) A6)))))))
theorem Td (F0:Fn0 K mg "starts_of" (top 22))(g15:Ft P w K mg base Pt)(g16:Ip P w K mg base Pt)(m4:mg "len"=none)(m8:mg "range"=none)(m10:mg "reversed"=none)(m13:mg "tuple"=none):Mr P w K mg base Pt:=fnk F0 fun sc _ _ _ _ _ _ _ hr=>(A8 (Ep 3 (sws 3 sc.nd) (M5 A6))
   (A8 (E6 4 (sws 4 sc.nd) (qv 1))
   (A8 (N4 (fun _=>rfl) (CL (fun _=>rfl) (fun _=>m10) (fun _=>rfl) (fun _=>m8) (Q9 (fun _=>rfl) (fun _=>m4) (QE.r (qv 2)))) (gn 5 sc.nd) (A8 (Y2 (fun _=>V5) (j9 3 (fun _=>vw 3) (qf g15 hr (A2 (qv 0) (A2 (qv 4) (A2 (qv 5) A6))))))
   (B0 (E6 4 (sws 4 sc.nd) (qf g16 hr (A2 (qv 0) (A2 (qv 4) (A2 (qv 5) (A2 (C9 (qv 2) (qv 5)) A6)))))))))
   (B0 (D0 (V3 (fun _=>rfl) (fun _=>m13) (QE.r (qe_rev (V1 3 fun _=>vw 3)))))))))
theorem Te (F0:Fn0 K mg "others_of" (top 26))(g12:Dd P w K mg base Pt):Ms P w K mg base Pt:=fnk F0 fun sc _ _ _ _ _ _ _ hr=>(A8 (He 1 (sws 1 sc.nd))
   (A8 (N4 (fun _=>rfl) (Cw (qf g12 hr (A2 (qv 0) A6))) (gn 2 sc.nd) (A8 (Bt 1 (fun _=>Bq (X7 hr) (vw 1)) (C9 (qv 2) A9) (C9 (qv 2) A9))
   (B0 (Bt 1 (fun _=>Bq (X7 hr) (vw 1)) (C9 (qv 2) A9) (C9 (qv 2) A9)))))
   (B0 (Qb 1 fun _=>vw 1))))
theorem Tf (F0:Fn0 K mg "marks_of" (top 24))(m13:mg "tuple"=none):Mt P w K mg base Pt:=fnk F0 fun sc _ _ _ _ _ _ _ hr=>(A8 (He 2 (sws 2 sc.nd))
   (A8 (N4 (fun _=>rfl) (O4 (qv 1)) (gn 3 sc.nd) (B0 (F8 (E2 (cEq 4 fun _=>hr) (C9 (qv 3) A9) (QE.r C6) (D4 _)) (B0 (Bt 2 (fun _=>Bq (X7 hr) (vw 2)) C6 (C9 (qv 3) A9))) (A8 (Bt 2 (fun _=>Bq (X7 hr) (vw 2)) C6 (C9 (qv 3) A9))
   (B0 (Bt 2 (fun _=>Bq (X7 hr) (vw 2)) C6 (C9 (qv 3) A9)))))))
   (B0 (Kx 2 (D0 (V3 (fun _=>rfl) (fun _=>m13) (QE.r (QN.ee (Bf (N:=["boat","marks"]) (cs:=[none,some 2]) (fun _=>X9 rfl rfl rfl rfl ⟨rfl,trivial⟩ rfl rfl rfl) (fun _=>rfl) (O4 (qv 0)) (gn 0 (show T0 (["boat","marks"]:List Str) by decide +kernel)) Aa (Qe (fun _=>hr) (qv 1) (qv 0) C6))))))))))
theorem Tg (F0:Fn0 K mg "deeds_of" (top 27))(g17:Mr P w K mg base Pt)(g18:Ms P w K mg base Pt)(g19:Mt P w K mg base Pt)(m4:mg "len"=none)(m8:mg "range"=none)(m10:mg "reversed"=none)(m13:mg "tuple"=none)(m14:mg "zip"=none):Mu P w K mg base Pt:=fnk F0 fun sc _ _ _ _ _ _ _ hr=>(A8 (E6 3 (sws 3 sc.nd) (qf g17 hr (A2 (qv 0) (A2 (qv 1) (A2 (qv 2) A6)))))
   (RO 4 (N:=["boat"]) (cs:=[none]) (fun _=>X9 rfl rfl rfl rfl trivial rfl rfl rfl) (fun _=>rfl) (O4 (qv 1)) (gn 0 (show T0 (["boat"]:List Str) by decide +kernel)) (qv 0) (M5 A6) (fun _=>Ju (i:=4) sc.nd rfl (Or.inr rfl)) (K_ (fun _=>rfl) (CL (fun _=>rfl) (fun _=>m10) (fun _=>rfl) (fun _=>m8) (Q9 (fun _=>rfl) (fun _=>m4) (QE.r (qv 2)))) (Hw fun _=>Bd 5 sc.nd rfl (Or.inl rfl)) (RL (qd_set 6 (sws 6 sc.nd) (qf g18 hr (A2 (C9 (qv 2) (qv 5)) A6))) (KZ (K_ (fun _=>rfl) (Kd false false (fun _=>rfl) (fun _=>m14) (C9 (qv 3) (qv 5)) (qf g19 hr (A2 (C9 (qv 3) (qv 5)) (A2 (C9 (qv 2) (qv 5)) A6)))) (RK (fun _=>rfl) (KY (Hw fun _=>Bd 7 sc.nd rfl (Or.inl rfl)) (KY (Hw fun _=>Bd 8 sc.nd rfl (Or.inl rfl)) RJ))) (KZ (qd_app (fun _=>hr) (fun _=>V5) (fun _=>vw 4) (qv 7) (K3 (A2 (qv 5) (A2 (qv 8) (A2 (RH (fun _=>hr) (qv 6) (qv 7)) A6)))))))))) (B0 (D0 (V3 (fun _=>rfl) (fun _=>m13) (QE.r (QN.ee (Bf (N:=["boat","deeds"]) (cs:=[none,some 4]) (fun _=>X9 rfl rfl rfl rfl ⟨rfl,trivial⟩ rfl rfl rfl) (fun _=>rfl) (O4 (qv 1)) (gn 0 (show T0 (["boat","deeds"]:List Str) by decide +kernel)) Aa (K3 (A2 (qv 0) (A2 (V3 (fun _=>rfl) (fun _=>m13) (QE.r (Bz (fun _=>hr) (qv 1) (qv 0)))) A6)))))))))))
theorem Th (F0:Fn0 K mg "races_of" (top 1)):Mv P w K mg base Pt:=fnk F0 fun sc _ _ _ _ _ _ _ hr=>(A8 (E6 2 (sws 2 sc.nd) (C9 (qv 0) A9))
   (B0 (D0 (Je (b7 (G8 (qv 1) (qv 2)) A9) (qv 2)))))
theorem Ti (F0:Fn0 K mg "boats_of" (top 5)):Fu P w K mg base Pt:=fnk F0 fun sc _ _ _ _ _ _ _ hr=>(B0 (D0 (QN.ee (Qp (N:=["event","boat"]) (cs:=[none,none]) (fun _=>X9 rfl rfl rfl rfl trivial rfl rfl rfl) (fun _=>rfl) (O4 (qv 0)) (gn 0 (show T0 (["event","boat"]:List Str) by decide +kernel)) (O4 (P6 (qv 0) (M6 A9) j6)) (gn 1 (show T0 (["event","boat"]:List Str) by decide +kernel)) Aa (qv 1)))))
theorem Tj (F0:Fn0 K mg "boat_reason" (top 12))(g22:Fu P w K mg base Pt):Mw P w K mg base Pt:=fnk F0 fun sc _ _ _ _ _ _ _ hr=>(A8 (E6 2 (sws 2 sc.nd) (qf g22 hr (A2 (qv 1) A6)))
   (A8 (N4 (fun _=>rfl) (Cw (qv 2)) (gn 3 sc.nd) (A8 (F8 (E2 (Cq 4 fun _=>hr) (qv 3) (QE.r (qv 0)) rfl) (B0 (D0 (K3 (A2 C6 (A2 (qv 3) A6))))) J7)
   (B0 (F8 (E2 cGt (OC (qv 2) (qv 3)) (QE.r A9) (D4 _)) (B0 (D0 (K3 (A2 C6 (A2 (qv 3) A6))))) J7))))
   (B0 (D0 T5))))
theorem Tl (F0:Fn0 K mg "is_wrong" (top 8)):Mx P w K mg base Pt:=fnk F0 fun sc _ _ _ _ _ _ _ hr=>(B0 (D0 (b8 cGt (k6 (qv 0) (C9 (qv 1) A9)) (QE.r (k6 (qv 0) (C9 (qv 1) A9))) (D4 _))))
theorem Tm (F0:Fn0 K mg "between" (top 7))(m12:mg "sorted"=none):De P w K mg base Pt:=fnk F0 fun sc _ _ _ _ _ _ _ hr=>(A8 (c0 (fun _=>O5) (QN.ee (Kw (fun _=>rfl) (fun _=>m12) (QE.r (QN.ee (M5 (A2 (k6 (qv 0) (C9 (qv 1) A9)) (A2 (k6 (qv 0) (C9 (qv 1) A9)) A6))))))) (qg_lst (fun _=>rfl) (G0 (gn 2 sc.nd) (G0 (gn 3 sc.nd) P8))))
   (B0 (D0 (P6 (qv 0) (M6 (G8 (qv 2) A9)) (M6 (qv 3))))))
theorem Tn (F0:Fn0 K mg "is_far" (top 9))(g25:De P w K mg base Pt)(m4:mg "len"=none):My P w K mg base Pt:=fnk F0 fun sc _ _ _ _ _ _ _ hr=>(B0 (D0 (b8 cGt (Q9 (fun _=>rfl) (fun _=>m4) (QE.r (qf g25 hr (A2 (qv 0) (A2 (qv 2) A6))))) (QE.r (qv 1)) (D4 _))))
theorem To (F0:Fn0 K mg "touch_reason" (top 13))(g24:Mx P w K mg base Pt)(g26:My P w K mg base Pt)(g22:Fu P w K mg base Pt)(g25:De P w K mg base Pt):Mz P w K mg base Pt:=fnk F0 fun sc _ _ _ _ _ _ _ hr=>(A8 (F8 (Cs (qf g24 hr (A2 (qv 0) (A2 (qv 3) A6)))) (B0 (D0 (K3 (A2 C6 (A2 (qv 3) A6))))) J7)
   (A8 (F8 (Cs (qf g26 hr (A2 (qv 0) (A2 (qv 1) (A2 (qv 3) A6))))) (B0 (D0 (K3 (A2 C6 (A2 (qv 3) A6))))) J7)
   (A8 (E6 4 (sws 4 sc.nd) (qf g22 hr (A2 (qv 2) A6)))
   (A8 (N4 (fun _=>rfl) (O4 (qf g25 hr (A2 (qv 0) (A2 (qv 3) A6)))) (gn 5 sc.nd) (B0 (F8 (E2 (Cq 4 fun _=>hr) (qv 5) (QE.r (qv 4)) rfl) (B0 (D0 (K3 (A2 C6 (A2 (qv 3) (A2 (qv 5) A6)))))) J7)))
   (B0 (D0 T5))))))
theorem Tp (F0:Fn0 K mg "is_cross" (top 10))(g22:Fu P w K mg base Pt)(g25:De P w K mg base Pt)(m4:mg "len"=none)(m11:mg "set"=none):MA P w K mg base Pt:=fnk F0 fun sc _ _ _ _ _ _ _ hr=>(A8 (F8 (E2 (cNe 4 fun _=>hr) (RE (fun _=>rfl) (fun _=>rfl) (fun _=>m4) (fun _=>rfl) (fun _=>m11) (qf g22 hr (A2 (K3 (A2 (qv 1) (A2 (qv 2) A6))) A6))) (QE.r A9) (D4 _)) (B0 (D0 Y0)) J7)
   (A8 (E6 3 (sws 3 sc.nd) (qf g25 hr (A2 (qv 0) (A2 (qv 1) A6))))
   (B0 (D0 (b8 (cNe 4 fun _=>hr) (b8 (cIn 4 fun _=>hr) (C9 (qv 2) A9) (QE.r (qv 3)) rfl) (QE.r (b8 (cIn 4 fun _=>hr) (C9 (qv 2) A9) (QE.r (qv 3)) rfl)) (D4 _))))))
theorem Tq (F0:Fn0 K mg "cross_reason" (top 14))(g28:MA P w K mg base Pt):MB P w K mg base Pt:=fnk F0 fun sc _ _ _ _ _ _ _ hr=>(A8 (N4 (fun _=>rfl) (Cw (qv 2)) (gn 3 sc.nd) (B0 (F8 (Cs (qf g28 hr (A2 (qv 0) (A2 (qv 1) (A2 (qv 3) A6))))) (B0 (D0 (K3 (A2 C6 (A2 (qv 1) (A2 (qv 3) A6)))))) J7)))
   (B0 (D0 T5)))
theorem Tr (F0:Fn0 K mg "reason_of" (top 15))(g23:Mw P w K mg base Pt)(g12:Dd P w K mg base Pt)(g29:MB P w K mg base Pt)(g27:Mz P w K mg base Pt):MC P w K mg base Pt:=fnk F0 fun sc _ _ _ _ _ _ _ hr=>(A8 (E6 3 (sws 3 sc.nd) (qf g23 hr (A2 (qv 0) (A2 (qv 2) A6))))
   (A8 (F8 (E2 Cr (qv 3) (QE.r T5) (D4 _)) (B0 (D0 (qv 3))) J7)
   (A8 (E6 4 (sws 4 sc.nd) (qf g12 hr (A2 (qv 2) A6)))
   (A8 (N4 (fun _=>rfl) (Cw (qv 4)) (gn 5 sc.nd) (A8 (E6 3 (sws 3 sc.nd) (qe_orT (qf g27 hr (A2 (qv 0) (A2 (qv 1) (A2 (qv 2) (A2 (qv 5) A6))))) (qe_one (qf g29 hr (A2 (qv 0) (A2 (qv 5) (A2 (qv 4) A6)))))))
   (B0 (F8 (E2 Cr (qv 3) (QE.r T5) (D4 _)) (B0 (D0 (qv 3))) J7))))
   (B0 (D0 T5))))))
theorem Ts (F0:Fn0C K mg "order_of" (top 16) cd)(hC:PySem.W.CodeHd base cd Pt)(hB:base.BuiltinsAt mg Pt)(g30:MC P w K mg base Pt)(g12:Dd P w K mg base Pt)(g25:De P w K mg base Pt)(m4:mg "len"=none)(m12:mg "sorted"=none)(m13:mg "tuple"=none):MD P w K mg base Pt:=by
 have sc:Q7 ["start","reach","sheet","reason","drops","inner_first"] ["start","reach","sheet"] (E4 (top 16)):=⟨rfl,rfl,rfl,by decide +kernel,rfl,by decide +kernel,by decide +kernel⟩
 exact fn_okC F0 sc (fun _ _ _ _ _ _=>bd3 fun _ _ _=>rfl) (k:=4) (body:=HP) (fun f A outer s H E hr=>(A8 (E6 3 (sws 3 sc.nd) (qf g30 hr (A2 (qv 0) (A2 (qv 1) (A2 (qv 2) A6)))))
   (A8 (F8 (E2 Cr (qv 3) (QE.r T5) (D4 _)) (B0 (D0 (K3 (A2 C6 (A2 (qv 3) A6))))) J7)
   (A8 (GS 4 (GR (N:=["event"]) (cs:=[none]) (fun _=>X9 rfl rfl rfl rfl trivial rfl rfl rfl) (fun _=>rfl) (O4 (qv 2)) (gn 0 (show T0 (["event"]:List Str) by decide +kernel)) (Gw (E2 (cEq 4 fun _=>hr) (C9 (qv 0) A9) (QE.r C6) (D4 _))) (qv 0)) (fun _=>sc.nd) (fun _=>rfl) (fun _=>Or.inl rfl))
   (A8 (E6 5 (sws 5 sc.nd) (QN.ee (Rb (x:="touch") (y:="start") (iy:=0) (c:=fun _=>s.heap.objs.size + 1) (QE.r (qf g12 hr (A2 (qv 2) A6))) (Q9 (fun _=>rfl) (fun _=>m4) (QE.r (qe_fn (fun _=>g25) (fun _=>Rh hr) (by decide) (fun _=>rfl) (A2 (qv 1) (A2 (qv 0) A6))))) (Ri rfl rfl rfl rfl rfl rfl (by decide +kernel) (by decide +kernel)) (fun _=>hr) (fun _=>rfl) (fun _=>rfl) (fun _=>rfl) (fun _ _ _ _ _=>rfl) (fun _=>rfl) (fun _=>rfl) (fun _=>rfl) (fun _=>hC) (fun _=>hB) (fun _=>rfl) (fun _=>m12) (fun _=>rfl))))
   (B0 (D0 (K3 (A2 C6 (A2 (V3 (fun _=>rfl) (fun _=>m13) (QE.r (QN.ee (qn_cat (QE.r (qv 4)) (QE.r (qv 5)))))) A6))))))))))
theorem Tt (F0:Fn0 K mg "day_behind" (top 21))(g21:Mv P w K mg base Pt)(g15:Ft P w K mg base Pt)(g31:MD P w K mg base Pt)(g16:Ip P w K mg base Pt)(m4:mg "len"=none)(m8:mg "range"=none)(m10:mg "reversed"=none):ME P w K mg base Pt:=fnk F0 fun sc _ _ _ _ _ _ _ hr=>(A8 (E6 3 (sws 3 sc.nd) (qf g21 hr (A2 (qv 0) (A2 (Q9 (fun _=>rfl) (fun _=>m4) (QE.r (qv 1))) A6))))
   (A8 (F8 (E2 (cNe 4 fun _=>hr) (Q9 (fun _=>rfl) (fun _=>m4) (QE.r (qv 2))) (QE.r (qv 3)) (D4 _)) (B0 (D0 (K3 (A2 C6 (A2 T5 (A2 (K3 (A2 C6 (A2 (qv 3) A6))) A6)))))) J7)
   (A8 (E6 4 (sws 4 sc.nd) (qv 1))
   (A8 (N4 (fun _=>rfl) (CL (fun _=>rfl) (fun _=>m10) (fun _=>rfl) (fun _=>m8) (qv 3)) (gn 5 sc.nd) (A8 (c0 (fun _=>O5) (qf g31 hr (A2 (qf g15 hr (A2 (qv 0) (A2 (qv 4) (A2 (qv 5) A6)))) (A2 (C9 (qv 0) A9) (A2 (C9 (qv 2) (qv 5)) A6)))) (R0 (fun _=>rfl) (G0 (gn 6 sc.nd) (G0 (gn 7 sc.nd) P8))))
   (A8 (F8 (E2 (cEq 4 fun _=>hr) (qv 6) (QE.r C6) (D4 _)) (B0 (D0 (K3 (A2 C6 (A2 (qv 5) (A2 (qv 7) A6)))))) J7)
   (B0 (E6 4 (sws 4 sc.nd) (qf g16 hr (A2 (qv 0) (A2 (qv 4) (A2 (qv 5) (A2 (C9 (qv 2) (qv 5)) A6))))))))))
   (B0 (D0 (K3 (A2 C6 (A2 (qv 4) A6)))))))))
theorem Tu (F0:Fn0 K mg "_law_marks_right" (top 39))(m0:mg "abs"=none)(m1:mg "any"=none)(m2:mg "enumerate"=none)(m3:mg "int"=none)(m6:mg "max"=none)(m7:mg "min"=none):MF P w K mg base Pt:=fnk F0 fun sc _ _ _ _ _ _ _ hr=>(A8 (N4 (fun _=>rfl) (Ph (fun _=>rfl) (fun _=>m2) (qv 0)) (R0 (fun _=>rfl) (G0 (gn 3 sc.nd) (G0 (gn 4 sc.nd) P8))) (A8 (c0 (fun _=>O5) (Bz (fun _=>hr) (qv 1) (qv 4)) (R0 (fun _=>rfl) (G0 (gn 5 sc.nd) (G0 (gn 6 sc.nd) P8))))
   (A8 (F8 (QW.qt (z0 (QW.qt (Eh (E2 (cIn 4 fun _=>hr) (qv 5) (QE.r (K3 (A2 C6 (A2 C6 A6)))) rfl) (Eg (E2 Cr (qv 6) (QE.r T5) (D4 _))))) (y9 (E2 (Cq 4 fun _=>hr) (qv 5) (QE.r (K3 (A2 C6 (A2 C6 (A2 C6 (A2 C6 A6)))))) rfl)))) (B0 (D0 Y0)) J7)
   (B0 (F8 (QW.qt (z0 (E2 (cEq 4 fun _=>hr) (qv 5) (QE.r C6) (D4 _)) (y9 (E2 (cEq 4 fun _=>hr) (qv 5) (QE.r C6) (D4 _))))) (A8 (F8 (QW.qt (z0 (E2 (Cq 4 fun _=>hr) (qv 6) (QE.r (qv 0)) rfl) (y9 (E2 (cNe 4 fun _=>hr) (Bz (fun _=>hr) (qv 1) (qv 6)) (QE.r (K3 (A2 (C9 (QN.ee (M5 (A2 C6 (A2 C6 A6)))) (Jp (fun _=>rfl) (fun _=>m3) (QE.r (b8 (cEq 4 fun _=>hr) (qv 5) (QE.r C6) (D4 _))))) (A2 (qv 4) A6)))) (D4 _))))) (B0 (D0 Y0)) J7)
   (A8 (E6 7 (sws 7 sc.nd) (k6 (qv 0) (qv 6)))
   (A8 (F8 (QW.qt (z0 (E2 (cNe 4 fun _=>hr) (b8 (cEq 4 fun _=>hr) (qv 5) (QE.r C6) (D4 _)) (QE.r (b8 cLt (qv 7) (QE.r (qv 3)) (D4 _))) (D4 _)) (y9 (E2 cGt (b7 (qe_abs (fun _=>rfl) (fun _=>m0) (QE.r (b7 (qv 7) (qv 3)))) A9) (QE.r (qv 2)) (D4 _))))) (B0 (D0 Y0)) J7)
   (B0 (F8 (Cs (qe_any (fun _=>rfl) (fun _=>rfl) (fun _=>m1) (QE.r (QN.ee (Bf (N:=["_law_one","_law_marks"]) (cs:=[none,some 1]) (fun _=>X9 rfl rfl rfl rfl ⟨rfl,trivial⟩ rfl rfl rfl) (fun _=>rfl) (O4 (P6 (qv 0) (M6 (G8 (Gv (fun _=>rfl) (fun _=>rfl) (fun _=>m7) (qv 3) (qv 7)) A9)) (M6 (qe_max (fun _=>rfl) (fun _=>rfl) (fun _=>m6) (qv 3) (qv 7))))) (gn 0 (show T0 (["_law_one","_law_marks"]:List Str) by decide +kernel)) Aa (b8 (cEq 4 fun _=>hr) (C9 (Bz (fun _=>hr) (qv 1) (qv 0)) A9) (QE.r C6) (D4 _))))))) (B0 (D0 Y0)) J7))))) J7)))))
   (B0 (D0 Y0)))
theorem Tv (F0:Fn0 K mg "_law_race" (top 40))(g4:Il P w K mg base Pt)(g33:MF P w K mg base Pt)(m3:mg "int"=none)(m4:mg "len"=none)(m13:mg "tuple"=none):MG P w K mg base Pt:=fnk F0 fun sc _ _ _ _ _ _ _ hr=>(A8 (c0 (fun _=>O5) (qf g4 hr (A2 (qv 0) (A2 (Q9 (fun _=>rfl) (fun _=>m4) (QE.r (qv 1))) (A2 (qv 3) A6)))) (R0 (fun _=>rfl) (G0 (gn 4 sc.nd) (G0 (gn 5 sc.nd) P8))))
   (A8 (E6 6 (sws 6 sc.nd) (P6 (qv 1) (M6 (qv 4)) (M6 (G8 (qv 5) A9))))
   (A8 (He 7 (sws 7 sc.nd))
   (A8 (N4 (fun _=>rfl) (O4 (qv 2)) (R0 (fun _=>rfl) (G0 (gn 8 sc.nd) (G0 (gn 9 sc.nd) P8))) (A8 (GS 10 (GR (N:=["_law_deed","_law_k"]) (cs:=[none,some 3]) (fun _=>X9 rfl rfl rfl rfl ⟨rfl,trivial⟩ rfl rfl rfl) (fun _=>rfl) (O4 (qv 9)) (gn 0 (show T0 (["_law_deed","_law_k"]:List Str) by decide +kernel)) (Gw (E2 (cEq 4 fun _=>hr) (C9 (qv 0) A9) (QE.r (qv 1)) (D4 _))) (qv 0)) (fun _=>sc.nd) (fun _=>rfl) (fun _=>Or.inl rfl))
   (A8 (F8 (E2 (cNe 4 fun _=>hr) (Q9 (fun _=>rfl) (fun _=>m4) (QE.r (qv 10))) (QE.r (Jp (fun _=>rfl) (fun _=>m3) (QE.r (b8 (cIn 4 fun _=>hr) (qv 8) (QE.r (qv 6)) rfl)))) (D4 _)) (B0 (D0 T5)) J7)
   (B0 (F8 (E2 (cNe 4 fun _=>hr) (qv 10) (QE.r (QN.ee (M5 A6))) (D4 _)) (B0 (Bt 7 (fun _=>Bq (X7 hr) (vw 7)) (P6 (C9 (qv 10) A9) (M6 A9) j6) (qv 8))) J7)))))
   (A8 (Kx 7 (F8 (qt_not (Cs (qf g33 hr (A2 (qv 6) (A2 (qv 7) (A2 (C9 (qv 0) A9) A6)))))) (B0 (D0 T5)) J7))
   (A8 (E6 11 (sws 11 sc.nd) (V3 (fun _=>rfl) (fun _=>m13) (QE.r (QN.ee (Bf (N:=["_law_boat","_law_marks"]) (cs:=[none,some 7]) (fun _=>X9 rfl rfl rfl rfl ⟨rfl,trivial⟩ rfl rfl rfl) (fun _=>rfl) (O4 (qv 6)) (gn 0 (show T0 (["_law_boat","_law_marks"]:List Str) by decide +kernel)) Aa (Gs (E2 Cr (C9 (Bz (fun _=>hr) (qv 1) (qv 0)) A9) (QE.r T5) (D4 _)) (C9 (Bz (fun _=>hr) (qv 1) (qv 0)) A9) (qv 0)))))))
   (B0 (D0 (G8 (G8 (P6 (qv 1) j6 (M6 (qv 4))) (qv 11)) (P6 (qv 1) (M6 (G8 (qv 5) A9)) j6))))))))))
theorem k_law (F0:Fn0 K mg "law" (top 41))(g0:SK P w K mg base)(g3:Mi P w K mg base Pt)(g1:Fs P w K mg base Pt)(g9:Mn P w K mg base Pt)(g20:Mu P w K mg base Pt)(g32:ME P w K mg base Pt)(g6:Im P w K mg base Pt)(g34:MG P w K mg base Pt)(m4:mg "len"=none)(m5:mg "list"=none)(m8:mg "range"=none)(m9:mg "repr"=none)(m10:mg "reversed"=none):Kn P w K mg base "law" 7 ["_law_script"] (EQ K Pt):=by
 have sc:Q7 ["_law_script","_law_draws","_law_meeting","_law_row","_law_turn","_law_day_here","_law_starts","_law_after_here","_law_kept","_law_word_here","_law_told","_law_boat","_law_some","_law_numbers","_law_walked","_law_k"] ["_law_script"] (E4 (top 41)):=⟨rfl,rfl,rfl,by decide +kernel,rfl,by decide +kernel,by decide +kernel⟩
 exact Rg (T:=potD) (Pt:=Pt) (lpos:=lamP) (qual:=lamQ) F0 sc (fun _ _ _ _ _ _=>bd1 fun _=>rfl) (k:=6) (body:=HV) (fun _ _ _ _ _ _ _ hr=>(A8 (QX 1 (sws 1 sc.nd) (fun _=>g0) (fun _=>hr) (by decide) (fun _=>rfl) (qv 0))
   (A8 (c0 (fun _=>O5) (qf g3 hr (A2 (qv 1) (A2 A9 A6))) (R0 (fun _=>rfl) (G0 (gn 2 sc.nd) (G0 (gn 3 sc.nd) P8))))
   (A8 (N4 (fun _=>rfl) (Ek (fun _=>rfl) (fun _=>m8) (G8 A9 (qf g1 hr (A2 (qv 1) (A2 A9 A6))))) (gn 4 sc.nd) (A8 (c0 (fun _=>O5) (qf g9 hr (A2 (qv 1) (A2 (qv 2) (A2 (qv 3) A6)))) (R0 (fun _=>rfl) (G0 (gn 5 sc.nd) (G0 (gn 6 sc.nd) (G0 (gn 7 sc.nd) P8)))))
   (A8 (E6 8 (sws 8 sc.nd) (qf g20 hr (A2 (qv 2) (A2 (qv 3) (A2 (qv 5) A6)))))
   (A8 (c0 (fun _=>O5) (qf g32 hr (A2 (qv 2) (A2 (qv 3) (A2 (qv 5) A6)))) (R0 (fun _=>rfl) (G0 (gn 9 sc.nd) (G0 (gn 10 sc.nd) P8))))
   (A8 (F8 (QW.qt (z0 (E2 (cNe 4 fun _=>hr) (qv 9) (QE.r C6) (D4 _)) (y9 (E2 (cNe 4 fun _=>hr) (QN.ee (Bf (N:=["_law_boat","_law_some"]) (cs:=[none,none]) (fun _=>X9 rfl rfl rfl rfl trivial rfl rfl rfl) (fun _=>rfl) (O4 (qv 8)) (R0 (fun _=>rfl) (G0 (gn 0 (show T0 (["_law_boat","_law_some"]:List Str) by decide +kernel)) (G0 (gn 1 (show T0 (["_law_boat","_law_some"]:List Str) by decide +kernel)) P8))) Aa (qv 0))) (QE.r (QN.ee (Gu (fun _=>rfl) (fun _=>m5) (QE.r (qv 3))))) (D4 _))))) (B0 (D0 Y0)) J7)
   (A8 (N4 (fun _=>rfl) (O4 (qv 8)) (R0 (fun _=>rfl) (G0 (gn 11 sc.nd) (G0 (gn 12 sc.nd) P8))) (A8 (GS 13 (GR (N:=["_law_deed"]) (cs:=[none]) (fun _=>X9 rfl rfl rfl rfl trivial rfl rfl rfl) (fun _=>rfl) (O4 (qv 12)) (gn 0 (show T0 (["_law_deed"]:List Str) by decide +kernel)) Aa (C9 (qv 0) A9)) (fun _=>sc.nd) (fun _=>rfl) (fun _=>Or.inl rfl))
   (B0 (F8 (QW.qt (z0 (E2 (cEq 4 fun _=>hr) (qv 13) (QE.r (QN.ee (M5 A6))) (D4 _)) (y9 (E2 (cNe 4 fun _=>hr) (qv 13) (QE.r (QN.ee (RT (fun _=>rfl) (fun _=>rfl) (fun _=>m5) (fun _=>rfl) (fun _=>m8) (C9 (qv 13) A9) (b7 (C9 (qv 13) (JA A9)) A9)))) (D4 _))))) (B0 (D0 Y0)) J7))))
   (A8 (E6 14 (sws 14 sc.nd) (qv 3))
   (A8 (N4 (fun _=>rfl) (CL (fun _=>rfl) (fun _=>m10) (fun _=>rfl) (fun _=>m8) (qf g6 hr (A2 (qv 2) (A2 (Q9 (fun _=>rfl) (fun _=>m4) (QE.r (qv 3))) A6)))) (gn 15 sc.nd) (A8 (E6 14 (sws 14 sc.nd) (qf g34 hr (A2 (qv 2) (A2 (qv 14) (A2 (qv 8) (A2 (qv 15) A6))))))
   (B0 (F8 (E2 cIs (qv 14) (QE.r T5) (D4 _)) (B0 (D0 Y0)) J7))))
   (A8 (F8 (E2 (cNe 4 fun _=>hr) (JN (fun _=>hr) (fun _=>rfl) (fun _=>m9) (QE.r (qv 14))) (QE.r (JN (fun _=>hr) (fun _=>rfl) (fun _=>m9) (QE.r (qv 10)))) (D4 _)) (B0 (D0 Y0)) J7)
   (B0 (E6 3 (sws 3 sc.nd) (qv 10))))))))))))
   (B0 (D0 Y0)))))) m_law
end
end Tb
open PySem PySem.W PyProof.Rows L2 Tb
set_option hygiene false in
local macro_rules | `(tactic| walk_at "F")=>`(tactic| (dsimp only [KOf];refine' fn0_mk KX G ?a ?l ?c ?k;(case a=>k_is);(case l=>k_is);(case c=>k_is);(case k=>k_is)))
set_option hygiene false in
local macro_rules | `(tactic| walk_at "Z")=>`(tactic| (refine PySem.W.mg_none_of (K:=KOf KX) KX G ?_;dsimp only [KOf];k_is))
abbrev Tb.rwp:=PySem.Challenge.rw_touchboats_k23_whole_deeds_tell_the_plac.prog
set_option maxRecDepth 100000 in
set_option maxHeartbeats 0 in
theorem PySem.Challenge.cw_touchboats_k23_whole_deeds_tell_the_plac_holds : PySem.Challenge.rw_touchboats_k23_whole_deeds_tell_the_plac.Holds := by
 w_on;o_law;k_head;(case hw=>w_witness2)
 k_fill
 refine Rf (l:=PySem.Challenge.rw_touchboats_k23_whole_deeds_tell_the_plac) (x:="_law_script") (k:=7) rfl rfl ⟨rfl,by decide,by decide,rfl⟩ (by decide) ?F
 case F=>
   intro w mg h KX G;have f0:Fn0 (KOf KX) mg "_law_begin" (top 29):=by walk_at "F"
   have f1:Fn0 (KOf KX) mg "_law_next" (top 30):=by walk_at "F"
   have f2:Fn0 (KOf KX) mg "_law_names" (top 31):=by walk_at "F"
   have f3:Fn0 (KOf KX) mg "_law_meet" (top 38):=by walk_at "F"
   have f4:Fn0 (KOf KX) mg "_law_span" (top 32):=by walk_at "F"
   have f5:Fn0 (KOf KX) mg "_law_sheet" (top 35):=by walk_at "F"
   have f6:Fn0 (KOf KX) mg "_law_races" (top 33):=by walk_at "F"
   have f7:Fn0 (KOf KX) mg "_law_word" (top 34):=by walk_at "F"
   have f8:Fn0 (KOf KX) mg "_law_after" (top 36):=by walk_at "F"
   have f9:Fn0 (KOf KX) mg "_law_day" (top 37):=by walk_at "F"
   have f10:Fn0 (KOf KX) mg "span" (top 2):=by walk_at "F"
   have f11:Fn0 (KOf KX) mg "put_on" (top 19):=by walk_at "F"
   have f12:Fn0 (KOf KX) mg "touches_of" (top 6):=by walk_at "F"
   have f13:Fn0 (KOf KX) mg "exchanged" (top 3):=by walk_at "F"
   have f14:Fn0 (KOf KX) mg "row_behind" (top 11):=by walk_at "F"
   have f15:Fn0 (KOf KX) mg "start_on" (top 18):=by walk_at "F"
   have f16:Fn0 (KOf KX) mg "raced" (top 20):=by walk_at "F"
   have f17:Fn0 (KOf KX) mg "starts_of" (top 22):=by walk_at "F"
   have f18:Fn0 (KOf KX) mg "others_of" (top 26):=by walk_at "F"
   have f19:Fn0 (KOf KX) mg "marks_of" (top 24):=by walk_at "F"
   have f20:Fn0 (KOf KX) mg "deeds_of" (top 27):=by walk_at "F"
   have f21:Fn0 (KOf KX) mg "races_of" (top 1):=by walk_at "F"
   have f22:Fn0 (KOf KX) mg "boats_of" (top 5):=by walk_at "F"
   have f23:Fn0 (KOf KX) mg "boat_reason" (top 12):=by walk_at "F"
   have f24:Fn0 (KOf KX) mg "is_wrong" (top 8):=by walk_at "F"
   have f25:Fn0 (KOf KX) mg "between" (top 7):=by walk_at "F"
   have f26:Fn0 (KOf KX) mg "is_far" (top 9):=by walk_at "F"
   have f27:Fn0 (KOf KX) mg "touch_reason" (top 13):=by walk_at "F"
   have f28:Fn0 (KOf KX) mg "is_cross" (top 10):=by walk_at "F"
   have f29:Fn0 (KOf KX) mg "cross_reason" (top 14):=by walk_at "F"
   have f30:Fn0 (KOf KX) mg "reason_of" (top 15):=by walk_at "F"
   have f32:Fn0 (KOf KX) mg "day_behind" (top 21):=by walk_at "F"
   have f33:Fn0 (KOf KX) mg "_law_marks_right" (top 39):=by walk_at "F"
   have f34:Fn0 (KOf KX) mg "_law_race" (top 40):=by walk_at "F"
   have f35:Fn0 (KOf KX) mg "law" (top 41):=by walk_at "F"
   have m0:mg "abs"=none:=by walk_at "Z"
   have m1:mg "any"=none:=by walk_at "Z"
   have m2:mg "enumerate"=none:=by walk_at "Z"
   have m3:mg "int"=none:=by walk_at "Z"
   have m4:mg "len"=none:=by walk_at "Z"
   have m5:mg "list"=none:=by walk_at "Z"
   have m6:mg "max"=none:=by walk_at "Z"
   have m7:mg "min"=none:=by walk_at "Z"
   have m8:mg "range"=none:=by walk_at "Z"
   have m9:mg "repr"=none:=by walk_at "Z"
   have m10:mg "reversed"=none:=by walk_at "Z"
   have m11:mg "set"=none:=by walk_at "Z"
   have m12:mg "sorted"=none:=by walk_at "Z"
   have m13:mg "tuple"=none:=by walk_at "Z"
   have m14:mg "zip"=none:=by walk_at "Z"
   refine⟨top 41,"order_of",top 16,f35,?zc,?zp,fun _ _ _ _ _ _ s u=>.of_eq rfl,fun cd f31 base kb nb hC hB=>?_⟩
   case zc=>
     refine' ⟨_,Re KX G ?a ?l ?c ?k,?h⟩
     (case a=>k_is);(case l=>k_is);(case c=>k_is);(case k=>k_is);(case h=>kernel_rfl)
   case zp=>kernel_rfl
   have g0:=SH (P:=rwp) (w:=w) (base:=base) f0 m4 m5;have g1:=SJ (Pt:=ptOf hC) (lpos:=lamP) (qual:=lamQ) (P:=rwp) (w:=w) (base:=base) f1 m4 m3;have g2:=SL (Pt:=ptOf hC) (P:=rwp) (w:=w) (base:=base) f2 g1 m8 m13;have g3:=SM (Pt:=ptOf hC) (P:=rwp) (w:=w) (base:=base) f3 g1 g2 m7;have g4:=SN (Pt:=ptOf hC) (P:=rwp) (w:=w) (base:=base) f4;have g5:=SO (Pt:=ptOf hC) (P:=rwp) (w:=w) (base:=base) f5 m12 m13 m14;have g6:=SQ (Pt:=ptOf hC) (P:=rwp) (w:=w) (base:=base) f6;have g7:=SS (Pt:=ptOf hC) (P:=rwp) (w:=w) (base:=base) f7 g1 m8;have g8:=SU (Pt:=ptOf hC) (P:=rwp) (w:=w) (base:=base) f8 m5 m13;have g9:=SV (Pt:=ptOf hC) (P:=rwp) (w:=w) (base:=base) f9 g6 g4 g7 g5 g8 m4 m8 m10 m13;have g10:=k_span (Pt:=ptOf hC) (P:=rwp) (w:=w) (base:=base) f10 m7;have g11:=SX (Pt:=ptOf hC) (P:=rwp) (w:=w) (base:=base) f11 g10 m4;have g12:=SY (Pt:=ptOf hC) (P:=rwp) (w:=w) (base:=base) f12;have g13:=SZ (Pt:=ptOf hC) (P:=rwp) (w:=w) (base:=base) f13 m5 m13;have g14:=S_ (Pt:=ptOf hC) (P:=rwp) (w:=w) (base:=base) f14 g12 g13;have g15:=Ta (Pt:=ptOf hC) (P:=rwp) (w:=w) (base:=base) f15 g10 m4;have g16:=Tc (Pt:=ptOf hC) (P:=rwp) (w:=w) (base:=base) f16 g15 g14 g11;have g17:=Td (Pt:=ptOf hC) (P:=rwp) (w:=w) (base:=base) f17 g15 g16 m4 m8 m10 m13
   have g18:=Te (Pt:=ptOf hC) (P:=rwp) (w:=w) (base:=base) f18 g12;have g19:=Tf (Pt:=ptOf hC) (P:=rwp) (w:=w) (base:=base) f19 m13;have g20:=Tg (Pt:=ptOf hC) (P:=rwp) (w:=w) (base:=base) f20 g17 g18 g19 m4 m8 m10 m13 m14;have g21:=Th (Pt:=ptOf hC) (P:=rwp) (w:=w) (base:=base) f21;have g22:=Ti (Pt:=ptOf hC) (P:=rwp) (w:=w) (base:=base) f22;have g23:=Tj (Pt:=ptOf hC) (P:=rwp) (w:=w) (base:=base) f23 g22;have g24:=Tl (Pt:=ptOf hC) (P:=rwp) (w:=w) (base:=base) f24;have g25:=Tm (Pt:=ptOf hC) (P:=rwp) (w:=w) (base:=base) f25 m12;have g26:=Tn (Pt:=ptOf hC) (P:=rwp) (w:=w) (base:=base) f26 g25 m4;have g27:=To (Pt:=ptOf hC) (P:=rwp) (w:=w) (base:=base) f27 g24 g26 g22 g25;have g28:=Tp (Pt:=ptOf hC) (P:=rwp) (w:=w) (base:=base) f28 g22 g25 m4 m11;have g29:=Tq (Pt:=ptOf hC) (P:=rwp) (w:=w) (base:=base) f29 g28;have g30:=Tr (Pt:=ptOf hC) (P:=rwp) (w:=w) (base:=base) f30 g23 g12 g29 g27;have g31:=Ts (Pt:=ptOf hC) (P:=rwp) (w:=w) (base:=base) f31 hC hB g30 g12 g25 m4 m12 m13;have g32:=Tt (Pt:=ptOf hC) (P:=rwp) (w:=w) (base:=base) f32 g21 g15 g31 g16 m4 m8 m10;have g33:=Tu (Pt:=ptOf hC) (P:=rwp) (w:=w) (base:=base) f33 m0 m1 m2 m3 m6 m7;have g34:=Tv (Pt:=ptOf hC) (P:=rwp) (w:=w) (base:=base) f34 g4 g33 m3 m4 m13
   exact k_law (Pt:=ptOf hC) (P:=rwp) (w:=w) (base:=base) f35 g0 g3 g1 g9 g20 g32 g6 g34 m4 m5 m8 m9 m10
end
