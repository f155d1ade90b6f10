import PyProof.Rows.All
import Wide.All
import OpenK.AllK
import Wide.FinOn
import PyProof.EqAt
import PyProof.EqKinds
import PyProof.TupleCall
import PyProof.NeKinds
import PyProof.EnumMake
import PyProof.ConsumeWalk
import KE.LcSums
import PyProof.ReprLen
import PyProof.StrLawsRepr
import PyProof.Rows.StrNews2
import PyProof.Rows.SetFrom
import PyProof.WalksMore
import PyProof.StrLawsChain
import PyProof.StrLawsTight
import PyProof.StrLawsIdx
import PyProof.ZipIter
import PyProof.Draws
import PyProof.Rows.FactsT2
import PyProof.ListStr
import PyProof.Rows.StrPartPair
import KE.KSortTup
import KE.KDictSum
import KE.KRevIter
import PyProof.DictItems
import KE.KPairComp
import PyProof.AutoSeq1
import PyProof.SumWalk
import PyProof.IsRules
import PyProof.Cells
import Lean
import PySem.Challenge.RW_touchboats_k46_fewest_of_one_race
set_option Elab.async false
set_option linter.all false
set_option maxRecDepth 100000
set_option maxHeartbeats 4000000
namespace PySem.W.Fast
def tw16699015491998519087:=0
def tw5695816354808669232:=0
def tw17171445024769434794:=0
def tw3856330757758937700:=0
def tw13271796399987814280:=0
def tw8383048221872425094:=0
def tw9547215302943331491:=0
def tw17208945378532059712:=0
def tw14762266861314986769:=0
def tw18032064294716318958:=0
def tw18017590312919712079:=0
def tw9914132735608991248:=0
def tw10732777127641897709:=0
def tw12133829401179006475:=0
def tw5586390837230653044:=0
def tw18189084618550137134:=0
def tw9333292138241806272:=0
def tw4827253567469701707:=0
def tw11503446762719473920:=0
def tw13597689599372811659:=0
def tw4832182734464107237:=0
def tw7336271600006007749:=0
def tw183782150292875445:=0
def tw9697427220339810434:=0
def tw17324260122150503193:=0
def tw2318556444959456362:=0
def tw1819335769375867222:=0
def tw786617210337665196:=0
def tw8565141867816446382:=0
def tw10904208612364526251:=0
def tw5824390225733228011:=0
def tw13978187631101561679:=0
def tw2792390377696070162:=0
def tw13394418391549718286:=0
def tw1903689316034994979:=0
def tw43641241781110963:=0
def tw6435117147501911634:=0
def tw9357479242035265727:=0
def tw6316162062498498797:=0
def tw14263087947750318771:=0
def tw15416356890480867854:=0
def tw3757089672105671932:=0
def tw13413744834364906199:=0
def tw8454712609177885794:=0
def tw924017156293846938:=0
def tw552964001935003918:=0
def tw7666820129871335134:=0
def tw16587616078849916859:=0
def tw5057793578989852166:=0
def tw11946967942170370842:=0
def tw18086475508289566100:=0
end PySem.W.Fast
open PySem.W renaming Frag->A3,kia_one->Q6,fnOf->P1,kitOne->v4,keepIn->v5,codeIn->AF,methodObj->B_
open PySem renaming wpAny_bind->A1,wpAny_pure->A6,sizeLine->B1,bootBuiltins->F5,wpAny_newObj_type->L6,starEach->C7,foldedSetIterable->N9,mem_of_lookup->P2,wpAny_field->G9,Program->C3,wpAny_mono->G4,wpAny_callSpecial?_slot->W8,compareOp->G5,wpAny_call_entry->T4,sysModules->K2,assignEach->K8,wpAny_of_eq->O0,mainGlobals->O4,wpAny_truthy_bool->Z5,cellsFrom->L7,wpAny_standAt->V0,wpAny_setField_rec->i7,wpAny_seqItems->W9,wpAny_passesOwn->Z6,letOwnedTupleGo->Z7,wpAny_comprehension_free->AG,wpAny_holding->X0,wpAny_getItem_str_slice->AH,codeAny_compStart_list->AI,wpAny_pyIter_tuple->w4,binaryOp->O1,codeAny->L8,wpAny_rule->V1,swapsWith->T5,behindInMarks->i8,wpAny_Call_Name_kw->AJ,wpAny_pyIter_rangeiter->Ca,wpAny_pyIter_list->AK,sliceBounds->Z8,relabel->O2,wpAny_pyIter_enum->AL,attributeBase->w5,wpAny_execs_nil->AM,keywordEach->j3,post_val_or_str->AN,wpAny_typeOf->w6,Keyword->Q7
open PySem.Heap renaming get?_push_of_some->B6,lt_size->B5,get?_push_size->E6,size_push->P3,SameBut->w8
open List renaming getElem?_eq_some_iff->C5,length_map->A9,getElem?_eq_getElem->C4,mem_cons_of_mem->D0,mem_cons->C0,mem_append_right->F6,mem_singleton->E1,length_append->E3,size_toArray->D8,mem_cons_self->F4,getElem?_set_self->J6,mem_append->E7,range->C2,mem_of_getElem?->J7,getElem?_map->G6,all_eq_true->F9,getElem?_set_ne->L9,length_set->J0,map_cons->G7,map_append->K3,getElem?_eq_none->Q8,getElem?_append_right->X1,nodup_cons->N0,mem_range->M1,getElem?_append_left->X2,take_of_length_le->V2,mem_map->J8,length_cons->O5,drop_eq_getElem_cons->Z9,mem_of_mem_take->V3,length_drop->Q9,length_singleton->b3,getD_eq_getElem?_getD->x0,Nodup->M2,length_take->X3,mem_append_left->j6,any_eq_true->b4,getElem?_take->j7,mem_filter->b5,filterMap_cons->x4,getElem_of_mem->x5,getElem?_cons_succ->AO,getElem_mem->j8,eq_nil_of_length_eq_zero->Cb,drop_length->j9,not_mem_nil->k5,find?_cons->k6,append_assoc->x6,replicate->k7,pairwise_iff_getElem->Cc,take_length->x8,map_set->b6,map_map->b7,getElem?_replicate->Cd,getElem?_cons_zero->Ce,zip_cons_cons->AQ,drop_of_length_le->Cf,reverse_cons->AR,length_range->AS,nodup_append->AT,getElem?_set->AU,length_replicate->Cg,take_append_drop->Ch,filter_cons->AV,append_nil->AX,length_reverse->Ci,nodup_nil->AY
open Nat renaming le_refl->A8,ne_of_lt->C8,lt_of_lt_of_le->J4,le_trans->E8,zero_add->G0,lt_succ_of_lt->O6,le_succ->K9,lt_irrefl->P4,zero_le->O7,ne_of_gt->b8,lt_of_le_of_lt->AZ,succ_ne_self->A_
open Option.some renaming inj->D7
open PySem.Str renaming ofString->C1
open Bool renaming false_ne_true->N1,and_eq_true->V4,false_eq_true->k8,eq_iff_iff->b9,beq_eq_decide_eq->Cj,false_and->Ba
open PySem.Builtin.SmallTypes renaming nextOf->T6,ownedTupleIsFree->Bb,ownedTupleHandOut->Ew
open PyProof.Rows renaming callWith_type1->X4,slot_tuple_getitem->k9,envOfC->Ck
open PySem.Builtin.Slice renaming slicePlaces->X5,sliceAdjust->x9,sliceApplied->Bc,sliceFields->Ex
open Option renaming isSome_iff_exists->X6
open PySem.Builtin.Tuple renaming tupleExact->X7,tupleItemsOf->Cm
open PySem.Builtin.Range renaming rangeFitsLong->c7,rangeSize->Cn
open Int renaming toNat_natCast->R0,eq_ofNat_of_zero_le->l4,emod_lt_of_pos->l5,emod_nonneg->c8,toNat->c9
open PySem.Builtin.Str renaming occurrences->l6
open PySem.Value renaming ref->J9,type->N2,none->R1,int->l7
open Array renaming length_toList->l8,getElem?_eq_none->Co,getElem?_toList->Cp
open PySem.F renaming slot_tuple_iterator_next->Bd,args_tuple_add_2->Cq,entry_tuple_add->Cr,slot_tuple_add->Cs,slot_zip_next->Be
open PySem.AutoSeq1 renaming wpAny_loadPart'->Bf
open ForInStep renaming yield->l9
open False renaming elim->T7
open True renaming intro->T8
open Classical renaming byContradiction->Cu
open PySem.Builtin.List renaming listTooLong->Cv,listFitsIndex->Ey
open PySem.StrLaws renaming sliceText->Bg
open PySem.SeqAt renaming RcNeAt->n6,EqAt->d5,RcAt->o1
open Sum renaming inr->P5
open Prod.mk renaming inj->o5
open PySem.Heap.IsSliceOf renaming new->Cw
open PySem.Txt renaming slice_le->y0,slice->d7
local macro_rules|`(tactic|omega)=>`(tactic|lia)
section
namespace L2
open PySem PySem.Spec PyProof.Rows
abbrev Key:=Sum Int Str
def o6:Key->Value->Bool
 | .inl k,v=>Value.isInt k v
 | .inr x,v=>Value.isStrOf x v
def keyH (w:World):Key->Int
 | .inl k=>hashInt k
 | .inr x=>hashStr w x
theorem T9:∀{k:Key} {v:Value},o6 k v=true->(∃i t,k=Sum.inl i/\v=l7 i t)\/(∃x t,k=P5 x/\v=Value.str x t)
 | .inl i, v, h => by
   obtain⟨t,e⟩:=Value.isInt_shape (k:=i) (v:=v) h;exact .inl ⟨i,t,rfl,e⟩
 | .inr x, v, h => by
   obtain⟨t,e⟩:=Value.isStrOf_shape (x:=x) (v:=v) h;exact .inr ⟨x,t,rfl,e⟩
theorem Im (i:Int)(t:Tok):o6 (.inl i) (.int i t)=true:=by simp [o6,Value.isInt]
theorem Io (x:Str)(t:Tok):o6 (.inr x) (.str x t)=true:=by simp [o6,Value.isStrOf]
theorem key_ll (a b:Int):decide ((Sum.inl a:Key)=Sum.inl b)=(a == b):=by grind
theorem key_rr (a b:Str):decide ((P5 a:Key)=P5 b)=decide (a=b):=by simp
theorem key_lr (a:Int)(b:Str):decide ((Sum.inl a:Key)=P5 b)=false:=rfl
theorem key_rl (a:Str)(b:Int):decide ((P5 a:Key)=Sum.inl b)=false:=rfl
def L0 (prog:C3)(w:World):PySem.KeyKind prog w Key where
 is:=o6
 hash:=keyH w
 inj:=fun v a b ha hb=>by
   rcases T9 ha with⟨i,t,rfl,rfl⟩ | ⟨x,t,rfl,rfl⟩
   · rcases T9 hb with⟨j,u,rfl,e⟩ | ⟨y,u,rfl,e⟩
     · injection e with e1 _;rw [e1]
     · exact nomatch e
   · rcases T9 hb with⟨j,u,rfl,e⟩ | ⟨y,u,rfl,e⟩
     · exact nomatch e
     · injection e with e1 _;rw [e1]
 byValue:=fun k v h=>by
   rcases T9 h with⟨i,t,rfl,rfl⟩ | ⟨x,t,rfl,rfl⟩ <;> rfl
 pyHash:=fun hv h=>by
   rcases T9 hv with⟨i,t,rfl,rfl⟩ | ⟨x,t,rfl,rfl⟩
   · exact wpAny_pyHash_int h
   · exact wpAny_pyHash_str h
 eqBool:=fun hu hv h=>by
   rcases T9 hu with⟨i,t,rfl,rfl⟩ | ⟨x,t,rfl,rfl⟩
   · rcases T9 hv with⟨j,u,rfl,rfl⟩ | ⟨y,u,rfl,rfl⟩
     · rw [key_ll] at h;exact wpAny_eqBool_int h
     · rw [key_lr] at h;exact SeqAt.EqAt.int_str i t y u _ _ _ _ h
   · rcases T9 hv with⟨j,u,rfl,rfl⟩ | ⟨y,u,rfl,rfl⟩
     · rw [key_rl] at h;exact SeqAt.EqAt.str_int x t j u _ _ _ _ h
     · rw [key_rr] at h;exact wpAny_eqBool_str h
 «strs»:=fun k x t v h=>by
   rcases T9 h with⟨i,u,rfl,e⟩ | ⟨y,u,rfl,e⟩
   · exact nomatch e
   · injection e with e1 _;subst e1;cases v <;> rfl
theorem Ip (prog:C3)(w:World)(i:Int)(t:Tok):(L0 prog w).is (.inl i) (.int i t)=true:=Im i t
theorem Iq (prog:C3)(w:World)(x:Str)(t:Tok):(L0 prog w).is (.inr x) (.str x t)=true:=Io x t
inductive V where
 | non | bl (b:Bool) | int (i:Int) | str (x:Str) | byt (b:Array UInt8) | flt (b:UInt64) | ref (a:Addr) | ty (n:String)
 deriving DecidableEq
def RelV:V->Value->Prop
 | .non,u=>u=R1
 | .bl b,u=>u=Value.bool b
 | .int i,u=>∃t,u=l7 i t
 | .str x,u=>∃t,u=Value.str x t
 | .byt b,u=>∃t,u=Value.bytes b t
 | .flt b,u=>∃t,u=Value.float b t
 | .ref a,u=>u=J9 a
 | .ty n,u=>u=N2 n
abbrev Vals:List V->List Value->Prop:=Paired RelV
theorem Vals.length (r:Vals xs us):xs.length=us.length:=Paired.length r
theorem Vals.get:∀{xs:List V} {us:List Value} {i:Nat} {x:V},Vals xs us->xs[i]?=some x->∃u,us[i]?=some u/\RelV x u
 | _,_,_,_,.nil,e=>by simp at e
 | _,_,0,_,.cons r _,e=>by simp at e;subst e;exact⟨_,rfl,r⟩
 | _, _, i + 1, x, .cons _ t, e => by
   obtain⟨u,h1,h2⟩:=Vals.get (i:=i) (x:=x) t (by grind);exact⟨u,by simpa using h1,h2⟩
theorem Vals.set (r:RelV x u):∀{xs:List V} {us:List Value} (i:Nat),Vals xs us->Vals (xs.set i x) (us.set i u)
 | _,_,_,.nil=>.nil
 | _,_,0,.cons _ t=>.cons r t
 | _,_,i + 1,.cons q t=>.cons q (Vals.set r i t)
theorem Vals.append:∀{xs ys:List V} {us ws:List Value},Vals xs us->Vals ys ws->Vals (xs++ys) (us++ws)
 | _,_,_,_,.nil,s=>s
 | _,_,_,_,.cons r t,s=>.cons r (Vals.append t s)
theorem Vals.take:∀{xs:List V} {us:List Value} (n:Nat),Vals xs us->Vals (xs.take n) (us.take n)
 | _,_,0,_=>.nil
 | _,_,_ + 1,.nil=>.nil
 | _,_,n + 1,.cons r t=>.cons r (Vals.take n t)
theorem Vals.drop:∀{xs:List V} {us:List Value} (n:Nat),Vals xs us->Vals (xs.drop n) (us.drop n)
 | _,_,0,r=>r
 | _,_,_ + 1,.nil=>.nil
 | _,_,n + 1,.cons _ t=>Vals.drop n t
def RelO:Option V->Option Value->Prop
 | some v,some u=>RelV v u
 | none,none=>True
 | _,_=>False
def KV {κ:Type}:List (κ×V)->List (κ×Value)->Prop:=Paired fun(p:κ×V) (q:κ×Value)=>p.1=q.1/\RelV p.2 q.2
def kV:Key->V
 | .inl i=>.int i
 | .inr x=>.str x
inductive HO where
 /-- a list -/
 | lst (xs:List V)
 /-- a tuple (never changes) -/
 | tup (xs:List V)
 /-- a dict whose keys are ints and U1; one whose keys are tuples of ints and U1 (the empty one is both) -/
 | dK (kvs:List (Key×V)) | dT (kvs:List (List Key×V))
 /-- a set of ints: its members, its size -/
 | set (S:Key->Bool) (n:Nat)
 /-- an instance of the class at C, its dict at dx, its attributes -/
 | ins (C dx:Addr) (fs:List (Str×V))
 /-- the dict of the instance at x -/
 | own (x:Addr)
 /-- the dict of an exception -/
 | xd (fs:List (Str×V))
 /-- a bound method, f of x -/
 | met (f x:Addr)
 /-- a range object lo, lo + 1, .. below hi -/
 | rng (lo hi:Int)
 /-- a thing that is known to the object (the script; a dict while a loop walks it): read, never written while it is so -/
 | frz (o:Obj) (u:HO)
 /-- a code object's table -/
 | tbl (ps:Array Value)
 /-- any other thing, by what is true of its one object (a def of one's own: SetO a S n := HO.ext fun h => ..) -/
 | ext (φ:Heap->Prop)
abbrev Hp:=Addr->Option HO
def upd (H:Hp)(a:Addr)(o:HO):Hp:=fun b=>if b=a then some o else H b
theorem E4:upd H a o a=some o:=by unfold upd;rw [if_pos rfl]
theorem B3 (h:b≠a):upd H a o b=H b:=by unfold upd;rw [if_neg h]
theorem ne_of {H:Hp}(h:H a=some o)(h':H b=some u)(d:o≠u):a≠b:=by
 intro e;subst e;rw [h] at h';exact d (D7 h')
theorem R3 {H:Hp}(h:H a=some o)(h':H b=none):a≠b:=by
 intro e;subst e;rw [h] at h';cases h'
def R4 (h:Heap)(a:Addr)(items:Array Value):Prop:=∃o,h.get? a=some o/\(o.cls,o.dict)=(N2 "tuple",none)/\∃n,o.data=.seq items n
theorem R4.is (x:R4 h a items):IsTup h a items:=let ⟨o,e,c,r⟩:=x;⟨o,e,(o5 c).1,r⟩
theorem R4.lt (x:R4 h a items):a < h.objs.size:=let ⟨_,e,_⟩:=x;B5 e
theorem R4.new (h:Heap)(items:Array Value):R4 (h.push { cls:=.type "tuple",data:=.seq items }) h.objs.size items:=⟨_,E6 _ rfl,rfl,_,rfl⟩
section
variable (P:C3)(w:World)
def D9 (H:Hp)(h:Heap)(a:Addr):HO->Prop
 | .lst xs=>xs.length<=B1/\∃(its:List Value) (n:Nat),Vals xs its/\h.get? a=some { cls:=.type "list",data:=.seq its.toArray n }
 | .tup xs=>xs.length<=B1/\∃its:List Value,Vals xs its/\R4 h a its.toArray
 | .dK kvs=>kvs.length<=B1/\(a == K2)=false/\∃vs,KV kvs vs/\h.DictOf (L0 P w) a vs
 | .dT kvs=>kvs.length<=B1/\(a == K2)=false/\∃xs:List (List Key×Addr×Value),
     Paired (fun(p:List Key×V) (q:List Key×Addr×Value)=>p.1=q.1/\H q.2.1=some (.tup (p.1.map kV))/\RelV p.2 q.2.2) kvs xs/\
     ∃o es ep,h.get? a=some o/\o.ExactDict/\o.data=.dict es ep/\es.toList=xs.map (entryOfKey (tupleKind (L0 P w)))/\(xs.map (·.1)).Nodup
 | .set S n=>h.SetOf (L0 P w) a S n
 | .ins C dx fs=>H dx=some (.own a)/\fs.length<=1000/\dx≠a/\h.get? a=some (PySem.W.instObj C dx)/\
     ∃mA,h.Ns1 dx mA/\(∀f,RelO (fs.lookup f) (mA f))/\PySem.Within mA (fs.map (·.1))
 | .own _=>∃o,h.get? a=some o
 | .xd fs=>∃mA,h.Ns1 a mA/\∀f,RelO (fs.lookup f) (mA f)
 | .rng lo hi=>∃t u v,h.get? a=some { cls:=.type "range",data:=.fields #[.int lo t,.int hi u,.int 1 v] }
 | .frz o u=>h.get? a=some o/\D9 H h a u
 | .tbl ps=>h.get? a=some { cls:=.none,data:=.fields ps }
 | .met f x=>h.get? a=some (B_ (.ref f) (.ref x))
 | .ext φ=>φ h/\(∃o,h.get? a=some o)/\∀h1 h2:Heap,φ h1->(∀o,h1.get? a=some o->h2.get? a=some o)->φ h2
def HOk (H:Hp)(h:Heap):Prop:=∀a o,H a=some o->D9 P w H h a o
end
section
variable {P:C3}{w:World}{H H':Hp}{h h':Heap}{a:Addr}{o:HO}
theorem D9.lt (x:D9 P w H h a o):a < h.objs.size:=by
 cases o with
 | lst xs=>obtain⟨_,_,_,_,e⟩:=x;exact B5 e
 | tup xs=>obtain⟨_,_,_,p⟩:=x;exact p.lt
 | dK kvs=>obtain⟨_,_,_,_,o,_,_,e,_⟩:=x;exact B5 e
 | dT kvs=>obtain⟨_,_,_,_,o,_,_,e,_⟩:=x;exact B5 e
 | set S n=>obtain⟨o,_,_,_,e,_⟩:=x;exact B5 e
 | ins C dx fs=>obtain⟨_,_,_,e,_⟩:=x;exact B5 e
 | own y=>obtain⟨_,e⟩:=x;exact B5 e
 | xd fs=>obtain⟨_,⟨_,_,_,e,_⟩,_⟩:=x;exact B5 e
 | rng lo hi=>obtain⟨_,_,_,e⟩:=x;exact B5 e
 | frz ob u=>obtain⟨e,_⟩:=x;exact B5 e
 | tbl ps=>exact B5 (show h.get? a=some _ from x)
 | met f y=>exact B5 (show h.get? a=some _ from x)
 | ext φ=>obtain⟨_,⟨_,e⟩,_⟩:=x;exact B5 e
theorem Paired.mapP {α β:Type}{F G:α->β->Prop}:∀{l₁:List α} {l₂:List β},Paired F l₁ l₂->(∀a b,F a b->G a b)->Paired G l₁ l₂
 | _,_,.nil,_=>.nil
 | _,_,.cons r t,f=>.cons (f _ _ r) (Paired.mapP t f)
theorem D9.stay (x:D9 P w H h a o)(k:∀b u,(b=a\/H b=some (.own a))->h.get? b=some u->h'.get? b=some u)
   (ho:∀b,H b=some (.own a)->H' b=some (.own a)) (ht:∀b xs,H b=some (.tup xs)->H' b=some (.tup xs)):D9 P w H' h' a o:=by
 induction o with
 | lst xs=>obtain⟨z,its,n,r,e⟩:=x;exact⟨z,its,n,r,k _ _ (.inl rfl) e⟩
 | tup xs=>obtain⟨z,its,r,ob,e,c⟩:=x;exact⟨z,its,r,ob,k _ _ (.inl rfl) e,c⟩
 | dK kvs=>obtain⟨z,y,vs,r,ob,es,ep,e,c⟩:=x;exact⟨z,y,vs,r,ob,es,ep,k _ _ (.inl rfl) e,c⟩
 | dT kvs =>
   obtain⟨z,y,xs,r,ob,es,ep,e,c⟩:=x;exact⟨z,y,xs,Paired.mapP r fun p q z=>⟨z.1,ht _ _ z.2.1,z.2.2⟩,ob,es,ep,k _ _ (.inl rfl) e,c⟩
 | set S n=>obtain⟨ob,es,ep,t,e,c⟩:=x;exact⟨ob,es,ep,t,k _ _ (.inl rfl) e,c⟩
 | ins C dx fs =>
   obtain⟨d,z,ne,e,mA,⟨od,es,ep,e2,c⟩,r⟩:=x;exact⟨ho _ d,z,ne,k _ _ (.inl rfl) e,mA,⟨od,es,ep,k _ _ (.inr d) e2,c⟩,r⟩
 | own y=>obtain⟨ob,e⟩:=x;exact⟨ob,k _ _ (.inl rfl) e⟩
 | xd fs=>obtain⟨mA,⟨od,es,ep,e,c⟩,r⟩:=x;exact⟨mA,⟨od,es,ep,k _ _ (.inl rfl) e,c⟩,r⟩
 | rng lo hi=>obtain⟨t,u,v,e⟩:=x;exact⟨t,u,v,k _ _ (.inl rfl) e⟩
 | frz ob u ih=>obtain⟨e,q⟩:=x;exact⟨k _ _ (.inl rfl) e,ih q⟩
 | tbl ps =>
   have e:h.get? a=some { cls:=.none,data:=.fields ps }:=x;show h'.get? a=some { cls:=.none,data:=.fields ps };exact k a _ (.inl rfl) e
 | met f y =>
   have e:h.get? a=some (B_ (.ref f) (.ref y)):=x;show h'.get? a=some (B_ (.ref f) (.ref y));exact k a _ (.inl rfl) e
 | ext φ=>obtain⟨p,⟨o,e⟩,st⟩:=x;exact⟨st _ _ p fun o q=>k _ _ (.inl rfl) q,⟨o,k _ _ (.inl rfl) e⟩,st⟩
theorem HOk.lt (x:HOk P w H h)(e:H a=some o):a < h.objs.size:=(x a o e).lt
theorem HOk.fresh (x:HOk P w H h)(e:h.objs.size<=a):H a=none:=by
 cases q:H a with
 | none=>rfl
 | some u=>exact absurd (J4 (x.lt q) e) (P4 _)
theorem HOk.kept (x:HOk P w H h)(k:∀b u,h.get? b=some u->h'.get? b=some u):HOk P w H h':=fun a o e=>
 (x a o e).stay (fun b u _ q=>k b u q) (fun _ q=>q) fun _ _ q=>q
theorem HOk.laid (x:HOk P w H h)(k:∀b u,h.get? b=some u->h'.get? b=some u)(hp:h.objs.size<=a)(new:D9 P w (upd H a o) h' a o):HOk P w (upd H a o) h':=fun b u e=>by
 have hn:=x.fresh hp
 by_cases hb:b=a
 · subst hb;rw [E4] at e;cases e;exact new
 · rw [B3 hb] at e;exact(x b u e).stay (fun c v _ q=>k c v q) (fun c q=>by rw [B3 (R3 q hn)];exact q) fun c xs q=>by rw [B3 (R3 q hn)];exact q
end
def Rd (H:Hp)(a:Addr)(u:HO):Prop:=H a=some u\/∃o,H a=some (.frz o u)
theorem Rd.ok (r:Rd H a u)(x:HOk P w H h):D9 P w H h a u:=by
 rcases r with r | ⟨o,r⟩
 · exact x a u r
 · obtain⟨_,q⟩:=x a _ r;exact q
def Mut:Option HO->Prop
 | some (.lst _)=>True
 | some (.dK _)=>True
 | some (.dT _)=>True
 | some (.set _ _)=>True
 | some (.ins _ _ _)=>True
 | some (.ext _)=>True
 | _=>False
section
variable {P:C3}{w:World}{H:Hp}{h h':Heap}{x e:Addr}{o':HO}
theorem HOk.write (ok:HOk P w H h)(mu:Mut (H x))(he:e=x\/H e=some (.own x))(k:∀b u,b≠e->h.get? b=some u->h'.get? b=some u)(heo:∃u,h'.get? e=some u)
   (new:D9 P w (upd H x o') h' x o'):HOk P w (upd H x o') h':=fun b u q=>by
 have nown:∀c y,H c=some (.own y)->c≠x:=fun c y r z=>by subst z;rw [r] at mu;exact mu
 have ntup:∀c xs,H c=some (.tup xs)->c≠x:=fun c xs r z=>by subst z;rw [r] at mu;exact mu
 by_cases hb:b=x
 · subst hb;rw [E4] at q;cases q;exact new
 · rw [B3 hb] at q
   by_cases hbe:b=e
   · have q':H b=some (.own x):=by
       rcases he with z | z
       · exact absurd (hbe.trans z) hb
       · rw [hbe];exact z
     rw [q] at q';cases q';obtain⟨v,hv⟩:=heo;exact⟨v,by rw [hbe];exact hv⟩
   · refine(ok b u q).stay (fun c v hc r=>k c v ?_ r) (fun c r=>by rw [B3 (nown c b r)];exact r) fun c xs r=>by rw [B3 (ntup c xs r)];exact r
     rcases hc with rfl | hc
     · exact hbe
     · rintro rfl;rcases he with z | z
       · exact nown c b hc z
       · rw [hc] at z;cases z;exact hb rfl
end
def NS (H:Hp):Prop:=H K2=none\/∃o u,H K2=some (.frz o u)
structure Un (fs ex:List Addr)(H H':Hp)(h h':Heap):Prop where
 keep:∀b o,h.get? b=some o->H b=none->b∉fs->b∉ex->h'.get? b=some o
 slot:∀b o,h.get? b=some o->H b=none->b∈fs->b∉ex->∃sl,h'.get? b=some { o with slots:=sl }
 free:∀b o,h.get? b=some o->H b=none->b∉ex->H' b=none
 there:∀b o,h.get? b=some o->b∉ex->∃o',h'.get? b=some o'
 tups:∀b xs,H b=some (.tup xs)->H' b=some (.tup xs)
 frzs:∀b o u,H b=some (.frz o u)->H' b=some (.frz o u)
 tbls:∀b ps,H b=some (.tbl ps)->∃more,H' b=some (.tbl (ps++more))
 sys:NS H->NS H'
section
variable {fs fs' ex ex':List Addr}{H H1 H2:Hp}{h h1 h2 h':Heap}{a x e:Addr}{o:HO}
theorem Un.any (u:Un fs ex H H1 h h1)(q:h.get? b=some ob)(n:H b=none)(hx:b∉ex):∃sl,h1.get? b=some { ob with slots:=sl }:=by
 by_cases hb:b∈fs
 · exact u.slot b ob q n hb hx
 · exact⟨ob.slots,u.keep b ob q n hb hx⟩
theorem Un.kept (k:∀b u,h.get? b=some u->h'.get? b=some u):Un fs ex H H h h':=
 ⟨fun b ob q _ _ _=>k b ob q,fun b ob q _ _ _=>⟨ob.slots,k b ob q⟩,fun _ _ _ n _=>n,fun b ob q _=>⟨ob,k b ob q⟩,fun _ _ q=>q,fun _ _ _ q=>q,fun _ ps q=>⟨#[],by rw [q];simp⟩,fun z=>z⟩
theorem Un.refl:Un fs ex H H h h:=Un.kept fun _ _ q=>q
theorem Un.laid (k:∀b u,h.get? b=some u->h'.get? b=some u)(hp:h.objs.size<=a)(hn:H a=none)(hy:K2 < h.objs.size):Un fs ex H (upd H a o) h h' where
 keep:=fun b u q _ _ _=>k b u q
 slot:=fun b u q _ _ _=>⟨u.slots,k b u q⟩
 free:=fun b u q n _=>by rw [B3 (C8 (J4 (B5 q) hp))];exact n
 there:=fun b u q _=>⟨u,k b u q⟩
 tups:=fun b xs q=>by rw [B3 (R3 q hn)];exact q
 frzs:=fun b u xs q=>by rw [B3 (R3 q hn)];exact q
 tbls:=fun b ps q=>⟨#[],by rw [B3 (R3 q hn),q];simp⟩
 sys:=fun z=>by unfold NS;rw [B3 (C8 (J4 hy hp))];exact z
theorem Un.write (mu:Mut (H x))(he:e=x\/H e=some (.own x))(k:∀b u,b≠e->h.get? b=some u->h'.get? b=some u)(heo:∃u,h'.get? e=some u):Un fs ex H (upd H x o) h h':=by
 have hx:∀b,H b=none->b≠x:=fun b n z=>by subst z;rw [n] at mu;exact mu
 have hb:∀b,H b=none->b≠e:=fun b n z=>by
   subst z;rcases he with r | r
   · exact hx b n r
   · rw [n] at r;cases r
 have hm:∀b u,H b=some u->¬Mut (some u)->b≠x:=fun b u q nm z=>by subst z;rw [q] at mu;exact nm mu
 refine⟨fun b u q n _ _=>k b u (hb b n) q,fun b u q n _ _=>⟨u.slots,k b u (hb b n) q⟩,fun b u q n _=>by rw [B3 (hx b n)];exact n,fun b u q _=>?_,
   fun b xs q=>by rw [B3 (hm b _ q fun z=>z)];exact q,fun b u xs q=>by rw [B3 (hm b _ q fun z=>z)];exact q,fun b ps q=>⟨#[],by rw [B3 (hm b _ q fun z=>z),q];simp⟩,fun z=>by
     rcases z with z | ⟨ob,u,z⟩
     · exact .inl (by rw [B3 (hx _ z)];exact z)
     · exact .inr ⟨ob,u,by rw [B3 (hm _ _ z fun z=>z)];exact z⟩⟩
 by_cases hbe:b=e
 · subst hbe;exact heo
 · exact⟨u,k b u hbe q⟩
end
def trk (h:Heap)(H:Hp):List Addr:=(C2 h.objs.size).filter fun a=>(H a).isSome
def hidT (h:Heap)(H:Hp):Heap:=PySem.W.hideAll h (trk h H)
theorem Ir (h:Heap)(H:Hp):(hidT h H).objs.size=h.objs.size:=PySem.W.hideAll_size _ _
theorem Is (e:h.get? b=some o)(n:H b=none):(hidT h H).get? b=some o:=
 PySem.W.hideAll_get _ e fun hm=>by
   have q:(H b).isSome=true:=(b5.mp hm).2;rw [n] at q;simp at q
theorem Iu (e:(hidT h H).get? b=some o):h.get? b=some o/\H b=none:=by
 have e':h.get? b=some o:=PySem.W.of_hideAll (trk h H) e;refine⟨e',?_⟩;cases q:H b with
 | none=>rfl
 | some x =>
   have hm:b∈trk h H:=b5.mpr ⟨M1.mpr (B5 e'),by simp [q]⟩;have z:(hidT h H).get? b=none:=PySem.W.hideAll_none (trk h H) hm;rw [z] at e;cases e
def Iv (g h:Heap)(L:Addr):List (Addr×Obj):=(C2 h.objs.size).filterMap fun a=>if a=L\/(g.get? a).isSome=true then none else(h.get? a).map fun o=>(a,o)
def rest (g h:Heap)(L d:Addr):List (Addr×Obj):=(Iv g h L).filter fun p=>decide (p.1≠d)
structure Mod (K:A3)(mg:Str->Option Value)(base:Heap):Prop where
 kin:K.In base
 glob:base.Ns O4 mg
 blt:∃mb,base.Ns builtinsNs mb/\∀x:Str,x≠"__name__"->mb x=F5 x
 nolimit:base.NoLimit
structure Cx where
 prog:C3
 w:World
 K:A3
 mg:Str->Option Value
 base:Heap
 A:Around
 N:List Str
 s₀:Shared
 H₀:Hp
 env:Env
 outer:List Env
 stack:List Env
 ex:List Addr
 fn:Str->Bool
 calm:Bool
 pn:List (Addr×Obj)
 xe:Value->Shared->Prop
def frs (l:List Env):List Addr:=l.filterMap (·.frame)
abbrev Cx.fs (X:Cx):List Addr:=frs X.outer
def Vis (sc:Scope)(x:Str):Prop:=sc.names.lookup x=some .local\/sc.names.lookup x=some .cell\/sc.names.lookup x=some .free
def Loc (sc:Scope)(x:Str):Prop:=sc.names.lookup x=some .local\/sc.names.lookup x=some .cell
def Look (env:Env)(h:Heap)(m:Str->Option Value)(x:Str)(u:Value):Prop:=
 (env.kindOf x=some .local/\m x=some u)\/((env.kindOf x=some .cell\/env.kindOf x=some .free)/\∃c,env.cells.lookup x=some c/\h.IsCell c (some u))
structure Cx.Ok (X:Cx):Prop where
 mod:Mod X.K X.mg X.base
 kind:X.env.scope.kind=.function
 glob:X.env.globals=O4
 blt:X.env.builtins=builtinsNs
 above:X.s₀.heap.objs.size<=X.env.locals
 inj:∀x y c,X.env.cells.lookup x=some c->X.env.cells.lookup y=some c->x=y
 has:∀x,(X.env.kindOf x=some .cell\/X.env.kindOf x=some .free)->∃c,X.env.cells.lookup x=some c
 cab:∀x c,X.fn x=true->X.env.cells.lookup x=some c->X.s₀.heap.objs.size<=c
 hd:X.calm=true->X.A.handled=none
 frames:X.A.frames=some X.stack
 stk:X.stack=X.outer\/(X.stack=X.env::X.outer/\X.env.frame=some X.env.locals)
 exf:∀b∈X.ex,b≠X.env.locals/\∀x c,X.env.cells.lookup x=some c->c≠b
 bs:∀b o,X.base.get? b=some o->X.s₀.heap.get? b=some o/\X.H₀ b=none
 bsz:X.base.objs.size<=X.s₀.heap.objs.size
 noex:∀b o,X.base.get? b=some o->b∉X.ex
 exfs:∀b∈X.ex,b∉X.fs
 funs:X.s₀.heap.FunFrames X.base X.outer
 frf:∀b∈X.fs,X.H₀ b=none
 nos:NS X.H₀
structure Inv (X:Cx)(pins:List (Addr×Obj))(σ:List (Option V))(H:Hp)(s:Shared):Prop where
 ok:X.Ok
 os:s.os=X.s₀.os
 bare:AllBare s.gens
 base:Un X.fs X.ex X.H₀ H X.s₀.heap s.heap
 loc:∃m,s.heap.Ns X.env.locals m/\∀(i:Nat) (x:Str) (v:V),X.N[i]?=some x->σ[i]?=some (some v)->Vis X.env.scope x->∃u,RelV v u/\Look X.env s.heap m x u
 cell:∀x c,X.env.cells.lookup x=some c->∃v,s.heap.IsCell c v
 free:H X.env.locals=none
 freeC:∀x c,X.env.cells.lookup x=some c->H c=none
 pin:∀p∈X.pn++pins,s.heap.get? p.1=some p.2/\H p.1=none/\p.1≠X.env.locals/\p.1∉X.fs/\∀v,p.2.data≠.cell v
 hok:HOk X.prog X.w H s.heap
 len:σ.length=X.N.length
section
variable {X:Cx}{pins:List (Addr×Obj)}{σ:List (Option V)}{H H':Hp}{s:Shared}{h':Heap}
theorem Cx.Ok.nofr (ok:X.Ok)(e:X.base.get? b=some o):b∉X.fs:=fun hb=>by
 have:=(ok.funs.mem hb).1;rw [e] at this;cases this
theorem Inv.bs (I:Inv X pins σ H s):∀b o,X.base.get? b=some o->s.heap.get? b=some o/\H b=none:=fun b o e=>
 ⟨I.base.keep b o (I.ok.bs b o e).1 (I.ok.bs b o e).2 (I.ok.nofr e) (I.ok.noex b o e),I.base.free b o (I.ok.bs b o e).1 (I.ok.bs b o e).2 (I.ok.noex b o e)⟩
theorem Inv.bk (I:Inv X pins σ H s):∀b o,X.base.get? b=some o->s.heap.get? b=some o:=fun b o e=>(I.bs b o e).1
theorem Inv.mod (I:Inv X pins σ H s):Mod X.K X.mg X.base:=I.ok.mod
theorem Inv.nos (I:Inv X pins σ H s):NS H:=I.base.sys I.ok.nos
theorem Inv.bigS (I:Inv X pins σ H s):K2 < s.heap.objs.size:=Nat.lt_trans (by decide) (I.mod.glob.keeps I.bk).lt
theorem Inv.kIn (I:Inv X pins σ H s):X.K.In s.heap:=I.ok.mod.kin.keeps I.bk
theorem Inv.lt (I:Inv X pins σ H s):X.env.locals < s.heap.objs.size:=let ⟨_,hn,_⟩:=I.loc;hn.lt
theorem Inv.sz (I:Inv X pins σ H s):X.s₀.heap.objs.size<=s.heap.objs.size:=E8 I.ok.above (Nat.le_of_lt I.lt)
theorem Inv.nofs (I:Inv X pins σ H s)(h:s.heap.objs.size<=a):a∉X.fs:=fun hb=>by
 obtain⟨_,o,ho,_⟩:=I.ok.funs.mem hb;exact absurd (J4 (B5 ho) (E8 I.sz h)) (P4 _)
theorem Inv.cne (I:Inv X pins σ H s):∀x c,X.env.cells.lookup x=some c->c≠X.env.locals:=fun x c e z=>by
 obtain⟨v,o,ho,hd⟩:=I.cell x c e;obtain⟨m,⟨o',es,ep,ho',hd',_⟩,_⟩:=I.loc;rw [z,ho'] at ho;cases ho;rw [hd'] at hd;cases hd
theorem Inv.funs (I:Inv X pins σ H s):s.heap.FunFrames X.base X.outer:=by
 have all:∀(l:List Env),(∀b∈frs l,b∈X.fs)->X.s₀.heap.FunFrames X.base l->s.heap.FunFrames X.base l:=by
   intro l
   induction l with
   | nil=>intro _ _;trivial
   | cons env r ih =>
     intro hs hl;obtain⟨hk,⟨L,o,hf,hn,ho,hd⟩,hr⟩:=hl;have hL:L∈X.fs:=hs L (by unfold frs;rw [x4,hf];exact F4);obtain⟨sl,e⟩:=I.base.slot L o ho (I.ok.frf L hL) hL fun z=>I.ok.exfs L z hL;exact⟨hk,⟨L,_,hf,hn,e,hd⟩,ih (fun b hb=>hs b (by unfold frs;rw [x4,hf];exact D0 _ hb)) hr⟩
 exact all X.outer (fun _ hb=>hb) I.ok.funs
theorem Inv.stack (I:Inv X pins σ H s):s.heap.FunFrames X.base X.stack:=by
 rcases I.ok.stk with e | ⟨e,hf⟩
 · rw [e];exact I.funs
 · rw [e];obtain⟨m,hn,_⟩:=I.loc;refine .cons (by rw [I.ok.kind];decide) hf hn ?_ I.funs;exact Heap.get?_none_of_le (E8 I.ok.bsz I.ok.above)
theorem Inv.stkSub (I:Inv X pins σ H s):∀b∈frs X.stack,b∈X.env.locals::X.fs:=fun b hb=>by
 rcases I.ok.stk with e | ⟨e,hf⟩
 · rw [e] at hb;exact D0 _ hb
 · rw [e] at hb;unfold frs at hb;rw [x4,hf] at hb;exact hb
theorem Inv.stkFree (I:Inv X pins σ H s):∀b∈frs X.stack,H b=none:=fun b hb=>by
 rcases C0.mp (I.stkSub b hb) with e | hb
 · rw [e];exact I.free
 · obtain⟨_,o,ho,_⟩:=I.ok.funs.mem hb;exact I.base.free b o ho (I.ok.frf b hb) fun z=>I.ok.exfs b z hb
theorem Inv.step {ch:List Addr}(I:Inv X pins σ H s)
   (hch:∀b∈ch,(b∈X.ex\/X.s₀.heap.objs.size<=b)/\b≠X.env.locals/\(∀x c,X.env.cells.lookup x=some c->c≠b)/\∀p∈X.pn++pins,p.1≠b)
   (keep:∀b o,b≠X.env.locals->b∉X.fs->b∉ch->s.heap.get? b=some o->H b=none->h'.get? b=some o)
   (slot:∀b o,b≠X.env.locals->b∈X.fs->b∉ch->s.heap.get? b=some o->H b=none->∃sl,h'.get? b=some { o with slots:=sl }) (free:∀b o,b∉ch->s.heap.get? b=some o->H b=none->H' b=none)
   (there:∀b o,b∉ch->s.heap.get? b=some o->∃o',h'.get? b=some o')
   (tups:∀b xs,H b=some (.tup xs)->H' b=some (.tup xs)) (frzs:∀b o u,H b=some (.frz o u)->H' b=some (.frz o u)) (tbls:∀b ps,H b=some (.tbl ps)->∃more,H' b=some (.tbl (ps++more))) (sys:NS H->NS H')
   (ns:∀m,s.heap.Ns X.env.locals m->h'.Ns X.env.locals m) (hok:HOk X.prog X.w H' h') (hg:AllBare g') :
   Inv X pins σ H' { s with heap:=h',gens:=g',drawn:=d',toks:=t' }:=by
 have neL:∀b o,X.s₀.heap.get? b=some o->b≠X.env.locals:=fun b o e=>C8 (J4 (B5 e) I.ok.above)
 have neC:∀b o,X.s₀.heap.get? b=some o->b∉X.ex->b∉ch:=fun b o e hx hb=>by
   rcases(hch b hb).1 with z | z
   · exact hx z
   · exact absurd (J4 (B5 e) z) (P4 _)
 have cellK:∀x c,X.env.cells.lookup x=some c->∀v,s.heap.IsCell c v->h'.IsCell c v:=fun x c e v ⟨o,ho,hd⟩=>by
   have nch:c∉ch:=fun z=>(hch c z).2.2.1 x c e rfl
   by_cases hc:c∈X.fs
   · obtain⟨sl,q⟩:=slot c o (I.cne x c e) hc nch ho (I.freeC x c e);exact⟨_,q,hd⟩
   · exact⟨o,keep c o (I.cne x c e) hc nch ho (I.freeC x c e),hd⟩
 refine⟨I.ok,I.os,hg,⟨fun b o e n hb hx=>?_,fun b o e n hb hx=>?_,fun b o e n hx=>?_,fun b o e hx=>?_,fun b xs e=>tups b xs (I.base.tups b xs e),fun b o xs e=>frzs b o xs (I.base.frzs b o xs e),fun b ps e=>?_,fun z=>sys (I.base.sys z)⟩,?_,fun x c e=>?_,?_,fun x c e=>?_,fun p hp=>?_,hok,I.len⟩
 · exact keep b o (neL b o e) hb (neC b o e hx) (I.base.keep b o e n hb hx) (I.base.free b o e n hx)
 · obtain⟨sl,e1⟩:=I.base.slot b o e n hb hx;obtain⟨sl',e2⟩:=slot b _ (neL b o e) hb (neC b o e hx) e1 (I.base.free b o e n hx);exact⟨sl',e2⟩
 · obtain⟨o',e1⟩:=I.base.there b o e hx;exact free b o' (neC b o e hx) e1 (I.base.free b o e n hx)
 · obtain⟨o',e1⟩:=I.base.there b o e hx;exact there b o' (neC b o e hx) e1
 · obtain⟨m1,e1⟩:=I.base.tbls b ps e;obtain⟨m2,e2⟩:=tbls b _ e1;exact⟨m1++m2,by rw [e2,Array.append_assoc]⟩
 · obtain⟨m,hn,hl⟩:=I.loc;refine⟨m,ns m hn,fun i x v e1 e2 e3=>?_⟩;obtain⟨u,r,l⟩:=hl i x v e1 e2 e3;refine⟨u,r,?_⟩;rcases l with l | ⟨k,c,e,z⟩
   · exact .inl l
   · exact .inr ⟨k,c,e,cellK x c e _ z⟩
 · obtain⟨v,z⟩:=I.cell x c e;exact⟨v,cellK x c e v z⟩
 · obtain⟨m,⟨o,_,_,ho,_⟩,_⟩:=I.loc;exact free _ o (fun z=>(hch _ z).2.1 rfl) ho I.free
 · obtain⟨v,o,ho,hd⟩:=I.cell x c e;exact free c o (fun z=>(hch c z).2.2.1 x c e rfl) ho (I.freeC x c e)
 · obtain⟨e,n,ne,nf,d⟩:=I.pin p hp;have nch:p.1∉ch:=fun z=>(hch p.1 z).2.2.2 p hp rfl;exact⟨keep p.1 p.2 ne nf nch e n,free p.1 p.2 nch e n,ne,nf,d⟩
theorem Inv.un (I:Inv X pins σ H s)(u:Un X.fs [] H H' s.heap h')(hok:HOk X.prog X.w H' h'):Inv X pins σ H' { s with heap:=h',toks:=t' }:=by
 obtain⟨m,⟨o,es,ep,ho,r⟩,_⟩:=id I.loc;obtain⟨sl,hL⟩:=u.any ho I.free (by simp)
 exact I.step (g':=s.gens) (d':=s.drawn) (ch:=[]) (fun _ z=>nomatch z) (fun b o _ hb _ e n=>u.keep b o e n hb (by simp)) (fun b o _ hb _ e n=>u.slot b o e n hb (by simp)) (fun b o _ e n=>u.free b o e n (by simp)) (fun b o _ e=>u.there b o e (by simp)) u.tups u.frzs u.tbls u.sys (fun m' hm=>by
   obtain⟨o',es',ep',ho',r'⟩:=hm;rw [ho] at ho';cases ho'
   exact⟨_,es',ep',hL,r'⟩) hok I.bare
theorem Inv.call (I:Inv X pins σ H s)(u:Un (frs X.stack) ch H H' s.heap h')(hok:HOk X.prog X.w H' h')(hg:AllBare g')
   (hch:∀b∈ch,(b∈X.ex\/X.s₀.heap.objs.size<=b)/\b≠X.env.locals/\(∀x c,X.env.cells.lookup x=some c->c≠b)/\∀p∈X.pn++pins,p.1≠b) :
   Inv X pins σ H' { s with heap:=h',gens:=g',drawn:=d',toks:=t' }:=by
 obtain⟨m,⟨o,es,ep,ho,r⟩,_⟩:=id I.loc;obtain⟨sl,hL⟩:=u.any ho I.free fun z=>(hch _ z).2.1 rfl
 exact I.step (ch:=ch) hch (fun b o hL hb hc e n=>u.keep b o e n (fun z=>(C0.mp (I.stkSub b z)).elim hL hb) hc) (fun b o _ _ hc e n=>u.any e n hc) (fun b o hc e n=>u.free b o e n hc) (fun b o hc e=>u.there b o e hc) u.tups u.frzs u.tbls u.sys (fun m' hm=>by
   obtain⟨o',es',ep',ho',r'⟩:=hm;rw [ho] at ho';cases ho'
   exact⟨_,es',ep',hL,r'⟩) hok hg
theorem Inv.turned {t':Nat}{it:Addr}(I:Inv X pins σ H s)(k:∀b o,b≠it->s.heap.get? b=some o->h'.get? b=some o)(hn:H it=none)(hL:it≠X.env.locals)
   (h1:it∈X.ex\/X.s₀.heap.objs.size<=it) (h2:∀x c,X.env.cells.lookup x=some c->c≠it) (h3:∀p∈X.pn++pins,p.1≠it):Inv X pins σ H { s with heap:=h',toks:=t' }:=by
 have nit:∀b u,H b=some u->b≠it:=fun b u e z=>by rw [z,hn] at e;cases e
 refine I.step (g':=s.gens) (d':=s.drawn) (ch:=[it]) (fun b hb=>?_) (fun b o _ _ hc e _=>k b o (fun z=>hc (by simp [z])) e) (fun b o _ _ hc e _=>⟨o.slots,k b o (fun z=>hc (by simp [z])) e⟩) (fun _ _ _ _ n=>n)
   (fun b o hc e=>⟨o,k b o (fun z=>hc (by simp [z])) e⟩) (fun _ _ e=>e) (fun _ _ _ e=>e) (fun b ps e=>⟨#[],by rw [e];simp⟩) (fun z=>z) (fun m hm=>?_) (fun b u e=>?_) I.bare
 · grind
 · obtain⟨o,es,ep,ho,r⟩:=hm;exact⟨o,es,ep,k _ o (Ne.symm hL) ho,r⟩
 · refine(I.hok b u e).stay (fun c v hc q=>k c v ?_ q) (fun _ q=>q) fun _ _ q=>q;rcases hc with z | z
   · grind
   · grind
theorem Inv.tok (I:Inv X pins σ H s)(t:Nat):Inv X pins σ H { s with toks:=t }:=I.un (h':=s.heap) (t':=t) Un.refl I.hok
theorem Inv.kept (I:Inv X pins σ H s)(k:∀b u,s.heap.get? b=some u->h'.get? b=some u):Inv X pins σ H { s with heap:=h',toks:=t' }:=I.un (Un.kept k) (I.hok.kept k)
theorem Inv.laid (I:Inv X pins σ H s)(k:∀b u,s.heap.get? b=some u->h'.get? b=some u)(hp:s.heap.objs.size<=a)(new:D9 X.prog X.w (upd H a o) h' a o) :
   Inv X pins σ (upd H a o) { s with heap:=h',toks:=t' }:=I.un (Un.laid k hp (I.hok.fresh hp) I.bigS) (I.hok.laid k hp new)
theorem Inv.write (I:Inv X pins σ H s)(mu:Mut (H x))(he:e=x\/H e=some (.own x))(k:∀b u,b≠e->s.heap.get? b=some u->h'.get? b=some u)(heo:∃u,h'.get? e=some u)
   (new:D9 X.prog X.w (upd H x o) h' x o):Inv X pins σ (upd H x o) { s with heap:=h',toks:=t' }:=I.un (Un.write mu he k heo) (I.hok.write mu he k heo new)
theorem Inv.pins_of (I:Inv X pins σ H s)(h:∀p∈pins',s.heap.get? p.1=some p.2/\H p.1=none/\p.1≠X.env.locals/\p.1∉X.fs/\∀v,p.2.data≠.cell v):Inv X pins' σ H s:=
 ⟨I.ok,I.os,I.bare,I.base,I.loc,I.cell,I.free,I.freeC,fun p hp=>(E7.mp hp).elim (fun z=>I.pin p (j6 _ z)) (h p),I.hok,I.len⟩
theorem Ez {N:List Str}(hN:N.Nodup){i j:Nat}{x:Str}(a:N[i]?=some x)(b:N[j]?=some x):i=j:=by
 obtain⟨h1,e1⟩:=C5.mp a;obtain⟨h2,e2⟩:=C5.mp b;exact(List.getElem_inj hN).mp (e1.trans e2.symm)
theorem EA (I:Inv X pins σ H s)(hN:X.N.Nodup)(hi:X.N[i]?=some x)(hx:Loc X.env.scope x)(r:RelV v u)
   (h:∀s',Inv X pins (σ.set i (some v)) H s'->(∃a,w8 a s.heap s'.heap/\(a=X.env.locals\/X.env.cells.lookup x=some a))->Q () s') (hf:X.fn x=true\/X.env.scope.names.lookup x=some .local:=by first | exact .inl rfl | exact .inr rfl | assumption):wpAny M A (storeName X.env x u) Q E s:=by
 obtain⟨m,hn,hl⟩:=id I.loc;have hcls:(X.env.scope.kind == .class || (X.env.scope.kind == .module && X.env.locals != X.env.globals))=false:=by rw [I.ok.kind];rfl
 have hiσ:i < σ.length:=by rw [I.len];exact(C5.mp hi).1
 have cne:=I.cne
 have tracked:∀{a:Addr} {h':Heap},(∃o,s.heap.get? a=some o/\H a=none)->w8 a s.heap h'->HOk X.prog X.w H h':=fun {a h'} ha hs b ob e=>by
   obtain⟨_,_,hfree⟩:=ha;refine(I.hok b ob e).stay (fun c w' hc q=>(hs.2 c ?_).trans q) (fun _ q=>q) fun _ _ q=>q;rintro rfl;rcases hc with rfl | hc
   · rw [hfree] at e;cases e
   · rw [hfree] at hc;cases hc
 rcases hx with hk | hk
 · refine wpAny_storeName_local hk hn (fun h' hn' hs=>?_) hcls;obtain⟨oL,_,_,hoL,_⟩:=id hn;refine h _ ⟨I.ok,I.os,I.bare,⟨fun b o e n hb hx=>?_,fun b o e n hb hx=>?_,I.base.free,fun b o e hx=>?_,I.base.tups,I.base.frzs,I.base.tbls,I.base.sys⟩,⟨_,hn',fun j y v' e1 e2 e3=>?_⟩,fun y c e=>?_,I.free,I.freeC,fun p hp=>?_,tracked ⟨oL,hoL,I.free⟩ hs,by simpa using I.len⟩ ⟨_,hs,.inl rfl⟩
   · exact(hs.2 b (C8 (J4 (B5 e) I.ok.above))).trans (I.base.keep b o e n hb hx)
   · obtain⟨sl,e1⟩:=I.base.slot b o e n hb hx;exact⟨sl,(hs.2 b (C8 (J4 (B5 e) I.ok.above))).trans e1⟩
   · obtain⟨o',e1⟩:=I.base.there b o e hx;exact⟨o',(hs.2 b (C8 (J4 (B5 e) I.ok.above))).trans e1⟩
   · by_cases hj:j=i
     · subst hj;rw [hi] at e1;cases e1;rw [J6 hiσ] at e2;cases e2;exact⟨u,r,.inl ⟨hk,by simp⟩⟩
     · rw [L9 (Ne.symm hj)] at e2;obtain⟨u',r',q⟩:=hl j y v' e1 e2 e3;refine⟨u',r',?_⟩;rcases q with⟨k,e⟩ | ⟨k,c,e,z⟩
       · refine .inl ⟨k,?_⟩;have:y≠x:=fun e=>hj (Ez hN e1 (e▸hi));simp [this,e]
       · exact .inr ⟨k,c,e,z.sameBut hs (cne y c e)⟩
   · obtain⟨w',z⟩:=I.cell y c e;exact⟨w',z.sameBut hs (cne y c e)⟩
   · obtain⟨e,n,ne,nf,d⟩:=I.pin p hp;exact⟨(hs.2 p.1 ne).trans e,n,ne,nf,d⟩
 · have hfn:X.fn x=true:=by
     rcases hf with z | z
     · exact z
     · rw [z] at hk;cases hk
   obtain⟨c,hc⟩:=I.ok.has x (.inl hk);obtain⟨w',z⟩:=I.cell x c hc;refine wpAny_storeName_cell I.ok.kind hk hc z (fun h' hc' hs=>?_);obtain⟨oc,hoc,hocd⟩:=id z;refine h { s with heap:=h' } ⟨I.ok,I.os,I.bare,⟨fun b o e n hb hx=>?_,fun b o e n hb hx=>?_,I.base.free,fun b o e hx=>?_,I.base.tups,I.base.frzs,I.base.tbls,I.base.sys⟩,⟨m,hn.sameBut hs (Ne.symm (cne x c hc)),fun j y v' e1 e2 e3=>?_⟩,fun y c' e=>?_,I.free,I.freeC,fun p hp=>?_,tracked ⟨oc,hoc,I.freeC x c hc⟩ hs,by simpa using I.len⟩ ⟨c,hs,.inr hc⟩
   · exact(hs.2 b (C8 (J4 (B5 e) (I.ok.cab x c hfn hc)))).trans (I.base.keep b o e n hb hx)
   · obtain⟨sl,e1⟩:=I.base.slot b o e n hb hx;exact⟨sl,(hs.2 b (C8 (J4 (B5 e) (I.ok.cab x c hfn hc)))).trans e1⟩
   · obtain⟨o',e1⟩:=I.base.there b o e hx;exact⟨o',(hs.2 b (C8 (J4 (B5 e) (I.ok.cab x c hfn hc)))).trans e1⟩
   · by_cases hj:j=i
     · subst hj;rw [hi] at e1;cases e1;rw [J6 hiσ] at e2;cases e2;exact⟨u,r,.inr ⟨.inl hk,c,hc,hc'⟩⟩
     · rw [L9 (Ne.symm hj)] at e2;obtain⟨u',r',q⟩:=hl j y v' e1 e2 e3;refine⟨u',r',?_⟩;rcases q with q | ⟨k,c',e,z'⟩
       · exact .inl q
       · refine .inr ⟨k,c',e,z'.sameBut hs ?_⟩;rintro rfl;exact hj (Ez hN e1 (I.ok.inj _ _ _ e hc▸hi))
   · by_cases hcc:c'=c
     · subst hcc;exact⟨_,hc'⟩
     · obtain⟨w2,z2⟩:=I.cell y c' e;exact⟨w2,z2.sameBut hs hcc⟩
   · obtain⟨e,n,ne,nf,d⟩:=I.pin p hp;refine⟨(hs.2 p.1 ?_).trans e,n,ne,nf,d⟩;intro q;rw [q,hoc] at e;have q':oc=p.2:=D7 e;exact d w' (by rw [<- q'];exact hocd)
theorem y3 (I:Inv X pins σ H s)(hN:X.N.Nodup)(hi:X.N[i]?=some x)(hx:Loc X.env.scope x)(r:RelV v u)
   (h:∀s',Inv X pins (σ.set i (some v)) H s'->Q () s') (hf:X.fn x=true\/X.env.scope.names.lookup x=some .local:=by first | exact .inl rfl | exact .inr rfl | assumption):wpAny M A (storeName X.env x u) Q E s:=
 EA I hN hi hx r (fun s' I' _=>h s' I') hf
end
abbrev XK:=Value->Option Addr->Hp->Prop
abbrev St:=List (Option V)
abbrev VK:=V->Hp->Prop
abbrev TE:=St->Hp->VK->Prop
abbrev TT:=St->Hp->(Bool->Hp->Prop)->Prop
abbrev TA:=St->Hp->(List V->Hp->Prop)->Prop
structure Ends where
 nx:St->Hp->Prop
 rt:VK
 bk:St->Hp->Prop:=fun _ _=>False
 ct:St->Hp->Prop:=fun _ _=>False
abbrev TS:=Ends->St->Hp->Prop
def EP (X:Cx)(pins:List (Addr×Obj))(σ:St)(Q:VK)(u:Value)(s':Shared):Prop:=∃v H',Inv X pins σ H' s'/\RelV v u/\Q v H'
def TP (X:Cx)(pins:List (Addr×Obj))(σ:St)(Q:Bool->Hp->Prop)(b:Bool)(s':Shared):Prop:=∃H',Inv X pins σ H' s'/\Q b H'
def AP (X:Cx)(pins:List (Addr×Obj))(σ:St)(Q:List V->Hp->Prop)(us:List Value)(s':Shared):Prop:=∃vs H',Inv X pins σ H' s'/\Vals vs us/\Q vs H'
def SP (X:Cx)(pins:List (Addr×Obj))(D:Ends)(f:Flow)(s':Shared):Prop:=
 match f with
 | .next=>∃σ' H',Inv X pins σ' H' s'/\D.nx σ' H'
 | .brk=>∃σ' H',Inv X pins σ' H' s'/\D.bk σ' H'
 | .cont=>∃σ' H',Inv X pins σ' H' s'/\D.ct σ' H'
 | .ret u=>∃v σ' H',Inv X pins σ' H' s'/\RelV v u/\D.rt v H'
def PE (X:Cx)(e:Expr)(t:TE):Prop:=
 ∀(pins:List (Addr×Obj)) (s:Shared) (σ:St) (H:Hp) (Q:VK),Inv X pins σ H s->t σ H Q->wpAny (model X.prog X.w) X.A (eval e X.env) (EP X pins σ Q) X.xe s
def PT (X:Cx)(e:Expr)(t:TT):Prop:=
 ∀(pins:List (Addr×Obj)) (s:Shared) (σ:St) (H:Hp) (Q:Bool->Hp->Prop),Inv X pins σ H s->t σ H Q->wpAny (model X.prog X.w) X.A (isTrue e X.env (eval e X.env)) (TP X pins σ Q) X.xe s
def PW (X:Cx)(e:Expr)(t:TT):Prop:=
 ∀(whole:Sem Value) (pins:List (Addr×Obj)) (s:Shared) (σ:St) (H:Hp) (Q:Bool->Hp->Prop),Inv X pins σ H s->t σ H Q->wpAny (model X.prog X.w) X.A (isTrue e X.env whole) (TP X pins σ Q) X.xe s
theorem PW.pt (h:PW X e t):PT X e t:=h _
def PA (X:Cx)(es:List Expr)(t:TA):Prop:=
 ∀(pos:Pos) (pins:List (Addr×Obj)) (s:Shared) (σ:St) (H:Hp) (Q:List V->Hp->Prop),Inv X pins σ H s->t σ H Q->wpAny (model X.prog X.w) X.A (spliced (backTo pos (C7 es X.env))) (AP X pins σ Q) X.xe s
def PS (X:Cx)(st:Stmt)(t:TS):Prop:=
 ∀(pins:List (Addr×Obj)) (s:Shared) (σ:St) (H:Hp) (D:Ends),Inv X pins σ H s->t D σ H->wpAny (model X.prog X.w) X.A (exec st X.env) (SP X pins D) X.xe s
def PSs (X:Cx)(st:List Stmt)(t:TS):Prop:=
 ∀(pins:List (Addr×Obj)) (s:Shared) (σ:St) (H:Hp) (D:Ends),Inv X pins σ H s->t D σ H->wpAny (model X.prog X.w) X.A (execs st X.env) (SP X pins D) X.xe s
theorem thn {α:Type}{t:Sem α}{Q Q':α->Shared->Prop}{M:Model}{A:Around}{E:Value->Shared->Prop}{s:Shared}(h:wpAny M A t Q E s)(hQ:∀a s,Q a s->Q' a s):wpAny M A t Q' E s:=G4 h hQ fun _ _ x=>x
section
variable {X:Cx}
def tVar (i:Nat):TE:=fun σ H Q=>∃v,σ[i]?=some (some v)/\Q v H
def tC (v:V):TE:=fun _ H Q=>Q v H
theorem EB (hN:X.N[i]?=some x)(hv:Vis X.env.scope x)(hd:(x == ("__debug__":Str))=false:=by decide)(hcd:(x == ("__classdict__":Str))=false:=by decide):PE X (.Name x pos) (tVar i):=by
 intro pins s σ H Q I h;obtain⟨v,e,h⟩:=h;obtain⟨m,hn,hl⟩:=I.loc;obtain⟨u,r,l⟩:=hl i x v hN e hv;have fin:EP X pins σ Q u s:=⟨v,H,I,r,h⟩;rcases l with⟨hk,hm⟩ | ⟨hk,c,hc,hcell⟩
 · exact wpAny_Name (wpAny_loadName_local I.ok.kind hk hn hm fin) hd
 · rcases hk with hk | hk
   · exact wpAny_Name (wpAny_loadName_cell I.ok.kind hk hc hcell fin) hd
   · exact wpAny_Name (wpAny_loadName_free I.ok.kind hk hc hcell fin hcd) hd
theorem D1 {i j pos}:PE X (.Constant (.int i) j pos) (tC (.int i)):=fun _ _ _ H _ I h=>wpAny_Constant_int ⟨.int i,H,I.tok _,⟨_,rfl⟩,h⟩
theorem pe_bl {b j pos}:PE X (.Constant (.bool b) j pos) (tC (.bl b)):=fun _ _ _ H _ I h=>Constant_bool ⟨.bl b,H,I,rfl,h⟩
theorem pe_non {j pos}:PE X (.Constant .none j pos) (tC .non):=fun _ _ _ H _ I h=>Constant_none ⟨.non,H,I,rfl,h⟩
theorem pe_str {x j pos}:PE X (.Constant (.str x) j pos) (tC (.str x)):=fun _ _ _ H _ I h=>Calls.Constant_str ⟨.str x,H,I.tok _,⟨_,rfl⟩,h⟩
def Gl (X:Cx)(x:Str):Prop:=X.env.kindOf x=some .globalImplicit
theorem EC (I:Inv X pins σ H s)(hg:Gl X x)(hm:X.mg x=some u)(h:Q u s)
   (hd:(x == ("__debug__":Str))=false:=by decide):wpAny (model X.prog X.w) X.A (eval (.Name x pos) X.env) Q E s:=
 Calls.Name_function_global I.ok.kind hg (Calls.loadGlobal_global (by rw [I.ok.glob];exact I.mod.glob.keeps I.bk) hm h) hd
theorem R5 (I:Inv X pins σ H s)(hg:Gl X x)(hm:X.mg x=none)(hv:F5 x=some u)(h:Q u s)
   (hn:x≠"__name__":=by decide) (hd:(x == ("__debug__":Str))=false:=by decide):wpAny (model X.prog X.w) X.A (eval (.Name x pos) X.env) Q E s:=by
 obtain⟨mb,h1,h2⟩:=I.mod.blt;exact Calls.Name_function_global I.ok.kind hg (Calls.loadGlobal_builtin (by rw [I.ok.glob];exact I.mod.glob.keeps I.bk) hm (by rw [I.ok.blt];exact h1.keeps I.bk) ((h2 x hn).trans hv) h) hd
theorem Iw {x:Str}{v:V}{u:Value}{pos:Pos}(hg:Gl X x)(hm:X.mg x=some u)(r:RelV v u)(hd:(x == ("__debug__":Str))=false:=by decide):PE X (.Name x pos) (tC v):=
 fun _ _ _ H _ I h=>EC I hg hm ⟨v,H,I,r,h⟩ hd
theorem Ix (hg:Gl X x)(hm:X.mg x=none)(hv:F5 x=some u)(r:RelV v u)(hn:x≠"__name__":=by decide)(hd:(x == ("__debug__":Str))=false:=by decide):PE X (.Name x pos) (tC v):=
 fun _ _ _ H _ I h=>R5 I hg hm hv ⟨v,H,I,r,h⟩ hn hd
variable {a b:Expr}{ta tb:TE}{pos:Pos}
def tB (t:TE):TT:=fun σ H Q=>t σ H fun x H1=>∃c,x=.bl c/\Q c H1
theorem pt_val (h:PE X e t)(he:∀whole,isTrue e X.env whole=(do let v ← whole;standAt e.pos;holding [v] (truthy v)):=by intro _;rfl):PT X e (tB t):=by
 intro pins s σ H Q I hw;refine isTrue_plain (thn (h pins s σ H _ I hw) fun v s1 ⟨x,H1,I1,r1,q1⟩=>?_) (he _);obtain⟨d,rfl,q⟩:=q1;cases r1;exact Z5 ⟨H1,I1,q⟩
variable {tA tB':TT}{rest:List Expr}
def tOr (t u:TT):TT:=fun σ H Q=>t σ H fun c H1=>if c=true then Q true H1 else u σ H1 Q
def tNot (t:TT):TT:=fun σ H Q=>t σ H fun c H1=>Q (!c) H1
theorem pw_or1 (ha:PT X a tA):PW X (.BoolOp .Or [a] pos) tA:=by
 intro wh pins s σ H Q I h;refine isTrue_or (thn (ha pins s σ H Q I h) fun c s1 e=>?_);cases c with
 | false=>exact isTrue_or_nil e
 | true=>exact e
theorem pw_or (ha:PT X a tA)(hb:PW X (.BoolOp .Or (b::rest) pos) tB'):PW X (.BoolOp .Or (a::b::rest) pos) (tOr tA tB'):=by
 intro wh pins s σ H Q I h;refine isTrue_or (thn (ha pins s σ H _ I h) fun c s1 ⟨H1,I1,q1⟩=>?_);cases c with
 | true=>exact⟨H1,I1,q1⟩
 | false=>exact hb wh pins s1 σ H1 Q I1 q1
theorem pt_not (ha:PT X a tA):PT X (.UnaryOp .Not a pos) (tNot tA):=by
 intro pins s σ H Q I h;exact isTrue_not (ha pins s σ H (fun c H1=>Q (!c) H1) I h)
def tAndV (ta tb:TE):TE:=fun σ H Q=>ta σ H fun x H1=>∃c,x=.bl c/\if c=true then tb σ H1 Q else Q (.bl false) H1
theorem pe_one {op}{t:TE}(h:PE X a t):PE X (.BoolOp op [a] pos) t:=fun pins s σ H Q I hw=>BoolOp_one (h pins s σ H Q I hw)
theorem pe_and (ha:PE X a ta)(hb:PE X (.BoolOp .And (b::rest) pos) tb):PE X (.BoolOp .And (a::b::rest) pos) (tAndV ta tb):=by
 intro pins s σ H Q I h;refine BoolOp_and (thn (ha pins s σ H _ I h) fun v s1 ⟨x,H1,I1,r1,q1⟩=>?_);obtain⟨c,rfl,q1⟩:=q1;cases r1;refine Z5 ?_;cases c with
 | true=>exact hb pins s1 σ H1 Q I1 q1
 | false=>exact⟨.bl false,H1,I1,rfl,q1⟩
def tIf (t:TT)(ta tb:TE):TE:=fun σ H Q=>t σ H fun c H1=>if c=true then ta σ H1 Q else tb σ H1 Q
theorem Iy (hc:PT X c tA)(ha:PE X a ta)(hb:PE X b tb):PE X (.IfExp c a b pos) (tIf tA ta tb):=by
 intro pins s σ H Q I h;refine wpAny_IfExp (thn (hc pins s σ H _ I h) fun d s1 ⟨H1,I1,q1⟩=>?_);cases d with
 | true=>exact ha pins s1 σ H1 Q I1 q1
 | false=>exact hb pins s1 σ H1 Q I1 q1
end
def SqL (K:A3)(H:Hp)(a:Addr)(xs:List V):Prop:=
 Rd H a (.lst xs)\/
   ∃(o:Obj) (its:Array Value) (n:Nat),K.lookup a=some o/\o.cls=.type "list"/\o.dict=none/\o.data=.seq its n/\its.size<=B1/\Vals xs its.toList
def SqT (K:A3)(H:Hp)(a:Addr)(xs:List V):Prop:=
 Rd H a (.tup xs)\/
   ∃(o:Obj) (its:Array Value) (n:Nat),K.lookup a=some o/\o.cls=.type "tuple"/\o.data=.seq its n/\its.size<=B1/\Vals xs its.toList
def absV:Value->Option V
 | .none=>some .non
 | .bool b=>some (.bl b)
 | .int i _=>some (.int i)
 | .str x _=>some (.str x)
 | .bytes b _=>some (.byt b)
 | .float b _=>some (.flt b)
 | .ref a=>some (.ref a)
 | .type n=>some (.ty n)
 | _=>none
theorem RelV.abs {x:V}{u:Value}(r:RelV x u):absV u=some x:=by grind [RelV,V,absV]
theorem RelV.inj {x y:V}{u:Value}(r:RelV x u)(q:RelV y u):x=y:=by grind [RelV,V]
theorem Vals.inj:∀{xs ys:List V} {us:List Value},Vals xs us->Vals ys us->xs=ys
 | _,_,_,.nil,.nil=>rfl
 | _,_,_,.cons r t,.cons r' t'=>by rw [r.inj r',Vals.inj t t']
section
variable {X:Cx}{pins:List (Addr×Obj)}{σ:St}{H:Hp}{s:Shared}{a:Addr}{xs ys:List V}
theorem SqL.of {K:A3}(h:H a=some (.lst xs)):SqL K H a xs:=.inl (.inl h)
theorem SqT.of {K:A3}(h:H a=some (.tup xs)):SqT K H a xs:=.inl (.inl h)
theorem Inv.list (I:Inv X pins σ H s)(h:SqL X.K H a xs):∃its:List Value,Vals xs its/\PlainL s.heap a its.toArray/\xs.length<=B1:=by
 rcases h with h | ⟨o,its,n,hk,hc,hd,hs,hz,r⟩
 · obtain⟨z,its,n,r,e⟩:=h.ok I.hok;exact⟨its,r,⟨_,n,e,rfl,rfl,rfl⟩,z⟩
 · refine⟨its.toList,r,⟨o,n,I.kIn a o hk,hc,hd,by simpa using hs⟩,?_⟩;have e:=r.length;simp only [l8] at e;omega
theorem Inv.tuple (I:Inv X pins σ H s)(h:SqT X.K H a xs):∃its:List Value,Vals xs its/\IsTup s.heap a its.toArray/\xs.length<=B1:=by
 rcases h with h | ⟨o,its,n,hk,hc,hs,hz,r⟩
 · obtain⟨z,its,r,p⟩:=h.ok I.hok;exact⟨its,r,p.is,z⟩
 · refine⟨its.toList,r,⟨o,I.kIn a o hk,hc,n,by simpa using hs⟩,?_⟩;have e:=r.length;simp only [l8] at e;omega
theorem Inv.list_inj (I:Inv X pins σ H s)(h:SqL X.K H a xs)(h':SqL X.K H a ys):xs=ys:=by
 obtain⟨its,r,⟨o,n,e,_,_,d⟩,_⟩:=I.list h;obtain⟨its',r',⟨o',n',e',_,_,d'⟩,_⟩:=I.list h';rw [e] at e';cases e';rw [d] at d';injection d' with d1 _;have:its=its':=by simpa using congrArg Array.toList d1
 subst this;exact r.inj r'
theorem Inv.tuple_inj (I:Inv X pins σ H s)(h:SqT X.K H a xs)(h':SqT X.K H a ys):xs=ys:=by
 obtain⟨its,r,⟨o,e,_,n,d⟩,_⟩:=I.tuple h;obtain⟨its',r',⟨o',e',_,n',d'⟩,_⟩:=I.tuple h';rw [e] at e';cases e';rw [d] at d';injection d' with d1 _;have:its=its':=by simpa using congrArg Array.toList d1
 subst this;exact r.inj r'
end
abbrev Cx.wish (X:Cx)(E:Value->Shared->Prop):Cx:={ X with xe:=E }
abbrev Cx.nox (X:Cx):Cx:=X.wish fun _ _=>False
theorem Cx.Ok.wish {X:Cx}(ok:X.Ok)(E:Value->Shared->Prop):(X.wish E).Ok:=
 ⟨ok.mod,ok.kind,ok.glob,ok.blt,ok.above,ok.inj,ok.has,ok.cab,ok.hd,ok.frames,ok.stk,ok.exf,ok.bs,ok.bsz,ok.noex,ok.exfs,ok.funs,ok.frf,ok.nos⟩
theorem Cx.Ok.unwish {X:Cx}(ok:(X.wish E).Ok):X.Ok:=
 ⟨ok.mod,ok.kind,ok.glob,ok.blt,ok.above,ok.inj,ok.has,ok.cab,ok.hd,ok.frames,ok.stk,ok.exf,ok.bs,ok.bsz,ok.noex,ok.exfs,ok.funs,ok.frf,ok.nos⟩
section
variable {X:Cx}{pins:List (Addr×Obj)}{σ:St}{H:Hp}{s:Shared}{E:Value->Shared->Prop}
theorem Inv.wish (I:Inv X pins σ H s)(E:Value->Shared->Prop):Inv (X.wish E) pins σ H s:=⟨I.ok.wish E,I.os,I.bare,I.base,I.loc,I.cell,I.free,I.freeC,I.pin,I.hok,I.len⟩
theorem Inv.unwish (I:Inv (X.wish E) pins σ H s):Inv X pins σ H s:=⟨I.ok.unwish,I.os,I.bare,I.base,I.loc,I.cell,I.free,I.freeC,I.pin,I.hok,I.len⟩
theorem SP.unwish (h:SP (X.wish E) pins D f s'):SP X pins D f s':=by
 cases f with
 | next=>obtain⟨σ',H',I,q⟩:=h;exact⟨σ',H',I.unwish,q⟩
 | brk=>obtain⟨σ',H',I,q⟩:=h;exact⟨σ',H',I.unwish,q⟩
 | cont=>obtain⟨σ',H',I,q⟩:=h;exact⟨σ',H',I.unwish,q⟩
 | ret u=>obtain⟨v,σ',H',I,r,q⟩:=h;exact⟨v,σ',H',I.unwish,r,q⟩
theorem PSs.nox {st:List Stmt}(h:PSs X.nox st t):PSs X st t:=fun pins s σ H D I hw=>
 G4 (h pins s σ H D (I.wish _) hw) (fun _ _ q=>q.unwish) fun _ _ z=>T7 z
end
section
variable {X:Cx}{st:Stmt}{rest:List Stmt}{t u:TS}{e:Expr}{te:TE}{pos:Pos}
def tNext:TS:=fun D σ H=>D.nx σ H
def tSeq (t u:TS):TS:=fun D σ H=>t { D with nx:=u D } σ H
theorem ED:PSs X [] tNext:=fun _ _ σ H _ I h=>AM ⟨σ,H,I,h⟩
theorem R6 (h1:PS X st t)(h2:PSs X rest u):PSs X (st::rest) (tSeq t u):=by
 intro pins s σ H D I h;refine wpAny_execs_cons (thn (h1 pins s σ H { D with nx:=u D } I h) fun f s1 q=>?_);cases f with
 | next =>
   obtain⟨σ',H',I',q⟩:=q;exact h2 pins s1 σ' H' D I' q
 | ret v=>exact q
 | brk=>exact q
 | cont=>exact q
theorem y4 (h1:PS X st t):PSs X [st] t:=by
 intro pins s σ H D I h;refine wpAny_execs_cons (thn (h1 pins s σ H D I h) fun f s1 q=>?_);cases f with
 | next=>exact AM q
 | ret v=>exact q
 | brk=>exact q
 | cont=>exact q
theorem Inv.quiet (I:Inv X pins σ H s):interactive X.env=false:=by simp [interactive,I.ok.kind]
def Cy (te:TE):TS:=fun D σ H=>te σ H fun _ H1=>D.nx σ H1
theorem Iz (he:PE X e te)(hs:T5 e none pos.line X.env=pure false:=by rfl):PS X (.Expr e pos) (Cy te):=by
 intro pins s σ H D I h;exact wpAny_Expr_any (thn (he pins s σ H _ I h) fun v s1 ⟨x,H1,I1,r1,q1⟩=>⟨σ,H1,I1,q1⟩) I.quiet hs
def tRet (te:TE):TS:=fun D σ H=>te σ H D.rt
theorem Bh (he:PE X e te):PS X (.Return (some e) pos) (tRet te):=by
 intro pins s σ H D I h;exact wpAny_Return_some (thn (he pins s σ H _ I h) fun v s1 ⟨x,H1,I1,r1,q1⟩=>⟨x,σ,H1,I1,r1,q1⟩)
def tIfS (c:TT)(t u:TS):TS:=fun D σ H=>c σ H fun b H1=>if b=true then t D σ H1 else u D σ H1
theorem ps_if (hc:PT X c tc)(ha:PSs X a t)(hb:PSs X b u):PS X (.If c a b pos) (tIfS tc t u):=by
 intro pins s σ H D I h;refine wpAny_If (thn (hc pins s σ H _ I h) fun d s1 ⟨H1,I1,q1⟩=>?_);cases d with
 | true=>exact ha pins s1 σ H1 D I1 q1
 | false=>exact hb pins s1 σ H1 D I1 q1
end
abbrev TG:=V->St->Hp->(St->Hp->Prop)->Prop
abbrev TGs:=List V->St->Hp->(St->Hp->Prop)->Prop
def PG (X:Cx)(target:Expr)(t:TG):Prop:=
 ∀ (pins : List (Addr × Obj)) (s : Shared) (σ : St) (H : Hp) (v : V) (u : Value) (Q : St -> Hp -> Prop), Inv X pins σ H s -> RelV v u -> t v σ H Q ->
   wpAny (model X.prog X.w) X.A (assign target X.env u) (fun _ s'=>∃σ' H',Inv X pins σ' H' s'/\Q σ' H') X.xe s
def PGs (X:Cx)(ts:List Expr)(t:TGs):Prop:=
 ∀ (pins : List (Addr × Obj)) (s : Shared) (σ : St) (H : Hp) (vs : List V) (us : List Value) (Q : St -> Hp -> Prop), Inv X pins σ H s -> Vals vs us -> t vs σ H Q ->
   wpAny (model X.prog X.w) X.A (assignInOrder ((K8 ts X.env).map (·.2)) us) (fun _ s'=>∃σ' H',Inv X pins σ' H' s'/\Q σ' H') X.xe s
abbrev TSet:=V->V->V->Hp->(Hp->Prop)->Prop
def PSet (X:Cx)(t:TSet):Prop:=
 ∀ (pins : List (Addr × Obj)) (s : Shared) (σ : St) (H : Hp) (o i v : V) (ov iv u : Value) (Q : Hp -> Prop), Inv X pins σ H s -> RelV o ov -> RelV i iv -> RelV v u -> t o i v H Q ->
   wpAny (model X.prog X.w) X.A (setItem ov iv u) (fun _ s'=>∃H',Inv X pins σ H' s'/\Q H') X.xe s
abbrev TIp:=V->V->Hp->VK->Prop
def PIp (X:Cx)(op:Operator)(t:TIp):Prop:=
 ∀ (pins : List (Addr × Obj)) (s : Shared) (σ : St) (H : Hp) (x y : V) (v u : Value) (Q : VK), Inv X pins σ H s -> RelV x v -> RelV y u -> t x y H Q ->
   wpAny (model X.prog X.w) X.A (inplaceOp op v u) (EP X pins σ Q) X.xe s
section
variable {X:Cx}{pos:Pos}
def N3 (i:Nat):TG:=fun v σ H Q=>Q (σ.set i (some v)) H
theorem EE (hN:X.N.Nodup)(hi:X.N[i]?=some x)(hx:Loc X.env.scope x)(hf:X.fn x=true\/X.env.scope.names.lookup x=some .local:=by first | exact .inl rfl | exact .inr rfl | assumption):PG X (.Name x pos) (N3 i):=by
 intro pins s σ H v u Q I r h;exact wpAny_assign_Name (y3 I hN hi hx r (fun s' I'=>⟨_,H,I',h⟩) hf)
def gNil:TGs:=fun vs σ H Q=>vs=[]/\Q σ H
def y7 (t:TG)(u:TGs):TGs:=fun vs σ H Q=>∃v r,vs=v::r/\t v σ H fun σ' H'=>u r σ' H' Q
theorem EF:PGs X [] gNil:=by
 intro pins s σ H vs us Q I r h;obtain⟨e,h⟩:=h;subst e;cases r;exact assignInOrder_nil ⟨σ,H,I,h⟩
theorem Cz (h1:PG X e t)(h2:PGs X es u)
   (hs:(K8 (e::es) X.env).map (·.2)=assign e X.env::(K8 es X.env).map (·.2):=by rfl):PGs X (e::es) (y7 t u):=by
 intro pins s σ H vs us Q I r h;obtain⟨v,vr,e1,h⟩:=h;subst e1;cases r with
 | cons r rr =>
   rw [hs];refine assignInOrder_cons (thn (h1 pins s σ H _ _ _ I r h) fun _ s1 ⟨σ1,H1,I1,q1⟩=>?_);exact h2 pins s1 σ1 H1 _ _ Q I1 rr q1
def gTup (K:A3)(n:Nat)(t:TGs):TG:=fun v σ H Q=>∃a xs,v=.ref a/\SqT K H a xs/\xs.length=n/\t xs σ H Q
theorem EG (hc:X.calm=true)(h:PGs X es t)
   (hn:(K8 es X.env).length=n:=by rfl) (hst:(K8 es X.env).findIdx? (·.1)=none:=by rfl):PG X (.Tuple es k pos) (gTup X.K n t):=by
 intro pins s σ H v u Q I r hw;obtain⟨a,xs,e1,hq,hl,hw⟩:=hw;subst e1;cases r;obtain⟨its,rv,ht,hz⟩:=I.tuple hq;refine assign_Tuple_tuple (I.ok.hd hc) ht (by simp [hn,<- hl,rv.length]) hst fun h' hx=>?_;have I1:Inv X pins σ H { s with heap:=h' }:=I.kept (t':=s.toks) fun b o e=>hx b o (C8 (B5 e)) e;exact h pins _ σ H xs _ Q I1 (by simpa using rv) hw
def gSub (to ti:TE)(t:TSet):TG:=fun v σ H Q=>to σ H fun o H1=>ti σ H1 fun i H2=>t o i v H2 fun H3=>Q σ H3
theorem CA (ho:PE X o to)(hi:PE X i ti)(hs:PSet X t)
   (ha:∀v,assign (.Subscript o i pos) X.env v=(do
     let ov ← holding [v] (eval o X.env)
     let iv ← holding [v,ov] (eval i X.env)
     standAt pos
     holding [v,ov,iv] (setItem ov iv v)
     release [v,ov,iv] []):=by intro _;rfl):PG X (.Subscript o i pos) (gSub to ti t):=by
 intro pins s σ H v u Q I r h;rw [ha];refine A1 (X0 (thn (ho pins s σ H _ I h) fun ov s1 ⟨x,H1,I1,r1,q1⟩=>?_));refine A1 (X0 (thn (hi pins s1 σ H1 _ I1 q1) fun iv s2 ⟨y,H2,I2,r2,q2⟩=>?_));refine A1 (V0 (A1 (X0 (thn (hs pins s2 σ H2 x y v ov iv u _ I2 r1 r2 r q2) fun _ s3 ⟨H3,I3,q3⟩=>?_))));exact wpAny_release ⟨σ,H3,I3,q3⟩
def tAsg (te:TE)(g:TG):TS:=fun D σ H=>te σ H fun x H1=>g x σ H1 D.nx
theorem CB (he:PE X e te)(hg:PG X tg g)(hs:swapsWithSole [tg] e pos.line X.env=pure false:=by rfl)(hw:swappedStores [tg] e X.env=pure none:=by rfl)
   (h1:(K8 [tg] X.env).map (·.2)=[assign tg X.env]:=by rfl):PS X (.Assign [tg] e pos) (tAsg te g):=by
 intro pins s σ H D I h;refine wpAny_Assign_stores (thn (he pins s σ H _ I h) fun v s1 ⟨x,H1,I1,r1,q1⟩=>?_) hs hw;rw [h1];exact thn (hg pins s1 σ H1 x v _ I1 r1 q1) fun _ s2 q=>q
theorem X8 (hN:X.N.Nodup)(hi:X.N[i]?=some x)(hx:Loc X.env.scope x)(he:PE X e te)(hs:T5 e (some (.Name x pos')) pos.line X.env=pure false:=by rfl)(hf:X.fn x=true\/X.env.scope.names.lookup x=some .local:=by first | exact .inl rfl | exact .inr rfl | assumption) :
   PS X (.Assign [.Name x pos'] e pos) (tAsg te (N3 i)):=by
 intro pins s σ H D I h;refine wpAny_Assign_Name (thn (he pins s σ H _ I h) fun v s1 ⟨y,H1,I1,r1,q1⟩=>?_) hs;exact y3 I1 hN hi hx r1 (fun s2 I2=>⟨_,H1,I2,q1⟩) hf
def tPar (i j:Nat)(ta:TA):TS:=fun D σ H=>ta σ H fun vs H1=>∃v w,vs=[v,w]/\D.nx ((σ.set i (some v)).set j (some w)) H1
theorem ps_par {i j:Nat}{x y:Str}{a b:Expr}{ta:TA}{px py pt:Pos}{kt k2 pt2}(hc:X.calm=true)(hN:X.N.Nodup)(hi:X.N[i]?=some x)(hj:X.N[j]?=some y)(hij:i≠j)
   (hx:X.env.scope.names.lookup x=some .local) (hy:X.env.scope.names.lookup y=some .local) (ha:PA X [a,b] ta)
   (hw:swappedStores [.Tuple [.Name x px,.Name y py] kt pt] (.Tuple [a,b] k2 pt2) X.env=pure (some [x,y]))
   (hs:swapsWithSole [.Tuple [.Name x px,.Name y py] kt pt] (.Tuple [a,b] k2 pt2) pos.line X.env=pure false:=by rfl) :
   PS X (.Assign [.Tuple [.Name x px,.Name y py] kt pt] (.Tuple [a,b] k2 pt2) pos) (tPar i j ta):=by
 intro pins s σ H D I h;rw [exec_Assign_arm];refine A1 (V0 ?_);rw [hs];refine A1 (A6 ?_);rw [if_neg (by decide)];refine A1 (Tuple_ (thn (ha _ pins s σ H _ I h) fun us s1 ⟨vs,H1,I1,r1,q1⟩=>?_));obtain⟨v,w,e1,q1⟩:=q1;subst e1
 obtain⟨u1,u2,rfl,rv,rw'⟩:∃u1 u2,us=[u1,u2]/\RelV v u1/\RelV w u2:=by
   cases r1 with
   | cons p q =>
     cases q with
     | cons p' q' =>
       cases q';exact⟨_,_,rfl,p,p'⟩
 refine L6 ?_ (by show 2<=B1;decide);have I2:Inv X pins σ H1 { s1 with heap:=s1.heap.push { cls:=.type "tuple",data:=.seq [u1,u2].toArray } }:=I1.kept (t':=s1.toks) fun b o e=>B6 _ e;rw [hw];refine A1 (A6 ?_);show wpAny (model X.prog X.w) X.A (do rule "assign.swapped-stores";let items ← unpackItems (.ref s1.heap.objs.size) 2 none;assignInOrder [fun v=>bindName X.env y v,fun v=>bindName X.env x v] items.reverse;pure Flow.next) _ _ _;refine A1 (V1 (A1 (unpackItems_tuple (items:=#[u1,u2]) (I.ok.hd hc) (IsTup.new s1.heap _) fun h' hx'=>?_)));have I3:=I2.kept (h':=h') (t':=s1.toks) fun b o e=>hx' b o (C8 (B5 e)) e;show wpAny _ _ (assignInOrder [fun v=>bindName X.env y v,fun v=>bindName X.env x v] [u2,u1]>>=fun _=>pure Flow.next) _ _ _;refine A1 (assignInOrder_cons (wpAny_bindName (y3 I3 hN hj (.inl hy) rw' (fun s2 I4=>?_) (.inr hy))));refine assignInOrder_cons (wpAny_bindName (y3 I4 hN hi (.inl hx) rv (fun s3 I5=>assignInOrder_nil (A6 ?_)) (.inr hx)));rw [List.set_comm _ _ (Ne.symm hij)] at I5;exact⟨_,H1,I5,q1⟩
def tAug (i:Nat)(te:TE)(ti:TIp):TS:=fun D σ H=>∃x,σ[i]?=some (some x)/\te σ H fun y H1=>ti x y H1 fun z H2=>D.nx (σ.set i (some z)) H2
theorem ps_aug (hN:X.N.Nodup)(hi:X.N[i]?=some x)(hx:Loc X.env.scope x)(he:PE X e te)(ho:PIp X op ti)(hf:X.fn x=true\/X.env.scope.names.lookup x=some .local:=by first | exact .inl rfl | exact .inr rfl | assumption) :
   PS X (.AugAssign (.Name x pos') op e pos) (tAug i te ti):=by
 intro pins s σ H D I h;obtain⟨v,e1,h⟩:=h;obtain⟨m,hn,hl⟩:=I.loc;have vis:Vis X.env.scope x:=by rcases hx with k | k;exact .inl k;exact .inr (.inl k)
 obtain⟨u,r,l⟩:=hl i x v hi e1 vis;refine wpAny_AugAssign_Name ?_
 have go:wpAny (model X.prog X.w) X.A (eval e X.env) (fun w s₂=>wpAny (model X.prog X.w) X.A (inplaceOp op u w) (fun r s₃=>wpAny (model X.prog X.w) X.A (storeName X.env x r) (fun _=>SP X pins D .next) X.xe s₃) X.xe s₂) X.xe s:=by
   refine thn (he pins s σ H _ I h) fun w s1 ⟨y,H1,I1,r1,q1⟩=>?_;refine thn (ho pins s1 σ H1 v y u w _ I1 r r1 q1) fun z s2 ⟨zv,H2,I2,r2,q2⟩=>?_;exact y3 I2 hN hi hx r2 (fun s3 I3=>⟨_,H2,I3,q2⟩) hf
 rcases l with⟨hk,hm⟩ | ⟨hk,c,hc,hcell⟩
 · exact wpAny_loadName_local I.ok.kind hk hn hm go
 · rcases hk with hk | hk
   · exact wpAny_loadName_cell I.ok.kind hk hc hcell go
   · rcases hx with k | k
     · have:X.env.scope.names.lookup x=some .free:=hk;rw [k] at this;cases this
     · have:X.env.scope.names.lookup x=some .free:=hk;rw [k] at this;cases this
end
section
variable {X:Cx}{pos:Pos}
def tWhile (c:TT)(tb:TS):TS:=fun D σ H=>∃W:Nat->St->Hp->Prop,(∃m,W m σ H)/\∀m σ H,W m σ H->
 c σ H fun b H1=>if b=true then ∃N:St->Hp->Prop,(∀σ' H',N σ' H'->∃m',m' < m/\W m' σ' H')/\tb { D with nx:=N,ct:=N,bk:=D.nx } σ H1 else D.nx σ H1
theorem IA (hp:PassesOwn (model X.prog X.w) X.A X.env X.xe)(hc:PT X c tc)(hb:PSs X body tb):PS X (.While c body [] pos) (tWhile tc tb):=by
 intro pins s σ H D I h;obtain⟨W,⟨m0,w0⟩,turn⟩:=h;refine wpAny_While (codeAny_whileLoop (fun n s'=>∃σ' H',Inv X pins σ' H' s'/\W n σ' H') ?_ m0 ⟨σ,H,I,w0⟩);rintro n s1 ⟨σ1,H1,I1,w1⟩;refine Z6 hp (thn (hc pins s1 σ1 H1 _ I1 (turn n σ1 H1 w1)) fun b s2 ⟨H2,I2,q2⟩=>?_);cases b with
 | true =>
   obtain⟨N,hN,q2⟩:=q2;rw [if_pos rfl];refine Z6 hp (thn (hb pins s2 σ1 H2 _ I2 q2) fun f s3 q3=>?_);cases f with
   | next =>
     obtain⟨σ3,H3,I3,n3⟩:=q3;obtain⟨m',hm,w3⟩:=hN σ3 H3 n3;exact⟨m',hm,σ3,H3,I3,w3⟩
   | cont =>
     obtain⟨σ3,H3,I3,n3⟩:=q3;obtain⟨m',hm,w3⟩:=hN σ3 H3 n3;exact⟨m',hm,σ3,H3,I3,w3⟩
   | brk=>exact q3
   | ret v=>exact q3
 | false =>
   rw [if_neg N1];exact AM ⟨σ1,H2,I2,q2⟩
end
structure It where
 go:Nat->Hp->Prop
 yld:Nat->Hp->V->Hp->Prop
 stop:Nat->Hp->Prop
def FpOk (X:Cx)(pins:List (Addr×Obj))(H:Hp)(b:Addr):Prop:=
 H b=none/\b≠X.env.locals/\b∉X.fs/\(b∈X.ex\/X.s₀.heap.objs.size<=b)/\(∀x c,X.env.cells.lookup x=some c->c≠b)/\∀p∈X.pn++pins,p.1≠b
theorem Inv.fpOk (I:Inv X pins σ H s)(hb:s.heap.objs.size<=b)(hn:H' b=none):FpOk X pins H' b:=by
 refine⟨hn,b8 (J4 I.lt hb),I.nofs hb,.inr (E8 I.sz hb),fun x c e z=>?_,fun p hp z=>?_⟩
 · obtain⟨v,q⟩:=I.cell x c e;exact absurd (J4 q.lt (by rw [z];exact hb)) (P4 _)
 · exact absurd (J4 (B5 (I.pin p hp).1) (by rw [z];exact hb)) (P4 _)
structure Turn (P:C3)(w:World)(K:A3)(tg:Expr)(J:It)(fp:List Addr)(it:Addr)(tn:Nat->Heap->Prop):Prop where
 mem:it∈fp
 obj:∀i h,tn i h->∀b∈fp,∃o,h.get? b=some o/\∀v,o.data≠.cell v
 keep:∀i h h',tn i h->(∀b∈fp,∀o,h.get? b=some o->h'.get? b=some o)->tn i h'
 item:∀(X:Cx),X.prog=P->X.w=w->X.K=K->X.calm=true->∀(i:Nat) (pins:List (Addr×Obj)) (s:Shared) (σ:St) (H:Hp) (E:Value->Shared->Prop),Inv X pins σ H s->(∀b∈fp,FpOk X pins H b)->tn i s.heap->J.go i H->
   wpAny (model P w) X.A (pyNext (.ref it)) (fun r s1=>∃u,r=some u/\
     wpAny (model P w) X.A (Z7 tg (.ref it) u) (fun _ s2=>∃x H',Inv X pins σ H' s2/\RelV x u/\J.yld i H x H'/\tn (i + 1) s2.heap/\∀b∈fp,H' b=none) E s1) E s
 done:∀(X:Cx),X.prog=P->X.w=w->X.K=K->X.calm=true->∀(i:Nat) (pins:List (Addr×Obj)) (s:Shared) (σ:St) (H:Hp) (E:Value->Shared->Prop),Inv X pins σ H s->(∀b∈fp,FpOk X pins H b)->tn i s.heap->J.stop i H->
   wpAny (model P w) X.A (pyNext (.ref it)) (fun r s1=>r=none/\Inv X pins σ H s1) E s
 self:∀(A:Around) (i:Nat) (s:Shared) (Q:Value->Shared->Prop) (E:Value->Shared->Prop),tn i s.heap->Q (.ref it) s->wpAny (model P w) A (pyIter (.ref it)) Q E s
abbrev TI:=St->Hp->(It->Hp->Prop)->Prop
def PIE (X:Cx)(pins:List (Addr×Obj))(σ:St)(tg:Expr)(R:It->Hp->Prop)(itv:Value)(s2:Shared):Prop:=
 ∃(it:Addr) (fp:List Addr) (tn:Nat->Heap->Prop) (J:It) (H':Hp),itv=.ref it/\Inv X pins σ H' s2/\Turn X.prog X.w X.K tg J fp it tn/\tn 0 s2.heap/\(∀b∈fp,FpOk X pins H' b)/\R J H'
def PI (X:Cx)(tg iter:Expr)(wi:TI):Prop:=
 ∀ (pins : List (Addr × Obj)) (s : Shared) (σ : St) (H : Hp) (R : It -> Hp -> Prop), Inv X pins σ H s -> wi σ H R ->
   wpAny (model X.prog X.w) X.A (eval iter X.env) (fun v s1=>wpAny (model X.prog X.w) X.A (pyIter v) (PIE X pins σ tg R) X.xe s1) X.xe s
theorem y8 (ho:s.heap.get? it=some o)(hc:o.cls=.type n)(hd:o.data=.fields vs)
   (hn:["enumerate","zip","dict_itemiterator","dict_reverseitemiterator","odict_iterator","itertools.zip_longest","itertools.pairwise"].contains n=false) (hQ:Q () s):wpAny M A (Z7 tg (.ref it) u) Q E s:=by
 unfold Z7
 cases tg <;> first
   | exact A6 hQ
   | (cases u <;> first
       | exact A6 hQ
       | (refine A1 (wpAny_load ho ?_)
          rw [hc,hd];show wpAny M A (if(["enumerate","zip","dict_itemiterator","dict_reverseitemiterator","odict_iterator","itertools.zip_longest","itertools.pairwise"].contains n && vs[0]? == some (rawInt _))=true then _ else _) Q E s;rw [if_neg (by intro h;rw [hn,Ba] at h;cases h)]
          exact A6 hQ))
def Itl (K:A3)(a:Addr):It:=
 ⟨fun i H=>∃xs x,SqL K H a xs/\xs[i]?=some x,fun i H x H'=>H'=H/\∀xs,SqL K H a xs->xs[i]?=some x,fun i H=>∃xs,SqL K H a xs/\xs.length<=i⟩
def Itt (K:A3)(a:Addr):It:=
 ⟨fun i H=>∃xs x,SqT K H a xs/\xs[i]?=some x,fun i H x H'=>H'=H/\∀xs,SqT K H a xs->xs[i]?=some x,fun i H=>∃xs,SqT K H a xs/\xs.length<=i⟩
def Itr (lo:Int)(n:Nat):It:=⟨fun i _=>i < n,fun i H x H'=>H'=H/\x=.int (lo + i),fun i _=>n<=i⟩
theorem IB {K:A3}(a it:Addr):Turn P w K tg (Itl K a) [it] it (fun i h=>h.IsListIter it a i) where
 mem:=by simp
 obj:=fun i h st b hb=>by
   have e:b=it:=by simpa using hb
   subst e;obtain⟨o,e,c,d⟩:=st;exact⟨o,e,fun v z=>by rw [d] at z;cases z⟩
 keep:=fun i h h' st k=>st.at fun o e=>k it (by simp) o e
 item:=by
   intro X hP hw hK hc i pins s σ H E I hf st hg;subst hP hw hK;obtain⟨xs,x,hq,hx⟩:=hg;obtain⟨its,rv,p,hz⟩:=I.list hq;obtain⟨u,hu,ru⟩:=rv.get hx;obtain⟨f0,f1,f2,f3,f4,f5⟩:=hf it (by simp);refine wpAny_pyNext_list_item st p.isList (x:=u) (by simpa using hu) fun h' st' sb=>?_;have I1:Inv X pins σ H { s with heap:=h' }:=I.turned (t':=s.toks) (fun b o hb e=>(sb.2 b hb).trans e) f0 f1 f3 f4 f5;obtain⟨o,e,c,d⟩:=id st';exact⟨u,rfl,y8 (s:={ s with heap:=h' }) e c d (by decide) ⟨x,H,I1,ru,⟨rfl,fun ys hy=>by rw [I.list_inj hy hq];exact hx⟩,st',fun b hb=>(hf b hb).1⟩⟩
 done:=by
   intro X hP hw hK hc i pins s σ H E I hf st hg;subst hP hw hK;obtain⟨xs,hq,hx⟩:=hg;obtain⟨its,rv,p,hz⟩:=I.list hq;obtain⟨f0,f1,f2,f3,f4,f5⟩:=hf it (by simp);have hl:=rv.length;exact wpAny_pyNext_list_end (I.ok.hd hc) st p.isList (by simp;omega) fun h' eb=>⟨rfl,I.turned (t':=s.toks) (fun b o hb e=>eb b o hb e) f0 f1 f3 f4 f5⟩
 self:=fun _ _ _ _ _ st h=>wpAny_pyIter_listiter st h
theorem IC {K:A3}(a it:Addr):Turn P w K tg (Itt K a) [it] it (fun i h=>h.IsTupleIter it a i) where
 mem:=by simp
 obj:=fun i h st b hb=>by
   have e:b=it:=by simpa using hb
   subst e;obtain⟨o,e,c,d⟩:=st;exact⟨o,e,fun v z=>by rw [d] at z;cases z⟩
 keep:=fun i h h' st k=>st.at fun o e=>k it (by simp) o e
 item:=by
   intro X hP hw hK hc i pins s σ H E I hf st hg;subst hP hw hK;obtain⟨xs,x,hq,hx⟩:=hg;obtain⟨its,rv,p,hz⟩:=I.tuple hq;obtain⟨u,hu,ru⟩:=rv.get hx;obtain⟨f0,f1,f2,f3,f4,f5⟩:=hf it (by simp);refine wpAny_pyNext_tuple_item st (show s.heap.IsTuple a its.toArray from p) (x:=u) (by simpa using hu) fun h' st' sb=>?_;have I1:Inv X pins σ H { s with heap:=h' }:=I.turned (t':=s.toks) (fun b o hb e=>(sb.2 b hb).trans e) f0 f1 f3 f4 f5;obtain⟨o,e,c,d⟩:=id st';exact⟨u,rfl,y8 (s:={ s with heap:=h' }) e c d (by decide) ⟨x,H,I1,ru,⟨rfl,fun ys hy=>by rw [I.tuple_inj hy hq];exact hx⟩,st',fun b hb=>(hf b hb).1⟩⟩
 done:=by
   intro X hP hw hK hc i pins s σ H E I hf st hg;subst hP hw hK;obtain⟨xs,hq,hx⟩:=hg;obtain⟨its,rv,p,hz⟩:=I.tuple hq;obtain⟨f0,f1,f2,f3,f4,f5⟩:=hf it (by simp);have hl:=rv.length;exact wpAny_pyNext_tuple_end (I.ok.hd hc) st (show s.heap.IsTuple a its.toArray from p) (by simp;omega) fun h' eb=>⟨rfl,I.turned (t':=s.toks) (fun b o hb e=>eb b o hb e) f0 f1 f3 f4 f5⟩
 self:=fun _ _ _ _ _ st h=>wpAny_pyIter_tupleiter st h
theorem ID {K:A3}(it:Addr)(lo:Int)(n:Nat):Turn P w K tg (Itr lo n) [it] it (fun i h=>IsRangeIter h it (lo + (i:Nat) * 1) ((n:Int) - (i:Nat)) 1) where
 mem:=by simp
 obj:=fun i h st b hb=>by
   have e:b=it:=by simpa using hb
   subst e
   exact⟨_,st,fun v z=>by
     have z':Data.fields _=Data.cell v:=z
     cases z'⟩
 keep:=fun i h h' st k=>k it (by simp) _ st
 item:=by
   intro X hP hw hK hc i pins s σ H E I hf st hg;subst hP hw hK;obtain⟨f0,f1,f2,f3,f4,f5⟩:=hf it (by simp);have W:=Walks.range (prog:=X.prog) (w:=X.w) (I.ok.hd hc) it lo 1 n;refine W.item i s _ _ hg st fun v h' tk hv st' kk=>?_;obtain⟨t,rfl⟩:=hv;have I1:Inv X pins σ H { s with heap:=h',toks:=tk }:=I.turned (fun b o hb e=>kk b o (by simpa using hb) e) f0 f1 f3 f4 f5;refine⟨_,rfl,y8 (s:={ s with heap:=h',toks:=tk }) (n:="range_iterator") st' rfl rfl (by decide) ⟨.int (lo + i),H,I1,⟨t,?_⟩,⟨rfl,rfl⟩,st',fun b hb=>(hf b hb).1⟩⟩;rw [Int.mul_one]
 done:=by
   intro X hP hw hK hc i pins s σ H E I hf st hg;subst hP hw hK;obtain⟨f0,f1,f2,f3,f4,f5⟩:=hf it (by simp);exact wpAny_pyNext_range_end (I.ok.hd hc) st (by have:n<=i:=hg;omega) fun h' eb=>⟨rfl,I.turned (t':=s.toks) (fun b o hb e=>eb b o hb e) f0 f1 f3 f4 f5⟩
 self:=fun _ _ _ _ _ st h=>Ca st h
section
variable {X:Cx}{tg:Expr}
def iList (K:A3)(tl:TE):TI:=fun σ H R=>tl σ H fun x H1=>∃a,x=.ref a/\(∃xs,SqL K H1 a xs)/\R (Itl K a) H1
def iTup (K:A3)(tl:TE):TI:=fun σ H R=>tl σ H fun x H1=>∃a,x=.ref a/\(∃xs,SqT K H1 a xs)/\R (Itt K a) H1
theorem EH (hl:PE X l tl):PI X tg l (iList X.K tl):=by
 intro pins s σ H R I h;refine thn (hl pins s σ H _ I h) fun v s1 ⟨x,H1,I1,r1,q1⟩=>?_;obtain⟨a,e,⟨xs,hq⟩,q⟩:=q1;subst e;cases r1;obtain⟨its,rv,p,hz⟩:=I1.list hq;refine AK p.isList ?_;refine⟨s1.heap.objs.size,[s1.heap.objs.size],_,_,H1,rfl,I1.kept (t':=s1.toks) fun b o e=>B6 _ e,IB a _,⟨_,E6 _ rfl,rfl,rfl⟩,fun b hb=>?_,q⟩;have e:b=s1.heap.objs.size:=by simpa using hb
 subst e;exact I1.fpOk (A8 _) (I1.hok.fresh (A8 _))
theorem pi_tup (hl:PE X l tl):PI X tg l (iTup X.K tl):=by
 intro pins s σ H R I h;refine thn (hl pins s σ H _ I h) fun v s1 ⟨x,H1,I1,r1,q1⟩=>?_;obtain⟨a,e,⟨xs,hq⟩,q⟩:=q1;subst e;cases r1;obtain⟨its,rv,p,hz⟩:=I1.tuple hq;refine w4 (show s1.heap.IsTuple a its.toArray from p) ?_;refine⟨s1.heap.objs.size,[s1.heap.objs.size],_,_,H1,rfl,I1.kept (t':=s1.toks) fun b o e=>B6 _ e,IC a _,⟨_,E6 _ rfl,rfl,rfl⟩,fun b hb=>?_,q⟩;have e:b=s1.heap.objs.size:=by simpa using hb
 subst e;exact I1.fpOk (A8 _) (I1.hok.fresh (A8 _))
theorem EI {lo hi:Int}(I:Inv X pins σ H s)(h1:-(2 ^ 62)<=lo)(h2:lo < 2 ^ 62)(h3:-(2 ^ 62)<=hi)(h4:hi < 2 ^ 62)
   (q:R (Itr lo (hi - lo).toNat) H):wpAny (model X.prog X.w) X.A (pyIter (.ref s.heap.objs.size)) (PIE X pins σ tg R) E { s with heap:=s.heap.push { cls:=.type "range",data:=.fields #[.int lo t,.int hi u,.int 1 v] },toks:=tk }:=by
 refine wpAny_pyIter_range (IsRange.new ..) (small_one h1 h2 h3 h4) ?_;have I1:Inv X pins σ H { s with heap:=s.heap.push { cls:=.type "range",data:=.fields #[.int lo t,.int hi u,.int 1 v] },toks:=tk }:=I.kept fun b o e=>B6 _ e
 refine⟨(s.heap.push { cls:=.type "range",data:=.fields #[.int lo t,.int hi u,.int 1 v] }).objs.size,[(s.heap.push { cls:=.type "range",data:=.fields #[.int lo t,.int hi u,.int 1 v] }).objs.size],_,_,H,rfl,
   I1.kept (t':=tk) fun b o e=>B6 _ e,ID _ lo (hi - lo).toNat,?_,fun b hb=>?_,q⟩
 · have e1:lo + ((0:Nat):Int) * 1=lo:=by simp
   have e2:(((hi - lo).toNat:Nat):Int) - ((0:Nat):Int)=Cn lo hi 1:=by rw [rangeSize_one];split <;> omega
   show IsRangeIter _ _ (lo + ((0:Nat):Int) * 1) ((((hi - lo).toNat:Nat):Int) - ((0:Nat):Int)) 1;rw [e1,e2];exact E6 _ rfl
 · have e:b=(s.heap.push { cls:=.type "range",data:=.fields #[.int lo t,.int hi u,.int 1 v] }).objs.size:=by simpa using hb
   subst e;exact I1.fpOk (A8 _) (I1.hok.fresh (A8 _))
def iRng1 (ta:TA):TI:=fun σ H R=>ta σ H fun vs H1=>∃j:Int,vs=[.int j]/\-(2 ^ 62)<=j/\j < 2 ^ 62/\R (Itr 0 j.toNat) H1
def iRng2 (ta:TA):TI:=fun σ H R=>ta σ H fun vs H1=>∃i j:Int,vs=[.int i,.int j]/\(-(2 ^ 62)<=i/\i < 2 ^ 62/\-(2 ^ 62)<=j/\j < 2 ^ 62)/\R (Itr i (j - i).toNat) H1
theorem IE (hg:Gl X "range")(hm:X.mg "range"=none)(ha:PA X [a] ta)(hs:C7 [a] X.env=[(false,eval a X.env)]:=by rfl):PI X tg (.Call (.Name "range" p) [a] [] pos) (iRng1 ta):=by
 intro pins s σ H R I h;refine Call_ (R5 I hg hm boot_range (X4 (thn (ha pos pins s σ H _ I h) fun us s1 ⟨vs,H1,I1,r1,q1⟩=>?_) hs rfl));obtain⟨j,e,q1,q2,q⟩:=q1;subst e;cases r1 with
 | cons r rr =>
   cases rr;obtain⟨t,rfl⟩:=r;exact call_range_1 (EI I1 (by omega) (by omega) q1 q2 (by simpa using q))
theorem IF {a b:Expr}{ta:TA}{p pos:Pos}(hg:Gl X "range")(hm:X.mg "range"=none)(ha:PA X [a,b] ta)(hs:C7 [a,b] X.env=[(false,eval a X.env),(false,eval b X.env)]:=by rfl)(hs2:C7 [b] X.env=[(false,eval b X.env)]:=by rfl) :
   PI X tg (.Call (.Name "range" p) [a,b] [] pos) (iRng2 ta):=by
 intro pins s σ H R I h;refine Call_ (R5 I hg hm boot_range (X4 (thn (ha pos pins s σ H _ I h) fun us s1 ⟨vs,H1,I1,r1,q1⟩=>?_) (by rw [hs,hs2]) (by rw [hs2];rfl)));obtain⟨i,j,e,⟨q1,q2,q3,q4⟩,q⟩:=q1;subst e;cases r1 with
 | cons r rr =>
   cases rr with
   | cons r' rr =>
     cases rr;obtain⟨t,rfl⟩:=r;obtain⟨t',rfl⟩:=r';exact call_range_2 (EI I1 q1 q2 q3 q4 q)
def tFor (wi:TI)(g:TG)(tb:TS):TS:=fun D σ H=>wi σ H fun J H1=>∃W:Nat->Nat->St->Hp->Prop,(∃m,W 0 m σ H1)/\∀i m σ H,W i m σ H->
 (J.stop i H/\D.nx σ H)\/(J.go i H/\∃N:St->Hp->Prop,(∀σ' H',N σ' H'->∃m',m' < m/\W (i + 1) m' σ' H')/\∀x H',J.yld i H x H'->g x σ H' fun σ2 H2=>tb { D with nx:=N,ct:=N,bk:=D.nx } σ2 H2)
def N4 (fp:List Addr)(h:Heap):List (Addr×Obj):=fp.filterMap fun b=>(h.get? b).map fun o=>(b,o)
theorem P6 (hb:b∈fp)(e:h.get? b=some o):(b,o)∈N4 fp h:=List.mem_filterMap.mpr ⟨b,hb,by rw [e];rfl⟩
theorem IG (hp:p∈N4 fp h):p.1∈fp/\h.get? p.1=some p.2:=by
 obtain⟨b,hb,e⟩:=List.mem_filterMap.mp hp;cases q:h.get? b with
 | none=>rw [q] at e;cases e
 | some o =>
   rw [q] at e;have e':(b,o)=p:=D7 e;subst e';exact⟨hb,q⟩
theorem Inv.pinned (I:Inv X pins σ H s)(hf:∀b∈fp,FpOk X pins H b)(ho:∀b∈fp,∃o,s.heap.get? b=some o/\∀v,o.data≠.cell v):Inv X (pins++N4 fp s.heap) σ H s:=
 I.pins_of fun p hp=>(E7.mp hp).elim (fun z=>I.pin p (F6 _ z)) fun z=>by
   obtain⟨hb,e⟩:=IG z;obtain⟨f0,f1,f2,_⟩:=hf p.1 hb;obtain⟨o,e',d⟩:=ho p.1 hb;rw [e] at e';cases e';exact⟨e,f0,f1,f2,d⟩
theorem Inv.unpinned (I:Inv X (pins++pl) σ H s):Inv X pins σ H s:=I.pins_of fun p hp=>I.pin p (F6 _ (j6 _ hp))
theorem EJ (hp:PassesOwn (model X.prog X.w) X.A X.env X.xe)(hc:X.calm=true)(hi:PI X tg iter wi)(hg:PG X tg g)(hb:PSs X body tb)
   (hs:∀x,N9 iter X.env x=pure x:=by intro _;rfl):PS X (.For tg iter body [] pos) (tFor wi g tb):=by
 intro pins s σ H D I h;refine wpAny_For (thn (hi pins s σ H _ I h) fun v s1 h1=>thn h1 fun itv s2 h2=>?_) hs;obtain⟨it,fp,tn,J,H2,e,I2,T,st2,f2,W,⟨m0,w0⟩,turn⟩:=h2;subst e
 -- what stays true of the iterator's objects through the loop
 have stat:∀{H':Hp},(∀b∈fp,H' b=none)->∀b∈fp,FpOk X pins H' b:=fun hn b hb=>⟨hn b hb,(f2 b hb).2⟩;refine codeAny_forLoop_any (fun n s'=>∃i σ' H',Inv X pins σ' H' s'/\tn i s'.heap/\(∀b∈fp,H' b=none)/\W i n σ' H') ?_ m0 ⟨0,σ,H2,I2,st2,fun b hb=>(f2 b hb).1,w0⟩;rintro n s3 ⟨i,σ3,H3,I3,st3,fr3,w3⟩;rcases turn i n σ3 H3 w3 with⟨stop,qn⟩ | ⟨go,N,hN,step⟩
 · refine Z6 hp (thn (T.done X rfl rfl rfl hc i pins s3 σ3 H3 X.xe I3 (stat fr3) st3 stop) fun r s4 ⟨hr,I4⟩=>?_);subst hr;exact AM ⟨σ3,H3,I4,qn⟩
 · refine Z6 hp (thn (T.item X rfl rfl rfl hc i pins s3 σ3 H3 X.xe I3 (stat fr3) st3 go) fun r s4 ⟨u,hr,h4⟩=>?_);subst hr;refine Z6 hp (thn h4 fun _ s5 ⟨x,H5,I5,r5,y5,st5,fr5⟩=>?_);have I5':=I5.pinned (stat fr5) (T.obj _ _ st5);refine Z6 hp (thn (hg _ s5 σ3 H5 x u _ I5' r5 (step x H5 y5)) fun _ s6 ⟨σ6,H6,I6,q6⟩=>?_);refine Z6 hp (thn (hb _ s6 σ6 H6 _ I6 q6) fun f s7 q7=>?_)
   have again:∀{σ7:St} {H7:Hp},Inv X (pins++N4 fp s5.heap) σ7 H7 s7->N σ7 H7->∃m,m < n/\∃i σ' H',Inv X pins σ' H' s7/\tn i s7.heap/\(∀b∈fp,H' b=none)/\W i m σ' H':=fun {σ7 H7} I7 n7=>by
     obtain⟨m',hm,w7⟩:=hN σ7 H7 n7;refine⟨m',hm,i + 1,σ7,H7,I7.unpinned,T.keep _ _ _ st5 fun b hb o e=>(I7.pin (b,o) (F6 _ (F6 _ (P6 hb e)))).1,fun b hb=>?_,w7⟩;obtain⟨o,e,d⟩:=T.obj _ _ st5 b hb;exact(I7.pin (b,o) (F6 _ (F6 _ (P6 hb e)))).2.1
   cases f with
   | next=>obtain⟨σ7,H7,I7,n7⟩:=q7;exact again I7 n7
   | cont=>obtain⟨σ7,H7,I7,n7⟩:=q7;exact again I7 n7
   | brk=>obtain⟨σ7,H7,I7,q7⟩:=q7;exact⟨σ7,H7,I7.unpinned,q7⟩
   | ret v=>obtain⟨x7,σ7,H7,I7,r7,q7⟩:=q7;exact⟨x7,σ7,H7,I7.unpinned,r7,q7⟩
end
theorem IH {K:A3}{a:Addr}{xs:List V}{g:TG}{tb:TS}{D:Ends}{σ:St}{H:Hp}(Pv:Nat->St->Hp->Prop)(h0:Pv 0 σ H)(hl:∀i σ H,i<=xs.length->Pv i σ H->SqL K H a xs)
   (hs:∀i x σ H,xs[i]?=some x->Pv i σ H->g x σ H fun σ2 H2=>tb { D with nx:=Pv (i + 1),ct:=Pv (i + 1),bk:=D.nx } σ2 H2) (hd:∀σ H,Pv xs.length σ H->D.nx σ H) :
   ∃ W : Nat -> Nat -> St -> Hp -> Prop, (∃ m, W 0 m σ H) /\ ∀ i m σ H, W i m σ H ->
     ((Itl K a).stop i H/\D.nx σ H)\/((Itl K a).go i H/\∃N:St->Hp->Prop,(∀σ' H',N σ' H'->∃m',m' < m/\W (i + 1) m' σ' H')/\∀x H',(Itl K a).yld i H x H'->g x σ H' fun σ2 H2=>tb { D with nx:=N,ct:=N,bk:=D.nx } σ2 H2):=by
 refine⟨fun i m σ H=>m=xs.length - i/\i<=xs.length/\Pv i σ H,⟨xs.length,by simp,O7 _,h0⟩,?_⟩;rintro i m σ H ⟨rfl,hi,p⟩;have q:=hl i σ H hi p
 by_cases hlt:i < xs.length
 · refine .inr ⟨⟨xs,xs[i],q,by simp [hlt]⟩,Pv (i + 1),fun σ' H' p'=>⟨xs.length - (i + 1),by omega,rfl,hlt,p'⟩,fun x H' y=>?_⟩;obtain⟨e,y⟩:=y;subst e;exact hs i x σ _ (y xs q) p
 · have e:i=xs.length:=by omega
   subst e;exact .inl ⟨⟨xs,q,A8 _⟩,hd σ H p⟩
abbrev R2:=V->V->Hp->VK->Prop
def OpR (X:Cx)(f:Value->Value->Sem Value)(r:R2):Prop:=
 ∀ (pins : List (Addr × Obj)) (s : Shared) (σ : St) (H : Hp) (x y : V) (v u : Value) (Q : VK), Inv X pins σ H s -> RelV x v -> RelV y u -> r x y H Q ->
   wpAny (model X.prog X.w) X.A (f v u) (EP X pins σ Q) X.xe s
def UnR (X:Cx)(f:Value->Sem Value)(r:V->Hp->VK->Prop):Prop:=
 ∀ (pins : List (Addr × Obj)) (s : Shared) (σ : St) (H : Hp) (x : V) (v : Value) (Q : VK), Inv X pins σ H s -> RelV x v -> r x H Q ->
   wpAny (model X.prog X.w) X.A (f v) (EP X pins σ Q) X.xe s
def J1 (X:Cx)(f:Value)(r:List V->Hp->VK->Prop):Prop:=
 ∀ (pins : List (Addr × Obj)) (s : Shared) (σ : St) (H : Hp) (xs : List V) (us : List Value) (Q : VK), Inv X pins σ H s -> Vals xs us -> r xs H Q ->
   wpAny (model X.prog X.w) X.A (call f us) (EP X pins σ Q) X.xe s
def tOp (r:R2)(ta tb:TE):TE:=fun σ H Q=>ta σ H fun x H1=>tb σ H1 fun y H2=>r x y H2 Q
def tUn (r:V->Hp->VK->Prop)(ta:TE):TE:=fun σ H Q=>ta σ H fun x H1=>r x H1 Q
def rI (C:Int->Int->Prop)(g:Int->Int->V):R2:=fun x y H Q=>∃i j,x=.int i/\y=.int j/\C i j/\Q (g i j) H
def rI0 (g:Int->Int->V):R2:=fun x y H Q=>∃i j,x=.int i/\y=.int j/\Q (g i j) H
def rU (g:Int->V):V->Hp->VK->Prop:=fun x H Q=>∃i,x=.int i/\Q (g i) H
section
variable {X:Cx}{a b c:Expr}{ta tb tc:TE}{pos:Pos}
theorem binT (ha:PE X a ta)(hb:PE X b tb){R:V->V->Hp->Prop}(I:Inv X pins σ H s)
   (h:ta σ H fun x H1=>tb σ H1 fun y H2=>R x y H2) {f:Value->Value->Sem Value}
   (hf:∀v u s2 x y H2,Inv X pins σ H2 s2->RelV x v->RelV y u->R x y H2->wpAny (model X.prog X.w) X.A (f v u) Q X.xe s2) :
   wpAny (model X.prog X.w) X.A (eval a X.env) (fun v s₁=>wpAny (model X.prog X.w) X.A (eval b X.env) (fun u s₂=>wpAny (model X.prog X.w) X.A (f v u) Q X.xe s₂) X.xe s₁) X.xe s:=by
 refine thn (ha pins s σ H _ I h) fun v s1 ⟨x,H1,I1,r1,q1⟩=>?_;refine thn (hb pins s1 σ H1 _ I1 q1) fun u s2 ⟨y,H2,I2,r2,q2⟩=>?_;exact hf v u s2 x y H2 I2 r1 r2 q2
theorem D4 (ho:OpR X (O1 op) r)(ha:PE X a ta)(hb:PE X b tb):PE X (.BinOp a op b pos) (tOp r ta tb):=by
 intro pins s σ H Q I h;exact wpAny_BinOp (binT ha hb I h fun v u s2 x y H2 I2 rx ry q=>ho pins s2 σ H2 x y v u Q I2 rx ry q)
theorem pe_un (ho:UnR X (unaryOp op) r)(ha:PE X a ta):PE X (.UnaryOp op a pos) (tUn r ta):=by
 intro pins s σ H Q I h;exact UnaryOp_ (thn (ha pins s σ H _ I h) fun v s1 ⟨x,H1,I1,r1,q1⟩=>ho pins s1 σ H1 x v Q I1 r1 q1)
theorem opI {g:Int->Int->Int}
   (rule:∀(i j:Int) (t u:Tok) (s:Shared) (Q:Value->Shared->Prop) (E:Value->Shared->Prop),C i j->Q (.int (g i j) s.toks) { s with toks:=s.toks + 1 }->wpAny (model X.prog X.w) X.A (f (.int i t) (.int j u)) Q E s) :
   OpR X f (rI C fun i j=>.int (g i j)):=by
 intro pins s σ H x y v u Q I rx ry h;obtain⟨i,j,rfl,rfl,hc,q⟩:=h;obtain⟨t,rfl⟩:=rx;obtain⟨t',rfl⟩:=ry;exact rule i j t t' s _ _ hc ⟨.int (g i j),H,I.tok _,⟨_,rfl⟩,q⟩
theorem opI0 {g:Int->Int->Int}
   (rule:∀(i j:Int) (t u:Tok) (s:Shared) (Q:Value->Shared->Prop) (E:Value->Shared->Prop),Q (.int (g i j) s.toks) { s with toks:=s.toks + 1 }->wpAny (model X.prog X.w) X.A (f (.int i t) (.int j u)) Q E s) :
   OpR X f (rI0 fun i j=>.int (g i j)):=by
 intro pins s σ H x y v u Q I rx ry h;obtain⟨i,j,rfl,rfl,q⟩:=h;obtain⟨t,rfl⟩:=rx;obtain⟨t',rfl⟩:=ry;exact rule i j t t' s _ _ ⟨.int (g i j),H,I.tok _,⟨_,rfl⟩,q⟩
theorem opB0 {g:Int->Int->Bool}
   (rule:∀(i j:Int) (t u:Tok) (s:Shared) (Q:Value->Shared->Prop) (E:Value->Shared->Prop),Q (.bool (g i j)) s->wpAny (model X.prog X.w) X.A (f (.int i t) (.int j u)) Q E s) :
   OpR X f (rI0 fun i j=>.bl (g i j)):=by
 intro pins s σ H x y v u Q I rx ry h;obtain⟨i,j,rfl,rfl,q⟩:=h;obtain⟨t,rfl⟩:=rx;obtain⟨t',rfl⟩:=ry;exact rule i j t t' s _ _ ⟨.bl (g i j),H,I,rfl,q⟩
def CDiv (i j:Int):Prop:=0 < j/\j < 1073741824
def CPow (i j:Int):Prop:=0<=j/\j<=1000000/\i.natAbs < 2 ^ 64
def CMul (i j:Int):Prop:=(-(2 ^ 64) < i/\i < 2 ^ 64)\/(-(2 ^ 64) < j/\j < 2 ^ 64)
theorem CMul.ok (h:CMul i j):IntMulOk i j:=by
 rcases h with⟨h1,h2⟩ | ⟨h1,h2⟩
 · exact .of_left (intBits_le_64 h1 h2)
 · exact .of_right (intBits_le_64 h1 h2)
theorem U2:OpR X (O1 .Add) (rI0 fun i j=>.int (i + j)):=opI0 fun _ _ _ _ _ _ _ q=>add_int q
theorem op_sub:OpR X (O1 .Sub) (rI0 fun i j=>.int (i - j)):=opI0 fun _ _ _ _ _ _ _ q=>sub_int q
theorem V5:OpR X (O1 .Mult) (rI CMul fun i j=>.int (i * j)):=opI fun _ _ _ _ _ _ _ hc q=>mul_int q hc.ok
theorem Bi:OpR X (O1 .FloorDiv) (rI CDiv fun i j=>.int (i / j)):=opI fun i j _ _ _ _ _ hc q=>by
 have h1:(0:Int) < j:=hc.1;have h2:j < 1073741824:=hc.2;exact floordiv_int (by omega) (by rw [Int.fdiv_eq_ediv_of_nonneg i (by omega)];exact q) (.inl (PyProof.noPylong_small (by omega)))
theorem V6:OpR X (O1 .Mod) (rI (fun _ j=>0 < j) fun i j=>.int (i % j)):=opI fun i j _ _ _ _ _ hc q=>by
 have h1:(0:Int) < j:=hc;exact mod_int' (by omega) (by rw [Int.fmod_eq_emod_of_nonneg i (by omega)];exact q)
theorem CC:OpR X (O1 .Pow) (rI CPow fun i j=>.int (i ^ j.toNat)):=opI fun _ _ _ _ _ _ _ hc q=>pow_int_small hc.1 hc.2.1 hc.2.2 q
theorem II:OpR X (inplaceOp .Add) (rI0 fun i j=>.int (i + j)):=opI0 fun _ _ _ _ _ _ _ q=>iadd_int q
theorem unI {g:Int->Int}
   (rule:∀(i:Int) (t:Tok) (s:Shared) (Q:Value->Shared->Prop) (E:Value->Shared->Prop),Q (.int (g i) s.toks) { s with toks:=s.toks + 1 }->wpAny (model X.prog X.w) X.A (f (.int i t)) Q E s) :
   UnR X f (rU fun i=>.int (g i)):=by
 intro pins s σ H x v Q I rx h;obtain⟨i,rfl,q⟩:=h;obtain⟨t,rfl⟩:=rx;exact rule i t s _ _ ⟨.int (g i),H,I.tok _,⟨_,rfl⟩,q⟩
theorem EK:UnR X (unaryOp .USub) (rU fun i=>.int (-i)):=unI fun _ _ _ _ _ q=>neg_int q
end
section
variable {X:Cx}{a b c:Expr}{ta tb tc:TE}{pos:Pos}
theorem CD (I:Inv X pins σ H s)(q:Q (.bl k) H)(e:k=k'):EP X pins σ Q (.bool k') s:=by
 subst e;exact⟨.bl k,H,I,rfl,q⟩
theorem op_lt:OpR X (G5 .Lt) (rI0 fun i j=>.bl (decide (i < j))):=opB0 fun _ _ _ _ _ _ _ q=>lt_int q
theorem op_le:OpR X (G5 .LtE) (rI0 fun i j=>.bl (decide (i<=j))):=opB0 fun _ _ _ _ _ _ _ q=>le_int q
theorem op_gt:OpR X (G5 .Gt) (rI0 fun i j=>.bl (decide (j < i))):=opB0 fun _ _ _ _ _ _ _ q=>gt_int q
theorem op_ge:OpR X (G5 .GtE) (rI0 fun i j=>.bl (decide (j<=i))):=opB0 fun _ _ _ _ _ _ _ q=>ge_int q
theorem IJ:OpR X (G5 .Lt) (fun x y H Q=>∃i j,x=.str i/\y=.str j/\Q (.bl (decide (i.cps.toList < j.cps.toList))) H):=by
 intro pins s σ H x y v u Q I rx ry h;obtain⟨i,j,rfl,rfl,q⟩:=h;obtain⟨t,rfl⟩:=rx;obtain⟨t',rfl⟩:=ry;exact lt_str (CD I q rfl)
theorem IK:OpR X (G5 .In) (fun x y H Q=>∃i j,x=.str i/\y=.str j/\Q (.bl (!(l6 j i 0 j.length 1).isEmpty)) H):=by
 intro pins s σ H x y v u Q I rx ry h;obtain⟨i,j,rfl,rfl,q⟩:=h;obtain⟨t,rfl⟩:=rx;obtain⟨t',rfl⟩:=ry;exact in_str (CD I q rfl)
theorem OpR.or (h:OpR X f r)(h':OpR X f r'):OpR X f (fun x y H Q=>r x y H Q\/r' x y H Q):=by
 intro pins s σ H x y v u Q I rx ry q;rcases q with q | q
 · exact h pins s σ H x y v u Q I rx ry q
 · exact h' pins s σ H x y v u Q I rx ry q
theorem D5 (b:Expr)(h:op≠.In:=by decide)(h2:op≠.NotIn:=by decide):i8 op b=false:=by
 have e1:(op == CmpOp.In)=false:=by cases op <;> first | rfl | exact absurd rfl h
 have e2:(op == CmpOp.NotIn)=false:=by cases op <;> first | rfl | exact absurd rfl h2
 cases b <;> simp [i8,e1,e2]
theorem CF (ho:OpR X (G5 op) r)(ha:PE X a ta)(hb:PE X b tb)(hm:i8 op b=false):PE X (.Compare a [op] [b] pos) (tOp r ta tb):=by
 intro pins s σ H Q I h;exact wpAny_Compare1 (binT ha hb I h fun v u s2 x y H2 I2 rx ry q=>ho pins s2 σ H2 x y v u Q I2 rx ry q) hm
def CG (t:TE):TT:=fun σ H Q=>t σ H fun x H'=>∃k,x=.bl k/\Q k H'
theorem y9 (ho:OpR X (G5 op) r)(ha:PE X a ta)(hb:PE X b tb)(hm:i8 op b=false):PT X (.Compare a [op] [b] pos) (CG (tOp r ta tb)):=by
 intro pins s σ H Q I h
 refine wpAny_isTrue_Compare1 (thn (ha pins s σ H _ I h) fun v s1 ⟨x,H1,I1,r1,q1⟩=>thn (hb pins s1 σ H1 _ I1 q1) fun u s2 ⟨y,H2,I2,r2,q2⟩=>
   thn (ho pins s2 σ H2 x y v u _ I2 r1 r2 q2) fun c s3 ⟨z,H3,I3,r3,k,e,q3⟩=>?_) hm
 subst e;cases r3;exact Z5 ⟨H3,I3,q3⟩
def CH (r r':R2)(ta tb tc:TE):TE:=fun σ H Q=>ta σ H fun x H1=>tb σ H1 fun y H2=>r x y H2 fun z H3=>∃k,z=.bl k/\
 (if k=true then tc σ H3 fun w' H4=>r' y w' H4 Q else Q (.bl false) H3)
theorem IL (ho:OpR X (G5 op) r)(ho':OpR X (G5 op') r')(ha:PE X a ta)(hb:PE X b tb)(hc:PE X c tc)
   (hm:lastMarks [op,op'] [b,c]=false:=by with_unfolding_all rfl):PE X (.Compare a [op,op'] [b,c] pos) (CH r r' ta tb tc):=by
 intro pins s σ H Q I h
 refine Compare_chain (thn (ha pins s σ H _ I h) fun v s1 ⟨x,H1,I1,r1,q1⟩=>chain_link (thn (hb pins s1 σ H1 _ I1 q1) fun u s2 ⟨y,H2,I2,r2,q2⟩=>
   thn (ho pins s2 σ H2 x y v u _ I2 r1 r2 q2) fun d s3 ⟨z,H3,I3,r3,k,e,q3⟩=>?_)) hm
 subst e;cases r3;refine Z5 ?_;cases k with
 | false=>exact ite_ff ⟨.bl false,H3,I3,rfl,q3⟩
 | true=>exact ite_tt (chain_last (thn (hc pins s3 σ H3 _ I3 q3) fun w' s4 ⟨z',H4,I4,r4,q4⟩=>ho' pins s4 σ H4 y z' u w' Q I4 r2 r4 q4))
theorem IM (ho:OpR X (G5 op) r)(ho':OpR X (G5 op') r')(ha:PE X a ta)(hb:PE X b tb)(hc:PE X c tc)
   (hm:lastMarks [op,op'] [b,c]=false:=by with_unfolding_all rfl):PT X (.Compare a [op,op'] [b,c] pos) (CG (CH r r' ta tb tc)):=by
 intro pins s σ H Q I h
 refine isTrue_chain (thn (ha pins s σ H _ I h) fun v s1 ⟨x,H1,I1,r1,q1⟩=>test_link (thn (hb pins s1 σ H1 _ I1 q1) fun u s2 ⟨y,H2,I2,r2,q2⟩=>
   thn (ho pins s2 σ H2 x y v u _ I2 r1 r2 q2) fun d s3 ⟨z,H3,I3,r3,k,e,q3⟩=>?_)) hm
 subst e;cases r3;refine Z5 ?_;cases k with
 | false =>
   obtain⟨k',e',q'⟩:=q3;cases e';exact ite_ff ⟨H3,I3,q'⟩
 | true =>
   refine ite_tt (test_last (thn (hc pins s3 σ H3 _ I3 q3) fun w' s4 ⟨z',H4,I4,r4,q4⟩=>thn (ho' pins s4 σ H4 y z' u w' _ I4 r2 r4 q4) fun d' s5 ⟨z2,H5,I5,r5,k2,e2,q5⟩=>?_));subst e2;cases r5;exact Z5 ⟨H5,I5,q5⟩
theorem o7:(B1:Nat) < 2 ^ 63:=by rw [sizeLine_eq];decide
theorem IN:OpR X (O1 .Add) (fun x y H Q=>∃i j,x=.str i/\y=.str j/\i.length + j.length<=B1/\Q (.str (i++j)) H):=by
 intro pins s σ H x y v u Q I rx ry h;obtain⟨i,j,rfl,rfl,hz,q⟩:=h;obtain⟨t,rfl⟩:=rx;obtain⟨t',rfl⟩:=ry;exact add_str (fun t' tk=>⟨.str (i++j),H,I.tok _,⟨_,rfl⟩,q⟩) hz
theorem X9 (r:Vals [x] us):∃u,us=[u]/\RelV x u:=by
 cases r with
 | cons r1 r2=>cases r2;exact⟨_,rfl,r1⟩
theorem vals2 (r:Vals [x,y] us):∃u w',us=[u,w']/\RelV x u/\RelV y w':=by
 cases r with
 | cons r1 r2 =>
   cases r2 with
   | cons r3 r4=>cases r4;exact⟨_,_,rfl,r1,r3⟩
theorem EL:J1 X (.builtin "abs") (fun xs H Q=>∃i,xs=[.int i]/\Q (.int (if i < 0 then -i else i)) H):=by
 intro pins s σ H xs us Q I r h;obtain⟨i,rfl,q⟩:=h;obtain⟨u,rfl,t,rfl⟩:=X9 r;exact call_abs_int fun u tk=>⟨.int (if i < 0 then -i else i),H,I.tok _,⟨_,rfl⟩,q⟩
theorem IP (hc:X.calm=true):J1 X (.builtin "max") (fun xs H Q=>∃i j,xs=[.int i,.int j]/\Q (.int (if j > i then j else i)) H):=by
 intro pins s σ H xs us Q I r h;obtain⟨i,j,rfl,q⟩:=h;obtain⟨u,w',rfl,⟨t,rfl⟩,⟨t',rfl⟩⟩:=vals2 r;refine max_two_ints (I.ok.hd hc) fun h' tk k=>⟨_,H,I.kept k,?_,q⟩
 by_cases hj:j > i
 · rw [if_pos hj,if_pos hj];exact⟨_,rfl⟩
 · rw [if_neg hj,if_neg hj];exact⟨_,rfl⟩
theorem IQ (hc:X.calm=true):J1 X (.builtin "min") (fun xs H Q=>∃i j,xs=[.int i,.int j]/\Q (.int (if j < i then j else i)) H):=by
 intro pins s σ H xs us Q I r h;obtain⟨i,j,rfl,q⟩:=h;obtain⟨u,w',rfl,⟨t,rfl⟩,⟨t',rfl⟩⟩:=vals2 r;refine min_two_ints (I.ok.hd hc) fun h' tk k=>⟨_,H,I.kept k,?_,q⟩
 by_cases hj:j < i
 · rw [if_pos hj,if_pos hj];exact⟨_,rfl⟩
 · rw [if_neg hj,if_neg hj];exact⟨_,rfl⟩
theorem EM:J1 X (.type "int") (fun xs H Q=>(∃i,xs=[.int i]/\Q (.int i) H)\/∃k,xs=[.bl k]/\Q (.int (if k then 1 else 0)) H):=by
 intro pins s σ H xs us Q I r h;rcases h with⟨i,rfl,q⟩ | ⟨k,rfl,q⟩
 · obtain⟨u,rfl,t,rfl⟩:=X9 r;exact call_int_int ⟨.int i,H,I,⟨_,rfl⟩,q⟩
 · obtain⟨u,rfl,r1⟩:=X9 r;cases r1;exact call_int_bool ⟨.int (if k then 1 else 0),H,I.tok _,⟨_,rfl⟩,q⟩
end
structure ObjM (h:Heap)(x dx C:Addr)(mA:Str->Option Value):Prop where
 obj:h.get? x=some (PySem.W.instObj C dx)
 ns:h.Ns1 dx mA
 ne:dx≠x
theorem IR {h:Heap}(n:h.Ns1 dx mA):∃od,h.get? dx=some od/\∀name,PySem.W.lookIn name od=some (mA name):=by
 obtain⟨o,es,ep,ho,hd,hk,_,hm⟩:=n;refine⟨o,ho,fun name=>?_⟩;have e:=hm name;unfold nsFind findBy at e;rw [<- Array.find?_toList] at e;unfold PySem.W.lookIn;rw [hd];dsimp only
 split
 · grind
 · rename_i q;rw [q] at e
   have a:es.toList.any (·.refKey)=false:=by
     rw [List.any_eq_false];intro y hy;obtain⟨z,t,hkey⟩:=hk y (Array.mem_toList_iff.mp hy);simp [DictEntry.refKey,hkey]
   have a':¬es.toList.any (·.refKey)=true:=by rw [a];exact N1
   rw [if_neg a'];exact congrArg some e
theorem ObjM.look (I:ObjM h x dx C mA):∃od,PySem.W.InstAt h x (PySem.W.instObj C dx) C (some od)/\∀name,PySem.W.lookIn name od=some (mA name):=
 let ⟨od,ho,hl⟩:=IR I.ns
 ⟨od,⟨I.obj,rfl,rfl,ho⟩,hl⟩
section
variable {P:C3}{w:World}{H H':Hp}{h h':Heap}{a C dx:Addr}{fs fs':List (Str×V)}
theorem IS (hok:HOk P w H h)(e:H a=some (.ins C dx fs)):∃mA,ObjM h a dx C mA/\(∀f,RelO (fs.lookup f) (mA f))/\PySem.Within mA (fs.map (·.1))/\fs.length<=1000/\H dx=some (.own a):=by
 obtain⟨d,z,ne,ob,mA,n,r,q⟩:=(show D9 P w H h a (.ins C dx fs) from hok a _ e);exact⟨mA,⟨ob,n,ne⟩,r,q,z,d⟩
end
structure Cls (K:A3)(C:Addr):Prop where
 pg:PySem.W.plainGet K C Str.empty=true
 hd:PySem.W.hasDictIn K C=true
 po:PySem.W.plainOver K C=true
 sa:PySem.W.findIn K (.ref C) "__setattr__"=some (some (.builtin "object.__setattr__"))
theorem Cls.get {K:A3}(c:Cls K C)(f:Str):PySem.W.plainGet K C f=true:=c.pg
section
variable {X:Cx}{pins:List (Addr×Obj)}{σ:St}{H:Hp}{s:Shared}{A:Around}{E:Value->Shared->Prop}{Q:Value->Shared->Prop}{c:Value}{b:Bool}
inductive TyOf (K:A3)(H:Hp):V->Value->Prop where
 | non:TyOf K H .non (.type "NoneType")
 | bl (x:Bool):TyOf K H (.bl x) (.type "bool")
 | int (i:Int):TyOf K H (.int i) (.type "int")
 | str (x:Str):TyOf K H (.str x) (.type "str")
 | flt (x:UInt64):TyOf K H (.flt x) (.type "float")
 | lst {a:Addr} {xs:List V} (e:H a=some (.lst xs)):TyOf K H (.ref a) (.type "list")
 | frz {a:Addr} {o:Obj} {xs:List V} (e:H a=some (.frz o (.lst xs))):TyOf K H (.ref a) (.type "list")
 | tup {a:Addr} {xs:List V} (e:H a=some (.tup xs)):TyOf K H (.ref a) (.type "tuple")
 | dK {a:Addr} {kvs:List (Key×V)} (e:H a=some (.dK kvs)):TyOf K H (.ref a) (.type "dict")
 | dT {a:Addr} {kvs:List (List Key×V)} (e:H a=some (.dT kvs)):TyOf K H (.ref a) (.type "dict")
 | ins {a C dx:Addr} {fs:List (Str×V)} (e:H a=some (.ins C dx fs)) (cl:Cls K C) (ha:PySem.W.findIn K (.ref C) "__class__"=some (some (.builtin "object.__class__")))
     (hn:PySem.W.specialIn K (.builtin "object.__class__") "__get__"=some (some (.builtin "getset_descriptor.__get__"))) (htk:PySem.W.takesIn K (.builtin "object.__class__")=some true)
     (hm:PySem.W.mroIn K C (.type "object")=some true):TyOf K H (.ref a) (.ref C)
theorem IT (I:Inv X pins σ H s)(rx:RelV x u)(ty:TyOf X.K H x t)(e:v4 X.K t c=some b)(h:∀tk,Q (.bool b) { s with toks:=tk }) :
   wpAny (model X.prog X.w) A (call (.builtin "isinstance") [u,c]) Q E s:=by
 cases ty with
 | non=>cases(show u=R1 from rx);exact Q6 PySem.W.kitx_none I.kIn T8 e (fun z=>nomatch z) h
 | bl y=>cases(show u=Value.bool y from rx);exact Q6 PySem.W.kitx_bool I.kIn T8 e (fun z=>nomatch z) h
 | int i=>obtain⟨t,q⟩:=(show ∃t,u=l7 i t from rx);cases q;exact Q6 PySem.W.kitx_int I.kIn T8 e (fun z=>nomatch z) h
 | str y=>obtain⟨t,q⟩:=(show ∃t,u=Value.str y t from rx);cases q;exact Q6 PySem.W.kitx_str I.kIn T8 e (fun z=>nomatch z) h
 | flt y=>obtain⟨t,q⟩:=(show ∃t,u=Value.float y t from rx);cases q;exact Q6 PySem.W.kitx_float I.kIn T8 e (fun z=>nomatch z) h
 | @lst a xs ea =>
   cases(show u=J9 a from rx);obtain⟨_,_,n,_,h1⟩:=(show D9 X.prog X.w H s.heap a (.lst xs) from I.hok a _ ea);exact Q6 PySem.W.kitx_list I.kIn ⟨_,h1,rfl⟩ e (fun z=>nomatch z) h
 | @frz a ob xs ea =>
   cases(show u=J9 a from rx);obtain⟨_,_,_,n,_,h1⟩:=(show D9 X.prog X.w H s.heap a (.frz ob (.lst xs)) from I.hok a _ ea);exact Q6 PySem.W.kitx_list I.kIn ⟨_,h1,rfl⟩ e (fun z=>nomatch z) h
 | @tup a xs ea =>
   cases(show u=J9 a from rx);obtain⟨_,_,_,p⟩:=(show D9 X.prog X.w H s.heap a (.tup xs) from I.hok a _ ea);obtain⟨o,h1,h2,_⟩:=p;exact Q6 PySem.W.kitx_tuple I.kIn ⟨o,h1,(o5 h2).1⟩ e (fun z=>nomatch z) h
 | @dK a kvs ea =>
   cases(show u=J9 a from rx);obtain⟨_,_,vs,_,p⟩:=(show D9 X.prog X.w H s.heap a (.dK kvs) from I.hok a _ ea);obtain⟨o,es,ep,h1,h2,_⟩:=p;exact Q6 PySem.W.kitx_dict I.kIn ⟨o,h1,h2.1⟩ e (fun z=>nomatch z) h
 | @dT a kvs ea =>
   cases(show u=J9 a from rx);obtain⟨_,_,xs,_,o,es,ep,h1,h2,_⟩:=(show D9 X.prog X.w H s.heap a (.dT kvs) from I.hok a _ ea);exact Q6 PySem.W.kitx_dict I.kIn ⟨o,h1,h2.1⟩ e (fun z=>nomatch z) h
 | @ins a C dx fs ea cl ha hn htk hm =>
   cases(show u=J9 a from rx);obtain⟨mA,O,_⟩:=IS I.hok ea;obtain⟨od,J,_⟩:=O.look;exact Q6 (PySem.W.kitx_own (cl.get _) cl.hd ha hn htk hm) I.kIn J e (fun z=>nomatch z) h
end
structure Room (k:Nat)(A:Around):Prop where
 hd:A.handled=none
 dp:A.depth + 3 * k + 5 < recursionLimit
 un:A.units + 16 * k + 200 < cLine
 gd:A.guards=some []
theorem Room.mono (r:Room k A)(h:j<=k):Room j A:=⟨r.hd,by have:=r.dp;omega,by have:=r.un;omega,r.gd⟩
theorem Room.deeper (r:Room (k + 1) A)(env:Env):Room k (A.deeper env):=
 ⟨r.hd,by have:=r.dp;show A.depth + 1 + 3 * k + 5 < _;omega,by have:=r.un;show A.units + 3 + 16 * k + 200 < _;omega,r.gd⟩
theorem Room.depth (r:Room k A):A.depth < recursionLimit:=by have:=r.dp;omega
theorem Room.units (r:Room k A):A.units + 64 < cLine:=by have:=r.un;omega
def tNil:TA:=fun _ H Q=>Q [] H
def R7 (ta:TE)(tr:TA):TA:=fun σ H Q=>ta σ H fun x H1=>tr σ H1 fun xs H2=>Q (x::xs) H2
section
variable {X:Cx}{e:Expr}{es:List Expr}{te:TE}{t:TA}{pos:Pos}
theorem E9:PA X [] tNil:=fun _ _ _ _ H Q I h=>Calls.spliced_nil ⟨[],H,I,.nil,h⟩
theorem C6 (ha:PE X e te)(hr:PA X es t)(hs:C7 (e::es) X.env=(false,eval e X.env)::C7 es X.env:=by rfl):PA X (e::es) (R7 te t):=by
 intro pos pins s σ H Q I h;rw [hs];show wpAny _ _ (spliced ((false,eval e X.env)::backTo pos (C7 es X.env))) _ _ s;refine Calls.spliced_cons (thn (ha pins s σ H _ I h) fun u s1 ⟨x,H1,I1,r1,q1⟩=>?_);exact thn (hr pos pins s1 σ H1 _ I1 q1) fun us s2 ⟨xs,H2,I2,r2,q2⟩=>⟨x::xs,H2,I2,.cons r1 r2,q2⟩
def tTup (t:TA):TE:=fun σ H Q=>t σ H fun xs H1=>xs.length<=B1/\∀p,H1 p=none->Q (.ref p) (upd H1 p (.tup xs))
def tLst (t:TA):TE:=fun σ H Q=>t σ H fun xs H1=>xs.length<=B1/\∀p,H1 p=none->Q (.ref p) (upd H1 p (.lst xs))
theorem EN {x1}(h:PA X es t):PE X (.Tuple es x1 pos) (tTup t):=by
 intro pins s σ H Q I hq;refine wpAny_Tuple_spliced (thn (h pos pins s σ H _ I hq) fun us s1 ⟨xs,H1,I1,r,z,q⟩=>⟨by rw [<- r.length];exact z,?_⟩);have hf:H1 s1.heap.objs.size=none:=I1.hok.fresh (A8 _);refine⟨.ref s1.heap.objs.size,upd H1 s1.heap.objs.size (.tup xs),I1.laid (t':=s1.toks) (fun b u e=>B6 _ e) (A8 _) ?_,rfl,q _ hf⟩;exact⟨z,us,r,⟨_,E6 _ rfl,rfl,_,rfl⟩⟩
theorem EO (h:PA X es t):PE X (.List es pos) (tLst t):=by
 intro pins s σ H Q I hq;refine wpAny_List_spliced (thn (h pos pins s σ H _ I hq) fun us s1 ⟨xs,H1,I1,r,z,q⟩=>⟨by rw [<- r.length];exact z,?_⟩);have hf:H1 s1.heap.objs.size=none:=I1.hok.fresh (A8 _);refine⟨.ref s1.heap.objs.size,upd H1 s1.heap.objs.size (.lst xs),I1.laid (t':=s1.toks) (fun b u e=>B6 _ e) (A8 _) ?_,rfl,q _ hf⟩;exact⟨z,us,0,r,E6 _ rfl⟩
end
abbrev Sp:=List V->Hp->VK->XK->Prop
abbrev CXT:=List Env->Hp->Shared->XK->Value->Shared->Prop
structure Env0 (P:C3)(w:World)(K:A3)(mg:Str->Option Value)(base:Heap)(A:Around)(outer:List Env)(s:Shared)(H:Hp):Prop where
 frames:A.frames=some outer
 mod:Mod K mg base
 bs:∀b o,base.get? b=some o->s.heap.get? b=some o/\H b=none
 bsz:base.objs.size<=s.heap.objs.size
 funs:s.heap.FunFrames base outer
 frf:∀b∈frs outer,H b=none
 hok:HOk P w H s.heap
 bare:AllBare s.gens
 nos:NS H
def CE (outer:List Env)(P:C3)(w:World)(H:Hp)(s:Shared)(Q:VK)(u:Value)(s':Shared):Prop:=
 ∃v H',s'.os=s.os/\AllBare s'.gens/\Un (frs outer) [] H H' s.heap s'.heap/\HOk P w H' s'.heap/\RelV v u/\Q v H'
def CR (CX:CXT)(outer:List Env)(P:C3)(w:World)(H:Hp)(s:Shared)(Q:VK)(E:XK)(r:Result)(s':Shared):Prop:=
 match r with
 | .ok (.ret u)=>CE outer P w H s Q u s'
 | .ok _=>False
 | .error e=>CX outer H s E e s'
structure FnOk (P:C3)(w:World)(K:A3)(mg:Str->Option Value)(base:Heap)(CX:CXT)(k:Nat)(f:Addr)(fd:FuncData)(ps:List Str)(sp:Sp):Prop where
 len:∀vs H Q E,sp vs H Q E->vs.length=ps.length
 run:∀(A:Around) (outer:List Env) (s:Shared) (H:Hp) (args:Args) (us:List Value) (vs:List V) (Q:VK) (E:XK),Room k A->Env0 P w K mg base A outer s H->BindsTo s fd args (ps.zip us)->Vals vs us->sp vs H Q E->
   L8 (model P w) A (.call (.ref f) args) (CR CX outer P w H s Q E) s
theorem FnOk.imp {K:A3}(F:FnOk P w K mg base CX k f fd ps sp)
   (h:∀vs H Q E,sp' vs H Q E->sp vs H Q E):FnOk P w K mg base CX k f fd ps sp':=
 ⟨fun vs H Q E q=>F.len vs H Q E (h _ _ _ _ q),fun A outer s H args us vs Q E hr he hb hv hs=>F.run A outer s H args us vs Q E hr he hb hv (h _ _ _ _ hs)⟩
section
variable {X:Cx}{pins:List (Addr×Obj)}{σ:St}{H:Hp}{s s':Shared}
theorem Inv.env0 (I:Inv X pins σ H s):Env0 X.prog X.w X.K X.mg X.base X.A X.stack s H:=
 ⟨I.ok.frames,I.ok.mod,I.bs,E8 I.ok.bsz I.sz,I.stack,I.stkFree,I.hok,I.bare,I.nos⟩
theorem Inv.after (I:Inv X pins σ H s)(h:CE X.stack X.prog X.w H s Q u s'):EP X pins σ Q u s':=by
 obtain⟨v,H',os,bare,un,hok,r,q⟩:=h;obtain⟨hh,g,d,t,os'⟩:=s';obtain rfl:os'=s.os:=os;exact⟨v,H',I.call (h':=hh) (g':=g) (d':=d) (t':=t) (ch:=[]) un hok bare (fun b z=>absurd z (by simp)),r,q⟩
end
def tCall (sp:Sp)(dvs:List V)(E:XK)(t:TA):TE:=fun σ H Q=>t σ H fun vs H1=>sp (vs++dvs) H1 Q E
def o8 (K:A3)(fd:FuncData)(ps:List Str)(ds:List Value):Prop:=
 ∀(s:Shared) (us:List Value),K.In s.heap->(us++ds).length=ps.length->BindsTo s fd ⟨us,[]⟩ (ps.zip (us++ds))
theorem o8.all {K:A3}(h:∀us:List Value,us.length=ps.length->bindArgs fd ⟨us,[]⟩=pure (ps.zip us)):o8 K fd ps []:=fun s us _ hl=>by
 rw [AX] at hl ⊢;exact .of_eq (h us hl)
def CI (CX:CXT)(X:Cx)(E:XK):Prop:=∀(pins:List (Addr×Obj)) (σ:St) (H:Hp) (s:Shared) (e:Value) (s':Shared),Inv X pins σ H s->CX X.stack H s E e s'->X.xe e s'
section
variable {X:Cx}{CX:CXT}{k:Nat}{f C:Addr}{fd:FuncData}{ps:List Str}{sp:Sp}{dvs:List V}{ds:List Value}{E:XK}{x m:Str}{p pos apos:Pos}{e o:Expr}{es:List Expr}{ta:TE}{t:TA}
theorem run_fn (F:FnOk X.prog X.w X.K X.mg X.base CX k f fd ps sp)(hr:Room k X.A)(hb:o8 X.K fd ps ds)(hd:Vals dvs ds)(hx:CI CX X E)
   (I:Inv X pins σ H s) (r:Vals vs us) (h:sp (vs++dvs) H Q E):wpAny (model X.prog X.w) X.A (call (.ref f) us) (EP X pins σ Q) X.xe s:=by
 have r2:Vals (vs++dvs) (us++ds):=r.append hd;have hl:(us++ds).length=ps.length:=by rw [<- r2.length];exact F.len _ _ _ _ h
 refine wpAny_call (codeAny_mono (F.run X.A X.stack s H ⟨us,[]⟩ (us++ds) (vs++dvs) Q E hr I.env0 (hb s us I.kIn hl) r2 h) fun r s' hq=>?_);cases r with
 | error e=>exact hx pins σ H s e s' I hq
 | ok fl =>
   cases fl with
   | ret u=>exact I.after hq
   | next=>exact T7 hq
   | brk=>exact T7 hq
   | cont=>exact T7 hq
theorem IU (F:FnOk X.prog X.w X.K X.mg X.base CX k f fd ps sp)(hr:Room k X.A)(hg:Gl X x)(hm:X.mg x=some (.ref f))(hk:v5 X.K (.ref f)=true)(hb:o8 X.K fd ps ds)(hd:Vals dvs ds)(hx:CI CX X E)
   (ha:PA X (e::es) t) (hdb:(x == ("__debug__":Str))=false:=by decide) (he:C7 (e::es) X.env=(false,eval e X.env)::C7 es X.env:=by rfl) (hpl:(backTo pos (C7 es X.env)).any (·.1)=false:=by rfl) :
   PE X (.Call (.Name x p) (e::es) [] pos) (tCall sp dvs E t):=by
 intro pins s σ H Q I h;refine AJ (EC I hg hm ?_ hdb);refine PySem.W.callWith_K (h₀:=X.base) I.ok.mod.kin hk (thn (ha pos pins s σ H _ I h) fun us s1 ⟨vs,H1,I1,r,q⟩=>⟨I1.kIn,?_⟩) he hpl;exact run_fn F hr hb hd hx I1 r q
end
def PK (X:Cx)(kws:List Q7)(t:TA):Prop:=
 ∀(pos:Pos) (pins:List (Addr×Obj)) (s:Shared) (σ:St) (H:Hp) (Q:List V->Hp->Prop),Inv X pins σ H s->t σ H Q->wpAny (model X.prog X.w) X.A (evalAll ((backToKw pos (j3 kws X.env)).map (·.2))) (AP X pins σ Q) X.xe s
structure R8 (N P:List Str)(sc:Scope):Prop where
 kind:sc.kind=.function
 co:sc.isCoroutine=false
 gen:sc.isGenerator=false
 nd:N.Nodup
 pre:N.take P.length=P
 par:∀x∈P,sc.names.lookup x=some .local\/sc.names.lookup x=some .cell
 nofree:∀y∈sc.names,y.2≠.free
theorem EQ {kindOf:Str->Option NameKind}:∀{binds:List (Str×Value)} {m:Str->Option Value},(∀v,(x,v)∉binds)->bindL kindOf binds m x=m x
 | [],_,_=>rfl
 | (n, v) :: r, m, h => by
   unfold bindL;rw [EQ fun w hw=>h w (D0 _ hw)]
   split
   · have:x≠n:=by rintro rfl;exact h v F4
     simp [this]
   · rfl
theorem ER {kindOf:Str->Option NameKind}:∀{binds:List (Str×Value)} {m:Str->Option Value},(∀v,(x,v)∉binds)->bindC kindOf binds m x=m x
 | [],_,_=>rfl
 | (n, v) :: r, m, h => by
   unfold bindC;rw [ER fun w hw=>h w (D0 _ hw)]
   split
   · rfl
   · have:x≠n:=by rintro rfl;exact h v F4
     simp [this]
theorem ES {kindOf:Str->Option NameKind}:∀{P:List Str} {vs:List Value} {i:Nat} {m:Str->Option Value},P.Nodup->P[i]?=some x->vs[i]?=some v->kindOf x=some .local->
   bindL kindOf (P.zip vs) m x=some v
 | [],_,_,_,_,h,_,_=>by simp at h
 | _::_,[],_,_,_,_,h,_=>by simp at h
 | p :: P, w :: vs, 0, m, nd, h1, h2, hk => by
   simp at h1 h2;subst h1;subst h2;show bindL kindOf ((p,w)::P.zip vs) m p=_;unfold bindL;rw [EQ fun v hv=>(N0.mp nd).1 (List.of_mem_zip hv).1,if_pos hk];simp
 | p :: P, w :: vs, i + 1, m, nd, h1, h2, hk => by
   show bindL kindOf ((p,w)::P.zip vs) m x=_;unfold bindL;exact ES (i:=i) (N0.mp nd).2 (by simpa using h1) (by simpa using h2) hk
theorem ET {kindOf:Str->Option NameKind}:∀{P:List Str} {vs:List Value} {i:Nat} {m:Str->Option Value},P.Nodup->P[i]?=some x->vs[i]?=some v->kindOf x≠some .local->
   bindC kindOf (P.zip vs) m x=some v
 | [],_,_,_,_,h,_,_=>by simp at h
 | _::_,[],_,_,_,_,h,_=>by simp at h
 | p :: P, w :: vs, 0, m, nd, h1, h2, hk => by
   simp at h1 h2;subst h1;subst h2;show bindC kindOf ((p,w)::P.zip vs) m p=_;unfold bindC;rw [ER fun v hv=>(N0.mp nd).1 (List.of_mem_zip hv).1,if_neg hk];simp
 | p :: P, w :: vs, i + 1, m, nd, h1, h2, hk => by
   show bindC kindOf ((p,w)::P.zip vs) m x=_;unfold bindC;exact ET (i:=i) (N0.mp nd).2 (by simpa using h1) (by simpa using h2) hk
def P7 (N:List Str)(vs:List V):St:=vs.map some++k7 (N.length - vs.length) none
def cxOf (CX:CXT)(P:C3)(w:World)(K:A3)(mg:Str->Option Value)(base:Heap)(N:List Str)(qual:Str)(scope:Scope)(f:Addr)(cd:Value)(A:Around)(outer:List Env)(s:Shared)(H:Hp)(E:XK):Cx where
 prog:=P
 w:=w
 K:=K
 mg:=mg
 base:=base
 A:=A.deeper (envOfC qual scope s.heap.objs.size f cd)
 N:=N
 s₀:=s
 H₀:=H
 env:=envOfC qual scope s.heap.objs.size f cd
 outer:=outer
 stack:=envOfC qual scope s.heap.objs.size f cd::outer
 ex:=[]
 calm:=true
 fn:=fun _=>true
 pn:=[]
 xe:=fun e s'=>wpAny (model P w) (A.deeper (envOfC qual scope s.heap.objs.size f cd)) (leaving (envOfC qual scope s.heap.objs.size f cd) e) (fun _ s''=>CX outer H s E e s'') (fun e' s''=>CX outer H s E e' s'') s'
theorem EU {sc:Scope}(h:sc.names.lookup x=some .cell):∃c,(L7 n sc.names []).lookup x=some c:=by
 have q:=PySem.W.cellsFrom_some sc.names n [] (.inl h);exact X6.mp q
theorem IV {K:A3}
   (S:R8 N ps scope) (hd:A.handled=none) (e0:Env0 P w K mg base A outer s H) (hl:vs.length=ps.length) (r:Vals vs us)
   (x:InCallC s s.heap.objs.size (bindL (envOfC qual scope s.heap.objs.size f cd).kindOf (ps.zip us) fun _=>none) (L7 (s.heap.objs.size + 1) scope.names []) (bindC (envOfC qual scope s.heap.objs.size f cd).kindOf (ps.zip us) fun _=>none) s1) :
   Inv (cxOf CX P w K mg base N qual scope f cd A outer s H E) [] (P7 N vs) H s1:=by
 have hpl:ps.length<=N.length:=by have:=congrArg List.length S.pre;rw [X3] at this;omega
 obtain⟨h1,tk,rfl,hk⟩:=x.done;have noA:∀b:Addr,b∉(cxOf CX P w K mg base N qual scope f cd A outer s H E).ex:=fun b z=>absurd (show b∈([]:List Addr) from z) (by simp)
 refine⟨⟨e0.mod,S.kind,rfl,rfl,A8 _,fun y z c h1 h2=>?_,fun y hy=>?_,fun y c _ h=>?_,fun _=>hd,Around.frames_deeper e0.frames,.inr ⟨rfl,rfl⟩,fun b z=>absurd z (noA b),e0.bs,e0.bsz,fun b _ _=>noA b,fun b z=>absurd z (noA b),e0.funs,e0.frf,e0.nos⟩,
   rfl,e0.bare,Un.kept hk,⟨_,x.toInCall.ns,fun i y v h1 h2 h3=>?_⟩,fun y c h=>⟨_,x.cell y c h⟩,e0.hok.fresh (A8 _),fun y c h=>?_,fun p hp=>absurd (show p∈([]:List (Addr×Obj)) from hp) (by simp),e0.hok.kept hk,?_⟩
 · exact name_of_addr x.apart (P2 h1) (P2 h2)
 · have hy:scope.names.lookup y=some .cell\/scope.names.lookup y=some .free:=hy;rcases hy with hy | hy
   · exact EU hy
   · exact absurd rfl (S.nofree _ (P2 hy))
 · exact Nat.le_of_lt (x.above y c (P2 h))
 · have hi:i < vs.length:=by
     unfold P7 at h2
     by_cases hi:i < vs.length
     · exact hi
     · rw [X1 (by simpa using hi)] at h2;rw [Cd] at h2
       split at h2 <;> cases h2
   have ha:vs[i]?=some v:=by
     unfold P7 at h2;rw [X2 (by simpa using hi),G6] at h2;cases e:vs[i]? with
     | none=>rw [e] at h2;cases h2
     | some a=>rw [e] at h2;cases h2;rfl
   obtain⟨u,hu,rv⟩:=r.get ha
   have hp:ps[i]?=some y:=by
     rw [<- S.pre,List.getElem?_take_of_lt (by omega)];exact h1
   have ndP:ps.Nodup:=by rw [<- S.pre];exact S.nd.sublist (List.take_sublist _ _)
   refine⟨u,rv,?_⟩;rcases S.par y (J7 hp) with k | k
   · exact .inl ⟨k,ES ndP hp hu k⟩
   · obtain⟨c,e⟩:=EU (n:=s.heap.objs.size + 1) k;refine .inr ⟨.inl k,c,e,?_⟩;have q:=x.cell y c e;rw [ET ndP hp hu (by show scope.names.lookup y≠_;rw [k];decide)] at q;exact q
 · exact e0.hok.fresh (Nat.le_of_lt (x.above y c (P2 h)))
 · unfold P7;show _=N.length;rw [E3,A9,Cg];omega
theorem fn_of {K:A3}{dV kV doc pm cdv ct oc:Value}
 (lk:K.lookup f=some ⟨oc,od,.func (P1 name qual params body scope dV kV doc pm an cdv ct),osl⟩) (hcd:AF K cdv qual=true) (S:R8 N ps scope)
   (len:∀vs H Q E,sp vs H Q E->vs.length=ps.length)
   (hbody:∀(A:Around) (outer:List Env) (s:Shared) (H:Hp) (vs:List V) (Q:VK) (E:XK),Room k (A.deeper (envOfC qual scope s.heap.objs.size f cdv))->sp vs H Q E->
     ∃t,PSs (cxOf CX P w K mg base N qual scope f cdv A outer s H E) body t/\t { nx:=fun _ H'=>Q .non H',rt:=Q } (P7 N vs) H) :
   FnOk P w K mg base CX (k + 1) f (P1 name qual params body scope dV kV doc pm an cdv ct) ps sp:=by
 refine⟨len,fun A outer s H args us vs Q E hr e0 hb r hsp=>?_⟩;have hl:=len _ _ _ _ hsp;have KX:K.In s.heap:=e0.mod.kin.keeps fun b o e=>(e0.bs b o e).1;have lim:s.heap.NoLimit:=e0.mod.nolimit.keeps fun b o e=>(e0.bs b o e).1
 have hkind:∀y∈ps.zip us,scope.names.lookup y.1=some .local\/(scope.names.lookup y.1=some .cell/\((L7 (s.heap.objs.size + 1) scope.names []).lookup y.1).isSome=true):=fun⟨n,v⟩ hy=>by
   rcases S.par n (List.of_mem_zip hy).1 with q | q
   · exact .inl q
   · exact .inr ⟨q,PySem.W.cellsFrom_some _ _ _ (.inl q)⟩
 refine codeAny_call_function hr.depth (KX _ _ lk) rfl S.co S.gen rfl (PySem.W.codeRec_of KX hcd) (hb _ _ _ _ ?_);refine wpAny_newFunctionEnv_cells S.kind hkind fun env he s1 x=>?_;subst he;refine⟨lim.keeps x.toInCall.keep,codeAny_func ?_⟩;obtain⟨t,ht,hq⟩:=hbody A outer s H vs Q E (hr.deeper _) hsp;have I:Inv (cxOf CX P w K mg base N qual scope f cdv A outer s H E) [] (P7 N vs) H s1:=IV S hr.hd e0 hl r x;refine G4 (ht [] s1 (P7 N vs) H _ I hq) (fun fl s' hs=>?_) fun e s' hs=>hs
 have fin:∀{σ':St} {H':Hp} {v:V} {u:Value},Inv (cxOf CX P w K mg base N qual scope f cdv A outer s H E) [] σ' H' s'->RelV v u->Q v H'->CE outer P w H s Q u s':=
   fun {σ' H' v u} J rv q=>⟨v,H',J.os,J.bare,J.base,J.hok,rv,q⟩
 cases fl with
 | ret u =>
   obtain⟨v,σ',H',J,rv,q⟩:=hs;exact fin J rv q
 | next =>
   obtain⟨σ',H',J,q⟩:=hs;exact fin (v:=V.non) (u:=R1) J rfl q
 | brk =>
   obtain⟨_,_,_,q⟩:=hs;exact T7 q
 | cont =>
   obtain⟨_,_,_,q⟩:=hs;exact T7 q
section
variable {X:Cx}{x:Str}{p pos:Pos}{e:Expr}{es:List Expr}{t:TA}{id T:String}{r:List V->Hp->VK->Prop}
def tCB (r:List V->Hp->VK->Prop)(t:TA):TE:=fun σ H Q=>t σ H fun vs H1=>r vs H1 Q
theorem Y0 (hc:J1 X (.builtin id) r)(hg:Gl X x)(hm:X.mg x=none)(hv:F5 x=some (.builtin id))(ha:PA X (e::es) t)(hn:x≠"__name__":=by decide)(hdb:(x == ("__debug__":Str))=false:=by decide)
   (he:C7 (e::es) X.env=(false,eval e X.env)::C7 es X.env:=by rfl) (hpl:(backTo pos (C7 es X.env)).any (·.1)=false:=by rfl):PE X (.Call (.Name x p) (e::es) [] pos) (tCB r t):=by
 intro pins s σ H Q I h;refine AJ (R5 I hg hm hv ?_ hn hdb);exact PyProof.Rows.callWith_builtin1 (thn (ha pos pins s σ H _ I h) fun us s1 ⟨vs,H1,I1,r1,q1⟩=>hc pins s1 σ H1 vs us Q I1 r1 q1) he hpl
theorem CJ (hc:J1 X (.type T) r)(hg:Gl X x)(hm:X.mg x=none)(hv:F5 x=some (.type T))(ha:PA X (e::es) t)(hn:x≠"__name__":=by decide)(hdb:(x == ("__debug__":Str))=false:=by decide)
   (he:C7 (e::es) X.env=(false,eval e X.env)::C7 es X.env:=by rfl) (hpl:(backTo pos (C7 es X.env)).any (·.1)=false:=by rfl):PE X (.Call (.Name x p) (e::es) [] pos) (tCB r t):=by
 intro pins s σ H Q I h;refine AJ (R5 I hg hm hv ?_ hn hdb);exact X4 (thn (ha pos pins s σ H _ I h) fun us s1 ⟨vs,H1,I1,r1,q1⟩=>hc pins s1 σ H1 vs us Q I1 r1 q1) he hpl
theorem IW (hc:J1 X (.type T) r)(hg:Gl X x)(hm:X.mg x=none)(hv:F5 x=some (.type T))(hn:x≠"__name__":=by decide)(hdb:(x == ("__debug__":Str))=false:=by decide) :
   PE X (.Call (.Name x p) [] [] pos) (tCB r tNil):=by
 intro pins s σ H Q I h;refine AJ (R5 I hg hm hv ?_ hn hdb);exact PyProof.Rows.callWith_type0 (hc pins s σ H [] [] Q I .nil h)
end
end L2
namespace HT
open PySem PyProof.Rows
section
variable {prog:C3}{w:World}{A:Around}{E:Value->Shared->Prop}{s:Shared}
theorem cat_tup (ht:IsTup s.heap t vs.toArray)(hb:IsTup s.heap b ws.toArray)(hv:vs≠[])
   (h1:ws=[]->Q (.ref t) s) (h2:ws≠[]->Q (.ref s.heap.objs.size) { s with heap:=s.heap.push { cls:=.type "tuple",data:=.seq (vs++ws).toArray } })
   (hsz:vs.length + ws.length<=B1):wpAny (model prog w) A (O1 .Add (.ref t) (.ref b)) Q E s:=by
 obtain⟨⟨cls,dd,data,sl⟩,ho,hc,n,hd⟩:=id ht;obtain⟨⟨cls2,dd2,data2,sl2⟩,ho2,hc2,n2,hd2⟩:=id hb;simp only at hc hd hc2 hd2;subst hc hd hc2 hd2;have e:vs.toArray++ws.toArray=(vs++ws).toArray:=by simp
 by_cases hw:ws=[]
 · exact concat_meets ⟨_,ho,rfl⟩ ⟨_,ho2,rfl⟩ noFill_tuple_add seq_tuple_add Cs Cr (Cq _ _)
     (tuple_addW1 t b vs.toArray ws.toArray n n2 dd dd2 sl sl2 (by simpa using hv) (by simp [hw])) ⟨ho,ho2,h1 hw⟩
 · refine concat_meets ⟨_,ho,rfl⟩ ⟨_,ho2,rfl⟩ noFill_tuple_add seq_tuple_add Cs Cr (Cq _ _)
     (tuple_addW2 t b vs.toArray ws.toArray n n2 dd dd2 sl sl2 (by simpa using hv) (by simpa using hw) (by rw [D8,D8];exact hsz)) ⟨ho,ho2,?_⟩
   rw [e];exact h2 hw
def sIx (n d:Nat):Option Int->Nat
 | none=>d
 | some v=>if v < 0 then(v + (n:Int)).toNat else min v.toNat n
theorem sIx_none (n d:Nat):sIx n d none=d:=rfl
theorem sIx_nat (n d k:Nat):sIx n d (some (k:Int))=min k n:=by
 show(if(k:Int) < 0 then((k:Int) + (n:Int)).toNat else min (k:Int).toNat n)=min k n;rw [if_neg (by omega),R0]
theorem sIx_le (n d:Nat)(hd:d<=n)(o:Option Int):sIx n d o<=n:=by
 cases o with
 | none=>exact hd
 | some v =>
   show(if v < 0 then(v + (n:Int)).toNat else min v.toNat n)<=n
   by_cases hv:v < 0
   · rw [if_pos hv];omega
   · rw [if_neg hv];exact Nat.min_le_right _ _
theorem EV (v:Int)(n d:Nat):(if v < 0 then max (v + (n:Int)) 0 else min v (n:Int))=((sIx n d (some v):Nat):Int):=by
 show(if v < 0 then max (v + (n:Int)) 0 else min v (n:Int))=(((if v < 0 then(v + (n:Int)).toNat else min v.toNat n):Nat):Int)
 by_cases hv:v < 0
 · simp only [if_pos hv];omega
 · simp only [if_neg hv];omega
theorem IX (lo hi:Option Int)(n:Nat):x9 lo hi 1 (n:Int)=(((sIx n 0 lo:Nat):Int),((sIx n n hi:Nat):Int)):=by
 have h1:¬((1:Int) < 0):=by omega
 unfold x9;simp only [h1,if_false];refine Prod.ext ?_ ?_
 · cases lo with
   | none=>rfl
   | some v=>exact EV v n 0
 · cases hi with
   | none=>rfl
   | some v=>exact EV v n n
theorem IY (i j:Nat):X5 (i:Int) (j:Int) 1=j - i:=by
 unfold X5;have h1:(1:Int) > 0:=by omega
 simp only [h1,if_true,Int.ediv_one]
 split <;> omega
theorem z0 (p:IsPart v o)(h:Q o s):wpAny (model prog w) A (Builtin.Slice.slicePartIndex v) Q E s:=by
 cases p with
 | none=>exact slicePart_none h
 | int i t=>exact slicePart_int h
theorem EX {lo hi:Option Int}{n:Nat}{Q:Int×Int×Nat->Shared->Prop}(hs:s.heap.IsSliceOf sl vl vu .none)(pl:IsPart vl lo)(pu:IsPart vu hi)
   (h:Q (((sIx n 0 lo:Nat):Int),1,sIx n n hi - sIx n 0 lo) s):wpAny (model prog w) A (Bc (.ref sl) (pure (n:Int))) Q E s:=by
 obtain⟨os,hos,hcs,hds⟩:=id hs;unfold Bc Ex;refine A1 (A1 (G9 hos hds (x:=vl) rfl (A1 (G9 hos hds (x:=vu) rfl (A1 (G9 hos hds (x:=.none) rfl (A6 ?_)))))));refine A1 (slicePart_none ?_);show wpAny _ _ (if((1:Int) == 0)=true then _ else _) _ _ s;rw [if_neg (by decide)];refine A1 (z0 pl (A1 (z0 pu (A1 (A6 ?_)))));show wpAny _ _ (match x9 lo hi 1 (n:Int) with | (lo,hi)=>pure (lo,(1:Int),X5 lo hi 1)) _ _ s;rw [IX lo hi n];show wpAny _ _ (pure (((sIx n 0 lo:Nat):Int),(1:Int),X5 ((sIx n 0 lo:Nat):Int) ((sIx n n hi:Nat):Int) 1)) _ _ s;rw [IY];exact A6 h
theorem IZ (xs:Array Value)(i k:Nat):((C2 k).filterMap fun(m:Nat)=>xs[((i:Int) + (m:Int) * 1).toNat]?).toArray=((xs.toList.drop i).take k).toArray:=by
 have e:(fun(m:Nat)=>xs[((i:Int) + (m:Int) * 1).toNat]?)=fun m=>xs[i + m]?:=by
   funext m
   have:((i:Int) + (m:Int) * 1).toNat=i + m:=by omega
   rw [this]
 rw [e];have:=pick_run xs i k;rw [List.filterMap_map] at this;have e2:((fun x=>xs[x]?)∘fun x=>i + x)=fun m=>xs[i + m]?:=rfl
 grind
theorem getItem_tuple_cut {lo hi:Option Int}(ht:IsTup s.heap t items)(hs:s.heap.IsSliceOf sl vl vu .none)(pl:IsPart vl lo)(pu:IsPart vu hi)
   (hw:¬(sIx items.size 0 lo=0/\sIx items.size items.size hi=items.size))
   (h:Q (.ref s.heap.objs.size) { s with heap:=s.heap.push { cls:=.type "tuple",data:=.seq ((items.toList.drop (sIx items.size 0 lo)).take (sIx items.size items.size hi - sIx items.size 0 lo)).toArray } })
   (hsz:items.size<=B1):wpAny (model prog w) A (getItem (.ref t) (.ref sl)) Q E s:=by
 have htake:sizeOk (.seq ((items.toList.drop (sIx items.size 0 lo)).take (sIx items.size items.size hi - sIx items.size 0 lo)).toArray):=by
   show((items.toList.drop (sIx items.size 0 lo)).take (sIx items.size items.size hi - sIx items.size 0 lo)).toArray.size<=B1;rw [D8,X3,Q9,l8];omega
 have hj:sIx items.size items.size hi<=items.size:=sIx_le _ _ (A8 _) hi;obtain⟨os,hos,hcs,hds⟩:=id hs;have hTs:s.TypeIs (.ref sl) "slice":=⟨os,hos,hcs⟩;unfold getItem
 try with_reducible refine X0 ?_
 first | refine A1 (A6 ?_) | skip
 refine A1 (wpAny_sequenceKey ht.typeIs (by decide) ?_)
 refine A1 (W8 (name:=C1 "__getitem__") ht.typeIs k9
   (T4 k9 ht.typeIs entry_tuple_getitem ?_ (args_tuple_getitem _ _)))
 show wpAny _ _ (Cm (.ref t)>>=_) _ _ s;refine A1 (tupleItemsOf_ ht ?_);refine A1 (w6 hTs ?_);rw [if_pos (by decide)];refine A1 (EX hs pl pu ?_)
 have hno:¬((((sIx items.size 0 lo:Nat):Int) == 0 && (1:Int) == 1 && (sIx items.size items.size hi - sIx items.size 0 lo) == items.size)=true):=by
   intro q;rw [V4,V4] at q;have q1:((sIx items.size 0 lo:Nat):Int)=0:=eq_of_beq q.1.1;have q2:sIx items.size items.size hi - sIx items.size 0 lo=items.size:=eq_of_beq q.2;exact hw ⟨by omega,by omega⟩
 show wpAny _ _ (if(((sIx items.size 0 lo:Nat):Int) == 0 && (1:Int) == 1 && (sIx items.size items.size hi - sIx items.size 0 lo) == items.size)=true then _ else _) _ _ s;rw [if_neg hno,IZ]
 first
   | exact A1 (m:=X7 _) (L6 (A6 ⟨_,rfl,A6 h⟩) htake)
   | exact A1 (m:=X7 _) (L6 (A1 (A6 (A6 ⟨_,rfl,A6 h⟩))) htake)
   | exact A1 (A1 (m:=X7 _) (L6 (A6 (A6 ⟨_,rfl,A6 h⟩)) htake))
   | exact A1 (A1 (m:=X7 _) (L6 (A6 ⟨_,rfl,A6 h⟩) htake))
end
end HT
namespace L2
open PySem PySem.Spec PyProof.Rows
abbrev TO:=St->Hp->(Option Int->Hp->Prop)->Prop
def PO (X:Cx)(e:Option Expr)(t:TO):Prop:=
 ∀ (pins : List (Addr × Obj)) (s : Shared) (σ : St) (H : Hp) (Q : Option Int -> Hp -> Prop), Inv X pins σ H s -> t σ H Q ->
   wpAny (model X.prog X.w) X.A (evalPart e X.env) (fun u s'=>∃o H',Inv X pins σ H' s'/\IsPart u o/\Q o H') X.xe s
def I_:TO:=fun _ H Q=>Q none H
def tPart (t:TE):TO:=fun σ H Q=>t σ H fun x H1=>∃i,x=.int i/\Q (some i) H1
section
variable {X:Cx}{e:Expr}{te:TE}{lo hi:Option Expr}{tl th:TO}{pos p2:Pos}
theorem EY:PO X none I_:=by
 intro pins s σ H Q I h;rw [evalPart_none];exact A6 ⟨none,H,I,.none,h⟩
theorem EZ (h:PE X e te):PO X (some e) (tPart te):=by
 intro pins s σ H Q I hw;rw [evalPart_some];refine thn (h pins s σ H _ I hw) fun u s1 ⟨x,H1,I1,r1,q1⟩=>?_;obtain⟨i,rfl,q⟩:=q1;obtain⟨t,rfl⟩:=r1;exact⟨some i,H1,I1,.int i t,q⟩
def SlR (X:Cx)(r:V->Option Int->Option Int->Hp->VK->Prop):Prop:=
 ∀ (pins : List (Addr × Obj)) (s : Shared) (σ : St) (H : Hp) (x : V) (v vl vu : Value) (lo hi : Option Int) (sl : Addr) (Q : VK), Inv X pins σ H s -> RelV x v -> s.heap.IsSliceOf sl vl vu .none -> IsPart vl lo -> IsPart vu hi -> r x lo hi H Q ->
   ∃T id,typeLookup (.type T) "__getitem__"=pure (some (.builtin id))/\s.TypeIs v T/\wpAny (model X.prog X.w) X.A (getItem v (.ref sl)) (EP X pins σ Q) X.xe s
theorem SlR.or (h:SlR X r)(h':SlR X r'):SlR X (fun x lo hi H Q=>r x lo hi H Q\/r' x lo hi H Q):=by
 intro pins s σ H x v vl vu lo hi sl Q I rx hs pl pu q;rcases q with q | q
 · exact h pins s σ H x v vl vu lo hi sl Q I rx hs pl pu q
 · exact h' pins s σ H x v vl vu lo hi sl Q I rx hs pl pu q
def tSl (r:V->Option Int->Option Int->Hp->VK->Prop)(te:TE)(tl th:TO):TE:=fun σ H Q=>te σ H fun x H1=>tl σ H1 fun l H2=>th σ H2 fun u H3=>r x l u H3 Q
theorem E_ (hr:SlR X r)(he:PE X e te)(hl:PO X lo tl)(hu:PO X hi th):PE X (.Subscript e (.Slice lo hi none p2) pos) (tSl r te tl th):=by
 intro pins s σ H Q I h;refine Subscript_ (thn (he pins s σ H _ I h) fun v s1 ⟨x,H1,I1,r1,q1⟩=>?_);refine wpAny_Slice (thn (hl pins s1 σ H1 _ I1 q1) fun vl s2 ⟨l,H2,I2,pl,q2⟩=>thn (hu pins s2 σ H2 _ I2 q2) fun vu s3 ⟨u,H3,I3,pu,q3⟩=>?_);rw [evalPart_none];refine A6 ?_;have I4:Inv X pins σ H3 { s3 with heap:=s3.heap.push { cls:=.type "slice",data:=.fields #[vl,vu,.none] } }:=I3.kept (t':=s3.toks) fun b ob q=>B6 _ q;obtain⟨T,id,hT,ht,hg⟩:=hr pins { s3 with heap:=s3.heap.push { cls:=.type "slice",data:=.fields #[vl,vu,.none] } } σ H3 x v vl vu l u s3.heap.objs.size Q I4 r1 (Cw ..) pl pu q3;show wpAny (model X.prog X.w) X.A (subscriptTail e (.Slice lo hi none p2) v (.ref s3.heap.objs.size)) (EP X pins σ Q) X.xe { s3 with heap:=s3.heap.push { cls:=.type "slice",data:=.fields #[vl,vu,.none] } };exact tail_any (ops:=[.ref s3.heap.objs.size,v]) ht hT hg (by with_unfolding_all rfl)
def cutV (xs:List V)(lo hi:Option Int):List V:=(xs.drop (HT.sIx xs.length 0 lo)).take (HT.sIx xs.length xs.length hi - HT.sIx xs.length 0 lo)
theorem Fa (xs:List V)(lo hi:Option Int):(cutV xs lo hi).length<=xs.length:=by
 unfold cutV;rw [X3,Q9];omega
def rSlT (K:A3):V->Option Int->Option Int->Hp->VK->Prop:=fun x lo hi H Q=>∃a xs,x=.ref a/\SqT K H a xs/\
 ¬(HT.sIx xs.length 0 lo=0/\HT.sIx xs.length xs.length hi=xs.length)/\∀p,H p=none->Q (.ref p) (upd H p (.tup (cutV xs lo hi)))
theorem sl_tup:SlR X (rSlT X.K):=by
 intro pins s σ H x v vl vu lo hi sl Q I rx hs pl pu h;obtain⟨a,xs,rfl,hx,hw,q⟩:=h;cases rx;obtain⟨its,r,ht,hz⟩:=I.tuple hx;have hlen:its.toArray.size=xs.length:=by rw [D8];exact r.length.symm
 refine⟨"tuple",_,PyProof.Rows.slot_tuple_getitem.lookup,ht.typeIs,?_⟩;refine HT.getItem_tuple_cut ht hs pl pu (by rw [hlen];exact hw) ?_ (by rw [hlen];exact hz);rw [hlen];refine⟨.ref s.heap.objs.size,_,I.laid (t':=s.toks) (o:=.tup (cutV xs lo hi)) (fun b ob q=>B6 _ q) (A8 _) ?_,rfl,q _ (I.hok.fresh (A8 _))⟩;exact⟨E8 (Fa xs lo hi) hz,_,(r.drop (HT.sIx xs.length 0 lo)).take (HT.sIx xs.length xs.length hi - HT.sIx xs.length 0 lo),R4.new _ _⟩
def rCatT (K:A3):R2:=fun x y H Q=>∃a b xs ys,x=.ref a/\y=.ref b/\SqT K H a xs/\SqT K H b ys/\xs≠[]/\xs.length + ys.length<=B1/\
 (ys=[]->Q (.ref a) H)/\(ys≠[]->∀p,H p=none->Q (.ref p) (upd H p (.tup (xs++ys))))
theorem Vals.nil_iff (r:Vals xs us):us=[]↔xs=[]:=by
 cases r with
 | nil=>simp
 | cons _ _=>simp
theorem Ja:OpR X (O1 .Add) (rCatT X.K):=by
 intro pins s σ H x y v u Q I rx ry h;obtain⟨a,b,xs,ys,rfl,rfl,ha,hb,hx,hz,q1,q2⟩:=h;cases rx;cases ry;obtain⟨its,r1,p1,_⟩:=I.tuple ha;obtain⟨its2,r2,p2,_⟩:=I.tuple hb;refine HT.cat_tup p1 p2 (fun z=>hx (r1.nil_iff.mp z)) (fun z=>⟨.ref a,H,I,rfl,q1 (r2.nil_iff.mp z)⟩) (fun z=>?_) (by rw [<- r1.length,<- r2.length];exact hz);refine⟨.ref s.heap.objs.size,_,I.laid (t':=s.toks) (o:=.tup (xs++ys)) (fun b ob q=>B6 _ q) (A8 _) ?_,rfl,q2 (fun w=>z (r2.nil_iff.mpr w)) _ (I.hok.fresh (A8 _))⟩;exact⟨by rw [E3];exact hz,_,r1.append r2,R4.new _ _⟩
end
def ixN (n:Nat)(i:Int):Option Nat:=if 0<=i then(if i < n then some i.toNat else none) else if -(n:Int)<=i then some (i + n).toNat else none
def atI {α:Type}(xs:List α)(i:Int):Option α:=(ixN xs.length i).bind fun j=>xs[j]?
theorem Fb (h:ixN n i=some j):seqIndex? i n=some j/\j < n/\-(n:Int)<=i/\i < n:=by
 unfold ixN at h
 by_cases h0:0<=i
 · rw [if_pos h0] at h
   by_cases h1:i < n
   · rw [if_pos h1] at h;have e:i.toNat=j:=D7 h;exact⟨by rw [seqIndex_of h0 h1,e],by omega,by omega,h1⟩
   · rw [if_neg h1] at h;cases h
 · rw [if_neg h0] at h
   by_cases h1:-(n:Int)<=i
   · rw [if_pos h1] at h;have e:(i + n).toNat=j:=D7 h;exact⟨by rw [seqIndex_neg (by omega) h1,e],by omega,h1,by omega⟩
   · rw [if_neg h1] at h;cases h
theorem CK {α:Type}{xs:List α}{i:Int}{v:α}(h:atI xs i=some v):∃j,seqIndex? i xs.length=some j/\xs[j]?=some v/\j < xs.length/\-(xs.length:Int)<=i/\i < xs.length:=by
 unfold atI at h;cases e:ixN xs.length i with
 | none=>rw [e] at h;cases h
 | some j =>
   rw [e] at h;obtain⟨h1,h2,h3,h4⟩:=Fb e;exact⟨j,h1,h,h2,h3,h4⟩
theorem CL {α:Type}{xs:List α}{j:Nat}{v:α}(h:xs[j]?=some v):atI xs (j:Int)=some v:=by
 have hj:j < xs.length:=(C5.mp h).1
 have e:ixN xs.length (j:Int)=some j:=by
   unfold ixN;rw [if_pos (by omega),if_pos (by omega)];simp
 unfold atI;rw [e];exact h
def CM (b:Expr):Prop:=∀o i,subscripted b false o i=operate [o,i] (getItem o i)
def IxR (X:Cx)(r:R2):Prop:=
 ∀ (value slice : Expr) (pins : List (Addr × Obj)) (s : Shared) (σ : St) (H : Hp) (x y : V) (v u : Value) (Q : VK), Inv X pins σ H s -> RelV x v -> RelV y u -> r x y H Q ->
   subscripted slice false v u=operate [v,u] (getItem v u)->wpAny (model X.prog X.w) X.A (subscriptTail value slice v u) (EP X pins σ Q) X.xe s
def MtR (X:Cx)(id:String)(r:V->List V->Hp->VK->Prop):Prop:=
 ∀ (pins : List (Addr × Obj)) (s : Shared) (σ : St) (H : Hp) (x : V) (xs : List V) (v : Value) (us : List Value) (Q : VK), Inv X pins σ H s -> RelV x v -> Vals xs us -> r x xs H Q ->
   wpAny (model X.prog X.w) X.A (call (.builtin id) (v::us)) (EP X pins σ Q) X.xe s
section
variable {X:Cx}{a b:Expr}{ta tb:TE}{pos:Pos}
theorem IxR.or (h:IxR X r)(h':IxR X r'):IxR X (fun x y H Q=>r x y H Q\/r' x y H Q):=by
 intro value slice pins s σ H x y v u Q I rx ry q hs;rcases q with q | q
 · exact h value slice pins s σ H x y v u Q I rx ry q hs
 · exact h' value slice pins s σ H x y v u Q I rx ry q hs
theorem V7 (hr:IxR X r)(ha:PE X a ta)(hb:PE X b tb)(hs:CM b):PE X (.Subscript a b pos) (tOp r ta tb):=by
 intro pins s σ H Q I h;exact Subscript_ (binT ha hb I h fun v u s2 x y H2 I2 rx ry q=>hr a b pins s2 σ H2 x y v u Q I2 rx ry q (hs _ _))
def rIxL (K:A3):R2:=fun x y H Q=>∃p xs i v,x=.ref p/\y=.int i/\SqL K H p xs/\atI xs i=some v/\Q v H
def rIxT (K:A3):R2:=fun x y H Q=>∃p xs i v,x=.ref p/\y=.int i/\SqT K H p xs/\atI xs i=some v/\Q v H
def rIxS:R2:=fun x y H Q=>∃z i c,x=.str z/\y=.int i/\z.length<=B1/\atI z.cps.toList i=some c/\Q (.str ⟨#[c]⟩) H
theorem Y1:IxR X (rIxL X.K):=by
 intro value slice pins s σ H x y v u Q I rx ry h hs;obtain⟨p,xs,i,z,rfl,rfl,hq,he,q⟩:=h;cases rx;obtain⟨t,rfl⟩:=ry;obtain⟨its,r,pl,hz⟩:=I.list hq;obtain⟨j,h1,h2,h3,h4,h5⟩:=CK he;obtain⟨w,ew,rw'⟩:=r.get h2;have hl:=r.length;have hn:=o7;have fin:EP X pins σ Q w s:=⟨z,H,I,rw',q⟩
 by_cases h0:0<=i
 · have hj:i.toNat=j:=by
     rw [seqIndex_of h0 h5] at h1;exact D7 h1
   exact item_listR pl.isList h0 (by omega) (by rw [hj];simpa using ew) fin hs
 · have hj:(i + (its.toArray.size:Int)).toNat=j:=by
     rw [seqIndex_neg (by omega) h4] at h1;rw [D8,<- hl];exact D7 h1
   exact subscriptTail_builtinR (x:=w) pl.isList.typeIs slot_list_getitem.lookup
     (wpAny_getItem_list_neg (Q:=fun r s'=>r=w/\EP X pins σ Q r s') pl.isList (by omega) (by rw [D8] <;> omega) (by omega) (by rw [hj];simpa using ew) ⟨rfl,fin⟩) hs
theorem ix_tup:IxR X (rIxT X.K):=by
 intro value slice pins s σ H x y v u Q I rx ry h hs;obtain⟨p,xs,i,z,rfl,rfl,hq,he,q⟩:=h;cases rx;obtain⟨t,rfl⟩:=ry;obtain⟨its,r,pl,hz⟩:=I.tuple hq;obtain⟨j,h1,h2,h3,h4,h5⟩:=CK he;obtain⟨w,ew,rw'⟩:=r.get h2;have hl:=r.length;have hn:=o7;have fin:EP X pins σ Q w s:=⟨z,H,I,rw',q⟩
 exact subscriptTail_builtinR (x:=w) pl.typeIs slot_tuple_getitem.lookup
   (getItem_tuple (j:=j) (Q:=fun r s'=>r=w/\EP X pins σ Q r s') pl (by omega) (by omega) (by grind) (by grind) ⟨rfl,fin⟩) hs
theorem ix_str:IxR X rIxS:=by
 intro value slice pins s σ H x y v u Q I rx ry h hs;obtain⟨z,i,c,rfl,rfl,hz,he,q⟩:=h;obtain⟨t,rfl⟩:=rx;obtain⟨t',rfl⟩:=ry;obtain⟨j,h1,h2,h3,h4,h5⟩:=CK he;have hl:z.cps.toList.length=z.length:=by simp [Str.length]
 rw [hl] at h1 h4 h5;have hn:=o7
 exact tail_any (typeIs_str s z t) slot_str_getitem.lookup (getItem_str (c:=c) (by
   have e1:decide (i < -(2 ^ 63:Int))=false:=decide_eq_false (by omega);have e2:decide (i>=2 ^ 63)=false:=decide_eq_false (by omega)
   rw [e1,e2,Bool.or_false]) (by grind) ⟨.str ⟨#[c]⟩,H,I.tok _,⟨_,rfl⟩,q⟩) hs
def rIx (K:A3):R2:=fun x y H Q=>rIxL K x y H Q\/rIxT K x y H Q\/rIxS x y H Q
theorem Fc:IxR X (rIx X.K):=Y1.or (ix_tup.or ix_str)
theorem Jb (its:List Value)(n j:Nat)(u:Value):Obj.mapSeq (·.setIfInBounds j u) { cls:=.type "list",data:=.seq its.toArray n }={ cls:=.type "list",data:=.seq (its.set j u).toArray n }:=by
 simp [Obj.mapSeq]
theorem Inv.lst (I:Inv X pins σ H s)(h:H p=some (.lst xs)) :
   ∃(its:List Value) (n:Nat),Vals xs its/\s.heap.get? p=some { cls:=.type "list",data:=.seq its.toArray n }/\xs.length<=B1:=by
 obtain⟨z,its,n,r,e⟩:=I.hok p _ h;exact⟨its,n,r,e,z⟩
theorem Inv.lstUpd {its its':List Value}(I:Inv X pins σ H s)(h:H p=some (.lst xs))
   (ho:s.heap.get? p=some { cls:=.type "list",data:=.seq its.toArray n }) (hf:f { cls:=.type "list",data:=.seq its.toArray n }={ cls:=.type "list",data:=.seq its'.toArray n' }) (r:Vals ys its') (hz:ys.length<=B1) (t:Nat) :
   Inv X pins σ (upd H p (.lst ys)) { s with heap:=s.heap.update p f,toks:=t }:=by
 have e:(s.heap.update p f).get? p=some { cls:=.type "list",data:=.seq its'.toArray n' }:=by
   rw [Heap.get?_update_self f ho (by rw [hf] <;> rfl),hf]
 refine I.write (x:=p) (e:=p) (by rw [h];trivial) (.inl rfl) (fun b u hb q=>(Heap.get?_update_other _ _ (Ne.symm hb)).trans q) ⟨_,e⟩ ?_;exact⟨hz,its',n',r,e⟩
def z9:V->V->V->Hp->(Hp->Prop)->Prop:=fun o i v H Q=>∃p xs k j,o=.ref p/\i=.int k/\H p=some (.lst xs)/\ixN xs.length k=some j/\Q (upd H p (.lst (xs.set j v)))
theorem CN:PSet X z9:=by
 intro pins s σ H o i v ov iv u Q I ro ri rv h;obtain⟨p,xs,k,j,rfl,rfl,hp,hj,q⟩:=h;cases ro;obtain⟨t,rfl⟩:=ri;obtain⟨its,n,r,ho,hz⟩:=I.lst hp;obtain⟨h1,h2,h3,h4⟩:=Fb hj;have hl:=r.length;have hn:=o7
 have I':Inv X pins σ (upd H p (.lst (xs.set j v))) { s with heap:=s.heap.update p (Obj.mapSeq (·.setIfInBounds j u)) }:=
   I.lstUpd hp ho (Jb its n j u) (r.set rv j) (by grind) s.toks
 by_cases h0:0<=k
 · have hk:k.toNat=j:=by
     rw [seqIndex_of h0 h4] at h1;exact D7 h1
   exact PySem.W.ki_setAt ho h0 (by omega) (by grind) (by grind)
 · have hk:(k + (its.toArray.size:Int)).toNat=j:=by
     rw [seqIndex_neg (by omega) h3] at h1;rw [D8,<- hl];exact D7 h1
   exact PySem.W.ki_setBack ho (by omega) (by rw [D8,<- hl];exact h3) (by omega) (by rw [hk];exact⟨_,I',q⟩)
theorem Jc (lo hi:Option Int)(n:Nat):(Z8 lo hi none n).1=((HT.sIx n 0 lo:Nat):Int)/\(Z8 lo hi none n).2.1=((HT.sIx n n hi:Nat):Int)/\(Z8 lo hi none n).2.2=1:=by
 refine⟨?_,?_,rfl⟩
 · cases lo with
   | none=>simp [Z8,HT.sIx]
   | some i =>
     simp only [Z8,HT.sIx,Option.getD_none,show(1:Int) > 0 by decide,if_true]
     by_cases h:i < 0
     · simp only [h,if_true] <;> omega
     · simp only [h,if_false] <;> omega
 · cases hi with
   | none=>simp [Z8,HT.sIx]
   | some i =>
     simp only [Z8,HT.sIx,Option.getD_none,show(1:Int) > 0 by decide,if_true]
     by_cases h:i < 0
     · simp only [h,if_true] <;> omega
     · simp only [h,if_false] <;> omega
theorem Jd (its:List Value)(lo hi:Option Int):slicePick its.toArray lo hi none=((its.drop (HT.sIx its.length 0 lo)).take (HT.sIx its.length its.length hi - HT.sIx its.length 0 lo)).toArray:=by
 obtain⟨h1,h2,h3⟩:=Jc lo hi its.toArray.size;unfold slicePick;rw [h1,h2,h3];simp only [sliceRange_one,pick_run,D8] <;> rfl
def rSlL (K:A3):V->Option Int->Option Int->Hp->VK->Prop:=fun x lo hi H Q=>∃a xs,x=.ref a/\SqL K H a xs/\∀p,H p=none->Q (.ref p) (upd H p (.lst (cutV xs lo hi)))
theorem Fd:SlR X (rSlL X.K):=by
 intro pins s σ H x v vl vu lo hi sl Q I rx hs pl pu h;obtain⟨a,xs,rfl,hx,q⟩:=h;cases rx;obtain⟨its,r,ht,hz⟩:=I.list hx;have hlen:=r.length;refine⟨"list",_,slot_list_getitem.lookup,ht.isList.typeIs,?_⟩;refine wpAny_getItem_list_slice ht.isList hs pl pu .none (by simp) ?_ (by rw [D8] <;> omega)
 rw [Jd,<- hlen];refine⟨.ref s.heap.objs.size,_,I.laid (t':=s.toks) (o:=.lst (cutV xs lo hi)) (fun b ob q=>B6 _ q) (A8 _) ?_,rfl,q _ (I.hok.fresh (A8 _))⟩;exact⟨E8 (Fa xs lo hi) hz,_,0,(r.drop (HT.sIx xs.length 0 lo)).take (HT.sIx xs.length xs.length hi - HT.sIx xs.length 0 lo),E6 _ rfl⟩
def N5:V->Bool
 | .non=>true
 | .bl _=>true
 | .int _=>true
 | .str _=>true
 | _=>false
def eqV:V->V->Bool
 | .non,.non=>true
 | .bl a,.bl b=>a == b
 | .bl a,.int b=>(if a then 1 else 0) == b
 | .int a,.bl b=>a == (if b then 1 else 0)
 | .int a,.int b=>a == b
 | .str a,.str b=>a == b
 | _,_=>false
theorem Fe (ry:RelV y u)(rx:RelV x v)(fy:N5 y=true)(fx:N5 x=true):d5 A s u v (eqV y x):=by
 cases y with
 | non =>
   cases ry;cases x with
   | non=>cases rx;exact SeqAt.EqAt.same _
   | bl b=>cases rx;exact SeqAt.EqAt.none_bool b
   | int b=>obtain⟨t,rfl⟩:=rx;exact SeqAt.EqAt.none_int b t
   | str b=>obtain⟨t,rfl⟩:=rx;exact SeqAt.EqAt.none_str b t
   | _=>exact absurd (show false=true from fx) N1
 | bl a =>
   cases ry;cases x with
   | non=>cases rx;exact SeqAt.EqAt.bool_none a
   | bl b=>cases rx;exact SeqAt.EqAt.bool_bool a b
   | int b=>obtain⟨t,rfl⟩:=rx;exact SeqAt.EqAt.bool_int a b t
   | str b=>obtain⟨t,rfl⟩:=rx;exact SeqAt.EqAt.bool_str a b t
   | _=>exact absurd (show false=true from fx) N1
 | int a =>
   obtain⟨t',rfl⟩:=ry;cases x with
   | non=>cases rx;exact SeqAt.EqAt.int_none a t'
   | bl b=>cases rx;exact SeqAt.EqAt.int_bool a t' b
   | int b=>obtain⟨t,rfl⟩:=rx;exact SeqAt.EqAt.int_int a t' b t
   | str b=>obtain⟨t,rfl⟩:=rx;exact SeqAt.EqAt.int_str a t' b t
   | _=>exact absurd (show false=true from fx) N1
 | str a =>
   obtain⟨t',rfl⟩:=ry;cases x with
   | non=>cases rx;exact SeqAt.EqAt.str_none a t'
   | bl b=>cases rx;exact SeqAt.EqAt.str_bool a t' b
   | int b=>obtain⟨t,rfl⟩:=rx;exact SeqAt.EqAt.str_int a t' b t
   | str b=>obtain⟨t,rfl⟩:=rx;exact SeqAt.EqAt.str_str a t' b t
   | _=>exact absurd (show false=true from fx) N1
 | _=>exact absurd (show false=true from fy) N1
theorem Je:OpR X (G5 .NotIn) (fun x y H Q=>∃i j,x=.str i/\y=.str j/\Q (.bl (!(!(l6 j i 0 j.length 1).isEmpty))) H):=by
 intro pins s σ H x y v u Q I rx ry h;obtain⟨i,j,rfl,rfl,q⟩:=h;obtain⟨t,rfl⟩:=rx;obtain⟨t',rfl⟩:=ry;exact notIn_str ⟨.bl _,H,I,rfl,q⟩
theorem Ff:J1 X (.builtin "len") (fun xs H Q=>∃p ys,xs=[.ref p]/\(SqL X.K H p ys\/SqT X.K H p ys)/\Q (.int ys.length) H):=by
 intro pins s σ H xs us Q I r h;obtain⟨p,ys,rfl,hq,q⟩:=h;obtain⟨u,rfl,rx⟩:=X9 r;cases rx;have hn:=o7;rcases hq with hq | hq
 · obtain⟨its,r',pl,hz⟩:=I.list hq;have hlen:=r'.length;exact Calls.call_len_list pl.isList (by simp only [D8] <;> omega) ⟨.int ys.length,H,I.tok _,⟨s.toks + 1,by rw [D8,hlen]⟩,q⟩
 · obtain⟨its,r',pl,hz⟩:=I.tuple hq;have hlen:=r'.length;exact len_tuple pl (by simp only [D8] <;> omega) ⟨.int ys.length,H,I.tok _,⟨s.toks + 1,by rw [D8,hlen]⟩,q⟩
theorem Jf:J1 X (.builtin "len") (fun xs H Q=>∃z,xs=[.str z]/\z.length<=B1/\Q (.int z.length) H):=by
 intro pins s σ H xs us Q I r h;obtain⟨z,rfl,hz,q⟩:=h;obtain⟨u,rfl,t,rfl⟩:=X9 r;have hn:=o7;exact len_str (by omega) ⟨.int z.length,H,I.tok _,⟨_,rfl⟩,q⟩
theorem J1.or (h:J1 X f r)(h':J1 X f r'):J1 X f (fun xs H Q=>r xs H Q\/r' xs H Q):=by
 intro pins s σ H xs us Q I rs q;rcases q with q | q
 · exact h pins s σ H xs us Q I rs q
 · exact h' pins s σ H xs us Q I rs q
theorem Jg:J1 X (.type "list") (fun xs H Q=>∃p ys,xs=[.ref p]/\(SqL X.K H p ys\/SqT X.K H p ys)/\∀l,H l=none->Q (.ref l) (upd H l (.lst ys))):=by
 intro pins s σ H xs us Q I r h;obtain⟨p,ys,rfl,hq,q⟩:=h;obtain⟨u,rfl,rx⟩:=X9 r;cases rx
 have fin:∀(its:List Value),Vals ys its->ys.length<=B1->∀(h':Heap) (c':Nat),(∀b o',s.heap.get? b=some o'->h'.get? b=some o')->
     h'.get? s.heap.objs.size=some { cls:=.type "list",dict:=none,data:=.seq its.toArray c',slots:=#[] }->EP X pins σ Q (.ref s.heap.objs.size) { s with heap:=h' }:=fun its r' hz h' c' kp e=>
   ⟨.ref s.heap.objs.size,_,I.laid (t':=s.toks) kp (A8 _) (show D9 X.prog X.w _ h' _ (.lst ys) from⟨hz,its,c',r',e⟩),rfl,q _ (I.hok.fresh (A8 _))⟩
 rcases hq with hq | hq
 · obtain⟨its,r',pl,hz⟩:=I.list hq;have hlen:=r'.length;obtain⟨o,ho,hc,n,hd⟩:=pl.isList;exact call_list_seq p (.inl rfl) ho hc hd (fun h' c' kp e=>fin its r' hz h' c' kp e) (by simp only [D8] <;> omega)
 · obtain⟨its,r',pl,hz⟩:=I.tuple hq;have hlen:=r'.length;obtain⟨o,ho,hc,n,hd⟩:=pl;exact call_list_seq p (.inr rfl) ho hc hd (fun h' c' kp e=>fin its r' hz h' c' kp e) (by simp only [D8] <;> omega)
theorem Jh:J1 X (.type "tuple") (fun xs H Q=>∃p ys,xs=[.ref p]/\((SqL X.K H p ys/\∀l,H l=none->Q (.ref l) (upd H l (.tup ys)))\/(SqT X.K H p ys/\Q (.ref p) H))):=by
 intro pins s σ H xs us Q I r h;obtain⟨p,ys,rfl,h⟩:=h;obtain⟨u,rfl,rx⟩:=X9 r;cases rx;rcases h with⟨hq,q⟩ | ⟨hq,q⟩
 · obtain⟨its,r',pl,hz⟩:=I.list hq;have hlen:=r'.length;refine call_tuple_list pl.isList (fun h' kp=>?_) (by simp only [D8] <;> omega)
   have I1:Inv X pins σ H { s with heap:=h' }:=I.kept (t':=s.toks) kp
   have I2:Inv X pins σ (upd H h'.objs.size (.tup ys)) { s with heap:=h'.push { cls:=.type "tuple",data:=.seq its.toArray } }:=
     I1.laid (t':=s.toks) (fun b o e=>B6 _ e) (A8 _) (show D9 X.prog X.w _ _ _ (.tup ys) from⟨hz,its,r',R4.new _ _⟩)
   exact⟨.ref h'.objs.size,_,I2,rfl,q _ (I1.hok.fresh (A8 _))⟩
 · obtain⟨its,r',pl,hz⟩:=I.tuple hq;exact call_tuple_same pl ⟨.ref p,H,I,rfl,q⟩
def tyV (K:A3)(T:String)(x:V)(H:Hp):Prop:=match x with
 | .str _=>T="str"
 | .int _=>T="int"
 | .ref p=>(T="list"/\∃xs,SqL K H p xs)\/(T="tuple"/\((∃o,K.lookup p=some o/\o.cls=.type "tuple"/\o.dict=none)\/∃xs,H p=some (.tup xs)))\/
     (T="dict"/\((∃kvs,H p=some (.dK kvs))\/∃kvs,H p=some (.dT kvs)))\/(T="set"/\∃S n,H p=some (.set S n))
 | _=>False
theorem tyV_is (I:Inv X pins σ H s)(r:RelV x v)(ty:tyV X.K T x H) :
   s.TypeIs v T/\∀a,v=.ref a->∃ob,s.heap.get? a=some ob/\ob.dict=none:=by
 cases x with
 | str z =>
   obtain⟨t,rfl⟩:=r;cases(show T="str" from ty);exact⟨typeIs_str s z t,fun _ e=>nomatch e⟩
 | int i =>
   obtain⟨t,rfl⟩:=r;cases(show T="int" from ty);exact⟨typeIs_int s i t,fun _ e=>nomatch e⟩
 | ref p =>
   cases r;rcases ty with⟨rfl,xs,hq⟩ | ⟨rfl,hk⟩ | ⟨rfl,hk⟩ | ⟨rfl,S,n,hk⟩
   · obtain⟨its,_,pl,_⟩:=I.list hq;refine⟨pl.isList.typeIs,fun a e=>?_⟩;cases e;obtain⟨o,n,e,c,hd,_⟩:=pl;exact⟨o,e,hd⟩
   · rcases hk with⟨o,hk,hc,hd⟩ | ⟨xs,hk⟩
     · refine⟨⟨o,I.kIn p o hk,hc⟩,fun a e=>?_⟩;cases e;exact⟨o,I.kIn _ o hk,hd⟩
     · obtain⟨_,_,_,o,e,c,_⟩:=(show D9 X.prog X.w H s.heap p (.tup xs) from I.hok p _ hk);refine⟨⟨o,e,(o5 c).1⟩,fun a e2=>?_⟩;cases e2;exact⟨o,e,(o5 c).2⟩
   · have z:∃o,s.heap.get? p=some o/\o.ExactDict:=by
       rcases hk with⟨kvs,hk⟩ | ⟨kvs,hk⟩
       · obtain⟨_,_,_,_,o,_,_,e,ex,_⟩:=I.hok p _ hk;exact⟨o,e,ex⟩
       · obtain⟨_,_,_,_,o,_,_,e,ex,_⟩:=I.hok p _ hk;exact⟨o,e,ex⟩
     obtain⟨o,e,ex⟩:=z;refine⟨⟨o,e,ex.1⟩,fun a e2=>?_⟩;cases e2;exact⟨o,e,ex.2.1⟩
   · obtain⟨o,_,_,_,e,ex,_⟩:=I.hok p _ hk;refine⟨⟨o,e,ex.1⟩,fun a e2=>?_⟩;cases e2;exact⟨o,e,ex.2.1⟩
 | _=>exact T7 ty
def tBM (K:A3)(T:String)(r:V->List V->Hp->VK->Prop)(to:TE)(t:TA):TE:=fun σ H Q=>to σ H fun x H1=>tyV K T x H1/\t σ H1 fun xs H2=>r x xs H2 Q
variable {o e:Expr}{es:List Expr}{to:TE}{t:TA}{name:Str}{apos cpos:Pos}{T id:String}{r:V->List V->Hp->VK->Prop}
theorem Bj (pa:PlainAttrs T)(slot:Slot T name id)(hty:typeOf (.builtin id)=pure (.type "method_descriptor"))(hm:MtR X id r)(ho:PE X o to)(ha:PA X (e::es) t)
   (hbase:w5 o name X.env (eval o X.env)=eval o X.env:=by rfl)
   (hfew:((backTo cpos (C7 (e::es) X.env)).all (fun x=>!x.1) && (backToKw cpos (j3 [] X.env)).all (fun x=>x.1.isSome)
     && decide ((e::es).length + ([]:List Q7).length + (if([]:List Q7).isEmpty then 0 else 1) < 30))=true:=by rfl)
   (hline:(apos.endLine == cpos.line)=true:=by rfl) (hs:C7 (e::es) X.env=(false,eval e X.env)::C7 es X.env:=by rfl) (hplain:(backTo cpos (C7 es X.env)).any (·.1)=false:=by rfl) :
   PE X (.Call (.Attribute o name apos) (e::es) [] cpos) (tBM X.K T r to t):=by
 intro pins s σ H Q I h;refine wpAny_Call_method_late hbase hfew hline rfl (thn (ho pins s σ H _ I h) fun v s1 ⟨x,H1,I1,r1,ty,q1⟩=>?_);obtain⟨h1,h2⟩:=tyV_is I1 r1 ty;refine⟨T,id,pa,slot,hty,h1,h2,?_⟩;have hA:=ha cpos pins s1 σ H1 _ I1 q1;rw [hs] at hA ⊢;refine Calls.callWith_builtin (by show(false || (backTo cpos (C7 es X.env)).any (·.1))=false;rw [hplain] <;> rfl) (Calls.evalArgs_plain ?_)
 exact thn hA fun us s2 ⟨vs,H2,I2,r2,q2⟩=>hm pins s2 σ H2 x vs v us Q I2 r1 r2 q2
end
def MtM (X:Cx)(id:String)(r:V->List V->Hp->VK->Prop):Prop:=
 ∀ (pins : List (Addr × Obj)) (s : Shared) (σ : St) (H : Hp) (x : V) (xs : List V) (v : Value) (us : List Value) (Q : VK), Inv X pins σ H s -> RelV x v -> Vals xs us -> r x xs H Q ->
   wpAny (model X.prog X.w) X.A (call (.builtin id) (v::us)) (EP X pins σ Q) X.xe s
theorem Vals.one:∀{x:V} {us:List Value},Vals [x] us->∃u,us=[u]/\RelV x u
 | _,_,.cons r .nil=>⟨_,rfl,r⟩
theorem Vals.two:∀{x y:V} {us:List Value},Vals [x,y] us->∃u v,us=[u,v]/\RelV x u/\RelV y v
 | _,_,_,.cons r (.cons q .nil)=>⟨_,_,rfl,r,q⟩
section
variable {X:Cx}{pins:List (Addr×Obj)}{σ:St}{H:Hp}{s:Shared}{l b:Addr}{xs ys zs:List V}
theorem Inv.lset {its its':List Value}(I:Inv X pins σ H s)(hH:H l=some (.lst xs))
   (e:s.heap.get? l=some { cls:=.type "list",data:=.seq its.toArray n }) (hf:f its.toArray=its'.toArray) (hv:Vals ys its') (hz:ys.length<=B1) :
   Inv X pins σ (upd H l (.lst ys)) { s with heap:=s.heap.update l (Obj.mapSeq f),toks:=t' }:=by
 have q:=PySem.IsL.update e f;rw [hf] at q;refine I.write (x:=l) (e:=l) (by rw [hH];exact trivial) (.inl rfl) (fun b' u hb hu=>(Heap.get?_update_other s.heap (Obj.mapSeq f) (Ne.symm hb)).trans hu) ⟨_,q⟩ ?_;exact⟨hz,its',_,hv,q⟩
theorem Inv.fresh (I:Inv X pins σ H s):H s.heap.objs.size=none:=I.hok.fresh (A8 _)
theorem Inv.lstM (I:Inv X pins σ H s)(hH:H l=some (.lst xs)):xs.length<=B1/\∃(its:List Value) (n:Nat),Vals xs its/\xs.length=its.length/\s.heap.get? l=some { cls:=.type "list",data:=.seq its.toArray n }:=by
 obtain⟨z,its,n,r,e⟩:=I.hok l _ hH;exact⟨z,its,n,r,r.length,e⟩
theorem Ji (h:n<=B1):Cv n=false:=by
 unfold Cv;exact decide_eq_false (by omega)
end
section
variable {X:Cx}
def Fg:V->List V->Hp->VK->Prop:=fun x vs H Q=>∃l xs y,x=.ref l/\vs=[y]/\H l=some (.lst xs)/\xs.length < B1/\Q .non (upd H l (.lst (xs++[y])))
theorem Aa:MtM X "list.append" Fg:=by
 intro pins s σ H x vs v us Q I rx rv h;obtain⟨l,xs,y,rfl,rfl,hH,hz,q⟩:=h;cases rx;obtain⟨u,rfl,ru⟩:=rv.one;obtain⟨z,its,n,r,hl,e⟩:=I.lstM hH;refine call_meets F.slot_list_append ⟨_,e,rfl⟩ F.entry_list_append (F.args_list_append_2 _ _) (PySem.list_append l its.toArray n u (by rw [D8];omega)) ⟨e,?_⟩;refine⟨.non,_,I.lset (its':=its++[u]) hH e (by simp) (r.append (.cons ru .nil)) ?_,rfl,q⟩;rw [E3,b3];omega
end
end L2
namespace Att
open PySem PySem.W PySem.Calls PyProof.Rows
theorem Jj:∀(ns:List Int) (vs:List Value),WellAll P h vs (ns.map WData.int)->IntsAre vs ns:=by
 intro ns
 induction ns with
 | nil =>
   intro vs w;rw [List.map_nil] at w;cases w;exact .nil
 | cons n ns ih =>
   intro vs w;rw [G7] at w;cases w with
   | cons a b =>
     cases a;exact .cons _ _ (ih _ b)
theorem Jk {l:OpenLaw}(hn:l.most=some n)
   (hpre:l.row.toRowW.claim.pre args=true) (hwl:WellAll P h vals args) :
   ∃a vs ns,vals=[J9 a]/\args=[WData.list (ns.map WData.int)]/\h.get? a=some { cls:=.type "list",data:=.seq vs.toArray }/\IntsAre vs ns/\ns.length<=n:=by
 have hsh:WShape.hasAll [] args [.list .int]=true:=(pre_splitW hpre).1;have hc:l.pre.holds [] { args:=args }=true:=(pre_splitW hpre).2;obtain⟨d,r,rfl,h1,h2⟩:=hasAllW_cons hsh;obtain rfl:=hasAllW_nil h2;obtain⟨xs,rfl,h3⟩:=hasW_list h1;obtain⟨ns,rfl⟩:=items_int h3
 have hlen:ns.length<=n:=by
   unfold OpenLaw.pre at hc
   have h4:(WTm.not (.lt (.lit (.int (n:Int))) (.len (.arg 0)))).holds [] { args:=[.list (ns.map .int)] }=true:=by
     have h4:=(holds_andW hc).1;rw [hn] at h4;exact h4
   have h5:=condW_of h4 (w_not (w_lt w_lit (w_len_list (w_arg rfl))));rw [A9] at h5;refine Nat.le_of_not_lt fun q=>?_;have q':(n:Int) < ((ns.length:Nat):Int):=by omega
   first
     | (rw [decide_eq_true q'] at h5;exact absurd h5 (by decide))
     | (simp at h5;omega)
 cases hwl with
 | cons w1 w2 =>
   cases w2;cases w1 with
   | list ho hall=>exact⟨_,_,ns,rfl,rfl,ho,Jj ns _ hall,hlen⟩
theorem Jl (l:OpenLaw)(args:List WData):l.row.toRowW.claim.post args (.bool true) args=true:=
 postW_of (r:=l.row.toRowW) (X:=(true == true))
   (show WShape.has [] (.bool true) .bool=true by first | rfl | decide | simp [WShape.has,WShape.arms,WShape.armsAll])
   (show(WTm.eq .res (.lit (.bool true))).value [] { args:=args,res:=some (.bool true),after:=args }=some (.bool (true == true)) from w_eq_bool (w_res rfl) w_lit) rfl
theorem attach_call {l:OpenLaw}
   (hn:l.most=some n) (hdf:d.params.defaults=[])
   (call:∀(w:World) (s₀ s₁:Shared) (mg mb:Str->Option Value) (fa:Addr) (o:Obj) (pm cd doc:Value) (a:Addr) (vs:List Value) (ns:List Int),
     Ground q loose [] XP w s₀ mg mb s₁.heap->YP w s₁.heap->
     s₁.heap.get? fa=some o->o.data=.func (docDef d.name d.params d.body d.scope pm cd doc)->s₁.heap.CodeRec cd d.name->mg d.name=some (.ref fa)->
     s₁.heap.get? a=some { cls:=.type "list",data:=.seq vs.toArray }->IntsAre vs ns->ns.length<=n->s₁.gens=#[]->
     L8 (model l.prog w) callerA (.call (.ref fa) ⟨[.ref a],[]⟩) (fun r s'=>r=.ok (.ret (.bool true))/\OldK s₁.heap s'.heap/\s'.os=s₁.os/\AllBare s'.gens) s₁) :
   WalkO q loose XP YP l.row.toRowW d [] (fun f vs=>PySem.call f vs):=by
 intro w s₀ s₁ mg mb G Y fa o pm cd doc dV kV ho hd hcd hD hmg hg args vals as hpre hlay hrd hwl hlo;obtain rfl:dV=.none:=Dflts.none hD hdf;obtain rfl:kV=.none:=Dflts.noKw hD;obtain⟨a,vs,ns,rfl,rfl,hobj,hints,hlen⟩:=Jk hn hpre hwl;refine enter_call (codeAny_mono (call w s₀ s₁ mg mb fa o pm cd doc a vs ns G Y ho (fd_plain hd) hcd hmg hobj hints hlen hg) fun r s' hq=>?_);obtain⟨rfl,h2,h3,h4⟩:=hq;exact⟨.inl ⟨.bool true,.bool true,[],rfl,fun _=>rfl,.bool true,Jl l _,fun _=>⟨List.Pairwise.nil,fun _ hm=>(nomatch hm)⟩⟩,h2,h3,h4⟩
end Att
namespace L2
open PySem PySem.Spec PyProof.Rows
theorem Fh:∀{vs:List Value} {ns:List Int},IntsAre vs ns->Vals (ns.map V.int) vs
 | _,_,.nil=>.nil
 | _,_,.cons n t h=>.cons ⟨t,rfl⟩ (Fh h)
def Only (H:Hp):Prop:=∀b,H b=none\/∃o xs,H b=some (.frz o (.lst xs))
theorem Jm {K:A3}
   (KX:K.In s₁.heap) (hns:s₁.heap.Ns O4 mg) (hb:s₁.heap.Ns builtinsNs mb) (hbb:∀x:Str,x≠"__name__"->mb x=F5 x) (hlim:s₁.heap.NoLimit) (hg:s₁.gens=#[])
   (ha:s₁.heap.get? a=some { cls:=.type "list",data:=.seq vs.toArray }) (hi:IntsAre vs ns) (hl:ns.length<=B1) (hr:Room k callerA)
   (F:∀base:Heap,K.In base->base.Ns O4 mg->FnOk P w K mg base CX k fa fd [x] sp) (hbind:∀(s:Shared) (u:Value),BindsTo s fd ⟨[u],[]⟩ [(x,u)])
   (hsp:∀H:Hp,Only H->SqL K H a (ns.map V.int)->sp [.ref a] H (fun v _=>v=.bl true) fun _ _ _=>False)
   (hCX:∀H e s',CX [] H s₁ (fun _ _ _=>False) e s'->False) :
   L8 (model P w) callerA (.call (.ref fa) ⟨[.ref a],[]⟩) (fun r s'=>r=.ok (.ret (.bool true))/\OldK s₁.heap s'.heap/\s'.os=s₁.os/\AllBare s'.gens) s₁:=by
 have rv:=Fh hi;have lenV:=hi.length
 -- from an abstract heap in which nothing but the script may be tracked
 have core:∀H:Hp,Only H->SqL K H a (ns.map V.int)->HOk P w H s₁.heap->(∀b,H b≠none->b=a)->(H a≠none->K.lookup a=none)->
     L8 (model P w) callerA (.call (.ref fa) ⟨[.ref a],[]⟩) (fun r s'=>r=.ok (.ret (.bool true))/\OldK s₁.heap s'.heap/\s'.os=s₁.os/\AllBare s'.gens) s₁:=by
   intro H hO hS hok hA hK;have base_of:∀{b:Addr} {o:Obj},s₁.heap.get? b=some o->H b=none->(hidT s₁.heap H).get? b=some o:=fun e n=>Is e n
   have noA:∀{b:Addr} {o:Obj} {es:Array DictEntry} {ep:Nat},s₁.heap.get? b=some o->o.data=.dict es ep->H b=none:=fun {b o es ep} e d=>by
     cases q:H b with
     | none=>rfl
     | some u =>
       have e':b=a:=hA b (by rw [q];simp);subst e';rw [ha] at e;cases e;have d':Data.seq vs.toArray _=Data.dict es ep:=d;cases d'
   have nsK:∀{b:Addr} {m:Str->Option Value},s₁.heap.Ns b m->(hidT s₁.heap H).Ns b m:=fun {b m} ⟨o,es,ep,e,d,r⟩=>⟨o,es,ep,base_of e (noA e d),d,r⟩
   have hKb:K.In (hidT s₁.heap H):=fun b o e=>base_of (KX b o e) (by
     cases q:H b with
     | none=>rfl
     | some u =>
       have e':b=a:=hA b (by rw [q];simp);subst e'
       rw [hK (by rw [q];simp)] at e;cases e)
   have hM:Mod K mg (hidT s₁.heap H):=⟨hKb,nsK hns,⟨mb,nsK hb,hbb⟩,let ⟨mc,h1,h2⟩:=hlim;⟨mc,nsK h1,h2⟩⟩;have e0:Env0 P w K mg (hidT s₁.heap H) callerA [] s₁ H:=⟨rfl,hM,fun b o e=>Iu e,Nat.le_of_eq (Ir _ _),trivial,fun b hb=>absurd (show b∈([]:List Addr) from hb) (by simp),hok,.of_eq hg,(hO K2).imp id fun⟨o,xs,e⟩=>⟨o,_,e⟩⟩;refine codeAny_mono ((F _ hKb (nsK hns)).run callerA [] s₁ H ⟨[.ref a],[]⟩ [.ref a] [.ref a] _ _ hr e0 (hbind s₁ (.ref a)) (.cons rfl .nil) (hsp H hO hS)) fun r s' h=>?_;cases r with
   | error e=>exact(hCX H e s' h).elim
   | ok fl =>
     cases fl with
     | next=>exact T7 h
     | brk=>exact T7 h
     | cont=>exact T7 h
     | ret u =>
       obtain⟨v,H',os,bare,un,hok',r',q⟩:=h;have q':v=.bl true:=q;subst q';obtain rfl:u=Value.bool true:=r';refine⟨rfl,OldK.of_keep fun b o e=>?_,os,bare⟩;cases q:H b with
       | none=>exact un.keep b o e q (by intro z;exact absurd (show b∈([]:List Addr) from z) (by simp)) (by simp)
       | some u =>
         rcases hO b with z | ⟨ob,xs,z⟩
         · rw [q] at z;cases z
         · have z2:=un.frzs b ob _ z;obtain⟨e1,_⟩:=hok b _ z;obtain⟨e2,_⟩:=hok' b _ z2;rw [e] at e1;cases e1;exact e2
 cases hk:K.lookup a with
 | some o =>
   -- the script is one of the module's own objects
   have e:=KX a o hk;rw [ha] at e;cases e;refine core (fun _=>none) (fun _=>.inl rfl) (.inr ⟨_,vs.toArray,_,hk,rfl,rfl,rfl,by rw [D8,lenV];exact hl,by simpa using rv⟩) (fun b u z=>by have z':(none:Option HO)=some u:=z;cases z') (fun b z=>absurd rfl z) fun z=>absurd rfl z
 | none =>
   refine core (fun b=>if b=a then some (.frz { cls:=.type "list",data:=.seq vs.toArray } (.lst (ns.map V.int))) else none) (fun b=>?_) (.inl (.inr ⟨{ cls:=.type "list",data:=.seq vs.toArray },if_pos rfl⟩)) (fun b u z=>?_) (fun b z=>?_) fun _=>hk
   · by_cases hb:b=a
     · exact .inr ⟨_,_,if_pos hb⟩
     · exact .inl (if_neg hb)
   · by_cases hb:b=a
     · have z':=(if_pos hb).symm.trans z;cases z';subst hb;exact⟨ha,by rw [A9];exact hl,vs,_,rv,ha⟩
     · have z':=(if_neg hb).symm.trans z;cases z'
   · by_cases hb:b=a
     · exact hb
     · exact absurd (if_neg hb) z
abbrev KOf {K:A3}{h:Heap}(_:K.In h):A3:=K
theorem Jn {l:PySem.W.OpenLaw}{K:Params->A3}{CX:World->CXT}{sp:World->Sp}
   (hn:l.most=some n) (hn2:n<=B1) (hdf:d.params.defaults=[]) (hr:Room k callerA)
   (hY:∀(w:World) (h:Heap),YP w h->(K w.params).In h)
   (F:∀(w:World) (mg:Str->Option Value) (fa:Addr) (h:Heap),(K w.params).In h->h.Ns O4 mg->mg d.name=some (.ref fa)->
     ∃ fd : FuncData, (∀ (s : Shared) (u : Value), BindsTo s fd ⟨[u], []⟩ [(x, u)]) /\
       ∀base:Heap,(K w.params).In base->base.Ns O4 mg->FnOk l.prog w (K w.params) mg base (CX w) k fa fd [x] (sp w))
   (hsp:∀(w:World) (H:Hp) (a:Addr) (ns:List Int),ns.length<=n->Only H->SqL (K w.params) H a (ns.map V.int)->sp w [.ref a] H (fun v _=>v=.bl true) fun _ _ _=>False)
   (hCX:∀(w:World) (H:Hp) (s:Shared) (e:Value) (s':Shared),CX w [] H s (fun _ _ _=>False) e s'->False) :
   PySem.W.WalkO q loose XP YP l.row.toRowW d [] (fun f vs=>PySem.call f vs):=by
 refine Att.attach_call hn hdf fun w s₀ s₁ mg mb fa o pm cd doc a vs ns G Y ho hd hcd hmg hobj hints hlen hg=>?_;have KX:=hY w _ Y;obtain⟨fd,hb,hF⟩:=F w mg fa _ KX G.T.g hmg;exact Jm KX G.T.g G.T.b G.T.builtins G.T.nolimit hg hobj hints (E8 hlen hn2) hr hF hb (fun H hO hS=>hsp w H a ns hlen hO hS) fun H e s'=>hCX w H s₁ e s'
def U3 (s:Stmt):Arguments:=match s with
 | .FunctionDef _ a _ _ _ _ _ _ _ _=>a
 | _=>{ posonlyargs:=[],args:=[],vararg:=none,kwonlyargs:=[],kw_defaults:=[],kwarg:=none,defaults:=[] }
def N6 (s:Stmt):List Stmt:=match s with
 | .FunctionDef _ _ b _ _ _ _ _ _ _=>b
 | _=>[]
def E5 (s:Stmt):Scope:=match s with
 | .FunctionDef _ _ _ _ _ _ sc _ _ _=>sc
 | _=>{ kind:=.function,names:=[],isGenerator:=false,isCoroutine:=false }
abbrev CX0:CXT:=fun _ _ _ _ _ _=>False
abbrev E0:XK:=fun _ _ _=>False
theorem pass0:CI CX0 X E0:=fun _ _ _ _ _ _ _ h=>h.elim
structure Fun (K:A3)(x qual:Str)(st:Stmt)(f:Addr)(fd:FuncData):Prop where
 ex:∃(oc:Value) (od:Option Addr) (kV doc pm:Value) (an:Option Addr) (cdv ct:Value) (osl:Array (Option Value)),
   fd=P1 x qual (U3 st) (N6 st) (E5 st) .none kV doc pm an cdv ct/\K.lookup f=some ⟨oc,od,.func fd,osl⟩/\AF K cdv qual=true
 kp:v5 K (.ref f)=true
section
variable {P:C3}{w:World}{K:A3}{mg:Str->Option Value}{base:Heap}
theorem Fun.ok {st:Stmt}(F:Fun K x qual st f fd)(S:R8 N ps (E5 st))(len:∀vs H Q E,sp vs H Q E->vs.length=ps.length)
   (hbody:∀(cdv:Value) (A:Around) (outer:List Env) (s:Shared) (H:Hp) (vs:List V) (Q:VK) (E:XK),Room k (A.deeper (envOfC qual (E5 st) s.heap.objs.size f cdv))->sp vs H Q E->
     ∃t,PSs (cxOf CX0 P w K mg base N qual (E5 st) f cdv A outer s H E).nox (N6 st) t/\t { nx:=fun _ H'=>Q .non H',rt:=Q } (P7 N vs) H):FnOk P w K mg base CX0 (k + 1) f fd ps sp:=by
 obtain⟨oc,od,kV,doc,pm,an,cdv,ct,osl,rfl,lk,hcd⟩:=F.ex;refine fn_of lk hcd S len fun A outer s H vs Q E hr hsp=>?_;obtain⟨t,h,q⟩:=hbody cdv A outer s H vs Q E hr hsp;exact⟨t,h.nox,q⟩
theorem Fun.binds {st:Stmt}{f:Addr}{fd:FuncData}{ps:List Str}(F:Fun K x qual st f fd)
   (h:∀(kV doc pm:Value) (an:Option Addr) (cdv ct:Value) (us:List Value),us.length=ps.length->bindArgs (P1 x qual (U3 st) (N6 st) (E5 st) .none kV doc pm an cdv ct) ⟨us,[]⟩=pure (ps.zip us)):o8 K fd ps []:=by
 obtain⟨oc,od,kV,doc,pm,an,cdv,ct,osl,rfl,lk,hcd⟩:=F.ex;exact .all (h kV doc pm an cdv ct)
theorem fun_mk {x qual:Str}{st:Stmt}{f:Addr}{oc:Value}{od an:Option Addr}{osl:Array (Option Value)}{kV doc pm cdv ct:Value}(l:K.lookup f=some ⟨oc,od,.func (P1 x qual (U3 st) (N6 st) (E5 st) .none kV doc pm an cdv ct),osl⟩)
   (c:AF K cdv qual=true) (k:v5 K (.ref f)=true):Fun K x qual st f (P1 x qual (U3 st) (N6 st) (E5 st) .none kV doc pm an cdv ct):=⟨⟨oc,od,kV,doc,pm,an,cdv,ct,osl,rfl,l,c⟩,k⟩
end
theorem CO {A:Around}{k:Nat}(hr:Room k A):A.units + 1 < cLine:=AZ (Nat.add_le_add_left (by decide:1<=64) _) hr.units
section
variable {X:Cx}
theorem pv (i:Nat){x:Str}{pos:Pos}(hN:X.N[i]?=some x:=by rfl)(hv:Vis X.env.scope x:=by first | exact Or.inl rfl | exact Or.inr (Or.inl rfl) | exact Or.inr (Or.inr rfl))(hd:(x == ("__debug__":Str))=false:=by decide)
   (hcd:(x == ("__classdict__":Str))=false:=by decide):PE X (.Name x pos) (tVar i):=EB hN hv hd hcd
end
theorem iteF {A B:Prop}(h:B):if false=true then A else B:=by grind
theorem iteT {A B:Prop}(h:A):if true=true then A else B:=by grind
theorem ite2 {c A B:Prop}[Decidable c](h1:c->A)(h2:¬c->B):if c then A else B:=by grind
def Same (H H':Hp):Prop:=∀b o,H b=some o->H' b=some o
theorem Same.refl (H:Hp):Same H H:=fun _ _ h=>h
end L2
end
section
namespace L2
open PySem PySem.Spec PyProof.Rows
theorem CP {prog:C3}{w:World}{A:Around}{R:Result->Shared->Prop}{s:Shared}{elt target iter:Expr}{ifs:List Expr}{scope:Scope}{pos:Pos}{it acc:Value}{env:Env}(I:Nat->Shared->Prop)
   (turn:∀n s,I n s->wpAny (model prog w) A (pyNext it) (fun r s₁=>match r with
     | none=>R (.ok .next) s₁
     | some v=>wpAny (model prog w) A (Z7 target it v) (fun _ s₁'=>wpAny (model prog w) A (assign target env v) (fun _ s₂=>
         wpAny (model prog w) A (forIn ifs true fun c r=>if r=true then do let ok ← isTrue c env (eval c env);pure (l9 ok) else pure (l9 r)) (fun ok s₃=>
           if ok=true then wpAny (model prog w) A (eval elt env) (fun x s₄=>
             wpAny (model prog w) A (call (.builtin "list.append") [acc,x]) (fun _ s₅=>∃m,m < n/\I m s₅) (fun _ _=>False) s₄) (fun _ _=>False) s₃
           else ∃m,m < n/\I m s₃) (fun _ _=>False) s₂) (fun _ _=>False) s₁') (fun _ _=>False) s₁) (fun _ _=>False) s)
   (n:Nat) (h:I n s) :
   L8 (model prog w) A (.compLoop (.ListComp elt [⟨target,iter,ifs,0⟩] scope pos) 0 it acc env) R s:=by
 refine codeAny_loop rfl I (fun n s hI=>?_) n h;show wpAny _ A ((compTurn (.ListComp elt [⟨target,iter,ifs,0⟩] scope pos) 0 it acc env).onRaise (fun x=>do noteFrame x env;theTreesLotGoes x)) _ _ s;refine wpAny_noted ?_;rw [compTurn_list];refine A1 (V0 (A1 (G4 (turn n s hI) (fun r s₁ h₁=>?_) fun _ _ h'=>h'.elim)));cases r with
 | none=>exact A6 h₁
 | some v =>
   refine A1 (G4 h₁ (fun _ s₁' h₁'=>?_) fun _ _ h'=>h'.elim);refine A1 (G4 h₁' (fun _ s₂ h₂=>A1 (G4 h₂ (fun ok s₃ h₃=>?_) fun _ _ h'=>h'.elim)) fun _ _ h'=>h'.elim);cases ok with
   | false=>exact A6 ⟨rfl,h₃⟩
   | true =>
     exact A1 (A1 (G4 h₃ (fun x s₄ h₄=>A1 (G4 h₄ (fun _ s₅ h₅=>A6 (A6 ⟨rfl,h₅⟩)) fun _ _ h'=>h'.elim)) fun _ _ h'=>h'.elim))
def B7 (X:Cx)(scope:Scope)(cl:List (Str×Addr))(N:List Str)(fp:List Addr)(C:Addr)(s:Shared)(H:Hp):Cx where
 prog:=X.prog
 w:=X.w
 K:=X.K
 mg:=X.mg
 base:=X.base
 A:=X.A
 N:=N
 s₀:=s
 H₀:=H
 env:=compEnvC scope cl C X.env
 outer:=X.stack
 stack:=X.stack
 ex:=fp
 fn:=fun _=>false
 calm:=X.calm
 pn:=X.pn
 xe:=fun _ _=>False
structure Y2 (X:Cx)(scope:Scope)(cl:List (Str×Addr))(N:List Str)(cs:List (Option Nat)):Prop where
 clos:closureFor scope X.env=pure cl
 kind:scope.kind=.function
 nocell:∀y∈scope.names,y.2≠.cell
 names:∀y∈scope.names,y.2=.local->scope.names.lookup y.1=some .local
 sub:∀x c,cl.lookup x=some c->X.env.cells.lookup x=some c
 has:∀x,((O2 scope X.env).names.lookup x=some .cell\/(O2 scope X.env).names.lookup x=some .free)->∃c,cl.lookup x=some c
 len:cs.length=N.length
 cap:∀(k j:Nat) (x:Str),cs[k]?=some (some j)->N[k]?=some x->X.N[j]?=some x/\Vis X.env.scope x/\X.env.kindOf x≠some .local/\(∃c,cl.lookup x=some c)/\((O2 scope X.env).names.lookup x=some .cell\/(O2 scope X.env).names.lookup x=some .free)
def o9:List (Str×Addr)->List (Str×Addr)->Prop
 | [],_=>True
 | y::r,cells=>cells.lookup y.1=some y.2/\o9 r cells
theorem o9.get:∀{cl cells:List (Str×Addr)},o9 cl cells->∀x c,cl.lookup x=some c->cells.lookup x=some c:=by intro a;induction a <;> intros <;> grind [o9]
theorem V8 {X:Cx}{scope:Scope}{cl:List (Str×Addr)}{N:List Str}{cs:List (Option Nat)}(clos:closureFor scope X.env=pure cl)(kind:scope.kind=.function)(nocell:(scope.names.all fun y=>!(y.2 == .cell))=true)
   (names:(scope.names.all fun y=>!(y.2 == .local) || scope.names.lookup y.1 == some .local)=true) (sub:o9 cl X.env.cells)
   (has:((O2 scope X.env).names.all fun y=>!(y.2 == .cell || y.2 == .free) || (cl.lookup y.1).isSome)=true) (len:cs.length=N.length)
   (cap:((cs.zip N).all fun y=>match y.1 with | none=>true | some j=>X.N[j]? == some y.2 && (X.env.scope.names.lookup y.2 == some .cell || X.env.scope.names.lookup y.2 == some .free) && (cl.lookup y.2).isSome &&
     ((O2 scope X.env).names.lookup y.2 == some .cell || (O2 scope X.env).names.lookup y.2 == some .free))=true):Y2 X scope cl N cs:=by
 refine⟨clos,kind,fun y hy=>?_,fun y hy e=>?_,sub.get,fun x hx=>?_,len,fun k j x hk hN=>?_⟩
 · have:=F9.mp nocell y hy;intro z;rw [z] at this;cases this
 · have:=F9.mp names y hy;rw [e] at this
   simpa using this
 · rcases hx with hx | hx
   · have:=F9.mp has _ (P2 hx);exact X6.mp (by simpa using this)
   · have:=F9.mp has _ (P2 hx);exact X6.mp (by simpa using this)
 · have hz:(cs.zip N)[k]?=some (some j,x):=by rw [List.getElem?_zip_eq_some];exact⟨hk,hN⟩
   have:=F9.mp cap _ (J7 hz);simp only [V4,Bool.or_eq_true,beq_iff_eq] at this;obtain⟨⟨⟨h1,h2⟩,h3⟩,h4⟩:=this;refine⟨h1,?_,?_,X6.mp h3,h4⟩
   · rcases h2 with h2 | h2
     · exact .inr (.inl h2)
     · exact .inr (.inr h2)
   · intro z;have z':X.env.scope.names.lookup x=some .local:=z;rw [z'] at h2;rcases h2 with h2 | h2 <;> cases h2
def d8 (cs:List (Option Nat))(σ:St):St:=cs.map fun o=>o.bind fun j=>(σ[j]?).bind id
def PIf (X:Cx)(ifs:List Expr)(t:TT):Prop:=
 ∀ (pins : List (Addr × Obj)) (s : Shared) (σ : St) (H : Hp) (Q : Bool -> Hp -> Prop), Inv X pins σ H s -> t σ H Q ->
   wpAny (model X.prog X.w) X.A (forIn ifs true fun c r=>if r=true then do let ok ← isTrue c X.env (eval c X.env);pure (l9 ok) else pure (l9 r)) (TP X pins σ Q) X.xe s
def tTru:TT:=fun _ H Q=>Q true H
theorem Jo {X:Cx}:PIf X [] tTru:=fun pins s σ H Q I h=>wpAny_tests_nil ⟨H,I,h⟩
theorem Jp {X:Cx}{c:Expr}{t:TT}(h:PT X c t):PIf X [c] t:=fun pins s σ H Q I hq=>wpAny_tests_one (h pins s σ H Q I hq)
def CompW (J:It)(g:TG)(tt:TT)(te:TE)(Q:VK)(D:Addr)(σc:St)(H1:Hp):Prop:=∃W:Nat->Nat->St->Hp->Prop,(∃m,W 0 m σc H1)/\
 ∀i m σ' H',W i m σ' H'->(J.stop i H'/\Q (.ref D) H')\/(J.go i H'/\∀x H2,J.yld i H' x H2->g x σ' H2 fun σ3 H3=>tt σ3 H3 fun b H4=>
    if b=true then te σ3 H4 fun v H5=>∃ys,H5 D=some (.lst ys)/\ys.length < B1/\∃m',m' < m/\W (i + 1) m' σ3 (upd H5 D (.lst (ys++[v])))
    else ∃m',m' < m/\W (i + 1) m' σ3 H4)
def CQ (cs:List (Option Nat))(wi:TI)(g:TG)(tt:TT)(te:TE):TE:=fun σ H Q=>wi σ H fun J H1=>∀D,H1 D=none->CompW J g tt te Q D (d8 cs σ) (upd H1 D (.lst []))
theorem CS {X:Cx}{scope:Scope}{cl:List (Str×Addr)}{N:List Str}{cs:List (Option Nat)}(S:Y2 X scope cl N cs){pins:List (Addr×Obj)}{σ:St}{H:Hp}{s:Shared}{fp:List Addr}{h₁:Heap}{tk:Nat}
   (I:Inv X pins σ H s) (f2:∀b∈fp,FpOk X pins H b) (ho:∀b∈fp,∃o,s.heap.get? b=some o)
   (old:∀b o,s.heap.get? b=some o->h₁.get? b=some o) (hns:h₁.Ns (s.heap.objs.size + 1) (fun x=>([]:List (Str×Value)).reverse.lookup x))
   (hD:h₁.get? s.heap.objs.size=some { cls:=.type "list",data:=.seq ([]:List Value).toArray }) :
   Inv (B7 X scope cl N fp (s.heap.objs.size + 1) s H) pins (d8 cs σ) (upd H s.heap.objs.size (.lst [])) { s with heap:=h₁,toks:=tk }:=by
 have lt:∀b o,s.heap.get? b=some o->b < s.heap.objs.size:=fun b o e=>B5 e;have neC:∀b o,s.heap.get? b=some o->b≠s.heap.objs.size + 1:=fun b o e=>C8 (O6 (lt b o e));have neD:∀b o,s.heap.get? b=some o->b≠s.heap.objs.size:=fun b o e=>C8 (lt b o e);have nstk:∀b,b≠X.env.locals->b∉X.fs->b∉frs X.stack:=fun b h1 h2 hb=>(C0.mp (I.stkSub b hb)).elim h1 h2
 have cellO:∀x c,cl.lookup x=some c->∃v o,s.heap.get? c=some o/\s.heap.IsCell c v:=fun x c e=>by
   obtain⟨v,q⟩:=I.cell x c (S.sub x c e);obtain⟨o,h1,_⟩:=id q;exact⟨v,o,h1,q⟩
 refine⟨⟨I.ok.mod,S.kind,I.ok.glob,I.ok.blt,K9 _,fun x y c h1 h2=>I.ok.inj x y c (S.sub x c h1) (S.sub y c h2),fun x hx=>S.has x hx,fun x c hx=>(by cases hx),I.ok.hd,I.ok.frames,.inl rfl,fun b hb=>?_,I.bs,E8 I.ok.bsz I.sz,fun b o e hb=>?_,fun b hb=>?_,I.stack,I.stkFree,I.nos⟩,
   rfl,I.bare,Un.laid old (A8 _) I.fresh I.bigS,⟨_,hns,fun i x v e1 e2 e3=>?_⟩,fun x c e=>?_,?_,fun x c e=>?_,fun p hp=>?_,I.hok.laid old (A8 _) ⟨O7 _,[],0,.nil,hD⟩,?_⟩
 · obtain⟨o,e⟩:=ho b hb;exact⟨neC b o e,fun x c ec=>(f2 b hb).2.2.2.2.1 x c (S.sub x c ec)⟩
 · rcases(f2 b hb).2.2.2.1 with z | z
   · exact I.ok.noex b o e z
   · exact absurd (J4 (B5 e) (E8 I.ok.bsz z)) (P4 _)
 · exact nstk b (f2 b hb).2.1 (f2 b hb).2.2.1
 · have e2':(cs.map fun o=>o.bind fun j=>(σ[j]?).bind id)[i]?=some (some v):=e2;rw [G6] at e2';cases ec:cs[i]? with
   | none=>rw [ec] at e2';cases e2'
   | some o =>
     rw [ec] at e2';cases o with
     | none=>cases e2'
     | some j =>
       have e2'':(σ[j]?).bind id=some v:=by simpa using e2'
       cases es:σ[j]? with
       | none=>rw [es] at e2'';cases e2''
       | some ov =>
         rw [es] at e2'';have e4:ov=some v:=by simpa using e2''
         subst e4;obtain⟨hN,hv,hnl,⟨c,hc⟩,hk⟩:=S.cap i j x ec e1;obtain⟨m,hn,hl⟩:=I.loc;obtain⟨u,r,l⟩:=hl j x v hN es hv;refine⟨u,r,?_⟩;rcases l with⟨hk',_⟩ | ⟨_,c',hc',z⟩
         · grind
         · have ecc:c'=c:=by
             have:=S.sub x c hc;rw [hc'] at this;exact D7 this
           subst ecc;obtain⟨o,h1,h2⟩:=z;exact .inr ⟨hk,c',hc,⟨o,old _ o h1,h2⟩⟩
 · obtain⟨v,o,h1,o',h2,h3⟩:=cellO x c e;exact⟨v,o',old _ o' h2,h3⟩
 · show upd H s.heap.objs.size (.lst []) (s.heap.objs.size + 1)=none;rw [B3 (A_ _)];exact I.hok.fresh (K9 _)
 · obtain⟨v,o,h1,_⟩:=cellO x c e;rw [B3 (neD c o h1)];exact I.freeC x c (S.sub x c e)
 · obtain⟨e,n,ne,nf,d⟩:=I.pin p hp;exact⟨old _ _ e,by rw [B3 (neD _ _ e)];exact n,neC _ _ e,nstk _ ne nf,d⟩
 · show(cs.map _).length=N.length;rw [A9];exact S.len
theorem Inv.uncomp
   (I:Inv X pins σ H s) (f2:∀b∈fp,FpOk X pins H b)
   (J:Inv (B7 X scope cl N fp (s.heap.objs.size + 1) s H) pins σ' H' s') (hs:∀b,b≠s.heap.objs.size + 1->h'.get? b=s'.heap.get? b) :
   Inv X pins σ H' { s' with heap:=h' }:=by
 obtain⟨hh,g,d,t,os'⟩:=s';obtain rfl:os'=s.os:=J.os;have U:Un (frs X.stack) fp H H' s.heap hh:=J.base;have old:∀b o,s.heap.get? b=some o->b≠s.heap.objs.size + 1:=fun b o e=>C8 (O6 (B5 e));have hs':∀b,b≠s.heap.objs.size + 1->h'.get? b=hh.get? b:=hs
 have trC:∀b u,H' b=some u->b≠s.heap.objs.size + 1:=fun b u e z=>by
   have q:H' (s.heap.objs.size + 1)=none:=J.free;rw [z,q] at e;cases e
 show Inv X pins σ H' { s with heap:=h',gens:=g,drawn:=d,toks:=t };refine I.call (h':=h') (g':=g) (d':=d) (t':=t) (ch:=fp) ⟨fun b o e n hb hx=>?_,fun b o e n hb hx=>?_,U.free,fun b o e hx=>?_,U.tups,U.frzs,U.tbls,U.sys⟩ (fun b u e=>?_) J.bare fun b hb=>?_
 · rw [hs' b (old b o e)];exact U.keep b o e n hb hx
 · rw [hs' b (old b o e)];exact U.slot b o e n hb hx
 · rw [hs' b (old b o e)];exact U.there b o e hx
 · refine(J.hok b u e).stay (fun c v hc q=>?_) (fun _ q=>q) fun _ _ q=>q
   have ne:c≠s.heap.objs.size + 1:=by
     rcases hc with z | z
     · rw [z];exact trC b u e
     · exact trC c _ z
   rw [hs' c ne];exact q
 · exact⟨(f2 b hb).2.2.2.1,(f2 b hb).2.1,(f2 b hb).2.2.2.2.1,(f2 b hb).2.2.2.2.2⟩
theorem Fi {X:Cx}{scope:Scope}{cl:List (Str×Addr)}{N:List Str}{cs:List (Option Nat)}{elt tg iter:Expr}{ifs:List Expr}{pos:Pos}{wi:TI}{g:TG}{tt:TT}{te:TE}(S:Y2 X scope cl N cs)(hc:X.calm=true)(hi:PI X tg iter wi)
   (hb:∀(fp:List Addr) (C:Addr) (s:Shared) (H:Hp),PG (B7 X scope cl N fp C s H) tg g/\PIf (B7 X scope cl N fp C s H) ifs tt/\PE (B7 X scope cl N fp C s H) elt te)
   (hs:∀x,N9 iter X.env x=pure x:=by intro _;rfl) :
   PE X (.ListComp elt [⟨tg,iter,ifs,0⟩] scope pos) (CQ cs wi g tt te):=by
 intro pins s σ H Q I h;rw [eval_ListComp];refine AG (use:=none) rfl hs S.clos S.kind S.names (thn (hi pins s σ H _ I h) fun v s1 h1=>thn h1 fun itv s2 h2=>?_);obtain⟨it,fp,tn,J,H2,rfl,I2,T,st2,f2,q⟩:=h2
 have ho:∀b∈fp,∃o,s2.heap.get? b=some o:=fun b hb=>by
   obtain⟨o,e,_⟩:=T.obj 0 _ st2 b hb;exact⟨o,e⟩
 refine L6 (wpAny_newFunctionEnv S.nocell (by intro y hy;simp at hy) (fun h₁ hns₁ hsb₁=>?_) S.kind);dsimp only at hns₁ hsb₁ ⊢;have hC:(s2.heap.push { cls:=.type "list",dict:=none,data:=.seq ([]:List Value).toArray }).objs.size=s2.heap.objs.size + 1:=by rw [P3]
 generalize hH2:s2.heap.push { cls:=.type "list",dict:=none,data:=.seq ([]:List Value).toArray }=hp2 at hns₁ hsb₁ hC ⊢;have old:∀b o,s2.heap.get? b=some o->h₁.get? b=some o:=fun b o e=>hsb₁.extBut b o (by rw [hC];exact C8 (O6 (B5 e))) (B6 _ (hH2▸B6 _ e));have hD:h₁.get? s2.heap.objs.size=some { cls:=.type "list",data:=.seq ([]:List Value).toArray }:=hsb₁.extBut _ _ (by rw [hC];exact C8 (Nat.lt_succ_self _)) (B6 _ (hH2▸E6 _ rfl));rw [hC] at hns₁ ⊢;obtain⟨W,⟨m0,w0⟩,turn⟩:=q s2.heap.objs.size I2.fresh;have Ic:=CS S (tk:=s2.toks + ([]:List (Str×Value)).length) I2 f2 ho old hns₁ hD;have nstk:∀b,b≠X.env.locals->b∉X.fs->b∉frs X.stack:=fun b h1 h2 hb=>(C0.mp (I2.stkSub b hb)).elim h1 h2
 have stat:∀{H':Hp},(∀b∈fp,H' b=none)->∀b∈fp,FpOk (B7 X scope cl N fp (s2.heap.objs.size + 1) s2 H2) pins H' b:=fun hn b hb=>by
   obtain⟨o,e⟩:=ho b hb;exact⟨hn b hb,C8 (O6 (B5 e)),nstk b (f2 b hb).2.1 (f2 b hb).2.2.1,.inl hb,fun x c ec=>(f2 b hb).2.2.2.2.1 x c (S.sub x c ec),(f2 b hb).2.2.2.2.2⟩
 obtain⟨hg,hf,he⟩:=hb fp (s2.heap.objs.size + 1) s2 H2;have st1:tn 0 h₁:=T.keep _ _ _ st2 fun b hb o e=>old b o e
 have fr1:∀b∈fp,upd H2 s2.heap.objs.size (.lst []) b=none:=fun b hb=>by
   obtain⟨o,e⟩:=ho b hb;rw [B3 (C8 (B5 e))];exact(f2 b hb).1
 have loop:∀s₃:Shared,s₃={ s2 with heap:=h₁,toks:=s2.toks + ([]:List (Str×Value)).length }->
     L8 (model X.prog X.w) X.A (.compLoop (.ListComp elt [⟨tg,iter,ifs,0⟩] scope pos) 0 (.ref it) (.ref s2.heap.objs.size) (compEnvC scope cl (s2.heap.objs.size + 1) X.env))
       (compPost (model X.prog X.w) X.A X.xe none (EP X pins σ Q) (.ref s2.heap.objs.size) (s2.heap.objs.size + 1)) s₃:=by
   rintro s₃ rfl;refine CP (fun n s'=>∃i σ' H',Inv (B7 X scope cl N fp (s2.heap.objs.size + 1) s2 H2) pins σ' H' s'/\tn i s'.heap/\(∀b∈fp,H' b=none)/\W i n σ' H') ?_ m0 ⟨0,_,_,Ic,st1,fr1,w0⟩;rintro n s3 ⟨i,σ3,H3,I3,st3,fr3,w3⟩;rcases turn i n σ3 H3 w3 with⟨stop,qn⟩ | ⟨go,step⟩
   · refine thn (T.done (B7 X scope cl N fp (s2.heap.objs.size + 1) s2 H2) rfl rfl rfl hc i pins s3 σ3 H3 (fun _ _=>False) I3 (stat fr3) st3 stop) fun r s4 ⟨hr,I4⟩=>?_;subst hr;obtain⟨m4,hn4,_⟩:=I4.loc;exact⟨m4,hn4,fun h' hs'=>⟨.ref s2.heap.objs.size,H3,Inv.uncomp I2 f2 I4 fun b hb=>hs'.2 b hb,rfl,qn⟩⟩
   · refine thn (T.item (B7 X scope cl N fp (s2.heap.objs.size + 1) s2 H2) rfl rfl rfl hc i pins s3 σ3 H3 (fun _ _=>False) I3 (stat fr3) st3 go) fun r s4 ⟨u,hr,h4⟩=>?_;subst hr;refine thn h4 fun _ s5 ⟨x,H5,I5,r5,y5,st5,fr5⟩=>?_;have I5':=I5.pinned (stat fr5) (T.obj _ _ st5);refine thn (hg _ s5 σ3 H5 x u _ I5' r5 (step x H5 y5)) fun _ s6 ⟨σ6,H6,I6,q6⟩=>?_
     have again:∀{σ7:St} {H7:Hp} {s7:Shared},Inv (B7 X scope cl N fp (s2.heap.objs.size + 1) s2 H2) (pins++N4 fp s5.heap) σ7 H7 s7->(∃m',m' < n/\W (i + 1) m' σ7 H7)->
         ∃m,m < n/\∃i σ' H',Inv (B7 X scope cl N fp (s2.heap.objs.size + 1) s2 H2) pins σ' H' s7/\tn i s7.heap/\(∀b∈fp,H' b=none)/\W i m σ' H':=fun {σ7 H7 s7} I7 n7=>by
       obtain⟨m',hm,w7⟩:=n7;refine⟨m',hm,i + 1,σ7,H7,I7.unpinned,T.keep _ _ _ st5 fun b hb o e=>(I7.pin (b,o) (F6 _ (F6 _ (P6 hb e)))).1,fun b hb=>?_,w7⟩;obtain⟨o,e,d⟩:=T.obj _ _ st5 b hb;exact(I7.pin (b,o) (F6 _ (F6 _ (P6 hb e)))).2.1
     refine thn (hf _ s6 σ6 H6 _ I6 q6) fun ok s7 ⟨H7,I7,q7⟩=>?_;cases ok with
     | false=>exact again I7 q7
     | true =>
       refine thn (he _ s7 σ6 H7 _ I7 q7) fun y s8 ⟨v8,H8,I8,r8,ys,e8,z8,n8⟩=>?_
       have ma:=Aa (X:=B7 X scope cl N fp (s2.heap.objs.size + 1) s2 H2) _ s8 σ6 H8 (.ref s2.heap.objs.size) [v8] (.ref s2.heap.objs.size) [y]
         (fun v H9=>∃m',m' < n/\W (i + 1) m' σ6 H9) I8 rfl (.cons r8 .nil) ⟨_,ys,v8,rfl,rfl,e8,z8,n8⟩
       exact thn ma fun _ s9 ⟨v9,H9,I9,_,q9⟩=>again I9 q9
 exact AI (loop _ rfl) (T.self _ 0 _ _ _ st1 (loop _ rfl))
end L2
end
section
namespace L2
open PySem PySem.Spec PyProof.Rows
section
variable {X:Cx}
theorem Vals.getE (r:Vals xs us)(h:j < us.length):∃x,xs[j]?=some x/\RelV x us[j]:=by
 have hl:=r.length;have h':j < xs.length:=by omega
 obtain⟨u,e,q⟩:=r.get (i:=j) (x:=xs[j]) (by simp [h']);refine⟨xs[j],by simp [h'],?_⟩;have e':us[j]?=some us[j]:=by simp [h]
 rw [e'] at e;cases e;exact q
theorem Fj (h:N5 x=true):eqV x x=true:=by
 cases x <;> simp_all [N5,eqV]
theorem Jq:J1 X (.builtin "isinstance") (fun vs H Q=>∃x n t b,vs=[x,.ty n]/\TyOf X.K H x t/\v4 X.K t (.type n)=some b/\Q (.bl b) H):=by
 intro pins s σ H vs us Q I rv h;obtain⟨x,n,t,b,rfl,ty,e,q⟩:=h;obtain⟨u,v,rfl,r1,r2⟩:=rv.two;cases r2;exact IT I r1 ty e fun tk=>⟨.bl b,H,I.tok tk,rfl,q⟩
theorem Jr:∀{bs:List Bool} {us:List Value} {j:Nat} {u:Value},Vals (bs.map V.bl) us->us[j]?=some u->∃b,bs[j]?=some b/\u=Value.bool b:=by
 intro bs us j u r e
 have hj:j < us.length:=by
   obtain⟨h,_⟩:=C5.mp e;exact h
 obtain⟨x,e1,q1⟩:=r.getE hj;rw [G6] at e1;cases eb:bs[j]? with
 | none=>rw [eb] at e1;cases e1
 | some b =>
   rw [eb] at e1;cases e1;have e2:us[j]?=some us[j]:=by simp [hj]
   rw [e2] at e;cases e;exact⟨b,rfl,q1⟩
theorem Js (bs:List Bool):((C2 bs.length).all fun i=>(bs[i]?).getD true)=bs.all id:=by
 rw [b9,F9,F9];constructor
 · intro h b hb;obtain⟨i,hi,rfl⟩:=x5 hb;have:=h i (M1.mpr hi)
   simpa [C4 hi] using this
 · intro h i hi;have hi':=M1.mp hi;simp only [C4 hi',Option.getD_some];exact h _ (j8 hi')
theorem Jt {s:Shared}{h':Heap}{o:Obj}(hk:∀b x,b∉[s.heap.objs.size]->(s.heap.push o).get? b=some x->h'.get? b=some x):∀b x,s.heap.get? b=some x->h'.get? b=some x:=
 fun b x e=>hk b x (fun hm=>by rw [E1.mp hm] at e;exact P4 _ (B5 e)) (B6 _ e)
def rAll (K:A3):List V->Hp->VK->Prop:=fun vs H Q=>∃(p:Addr) (bs:List Bool),vs=[.ref p]/\SqL K H p (bs.map V.bl)/\Q (.bl (bs.all id)) H
theorem Ju (hc:X.calm=true):J1 X (.builtin "all") (rAll X.K):=by
 intro pins s σ H vs us Q I rv h;obtain⟨p,bs,rfl,hq,q⟩:=h;obtain⟨u,rfl,r1⟩:=rv.one;cases r1;obtain⟨its,r,pl,hz⟩:=I.list hq;have hl:=pl.isList;have hlt:p < s.heap.objs.size:=by obtain⟨_,e,_⟩:=hl;exact B5 e
 have len:its.toArray.size=bs.length:=by simpa using r.length.symm
 refine call_all_walk (AK hl ?_)
 refine⟨s.heap.objs.size,[s.heap.objs.size,p],[s.heap.objs.size],its.toArray.size,_,_,fun i=>(bs[i]?).getD true,rfl,Walks.list (A:=X.A.in1) (I.ok.hd hc) _ p (C8 hlt) its.toArray,
   ⟨⟨_,E6 _ rfl,rfl,rfl⟩,hl.push _⟩,fun i v s' Q' E' hP hQ=>?_,fun h' tk hk=>?_⟩
 · obtain⟨b,e,rfl⟩:=Jr r (j:=i) (u:=v) (by grind);simp only [e,Option.getD_some] at hQ;exact Z5 hQ
 · rw [len,Js];exact⟨.bl _,H,I.kept (Jt hk),rfl,q⟩
def Ite (K:A3)(a:Addr):It:=
 ⟨fun i H=>∃xs x,SqL K H a xs/\xs[i]?=some x,fun i H x H'=>∃p v,H p=none/\x=.ref p/\H'=upd H p (.tup [.int i,v])/\∀xs,SqL K H a xs->xs[i]?=some v,fun i H=>∃xs,SqL K H a xs/\xs.length<=i⟩
theorem Inv.turnedNew {ch:List Addr}(I:Inv X pins σ H s)(k:∀b o,b∉ch->s.heap.get? b=some o->h'.get? b=some o)
   (hf:∀b∈ch,FpOk X pins H b) (new:D9 X.prog X.w (upd H s.heap.objs.size (.tup xs)) h' s.heap.objs.size (.tup xs)):Inv X pins σ (upd H s.heap.objs.size (.tup xs)) { s with heap:=h',toks:=t' }:=by
 have nch:∀b u,H b=some u->b∉ch:=fun b u e z=>by rw [(hf b z).1] at e;cases e
 have nD:∀b o,s.heap.get? b=some o->b≠s.heap.objs.size:=fun b o e=>C8 (B5 e)
 refine I.step (g':=s.gens) (d':=s.drawn) (ch:=ch) (fun b hb=>⟨(hf b hb).2.2.2.1,(hf b hb).2.1,(hf b hb).2.2.2.2.1,(hf b hb).2.2.2.2.2⟩) (fun b o _ _ hc e _=>k b o hc e) (fun b o _ _ hc e _=>⟨o.slots,k b o hc e⟩) (fun b o _ e n=>by rw [B3 (nD b o e)];exact n)
   (fun b o hc e=>⟨o,k b o hc e⟩) (fun b ys e=>by rw [B3 (R3 e I.fresh)];exact e) (fun b o u e=>by rw [B3 (R3 e I.fresh)];exact e) (fun b ps e=>⟨#[],by rw [B3 (R3 e I.fresh),e];simp⟩) (fun z=>by unfold NS;rw [B3 (C8 I.bigS)];exact z) (fun m hm=>?_) (fun b u e=>?_) I.bare
 · obtain⟨o,es,ep,ho,r⟩:=hm;exact⟨o,es,ep,k _ o (fun z=>(hf _ z).2.1 rfl) ho,r⟩
 · by_cases hb:b=s.heap.objs.size
   · subst hb;rw [E4] at e;cases e;exact new
   · rw [B3 hb] at e;refine(I.hok b u e).stay (fun c v hc q=>k c v ?_ q) (fun c q=>by rw [B3 (R3 q I.fresh)];exact q) fun c ys q=>by rw [B3 (R3 q I.fresh)];exact q
     rcases hc with z | z
     · rw [z];exact nch b u e
     · exact nch c _ z
theorem Jv {P:C3}{w:World}{K:A3}{elts:List Expr}{x1}{pos:Pos}(a e it:Addr)(hne:e≠it) :
   Turn P w K (.Tuple elts x1 pos) (Ite K a) [e,it] e (fun i h=>(∃old,IsEnum h e it i old)/\h.IsListIter it a i) where
 mem:=by simp
 obj:=fun i h st b hb=>by
   obtain⟨⟨old,he⟩,o,e1,c,d⟩:=st;have hb':b=e\/b=it:=by simpa using hb
   rcases hb' with rfl | rfl
   · exact⟨_,he,fun v z=>by cases z⟩
   · exact⟨o,e1,fun v z=>by rw [d] at z;cases z⟩
 keep:=fun i h h' st k=>by
   obtain⟨⟨old,he⟩,st⟩:=st;exact⟨⟨old,k e (by simp) _ he⟩,st.at fun o e=>k it (by simp) o e⟩
 item:=by
   intro X hP hw hK hc i pins s σ H E I hf st hg;subst hP hw hK;obtain⟨⟨old,he⟩,st⟩:=st;obtain⟨xs,x,hq,hx⟩:=hg;obtain⟨its,rv,p,hz⟩:=I.list hq;obtain⟨u,hu,ru⟩:=rv.get hx;refine wpAny_pyNext_enum_item he st p.isList (x:=u) (by simpa using hu) hne fun h' he' st' ht hz' k=>?_;refine⟨_,rfl,wpAny_letOwnedTupleGo_enum (s:={ s with heap:=h',toks:=s.toks + 1 }) he' fun h'' he'' sb=>?_⟩;have hpe:s.heap.objs.size≠e:=b8 (B5 he);have ht'':h''.get? s.heap.objs.size=some { cls:=.type "tuple",data:=.seq #[.int i s.toks,u] }:=(sb.2 _ hpe).trans ht
   have k':∀b o,b∉[e,it]->s.heap.get? b=some o->h''.get? b=some o:=fun b o hb q=>by
     have hb1:b≠e:=fun z=>hb (by simp [z]);have hb2:b≠it:=fun z=>hb (by simp [z]);exact(sb.2 b hb1).trans (k b o hb1 hb2 q)
   have I1:Inv X pins σ (upd H s.heap.objs.size (.tup [.int i,x])) { s with heap:=h'',toks:=s.toks + 1 }:=
     I.turnedNew k' hf ⟨by show 2<=B1;decide,[.int i s.toks,u],.cons ⟨_,rfl⟩ (.cons ru .nil),⟨_,ht'',rfl,_,rfl⟩⟩
   refine⟨.ref s.heap.objs.size,_,I1,rfl,⟨_,x,I.fresh,rfl,rfl,fun ys hy=>by rw [I.list_inj hy hq];exact hx⟩,⟨⟨u,he''⟩,?_⟩,fun b hb=>?_⟩
   · obtain⟨o,e1,c,d⟩:=st';exact⟨o,(sb.2 it (Ne.symm hne)).trans e1,c,d⟩
   · have hb':b=e\/b=it:=by simpa using hb
     have hbs:b≠s.heap.objs.size:=by
       rcases hb' with rfl | rfl
       · exact Ne.symm hpe
       · obtain⟨o,e1,_⟩:=st;exact C8 (B5 e1)
     rw [B3 hbs];exact(hf b hb).1
 done:=by
   intro X hP hw hK hc i pins s σ H E I hf st hg;subst hP hw hK;obtain⟨⟨old,he⟩,st⟩:=st;obtain⟨xs,hq,hx⟩:=hg;obtain⟨its,rv,p,hz⟩:=I.list hq;obtain⟨f0,f1,f2,f3,f4,f5⟩:=hf it (by simp);have hl:=rv.length;exact wpAny_pyNext_enum_end (I.ok.hd hc) he st p.isList (by simp;omega) fun h' eb=>⟨rfl,I.turned (t':=s.toks) (fun b o hb e=>eb b o hb e) f0 f1 f3 f4 f5⟩
 self:=fun _ _ _ _ _ st h=>by
   obtain⟨⟨old,he⟩,_⟩:=st;exact AL he h
def iEnum (K:A3)(ta:TA):TI:=fun σ H R=>ta σ H fun vs H1=>∃a,vs=[.ref a]/\(∃xs,SqL K H1 a xs)/\R (Ite K a) H1
theorem Jw {l:Expr}{ta:TA}{p pos:Pos}{elts:List Expr}{x1}{tpos:Pos}(hg:Gl X "enumerate")(hm:X.mg "enumerate"=none)(ha:PA X [l] ta)(hs:C7 [l] X.env=[(false,eval l X.env)]:=by rfl) :
   PI X (.Tuple elts x1 tpos) (.Call (.Name "enumerate" p) [l] [] pos) (iEnum X.K ta):=by
 intro pins s σ H R I h;refine Call_ (R5 I hg hm boot_enumerate (X4 (thn (ha pos pins s σ H _ I h) fun us s1 ⟨vs,H1,I1,r1,q1⟩=>?_) hs rfl));obtain⟨a,e,⟨xs,hq⟩,q⟩:=q1;subst e;obtain⟨u,rfl,ru⟩:=r1.one;obtain rfl:u=J9 a:=ru;obtain⟨its,rv,pl,hz⟩:=I1.list hq;refine call_enumerate_list pl.isList fun h' hE hI hsz hk=>?_;refine AL hE ?_;have I2:Inv X pins σ H1 { s1 with heap:=h' }:=I1.kept (t':=s1.toks) hk;refine⟨s1.heap.objs.size + 1,[s1.heap.objs.size + 1,s1.heap.objs.size],_,_,H1,rfl,I2,Jv a _ _ (A_ _),⟨⟨_,hE⟩,hI⟩,fun b hb=>?_,q⟩;have hb':b=s1.heap.objs.size + 1\/b=s1.heap.objs.size:=by simpa using hb
 rcases hb' with rfl | rfl
 · exact I1.fpOk (K9 _) (I1.hok.fresh (K9 _))
 · exact I1.fpOk (A8 _) (I1.hok.fresh (A8 _))
end
end L2
end
section
namespace L2
open PySem PySem.Spec PyProof.Rows
theorem Fk:F5 "len"=some (.builtin "len"):=by decide +kernel
theorem Fm:F5 "abs"=some (.builtin "abs"):=by decide +kernel
theorem bt_min:F5 "min"=some (.builtin "min"):=by decide +kernel
theorem bt_max:F5 "max"=some (.builtin "max"):=by decide +kernel
theorem bt_all:F5 "all"=some (.builtin "all"):=by decide +kernel
theorem Jx:F5 "isinstance"=some (.builtin "isinstance"):=by decide +kernel
theorem bt_sum:F5 "sum"=some (.builtin "sum"):=by decide +kernel
theorem bt_repr:F5 "repr"=some (.builtin "repr"):=by decide +kernel
theorem Bk:F5 "int"=some (.type "int"):=by decide +kernel
theorem CT:F5 "str"=some (.type "str"):=by decide +kernel
theorem Fn:F5 "bool"=some (.type "bool"):=by decide +kernel
theorem Jy:F5 "list"=some (.type "list"):=by decide +kernel
theorem U4:F5 "tuple"=some (.type "tuple"):=by decide +kernel
theorem bt_set:F5 "set"=some (.type "set"):=by decide +kernel
theorem Jz (p:V->Prop)(h:(∀v,p v->R v H)->tIf tA ta tb σ H R)(hp:∀v,p v->R v H):tIf tA ta tb σ H R:=h hp
theorem at_map {ns:List Int}(h0:0<=k)(h:k < (ns.length:Int)):∃v,atI (ns.map V.int) k=some (.int v):=by
 have hk:k.toNat < ns.length:=by omega
 have q:atI (ns.map V.int) ((k.toNat:Nat):Int)=some (.int ns[k.toNat]):=CL (by rw [G6,C4 hk] <;> rfl)
 rw [show((k.toNat:Nat):Int)=k by omega] at q;exact⟨_,q⟩
theorem kit_of {K:A3}(h:(if(N2 T == N2 S)=true then some true else if PySem.W.kitMeta S=true then(fastBuiltinMro T).map (·.contains (.type S)) else none)=some b):v4 K (.type T) (.type S)=some b:=h
structure Kn (P:C3)(w:World)(K:A3)(mg:Str->Option Value)(base:Heap)(x:Str)(k:Nat)(ps:List Str)(sp:Sp):Prop where
 ex:∃(f:Addr) (fd:FuncData),FnOk P w K mg base CX0 k f fd ps sp/\o8 K fd ps []/\v5 K (.ref f)=true/\mg x=some (.ref f)/\∃oc od osl,K.lookup f=some ⟨oc,od,.func fd,osl⟩
structure Fn0 (K:A3)(mg:Str->Option Value)(x:Str)(st:Stmt):Prop where
 ex:∃(f:Addr) (fd:FuncData),Fun K x x st f fd/\mg x=some (.ref f)
theorem fn0_mk {K:A3}{st:Stmt}(X:K.In h)(G:h.Ns O4 mg){kV doc pm cdv ct:Value}
   (a:PySem.W.nsIn K O4 x=some (some (.ref f))) (l:K.lookup f=some ⟨oc,od,.func (P1 x x (U3 st) (N6 st) (E5 st) .none kV doc pm an cdv ct),osl⟩)
   (c:AF K cdv x=true) (k:v5 K (.ref f)=true):Fn0 K mg x st:=⟨f,_,fun_mk l c k,PySem.W.mg_of X G a⟩
section
variable {P:C3}{w:World}{K:A3}{mg:Str->Option Value}{base:Heap}
theorem Fn0.ok {st:Stmt}{N ps:List Str}{k:Nat}{sp:Sp}(F:Fn0 K mg x st)(S:R8 N ps (E5 st))(len:∀vs H Q E,sp vs H Q E->vs.length=ps.length)
   (bd:∀(kV doc pm:Value) (an:Option Addr) (cdv ct:Value) (us:List Value),us.length=ps.length->bindArgs (P1 x x (U3 st) (N6 st) (E5 st) .none kV doc pm an cdv ct) ⟨us,[]⟩=pure (ps.zip us))
   (hbody:∀(f:Addr) (cdv:Value) (A:Around) (outer:List Env) (s:Shared) (H:Hp) (vs:List V) (Q:VK) (E:XK),Room k (A.deeper (envOfC x (E5 st) s.heap.objs.size f cdv))->sp vs H Q E->
     ∃t,PSs (cxOf CX0 P w K mg base N x (E5 st) f cdv A outer s H E).nox (N6 st) t/\t { nx:=fun _ H'=>Q .non H',rt:=Q } (P7 N vs) H):Kn P w K mg base x (k + 1) ps sp:=by
 obtain⟨f,fd,F1,m⟩:=F.ex
 have lk:∃oc od osl,K.lookup f=some ⟨oc,od,.func fd,osl⟩:=by
   obtain⟨oc,od,kV,doc,pm,an,cdv,ct,osl,_,lk,hcd⟩:=F1.ex;exact⟨oc,od,osl,lk⟩
 exact⟨f,fd,F1.ok S len fun cdv A outer s H vs Q E hr h=>hbody f cdv A outer s H vs Q E hr h,F1.binds bd,F1.kp,m,lk⟩
theorem Kn.imp {x:Str}{k:Nat}{ps:List Str}{sp sp':Sp}(G:Kn P w K mg base x k ps sp)(h:∀vs H Q E,sp' vs H Q E->sp vs H Q E):Kn P w K mg base x k ps sp':=by
 obtain⟨f,fd,a,b,c,d⟩:=G.ex;exact⟨f,fd,a.imp h,b,c,d⟩
end
section
variable {X:Cx}{x:Str}{p pos:Pos}{e:Expr}{es:List Expr}{t:TA}{ps:List Str}{sp:Sp}{j k:Nat}
theorem pe_fn (G:Kn X.prog X.w X.K X.mg X.base x k ps sp)(hr:Room j X.A)(hk:k<=j)(hg:Gl X x)(ha:PA X (e::es) t)(hdb:(x == ("__debug__":Str))=false:=by decide)
   (he:C7 (e::es) X.env=(false,eval e X.env)::C7 es X.env:=by rfl) (hpl:(backTo pos (C7 es X.env)).any (·.1)=false:=by rfl) :
   PE X (.Call (.Name x p) (e::es) [] pos) (tCall sp [] E0 t):=by
 intro pins s σ H Q I h;obtain⟨f,fd,F,hb,hkp,hm,_⟩:=G.ex;exact IU F (hr.mono hk) hg hm hkp hb .nil pass0 ha hdb he hpl pins s σ H Q I h
end
def Bl (K:A3):Sp:=fun vs H Q _=>∃(a:Addr) (ns:List Int),vs=[.ref a]/\SqL K H a (ns.map V.int)/\ns.length<=63/\Only H/\∀H',Q (.bl true) H'
theorem JA {l:PySem.W.OpenLaw}{q:C3}{loose:List Str}{XP:(Str->Option Value)->Heap->Prop}{YP:World->Heap->Prop}{d:DefRec}{K:Params->A3}{x:Str}{k:Nat}(hn:l.most=some 63)(hdf:d.params.defaults=[])(hk:Room k callerA)
   (hY:∀(w:World) (h:Heap),YP w h->(K w.params).In h)
   (F:∀(w:World) (mg:Str->Option Value) (h:Heap),(K w.params).In h->h.Ns O4 mg->∃st,Fn0 (K w.params) mg d.name st/\
     (∀(kV doc pm:Value) (an:Option Addr) (cdv ct:Value) (s:Shared) (u:Value),BindsTo s (P1 d.name d.name (U3 st) (N6 st) (E5 st) .none kV doc pm an cdv ct) ⟨[u],[]⟩ [(x,u)])/\
     ∀base:Heap,(K w.params).In base->base.Ns O4 mg->Kn l.prog w (K w.params) mg base d.name k [x] (Bl (K w.params))) :
   PySem.W.WalkO q loose XP YP l.row.toRowW d [] (fun f vs=>PySem.call f vs):=by
 refine L2.Jn (n:=63) (k:=k) (x:=x) (CX:=fun _=>CX0) (sp:=fun w=>Bl (K w.params)) hn (by decide) hdf hk hY (fun w mg fa h KX G hmg=>?_) (fun _ _ a ns hl hO hS=>⟨a,ns,rfl,hS,hl,hO,fun _=>rfl⟩) fun _ _ _ _ _ z=>z;obtain⟨st,F0,hb,hF⟩:=F w mg h KX G;obtain⟨f,fd,F1,m⟩:=F0.ex;have e:=hmg.symm.trans m;cases e;refine⟨fd,fun s u=>?_,fun base kb nb=>?_⟩
 · obtain⟨oc,od,kV,doc,pm,an,cdv,ct,osl,rfl,lk,hcd⟩:=F1.ex;exact hb kV doc pm an cdv ct s u
 · obtain⟨f',fd',a,b,c,m',oc',od',osl',lk'⟩:=(hF base kb nb).ex;have e:=m.symm.trans m';cases e;obtain⟨oc,od,kV,doc,pm,an,cdv,ct,osl,_,lk,hcd⟩:=F1.ex;have e2:=lk.symm.trans lk';cases e2;exact a
end L2
end
section
namespace L2
open PySem PySem.Spec PyProof.Rows
section
variable {X:Cx}
theorem JB:OpR X (O1 .Mult) (fun x y H Q=>∃i n,x=.str i/\y=.int n/\i.length<=100/\0<=n/\n<=1000/\Q (.str (Txt.mul i n)) H):=by
 intro pins s σ H x y v u Q I rx ry h;obtain⟨i,n,rfl,rfl,h1,h2,h3,q⟩:=h;obtain⟨t,rfl⟩:=rx;obtain⟨t',rfl⟩:=ry;exact SB.mul (mulOk_of 100 1000 h1 h3 (by omega) (by decide) (by decide)) fun t' tk=>⟨.str _,H,I.tok _,⟨_,rfl⟩,q⟩
theorem p5 (x y:Str):(x++y).cps.toList=x.cps.toList++y.cps.toList:=by
 show(x.cps++y.cps).toList=_;simp
theorem Ab (x:Str):x.length=x.cps.toList.length:=by
 show x.cps.size=_;simp
end
theorem Same.lay {H H':Hp}{p:Addr}{o:HO}(s:Same H H')(h:H' p=none):Same H (upd H' p o):=fun b u e=>by
 rw [B3 (R3 (s b u e) h)];exact s b u e
theorem Y3 {n:Nat}{d:Int}(h0:0<=d)(h1:d < n):ixN n d=some d.toNat:=by grind [ixN]
theorem CU {α:Type}{xs:List α}{d:Int}(h0:0<=d)(h1:d < xs.length):∃x,xs[d.toNat]?=some x/\atI xs d=some x:=by
 have hk:d.toNat < xs.length:=by omega
 refine⟨xs[d.toNat],C4 hk,?_⟩;unfold atI;rw [Y3 h0 h1];simp
end L2
end
section
namespace L2
open PySem PySem.Spec PyProof.Rows
section
variable {X:Cx}
theorem JC:OpR X (G5 .LtE) (fun x y H Q=>∃i j,x=.str i/\y=.str j/\Q (.bl (!decide (j.cps.toList < i.cps.toList))) H):=by
 intro pins s σ H x y v u Q I rx ry h;obtain⟨i,j,rfl,rfl,q⟩:=h;obtain⟨t,rfl⟩:=rx;obtain⟨t',rfl⟩:=ry;exact PySem.P.le_str ⟨.bl _,H,I,rfl,q⟩
def rSlS:V->Option Int->Option Int->Hp->VK->Prop:=fun x lo hi H Q=>∃z,x=.str z/\z.length<=B1/\Q (.str (d7 z lo hi)) H
theorem sl_str:SlR X rSlS:=by
 intro pins s σ H x v vl vu lo hi sl Q I rx hs pl pu h;obtain⟨z,rfl,hz,q⟩:=h;obtain⟨t,rfl⟩:=rx;refine⟨"str",_,F.slot_str_getitem.lookup,typeIs_str _ _ _,?_⟩;cases pl with
 | none =>
   cases pu with
   | none=>exact AH (l:=none) (u:=none) (st:=none) hs rfl (AN ⟨E8 (y0 z _ _) hz,fun t' k=>⟨.str _,H,I.tok _,⟨_,rfl⟩,q⟩⟩)
   | int j tj=>exact AH (l:=none) (u:=some (j,tj)) (st:=none) hs rfl (AN ⟨E8 (y0 z _ _) hz,fun t' k=>⟨.str _,H,I.tok _,⟨_,rfl⟩,q⟩⟩)
 | int i ti =>
   cases pu with
   | none=>exact AH (l:=some (i,ti)) (u:=none) (st:=none) hs rfl (AN ⟨E8 (y0 z _ _) hz,fun t' k=>⟨.str _,H,I.tok _,⟨_,rfl⟩,q⟩⟩)
   | int j tj=>exact AH (l:=some (i,ti)) (u:=some (j,tj)) (st:=none) hs rfl (AN ⟨E8 (y0 z _ _) hz,fun t' k=>⟨.str _,H,I.tok _,⟨_,rfl⟩,q⟩⟩)
def Its (x:Str):It:=⟨fun i _=>i < x.cps.toList.length,fun i H v H'=>H'=H/\∃c,x.cps.toList[i]?=some c/\v=.str ⟨#[c]⟩,fun i _=>x.cps.toList.length<=i⟩
theorem JD {P:C3}{w:World}{K:A3}{tg:Expr}(x:Str)(t:Tok)(it:Addr):Turn P w K tg (Its x) [it] it (fun i h=>h.IsStrIter it "str_ascii_iterator" x t i) where
 mem:=by simp
 obj:=fun i h st b hb=>by
   have e:b=it:=by simpa using hb
   subst e;obtain⟨o,e,c,d⟩:=st;exact⟨o,e,fun v z=>by rw [d] at z;cases z⟩
 keep:=fun i h h' st k=>by
   obtain⟨o,e,c,d⟩:=st;exact⟨o,k it (by simp) o e,c,d⟩
 item:=by
   intro X hP hw hK hc i pins s σ H E I hf st hg;subst hP hw hK;have hg':i < x.cps.toList.length:=hg;have hx:x.cps[i]?=some x.cps.toList[i]:=by rw [<- Cp];exact C4 hg'
   obtain⟨f0,f1,f2,f3,f4,f5⟩:=hf it (by simp);refine wpAny_pyNext_ascii_item st hx fun h' st' sb=>?_;have I1:Inv X pins σ H { s with heap:=h',toks:=s.toks + 1 }:=I.turned (t':=s.toks + 1) (fun b o hb e=>(sb.2 b hb).trans e) f0 f1 f3 f4 f5;obtain⟨o,e,c,d⟩:=id st';exact⟨_,rfl,y8 (s:={ s with heap:=h',toks:=s.toks + 1 }) e c d (by decide) ⟨.str ⟨#[x.cps.toList[i]]⟩,H,I1,⟨_,rfl⟩,⟨rfl,_,C4 hg',rfl⟩,st',fun b hb=>(hf b hb).1⟩⟩
 done:=by
   intro X hP hw hK hc i pins s σ H E I hf st hg;subst hP hw hK;have hg':x.cps.toList.length<=i:=hg;have hx:x.cps[i]?=none:=by rw [<- Cp];exact Q8 hg'
   obtain⟨f0,f1,f2,f3,f4,f5⟩:=hf it (by simp);exact wpAny_pyNext_ascii_end (I.ok.hd hc) st hx fun h' eb=>⟨rfl,I.turned (t':=s.toks) (fun b o hb e=>eb b o hb e) f0 f1 f3 f4 f5⟩
 self:=fun _ _ _ _ _ st h=>wpAny_pyIter_striter_ascii st h
def iStr (te:TE):TI:=fun σ H R=>te σ H fun v H1=>∃x,v=.str x/\x.cps.all (· < 128)=true/\R (Its x) H1
theorem pi_str {tg l:Expr}{tl:TE}(hl:PE X l tl):PI X tg l (iStr tl):=by
 intro pins s σ H R I h;refine thn (hl pins s σ H _ I h) fun v s1 ⟨x,H1,I1,r1,q1⟩=>?_;obtain⟨x,rfl,ha,q⟩:=q1;obtain⟨t,rfl⟩:=r1;refine wpAny_pyIter_ascii ha ?_;refine⟨s1.heap.objs.size,[s1.heap.objs.size],_,_,H1,rfl,I1.kept (t':=s1.toks) fun b o e=>B6 _ e,JD x t _,⟨_,E6 _ rfl,rfl,rfl⟩,fun b hb=>?_,q⟩;have e:b=s1.heap.objs.size:=by simpa using hb
 subst e;exact I1.fpOk (A8 _) (I1.hok.fresh (A8 _))
def rCatA (K:A3):R2:=fun x y H Q=>∃a b xs ys,x=.ref a/\y=.ref b/\SqT K H a xs/\SqT K H b ys/\xs.length + ys.length<=B1/\
 (xs=[]->Q (.ref b) H)/\(xs≠[]->ys=[]->Q (.ref a) H)/\(xs≠[]->ys≠[]->∀p,H p=none->Q (.ref p) (upd H p (.tup (xs++ys))))
theorem JE:OpR X (O1 .Add) (rCatA X.K):=by
 intro pins s σ H x y v u Q I rx ry h;obtain⟨a,b,xs,ys,rfl,rfl,ha,hb,hz,q0,q1,q2⟩:=h
 by_cases hx:xs=[]
 · cases rx;cases ry;obtain⟨its,r1,p1,_⟩:=I.tuple ha;obtain⟨its2,r2,p2,_⟩:=I.tuple hb;obtain⟨⟨cls,dd,data,sl⟩,ho,hc,n,hd⟩:=id p1;obtain⟨⟨cls2,dd2,data2,sl2⟩,ho2,hc2,n2,hd2⟩:=id p2;simp only at hc hd hc2 hd2;subst hc hd hc2 hd2;have he:its=[]:=r1.nil_iff.mpr hx
   exact concat_meets ⟨_,ho,rfl⟩ ⟨_,ho2,rfl⟩ noFill_tuple_add seq_tuple_add Cs Cr (Cq _ _)
     (tuple_addW0 a b its.toArray its2.toArray n n2 dd dd2 sl sl2 (by simp [he])) ⟨ho,ho2,⟨.ref b,H,I,rfl,q0 hx⟩⟩
 · exact Ja pins s σ H _ _ v u Q I rx ry ⟨a,b,xs,ys,rfl,rfl,ha,hb,hx,hz,q1 hx,q2 hx⟩
theorem Inv.big {pins:List (Addr×Obj)}{σ:St}{H:Hp}{s:Shared}(I:Inv X pins σ H s):K2 < s.heap.objs.size:=by
 have h:O4 < s.heap.objs.size:=(I.mod.glob.keeps I.bk).lt;exact Nat.lt_trans (by decide) h
theorem JF {P:C3}{w:World}{H:Hp}(h:Heap)(hb:K2 < h.objs.size):D9 P w H (h.push { cls:=.type "dict",data:=.dict #[] }) h.objs.size (.dK []):=
 ⟨O7 _,beq_eq_false_iff_ne.mpr (Ne.symm (C8 hb)),[],.nil,Heap.DictOf.new h⟩
def tDNewK:TE:=fun _ H Q=>∀p,H p=none->Q (.ref p) (upd H p (.dK []))
theorem JG {pos:Pos}:PE X (.Dict [] [] pos) tDNewK:=fun pins s σ H Q I h=>
 wpAny_Dict_empty ⟨.ref s.heap.objs.size,_,I.laid (a:=s.heap.objs.size) (o:=.dK []) (t':=s.toks) (fun _ _ q=>B6 _ q) (A8 _) (JF s.heap I.big),rfl,h _ (I.hok.fresh (A8 _))⟩
end
structure Num0 (mg:Str->Option Value)(x:Str)(i:Int):Prop where
 ex:∃t,mg x=some (.int i t)
theorem JH {K:A3}{h:Heap}{mg:Str->Option Value}{x:Str}{i:Int}{t:Tok}(X:K.In h)(G:h.Ns O4 mg)(a:PySem.W.nsIn K O4 x=some (some (.int i t))):Num0 mg x i:=⟨t,PySem.W.mg_of X G a⟩
theorem pe_num {X:Cx}{x:Str}{i:Int}{pos:Pos}(n:Num0 X.mg x i)(hg:Gl X x)(hd:(x == ("__debug__":Str))=false:=by decide):PE X (.Name x pos) (tC (.int i)):=fun pins s σ H Q I h=>by
 obtain⟨t,e⟩:=n.ex;exact Iw (v:=.int i) hg e ⟨t,rfl⟩ hd pins s σ H Q I h
end L2
end
section
namespace Pu
open PySem PySem.Spec L2
inductive PV where
 | non | bl (b:Bool) | int (i:Int) | str (x:Str) | ty (n:String) | pot (k:Nat)
 | tup (xs:List PV) | lst (xs:List PV) | dct (ks:List Key) (xs:List PV)
 /-- the script -/
 | scr (ns:List Int)
 /-- a dict by tuples that nothing changes any more -/
 | fdt (ks:List (List Key)) (xs:List PV)
structure Gh where
 M:List Addr
 pots:List Addr
def KLst (K:A3)(a:Addr)(xs:List V):Prop:=∃(o:Obj) (its:Array Value) (n:Nat),K.lookup a=some o/\o.cls=.type "list"/\o.dict=none/\o.data=.seq its n/\its.size<=B1/\Vals xs its.toList
def AtL (M:List Addr)(H:Hp)(a:Addr)(xs:List V):Prop:=a∉M/\H a=some (.lst xs)
def AtT (M:List Addr)(H:Hp)(a:Addr)(xs:List V):Prop:=a∉M/\H a=some (.tup xs)
theorem AtL.sq {K:A3}{M:List Addr}{H:Hp}{a:Addr}{xs:List V}(h:AtL M H a xs):SqL K H a xs:=SqL.of h.2
theorem AtT.sq {K:A3}{M:List Addr}{H:Hp}{a:Addr}{xs:List V}(h:AtT M H a xs):SqT K H a xs:=SqT.of h.2
mutual
def Rep (K:A3)(G:Gh)(H:Hp):PV->V->Prop
 | .non,v=>v=.non
 | .bl b,v=>v=.bl b
 | .int i,v=>v=.int i
 | .str x,v=>v=.str x
 | .ty n,v=>v=.ty n
 | .pot k,v=>∃p,G.pots[k]?=some p/\v=.ref p
 | .tup xs,v=>∃a vs,v=.ref a/\AtT G.M H a vs/\Reps K G H xs vs
 | .lst xs,v=>∃a vs,v=.ref a/\AtL G.M H a vs/\Reps K G H xs vs
 | .scr ns,v=>∃a,v=.ref a/\((a∉G.M/\∃o,H a=some (.frz o (.lst (ns.map V.int))))\/KLst K a (ns.map V.int))
 | .dct ks xs,v=>∃a kvs,v=.ref a/\a∉G.M/\H a=some (.dK kvs)/\kvs.map (·.1)=ks/\Reps K G H xs (kvs.map (·.2))
 | .fdt ks xs,v=>∃a kvs,v=.ref a/\a∉G.M/\Rd H a (.dT kvs)/\kvs.map (·.1)=ks/\Reps K G H xs (kvs.map (·.2))
def Reps (K:A3)(G:Gh)(H:Hp):List PV->List V->Prop
 | [],vs=>vs=[]
 | x::xs,vs=>∃v r,vs=v::r/\Rep K G H x v/\Reps K G H xs r
end
section
variable {K:A3}{G G':Gh}{H H':Hp}
theorem Rd.keep {a:Addr}{u:HO}(h:Rd H a u)(k:∀o,H a=some o->H' a=some o):Rd H' a u:=by grind [HO,Rd]
theorem Rd.ne {a:Addr}{u:HO}(h:Rd H a u):H a≠none:=by grind [HO,Rd]
mutual
theorem Rep.mono (hk:∀b o,b∉G.M->H b=some o->H' b=some o)(hM:∀a∈G'.M,a∈G.M\/H a=none)(hp:∀(k:Nat) (p:Addr),G.pots[k]?=some p->G'.pots[k]?=some p):∀(x:PV) (v:V),Rep K G H x v->Rep K G' H' x v
 | .non,v,h=>h
 | .bl b,v,h=>h
 | .int i,v,h=>h
 | .str x,v,h=>h
 | .ty n,v,h=>h
 | .pot k, v, h => by
   obtain⟨p,e,r⟩:=h;exact⟨p,hp k p e,r⟩
 | .tup xs, v, h => by
   obtain⟨a,vs,e,t,r⟩:=h;refine⟨a,vs,e,?_,Reps.mono hk hM hp xs vs r⟩;obtain⟨n,t⟩:=t;exact⟨fun z=>(hM a z).elim n (fun z=>by rw [z] at t;cases t),hk a _ n t⟩
 | .lst xs, v, h => by
   obtain⟨a,vs,e,t,r⟩:=h;refine⟨a,vs,e,?_,Reps.mono hk hM hp xs vs r⟩;obtain⟨n,t⟩:=t;exact⟨fun z=>(hM a z).elim n (fun z=>by rw [z] at t;cases t),hk a _ n t⟩
 | .scr ns, v, h => by
   obtain⟨a,e,h⟩:=h;refine⟨a,e,?_⟩;rcases h with⟨n,o,t⟩ | h
   · exact .inl ⟨fun z=>(hM a z).elim n (fun z=>by rw [z] at t;cases t),o,hk a _ n t⟩
   · exact .inr h
 | .dct ks xs, v, h => by
   obtain⟨a,kvs,e,n,t,ek,r⟩:=h;exact⟨a,kvs,e,fun z=>(hM a z).elim n (fun z=>by rw [z] at t;cases t),hk a _ n t,ek,Reps.mono hk hM hp xs _ r⟩
 | .fdt ks xs, v, h => by
   obtain⟨a,kvs,e,n,t,ek,r⟩:=h;exact⟨a,kvs,e,fun z=>(hM a z).elim n (fun z=>Rd.ne (u:=.dT kvs) t z),Rd.keep (u:=.dT kvs) t (fun o e=>hk a o n e),ek,Reps.mono hk hM hp xs _ r⟩
theorem Reps.mono (hk:∀b o,b∉G.M->H b=some o->H' b=some o)(hM:∀a∈G'.M,a∈G.M\/H a=none)(hp:∀(k:Nat) (p:Addr),G.pots[k]?=some p->G'.pots[k]?=some p):∀(xs:List PV) (vs:List V),Reps K G H xs vs->Reps K G' H' xs vs
 | [],vs,h=>h
 | x :: xs, vs, h => by
   obtain⟨v,r,e,hx,hr⟩:=h;exact⟨v,r,e,Rep.mono hk hM hp x v hx,Reps.mono hk hM hp xs r hr⟩
end
theorem Rep.same (h:Rep K G H x v)(s:Same H H'):Rep K G H' x v:=Rep.mono (fun b o _ e=>s b o e) (fun a z=>.inl z) (fun _ _ e=>e) x v h
theorem Reps.same (h:Reps K G H x v)(s:Same H H'):Reps K G H' x v:=Reps.mono (fun b o _ e=>s b o e) (fun a z=>.inl z) (fun _ _ e=>e) x v h
def Fr (G:Gh)(H H':Hp):Prop:=∀b o,b∉G.M->H b=some o->H' b=some o
theorem Fr.refl:Fr G H H:=fun _ _ _ e=>e
theorem Fr.trans (a:Fr G H H')(b:Fr G H' H2):Fr G H H2:=fun c o n e=>b c o n (a c o n e)
theorem Fr.of (s:Same H H'):Fr G H H':=fun b o _ e=>s b o e
theorem Rep.fr (h:Rep K G H x v)(s:Fr G H H'):Rep K G H' x v:=Rep.mono s (fun a z=>.inl z) (fun _ _ e=>e) x v h
theorem Reps.fr (h:Reps K G H x v)(s:Fr G H H'):Reps K G H' x v:=Reps.mono s (fun a z=>.inl z) (fun _ _ e=>e) x v h
theorem Reps.length:∀{xs:List PV} {vs:List V},Reps K G H xs vs->xs.length=vs.length
 | [],vs,h=>by cases(show vs=[] from h);rfl
 | x :: xs, vs, h => by
   obtain⟨v,r,e,hx,hr⟩:=h;subst e;simp [Reps.length hr]
theorem Reps.get:∀{xs:List PV} {vs:List V} {i:Nat} {v:V},Reps K G H xs vs->vs[i]?=some v->∃x,xs[i]?=some x/\Rep K G H x v
 | [],vs,i,v,h,e=>by cases(show vs=[] from h);simp at e
 | x :: xs, vs, i, v, h, e => by
   obtain⟨w,r,e1,hx,hr⟩:=h;subst e1;cases i with
   | zero=>simp at e;subst e;exact⟨x,rfl,hx⟩
   | succ i=>simpa using Reps.get (i:=i) hr (by grind)
theorem Reps.get':∀{xs:List PV} {vs:List V} {i:Nat} {x:PV},Reps K G H xs vs->xs[i]?=some x->∃v,vs[i]?=some v/\Rep K G H x v:=fun {xs vs i x} h e=>by
 obtain⟨hi,_⟩:=C5.mp e;have hl:=h.length;have e2:vs[i]?=some (vs[i]'(by omega)):=C4 (by omega);obtain⟨y,ey,r⟩:=h.get e2;rw [e] at ey;cases ey;exact⟨_,e2,r⟩
theorem Reps.append:∀{xs ys:List PV} {vs us:List V},Reps K G H xs vs->Reps K G H ys us->Reps K G H (xs++ys) (vs++us)
 | [],ys,vs,us,h,h'=>by cases(show vs=[] from h);exact h'
 | x :: xs, ys, vs, us, h, h' => by
   obtain⟨w,r,e1,hx,hr⟩:=h;subst e1;exact⟨w,r++us,rfl,hx,Reps.append hr h'⟩
theorem Reps.take:∀{xs:List PV} {vs:List V} (n:Nat),Reps K G H xs vs->Reps K G H (xs.take n) (vs.take n)
 | xs,vs,0,h=>by simp [Reps]
 | [],vs,n + 1,h=>by cases(show vs=[] from h);exact rfl
 | x :: xs, vs, n + 1, h => by
   obtain⟨w,r,e1,hx,hr⟩:=h;subst e1;exact⟨w,r.take n,rfl,hx,Reps.take n hr⟩
theorem Reps.drop:∀{xs:List PV} {vs:List V} (n:Nat),Reps K G H xs vs->Reps K G H (xs.drop n) (vs.drop n)
 | xs,vs,0,h=>by simpa using h
 | [],vs,n + 1,h=>by cases(show vs=[] from h);exact rfl
 | x :: xs, vs, n + 1, h => by
   obtain⟨w,r,e1,hx,hr⟩:=h;subst e1;exact Reps.drop n hr
theorem Reps.one (h:Rep K G H x v):Reps K G H [x] [v]:=⟨v,[],rfl,h,rfl⟩
theorem Reps.set:∀{xs:List PV} {vs:List V} (n:Nat) {x:PV} {v:V},Reps K G H xs vs->Rep K G H x v->Reps K G H (xs.set n x) (vs.set n v)
 | [],vs,n,x,v,h,_=>by cases(show vs=[] from h);exact rfl
 | y :: xs, vs, 0, x, v, h, h' => by
   obtain⟨w,r,e1,hx,hr⟩:=h;subst e1;exact⟨v,r,rfl,h',hr⟩
 | y :: xs, vs, n + 1, x, v, h, h' => by
   obtain⟨w,r,e1,hx,hr⟩:=h;subst e1;exact⟨w,r.set n v,rfl,hx,Reps.set n hr h'⟩
def MutO:HO->Prop
 | .lst _=>True
 | .dK _=>True
 | .dT _=>True
 | .set _ _=>True
 | .tbl _=>True
 | _=>False
end
inductive OK where
 | lst | dk (ks:List Key) | dt (ks:List (List Key)) | st (zs:List Key)
def memS (zs:List Key)(k:Key):Bool:=zs.any fun z=>decide (z=k)
def mkO:OK->List V->HO
 | .lst,vs=>.lst vs
 | .dk ks,vs=>.dK (ks.zip vs)
 | .dt ks,vs=>.dT (ks.zip vs)
 | .st zs,_=>.set (memS zs) zs.length
theorem Fo (k:OK)(vs:List V):MutO (mkO k vs):=by cases k <;> trivial
inductive Slot where
 | v (x:PV)
 | ow (k:OK) (xs:List PV)
abbrev Slot.own (xs:List PV):Slot:=.ow .lst xs
abbrev Env:=List (Option Slot)
structure PotK where
 at_:List Addr->Hp->Addr->Nat->Prop
 mono:∀{M H p n m},at_ M H p n->n<=m->at_ M H p m
 keep:∀{M H H' p n},at_ M H p n->H' p=H p->(∀b o,b∉M->H b=some o->H' b=some o)->at_ M H' p n
 more:∀{M M' H p n},at_ M H p n->(∀a∈M',a∈M\/H a=none)->at_ M' H p n
 mu:∀{M H p n},at_ M H p n->∃o,H p=some o/\MutO o
 /-- what is known of all pots together -/
 has:List Addr->Prop:=fun _=>True
 hasM:∀{l:List Addr} {p:Addr},has l->p∉l->has (l++[p]):=by intro _ _ _ _;trivial
structure Ct where
 K:A3
 T:PotK
 M0:List Addr
 pots0:List Addr
 H0:Hp
 np:Bool
def CV (C:Ct)(G:Gh)(H:Hp)(o:Option (Option V)):Slot->Prop
 | .v x=>∃v,o=some (some v)/\Rep C.K G H x v
 | .ow k xs=>∃a vs,o=some (some (.ref a))/\a∈G.M/\a∉C.M0/\a∉G.pots/\H a=some (mkO k vs)/\Reps C.K G H xs vs
structure SR (C:Ct)(G:Gh)(σ:St)(H:Hp)(env:Env)(n:Nat):Prop where
 frame:∀b o,b∉C.pots0->C.H0 b=some o->H b=some o
 sub:∀a∈G.M,a∈C.M0\/C.H0 a=none
 sup:∀a∈C.M0,a∈G.M
 pots:∀p∈G.pots,p∈G.M/\C.T.at_ G.M H p n
 pre:∃l,G.pots=C.pots0++l/\(l=[]\/C.np=true)
 mu:∀a∈G.M,∃o,H a=some o/\MutO o
 slots:∀(i:Nat) (s:Slot),env[i]?=some (some s)->CV C G H (σ[i]?) s
 inj:∀(i j:Nat) (xs ys:OK×List PV) (a:Addr),env[i]?=some (some (.ow xs.1 xs.2))->env[j]?=some (some (.ow ys.1 ys.2))->σ[i]?=some (some (.ref a))->σ[j]?=some (some (.ref a))->i=j
 p0:(∀p∈C.pots0,p∈C.M0)/\C.T.has G.pots
 len:env.length=σ.length
 newp:∀p∈G.pots,p∉C.pots0->p∈C.M0->False
section
variable {C:Ct}{G G':Gh}{σ:St}{H H':Hp}{env:Env}{n:Nat}
theorem SR.hasG (S:SR C G σ H env n):C.T.has G.pots:=S.p0.2
theorem SR.fresh (S:SR C G σ H env n)(h:H p=none):p∉G.M:=fun z=>by
 obtain⟨o,e,_⟩:=S.mu p z;rw [h] at e;cases e
theorem SR.same (S:SR C G σ H env n)(s:Same H H'):SR C G σ H' env n where
 frame b o hb e:=s b o (S.frame b o hb e)
 sub:=S.sub
 sup:=S.sup
 pots p hp:=⟨(S.pots p hp).1,C.T.keep (S.pots p hp).2 (by
   obtain⟨o,e,_⟩:=C.T.mu (S.pots p hp).2
   rw [e,s p o e]) fun b o _ e=>s b o e⟩
 pre:=S.pre
 mu a ha:=by
   obtain⟨o,e,m⟩:=S.mu a ha;exact⟨o,s a o e,m⟩
 slots i x e:=by
   have:=S.slots i x e;cases x with
   | v x =>
     obtain⟨v,e1,r⟩:=this;exact⟨v,e1,r.same s⟩
   | ow kk xs =>
     obtain⟨a,vs,e1,h1,h2,h3,h4,r⟩:=this;exact⟨a,vs,e1,h1,h2,h3,s _ _ h4,r.same s⟩
 inj:=S.inj
 p0:=S.p0
 len:=S.len
 newp:=S.newp
theorem Same.lay1 (h:H p=none):Same H (upd H p o):=(Same.refl H).lay h
end
end Pu
end
section
namespace Pu
open PySem PySem.Spec L2
abbrev PK:=PV->Env->Nat->Prop
abbrev pE:=Env->Nat->PK->Prop
abbrev pT:=Env->Nat->(Bool->Env->Nat->Prop)->Prop
abbrev pA:=Env->Nat->(List PV->Env->Nat->Prop)->Prop
abbrev pF:=List PV->Nat->(PV->Nat->Prop)->Prop
def RdV (K:A3)(G:Gh)(H:Hp)(x:PV)(v:V):Prop:=Rep K G H x v\/∃a vs xs,x=.lst xs/\v=.ref a/\H a=some (.lst vs)/\Reps K G H xs vs
def RdS (C:Ct)(G:Gh)(σ:St)(H:Hp)(env:Env)(x:PV)(v:V):Prop:=Rep C.K G H x v\/∃(i:Nat) (a:Addr) (xs:List PV),env[i]?=some (some (.ow .lst xs))/\σ[i]?=some (some (.ref a))/\x=.lst xs/\v=.ref a
def EOk (K:A3)(T:PotK)(t:TE)(pe:pE):Prop:=∀(C:Ct) (G:Gh) (σ:St) (H:Hp) (env:Env) (n:Nat) (R:PK) (Q:VK),C.K=K->C.T=T->SR C G σ H env n->pe env n R->
 (∀x env' n' v H',R x env' n'->SR C G σ H' env' n'->Rep K G H' x v->Fr G H H'->Q v H')->t σ H Q
def ROk (K:A3)(T:PotK)(t:TE)(pe:pE):Prop:=∀(C:Ct) (G:Gh) (σ:St) (H:Hp) (env:Env) (n:Nat) (R:PK) (Q:VK),C.K=K->C.T=T->SR C G σ H env n->pe env n R->
 (∀x env' n' v H',R x env' n'->SR C G σ H' env' n'->RdS C G σ H' env' x v->Fr G H H'->Q v H')->t σ H Q
def NOk (K:A3)(T:PotK)(t:TE)(pn:pA):Prop:=∀(C:Ct) (G:Gh) (σ:St) (H:Hp) (env:Env) (n:Nat) (R:List PV->Env->Nat->Prop) (Q:VK),C.K=K->C.T=T->SR C G σ H env n->pn env n R->
 (∀xs env' n' a vs Hb,R xs env' n'->SR C G σ Hb env' n'->Fr G H Hb->Hb a=none->Reps K G Hb xs vs->Q (.ref a) (upd Hb a (.lst vs)))->t σ H Q
def TOk (K:A3)(T:PotK)(t:TT)(pt:pT):Prop:=∀(C:Ct) (G:Gh) (σ:St) (H:Hp) (env:Env) (n:Nat) (R:Bool->Env->Nat->Prop) (Q:Bool->Hp->Prop),C.K=K->C.T=T->SR C G σ H env n->pt env n R->
 (∀b env' n' H',R b env' n'->SR C G σ H' env' n'->Fr G H H'->Q b H')->t σ H Q
def AOk (K:A3)(T:PotK)(t:TA)(pa:pA):Prop:=∀(C:Ct) (G:Gh) (σ:St) (H:Hp) (env:Env) (n:Nat) (R:List PV->Env->Nat->Prop) (Q:List V->Hp->Prop),C.K=K->C.T=T->SR C G σ H env n->pa env n R->
 (∀xs env' n' vs H',R xs env' n'->SR C G σ H' env' n'->Reps K G H' xs vs->Fr G H H'->Q vs H')->t σ H Q
structure EW (X:Cx)(e:Expr)(t:TE):Prop where
 h:PE X e t
structure SW (X:Cx)(st:Stmt)(t:TS):Prop where
 h:PS X st t
structure GW (X:Cx)(e:Expr)(g:TG):Prop where
 h:PG X e g
theorem vw (i:Nat)(hN:X.N[i]?=some x:=by rfl)(hv:Vis X.env.scope x:=by first | exact Or.inl rfl | exact Or.inr (Or.inl rfl) | exact Or.inr (Or.inr rfl))(hd:(x == ("__debug__":Str))=false:=by decide)(hcd:(x == ("__classdict__":Str))=false:=by decide):EW X (.Name x pos) (tVar i):=⟨EB hN hv hd hcd⟩
def QE {ι:Type}(T:PotK)(K:A3)(F:ι->Cx)(e:Expr)(pe:pE):Prop:=∃t,(∀z,PE (F z) e t)/\EOk K T t pe
def QR {ι:Type}(T:PotK)(K:A3)(F:ι->Cx)(e:Expr)(pe:pE):Prop:=∃t,(∀z,PE (F z) e t)/\ROk K T t pe
def QN {ι:Type}(T:PotK)(K:A3)(F:ι->Cx)(e:Expr)(pn:pA):Prop:=∃t,(∀z,PE (F z) e t)/\NOk K T t pn
def QT {ι:Type}(T:PotK)(K:A3)(F:ι->Cx)(e:Expr)(pt:pT):Prop:=∃t,(∀z,PT (F z) e t)/\TOk K T t pt
def QW {ι:Type}(T:PotK)(K:A3)(F:ι->Cx)(e:Expr)(pt:pT):Prop:=∃t,(∀z,PW (F z) e t)/\TOk K T t pt
def QA {ι:Type}(T:PotK)(K:A3)(F:ι->Cx)(es:List Expr)(pa:pA):Prop:=∃t,(∀z,PA (F z) es t)/\AOk K T t pa
section
variable {T:PotK}{ι:Type}{K:A3}{F:ι->Cx}{e a b:Expr}{es:List Expr}{pe pa pb:pE}
theorem Reps.nil:Reps K G H [] []:=rfl
theorem Reps.cons (h:Rep K G H x v)(h':Reps K G H xs vs):Reps K G H (x::xs) (v::vs):=⟨v,vs,rfl,h,h'⟩
theorem RdS.rd (S:SR C G σ H env n)(h:RdS C G σ H env x v):RdV C.K G H x v:=by
 rcases h with h | ⟨i,a,xs,e1,e2,ex,ev⟩
 · exact .inl h
 · obtain⟨a',vs,e3,_,_,_,h4,r⟩:=S.slots i _ e1;rw [e2] at e3;cases e3;exact .inr ⟨a,vs,xs,ex,ev,h4,r⟩
theorem RdS.fr (h:RdS C G σ H env x v)(f:Fr G H H'):RdS C G σ H' env x v:=by
 rcases h with h | h
 · exact .inl (h.fr f)
 · exact .inr h
theorem RdV.lst (h:RdV K G H (.lst xs) v):∃a vs,v=.ref a/\SqL K H a vs/\Reps K G H xs vs:=by
 rcases h with⟨a,vs,e,t,r⟩ | ⟨a,vs,ys,ex,ev,h4,r⟩
 · exact⟨a,vs,e,t.sq,r⟩
 · cases ex;exact⟨a,vs,ev,SqL.of h4,r⟩
theorem RdV.rep {K:A3}{G:Gh}{H:Hp}{x:PV}{v:V}(h:RdV K G H x v)(hx:∀xs,x≠.lst xs):Rep K G H x v:=by simp_all [Gh,Hp,PV,RdV,V]
theorem RdV.tup (h:RdV K G H (.tup xs) v):∃a vs,v=.ref a/\SqT K H a vs/\Reps K G H xs vs:=by
 obtain⟨a,vs,e,t,r⟩:=h.rep (fun _ z=>nomatch z);exact⟨a,vs,e,t.sq,r⟩
theorem RdV.int (h:RdV K G H (.int i) v):v=.int i:=h.rep (fun _ z=>nomatch z)
theorem RdV.str (h:RdV K G H (.str i) v):v=.str i:=h.rep (fun _ z=>nomatch z)
theorem RdV.bl (h:RdV K G H (.bl i) v):v=.bl i:=h.rep (fun _ z=>nomatch z)
theorem RdV.non (h:RdV K G H .non v):v=.non:=h.rep (fun _ z=>nomatch z)
def qV (i:Nat):pE:=fun env n R=>match env[i]? with | some (some (.v x))=>R x env n | _=>False
def qO (i:Nat):pE:=fun env n R=>match env[i]? with | some (some (.ow .lst xs))=>R (.lst xs) env n | _=>False
def qC (c:PV):pE:=fun env n R=>R c env n
theorem qV_ex (h:qV i env n R):∃x,env[i]?=some (some (.v x))/\R x env n:=by
 unfold qV at h
 split at h
 · exact⟨_,by assumption,h⟩
 · exact h.elim
theorem qO_ex (h:qO i env n R):∃xs,env[i]?=some (some (.ow .lst xs))/\R (.lst xs) env n:=by
 unfold qO at h
 split at h
 · exact⟨_,by assumption,h⟩
 · exact h.elim
theorem qe_var (i:Nat)(h:∀z,EW (F z) (.Name x pos) (tVar i)):QE T K F (.Name x pos) (qV i):=by
 refine⟨_,fun z=>(h z).h,fun C G σ H env n R Q hK hT S hp k=>?_⟩;obtain⟨x,e,r⟩:=qV_ex hp;obtain⟨v,ev,rv⟩:=S.slots i _ e;exact⟨v,ev,k _ _ _ _ _ r S (hK▸rv) Fr.refl⟩
theorem R9 (i:Nat)(h:∀z,EW (F z) (.Name x pos) (tVar i)):QR T K F (.Name x pos) (qO i):=by
 refine⟨_,fun z=>(h z).h,fun C G σ H env n R Q hK hT S hp k=>?_⟩;obtain⟨xs,e,r⟩:=qO_ex hp;obtain⟨a,vs,ev,_,_,_,_,rv⟩:=S.slots i _ e;exact⟨.ref a,ev,k _ _ _ _ _ r S (.inr ⟨i,a,xs,e,ev,rfl,rfl⟩) Fr.refl⟩
theorem QE.r (h:QE T K F e pe):QR T K F e pe:=by
 obtain⟨t,h1,h2⟩:=h;exact⟨t,h1,fun C G σ H env n R Q hK hT S hp k=>h2 C G σ H env n R Q hK hT S hp fun x env' n' v H' r S' rp f=>k x env' n' v H' r S' (.inl (by rw [hK];exact rp)) f⟩
theorem ok_c (h:∀G H,Rep K G H c v):EOk K T (tC v) (qC c):=fun C G σ H env n R Q hK hT S hp k=>k _ _ _ _ _ hp S (h G H) Fr.refl
theorem A4 {i j pos}:QE T K F (.Constant (.int i) j pos) (qC (.int i)):=⟨_,fun z=>D1,ok_c fun _ _=>rfl⟩
theorem L3 {i j pos}:QE T K F (.Constant (.bool i) j pos) (qC (.bl i)):=⟨_,fun z=>pe_bl,ok_c fun _ _=>rfl⟩
theorem L4 {i j pos}:QE T K F (.Constant (.str i) j pos) (qC (.str i)):=⟨_,fun z=>pe_str,ok_c fun _ _=>rfl⟩
theorem CW {j pos}:QE T K F (.Constant .none j pos) (qC .non):=⟨_,fun z=>pe_non,ok_c fun _ _=>rfl⟩
theorem qe_num {x:Str}{i:Int}{pos:Pos}(n:∀z,Num0 (F z).mg x i)(hg:∀z,Gl (F z) x)(hd:(x == ("__debug__":Str))=false:=by decide):QE T K F (.Name x pos) (qC (.int i)):=⟨_,fun z=>pe_num (n z) (hg z) hd,ok_c fun _ _=>rfl⟩
abbrev w1:=PV->(PV->Prop)->Prop
abbrev w2:=PV->PV->(PV->Prop)->Prop
def W2 (K:A3)(r:R2)(w:w2):Prop:=∀(G:Gh) (H:Hp) (x y:PV) (v u:V) (R:PV->Prop) (Q:VK),(∀p,H p=none->p∉G.M)->RdV K G H x v->RdV K G H y u->w x y R->
 (∀z v' H',R z->Same H H'->Rep K G H' z v'->Q v' H')->r v u H Q
def W1 (K:A3)(r:V->Hp->VK->Prop)(w:w1):Prop:=∀(G:Gh) (H:Hp) (x:PV) (v:V) (R:PV->Prop) (Q:VK),(∀p,H p=none->p∉G.M)->RdV K G H x v->w x R->
 (∀z v' H',R z->Same H H'->Rep K G H' z v'->Q v' H')->r v H Q
def qOp (w:w2)(pa pb:pE):pE:=fun env n R=>pa env n fun x env1 n1=>pb env1 n1 fun y env2 n2=>w x y fun z=>R z env2 n2
def qOpR (w:w2)(pa pb:pE):pE:=fun env n R=>pa env n fun x env1 n1=>pb env1 n1 fun y env2 n2=>env2=env1/\w x y fun z=>R z env2 n2
def qUn (w:w1)(pa:pE):pE:=fun env n R=>pa env n fun x env1 n1=>w x fun z=>R z env1 n1
theorem Ac (hw:W2 K r w)(ha:EOk K T ta pa)(hb:ROk K T tb pb):EOk K T (tOp r ta tb) (qOp w pa pb):=fun C G σ H env n R Q hK hT S hp k=>by
 refine ha C G σ H env n _ _ hK hT S hp fun x env1 n1 v H1 p1 S1 r1 f1=>?_;refine hb C G σ H1 env1 n1 _ _ hK hT S1 p1 fun y env2 n2 u H2 p2 S2 r2 f2=>?_;subst hK;exact hw G H2 x y v u _ _ (fun p hp=>S2.fresh hp) (.inl (r1.fr f2)) (r2.rd S2) p2 fun z v' H' rz s rv=>k _ _ _ _ _ rz (S2.same s) rv ((f1.trans f2).trans (Fr.of s))
theorem ok_opR (hw:W2 K r w)(ha:ROk K T ta pa)(hb:ROk K T tb pb):EOk K T (tOp r ta tb) (qOpR w pa pb):=fun C G σ H env n R Q hK hT S hp k=>by
 refine ha C G σ H env n _ _ hK hT S hp fun x env1 n1 v H1 p1 S1 r1 f1=>?_;refine hb C G σ H1 env1 n1 _ _ hK hT S1 p1 fun y env2 n2 u H2 p2 S2 r2 f2=>?_;subst hK;obtain⟨e,p2⟩:=p2;subst e;exact hw G H2 x y v u _ _ (fun p hp=>S2.fresh hp) ((r1.fr f2).rd S2) (r2.rd S2) p2 fun z v' H' rz s rv=>k _ _ _ _ _ rz (S2.same s) rv ((f1.trans f2).trans (Fr.of s))
theorem ok_un (hw:W1 K r w)(ha:ROk K T ta pa):EOk K T (tUn r ta) (qUn w pa):=fun C G σ H env n R Q hK hT S hp k=>by
 refine ha C G σ H env n _ _ hK hT S hp fun x env1 n1 v H1 p1 S1 r1 f1=>?_;subst hK;exact hw G H1 x v _ _ (fun p hp=>S1.fresh hp) (r1.rd S1) p1 fun z v' H' rz s rv=>k _ _ _ _ _ rz (S1.same s) rv (f1.trans (Fr.of s))
def wI (C:Int->Int->Prop)(g:Int->Int->PV):w2:=fun x y R=>match x,y with | .int i,.int j=>C i j/\R (g i j) | _,_=>False
theorem W2.I (hg:∀i j G H,Rep K G H (g' i j) (g i j)):W2 K (rI C g) (wI C g'):=by
 intro G H x y v u R Q hf rx ry hw k;unfold wI at hw
 split at hw
 · exact⟨_,_,rx.int,ry.int,hw.1,k _ _ _ hw.2 (Same.refl _) (hg _ _ _ _)⟩
 · exact hw.elim
def wI0 (g:Int->Int->PV):w2:=fun x y R=>match x,y with | .int i,.int j=>R (g i j) | _,_=>False
theorem W2.I0 (hg:∀i j G H,Rep K G H (g' i j) (g i j)):W2 K (rI0 g) (wI0 g'):=by
 intro G H x y v u R Q hf rx ry hw k;unfold wI0 at hw
 split at hw
 · exact⟨_,_,rx.int,ry.int,k _ _ _ hw (Same.refl _) (hg _ _ _ _)⟩
 · exact hw.elim
def wAdd:w2:=fun x y R=>match x,y with
 | .int i,.int j=>R (.int (i + j))
 | .str i,.str j=>i.length + j.length<=1000000/\R (.str (i++j))
 | .tup xs,.tup ys=>xs.length + ys.length<=1000000/\R (.tup (xs++ys))
 | _,_=>False
theorem mil (h:n<=1000000):n<=B1:=E8 h (by rw [sizeLine_eq];decide)
theorem mil' (h:n<=1000000):n < B1:=AZ h (by rw [sizeLine_eq];decide)
theorem Y4 (hf:p∉G.M)(hn:H p=none)(r:Reps K G H xs vs):Rep K G (upd H p (.tup vs)) (.tup xs) (.ref p):=
 ⟨p,vs,rfl,⟨hf,E4⟩,r.same (Same.lay1 hn)⟩
theorem Ad (hf:p∉G.M)(hn:H p=none)(r:Reps K G H xs vs):Rep K G (upd H p (.lst vs)) (.lst xs) (.ref p):=
 ⟨p,vs,rfl,⟨hf,E4⟩,r.same (Same.lay1 hn)⟩
theorem W2.add:W2 K (fun x y H Q=>(rI0 fun i j=>.int (i + j)) x y H Q\/(∃i j,x=.str i/\y=.str j/\i.length + j.length<=B1/\Q (.str (i++j)) H)\/rCatA K x y H Q) wAdd:=by
 intro G H x y v u R Q hf rx ry hw k;unfold wAdd at hw
 split at hw
 · exact .inl ⟨_,_,rx.int,ry.int,k _ _ _ hw (Same.refl _) rfl⟩
 · exact .inr (.inl ⟨_,_,rx.str,ry.str,mil hw.1,k _ _ _ hw.2 (Same.refl _) rfl⟩)
 · rename_i xs ys;obtain⟨a,vs,ea,ta,ra⟩:=rx.rep (fun _ z=>nomatch z);obtain⟨b,us,eb,tb,rb⟩:=ry.rep (fun _ z=>nomatch z);refine .inr (.inr ⟨a,b,vs,us,ea,eb,ta.sq,tb.sq,?_,fun z=>?_,fun z1 z2=>?_,fun z1 z2 p hp=>?_⟩)
   · rw [<- ra.length,<- rb.length];exact mil hw.1
   · subst z;have:xs=[]:=Cb ra.length;subst this;exact k _ _ _ hw.2 (Same.refl _) ⟨b,us,rfl,tb,rb⟩
   · subst z2;have:ys=[]:=Cb rb.length;subst this;exact k _ _ _ hw.2 (Same.refl _) (by rw [AX];exact⟨a,vs,rfl,ta,ra⟩)
   · exact k _ _ _ hw.2 (Same.lay1 hp) (Y4 (hf p hp) hp (ra.append rb))
 · exact hw.elim
theorem E2 (ha:QE T K F a pa)(hb:QE T K F b pb)(hK:∀z,(F z).K=K:=by intro _;rfl):QE T K F (.BinOp a .Add b pos) (qOp wAdd pa pb):=by
 obtain⟨ta,h1,h2⟩:=ha;obtain⟨tb,h3,h4⟩:=hb.r;exact⟨_,fun z=>D4 (U2.or (IN.or (hK z▸JE))) (h1 z) (h3 z),Ac W2.add h2 h4⟩
theorem Bm (ho:∀z,OpR (F z) (O1 op) r)(hw:W2 K r w)(ha:QE T K F a pa)(hb:QE T K F b pb):QE T K F (.BinOp a op b pos) (qOp w pa pb):=by
 obtain⟨ta,h1,h2⟩:=ha;obtain⟨tb,h3,h4⟩:=hb.r;exact⟨_,fun z=>D4 (ho z) (h1 z) (h3 z),Ac hw h2 h4⟩
def wSub:w2:=wI0 fun i j=>.int (i - j)
def wMul:w2:=fun x y R=>match x,y with
 | .int i,.int j=>CMul i j/\R (.int (i * j))
 | .str i,.int n=>i.length<=100/\0<=n/\n<=1000/\R (.str (Txt.mul i n))
 | _,_=>False
def Bn:w2:=wI CDiv fun i j=>.int (i / j)
def wMod:w2:=wI (fun _ j=>0 < j) fun i j=>.int (i % j)
theorem W2.mul:W2 K (fun x y H Q=>(rI CMul fun i j=>.int (i * j)) x y H Q\/(∃i n,x=.str i/\y=.int n/\i.length<=100/\0<=n/\n<=1000/\Q (.str (Txt.mul i n)) H)) wMul:=by
 intro G H x y v u R Q hf rx ry hw k;unfold wMul at hw
 split at hw
 · exact .inl ⟨_,_,rx.int,ry.int,hw.1,k _ _ _ hw.2 (Same.refl _) rfl⟩
 · exact .inr ⟨_,_,rx.str,ry.int,hw.1,hw.2.1,hw.2.2.1,k _ _ _ hw.2.2.2 (Same.refl _) rfl⟩
 · exact hw.elim
theorem P8 (ha:QE T K F a pa)(hb:QE T K F b pb):QE T K F (.BinOp a .Sub b pos) (qOp wSub pa pb):=Bm (fun _=>op_sub) (W2.I0 fun _ _ _ _=>rfl) ha hb
theorem Bo (ha:QE T K F a pa)(hb:QE T K F b pb):QE T K F (.BinOp a .Mult b pos) (qOp wMul pa pb):=Bm (fun _=>V5.or JB) W2.mul ha hb
theorem Fp (ha:QE T K F a pa)(hb:QE T K F b pb):QE T K F (.BinOp a .FloorDiv b pos) (qOp Bn pa pb):=Bm (fun _=>Bi) (W2.I fun _ _ _ _=>rfl) ha hb
theorem Fq (ha:QE T K F a pa)(hb:QE T K F b pb):QE T K F (.BinOp a .Mod b pos) (qOp wMod pa pb):=Bm (fun _=>V6) (W2.I fun _ _ _ _=>rfl) ha hb
end
end Pu
end
section
namespace L2
open PySem PySem.Spec PyProof.Rows
def EqD (K:A3)(H:Hp):Nat->V->V->Bool->Prop
 | 0,x,y,b=>N5 x=true/\N5 y=true/\b=eqV x y
 | d + 1, x, y, b => (N5 x = true /\ N5 y = true /\ b = eqV x y) \/
   (∃p q xs ys,∃f:Nat->Bool,x=.ref p/\y=.ref q/\SqT K H p xs/\SqT K H q ys/\(∀(j:Nat) x' y',xs[j]?=some x'->ys[j]?=some y'->EqD K H d x' y' (f j))/\b=((C2 (min xs.length ys.length)).all f && xs.length == ys.length))\/
   (∃p q xs ys,∃f:Nat->Bool,x=.ref p/\y=.ref q/\SqL K H p xs/\SqL K H q ys/\(∀(j:Nat) x' y',xs[j]?=some x'->ys[j]?=some y'->EqD K H d x' y' (f j))/\b=((C2 (min xs.length ys.length)).all f && xs.length == ys.length))\/
   (b=false/\((∃p xs,x=.ref p/\(SqT K H p xs\/SqL K H p xs)/\N5 y=true)\/(∃p xs,y=.ref p/\(SqT K H p xs\/SqL K H p xs)/\N5 x=true)\/
     (∃p q xs ys,x=.ref p/\y=.ref q/\SqT K H p xs/\SqL K H q ys)\/(∃p q xs ys,x=.ref p/\y=.ref q/\SqL K H p xs/\SqT K H q ys)))
section
variable {X:Cx}{pins:List (Addr×Obj)}{σ:St}{H:Hp}{s:Shared}
theorem P9 (I:Inv X pins σ H s)(h:SqT X.K H p xs)(h':SqL X.K H p ys):False:=by
 obtain⟨its,r,⟨o,e,c,n,d⟩,_⟩:=I.tuple h;obtain⟨its',r',⟨o',n',e',c',_,d'⟩,_⟩:=I.list h';rw [e] at e';cases e';rw [c] at c';injection c' with c';exact absurd c' (by decide)
theorem EqD.refl (I:Inv X pins σ H s):∀(d:Nat) (x:V) (b:Bool),EqD X.K H d x x b->b=true:=by
 intro d
 induction d with
 | zero =>
   intro x b h;obtain⟨h1,_,rfl⟩:=h;exact Fj h1
 | succ d ih =>
   intro x b h;rcases h with⟨h1,_,rfl⟩ | ⟨p,q,xs,ys,f,e1,e2,s1,s2,hf,rfl⟩ | ⟨p,q,xs,ys,f,e1,e2,s1,s2,hf,rfl⟩ | ⟨rfl,h⟩
   · exact Fj h1
   · subst e1;cases e2;have:=I.tuple_inj s1 s2;subst this;simp only [Nat.min_self,beq_self_eq_true,Bool.and_true,F9,M1];intro j hj;exact ih _ _ (hf j xs[j] xs[j] (by simp [hj]) (by simp [hj]))
   · subst e1;cases e2;have:=I.list_inj s1 s2;subst this;simp only [Nat.min_self,beq_self_eq_true,Bool.and_true,F9,M1];intro j hj;exact ih _ _ (hf j xs[j] xs[j] (by simp [hj]) (by simp [hj]))
   · rcases h with⟨p,xs,rfl,_,h⟩ | ⟨p,xs,rfl,_,h⟩ | ⟨p,q,xs,ys,e1,e2,s1,s2⟩ | ⟨p,q,xs,ys,e1,e2,s1,s2⟩
     · cases h
     · cases h
     · subst e1;cases e2;exact(P9 I s1 s2).elim
     · subst e1;cases e2;exact(P9 I s2 s1).elim
theorem Inv.sqL (I:Inv X pins σ H s)(h:SqL X.K H p xs):∃its:List Value,Vals xs its/\s.heap.IsList p its.toArray:=by
 obtain⟨its,r,pl,_⟩:=I.list h;exact⟨its,r,pl.isList⟩
theorem Inv.sqT (I:Inv X pins σ H s)(h:SqT X.K H p xs):∃its:List Value,Vals xs its/\s.heap.IsTuple p its.toArray:=by
 obtain⟨its,r,pl,_⟩:=I.tuple h;exact⟨its,r,pl⟩
theorem Fs (I:Inv X pins σ H s)(hu:A.units < cLine)(hq:SqT X.K H p xs\/SqL X.K H p xs)(ry:RelV y w)(fy:N5 y=true) :
   o1 A s (.ref p) w false/\n6 A s (.ref p) w true/\o1 A s w (.ref p) false/\n6 A s w (.ref p) true/\d5 A s (.ref p) w false/\d5 A s w (.ref p) false:=by
 rcases hq with hq | hq
 · obtain⟨its,r,il⟩:=I.sqT hq;cases y with
   | non=>cases ry;exact⟨.tuple_none il hu,.tuple_none il hu,.none_tuple il hu,.none_tuple il hu,.tuple_none il hu,.none_tuple il hu⟩
   | bl b=>cases ry;exact⟨.tuple_bool b il hu,.tuple_bool b il hu,.bool_tuple b il hu,.bool_tuple b il hu,.tuple_bool b il hu,.bool_tuple b il hu⟩
   | int i=>obtain⟨t,rfl⟩:=ry;exact⟨.tuple_int i t il hu,.tuple_int i t il hu,.int_tuple i t il hu,.int_tuple i t il hu,.tuple_int i t il hu,.int_tuple i t il hu⟩
   | str i=>obtain⟨t,rfl⟩:=ry;exact⟨.tuple_str i t il hu,.tuple_str i t il hu,.str_tuple i t il hu,.str_tuple i t il hu,.tuple_str i t il hu,.str_tuple i t il hu⟩
   | _=>cases fy
 · obtain⟨its,r,il⟩:=I.sqL hq;cases y with
   | non=>cases ry;exact⟨.list_none il hu,.list_none il hu,.none_list il hu,.none_list il hu,.list_none il hu,.none_list il hu⟩
   | bl b=>cases ry;exact⟨.list_bool b il hu,.list_bool b il hu,.bool_list b il hu,.bool_list b il hu,.list_bool b il hu,.bool_list b il hu⟩
   | int i=>obtain⟨t,rfl⟩:=ry;exact⟨.list_int i t il hu,.list_int i t il hu,.int_list i t il hu,.int_list i t il hu,.list_int i t il hu,.int_list i t il hu⟩
   | str i=>obtain⟨t,rfl⟩:=ry;exact⟨.list_str i t il hu,.list_str i t il hu,.str_list i t il hu,.str_list i t il hu,.list_str i t il hu,.str_list i t il hu⟩
   | _=>cases fy
theorem Ft (rx:RelV x u)(ry:RelV y w)(fx:N5 x=true)(fy:N5 y=true):o1 A s u w (eqV x y)/\n6 A s u w (!eqV x y):=by
 cases x with
 | non =>
   cases rx;cases y with
   | non=>cases ry;exact⟨.none_none,.none_none⟩
   | bl j=>cases ry;exact⟨.none_bool j,.none_bool j⟩
   | int j=>obtain⟨t,rfl⟩:=ry;exact⟨.none_int j t,.none_int j t⟩
   | str j=>obtain⟨t,rfl⟩:=ry;exact⟨.none_str j t,.none_str j t⟩
   | _=>cases fy
 | bl i =>
   cases rx;cases y with
   | non=>cases ry;exact⟨.bool_none i,.bool_none i⟩
   | bl j=>cases ry;exact⟨.bool_bool i j,.bool_bool i j⟩
   | int j=>obtain⟨t,rfl⟩:=ry;exact⟨.bool_int i j t,.bool_int i j t⟩
   | str j=>obtain⟨t,rfl⟩:=ry;exact⟨.bool_str i j t,.bool_str i j t⟩
   | _=>cases fy
 | int i =>
   obtain⟨ti,rfl⟩:=rx;cases y with
   | non=>cases ry;exact⟨.int_none i ti,.int_none i ti⟩
   | bl j=>cases ry;exact⟨.int_bool i ti j,.int_bool i ti j⟩
   | int j=>obtain⟨t,rfl⟩:=ry;exact⟨.int_int i ti j t,.int_int i ti j t⟩
   | str j=>obtain⟨t,rfl⟩:=ry;exact⟨.int_str i ti j t,.int_str i ti j t⟩
   | _=>cases fy
 | str i =>
   obtain⟨ti,rfl⟩:=rx;cases y with
   | non=>cases ry;exact⟨.str_none i ti,.str_none i ti⟩
   | bl j=>cases ry;exact⟨.str_bool i ti j,.str_bool i ti j⟩
   | int j=>obtain⟨t,rfl⟩:=ry;exact⟨.str_int i ti j t,.str_int i ti j t⟩
   | str j=>obtain⟨t,rfl⟩:=ry;exact⟨.str_str i ti j t,.str_str i ti j t⟩
   | _=>cases fy
 | _=>cases fx
theorem Ae (A:Around):A.in1.units=A.units + 1:=rfl
theorem EqD.at (I:Inv X pins σ H s):∀(d:Nat) (A:Around) (x y:V) (u w:Value) (b:Bool),A.units + d < cLine->RelV x u->RelV y w->EqD X.K H d x y b->d5 A s u w b/\o1 A s u w b/\n6 A s u w (!b):=by
 intro d
 induction d with
 | zero =>
   intro A x y u w b hu rx ry h;obtain⟨h1,h2,rfl⟩:=h;exact⟨Fe rx ry h1 h2,Ft rx ry h1 h2⟩
 | succ d ih =>
   intro A x y u w b hu rx ry h;have hu0:A.units < cLine:=by omega
   have hu1:A.in1.units + d < cLine:=by rw [Ae];omega
   have hrefl:=EqD.refl I (d + 1) x b;rcases h with⟨h1,h2,rfl⟩ | ⟨p,q,xs,ys,f,e1,e2,s1,s2,hf,eb⟩ | ⟨p,q,xs,ys,f,e1,e2,s1,s2,hf,eb⟩ | ⟨rfl,h⟩
   · exact⟨Fe rx ry h1 h2,Ft rx ry h1 h2⟩
   · subst e1 e2;cases rx;cases ry;obtain⟨its,r1,t1⟩:=I.sqT s1;obtain⟨its2,r2,t2⟩:=I.sqT s2;have z1:its.toArray.size=xs.length:=by simpa using r1.length.symm
     have z2:its2.toArray.size=ys.length:=by simpa using r2.length.symm
     have he:∀j (h1:j < its.toArray.size) (h2:j < its2.toArray.size),d5 A.in1 s its.toArray[j] its2.toArray[j] (f j):=by
       intro j h1 h2;obtain⟨x',e1,q1⟩:=r1.getE (j:=j) (by omega);obtain⟨y',e2,q2⟩:=r2.getE (j:=j) (by grind);exact(ih A.in1 x' y' _ _ (f j) hu1 (by grind) (by grind) (hf j x' y' e1 e2)).1
     have rc:o1 A s (.ref p) (.ref q) b:=by
       rw [eb,<- z1,<- z2];exact SeqAt.RcAt.tuples t1 t2 hu0 he
     have rn:n6 A s (.ref p) (.ref q) (!b):=by
       rw [eb,<- z1,<- z2];exact SeqAt.RcNeAt.tuples t1 t2 hu0 he
     refine⟨?_,rc,rn⟩
     by_cases hpq:p=q
     · subst hpq;rw [hrefl (.inr (.inl ⟨p,p,xs,ys,f,rfl,rfl,s1,s2,hf,eb⟩))];exact .same _
     · exact .of_refs hpq rc
   · subst e1 e2;cases rx;cases ry;obtain⟨its,r1,t1⟩:=I.sqL s1;obtain⟨its2,r2,t2⟩:=I.sqL s2;have z1:its.toArray.size=xs.length:=by simpa using r1.length.symm
     have z2:its2.toArray.size=ys.length:=by simpa using r2.length.symm
     have he:∀j (h1:j < its.toArray.size) (h2:j < its2.toArray.size),d5 A.in1 s its.toArray[j] its2.toArray[j] (f j):=by
       intro j h1 h2;obtain⟨x',e1,q1⟩:=r1.getE (j:=j) (by omega);obtain⟨y',e2,q2⟩:=r2.getE (j:=j) (by grind);exact(ih A.in1 x' y' _ _ (f j) hu1 (by grind) (by grind) (hf j x' y' e1 e2)).1
     have rr:o1 A s (.ref p) (.ref q) b/\n6 A s (.ref p) (.ref q) (!b):=by
       by_cases hl:xs.length=ys.length
       · have e3:b=(C2 its.toArray.size).all f:=by rw [eb,hl,Nat.min_self,beq_self_eq_true,Bool.and_true,z1,hl]
         rw [e3];exact⟨SeqAt.RcAt.lists t1 t2 (by grind) hu0 he,SeqAt.RcNeAt.lists t1 t2 (by grind) hu0 he⟩
       · have e3:b=false:=by
           rw [eb];have:(xs.length == ys.length)=false:=by simpa using hl
           rw [this,Bool.and_false]
         rw [e3];have e4:(its.toArray.size != its2.toArray.size)=true:=by rw [z1,z2];simpa using hl
         exact⟨SeqAt.RcAt.lists_lengths t1 t2 e4 hu0,SeqAt.RcNeAt.lists_lengths t1 t2 e4 hu0⟩
     refine⟨?_,rr⟩
     by_cases hpq:p=q
     · subst hpq;rw [hrefl (.inr (.inr (.inl ⟨p,p,xs,ys,f,rfl,rfl,s1,s2,hf,eb⟩)))];exact .same _
     · exact .of_refs hpq rr.1
   · rcases h with⟨p,xs,rfl,hq,fy⟩ | ⟨p,xs,rfl,hq,fx⟩ | ⟨p,q,xs,ys,e1,e2,s1,s2⟩ | ⟨p,q,xs,ys,e1,e2,s1,s2⟩
     · cases rx;obtain⟨a1,a2,a3,a4,a5,a6⟩:=Fs I hu0 hq ry fy;exact⟨a5,a1,a2⟩
     · cases ry;obtain⟨a1,a2,a3,a4,a5,a6⟩:=Fs I hu0 hq rx fx;exact⟨a6,a3,a4⟩
     · subst e1 e2;cases rx;cases ry;obtain⟨its,r1,t1⟩:=I.sqT s1;obtain⟨its2,r2,t2⟩:=I.sqL s2;exact⟨.tuple_list t1 t2 hu0,.tuple_list t1 t2 hu0,.tuple_list t1 t2 hu0⟩
     · subst e1 e2;cases rx;cases ry;obtain⟨its,r1,t1⟩:=I.sqL s1;obtain⟨its2,r2,t2⟩:=I.sqT s2;exact⟨.list_tuple t1 t2 hu0,.list_tuple t1 t2 hu0,.list_tuple t1 t2 hu0⟩
end
section
variable {X:Cx}
def rEqD (K:A3)(d:Nat)(neg:Bool):R2:=fun x y H Q=>∃b,EqD K H d x y b/\Q (.bl (if neg then !b else b)) H
theorem op_eqD (d:Nat)(hu:X.A.units + d < cLine):OpR X (G5 .Eq) (rEqD X.K d false):=by
 intro pins s σ H x y v u Q I rx ry h;obtain⟨b,hb,q⟩:=h;exact(hb.at I d X.A x y v u b hu rx ry).2.1 X.prog X.w X.xe _ ⟨.bl _,H,I,rfl,q⟩
theorem op_neD (d:Nat)(hu:X.A.units + d < cLine):OpR X (G5 .NotEq) (rEqD X.K d true):=by
 intro pins s σ H x y v u Q I rx ry h;obtain⟨b,hb,q⟩:=h;exact(hb.at I d X.A x y v u b hu rx ry).2.2 X.prog X.w X.xe _ ⟨.bl _,H,I,rfl,q⟩
def rInD (K:A3)(d:Nat)(neg:Bool):R2:=fun x y H Q=>∃p ys,∃f:Nat->Bool,y=.ref p/\(SqL K H p ys\/SqT K H p ys)/\(∀(j:Nat) z,ys[j]?=some z->EqD K H d z x (f j))/\Q (.bl (if neg then !((C2 ys.length).any f) else(C2 ys.length).any f)) H
theorem Fu (h:∀j,j < n->f j=g j):(C2 n).all f=(C2 n).all g:=by
 rw [b9,F9,F9];constructor
 · intro k j hj;rw [<- h j (M1.mp hj)];exact k j hj
 · intro k j hj;rw [h j (M1.mp hj)];exact k j hj
theorem EqD.det (I:Inv X pins σ H s):∀(d:Nat) (x y:V) (b b':Bool),EqD X.K H d x y b->EqD X.K H d x y b'->b=b':=by
 intro d
 induction d with
 | zero =>
   intro x y b b' h h';rw [h.2.2,h'.2.2]
 | succ d ih =>
   intro x y b b' h h';rcases h with⟨h1,h2,rfl⟩ | ⟨p,q,xs,ys,f,rfl,rfl,s1,s2,hf,rfl⟩ | ⟨p,q,xs,ys,f,rfl,rfl,s1,s2,hf,rfl⟩ | ⟨rfl,h⟩
   · rcases h' with⟨h1',h2',rfl⟩ | ⟨p,q,xs,ys,f,rfl,rfl,s1,s2,hf,rfl⟩ | ⟨p,q,xs,ys,f,rfl,rfl,s1,s2,hf,rfl⟩ | ⟨rfl,h⟩
     · rfl
     · cases h1
     · cases h1
     · rcases h with⟨p,xs,rfl,_,h⟩ | ⟨p,xs,rfl,_,h⟩ | ⟨p,q,xs,ys,rfl,rfl,s1,s2⟩ | ⟨p,q,xs,ys,rfl,rfl,s1,s2⟩
       · cases h1
       · cases h2
       · cases h1
       · cases h1
   · rcases h' with⟨h1',h2',rfl⟩ | ⟨p',q',xs',ys',f',e1,e2,s1',s2',hf',rfl⟩ | ⟨p',q',xs',ys',f',e1,e2,s1',s2',hf',rfl⟩ | ⟨rfl,h⟩
     · cases h1'
     · cases e1;cases e2;have:=I.tuple_inj s1 s1';subst this;have:=I.tuple_inj s2 s2';subst this;rw [Fu fun j hj=>ih _ _ _ _ (hf j (xs[j]'(by omega)) (ys[j]'(by omega)) (C4 _) (C4 _)) (hf' j (xs[j]'(by omega)) (ys[j]'(by omega)) (C4 _) (C4 _))]
     · cases e1;exact(P9 I s1 s1').elim
     · rcases h with⟨p',xs',e1,_,h⟩ | ⟨p',xs',e1,_,h⟩ | ⟨p',q',xs',ys',e1,e2,s1',s2'⟩ | ⟨p',q',xs',ys',e1,e2,s1',s2'⟩
       · cases h
       · cases h
       · cases e2;exact(P9 I s2 s2').elim
       · cases e1;exact(P9 I s1 s1').elim
   · rcases h' with⟨h1',h2',rfl⟩ | ⟨p',q',xs',ys',f',e1,e2,s1',s2',hf',rfl⟩ | ⟨p',q',xs',ys',f',e1,e2,s1',s2',hf',rfl⟩ | ⟨rfl,h⟩
     · cases h1'
     · cases e1;exact(P9 I s1' s1).elim
     · cases e1;cases e2;have:=I.list_inj s1 s1';subst this;have:=I.list_inj s2 s2';subst this;rw [Fu fun j hj=>ih _ _ _ _ (hf j (xs[j]'(by omega)) (ys[j]'(by omega)) (C4 _) (C4 _)) (hf' j (xs[j]'(by omega)) (ys[j]'(by omega)) (C4 _) (C4 _))]
     · rcases h with⟨p',xs',e1,_,h⟩ | ⟨p',xs',e1,_,h⟩ | ⟨p',q',xs',ys',e1,e2,s1',s2'⟩ | ⟨p',q',xs',ys',e1,e2,s1',s2'⟩
       · cases h
       · cases h
       · cases e1;exact(P9 I s1' s1).elim
       · cases e2;exact(P9 I s2' s2).elim
   · rcases h' with⟨h1',h2',rfl⟩ | ⟨p',q',xs',ys',f',rfl,rfl,s1',s2',hf',rfl⟩ | ⟨p',q',xs',ys',f',rfl,rfl,s1',s2',hf',rfl⟩ | ⟨rfl,h'⟩
     · rcases h with⟨p,xs,rfl,_,h⟩ | ⟨p,xs,rfl,_,h⟩ | ⟨p,q,xs,ys,rfl,rfl,s1,s2⟩ | ⟨p,q,xs,ys,rfl,rfl,s1,s2⟩
       · cases h1'
       · cases h2'
       · cases h1'
       · cases h1'
     · rcases h with⟨p,xs,e1,_,h⟩ | ⟨p,xs,e1,_,h⟩ | ⟨p,q,xs,ys,e1,e2,s1,s2⟩ | ⟨p,q,xs,ys,e1,e2,s1,s2⟩
       · cases h
       · cases h
       · cases e2;exact(P9 I s2' s2).elim
       · cases e1;exact(P9 I s1' s1).elim
     · rcases h with⟨p,xs,e1,_,h⟩ | ⟨p,xs,e1,_,h⟩ | ⟨p,q,xs,ys,e1,e2,s1,s2⟩ | ⟨p,q,xs,ys,e1,e2,s1,s2⟩
       · cases h
       · cases h
       · cases e1;exact(P9 I s1 s1').elim
       · cases e2;exact(P9 I s2 s2').elim
     · rfl
open Classical in
theorem Bp (I:Inv X pins σ H s)(hu:A.units + d < cLine)(r:Vals ys its)(rx:RelV x v)(hf:∀(j:Nat) z,ys[j]?=some z->EqD X.K H d z x (f j)) :
   ∃e:Value->Bool,(∀y,y∈its->d5 A s y v (e y))/\its.any e=(C2 ys.length).any f:=by
 have key:∀(j j':Nat) (z:Value),its[j]?=some z->its[j']?=some z->f j=f j':=by
   intro j j' z h h';obtain⟨hj,_⟩:=C5.mp h;obtain⟨hj',_⟩:=C5.mp h';obtain⟨w1,a1,b1⟩:=r.getE hj;obtain⟨w2,a2,b2⟩:=r.getE hj';rw [C4 hj] at h;rw [C4 hj'] at h';cases h;rw [D7 h'] at b2;have:=b1.inj b2;subst this;exact EqD.det I d _ _ _ _ (hf j _ a1) (hf j' _ a2)
 let e:Value->Bool:=fun y=>decide (∃j,its[j]?=some y/\f j=true)
 have he:∀(j:Nat) (y:Value),its[j]?=some y->e y=f j:=by
   intro j y h;show decide _=_;cases hb:f j with
   | true=>exact decide_eq_true ⟨j,h,hb⟩
   | false=>exact decide_eq_false fun⟨j',h1,h2⟩=>by rw [key j j' y h h1,h2] at hb;cases hb
 refine⟨e,fun y hy=>?_,?_⟩
 · obtain⟨j,hj,rfl⟩:=x5 hy;obtain⟨w1,a1,b1⟩:=r.getE hj;rw [he j _ (C4 hj)];exact((hf j w1 a1).at I d A w1 x _ v (f j) hu b1 rx).1
 · have hl:=r.length;rw [b9,b4,b4];constructor
   · rintro⟨y,hy,h⟩;obtain⟨j,hj,rfl⟩:=x5 hy;exact⟨j,M1.mpr (by omega),by rw [<- he j _ (C4 hj)];exact h⟩
   · rintro⟨j,hj,h⟩;have hj':j < its.length:=by have:=M1.mp hj;omega
     exact⟨its[j],j8 hj',by rw [he j _ (C4 hj')];exact h⟩
theorem op_inD (d:Nat)(hu:X.A.units + (d + 1) < cLine):OpR X (G5 .In) (rInD X.K d false):=by
 intro pins s σ H x y v u Q I rx ry h;obtain⟨p,ys,f,rfl,hq,hf,q⟩:=h;cases ry;rcases hq with hq | hq
 · obtain⟨its,r,il⟩:=I.sqL hq;obtain⟨e,h1,h2⟩:=Bp I (A:=X.A.in1) (by rw [Ae];omega) r rx hf;refine SeqAt.in_listAt e il (fun y hy=>h1 y (by simpa using hy)) ⟨.bl _,H,I,rfl,?_⟩;rw [show its.toArray.any e=its.any e by simp,h2];exact q
 · obtain⟨its,r,il⟩:=I.sqT hq;obtain⟨e,h1,h2⟩:=Bp I (A:=X.A.in1) (by rw [Ae];omega) r rx hf;refine SeqAt.in_tupleAt e il (fun y hy=>h1 y (by simpa using hy)) ⟨.bl _,H,I,rfl,?_⟩;rw [show its.toArray.any e=its.any e by simp,h2];exact q
theorem JI (d:Nat)(hu:X.A.units + (d + 1) < cLine):OpR X (G5 .NotIn) (rInD X.K d true):=by
 intro pins s σ H x y v u Q I rx ry h;obtain⟨p,ys,f,rfl,hq,hf,q⟩:=h;cases ry;rcases hq with hq | hq
 · obtain⟨its,r,il⟩:=I.sqL hq;obtain⟨e,h1,h2⟩:=Bp I (A:=X.A.in1) (by rw [Ae];omega) r rx hf;refine SeqAt.notIn_listAt e il (fun y hy=>h1 y (by simpa using hy)) ⟨.bl _,H,I,rfl,?_⟩;rw [show its.toArray.any e=its.any e by simp,h2];exact q
 · obtain⟨its,r,il⟩:=I.sqT hq;obtain⟨e,h1,h2⟩:=Bp I (A:=X.A.in1) (by rw [Ae];omega) r rx hf;refine SeqAt.notIn_tupleAt e il (fun y hy=>h1 y (by simpa using hy)) ⟨.bl _,H,I,rfl,?_⟩;rw [show its.toArray.any e=its.any e by simp,h2];exact q
end
end L2
namespace Pu
open PySem PySem.Spec L2
def Y5:PV->Bool
 | .non=>true
 | .bl _=>true
 | .int _=>true
 | .str _=>true
 | _=>false
def cmpb:Nat->PV->Bool
 | 0,x=>Y5 x
 | d + 1,.tup xs=>xs.all (cmpb d)
 | d + 1,.lst xs=>xs.all (cmpb d)
 | _ + 1,x=>Y5 x
mutual
def eqP:PV->PV->Bool
 | .non,.non=>true
 | .bl a,.bl b=>a == b
 | .bl a,.int b=>(if a then 1 else 0) == b
 | .int a,.bl b=>a == (if b then 1 else 0)
 | .int a,.int b=>a == b
 | .str a,.str b=>a == b
 | .tup xs,.tup ys=>eqPs xs ys
 | .lst xs,.lst ys=>eqPs xs ys
 | _,_=>false
def eqPs:List PV->List PV->Bool
 | [],[]=>true
 | x::xs,y::ys=>eqP x y && eqPs xs ys
 | _,_=>false
end
theorem CY:∀(xs ys:List PV),((C2 (min xs.length ys.length)).all (fun j=>match xs[j]?,ys[j]? with | some x,some y=>eqP x y | _,_=>false) && xs.length == ys.length)=eqPs xs ys
 | [],[]=>rfl
 | [],_::_=>rfl
 | _::_,[]=>rfl
 | x :: xs, y :: ys => by
   have ih:=CY xs ys;show _=(eqP x y && eqPs xs ys);rw [<- ih];simp only [O5,Nat.succ_min_succ,List.range_succ_eq_map,List.all_cons,List.all_map,Function.comp_def,Ce,AO];rw [Bool.and_assoc]
   congr 1
   simp
end Pu
end
section
namespace Pu
open PySem PySem.Spec L2
section
variable {K:A3}{G:Gh}{H:Hp}
inductive Sort3 (K:A3)(G:Gh)(H:Hp)(d:Nat)(x:PV)(v:V):Prop where
 | fl (h:N5 v=true) (s:Y5 x=true)
 | tp (p:Addr) (xs:List PV) (vs:List V) (e:x=.tup xs) (ev:v=.ref p) (h:SqT K H p vs) (r:Reps K G H xs vs) (c:xs.all (cmpb d)=true)
 | ls (p:Addr) (xs:List PV) (vs:List V) (e:x=.lst xs) (ev:v=.ref p) (h:SqL K H p vs) (r:Reps K G H xs vs) (c:xs.all (cmpb d)=true)
theorem p6 (s:Y5 x=true)(h:RdV K G H x v):N5 v=true:=by
 cases x with
 | non=>rw [h.non];rfl
 | bl b=>rw [h.bl];rfl
 | int b=>rw [h.int];rfl
 | str b=>rw [h.str];rfl
 | _=>cases s
theorem Bq (c:cmpb (d + 1) x=true)(h:RdV K G H x v):Sort3 K G H d x v:=by
 cases x with
 | tup xs =>
   obtain⟨a,vs,e,t,r⟩:=h.tup;exact .tp a xs vs rfl e t r c
 | lst xs =>
   obtain⟨a,vs,e,t,r⟩:=h.lst;exact .ls a xs vs rfl e t r c
 | non=>exact .fl (p6 c h) c
 | bl _=>exact .fl (p6 c h) c
 | int _=>exact .fl (p6 c h) c
 | str _=>exact .fl (p6 c h) c
 | ty _=>cases c
 | pot _=>cases c
 | scr _=>cases c
 | dct _ _=>cases c
 | fdt _ _=>cases c
theorem Fv (sx:Y5 x=true)(sy:Y5 y=true)(hx:RdV K G H x v)(hy:RdV K G H y u):eqP x y=eqV v u:=by
 cases x with
 | non =>
   cases hx.non;cases y with
   | non=>cases hy.non;rfl
   | bl j=>cases hy.bl;rfl
   | int j=>cases hy.int;rfl
   | str j=>cases hy.str;rfl
   | _=>cases sy
 | bl i =>
   cases hx.bl;cases y with
   | non=>cases hy.non;rfl
   | bl j=>cases hy.bl;rfl
   | int j=>cases hy.int;rfl
   | str j=>cases hy.str;rfl
   | _=>cases sy
 | int i =>
   cases hx.int;cases y with
   | non=>cases hy.non;rfl
   | bl j=>cases hy.bl;rfl
   | int j=>cases hy.int;rfl
   | str j=>cases hy.str;rfl
   | _=>cases sy
 | str i =>
   cases hx.str;cases y with
   | non=>cases hy.non;rfl
   | bl j=>cases hy.bl;rfl
   | int j=>cases hy.int;rfl
   | str j=>cases hy.str;rfl
   | _=>cases sy
 | _=>cases sx
theorem Br (sy:Y5 y=true):eqP (.tup xs) y=false/\eqP (.lst xs) y=false/\eqP y (.tup xs)=false/\eqP y (.lst xs)=false:=by
 cases y <;> first | exact⟨rfl,rfl,rfl,rfl⟩ | cases sy
theorem CZ:∀(d:Nat) (x y:PV) (v u:V),cmpb d x=true->cmpb d y=true->RdV K G H x v->RdV K G H y u->EqD K H d v u (eqP x y):=by
 intro d
 induction d with
 | zero=>intro x y v u cx cy hx hy;exact⟨p6 cx hx,p6 cy hy,Fv cx cy hx hy⟩
 | succ d ih =>
   intro x y v u cx cy hx hy
   have el:∀(xs ys:List PV) (vs us:List V),Reps K G H xs vs->Reps K G H ys us->xs.all (cmpb d)=true->ys.all (cmpb d)=true->∀(j:Nat) x' y',vs[j]?=some x'->us[j]?=some y'->EqD K H d x' y' (match xs[j]?,ys[j]? with | some x,some y=>eqP x y | _,_=>false):=by
     intro xs ys vs us r1 r2 c1 c2 j x' y' e1 e2;obtain⟨x1,ex,rx⟩:=r1.get e1;obtain⟨y1,ey,ry⟩:=r2.get e2;rw [ex,ey];exact ih x1 y1 x' y' (F9.mp c1 x1 (J7 ex)) (F9.mp c2 y1 (J7 ey)) (.inl rx) (.inl ry)
   cases Bq cx hx with
   | fl fx sx =>
     cases Bq cy hy with
     | fl fy sy=>exact .inl ⟨fx,fy,Fv sx sy hx hy⟩
     | tp q ys us e ev h r c=>subst e;exact .inr (.inr (.inr ⟨(Br sx).2.2.1,.inr (.inl ⟨q,us,ev,.inl h,fx⟩)⟩))
     | ls q ys us e ev h r c=>subst e;exact .inr (.inr (.inr ⟨(Br sx).2.2.2,.inr (.inl ⟨q,us,ev,.inr h,fx⟩)⟩))
   | tp p xs vs e ev h r c =>
     subst e;cases Bq cy hy with
     | fl fy sy=>exact .inr (.inr (.inr ⟨(Br sy).1,.inl ⟨p,vs,ev,.inl h,fy⟩⟩))
     | tp q ys us e2 ev2 h2 r2 c2 =>
       subst e2;refine .inr (.inl ⟨p,q,vs,us,_,ev,ev2,h,h2,el xs ys vs us r r2 c c2,?_⟩);rw [<- r.length,<- r2.length];exact(CY xs ys).symm
     | ls q ys us e2 ev2 h2 r2 c2=>subst e2;exact .inr (.inr (.inr ⟨rfl,.inr (.inr (.inl ⟨p,q,vs,us,ev,ev2,h,h2⟩))⟩))
   | ls p xs vs e ev h r c =>
     subst e;cases Bq cy hy with
     | fl fy sy=>exact .inr (.inr (.inr ⟨(Br sy).2.1,.inl ⟨p,vs,ev,.inr h,fy⟩⟩))
     | tp q ys us e2 ev2 h2 r2 c2=>subst e2;exact .inr (.inr (.inr ⟨rfl,.inr (.inr (.inr ⟨p,q,vs,us,ev,ev2,h,h2⟩))⟩))
     | ls q ys us e2 ev2 h2 r2 c2 =>
       subst e2;refine .inr (.inr (.inl ⟨p,q,vs,us,_,ev,ev2,h,h2,el xs ys vs us r r2 c c2,?_⟩));rw [<- r.length,<- r2.length];exact(CY xs ys).symm
end
section
variable {T:PotK}{ι:Type}{K:A3}{F:ι->Cx}{e a b c:Expr}{es rest:List Expr}{pe pa pb pc:pE}{pos:Pos}
def grd (b:Bool)(P:Prop):Prop:=match b with | true=>P | false=>False
theorem grd_t {P:Prop}:grd true P=P:=rfl
theorem grd_i {b:Bool}{P:Prop}(h:b=true)(p:P):grd b P:=by subst h;exact p
theorem Bs {b:Bool}{P:Prop}(h:grd b P):b=true:=by grind [grd]
theorem p8 {b:Bool}{P:Prop}(h:grd b P):P:=by cases b;exact h.elim;exact h
theorem gd2 {a b:Bool}{P:Prop}(h1:a=true)(h2:b=true)(p:P):grd a (grd b P):=grd_i h1 (grd_i h2 p)
def wEq (d:Nat):w2:=fun x y R=>grd (cmpb d x) (grd (cmpb d y) (R (.bl (eqP x y))))
def wNe (d:Nat):w2:=fun x y R=>grd (cmpb d x) (grd (cmpb d y) (R (.bl (!eqP x y))))
theorem W2.eq (d:Nat):W2 K (rEqD K d false) (wEq d):=fun G H x y v u R Q hf rx ry hw k=>⟨_,CZ d x y v u (Bs hw) (Bs (p8 hw)) rx ry,k _ _ _ (p8 (p8 hw)) (Same.refl _) rfl⟩
theorem W2.ne (d:Nat):W2 K (rEqD K d true) (wNe d):=fun G H x y v u R Q hf rx ry hw k=>⟨_,CZ d x y v u (Bs hw) (Bs (p8 hw)) rx ry,k _ _ _ (p8 (p8 hw)) (Same.refl _) rfl⟩
def memP (x:PV)(ys:List PV):Bool:=ys.any fun y=>eqP y x
def wIn (d:Nat)(neg:Bool):w2:=fun x y R=>match x,y with
 | .str i,.str j=>R (.bl (if neg then !(!(l6 j i 0 j.length 1).isEmpty) else !(l6 j i 0 j.length 1).isEmpty))
 | x,.lst ys=>cmpb d x=true/\ys.all (cmpb d)=true/\R (.bl (if neg then !memP x ys else memP x ys))
 | x,.tup ys=>cmpb d x=true/\ys.all (cmpb d)=true/\R (.bl (if neg then !memP x ys else memP x ys))
 | _,_=>False
theorem Fx {x:PV}:∀ys:List PV,((C2 ys.length).any fun j=>match ys[j]? with | some y=>eqP y x | none=>false)=memP x ys
 | []=>rfl
 | y :: ys => by
   have ih:=Fx (x:=x) ys;show _=(eqP y x || memP x ys);rw [<- ih];simp only [O5,List.range_succ_eq_map,List.any_cons,List.any_map,Function.comp_def,Ce,AO]
theorem W2.in_ {K:A3}(d:Nat)(neg:Bool){r:R2}(hr:∀x y H Q,(∃i j,x=.str i/\y=.str j/\Q (.bl (if neg then !(!(l6 j i 0 j.length 1).isEmpty) else !(l6 j i 0 j.length 1).isEmpty)) H)\/rInD K d neg x y H Q->r x y H Q):W2 K r (wIn d neg):=by
 intro G H x y v u R Q hf rx ry hw k;refine hr _ _ _ _ ?_
 have seq:∀(ys:List PV) (p:Addr) (us:List V),u=.ref p->(SqL K H p us\/SqT K H p us)->Reps K G H ys us->cmpb d x=true/\ys.all (cmpb d)=true/\R (.bl (if neg then !memP x ys else memP x ys))->rInD K d neg v u H Q:=by
   intro ys p us eu hq r h;refine⟨p,us,fun j=>match ys[j]? with | some y=>eqP y x | none=>false,eu,hq,fun j z ez=>?_,?_⟩
   · obtain⟨y1,ey,ry⟩:=r.get ez;dsimp only;rw [ey];exact CZ d y1 x z v (F9.mp h.2.1 y1 (J7 ey)) h.1 (.inl ry) rx
   · rw [<- r.length,Fx];exact k _ _ _ h.2.2 (Same.refl _) rfl
 unfold wIn at hw
 split at hw
 · exact .inl ⟨_,_,rx.str,ry.str,k _ _ _ hw (Same.refl _) rfl⟩
 · obtain⟨p,us,eu,hq,r⟩:=ry.lst;exact .inr (seq _ p us eu (.inl hq) r hw)
 · obtain⟨p,us,eu,hq,r⟩:=ry.tup;exact .inr (seq _ p us eu (.inr hq) r hw)
 · exact hw.elim
def wLt:w2:=fun x y R=>match x,y with | .int i,.int j=>R (.bl (decide (i < j))) | .str i,.str j=>R (.bl (decide (i.cps.toList < j.cps.toList))) | _,_=>False
def wLe:w2:=fun x y R=>match x,y with | .int i,.int j=>R (.bl (decide (i<=j))) | .str i,.str j=>R (.bl (!decide (j.cps.toList < i.cps.toList))) | _,_=>False
theorem W2.lt:W2 K (fun x y H Q=>(rI0 fun i j=>.bl (decide (i < j))) x y H Q\/∃i j,x=.str i/\y=.str j/\Q (.bl (decide (i.cps.toList < j.cps.toList))) H) wLt:=by
 intro G H x y v u R Q hf rx ry hw k;unfold wLt at hw
 split at hw
 · exact .inl ⟨_,_,rx.int,ry.int,k _ _ _ hw (Same.refl _) rfl⟩
 · exact .inr ⟨_,_,rx.str,ry.str,k _ _ _ hw (Same.refl _) rfl⟩
 · exact hw.elim
theorem W2.le:W2 K (fun x y H Q=>(rI0 fun i j=>.bl (decide (i<=j))) x y H Q\/∃i j,x=.str i/\y=.str j/\Q (.bl (!decide (j.cps.toList < i.cps.toList))) H) wLe:=by
 intro G H x y v u R Q hf rx ry hw k;unfold wLe at hw
 split at hw
 · exact .inl ⟨_,_,rx.int,ry.int,k _ _ _ hw (Same.refl _) rfl⟩
 · exact .inr ⟨_,_,rx.str,ry.str,k _ _ _ hw (Same.refl _) rfl⟩
 grind
structure Cmp {ι:Type}(K:A3)(F:ι->Cx)(op:CmpOp)(w:w2):Prop where
 ex:∃r,(∀z,OpR (F z) (G5 op) r)/\W2 K r w
theorem cEq (d:Nat)(hr:∀z,Room k (F z).A)(hd:d<=30:=by decide)(hK:∀z,(F z).K=K:=by intro _;rfl):Cmp K F .Eq (wEq d):=⟨_,fun z=>hK z▸op_eqD d (by have:=(hr z).units;omega),W2.eq d⟩
theorem cNe (d:Nat)(hr:∀z,Room k (F z).A)(hd:d<=30:=by decide)(hK:∀z,(F z).K=K:=by intro _;rfl):Cmp K F .NotEq (wNe d):=⟨_,fun z=>hK z▸op_neD d (by have:=(hr z).units;omega),W2.ne d⟩
theorem cIn (d:Nat)(hr:∀z,Room k (F z).A)(hd:d<=30:=by decide)(hK:∀z,(F z).K=K:=by intro _;rfl):Cmp K F .In (wIn d false):=⟨_,fun z=>IK.or (hK z▸op_inD d (by have:=(hr z).units;omega)),W2.in_ d false fun _ _ _ _ h=>h⟩
theorem Af (d:Nat)(hr:∀z,Room k (F z).A)(hd:d<=30:=by decide)(hK:∀z,(F z).K=K:=by intro _;rfl):Cmp K F .NotIn (wIn d true):=⟨_,fun z=>Je.or (hK z▸JI d (by have:=(hr z).units;omega)),W2.in_ d true fun _ _ _ _ h=>h⟩
theorem cLt:Cmp K F .Lt wLt:=⟨_,fun _=>op_lt.or IJ,W2.lt⟩
theorem cLe:Cmp K F .LtE wLe:=⟨_,fun _=>op_le.or JC,W2.le⟩
theorem M3 (hc:Cmp K F op w)(ha:QE T K F a pa)(hb:QR T K F b pb)(hm:i8 op b=false):QE T K F (.Compare a [op] [b] pos) (qOp w pa pb):=by
 obtain⟨r,ho,hw⟩:=hc.ex;obtain⟨ta,h1,h2⟩:=ha;obtain⟨tb,h3,h4⟩:=hb;exact⟨_,fun z=>CF (ho z) (h1 z) (h3 z) hm,Ac hw h2 h4⟩
def qB (pe:pE):pT:=fun env n R=>pe env n fun x env' n'=>match x with | .bl b=>R b env' n' | _=>False
theorem ok_b (h:EOk K T t pe):TOk K T (tB t) (qB pe):=fun C G σ H env n R Q hK hT S hp k=>by
 refine h C G σ H env n _ _ hK hT S hp fun x env' n' v H' r S' rp f=>?_;cases x with
 | bl b=>exact⟨b,rp,k _ _ _ _ r S' f⟩
 | _=>exact r.elim
theorem Bt (h:EOk K T t pe):TOk K T (CG t) (qB pe):=fun C G σ H env n R Q hK hT S hp k=>by
 refine h C G σ H env n _ _ hK hT S hp fun x env' n' v H' r S' rp f=>?_;cases x with
 | bl b=>exact⟨b,rp,k _ _ _ _ r S' f⟩
 | _=>exact r.elim
theorem G8 (h:QE T K F e pe)(he:∀z whole,isTrue e (F z).env whole=(do let v ← whole;standAt e.pos;holding [v] (truthy v)):=by intro _ _;rfl):QT T K F e (qB pe):=by
 obtain⟨t,h1,h2⟩:=h;exact⟨_,fun z=>pt_val (h1 z) (he z),ok_b h2⟩
theorem J3 (hc:Cmp K F op w)(ha:QE T K F a pa)(hb:QR T K F b pb)(hm:i8 op b=false):QT T K F (.Compare a [op] [b] pos) (qB (qOp w pa pb)):=by
 obtain⟨r,ho,hw⟩:=hc.ex;obtain⟨ta,h1,h2⟩:=ha;obtain⟨tb,h3,h4⟩:=hb;exact⟨_,fun z=>y9 (ho z) (h1 z) (h3 z) hm,Bt (Ac hw h2 h4)⟩
def Y6 (w w':w2)(pa pb pc:pE):pE:=fun env n R=>pa env n fun x env1 n1=>pb env1 n1 fun y env2 n2=>w x y fun z=>match z with | .bl k=>if k=true then pc env2 n2 fun u env3 n3=>w' y u fun z=>R z env3 n3 else R (.bl false) env2 n2 | _=>False
theorem Fy (hw:W2 K r w)(hw':W2 K r' w')(ha:EOk K T ta pa)(hb:EOk K T tb pb)(hc:EOk K T tc pc):EOk K T (CH r r' ta tb tc) (Y6 w w' pa pb pc):=fun C G σ H env n R Q hK hT S hp k=>by
 refine ha C G σ H env n _ _ hK hT S hp fun x env1 n1 v H1 p1 S1 r1 f1=>?_;refine hb C G σ H1 env1 n1 _ _ hK hT S1 p1 fun y env2 n2 u H2 p2 S2 r2 f2=>?_;subst hK;refine hw G H2 x y v u _ _ (fun p hp=>S2.fresh hp) (.inl (r1.fr f2)) (.inl r2) p2 fun z v' H' rz s rv=>?_;cases z with
 | bl kk =>
   refine⟨kk,rv,?_⟩;cases kk with
   | false=>exact k _ _ _ _ _ rz (S2.same s) rfl ((f1.trans f2).trans (Fr.of s))
   | true =>
     refine hc C G σ H' env2 n2 _ _ rfl hT (S2.same s) rz fun c3 env3 n3 v3 H3 p3 S3 r3 f3=>?_;exact hw' G H3 y c3 u v3 _ _ (fun p hp=>S3.fresh hp) (.inl ((r2.same s).fr f3)) (.inl r3) p3 fun z v' H4 rz s4 rv=>k _ _ _ _ _ rz (S3.same s4) rv ((((f1.trans f2).trans (Fr.of s)).trans f3).trans (Fr.of s4))
 | _=>exact rz.elim
theorem Fz (hc:Cmp K F op w)(hc':Cmp K F op' w')(ha:QE T K F a pa)(hb:QE T K F b pb)(hcc:QE T K F c pc)(hm:lastMarks [op,op'] [b,c]=false:=by with_unfolding_all rfl):QE T K F (.Compare a [op,op'] [b,c] pos) (Y6 w w' pa pb pc):=by
 obtain⟨r,ho,hw⟩:=hc.ex;obtain⟨r',ho',hw'⟩:=hc'.ex;obtain⟨ta,a1,a2⟩:=ha;obtain⟨tb,b1,b2⟩:=hb;obtain⟨tc,c1,c2⟩:=hcc;exact⟨_,fun z=>IL (ho z) (ho' z) (a1 z) (b1 z) (c1 z) hm,Fy hw hw' a2 b2 c2⟩
theorem FA (hc:Cmp K F op w)(hc':Cmp K F op' w')(ha:QE T K F a pa)(hb:QE T K F b pb)(hcc:QE T K F c pc)(hm:lastMarks [op,op'] [b,c]=false:=by with_unfolding_all rfl):QT T K F (.Compare a [op,op'] [b,c] pos) (qB (Y6 w w' pa pb pc)):=by
 obtain⟨r,ho,hw⟩:=hc.ex;obtain⟨r',ho',hw'⟩:=hc'.ex;obtain⟨ta,a1,a2⟩:=ha;obtain⟨tb,b1,b2⟩:=hb;obtain⟨tc,c1,c2⟩:=hcc;exact⟨_,fun z=>IM (ho z) (ho' z) (a1 z) (b1 z) (c1 z) hm,Bt (Fy hw hw' a2 b2 c2)⟩
variable {pt pu:pT}
def qOr (t u:pT):pT:=fun env n R=>t env n fun b env1 n1=>if b=true then R true env1 n1 else u env1 n1 R
def qNot (t:pT):pT:=fun env n R=>t env n fun b env1 n1=>R (!b) env1 n1
theorem ok_or (h:TOk K T t pt)(h':TOk K T u pu):TOk K T (tOr t u) (qOr pt pu):=fun C G σ H env n R Q hK hT S hp k=>by
 refine h C G σ H env n _ _ hK hT S hp fun b env1 n1 H1 p1 S1 f1=>?_;cases b with
 | false=>exact h' C G σ H1 env1 n1 _ _ hK hT S1 p1 fun b env2 n2 H2 p2 S2 f2=>k _ _ _ _ p2 S2 (f1.trans f2)
 | true=>exact k _ _ _ _ p1 S1 f1
theorem ok_not {K:A3}{t:TT}(h:TOk K T t pt):TOk K T (tNot t) (qNot pt):=fun C G σ H env n R Q hK hT S hp k=>h C G σ H env n _ _ hK hT S hp fun b env1 n1 H1 p1 S1 f1=>k _ _ _ _ p1 S1 f1
theorem Q0 (ha:QT T K F a pt):QW T K F (.BoolOp .Or [a] pos) pt:=let ⟨t,h1,h2⟩:=ha;⟨t,fun z=>pw_or1 (h1 z),h2⟩
theorem K4 (ha:QT T K F a pt)(hb:QW T K F (.BoolOp .Or (b::rest) pos) pu):QW T K F (.BoolOp .Or (a::b::rest) pos) (qOr pt pu):=let ⟨t,h1,h2⟩:=ha;let ⟨u,h3,h4⟩:=hb;⟨_,fun z=>pw_or (h1 z) (h3 z),ok_or h2 h4⟩
theorem QW.qt (h:QW T K F e pt):QT T K F e pt:=let ⟨t,h1,h2⟩:=h;⟨t,fun z=>(h1 z).pt,h2⟩
theorem J5 (ha:QT T K F a pt):QT T K F (.UnaryOp .Not a pos) (qNot pt):=let ⟨t,h1,h2⟩:=ha;⟨_,fun z=>pt_not (h1 z),ok_not h2⟩
def O8 (pa pb:pE):pE:=fun env n R=>pa env n fun x env1 n1=>match x with | .bl b=>if b=true then pb env1 n1 R else R (.bl false) env1 n1 | _=>False
theorem Y7 {op}(h:QE T K F a pa):QE T K F (.BoolOp op [a] pos) pa:=let ⟨t,h1,h2⟩:=h;⟨t,fun z=>pe_one (h1 z),h2⟩
theorem T0 (ha:QE T K F a pa)(hb:QE T K F (.BoolOp .And (b::rest) pos) pb):QE T K F (.BoolOp .And (a::b::rest) pos) (O8 pa pb):=by
 obtain⟨t,h1,h2⟩:=ha;obtain⟨u,h3,h4⟩:=hb;refine⟨_,fun z=>pe_and (h1 z) (h3 z),fun C G σ H env n R Q hK hT S hp k=>?_⟩;refine h2 C G σ H env n _ _ hK hT S hp fun x env1 n1 v H1 p1 S1 r1 f1=>?_;cases x with
 | bl c =>
   refine⟨c,r1,?_⟩;cases c with
   | true=>exact h4 C G σ H1 env1 n1 _ _ hK hT S1 p1 fun x env2 n2 v H2 p2 S2 r2 f2=>k _ _ _ _ _ p2 S2 r2 (f1.trans f2)
   | false=>exact k _ _ _ _ _ p1 S1 rfl f1
 | _=>exact p1.elim
variable {pl pr:pA}
def qNil:pA:=fun env n R=>R [] env n
def A0 (pe:pE)(pr:pA):pA:=fun env n R=>pe env n fun x env1 n1=>pr env1 n1 fun xs env2 n2=>R (x::xs) env2 n2
theorem A7:QA T K F [] qNil:=⟨_,fun _=>E9,fun C G σ H env n R Q hK hT S hp k=>k _ _ _ _ _ hp S Reps.nil Fr.refl⟩
theorem JJ (h:EOk K T t pe)(h':AOk K T u pr):AOk K T (R7 t u) (A0 pe pr):=fun C G σ H env n R Q hK hT S hp k=>by
 refine h C G σ H env n _ _ hK hT S hp fun x env1 n1 v H1 p1 S1 r1 f1=>?_;exact h' C G σ H1 env1 n1 _ _ hK hT S1 p1 fun xs env2 n2 vs H2 p2 S2 r2 f2=>k _ _ _ _ _ p2 S2 (.cons (r1.fr f2) r2) (f1.trans f2)
def C9:Expr->Bool
 | .Starred ..=>false
 | _=>true
theorem B2 (h:C9 e=true):C7 (e::es) env=(false,eval e env)::C7 es env:=by
 cases e <;> first | rfl | cases h
theorem A2 (ha:QE T K F e pe)(hr:QA T K F es pr)(h:C9 e=true:=by rfl):QA T K F (e::es) (A0 pe pr):=by
 obtain⟨t,h1,h2⟩:=ha;obtain⟨u,h3,h4⟩:=hr;exact⟨_,fun z=>C6 (h1 z) (h3 z) (B2 h),JJ h2 h4⟩
def qTup (pa:pA):pE:=fun env n R=>pa env n fun xs env1 n1=>xs.length<=1000000/\R (.tup xs) env1 n1
def qLst (pa:pA):pA:=fun env n R=>pa env n fun xs env1 n1=>xs.length<=1000000/\R xs env1 n1
def qL (pn:pA):pE:=fun env n R=>pn env n fun xs env1 n1=>R (.lst xs) env1 n1
theorem M4 {x1}(h:QA T K F es pl):QE T K F (.Tuple es x1 pos) (qTup pl):=by
 obtain⟨t,h1,h2⟩:=h;refine⟨_,fun z=>EN (h1 z),fun C G σ H env n R Q hK hT S hp k=>?_⟩;refine h2 C G σ H env n _ _ hK hT S hp fun xs env1 n1 vs H1 p1 S1 r1 f1=>⟨by rw [<- r1.length];exact mil p1.1,fun p hp=>?_⟩;exact k _ _ _ _ _ p1.2 (S1.same (Same.lay1 hp)) (Y4 (S1.fresh hp) hp r1) (f1.trans (Fr.of (Same.lay1 hp)))
theorem Q1 (h:QA T K F es pl):QN T K F (.List es pos) (qLst pl):=by
 obtain⟨t,h1,h2⟩:=h;refine⟨_,fun z=>EO (h1 z),fun C G σ H env n R Q hK hT S hp k=>?_⟩;exact h2 C G σ H env n _ _ hK hT S hp fun xs env1 n1 vs H1 p1 S1 r1 f1=>⟨by rw [<- r1.length];exact mil p1.1,fun p hp=>k _ _ _ _ _ _ p1.2 S1 f1 hp r1⟩
theorem QN.ee (h:QN T K F e pl):QE T K F e (qL pl):=by
 obtain⟨t,h1,h2⟩:=h;refine⟨t,h1,fun C G σ H env n R Q hK hT S hp k=>?_⟩;refine h2 C G σ H env n _ _ hK hT S hp fun xs env1 n1 a vs Hb p1 S1 f1 hn r1=>?_;exact k _ _ _ _ _ p1 (S1.same (Same.lay1 hn)) (Ad (S1.fresh hn) hn r1) (f1.trans (Fr.of (Same.lay1 hn)))
theorem C_ (h:ROk K T t pe)(hK:C.K=K)(hT:C.T=T)(S:SR C G σ H env n)(hp:pe env n R)
   (k:∀x env' n' v H',R x env' n'->SR C G σ H' env' n'->RdS C G σ H' env' x v->Fr G H H'->Q [v] H'):R7 t tNil σ H Q:=
 h C G σ H env n _ _ hK hT S hp fun x env1 n1 v H1 p1 S1 r1 f1=>k _ _ _ _ _ p1 S1 r1 f1
end
end Pu
end
section
namespace HT
open PySem PySem.Spec PyProof.Rows
section
variable {prog:C3}{w:World}{A:Around}{E:Value->Shared->Prop}{s:Shared}
theorem getItem_tuple_whole {lo hi:Option Int}(ht:IsTup s.heap t items)(hs:s.heap.IsSliceOf sl vl vu .none)(pl:IsPart vl lo)(pu:IsPart vu hi)
   (hw:sIx items.size 0 lo=0/\sIx items.size items.size hi=items.size) (h:Q (.ref t) s):wpAny (model prog w) A (getItem (.ref t) (.ref sl)) Q E s:=by
 obtain⟨os,hos,hcs,hds⟩:=id hs;have hTs:s.TypeIs (.ref sl) "slice":=⟨os,hos,hcs⟩;have hTt:s.TypeIs (.ref t) "tuple":=ht.typeIs;unfold getItem
 try with_reducible refine X0 ?_
 first | refine A1 (A6 ?_) | skip
 refine A1 (wpAny_sequenceKey ht.typeIs (by decide) ?_)
 refine A1 (W8 (name:=C1 "__getitem__") ht.typeIs k9
   (T4 k9 ht.typeIs entry_tuple_getitem ?_ (args_tuple_getitem _ _)))
 show wpAny _ _ (Cm (.ref t)>>=_) _ _ s;refine A1 (tupleItemsOf_ ht ?_);refine A1 (w6 hTs ?_);rw [if_pos (by decide)];refine A1 (EX hs pl pu ?_)
 have hyes:(((sIx items.size 0 lo:Nat):Int) == 0 && (1:Int) == 1 && (sIx items.size items.size hi - sIx items.size 0 lo) == items.size)=true:=by
   rw [hw.1,hw.2];simp
 show wpAny _ _ (if(((sIx items.size 0 lo:Nat):Int) == 0 && (1:Int) == 1 && (sIx items.size items.size hi - sIx items.size 0 lo) == items.size)=true then _ else _) _ _ s;rw [if_pos hyes];unfold Builtin.Tuple.tupleIsExact;refine A1 (A1 (w6 hTt (A6 ?_)));rw [if_pos (by rfl)];exact A1 (V1 (A6 ⟨_,rfl,A6 h⟩))
end
end HT
namespace L2
open PySem PySem.Spec PyProof.Rows
section
variable {X:Cx}
def rSlTA (K:A3):V->Option Int->Option Int->Hp->VK->Prop:=fun x lo hi H Q=>∃a xs,x=.ref a/\SqT K H a xs/\
 (cutV xs lo hi=xs->Q (.ref a) H)/\∀p,H p=none->Q (.ref p) (upd H p (.tup (cutV xs lo hi)))
theorem JK:SlR X (rSlTA X.K):=by
 intro pins s σ H x v vl vu lo hi sl Q I rx hs pl pu h;obtain⟨a,xs,rfl,hx,h1,h2⟩:=h
 by_cases hw:HT.sIx xs.length 0 lo=0/\HT.sIx xs.length xs.length hi=xs.length
 · cases rx;obtain⟨its,r,ht,hz⟩:=I.tuple hx;have hlen:its.toArray.size=xs.length:=by rw [D8];exact r.length.symm
   refine⟨"tuple",_,PyProof.Rows.slot_tuple_getitem.lookup,ht.typeIs,?_⟩;refine HT.getItem_tuple_whole ht hs pl pu (by rw [hlen];exact hw) ⟨.ref a,H,I,rfl,h1 ?_⟩;unfold cutV;rw [hw.1,hw.2];simp
 · exact sl_tup pins s σ H (.ref a) v vl vu lo hi sl Q I rx hs pl pu ⟨a,xs,rfl,hx,hw,h2⟩
end
end L2
namespace Pu
open PySem PySem.Spec L2
section
variable {T:PotK}{ι:Type}{K:A3}{F:ι->Cx}{e a b c:Expr}{es rest:List Expr}{pe pa pb pc:pE}{pos:Pos}{pl pr:pA}
def wIx:w2:=fun x y R=>match x,y with
 | .lst xs,.int i=>match atI xs i with | some z=>R z | none=>False
 | .tup xs,.int i=>match atI xs i with | some z=>R z | none=>False
 | .scr ns,.int i=>match atI ns i with | some z=>R (.int z) | none=>False
 | .str z,.int i=>z.length<=1000000/\match atI z.cps.toList i with | some c=>R (.str ⟨#[c]⟩) | none=>False
 | _,_=>False
theorem FB (r:Reps K G H xs vs)(h:atI xs i=some z):∃v,atI vs i=some v/\Rep K G H z v:=by
 unfold atI at h ⊢;rw [<- r.length];cases e:ixN xs.length i with
 | none=>rw [e] at h;cases h
 | some j =>
   rw [e] at h;exact r.get' h
theorem Ag (h:RdV K G H (.scr ns) v):∃a,v=.ref a/\SqL K H a (ns.map V.int):=by
 obtain⟨a,e,h⟩:=h.rep (fun _ z=>nomatch z);refine⟨a,e,?_⟩;rcases h with⟨_,o,h⟩ | h
 · exact .inl (.inr ⟨o,h⟩)
 · exact .inr h
theorem W2.ix:W2 K (rIx K) wIx:=by
 intro G H x y v u R Q hf rx ry hw k;unfold wIx at hw
 split at hw
 · rename_i xs i;obtain⟨a,vs,ev,hq,r⟩:=rx.lst;cases ez:atI xs i with
   | none=>rw [ez] at hw;exact hw.elim
   | some z =>
     rw [ez] at hw;obtain⟨v',e1,r1⟩:=FB r ez;exact .inl ⟨a,vs,i,v',ev,ry.int,hq,e1,k _ _ _ hw (Same.refl _) r1⟩
 · rename_i xs i;obtain⟨a,vs,ev,hq,r⟩:=rx.tup;cases ez:atI xs i with
   | none=>rw [ez] at hw;exact hw.elim
   | some z =>
     rw [ez] at hw;obtain⟨v',e1,r1⟩:=FB r ez;exact .inr (.inl ⟨a,vs,i,v',ev,ry.int,hq,e1,k _ _ _ hw (Same.refl _) r1⟩)
 · rename_i ns i;obtain⟨a,ev,hq⟩:=Ag rx;cases ez:atI ns i with
   | none=>rw [ez] at hw;exact hw.elim
   | some z =>
     rw [ez] at hw;refine .inl ⟨a,_,i,.int z,ev,ry.int,hq,?_,k _ _ _ hw (Same.refl _) rfl⟩;unfold atI at ez ⊢;rw [A9];cases e:ixN ns.length i with
     | none=>rw [e] at ez;cases ez
     | some j =>
       rw [e] at ez;show(ns.map V.int)[j]?=_;rw [G6,show ns[j]?=some z from ez]
       rfl
 · rename_i z i;obtain⟨hz,hw⟩:=hw;cases ez:atI z.cps.toList i with
   | none=>rw [ez] at hw;exact hw.elim
   | some c =>
     rw [ez] at hw;exact .inr (.inr ⟨z,i,c,rx.str,ry.int,mil hz,ez,k _ _ _ hw (Same.refl _) rfl⟩)
 · exact hw.elim
theorem B8 (ha:QE T K F a pa)(hb:QE T K F b pb)(hs:CM b:=by exact fun _ _=>rfl)(hK:∀z,(F z).K=K:=by intro _;rfl):QE T K F (.Subscript a b pos) (qOp wIx pa pb):=by
 obtain⟨ta,h1,h2⟩:=ha;obtain⟨tb,h3,h4⟩:=hb.r;exact⟨_,fun z=>V7 (hK z▸Fc) (h1 z) (h3 z) hs,Ac W2.ix h2 h4⟩
theorem qe_ixR (ha:QR T K F a pa)(hb:QE T K F b pb)(hs:CM b:=by exact fun _ _=>rfl)(hK:∀z,(F z).K=K:=by intro _;rfl):QE T K F (.Subscript a b pos) (qOpR wIx pa pb):=by
 obtain⟨ta,h1,h2⟩:=ha;obtain⟨tb,h3,h4⟩:=hb.r;exact⟨_,fun z=>V7 (hK z▸Fc) (h1 z) (h3 z) hs,ok_opR W2.ix h2 h4⟩
abbrev pO:=Env->Nat->(Option Int->Env->Nat->Prop)->Prop
def qNo:pO:=fun env n R=>R none env n
def M5 (pe:pE):pO:=fun env n R=>pe env n fun x env1 n1=>match x with | .int i=>R (some i) env1 n1 | _=>False
def OOk (K:A3)(T:PotK)(t:TO)(po:pO):Prop:=∀(C:Ct) (G:Gh) (σ:St) (H:Hp) (env:Env) (n:Nat) (R:Option Int->Env->Nat->Prop) (Q:Option Int->Hp->Prop),C.K=K->C.T=T->SR C G σ H env n->po env n R->
 (∀x env' n' H',R x env' n'->SR C G σ H' env' n'->Fr G H H'->Q x H')->t σ H Q
def QO {ι:Type}(T:PotK)(K:A3)(F:ι->Cx)(e:Option Expr)(po:pO):Prop:=∃t,(∀z,PO (F z) e t)/\OOk K T t po
theorem T1:QO T K F none qNo:=⟨_,fun _=>EY,fun C G σ H env n R Q hK hT S hp k=>k _ _ _ _ hp S Fr.refl⟩
theorem O9 (h:QE T K F e pe):QO T K F (some e) (M5 pe):=by
 obtain⟨t,h1,h2⟩:=h;refine⟨_,fun z=>EZ (h1 z),fun C G σ H env n R Q hK hT S hp k=>?_⟩;refine h2 C G σ H env n _ _ hK hT S hp fun x env1 n1 v H1 p1 S1 r1 f1=>?_;cases x with
 | int i=>exact⟨i,r1,k _ _ _ _ p1 S1 f1⟩
 | _=>exact p1.elim
def cutP {α:Type}(xs:List α)(lo hi:Option Int):List α:=(xs.drop (HT.sIx xs.length 0 lo)).take (HT.sIx xs.length xs.length hi - HT.sIx xs.length 0 lo)
theorem Reps.cut (r:Reps K G H xs vs)(lo hi:Option Int):Reps K G H (cutP xs lo hi) (cutV vs lo hi):=by
 unfold cutP cutV;rw [<- r.length];exact(r.drop _).take _
def wSl (x:PV)(lo hi:Option Int)(R:PV->Prop):Prop:=match x with
 | .lst xs=>R (.lst (cutP xs lo hi))
 | .scr ns=>R (.lst ((cutP ns lo hi).map PV.int))
 | .tup xs=>R (.tup (cutP xs lo hi))
 | .str z=>z.length<=1000000/\R (.str (d7 z lo hi))
 | _=>False
def qSl (pe:pE)(pl ph:pO):pE:=fun env n R=>pe env n fun x env1 n1=>pl env1 n1 fun lo env2 n2=>ph env2 n2 fun hi env3 n3=>wSl x lo hi fun z=>R z env3 n3
theorem Da {K:A3}{G:Gh}{H:Hp}:∀ns:List Int,Reps K G H (ns.map PV.int) (ns.map V.int)
 | []=>rfl
 | i::ns=>⟨.int i,ns.map V.int,rfl,rfl,Da ns⟩
theorem Db {α β:Type}(f:α->β)(xs:List α)(lo hi:Option Int):cutP (xs.map f) lo hi=(cutP xs lo hi).map f:=by simp [cutP]
theorem sl_ok (hf:∀p,H p=none->p∉G.M)(rx:RdV K G H x v)(hw:wSl x lo hi R)(k:∀z v' H',R z->Same H H'->Rep K G H' z v'->Q v' H') :
   rSlL K v lo hi H Q\/rSlTA K v lo hi H Q\/rSlS v lo hi H Q:=by
 unfold wSl at hw
 split at hw
 · obtain⟨a,vs,ev,hq,r⟩:=rx.lst;exact .inl ⟨a,vs,ev,hq,fun p hp=>k _ _ _ hw (Same.lay1 hp) (Ad (hf p hp) hp (r.cut lo hi))⟩
 · rename_i ns;obtain⟨a,ev,hq⟩:=Ag rx;refine .inl ⟨a,_,ev,hq,fun p hp=>k _ _ _ hw (Same.lay1 hp) (Ad (hf p hp) hp ?_)⟩;have:=(Da (K:=K) (G:=G) (H:=H) ns).cut lo hi;rw [Db] at this;exact this
 · obtain⟨a,vs,ev,t,r⟩:=rx.rep (fun _ z=>nomatch z);refine .inr (.inl ⟨a,vs,ev,t.sq,fun z=>k _ _ _ hw (Same.refl _) ?_,fun p hp=>k _ _ _ hw (Same.lay1 hp) (Y4 (hf p hp) hp (r.cut lo hi))⟩);have rc:=r.cut lo hi;rw [z] at rc;exact⟨a,vs,rfl,t,rc⟩
 · exact .inr (.inr ⟨_,rx.str,mil hw.1,k _ _ _ hw.2 (Same.refl _) rfl⟩)
 · exact hw.elim
theorem Q2 (he:QE T K F e pe)(hl:QO T K F lo ql)(hh:QO T K F hi qh)(hK:∀z,(F z).K=K:=by intro _;rfl):QE T K F (.Subscript e (.Slice lo hi none p2) pos) (qSl pe ql qh):=by
 obtain⟨t,h1,h2⟩:=he;obtain⟨tl,l1,l2⟩:=hl;obtain⟨th,u1,u2⟩:=hh;refine⟨_,fun z=>E_ ((hK z▸Fd).or ((hK z▸JK).or sl_str)) (h1 z) (l1 z) (u1 z),fun C G σ H env n R Q hK hT S hp k=>?_⟩;refine h2 C G σ H env n _ _ hK hT S hp fun x env1 n1 v H1 p1 S1 r1 f1=>?_;refine l2 C G σ H1 env1 n1 _ _ hK hT S1 p1 fun lo env2 n2 H2 p2 S2 f2=>?_;refine u2 C G σ H2 env2 n2 _ _ hK hT S2 p2 fun hi env3 n3 H3 p3 S3 f3=>?_;exact sl_ok (fun p hp=>S3.fresh hp) (.inl ((r1.fr f2).fr f3)) p3 fun z v' H' rz s rv=>k _ _ _ _ _ rz (S3.same s) rv (((f1.trans f2).trans f3).trans (Fr.of s))
def WA1 (K:A3)(r:List V->Hp->VK->Prop)(w:w1):Prop:=∀(G:Gh) (H:Hp) (x:PV) (v:V) (R:PV->Prop) (Q:VK),(∀p,H p=none->p∉G.M)->RdV K G H x v->w x R->
 (∀z v' H',R z->Same H H'->Rep K G H' z v'->Q v' H')->r [v] H Q
theorem FC (hw:WA1 K r w)(h:ROk K T t pe):EOk K T (tCB r (R7 t tNil)) (qUn w pe):=fun C G σ H env n R Q hK hT S hp k=>by
 refine C_ h hK hT S hp fun x env1 n1 v H1 p1 S1 r1 f1=>?_;subst hK;exact hw G H1 x v _ _ (fun p hp=>S1.fresh hp) (r1.rd S1) p1 fun z v' H' rz s rv=>k _ _ _ _ _ rz (S1.same s) rv (f1.trans (Fr.of s))
theorem Dc {id:String}(hc:∀z,J1 (F z) (.builtin id) r)(hw:WA1 K r w)(hg:∀z,Gl (F z) x)(hm:∀z,(F z).mg x=none)(hv:F5 x=some (.builtin id))(ha:QR T K F e pe)(hs:C9 e=true:=by rfl)(hn:x≠"__name__":=by decide)(hdb:(x == ("__debug__":Str))=false:=by decide) :
   QE T K F (.Call (.Name x p) [e] [] pos) (qUn w pe):=by
 obtain⟨t,h1,h2⟩:=ha;exact⟨_,fun z=>Y0 (hc z) (hg z) (hm z) hv (C6 (h1 z) E9 (B2 hs)) hn hdb (B2 hs),FC hw h2⟩
theorem FD {id:String}(hc:∀z,J1 (F z) (.type id) r)(hw:WA1 K r w)(hg:∀z,Gl (F z) x)(hm:∀z,(F z).mg x=none)(hv:F5 x=some (.type id))(ha:QR T K F e pe)(hs:C9 e=true:=by rfl)(hn:x≠"__name__":=by decide)(hdb:(x == ("__debug__":Str))=false:=by decide) :
   QE T K F (.Call (.Name x p) [e] [] pos) (qUn w pe):=by
 obtain⟨t,h1,h2⟩:=ha;exact⟨_,fun z=>CJ (hc z) (hg z) (hm z) hv (C6 (h1 z) E9 (B2 hs)) hn hdb (B2 hs),FC hw h2⟩
def wLen:w1:=fun x R=>match x with
 | .lst xs=>R (.int xs.length)
 | .tup xs=>R (.int xs.length)
 | .scr xs=>R (.int xs.length)
 | .str z=>z.length<=1000000/\R (.int z.length)
 | _=>False
theorem WA1.len:WA1 K (fun xs H Q=>(∃p ys,xs=[.ref p]/\(SqL K H p ys\/SqT K H p ys)/\Q (.int ys.length) H)\/∃z,xs=[.str z]/\z.length<=B1/\Q (.int z.length) H) wLen:=by
 intro G H x v R Q hf rx hw k;unfold wLen at hw
 split at hw
 · obtain⟨a,vs,ev,hq,r⟩:=rx.lst;exact .inl ⟨a,vs,by rw [ev],.inl hq,k _ _ _ hw (Same.refl _) (by rw [r.length];rfl)⟩
 · obtain⟨a,vs,ev,hq,r⟩:=rx.tup;exact .inl ⟨a,vs,by rw [ev],.inr hq,k _ _ _ hw (Same.refl _) (by rw [r.length];rfl)⟩
 · obtain⟨a,ev,hq⟩:=Ag rx;exact .inl ⟨a,_,by rw [ev],.inl hq,k _ _ _ hw (Same.refl _) (by rw [A9];rfl)⟩
 · exact .inr ⟨_,by rw [rx.str],mil hw.1,k _ _ _ hw.2 (Same.refl _) rfl⟩
 · exact hw.elim
theorem F7 (hg:∀z,Gl (F z) "len")(hm:∀z,(F z).mg "len"=none)(ha:QR T K F e pe)(hs:C9 e=true:=by rfl)(hK:∀z,(F z).K=K:=by intro _;rfl):QE T K F (.Call (.Name "len" p) [e] [] pos) (qUn wLen pe):=Dc (fun z=>(hK z▸Ff).or Jf) WA1.len hg hm Fk ha hs
def wInt:w1:=fun x R=>match x with | .int i=>R (.int i) | .bl b=>R (.int (if b then 1 else 0)) | _=>False
theorem JL {p:Pos}(hg:∀z,Gl (F z) "int")(hm:∀z,(F z).mg "int"=none)(ha:QR T K F e pe)(hs:C9 e=true:=by rfl):QE T K F (.Call (.Name "int" p) [e] [] pos) (qUn wInt pe):=FD (fun _=>EM) (fun G H x v R Q hf rx hw k=>by
 unfold wInt at hw
 split at hw
 · exact .inl ⟨_,by rw [rx.int],k _ _ _ hw (Same.refl _) rfl⟩
 · exact .inr ⟨_,by rw [rx.bl],k _ _ _ hw (Same.refl _) rfl⟩
 · exact hw.elim) hg hm Bk ha hs
def V9:List PV->Option (List Bool)
 | []=>some []
 | .bl b::xs=>(V9 xs).map (b::·)
 | _=>none
theorem FE {K:A3}{G:Gh}{H:Hp}:∀{xs:List PV} {vs:List V} {bs:List Bool},V9 xs=some bs->Reps K G H xs vs->vs=bs.map V.bl
 | [],vs,bs,h,r=>by cases h;exact r
 | .bl b :: xs, vs, bs, h, r => by
   obtain⟨v,t,e,rv,rt⟩:=r;cases e1:V9 xs with
   | none=>simp [V9,e1] at h
   | some cs =>
     have:b::cs=bs:=by simpa [V9,e1] using h
     subst this;rw [e,show v=.bl b from rv,FE e1 rt]
     rfl
 | .non::_,_,_,h,_=>by cases h
 | .int _::_,_,_,h,_=>by cases h
 | .str _::_,_,_,h,_=>by cases h
 | .ty _::_,_,_,h,_=>by cases h
 | .pot _::_,_,_,h,_=>by cases h
 | .tup _::_,_,_,h,_=>by cases h
 | .lst _::_,_,_,h,_=>by cases h
 | .dct _ _::_,_,_,h,_=>by cases h
 | .fdt _ _::_,_,_,h,_=>by cases h
 | .scr _::_,_,_,h,_=>by cases h
theorem FG:∀bs:List Bool,V9 (bs.map PV.bl)=some bs
 | []=>rfl
 | b::bs=>by simp [V9,FG bs]
def wAll:w1:=fun x R=>match x with | .lst xs=>(match V9 xs with | some bs=>R (.bl (bs.all id)) | none=>False) | _=>False
theorem Dd (hc:∀z,(F z).calm=true)(hg:∀z,Gl (F z) "all")(hm:∀z,(F z).mg "all"=none)(ha:QR T K F e pe)(hs:C9 e=true:=by rfl)(hK:∀z,(F z).K=K:=by intro _;rfl):QE T K F (.Call (.Name "all" p) [e] [] pos) (qUn wAll pe):=Dc (fun z=>hK z▸Ju (hc z)) (fun G H x v R Q hf rx hw k=>by
 unfold wAll at hw
 split at hw
 · rename_i xs;obtain⟨a,vs,ev,hq,r⟩:=rx.lst
   split at hw
   · rename_i bs eb;exact⟨a,bs,by rw [ev],FE eb r▸hq,k _ _ _ hw (Same.refl _) rfl⟩
   · exact hw.elim
 · exact hw.elim) hg hm bt_all ha hs
def T3:w1:=fun x R=>match x with | .lst xs=>R (.tup xs) | .tup xs=>R (.tup xs) | _=>False
theorem Y8 (hg:∀z,Gl (F z) "tuple")(hm:∀z,(F z).mg "tuple"=none)(ha:QR T K F e pe)(hs:C9 e=true:=by rfl)(hK:∀z,(F z).K=K:=by intro _;rfl):QE T K F (.Call (.Name "tuple" p) [e] [] pos) (qUn T3 pe):=FD (fun z=>hK z▸Jh) (fun G H x v R Q hf rx hw k=>by
 unfold T3 at hw
 split at hw
 · obtain⟨a,vs,ev,hq,r⟩:=rx.lst;exact⟨a,vs,by rw [ev],.inl ⟨hq,fun l hl=>k _ _ _ hw (Same.lay1 hl) (Y4 (hf l hl) hl r)⟩⟩
 · obtain⟨a,vs,ev,t,r⟩:=rx.rep (fun _ z=>nomatch z);exact⟨a,vs,by rw [ev],.inr ⟨t.sq,k _ _ _ hw (Same.refl _) ⟨a,vs,rfl,t,r⟩⟩⟩
 · exact hw.elim) hg hm U4 ha hs
def Ah (pe:pE):pA:=fun env n R=>pe env n fun x env1 n1=>match x with | .lst xs=>R xs env1 n1 | .tup xs=>R xs env1 n1 | .scr ns=>R (ns.map PV.int) env1 n1 | _=>False
theorem De (hg:∀z,Gl (F z) "list")(hm:∀z,(F z).mg "list"=none)(ha:QR T K F e pe)(hs:C9 e=true:=by rfl)(hK:∀z,(F z).K=K:=by intro _;rfl):QN T K F (.Call (.Name "list" p) [e] [] pos) (Ah pe):=by
 obtain⟨t,h1,h2⟩:=ha;refine⟨_,fun z=>CJ (hK z▸Jg) (hg z) (hm z) Jy (C6 (h1 z) E9 (B2 hs)) (by decide) (by decide) (B2 hs),fun C G σ H env n R Q hK hT S hp k=>?_⟩;refine C_ h2 hK hT S hp fun x env1 n1 v H1 p1 S1 r1 f1=>?_;have rd:RdV K G H1 x v:=hK▸r1.rd S1;cases x with
 | lst xs =>
   obtain⟨a,vs,ev,hq,r⟩:=rd.lst;exact⟨a,vs,by rw [ev],.inl hq,fun l hl=>k _ _ _ _ _ _ p1 S1 f1 hl r⟩
 | tup xs =>
   obtain⟨a,vs,ev,hq,r⟩:=rd.tup;exact⟨a,vs,by rw [ev],.inr hq,fun l hl=>k _ _ _ _ _ _ p1 S1 f1 hl r⟩
 | scr ns =>
   obtain⟨a,ev,hq⟩:=Ag rd;exact⟨a,_,by rw [ev],.inl hq,fun l hl=>k _ _ _ _ _ _ p1 S1 f1 hl (Da ns)⟩
 | _=>exact p1.elim
theorem tyw (hg:Gl X x)(hm:X.mg x=none)(hv:F5 x=some (.type m))(hn:x≠"__name__":=by decide)(hd:(x == ("__debug__":Str))=false:=by decide):EW X (.Name x pos) (tC (.ty m)):=⟨Ix (v:=.ty m) hg hm hv rfl hn hd⟩
def tyP:PV->Option String
 | .non=>some "NoneType"
 | .bl _=>some "bool"
 | .int _=>some "int"
 | .str _=>some "str"
 | .tup _=>some "tuple"
 | .lst _=>some "list"
 | .dct _ _=>some "dict"
 | _=>none
def isT (t n:String):Bool:=t == n || (t == "bool" && n == "int")
def wIsi (n:String):w1:=fun x R=>match tyP x with | some t=>R (.bl (isT t n)) | none=>False
theorem JM (ht:t∈["NoneType","bool","int","str","tuple","list","dict"])(hn:n∈["bool","int","str","tuple","list"]):v4 K (.type t) (.type n)=some (isT t n):=by
 refine kit_of ?_;have:∀t∈["NoneType","bool","int","str","tuple","list","dict"],∀n∈["bool","int","str","tuple","list"],(if(N2 t == N2 n)=true then some true else if PySem.W.kitMeta n=true then(fastBuiltinMro t).map (·.contains (.type n)) else none)=some (isT t n):=by decide +kernel
 exact this t ht n hn
theorem M6 (hn:n∈["bool","int","str","tuple","list"])(hg:∀z,Gl (F z) "isinstance")(hm:∀z,(F z).mg "isinstance"=none)(ha:QE T K F a pa)(hb:∀z,EW (F z) b (tC (.ty n)))(hs:C9 a=true:=by rfl)(hs2:C9 b=true:=by rfl)(hK:∀z,(F z).K=K:=by intro _;rfl):QE T K F (.Call (.Name "isinstance" p) [a,b] [] pos) (qUn (wIsi n) pa):=by
 obtain⟨t,h1,h2⟩:=ha;refine⟨_,fun z=>Y0 (hK z▸Jq) (hg z) (hm z) Jx (C6 (h1 z) (C6 (hb z).h E9 (B2 hs2)) (B2 hs)) (by decide) (by decide) (B2 hs) (by rw [B2 hs2];rfl),fun C G σ H env n' R Q hK hT S hp k=>?_⟩;refine h2 C G σ H env n' _ _ hK hT S hp fun x env1 n1 v H1 p1 S1 r1 f1=>?_;unfold wIsi at p1
 have fin:∀t,TyOf K H1 v (.type t)->tyP x=some t->t∈["NoneType","bool","int","str","tuple","list","dict"]->∃x' n'' t' b',[v,V.ty n]=[x',.ty n'']/\TyOf K H1 x' t'/\v4 K t' (.type n'')=some b'/\Q (.bl b') H1:=by
   intro t ty e m;rw [e] at p1;exact⟨v,n,_,_,rfl,ty,JM m hn,k _ _ _ _ _ p1 S1 rfl f1⟩
 cases x with
 | non=>cases(show v=.non from r1);exact fin _ .non rfl (by decide)
 | bl b=>cases(show v=.bl b from r1);exact fin _ (.bl b) rfl (by decide)
 | int b=>cases(show v=.int b from r1);exact fin _ (.int b) rfl (by decide)
 | str b=>cases(show v=.str b from r1);exact fin _ (.str b) rfl (by decide)
 | tup xs=>obtain⟨a,vs,rfl,t,r⟩:=r1;exact fin _ (.tup t.2) rfl (by decide)
 | lst xs=>obtain⟨a,vs,rfl,t,r⟩:=r1;exact fin _ (.lst t.2) rfl (by decide)
 | dct ks xs=>obtain⟨a,kvs,rfl,_,t,r⟩:=r1;exact fin _ (.dK t) rfl (by decide)
 | ty n=>exact p1.elim
 | pot k=>exact p1.elim
 | fdt ks xs=>exact p1.elim
 | scr ns=>exact p1.elim
def wMin:w2:=fun x y R=>match x,y with | .int i,.int j=>R (.int (if j < i then j else i)) | _,_=>False
def wMax:w2:=fun x y R=>match x,y with | .int i,.int j=>R (.int (if j > i then j else i)) | _,_=>False
theorem FH (hw:W2 K (fun x y H Q=>r [x,y] H Q) w)(h:EOk K T t pa)(h':EOk K T u pb):EOk K T (tCB r (R7 t (R7 u tNil))) (qOp w pa pb):=fun C G σ H env n R Q hK hT S hp k=>by
 refine h C G σ H env n _ _ hK hT S hp fun x env1 n1 v H1 p1 S1 r1 f1=>?_;refine h' C G σ H1 env1 n1 _ _ hK hT S1 p1 fun y env2 n2 u H2 p2 S2 r2 f2=>?_;exact hw G H2 x y v u _ _ (fun p hp=>S2.fresh hp) (.inl (r1.fr f2)) (.inl r2) p2 fun z v' H' rz s rv=>k _ _ _ _ _ rz (S2.same s) rv ((f1.trans f2).trans (Fr.of s))
theorem Bu (hc:∀z,(F z).calm=true)(hg:∀z,Gl (F z) "min")(hm:∀z,(F z).mg "min"=none)(ha:QE T K F a pa)(hb:QE T K F b pb)(hs:C9 a=true:=by rfl)(hs2:C9 b=true:=by rfl):QE T K F (.Call (.Name "min" p) [a,b] [] pos) (qOp wMin pa pb):=by
 obtain⟨t,h1,h2⟩:=ha;obtain⟨u,h3,h4⟩:=hb;refine⟨_,fun z=>Y0 (IQ (hc z)) (hg z) (hm z) bt_min (C6 (h1 z) (C6 (h3 z) E9 (B2 hs2)) (B2 hs)) (by decide) (by decide) (B2 hs) (by rw [B2 hs2];rfl),FH (fun G H x y v u R Q hf rx ry hw k=>?_) h2 h4⟩;unfold wMin at hw
 split at hw
 · exact⟨_,_,by rw [rx.int,ry.int],k _ _ _ hw (Same.refl _) rfl⟩
 · exact hw.elim
theorem FI {p:Pos}(hc:∀z,(F z).calm=true)(hg:∀z,Gl (F z) "max")(hm:∀z,(F z).mg "max"=none)(ha:QE T K F a pa)(hb:QE T K F b pb)(hs:C9 a=true:=by rfl)(hs2:C9 b=true:=by rfl):QE T K F (.Call (.Name "max" p) [a,b] [] pos) (qOp wMax pa pb):=by
 obtain⟨t,h1,h2⟩:=ha;obtain⟨u,h3,h4⟩:=hb;refine⟨_,fun z=>Y0 (IP (hc z)) (hg z) (hm z) bt_max (C6 (h1 z) (C6 (h3 z) E9 (B2 hs2)) (B2 hs)) (by decide) (by decide) (B2 hs) (by rw [B2 hs2];rfl),FH (fun G H x y v u R Q hf rx ry hw k=>?_) h2 h4⟩;unfold wMax at hw
 split at hw
 · exact⟨_,_,by rw [rx.int,ry.int],k _ _ _ hw (Same.refl _) rfl⟩
 · exact hw.elim
def D3 (K:A3)(T:PotK)(f:pF):Sp:=fun vs H Q _=>∃(G:Gh) (xs:List PV) (n:Nat) (R:PV->Nat->Prop),(∀p∈G.pots,p∈G.M/\T.at_ G.M H p n)/\(∀a∈G.M,∃o,H a=some o/\MutO o)/\T.has G.pots/\Reps K G H xs vs/\f xs n R/\
 ∀r n' v H',R r n'->Rep K G H' r v->(∀p∈G.pots,T.at_ G.M H' p n')->(∀b o,b∉G.pots->H b=some o->H' b=some o)->Q v H'
def B4 (f:pF)(pa:pA):pE:=fun env n R=>pa env n fun xs env1 n1=>f xs n1 fun r n2=>R r env1 n2
theorem SR.call (S:SR C G σ H env n)(hk:∀b o,b∉G.pots->H b=some o->H' b=some o)(hp:∀p∈G.pots,C.T.at_ G.M H' p n'):SR C G σ H' env n' where
 frame b o hb e:=by
   by_cases hp:b∈G.pots
   · -- a pot that is new since the entry has no old object
     obtain⟨l,el,_⟩:=S.pre;rw [el] at hp;rcases E7.mp hp with z | z
     · exact absurd z hb
     · have hM:=(S.pots b (by rw [el];exact hp)).1;rcases S.sub b hM with z2 | z2
       · exact(S.newp b (by rw [el];exact hp) hb z2).elim
       · rw [z2] at e;cases e
   · exact hk b o hp (S.frame b o hb e)
 sub:=S.sub
 sup:=S.sup
 pots p h:=⟨(S.pots p h).1,hp p h⟩
 pre:=S.pre
 mu a ha:=by
   by_cases h:a∈G.pots
   · exact C.T.mu (hp a h)
   · obtain⟨o,e,m⟩:=S.mu a ha;exact⟨o,hk a o h e,m⟩
 slots i x e:=by
   have f:Fr G H H':=fun b o hb he=>hk b o (fun z=>hb (S.pots b z).1) he;have:=S.slots i x e;cases x with
   | v x =>
     obtain⟨v,e1,r⟩:=this;exact⟨v,e1,r.fr f⟩
   | ow kk xs =>
     obtain⟨a,vs,e1,h1,h2,h3,h4,r⟩:=this;exact⟨a,vs,e1,h1,h2,h3,hk _ _ h3 h4,r.fr f⟩
 inj:=S.inj
 p0:=S.p0
 len:=S.len
 newp:=S.newp
theorem qe_fn (hG:∀z,Kn (F z).prog (F z).w (F z).K (F z).mg (F z).base x k ps (D3 K T f))(hr:∀z,Room j (F z).A)(hk:k<=j)(hg:∀z,Gl (F z) x)(ha:QA T K F (e::es) pl)(hdb:(x == ("__debug__":Str))=false:=by decide)
   (hs:C9 e=true:=by rfl) (hpl:∀z,(backTo pos (C7 es (F z).env)).any (·.1)=false:=by intro _;rfl):QE T K F (.Call (.Name x p) (e::es) [] pos) (B4 f pl):=by
 obtain⟨t,h1,h2⟩:=ha;refine⟨_,fun z=>pe_fn (hG z) (hr z) hk (hg z) (h1 z) hdb (B2 hs) (hpl z),fun C G σ H env n R Q hK hT S hp k=>?_⟩;refine h2 C G σ H env n _ _ hK hT S hp fun xs env1 n1 vs H1 p1 S1 r1 f1=>?_;subst hT;rw [AX];refine⟨G,xs,n1,_,fun p hp=>S1.pots p hp,S1.mu,S1.hasG,r1,p1,fun r n' v H' rr rv hp hk'=>?_⟩;exact k _ _ _ _ _ rr (S1.call hk' hp) rv (f1.trans fun b o hb e=>hk' b o (fun z=>hb (S1.pots b z).1) e)
end
end Pu
end
section
namespace Pu
open PySem PySem.Spec L2
abbrev pG:=PV->Env->(Env->Prop)->Prop
abbrev pGs:=List PV->Env->(Env->Prop)->Prop
def GOk (K:A3)(g:TG)(pg:pG):Prop:=∀(C:Ct) (G:Gh) (σ:St) (H:Hp) (env:Env) (n:Nat) (x:PV) (v:V) (R:Env->Prop) (Q:St->Hp->Prop),C.K=K->SR C G σ H env n->Rep K G H x v->pg x env R->
 (∀env' σ',R env'->SR C G σ' H env' n->Q σ' H)->g v σ H Q
def GsOk (K:A3)(g:TGs)(pg:pGs):Prop:=∀(C:Ct) (G:Gh) (σ:St) (H:Hp) (env:Env) (n:Nat) (x:List PV) (v:List V) (R:Env->Prop) (Q:St->Hp->Prop),C.K=K->SR C G σ H env n->Reps K G H x v->pg x env R->
 (∀env' σ',R env'->SR C G σ' H env' n->Q σ' H)->g v σ H Q
def QG {ι:Type}(K:A3)(F:ι->Cx)(e:Expr)(pg:pG):Prop:=∃g,(∀z,PG (F z) e g)/\GOk K g pg
def QGs {ι:Type}(K:A3)(F:ι->Cx)(e:List Expr)(pg:pGs):Prop:=∃g,(∀z,PGs (F z) e g)/\GsOk K g pg
def gN (i:Nat):pG:=fun x env R=>R (env.set i (some (.v x)))
def gNl:pGs:=fun xs env R=>match xs with | []=>R env | _=>False
def gCn (g:pG)(r:pGs):pGs:=fun xs env R=>match xs with | x::xs=>g x env fun env1=>r xs env1 R | []=>False
def gTp (k:Nat)(g:pGs):pG:=fun x env R=>match x with | .tup xs=>xs.length=k/\g xs env R | _=>False
theorem SR.set (S:SR C G σ H env n)(i:Nat)(r:Rep C.K G H x v):SR C G (σ.set i (some v)) H (env.set i (some (.v x))) n where
 frame:=S.frame
 sub:=S.sub
 sup:=S.sup
 pots:=S.pots
 pre:=S.pre
 mu:=S.mu
 slots j s e:=by
   by_cases h:i=j
   · subst h
     by_cases hl:i < env.length
     · rw [J6 hl] at e;cases e;exact⟨v,by rw [J6 (by rw [<- S.len];exact hl)],r⟩
     · rw [Q8 (by rw [J0];omega)] at e;cases e
   · rw [L9 h] at e ⊢;exact S.slots j s e
 inj j k xs ys a e1 e2 e3 e4:=by
   have nj:∀(j:Nat) (xs:OK×List PV),(env.set i (some (.v x)))[j]?=some (some (Slot.ow xs.1 xs.2))->i≠j:=by
     intro j xs e h;subst h
     by_cases hl:i < env.length
     · rw [J6 hl] at e;cases e
     · rw [Q8 (by rw [J0];omega)] at e;cases e
   have n1:=nj j xs e1;have n2:=nj k ys e2;rw [L9 n1] at e1 e3;rw [L9 n2] at e2 e4;exact S.inj j k xs ys a e1 e2 e3 e4
 p0:=S.p0
 len:=by rw [J0,J0];exact S.len
 newp:=S.newp
section
variable {T:PotK}{ι:Type}{K:A3}{F:ι->Cx}{e a b c:Expr}{es rest:List Expr}{pe pa pb pc:pE}{pos:Pos}{pl pr:pA}{pg:pG}{pgs:pGs}{pt:pT}
theorem JN (i:Nat)(hN:X.N.Nodup)(hi:X.N[i]?=some x)(hx:Loc X.env.scope x)(hf:X.fn x=true\/X.env.scope.names.lookup x=some .local:=by first | exact .inl rfl | exact .inr rfl | assumption):GW X (.Name x pos) (N3 i):=⟨EE hN hi hx hf⟩
theorem JO (h:∀z,GW (F z) (.Name x pos) (N3 i)):QG K F (.Name x pos) (gN i):=⟨_,fun z=>(h z).h,fun C G σ H env n x v R Q hK S r hp k=>k _ _ hp (S.set i (hK▸r))⟩
theorem U5:QGs K F [] gNl:=⟨_,fun _=>EF,fun C G σ H env n x v R Q hK S r hp k=>by
 cases x with
 | nil=>exact⟨r,k _ _ hp S⟩
 | cons _ _=>exact hp.elim⟩
theorem F8 (h1:QG K F e pg)(h2:QGs K F es pgs)(hs:∀z,(K8 (e::es) (F z).env).map (·.2)=assign e (F z).env::(K8 es (F z).env).map (·.2):=by intro _;rfl):QGs K F (e::es) (gCn pg pgs):=by
 obtain⟨g,a1,a2⟩:=h1;obtain⟨gs,b1,b2⟩:=h2;refine⟨_,fun z=>Cz (a1 z) (b1 z) (hs z),fun C G σ H env n x v R Q hK S r hp k=>?_⟩;cases x with
 | nil=>exact hp.elim
 | cons x xs =>
   obtain⟨u,us,rfl,ru,rs⟩:=r;exact⟨u,us,rfl,a2 C G σ H env n x u _ _ hK S ru hp fun env' σ' re S'=>b2 C G σ' H env' n xs us _ _ hK S' rs re k⟩
theorem U6 (hc:∀z,(F z).calm=true)(h:QGs K F es pgs)(hn:∀z,(K8 es (F z).env).length=m:=by intro _;rfl)(hst:∀z,(K8 es (F z).env).findIdx? (·.1)=none:=by intro _;rfl)(hK:∀z,(F z).K=K:=by intro _;rfl):QG K F (.Tuple es k pos) (gTp m pgs):=by
 obtain⟨g,a1,a2⟩:=h;refine⟨_,fun z=>hK z▸EG (hc z) (a1 z) (hn z) (hst z),fun C G σ H env n x v R Q hK S r hp k=>?_⟩;cases x with
 | tup xs =>
   obtain⟨a,vs,rfl,t,rs⟩:=r;exact⟨a,vs,rfl,t.sq,by rw [<- rs.length];exact hp.1,a2 C G σ H env n xs vs _ _ hK S rs hp.2 k⟩
 | _=>exact hp.elim
def ItR (K:A3)(G:Gh)(H:Hp)(J:It)(xs:List PV):Prop:=∀(G2:Gh) (H2:Hp),(∀b o,b∉G.M->H b=some o->H2 b=some o)->(∀a∈G2.M,a∈G.M\/H a=none)->(∀(k:Nat) (p:Addr),G.pots[k]?=some p->G2.pots[k]?=some p)->(∀p,H2 p=none->p∉G2.M)->
 (∀(i:Nat) x,xs[i]?=some x->J.go i H2/\∀v H3,J.yld i H2 v H3->Same H2 H3/\Rep K G2 H3 x v)/\∀i,xs.length<=i->J.stop i H2
def IOk (K:A3)(T:PotK)(wi:TI)(pi:pA):Prop:=∀(C:Ct) (G:Gh) (σ:St) (H:Hp) (env:Env) (n:Nat) (R:List PV->Env->Nat->Prop) (Q:It->Hp->Prop),C.K=K->C.T=T->SR C G σ H env n->pi env n R->
 (∀xs env' n' J H',R xs env' n'->SR C G σ H' env' n'->Fr G H H'->ItR K G H' J xs->Q J H')->wi σ H Q
def QI {ι:Type}(T:PotK)(K:A3)(F:ι->Cx)(tg iter:Expr)(pi:pA):Prop:=∃wi,(∀z,PI (F z) tg iter wi)/\IOk K T wi pi
variable {tg:Expr}
theorem JP {a:Addr}(t:AtL G.M H a vs)(r:Reps K G H xs vs):ItR K G H (Itl K a) xs:=by
 intro G2 H2 hk hM hp hf;have hq:SqL K H2 a vs:=SqL.of (hk a _ t.1 t.2);have r2:Reps K G2 H2 xs vs:=Reps.mono hk hM hp _ _ r;refine⟨fun i x e=>?_,fun i hi=>⟨vs,hq,by rw [<- r.length];exact hi⟩⟩;obtain⟨v,ev,rv⟩:=r2.get' e;refine⟨⟨vs,v,hq,ev⟩,fun v' H3 y=>?_⟩;obtain⟨e3,y⟩:=y;subst e3;have:=y vs hq;rw [ev] at this;cases this;exact⟨Same.refl _,rv⟩
theorem JQ {a:Addr}(t:AtT G.M H a vs)(r:Reps K G H xs vs):ItR K G H (Itt K a) xs:=by
 intro G2 H2 hk hM hp hf;have hq:SqT K H2 a vs:=SqT.of (hk a _ t.1 t.2);have r2:Reps K G2 H2 xs vs:=Reps.mono hk hM hp _ _ r;refine⟨fun i x e=>?_,fun i hi=>⟨vs,hq,by rw [<- r.length];exact hi⟩⟩;obtain⟨v,ev,rv⟩:=r2.get' e;refine⟨⟨vs,v,hq,ev⟩,fun v' H3 y=>?_⟩;obtain⟨e3,y⟩:=y;subst e3;have:=y vs hq;rw [ev] at this;cases this;exact⟨Same.refl _,rv⟩
def qIl (pe:pE):pA:=fun env n R=>pe env n fun x env1 n1=>match x with | .lst xs=>R xs env1 n1 | _=>False
def qIt (pe:pE):pA:=fun env n R=>pe env n fun x env1 n1=>match x with | .tup xs=>R xs env1 n1 | _=>False
theorem Df (h:QE T K F e pe)(hK:∀z,(F z).K=K:=by intro _;rfl):QI T K F tg e (qIl pe):=by
 obtain⟨t,h1,h2⟩:=h;refine⟨_,fun z=>hK z▸EH (h1 z),fun C G σ H env n R Q hK hT S hp k=>?_⟩;refine h2 C G σ H env n _ _ hK hT S hp fun x env1 n1 v H1 p1 S1 r1 f1=>?_;cases x with
 | lst xs =>
   obtain⟨a,vs,rfl,t,r⟩:=r1;exact⟨a,rfl,⟨vs,t.sq⟩,k _ _ _ _ _ p1 S1 f1 (JP t r)⟩
 | _=>exact p1.elim
theorem W0 (h:QE T K F e pe)(hK:∀z,(F z).K=K:=by intro _;rfl):QI T K F tg e (qIt pe):=by
 obtain⟨t,h1,h2⟩:=h;refine⟨_,fun z=>hK z▸pi_tup (h1 z),fun C G σ H env n R Q hK hT S hp k=>?_⟩;refine h2 C G σ H env n _ _ hK hT S hp fun x env1 n1 v H1 p1 S1 r1 f1=>?_;cases x with
 | tup xs =>
   obtain⟨a,vs,rfl,t,r⟩:=r1;exact⟨a,rfl,⟨vs,t.sq⟩,k _ _ _ _ _ p1 S1 f1 (JQ t r)⟩
 | _=>exact p1.elim
theorem FJ (lo:Int)(m:Nat):ItR K G H (Itr lo m) ((C2 m).map fun(k:Nat)=>PV.int (lo + k)):=by
 intro G2 H2 hk hM hp hf;refine⟨fun i x e=>?_,fun i hi=>(show m<=i by simpa using hi)⟩;rw [G6] at e;cases e1:(C2 m)[i]? with
 | none=>rw [e1] at e;cases e
 | some j =>
   rw [e1] at e;cases e;obtain⟨hi,e2⟩:=C5.mp e1;rw [List.getElem_range] at e2;subst e2;refine⟨(show i < m by simpa using hi),fun v H3 y=>?_⟩;obtain⟨e3,y⟩:=y;subst e3 y;exact⟨Same.refl _,rfl⟩
def d9 (pe:pE):pA:=fun env n R=>pe env n fun x env1 n1=>match x with | .int j=>(-1000000<=j/\j<=1000000)/\R ((C2 j.toNat).map fun(k:Nat)=>PV.int (0 + k)) env1 n1 | _=>False
theorem Ai (hg:∀z,Gl (F z) "range")(hm:∀z,(F z).mg "range"=none)(h:QE T K F e pe)(hs:C9 e=true:=by rfl):QI T K F tg (.Call (.Name "range" p) [e] [] pos) (d9 pe):=by
 obtain⟨t,h1,h2⟩:=h;refine⟨_,fun z=>IE (hg z) (hm z) (C6 (h1 z) E9 (B2 hs)) (by rw [B2 hs];rfl),fun C G σ H env n R Q hK hT S hp k=>?_⟩;refine C_ (pe:=pe) (fun C G σ H env n R Q hK hT S hp k=>h2 C G σ H env n R Q hK hT S hp fun x env' n' v H' r S' rp f=>k x env' n' v H' r S' (.inl (hK▸rp)) f) hK hT S hp fun x env1 n1 v H1 p1 S1 r1 f1=>?_;cases x with
 | int j=>exact⟨j,by rw [(r1.rd S1).int],by omega,by omega,k _ _ _ _ _ p1.2 S1 f1 (FJ 0 _)⟩
 | _=>exact p1.elim
def Bv (pa pb:pE):pA:=fun env n R=>pa env n fun x env1 n1=>pb env1 n1 fun y env2 n2=>match x,y with | .int i,.int j=>(-1000000<=i/\i<=1000000/\-1000000<=j/\j<=1000000)/\R ((C2 (j - i).toNat).map fun(k:Nat)=>PV.int (i + k)) env2 n2 | _,_=>False
theorem FK {p:Pos}(hg:∀z,Gl (F z) "range")(hm:∀z,(F z).mg "range"=none)(ha:QE T K F a pa)(hb:QE T K F b pb)(hs:C9 a=true:=by rfl)(hs2:C9 b=true:=by rfl):QI T K F tg (.Call (.Name "range" p) [a,b] [] pos) (Bv pa pb):=by
 obtain⟨t,h1,h2⟩:=ha;obtain⟨u,h3,h4⟩:=hb;refine⟨_,fun z=>IF (hg z) (hm z) (C6 (h1 z) (C6 (h3 z) E9 (B2 hs2)) (B2 hs)) (by rw [B2 hs,B2 hs2];rfl) (by rw [B2 hs2];rfl),fun C G σ H env n R Q hK hT S hp k=>?_⟩;refine h2 C G σ H env n _ _ hK hT S hp fun x env1 n1 v H1 p1 S1 r1 f1=>?_;refine h4 C G σ H1 env1 n1 _ _ hK hT S1 p1 fun y env2 n2 w H2 p2 S2 r2 f2=>?_;cases x with
 | int i =>
   cases y with
   | int j=>exact⟨i,j,by rw [show v=.int i from r1,show w=.int j from r2],⟨by omega,by omega,by omega,by omega⟩,k _ _ _ _ _ p2.2 S2 (f1.trans f2) (FJ i _)⟩
   | _=>exact p2.elim
 | _=>exact p2.elim
def qIs (pe:pE):pA:=fun env n R=>pe env n fun x env1 n1=>match x with | .str z=>z.cps.all (· < 128)=true/\R (z.cps.toList.map fun c=>.str ⟨#[c]⟩) env1 n1 | _=>False
theorem qi_str (h:QE T K F e pe):QI T K F tg e (qIs pe):=by
 obtain⟨t,h1,h2⟩:=h;refine⟨_,fun z=>pi_str (h1 z),fun C G σ H env n R Q hK hT S hp k=>?_⟩;refine h2 C G σ H env n _ _ hK hT S hp fun x env1 n1 v H1 p1 S1 r1 f1=>?_;cases x with
 | str z =>
   refine⟨z,r1,p1.1,k _ _ _ _ _ p1.2 S1 f1 ?_⟩;intro G2 H2 hk hM hp hf;refine⟨fun i x e=>?_,fun i hi=>(show z.cps.toList.length<=i by simpa using hi)⟩;rw [G6] at e;cases e1:z.cps.toList[i]? with
   | none=>rw [e1] at e;cases e
   | some c =>
     rw [e1] at e;cases e;obtain⟨hi,_⟩:=C5.mp e1;refine⟨hi,fun v H3 y=>?_⟩;obtain⟨e3,c',ec,ev⟩:=y;subst e3 ev;rw [e1] at ec;cases ec;exact⟨Same.refl _,rfl⟩
 | _=>exact p1.elim
def Y9 (xs:List PV):List PV:=xs.zipIdx.map fun y=>.tup [.int (y.2:Nat),y.1]
def Bw (pe:pE):pA:=fun env n R=>pe env n fun x env1 n1=>match x with | .lst xs=>R (Y9 xs) env1 n1 | _=>False
theorem Bx {xs:List PV}{i:Nat}{x:PV}(h:(Y9 xs)[i]?=some x):∃y,xs[i]?=some y/\x=.tup [.int (i:Nat),y]:=by
 unfold Y9 at h;rw [G6,List.getElem?_zipIdx] at h;cases e:xs[i]? with
 | none=>rw [e] at h;cases h
 | some y =>
   rw [e] at h;cases h;exact⟨y,rfl,by simp⟩
theorem Aj (xs:List PV):(Y9 xs).length=xs.length:=by unfold Y9;simp
theorem FL {p:Pos}{elts:List Expr}{x1:Nat}{tpos:Pos}(hg:∀z,Gl (F z) "enumerate")(hm:∀z,(F z).mg "enumerate"=none)(h:QE T K F e pe)(hs:C9 e=true:=by rfl)(hK:∀z,(F z).K=K:=by intro _;rfl):QI T K F (.Tuple elts x1 tpos) (.Call (.Name "enumerate" p) [e] [] pos) (Bw pe):=by
 obtain⟨t,h1,h2⟩:=h;refine⟨_,fun z=>hK z▸Jw (hg z) (hm z) (C6 (h1 z) E9 (B2 hs)) (by rw [B2 hs];rfl),fun C G σ H env n R Q hK hT S hp k=>?_⟩;refine h2 C G σ H env n _ _ hK hT S hp fun x env1 n1 v H1 p1 S1 r1 f1=>?_;cases x with
 | lst xs =>
   obtain⟨a,vs,rfl,t,r⟩:=r1;refine⟨a,rfl,⟨vs,t.sq⟩,k _ _ _ _ _ p1 S1 f1 ?_⟩;intro G2 H2 hk hM hp hf;have hq:SqL K H2 a vs:=SqL.of (hk a _ t.1 t.2);have r2:Reps K G2 H2 xs vs:=Reps.mono hk hM hp _ _ r;refine⟨fun i x e=>?_,fun i hi=>⟨vs,hq,by rw [<- r.length,<- Aj];exact hi⟩⟩;obtain⟨y,ey,rfl⟩:=Bx e;obtain⟨v,ev,rv⟩:=r2.get' ey;refine⟨⟨vs,v,hq,ev⟩,fun v' H3 y=>?_⟩;obtain⟨p,w,hn,rfl,rfl,y⟩:=y;have:=y vs hq;rw [ev] at this;cases this;exact⟨Same.lay1 hn,Y4 (hf p hn) hn (.cons rfl (.one rv))⟩
 | _=>exact p1.elim
def capS:Option (Option Slot)->Option Slot
 | some (some (.v x))=>some (.v x)
 | _=>none
def capV (cs:List (Option Nat))(env:Env):Env:=cs.map fun o=>o.bind fun j=>capS (env[j]?)
def Q3 (g:pG)(tt:pT)(te:pE):List PV->Env->Nat->(List PV->Nat->Prop)->Prop
 | [],_,n,R=>R [] n
 | x::xs,env,n,R=>g x env fun env1=>tt env1 n fun b env2 n2=>if b=true then te env2 n2 fun y env3 n3=>Q3 g tt te xs env3 n3 fun ys n4=>R (y::ys) n4 else Q3 g tt te xs env2 n2 R
def qTru:pT:=fun env n R=>R true env n
def P0 (cs:List (Option Nat))(pi:pA)(g:pG)(tt:pT)(te:pE):pA:=fun env n R=>pi env n fun xs env1 n1=>xs.length<=1000000/\Q3 g tt te xs (capV cs env1) n1 fun ys n2=>R ys env1 n2
structure Inn (K:A3)(T:PotK)(G:Gh)(σ:St)(H:Hp)(env:Env)(n:Nat):Prop where
 pots:∀p∈G.pots,p∈G.M/\T.at_ G.M H p n
 has:T.has G.pots
 mu:∀a∈G.M,∃o,H a=some o/\MutO o
 slots:∀(i:Nat) (s:Slot),env[i]?=some (some s)->∃x v,s=.v x/\σ[i]?=some (some v)/\Rep K G H x v
 len:env.length=σ.length
theorem Inn.sr (I:Inn K T G σ H env n):SR ⟨K,T,G.M,G.pots,H,false⟩ G σ H env n where
 frame b o _ e:=e
 sub a ha:=.inl ha
 sup a ha:=ha
 pots:=I.pots
 pre:=⟨[],by simp,.inl rfl⟩
 mu:=I.mu
 slots i s e:=by
   obtain⟨x,v,rfl,ev,r⟩:=I.slots i s e;exact⟨v,ev,r⟩
 inj i j xs ys a e1:=by
   obtain⟨x,v,z,_⟩:=I.slots i _ e1;cases z
 p0:=⟨fun p hp=>(I.pots p hp).1,I.has⟩
 len:=I.len
 newp p hp hn:=absurd hp hn
theorem SR.inn (S:SR ⟨K,T,G.M,G.pots,H0,false⟩ G σ H env n):Inn K T G σ H env n where
 pots:=S.pots
 has:=S.hasG
 mu:=S.mu
 slots i s e:=by
   cases s with
   | v x =>
     obtain⟨v,ev,r⟩:=S.slots i _ e;exact⟨x,v,rfl,ev,r⟩
   | ow kk xs =>
     obtain⟨a,vs,ev,h1,h2,_⟩:=S.slots i _ e;exact absurd h1 h2
 len:=S.len
theorem JR:TOk K T tTru qTru:=fun C G σ H env n R Q hK hT S hp k=>k _ _ _ _ hp S Fr.refl
theorem Dg {K:A3}{T:PotK}{J:It}{g:TG}{tt:TT}{te:TE}{pg:pG}{ptt:pT}{pte:pE}(hg:GOk K g pg)(ht:TOk K T tt ptt)(he:EOk K T te pte){G:Gh}{H1:Hp}{xs:List PV}(hJ:ItR K G H1 J xs)(hl:xs.length<=1000000)
   {σc:St} {env:Env} {n:Nat} {R:List PV->Nat->Prop} {Q:VK} {D:Addr} (hD:H1 D=none) (I0:Inn K T G σc H1 env n) (hp:Q3 pg ptt pte xs env n R)
   (hQ:∀ys n' us H',R ys n'->(∀p∈G.pots,T.at_ (D::G.M) H' p n')->(∀b o,b∉G.pots->H1 b=some o->H' b=some o)->H' D=some (.lst us)->Reps K ⟨D::G.M,G.pots⟩ H' ys us->Q (.ref D) H') :
   CompW J g tt te Q D σc (upd H1 D (.lst [])):=by
 have hDM:D∉G.M:=fun z=>by
   obtain⟨o,e,_⟩:=I0.mu D z;rw [hD] at e;cases e
 let GD:Gh:=⟨D::G.M,G.pots⟩
 refine⟨fun i m σ H=>m=xs.length - i/\i<=xs.length/\∃env n acc us,Inn K T GD σ H env n/\(∀b o,b∉G.pots->H1 b=some o->H b=some o)/\H D=some (.lst us)/\Reps K GD H acc us/\acc.length<=i/\Q3 pg ptt pte (xs.drop i) env n fun ys n'=>R (acc++ys) n',?_,?_⟩
 · refine⟨xs.length,by simp,O7 _,env,n,[],[],⟨fun p hp=>⟨D0 _ (I0.pots p hp).1,?_⟩,I0.has,fun a ha=>?_,fun i s e=>?_,I0.len⟩,fun b o _ e=>?_,E4,rfl,A8 _,by simpa using hp⟩
   · have h1:=T.more (M':=D::G.M) (I0.pots p hp).2 (fun a ha=>(C0.mp ha).elim (fun z=>.inr (z▸hD)) .inl);refine T.keep h1 ?_ fun b o hb e=>Same.lay1 hD b o e;obtain⟨o,e,_⟩:=T.mu h1;rw [e,Same.lay1 hD p o e]
   · rcases C0.mp ha with rfl | ha
     · exact⟨_,E4,trivial⟩
     · obtain⟨o,e,m⟩:=I0.mu a ha;exact⟨o,Same.lay1 hD a o e,m⟩
   · obtain⟨x,v,rfl,ev,r⟩:=I0.slots i s e;exact⟨x,v,rfl,ev,Rep.mono (G':=GD) (H':=upd H1 D (.lst [])) (fun b o _ e=>Same.lay1 hD b o e) (fun a ha=>(C0.mp (show a∈D::G.M from ha)).elim (fun z=>.inr (z▸hD)) .inl) (fun _ _ e=>e) _ _ r⟩
   · exact Same.lay1 hD b o e
 · rintro i m σ H ⟨rfl,hi,env,n,acc,us,I,kp,eD,ra,la,hc⟩
   have hf:∀p,H p=none->p∉GD.M:=fun p hp z=>by
     obtain⟨o,e,_⟩:=I.mu p z;rw [hp] at e;cases e
   have hk:∀b o,b∉G.M->H1 b=some o->H b=some o:=fun b o hb e=>kp b o (fun z=>hb (I0.pots b z).1) e;obtain⟨hgo,hstop⟩:=hJ GD H hk (fun a ha=>(C0.mp (show a∈D::G.M from ha)).elim (fun z=>.inr (z▸hD)) .inl) (fun _ _ e=>e) hf
   by_cases hlt:i < xs.length
   · have ex:xs[i]?=some xs[i]:=C4 hlt;obtain⟨g1,g2⟩:=hgo i _ ex;refine .inr ⟨g1,fun v H2 y=>?_⟩;obtain⟨s2,rv⟩:=g2 v H2 y;rw [Z9 hlt] at hc;have S0:=I.sr;have S1:SR ⟨K,T,GD.M,GD.pots,H,false⟩ GD σ H2 env n:=S0.same s2;refine hg _ GD σ H2 env n xs[i] v _ _ rfl S1 rv hc fun env1 σ1 hc1 S2=>?_;refine ht _ GD σ1 H2 env1 n _ _ rfl rfl S2 hc1 fun b env2 n2 H4 hc2 S4 f4=>?_
     have pt:∀{H5:Hp} {env5:Env} {n5:Nat},SR ⟨K,T,GD.M,GD.pots,H,false⟩ GD σ1 H5 env5 n5->(∀b o,b∉G.pots->H1 b=some o->H5 b=some o)/\H5 D=some (.lst us):=fun S5=>by
       have nD:D∉G.pots:=fun z=>hDM (I0.pots D z).1;exact⟨fun b o hb e=>S5.frame b o hb (kp b o hb e),S5.frame D _ nD eD⟩
     cases b with
     | false =>
       obtain⟨k1,k2⟩:=pt S4;refine⟨xs.length - (i + 1),by omega,rfl,hlt,env2,n2,acc,us,S4.inn,k1,k2,?_,by omega,hc2⟩;exact Reps.mono (fun b o hb e=>S4.frame b o (fun z=>hb (D0 _ (I0.pots b z).1)) e) (fun a ha=>.inl ha) (fun _ _ e=>e) _ _ ra
     | true =>
       refine he _ GD σ1 H4 env2 n2 _ _ rfl rfl S4 hc2 fun y env3 n3 u H5 hc3 S5 r5 f5=>?_;obtain⟨k1,k2⟩:=pt S5;have ra5:Reps K GD H5 acc us:=Reps.mono (fun b o hb e=>S5.frame b o (fun z=>hb (D0 _ (I0.pots b z).1)) e) (fun a ha=>.inl ha) (fun _ _ e=>e) _ _ ra
       have fD:∀(o:HO),Fr GD H5 (upd H5 D o):=fun o b u hb e=>by
         rw [B3 (fun z=>hb (by rw [z];exact F4))];exact e
       have I5:=S5.inn;refine⟨us,k2,?_,xs.length - (i + 1),by omega,rfl,hlt,env3,n3,acc++[y],us++[u],⟨fun p hp=>⟨(I5.pots p hp).1,?_⟩,I5.has,fun a ha=>?_,fun j s e=>?_,I5.len⟩,fun b o hb e=>?_,E4,(ra5.append (.one r5)).fr (fD _),by rw [E3,b3];omega,?_⟩
       · have:=ra.length;rw [<- this];exact mil' (by omega)
       · have np:p≠D:=fun z=>hDM (by rw [<- z];exact(I0.pots p hp).1);exact T.keep (I5.pots p hp).2 (B3 np) fun b o hb e=>fD _ b o hb e
       · by_cases haD:a=D
         · subst haD;exact⟨_,E4,trivial⟩
         · obtain⟨o,e,m⟩:=I5.mu a ha;exact⟨o,by rw [B3 haD];exact e,m⟩
       · obtain⟨x,v,rfl,ev,r⟩:=I5.slots j s e;exact⟨x,v,rfl,ev,r.fr (fD _)⟩
       · have nb:b≠D:=fun z=>by rw [z,hD] at e;cases e
         rw [B3 nb];exact k1 b o hb e
       · simpa [x6] using hc3
   · have ei:i=xs.length:=by omega
     subst ei;refine .inl ⟨hstop _ (A8 _),?_⟩;rw [j9] at hc;exact hQ _ n us H (by simpa [Q3] using hc) (fun p hp=>(I.pots p hp).2) kp eD ra
end
end Pu
end
section
namespace Pu
open PySem PySem.Spec L2
section
variable {T:PotK}{ι:Type}{K:A3}{F:ι->Cx}{e a b c:Expr}{es rest:List Expr}{pe pa pb pc:pE}{pos:Pos}{pl pr:pA}{pg:pG}{pgs:pGs}{pt:pT}
def QIf {ι:Type}(T:PotK)(K:A3)(F:ι->Cx)(ifs:List Expr)(pt:pT):Prop:=∃t,(∀z,PIf (F z) ifs t)/\TOk K T t pt
theorem Z0:QIf T K F [] qTru:=⟨_,fun _=>Jo,JR⟩
theorem FM (h:QT T K F c pt):QIf T K F [c] pt:=let ⟨t,h1,h2⟩:=h;⟨t,fun z=>Jp (h1 z),h2⟩
theorem By {C:Ct}{G:Gh}{σ:St}{H:Hp}{env:Env}{n:Nat}(S:SR C G σ H env n)(cs:List (Option Nat)):Inn C.K C.T G (d8 cs σ) H (capV cs env) n where
 pots:=S.pots
 has:=S.hasG
 mu:=S.mu
 len:=by simp [capV,d8]
 slots i s e:=by
   unfold capV at e;rw [G6] at e;cases ec:cs[i]? with
   | none=>rw [ec] at e;cases e
   | some o =>
     rw [ec] at e;cases o with
     | none=>cases e
     | some j =>
       have e':capS (env[j]?)=some s:=by simpa using e
       unfold capS at e'
       split at e'
       · rename_i x ex;cases e';obtain⟨v,ev,r⟩:=S.slots j _ ex;refine⟨x,v,rfl,?_,r⟩;unfold d8;rw [G6,ec];simp [ev]
       · cases e'
def cutH (H:Hp)(D:Addr):Hp:=fun b=>if b=D then none else H b
theorem L5 {H:Hp}{D b:Addr}(h:b≠D):cutH H D b=H b:=if_neg h
theorem Bz {H:Hp}{D:Addr}{o:HO}(h:H D=some o):upd (cutH H D) D o=H:=by
 funext b
 by_cases hb:b=D
 · subst hb;rw [E4,h]
 · rw [B3 hb,L5 hb]
theorem e6 {scope:Scope}{cl:ι->List (Str×Addr)}{N:List Str}{cs:List (Option Nat)}{elt tg iter:Expr}{ifs:List Expr}{pi:pA}{ptt:pT}{pte:pE}(S:∀z,Y2 (F z) scope (cl z) N cs)(hc:∀z,(F z).calm=true)(hi:QI T K F tg iter pi)
   (hg:QG K (fun y:ι×List Addr×Addr×Shared×Hp=>B7 (F y.1) scope (cl y.1) N y.2.1 y.2.2.1 y.2.2.2.1 y.2.2.2.2) tg pg) (ht:QIf T K (fun y:ι×List Addr×Addr×Shared×Hp=>B7 (F y.1) scope (cl y.1) N y.2.1 y.2.2.1 y.2.2.2.1 y.2.2.2.2) ifs ptt)
   (he:QE T K (fun y:ι×List Addr×Addr×Shared×Hp=>B7 (F y.1) scope (cl y.1) N y.2.1 y.2.2.1 y.2.2.2.1 y.2.2.2.2) elt pte)
   (hs:∀z x,N9 iter (F z).env x=pure x:=by intro _ _;rfl):QN T K F (.ListComp elt [⟨tg,iter,ifs,0⟩] scope pos) (P0 cs pi pg ptt pte):=by
 obtain⟨wi,i1,i2⟩:=hi;obtain⟨g,hg0,hg⟩:=hg;obtain⟨tt,ht0,ht⟩:=ht;obtain⟨te,he0,he⟩:=he;refine⟨_,fun z=>Fi (S z) (hc z) (i1 z) (fun fp C s H=>⟨hg0 (z,fp,C,s,H),ht0 (z,fp,C,s,H),he0 (z,fp,C,s,H)⟩) (hs z),fun C G σ H env n R Q hK hT S hp k=>?_⟩;refine i2 C G σ H env n _ _ hK hT S hp fun xs env1 n1 J H1 p1 S1 f1 hJ=>?_;intro D hD;have hDM:=S1.fresh hD;refine Dg (G:=G) hg ht he hJ p1.1 hD (hT▸hK▸By S1 cs) p1.2 fun ys n2 us H' rr hpots hk eD ry=>?_
 -- the heap without D
 have nD:∀b o,H1 b=some o->b≠D:=fun b o e z=>by rw [z,hD] at e;cases e
 have hD0:C.H0 D=none:=by
   cases z:C.H0 D with
   | none=>rfl
   | some o =>
     by_cases hp:D∈C.pots0
     · exact absurd (S1.sup D (S1.p0.1 D hp)) hDM
     · have:=S1.frame D o hp z;rw [hD] at this;cases this
 have hk2:∀b o,b∉G.pots->H1 b=some o->cutH H' D b=some o:=fun b o hb e=>by rw [L5 (nD b o e)];exact hk b o hb e
 have nc:∀b,b∉D::G.M->b≠D:=fun b hb z=>hb (by rw [z];exact F4);have np:∀p∈G.pots,p≠D:=fun p hp z=>hDM (z▸(S1.pots p hp).1)
 have Sb:SR C G σ (cutH H' D) env1 n2:=S1.call hk2 fun p hp=>by
   subst hT;have h2:=C.T.keep (hpots p hp) (H':=cutH H' D) (L5 (np p hp)) fun b o hb e=>by rw [L5 (nc b hb)];exact e
   exact C.T.more h2 fun a ha=>.inl (D0 _ ha)
 have:=k ys env1 n2 D us (cutH H' D) rr Sb (f1.trans fun b o hb e=>hk2 b o (fun z=>hb (S1.pots b z).1) e) (by unfold cutH;rw [if_pos rfl]) ?_
 · rw [Bz eD] at this;exact this
 · exact Reps.mono (G:=⟨D::G.M,G.pots⟩) (fun b o hb e=>by rw [L5 (nc b hb)];exact e) (fun a ha=>.inl (D0 _ ha)) (fun _ _ e=>e) _ _ ry
end
end Pu
end
section
namespace Pu
open PySem PySem.Spec L2
structure Q4 where
 nx:Env->Nat->Prop
 rt:PV->Nat->Prop
 bk:Env->Nat->Prop:=fun _ _=>False
 ct:Env->Nat->Prop:=fun _ _=>False
abbrev pS:=Q4->Env->Nat->Prop
structure Ext (G:Gh)(H:Hp)(G':Gh)(H':Hp):Prop where
 keep:∀b o,b∉G.M->H b=some o->H' b=some o
 new:∀a∈G'.M,a∈G.M\/H a=none
 pot:∀(k:Nat) (p:Addr),G.pots[k]?=some p->G'.pots[k]?=some p
theorem Ext.refl:Ext G H G H:=⟨fun _ _ _ e=>e,fun _ h=>.inl h,fun _ _ e=>e⟩
theorem Ext.fr (f:Fr G H H'):Ext G H G H':=⟨f,fun _ h=>.inl h,fun _ _ e=>e⟩
theorem Ext.trans (a:Ext G H G1 H1)(b:Ext G1 H1 G2 H2):Ext G H G2 H2 where
 keep c o hc e:=b.keep c o (fun z=>(a.new c z).elim hc fun z=>by rw [z] at e;cases e) (a.keep c o hc e)
 new c hc:=(b.new c hc).elim (fun z=>a.new c z) fun z=>by
   by_cases hM:c∈G.M
   · exact .inl hM
   · refine .inr ?_;cases e:H c with
     | none=>rfl
     | some o=>rw [a.keep c o hM e] at z;cases z
 pot k p e:=b.pot k p (a.pot k p e)
structure Link (C:Ct)(G:Gh)(H:Hp)(PD:Q4)(D:Ends):Prop where
 nx:∀env n G' σ H',PD.nx env n->SR C G' σ H' env n->Ext G H G' H'->D.nx σ H'
 rt:∀x n v G' σ H' env,PD.rt x n->SR C G' σ H' env n->Rep C.K ⟨C.M0,G'.pots⟩ H' x v->Ext G H G' H'->D.rt v H'
 bk:∀env n G' σ H',PD.bk env n->SR C G' σ H' env n->Ext G H G' H'->D.bk σ H'
 ct:∀env n G' σ H',PD.ct env n->SR C G' σ H' env n->Ext G H G' H'->D.ct σ H'
theorem Link.ext (L:Link C G H PD D)(x:Ext G H G' H'):Link C G' H' PD D:=
 ⟨fun env n G2 σ H2 p S e=>L.nx env n G2 σ H2 p S (x.trans e),fun y n v G2 σ H2 env p S r e=>L.rt y n v G2 σ H2 env p S r (x.trans e),fun env n G2 σ H2 p S e=>L.bk env n G2 σ H2 p S (x.trans e),fun env n G2 σ H2 p S e=>L.ct env n G2 σ H2 p S (x.trans e)⟩
def SOk (K:A3)(T:PotK)(np:Bool)(t:TS)(ps:pS):Prop:=∀(C:Ct) (G:Gh) (σ:St) (H:Hp) (env:Env) (n:Nat) (PD:Q4) (D:Ends),C.K=K->C.T=T->C.np=np->SR C G σ H env n->ps PD env n->Link C G H PD D->t D σ H
def QS {ι:Type}(T:PotK)(np:Bool)(K:A3)(F:ι->Cx)(st:Stmt)(ps:pS):Prop:=∃t,(∀z,PS (F z) st t)/\SOk K T np t ps
def QSs {ι:Type}(T:PotK)(np:Bool)(K:A3)(F:ι->Cx)(st:List Stmt)(ps:pS):Prop:=∃t,(∀z,PSs (F z) st t)/\SOk K T np t ps
theorem SR.out (S:SR C G σ H env n)(r:Rep C.K G H x v):Rep C.K ⟨C.M0,G.pots⟩ H x v:=
 Rep.mono (G':=⟨C.M0,G.pots⟩) (fun _ _ _ e=>e) (fun a ha=>.inl (S.sup a ha)) (fun _ _ e=>e) _ _ r
theorem SR.old (S:SR C G σ H env n)(h:H a=none):C.H0 a=none:=by
 cases z:C.H0 a with
 | none=>rfl
 | some o =>
   by_cases hp:a∈C.pots0
   · exact absurd (S.sup a (S.p0.1 a hp)) (S.fresh h)
   · have:=S.frame a o hp z;rw [h] at this;cases this
theorem SR.moreO (S:SR C G σ H env n)(mo:MutO ob)(h:H a=none):SR C ⟨a::G.M,G.pots⟩ σ (upd H a ob) env n where
 frame b o hb e:=Same.lay1 h b o (S.frame b o hb e)
 sub b hb:=(C0.mp hb).elim (fun z=>.inr (z▸S.old h)) (S.sub b)
 sup b hb:=D0 _ (S.sup b hb)
 pots p hp:=⟨D0 _ (S.pots p hp).1,by
   have h1:=C.T.more (M':=a::G.M) (S.pots p hp).2 (fun c hc=>(C0.mp hc).elim (fun z=>.inr (z▸h)) .inl);obtain⟨o,e,_⟩:=C.T.mu h1
   exact C.T.keep h1 (by rw [e,Same.lay1 h p o e]) fun b o _ e=>Same.lay1 h b o e⟩
 pre:=S.pre
 mu b hb:=by
   rcases C0.mp hb with rfl | hb
   · exact⟨_,E4,mo⟩
   · obtain⟨o,e,m⟩:=S.mu b hb;exact⟨o,Same.lay1 h b o e,m⟩
 slots i s e:=by
   have mm:∀{x:PV} {v:V},Rep C.K G H x v->Rep C.K ⟨a::G.M,G.pots⟩ (upd H a ob) x v:=fun r=>Rep.mono (G':=⟨a::G.M,G.pots⟩) (H':=upd H a ob) (fun b o _ e=>Same.lay1 h b o e) (fun c hc=>(C0.mp (show c∈a::G.M from hc)).elim (fun z=>.inr (z▸h)) .inl) (fun _ _ e=>e) _ _ r;have:=S.slots i s e;cases s with
   | v x =>
     obtain⟨v,e1,r⟩:=this;exact⟨v,e1,mm r⟩
   | ow kk xs =>
     obtain⟨b,us,e1,h1,h2,h3,h4,r⟩:=this;exact⟨b,us,e1,D0 _ h1,h2,h3,Same.lay1 h _ _ h4,Reps.mono (G':=⟨a::G.M,G.pots⟩) (H':=upd H a ob) (fun b o _ e=>Same.lay1 h b o e) (fun c hc=>(C0.mp (show c∈a::G.M from hc)).elim (fun z=>.inr (z▸h)) .inl) (fun _ _ e=>e) _ _ r⟩
 inj:=S.inj
 p0:=S.p0
 len:=S.len
 newp:=S.newp
theorem SR.more (S:SR C G σ H env n)(h:H a=none):SR C ⟨a::G.M,G.pots⟩ σ (upd H a (.lst vs)) env n:=S.moreO (ob:=.lst vs) trivial h
theorem SR.ow (S:SR C G σ H env n)(i:Nat)(kk:OK)(h:H a=none)(r:Reps C.K G H xs vs) :
   SR C ⟨a::G.M,G.pots⟩ (σ.set i (some (.ref a))) (upd H a (mkO kk vs)) (env.set i (some (.ow kk xs))) n:=by
 have S1:=S.moreO (Fo kk vs) h;have aM:a∉G.M:=S.fresh h;have r1:Reps C.K ⟨a::G.M,G.pots⟩ (upd H a (mkO kk vs)) xs vs:=Reps.mono (G':=⟨a::G.M,G.pots⟩) (H':=upd H a (mkO kk vs)) (fun b o _ e=>Same.lay1 h b o e) (fun c hc=>(C0.mp (show c∈a::G.M from hc)).elim (fun z=>.inr (z▸h)) .inl) (fun _ _ e=>e) _ _ r
 have other:∀(j:Nat) (ys:OK×List PV),env[j]?=some (some (Slot.ow ys.1 ys.2))->σ[j]?≠some (some (.ref a)):=by
   intro j ys e z;obtain⟨b,us,e1,h1,_⟩:=S.slots j _ e;rw [z] at e1;cases e1;exact aM h1
 exact {
   frame:=S1.frame
   sub:=S1.sub
   sup:=S1.sup
   pots:=S1.pots
   pre:=S1.pre
   mu:=S1.mu
   slots:=fun j s e=>by
     by_cases hj:i=j
     · subst hj
       by_cases hl:i < env.length
       · rw [J6 hl] at e;cases e;exact⟨a,vs,by rw [J6 (by rw [<- S.len];exact hl)],F4,fun z=>aM (S.sup a z),fun z=>aM (S.pots a z).1,E4,r1⟩
       · rw [Q8 (by rw [J0];omega)] at e;cases e
     · rw [L9 hj] at e ⊢;exact S1.slots j s e
   inj:=fun j k xs' ys b e1 e2 e3 e4=>by
     by_cases hj:i=j
     · by_cases hk:i=k
       · omega
       · subst hj;rw [L9 hk] at e2 e4
         by_cases hl:i < σ.length
         · rw [J6 hl] at e3;cases e3;exact absurd e4 (other k ys e2)
         · rw [Q8 (by rw [J0];omega)] at e3;cases e3
     · rw [L9 hj] at e1 e3
       by_cases hk:i=k
       · subst hk
         by_cases hl:i < σ.length
         · rw [J6 hl] at e4;cases e4;exact absurd e3 (other j xs' e1)
         · rw [Q8 (by rw [J0];omega)] at e4;cases e4
       · rw [L9 hk] at e2 e4;exact S.inj j k xs' ys b e1 e2 e3 e4
   p0:=S.p0
   len:=by rw [J0,J0];exact S.len
   newp:=S.newp }
theorem SR.own (S:SR C G σ H env n)(i:Nat)(h:H a=none)(r:Reps C.K G H xs vs) :
   SR C ⟨a::G.M,G.pots⟩ (σ.set i (some (.ref a))) (upd H a (.lst vs)) (env.set i (some (.ow .lst xs))) n:=S.ow i .lst h r
theorem SR.putO {C:Ct}{G:Gh}{σ:St}{H:Hp}{env:Env}{n:Nat}(S:SR C G σ H env n){i:Nat}{kk:OK}(k':OK){a:Addr}{xs ys:List PV}{vs:List V}(e:env[i]?=some (some (.ow kk xs)))(ea:σ[i]?=some (some (.ref a)))(r:Reps C.K G H ys vs) :
   SR C G σ (upd H a (mkO k' vs)) (env.set i (some (.ow k' ys))) n/\Fr G H (upd H a (mkO k' vs)):=by
 obtain⟨a',us,ea',aM,a0,ap,eH,_⟩:=S.slots i _ e;rw [ea] at ea';cases ea';have f:Fr G H (upd H a (mkO k' vs)):=fun b o hb he=>by rw [B3 (fun z=>hb (by grind))];exact he
 refine⟨{
   frame:=fun b o hb he=>?_
   sub:=S.sub
   sup:=S.sup
   pots:=fun p hp=>⟨(S.pots p hp).1,C.T.keep (S.pots p hp).2 (B3 fun z=>ap (by grind)) f⟩
   pre:=S.pre
   mu:=fun b hb=>?_
   slots:=fun j s es=>?_
   inj:=fun j k xs' ys' b e1 e2 e3 e4=>?_
   p0:=S.p0
   len:=by rw [J0];exact S.len
   newp:=S.newp },f⟩
 · have hb2:b≠a:=fun z=>by
     rcases S.sub a aM with z2 | z2
     · grind
     · grind
   rw [B3 hb2];exact S.frame b o hb he
 · by_cases hba:b=a
   · subst hba;exact⟨_,E4,Fo k' vs⟩
   · obtain⟨o,he,m⟩:=S.mu b hb;exact⟨o,by rw [B3 hba];exact he,m⟩
 · by_cases hj:i=j
   · subst hj;have hl:i < env.length:=(C5.mp e).1;rw [J6 hl] at es;cases es;exact⟨a,vs,ea,aM,a0,ap,E4,r.fr f⟩
   · rw [L9 hj] at es;have:=S.slots j s es;cases s with
     | v x =>
       obtain⟨v,e1,r⟩:=this;exact⟨v,e1,r.fr f⟩
     | ow kz zs =>
       obtain⟨b,us',e1,h1,h2,h3,h4,r⟩:=this;have hba:b≠a:=fun z=>hj (S.inj i j (kk,xs) (kz,zs) a e es ea (by rw [e1,z]));exact⟨b,us',e1,h1,h2,h3,by rw [B3 hba];exact h4,r.fr f⟩
 · have back:∀(j:Nat) (zs:OK×List PV),(env.set i (some (.ow k' ys)))[j]?=some (some (Slot.ow zs.1 zs.2))->∃zs':OK×List PV,env[j]?=some (some (.ow zs'.1 zs'.2)):=by
     intro j zs h
     by_cases hj:i=j
     · simp_all
     · grind
   obtain⟨z1,e1'⟩:=back j xs' e1;obtain⟨z2,e2'⟩:=back k ys' e2;exact S.inj j k z1 z2 b e1' e2' e3 e4
theorem SR.put (S:SR C G σ H env n)(e:env[i]?=some (some (.ow .lst xs)))(ea:σ[i]?=some (some (.ref a)))(r:Reps C.K G H ys vs) :
   SR C G σ (upd H a (.lst vs)) (env.set i (some (.ow .lst ys))) n/\Fr G H (upd H a (.lst vs)):=S.putO .lst e ea r
section
variable {T:PotK}{np:Bool}{ι:Type}{K:A3}{F:ι->Cx}{e a b c:Expr}{es:List Expr}{st:Stmt}{rest:List Stmt}{pe pa pb pc:pE}{pos:Pos}{pl pr:pA}{pg:pG}{pt:pT}{p1 p2:pS}
def qNx:pS:=fun D env n=>D.nx env n
def qSeq (p q:pS):pS:=fun D env n=>p { D with nx:=fun e m=>q D e m } env n
theorem F2:QSs T np K F [] qNx:=⟨_,fun _=>ED,fun C G σ H env n PD D hK hT hn S hp L=>L.nx _ _ _ _ _ hp S Ext.refl⟩
theorem B0 (h:QS T np K F st p1):QSs T np K F [st] p1:=let ⟨t,h1,h2⟩:=h;⟨t,fun z=>y4 (h1 z),h2⟩
theorem A5 (h:QS T np K F st p1)(h':QSs T np K F rest p2):QSs T np K F (st::rest) (qSeq p1 p2):=by
 obtain⟨t,a1,a2⟩:=h;obtain⟨u,b1,b2⟩:=h';refine⟨_,fun z=>R6 (a1 z) (b1 z),fun C G σ H env n PD D hK hT hn S hp L=>?_⟩;refine a2 C G σ H env n _ _ hK hT hn S hp ⟨fun env1 n1 G1 σ1 H1 q1 S1 x1=>?_,L.rt,L.bk,L.ct⟩;exact b2 C G1 σ1 H1 env1 n1 PD D hK hT hn S1 q1 (L.ext x1)
theorem FN (hN:X.N.Nodup)(hi:X.N[i]?=some x)(hx:Loc X.env.scope x)(hs:T5 e (some (.Name x pos')) pos.line X.env=pure false:=by rfl)(hf:X.fn x=true\/X.env.scope.names.lookup x=some .local:=by first | exact .inl rfl | exact .inr rfl | assumption)(te:TE)(h:EW X e te):SW X (.Assign [.Name x pos'] e pos) (tAsg te (N3 i)):=⟨X8 hN hi hx h.h hs hf⟩
theorem p9 (hs:swapsWithSole [tg] e pos.line X.env=pure false:=by rfl)(hw:swappedStores [tg] e X.env=pure none:=by rfl)(h1:(K8 [tg] X.env).map (·.2)=[assign tg X.env]:=by rfl)(te:TE)(g:TG)(h:EW X e te)(hg:GW X tg g):SW X (.Assign [tg] e pos) (tAsg te g):=⟨CB h.h hg.h hs hw h1⟩
theorem e7 (hs:T5 e none pos.line X.env=pure false:=by rfl)(te:TE)(h:EW X e te):SW X (.Expr e pos) (Cy te):=⟨Iz h.h hs⟩
def qSet (i:Nat)(pe:pE):pS:=fun D env n=>pe env n fun x env1 n1=>D.nx (env1.set i (some (.v x))) n1
theorem D6 (i:Nat)(h:∀z te,EW (F z) e te->SW (F z) st (tAsg te (N3 i)))(he:QE T K F e pe):QS T np K F st (qSet i pe):=by
 obtain⟨t,a1,a2⟩:=he;refine⟨_,fun z=>(h z _ ⟨a1 z⟩).h,fun C G σ H env n PD D hK hT hn S hp L=>?_⟩;refine a2 C G σ H env n _ _ hK hT S hp fun x env1 n1 v H1 q1 S1 r1 f1=>?_;exact L.nx _ _ _ _ _ q1 (S1.set i (hK▸r1)) (Ext.fr f1)
def qOwn (i:Nat)(pn:pA):pS:=fun D env n=>pn env n fun xs env1 n1=>D.nx (env1.set i (some (.ow .lst xs))) n1
theorem Ak {a:Addr}(h:H a=none):Ext G H ⟨a::G.M,G.pots⟩ (upd H a o):=⟨fun b u _ e=>Same.lay1 h b u e,fun c hc=>(C0.mp (show c∈a::G.M from hc)).elim (fun z=>.inr (z▸h)) .inl,fun _ _ e=>e⟩
theorem U7 (i:Nat)(h:∀z te,EW (F z) e te->SW (F z) st (tAsg te (N3 i)))(he:QN T K F e pl):QS T np K F st (qOwn i pl):=by
 obtain⟨t,a1,a2⟩:=he;refine⟨_,fun z=>(h z _ ⟨a1 z⟩).h,fun C G σ H env n PD D hK hT hn S hp L=>?_⟩;refine a2 C G σ H env n _ _ hK hT S hp fun xs env1 n1 a vs Hb q1 S1 f1 hn1 r1=>?_;exact L.nx _ _ _ _ _ q1 (S1.own i hn1 (hK▸r1)) ((Ext.fr f1).trans (Ak hn1))
def qAsg (pe:pE)(g:pG):pS:=fun D env n=>pe env n fun x env1 n1=>g x env1 fun env2=>D.nx env2 n1
theorem FO (h:∀z te g,EW (F z) e te->GW (F z) tg g->SW (F z) st (tAsg te g))(he:QE T K F e pe)(hg:QG K F tg pg):QS T np K F st (qAsg pe pg):=by
 obtain⟨t,a1,a2⟩:=he;obtain⟨g,b1,b2⟩:=hg;refine⟨_,fun z=>(h z _ _ ⟨a1 z⟩ ⟨b1 z⟩).h,fun C G σ H env n PD D hK hT hn S hp L=>?_⟩;refine a2 C G σ H env n _ _ hK hT S hp fun x env1 n1 v H1 q1 S1 r1 f1=>?_;exact b2 C G σ H1 env1 n1 x v _ _ hK S1 r1 q1 fun env' σ' re S'=>L.nx _ _ _ _ _ re S' (Ext.fr f1)
def Q5 (pe:pE):pS:=fun D env n=>pe env n fun _ env1 n1=>D.nx env1 n1
theorem e9 (h:∀z te,EW (F z) e te->SW (F z) st (Cy te))(he:QE T K F e pe):QS T np K F st (Q5 pe):=by
 obtain⟨t,a1,a2⟩:=he;refine⟨_,fun z=>(h z _ ⟨a1 z⟩).h,fun C G σ H env n PD D hK hT hn S hp L=>?_⟩;exact a2 C G σ H env n _ _ hK hT S hp fun x env1 n1 v H1 q1 S1 r1 f1=>L.nx _ _ _ _ _ q1 S1 (Ext.fr f1)
def qRet (pe:pE):pS:=fun D env n=>pe env n fun x _ n1=>D.rt x n1
theorem B9 (he:QE T K F e pe):QS T np K F (.Return (some e) pos) (qRet pe):=by
 obtain⟨t,a1,a2⟩:=he;refine⟨_,fun z=>Bh (a1 z),fun C G σ H env n PD D hK hT hn S hp L=>?_⟩;exact a2 C G σ H env n _ _ hK hT S hp fun x env1 n1 v H1 q1 S1 r1 f1=>L.rt _ _ _ _ _ _ _ q1 S1 (S1.out (hK▸r1)) (Ext.fr f1)
def qRetO (i:Nat):pS:=fun D env n=>match env[i]? with | some (some (.ow .lst xs))=>D.rt (.lst xs) n | _=>False
def qIfS (t:pT)(p q:pS):pS:=fun D env n=>t env n fun b env1 n1=>if b=true then p D env1 n1 else q D env1 n1
theorem F3 (hc:QT T K F c pt)(h1:QSs T np K F x p1)(h2:QSs T np K F y p2):QS T np K F (.If c x y pos) (qIfS pt p1 p2):=by
 obtain⟨tc,c1,c2⟩:=hc;obtain⟨t,a1,a2⟩:=h1;obtain⟨u,b1,b2⟩:=h2;refine⟨_,fun z=>ps_if (c1 z) (a1 z) (b1 z),fun C G σ H env n PD D hK hT hn S hp L=>?_⟩;refine c2 C G σ H env n _ _ hK hT S hp fun d env1 n1 H1 q1 S1 f1=>?_;cases d with
 | true=>exact a2 C G σ H1 env1 n1 PD D hK hT hn S1 q1 (L.ext (Ext.fr f1))
 | false=>exact b2 C G σ H1 env1 n1 PD D hK hT hn S1 q1 (L.ext (Ext.fr f1))
def forL (g:pG)(b:pS)(D:Q4):List PV->Env->Nat->Prop
 | [],env,n=>D.nx env n
 | x::xs,env,n=>g x env fun env1=>b { D with nx:=fun e m=>forL g b D xs e m,ct:=fun e m=>forL g b D xs e m,bk:=D.nx } env1 n
def qFor (pi:pA)(g:pG)(b:pS):pS:=fun D env n=>pi env n fun xs env1 n1=>forL g b D xs env1 n1
theorem N7 (hc:∀z,(F z).calm=true)(hi:QI T K F tg iter pl)(hg:QG K F tg pg)(hb:QSs T np K F body p1)(hp:∀z,PassesOwn (model (F z).prog (F z).w) (F z).A (F z).env (F z).xe:=by intro _;exact PassesOwn.never)(hs:∀z x,N9 iter (F z).env x=pure x:=by intro _ _;rfl):QS T np K F (.For tg iter body [] pos) (qFor pl pg p1):=by
 obtain⟨wi,i1,i2⟩:=hi;obtain⟨g,g1,g2⟩:=hg;obtain⟨t,b1,b2⟩:=hb;refine⟨_,fun z=>EJ (hp z) (hc z) (i1 z) (g1 z) (b1 z) (hs z),fun C G σ H env n PD D hK hT hn S hp L=>?_⟩;refine i2 C G σ H env n _ _ hK hT S hp fun xs env1 n1 J H1 q1 S1 f1 hJ=>?_;have L1:=L.ext (Ext.fr f1);refine⟨fun i m σ H=>m=xs.length - i/\i<=xs.length/\∃G' env n,SR C G' σ H env n/\Ext G H1 G' H/\forL pg p1 PD (xs.drop i) env n,⟨xs.length,by simp,O7 _,G,env1,n1,S1,Ext.refl,by simpa using q1⟩,?_⟩;rintro i m σ' H' ⟨rfl,hi,G',env',n',S',x',q'⟩;have hf:∀p,H' p=none->p∉G'.M:=fun p hp=>S'.fresh hp;obtain⟨hgo,hstop⟩:=hJ G' H' x'.keep x'.new x'.pot hf
 by_cases hlt:i < xs.length
 · obtain⟨go1,go2⟩:=hgo i _ (C4 hlt);rw [Z9 hlt] at q';refine .inr ⟨go1,fun σ H=>∃G' env n,SR C G' σ H env n/\Ext G H1 G' H/\forL pg p1 PD (xs.drop (i + 1)) env n,fun σ2 H2 h2=>⟨xs.length - (i + 1),by omega,rfl,hlt,h2⟩,fun v H2 y=>?_⟩;obtain⟨s2,rv⟩:=go2 v H2 y;have x2:Ext G' H' G' H2:=Ext.fr (Fr.of s2);refine g2 C G' σ' H2 env' n' _ v _ _ hK (S'.same s2) rv q' fun env2 σ2 q2 S2=>?_;refine b2 C G' σ2 H2 env2 n' _ _ hK hT hn S2 q2 ⟨fun e3 n3 G3 σ3 H3 q3 S3 x3=>?_,fun y n3 v G3 σ3 H3 e3 q3 S3 r3 x3=>?_,fun e3 n3 G3 σ3 H3 q3 S3 x3=>?_,fun e3 n3 G3 σ3 H3 q3 S3 x3=>?_⟩
   · exact⟨G3,e3,n3,S3,(x'.trans x2).trans x3,q3⟩
   · exact L1.rt _ _ _ _ _ _ _ q3 S3 r3 ((x'.trans x2).trans x3)
   · exact L1.nx _ _ _ _ _ q3 S3 ((x'.trans x2).trans x3)
   · exact⟨G3,e3,n3,S3,(x'.trans x2).trans x3,q3⟩
 · have ei:i=xs.length:=by omega
   subst ei;rw [j9] at q';exact .inl ⟨hstop _ (A8 _),L1.nx _ _ _ _ _ q' S' x'⟩
def N8 (t:pT)(b:pS)(D:Q4):Nat->Env->Nat->Prop
 | 0,_,_=>False
 | k + 1,env,n=>t env n fun c env1 n1=>if c=true then b { D with nx:=fun e m=>N8 t b D k e m,ct:=fun e m=>N8 t b D k e m,bk:=D.nx } env1 n1 else D.nx env1 n1
def q8 (t:pT)(b:pS):pS:=fun D env n=>∃k,N8 t b D k env n
theorem FP (hc:QT T K F c pt)(hb:QSs T np K F body p1)(hp:∀z,PassesOwn (model (F z).prog (F z).w) (F z).A (F z).env (F z).xe:=by intro _;exact PassesOwn.never):QS T np K F (.While c body [] pos) (q8 pt p1):=by
 obtain⟨tc,c1,c2⟩:=hc;obtain⟨t,b1,b2⟩:=hb;refine⟨_,fun z=>IA (hp z) (c1 z) (b1 z),fun C G σ H env n PD D hK hT hn S hp L=>?_⟩;obtain⟨k,hp⟩:=hp;refine⟨fun m σ H'=>∃G' env n,SR C G' σ H' env n/\Ext G H G' H'/\N8 pt p1 PD m env n,⟨k,G,env,n,S,Ext.refl,hp⟩,?_⟩;rintro m σ1 H1 ⟨G1,env1,n1,S1,x1,q1⟩;cases m with
 | zero=>exact q1.elim
 | succ m =>
   refine c2 C G1 σ1 H1 env1 n1 _ _ hK hT S1 q1 fun d env2 n2 H2 q2 S2 f2=>?_;have x2:=x1.trans (Ext.fr f2);cases d with
   | false=>exact iteF (L.nx _ _ _ _ _ q2 S2 x2)
   | true =>
     refine iteT ⟨fun σ H'=>∃G' env n,SR C G' σ H' env n/\Ext G H G' H'/\N8 pt p1 PD m env n,fun σ' H' h=>⟨m,by omega,h⟩,?_⟩;exact b2 C G1 σ1 H2 env2 n2 _ _ hK hT hn S2 q2 ⟨fun e3 n3 G3 σ3 H3 q3 S3 x3=>⟨G3,e3,n3,S3,x2.trans x3,q3⟩,fun y n3 v G3 σ3 H3 e3 q3 S3 r3 x3=>L.rt _ _ _ _ _ _ _ q3 S3 r3 (x2.trans x3),fun e3 n3 G3 σ3 H3 q3 S3 x3=>L.nx _ _ _ _ _ q3 S3 (x2.trans x3),fun e3 n3 G3 σ3 H3 q3 S3 x3=>⟨G3,e3,n3,S3,x2.trans x3,q3⟩⟩
def Dh (i:Nat)(pe:pE):pE:=fun env n R=>pe env n fun y env1 n1=>match env1[i]? with | some (some (.ow .lst xs))=>xs.length < 1000000/\R .non (env1.set i (some (.ow .lst (xs++[y])))) n1 | _=>False
theorem BA (i:Nat)(hv:∀z,EW (F z) (.Name x p) (tVar i))(he:QE T K F e pe)(hs:C9 e=true:=by rfl)(hbase:∀z,w5 (.Name x p) "append" (F z).env (eval (.Name x p) (F z).env)=eval (.Name x p) (F z).env:=by intro _;rfl)(hline:(ap.endLine == pos.line)=true:=by rfl)
   (hfew:∀z,((backTo pos (C7 [e] (F z).env)).all (fun x=>!x.1) && (backToKw pos (j3 [] (F z).env)).all (fun x=>x.1.isSome) && decide (([e]:List Expr).length + ([]:List Q7).length + (if([]:List Q7).isEmpty then 0 else 1) < 30))=true:=by intro _;rfl) (hK:∀z,(F z).K=K:=by intro _;rfl):QE T K F (.Call (.Attribute (.Name x p) "append" ap) [e] [] pos) (fun env n R=>(∃xs,env[i]?=some (some (.ow .lst xs)))/\Dh i pe env n R):=by
 obtain⟨t,a1,a2⟩:=he;refine⟨tBM K "list" Fg (tVar i) (R7 t tNil),fun z=>hK z▸Bj PySem.F.plainAttrs_list PySem.F.slot_list_append PySem.F.type_list_append Aa (hv z).h (C6 (a1 z) E9 (B2 hs)) (hbase z) (hfew z) hline (B2 hs),fun C G σ H env n R Q hK hT S hp k=>?_⟩;obtain⟨⟨xs0,e0⟩,hp⟩:=hp;obtain⟨a,vs,ev,h1,h2,h3,h4,r⟩:=S.slots i _ e0;refine⟨.ref a,ev,.inl ⟨rfl,vs,SqL.of h4⟩,?_⟩;refine a2 C G σ H env n _ _ hK hT S hp fun y env1 n1 v H1 q1 S1 r1 f1=>?_
 split at q1
 · rename_i xs ex;obtain⟨a',us,ev',g1,g2,g3,g4,r'⟩:=S1.slots i _ ex;rw [ev] at ev';cases ev';subst hK;obtain⟨S2,f2⟩:=S1.put ex ev (r'.append (.one r1));exact⟨a,us,v,rfl,rfl,g4,by rw [<- r'.length];exact mil' (by omega),k _ _ _ _ _ q1.2 S2 rfl (f1.trans f2)⟩
 · exact q1.elim
end
end Pu
end
section
namespace Pu
open PySem PySem.Spec L2
abbrev pSl:=Env->Nat->(Slot->Env->Nat->Prop)->Prop
def Al (σ:St)(env:Env)(a:Addr):Prop:=∃(j:Nat) (ys:OK×List PV),env[j]?=some (some (.ow ys.1 ys.2))/\σ[j]?=some (some (.ref a))
theorem SR.slot (S:SR C G σ H env n)(i:Nat)(r:CV C G H (some (some v)) s)(h:∀(xs:OK×List PV) a,s=.ow xs.1 xs.2->v=.ref a->¬Al σ env a):SR C G (σ.set i (some v)) H (env.set i (some s)) n where
 frame:=S.frame
 sub:=S.sub
 sup:=S.sup
 pots:=S.pots
 pre:=S.pre
 mu:=S.mu
 slots j t e:=by
   by_cases hj:i=j
   · subst hj
     by_cases hl:i < env.length
     · rw [J6 hl] at e;cases e;rw [J6 (by rw [<- S.len];exact hl)];exact r
     · rw [Q8 (by rw [J0];omega)] at e;cases e
   · rw [L9 hj] at e ⊢;exact S.slots j t e
 inj j k xs ys b e1 e2 e3 e4:=by
   by_cases hj:i=j
   · by_cases hk:i=k
     · omega
     · subst hj;rw [L9 hk] at e2 e4
       by_cases hl:i < env.length
       · rw [J6 hl] at e1;rw [J6 (by rw [<- S.len];exact hl)] at e3;cases e1;cases e3;exact absurd ⟨k,ys,e2,e4⟩ (h xs b rfl rfl)
       · rw [Q8 (by rw [J0];omega)] at e1;cases e1
   · rw [L9 hj] at e1 e3
     by_cases hk:i=k
     · subst hk
       by_cases hl:i < env.length
       · rw [J6 hl] at e2;rw [J6 (by rw [<- S.len];exact hl)] at e4;cases e2;cases e4;exact absurd ⟨j,xs,e1,e3⟩ (h ys b rfl rfl)
       · rw [Q8 (by rw [J0];omega)] at e2;cases e2
     · rw [L9 hk] at e2 e4;exact S.inj j k xs ys b e1 e2 e3 e4
 p0:=S.p0
 len:=by rw [J0,J0];exact S.len
 newp:=S.newp
def Ct.guard (C:Ct)(a:Addr)(vs:List V):Ct:={ C with M0:=a::C.M0,H0:=upd C.H0 a (.lst vs) }
theorem SR.guard (S:SR C G σ H env n)(vs:List V)(h:H a=none):SR (C.guard a vs) ⟨a::G.M,G.pots⟩ σ (upd H a (.lst vs)) env n:=by
 have S1:=S.more (vs:=vs) h;have aM:=S.fresh h
 exact {
   frame:=fun b o hb e=>by
     by_cases hba:b=a
     · subst hba;have e':upd C.H0 b (.lst vs) b=some o:=e;rw [E4] at e' ⊢;exact e'
     · have e':upd C.H0 a (.lst vs) b=some o:=e;rw [B3 hba] at e';exact S1.frame b o hb e'
   sub:=fun b hb=>by
     by_cases hba:b=a
     · exact .inl (by rw [hba];exact F4)
     · rcases S1.sub b hb with z | z
       · exact .inl (D0 _ z)
       · refine .inr ?_;show upd C.H0 a (.lst vs) b=none;rw [B3 hba];exact z
   sup:=fun b hb=>by
     rcases C0.mp (show b∈a::C.M0 from hb) with rfl | z
     · exact F4
     · exact S1.sup b z
   pots:=S1.pots
   pre:=S1.pre
   mu:=S1.mu
   slots:=fun i s e=>by
     cases s with
     | v x =>
       obtain⟨v,ev,r⟩:=S1.slots i _ e;exact⟨v,ev,r⟩
     | ow kk xs =>
       obtain⟨b,us,ev,h1,h2,h3,h4,r⟩:=S1.slots i _ e;obtain⟨b',us',ev',g1,_⟩:=S.slots i _ e;rw [ev] at ev';cases ev';refine⟨b,us,ev,h1,fun z=>?_,h3,h4,r⟩;rcases C0.mp (show b∈a::C.M0 from z) with rfl | z
       · exact aM g1
       · exact h2 z
   inj:=S1.inj
   p0:=⟨fun p hp=>D0 _ (S1.p0.1 p hp),S1.p0.2⟩
   len:=S1.len
   newp:=fun p hp hn hM=>by
     rcases C0.mp (show p∈a::C.M0 from hM) with rfl | z
     · exact aM (S.pots p hp).1
     · exact S1.newp p hp hn z }
theorem SR.unguard (S:SR (C.guard a vs) G σ H env n)(ha:a∉C.M0)(hp0:∀p∈C.pots0,p∈C.M0)(h0:C.H0 a=none):SR C G σ H env n/\H a=some (.lst vs)/\¬Al σ env a:=by
 have hap:a∉C.pots0:=fun z=>ha (hp0 a z)
 refine⟨{
   frame:=fun b o hb e=>S.frame b o hb (by
     show upd C.H0 a (.lst vs) b=some o
     rw [B3 (fun z=>by rw [z,h0] at e;cases e)];exact e)
   sub:=fun b hb=>by
     by_cases hba:b=a
     · exact .inr (hba▸h0)
     · rcases S.sub b hb with z | z
       · rcases C0.mp (show b∈a::C.M0 from z) with z | z
         · exact absurd z hba
         · exact .inl z
       · have z':upd C.H0 a (.lst vs) b=none:=z;rw [B3 hba] at z';exact .inr z'
   sup:=fun b hb=>S.sup b (D0 _ hb)
   pots:=S.pots
   pre:=S.pre
   mu:=S.mu
   slots:=fun i s e=>by
     cases s with
     | v x =>
       obtain⟨v,ev,r⟩:=S.slots i _ e;exact⟨v,ev,r⟩
     | ow kk xs =>
       obtain⟨b,us,ev,h1,h2,h3,h4,r⟩:=S.slots i _ e;exact⟨b,us,ev,h1,fun z=>h2 (D0 _ z),h3,h4,r⟩
   inj:=S.inj
   p0:=⟨hp0,S.p0.2⟩
   len:=S.len
   newp:=fun p hp hn hM=>S.newp p hp hn (D0 _ hM) },S.frame a _ hap E4,?_⟩
 rintro⟨j,ys,e1,e2⟩;obtain⟨b,us,ev,h1,h2,_⟩:=S.slots j _ e1;rw [e2] at ev;cases ev;exact h2 F4
def LOk (K:A3)(T:PotK)(t:TE)(pl:pSl):Prop:=∀(C:Ct) (G:Gh) (σ:St) (H:Hp) (env:Env) (n:Nat) (R:Slot->Env->Nat->Prop) (Q:VK),C.K=K->C.T=T->SR C G σ H env n->pl env n R->
 (∀x env' n' v H',R (.v x) env' n'->SR C G σ H' env' n'->Rep K G H' x v->Fr G H H'->Q v H')->
 (∀xs env' n' a vs Hb,R (.ow .lst xs) env' n'->SR C G σ Hb env' n'->Fr G H Hb->Hb a=none->Reps K G Hb xs vs->Q (.ref a) (upd Hb a (.lst vs)))->t σ H Q
def QL {ι:Type}(T:PotK)(K:A3)(F:ι->Cx)(e:Expr)(pl:pSl):Prop:=∃t,(∀z,PE (F z) e t)/\LOk K T t pl
def sV (pe:pE):pSl:=fun env n R=>pe env n fun x env1 n1=>R (.v x) env1 n1
section
variable {T:PotK}{np:Bool}{ι:Type}{K:A3}{F:ι->Cx}{e a b c:Expr}{es:List Expr}{st:Stmt}{rest:List Stmt}{pe pa pb pc:pE}{pos:Pos}{pl pr:pA}{pg:pG}{pt:pT}{p1 p2:pS}{s1 s2 s3:pSl}
theorem ql_v (h:QE T K F e pe):QL T K F e (sV pe):=let ⟨t,h1,h2⟩:=h;⟨t,h1,fun C G σ H env n R Q hK hT S hp k _=>h2 C G σ H env n _ _ hK hT S hp fun x env' n' v H' r S' rp f=>k x env' n' v H' r S' rp f⟩
def Got (C:Ct)(G:Gh)(H:Hp)(σ:St)(env:Env)(s:Slot)(v:V):Prop:=CV C G H (some (some v)) s/\∀(xs:OK×List PV) a,s=.ow xs.1 xs.2->v=.ref a->¬Al σ env a
theorem FQ (h:LOk K T t s1)(hK:C.K=K)(hT:C.T=T)(S:SR C G σ H env n)(hp:s1 env n R)
   (k:∀s env' n' v G' H',R s env' n'->SR C G' σ H' env' n'->Ext G H G' H'->Got C G' H' σ env' s v->Q v H'):t σ H Q:=by
 refine h C G σ H env n _ _ hK hT S hp (fun x env' n' v H' r S' rp f=>?_) fun xs env' n' a vs Hb r S' f hn rs=>?_
 · exact k _ _ _ _ _ _ r S' (Ext.fr f) ⟨⟨v,rfl,hK▸rp⟩,fun _ _ z=>nomatch z⟩
 · have aM:=S'.fresh hn;have S1:=S'.more (vs:=vs) hn;refine k _ _ _ _ _ _ r S1 ((Ext.fr f).trans (Ak hn)) ⟨⟨a,vs,rfl,F4,fun z=>aM (S'.sup a z),fun z=>aM (S'.pots a z).1,E4,?_⟩,fun ys b e1 e2=>?_⟩
   · exact Reps.mono (G':=⟨a::G.M,G.pots⟩) (H':=upd Hb a (.lst vs)) (fun b o _ e=>Same.lay1 hn b o e) (fun c hc=>(C0.mp (show c∈a::G.M from hc)).elim (fun z=>.inr (z▸hn)) .inl) (fun _ _ e=>e) _ _ (hK▸rs)
   · cases e2;rintro⟨j,zs,z1,z2⟩;obtain⟨b,us,ev,g1,_⟩:=S'.slots j _ z1;rw [z2] at ev;cases ev;exact aM g1
theorem JS {R:Slot->Slot->Env->Nat->Prop}{Q:V->V->Hp->Prop}(h:LOk K T t s1)(h':LOk K T u s2)(hK:C.K=K)(hT:C.T=T)(S:SR C G σ H env n)(hp:s1 env n fun x env1 n1=>s2 env1 n1 fun y env2 n2=>R x y env2 n2)
   (k:∀x y env' n' v w G' H',R x y env' n'->SR C G' σ H' env' n'->Ext G H G' H'->Got C G' H' σ env' x v->Got C G' H' σ env' y w->(∀(xs ys:OK×List PV) a,x=.ow xs.1 xs.2->y=.ow ys.1 ys.2->v=.ref a->w≠.ref a)->Q v w H'):t σ H fun v H1=>u σ H1 fun w H2=>Q v w H2:=by
 refine h C G σ H env n _ _ hK hT S hp (fun x env1 n1 v H1 q1 S1 r1 f1=>?_) fun xs env1 n1 a vs Hb q1 S1 f1 hn rs=>?_
 · refine FQ h' hK hT S1 q1 fun y env2 n2 w G2 H2 q2 S2 x2 g2=>?_;exact k _ _ _ _ _ _ _ _ q2 S2 ((Ext.fr f1).trans x2) ⟨⟨v,rfl,Rep.mono x2.keep x2.new x2.pot _ _ (hK▸r1)⟩,fun _ _ z=>nomatch z⟩ g2 (fun _ _ _ z=>nomatch z)
 · have aM:=S1.fresh hn;have JT:=S1.guard vs hn;have a0:a∉C.M0:=fun z=>aM (S1.sup a z);have aH:=S1.old hn;have x1:Ext G H ⟨a::G.M,G.pots⟩ (upd Hb a (.lst vs)):=(Ext.fr f1).trans (Ak hn);have r1:Reps C.K ⟨a::G.M,G.pots⟩ (upd Hb a (.lst vs)) xs vs:=Reps.mono (G':=⟨a::G.M,G.pots⟩) (H':=upd Hb a (.lst vs)) (fun b o _ e=>Same.lay1 hn b o e) (fun c hc=>(C0.mp (show c∈a::G.M from hc)).elim (fun z=>.inr (z▸hn)) .inl) (fun _ _ e=>e) _ _ (hK▸rs);refine FQ (C:=C.guard a vs) h' hK hT JT q1 fun y env2 n2 w G2 H2 q2 S2 x2 g2=>?_;obtain⟨S3,e3,no⟩:=S2.unguard a0 S1.p0.1 aH;have aM2:a∈G2.M:=S2.sup a F4
   have ap2:a∉G2.pots:=fun z=>by
     by_cases hz:a∈C.pots0
     · exact a0 (S1.p0.1 a hz)
     · exact S2.newp a z hz F4
   have gy:Got C G2 H2 σ env2 y w:=by
     refine⟨?_,g2.2⟩;cases y with
     | v x=>exact g2.1
     | ow kk ys =>
       obtain⟨b,us,ev,h1,h2,h3,h4,r⟩:=g2.1;exact⟨b,us,ev,h1,fun z=>h2 (D0 _ z),h3,h4,r⟩
   refine k _ _ _ _ _ _ _ _ q2 S3 (x1.trans x2) ⟨⟨a,vs,rfl,aM2,a0,ap2,e3,Reps.mono x2.keep x2.new x2.pot _ _ r1⟩,fun _ _ _ e=>by cases e;exact no⟩ gy fun xs' ys b ex ey ev ew=>?_;subst ey;cases ev;obtain⟨b,us,ev,h1,h2,_⟩:=g2.1;rw [ew] at ev;cases ev;exact h2 F4
structure AW (X:Cx)(es:List Expr)(t:TA):Prop where
 h:PA X es t
theorem h6 {X:Cx}{i j:Nat}{x y:Str}{a b:Expr}{px py pt:Pos}{kt k2 pt2}{pos:Pos}(hc:X.calm=true)(hN:X.N.Nodup)(hi:X.N[i]?=some x)(hj:X.N[j]?=some y)(hij:i≠j)
   (hx:X.env.scope.names.lookup x=some .local) (hy:X.env.scope.names.lookup y=some .local) (hw:swappedStores [.Tuple [.Name x px,.Name y py] kt pt] (.Tuple [a,b] k2 pt2) X.env=pure (some [x,y]))
   (hs:swapsWithSole [.Tuple [.Name x px,.Name y py] kt pt] (.Tuple [a,b] k2 pt2) pos.line X.env=pure false:=by rfl) (ta:TA) (h:AW X [a,b] ta) :
   SW X (.Assign [.Tuple [.Name x px,.Name y py] kt pt] (.Tuple [a,b] k2 pt2) pos) (tPar i j ta):=⟨ps_par hc hN hi hj hij hx hy h.h hw hs⟩
def qPar (i j:Nat)(s1 s2:pSl):pS:=fun D env n=>s1 env n fun a env1 n1=>s2 env1 n1 fun b env2 n2=>D.nx ((env2.set i (some a)).set j (some b)) n2
theorem FR {a:Addr}(hl:env.length=σ.length)(h:Al (σ.set i (some v)) (env.set i (some s)) a):Al σ env a\/((∃xs:OK×List PV,s=.ow xs.1 xs.2)/\v=.ref a):=by
 obtain⟨j,ys,e1,e2⟩:=h
 by_cases hj:i=j
 · subst hj
   by_cases hl':i < env.length
   · rw [J6 hl'] at e1;rw [J6 (by omega)] at e2;cases e1;cases e2;exact .inr ⟨⟨_,rfl⟩,rfl⟩
   · rw [Q8 (by rw [J0];omega)] at e1;cases e1
 · rw [L9 hj] at e1 e2;exact .inl ⟨j,ys,e1,e2⟩
theorem t7 (i j:Nat)(h:∀z ta,AW (F z) [a,b] ta->SW (F z) st (tPar i j ta))(h1:QL T K F a s1)(h2:QL T K F b s2)(n1:C9 a=true:=by rfl)(n2:C9 b=true:=by rfl):QS T np K F st (qPar i j s1 s2):=by
 obtain⟨t,a1,a2⟩:=h1;obtain⟨u,b1,b2⟩:=h2;refine⟨_,fun z=>(h z _ ⟨C6 (a1 z) (C6 (b1 z) E9 (B2 n2)) (B2 n1)⟩).h,fun C G σ H env n PD D hK hT hn S hp L=>?_⟩;refine JS (Q:=fun v w H2=>∃v' w',[v,w]=[v',w']/\D.nx ((σ.set i (some v')).set j (some w')) H2) a2 b2 hK hT S hp fun x y env2 n2 v w G2 H2 q S2 x2 gx gy ne=>?_;refine⟨v,w,rfl,L.nx _ _ _ _ _ q ((S2.slot i gx.1 gx.2).slot j gy.1 fun ys b e1 e2 z=>?_) x2⟩;rcases FR S2.len z with z | ⟨⟨xs,ex⟩,ev⟩
 · exact gy.2 ys b e1 e2 z
 · exact ne xs ys b ex e1 ev e2
theorem h9 (ho:EW X o (tVar i))(ha:∀v,assign (.Subscript o ix pos) X.env v=(do
     let ov ← holding [v] (eval o X.env)
     let iv ← holding [v,ov] (eval ix X.env)
     standAt pos
     holding [v,ov,iv] (setItem ov iv v)
     release [v,ov,iv] []):=by intro _;rfl) (ti:TE) (hi:EW X ix ti):GW X (.Subscript o ix pos) (gSub (tVar i) ti z9):=⟨CA ho.h hi.h CN ha⟩
def gAt (i:Nat)(pe:pE):PV->Env->Nat->(Env->Nat->Prop)->Prop:=fun x env n R=>pe env n fun y env1 n1=>match env1[i]?,y with | some (some (.ow .lst xs)),.int d=>(match ixN xs.length d with | some j=>R (env1.set i (some (.ow .lst (xs.set j x)))) n1 | none=>False) | _,_=>False
def qPut (i:Nat)(pv:pE)(pe:pE):pS:=fun D env n=>pv env n fun x env1 n1=>(∃xs,env1[i]?=some (some (.ow .lst xs)))/\gAt i pe x env1 n1 D.nx
theorem qs_put (i:Nat){pv:pE}(h:∀z te g,EW (F z) v te->GW (F z) (.Subscript o ix pos) g->SW (F z) st (tAsg te g))(hv:QE T K F v pv)(hg:∀z ti,EW (F z) ix ti->GW (F z) (.Subscript o ix pos) (gSub (tVar i) ti z9))(he:QE T K F ix pe):QS T np K F st (qPut i pv pe):=by
 obtain⟨tv,v1,v2⟩:=hv;obtain⟨ti,i1,i2⟩:=he;refine⟨_,fun z=>(h z _ _ ⟨v1 z⟩ (hg z _ ⟨i1 z⟩)).h,fun C G σ H env n PD D hK hT hn S hp L=>?_⟩;refine v2 C G σ H env n _ _ hK hT S hp fun x env1 n1 v H1 q1 S1 r1 f1=>?_;obtain⟨⟨xs0,e0⟩,q1⟩:=q1;obtain⟨a,vs,ev,h1,h2,h3,h4,r⟩:=S1.slots i _ e0;refine⟨.ref a,ev,?_⟩;refine i2 C G σ H1 env1 n1 _ _ hK hT S1 q1 fun y env2 n2 w H2 q2 S2 r2 f2=>?_
 split at q2
 · rename_i xs d ex
   split at q2
   · rename_i j ej;obtain⟨a',us,ev',g1,g2,g3,g4,r'⟩:=S2.slots i _ ex;rw [ev] at ev';cases ev';subst hK;obtain⟨S3,f3⟩:=S2.put ex ev (r'.set j (r1.fr f2));exact⟨a,us,d,j,rfl,r2,g4,by rw [<- r'.length];exact ej,L.nx _ _ _ _ _ q2 S3 (Ext.fr ((f1.trans f2).trans f3))⟩
   · exact q2.elim
 · exact q2.elim
def BC (i:Nat)(env:Env):Env:=match env[i]? with | some (some (.ow .lst xs))=>env.set i (some (.v (.lst xs))) | _=>env
theorem SR.freeze (S:SR C G σ H env n)(i:Nat):∃G',SR C G' σ H (BC i env) n/\Ext G H G' H:=by
 unfold BC
 split
 · rename_i xs ex;obtain⟨a,vs,ev,h1,h2,h3,h4,r⟩:=S.slots i _ ex
   let G':Gh:=⟨G.M.filter (·≠a),G.pots⟩
   have sub:∀b∈G'.M,b∈G.M:=fun b hb=>(b5.mp hb).1;have mm:∀{x:PV} {v:V},Rep C.K G H x v->Rep C.K G' H x v:=fun r=>Rep.mono (G':=G') (fun _ _ _ e=>e) (fun b hb=>.inl (sub b hb)) (fun _ _ e=>e) _ _ r;have mms:∀{x:List PV} {v:List V},Reps C.K G H x v->Reps C.K G' H x v:=fun r=>Reps.mono (G':=G') (fun _ _ _ e=>e) (fun b hb=>.inl (sub b hb)) (fun _ _ e=>e) _ _ r
   refine⟨G',{
     frame:=S.frame
     sub:=fun b hb=>S.sub b (sub b hb)
     sup:=fun b hb=>b5.mpr ⟨S.sup b hb,decide_eq_true (show b≠a from fun z=>h2 (by grind))⟩
     pots:=fun p hp=>⟨b5.mpr ⟨(S.pots p hp).1,decide_eq_true (show p≠a from fun z=>h3 (by grind))⟩,C.T.more (S.pots p hp).2 fun b hb=>.inl (sub b hb)⟩
     pre:=S.pre
     mu:=fun b hb=>S.mu b (sub b hb)
     slots:=fun j s es=>?_
     inj:=fun j k xs' ys b e1 e2 e3 e4=>?_
     p0:=S.p0
     len:=by rw [J0];exact S.len
     newp:=S.newp },⟨fun _ _ _ e=>e,fun b hb=>.inl (sub b hb),fun _ _ e=>e⟩⟩
   · by_cases hj:i=j
     · subst hj;rw [J6 (C5.mp ex).1] at es;cases es;exact⟨.ref a,ev,a,vs,rfl,⟨fun z=>by simpa using(b5.mp z).2,h4⟩,mms r⟩
     · rw [L9 hj] at es;have:=S.slots j s es;cases s with
       | v x =>
         obtain⟨v,e1,r⟩:=this;exact⟨v,e1,mm r⟩
       | ow kz zs =>
         obtain⟨b,us,e1,g1,g2,g3,g4,r⟩:=this;have hba:b≠a:=fun z=>hj (S.inj i j (.lst,xs) (kz,zs) a ex es ev (by rw [e1,z]));exact⟨b,us,e1,b5.mpr ⟨g1,by simpa using hba⟩,g2,g3,g4,mms r⟩
   · have back:∀(j:Nat) (zs:OK×List PV),(env.set i (some (.v (.lst xs))))[j]?=some (some (Slot.ow zs.1 zs.2))->env[j]?=some (some (.ow zs.1 zs.2)):=by
       intro j zs h
       by_cases hj:i=j
       · grind
       · grind
     exact S.inj j k xs' ys b (back j _ e1) (back k _ e2) e3 e4
 · exact⟨G,S,Ext.refl⟩
def Di (i:Nat)(p:pS):pS:=fun D env n=>p D (BC i env) n
theorem JU (i:Nat)(h:QS T np K F st p1):QS T np K F st (Di i p1):=by
 obtain⟨t,a1,a2⟩:=h;refine⟨t,a1,fun C G σ H env n PD D hK hT hn S hp L=>?_⟩;obtain⟨G',S',x'⟩:=S.freeze i;exact a2 C G' σ H _ n PD D hK hT hn S' hp (L.ext x')
end
end Pu
end
section
namespace Pu
open PySem PySem.Spec L2
def Z1 (N:List Str)(xs:List PV):Env:=xs.map (fun x=>some (.v x))++k7 (N.length - xs.length) none
def fnP (N ps:List Str)(body:pS):pF:=fun xs n R=>xs.length=ps.length/\body ⟨fun _ m=>R .non m,R,fun _ _=>False,fun _ _=>False⟩ (Z1 N xs) n
theorem FS (hp:∀p∈G.pots,p∈G.M/\T.at_ G.M H p n)(hm:∀a∈G.M,∃o,H a=some o/\MutO o)(hh:T.has G.pots)(r:Reps K G H xs vs) :
   SR ⟨K,T,G.M,G.pots,H,np⟩ G (L2.P7 N vs) H (Z1 N xs) n where
 frame b o _ e:=e
 sub a ha:=.inl ha
 sup a ha:=ha
 pots:=hp
 pre:=⟨[],by simp,.inl rfl⟩
 mu:=hm
 slots i s e:=by
   unfold Z1 at e
   by_cases hi:i < xs.length
   · rw [X2 (by simpa using hi),G6] at e;cases ex:xs[i]? with
     | none=>rw [ex] at e;cases e
     | some x =>
       rw [ex] at e;cases e;obtain⟨v,ev,rv⟩:=r.get' ex;refine⟨v,?_,rv⟩;unfold L2.P7;rw [X2 (by rw [A9,<- r.length];exact hi),G6,ev]
       rfl
   · rw [X1 (by simpa using hi),Cd] at e
     split at e <;> cases e
 inj i j xs' ys a e1:=by
   exfalso
   unfold Z1 at e1
   by_cases hi:i < xs.length
   · rw [X2 (by simpa using hi),G6] at e1;cases ex:xs[i]? with
     | none=>rw [ex] at e1;cases e1
     | some x=>rw [ex] at e1;cases e1
   · rw [X1 (by simpa using hi),Cd] at e1
     split at e1 <;> cases e1
 p0:=⟨fun p h=>(hp p h).1,hh⟩
 len:=by unfold Z1 L2.P7;simp [r.length]
 newp p h hn:=absurd h hn
section
variable {P:C3}{w:World}{K:A3}{mg:Str->Option Value}{base:Heap}{T:PotK}
theorem bd1 {P:List Value->Prop}(h:∀a,P [a])(us:List Value)(e:us.length=1):P us:=by
 obtain⟨a,rfl⟩:=List.length_eq_one_iff.mp e;exact h a
theorem bdS {P:List Value->Prop}(h:∀a us,us.length=n->P (a::us))(us:List Value)(e:us.length=n + 1):P us:=by
 obtain⟨a,us,rfl⟩:=List.exists_cons_of_length_eq_add_one e;exact h a us (Nat.succ.inj e)
theorem bd2 {P:List Value->Prop}(h:∀a b,P [a,b])(us:List Value)(e:us.length=2):P us:=bdS (fun a us e=>bd1 (P:=fun us=>P (a::us)) (h a) us e) us e
theorem bd3 {P:List Value->Prop}(h:∀a b c,P [a,b,c])(us:List Value)(e:us.length=3):P us:=bdS (fun a us e=>bd2 (P:=fun us=>P (a::us)) (h a) us e) us e
theorem bd4 {P:List Value->Prop}(h:∀a b c d,P [a,b,c,d])(us:List Value)(e:us.length=4):P us:=bdS (fun a us e=>bd3 (P:=fun us=>P (a::us)) (h a) us e) us e
theorem bd5 {P:List Value->Prop}(h:∀a b c d e,P [a,b,c,d,e])(us:List Value)(e:us.length=5):P us:=bdS (fun a us e=>bd4 (P:=fun us=>P (a::us)) (h a) us e) us e
theorem fn_ok (F0:Fn0 K mg x st)(sc:R8 N ps (E5 st))
   (bd:∀(kV doc pm:Value) (an:Option Addr) (cdv ct:Value) (us:List Value),us.length=ps.length->bindArgs (P1 x x (U3 st) (N6 st) (E5 st) .none kV doc pm an cdv ct) ⟨us,[]⟩=pure (ps.zip us))
   (h:∀(f:Addr) (cdv:Value) (A:Around) (outer:List PySem.Env) (s:Shared) (H:Hp) (E:XK),Room k (A.deeper (Ck x (E5 st) s.heap.objs.size f cdv))->
     QSs T false K (fun _:Unit=>(cxOf CX0 P w K mg base N x (E5 st) f cdv A outer s H E).nox) (N6 st) body) :
   Kn P w K mg base x (k + 1) ps (D3 K T (fnP N ps body)):=by
 refine F0.ok sc (fun vs H Q E h=>?_) bd (fun f cdv A outer s H vs Q E hr hsp=>?_)
 · obtain⟨G,xs,n,R,_,_,_,r,hf,_⟩:=h;rw [<- r.length];exact hf.1
 · obtain⟨t,h1,h2⟩:=h f cdv A outer s H E hr;obtain⟨G,xs,n,R,hp,hm,hh,r,hf,k'⟩:=hsp;refine⟨t,h1 (),?_⟩;have S0:=FS (N:=N) (np:=false) hp hm hh r
   have fin:∀(x:PV) (n':Nat) (v:V) (G':Gh) (σ:St) (H':Hp) (env:Env),R x n'->SR ⟨K,T,G.M,G.pots,H,false⟩ G' σ H' env n'->Rep K ⟨G.M,G'.pots⟩ H' x v->Q v H':=by
     intro x n' v G' σ H' env rr S' rv
     have ep:G'.pots=G.pots:=by
       obtain⟨l,el,hl⟩:=S'.pre;rcases hl with hl | hl
       · rw [el,hl,AX]
       · cases hl
     rw [ep] at rv;exact k' _ _ _ _ rr rv (fun p hp'=>T.more (S'.pots p (by rw [ep];exact hp')).2 fun a ha=>.inl (S'.sup a ha)) S'.frame
   refine h2 _ G _ H _ n _ _ rfl rfl rfl S0 hf.2 ⟨fun env n' G' σ H' q S' _=>?_,fun x n' v G' σ H' env q S' rv _=>fin x n' v G' σ H' env q S' rv,fun _ _ _ _ _ q=>q.elim,fun _ _ _ _ _ q=>q.elim⟩;exact fin .non n' .non G' σ H' env q S' rfl
theorem law_ok (F0:Fn0 K mg x st)(sc:R8 N [y] (E5 st))
   (bd:∀(kV doc pm:Value) (an:Option Addr) (cdv ct:Value) (us:List Value),us.length=[y].length->bindArgs (P1 x x (U3 st) (N6 st) (E5 st) .none kV doc pm an cdv ct) ⟨us,[]⟩=pure ([y].zip us))
   (h:∀(f:Addr) (cdv:Value) (A:Around) (outer:List PySem.Env) (s:Shared) (H:Hp) (E:XK),Room k (A.deeper (Ck x (E5 st) s.heap.objs.size f cdv))->
     QSs T true K (fun _:Unit=>(cxOf CX0 P w K mg base N x (E5 st) f cdv A outer s H E).nox) (N6 st) body)
   (hlaw:∀ns:List Int,ns.length<=63->body ⟨fun _ _=>False,fun r _=>r=.bl true,fun _ _=>False,fun _ _=>False⟩ (Z1 N [.scr ns]) 0) (h0:T.has []:=by trivial) :
   Kn P w K mg base x (k + 1) [y] (Bl K):=by
 refine F0.ok sc (fun vs H Q E h=>?_) bd (fun f cdv A outer s H vs Q E hr hsp=>?_)
 · obtain⟨a,ns,rfl,_⟩:=h
   rfl
 · obtain⟨t,h1,h2⟩:=h f cdv A outer s H E hr;obtain⟨a,ns,rfl,hS,hl,hO,q⟩:=hsp;refine⟨t,h1 (),?_⟩
   let G:Gh:=⟨[],[]⟩
   have r:Reps K G H [.scr ns] [.ref a]:=by
     refine .one ⟨a,rfl,?_⟩;rcases hS with(hS | ⟨o,hS⟩) | hS
     · rcases hO a with z | ⟨o,xs,z⟩
       · rw [z] at hS;cases hS
       · rw [z] at hS;cases hS
     · exact .inl ⟨by simp [G],o,hS⟩
     · exact .inr hS
   have S0:=FS (T:=T) (N:=N) (np:=true) (n:=0) (G:=G) (fun p hp=>nomatch hp) (fun a ha=>nomatch ha) h0 r;refine h2 _ G _ H _ 0 _ _ rfl rfl rfl S0 (hlaw ns hl) ⟨fun _ _ _ _ _ q=>q.elim,fun x n' v G' σ H' env qq S' rv _=>?_,fun _ _ _ _ _ q=>q.elim,fun _ _ _ _ _ q=>q.elim⟩;subst qq;obtain rfl:v=.bl true:=rv;exact q H'
end
structure Am (own seed go:Int):Prop where
 o0:0<=own
 s0:0<=seed
 s1:seed < 2 ^ 62
 g0:0<=go
 g1:go<=2 ^ 40
def PotAt (H:Hp)(p:Addr)(n:Nat):Prop:=∃own seed go,H p=some (.lst [.int own,.int seed,.int go])/\Am own seed go/\go<=(n:Int)
def potL:PotK where
 at_:=fun _ H p n=>PotAt H p n
 mono:=fun⟨own,seed,go,a,b,c⟩ h=>⟨own,seed,go,a,b,by omega⟩
 keep:=fun⟨own,seed,go,a,b,c⟩ e _=>⟨own,seed,go,e.trans a,b,c⟩
 more:=fun h _=>h
 mu:=fun⟨own,seed,go,a,b,c⟩=>⟨_,a,trivial⟩
def t9:pF:=fun xs n R=>match xs with | [.pot _,.int m]=>(0 < m/\m < 1000000/\n < 1000000000)/\∀d:Int,0<=d->d < m->R (.int d) (n + 1) | _=>False
section
variable {P:C3}{w:World}{K:A3}{mg:Str->Option Value}{base:Heap}
def spDraw:Sp:=fun vs H Q _=>∃(p:Addr) (own seed go many:Int),vs=[.ref p,.int many]/\H p=some (.lst [.int own,.int seed,.int go])/\Am own seed go/\go < 2 ^ 40/\0 < many/\many < 1000000/\
 ∀d own' seed' go',0<=d->d < many->Am own' seed' go'->go'<=go + 1->Q (.int d) (upd H p (.lst [.int own',.int seed',.int go']))
theorem JV (G:Kn P w K mg base x k ps spDraw):Kn P w K mg base x k ps (D3 K potL t9):=G.imp fun vs H Q E h=>by
 obtain⟨G,xs,n,R,hp,hm,_,r,hf,k⟩:=h;unfold t9 at hf
 split at hf
 · rename_i kk m;obtain⟨v,rr,rfl,rv,u,r2,rfl,ru,rfl⟩:=r;obtain⟨p,ep,rfl⟩:=rv;obtain rfl:u=.int m:=ru;have pin:p∈G.pots:=J7 ep;obtain⟨pM,own,seed,go,e,ok,hg⟩:=hp p pin;refine⟨p,own,seed,go,m,rfl,e,ok,by omega,hf.1.1,hf.1.2.1,fun d own' seed' go' d0 d1 ok' g'=>?_⟩;refine k _ _ _ _ (hf.2 d d0 d1) rfl (fun q hq=>?_) fun b o hb eb=>?_
   · by_cases hqp:q=p
     · subst hqp;exact⟨own',seed',go',E4,ok',by omega⟩
     · obtain⟨_,o2,s2,g2,e2,ok2,hg2⟩:=hp q hq;exact⟨o2,s2,g2,by rw [B3 hqp];exact e2,ok2,by omega⟩
   · rw [B3 (fun z=>hb (by grind))];exact eb
 · grind
end
section
variable {ι:Type}{K:A3}{F:ι->Cx}{e:Expr}{es:List Expr}{st:Stmt}{pos:Pos}{pl:pA}{pe pa pb:pE}
theorem SR.pot {C:Ct}{G:Gh}{σ:St}{H:Hp}{env:Env}{n:Nat}(S:SR C G σ H env n)(hn:C.np=true)(hT:C.T=potL){p:Addr}{own seed:Int}(h:H p=none)(ok:Am own seed 0) :
   SR C ⟨p::G.M,G.pots++[p]⟩ σ (upd H p (.lst [.int own,.int seed,.int 0])) env n:=by
 have S1:=S.more (vs:=[.int own,.int seed,.int 0]) h
 have mm:∀{x:PV} {v:V} {H:Hp},Rep C.K ⟨p::G.M,G.pots⟩ H x v->Rep C.K ⟨p::G.M,G.pots++[p]⟩ H x v:=fun r=>Rep.mono (G:=⟨p::G.M,G.pots⟩) (G':=⟨p::G.M,G.pots++[p]⟩) (fun _ _ _ e=>e) (fun _ ha=>.inl ha) (fun k q e=>by
   obtain⟨hk,_⟩:=C5.mp e;show(G.pots++[p])[k]?=_
   rw [X2 hk];exact e) _ _ r
 have mms:∀{x:List PV} {v:List V} {H:Hp},Reps C.K ⟨p::G.M,G.pots⟩ H x v->Reps C.K ⟨p::G.M,G.pots++[p]⟩ H x v:=fun r=>Reps.mono (G:=⟨p::G.M,G.pots⟩) (G':=⟨p::G.M,G.pots++[p]⟩) (fun _ _ _ e=>e) (fun _ ha=>.inl ha) (fun k q e=>by
   obtain⟨hk,_⟩:=C5.mp e;show(G.pots++[p])[k]?=_
   rw [X2 hk];exact e) _ _ r
 have pM:=S.fresh h
 exact {
   frame:=S1.frame
   sub:=S1.sub
   sup:=S1.sup
   pots:=fun q hq=>by
     rcases E7.mp hq with z | z
     · exact S1.pots q z
     · rw [E1.mp z];refine⟨F4,?_⟩;rw [hT];exact⟨own,seed,0,E4,ok,by omega⟩
   pre:=by
     obtain⟨l,el,_⟩:=S1.pre;have el':G.pots=C.pots0++l:=el;exact⟨l++[p],by rw [el',x6],.inr hn⟩
   mu:=S1.mu
   slots:=fun i s e=>by
     cases s with
     | v x =>
       obtain⟨v,ev,r⟩:=S1.slots i _ e;exact⟨v,ev,mm r⟩
     | ow kk xs =>
       obtain⟨b,us,ev,h1,h2,h3,h4,r⟩:=S1.slots i _ e;obtain⟨b',us',ev',g1,_⟩:=S.slots i _ e;rw [ev] at ev';cases ev';refine⟨b,us,ev,h1,h2,fun z=>?_,h4,mms r⟩;rcases E7.mp z with z | z
       · exact h3 z
       · rw [E1.mp z] at g1;exact pM g1
   inj:=S1.inj
   p0:=⟨S1.p0.1,C.T.hasM S1.p0.2 fun z=>pM (S.pots p z).1⟩
   len:=S1.len
   newp:=fun q hq hn' hM=>by
     rcases E7.mp hq with z | z
     · exact S1.newp q z hn' hM
     · rw [E1.mp z] at hM
       exact pM (S.sup p hM) }
end
end Pu
end
section
namespace Pu
open PySem PySem.Spec L2
section
variable {T:PotK}{np:Bool}{ι:Type}{K:A3}{F:ι->Cx}{e a b c:Expr}{es:List Expr}{pe pa pb pc:pE}{pos:Pos}{pl pr:pA}
def U1:List PV->Option (List Str)
 | []=>some []
 | .str b::xs=>(U1 xs).map (b::·)
 | _=>none
theorem FT:∀{xs:List PV} {vs:List V} {bs:List Str},U1 xs=some bs->Reps K G H xs vs->vs=bs.map V.str
 | [],vs,bs,h,r=>by cases h;exact r
 | .str b :: xs, vs, bs, h, r => by
   obtain⟨v,t,e,rv,rt⟩:=r;cases e1:U1 xs with
   | none=>simp [U1,e1] at h
   | some cs =>
     have:b::cs=bs:=by simpa [U1,e1] using h
     subst this;rw [e,show v=.str b from rv,FT e1 rt]
     rfl
 | .non::_,_,_,h,_=>by cases h
 | .int _::_,_,_,h,_=>by cases h
 | .bl _::_,_,_,h,_=>by cases h
 | .ty _::_,_,_,h,_=>by cases h
 | .pot _::_,_,_,h,_=>by cases h
 | .tup _::_,_,_,h,_=>by cases h
 | .lst _::_,_,_,h,_=>by cases h
 | .dct _ _::_,_,_,h,_=>by cases h
 | .fdt _ _::_,_,_,h,_=>by cases h
 | .scr _::_,_,_,h,_=>by cases h
theorem FU:∀bs:List Str,U1 (bs.map PV.str)=some bs
 | []=>rfl
 | b::bs=>by simp [U1,FU bs]
def wNeg:w1:=fun x R=>match x with | .int i=>R (.int (-i)) | _=>False
theorem FV (h:QE T K F a pa):QE T K F (.UnaryOp .USub a pos) (qUn wNeg pa):=by
 obtain⟨t,a1,a2⟩:=h.r;refine⟨_,fun z=>pe_un EK (a1 z),ok_un (fun G H x v R Q hf rx hw k=>?_) a2⟩;unfold wNeg at hw
 split at hw
 · exact⟨_,rx.int,k _ _ _ hw (Same.refl _) rfl⟩
 · exact hw.elim
end
def An (i:Nat)(pe:pE):pE:=fun env n R=>(∃xs,env[i]?=some (some (.ow .lst xs)))/\Dh i pe env n R
end Pu
end
section
namespace Pu
open PySem PySem.Spec L2
theorem Dj {te:pE}{rest:Env}(f:PV->PV):∀(xs:List PV) (s0:Option Slot) (n:Nat) (R:List PV->Nat->Prop),(∀x∈xs,∀m Q,Q (f x) (some (.v x)::rest) m->te (some (.v x)::rest) m Q)->R (xs.map f) n->Q3 (gN 0) qTru te xs (s0::rest) n R
 | [],_,_,_,_,h=>h
 | x :: xs, s0, n, R, ht, h => by
   show te (some (.v x)::rest) n _;refine ht x F4 n _ ?_;exact Dj f xs _ n _ (fun y hy=>ht y (D0 _ hy)) h
theorem M7 {g:pG}{b:pS}{D:Q4}(I:Nat->Env->Nat->Prop):∀(xs:List PV) (k:Nat) (env:Env) (n:Nat),I k env n->
   (∀(i:Nat) x env n (N:Env->Nat->Prop),xs[i]?=some x->I (k + i) env n->(∀e m,I (k + i + 1) e m->N e m)->g x env fun env1=>b { D with nx:=N,ct:=N,bk:=D.nx } env1 n)->(∀env n,I (k + xs.length) env n->D.nx env n)->forL g b D xs env n
 | [],k,env,n,h0,_,hd=>hd env n h0
 | x :: xs, k, env, n, h0, hs, hd => by
   show g x env fun env1=>b { D with nx:=fun e m=>forL g b D xs e m,ct:=fun e m=>forL g b D xs e m,bk:=D.nx } env1 n;refine hs 0 x env n _ rfl h0 fun e m h1=>?_;refine M7 I xs (k + 1) e m h1 (fun i y env n N e1 h2 h3=>?_) fun env n h2=>hd env n (by rw [O5,show k + (xs.length + 1)=k + 1 + xs.length by omega];exact h2);refine hs (i + 1) y env n N (by simpa using e1) (by rw [show k + (i + 1)=k + 1 + i by omega];exact h2) fun e m h4=>h3 e m (by rw [show k + 1 + i + 1=k + (i + 1) + 1 by omega];exact h4)
theorem u0 {j i:Nat}{lo:Int}{x:PV}(h:((C2 j).map fun(k:Nat)=>PV.int (lo + k))[i]?=some x):i < j/\x=.int (lo + i):=by grind
theorem i3:((C2 j).map fun(k:Nat)=>PV.int (lo + k)).length=j:=by simp
theorem Dk {α:Type}{xs:List α}{d:Int}(h0:0<=d)(h1:d < xs.length):∃x,x∈xs/\atI xs d=some x:=by
 obtain⟨x,e1,e2⟩:=CU h0 h1;exact⟨x,J7 e1,e2⟩
theorem Dl (a b:Int):eqP (.int a) (.int b)=decide (a=b):=rfl
theorem Z2 (a b:Str):eqP (.str a) (.str b)=decide (a=b):=rfl
theorem eqP_ll (xs ys:List PV):eqP (.lst xs) (.lst ys)=eqPs xs ys:=rfl
theorem eqP_tt (xs ys:List PV):eqP (.tup xs) (.tup ys)=eqPs xs ys:=rfl
theorem FW (x y:PV)(xs ys:List PV):eqPs (x::xs) (y::ys)=(eqP x y && eqPs xs ys):=rfl
theorem JW:eqPs [] []=true:=rfl
theorem if_t {A B:Prop}(h:b=true)(q:A):if b=true then A else B:=by rw [if_pos h];exact q
theorem if_f {A B:Prop}{b:Bool}(h:b=false)(q:B):if b=true then A else B:=by grind
end Pu
end
section
namespace L2
open PySem PySem.Spec PyProof.Rows
def keyD:Key->PyData
 | .inl i=>.int i
 | .inr x=>.str x
mutual
def RdD (H:Hp):PyData->V->Prop
 | .none,v=>v=.non
 | .bool b,v=>v=.bl b
 | .int i,v=>v=.int i
 | .str x,v=>v=.str x
 | .list xs,v=>∃a vs,v=.ref a/\H a=some (.lst vs)/\RdDs H xs vs
 | .tuple xs,v=>∃a vs,v=.ref a/\H a=some (.tup vs)/\RdDs H xs vs
 | .dict kvs,v=>∃a ws,v=.ref a/\H a=some (.dK ws)/\RdKv H kvs ws
def RdDs (H:Hp):List PyData->List V->Prop
 | [],vs=>vs=[]
 | d::ds,vs=>∃v r,vs=v::r/\RdD H d v/\RdDs H ds r
def RdKv (H:Hp):List (PyData×PyData)->List (Key×V)->Prop
 | [],ws=>ws=[]
 | (k,d)::r,ws=>∃q w ws',ws=(q,w)::ws'/\k=keyD q/\RdD H d w/\RdKv H r ws'
end
section
variable {P:C3}{w:World}{H:Hp}{h:Heap}
mutual
theorem Dm (hok:HOk P w H h)(sy:NS H):∀(d:PyData) (v:V) (u:Value),RdD H d v->RelV v u->∃as,Reads h u d as/\K2∉as
 | .none, v, u, r, e => by
   obtain rfl:v=.non:=r;obtain rfl:u=.none:=e;exact⟨[],.none,nofun⟩
 | .bool b, v, u, r, e => by
   obtain rfl:v=.bl b:=r;obtain rfl:u=.bool b:=e;exact⟨[],.bool b,nofun⟩
 | .int i, v, u, r, e => by
   obtain rfl:v=.int i:=r;obtain⟨t,rfl⟩:=e;exact⟨[],.int i t,nofun⟩
 | .str x, v, u, r, e => by
   obtain rfl:v=.str x:=r;obtain⟨t,rfl⟩:=e;exact⟨[],.str x t,nofun⟩
 | .list xs, v, u, r, e => by
   obtain⟨a,vs,rfl,ha,rs⟩:=r;obtain rfl:u=.ref a:=e;obtain⟨_,its,n,rv,ho⟩:=hok a _ ha;obtain⟨as,rr,ns⟩:=Dn hok sy xs vs its rs rv;refine⟨a::as,.list ho rfl rfl rr,fun z=>?_⟩;rcases C0.mp z with z | z
   · rw [<- z] at ha;rcases sy with sy | ⟨o,u,sy⟩ <;> rw [sy] at ha <;> cases ha
   · exact ns z
 | .tuple xs, v, u, r, e => by
   obtain⟨a,vs,rfl,ha,rs⟩:=r;obtain rfl:u=.ref a:=e;obtain⟨_,its,rv,ho⟩:=hok a _ ha;obtain⟨as,rr,ns⟩:=Dn hok sy xs vs its rs rv;obtain⟨o,e1,e2,n,e3⟩:=ho;exact⟨as,.tuple e1 (o5 e2).1 e3 rr,ns⟩
 | .dict kvs, v, u, r, e => by
   obtain⟨a,ws,rfl,ha,rs⟩:=r;obtain rfl:u=.ref a:=e;obtain⟨_,hs,us,rv,o,es,ep,e1,e2,e3,_,e5,_⟩:=hok a _ ha;obtain⟨as,bs,r1,r2,n1,n2⟩:=FX hok sy kvs ws us es.toList rs rv e5;refine⟨a::as++bs,.dict e1 e2.1 e3 r1 r2,fun z=>?_⟩;rcases E7.mp z with z | z
   · rcases C0.mp z with z | z
     · rw [<- z] at hs;exact absurd hs (by decide)
     · exact n1 z
   · exact n2 z
theorem Dn (hok:HOk P w H h)(sy:NS H):∀(ds:List PyData) (vs:List V) (us:List Value),RdDs H ds vs->Vals vs us->∃as,ReadsAll h us ds as/\K2∉as
 | [], vs, us, r, e => by
   obtain rfl:vs=[]:=r;cases e;exact⟨[],.nil,nofun⟩
 | d :: ds, vs, us, r, e => by
   obtain⟨v,r',rfl,r1,r2⟩:=r;cases e with
   | cons e1 e2 =>
     obtain⟨as,a1,a2⟩:=Dm hok sy d v _ r1 e1;obtain⟨bs,b1,b2⟩:=Dn hok sy ds r' _ r2 e2;exact⟨as++bs,.cons a1 b1,fun z=>(E7.mp z).elim a2 b2⟩
theorem FX (hok:HOk P w H h)(sy:NS H):∀(kvs:List (PyData×PyData)) (ws:List (Key×V)) (us:List (Key×Value)) (es:List DictEntry),RdKv H kvs ws->KV ws us->Pairs (L0 P w) es us->
   ∃as bs,ReadsAll h (es.map (·.key)) (kvs.map (·.1)) as/\ReadsAll h (es.map (·.val)) (kvs.map (·.2)) bs/\K2∉as/\K2∉bs
 | [], ws, us, es, r, e, p => by
   obtain rfl:ws=[]:=r;cases e;cases p;exact⟨[],[],.nil,.nil,nofun,nofun⟩
 | (k, d) :: kvs, ws, us, es, r, e, p => by
   obtain⟨q,w1,ws',rfl,rfl,r1,r2⟩:=r;cases e with
   | cons e1 e2 =>
     cases p with
     | cons p1 p2 p3 =>
       obtain⟨as,bs,a1,a2,a3,a4⟩:=FX hok sy kvs ws' _ _ r2 e2 p3;obtain⟨e1,e1'⟩:=e1;dsimp only at e1 e1';obtain⟨cs,c1,c2⟩:=Dm hok sy d w1 _ r1 e1';rw [<- e1] at p1;refine⟨[]++as,cs++bs,.cons ?_ a1,.cons (by dsimp only;rw [p2];exact c1) a2,a3,fun z=>(E7.mp z).elim c2 a4⟩;rcases T9 p1 with⟨i,t,rfl,e⟩ | ⟨x,t,rfl,e⟩
       · dsimp only;rw [e];exact .int i t
       · dsimp only;rw [e];exact .str x t
end
end
section
variable {X:Cx}{pins:List (Addr×Obj)}{σ:St}{H:Hp}{s:Shared}
theorem JX (hr:Room k X.A):J1 X (.builtin "repr") (fun vs H Q=>∃v d,vs=[v]/\RdD H d v/\d.showable=true/\d.depth<=40/\d.shown.length<=B1/\Q (.str d.shown) H):=by
 intro pins s σ H vs us Q I rv h;obtain⟨v,d,rfl,r,h1,h2,h3,q⟩:=h;obtain⟨u,rfl,ru⟩:=rv.one;obtain⟨as,rr,ns⟩:=Dm I.hok I.nos d v u r ru;have fin:∀(h':Heap) (t:Tok) (tk:Tok),(∀b o,s.heap.get? b=some o->h'.get? b=some o)->∃v' H',Inv X pins σ H' { s with heap:=h',toks:=tk }/\RelV v' (.str d.shown t)/\Q v' H':=fun h' t tk kp=>⟨.str d.shown,H,I.kept kp,⟨t,rfl⟩,q⟩;cases rr with
 | none=>exact P.repr_of_none (fin s.heap _ _ fun _ _ z=>z)
 | bool b=>exact P.repr_of_bool (by cases b <;> exact fin s.heap _ _ fun _ _ z=>z)
 | int i t=>exact P.repr_of_int (by simpa [PyData.showable] using h1) (fin s.heap _ _ fun _ _ z=>z)
 | str x t=>exact P.repr_of_str (fin s.heap _ _ fun _ _ z=>z) h3
 | list e1 e2 e3 e4=>exact repr_of_reads' (.list e1 e2 e3 e4) h1 (fun _=>ns) hr.gd (by have:=hr.units;omega) (fun _ _ z=>z) (fun h' u tk kp=>fin h' u tk kp) h3
 | tuple e1 e2 e3 e4=>exact repr_of_reads' (.tuple e1 e2 e3 e4) h1 (fun _=>ns) hr.gd (by have:=hr.units;omega) (fun _ _ z=>z) (fun h' u tk kp=>fin h' u tk kp) h3
 | dict e1 e2 e3 e4 e5=>exact repr_of_reads' (.dict e1 e2 e3 e4 e5) h1 (fun _=>ns) hr.gd (by have:=hr.units;omega) (fun _ _ z=>z) (fun h' u tk kp=>fin h' u tk kp) h3
end
end L2
namespace Pu
open PySem PySem.Spec L2
mutual
/-- what a thing holds, for repr -/
def dat:PV->Option PyData
 | .non=>some .none
 | .bl b=>some (.bool b)
 | .int i=>some (.int i)
 | .str x=>some (.str x)
 | .tup xs=>match dats xs with | some ds=>some (.tuple ds) | none=>none
 | .lst xs=>match dats xs with | some ds=>some (.list ds) | none=>none
 | .dct ks xs=>match dats xs with | some ds=>some (.dict ((ks.map keyD).zip ds)) | none=>none
 | _=>none
def dats:List PV->Option (List PyData)
 | []=>some []
 | x::xs=>match dat x,dats xs with | some d,some ds=>some (d::ds) | _,_=>none
end
theorem kv_rd:∀(kvs:List (Key×V)) (ds:List PyData),RdDs H ds (kvs.map (·.2))->RdKv H (((kvs.map (·.1)).map keyD).zip ds) kvs
 | [], ds, r => by
   cases ds with
   | nil=>exact rfl
   | cons d ds=>obtain⟨v,r',e,_⟩:=r;cases e
 | (q, w) :: kvs, ds, r => by
   cases ds with
   | nil=>exact(List.cons_ne_nil _ _ r).elim
   | cons d ds =>
     obtain⟨v,r',e,r1,r2⟩:=r;cases e;exact⟨q,w,kvs,rfl,rfl,r1,kv_rd kvs ds r2⟩
section
variable {K:A3}{G:Gh}{H:Hp}
mutual
theorem FY:∀(x:PV) (v:V) (d:PyData),Rep K G H x v->dat x=some d->RdD H d v
 | .non,v,d,r,e=>by cases e;exact r
 | .bl b,v,d,r,e=>by cases e;exact r
 | .int i,v,d,r,e=>by cases e;exact r
 | .str x,v,d,r,e=>by cases e;exact r
 | .tup xs, v, d, r, e => by
   obtain⟨a,vs,rfl,t,rs⟩:=r;rw [dat] at e;cases ed:dats xs with
   | none=>rw [ed] at e;cases e
   | some ds=>rw [ed] at e;cases e;exact⟨a,vs,rfl,t.2,Ao xs vs ds rs ed⟩
 | .lst xs, v, d, r, e => by
   obtain⟨a,vs,rfl,t,rs⟩:=r;rw [dat] at e;cases ed:dats xs with
   | none=>rw [ed] at e;cases e
   | some ds=>rw [ed] at e;cases e;exact⟨a,vs,rfl,t.2,Ao xs vs ds rs ed⟩
 | .ty _,v,d,r,e=>by cases e
 | .pot _,v,d,r,e=>by cases e
 | .scr _,v,d,r,e=>by cases e
 | .fdt _ _,v,d,r,e=>by cases e
 | .dct ks xs, v, d, r, e => by
   obtain⟨a,kvs,rfl,_,ha,hk,rs⟩:=r;rw [dat] at e;cases ed:dats xs with
   | none=>rw [ed] at e;cases e
   | some ds=>rw [ed] at e;cases e;exact⟨a,kvs,rfl,ha,hk▸kv_rd kvs ds (Ao xs _ ds rs ed)⟩
theorem Ao:∀(xs:List PV) (vs:List V) (ds:List PyData),Reps K G H xs vs->dats xs=some ds->RdDs H ds vs
 | [],vs,ds,r,e=>by cases e;exact r
 | x :: xs, vs, ds, r, e => by
   obtain⟨v,r',rfl,r1,r2⟩:=r;rw [dats] at e;cases e1:dat x with
   | none=>rw [e1] at e;cases e
   | some d =>
     cases e2:dats xs with
     | none=>rw [e1,e2] at e;cases e
     | some ds'=>rw [e1,e2] at e;cases e;exact⟨v,r',rfl,FY x v d r1 e1,Ao xs r' ds' r2 e2⟩
end
end
def Ap:w1:=fun x R=>match dat x with | some d=>d.showable=true/\d.depth<=40/\d.shown.length<=B1/\R (.str d.shown) | none=>False
theorem bt_repr:F5 "repr"=some (.builtin "repr"):=by decide +kernel
section
variable {T:PotK}{ι:Type}{K:A3}{F:ι->Cx}{e:Expr}{pe:pE}{pos:Pos}
theorem FZ (hr:∀z,Room k (F z).A)(hg:∀z,Gl (F z) "repr")(hm:∀z,(F z).mg "repr"=none)(ha:QR T K F e pe)(hs:C9 e=true:=by rfl):QE T K F (.Call (.Name "repr" p) [e] [] pos) (qUn Ap pe):=Dc (fun z=>JX (hr z)) (fun G H x v R Q hf rx hw k=>by
 unfold Ap at hw;cases ed:dat x with
 | none=>rw [ed] at hw;exact hw.elim
 | some d =>
   rw [ed] at hw;obtain⟨h1,h2,h3,q⟩:=hw;refine⟨v,d,rfl,?_,h1,h2,h3,k _ _ _ q (Same.refl _) rfl⟩;rcases rx with rx | ⟨a,vs,xs,rfl,rfl,hv,rs⟩
   · exact FY x v d rx ed
   · rw [dat] at ed;cases es:dats xs with
     | none=>rw [es] at ed;cases ed
     | some ds=>rw [es] at ed;cases ed;exact⟨a,vs,rfl,hv,Ao xs vs ds rs es⟩) hg hm bt_repr ha hs
end
end Pu
end
section
namespace HT
open PySem PySem.Spec PyProof.Rows
section
variable {prog:C3}{w:World}{A:Around}{E:Value->Shared->Prop}{s:Shared}
theorem JY (n:Nat):x9 none none (-1) (n:Int)=((n:Int) - 1,-1):=rfl
theorem JZ (n:Nat):X5 ((n:Int) - 1) (-1) (-1)=n:=by
 unfold X5;rw [if_neg (by decide)];have h1:(- -1:Int)=1:=by decide
 rw [h1]
 by_cases h:(n:Int) - 1 > -1
 · rw [if_pos h,Int.ediv_one];omega
 · rw [if_neg h];omega
theorem J_ {n:Nat}(hs:s.heap.IsSliceOf sl .none .none vk)(pk:IsPart vk (some (-1)))
   (h:Q ((n:Int) - 1,-1,n) s):wpAny (model prog w) A (Bc (.ref sl) (pure (n:Int))) Q E s:=by
 obtain⟨os,hos,hcs,hds⟩:=id hs;unfold Bc Ex;refine A1 (A1 (G9 hos hds (x:=.none) rfl (A1 (G9 hos hds (x:=.none) rfl (A1 (G9 hos hds (x:=vk) rfl (A6 ?_)))))));refine A1 (z0 pk ?_);show wpAny _ _ (if((-1:Int) == 0)=true then _ else _) _ _ s;rw [if_neg (by decide)];refine A1 (z0 .none (A1 (z0 .none (A1 (A6 ?_)))));show wpAny _ _ (match x9 none none (-1) (n:Int) with | (lo,hi)=>pure (lo,(-1:Int),X5 lo hi (-1))) _ _ s;rw [JY];show wpAny _ _ (pure ((n:Int) - 1,(-1:Int),X5 ((n:Int) - 1) (-1) (-1))) _ _ s;rw [JZ];exact A6 h
theorem F_ {α β:Type}{f g:α->Option β}:∀l:List α,(∀m∈l,f m=g m)->l.filterMap f=l.filterMap g
 | [],_=>rfl
 | x::l,h=>by rw [x4,x4,h x F4,F_ l fun m hm=>h m (D0 _ hm)]
theorem Ka (xs:Array Value):((C2 xs.size).filterMap fun(m:Nat)=>xs[((xs.size:Int) - 1 + (m:Int) * -1).toNat]?).toArray=xs.toList.reverse.toArray:=by
 congr 1
 have e:(C2 xs.size).filterMap (fun(m:Nat)=>xs[((xs.size:Int) - 1 + (m:Int) * -1).toNat]?)=((C2 xs.size).map fun k=>xs.size - 1 - k).filterMap (xs[·]?):=by
   rw [List.filterMap_map];refine F_ _ fun m hm=>?_;have:=M1.mp hm;show _=xs[xs.size - 1 - m]?
   congr 1
   omega
 rw [e,PySem.W.krv_range,List.filterMap_reverse,PySem.W.krv_all]
theorem getItem_tuple_rev (ht:IsTup s.heap t items)(hs:s.heap.IsSliceOf sl .none .none vk)(pk:IsPart vk (some (-1)))
   (h:Q (.ref s.heap.objs.size) { s with heap:=s.heap.push { cls:=.type "tuple",data:=.seq items.toList.reverse.toArray } })
   (hsz:items.size<=B1):wpAny (model prog w) A (getItem (.ref t) (.ref sl)) Q E s:=by
 have htake:sizeOk (.seq items.toList.reverse.toArray):=by
   show items.toList.reverse.toArray.size<=B1;rw [D8,Ci,l8];omega
 obtain⟨os,hos,hcs,hds⟩:=id hs;have hTs:s.TypeIs (.ref sl) "slice":=⟨os,hos,hcs⟩;unfold getItem
 try with_reducible refine X0 ?_
 first | refine A1 (A6 ?_) | skip
 refine A1 (wpAny_sequenceKey ht.typeIs (by decide) ?_)
 refine A1 (W8 (name:=C1 "__getitem__") ht.typeIs k9
   (T4 k9 ht.typeIs entry_tuple_getitem ?_ (args_tuple_getitem _ _)))
 show wpAny _ _ (Cm (.ref t)>>=_) _ _ s;refine A1 (tupleItemsOf_ ht ?_);refine A1 (w6 hTs ?_);rw [if_pos (by decide)];refine A1 (J_ hs pk ?_)
 have hno:¬((((items.size:Int) - 1) == 0 && (-1:Int) == 1 && items.size == items.size)=true):=by
   intro q;rw [V4,V4] at q;exact absurd (eq_of_beq q.1.2) (by decide)
 show wpAny _ _ (if(((items.size:Int) - 1) == 0 && (-1:Int) == 1 && items.size == items.size)=true then _ else _) _ _ s;rw [if_neg hno,Ka]
 first
   | exact A1 (m:=X7 _) (L6 (A6 ⟨_,rfl,A6 h⟩) htake)
   | exact A1 (m:=X7 _) (L6 (A1 (A6 (A6 ⟨_,rfl,A6 h⟩))) htake)
   | exact A1 (A1 (m:=X7 _) (L6 (A6 (A6 ⟨_,rfl,A6 h⟩)) htake))
   | exact A1 (A1 (m:=X7 _) (L6 (A6 ⟨_,rfl,A6 h⟩) htake))
end
end HT
namespace L2
open PySem PySem.Spec PyProof.Rows
section
variable {X:Cx}{e st:Expr}{te:TE}{ts:TE}{pos p2:Pos}
def rRev (K:A3):V->Hp->VK->Prop:=fun x H Q=>∃a xs,x=.ref a/\((SqL K H a xs/\∀p,H p=none->Q (.ref p) (upd H p (.lst xs.reverse)))\/(SqT K H a xs/\∀p,H p=none->Q (.ref p) (upd H p (.tup xs.reverse))))
def tRev (K:A3)(te ts:TE):TE:=fun σ H Q=>te σ H fun x H1=>ts σ H1 fun y H2=>y=.int (-1)/\rRev K x H2 Q
theorem Vals.rev (r:Vals xs us):Vals xs.reverse us.reverse:=by
 induction r with
 | nil=>exact .nil
 | cons r1 _ ih =>
   rw [AR,AR];exact ih.append (.cons r1 .nil)
theorem pe_rev (he:PE X e te)(hs:PE X st ts):PE X (.Subscript e (.Slice none none (some st) p2) pos) (tRev X.K te ts):=by
 intro pins s σ H Q I h;refine Subscript_ (thn (he pins s σ H _ I h) fun v s1 ⟨x,H1,I1,r1,q1⟩=>?_);refine wpAny_Slice ?_;rw [evalPart_none];refine A6 (A6 ?_);rw [evalPart_some];refine thn (hs pins s1 σ H1 _ I1 q1) fun vk s3 ⟨y,H3,I3,ry,q3⟩=>?_;obtain⟨rfl,a,xs,rfl,q⟩:=q3;obtain⟨t,rfl⟩:=ry;obtain rfl:v=.ref a:=r1;have I4:Inv X pins σ H3 { s3 with heap:=s3.heap.push { cls:=.type "slice",data:=.fields #[.none,.none,.int (-1) t] } }:=I3.kept (t':=s3.toks) fun b ob q=>B6 _ q;show wpAny (model X.prog X.w) X.A (subscriptTail e (.Slice none none (some st) p2) (.ref a) (.ref s3.heap.objs.size)) (EP X pins σ Q) X.xe { s3 with heap:=s3.heap.push { cls:=.type "slice",data:=.fields #[.none,.none,.int (-1) t] } };rcases q with⟨hq,q⟩ | ⟨hq,q⟩
 · obtain⟨its,r,ht,hz⟩:=I4.list hq;refine tail_any (ops:=[.ref a,.ref s3.heap.objs.size]) ht.isList.typeIs slot_list_getitem.lookup ?_ (by with_unfolding_all rfl);refine wpAny_getItem_list_slice ht.isList (Cw ..) .none .none (.int (-1) t) (by decide) ?_ (by rw [D8];have:=r.length;omega);rw [PySem.W.krv_pick];refine⟨.ref _,_,I4.laid (t':=s3.toks) (o:=.lst xs.reverse) (fun b ob q=>B6 _ q) (A8 _) ?_,rfl,q _ (I4.hok.fresh (A8 _))⟩;exact⟨by rw [Ci];exact hz,its.reverse,0,r.rev,E6 _ rfl⟩
 · obtain⟨its,r,ht,hz⟩:=I4.tuple hq;refine tail_any (ops:=[.ref a,.ref s3.heap.objs.size]) ht.typeIs PyProof.Rows.slot_tuple_getitem.lookup ?_ (by with_unfolding_all rfl);refine HT.getItem_tuple_rev ht (Cw ..) (.int (-1) t) ?_ (by rw [D8];have:=r.length;omega);refine⟨.ref _,_,I4.laid (t':=s3.toks) (o:=.tup xs.reverse) (fun b ob q=>B6 _ q) (A8 _) ?_,rfl,q _ (I4.hok.fresh (A8 _))⟩;exact⟨by rw [Ci];exact hz,its.reverse,r.rev,R4.new _ _⟩
end
end L2
namespace Pu
open PySem PySem.Spec L2
section
variable {T:PotK}{ι:Type}{K:A3}{F:ι->Cx}{e:Expr}{pe:pE}{pos p2 p3 p4:Pos}
theorem Reps.rev:∀{xs:List PV} {vs:List V},Reps K G H xs vs->Reps K G H xs.reverse vs.reverse
 | [],vs,r=>by obtain rfl:vs=[]:=r;exact rfl
 | x :: xs, vs, r => by
   obtain⟨v,r',rfl,r1,r2⟩:=r;rw [AR,AR];exact(Reps.rev r2).append ⟨v,[],rfl,r1,rfl⟩
def wRev:w1:=fun x R=>match x with | .lst xs=>R (.lst xs.reverse) | .tup xs=>R (.tup xs.reverse) | _=>False
theorem qe_rev {i:Nat}(he:QR T K F e pe)(hK:∀z,(F z).K=K:=by intro _;rfl):QE T K F (.Subscript e (.Slice none none (some (.UnaryOp .USub (.Constant (.int 1) i p3) p4)) p2) pos) (qUn wRev pe):=by
 obtain⟨t,h1,h2⟩:=he;refine⟨_,fun z=>hK z▸pe_rev (h1 z) (pe_un EK D1),fun C G σ H env n R Q hK hT S hp k=>?_⟩;refine h2 C G σ H env n _ _ hK hT S hp fun x env1 n1 v H1 p1 S1 r1 f1=>?_;subst hK;have rx:=r1.rd S1;refine⟨1,rfl,rfl,?_⟩;unfold wRev at p1
 split at p1
 · obtain⟨a,vs,ev,hq,r⟩:=rx.lst;exact⟨a,vs,ev,.inl ⟨hq,fun p hn=>k _ _ _ _ _ p1 (S1.same (Same.lay1 hn)) (Ad (S1.fresh hn) hn r.rev) (f1.trans (Fr.of (Same.lay1 hn)))⟩⟩
 · obtain⟨a,vs,ev,hq,r⟩:=rx.tup;exact⟨a,vs,ev,.inr ⟨hq,fun p hn=>k _ _ _ _ _ p1 (S1.same (Same.lay1 hn)) (Y4 (S1.fresh hn) hn r.rev) (f1.trans (Fr.of (Same.lay1 hn)))⟩⟩
 grind
end
end Pu
end
section
namespace L2
open PySem PySem.Spec PyProof.Rows
def Itd (a:Int)(n:Nat):It:=⟨fun i _=>i < n,fun i H x H'=>H'=H/\x=.int (a - i),fun i _=>n<=i⟩
theorem Kb {K:A3}(it:Addr)(lo:Int)(n:Nat):Turn P w K tg (Itd lo n) [it] it (fun i h=>IsRangeIter h it (lo + (i:Nat) * -1) ((n:Int) - (i:Nat)) (-1)) where
 mem:=by simp
 obj:=fun i h st b hb=>by
   have e:b=it:=by simpa using hb
   subst e
   exact⟨_,st,fun v z=>by
     have z':Data.fields _=Data.cell v:=z
     cases z'⟩
 keep:=fun i h h' st k=>k it (by simp) _ st
 item:=by
   intro X hP hw hK hc i pins s σ H E I hf st hg;subst hP hw hK;obtain⟨f0,f1,f2,f3,f4,f5⟩:=hf it (by simp);have W:=Walks.range (prog:=X.prog) (w:=X.w) (I.ok.hd hc) it lo (-1) n;refine W.item i s _ _ hg st fun v h' tk hv st' kk=>?_;obtain⟨t,rfl⟩:=hv;have I1:Inv X pins σ H { s with heap:=h',toks:=tk }:=I.turned (fun b o hb e=>kk b o (by simpa using hb) e) f0 f1 f3 f4 f5;refine⟨_,rfl,y8 (s:={ s with heap:=h',toks:=tk }) (n:="range_iterator") st' rfl rfl (by decide) ⟨.int (lo - i),H,I1,⟨t,?_⟩,⟨rfl,rfl⟩,st',fun b hb=>(hf b hb).1⟩⟩;have e:lo + (i:Int) * -1=lo - i:=by omega
   rw [e]
 done:=by
   intro X hP hw hK hc i pins s σ H E I hf st hg;subst hP hw hK;obtain⟨f0,f1,f2,f3,f4,f5⟩:=hf it (by simp);exact wpAny_pyNext_range_end (I.ok.hd hc) st (by have:n<=i:=hg;omega) fun h' eb=>⟨rfl,I.turned (t':=s.toks) (fun b o hb e=>eb b o hb e) f0 f1 f3 f4 f5⟩
 self:=fun _ _ _ _ _ st h=>Ca st h
end L2
namespace Pu
open PySem PySem.Spec L2
section
variable {T:PotK}{ι:Type}{K:A3}{F:ι->Cx}{tg a b c:Expr}{pa pb pc:pE}{pos:Pos}
theorem Kc {K:A3}{G:Gh}{H:Hp}(lo:Int)(m:Nat):ItR K G H (Itd lo m) ((C2 m).map fun(k:Nat)=>PV.int (lo - k)):=by
 intro G2 H2 hk hM hp hf;refine⟨fun i x e=>?_,fun i hi=>(show m<=i by simpa using hi)⟩;rw [G6] at e;cases e1:(C2 m)[i]? with
 | none=>rw [e1] at e;cases e
 | some j =>
   rw [e1] at e;cases e;obtain⟨hi,e2⟩:=C5.mp e1;rw [List.getElem_range] at e2;subst e2;refine⟨(show i < m by simpa using hi),fun v H3 y=>?_⟩;obtain⟨e3,y⟩:=y;subst e3 y;exact⟨Same.refl _,rfl⟩
end
end Pu
end
section
namespace L2
open PySem PySem.Spec PyProof.Rows
theorem Ga:∀{ys:List Str} {us:List Value},Vals (ys.map V.str) us->StrsAre us ys
 | [],us,r=>by rw [List.map_nil] at r;cases r;exact .nil
 | y :: ys, us, r => by
   rw [G7] at r;cases r with
   | cons r1 r2 =>
     obtain⟨t,e⟩:=r1;subst e;exact .cons y t (Ga r2)
end L2
end
section
namespace L2
open PySem PySem.Spec PyProof.Rows
section
variable {X:Cx}{pos:Pos}
theorem Kd:seqSlot? (.type "list") (dunderI "add")=pure (some (.builtin "list.__iadd__")):=rfl
theorem Ke:fillsInplaceSlot (.type "list") "add" (Operator.Add == .Add)=pure false:=rfl
def Gb:R2:=fun x y H Q=>∃l b xs zs,x=.ref l/\y=.ref b/\H l=some (.lst xs)/\H b=some (.lst zs)/\xs.length + zs.length<=B1/\Q (.ref l) (upd H l (.lst (xs++zs)))
theorem Kf:OpR X (inplaceOp .Add) Gb:=by
 intro pins s σ H x y v u Q I rx ry h;obtain⟨l,b,xs,zs,rfl,rfl,hH,hB,hz,q⟩:=h;cases rx;cases ry;obtain⟨z,its,n,r,hl,e⟩:=I.lstM hH;obtain⟨z2,its2,n2,r2,hl2,e2⟩:=I.lstM hB;have hsz:its.toArray.size + its2.toArray.size<=B1:=by rw [D8,D8];omega
 have hlong:¬(!its.toArray.isEmpty && Cv (its.toArray.size + its2.toArray.size))=true:=by
   rw [Ji hsz,Bool.and_false];exact N1
 have ha:s.TypeIs (.ref l) "list":=⟨_,e,rfl⟩;have hb:s.TypeIs (.ref b) "list":=⟨_,e2,rfl⟩;unfold inplaceOp;refine X0 ?_;refine A1 (w6 ha (A1 (O0 Ke ?_)));show wpAny _ _ (if false=true then _ else _) _ _ s;rw [if_neg N1];refine A1 (binaryOp1_none (nm:="add") ha hb noFill_list_add ?_);refine A1 (O0 Kd ?_);refine A1 (V1 ?_)
 refine call_meets F.slot_list_iadd ha F.entry_list_iadd (F.args_list_iadd_2 _ _)
   (AutoSeq1.list___iadd___list_list_0 l its.toArray n b its2.toArray n2 hlong (by omega) (by omega)) ⟨e,e2,?_⟩
 refine⟨.ref l,_,I.lset (its':=its++its2) hH e (by simp) (r.append r2) ?_,rfl,q⟩;rw [E3];omega
end
end L2
namespace Pu
open PySem PySem.Spec L2
section
variable {T:PotK}{np:Bool}{ι:Type}{K:A3}{F:ι->Cx}{e:Expr}{st:Stmt}{pe:pE}{pos:Pos}
theorem Gc {X:Cx}{i:Nat}{x:Str}{e:Expr}{op:Operator}{ti:TIp}{pos' pos:Pos}(hN:X.N.Nodup)(hi:X.N[i]?=some x)(hx:Loc X.env.scope x)(ho:OpR X (inplaceOp op) ti)(hf:X.fn x=true\/X.env.scope.names.lookup x=some .local:=by first | exact .inl rfl | exact .inr rfl | assumption)(te:TE)(h:EW X e te):SW X (.AugAssign (.Name x pos') op e pos) (tAug i te ti):=⟨ps_aug hN hi hx h.h ho hf⟩
def Do (i:Nat)(pe:pE):pS:=fun D env n=>(∃xs,env[i]?=some (some (.ow .lst xs)))/\pe env n fun y env1 n1=>match env1[i]?,y with | some (some (.ow .lst xs)),.lst ys=>xs.length + ys.length<=1000000/\D.nx (env1.set i (some (.ow .lst (xs++ys)))) n1 | _,_=>False
theorem Kg (i:Nat)(h:∀z te,EW (F z) e te->SW (F z) st (tAug i te Gb))(he:QE T K F e pe):QS T np K F st (Do i pe):=by
 obtain⟨t,a1,a2⟩:=he;refine⟨_,fun z=>(h z _ ⟨a1 z⟩).h,fun C G σ H env n PD D hK hT hn S hp L=>?_⟩;obtain⟨⟨xs0,e0⟩,hp⟩:=hp;obtain⟨a,vs,ev,h1,h2,h3,h4,r⟩:=S.slots i _ e0;refine⟨.ref a,ev,?_⟩;refine a2 C G σ H env n _ _ hK hT S hp fun y env1 n1 v H1 q1 S1 r1 f1=>?_
 split at q1
 · rename_i xs ys ex;obtain⟨a',us,ev',g1,g2,g3,g4,r'⟩:=S1.slots i _ ex;rw [ev] at ev';cases ev';subst hK;obtain⟨b,ws,rfl,tb,rb⟩:=r1;obtain⟨S2,f2⟩:=S1.put ex ev (r'.append rb);refine⟨a,b,us,ws,rfl,rfl,g4,tb.2,by rw [<- r'.length,<- rb.length];exact mil q1.1,?_⟩
   have es:σ.set i (some (.ref a))=σ:=by
     obtain⟨hi,e⟩:=C5.mp ev;rw [<- e];exact List.set_getElem_self hi
   show D.nx (σ.set i (some (.ref a))) _;rw [es];exact L.nx _ _ _ _ _ q1.2 S2 (Ext.fr (f1.trans f2))
 · exact q1.elim
def qAug (i:Nat)(w:w2)(pe:pE):pS:=fun D env n=>match env[i]? with | some (some (.v x))=>(pe env n fun y env1 n1=>w x y fun z=>D.nx (env1.set i (some (.v z))) n1) | _=>False
theorem qs_aug (i:Nat){ti:TIp}{w:w2}(hw:W2 K ti w)(h:∀z te,EW (F z) e te->SW (F z) st (tAug i te ti))(he:QE T K F e pe):QS T np K F st (qAug i w pe):=by
 obtain⟨t,a1,a2⟩:=he;refine⟨_,fun z=>(h z _ ⟨a1 z⟩).h,fun C G σ H env n PD D hK hT hn S hp L=>?_⟩;unfold qAug at hp
 split at hp
 · rename_i x ex;obtain⟨v,ev,rv⟩:=S.slots i _ ex;refine⟨v,ev,?_⟩;refine a2 C G σ H env n _ _ hK hT S hp fun y env1 n1 u H1 q1 S1 r1 f1=>?_;subst hK;refine hw G H1 x y v u _ _ (fun p hp=>S1.fresh hp) (.inl (rv.fr f1)) (.inl r1) q1 fun z v' H' rz s rv'=>?_;exact L.nx _ _ _ _ _ rz ((S1.same s).set i rv') (Ext.fr (f1.trans (Fr.of s)))
 · exact hp.elim
def Dp:w2:=wI0 fun i j=>.int (i + j)
theorem Kh (i:Nat)(h:∀z te,EW (F z) e te->SW (F z) st (tAug i te (rI0 fun i j=>.int (i + j))))(he:QE T K F e pe):QS T np K F st (qAug i Dp pe):=qs_aug i (W2.I0 fun _ _ _ _=>rfl) h he
end
end Pu
end
section
namespace Pu
open PySem PySem.Spec L2
section
variable {ι:Type}{K:A3}{F:ι->Cx}{a b:Expr}{pos pos':Pos}{pa pb:pE}
def BD (K:A3):Sp:=fun vs H Q _=>∃(a:Addr) (ns:List Int) (k:Int),vs=[.ref a,.int k]/\SqL K H a (ns.map V.int)/\ns.length<=63/\0<=k/\k<=1000/\
 ∀H1,Same H H1->∀p own seed,H1 p=none->Am own seed 0->Q (.ref p) (upd H1 p (.lst [.int own,.int seed,.int 0]))
def Dq (i:Nat)(pa pb:pE):pS:=fun D env n=>pa env n fun x env1 n1=>pb env1 n1 fun y env2 n2=>match x,y with | .scr ns,.int k=>(ns.length<=63/\0<=k/\k<=1000)/\∀q:Nat,D.nx (env2.set i (some (.v (.pot q)))) n2 | _,_=>False
theorem Ki (i:Nat){st:Stmt}{x:Str}{p:Pos}{k j:Nat}{ps:List Str}(h:∀z te,EW (F z) (.Call (.Name x p) [a,b] [] pos) te->SW (F z) st (tAsg te (N3 i)))(hG:∀z,Kn (F z).prog (F z).w (F z).K (F z).mg (F z).base x k ps (BD K))(hr:∀z,Room j (F z).A)(hk:k<=j)(hg:∀z,Gl (F z) x)
   (ha:QE potL K F a pa) (hb:QE potL K F b pb) (n1:C9 a=true:=by rfl) (n2:C9 b=true:=by rfl) (hdb:(x == ("__debug__":Str))=false:=by decide):QS potL true K F st (Dq i pa pb):=by
 obtain⟨t,a1,a2⟩:=ha;obtain⟨u,b1,b2⟩:=hb;refine⟨_,fun z=>(h z _ ⟨pe_fn (hG z) (hr z) hk (hg z) (C6 (a1 z) (C6 (b1 z) E9 (B2 n2)) (B2 n1)) hdb (B2 n1) (by rw [B2 n2];rfl)⟩).h,fun C G σ H env n PD D hK hT hn S hp L=>?_⟩;refine a2 C G σ H env n _ _ hK hT S hp fun x env1 n1 v H1 q1 S1 r1 f1=>?_;refine b2 C G σ H1 env1 n1 _ _ hK hT S1 q1 fun y env2 n2 w H2 q2 S2 r2 f2=>?_
 split at q2
 · rename_i ns kk;obtain⟨a,ev,hq⟩:=Ag (.inl (r1.fr f2));refine(show BD K [v,w] H2 (fun x H1=>N3 i x σ H1 D.nx) E0 from ?_);refine⟨a,ns,kk,by rw [ev,show w=.int kk from r2],hq,q2.1.1,q2.1.2.1,q2.1.2.2,fun H3 sm p own seed hn' ok=>?_⟩;have S3:=(S2.same sm).pot hn hT hn' ok;have S4:=S3.set i (x:=.pot G.pots.length) (v:=.ref p) ⟨p,by simp,rfl⟩;refine L.nx _ _ _ _ _ (q2.2 _) S4 ((Ext.fr ((f1.trans f2).trans (Fr.of sm))).trans ⟨fun b o _ e=>Same.lay1 hn' b o e,fun c hc=>(C0.mp (show c∈p::G.M from hc)).elim (fun z=>.inr (z▸hn')) .inl,fun k q e=>?_⟩);obtain⟨hk,_⟩:=C5.mp e;show(G.pots++[p])[k]?=_;rw [X2 hk];exact e
 · exact q2.elim
end
end Pu
end
section
namespace L2
open PySem PySem.Spec PyProof.Rows
theorem Kj {X:Cx}{scope:Scope}{cl:List (Str×Addr)}{N:List Str}{cs:List (Option Nat)}{elt tg iter:Expr}{ifs:List Expr}{pos spos py:Pos}{wi:TI}{g:TG}{tt:TT}{te:TE}{i:Nat}{y:Str}(hN:X.N.Nodup)(hiy:X.N[i]?=some y)(hy:Loc X.env.scope y)(S:Y2 X scope cl N cs)(hc:X.calm=true)(hi:PI X tg iter wi)
   (hb:∀(fp:List Addr) (C:Addr) (s:Shared) (H:Hp),PG (B7 X scope cl N fp C s H) tg g/\PIf (B7 X scope cl N fp C s H) ifs tt/\PE (B7 X scope cl N fp C s H) elt te)
   (hsw:T5 (.ListComp elt [⟨tg,iter,ifs,0⟩] scope pos) (some (.Name y py)) spos.line X.env=pure true:=by rfl)
   (hs:∀x,N9 iter X.env x=pure x:=by intro _;rfl) (hff:X.fn y=true\/X.env.scope.names.lookup y=some .local:=by first | exact .inl rfl | exact .inr rfl | assumption) :
   PS X (.Assign [.Name y py] (.ListComp elt [⟨tg,iter,ifs,0⟩] scope pos) spos) (tAsg (CQ cs wi g tt te) (N3 i)):=by
 have bn:∀(M:Model) (A:Around) (v:Value) (Q:Unit->Shared->Prop) (E:Value->Shared->Prop) (s:Shared),wpAny M A (storeName X.env y v) Q E s->wpAny M A (assign (.Name y py) X.env v) Q E s:=fun M A v Q E s h=>wpAny_assign_Name h;intro pins s σ H DD I h;rw [exec_Assign_Name_used _ _ _ _ hsw];refine A1 (V0 (A1 ?_));show wpAny _ _ (do let _ ← comprehension (.ListComp elt [⟨tg,iter,ifs,0⟩] scope pos) scope X.env _ (newList []) false (eval iter X.env) (some (assign (.Name y py) X.env))) _ _ s;refine A1 (G4 (Q:=fun _ s'=>SP X pins DD .next s') ?_ (fun _ s' hq=>A6 (A6 hq)) fun _ _ e=>e);refine AG (use:=some (assign (.Name y py) X.env)) rfl hs S.clos S.kind S.names (thn (hi pins s σ H _ I h) fun v s1 h1=>thn h1 fun itv s2 h2=>?_);obtain⟨it,fp,tn,J,H2,rfl,I2,T,st2,f2,q⟩:=h2
 have ho:∀b∈fp,∃o,s2.heap.get? b=some o:=fun b hb=>by
   obtain⟨o,e,_⟩:=T.obj 0 _ st2 b hb;exact⟨o,e⟩
 refine L6 (wpAny_newFunctionEnv S.nocell (by intro y hy;simp at hy) (fun h₁ hns₁ hsb₁=>?_) S.kind);dsimp only at hns₁ hsb₁ ⊢;have hC:(s2.heap.push { cls:=.type "list",dict:=none,data:=.seq ([]:List Value).toArray }).objs.size=s2.heap.objs.size + 1:=by rw [P3]
 generalize hH2:s2.heap.push { cls:=.type "list",dict:=none,data:=.seq ([]:List Value).toArray }=hp2 at hns₁ hsb₁ hC ⊢;have old:∀b o,s2.heap.get? b=some o->h₁.get? b=some o:=fun b o e=>hsb₁.extBut b o (by rw [hC];exact C8 (O6 (B5 e))) (B6 _ (hH2▸B6 _ e));have hD:h₁.get? s2.heap.objs.size=some { cls:=.type "list",data:=.seq ([]:List Value).toArray }:=hsb₁.extBut _ _ (by rw [hC];exact C8 (Nat.lt_succ_self _)) (B6 _ (hH2▸E6 _ rfl));rw [hC] at hns₁ ⊢;obtain⟨W,⟨m0,w0⟩,turn⟩:=q s2.heap.objs.size I2.fresh;have Ic:=CS S (tk:=s2.toks + ([]:List (Str×Value)).length) I2 f2 ho old hns₁ hD;have nstk:∀b,b≠X.env.locals->b∉X.fs->b∉frs X.stack:=fun b h1 h2 hb=>(C0.mp (I2.stkSub b hb)).elim h1 h2
 have stat:∀{H':Hp},(∀b∈fp,H' b=none)->∀b∈fp,FpOk (B7 X scope cl N fp (s2.heap.objs.size + 1) s2 H2) pins H' b:=fun hn b hb=>by
   obtain⟨o,e⟩:=ho b hb;exact⟨hn b hb,C8 (O6 (B5 e)),nstk b (f2 b hb).2.1 (f2 b hb).2.2.1,.inl hb,fun x c ec=>(f2 b hb).2.2.2.2.1 x c (S.sub x c ec),(f2 b hb).2.2.2.2.2⟩
 obtain⟨hg,hf,he⟩:=hb fp (s2.heap.objs.size + 1) s2 H2;have st1:tn 0 h₁:=T.keep _ _ _ st2 fun b hb o e=>old b o e
 have fr1:∀b∈fp,upd H2 s2.heap.objs.size (.lst []) b=none:=fun b hb=>by
   obtain⟨o,e⟩:=ho b hb;rw [B3 (C8 (B5 e))];exact(f2 b hb).1
 have loop:∀s₃:Shared,s₃={ s2 with heap:=h₁,toks:=s2.toks + ([]:List (Str×Value)).length }->
     L8 (model X.prog X.w) X.A (.compLoop (.ListComp elt [⟨tg,iter,ifs,0⟩] scope pos) 0 (.ref it) (.ref s2.heap.objs.size) (compEnvC scope cl (s2.heap.objs.size + 1) X.env))
       (compPost (model X.prog X.w) X.A X.xe (some (assign (.Name y py) X.env)) (fun _ s'=>SP X pins DD .next s') (.ref s2.heap.objs.size) (s2.heap.objs.size + 1)) s₃:=by
   rintro s₃ rfl;refine CP (fun n s'=>∃i σ' H',Inv (B7 X scope cl N fp (s2.heap.objs.size + 1) s2 H2) pins σ' H' s'/\tn i s'.heap/\(∀b∈fp,H' b=none)/\W i n σ' H') ?_ m0 ⟨0,_,_,Ic,st1,fr1,w0⟩;rintro n s3 ⟨i,σ3,H3,I3,st3,fr3,w3⟩;rcases turn i n σ3 H3 w3 with⟨stop,qn⟩ | ⟨go,step⟩
   · refine thn (T.done (B7 X scope cl N fp (s2.heap.objs.size + 1) s2 H2) rfl rfl rfl hc i pins s3 σ3 H3 (fun _ _=>False) I3 (stat fr3) st3 stop) fun r s4 ⟨hr,I4⟩=>?_;subst hr;obtain⟨m4,hn4,_⟩:=I4.loc;have I5:Inv X pins σ H3 s4:=Inv.uncomp (h':=s4.heap) I2 f2 I4 fun b hb=>rfl;have oldne:∀b o,s2.heap.get? b=some o->b≠s2.heap.objs.size + 1:=fun b o e=>C8 (O6 (B5 e));have locne:X.env.locals≠s2.heap.objs.size + 1:=C8 (O6 I2.lt)
     have cellne:∀x c,X.env.cells.lookup x=some c->c≠s2.heap.objs.size + 1:=fun x c e=>by
       obtain⟨v,o,h1,_⟩:=I2.cell x c e;exact oldne c o h1
     refine bn _ _ _ _ _ _ (EA I5 hN hiy hy (v:=.ref s2.heap.objs.size) rfl (fun s6 I6 ⟨a6,sb6,ha6⟩=>?_) hff)
     have ane:s2.heap.objs.size + 1≠a6:=by
       rcases ha6 with rfl | ha6
       · exact Ne.symm locne
       · exact Ne.symm (cellne _ _ ha6)
     refine⟨m4,hn4.sameBut sb6 ane,fun h' hs'=>⟨_,H3,?_,qn⟩⟩;have hs7:∀b,b≠s2.heap.objs.size + 1->h'.get? b=s6.heap.get? b:=fun b hb=>hs'.2 b hb;have U0:Un (frs X.stack) [s2.heap.objs.size + 1] H3 H3 s6.heap s6.heap:=Un.refl
     have trC:∀b u,H3 b=some u->b≠s2.heap.objs.size + 1:=fun b u e z=>by
       have q:H3 (s2.heap.objs.size + 1)=none:=I4.free;rw [z,q] at e;cases e
     obtain⟨hh6,g6,d6,t6,os6⟩:=s6;refine I6.call (h':=h') (g':=g6) (d':=d6) (t':=t6) (ch:=[s2.heap.objs.size + 1]) ⟨fun b o e n hb hx=>?_,fun b o e n hb hx=>?_,U0.free,fun b o e hx=>?_,U0.tups,U0.frzs,U0.tbls,U0.sys⟩ (fun b u e=>?_) I6.bare fun b hb=>?_
     · have hb':b≠s2.heap.objs.size + 1:=fun z=>hx (by rw [z];exact E1.mpr rfl);rw [hs7 b hb'];exact U0.keep b o e n hb hx
     · have hb':b≠s2.heap.objs.size + 1:=fun z=>hx (by rw [z];exact E1.mpr rfl);rw [hs7 b hb'];exact U0.slot b o e n hb hx
     · have hb':b≠s2.heap.objs.size + 1:=fun z=>hx (by rw [z];exact E1.mpr rfl);rw [hs7 b hb'];exact U0.there b o e hx
     · refine(I6.hok b u e).stay (fun c v hc q=>?_) (fun _ q=>q) fun _ _ q=>q
       have ne:c≠s2.heap.objs.size + 1:=by
         rcases hc with z | z
         · rw [z];exact trC b u e
         · exact trC c _ z
       rw [hs7 c ne];exact q
     · rw [E1.mp hb];refine⟨.inr (Nat.le_succ_of_le I2.sz),Ne.symm locne,cellne,fun p hp=>?_⟩;exact oldne _ _ (I2.pin p hp).1
   · refine thn (T.item (B7 X scope cl N fp (s2.heap.objs.size + 1) s2 H2) rfl rfl rfl hc i pins s3 σ3 H3 (fun _ _=>False) I3 (stat fr3) st3 go) fun r s4 ⟨u,hr,h4⟩=>?_;subst hr;refine thn h4 fun _ s5 ⟨x,H5,I5,r5,y5,st5,fr5⟩=>?_;have I5':=I5.pinned (stat fr5) (T.obj _ _ st5);refine thn (hg _ s5 σ3 H5 x u _ I5' r5 (step x H5 y5)) fun _ s6 ⟨σ6,H6,I6,q6⟩=>?_
     have again:∀{σ7:St} {H7:Hp} {s7:Shared},Inv (B7 X scope cl N fp (s2.heap.objs.size + 1) s2 H2) (pins++N4 fp s5.heap) σ7 H7 s7->(∃m',m' < n/\W (i + 1) m' σ7 H7)->
         ∃m,m < n/\∃i σ' H',Inv (B7 X scope cl N fp (s2.heap.objs.size + 1) s2 H2) pins σ' H' s7/\tn i s7.heap/\(∀b∈fp,H' b=none)/\W i m σ' H':=fun {σ7 H7 s7} I7 n7=>by
       obtain⟨m',hm,w7⟩:=n7;refine⟨m',hm,i + 1,σ7,H7,I7.unpinned,T.keep _ _ _ st5 fun b hb o e=>(I7.pin (b,o) (F6 _ (F6 _ (P6 hb e)))).1,fun b hb=>?_,w7⟩;obtain⟨o,e,d⟩:=T.obj _ _ st5 b hb;exact(I7.pin (b,o) (F6 _ (F6 _ (P6 hb e)))).2.1
     refine thn (hf _ s6 σ6 H6 _ I6 q6) fun ok s7 ⟨H7,I7,q7⟩=>?_;cases ok with
     | false=>exact again I7 q7
     | true =>
       refine thn (he _ s7 σ6 H7 _ I7 q7) fun y s8 ⟨v8,H8,I8,r8,ys,e8,z8,n8⟩=>?_
       have ma:=Aa (X:=B7 X scope cl N fp (s2.heap.objs.size + 1) s2 H2) _ s8 σ6 H8 (.ref s2.heap.objs.size) [v8] (.ref s2.heap.objs.size) [y]
         (fun v H9=>∃m',m' < n/\W (i + 1) m' σ6 H9) I8 rfl (.cons r8 .nil) ⟨_,ys,v8,rfl,rfl,e8,z8,n8⟩
       exact thn ma fun _ s9 ⟨v9,H9,I9,_,q9⟩=>again I9 q9
 exact AI (loop _ rfl) (T.self _ 0 _ _ _ st1 (loop _ rfl))
end L2
namespace Pu
open PySem PySem.Spec L2
def SwOk (X:Cx)(e:Expr)(t:TE):Prop:=∀(i:Nat) (y:Str) (py spos:Pos),X.N.Nodup->X.N[i]?=some y->Loc X.env.scope y->T5 e (some (.Name y py)) spos.line X.env=pure true->(X.fn y=true\/X.env.scope.names.lookup y=some .local)->PS X (.Assign [.Name y py] e spos) (tAsg t (N3 i))
def QNC {ι:Type}(T:PotK)(K:A3)(F:ι->Cx)(e:Expr)(pn:pA):Prop:=∃t,(∀z,PE (F z) e t)/\(∀z,SwOk (F z) e t)/\NOk K T t pn
section
variable {T:PotK}{np:Bool}{ι:Type}{K:A3}{F:ι->Cx}{e:Expr}{pl:pA}{pg:pG}{pos:Pos}
theorem Kk {scope:Scope}{cl:ι->List (Str×Addr)}{N:List Str}{cs:List (Option Nat)}{elt tg iter:Expr}{ifs:List Expr}{pi:pA}{ptt:pT}{pte:pE}(S:∀z,Y2 (F z) scope (cl z) N cs)(hc:∀z,(F z).calm=true)(hi:QI T K F tg iter pi)
   (hg:QG K (fun y:ι×List Addr×Addr×Shared×Hp=>B7 (F y.1) scope (cl y.1) N y.2.1 y.2.2.1 y.2.2.2.1 y.2.2.2.2) tg pg) (ht:QIf T K (fun y:ι×List Addr×Addr×Shared×Hp=>B7 (F y.1) scope (cl y.1) N y.2.1 y.2.2.1 y.2.2.2.1 y.2.2.2.2) ifs ptt)
   (he:QE T K (fun y:ι×List Addr×Addr×Shared×Hp=>B7 (F y.1) scope (cl y.1) N y.2.1 y.2.2.1 y.2.2.2.1 y.2.2.2.2) elt pte)
   (hs:∀z x,N9 iter (F z).env x=pure x:=by intro _ _;rfl):QNC T K F (.ListComp elt [⟨tg,iter,ifs,0⟩] scope pos) (P0 cs pi pg ptt pte):=by
 obtain⟨wi,i1,i2⟩:=hi;obtain⟨g,hg0,hg⟩:=hg;obtain⟨tt,ht0,ht⟩:=ht;obtain⟨te,he0,he⟩:=he;refine⟨_,fun z=>Fi (S z) (hc z) (i1 z) (fun fp C s H=>⟨hg0 (z,fp,C,s,H),ht0 (z,fp,C,s,H),he0 (z,fp,C,s,H)⟩) (hs z),fun z i y py spos hN hi hy hsw hf=>Kj hN hi hy (S z) (hc z) (i1 z) (fun fp C s H=>⟨hg0 (z,fp,C,s,H),ht0 (z,fp,C,s,H),he0 (z,fp,C,s,H)⟩) hsw (hs z) hf,fun C G σ H env n R Q hK hT S hp k=>?_⟩;refine i2 C G σ H env n _ _ hK hT S hp fun xs env1 n1 J H1 p1 S1 f1 hJ=>?_;intro D hD;have hDM:=S1.fresh hD;refine Dg (G:=G) hg ht he hJ p1.1 hD (hT▸hK▸By S1 cs) p1.2 fun ys n2 us H' rr hpots hk eD ry=>?_
 -- the heap without D
 have nD:∀b o,H1 b=some o->b≠D:=fun b o e z=>by rw [z,hD] at e;cases e
 have hD0:C.H0 D=none:=by
   cases z:C.H0 D with
   | none=>rfl
   | some o =>
     by_cases hp:D∈C.pots0
     · exact absurd (S1.sup D (S1.p0.1 D hp)) hDM
     · have:=S1.frame D o hp z;rw [hD] at this;cases this
 have hk2:∀b o,b∉G.pots->H1 b=some o->cutH H' D b=some o:=fun b o hb e=>by rw [L5 (nD b o e)];exact hk b o hb e
 have nc:∀b,b∉D::G.M->b≠D:=fun b hb z=>hb (by rw [z];exact F4);have np:∀p∈G.pots,p≠D:=fun p hp z=>hDM (z▸(S1.pots p hp).1)
 have Sb:SR C G σ (cutH H' D) env1 n2:=S1.call hk2 fun p hp=>by
   subst hT;have h2:=C.T.keep (hpots p hp) (H':=cutH H' D) (L5 (np p hp)) fun b o hb e=>by rw [L5 (nc b hb)];exact e
   exact C.T.more h2 fun a ha=>.inl (D0 _ ha)
 have:=k ys env1 n2 D us (cutH H' D) rr Sb (f1.trans fun b o hb e=>hk2 b o (fun z=>hb (S1.pots b z).1) e) (by unfold cutH;rw [if_pos rfl]) ?_
 · rw [Bz eD] at this;exact this
 · exact Reps.mono (G:=⟨D::G.M,G.pots⟩) (fun b o hb e=>by rw [L5 (nc b hb)];exact e) (fun a ha=>.inl (D0 _ ha)) (fun _ _ e=>e) _ _ ry
theorem Kl (i:Nat){y:Str}{py spos:Pos}(h:QNC T K F e pl)(hN:∀z,(F z).N.Nodup)(hi:∀z,(F z).N[i]?=some y)(hy:∀z,Loc (F z).env.scope y)(hsw:∀z,T5 e (some (.Name y py)) spos.line (F z).env=pure true:=by intro _;rfl)(hf:∀z,(F z).fn y=true\/(F z).env.scope.names.lookup y=some .local:=by intro _;first | exact .inl rfl | exact .inr rfl):QS T np K F (.Assign [.Name y py] e spos) (qSet i (qL pl)):=by
 obtain⟨t,a1,a3,a2⟩:=h
 have he:EOk K T t (qL pl):=fun C G σ H env n R Q hK hT S hp k=>by
   refine a2 C G σ H env n _ _ hK hT S hp fun xs env1 n1 a vs Hb p1 S1 f1 hn r1=>?_;exact k _ _ _ _ _ p1 (S1.same (Same.lay1 hn)) (Ad (S1.fresh hn) hn r1) (f1.trans (Fr.of (Same.lay1 hn)))
 refine⟨_,fun z=>a3 z i y py spos (hN z) (hi z) (hy z) (hsw z) (hf z),fun C G σ H env n PD D hK hT hn S hp L=>?_⟩;refine he C G σ H env n _ _ hK hT S hp fun x env1 n1 v H1 q1 S1 r1 f1=>?_;exact L.nx _ _ _ _ _ q1 (S1.set i (hK▸r1)) (Ext.fr f1)
end
end Pu
end
section
namespace Pu
open PySem PySem.Spec L2
theorem Dr {α:Type}(f:Nat->List α)(i:Nat):(C2 (i + 1)).flatMap f=(C2 i).flatMap f++f i:=by
 rw [List.range_succ,List.flatMap_append];simp
theorem Km {α:Type}(A:List α)(f:Nat->List α)(i:Nat):A++(C2 (i + 1)).flatMap f=(A++(C2 i).flatMap f)++f i:=by
 rw [Dr,x6]
end Pu
end
section
namespace L2
open PySem PySem.Spec PyProof.Rows
def met (val:Nat->Key):Nat->List Key
 | 0=>[]
 | i + 1=>if(met val i).any (fun y=>decide (y=val i)) then met val i else met val i++[val i]
end L2
end
section
namespace Pu
open PySem PySem.Spec L2
theorem Ko (x:Str)(l u:Option Int):d7 x l u=Bg x l u:=rfl
theorem Kp (x:Str){p:Nat}(h:p<=x.length):(d7 x none (some (p:Int))).cps.toList=x.cps.toList.take p:=by
 rw [Ko]
 have e:Bg x none (some (p:Int))=Bg x (some ((0:Nat):Int)) (some (p:Int)):=by
   unfold Bg;rw [StrLaws.sliceIdx_none_lo];rfl
 rw [e,StrLaws.sliceText_nat x (O7 _) h];simp
def Ltr (c:Nat):Prop:=97<=c/\c<=122
def W3 (z:Str):Prop:=1<=z.cps.toList.length/\z.cps.toList.length<=8/\∀c∈z.cps.toList,Ltr c
abbrev LETS:Str:=C1 "abcdefghijklmnopqrstuvwxyz"
theorem Kq:LETS.cps.toList=(C2 26).map (97 + ·):=by decide +kernel
theorem Gd:LETS.length=26:=by decide +kernel
theorem Ge {d:Int}(d0:0<=d)(d1:d < 26):atI LETS.cps.toList d=some (97 + d.toNat):=by
 obtain⟨x,e1,e2⟩:=CU (xs:=LETS.cps.toList) d0 (by rw [<- Ab,Gd];exact d1);rw [e2,<- e1,Kq,G6,List.getElem?_range (by omega)]
 rfl
end Pu
end
section
namespace L2
open PySem PySem.Spec PyProof.Rows
def ItB (b:Bool)(h:Heap)(it l:Addr)(i:Nat):Prop:=match b with | true=>h.IsListIter it l i | false=>h.IsTupleIter it l i
def SeB (b:Bool)(h:Heap)(l:Addr)(items:Array Value):Prop:=match b with | true=>h.IsList l items | false=>h.IsTuple l items
theorem ItB.at {b:Bool}{h h':Heap}{it l:Addr}{i:Nat}(x:ItB b h it l i)(e:∀o,h.get? it=some o->h'.get? it=some o):ItB b h' it l i:=by
 cases b with
 | true=>exact(show h.IsListIter it l i from x).at e
 | false=>exact(show h.IsTupleIter it l i from x).at e
theorem SeB.at (x:SeB b h l items)(e:∀o,h.get? l=some o->h'.get? l=some o):SeB b h' l items:=by
 cases b with
 | true=>exact(show h.IsList l items from x).at e
 | false=>exact(show h.IsTuple l items from x).at e
theorem ItB.obj (x:ItB b h it l i):∃o,h.get? it=some o/\(o.cls=.type "list_iterator"\/o.cls=.type "tuple_iterator")/\∀v,o.data≠.cell v:=by
 cases b with
 | true=>obtain⟨o,e,c,d⟩:=(show h.IsListIter it l i from x);exact⟨o,e,.inl c,fun v z=>by rw [d] at z;cases z⟩
 | false=>obtain⟨o,e,c,d⟩:=(show h.IsTupleIter it l i from x);exact⟨o,e,.inr c,fun v z=>by rw [d] at z;cases z⟩
theorem SeB.obj (x:SeB b h l items):∃o,h.get? l=some o/\(o.cls=.type "list"\/o.cls=.type "tuple"):=by
 cases b with
 | true=>obtain⟨o,e,c,d⟩:=(show h.IsList l items from x);exact⟨o,e,.inl c⟩
 | false=>obtain⟨o,e,c,d⟩:=(show h.IsTuple l items from x);exact⟨o,e,.inr c⟩
theorem ItB.ne (x:ItB b h it l i)(y:SeB b' h a items):a≠it:=fun z=>by
 obtain⟨o,e,c,_⟩:=x.obj;obtain⟨o',e',c'⟩:=y.obj;rw [z,e] at e';cases e';rcases c with c | c <;> rcases c' with c' | c' <;> (rw [c] at c';exact absurd c' (by decide))
section
variable {prog:C3}{w:World}{A:Around}{E:Value->Shared->Prop}{s:Shared}
theorem Ks (hit:s.heap.IsTupleIter it t i)(ht:s.heap.IsTuple t items)(hx:items[i]?=some x)
   (hQ:∀h',h'.IsTupleIter it t (i + 1)->w8 it s.heap h'->Q x { s with heap:=h' }):wpAny (model prog w) A (T6 (.ref it)) Q E s:=by
 obtain⟨oi,hoi,hci,hdi⟩:=id hit;obtain⟨ot,hot,_,nt,hdt⟩:=ht;have ty:=hit.typeIs;unfold T6
 refine A1 (W8 (name:=C1 "__next__") ty Bd
   (T4 Bd ty F.entry_tuple_iterator_next ?_ (F.args_tuple_iterator_next_1 _)))
 show wpAny _ _ (field (.ref it) 0>>=_) _ _ s;refine A1 (G9 hoi hdi (x:=.ref t) rfl ?_);show wpAny _ _ (if(J9 t == R1)=true then _ else _) _ _ s;rw [if_neg (show ¬((J9 t == R1)=true) from N1)];show wpAny _ _ (field (.ref it) 1>>=_) _ _ s;refine A1 (G9 hoi hdi (x:=.int i 0) rfl ?_);show wpAny _ _ (seqItems? (.ref t)>>=_) _ _ s;refine A1 (W9 hot hdt ?_);simp only [R0,hx];refine A1 (wpAny_setField hoi hdi (by simp) (A6 ⟨x,rfl,A6 (hQ _ ?_ (Heap.SameBut.update ..))⟩));exact⟨_,Heap.get?_update_self _ hoi (Obj.isFreed_of_fields (Obj.data_mapFields hdi _)),(Obj.cls_mapFields ..).trans hci,by rw [Obj.data_mapFields hdi];simp [rawInt]⟩
theorem Kt (hh:A.handled=none)(hit:s.heap.IsTupleIter it t i)(ht:s.heap.IsTuple t items)(hx:items[i]?=none)
   (hE:∀h' e,Heap.ExtBut it s.heap h'->(∃o,h'.get? e=some o/\o.cls=.type "StopIteration")->E (.ref e) { s with heap:=h' }):wpAny (model prog w) A (T6 (.ref it)) Q E s:=by
 obtain⟨oi,hoi,hci,hdi⟩:=id hit;obtain⟨ot,hot,_,nt,hdt⟩:=ht;have ty:=hit.typeIs;unfold T6
 refine A1 (W8 (name:=C1 "__next__") ty Bd
   (T4 Bd ty F.entry_tuple_iterator_next ?_ (F.args_tuple_iterator_next_1 _)))
 show wpAny _ _ (field (.ref it) 0>>=_) _ _ s;refine A1 (G9 hoi hdi (x:=.ref t) rfl ?_);show wpAny _ _ (if(J9 t == R1)=true then _ else _) _ _ s;rw [if_neg (show ¬((J9 t == R1)=true) from N1)];show wpAny _ _ (field (.ref it) 1>>=_) _ _ s;refine A1 (G9 hoi hdi (x:=.int i 0) rfl ?_);show wpAny _ _ (seqItems? (.ref t)>>=_) _ _ s;refine A1 (W9 hot hdt ?_);simp only [R0,hx];refine A1 (V1 (A1 (wpAny_setField hoi hdi (by simp) ?_)));show wpAny _ _ (newExc (.type "StopIteration") []>>=_) _ _ _;refine A1 ?_;simp only [newExc,newTuple];refine A1 (L6 ?_ (by size_fits));refine A1 (m:=firstArgMember _ _) (O0 (a:=R1) (by first | rfl | (simp only [firstArgMember];rfl)) ?_);refine L6 ?_ (by size_fits);simp only [raiseNew];refine A1 (wpAny_handled ?_)
 first | rw [show A.in1.handled=none from hh] | rw [hh]
 refine A1 (A6 (wpAny_throw ?_));exact hE _ _ (((Heap.SameBut.update ..).extBut.push _).push _) ⟨_,E6 _ rfl,rfl⟩
theorem BE (hit:ItB b s.heap it t i)(ht:SeB b s.heap t items)(hx:items[i]?=some x)
   (hQ:∀h',ItB b h' it t (i + 1)->w8 it s.heap h'->Q x { s with heap:=h' }):wpAny (model prog w) A (T6 (.ref it)) Q E s:=by
 cases b with
 | true=>exact wpAny_nextOf_list_item hit ht hx hQ
 | false=>exact Ks hit ht hx hQ
theorem BF (hh:A.handled=none)(hit:ItB b s.heap it t i)(ht:SeB b s.heap t items)(hx:items[i]?=none)
   (hE:∀h' e,Heap.ExtBut it s.heap h'->(∃o,h'.get? e=some o/\o.cls=.type "StopIteration")->E (.ref e) { s with heap:=h' }):wpAny (model prog w) A (T6 (.ref it)) Q E s:=by
 cases b with
 | true=>exact wpAny_nextOf_list_end hh hit ht hx hE
 | false=>exact Kt hh hit ht hx hE
theorem drawsB {b:Bool}(hh:A.handled=none)(it l:Addr)(hne:l≠it)(items:Array Value):Draws prog w A it [it,l] items.size (fun i v=>items[i]?=some v) (fun i h=>ItB b h it l i/\SeB b h l items) where
 live:=fun _ _ st=>let ⟨o,ho,_⟩:=st.1.obj;⟨o,ho⟩
 frame:=fun _ _ _ st hk=>⟨st.1.at fun o e=>hk it (by simp) o e,st.2.at fun o e=>hk l (by simp) o e⟩
 item:=fun i s Q E hi st hQ=>by
   refine BE st.1 st.2 (x:=items[i]) (by simp [hi]) fun h' hit' hs'=>?_;exact hQ _ h' s.toks (by simp [hi]) ⟨hit',st.2.at fun o e=>hs'.extBut _ o hne e⟩ hs'
 done:=fun s Q E st hE=>BF hh st.1 st.2 (by simp) hE
theorem Ku (l:Addr)(items:Array Value)(n:Nat)(dct:Option Addr)(sl:Array (Option Value)) :
   Meets (Builtin.«enumerate.__new__» ⟨[.type "enumerate",.ref l],[]⟩) (fun _ R s=>s.heap.get? l=some { cls:=.type "tuple",dict:=dct,data:=.seq items n,slots:=sl }/\
     R (.ok (.ret (.ref (s.heap.push { cls := .type "tuple_iterator", data := .fields #[.ref l, .int 0 0] }).objs.size)))
       { s with heap:=(s.heap.push { cls:=.type "tuple_iterator",data:=.fields #[.ref l,.int 0 0] }).push { cls:=.type "enumerate",data:=.fields #[.none,.bool false,.ref s.heap.objs.size,rawInt 0,.none,.none] } }):=
 .of_wp fun prog w A R s hyp=>by
   obtain⟨hp,g,d,tk,os⟩:=s;obtain⟨hl,fin⟩:=hyp;have hsub:=sub_enumerate;have hL:Heap.IsTuple (Shared.heap ⟨hp,g,d,tk,os⟩) l items:=⟨_,hl,rfl,n,rfl⟩
   wp_walk using Bf hl
   refine wpAny_stack_any fun st=>A6 ?_
   split
   · rename_i c _ _ _ _ _;cases(c == N2 "enumerate")
     · wp_walk using Bf hl,w4 hL
       exact⟨_,rfl,fin⟩
     · wp_walk using Bf hl,w4 hL
       exact⟨_,rfl,fin⟩
   · wp_walk using Bf hl,w4 hL
     exact⟨_,rfl,fin⟩
theorem enumT {l:Addr}{items:Array Value}{Q:Value->Shared->Prop}(hL:s.heap.IsTuple l items)
   (h:∀h',IsEnum h' (s.heap.objs.size + 1) s.heap.objs.size 0 .none->h'.IsTupleIter s.heap.objs.size l 0->(∀b o,s.heap.get? b=some o->h'.get? b=some o)->Q (.ref (s.heap.objs.size + 1)) { s with heap:=h' }) :
   wpAny (model prog w) A (call (.type "enumerate") [.ref l]) Q E s:=by
 obtain⟨⟨c,dct,dt,sl⟩,hl,hc,n,hd⟩:=hL
 replace hc:c=.type "tuple":=hc
 replace hd:dt=.seq items n:=hd
 subst hc hd;refine callType_new F.called_enumerate (by decide) (F.typeCall_enumerate_1 _) (F.newCall_enumerate_1 _) (fun obj=>F.args_object_init_2 obj _) F.entry_enumerate_new (Ku l items n dct sl) ⟨hl,?_⟩;have hz:(s.heap.push { cls:=.type "tuple_iterator",data:=.fields #[.ref l,.int 0 0] }).objs.size=s.heap.objs.size + 1:=P3 ..;show _/\_;rw [hz]
 have he:IsEnum ((s.heap.push { cls:=.type "tuple_iterator",data:=.fields #[.ref l,.int 0 0] }).push { cls:=.type "enumerate",data:=.fields #[.none,.bool false,.ref s.heap.objs.size,rawInt 0,.none,.none] }) (s.heap.objs.size + 1) s.heap.objs.size 0 .none:=by
   have:=E6 (s.heap.push { cls:=.type "tuple_iterator",data:=.fields #[.ref l,.int 0 0] }) (o:={ cls:=.type "enumerate",data:=.fields #[.none,.bool false,.ref s.heap.objs.size,rawInt 0,.none,.none] }) rfl;rw [hz] at this;exact this
 exact⟨⟨_,he,rfl⟩,h _ he ⟨_,B6 _ (E6 _ rfl),rfl,rfl⟩ fun b o x=>B6 _ (B6 _ x)⟩
theorem enumB {b:Bool}{l:Addr}{items:Array Value}{Q:Value->Shared->Prop}(hL:SeB b s.heap l items)
   (h:∀h',IsEnum h' (s.heap.objs.size + 1) s.heap.objs.size 0 .none->ItB b h' s.heap.objs.size l 0->(∀b o,s.heap.get? b=some o->h'.get? b=some o)->Q (.ref (s.heap.objs.size + 1)) { s with heap:=h' }) :
   wpAny (model prog w) A (call (.type "enumerate") [.ref l]) Q E s:=by
 cases b with
 | true=>exact call_enumerate_list hL fun h' a b _ c=>h h' a b c
 | false=>exact enumT hL h
theorem Kv {b:Bool}{e it l:Addr}{j:Nat}{i:Int}{items:Array Value}{old:Value}{Q:Option Value->Shared->Prop}(hh:A.handled=none)(he:IsEnum s.heap e it i old)(hit:ItB b s.heap it l j)(ht:SeB b s.heap l items)(hx:items[j]?=none)
   (hQ:∀h',Heap.ExtBut it s.heap h'->Q none { s with heap:=h' }):wpAny (model prog w) A (pyNext (.ref e)) Q E s:=by
 have ty:s.TypeIs (.ref e) "enumerate":=⟨_,he,rfl⟩;unfold pyNext;refine A1 (wpAny_attempt (W8 (name:=C1 "__next__") ty F.slot_enumerate_next (T4 F.slot_enumerate_next ty F.entry_enumerate_next ?_ (F.args_enumerate_next_1 _))));show wpAny _ _ (field (.ref e) 2>>=_) _ _ _;refine A1 (G9 he rfl (x:=.ref it) rfl ?_);refine A1 (BF (A:=A.in1) hh hit ht hx fun h' x he' hx'=>?_);obtain⟨o,ho,hc⟩:=hx';exact A1 (wpAny_isInstance (T:="StopIteration") (b:=true) ⟨o,ho,hc⟩ isSubtype_stop (A6 (hQ _ he')))
end
def SqB (b:Bool)(K:A3)(H:Hp)(a:Addr)(xs:List V):Prop:=match b with | true=>SqL K H a xs | false=>SqT K H a xs
section
variable {X:Cx}
theorem Inv.seqB (I:Inv X pins σ H s)(h:SqB b X.K H a xs):∃its:List Value,Vals xs its/\SeB b s.heap a its.toArray/\xs.length<=B1:=by
 cases b with
 | true=>obtain⟨its,r,p,z⟩:=I.list h;exact⟨its,r,p.isList,z⟩
 | false=>obtain⟨its,r,p,z⟩:=I.tuple h;exact⟨its,r,p,z⟩
theorem Inv.seqB_inj (I:Inv X pins σ H s)(h:SqB b X.K H a xs)(h':SqB b X.K H a ys):xs=ys:=by
 cases b with
 | true=>exact I.list_inj h h'
 | false=>exact I.tuple_inj h h'
def IteB (b:Bool)(K:A3)(a:Addr):It:=
 ⟨fun i H=>∃xs x,SqB b K H a xs/\xs[i]?=some x,fun i H x H'=>∃p v,H p=none/\x=.ref p/\H'=upd H p (.tup [.int i,v])/\∀xs,SqB b K H a xs->xs[i]?=some v,fun i H=>∃xs,SqB b K H a xs/\xs.length<=i⟩
theorem Kw {b:Bool}{P:C3}{w:World}{K:A3}{elts:List Expr}{x1}{pos:Pos}(a e it:Addr)(hne:e≠it) :
   Turn P w K (.Tuple elts x1 pos) (IteB b K a) [e,it] e (fun i h=>(∃old,IsEnum h e it i old)/\ItB b h it a i) where
 mem:=by simp
 obj:=fun i h st c hc=>by
   obtain⟨⟨old,he⟩,st⟩:=st;obtain⟨o,e1,_,d⟩:=st.obj;have hc':c=e\/c=it:=by simpa using hc
   rcases hc' with rfl | rfl
   · exact⟨_,he,fun v z=>by cases z⟩
   · exact⟨o,e1,d⟩
 keep:=fun i h h' st k=>by
   obtain⟨⟨old,he⟩,st⟩:=st;exact⟨⟨old,k e (by simp) _ he⟩,st.at fun o e=>k it (by simp) o e⟩
 item:=by
   intro X hP hw hK hc i pins s σ H E I hf st hg;subst hP hw hK;obtain⟨⟨old,he⟩,st⟩:=st;obtain⟨xs,x,hq,hx⟩:=hg;obtain⟨its,rv,p,hz⟩:=I.seqB hq;obtain⟨u,hu,ru⟩:=rv.get hx;have nla:a≠it:=st.ne p
   have nea:e≠a:=fun z=>by
     obtain⟨o,e1,c1⟩:=p.obj;rw [<- z,he] at e1;cases e1;rcases c1 with c1 | c1
     · exact absurd (show N2 "enumerate"=N2 "list" from c1) (by decide)
     · exact absurd (show N2 "enumerate"=N2 "tuple" from c1) (by decide)
   have hi:i < its.toArray.size:=by
     obtain⟨h1,_⟩:=C5.mp hu
     simpa using h1
   refine wpAny_pyNext_enum_itemD (drawsB (A:=X.A.in1) (I.ok.hd hc) it a nla its.toArray) he ⟨st,p⟩ hi hne (by simp [hne,nea]) fun y h' tk hy he' st' ht hz' k=>?_
   have ey:y=u:=by
     have:its[i]?=some y:=by simpa using hy
     rw [hu] at this;exact(D7 this).symm
   subst ey;refine⟨_,rfl,wpAny_letOwnedTupleGo_enum (s:={ s with heap:=h',toks:=tk + 1 }) he' fun h'' he'' sb=>?_⟩;have hpe:s.heap.objs.size≠e:=b8 (B5 he);have ht'':h''.get? s.heap.objs.size=some { cls:=.type "tuple",data:=.seq #[.int i tk,y] }:=(sb.2 _ hpe).trans ht
   have k':∀c o,c∉[e,it]->s.heap.get? c=some o->h''.get? c=some o:=fun c o hb q=>by
     have hb1:c≠e:=fun z=>hb (by simp [z]);have hb2:c≠it:=fun z=>hb (by simp [z]);exact(sb.2 c hb1).trans (k c o hb1 hb2 q)
   have I1:Inv X pins σ (upd H s.heap.objs.size (.tup [.int i,x])) { s with heap:=h'',toks:=tk + 1 }:=
     I.turnedNew k' hf ⟨by show 2<=B1;decide,[.int i tk,y],.cons ⟨_,rfl⟩ (.cons ru .nil),⟨_,ht'',rfl,_,rfl⟩⟩
   refine⟨.ref s.heap.objs.size,_,I1,rfl,⟨_,x,I.fresh,rfl,rfl,fun ys hy=>by rw [I.seqB_inj hy hq];exact hx⟩,⟨⟨y,he''⟩,st'.1.at fun o q=>(sb.2 it (Ne.symm hne)).trans q⟩,fun c hb=>?_⟩;have hb':c=e\/c=it:=by simpa using hb
   have hbs:c≠s.heap.objs.size:=by
     rcases hb' with rfl | rfl
     · exact Ne.symm hpe
     · obtain⟨o,e1,_⟩:=st.obj;exact C8 (B5 e1)
   rw [B3 hbs];exact(hf c hb).1
 done:=by
   intro X hP hw hK hc i pins s σ H E I hf st hg;subst hP hw hK;obtain⟨⟨old,he⟩,st⟩:=st;obtain⟨xs,hq,hx⟩:=hg;obtain⟨its,rv,p,hz⟩:=I.seqB hq;obtain⟨f0,f1,f2,f3,f4,f5⟩:=hf it (by simp);have hl:=rv.length;refine Kv (I.ok.hd hc) he st p (Co (by rw [D8];omega)) fun h' eb=>⟨rfl,I.turned (t':=s.toks) (fun c o hb e=>eb c o hb e) f0 f1 f3 f4 f5⟩
 self:=fun _ _ _ _ _ st h=>by
   obtain⟨⟨old,he⟩,_⟩:=st;exact AL he h
def iEnumB (b:Bool)(K:A3)(ta:TA):TI:=fun σ H R=>ta σ H fun vs H1=>∃a,vs=[.ref a]/\(∃xs,SqB b K H1 a xs)/\R (IteB b K a) H1
theorem Kx (b:Bool){l:Expr}{ta:TA}{p pos:Pos}{elts:List Expr}{x1}{tpos:Pos}(hg:Gl X "enumerate")(hm:X.mg "enumerate"=none)(ha:PA X [l] ta)(hs:C7 [l] X.env=[(false,eval l X.env)]:=by rfl) :
   PI X (.Tuple elts x1 tpos) (.Call (.Name "enumerate" p) [l] [] pos) (iEnumB b X.K ta):=by
 intro pins s σ H R I h;refine Call_ (R5 I hg hm boot_enumerate (X4 (thn (ha pos pins s σ H _ I h) fun us s1 ⟨vs,H1,I1,r1,q1⟩=>?_) hs rfl));obtain⟨a,e,⟨xs,hq⟩,q⟩:=q1;subst e;obtain⟨u,rfl,ru⟩:=r1.one;obtain rfl:u=J9 a:=ru;obtain⟨its,rv,pl,hz⟩:=I1.seqB hq;refine enumB pl fun h' hE hI hk=>?_;refine AL hE ?_;have I2:Inv X pins σ H1 { s1 with heap:=h' }:=I1.kept (t':=s1.toks) hk;refine⟨s1.heap.objs.size + 1,[s1.heap.objs.size + 1,s1.heap.objs.size],_,_,H1,rfl,I2,Kw a _ _ (A_ _),⟨⟨_,hE⟩,hI⟩,fun c hb=>?_,q⟩;have hb':c=s1.heap.objs.size + 1\/c=s1.heap.objs.size:=by simpa using hb
 rcases hb' with rfl | rfl
 · exact I1.fpOk (K9 _) (I1.hok.fresh (K9 _))
 · exact I1.fpOk (A8 _) (I1.hok.fresh (A8 _))
end
end L2
end
section
namespace L2
open PySem PySem.Spec PyProof.Rows
section
variable {prog:C3}{w:World}{A:Around}{E:Value->Shared->Prop}{s:Shared}
structure ZAp (z TI TO i1 i2:Addr):Prop where
 a1:TI≠z
 a2:TO≠z
 a3:i1≠z
 a4:i2≠z
 a5:TI≠TO
 a6:TI≠i1
 a7:TI≠i2
 a8:TO≠i1
 a9:TO≠i2
 a10:i1≠i2
theorem Ky {z TI TO i1 i2 l1 l2:Addr}{Q:Value->Shared->Prop}(D:ZAp z TI TO i1 i2)(m1:l1≠z)(m2:l2≠z)(m3:l1≠TO)(m4:l2≠TO)(m5:l1≠i1)(m6:l2≠i1)
   (hz:IsZip s.heap z TI TO .none) (hTI:IsPair s.heap TI (.ref i1) (.ref i2)) (hTO:IsPair s.heap TO a b) (h1:ItB b1 s.heap i1 l1 k) (h2:ItB b2 s.heap i2 l2 k) (hl1:SeB b1 s.heap l1 xs) (hl2:SeB b2 s.heap l2 ys) (hx:xs[k]?=some x) (hy:ys[k]?=some y)
   (hQ:∀h',IsZip h' z TI TO (rawInt s.heap.objs.size)->IsPair h' TO x y->ItB b1 h' i1 l1 (k + 1)->ItB b2 h' i2 l2 (k + 1)->IsPair h' s.heap.objs.size x y->
     (∀c o,c≠z->c≠TO->c≠i1->c≠i2->s.heap.get? c=some o->h'.get? c=some o)->Q (.ref s.heap.objs.size) { s with heap:=h' }) :
   wpAny (model prog w) A (Builtin.«zip.__next__» ⟨[.ref z],[]⟩) (fun fin s'=>∃v,fin=.done (.ret v)/\Q v s') E s:=by
 show wpAny _ _ (field (.ref z) 2>>=_) _ _ _;refine A1 (G9 hz rfl (x:=.bool false) rfl ?_);show wpAny _ _ (field (.ref z) 3>>=_) _ _ _;refine A1 (G9 hz rfl (x:=.ref TI) rfl (A1 (W9 hTI rfl ?_)));show wpAny _ _ (Bb (.ref z)>>=_) _ _ _;refine A1 ?_;unfold Bb;refine A1 (G9 hz rfl (x:=.none) rfl (A6 ?_));simp only [if_true];refine A1 (V1 (A1 (G9 hz rfl (x:=.ref TO) rfl (A1 (i7 hz (by simp) fun g1 z1 s1=>?_)))))
 replace z1:IsZip g1 z TI TO .ellipsis:=z1
 refine A1 ?_;simp only [List.zipIdx_cons,List.zipIdx_nil,List.forIn_cons,List.forIn_nil];refine A1 (A1 (wpAny_onRaise ?_));show wpAny _ _ (T6 (.ref i1)>>=_) _ _ _;refine A1 (BE (s:={ s with heap:=g1 }) (h1.at fun o e=>s1.extBut _ o D.a3 e) (hl1.at fun o e=>s1.extBut _ o m1 e) hx fun g2 j2 s2=>A6 ?_);have t2:IsPair g2 TO a b:=s2.extBut _ _ D.a8 (s1.extBut _ _ D.a2 hTO);refine A1 (W9 t2 rfl (A1 (wpAny_updateSeq_pair (s:={ s with heap:=g2 }) t2 fun g3 t3 s3=>A1 (wpAny_letGo (A6 ?_)))))
 replace t3:IsPair g3 TO x b:=t3
 refine A1 (A1 (wpAny_onRaise ?_));show wpAny _ _ (T6 (.ref i2)>>=_) _ _ _;have up3:∀c o,c≠z->c≠i1->c≠TO->s.heap.get? c=some o->g3.get? c=some o:=fun c o c1 c2 c3 e=>s3.extBut _ o c3 (s2.extBut _ o c2 (s1.extBut _ o c1 e));refine A1 (BE (s:={ s with heap:=g3 }) (h2.at fun o e=>up3 _ o D.a4 D.a10.symm D.a9.symm e) (hl2.at fun o e=>up3 _ o m2 m6 m4 e) hy fun g4 j4 s4=>A6 ?_);have t4:IsPair g4 TO x b:=s4.extBut _ _ D.a9 t3;refine A1 (W9 t4 rfl (A1 (wpAny_updateSeq_pair (s:={ s with heap:=g4 }) t4 fun g5 t5 s5=>A1 (wpAny_letGo (A6 (A6 ?_))))))
 replace t5:IsPair g5 TO x y:=t5
 refine A1 (W9 t5 rfl (A1 (wpAny_newTuple ?_)));have hsz:g5.objs.size=s.heap.objs.size:=by rw [s5.1,s4.1,s3.1,s2.1,s1.1]
 have z5:IsZip g5 z TI TO .ellipsis:=s5.extBut _ _ D.a2.symm (s4.extBut _ _ D.a4.symm (s3.extBut _ _ D.a2.symm (s2.extBut _ _ D.a3.symm z1)));have up5:∀c o,c≠z->c≠TO->c≠i1->c≠i2->s.heap.get? c=some o->g5.get? c=some o:=fun c o c1 c2 c3 c4 e=>s5.extBut _ _ c2 (s4.extBut _ _ c4 (up3 c o c1 c3 c2 e));have j1:ItB b1 g5 i1 l1 (k + 1):=j2.at fun o e=>s5.extBut _ o D.a8.symm (s4.extBut _ o D.a10 (s3.extBut _ o D.a8.symm e));have j5:ItB b2 g5 i2 l2 (k + 1):=j4.at fun o e=>s5.extBut _ o D.a9.symm e;have zlt:z < g5.objs.size:=B5 z5;show wpAny _ _ (Ew (.ref z) (.ref g5.objs.size)>>=_) _ _ _;refine A1 ?_;unfold Ew;have z6:IsZip (g5.push { cls:=.type "tuple",data:=.seq #[x,y] }) z TI TO .ellipsis:=B6 _ z5;refine A1 (i7 z6 (by simp) fun g7 z7 s7=>?_)
 replace z7:IsZip g7 z TI TO (rawInt g5.objs.size):=z7
 refine i7 z7 (by simp) fun g8 z8 s8=>?_
 replace z8:IsZip g8 z TI TO (rawInt g5.objs.size):=z8
 have up8:∀c o,c≠z->g5.get? c=some o->g8.get? c=some o:=fun c o c1 e=>s8.extBut _ _ c1 (s7.extBut _ _ c1 (B6 _ e));have t8:IsPair g8 g5.objs.size x y:=s8.extBut _ _ (b8 zlt) (s7.extBut _ _ (b8 zlt) (E6 _ rfl));rw [hsz] at z8 t8;refine A6 ⟨_,rfl,?_⟩;show Q (.ref g5.objs.size) _;rw [hsz];exact hQ g8 z8 (up8 _ _ D.a2 t5) (j1.at fun o e=>up8 _ o D.a3 e) (j5.at fun o e=>up8 _ o D.a4 e) t8 fun c o c1 c2 c3 c4 e=>up8 c o c1 (up5 c o c1 c2 c3 c4 e)
theorem zipEnd {z TI TO i1 i2 l1 l2:Addr}(hh:A.handled=none)(D:ZAp z TI TO i1 i2)(m1:l1≠z)(m2:l2≠z)(m3:l1≠TO)(m4:l2≠TO)(m5:l1≠i1)(m6:l2≠i1)
   (hz:IsZip s.heap z TI TO .none) (hTI:IsPair s.heap TI (.ref i1) (.ref i2)) (hTO:IsPair s.heap TO a b) (h1:ItB b1 s.heap i1 l1 k) (h2:ItB b2 s.heap i2 l2 k) (hl1:SeB b1 s.heap l1 xs) (hl2:SeB b2 s.heap l2 ys) (hend:xs[k]?=none\/ys[k]?=none)
   (hE:∀h' e,(∀c o,c≠z->c≠TO->c≠i1->c≠i2->s.heap.get? c=some o->h'.get? c=some o)->(∃o,h'.get? e=some o/\o.cls=.type "StopIteration")->E (.ref e) { s with heap:=h' }) :
   wpAny (model prog w) A (Builtin.«zip.__next__» ⟨[.ref z],[]⟩) Q E s:=by
 show wpAny _ _ (field (.ref z) 2>>=_) _ _ _;refine A1 (G9 hz rfl (x:=.bool false) rfl ?_);show wpAny _ _ (field (.ref z) 3>>=_) _ _ _;refine A1 (G9 hz rfl (x:=.ref TI) rfl (A1 (W9 hTI rfl ?_)));show wpAny _ _ (Bb (.ref z)>>=_) _ _ _;refine A1 ?_;unfold Bb;refine A1 (G9 hz rfl (x:=.none) rfl (A6 ?_));simp only [if_true];refine A1 (V1 (A1 (G9 hz rfl (x:=.ref TO) rfl (A1 (i7 hz (by simp) fun g1 z1 s1=>?_)))))
 replace z1:IsZip g1 z TI TO .ellipsis:=z1
 refine A1 ?_;simp only [List.zipIdx_cons,List.zipIdx_nil,List.forIn_cons,List.forIn_nil];refine A1 (A1 (wpAny_onRaise ?_));show wpAny _ _ (T6 (.ref i1)>>=_) _ _ _;have h1':ItB b1 g1 i1 l1 k:=h1.at fun o e=>s1.extBut _ o D.a3 e;have hl1':SeB b1 g1 l1 xs:=hl1.at fun o e=>s1.extBut _ o m1 e
 have nz:∀{g:Heap} {e:Addr} {o:Obj},IsZip g z TI TO .ellipsis->g.get? e=some o->o.cls=.type "StopIteration"->e≠z:=fun {g e o} hz ho hc x=>by
   subst x;rw [hz] at ho;cases ho;exact absurd (show N2 "zip"=N2 "StopIteration" from hc) (by decide)
 cases hx:xs[k]? with
 | none =>
   refine A1 (BF (s:={ s with heap:=g1 }) hh h1' hl1' hx fun g2 e s2 ⟨oe,hoe,hce⟩=>?_);have z2:IsZip g2 z TI TO .ellipsis:=s2 _ _ D.a3.symm z1;exact i7 z2 (by simp) fun g3 _ s3=>hE g3 e (fun c o c1 _ c3 _ x=>s3.extBut _ _ c1 (s2 _ _ c3 (s1.extBut _ _ c1 x))) ⟨oe,s3.extBut _ _ (nz z2 hoe hce) hoe,hce⟩
 | some x =>
   have hy:ys[k]?=none:=hend.elim (fun h=>by rw [hx] at h;cases h) id;refine A1 (BE (s:={ s with heap:=g1 }) h1' hl1' hx fun g2 j2 s2=>A6 ?_);have t2:IsPair g2 TO a b:=s2.extBut _ _ D.a8 (s1.extBut _ _ D.a2 hTO);refine A1 (W9 t2 rfl (A1 (wpAny_updateSeq_pair (s:={ s with heap:=g2 }) t2 fun g3 t3 s3=>A1 (wpAny_letGo (A6 ?_)))));refine A1 (A1 (wpAny_onRaise ?_));show wpAny _ _ (T6 (.ref i2)>>=_) _ _ _;have up3:∀c o,c≠z->c≠i1->c≠TO->s.heap.get? c=some o->g3.get? c=some o:=fun c o c1 c2 c3 e=>s3.extBut _ o c3 (s2.extBut _ o c2 (s1.extBut _ o c1 e));refine A1 (BF (s:={ s with heap:=g3 }) hh (h2.at fun o e=>up3 _ o D.a4 D.a10.symm D.a9.symm e) (hl2.at fun o e=>up3 _ o m2 m6 m4 e) hy fun g4 e s4 ⟨oe,hoe,hce⟩=>?_);have z4:IsZip g4 z TI TO .ellipsis:=s4 _ _ D.a4.symm (s3.extBut _ _ D.a2.symm (s2.extBut _ _ D.a3.symm z1));exact i7 z4 (by simp) fun g5 _ s5=>hE g5 e (fun c o c1 c2 c3 c4 x=>s5.extBut _ _ c1 (s4 _ _ c4 (up3 c o c1 c3 c2 x))) ⟨oe,s5.extBut _ _ (nz z4 hoe hce) hoe,hce⟩
end
def itO (b:Bool)(l:Addr):Obj:=match b with | true=>{ cls:=.type "list_iterator",data:=.fields #[.ref l,.int 0 0] } | false=>{ cls:=.type "tuple_iterator",data:=.fields #[.ref l,.int 0 0] }
theorem Gf (b:Bool)(l:Addr):(itO b l).isFreed=false:=by cases b <;> rfl
theorem Gg (e:h.get? a=some (itO b l)):ItB b h a l 0:=by
 cases b with
 | true=>exact⟨_,e,rfl,rfl⟩
 | false=>exact⟨_,e,rfl,rfl⟩
theorem iterO (ht:SeB b s.heap t items)(hQ:Q (.ref s.heap.objs.size) { s with heap:=s.heap.push (itO b t) }):wpAny (model prog w) A (pyIter (.ref t)) Q E s:=by
 cases b with
 | true=>exact AK ht hQ
 | false=>exact w4 ht hQ
abbrev zh2 (h:Heap)(b1 b2:Bool)(l1 l2:Addr):Heap:=(h.push (itO b1 l1)).push (itO b2 l2)
abbrev zh3 (h:Heap)(b1 b2:Bool)(l1 l2:Addr):Heap:=(zh2 h b1 b2 l1 l2).push { cls:=.type "tuple",data:=.seq #[.ref h.objs.size,.ref (h.push (itO b1 l1)).objs.size] }
abbrev zh4 (h:Heap)(b1 b2:Bool)(l1 l2:Addr):Heap:=(zh3 h b1 b2 l1 l2).push { cls:=.type "tuple",data:=.seq #[.none,.none] }
abbrev zh5 (h:Heap)(b1 b2:Bool)(l1 l2:Addr):Heap:=(zh4 h b1 b2 l1 l2).push { cls:=.type "zip",data:=.fields #[.none,.bool false,.bool false,.ref (zh2 h b1 b2 l1 l2).objs.size,.ref (zh3 h b1 b2 l1 l2).objs.size] }
theorem zipNew (b1 b2:Bool)(l1 l2:Addr)(xs ys:Array Value) :
   Meets (Builtin.«zip.__new__» ⟨[.type "zip",.ref l1,.ref l2],[]⟩) (fun _ R s=>SeB b1 s.heap l1 xs/\SeB b2 s.heap l2 ys/\R (.ok (.ret (.ref (zh4 s.heap b1 b2 l1 l2).objs.size))) { s with heap:=zh5 s.heap b1 b2 l1 l2 }):=
 .of_wp fun prog w A R s hyp=>by
   obtain⟨hp,g,d,tk,os⟩:=s;obtain⟨k1,k2,fin⟩:=hyp;have hsub:=sub_zip;have L1:SeB b1 (Shared.heap ⟨hp,g,d,tk,os⟩) l1 xs:=k1;have L2:SeB b2 (Shared.heap ⟨hp.push (itO b1 l1),g,d,tk,os⟩) l2 ys:=k2.at fun o e=>B6 _ e
   wp_walk using iterO L1,iterO L2
   exact⟨_,rfl,fin⟩
section
variable {prog:C3}{w:World}{A:Around}{E:Value->Shared->Prop}{s:Shared}
theorem zipB (hl1:SeB b1 s.heap l1 xs)(hl2:SeB b2 s.heap l2 ys)
   (h:∀h',IsZip h' (s.heap.objs.size + 4) (s.heap.objs.size + 2) (s.heap.objs.size + 3) .none->IsPair h' (s.heap.objs.size + 2) (.ref s.heap.objs.size) (.ref (s.heap.objs.size + 1))->
     IsPair h' (s.heap.objs.size + 3) .none .none->ItB b1 h' s.heap.objs.size l1 0->ItB b2 h' (s.heap.objs.size + 1) l2 0->(∀c o,s.heap.get? c=some o->h'.get? c=some o)->Q (.ref (s.heap.objs.size + 4)) { s with heap:=h' }) :
   wpAny (model prog w) A (call (.type "zip") [.ref l1,.ref l2]) Q E s:=by
 refine callType_new F.called_zip (by decide) (F.typeCall_zip_2 _ _) (F.newCall_zip_2 _ _) (fun obj=>F.args_object_init_3 obj _ _) F.entry_zip_new (zipNew b1 b2 l1 l2 xs ys) ⟨hl1,hl2,?_⟩;have z1:(s.heap.push (itO b1 l1)).objs.size=s.heap.objs.size + 1:=P3 ..;have z2:(zh2 s.heap b1 b2 l1 l2).objs.size=s.heap.objs.size + 2:=by rw [P3,z1]
 have z3:(zh3 s.heap b1 b2 l1 l2).objs.size=s.heap.objs.size + 3:=by rw [P3,z2]
 have z4:(zh4 s.heap b1 b2 l1 l2).objs.size=s.heap.objs.size + 4:=by rw [P3,z3]
 have g5:(zh5 s.heap b1 b2 l1 l2).get? (zh4 s.heap b1 b2 l1 l2).objs.size=some _:=E6 _ rfl;have g4:(zh5 s.heap b1 b2 l1 l2).get? (zh3 s.heap b1 b2 l1 l2).objs.size=some _:=B6 _ (E6 _ rfl);have g3:(zh5 s.heap b1 b2 l1 l2).get? (zh2 s.heap b1 b2 l1 l2).objs.size=some _:=B6 _ (B6 _ (E6 _ rfl));have g2:(zh5 s.heap b1 b2 l1 l2).get? (s.heap.push (itO b1 l1)).objs.size=some _:=B6 _ (B6 _ (B6 _ (E6 _ (Gf b2 l2))));have g1:(zh5 s.heap b1 b2 l1 l2).get? s.heap.objs.size=some _:=B6 _ (B6 _ (B6 _ (B6 _ (E6 _ (Gf b1 l1)))));show _/\_;rw [z2,z3,z4] at g5;rw [z1,z2] at g3;rw [z3] at g4;rw [z1] at g2;rw [z4];exact⟨⟨_,g5,rfl⟩,h _ g5 g3 g4 (Gg g1) (Gg g2) fun c o x=>B6 _ (B6 _ (B6 _ (B6 _ (B6 _ x))))⟩
end
section
variable {X:Cx}
def ItzB (b1 b2:Bool)(K:A3)(a c:Addr):It:=
 ⟨fun i H=>∃xs ys x y,SqB b1 K H a xs/\SqB b2 K H c ys/\xs[i]?=some x/\ys[i]?=some y,
  fun i H x H'=>∃p u v,H p=none/\x=.ref p/\H'=upd H p (.tup [u,v])/\(∀xs,SqB b1 K H a xs->xs[i]?=some u)/\∀ys,SqB b2 K H c ys->ys[i]?=some v,
  fun i H=>∃xs ys,SqB b1 K H a xs/\SqB b2 K H c ys/\min xs.length ys.length<=i⟩
theorem BG (p:SeB b h l items)(he:h.get? e=some o)(hc:o.cls=.type n)(h1:n≠"list")(h2:n≠"tuple"):l≠e:=fun z=>by
 obtain⟨o',e1,c1⟩:=p.obj;rw [z,he] at e1;cases e1;rw [hc] at c1;rcases c1 with c1 | c1
 · exact h1 (Value.type.inj c1)
 · exact h2 (Value.type.inj c1)
theorem BH {l z TI TO i1 i2:Addr}(I:Inv X pins σ H s)(hf:∀d∈[z,TI,TO,i1,i2],FpOk X pins H d)(hTO:IsPair s.heap TO p q)(hq:SqB b X.K H l xs):l≠TO:=fun zz=>by
 obtain⟨f0,f1,f2,f3,f4,f5⟩:=hf TO (by simp);subst zz;cases b with
 | true =>
   obtain⟨its,_,pl,_⟩:=I.list hq;obtain⟨o,e,c1,_⟩:=pl.isList;rw [hTO] at e;cases e;exact absurd (show N2 "tuple"=N2 "list" from c1) (by decide)
 | false =>
   rcases hq with hq | ⟨o,its,n,hk,hc1,hs,hz,r⟩
   · rcases hq with e | ⟨o,e⟩
     · rw [f0] at e;cases e
     · rw [f0] at e;cases e
   · have eb:X.base.get? l=some o:=I.ok.mod.kin l o hk;rcases f3 with f3 | f3
     · exact I.ok.noex l o eb f3
     · exact absurd (J4 (B5 eb) (E8 I.ok.bsz f3)) (P4 _)
theorem Inv.turnedAll {ch:List Addr}(I:Inv X pins σ H s)(k:∀b o,b∉ch->s.heap.get? b=some o->h'.get? b=some o)(hf:∀b∈ch,FpOk X pins H b):Inv X pins σ H { s with heap:=h',toks:=t' }:=by
 have nch:∀b u,H b=some u->b∉ch:=fun b u e z=>by rw [(hf b z).1] at e;cases e
 refine I.step (g':=s.gens) (d':=s.drawn) (ch:=ch) (fun b hb=>⟨(hf b hb).2.2.2.1,(hf b hb).2.1,(hf b hb).2.2.2.2.1,(hf b hb).2.2.2.2.2⟩) (fun b o _ _ hc e _=>k b o hc e) (fun b o _ _ hc e _=>⟨o.slots,k b o hc e⟩) (fun _ _ _ _ n=>n)
   (fun b o hc e=>⟨o,k b o hc e⟩) (fun _ _ e=>e) (fun _ _ _ e=>e) (fun b ps e=>⟨#[],by rw [e];simp⟩) (fun z=>z) (fun m hm=>?_) (fun b u e=>?_) I.bare
 · obtain⟨o,es,ep,ho,r⟩:=hm;exact⟨o,es,ep,k _ o (fun z=>(hf _ z).2.1 rfl) ho,r⟩
 · refine(I.hok b u e).stay (fun c v hc q=>k c v ?_ q) (fun c q=>q) fun c ys q=>q;rcases hc with z | z
   · rw [z];exact nch b u e
   · exact nch c _ z
theorem Kz {b1 b2:Bool}{P:C3}{w:World}{K:A3}{elts:List Expr}{x1}{pos:Pos}(a c z TI TO i1 i2:Addr)(D:ZAp z TI TO i1 i2) :
   Turn P w K (.Tuple elts x1 pos) (ItzB b1 b2 K a c) [z,TI,TO,i1,i2] z (fun i h=>IsZip h z TI TO .none/\IsPair h TI (.ref i1) (.ref i2)/\(∃p q,IsPair h TO p q)/\ItB b1 h i1 a i/\ItB b2 h i2 c i) where
 mem:=by simp
 obj:=fun i h st e he=>by
   obtain⟨hz,h1,⟨p,q,h2⟩,h3,h4⟩:=st;obtain⟨o3,e3,_,d3⟩:=h3.obj;obtain⟨o4,e4,_,d4⟩:=h4.obj;have he':e=z\/e=TI\/e=TO\/e=i1\/e=i2:=by simpa using he
   rcases he' with rfl | rfl | rfl | rfl | rfl
   · exact⟨_,hz,fun v z=>by cases z⟩
   · exact⟨_,h1,fun v z=>by cases z⟩
   · exact⟨_,h2,fun v z=>by cases z⟩
   · exact⟨_,e3,d3⟩
   · exact⟨_,e4,d4⟩
 keep:=fun i h h' st k=>by
   obtain⟨hz,h1,⟨p,q,h2⟩,h3,h4⟩:=st;exact⟨k z (by simp) _ hz,k TI (by simp) _ h1,⟨p,q,k TO (by simp) _ h2⟩,h3.at fun o e=>k i1 (by simp) o e,h4.at fun o e=>k i2 (by simp) o e⟩
 item:=by
   intro X hP hw hK hc i pins s σ H E I hf st hg;subst hP hw hK;obtain⟨hz,hTI,⟨p,q,hTO⟩,h3,h4⟩:=st;obtain⟨xs,ys,x,y,hq1,hq2,hx,hy⟩:=hg;obtain⟨is1,rv1,p1,hz1⟩:=I.seqB hq1;obtain⟨is2,rv2,p2,hz2⟩:=I.seqB hq2;obtain⟨u,hu,ru⟩:=rv1.get hx;obtain⟨v,hv,rv⟩:=rv2.get hy;have ty:s.TypeIs (.ref z) "zip":=⟨_,hz,rfl⟩;unfold pyNext;refine A1 (wpAny_attempt (W8 (name:=C1 "__next__") ty Be (T4 Be ty F.entry_zip_next (Ky D (BG p1 hz rfl (by decide) (by decide)) (BG p2 hz rfl (by decide) (by decide)) (BH I hf hTO hq1) (BH I hf hTO hq2) (h3.ne p1) (h3.ne p2) hz hTI hTO h3 h4 p1 p2 (by simpa using hu) (by simpa using hv) fun h' a1 a2 a3 a4 a5 k=>A6 ?_) (F.args_zip_next_1 _))));refine⟨_,rfl,wpAny_letOwnedTupleGo_zip (s:={ s with heap:=h' }) a1 fun h'' z'' sb=>?_⟩;have lt:∀{d:Addr} {o:Obj},s.heap.get? d=some o->s.heap.objs.size≠d:=fun e=>b8 (B5 e);have ht'':h''.get? s.heap.objs.size=some { cls:=.type "tuple",data:=.seq #[u,v] }:=(sb.2 _ (lt hz)).trans a5
   have k':∀d o,d∉[z,TI,TO,i1,i2]->s.heap.get? d=some o->h''.get? d=some o:=fun d o hb q=>by
     have hb1:d≠z:=fun e=>hb (by simp [e]);exact(sb.2 d hb1).trans (k d o hb1 (fun e=>hb (by simp [e])) (fun e=>hb (by simp [e])) (fun e=>hb (by simp [e])) q)
   have I1:Inv X pins σ (upd H s.heap.objs.size (.tup [x,y])) { s with heap:=h'' }:=
     I.turnedNew (t':=s.toks) k' hf ⟨by show 2<=B1;decide,[u,v],.cons ru (.cons rv .nil),⟨_,ht'',rfl,_,rfl⟩⟩
   obtain⟨o3,e3,_,_⟩:=h3.obj;obtain⟨o4,e4,_,_⟩:=h4.obj
   refine⟨.ref s.heap.objs.size,_,I1,rfl,⟨_,x,y,I.fresh,rfl,rfl,fun zs hzs=>by rw [I.seqB_inj hzs hq1];exact hx,fun zs hzs=>by rw [I.seqB_inj hzs hq2];exact hy⟩,
     ⟨z'',sb.extBut _ _ D.a1 (k _ _ D.a1 D.a5 D.a6 D.a7 hTI),⟨u,v,sb.extBut _ _ D.a2 a2⟩,a3.at fun o e=>sb.extBut _ o D.a3 e,a4.at fun o e=>sb.extBut _ o D.a4 e⟩,fun d hd=>?_⟩
   have hd':d=z\/d=TI\/d=TO\/d=i1\/d=i2:=by simpa using hd
   have hds:d≠s.heap.objs.size:=by
     rcases hd' with rfl | rfl | rfl | rfl | rfl
     · exact(lt hz).symm
     · exact(lt hTI).symm
     · exact(lt hTO).symm
     · exact(lt e3).symm
     · exact(lt e4).symm
   rw [B3 hds];exact(hf d hd).1
 done:=by
   intro X hP hw hK hc i pins s σ H E I hf st hg;subst hP hw hK;obtain⟨hz,hTI,⟨p,q,hTO⟩,h3,h4⟩:=st;obtain⟨xs,ys,hq1,hq2,hmin⟩:=hg;obtain⟨is1,rv1,p1,hz1⟩:=I.seqB hq1;obtain⟨is2,rv2,p2,hz2⟩:=I.seqB hq2;have l1:=rv1.length;have l2:=rv2.length;have ty:s.TypeIs (.ref z) "zip":=⟨_,hz,rfl⟩
   have hend:is1.toArray[i]?=none\/is2.toArray[i]?=none:=by
     rcases Nat.le_total xs.length ys.length with h | h
     · exact .inl (Co (by rw [D8];omega))
     · exact .inr (Co (by rw [D8];omega))
   unfold pyNext;refine A1 (wpAny_attempt (W8 (name:=C1 "__next__") ty Be (T4 Be ty F.entry_zip_next (zipEnd (A:=X.A.in1) (I.ok.hd hc) D (BG p1 hz rfl (by decide) (by decide)) (BG p2 hz rfl (by decide) (by decide)) (BH I hf hTO hq1) (BH I hf hTO hq2) (h3.ne p1) (h3.ne p2) hz hTI hTO h3 h4 p1 p2 hend fun h' e k he=>?_) (F.args_zip_next_1 _))));obtain⟨o,ho,hce⟩:=he;refine A1 (wpAny_isInstance (T:="StopIteration") (b:=true) ⟨o,ho,hce⟩ isSubtype_stop (A6 ⟨rfl,?_⟩));exact I.turnedAll (t':=s.toks) (ch:=[z,TI,TO,i1,i2]) (fun d o hd e=>k d o (fun z=>hd (by simp [z])) (fun z=>hd (by simp [z])) (fun z=>hd (by simp [z])) (fun z=>hd (by simp [z])) e) hf
 self:=fun _ _ _ _ _ st h=>wpAny_pyIter_zip st.1 h
end
end L2
end
section
namespace L2
open PySem PySem.Spec PyProof.Rows
section
variable {X:Cx}
def iZipB (b1 b2:Bool)(K:A3)(ta:TA):TI:=fun σ H R=>ta σ H fun vs H1=>∃a c,vs=[.ref a,.ref c]/\(∃xs,SqB b1 K H1 a xs)/\(∃ys,SqB b2 K H1 c ys)/\R (ItzB b1 b2 K a c) H1
theorem KA (b1 b2:Bool){a b:Expr}{ta:TA}{p pos:Pos}{elts:List Expr}{x1}{tpos:Pos}(hg:Gl X "zip")(hm:X.mg "zip"=none)(ha:PA X [a,b] ta)(hs:C7 [a,b] X.env=[(false,eval a X.env),(false,eval b X.env)]:=by rfl)(hs2:C7 [b] X.env=[(false,eval b X.env)]:=by rfl) :
   PI X (.Tuple elts x1 tpos) (.Call (.Name "zip" p) [a,b] [] pos) (iZipB b1 b2 X.K ta):=by
 intro pins s σ H R I h;refine Call_ (R5 I hg hm boot_zip (X4 (thn (ha pos pins s σ H _ I h) fun us s1 ⟨vs,H1,I1,r1,q1⟩=>?_) (by rw [hs,hs2]) (by rw [hs2];rfl)));obtain⟨a,c,e,⟨xs,h1⟩,⟨ys,h2⟩,q⟩:=q1;subst e;cases r1 with
 | cons r rr =>
   cases rr with
   | cons r' rr =>
     cases rr;cases r;cases r';obtain⟨is1,rv1,p1,hz1⟩:=I1.seqB h1;obtain⟨is2,rv2,p2,hz2⟩:=I1.seqB h2;refine zipB p1 p2 fun h' e1 e2 e3 e4 e5 hk=>?_;refine wpAny_pyIter_zip e1 ?_;have I2:Inv X pins σ H1 { s1 with heap:=h' }:=I1.kept (t':=s1.toks) hk;refine⟨s1.heap.objs.size + 4,[s1.heap.objs.size + 4,s1.heap.objs.size + 2,s1.heap.objs.size + 3,s1.heap.objs.size,s1.heap.objs.size + 1],_,_,H1,rfl,I2,Kz a c _ _ _ _ _ ⟨by simp,by simp,by simp,by simp,by simp,by simp,by simp,by simp,by simp,by simp⟩,⟨e1,e2,⟨_,_,e3⟩,e4,e5⟩,fun d hd=>?_,q⟩
     have hd':s1.heap.objs.size<=d:=by
       simp only [C0,k5,or_false] at hd;rcases hd with rfl | rfl | rfl | rfl | rfl <;> omega
     exact I1.fpOk hd' (I1.hok.fresh hd')
end
end L2
namespace Pu
open PySem PySem.Spec L2
section
variable {T:PotK}{ι:Type}{K:A3}{F:ι->Cx}{e a b tg:Expr}{pe pa pb:pE}{pos:Pos}
def BI (pe:pE):pA:=fun env n R=>pe env n fun x env1 n1=>match x with | .tup xs=>R (Y9 xs) env1 n1 | _=>False
theorem Gi {p:Pos}{elts:List Expr}{x1:Nat}{tpos:Pos}(hg:∀z,Gl (F z) "enumerate")(hm:∀z,(F z).mg "enumerate"=none)(h:QE T K F e pe)(hs:C9 e=true:=by rfl)(hK:∀z,(F z).K=K:=by intro _;rfl):QI T K F (.Tuple elts x1 tpos) (.Call (.Name "enumerate" p) [e] [] pos) (BI pe):=by
 obtain⟨t,h1,h2⟩:=h;refine⟨_,fun z=>hK z▸Kx false (hg z) (hm z) (C6 (h1 z) E9 (B2 hs)) (by rw [B2 hs];rfl),fun C G σ H env n R Q hK hT S hp k=>?_⟩;refine h2 C G σ H env n _ _ hK hT S hp fun x env1 n1 v H1 p1 S1 r1 f1=>?_;cases x with
 | tup xs =>
   obtain⟨a,vs,rfl,t,r⟩:=r1;refine⟨a,rfl,⟨vs,t.sq⟩,k _ _ _ _ _ p1 S1 f1 ?_⟩;intro G2 H2 hk hM hp hf;have hq:SqB false K H2 a vs:=SqT.of (hk a _ t.1 t.2);have r2:Reps K G2 H2 xs vs:=Reps.mono hk hM hp _ _ r;refine⟨fun i x e=>?_,fun i hi=>⟨vs,hq,by rw [<- r.length,<- Aj];exact hi⟩⟩;obtain⟨y,ey,rfl⟩:=Bx e;obtain⟨v,ev,rv⟩:=r2.get' ey;refine⟨⟨vs,v,hq,ev⟩,fun v' H3 y=>?_⟩;obtain⟨p,w,hn,rfl,rfl,y⟩:=y;have:=y vs hq;rw [ev] at this;cases this;exact⟨Same.lay1 hn,Y4 (hf p hn) hn (.cons rfl (.one rv))⟩
 | _=>exact p1.elim
def zipP (xs ys:List PV):List PV:=(xs.zip ys).map fun y=>.tup [y.1,y.2]
def Aq (b:Bool):PV->Option (List PV)
 | .lst xs=>if b then some xs else none
 | .tup xs=>if b then none else some xs
 | _=>none
theorem KB {b:Bool}(h:Aq b x=some xs):x=(match b with | true=>.lst xs | false=>.tup xs):=by
 cases x <;> cases b <;> simp [Aq] at h <;> simp [h]
theorem Gj {b:Bool}(h:Aq b x=some xs)(r:Rep K G H x v):∃a vs,v=.ref a/\a∉G.M/\Reps K G H xs vs/\∀H2,(∀c o,c∉G.M->H c=some o->H2 c=some o)->SqB b K H2 a vs:=by
 rw [KB h] at r;cases b with
 | true =>
   obtain⟨a,vs,e,t,r⟩:=r;exact⟨a,vs,e,t.1,r,fun H2 hk=>SqL.of (hk a _ t.1 t.2)⟩
 | false =>
   obtain⟨a,vs,e,t,r⟩:=r;exact⟨a,vs,e,t.1,r,fun H2 hk=>SqT.of (hk a _ t.1 t.2)⟩
def qZip (b1 b2:Bool)(pa pb:pE):pA:=fun env n R=>pa env n fun x env1 n1=>pb env1 n1 fun y env2 n2=>match Aq b1 x,Aq b2 y with | some xs,some ys=>R (zipP xs ys) env2 n2 | _,_=>False
theorem KC (xs ys:List PV):(zipP xs ys).length=min xs.length ys.length:=by simp [zipP]
theorem Gk {xs ys:List PV}{i:Nat}{x:PV}(h:(zipP xs ys)[i]?=some x):∃u v,xs[i]?=some u/\ys[i]?=some v/\x=.tup [u,v]:=by grind [PV,zipP]
theorem qi_zip (b1 b2:Bool)(hg:∀z,Gl (F z) "zip")(hm:∀z,(F z).mg "zip"=none)(ha:QE T K F a pa)(hb:QE T K F b pb)(hs:C9 a=true:=by rfl)(hs2:C9 b=true:=by rfl)(hK:∀z,(F z).K=K:=by intro _;rfl):QI T K F (.Tuple elts x1 tpos) (.Call (.Name "zip" p) [a,b] [] pos) (qZip b1 b2 pa pb):=by
 obtain⟨t,h1,h2⟩:=ha;obtain⟨u,h3,h4⟩:=hb;refine⟨_,fun z=>hK z▸KA b1 b2 (hg z) (hm z) (C6 (h1 z) (C6 (h3 z) E9 (B2 hs2)) (B2 hs)) (by rw [B2 hs,B2 hs2];rfl) (by rw [B2 hs2];rfl),fun C G σ H env n R Q hK hT S hp k=>?_⟩;refine h2 C G σ H env n _ _ hK hT S hp fun x env1 n1 v H1 p1 S1 r1 f1=>?_;refine h4 C G σ H1 env1 n1 _ _ hK hT S1 p1 fun y env2 n2 w H2 p2 S2 r2 f2=>?_
 split at p2
 · rename_i xs ys ex ey;obtain⟨a,vs,rfl,na,ra,sa⟩:=Gj ex (r1.fr f2);obtain⟨c,us,rfl,nc,rc,scq⟩:=Gj ey r2;refine⟨a,c,rfl,⟨vs,sa H2 fun _ _ _ e=>e⟩,⟨us,scq H2 fun _ _ _ e=>e⟩,k _ _ _ _ _ p2 S2 (f1.trans f2) ?_⟩;intro G2 H3 hk hM hp hf;have ra':Reps K G2 H3 xs vs:=Reps.mono hk hM hp _ _ ra;have rc':Reps K G2 H3 ys us:=Reps.mono hk hM hp _ _ rc;refine⟨fun i x e=>?_,fun i hi=>⟨vs,us,sa H3 hk,scq H3 hk,by rw [<- ra.length,<- rc.length,<- KC];exact hi⟩⟩;obtain⟨u,v,eu,ev,rfl⟩:=Gk e;obtain⟨u',eu',ru⟩:=ra'.get' eu;obtain⟨v',ev',rv⟩:=rc'.get' ev;refine⟨⟨vs,us,u',v',sa H3 hk,scq H3 hk,eu',ev'⟩,fun x' H4 y=>?_⟩;obtain⟨p,u2,v2,hn,rfl,rfl,y1,y2⟩:=y;have q1:=y1 vs (sa H3 hk);have q2:=y2 us (scq H3 hk);rw [eu'] at q1;rw [ev'] at q2;cases q1;cases q2;exact⟨Same.lay1 hn,Y4 (hf p hn) hn (.cons ru (.one rv))⟩
 · exact p2.elim
end
end Pu
end
section
namespace L2
open PySem PySem.Spec PyProof.Rows
section
variable {κ:Type}[DecidableEq κ]
def valV (kvs:List (κ×V))(k:κ):Option V:=(kvs.find? fun kv=>decide (kv.1=k)).map (·.2)
def putK (kvs:List (κ×V))(k:κ)(v:V):List (κ×V):=
 if(kvs.any fun kv=>decide (kv.1=k))=true then kvs.map (fun kv=>if kv.1=k then(kv.1,v) else kv) else kvs++[(k,v)]
theorem Ds {k:κ}(e:p.1=k):valV (p::r) k=some p.2:=by simp [valV,k6,e]
theorem Dt {k:κ}(e:¬p.1=k):valV (p::r) k=valV r k:=by simp [valV,k6,e]
theorem Du (k:κ):∀kvs:List (κ×V),(kvs.any fun kv=>decide (kv.1=k))=(valV kvs k).isSome
 | []=>rfl
 | p :: r => by
   rw [List.any_cons]
   by_cases e:p.1=k
   · simp only [Ds e,decide_eq_true e,Bool.true_or,Option.isSome_some]
   · rw [Dt e,decide_eq_false e,Bool.false_or];exact Du k r
theorem Gm (kvs:List (κ×V))(k:κ)(v:V):(putK kvs k v).length<=kvs.length + 1:=by
 unfold putK
 split
 · rw [A9];omega
 · rw [E3,O5,List.length_nil];omega
theorem RelO.isSome_eq (r:RelO o u):o.isSome=u.isSome:=by
 cases o with
 | none => cases u with
   | none=>rfl
   | some _=>exact(show False from r).elim
 | some _ => cases u with
   | none=>exact(show False from r).elim
   | some _=>rfl
theorem KV.val (r:KV kvs vs)(k:κ):RelO (valV kvs k) (valueAt vs k):=by
 unfold KV at r
 induction r with
 | nil=>exact T8
 | @cons p q ps qs h t ih =>
   obtain⟨h1,h2⟩:=h
   by_cases e:p.1=k
   · have e':q.1=k:=h1.symm.trans e;have b:valueAt (q::qs) k=some q.2:=by simp [valueAt,k6,e']
     rw [Ds e,b];exact h2
   · have e':¬q.1=k:=fun z=>e (h1.trans z);have b:valueAt (q::qs) k=valueAt qs k:=by simp [valueAt,k6,e']
     rw [Dt e,b];exact ih
theorem KV.any {kvs:List (κ×V)}{vs:List (κ×Value)}(r:KV kvs vs)(k:κ):(kvs.any fun kv=>decide (kv.1=k))=vs.any fun kv=>decide (kv.1=k):=by induction r <;> grind
theorem KV.repl (r:KV kvs vs)(k:κ)(ry:RelV y u) :
   KV (kvs.map fun kv=>if kv.1=k then(kv.1,y) else kv) (vs.map fun kv=>if kv.1=k then(kv.1,u) else kv):=by
 unfold KV at r ⊢
 induction r with
 | nil=>exact .nil
 | @cons p q ps qs h t ih =>
   rw [G7,G7];refine .cons ?_ ih;obtain⟨h1,h2⟩:=h
   by_cases e:p.1=k
   · rw [if_pos e,if_pos (h1.symm.trans e)];exact⟨h1,ry⟩
   · rw [if_neg e,if_neg (fun z=>e (h1.trans z))];exact⟨h1,h2⟩
theorem KV.put (r:KV kvs vs)(k:κ)(ry:RelV y u):KV (putK kvs k y) (stored vs k u):=by
 unfold putK stored;rw [r.any k]
 by_cases e:(vs.any fun kv=>decide (kv.1=k))=true
 · rw [if_pos e,if_pos e];exact r.repl k ry
 · rw [if_neg e,if_neg e];exact Paired.snoc r ⟨rfl,ry⟩
theorem KV.length (r:KV kvs vs):kvs.length=vs.length:=Paired.length r
end
theorem Ar (r:RelV (kV k) u):(L0 P w).is k u=true:=by
 cases k with
 | inl i=>obtain⟨t,e⟩:=(show ∃t,u=l7 i t from r);subst e;exact Ip P w i t
 | inr x=>obtain⟨t,e⟩:=(show ∃t,u=Value.str x t from r);subst e;exact Iq P w x t
theorem Gn {P:C3}{w:World}:∀{ks:List Key} {us:List Value},Vals (ks.map kV) us->ItemsAre (L0 P w) ks us
 | [],_,r=>by rw [List.map_nil] at r;cases r;exact .nil
 | k :: ks, _, r => by
   rw [G7] at r;cases r with
   | cons h t=>exact .cons (Ar h) (Gn t)
abbrev KT (H:Hp):List (List Key×V)->List (List Key×Addr×Value)->Prop:=Paired fun p q=>p.1=q.1/\H q.2.1=some (.tup (p.1.map kV))/\RelV p.2 q.2.2
theorem KT.val (r:KT H kvs xs)(k:List Key):RelO (valV kvs k) ((atKey xs k).map (·.2)):=by
 induction r with
 | nil=>exact T8
 | @cons p q ps qs h t ih =>
   obtain⟨h1,_,h2⟩:=h
   by_cases e:p.1=k
   · have e':q.1=k:=h1.symm.trans e;have b:atKey (q::qs) k=some q.2:=by simp [atKey,k6,e']
     rw [Ds e,b];exact h2
   · have e':¬q.1=k:=fun z=>e (h1.trans z);have b:atKey (q::qs) k=atKey qs k:=by simp [atKey,k6,e']
     rw [Dt e,b];exact ih
theorem KT.repl {H:Hp}{kvs:List (List Key×V)}{xs:List (List Key×Addr×Value)}(r:KT H kvs xs)(k:List Key){y:V}{u:Value}(ry:RelV y u) :
   KT H (kvs.map fun kv=>if kv.1=k then(kv.1,y) else kv) (xs.map (putAt k u)):=by
 induction r with
 | nil=>exact .nil
 | @cons p q ps qs h t ih =>
   rw [G7,G7];refine .cons ?_ ih;obtain⟨h1,h2,h3⟩:=h;unfold putAt
   by_cases e:p.1=k
   · grind
   · grind
theorem KT.put (r:KT H kvs xs)(k:List Key)(hb:H b=some (.tup (k.map kV)))(ry:RelV y u) :
   KT H (putK kvs k y) (storedH xs k b u):=by
 have e:(kvs.any fun kv=>decide (kv.1=k))=(atKey xs k).isSome:=by
   rw [Du,(r.val k).isSome_eq,Option.isSome_map]
 unfold putK storedH;rw [e]
 by_cases q:(atKey xs k).isSome=true
 · rw [if_pos q,if_pos q];exact r.repl k ry
 · rw [if_neg q,if_neg q];exact Paired.snoc r ⟨rfl,hb,ry⟩
theorem KT.keeps (r:KT H kvs xs)(ht:∀b ys,H b=some (.tup ys)->H' b=some (.tup ys)):KT H' kvs xs:=
 Paired.mapP r fun _ _ z=>⟨z.1,ht _ _ z.2.1,z.2.2⟩
section
variable {P:C3}{w:World}{H:Hp}{h:Heap}{a:Addr}
theorem rd_of (ok:HOk P w H h)(e:Rd H a u):D9 P w H h a u:=e.ok ok
theorem dk_rd (ok:HOk P w H h)(e:Rd H a (.dK kvs)):kvs.length<=B1/\(a == K2)=false/\∃vs,KV kvs vs/\h.DictOf (L0 P w) a vs:=
 show D9 P w H h a (.dK kvs) from rd_of ok e
theorem dk_of (ok:HOk P w H h)(e:H a=some (.dK kvs)):kvs.length<=B1/\(a == K2)=false/\∃vs,KV kvs vs/\h.DictOf (L0 P w) a vs:=dk_rd ok (.inl e)
theorem Dv (ok:HOk P w H h)(e:H a=some (.tup (ks.map kV))):(tupleKind (L0 P w)).is h ks a:=by
 obtain⟨_,its,r,o,h1,h2,n,h3⟩:=(show D9 P w H h a (.tup (ks.map kV)) from ok a _ e);exact⟨o,its.toArray,n,h1,(o5 h2).1,h3,by simpa using Gn r⟩
theorem dt_rd {kvs:List (List Key×V)}(ok:HOk P w H h)(e:Rd H a (.dT kvs)):kvs.length<=B1/\(a == K2)=false/\
   ∃xs,KT H kvs xs/\h.DictOfH (tupleKind (L0 P w)) a xs:=by
 obtain⟨z,y,xs,r,o,es,ep,h1,h2,h3,h4,h5⟩:=(show D9 P w H h a (.dT kvs) from rd_of ok e);refine⟨z,y,xs,r,o,es,ep,h1,h2,h3,h4,fun x hx=>?_,h5⟩
 have all:∀{l:List (List Key×V)} {m:List (List Key×Addr×Value)},KT H l m->∀x∈m,(tupleKind (L0 P w)).is h x.1 x.2.1:=by
   intro l m q
   induction q with
   | nil=>intro x hx;exact nomatch hx
   | @cons p q ps qs hq t ih =>
     intro x hx;rcases C0.mp hx with e | hx
     · subst e;exact Dv ok (by grind)
     · grind
 grind
theorem dt_of (ok:HOk P w H h)(e:H a=some (.dT kvs)):kvs.length<=B1/\(a == K2)=false/\
   ∃xs,KT H kvs xs/\h.DictOfH (tupleKind (L0 P w)) a xs:=dt_rd ok (.inl e)
end
def DGet (H:Hp)(a:Addr)(y:V)(r:Option V):Prop:=
 (∃kvs k,Rd H a (.dK kvs)/\y=kV k/\r=valV kvs k)\/∃kvs k b,Rd H a (.dT kvs)/\y=.ref b/\H b=some (.tup (k.map kV))/\r=valV kvs k
def DPut (H:Hp)(a:Addr)(y v:V)(H':Hp):Prop:=
 (∃kvs k,H a=some (.dK kvs)/\y=kV k/\kvs.length < B1/\H'=upd H a (.dK (putK kvs k v)))\/
 ∃kvs k b,H a=some (.dT kvs)/\y=.ref b/\H b=some (.tup (k.map kV))/\kvs.length < B1/\H'=upd H a (.dT (putK kvs k v))
theorem DGet.k {k:Key}(e:H a=some (.dK kvs)):DGet H a (kV k) (valV kvs k):=.inl ⟨kvs,k,.inl e,rfl,rfl⟩
theorem DGet.t {k:List Key}(e:H a=some (.dT kvs))(eb:H b=some (.tup (k.map kV))):DGet H a (.ref b) (valV kvs k):=.inr ⟨kvs,k,b,.inl e,rfl,eb,rfl⟩
theorem DPut.k {k:Key}(e:H a=some (.dK kvs))(hl:kvs.length < B1):DPut H a (kV k) v (upd H a (.dK (putK kvs k v))):=.inl ⟨kvs,k,e,rfl,hl,rfl⟩
theorem DPut.t {k:List Key}(e:H a=some (.dT kvs))(eb:H b=some (.tup (k.map kV)))(hl:kvs.length < B1) :
   DPut H a (.ref b) v (upd H a (.dT (putK kvs k v))):=.inr ⟨kvs,k,b,e,rfl,eb,hl,rfl⟩
section
variable {X:Cx}{pins:List (Addr×Obj)}{σ:St}{H:Hp}{s:Shared}{a:Addr}{y v:V}{u r:Value}{o:Option V}{A:Around}{E:Value->Shared->Prop}
theorem KD {Q:Value->Shared->Prop}(hu:A.units + 1 < cLine)(I:Inv X pins σ H s)(g:DGet H a y o)(ry:RelV y u)(h:∀s',Inv X pins σ H s'->Q (.bool (!o.isSome)) s') :
   wpAny (model X.prog X.w) A (G5 .NotIn u (.ref a)) Q E s:=by
 rcases g with⟨kvs,k,e,ey,l⟩ | ⟨kvs,k,b,e,ey,eb,l⟩
 · subst ey;obtain⟨z,hd,vs,rel,dd⟩:=dk_rd I.hok e;refine wpAny_notIn_of (Ar ry) hd dd.mapOf ?_;rw [<- (rel.val k).isSome_eq,<- l];exact h _ (I.tok _)
 · subst ey;cases(show u=J9 b from ry);obtain⟨z,hd,xs,rel,dd⟩:=dt_rd I.hok e;refine wpAny_notIn_heap (tupleKind_room_in1 hu) (Dv I.hok eb) hd dd ?_;have q:=(rel.val k).isSome_eq;rw [Option.isSome_map] at q;rw [<- q,<- l];exact h _ (I.tok _)
theorem Dw (I:Inv X pins σ H s)(mu:Mut (H a))(hs:w8 a s.heap h')(he:∃q,h'.get? a=some q)(new:D9 X.prog X.w (upd H a ob) h' a ob) :
   Inv X pins σ (upd H a ob) { s with heap:=h',toks:=t' }:=
 I.write (x:=a) (e:=a) mu (.inl rfl) (fun b q hb z=>(hs.2 b hb).trans z) he new
theorem dk_new (z:kvs.length<=B1)(hd:(a == K2)=false)(rel:KV kvs vs)(dd:h'.DictOf (L0 P w) a vs) :
   D9 P w H' h' a (.dK kvs):=⟨z,hd,vs,rel,dd⟩
theorem KF (hu:A.units + 1 < cLine)(I:Inv X pins σ H s)(g:DPut H a y v H')(ry:RelV y u)(rv:RelV v r)(h:∀s',Inv X pins σ H' s'->Q () s') :
   wpAny (model X.prog X.w) A (setItem (.ref a) u r) Q E s:=by
 rcases g with⟨kvs,k,e,ey,l,eH⟩ | ⟨kvs,k,b,e,ey,eb,l,eH⟩
 · subst ey eH;obtain⟨z,hd,vs,rel,dd⟩:=dk_of I.hok e;have hz:vs.length<=B1:=by rw [<- rel.length];exact z
   have hl:(putK kvs k v).length<=B1:=by have:=Gm kvs k v;omega
   refine wpAny_setItem_pairs (hsz:=hz) (Ar ry) dd fun h' dd' hs=>h _ ?_;have he:∃q,h'.get? a=some q:=let ⟨q,_,_,hq,_⟩:=dd';⟨q,hq⟩;exact Dw I (by rw [e];exact T8) hs he (dk_new hl hd (rel.put k rv) dd')
 · subst ey eH;cases(show u=J9 b from ry);obtain⟨z,hd,xs,rel,dd⟩:=dt_of I.hok e;have hz:xs.length<=B1:=by rw [<- Paired.length rel];exact z
   have hl:(putK kvs k v).length<=B1:=by have:=Gm kvs k v;omega
   refine wpAny_setItem_heap (hsz:=hz) (tupleKind_room_in1 hu) (Dv I.hok eb) dd fun h' dd' hs=>h _ ?_;obtain⟨q,es,ep,hq,h2,h3,h4,_,h5⟩:=dd';refine Dw I (by rw [e];exact T8) hs ⟨q,hq⟩ ⟨hl,hd,_,(rel.put k eb rv).keeps fun c ys ec=>?_,q,es,ep,hq,h2,h3,h4,h5⟩;rw [B3 (ne_of ec e (fun z=>nomatch z))];exact ec
end
def Dx (td ty tv:TE):TS:=fun D σ H=>tv σ H fun v H1=>td σ H1 fun x H2=>ty σ H2 fun y H3=>∃a H4,x=.ref a/\DPut H3 a y v H4/\D.nx σ H4
section
variable {X:Cx}{o i e value:Expr}{pos pos' tpos:Pos}{td ty tv:TE}
theorem KG (hu:X.A.units + 1 < cLine)(ho:PE X o td)(hi:PE X i ty)(hv:PE X value tv)(hs:T5 value (some (.Subscript o i pos')) pos.line X.env=pure false) :
   PS X (.Assign [.Subscript o i pos'] value pos) (Dx td ty tv):=by
 intro pins s σ H D I h;refine wpAny_Assign_Subscript (thn (hv pins s σ H _ I h) fun r s1 ⟨v,H1,I1,rv,q1⟩=>thn (ho pins s1 σ H1 _ I1 q1) fun u s2 ⟨x,H2,I2,rx,q2⟩=>thn (hi pins s2 σ H2 _ I2 q2) fun iv s3 ⟨y,H3,I3,ry,a,H4,ex,g,q3⟩=>?_) hs;subst ex;obtain rfl:u=J9 a:=rx;exact KF hu I3 g ry rv fun s4 I4=>⟨σ,H4,I4,q3⟩
end
end L2
end
section
namespace Pu
open PySem PySem.Spec L2
theorem As {te:pE}{rest:Env}{α:Type}(f:α->PV)(g:α->PV):∀(xs:List α) (s0:Option Slot) (n:Nat) (R:List PV->Nat->Prop),(∀x∈xs,∀m Q,Q (g x) (some (.v (f x))::rest) m->te (some (.v (f x))::rest) m Q)->R (xs.map g) n->Q3 (gN 0) qTru te (xs.map f) (s0::rest) n R
 | [],_,_,_,_,h=>h
 | x :: xs, s0, n, R, ht, h => by
   show te (some (.v (f x))::rest) n _;refine ht x F4 n _ ?_;exact As f g xs _ n _ (fun y hy=>ht y (D0 _ hy)) h
theorem Go {te:pE}{rest:Env}{α:Type}(u v g:α->PV):∀(xs:List α) (s0 s1:Option Slot) (n:Nat) (R:List PV->Nat->Prop),(∀x∈xs,∀m Q,Q (g x) (some (.v (u x))::some (.v (v x))::rest) m->te (some (.v (u x))::some (.v (v x))::rest) m Q)->R (xs.map g) n->Q3 (gTp 2 (gCn (gN 0) (gCn (gN 1) gNl))) qTru te (xs.map fun x=>.tup [u x,v x]) (s0::s1::rest) n R
 | [],_,_,_,_,_,h=>h
 | x :: xs, s0, s1, n, R, ht, h => by
   refine⟨rfl,?_⟩;show te (some (.v (u x))::some (.v (v x))::rest) n _;refine ht x F4 n _ ?_;exact Go u v g xs _ _ n _ (fun y hy=>ht y (D0 _ hy)) h
end Pu
end
section
namespace L2
open PySem PySem.W PyProof.Rows
namespace Kr
structure Ord (lt:Nat->Nat->Bool):Prop where
 ir:∀a,lt a a=false
 tr:∀a b c,lt a b=true->lt b c=true->lt a c=true
 nt:∀a b c,lt a c=true->lt a b=true\/lt b c=true
variable {lt:Nat->Nat->Bool}(O:Ord lt)
include O
omit O
def g (p:Array Nat)(i:Nat):Nat:=p.getD i 0
include O
omit O
def En (n:Nat)(p:Array Nat):Prop:=0 < n/\∀x∈p,x < n
theorem En.g (h:En n p)(i:Nat):p.getD i 0 < n:=by
 by_cases c:i < p.size
 · rw [show p.getD i 0=p[i] by simp [Array.getD,c]];exact h.2 _ (Array.getElem_mem c)
 · rw [show p.getD i 0=0 by simp [Array.getD,c]];exact h.1
end Kr
end L2
end
section
namespace Pu
open PySem PySem.Spec L2
def i4 {κ:Type}[DecidableEq κ](ks:List κ)(k:κ):List κ:=if k∈ks then ks else ks++[k]
def W4 {κ α:Type}[DecidableEq κ](ks:List κ)(xs:List α)(k:κ)(x:α):List α:=if k∈ks then(ks.zip xs).map (fun p=>if p.1=k then x else p.2) else xs++[x]
theorem KH {κ:Type}[DecidableEq κ]{ks:List κ}{vs:List V}(h:ks.length=vs.length)(k:κ)(v:V):putK (ks.zip vs) k v=(i4 ks k).zip (W4 ks vs k v):=by
 have any:((ks.zip vs).any fun kv=>decide (kv.1=k))=decide (k∈ks):=by
   clear v
   induction ks generalizing vs with
   | nil=>simp
   | cons a ks ih =>
     cases vs with
     | nil=>cases h
     | cons b vs =>
       rw [AQ,List.any_cons,ih (by simpa using h)]
       by_cases c:a=k
       · subst c;simp
       · by_cases d:k∈ks
         · simp [d]
         · have:¬k=a:=fun e=>c e.symm;simp [c,d,this]
 unfold putK i4 W4;rw [any]
 by_cases c:k∈ks
 · rw [if_pos (decide_eq_true c),if_pos c,if_pos c];clear any c
   induction ks generalizing vs with
   | nil=>simp
   | cons a ks ih =>
     cases vs with
     | nil=>cases h
     | cons b vs =>
       simp only [AQ,G7];rw [ih (by simpa using h)]
       split <;> rfl
 · rw [if_neg (by simpa using c),if_neg c,if_neg c,List.zip_append h];rfl
theorem KI {κ:Type}[DecidableEq κ]{K:A3}{G:Gh}{H:Hp}{ks:List κ}{xs:List PV}{vs:List V}(r:Reps K G H xs vs)(h:ks.length=xs.length)(k:κ){x:PV}{v:V}(rx:Rep K G H x v):Reps K G H (W4 ks xs k x) (W4 ks vs k v):=by
 unfold W4
 by_cases c:k∈ks
 · rw [if_pos c,if_pos c];clear c
   induction ks generalizing xs vs with
   | nil=>exact rfl
   | cons a ks ih =>
     cases xs with
     | nil=>cases h
     | cons y ys =>
       obtain⟨u,t,rfl,h1,h2⟩:=r;refine⟨_,_,rfl,?_,ih h2 (by simpa using h)⟩;show Rep K G H (if a=k then x else y) (if a=k then v else u)
       by_cases d:a=k
       · rw [if_pos d,if_pos d];exact rx
       · rw [if_neg d,if_neg d];exact h1
 · rw [if_neg c,if_neg c];exact r.append ⟨v,[],rfl,rx,rfl⟩
section
variable {T:PotK}{np:Bool}{ι:Type}{K:A3}{F:ι->Cx}{e:Expr}{st:Stmt}{pe pk pv:pE}{pos:Pos}
theorem KJ {X:Cx}{i:Nat}{o ix v:Expr}{pos' pos:Pos}(hu:X.A.units + 1 < cLine)(ho:EW X o (tVar i))(hs:T5 v (some (.Subscript o ix pos')) pos.line X.env=pure false:=by rfl)(tv ti:TE)(hv:EW X v tv)(hi:EW X ix ti):SW X (.Assign [.Subscript o ix pos'] v pos) (Dx (tVar i) ti tv):=⟨KG hu ho.h hi.h hv.h hs⟩
end
end Pu
end
section
namespace L2
open PySem PySem.Spec PyProof.Rows
theorem KK:F5 "reversed"=some (.type "reversed"):=by decide +kernel
theorem KL:isSubtype (.type "range_iterator") (.type "reversed")=pure false:=by rw [isSubtype_type];kernel_rfl
end L2
end
section
namespace Pu
open PySem PySem.Spec L2
section
variable {T:PotK}{np:Bool}{ι:Type}{K:A3}{F:ι->Cx}{e:Expr}{st:Stmt}{pe pk pv:pE}{pos:Pos}
def keyV:PV->Option Key
 | .int i=>some (.inl i)
 | .str z=>some (.inr z)
 | _=>none
theorem BJ {G:Gh}{H:Hp}{x:PV}{v:V}{k:Key}(r:Rep K G H x v)(h:keyV x=some k):v=kV k:=by
 cases x <;> simp [keyV] at h <;> subst h <;> exact r
def u3 (i:Nat)(pk pv:pE):pS:=fun D env n=>pv env n fun x env1 n1=>(∃ks xs,env1[i]?=some (some (.ow (.dk ks) xs)))/\pk env1 n1 fun y env2 n2=>match env2[i]?,keyV y with
 | some (some (.ow (.dk ks) xs)),some k=>ks.length=xs.length/\xs.length < 1000000/\D.nx (env2.set i (some (.ow (.dk (i4 ks k)) (W4 ks xs k x)))) n2
 | _,_=>False
theorem KM (i:Nat){v ix:Expr}(h:∀z tv ti,EW (F z) v tv->EW (F z) ix ti->SW (F z) st (Dx (tVar i) ti tv))(hv:QE T K F v pv)(hi:QE T K F ix pk):QS T np K F st (u3 i pk pv):=by
 obtain⟨tv,v1,v2⟩:=hv;obtain⟨ti,i1,i2⟩:=hi;refine⟨_,fun z=>(h z _ _ ⟨v1 z⟩ ⟨i1 z⟩).h,fun C G σ H env n PD D hK hT hn S hp L=>?_⟩;refine v2 C G σ H env n _ _ hK hT S hp fun x env1 n1 v H1 q1 S1 r1 f1=>?_;obtain⟨⟨ks0,xs0,e0⟩,q1⟩:=q1;obtain⟨a,vs,ev,h1,h2,h3,h4,r⟩:=S1.slots i _ e0;refine⟨.ref a,ev,?_⟩;refine i2 C G σ H1 env1 n1 _ _ hK hT S1 q1 fun y env2 n2 w H2 q2 S2 r2 f2=>?_
 split at q2
 · rename_i ks xs k ex ek;obtain⟨hl,hz,q3⟩:=q2;obtain⟨a',us,ev',g1,g2,g3,g4,r'⟩:=S2.slots i _ ex;rw [ev] at ev';cases ev';subst hK;have hlv:ks.length=us.length:=by rw [hl];exact r'.length
   have ew:=BJ r2 ek;subst ew;have rx:=r1.fr f2;obtain⟨S3,f3⟩:=S2.putO (.dk (i4 ks k)) ex ev (KI r' hl k rx)
   have eH:upd H2 a (mkO (.dk (i4 ks k)) (W4 ks us k v))=upd H2 a (.dK (putK (ks.zip us) k v)):=by
     show upd H2 a (.dK ((i4 ks k).zip (W4 ks us k v)))=_;rw [KH hlv]
   have zl:(ks.zip us).length < B1:=by rw [List.length_zip];unfold B1;omega
   rw [eH] at S3 f3;exact⟨a,_,rfl,DPut.k g4 zl,L.nx _ _ _ _ _ q3 S3 (Ext.fr ((f1.trans f2).trans f3))⟩
 · exact q2.elim
end
end Pu
end
section
namespace L2
open PySem PySem.Spec PyProof.Rows
section
variable {prog:C3}{w:World}{A:Around}{E:Value->Shared->Prop}{s:Shared}
theorem KN {j:Nat}(ht:s.heap.IsTuple t its)(hS:StrsAre its.toList ys)(hj:ys[j]?=some k)(hlt:∀i,i < j->ys[i]?≠some k)(hsm:ys.length<=1000000)
   (h:∀tk,Q (.int j tk) { s with toks:=s.toks + 1 }):wpAny (model prog w) A (call (.builtin "tuple.index") [.ref t,.str k tok]) Q E s:=by
 obtain⟨o,ho,hc,n,hd⟩:=id ht;have hT:s.TypeIs (.ref t) "tuple":=⟨o,ho,hc⟩;refine T4 F.slot_tuple_index hT F.entry_tuple_index ?_ (F.args_tuple_index_2 _ _);unfold Builtin.«tuple.index»;refine A1 (O0 (a:=(J9 t,[Value.str k tok])) rfl ?_);refine A1 (wpAny_tupleItemsOf ho hd ?_);dsimp only;refine A1 (A6 (A1 (A6 ?_)));refine A1 ?_;have hlen:ys.length=its.toList.length:=(StrsAre.length hS).symm
 have at_:∀(i:Nat) (y:Str),ys[i]?=some y->∃u,its[i]?=some (.str y u):=by
   intro i y hy
   have:∀{us:List Value} {zs:List Str},StrsAre us zs->∀(i:Nat),zs[i]?=some y->∃u,us[i]?=some (.str y u):=by
     intro us zs hh
     induction hh with
     | nil=>intro i h;cases h
     | cons x t _ ih =>
       intro i h;cases i with
       | zero=>cases h;exact⟨t,rfl⟩
       | succ i=>exact ih i (by simpa using h)
   obtain⟨u,hu⟩:=this hS i hy;exact⟨u,by rw [<- Cp];exact hu⟩
 have hjl:j < its.size:=by
   have:=(C5.mp hj).1;rw [hlen,l8] at this;exact this
 rw [Std.Legacy.Range.forIn_eq_forIn_range'];refine wpAny_forIn_list _ (fun rest r s'=>r.1=none/\s'=s/\∃i,rest=List.range' i (its.size - i)/\i<=j) _ ?_ ?_ _ _ ⟨rfl,rfl,0,?_,O7 _⟩
 · rintro x rest ⟨r1,r2⟩ s' ⟨hr,rfl,i0,hi,hij⟩;have hil:its.size - i0=(its.size - i0 - 1) + 1:=by omega
   rw [hil,List.range'_succ] at hi;obtain⟨i,hxi⟩:∃i,x=i:=⟨x,rfl⟩;injection hi with h1 h2;subst h2;have hi0:i0=i:=by rw [<- hxi,h1]
   subst hi0;subst hxi;clear h1
   revert hij hil
   generalize x=i;intro hij hil;have hiy:i < ys.length:=by rw [hlen,l8];omega
   obtain⟨u,hu⟩:=at_ i ys[i] (C4 hiy);rw [hu];dsimp only;refine A1 (eqBool_str ?_)
   by_cases c:i=j
   · subst c
     have:ys[i]=k:=by
       have:=C4 hiy;rw [hj] at this;exact(D7 this).symm
     rw [this,beq_self_eq_true,if_pos rfl];refine A1 (A1 (wpAny_mkInt (A6 (A6 ?_))));exact A6 ⟨_,rfl,h _⟩
   · have:ys[i]≠k:=fun e=>hlt i (by omega) (by rw [C4 hiy,e]);rw [beq_eq_false_iff_ne.mpr this,if_neg N1];refine A6 ⟨rfl,rfl,i + 1,?_,by omega⟩;rw [show its.size - (i + 1)=its.size - i - 1 by omega]
 · rintro⟨r1,r2⟩ s' ⟨hr,rfl,i,hi,hij⟩;have hil:its.size - i=(its.size - i - 1) + 1:=by omega
   rw [hil,List.range'_succ] at hi;cases hi
 · simp [Std.Legacy.Range.size]
end
section
variable {X:Cx}
def Gp (K:A3):V->List V->Hp->VK->Prop:=fun x vs H Q=>∃(l:Addr) (k:Str) (ys:List Str) (j:Nat),x=.ref l/\vs=[.str k]/\SqT K H l (ys.map V.str)/\ys.length<=1000000/\ys[j]?=some k/\(∀i,i < j->ys[i]?≠some k)/\Q (.int j) H
theorem KO:MtM X "tuple.index" (Gp X.K):=by
 intro pins s σ H x vs v us Q I rx rv h;obtain⟨l,k,ys,j,rfl,rfl,hq,hz0,hj,hlt,q⟩:=h;cases rx;obtain⟨u,rfl,ru⟩:=rv.one;obtain⟨t,rfl⟩:=ru;obtain⟨its,r,p,hz⟩:=I.tuple hq;exact KN p (Ga r) hj hlt hz0 fun tk=>⟨.int j,H,I.tok _,⟨_,rfl⟩,q⟩
end
end L2
end
section
namespace Pu
open PySem PySem.Spec PyProof.Rows L2
section
variable {T:PotK}{ι:Type}{K:A3}{F:ι->Cx}{e c:Expr}{pe pc:pE}{pos:Pos}
def O3:w2:=fun x y R=>match x,y with | .tup xs,.str k=>(match U1 xs with | some ys=>ys.length<=1000000/\∃j:Nat,ys[j]?=some k/\(∀i,i < j->ys[i]?≠some k)/\R (.int j) | none=>False) | _,_=>False
def K5 (pe pc:pE):pE:=fun env n R=>pe env n fun x env1 n1=>(∃xs,x=.tup xs)/\pc env1 n1 fun y env2 n2=>O3 x y fun z=>R z env2 n2
theorem U8 (he:QE T K F e pe)(hc:QE T K F c pc)(hs:C9 c=true:=by rfl)(hbase:∀z,w5 e "index" (F z).env (eval e (F z).env)=eval e (F z).env:=by intro _;rfl)(hline:(ap.endLine == pos.line)=true:=by rfl)
   (hfew:∀z,((backTo pos (C7 [c] (F z).env)).all (fun x=>!x.1) && (backToKw pos (j3 [] (F z).env)).all (fun x=>x.1.isSome) && decide (([c]:List Expr).length + ([]:List Q7).length + (if([]:List Q7).isEmpty then 0 else 1) < 30))=true:=by intro _;rfl) (hK:∀z,(F z).K=K:=by intro _;rfl):QE T K F (.Call (.Attribute e "index" ap) [c] [] pos) (K5 pe pc):=by
 obtain⟨t,a1,a2⟩:=he;obtain⟨u,b1,b2⟩:=hc;refine⟨tBM K "tuple" (Gp K) t (R7 u tNil),fun z=>hK z▸Bj PySem.F.plainAttrs_tuple PySem.F.slot_tuple_index PySem.F.type_tuple_index KO (a1 z) (C6 (b1 z) E9 (B2 hs)) (hbase z) (hfew z) hline (B2 hs),fun C G σ H env n R Q hK hT S hp k=>?_⟩;refine a2 C G σ H env n _ _ hK hT S hp fun x env1 n1 v H1 q1 S1 r1 f1=>?_;obtain⟨⟨xs,rfl⟩,q1⟩:=q1;obtain⟨a,vs,rfl,ta,ra⟩:=r1;refine⟨?_,?_⟩
 · exact .inr (.inl ⟨rfl,.inr ⟨vs,ta.2⟩⟩)
 refine b2 C G σ H1 env1 n1 _ _ hK hT S1 q1 fun y env2 n2 w H2 q2 S2 r2 f2=>?_;unfold O3 at q2
 split at q2
 · rename_i xs' kk e1;cases e1
   split at q2
   · rename_i ys ey;obtain⟨hz,j,hj,hlt,q3⟩:=q2;obtain⟨a',vs',e3,ta',ra'⟩:=(show Rep K G H1 (.tup xs) (.ref a) from⟨a,vs,rfl,ta,ra⟩).fr f2;cases e3;exact⟨a,kk,ys,j,rfl,by rw [show w=.str kk from r2],FT ey ra'▸SqT.of ta'.2,hz,hj,hlt,k _ _ _ _ _ q3 S2 rfl (f1.trans f2)⟩
   · exact q2.elim
 · exact q2.elim
end
end Pu
end
section
namespace Pu
open PySem PySem.Spec L2
def frzS:Slot->Option Slot
 | .v x=>some (.v x)
 | .ow .lst xs=>some (.v (.lst xs))
 | .ow (.dk ks) xs=>if ks.length=xs.length then some (.v (.dct ks xs)) else none
 | .ow (.dt _) _=>none
 | .ow (.st _) _=>none
def frz (env:Env):Env:=env.map fun o=>o.bind frzS
end Pu
end
section
namespace Pu
open PySem PySem.Spec L2
section
variable {T:PotK}{np:Bool}{ι:Type}{K:A3}{F:ι->Cx}{e:Expr}{pk:pE}{pos tpos:Pos}
def memK (ks:List Key)(k:Key):Bool:=ks.any fun z=>decide (z=k)
theorem KP {ks:List Key}{k:Key}:memK ks k=true↔k∈ks:=by
 unfold memK;rw [b4];constructor
 · rintro⟨x,h1,h2⟩;have:x=k:=by simpa using h2
   exact this▸h1
 · intro h;exact⟨k,h,by simp⟩
theorem KQ {kvs:List (Key×V)}{k:Key}:(valV kvs k).isSome=memK (kvs.map (·.1)) k:=by
 rw [<- Du];unfold memK;rw [List.any_map];rfl
end
end Pu
end
section
namespace Pu
open PySem PySem.Spec L2
abbrev pSlN:=Env->Nat->(List Slot->Env->Nat->Prop)->Prop
def Gots (C:Ct)(G:Gh)(H:Hp)(σ:St)(env:Env):List Slot->List V->Prop
 | [],vs=>vs=[]
 | s::ss,vs=>∃v r,vs=v::r/\Got C G H σ env s v/\(∀(xs:OK×List PV) a,s=.ow xs.1 xs.2->v=.ref a->∀(ys:OK×List PV) w,(Slot.ow ys.1 ys.2,w)∈ss.zip r->w≠.ref a)/\Gots C G H σ env ss r
section
variable {T:PotK}{np:Bool}{ι:Type}{K:A3}{F:ι->Cx}{e:Expr}{es:List Expr}{st:Stmt}{s1:pSl}{sl:pSlN}{pos:Pos}
theorem Gots.set (hl:env.length=σ.length):∀{ss:List Slot} {vs:List V},Gots C G H σ env ss vs->(∀(xs:OK×List PV) a,s0=.ow xs.1 xs.2->v0=.ref a->∀(ys:OK×List PV) w,(Slot.ow ys.1 ys.2,w)∈ss.zip vs->w≠.ref a)->Gots C G H (σ.set i (some v0)) (env.set i (some s0)) ss vs
 | [],_,h,_=>h
 | s :: ss, vs, h, no => by
   obtain⟨v,r,rfl,g,ne,h⟩:=h;refine⟨v,r,rfl,⟨g.1,fun xs a e1 e2 z=>?_⟩,ne,Gots.set hl h fun xs a e1 e2 ys w hw=>no xs a e1 e2 ys w (by rw [AQ];exact D0 _ hw)⟩;rcases FR hl z with z | ⟨⟨zs,ez⟩,ev⟩
   · exact g.2 xs a e1 e2 z
   · exact no zs a ez ev xs v (by rw [AQ,e1];exact F4) e2
end
end Pu
end
section
namespace L2
open PySem PySem.Spec PyProof.Rows
section
variable {X:Cx}
def KR:List V->Hp->VK->Prop:=fun vs H Q=>vs=[]/\∀p,H p=none->Q (.ref p) (upd H p (.set (fun _=>false) 0))
theorem KS:J1 X (.type "set") KR:=by
 intro pins s σ H vs us Q I rv h;obtain⟨rfl,q⟩:=h;cases rv;refine call_set_0 fun led=>⟨.ref s.heap.objs.size,_,I.laid (a:=s.heap.objs.size) (o:=.set (fun _=>false) 0) (t':=s.toks) (fun _ _ q=>B6 _ q) (A8 _) ?_,rfl,q _ (I.hok.fresh (A8 _))⟩;exact⟨_,#[],0,_,E6 _ rfl,⟨rfl,rfl,rfl⟩,rfl,fun e he=>by simp at he,fun k=>by simp,by decide,by rfl,rfl⟩
theorem Gq {k:Key}{u:Value}(r:RelV (kV k) u):u.scannable=true:=by
 cases k with
 | inl i=>obtain⟨t,rfl⟩:=r;rfl
 | inr z=>obtain⟨t,rfl⟩:=r;rfl
def rInS (neg:Bool):R2:=fun y x H Q=>∃a S n k,x=.ref a/\H a=some (.set S n)/\y=kV k/\Q (.bl (if neg=true then !S k else S k)) H
theorem KU:OpR X (G5 .NotIn) (rInS true):=by
 intro pins s σ H x y v u Q I rx ry h;obtain⟨a,S,n,k,rfl,hH,rfl,q⟩:=h;cases ry;have hS:s.heap.SetOf (L0 X.prog X.w) a S n:=I.hok a _ hH;exact wpAny_notInSet_of (Ar rx) (Gq rx) hS ⟨.bl (!S k),H,I.kept (h':=s.heap) (t':=s.toks + 1) fun b o e=>e,rfl,q⟩
def rAddS:V->List V->Hp->VK->Prop:=fun x vs H Q=>∃a S n k,x=.ref a/\vs=[kV k]/\H a=some (.set S n)/\n < 1000/\Q .non (upd H a (.set (fun k'=>S k' || decide (k'=k)) (if S k then n else n + 1)))
theorem KW:MtM X "set.add" rAddS:=by
 intro pins s σ H x vs v us Q I rx rv h;obtain⟨a,S,n,k,rfl,rfl,hH,hn,q⟩:=h;cases rx;obtain⟨u,rfl,ru⟩:=rv.one;have hS:s.heap.SetOf (L0 X.prog X.w) a S n:=I.hok a _ hH;refine call_set_add (Ar ru) (Gq ru) hS (by unfold scanBound;omega) fun h' hs hS'=>⟨.non,_,Dw (ob:=.set (fun k'=>S k' || decide (k'=k)) (if S k then n else n + 1)) I (by rw [hH];exact T8) hs ?_ hS',rfl,q⟩;obtain⟨o,_,_,_,ho,_⟩:=hS';exact⟨o,ho⟩
end
end L2
namespace Pu
open PySem PySem.Spec L2
section
variable {T:PotK}{np:Bool}{ι:Type}{K:A3}{F:ι->Cx}{e a:Expr}{pe pa:pE}{pos:Pos}{st:Stmt}
def Dy (i:Nat):pS:=fun D env n=>D.nx (env.set i (some (.ow (.st []) []))) n
theorem KY (i:Nat){p cp:Pos}(hg:∀z,Gl (F z) "set")(hm:∀z,(F z).mg "set"=none)(h:∀z te,EW (F z) (.Call (.Name "set" p) [] [] cp) te->SW (F z) st (tAsg te (N3 i))):QS T np K F st (Dy i):=by
 refine⟨_,fun z=>(h z _ ⟨IW KS (hg z) (hm z) bt_set (by decide) (by decide)⟩).h,fun C G σ H env n PD D hK hT hn S hp L=>?_⟩;refine⟨rfl,fun p hn1=>?_⟩;exact L.nx _ _ _ _ _ hp (S.ow i (.st []) (xs:=[]) (vs:=[]) hn1 rfl) (Ak hn1)
def qInS (neg:Bool)(i:Nat)(pa:pE):pE:=fun env n R=>pa env n fun x env1 n1=>match env1[i]?,keyV x with
 | some (some (.ow (.st zs) _)),some k=>R (.bl (if neg=true then !memS zs k else memS zs k)) env1 n1
 | _,_=>False
theorem ok_inS {t:TE}(neg:Bool)(i:Nat)(h2:EOk K T t pa):EOk K T (tOp (rInS neg) t (tVar i)) (qInS neg i pa):=fun C G σ H env n R Q hK hT S hp k=>by
 refine h2 C G σ H env n _ _ hK hT S hp fun x env1 n1 v H1 q1 S1 r1 f1=>?_
 split at q1
 · rename_i zs xs kk ex ek;obtain⟨a,vs,ev,g1,g2,g3,g4,r'⟩:=S1.slots i _ ex;exact⟨.ref a,ev,a,memS zs,zs.length,kk,rfl,g4,BJ r1 ek,k _ _ _ _ _ q1 S1 rfl f1⟩
 · exact q1.elim
theorem Gr (i:Nat){x:Str}{p:Pos}(hv:∀z,EW (F z) (.Name x p) (tVar i))(ha:QE T K F a pa):QT T K F (.Compare a [.NotIn] [.Name x p] pos) (qB (qInS true i pa)):=by
 obtain⟨t,h1,h2⟩:=ha;exact⟨_,fun z=>y9 KU (h1 z) (hv z).h rfl,Bt (ok_inS true i h2)⟩
def u4 (i:Nat)(pe:pE):pE:=fun env n R=>(∃zs xs,env[i]?=some (some (.ow (.st zs) xs)))/\pe env n fun y env1 n1=>match env1[i]?,keyV y with
 | some (some (.ow (.st zs) [])),some k=>zs.length < 1000/\R .non (env1.set i (some (.ow (.st (if memS zs k=true then zs else zs++[k])) []))) n1
 | _,_=>False
theorem KZ (zs:List Key)(k:Key):(fun k'=>memS zs k' || decide (k'=k))=memS (if memS zs k=true then zs else zs++[k]):=by
 funext k'
 split
 · rename_i h
   by_cases c:k'=k
   · subst c;rw [h];rfl
   · rw [decide_eq_false c,Bool.or_false]
 · unfold memS;rw [List.any_append];show _=(_ || (decide (k=k') || false));rw [Bool.or_false]
   congr 1
   rw [decide_eq_decide];exact⟨Eq.symm,Eq.symm⟩
theorem K_ (i:Nat){x:Str}{p ap:Pos}(hv:∀z,EW (F z) (.Name x p) (tVar i))(he:QE T K F e pe)(hs:C9 e=true:=by rfl)(hbase:∀z,w5 (.Name x p) "add" (F z).env (eval (.Name x p) (F z).env)=eval (.Name x p) (F z).env:=by intro _;rfl)(hline:(ap.endLine == pos.line)=true:=by rfl)
   (hfew:∀z,((backTo pos (C7 [e] (F z).env)).all (fun x=>!x.1) && (backToKw pos (j3 [] (F z).env)).all (fun x=>x.1.isSome) && decide (([e]:List Expr).length + ([]:List Q7).length + (if([]:List Q7).isEmpty then 0 else 1) < 30))=true:=by intro _;rfl) (hK:∀z,(F z).K=K:=by intro _;rfl):QE T K F (.Call (.Attribute (.Name x p) "add" ap) [e] [] pos) (u4 i pe):=by
 obtain⟨t,a1,a2⟩:=he;refine⟨tBM K "set" rAddS (tVar i) (R7 t tNil),fun z=>hK z▸Bj PySem.F.plainAttrs_set PySem.F.slot_set_add PySem.F.type_set_add KW (hv z).h (C6 (a1 z) E9 (B2 hs)) (hbase z) (hfew z) hline (B2 hs),fun C G σ H env n R Q hK hT S hp k=>?_⟩;obtain⟨⟨zs0,xs0,e0⟩,hp⟩:=hp;obtain⟨a,vs,ev,h1,h2,h3,h4,r⟩:=S.slots i _ e0;refine⟨.ref a,ev,.inr (.inr (.inr ⟨rfl,_,_,h4⟩)),?_⟩;refine a2 C G σ H env n _ _ hK hT S hp fun y env1 n1 v H1 q1 S1 r1 f1=>?_
 split at q1
 · rename_i zs kk ex ek;obtain⟨a',us,ev',g1,g2,g3,g4,r'⟩:=S1.slots i _ ex;rw [ev] at ev';cases ev';subst hK;obtain⟨S2,f2⟩:=S1.putO (.st (if memS zs kk=true then zs else zs++[kk])) ex ev r'
   have eH:upd H1 a (mkO (.st (if memS zs kk=true then zs else zs++[kk])) us)=upd H1 a (.set (fun k'=>memS zs k' || decide (k'=kk)) (if memS zs kk then zs.length else zs.length + 1)):=by
     show upd H1 a (.set (memS _) _)=_;rw [KZ]
     congr 2
     split <;> simp
   rw [eH] at S2 f2;exact⟨a,memS zs,zs.length,kk,rfl,by rw [BJ r1 ek],g4,q1.1,k _ _ _ _ _ q1.2 S2 rfl (f1.trans f2)⟩
 · exact q1.elim
end
end Pu
end
section
namespace L2
open PySem PySem.Spec PyProof.Rows
abbrev LC2 (elt t1 i1 t2 i2:Expr)(ifs:List Expr)(scope:Scope)(pos:Pos):Expr:=.ListComp elt [⟨t1,i1,[],0⟩,⟨t2,i2,ifs,0⟩] scope pos
theorem La (elt t1 i1 t2 i2:Expr)(ifs:List Expr)(scope:Scope)(pos:Pos)(it acc:Value)(env:Env) :
   compTurn (LC2 elt t1 i1 t2 i2 ifs scope pos) 1 it acc env=(do
     standAt i2.pos
     match ← pyNext it with
     | none=>pure (.done .next)
     | some v =>
       Z7 t2 it v
       assign t2 env v
       let mut ok:=true
       for c in ifs do
         if ok then ok ← isTrue c env (eval c env)
       if ok then
         (do let _ ← call (.builtin "list.append") [acc,<- eval elt env])
       again (.compLoop (LC2 elt t1 i1 t2 i2 ifs scope pos) 1 it acc env)):=by rfl
section
variable {prog:C3}{w:World}{A:Around}{R:Result->Shared->Prop}{s:Shared}{elt t1 i1 t2 i2:Expr}{ifs:List Expr}{scope:Scope}{pos:Pos}{it acc:Value}{env:Env}
theorem loop_i (I:Nat->Shared->Prop)
   (turn:∀n s,I n s->wpAny (model prog w) A (pyNext it) (fun r s₁=>match r with
     | none=>R (.ok .next) s₁
     | some v=>wpAny (model prog w) A (Z7 t2 it v) (fun _ s₁'=>wpAny (model prog w) A (assign t2 env v) (fun _ s₂=>
         wpAny (model prog w) A (forIn ifs true fun c r=>if r=true then do let ok ← isTrue c env (eval c env);pure (l9 ok) else pure (l9 r)) (fun ok s₃=>
           if ok=true then wpAny (model prog w) A (eval elt env) (fun x s₄=>
             wpAny (model prog w) A (call (.builtin "list.append") [acc,x]) (fun _ s₅=>∃m,m < n/\I m s₅) (fun _ _=>False) s₄) (fun _ _=>False) s₃
           else ∃m,m < n/\I m s₃) (fun _ _=>False) s₂) (fun _ _=>False) s₁') (fun _ _=>False) s₁) (fun _ _=>False) s)
   (n:Nat) (h:I n s):L8 (model prog w) A (.compLoop (LC2 elt t1 i1 t2 i2 ifs scope pos) 1 it acc env) R s:=by
 refine codeAny_loop rfl I (fun n s hI=>?_) n h;show wpAny _ A ((compTurn (LC2 elt t1 i1 t2 i2 ifs scope pos) 1 it acc env).onRaise (fun x=>do noteFrame x env;theTreesLotGoes x)) _ _ s;refine wpAny_noted ?_;rw [La];refine A1 (V0 (A1 (G4 (turn n s hI) (fun r s₁ h₁=>?_) fun _ _ h'=>h'.elim)));cases r with
 | none=>exact A6 h₁
 | some v =>
   refine A1 (G4 h₁ (fun _ s₁' h₁'=>?_) fun _ _ h'=>h'.elim);refine A1 (G4 h₁' (fun _ s₂ h₂=>A1 (G4 h₂ (fun ok s₃ h₃=>?_) fun _ _ h'=>h'.elim)) fun _ _ h'=>h'.elim);cases ok with
   | false=>exact A6 ⟨rfl,h₃⟩
   | true =>
     exact A1 (A1 (G4 h₃ (fun x s₄ h₄=>A1 (G4 h₄ (fun _ s₅ h₅=>A6 (A6 ⟨rfl,h₅⟩)) fun _ _ h'=>h'.elim)) fun _ _ h'=>h'.elim))
theorem Lb (h0:L8 (model prog w) A (.compLoop (LC2 elt t1 i1 t2 i2 ifs scope pos) 1 it acc env) R s)
   (h:wpAny (model prog w) A (pyIter it) (fun it' s'=>L8 (model prog w) A (.compLoop (LC2 elt t1 i1 t2 i2 ifs scope pos) 1 it' acc env) R s') (fun _ _=>False) s) :
   L8 (model prog w) A (.compStart (LC2 elt t1 i1 t2 i2 ifs scope pos) 1 it acc env) R s:=by
 refine codeAny_of_tree ?_;show wpAny _ _ ((compStart (LC2 elt t1 i1 t2 i2 ifs scope pos) 1 it acc env).onRaise (fun x=>do noteFrame x env;standAt theWindowsPlace)) _ _ s;refine wpAny_notedAt ?_;unfold compStart;show wpAny _ _ (ask>>=_) _ _ s;refine A1 (wpAny_askSetting (wpAny_ite ?_))
 split
 · first
     | exact A1 (A6 (A6 (And.intro rfl h0)))
     | exact A6 (And.intro rfl h0)
 · first
     | exact A1 (V1 (A1 (V0 (A1 (G4 h (fun it' s' h'=>A6 (And.intro rfl h')) fun _ _ x=>x.elim)))))
     | (refine A1 (V1 ?_);show wpAny _ _ (standAt i2.pos>>=_) _ _ s;exact A1 (V0 (A1 (G4 h (fun it' s' h'=>A6 (And.intro rfl h')) fun _ _ x=>x.elim))))
theorem loop_o (hs:∀x,N9 i2 env x=pure x)(I:Nat->Shared->Prop)
   (turn:∀n s,I n s->wpAny (model prog w) A (pyNext it) (fun r s₁=>match r with
     | none=>R (.ok .next) s₁
     | some v=>wpAny (model prog w) A (Z7 t1 it v) (fun _ s₁'=>wpAny (model prog w) A (assign t1 env v) (fun _ s₂=>
         wpAny (model prog w) A (eval i2 env) (fun x s₃=>wpAny (model prog w) A (pyIter x) (fun it2 s₄=>
           L8 (model prog w) A (.compStart (LC2 elt t1 i1 t2 i2 ifs scope pos) 1 it2 acc env) (fun r s'=>r=.ok .next/\∃m,m < n/\I m s') s₄) (fun _ _=>False) s₃) (fun _ _=>False) s₂) (fun _ _=>False) s₁') (fun _ _=>False) s₁) (fun _ _=>False) s)
   (n:Nat) (h:I n s):L8 (model prog w) A (.compLoop (LC2 elt t1 i1 t2 i2 ifs scope pos) 0 it acc env) R s:=by
 refine codeAny_loop rfl I (fun n s hI=>?_) n h;show wpAny _ A ((compTurn (LC2 elt t1 i1 t2 i2 ifs scope pos) 0 it acc env).onRaise (fun x=>do noteFrame x env;theTreesLotGoes x)) _ _ s;refine wpAny_noted ?_;unfold compTurn;show wpAny _ _ (standAt i1.pos>>=_) _ _ s;refine A1 (V0 ?_);refine A1 (G4 (turn n s hI) (fun r s₁ h₁=>?_) fun _ _ h'=>h'.elim);cases r with
 | none=>exact A6 h₁
 | some v =>
   refine A1 (G4 h₁ (fun _ s₁' h₁'=>?_) fun _ _ h'=>h'.elim);refine A1 (G4 h₁' (fun _ s₂ h₂=>A1 (wpAny_tests_nil ?_)) fun _ _ h'=>h'.elim);refine A1 (G4 h₂ (fun x s₃ h₃=>?_) fun _ _ h'=>h'.elim);refine A1 (V0 ?_);show wpAny _ _ (N9 i2 env x>>=fun x=>(holding [x] (pyIter x)>>=fun it2=>(runOwn (.compStart (LC2 elt t1 i1 t2 i2 ifs scope pos) 1 it2 acc env) env>>=fun _=>again (.compLoop (LC2 elt t1 i1 t2 i2 ifs scope pos) 0 it acc env)))) _ _ _;refine A1 (O0 (hs x) (A1 (X0 (G4 h₃ (fun it2 s₄ h₄=>?_) fun _ _ h'=>h'.elim))));refine A1 (wpAny_runOwn ?_);rw [Around.mark_none];refine codeAny_mono h₄ fun r s' hr=>?_;obtain⟨rfl,hr⟩:=hr;exact A6 ⟨rfl,hr⟩
end
def CompIn (J:It)(g:TG)(tt:TT)(te:TE)(D:Addr)(N:St->Hp->Prop)(σ:St)(H:Hp):Prop:=∃W:Nat->Nat->St->Hp->Prop,(∃m,W 0 m σ H)/\
 ∀i m σ' H',W i m σ' H'->(J.stop i H'/\N σ' H')\/(J.go i H'/\∀x H2,J.yld i H' x H2->g x σ' H2 fun σ3 H3=>tt σ3 H3 fun b H4=>
    if b=true then te σ3 H4 fun v H5=>∃ys,H5 D=some (.lst ys)/\ys.length < B1/\∃m',m' < m/\W (i + 1) m' σ3 (upd H5 D (.lst (ys++[v])))
    else ∃m',m' < m/\W (i + 1) m' σ3 H4)
def Gs (J:It)(g1:TG)(wi2:TI)(g2:TG)(tt:TT)(te:TE)(Q:VK)(D:Addr)(σc:St)(H1:Hp):Prop:=∃W:Nat->Nat->St->Hp->Prop,(∃m,W 0 m σc H1)/\
 ∀i m σ' H',W i m σ' H'->(J.stop i H'/\Q (.ref D) H')\/(J.go i H'/\∀x H2,J.yld i H' x H2->g1 x σ' H2 fun σ3 H3=>wi2 σ3 H3 fun J2 H4=>CompIn J2 g2 tt te D (fun σ5 H5=>∃m',m' < m/\W (i + 1) m' σ5 H5) σ3 H4)
def tComp2 (cs:List (Option Nat))(wi:TI)(g1:TG)(wi2:TI)(g2:TG)(tt:TT)(te:TE):TE:=fun σ H Q=>wi σ H fun J H1=>∀D,H1 D=none->Gs J g1 wi2 g2 tt te Q D (d8 cs σ) (upd H1 D (.lst []))
theorem Lc {X:Cx}{scope:Scope}{cl:List (Str×Addr)}{N:List Str}{cs:List (Option Nat)}{elt t1 i1 t2 i2:Expr}{ifs:List Expr}{pos:Pos}{wi1 wi2:TI}{g1 g2:TG}{tt:TT}{te:TE}(S:Y2 X scope cl N cs)(hc:X.calm=true)(hi:PI X t1 i1 wi1)
   (hb:∀(fp:List Addr) (C:Addr) (s:Shared) (H:Hp),PG (B7 X scope cl N fp C s H) t1 g1/\PI (B7 X scope cl N fp C s H) t2 i2 wi2/\PG (B7 X scope cl N fp C s H) t2 g2/\PIf (B7 X scope cl N fp C s H) ifs tt/\PE (B7 X scope cl N fp C s H) elt te)
   (hs2:∀fp C s H x,N9 i2 (B7 X scope cl N fp C s H).env x=pure x)
   (hs:∀x,N9 i1 X.env x=pure x:=by intro _;rfl) :
   PE X (LC2 elt t1 i1 t2 i2 ifs scope pos) (tComp2 cs wi1 g1 wi2 g2 tt te):=by
 intro pins s σ H Q I h;rw [eval_ListComp];refine AG (use:=none) rfl hs S.clos S.kind S.names (thn (hi pins s σ H _ I h) fun v s1 h1=>thn h1 fun itv s2 h2=>?_);obtain⟨it,fp,tn,J,H2,rfl,I2,T,st2,f2,q⟩:=h2
 have ho:∀b∈fp,∃o,s2.heap.get? b=some o:=fun b hb=>by
   obtain⟨o,e,_⟩:=T.obj 0 _ st2 b hb;exact⟨o,e⟩
 refine L6 (wpAny_newFunctionEnv S.nocell (by intro y hy;simp at hy) (fun h₁ hns₁ hsb₁=>?_) S.kind);dsimp only at hns₁ hsb₁ ⊢;have hC:(s2.heap.push { cls:=.type "list",dict:=none,data:=.seq ([]:List Value).toArray }).objs.size=s2.heap.objs.size + 1:=by rw [P3]
 generalize hH2:s2.heap.push { cls:=.type "list",dict:=none,data:=.seq ([]:List Value).toArray }=hp2 at hns₁ hsb₁ hC ⊢;have old:∀b o,s2.heap.get? b=some o->h₁.get? b=some o:=fun b o e=>hsb₁.extBut b o (by rw [hC];exact C8 (O6 (B5 e))) (B6 _ (hH2▸B6 _ e));have hD:h₁.get? s2.heap.objs.size=some { cls:=.type "list",data:=.seq ([]:List Value).toArray }:=hsb₁.extBut _ _ (by rw [hC];exact C8 (Nat.lt_succ_self _)) (B6 _ (hH2▸E6 _ rfl));rw [hC] at hns₁ ⊢;obtain⟨W,⟨m0,w0⟩,turn⟩:=q s2.heap.objs.size I2.fresh;have Ic:=CS S (tk:=s2.toks + ([]:List (Str×Value)).length) I2 f2 ho old hns₁ hD;have nstk:∀b,b≠X.env.locals->b∉X.fs->b∉frs X.stack:=fun b h1 h2 hb=>(C0.mp (I2.stkSub b hb)).elim h1 h2
 have stat:∀{H':Hp},(∀b∈fp,H' b=none)->∀b∈fp,FpOk (B7 X scope cl N fp (s2.heap.objs.size + 1) s2 H2) pins H' b:=fun hn b hb=>by
   obtain⟨o,e⟩:=ho b hb;exact⟨hn b hb,C8 (O6 (B5 e)),nstk b (f2 b hb).2.1 (f2 b hb).2.2.1,.inl hb,fun x c ec=>(f2 b hb).2.2.2.2.1 x c (S.sub x c ec),(f2 b hb).2.2.2.2.2⟩
 obtain⟨hg,hi2,hg2,hf,he⟩:=hb fp (s2.heap.objs.size + 1) s2 H2;have st1:tn 0 h₁:=T.keep _ _ _ st2 fun b hb o e=>old b o e
 have fr1:∀b∈fp,upd H2 s2.heap.objs.size (.lst []) b=none:=fun b hb=>by
   obtain⟨o,e⟩:=ho b hb;rw [B3 (C8 (B5 e))];exact(f2 b hb).1
 have loop:∀s₃:Shared,s₃={ s2 with heap:=h₁,toks:=s2.toks + ([]:List (Str×Value)).length }->
     L8 (model X.prog X.w) X.A (.compLoop (LC2 elt t1 i1 t2 i2 ifs scope pos) 0 (.ref it) (.ref s2.heap.objs.size) (compEnvC scope cl (s2.heap.objs.size + 1) X.env))
       (compPost (model X.prog X.w) X.A X.xe none (EP X pins σ Q) (.ref s2.heap.objs.size) (s2.heap.objs.size + 1)) s₃:=by
   rintro s₃ rfl;refine loop_o (hs2 fp (s2.heap.objs.size + 1) s2 H2) (fun n s'=>∃i σ' H',Inv (B7 X scope cl N fp (s2.heap.objs.size + 1) s2 H2) pins σ' H' s'/\tn i s'.heap/\(∀b∈fp,H' b=none)/\W i n σ' H') ?_ m0 ⟨0,_,_,Ic,st1,fr1,w0⟩;rintro n s3 ⟨i,σ3,H3,I3,st3,fr3,w3⟩;rcases turn i n σ3 H3 w3 with⟨stop,qn⟩ | ⟨go,step⟩
   · refine thn (T.done (B7 X scope cl N fp (s2.heap.objs.size + 1) s2 H2) rfl rfl rfl hc i pins s3 σ3 H3 (fun _ _=>False) I3 (stat fr3) st3 stop) fun r s4 ⟨hr,I4⟩=>?_;subst hr;obtain⟨m4,hn4,_⟩:=I4.loc;exact⟨m4,hn4,fun h' hs'=>⟨.ref s2.heap.objs.size,H3,Inv.uncomp I2 f2 I4 fun b hb=>hs'.2 b hb,rfl,qn⟩⟩
   · refine thn (T.item (B7 X scope cl N fp (s2.heap.objs.size + 1) s2 H2) rfl rfl rfl hc i pins s3 σ3 H3 (fun _ _=>False) I3 (stat fr3) st3 go) fun r s4 ⟨u,hr,h4⟩=>?_;subst hr;refine thn h4 fun _ s5 ⟨x,H5,I5,r5,y5,st5,fr5⟩=>?_;have I5':=I5.pinned (stat fr5) (T.obj _ _ st5);refine thn (hg _ s5 σ3 H5 x u _ I5' r5 (step x H5 y5)) fun _ s6 ⟨σ6,H6,I6,q6⟩=>?_
     have again:∀{σ7:St} {H7:Hp} {s7:Shared},Inv (B7 X scope cl N fp (s2.heap.objs.size + 1) s2 H2) (pins++N4 fp s5.heap) σ7 H7 s7->(∃m',m' < n/\W (i + 1) m' σ7 H7)->
         ∃m,m < n/\∃i σ' H',Inv (B7 X scope cl N fp (s2.heap.objs.size + 1) s2 H2) pins σ' H' s7/\tn i s7.heap/\(∀b∈fp,H' b=none)/\W i m σ' H':=fun {σ7 H7 s7} I7 n7=>by
       obtain⟨m',hm,w7⟩:=n7;refine⟨m',hm,i + 1,σ7,H7,I7.unpinned,T.keep _ _ _ st5 fun b hb o e=>(I7.pin (b,o) (F6 _ (F6 _ (P6 hb e)))).1,fun b hb=>?_,w7⟩;obtain⟨o,e,d⟩:=T.obj _ _ st5 b hb;exact(I7.pin (b,o) (F6 _ (F6 _ (P6 hb e)))).2.1
     refine thn (hi2 _ s6 σ6 H6 _ I6 q6) fun v7 s7 h7=>thn h7 fun itv s8 h8=>?_;obtain⟨it2,fp2,tn2,J2,H8,rfl,I8,T2,st8,f8,W2,⟨m2,w2⟩,turn2⟩:=h8;have stat2:∀{H':Hp},(∀b∈fp2,H' b=none)->∀b∈fp2,FpOk (B7 X scope cl N fp (s2.heap.objs.size + 1) s2 H2) (pins++N4 fp s5.heap) H' b:=fun hn b hb=>⟨hn b hb,(f8 b hb).2⟩
     have inner:L8 (model X.prog X.w) X.A (.compLoop (LC2 elt t1 i1 t2 i2 ifs scope pos) 1 (.ref it2) (.ref s2.heap.objs.size) (compEnvC scope cl (s2.heap.objs.size + 1) X.env)) (fun r s'=>r=.ok .next/\∃m,m < n/\∃i σ' H',Inv (B7 X scope cl N fp (s2.heap.objs.size + 1) s2 H2) pins σ' H' s'/\tn i s'.heap/\(∀b∈fp,H' b=none)/\W i m σ' H') s8:=by
       refine loop_i (fun n2 s'=>∃i σ' H',Inv (B7 X scope cl N fp (s2.heap.objs.size + 1) s2 H2) (pins++N4 fp s5.heap) σ' H' s'/\tn2 i s'.heap/\(∀b∈fp2,H' b=none)/\W2 i n2 σ' H') ?_ m2 ⟨0,σ6,H8,I8,st8,fun b hb=>(f8 b hb).1,w2⟩;rintro n2 s9 ⟨i9,σ9,H9,I9,st9,fr9,w9⟩;rcases turn2 i9 n2 σ9 H9 w9 with⟨stop2,qn2⟩ | ⟨go2,step2⟩
       · refine thn (T2.done (B7 X scope cl N fp (s2.heap.objs.size + 1) s2 H2) rfl rfl rfl hc i9 (pins++N4 fp s5.heap) s9 σ9 H9 (fun _ _=>False) I9 (stat2 fr9) st9 stop2) fun r s10 ⟨hr,I10⟩=>?_;subst hr;exact⟨rfl,again I10 qn2⟩
       · refine thn (T2.item (B7 X scope cl N fp (s2.heap.objs.size + 1) s2 H2) rfl rfl rfl hc i9 (pins++N4 fp s5.heap) s9 σ9 H9 (fun _ _=>False) I9 (stat2 fr9) st9 go2) fun r s10 ⟨u2,hr,h10⟩=>?_;subst hr;refine thn h10 fun _ s11 ⟨x2,H11,I11,r11,y11,st11,fr11⟩=>?_;have I11':=I11.pinned (stat2 fr11) (T2.obj _ _ st11);refine thn (hg2 _ s11 σ9 H11 x2 u2 _ I11' r11 (step2 x2 H11 y11)) fun _ s12 ⟨σ12,H12,I12,q12⟩=>?_
         have again2:∀{σ7:St} {H7:Hp} {s7:Shared},Inv (B7 X scope cl N fp (s2.heap.objs.size + 1) s2 H2) ((pins++N4 fp s5.heap)++N4 fp2 s11.heap) σ7 H7 s7->(∃m',m' < n2/\W2 (i9 + 1) m' σ7 H7)->
             ∃m,m < n2/\∃i σ' H',Inv (B7 X scope cl N fp (s2.heap.objs.size + 1) s2 H2) (pins++N4 fp s5.heap) σ' H' s7/\tn2 i s7.heap/\(∀b∈fp2,H' b=none)/\W2 i m σ' H':=fun {σ7 H7 s7} I7 n7=>by
           obtain⟨m',hm,w7⟩:=n7;refine⟨m',hm,i9 + 1,σ7,H7,I7.unpinned,T2.keep _ _ _ st11 fun b hb o e=>(I7.pin (b,o) (F6 _ (F6 _ (P6 hb e)))).1,fun b hb=>?_,w7⟩;obtain⟨o,e,d⟩:=T2.obj _ _ st11 b hb;exact(I7.pin (b,o) (F6 _ (F6 _ (P6 hb e)))).2.1
         refine thn (hf _ s12 σ12 H12 _ I12 q12) fun ok s13 ⟨H13,I13,q13⟩=>?_;cases ok with
         | false=>exact again2 I13 q13
         | true =>
           refine thn (he _ s13 σ12 H13 _ I13 q13) fun y s14 ⟨v14,H14,I14,r14,ys,e14,z14,n14⟩=>?_
           have ma:=Aa (X:=(B7 X scope cl N fp (s2.heap.objs.size + 1) s2 H2)) _ s14 σ12 H14 (.ref s2.heap.objs.size) [v14] (.ref s2.heap.objs.size) [y]
             (fun v H9=>∃m',m' < n2/\W2 (i9 + 1) m' σ12 H9) I14 rfl (.cons r14 .nil) ⟨_,ys,v14,rfl,rfl,e14,z14,n14⟩
           exact thn ma fun _ s15 ⟨v15,H15,I15,_,q15⟩=>again2 I15 q15
     exact Lb inner (T2.self _ 0 _ _ _ st8 inner)
 exact AI (loop _ rfl) (T.self _ 0 _ _ _ st1 (loop _ rfl))
end L2
end
section
namespace Pu
open PySem PySem.Spec L2
def Z3 (g:pG)(tt:pT)(te:pE):List PV->Env->Nat->(List PV->Env->Nat->Prop)->Prop
 | [],env,n,R=>R [] env n
 | x::xs,env,n,R=>g x env fun env1=>tt env1 n fun b env2 n2=>if b=true then te env2 n2 fun y env3 n3=>Z3 g tt te xs env3 n3 fun ys e m=>R (y::ys) e m else Z3 g tt te xs env2 n2 R
def i5 (g1:pG)(pi2:pA)(g2:pG)(tt:pT)(te:pE):List PV->Env->Nat->(List PV->Nat->Prop)->Prop
 | [],_,n,R=>R [] n
 | x::xs,env,n,R=>g1 x env fun env1=>pi2 env1 n fun ys env2 n2=>ys.length<=1000/\Z3 g2 tt te ys env2 n2 fun zs env3 n3=>i5 g1 pi2 g2 tt te xs env3 n3 fun ws n4=>R (zs++ws) n4
def Dz (cs:List (Option Nat))(pi1:pA)(g1:pG)(pi2:pA)(g2:pG)(tt:pT)(te:pE):pA:=fun env n R=>pi1 env n fun xs env1 n1=>xs.length<=1000/\i5 g1 pi2 g2 tt te xs (capV cs env1) n1 fun ys n2=>R ys env1 n2
theorem Ld {K:A3}{T:PotK}{J:It}{g1 g2:TG}{wi2:TI}{tt:TT}{te:TE}{pg1 pg2:pG}{pi2:pA}{ptt:pT}{pte:pE}(hg1:GOk K g1 pg1)(hi2:IOk K T wi2 pi2)(hg2:GOk K g2 pg2)(ht:TOk K T tt ptt)(he:EOk K T te pte){G:Gh}{H1:Hp}{xs:List PV}(hJ:ItR K G H1 J xs)(hl:xs.length<=1000)
   {σc:St} {env:Env} {n:Nat} {R:List PV->Nat->Prop} {Q:VK} {D:Addr} (hD:H1 D=none) (I0:Inn K T G σc H1 env n) (hp:i5 pg1 pi2 pg2 ptt pte xs env n R)
   (hQ:∀ys n' us H',R ys n'->(∀p∈G.pots,T.at_ (D::G.M) H' p n')->(∀b o,b∉G.pots->H1 b=some o->H' b=some o)->H' D=some (.lst us)->Reps K ⟨D::G.M,G.pots⟩ H' ys us->Q (.ref D) H') :
   Gs J g1 wi2 g2 tt te Q D σc (upd H1 D (.lst [])):=by
 have hDM:D∉G.M:=fun z=>by
   obtain⟨o,e,_⟩:=I0.mu D z;rw [hD] at e;cases e
 have nD:D∉G.pots:=fun z=>hDM (I0.pots D z).1
 let GD:Gh:=⟨D::G.M,G.pots⟩
 have pM:∀b,b∉GD.M->b∉G.pots:=fun b hb z=>hb (D0 _ (I0.pots b z).1);refine⟨fun i m σ H=>m=xs.length - i/\i<=xs.length/\∃env n acc us,Inn K T GD σ H env n/\(∀b o,b∉G.pots->H1 b=some o->H b=some o)/\H D=some (.lst us)/\Reps K GD H acc us/\acc.length<=1000 * i/\i5 pg1 pi2 pg2 ptt pte (xs.drop i) env n fun ys n'=>R (acc++ys) n',?_,?_⟩
 · refine⟨xs.length,by simp,O7 _,env,n,[],[],⟨fun p hp=>⟨D0 _ (I0.pots p hp).1,?_⟩,I0.has,fun a ha=>?_,fun i s e=>?_,I0.len⟩,fun b o _ e=>?_,E4,rfl,A8 _,by simpa using hp⟩
   · have h1:=T.more (M':=D::G.M) (I0.pots p hp).2 (fun a ha=>(C0.mp ha).elim (fun z=>.inr (z▸hD)) .inl);refine T.keep h1 ?_ fun b o hb e=>Same.lay1 hD b o e;obtain⟨o,e,_⟩:=T.mu h1;rw [e,Same.lay1 hD p o e]
   · rcases C0.mp ha with rfl | ha
     · exact⟨_,E4,trivial⟩
     · obtain⟨o,e,m⟩:=I0.mu a ha;exact⟨o,Same.lay1 hD a o e,m⟩
   · obtain⟨x,v,rfl,ev,r⟩:=I0.slots i s e;exact⟨x,v,rfl,ev,Rep.mono (G':=GD) (H':=upd H1 D (.lst [])) (fun b o _ e=>Same.lay1 hD b o e) (fun a ha=>(C0.mp (show a∈D::G.M from ha)).elim (fun z=>.inr (z▸hD)) .inl) (fun _ _ e=>e) _ _ r⟩
   · exact Same.lay1 hD b o e
 · rintro i m σ H ⟨rfl,hi,env,n,acc,us,I,kp,eD,ra,la,hc⟩
   have hf:∀p,H p=none->p∉GD.M:=fun p hp z=>by
     obtain⟨o,e,_⟩:=I.mu p z;rw [hp] at e;cases e
   have hk:∀b o,b∉G.M->H1 b=some o->H b=some o:=fun b o hb e=>kp b o (fun z=>hb (I0.pots b z).1) e;obtain⟨hgo,hstop⟩:=hJ GD H hk (fun a ha=>(C0.mp (show a∈D::G.M from ha)).elim (fun z=>.inr (z▸hD)) .inl) (fun _ _ e=>e) hf
   by_cases hlt:i < xs.length
   · have ex:xs[i]?=some xs[i]:=C4 hlt;obtain⟨gg1,gg2⟩:=hgo i _ ex;refine .inr ⟨gg1,fun v H2 y=>?_⟩;obtain⟨s2,rv⟩:=gg2 v H2 y;rw [Z9 hlt] at hc;have S0:=I.sr;have S1:SR ⟨K,T,GD.M,GD.pots,H,false⟩ GD σ H2 env n:=S0.same s2;refine hg1 _ GD σ H2 env n xs[i] v _ _ rfl S1 rv hc fun env1 σ1 hc1 S2=>?_;refine hi2 _ GD σ1 H2 env1 n _ _ rfl rfl S2 hc1 fun ys env2 n2 J2 H4 q4 S4 f4 hJ2=>?_;have I4:=S4.inn;have k4:∀b o,b∉G.pots->H1 b=some o->H4 b=some o:=fun b o hb e=>S4.frame b o hb (kp b o hb e);have d4:H4 D=some (.lst us):=S4.frame D _ nD eD;have ra4:Reps K GD H4 acc us:=Reps.mono (fun b o hb e=>S4.frame b o (pM b hb) e) (fun a ha=>.inl ha) (fun _ _ e=>e) _ _ ra;refine⟨fun j m σ H'=>m=ys.length - j/\j<=ys.length/\∃env n acc2 us2,Inn K T GD σ H' env n/\(∀b o,b∉G.pots->H1 b=some o->H' b=some o)/\(∀b o,b∉GD.M->H4 b=some o->H' b=some o)/\H' D=some (.lst us2)/\Reps K GD H' acc2 us2/\acc2.length<=1000 * i + j/\Z3 pg2 ptt pte (ys.drop j) env n fun zs env3 n3=>i5 pg1 pi2 pg2 ptt pte (xs.drop (i + 1)) env3 n3 fun ws n4=>R (acc2++(zs++ws)) n4,⟨ys.length,by simp,O7 _,env2,n2,acc,us,I4,k4,fun _ _ _ e=>e,d4,ra4,la,q4.2⟩,?_⟩;rintro j m σ5 H5 ⟨rfl,hj,env5,n5,acc5,us5,I5,kp5,kq5,eD5,ra5,la5,hc5⟩
     have hf5:∀p,H5 p=none->p∉GD.M:=fun p hp z=>by
       obtain⟨o,e,_⟩:=I5.mu p z;rw [hp] at e;cases e
     obtain⟨hgo5,hstop5⟩:=hJ2 GD H5 kq5 (fun a ha=>.inl ha) (fun _ _ e=>e) hf5
     by_cases hlt5:j < ys.length
     · have ex5:ys[j]?=some ys[j]:=C4 hlt5;obtain⟨u1,u2⟩:=hgo5 j _ ex5;refine .inr ⟨u1,fun v6 H6 y6=>?_⟩;obtain⟨s6,rv6⟩:=u2 v6 H6 y6;rw [Z9 hlt5] at hc5;have S6:SR ⟨K,T,GD.M,GD.pots,H5,false⟩ GD σ5 H6 env5 n5:=I5.sr.same s6;refine hg2 _ GD σ5 H6 env5 n5 ys[j] v6 _ _ rfl S6 rv6 hc5 fun env7 σ7 hc7 S7=>?_;refine ht _ GD σ7 H6 env7 n5 _ _ rfl rfl S7 hc7 fun b env8 n8 H8 hc8 S8 f8=>?_
       have pt:∀{H9:Hp} {env9:Env} {n9:Nat},SR ⟨K,T,GD.M,GD.pots,H5,false⟩ GD σ7 H9 env9 n9->(∀b o,b∉G.pots->H1 b=some o->H9 b=some o)/\(∀b o,b∉GD.M->H4 b=some o->H9 b=some o)/\H9 D=some (.lst us5):=fun S9=>
         ⟨fun b o hb e=>S9.frame b o hb (kp5 b o hb e),fun b o hb e=>S9.frame b o (pM b hb) (kq5 b o hb e),S9.frame D _ nD eD5⟩
       cases b with
       | false =>
         obtain⟨k1,k2,k3⟩:=pt S8;refine⟨ys.length - (j + 1),by omega,rfl,hlt5,env8,n8,acc5,us5,S8.inn,k1,k2,k3,?_,by omega,hc8⟩;exact Reps.mono (fun b o hb e=>S8.frame b o (pM b hb) e) (fun a ha=>.inl ha) (fun _ _ e=>e) _ _ ra5
       | true =>
         refine he _ GD σ7 H8 env8 n8 _ _ rfl rfl S8 hc8 fun y env9 n9 u H9 hc9 S9 r9 f9=>?_;obtain⟨k1,k2,k3⟩:=pt S9;have ra9:Reps K GD H9 acc5 us5:=Reps.mono (fun b o hb e=>S9.frame b o (pM b hb) e) (fun a ha=>.inl ha) (fun _ _ e=>e) _ _ ra5
         have fD:∀(o:HO),Fr GD H9 (upd H9 D o):=fun o b u hb e=>by
           rw [B3 (fun z=>hb (by rw [z];exact F4))];exact e
         have I9:=S9.inn;refine⟨us5,k3,?_,ys.length - (j + 1),by omega,rfl,hlt5,env9,n9,acc5++[y],us5++[u],⟨fun p hp=>⟨(I9.pots p hp).1,?_⟩,I9.has,fun a ha=>?_,fun q s e=>?_,I9.len⟩,fun b o hb e=>?_,fun b o hb e=>fD _ b o hb (k2 b o hb e),E4,(ra9.append (.one r9)).fr (fD _),by rw [E3,b3];omega,?_⟩
         · have:=ra5.length;rw [<- this];exact mil' (by omega)
         · have np:p≠D:=fun z=>hDM (by rw [<- z];exact(I0.pots p hp).1);exact T.keep (I9.pots p hp).2 (B3 np) fun b o hb e=>fD _ b o hb e
         · by_cases haD:a=D
           · subst haD;exact⟨_,E4,trivial⟩
           · obtain⟨o,e,m⟩:=I9.mu a ha;exact⟨o,by rw [B3 haD];exact e,m⟩
         · obtain⟨x,v,rfl,ev,r⟩:=I9.slots q s e;exact⟨x,v,rfl,ev,r.fr (fD _)⟩
         · have nb:b≠D:=fun z=>by rw [z,hD] at e;cases e
           rw [B3 nb];exact k1 b o hb e
         · simpa [x6] using hc9
     · have ej:j=ys.length:=by omega
       subst ej;refine .inl ⟨hstop5 _ (A8 _),xs.length - (i + 1),by omega,rfl,hlt,env5,n5,acc5,us5,I5,kp5,eD5,ra5,by have:=q4.1;omega,?_⟩;rw [j9] at hc5;exact hc5
   · have ei:i=xs.length:=by omega
     subst ei;refine .inl ⟨hstop _ (A8 _),?_⟩;rw [j9] at hc;exact hQ _ n us H (by simpa [i5] using hc) (fun p hp=>(I.pots p hp).2) kp eD ra
section
variable {T:PotK}{ι:Type}{K:A3}{F:ι->Cx}{pg1 pg2:pG}{pos:Pos}
theorem Le {scope:Scope}{cl:ι->List (Str×Addr)}{N:List Str}{cs:List (Option Nat)}{elt t1 i1 t2 i2:Expr}{ifs:List Expr}{pi1 pi2:pA}{ptt:pT}{pte:pE}(S:∀z,Y2 (F z) scope (cl z) N cs)(hc:∀z,(F z).calm=true)(hi:QI T K F t1 i1 pi1)
   (hg:QG K (fun y:ι×List Addr×Addr×Shared×Hp=>B7 (F y.1) scope (cl y.1) N y.2.1 y.2.2.1 y.2.2.2.1 y.2.2.2.2) t1 pg1)
   (hi2:QI T K (fun y:ι×List Addr×Addr×Shared×Hp=>B7 (F y.1) scope (cl y.1) N y.2.1 y.2.2.1 y.2.2.2.1 y.2.2.2.2) t2 i2 pi2)
   (hg2:QG K (fun y:ι×List Addr×Addr×Shared×Hp=>B7 (F y.1) scope (cl y.1) N y.2.1 y.2.2.1 y.2.2.2.1 y.2.2.2.2) t2 pg2)
   (ht:QIf T K (fun y:ι×List Addr×Addr×Shared×Hp=>B7 (F y.1) scope (cl y.1) N y.2.1 y.2.2.1 y.2.2.2.1 y.2.2.2.2) ifs ptt)
   (he:QE T K (fun y:ι×List Addr×Addr×Shared×Hp=>B7 (F y.1) scope (cl y.1) N y.2.1 y.2.2.1 y.2.2.2.1 y.2.2.2.2) elt pte)
   (hs:∀z x,N9 i1 (F z).env x=pure x:=by intro _ _;rfl) (hs2:∀z fp C s H x,N9 i2 (B7 (F z) scope (cl z) N fp C s H).env x=pure x:=by intro _ _ _ _ _ _;rfl):QN T K F (LC2 elt t1 i1 t2 i2 ifs scope pos) (Dz cs pi1 pg1 pi2 pg2 ptt pte):=by
 obtain⟨wi,i1',i2'⟩:=hi;obtain⟨g,hg0,hg⟩:=hg;obtain⟨wj,j1,j2⟩:=hi2;obtain⟨g2,hg20,hg2⟩:=hg2;obtain⟨tt,ht0,ht⟩:=ht;obtain⟨te,he0,he⟩:=he;refine⟨_,fun z=>Lc (S z) (hc z) (i1' z) (fun fp C s H=>⟨hg0 (z,fp,C,s,H),j1 (z,fp,C,s,H),hg20 (z,fp,C,s,H),ht0 (z,fp,C,s,H),he0 (z,fp,C,s,H)⟩) (hs2 z) (hs z),fun C G σ H env n R Q hK hT S hp k=>?_⟩;refine i2' C G σ H env n _ _ hK hT S hp fun xs env1 n1 J H1 p1 S1 f1 hJ=>?_;intro D hD;have hDM:=S1.fresh hD;refine Ld (G:=G) hg j2 hg2 ht he hJ p1.1 hD (hT▸hK▸By S1 cs) p1.2 fun ys n2 us H' rr hpots hk eD ry=>?_;have nD:∀b o,H1 b=some o->b≠D:=fun b o e z=>by rw [z,hD] at e;cases e
 have hk2:∀b o,b∉G.pots->H1 b=some o->cutH H' D b=some o:=fun b o hb e=>by rw [L5 (nD b o e)];exact hk b o hb e
 have nc:∀b,b∉D::G.M->b≠D:=fun b hb z=>hb (by rw [z];exact F4);have np:∀p∈G.pots,p≠D:=fun p hp z=>hDM (z▸(S1.pots p hp).1)
 have Sb:SR C G σ (cutH H' D) env1 n2:=S1.call hk2 fun p hp=>by
   subst hT;have h2:=C.T.keep (hpots p hp) (H':=cutH H' D) (L5 (np p hp)) fun b o hb e=>by rw [L5 (nc b hb)];exact e
   exact C.T.more h2 fun a ha=>.inl (D0 _ ha)
 have:=k ys env1 n2 D us (cutH H' D) rr Sb (f1.trans fun b o hb e=>hk2 b o (fun z=>hb (S1.pots b z).1) e) (by unfold cutH;rw [if_pos rfl]) ?_
 · rw [Bz eD] at this;exact this
 · exact Reps.mono (G:=⟨D::G.M,G.pots⟩) (fun b o hb e=>by rw [L5 (nc b hb)];exact e) (fun a ha=>.inl (D0 _ ha)) (fun _ _ e=>e) _ _ ry
end
end Pu
end
section
namespace L2
open PySem PySem.Spec PyProof.Rows
def insL {α:Type}(xs:List α)(k:Nat)(y:α):List α:=xs.take k++y::xs.drop k
theorem DA {α:Type}(xs:List α)(k:Nat)(y:α):(insL xs k y).length=xs.length + 1:=by
 unfold insL;rw [E3,O5,X3,Q9];omega
section
variable {X:Cx}
def Gu:V->List V->Hp->VK->Prop:=fun x vs H Q=>∃l xs i y,x=.ref l/\vs=[.int i,y]/\H l=some (.lst xs)/\0<=i/\i<=1000000/\xs.length < B1/\Q .non (upd H l (.lst (insL xs i.toNat y)))
theorem Lf {u:Value}(h0:0<=i):(have k:=if i < 0 then(i + ((its.toArray.size:Nat):Int)).toNat else min i.toNat its.toArray.size;(its.toArray.extract 0 k).push u++its.toArray.extract k)=(insL its i.toNat u).toArray:=by
 have e:(if i < 0 then(i + ((its.toArray.size:Nat):Int)).toNat else min i.toNat its.toArray.size)=min i.toNat its.length:=by
   rw [if_neg (by omega)];simp
 show(its.toArray.extract 0 (if i < 0 then(i + ((its.toArray.size:Nat):Int)).toNat else min i.toNat its.toArray.size)).push u++its.toArray.extract (if i < 0 then(i + ((its.toArray.size:Nat):Int)).toNat else min i.toNat its.toArray.size)=_;rw [e];unfold insL;rcases Nat.le_total i.toNat its.length with h | h
 · rw [Nat.min_eq_left h];simp;exact V2 (by rw [Q9];exact A8 _)
 · rw [Nat.min_eq_right h,V2 h,Cf h];simp
theorem Lg:MtM X "list.insert" Gu:=by
 intro pins s σ H x vs v us Q I rx rv h;obtain⟨l,xs,i,y,rfl,rfl,hH,h0,h1,hz,q⟩:=h;cases rx;cases rv with
 | cons ri rv =>
   obtain⟨t,rfl⟩:=ri;obtain⟨u,rfl,ru⟩:=Vals.one rv;obtain⟨z,its,n,r,hl,e⟩:=I.lstM hH
   have hf:¬(!Ey i)=true:=by
     simp only [Ey];simp;omega
   refine call_meets F.slot_list_insert ⟨_,e,rfl⟩ F.entry_list_insert (F.args_list_insert_3 _ _ _) (PySem.AutoSeq1.list_insert_list_int_val_1 l its.toArray n i t u hf (by rw [D8];omega)) ⟨e,?_⟩;refine⟨.non,_,I.lset (its':=insL its i.toNat u) hH e (Lf h0) ?_ ?_,rfl,q⟩
   · exact(r.take i.toNat).append (.cons ru (r.drop i.toNat))
   · rw [DA];omega
end
end L2
namespace Pu
open PySem PySem.Spec L2
section
variable {T:PotK}{ι:Type}{K:A3}{F:ι->Cx}{e ei:Expr}{pe pi:pE}{pos:Pos}
def BK (i:Nat)(pi pe:pE):pE:=fun env n R=>(∃xs,env[i]?=some (some (.ow .lst xs)))/\pi env n fun j env1 n1=>pe env1 n1 fun y env2 n2=>match env2[i]?,j with | some (some (.ow .lst xs)),.int j=>(0<=j/\j<=1000000/\xs.length < 1000000)/\R .non (env2.set i (some (.ow .lst (insL xs j.toNat y)))) n2 | _,_=>False
theorem Gv (i:Nat)(hv:∀z,EW (F z) (.Name x p) (tVar i))(hi:QE T K F ei pi)(he:QE T K F e pe)(hs1:C9 ei=true:=by rfl)(hs:C9 e=true:=by rfl)(hbase:∀z,w5 (.Name x p) "insert" (F z).env (eval (.Name x p) (F z).env)=eval (.Name x p) (F z).env:=by intro _;rfl)(hline:(ap.endLine == pos.line)=true:=by rfl)
   (hfew:∀z,((backTo pos (C7 [ei,e] (F z).env)).all (fun x=>!x.1) && (backToKw pos (j3 [] (F z).env)).all (fun x=>x.1.isSome) && decide (([ei,e]:List Expr).length + ([]:List Q7).length + (if([]:List Q7).isEmpty then 0 else 1) < 30))=true:=by intro _;rfl)
   (hplain:∀z,(backTo pos (C7 [e] (F z).env)).any (·.1)=false:=by intro _;rfl) (hK:∀z,(F z).K=K:=by intro _;rfl):QE T K F (.Call (.Attribute (.Name x p) "insert" ap) [ei,e] [] pos) (BK i pi pe):=by
 obtain⟨ti,i1,i2⟩:=hi;obtain⟨t,a1,a2⟩:=he;refine⟨tBM K "list" Gu (tVar i) (R7 ti (R7 t tNil)),fun z=>hK z▸Bj PySem.F.plainAttrs_list PySem.F.slot_list_insert PySem.F.type_list_insert Lg (hv z).h (C6 (i1 z) (C6 (a1 z) E9 (B2 hs)) (B2 hs1)) (hbase z) (hfew z) hline (B2 hs1) (hplain z),fun C G σ H env n R Q hK hT S hp k=>?_⟩;obtain⟨⟨xs0,e0⟩,hp⟩:=hp;obtain⟨a,vs,ev,h1,h2,h3,h4,r⟩:=S.slots i _ e0;refine⟨.ref a,ev,.inl ⟨rfl,vs,SqL.of h4⟩,?_⟩;refine i2 C G σ H env n _ _ hK hT S hp fun j env1 n1 v H1 q1 S1 r1 f1=>?_;refine a2 C G σ H1 env1 n1 _ _ hK hT S1 q1 fun y env2 n2 u H2 q2 S2 r2 f2=>?_
 split at q2
 · rename_i xs j' ex;obtain⟨a',us,ev',g1,g2,g3,g4,r'⟩:=S2.slots i _ ex;rw [ev] at ev';cases ev';subst hK;obtain⟨S3,f3⟩:=S2.put ex ev ((r'.take j'.toNat).append (xs:=xs.take j'.toNat) (ys:=y::xs.drop j'.toNat) (us:=u::us.drop j'.toNat) ⟨u,_,rfl,r2,r'.drop j'.toNat⟩);exact⟨a,us,j',u,rfl,by rw [show v=.int j' from r1],g4,q2.1.1,q2.1.2.1,by rw [<- r'.length];exact mil' (by omega),k _ _ _ _ _ q2.2 S3 rfl ((f1.trans f2).trans f3)⟩
 · exact q2.elim
end
end Pu
end
section
namespace Pu
open PySem PySem.Spec L2
section
variable {T:PotK}{np:Bool}{ι:Type}{K:A3}{F:ι->Cx}{a b ea eb:Expr}{st:Stmt}{pos:Pos}{pa pb pi pj:pE}
theorem DB (K:A3)(hc:X.calm=true)(h1:GW X x gx)(h2:GW X y gy)(hn:(K8 [x,y] X.env).length=2:=by rfl)(hst:(K8 [x,y] X.env).findIdx? (·.1)=none:=by rfl)
   (hs:(K8 [x,y] X.env).map (·.2)=assign x X.env::(K8 [y] X.env).map (·.2):=by rfl) (hs2:(K8 [y] X.env).map (·.2)=assign y X.env::(K8 [] X.env).map (·.2):=by rfl) (hK:X.K=K:=by rfl) :
   GW X (.Tuple [x,y] k pos) (gTup K 2 (y7 gx (y7 gy gNil))):=⟨hK▸EG hc (Cz h1.h (Cz h2.h EF hs2) hs) hn hst⟩
def At (i:Nat)(pa pb pi pj:pE):pS:=fun D env n=>pa env n fun x env1 n1=>pb env1 n1 fun y env2 n2=>(∃xs,env2[i]?=some (some (.ow .lst xs)))/\gAt i pi x env2 n2 fun env3 n3=>gAt i pj y env3 n3 D.nx
theorem DC (i:Nat){tg:Expr}{k:Nat}{p:Pos}(h:∀z te g,EW (F z) (.Tuple [a,b] k p) te->GW (F z) tg g->SW (F z) st (tAsg te g))(hg:∀z ti tj,EW (F z) ea ti->EW (F z) eb tj->GW (F z) tg (gTup K 2 (y7 (gSub (tVar i) ti z9) (y7 (gSub (tVar i) tj z9) gNil))))(h1:QE T K F a pa)(h2:QE T K F b pb)(h3:QE T K F ea pi)(h4:QE T K F eb pj)(n1:C9 a=true:=by rfl)(n2:C9 b=true:=by rfl):QS T np K F st (At i pa pb pi pj):=by
 obtain⟨t,a1,a2⟩:=h1;obtain⟨u,b1,b2⟩:=h2;obtain⟨ti,i1,i2⟩:=h3;obtain⟨tj,j1,j2⟩:=h4;refine⟨_,fun z=>(h z _ _ ⟨EN (C6 (a1 z) (C6 (b1 z) E9 (B2 n2)) (B2 n1))⟩ (hg z _ _ ⟨i1 z⟩ ⟨j1 z⟩)).h,fun C G σ H env n PD D hK hT hn S hp L=>?_⟩;refine a2 C G σ H env n _ _ hK hT S hp fun x env1 n1 v H1 q1 S1 r1 f1=>?_;refine b2 C G σ H1 env1 n1 _ _ hK hT S1 q1 fun y env2 n2 w H2 q2 S2 r2 f2=>?_;obtain⟨⟨xs0,e0⟩,q2⟩:=q2;refine⟨by show 2<=B1;decide,fun p hn'=>⟨p,[v,w],rfl,SqT.of E4,rfl,v,[w],rfl,?_⟩⟩;have sm:Same H2 (upd H2 p (.tup [v,w])):=Same.lay1 hn';generalize upd H2 p (.tup [v,w])=H3 at sm ⊢;have S3:=S2.same sm;obtain⟨a,vs,ev,h1,h2,h3,h4,r⟩:=S3.slots i _ e0;refine⟨.ref a,ev,?_⟩;refine i2 C G σ H3 env2 n2 _ _ hK hT S3 q2 fun d env3 n3 ud H4 q3 S4 r4 f4=>?_
 split at q3
 · rename_i xs d ex
   split at q3
   · rename_i jj ej;obtain⟨a',us,ev',g1,g2,g3,g4,r'⟩:=S4.slots i _ ex;rw [ev] at ev';cases ev';subst hK;obtain⟨S5,f5⟩:=S4.put ex ev (r'.set jj (((r1.fr f2).same sm).fr f4));refine⟨a,us,d,jj,rfl,r4,g4,by rw [<- r'.length];exact ej,?_⟩;refine⟨w,[],rfl,.ref a,ev,?_⟩;refine j2 C G σ _ _ n3 _ _ rfl hT S5 q3 fun d2 env5 n5 ud2 H5 q5 S6 r6 f6=>?_
     split at q5
     · rename_i xs2 d2 ex2
       split at q5
       · rename_i jj2 ej2;obtain⟨a',us2,ev',k1,k2,k3,k4,r7⟩:=S6.slots i _ ex2;rw [ev] at ev';cases ev';obtain⟨S7,f7⟩:=S6.put ex2 ev (r7.set jj2 ((((r2.same sm).fr f4).fr f5).fr f6));exact⟨a,us2,d2,jj2,rfl,r6,k4,by rw [<- r7.length];exact ej2,rfl,L.nx _ _ _ _ _ q5 S7 (Ext.fr ((((((f1.trans f2).trans (Fr.of sm)).trans f4).trans f5).trans f6).trans f7))⟩
       · grind
     · grind
   · grind
 grind
end
end Pu
end
section
namespace Pu
open PySem PySem.Spec L2
def lt (f t:Int)(k:Nat):Nat:=97 + ((f + (k:Int) * t) % 26).toNat
def Au:List Int:=[1,3,5,7,9,11,15,17,19,21,23,25]
theorem lt_ne {f t:Int}(ht:t∈Au)(f0:0<=f){j k:Nat}(hjk:j < k)(hk:k < 26):lt f t j≠lt f t k:=by
 unfold lt;simp only [Au,C0,k5,or_false] at ht;rcases ht with rfl | rfl | rfl | rfl | rfl | rfl | rfl | rfl | rfl | rfl | rfl | rfl <;> omega
theorem lt_at {k:Nat}:atI LETS.cps.toList ((f + (k:Int) * t) % 26)=some (lt f t k):=
 Ge (c8 _ (by decide)) (l5 _ (by decide))
theorem Lh (ht:t∈Au):-(2 ^ 64) < t/\t < 2 ^ 64:=by
 simp only [Au,C0,k5,or_false] at ht;rcases ht with rfl | rfl | rfl | rfl | rfl | rfl | rfl | rfl | rfl | rfl | rfl | rfl <;> decide
theorem DE {zs:List Str}:memP (.str z) (zs.map PV.str)=decide (z∈zs):=by
 unfold memP;rw [List.any_map,b9,b4,decide_eq_true_iff];constructor
 · rintro⟨y,hy,e⟩;have e':decide (y=z)=true:=by rw [<- Z2];exact e
   rw [<- of_decide_eq_true e'];exact hy
 · intro h;refine⟨z,h,?_⟩;show eqP (.str z) (.str z)=true;rw [Z2];exact decide_eq_true rfl
theorem u5 (zs:List Str)(d:Nat):(zs.map PV.str).all (cmpb d)=true:=by
 rw [List.all_map,F9];intro x _;cases d <;> rfl
theorem Li {zs:List Str}(hP:zs.map PV.str=P)(h:R (.bl (decide (z∈zs)))):wIn 4 false (.str z) (.tup P) R:=by
 subst hP;exact⟨rfl,u5 zs 4,by rw [DE];exact h⟩
theorem Lj {zs:List Str}(hP:zs.map PV.str=P)(h:R (.bl (!decide (z∈zs)))):wIn 4 true (.str z) (.tup P) R:=by
 subst hP;exact⟨rfl,u5 zs 4,by rw [DE];exact h⟩
theorem Lk {zs:List Str}(hP:zs.map PV.str=P)(h:R (.bl (!decide (z∈zs)))):wIn 4 true (.str z) (.lst P) R:=by
 subst hP;exact⟨rfl,u5 zs 4,by rw [DE];exact h⟩
def RowS (zs:List Str):Prop:=zs.Nodup/\∀z∈zs,W3 z
abbrev rowP (zs:List Str):PV:=.tup (zs.map PV.str)
inductive Ev where
 | d (x:Str) | t (x y:Str)
def evB:Ev->List Str
 | .d x=>[x]
 | .t x y=>[x,y]
theorem K6 {zs:List Str}(nd:zs.Nodup){i j:Nat}(h1:zs[i]?=some z)(h2:zs[j]?=some z):i=j:=by
 obtain⟨l1,e1⟩:=C5.mp h1;obtain⟨l2,e2⟩:=C5.mp h2;rcases Nat.lt_trichotomy i j with h | h | h
 · exact absurd (e1.trans e2.symm) (Cc.mp nd i j l1 l2 h)
 · exact h
 · exact absurd (e2.trans e1.symm) (Cc.mp nd j i l2 l1 h)
def ixS (zs:List Str)(z:Str):Nat:=zs.findIdx fun y=>decide (y=z)
theorem D2 (h:z∈zs):zs[ixS zs z]?=some z/\∀i,i < ixS zs z->zs[i]?≠some z:=by
 unfold ixS;have hl:zs.findIdx (fun y=>decide (y=z)) < zs.length:=List.findIdx_lt_length_of_exists ⟨z,h,by simp⟩;refine⟨?_,fun i hi e=>?_⟩
 · rw [C4 hl];have:=List.findIdx_getElem (w:=hl);rw [of_decide_eq_true this]
 · have:=List.not_of_lt_findIdx hi;obtain⟨l1,e1⟩:=C5.mp e;rw [e1] at this;simp at this
theorem u6 (h:z∈zs):ixS zs z < zs.length:=(C5.mp (D2 h).1).1
theorem m_ix (hP:zs.map PV.str=P)(h:z∈zs)(hl:zs.length<=1000000)(q:R (.int (ixS zs z))):O3 (.tup P) (.str z) R:=by
 subst hP;unfold O3;dsimp only;rw [FU];exact⟨hl,ixS zs z,(D2 h).1,(D2 h).2,q⟩
end Pu
end
section
namespace Pu
open PySem PySem.Spec L2
inductive Mk where
 | d | o | t | u
 deriving DecidableEq
def run (r:Int):Nat->List Nat->List Mk->Option (List Nat)
 | _,st,[]=>some st
 | k,st,.t::m=>run r (k + 1) (k::st) m
 | k,st,.d::m=>run r (k + 1) st m
 | k,[],.o::m=>run r (k + 1) [] m
 | _,_::_,.o::_=>none
 | _,[],.u::_=>none
 | k,p::st,.u::m=>if(k:Int) - p - 1<=r then run r (k + 1) st m else none
def Cl (r:Int)(k:Nat)(m:List Mk):Prop:=∀st,run r k st m=some st
theorem Cl.d (h:Cl r (k + 1) m):Cl r k (.d::m):=fun st=>h st
inductive PE where
 | d (i:Nat) | t (i j:Nat)
def nm (zs:List Str)(i:Nat):Str:=zs.getD i (C1 "")
theorem K7 {zs:List Str}{i:Nat}(h:i < zs.length):zs[i]?=some (nm zs i):=by grind [nm]
theorem BL (h:i < zs.length):nm zs i∈zs:=J7 (K7 h)
theorem nm_inj (nd:zs.Nodup)(hi:i < zs.length)(hj:j < zs.length)(h:nm zs i=nm zs j):i=j:=K6 nd (K7 hi) (by rw [h];exact K7 hj)
structure Fair (zs:List Str)(es:List Ev):Prop where
 nd:(es.flatMap evB).Nodup
 sub:∀b∈es.flatMap evB,b∈zs
theorem Gw {α β:Type}(f:α->β):∀{l:List α},l.Nodup->(∀a∈l,∀b∈l,f a=f b->a=b)->(l.map f).Nodup
 | [],_,_=>by simp
 | a :: l, h, hf => by
   obtain⟨h1,h2⟩:=N0.mp h;rw [G7,N0];refine⟨fun z=>?_,Gw f h2 fun x hx y hy=>hf x (D0 _ hx) y (D0 _ hy)⟩;obtain⟨b,hb,e⟩:=J8.mp z;exact h1 (hf b (D0 _ hb) a F4 e▸hb)
def exch (f:List Str)(i j:Nat):List Str:=(f.set i (nm f j)).set j (nm f i)
theorem Av (hx:x∈zs)(hy:y∈zs)(h:ixS zs x=ixS zs y):x=y:=by
 have h1:=(D2 hx).1;rw [h,(D2 hy).1] at h1;exact(D7 h1).symm
theorem Aw (hi:i < f.length)(hj:j < f.length):(exch f i j).Perm f:=by
 unfold exch nm;rw [x0,x0,C4 hi,C4 hj];show((f.set i f[j]).set j f[i]).Perm f;exact List.set_set_perm hi hj
theorem W5 {α β:Type}{f:α->β}{l:List α}{i:Nat}{y:β}(h:(l.map f)[i]?=some y):∃x,l[i]?=some x/\y=f x:=by
 rw [G6] at h;cases e:l[i]? with
 | none=>rw [e] at h;cases h
 | some x=>rw [e] at h;exact⟨x,rfl,(D7 h).symm⟩
theorem U9 {α:Type}{l:List α}{i:Nat}{x:α}(h:l[i]?=some x):l.take (i + 1)=l.take i++[x]:=by
 rw [List.take_add_one,h];rfl
theorem Gx {α:Type}(xs:List α)(a:Nat):cutP xs (some (a:Int)) none=xs.drop a:=by
 unfold cutP;rw [HT.sIx_nat,HT.sIx_none];rcases Nat.le_total a xs.length with h2 | h2
 · rw [Nat.min_eq_left h2];exact V2 (by rw [Q9];exact A8 _)
 · rw [Nat.min_eq_right h2,Cf h2,Cf (A8 _)];simp
theorem at2_0 {α:Type}{a b:α}:atI [a,b] 0=some a:=rfl
theorem at2_1 {α:Type}{a b:α}:atI [a,b] 1=some b:=rfl
theorem at3_0 {α:Type}{a b c:α}:atI [a,b,c] 0=some a:=rfl
theorem at3_1 {α:Type}{a b c:α}:atI [a,b,c] 1=some b:=rfl
theorem at3_2 {α:Type}{a b c:α}:atI [a,b,c] 2=some c:=rfl
end Pu
end
section
namespace Pu
open PySem PySem.Spec L2
theorem Fair.tx {st:List Str}{es:List Ev}(h:Fair st es){x y:Str}(he:Ev.t x y∈es):x∈st/\y∈st:=
 ⟨h.sub x (List.mem_flatMap.mpr ⟨_,he,by simp [evB]⟩),h.sub y (List.mem_flatMap.mpr ⟨_,he,by simp [evB]⟩)⟩
end Pu
end
section
namespace L2
open PySem PySem.Spec PyProof.Rows
theorem Ll (hh:A.handled=none)(I a:Addr)(hne:a≠I)(its:Array Value) :
   Walks prog w A I [I,a] [I] its.size (fun i v=>its[i]?=some v) (fun i h=>h.IsListIter I a i/\h.IsList a its) where
 sub:=fun b hb=>by simp at hb;simp [hb]
 frame:=fun _ _ _ st hk=>⟨st.1.at fun o e=>hk I (by simp) o e,let ⟨o,ho,x⟩:=st.2;⟨o,hk a (by simp) o ho,x⟩⟩
 item:=fun i s Q E hi st hQ=>by
   have hx:its[i]?=some its[i]:=by simp [hi]
   refine wpAny_pyNext_list_item st.1 st.2 hx fun h' hit' hs'=>?_;exact hQ its[i] h' s.toks hx ⟨hit',let ⟨o,ho,x⟩:=st.2;⟨o,hs'.extBut a o hne ho,x⟩⟩ fun b o hb e=>hs'.extBut b o (fun h=>hb (by simp [h])) e
 done:=fun s Q E st hQ=>wpAny_pyNext_list_end hh st.1 st.2 (by simp) fun h' he'=>hQ h' s.toks fun b o hb e=>he' b o (fun h=>hb (by simp [h])) e
 self:=fun _ _ _ _ st hQ=>wpAny_pyIter_listiter st.1 hQ
theorem DF (is:List Int):∀n,n<=is.length->preSum (fun j=>is.getD j 0) n=(is.take n).sum
 | 0,_=>by rw [List.take_zero];rfl
 | n + 1, h => by
   show preSum (fun j=>is.getD j 0) n + is.getD n 0=_;rw [DF is n (by omega),List.take_succ,x0,C4 (by omega),List.sum_append];simp
theorem Lm {is:List Int}(h:∀i∈is,0<=i/\i<=1000000):0<=is.sum/\is.sum<=1000000 * is.length:=by
 induction is with
 | nil=>exact⟨by decide,by decide⟩
 | cons x is ih =>
   obtain⟨h1,h2⟩:=ih fun i hi=>h i (D0 _ hi);obtain⟨x1,x2⟩:=h x F4;rw [List.sum_cons,O5];omega
section
variable {X:Cx}
theorem Ln (hc:X.calm=true):J1 X (.builtin "sum") (fun xs H Q=>∃(a:Addr) (is:List Int),xs=[.ref a]/\H a=some (.lst (is.map V.int))/\is.length<=1000/\(∀i∈is,0<=i/\i<=1000000)/\Q (.int is.sum) H):=by
 intro pins s σ H xs us Q I r h;obtain⟨a,is,rfl,ea,hl,hi,q⟩:=h;obtain⟨u,rfl,rx⟩:=X9 r;cases rx;obtain⟨_,its,n,rv,e⟩:=(show D9 X.prog X.w H s.heap a (.lst (is.map V.int)) from I.hok a _ ea);have isL:s.heap.IsList a its.toArray:=⟨_,e,rfl,_,rfl⟩;have hlen:its.length=is.length:=by rw [<- rv.length,A9]
 refine call_sum_walk ?_;refine AK isL ?_;have lt:a < s.heap.objs.size:=B5 e;have hh:X.A.in1.handled=none:=I.ok.hd hc;refine⟨s.heap.objs.size,[s.heap.objs.size,a],[s.heap.objs.size],its.toArray.size,(fun i v=>its.toArray[i]?=some v),(fun i h=>h.IsListIter s.heap.objs.size a i/\h.IsList a its.toArray),(fun j=>is.getD j 0),rfl,Ll hh s.heap.objs.size a (C8 lt) its.toArray,⟨⟨_,E6 _ rfl,rfl,rfl⟩,⟨_,B6 _ e,rfl,_,rfl⟩⟩,fun b hb=>?_,fun i v hv=>?_,fun j hj=>?_,fun h' tk t' hk=>?_⟩
 · have sz:s.heap.objs.size < (s.heap.push { cls:=.type "list_iterator",data:=.fields #[.ref a,.int 0 0] }).objs.size:=by simp [Heap.push]
   rcases C0.mp hb with z | z
   · rw [z];exact sz
   · rw [E1.mp z];exact Nat.lt_trans lt sz
 · have hv':its[i]?=some v:=by simpa using hv
   have hi':=(C5.mp hv').1;have hi2:i < is.length:=by rw [<- hlen];exact hi'
   obtain⟨x,ex,rx⟩:=rv.getE hi';rw [G6,C4 hi2] at ex;have ex:V.int is[i]=x:=D7 ex;subst ex;obtain⟨t,et⟩:=rx;refine⟨t,?_⟩;rw [C4 hi'] at hv';rw [<- D7 hv',et];show l7 is[i] t=l7 (is.getD i 0) t;rw [x0,C4 hi2]
   rfl
 · have hj':j < is.length:=by rw [<- hlen];simpa using hj
   have m1:is.getD j 0∈is:=by rw [x0,C4 hj'];exact j8 _
   have h1:=hi _ m1;have h2:=Lm (is:=is.take (j + 1)) fun i h=>hi i (V3 h);show InLong (is.getD j 0)/\InLong (preSum (fun j=>is.getD j 0) (j + 1));rw [DF is (j + 1) hj'];rw [X3] at h2;refine⟨⟨?_,?_⟩,⟨?_,?_⟩⟩ <;> (have e63:(2:Int) ^ 63=9223372036854775808:=by decide) <;> rw [e63] <;> omega
 · have es:preSum (fun j=>is.getD j 0) its.toArray.size=is.sum:=by
     rw [DF is _ (by rw [D8,hlen];exact A8 _),D8,hlen,x8]
   rw [es];exact⟨.int is.sum,H,I.kept (t':=tk) fun b o eb=>hk b o (fun z=>P4 _ (by rw [E1.mp z] at eb;exact B5 eb)) (B6 _ eb),⟨_,rfl⟩,q⟩
end
end L2
namespace Pu
open PySem PySem.Spec L2
section
variable {T:PotK}{np:Bool}{ι:Type}{K:A3}{F:ι->Cx}{e a b:Expr}{st:Stmt}{pe pa pb:pE}{pos:Pos}
def Z4:List PV->Option (List Int)
 | []=>some []
 | .int i::xs=>(Z4 xs).map (i::·)
 | _=>none
theorem Lp:∀{vs:List V} {is:List Int},Reps K G H xs vs->Z4 xs=some is->vs=is.map V.int:=by
 induction xs with
 | nil=>intro vs is r h;cases h;exact r
 | cons x xs ih =>
   intro vs is r h;obtain⟨v,t,rfl,rv,rt⟩:=r;cases x with
   | int i =>
     have h:(Z4 xs).map (i::·)=some is:=h;cases e:Z4 xs with
     | none=>rw [e] at h;cases h
     | some js =>
       rw [e] at h;cases h;rw [ih rt e,show v=.int i from rv]
       rfl
   | _=>cases h
def wSum:w1:=fun x R=>match x with | .lst xs=>(match Z4 xs with | some is=>is.length<=1000/\(∀i∈is,0<=i/\i<=1000000)/\R (.int is.sum) | none=>False) | _=>False
theorem qe_sum (hc:∀z,(F z).calm=true)(hg:∀z,Gl (F z) "sum")(hm:∀z,(F z).mg "sum"=none)(ha:QE T K F a pa)(hs:C9 a=true:=by rfl):QE T K F (.Call (.Name "sum" p) [a] [] pos) (qUn wSum pa):=by
 obtain⟨t,h1,h2⟩:=ha;refine⟨_,fun z=>Y0 (Ln (hc z)) (hg z) (hm z) bt_sum (C6 (h1 z) E9 (B2 hs)) (by decide) (by decide) (B2 hs),fun C G σ H env n' R Q hK hT S hp k=>?_⟩;refine h2 C G σ H env n' _ _ hK hT S hp fun x env1 n1 v H1 p1 S1 r1 f1=>?_;dsimp only [wSum] at p1;cases x with
 | lst xs =>
   cases ei:Z4 xs with
   | none=>dsimp only at p1;rw [ei] at p1;exact p1.elim
   | some is =>
     dsimp only at p1;rw [ei] at p1;obtain⟨l1,l2,q⟩:=p1;obtain⟨a,vs,rfl,t,r⟩:=r1;have ev:=Lp r ei;exact⟨a,is,rfl,by rw [<- ev];exact t.2,l1,l2,k _ _ _ _ _ q S1 rfl f1⟩
 | _=>exact p1.elim
end
end Pu
end
section
namespace L2
open PySem PySem.Spec PyProof.Rows
def u7 (i n:Int):Obj:={ cls:=.type "range_iterator",data:=.fields #[rawInt (i + (n - i - 1) * 1),rawInt (n - i),rawInt (-1)] }
section
variable {prog:C3}{w:World}{A:Around}{E:Value->Shared->Prop}{s:Shared}
theorem Lq {r:Addr}{i n:Int}{t u v:Tok}{Q:Value->Shared->Prop}(h0:i<=n)(h1:n<=1000000)(hi:-1000000<=i)(hr:s.heap.get? r=some { cls:=.type "range",data:=.fields #[.int i t,.int n u,.int 1 v] })
   (h:Q (.ref s.heap.objs.size) { s with heap:=s.heap.push (u7 i n) }):wpAny (model prog w) A (call (.builtin "range.__reversed__") [.ref r]) Q E s:=by
 have hT:s.TypeIs (.ref r) "range":=⟨_,hr,rfl⟩;refine T4 F.slot_range_reversed hT F.entry_range_reversed ?_ (F.args_range_reversed_1 _);unfold Builtin.«range.__reversed__»;refine A1 (O0 (a:=J9 r) rfl ?_);refine A1 ?_;unfold Builtin.Range.rangeFields;refine A1 (G9 hr rfl (x:=.int i t) rfl ?_);refine A1 (O0 (a:=some i) rfl ?_);refine A1 (G9 hr rfl (x:=.int n u) rfl ?_);refine A1 (O0 (a:=some n) rfl ?_);refine A1 (G9 hr rfl (x:=.int 1 v) rfl ?_);refine A1 (O0 (a:=some (1:Int)) rfl ?_);refine A6 ?_
 have hs:Cn i n 1=n - i:=by
   unfold Cn;rw [if_pos (by decide),Int.ediv_one]
   split <;> omega
 dsimp only;rw [hs]
 have sm:(c7 i && c7 n && c7 1 && c7 (-1) && c7 (i - 1) && c7 (n - i))=true:=by
   simp only [c7,V4,decide_eq_true_eq];omega
 rw [sm];simp only [Bool.not_true,k8,if_false,if_true];exact A1 (L6 (A6 ⟨_,rfl,h⟩))
theorem Lr {r:Addr}{i n:Int}{t u v:Tok}{Q:Value->Shared->Prop}(h0:i<=n)(h1:n<=1000000)(hi:-1000000<=i)(hr:s.heap.get? r=some { cls:=.type "range",data:=.fields #[.int i t,.int n u,.int 1 v] })
   (h:Q (.ref s.heap.objs.size) { s with heap:=s.heap.push (u7 i n) }):wpAny (model prog w) A (call (.type "reversed") [.ref r]) Q E s:=by
 have hT:s.TypeIs (.ref r) "range":=⟨_,hr,rfl⟩;refine callType_other (U:="range_iterator") (Q₁:=fun obj s₁=>obj=.ref s.heap.objs.size/\s₁={ s with heap:=s.heap.push (u7 i n) }) (by decide +kernel) F.create_reversed ⟨_,_,F.mro_reversed⟩ F.made_reversed KL (F.typeCall_reversed_1 _) ?_ ?_
 · refine codeAny_of_tree ?_;show wpAny _ A.in1.in1 (do checkBuiltinCall "reversed.__new__" ⟨[.type "reversed",.ref r],[]⟩;again (.builtin "reversed.__new__" ⟨[.type "reversed",.ref r],[]⟩)) _ _ s;refine A1 (O0 (F.newCall_reversed_1 _) (A6 ⟨plainId_quiet F.plain_reversed_new _,codeAny_builtin F.entry_reversed_new ?_⟩));rw [Around.under_plainId F.plain_reversed_new _];unfold Builtin.«reversed.__new__»;refine A1 (O0 (newClass_reversed _) ?_)
   try dsimp only
   refine A1 (O0 (a:=()) (by first | rfl | kernel_rfl) ?_);refine A1 (O0 (a:=()) (by first | rfl | kernel_rfl) ?_)
   try dsimp only
   refine A1 (wpAny_specialOf hT F.slot_range_reversed.lookup ?_)
   try dsimp only
   refine A1 (O0 (F.slot_range_reversed.bind _) ?_)
   try dsimp only
   first
   | rw [if_neg (show ¬((Value.builtin "range.__reversed__" == R1)=true) from N1)]
   | (show wpAny _ _ (if(Value.builtin "range.__reversed__" == R1)=true then _ else _) _ _ _;rw [if_neg (show ¬((Value.builtin "range.__reversed__" == R1)=true) from N1)])
   refine A1 (V1 ?_);refine A1 (m:=runValue (.call (.builtin "range.__reversed__") ⟨[.ref r],[]⟩)) (show wpAny _ _ (call (.builtin "range.__reversed__") [.ref r]) _ _ _ from Lq h0 h1 hi hr ?_)
   first
   | exact A6 ⟨rfl,rfl⟩
   | exact A1 (A6 (A6 ⟨rfl,rfl⟩))
 · rintro obj s₁ ⟨rfl,rfl⟩;exact⟨⟨_,E6 _ rfl,rfl⟩,h⟩
end
section
variable {X:Cx}{tg:Expr}
def tRng2 (ta:TA):TE:=fun σ H Q=>ta σ H fun vs H1=>∃i j:Int,vs=[.int i,.int j]/\∀p,H1 p=none->Q (.ref p) (upd H1 p (.rng i j))
theorem Ls {a b:Expr}{ta:TA}{p pos:Pos}(hg:Gl X "range")(hm:X.mg "range"=none)(ha:PA X [a,b] ta)(hs:C7 [a,b] X.env=[(false,eval a X.env),(false,eval b X.env)])(hs2:C7 [b] X.env=[(false,eval b X.env)]):PE X (.Call (.Name "range" p) [a,b] [] pos) (tRng2 ta):=by
 intro pins s σ H Q I h;refine Call_ (R5 I hg hm boot_range (X4 (thn (ha pos pins s σ H _ I h) fun us s1 ⟨vs,H1,I1,r1,q1⟩=>?_) (by rw [hs,hs2]) (by rw [hs2];rfl)));obtain⟨i,j,e,q⟩:=q1;subst e;cases r1 with
 | cons r rr =>
   cases rr with
   | cons r' rr =>
     cases rr;obtain⟨t,rfl⟩:=r;obtain⟨t',rfl⟩:=r';refine call_range_2 ?_;exact⟨.ref s1.heap.objs.size,_,I1.laid (a:=s1.heap.objs.size) (o:=.rng i j) (fun b o e=>B6 _ e) (A8 _) ⟨_,_,_,E6 _ rfl⟩,rfl,q _ (I1.hok.fresh (A8 _))⟩
def iRevS (ta:TA):TI:=fun σ H R=>ta σ H fun vs H1=>∃(r:Addr) (i n:Int),vs=[.ref r]/\H1 r=some (.rng i n)/\i<=n/\n<=1000000/\-1000000<=i/\R (Itd (n - 1) (n - i).toNat) H1
theorem Lu {e:Expr}{ta:TA}{p pos:Pos}(hg:Gl X "reversed")(hm:X.mg "reversed"=none)(ha:PA X [e] ta)(hs:C7 [e] X.env=[(false,eval e X.env)]:=by rfl):PI X tg (.Call (.Name "reversed" p) [e] [] pos) (iRevS ta):=by
 intro pins s σ H R I h;refine Call_ (R5 I hg hm KK (X4 (thn (ha pos pins s σ H _ I h) fun us s1 ⟨vs,H1,I1,r1,q1⟩=>?_) hs rfl));obtain⟨r,i,n,e,hr,h0,h2,hi,q⟩:=q1;subst e;cases r1 with
 | cons rr0 rr =>
   cases rr;cases rr0;obtain⟨t,u,v,ho⟩:=(show D9 X.prog X.w H1 s1.heap r (.rng i n) from I1.hok r _ hr);refine Lr h0 h2 hi ho ?_;have I2:Inv X pins σ H1 { s1 with heap:=s1.heap.push (u7 i n) }:=I1.kept (t':=s1.toks) fun b o e=>B6 _ e
   have st:IsRangeIter (s1.heap.push (u7 i n)) s1.heap.objs.size (n - 1 + ((0:Nat):Int) * -1) (((n - i).toNat:Int) - ((0:Nat):Int)) (-1):=by
     have e1:n - 1 + ((0:Nat):Int) * -1=i + (n - i - 1) * 1:=by omega
     have e2:((n - i).toNat:Int) - ((0:Nat):Int)=n - i:=by omega
     rw [e1,e2];exact E6 _ rfl
   refine Ca (s:={ s1 with heap:=s1.heap.push (u7 i n) }) st ?_;refine⟨s1.heap.objs.size,[s1.heap.objs.size],_,_,H1,rfl,I2,Kb _ (n - 1) (n - i).toNat,st,fun b hb=>?_,q⟩;have e:b=s1.heap.objs.size:=by simpa using hb
   subst e;exact I1.fpOk (A8 _) (I1.hok.fresh (A8 _))
end
end L2
namespace Pu
open PySem PySem.Spec L2
section
variable {T:PotK}{ι:Type}{K:A3}{F:ι->Cx}{tg a b:Expr}{pa pb:pE}{pos:Pos}
def DG (pa pb:pE):pA:=fun env n R=>pa env n fun x env1 n1=>pb env1 n1 fun y env2 n2=>match x,y with | .int i,.int j=>(i<=j/\j<=1000000/\-1000000<=i)/\R ((C2 (j - i).toNat).map fun(k:Nat)=>PV.int (j - 1 - k)) env2 n2 | _,_=>False
theorem Lv {p p2 pos2:Pos}(hg:∀z,Gl (F z) "reversed")(hm:∀z,(F z).mg "reversed"=none)(hg2:∀z,Gl (F z) "range")(hm2:∀z,(F z).mg "range"=none)(ha:QE T K F a pa)(hb:QE T K F b pb)(hs:C9 a=true:=by rfl)(hs2:C9 b=true:=by rfl):QI T K F tg (.Call (.Name "reversed" p) [.Call (.Name "range" p2) [a,b] [] pos2] [] pos) (DG pa pb):=by
 obtain⟨t,h1,h2⟩:=ha;obtain⟨u,h3,h4⟩:=hb;refine⟨_,fun z=>Lu (hg z) (hm z) (C6 (Ls (hg2 z) (hm2 z) (C6 (h1 z) (C6 (h3 z) E9 (B2 hs2)) (B2 hs)) (by rw [B2 hs,B2 hs2];rfl) (B2 hs2)) E9 (B2 rfl)) (B2 rfl),fun C G σ H env n R Q hK hT S hp k=>?_⟩;refine h2 C G σ H env n _ _ hK hT S hp fun x env1 n1 v H1 p1 S1 r1 f1=>?_;refine h4 C G σ H1 env1 n1 _ _ hK hT S1 p1 fun y env2 n2 v2 H2 p2 S2 r2 f2=>?_;cases x with
 | int i =>
   cases y with
   | int j =>
     refine⟨i,j,by rw [show v=.int i from r1,show v2=.int j from r2],fun p hn=>⟨p,i,j,rfl,E4,p2.1.1,p2.1.2.1,p2.1.2.2,?_⟩⟩;exact k _ _ _ _ _ p2.2 (S2.same (Same.lay1 hn)) ((f1.trans f2).trans (Fr.of (Same.lay1 hn))) (Kc (j - 1) _)
   | _=>exact p2.elim
 | _=>exact p2.elim
end
end Pu
end
section
namespace Pu
open PySem PySem.Spec L2
variable {T:PotK}{ι:Type}{K:A3}{F:ι->Cx}{e:Expr}{st:List Stmt}{np:Bool}
def Ax:pS:=fun _ _ _=>False
theorem DH:QSs T np K F st Ax:=⟨fun _ _ _=>False,fun _ _ _ _ _ _ _ h=>h.elim,fun _ _ _ _ _ _ _ _ _ _ _ _ h=>h.elim⟩
end Pu
end
section
namespace L2
open PySem PySem.Spec PyProof.Rows
variable {X:Cx}
theorem Lw:OpR X (G5 .IsNot) (fun x y H Q=>∃a b,x=.bl a/\y=.bl b/\Q (.bl (!(a == b))) H):=by
 intro pins s σ H x y v u Q I rx ry h;obtain⟨a,b,rfl,rfl,q⟩:=h;cases rx;cases ry;exact wpAny_isNot_plain rfl (CD I q (by cases a <;> cases b <;> rfl))
end L2
namespace Pu
open PySem PySem.Spec L2
variable {T:PotK}{ι:Type}{K:A3}{F:ι->Cx}
def BM:w2:=fun x y R=>match x,y with | .bl a,.bl b=>R (.bl (!(a == b))) | _,_=>False
theorem cNotB:Cmp K F .IsNot BM:=⟨_,fun _=>Lw,by
 intro G H x y v u R Q hf rx ry hw k;unfold BM at hw
 split at hw
 · exact⟨_,_,rx.bl,ry.bl,k _ _ _ hw (Same.refl _) rfl⟩
 · exact hw.elim⟩
end Pu
end
section
namespace L2
open PySem PySem.Spec PyProof.Rows
theorem DI:∀(names:List (Str×NameKind)) (n:Nat) (a b:List (Str×Addr)),L7 n names (a++b)=L7 n names a++b
 | [],_,_,_=>rfl
 | (x, k) :: r, n, a, b => by
   unfold L7
   split
   · exact DI r (n + 1) ((x,n)::a) b
   · exact DI r n a b
section
variable {M:Model}{A:Around}{E:Value->Shared->Prop}{s:Shared}
theorem Lx {scope:Scope}{globals:Addr}{cl:List (Str×Addr)}{qual:Str}{outer:Env}{Q:Env->Shared->Prop}
   (hQ:Q (newEnv scope s.heap.objs.size globals (L7 (s.heap.objs.size + 1) scope.names cl) qual none .none (some outer) builtinsNs) { s with heap:=pushCells (s.heap.push { cls:=.type "dict",data:=.dict #[] }) scope.names }) :
   wpAny M A (newFunctionEnv scope globals cl [] qual none .none (some outer)) Q E s:=by
 simp only [newFunctionEnv,Option.isSome_some,if_true];refine A1 (wpAny_alloc ?_);refine A1 (wpAny_layCells _ (fun name kind cells=>by cases hkc:kind == NameKind.cell <;> simp [hkc]) _ _ _ _ ?_)
 rw [show({ s with heap:=s.heap.push { cls:=.type "dict",data:=.dict #[] } }:Shared).heap.objs.size=s.heap.objs.size + 1 from P3 ..];rw [List.forIn_nil];exact A1 (A6 (A6 hQ))
end
def ownC (scope:Scope)(C:Addr):List (Str×Addr):=L7 (C + 1) scope.names []
def M8 (X:Cx)(scope:Scope)(cl:List (Str×Addr))(N:List Str)(fp:List Addr)(C:Addr)(s:Shared)(H:Hp):Cx:=
 { B7 X scope (L7 (C + 1) scope.names cl) N fp C s H with fn:=fun x=>((ownC scope C).lookup x).isSome }
structure BN (X:Cx)(scope:Scope)(cl:List (Str×Addr))(N:List Str)(cs:List (Option Nat)):Prop where
 clos:closureFor scope X.env=pure cl
 kind:scope.kind=.function
 names:∀y∈scope.names,y.2=.local->scope.names.lookup y.1=some .local
 sub:∀x c,cl.lookup x=some c->X.env.cells.lookup x=some c
 has:∀(C:Addr) x,((O2 scope X.env).names.lookup x=some .cell\/(O2 scope X.env).names.lookup x=some .free)->∃c,(L7 (C + 1) scope.names cl).lookup x=some c
 len:cs.length=N.length
 cap:∀(k j:Nat) (x:Str),cs[k]?=some (some j)->N[k]?=some x->X.N[j]?=some x/\Vis X.env.scope x/\X.env.kindOf x≠some .local/\(∃c,cl.lookup x=some c)/\((O2 scope X.env).names.lookup x=some .cell\/(O2 scope X.env).names.lookup x=some .free)/\∀C,(ownC scope C).lookup x=none
theorem Ly {X:Cx}{scope:Scope}{cl:List (Str×Addr)}{N:List Str}{cs:List (Option Nat)}(clos:closureFor scope X.env=pure cl)(kind:scope.kind=.function)
   (names:(scope.names.all fun y=>!(y.2 == .local) || scope.names.lookup y.1 == some .local)=true) (sub:o9 cl X.env.cells)
   (has:∀C:Addr,((O2 scope X.env).names.all fun y=>!(y.2 == .cell || y.2 == .free) || ((L7 (C + 1) scope.names cl).lookup y.1).isSome)=true) (len:cs.length=N.length)
   (cap:∀C:Addr,((cs.zip N).all fun y=>match y.1 with | none=>true | some j=>X.N[j]? == some y.2 && (X.env.scope.names.lookup y.2 == some .cell || X.env.scope.names.lookup y.2 == some .free) && (cl.lookup y.2).isSome &&
     ((O2 scope X.env).names.lookup y.2 == some .cell || (O2 scope X.env).names.lookup y.2 == some .free) && ((ownC scope C).lookup y.2).isNone)=true):BN X scope cl N cs:=by
 refine⟨clos,kind,fun y hy e=>?_,sub.get,fun C x hx=>?_,len,fun k j x hk hN=>?_⟩
 · have:=F9.mp names y hy;rw [e] at this
   simpa using this
 · rcases hx with hx | hx
   · have:=F9.mp (has C) _ (P2 hx);exact X6.mp (by simpa using this)
   · have:=F9.mp (has C) _ (P2 hx);exact X6.mp (by simpa using this)
 · have hz:(cs.zip N)[k]?=some (some j,x):=by rw [List.getElem?_zip_eq_some];exact⟨hk,hN⟩
   have all:=fun C=>by
     have:=F9.mp (cap C) _ (J7 hz);simp only [V4,Bool.or_eq_true,beq_iff_eq] at this;exact this
   obtain⟨⟨⟨⟨h1,h2⟩,h3⟩,h4⟩,_⟩:=all 0;refine⟨h1,?_,?_,X6.mp h3,h4,fun C=>Option.isNone_iff_eq_none.mp (all C).2⟩
   · rcases h2 with h2 | h2
     · exact .inr (.inl h2)
     · exact .inr (.inr h2)
   · intro z;have z':X.env.scope.names.lookup x=some .local:=z;rw [z'] at h2;rcases h2 with h2 | h2 <;> cases h2
theorem lkA {scope:Scope}{cl:List (Str×Addr)}{C:Addr}{x:Str}:(L7 (C + 1) scope.names cl).lookup x=((ownC scope C).lookup x).or (cl.lookup x):=by
 have:=DI scope.names (C + 1) [] cl;rw [List.nil_append] at this;rw [this,List.lookup_append];rfl
theorem lkK {scope:Scope}{cl:List (Str×Addr)}{C c:Addr}{x:Str}(h:(L7 (C + 1) scope.names cl).lookup x=some c):(ownC scope C).lookup x=some c\/cl.lookup x=some c:=by
 rw [lkA] at h;cases e:(ownC scope C).lookup x with
 | some d=>rw [e] at h;exact .inl h
 | none=>rw [e] at h;exact .inr h
theorem Lz {X:Cx}{scope:Scope}{cl:List (Str×Addr)}{N:List Str}{cs:List (Option Nat)}(S:BN X scope cl N cs){pins:List (Addr×Obj)}{σ:St}{H:Hp}{s:Shared}{fp:List Addr}{h₁:Heap}{tk:Nat}
   (I:Inv X pins σ H s) (f2:∀b∈fp,FpOk X pins H b) (ho:∀b∈fp,∃o,s.heap.get? b=some o)
   (old:∀b o,s.heap.get? b=some o->h₁.get? b=some o) (hns:h₁.Ns (s.heap.objs.size + 1) (fun x=>([]:List (Str×Value)).reverse.lookup x))
   (hD:h₁.get? s.heap.objs.size=some { cls:=.type "list",data:=.seq ([]:List Value).toArray }) (okC:CellsOk h₁ (s.heap.objs.size + 1 + 1) (ownC scope (s.heap.objs.size + 1))) :
   Inv (M8 X scope cl N fp (s.heap.objs.size + 1) s H) pins (d8 cs σ) (upd H s.heap.objs.size (.lst [])) { s with heap:=h₁,toks:=tk }:=by
 have lt:∀b o,s.heap.get? b=some o->b < s.heap.objs.size:=fun b o e=>B5 e;have neC:∀b o,s.heap.get? b=some o->b≠s.heap.objs.size + 1:=fun b o e=>C8 (O6 (lt b o e));have neD:∀b o,s.heap.get? b=some o->b≠s.heap.objs.size:=fun b o e=>C8 (lt b o e);have nstk:∀b,b≠X.env.locals->b∉X.fs->b∉frs X.stack:=fun b h1 h2 hb=>(C0.mp (I.stkSub b hb)).elim h1 h2
 have cellO:∀x c,cl.lookup x=some c->∃v o,s.heap.get? c=some o/\s.heap.IsCell c v:=fun x c e=>by
   obtain⟨v,q⟩:=I.cell x c (S.sub x c e);obtain⟨o,h1,_⟩:=id q;exact⟨v,o,h1,q⟩
 have ownO:∀x c,(ownC scope (s.heap.objs.size + 1)).lookup x=some c->h₁.IsCell c none/\s.heap.objs.size + 1 + 1<=c:=fun x c e=>okC.empty x c (P2 e);have cls:∀x c,(M8 X scope cl N fp (s.heap.objs.size + 1) s H).env.cells.lookup x=some c->(ownC scope (s.heap.objs.size + 1)).lookup x=some c\/cl.lookup x=some c:=fun x c e=>lkK e
 have clt:∀x c,cl.lookup x=some c->c < s.heap.objs.size:=fun x c e=>by
   obtain⟨v,o,h1,_⟩:=cellO x c e;exact lt c o h1
 have apt:∀{x y:Str} {c:Addr},(ownC scope (s.heap.objs.size + 1)).lookup x=some c->cl.lookup y=some c->False:=fun {x y c} h1 h2=>
   absurd (J4 (clt y c h2) (E8 (E8 (K9 _) (K9 _)) (ownO x c h1).2)) (P4 _)
 refine⟨⟨I.ok.mod,S.kind,I.ok.glob,I.ok.blt,K9 _,fun x y c h1 h2=>?_,fun x hx=>S.has _ x hx,fun x c hf hx=>?_,I.ok.hd,I.ok.frames,.inl rfl,fun b hb=>?_,I.bs,E8 I.ok.bsz I.sz,fun b o e hb=>?_,fun b hb=>?_,I.stack,I.stkFree,I.nos⟩,
   rfl,I.bare,Un.laid old (A8 _) I.fresh I.bigS,⟨_,hns,fun i x v e1 e2 e3=>?_⟩,fun x c e=>?_,?_,fun x c e=>?_,fun p hp=>?_,I.hok.laid old (A8 _) ⟨O7 _,[],0,.nil,hD⟩,?_⟩
 · rcases cls x c h1 with h1 | h1 <;> rcases cls y c h2 with h2 | h2
   · exact name_of_addr okC.apart (P2 h1) (P2 h2)
   · exact(apt h1 h2).elim
   · exact(apt h2 h1).elim
   · exact I.ok.inj x y c (S.sub x c h1) (S.sub y c h2)
 · obtain⟨d,hd⟩:=X6.mp hf;rcases cls x c hx with h1 | h1
   · exact E8 (E8 (K9 _) (K9 _)) (ownO x c h1).2
   · have e:(L7 (s.heap.objs.size + 1 + 1) scope.names cl).lookup x=some c:=hx;rw [lkA,hd] at e;cases e;exact E8 (E8 (K9 _) (K9 _)) (ownO x c hd).2
 · obtain⟨o,e⟩:=ho b hb;refine⟨neC b o e,fun x c ec z=>?_⟩;rcases cls x c ec with h1 | h1
   · exact absurd (J4 (lt b o e) (E8 (E8 (K9 _) (K9 _)) (z▸(ownO x c h1).2))) (P4 _)
   · exact(f2 b hb).2.2.2.2.1 x c (S.sub x c h1) z
 · rcases(f2 b hb).2.2.2.1 with z | z
   · exact I.ok.noex b o e z
   · exact absurd (J4 (B5 e) (E8 I.ok.bsz z)) (P4 _)
 · exact nstk b (f2 b hb).2.1 (f2 b hb).2.2.1
 · have e2':(cs.map fun o=>o.bind fun j=>(σ[j]?).bind id)[i]?=some (some v):=e2;rw [G6] at e2';cases ec:cs[i]? with
   | none=>rw [ec] at e2';cases e2'
   | some o =>
     rw [ec] at e2';cases o with
     | none=>cases e2'
     | some j =>
       have e2'':(σ[j]?).bind id=some v:=by simpa using e2'
       cases es:σ[j]? with
       | none=>rw [es] at e2'';cases e2''
       | some ov =>
         rw [es] at e2'';have e4:ov=some v:=by simpa using e2''
         subst e4;obtain⟨hN,hv,hnl,⟨c,hc⟩,hk,hno⟩:=S.cap i j x ec e1;obtain⟨m,hn,hl⟩:=I.loc;obtain⟨u,r,l⟩:=hl j x v hN es hv;refine⟨u,r,?_⟩;rcases l with⟨hk',_⟩ | ⟨_,c',hc',z⟩
         · exact absurd hk' hnl
         · have ecc:c'=c:=by
             have:=S.sub x c hc;rw [hc'] at this;exact D7 this
           subst ecc;obtain⟨o,h1,h2⟩:=z;exact .inr ⟨hk,c',(by show(L7 (s.heap.objs.size + 1 + 1) scope.names cl).lookup x=some c';rw [lkA,hno];exact hc),⟨o,old _ o h1,h2⟩⟩
 · rcases cls x c e with e | e
   · exact⟨none,(ownO x c e).1⟩
   · obtain⟨v,o,h1,o',h2,h3⟩:=cellO x c e;exact⟨v,o',old _ o' h2,h3⟩
 · show upd H s.heap.objs.size (.lst []) (s.heap.objs.size + 1)=none;rw [B3 (A_ _)];exact I.hok.fresh (K9 _)
 · rcases cls x c e with e | e
   · have ge:=E8 (K9 _) (ownO x c e).2;rw [B3 (b8 ge)];exact I.hok.fresh (Nat.le_of_lt ge)
   · obtain⟨v,o,h1,_⟩:=cellO x c e;rw [B3 (neD c o h1)];exact I.freeC x c (S.sub x c e)
 · obtain⟨e,n,ne,nf,d⟩:=I.pin p hp;exact⟨old _ _ e,by rw [B3 (neD _ _ e)];exact n,neC _ _ e,nstk _ ne nf,d⟩
 · show(cs.map _).length=N.length;rw [A9];exact S.len
theorem Inv.uncompK {X:Cx}{scope:Scope}{cl:List (Str×Addr)}{N:List Str}{pins:List (Addr×Obj)}{σ σ':St}{H H':Hp}{s s':Shared}{fp:List Addr}{h':Heap}
   (I:Inv X pins σ H s) (f2:∀b∈fp,FpOk X pins H b)
   (J:Inv (M8 X scope cl N fp (s.heap.objs.size + 1) s H) pins σ' H' s') (hs:∀b,b≠s.heap.objs.size + 1->h'.get? b=s'.heap.get? b) :
   Inv X pins σ H' { s' with heap:=h' }:=by
 obtain⟨hh,g,d,t,os'⟩:=s';obtain rfl:os'=s.os:=J.os;have U:Un (frs X.stack) fp H H' s.heap hh:=J.base;have old:∀b o,s.heap.get? b=some o->b≠s.heap.objs.size + 1:=fun b o e=>C8 (O6 (B5 e));have hs':∀b,b≠s.heap.objs.size + 1->h'.get? b=hh.get? b:=hs
 have trC:∀b u,H' b=some u->b≠s.heap.objs.size + 1:=fun b u e z=>by
   have q:H' (s.heap.objs.size + 1)=none:=J.free;rw [z,q] at e;cases e
 show Inv X pins σ H' { s with heap:=h',gens:=g,drawn:=d,toks:=t };refine I.call (h':=h') (g':=g) (d':=d) (t':=t) (ch:=fp) ⟨fun b o e n hb hx=>?_,fun b o e n hb hx=>?_,U.free,fun b o e hx=>?_,U.tups,U.frzs,U.tbls,U.sys⟩ (fun b u e=>?_) J.bare fun b hb=>?_
 · rw [hs' b (old b o e)];exact U.keep b o e n hb hx
 · rw [hs' b (old b o e)];exact U.slot b o e n hb hx
 · rw [hs' b (old b o e)];exact U.there b o e hx
 · refine(J.hok b u e).stay (fun c v hc q=>?_) (fun _ q=>q) fun _ _ q=>q
   have ne:c≠s.heap.objs.size + 1:=by
     rcases hc with z | z
     · rw [z];exact trC b u e
     · exact trC c _ z
   rw [hs' c ne];exact q
 · exact⟨(f2 b hb).2.2.2.1,(f2 b hb).2.1,(f2 b hb).2.2.2.2.1,(f2 b hb).2.2.2.2.2⟩
theorem LA {X:Cx}{scope:Scope}{cl:List (Str×Addr)}{N:List Str}{cs:List (Option Nat)}{elt tg iter:Expr}{ifs:List Expr}{pos:Pos}{wi:TI}{g:TG}{tt:TT}{te:TE}(S:BN X scope cl N cs)(hc:X.calm=true)(hi:PI X tg iter wi)
   (hb:∀(fp:List Addr) (C:Addr) (s:Shared) (H:Hp),PG (M8 X scope cl N fp C s H) tg g/\PIf (M8 X scope cl N fp C s H) ifs tt/\PE (M8 X scope cl N fp C s H) elt te)
   (hs:∀x,N9 iter X.env x=pure x:=by intro _;rfl) :
   PE X (.ListComp elt [⟨tg,iter,ifs,0⟩] scope pos) (CQ cs wi g tt te):=by
 intro pins s σ H Q I h;rw [eval_ListComp];refine AG (use:=none) rfl hs S.clos S.kind S.names (thn (hi pins s σ H _ I h) fun v s1 h1=>thn h1 fun itv s2 h2=>?_);obtain⟨it,fp,tn,J,H2,rfl,I2,T,st2,f2,q⟩:=h2
 have ho:∀b∈fp,∃o,s2.heap.get? b=some o:=fun b hb=>by
   obtain⟨o,e,_⟩:=T.obj 0 _ st2 b hb;exact⟨o,e⟩
 refine L6 (Lx ?_);dsimp only;have hC:(s2.heap.push { cls:=.type "list",dict:=none,data:=.seq ([]:List Value).toArray }).objs.size=s2.heap.objs.size + 1:=by rw [P3]
 generalize hH2:s2.heap.push { cls:=.type "list",dict:=none,data:=.seq ([]:List Value).toArray }=hp2 at hC ⊢;have okC:=cellsFrom_ok scope.names (hp2.push { cls:=.type "dict",data:=.dict #[] }) (s2.heap.objs.size + 1 + 1) [] ⟨fun _ _ hm=>(nomatch hm),List.Pairwise.nil⟩ (by rw [P3,hC];exact A8 _);rw [P3,hC] at okC;have hns₁:=(Heap.Ns.new hp2 (.type "dict")).keeps (pushCells_keeps scope.names _);have old:∀b o,s2.heap.get? b=some o->(pushCells (hp2.push { cls:=.type "dict",data:=.dict #[] }) scope.names).get? b=some o:=fun b o e=>pushCells_keeps _ _ b o (B6 _ (hH2▸B6 _ e));have hD:(pushCells (hp2.push { cls:=.type "dict",data:=.dict #[] }) scope.names).get? s2.heap.objs.size=some { cls:=.type "list",data:=.seq ([]:List Value).toArray }:=pushCells_keeps _ _ _ _ (B6 _ (hH2▸E6 _ rfl));generalize pushCells (hp2.push { cls:=.type "dict",data:=.dict #[] }) scope.names=h₁ at *;rw [hC] at hns₁ ⊢;obtain⟨W,⟨m0,w0⟩,turn⟩:=q s2.heap.objs.size I2.fresh;have Ic:=Lz S (tk:=s2.toks) I2 f2 ho old hns₁ hD okC;have nstk:∀b,b≠X.env.locals->b∉X.fs->b∉frs X.stack:=fun b h1 h2 hb=>(C0.mp (I2.stkSub b hb)).elim h1 h2
 have stat:∀{H':Hp},(∀b∈fp,H' b=none)->∀b∈fp,FpOk (M8 X scope cl N fp (s2.heap.objs.size + 1) s2 H2) pins H' b:=fun hn b hb=>by
   obtain⟨o,e⟩:=ho b hb;exact⟨hn b hb,C8 (O6 (B5 e)),nstk b (f2 b hb).2.1 (f2 b hb).2.2.1,.inl hb,fun x c ec=>(Ic.ok.exf b hb).2 x c ec,(f2 b hb).2.2.2.2.2⟩
 obtain⟨hg,hf,he⟩:=hb fp (s2.heap.objs.size + 1) s2 H2;have st1:tn 0 h₁:=T.keep _ _ _ st2 fun b hb o e=>old b o e
 have fr1:∀b∈fp,upd H2 s2.heap.objs.size (.lst []) b=none:=fun b hb=>by
   obtain⟨o,e⟩:=ho b hb;rw [B3 (C8 (B5 e))];exact(f2 b hb).1
 have loop:∀s₃:Shared,s₃={ s2 with heap:=h₁ }->
     L8 (model X.prog X.w) X.A (.compLoop (.ListComp elt [⟨tg,iter,ifs,0⟩] scope pos) 0 (.ref it) (.ref s2.heap.objs.size) (compEnvC scope (L7 (s2.heap.objs.size + 1 + 1) scope.names cl) (s2.heap.objs.size + 1) X.env))
       (compPost (model X.prog X.w) X.A X.xe none (EP X pins σ Q) (.ref s2.heap.objs.size) (s2.heap.objs.size + 1)) s₃:=by
   rintro s₃ rfl;refine CP (fun n s'=>∃i σ' H',Inv (M8 X scope cl N fp (s2.heap.objs.size + 1) s2 H2) pins σ' H' s'/\tn i s'.heap/\(∀b∈fp,H' b=none)/\W i n σ' H') ?_ m0 ⟨0,_,_,Ic,st1,fr1,w0⟩;rintro n s3 ⟨i,σ3,H3,I3,st3,fr3,w3⟩;rcases turn i n σ3 H3 w3 with⟨stop,qn⟩ | ⟨go,step⟩
   · refine thn (T.done (M8 X scope cl N fp (s2.heap.objs.size + 1) s2 H2) rfl rfl rfl hc i pins s3 σ3 H3 (fun _ _=>False) I3 (stat fr3) st3 stop) fun r s4 ⟨hr,I4⟩=>?_;subst hr;obtain⟨m4,hn4,_⟩:=I4.loc;exact⟨m4,hn4,fun h' hs'=>⟨.ref s2.heap.objs.size,H3,Inv.uncompK I2 f2 I4 fun b hb=>hs'.2 b hb,rfl,qn⟩⟩
   · refine thn (T.item (M8 X scope cl N fp (s2.heap.objs.size + 1) s2 H2) rfl rfl rfl hc i pins s3 σ3 H3 (fun _ _=>False) I3 (stat fr3) st3 go) fun r s4 ⟨u,hr,h4⟩=>?_;subst hr;refine thn h4 fun _ s5 ⟨x,H5,I5,r5,y5,st5,fr5⟩=>?_;have I5':=I5.pinned (stat fr5) (T.obj _ _ st5);refine thn (hg _ s5 σ3 H5 x u _ I5' r5 (step x H5 y5)) fun _ s6 ⟨σ6,H6,I6,q6⟩=>?_
     have again:∀{σ7:St} {H7:Hp} {s7:Shared},Inv (M8 X scope cl N fp (s2.heap.objs.size + 1) s2 H2) (pins++N4 fp s5.heap) σ7 H7 s7->(∃m',m' < n/\W (i + 1) m' σ7 H7)->
         ∃m,m < n/\∃i σ' H',Inv (M8 X scope cl N fp (s2.heap.objs.size + 1) s2 H2) pins σ' H' s7/\tn i s7.heap/\(∀b∈fp,H' b=none)/\W i m σ' H':=fun {σ7 H7 s7} I7 n7=>by
       obtain⟨m',hm,w7⟩:=n7;refine⟨m',hm,i + 1,σ7,H7,I7.unpinned,T.keep _ _ _ st5 fun b hb o e=>(I7.pin (b,o) (F6 _ (F6 _ (P6 hb e)))).1,fun b hb=>?_,w7⟩;obtain⟨o,e,d⟩:=T.obj _ _ st5 b hb;exact(I7.pin (b,o) (F6 _ (F6 _ (P6 hb e)))).2.1
     refine thn (hf _ s6 σ6 H6 _ I6 q6) fun ok s7 ⟨H7,I7,q7⟩=>?_;cases ok with
     | false=>exact again I7 q7
     | true =>
       refine thn (he _ s7 σ6 H7 _ I7 q7) fun y s8 ⟨v8,H8,I8,r8,ys,e8,z8,n8⟩=>?_
       have ma:=Aa (X:=M8 X scope cl N fp (s2.heap.objs.size + 1) s2 H2) _ s8 σ6 H8 (.ref s2.heap.objs.size) [v8] (.ref s2.heap.objs.size) [y]
         (fun v H9=>∃m',m' < n/\W (i + 1) m' σ6 H9) I8 rfl (.cons r8 .nil) ⟨_,ys,v8,rfl,rfl,e8,z8,n8⟩
       exact thn ma fun _ s9 ⟨v9,H9,I9,_,q9⟩=>again I9 q9
 exact AI (loop _ rfl) (T.self _ 0 _ _ _ st1 (loop _ rfl))
end L2
namespace Pu
open PySem PySem.Spec L2
section
variable {T:PotK}{ι:Type}{K:A3}{F:ι->Cx}{e a b c:Expr}{es rest:List Expr}{pe pa pb pc:pE}{pos:Pos}{pl pr:pA}{pg:pG}{pgs:pGs}{pt:pT}
theorem LB {scope:Scope}{cl:ι->List (Str×Addr)}{N:List Str}{cs:List (Option Nat)}{elt tg iter:Expr}{ifs:List Expr}{pi:pA}{ptt:pT}{pte:pE}(S:∀z,BN (F z) scope (cl z) N cs)(hc:∀z,(F z).calm=true)(hi:QI T K F tg iter pi)
   (hg:QG K (fun y:ι×List Addr×Addr×Shared×Hp=>M8 (F y.1) scope (cl y.1) N y.2.1 y.2.2.1 y.2.2.2.1 y.2.2.2.2) tg pg) (ht:QIf T K (fun y:ι×List Addr×Addr×Shared×Hp=>M8 (F y.1) scope (cl y.1) N y.2.1 y.2.2.1 y.2.2.2.1 y.2.2.2.2) ifs ptt)
   (he:QE T K (fun y:ι×List Addr×Addr×Shared×Hp=>M8 (F y.1) scope (cl y.1) N y.2.1 y.2.2.1 y.2.2.2.1 y.2.2.2.2) elt pte)
   (hs:∀z x,N9 iter (F z).env x=pure x:=by intro _ _;rfl):QN T K F (.ListComp elt [⟨tg,iter,ifs,0⟩] scope pos) (P0 cs pi pg ptt pte):=by
 obtain⟨wi,i1,i2⟩:=hi;obtain⟨g,hg0,hg⟩:=hg;obtain⟨tt,ht0,ht⟩:=ht;obtain⟨te,he0,he⟩:=he;refine⟨_,fun z=>LA (S z) (hc z) (i1 z) (fun fp C s H=>⟨hg0 (z,fp,C,s,H),ht0 (z,fp,C,s,H),he0 (z,fp,C,s,H)⟩) (hs z),fun C G σ H env n R Q hK hT S hp k=>?_⟩;refine i2 C G σ H env n _ _ hK hT S hp fun xs env1 n1 J H1 p1 S1 f1 hJ=>?_;intro D hD;have hDM:=S1.fresh hD;refine Dg (G:=G) hg ht he hJ p1.1 hD (hT▸hK▸By S1 cs) p1.2 fun ys n2 us H' rr hpots hk eD ry=>?_
 -- the heap without D
 have nD:∀b o,H1 b=some o->b≠D:=fun b o e z=>by rw [z,hD] at e;cases e
 have hD0:C.H0 D=none:=by
   cases z:C.H0 D with
   | none=>rfl
   | some o =>
     by_cases hp:D∈C.pots0
     · exact absurd (S1.sup D (S1.p0.1 D hp)) hDM
     · have:=S1.frame D o hp z;rw [hD] at this;cases this
 have hk2:∀b o,b∉G.pots->H1 b=some o->cutH H' D b=some o:=fun b o hb e=>by rw [L5 (nD b o e)];exact hk b o hb e
 have nc:∀b,b∉D::G.M->b≠D:=fun b hb z=>hb (by rw [z];exact F4);have np:∀p∈G.pots,p≠D:=fun p hp z=>hDM (z▸(S1.pots p hp).1)
 have Sb:SR C G σ (cutH H' D) env1 n2:=S1.call hk2 fun p hp=>by
   subst hT;have h2:=C.T.keep (hpots p hp) (H':=cutH H' D) (L5 (np p hp)) fun b o hb e=>by rw [L5 (nc b hb)];exact e
   exact C.T.more h2 fun a ha=>.inl (D0 _ ha)
 have:=k ys env1 n2 D us (cutH H' D) rr Sb (f1.trans fun b o hb e=>hk2 b o (fun z=>hb (S1.pots b z).1) e) (by unfold cutH;rw [if_pos rfl]) ?_
 · rw [Bz eD] at this;exact this
 · exact Reps.mono (G:=⟨D::G.M,G.pots⟩) (fun b o hb e=>by rw [L5 (nc b hb)];exact e) (fun a ha=>.inl (D0 _ ha)) (fun _ _ e=>e) _ _ ry
end
end Pu
end
section
namespace L2
open PySem PySem.Spec PyProof.Rows
def Gy:R2:=fun y x H Q=>∃a o,x=.ref a/\DGet H a y o/\Q (.bl (!o.isSome)) H
theorem Gz {X:Cx}(hu:X.A.units + 1 < cLine):OpR X (G5 .NotIn) Gy:=by
 intro pins s σ H x y v u Q I rx ry h;obtain⟨a,o,rfl,g,q⟩:=h;cases ry;exact KD hu I g rx fun s3 I3=>⟨.bl (!o.isSome),H,I3,rfl,q⟩
end L2
namespace Pu
open PySem PySem.Spec L2
section
variable {T:PotK}{np:Bool}{ι:Type}{K:A3}{F:ι->Cx}{a b:Expr}{st:Stmt}{pa pb:pE}{pos:Pos}
def W6 (i:Nat)(pa:pE):pE:=fun env n R=>pa env n fun x env1 n1=>match env1[i]?,keyV x with
 | some (some (.ow (.dk ks) xs)),some k=>ks.length=xs.length/\R (.bl (!memK ks k)) env1 n1
 | _,_=>False
theorem GA {t:TE}(i:Nat)(h2:EOk K T t pa):EOk K T (tOp Gy t (tVar i)) (W6 i pa):=fun C G σ H env n R Q hK hT S hp k=>by
 refine h2 C G σ H env n _ _ hK hT S hp fun x env1 n1 v H1 q1 S1 r1 f1=>?_
 split at q1
 · rename_i ks xs kk ex ek;obtain⟨a,vs,ev,g1,g2,g3,g4,r'⟩:=S1.slots i _ ex;obtain⟨hl,q1⟩:=q1
   have e:(valV (ks.zip vs) kk).isSome=memK ks kk:=by
     rw [KQ,List.map_fst_zip (by rw [hl,r'.length];exact A8 _)]
   refine⟨.ref a,ev,a,valV (ks.zip vs) kk,rfl,BJ r1 ek▸DGet.k g4,?_⟩;rw [e];exact k _ _ _ _ _ q1 S1 rfl f1
 · exact q1.elim
theorem LC (i:Nat){x:Str}{p:Pos}{k:Nat}(hr:∀z,Room k (F z).A)(hv:∀z,EW (F z) (.Name x p) (tVar i))(ha:QE T K F a pa):QE T K F (.Compare a [.NotIn] [.Name x p] pos) (W6 i pa):=by
 obtain⟨t,h1,h2⟩:=ha;exact⟨_,fun z=>CF (Gz (CO (hr z))) (h1 z) (hv z).h rfl,GA i h2⟩
theorem LD (i:Nat){x:Str}{p:Pos}{k:Nat}(hr:∀z,Room k (F z).A)(hv:∀z,EW (F z) (.Name x p) (tVar i))(ha:QE T K F a pa):QT T K F (.Compare a [.NotIn] [.Name x p] pos) (qB (W6 i pa)):=by
 obtain⟨t,h1,h2⟩:=ha;exact⟨_,fun z=>y9 (Gz (CO (hr z))) (h1 z) (hv z).h rfl,Bt (GA i h2)⟩
def DJ (i j:Nat)(m:Int):pS:=fun D env n=>D.nx ((env.set i (some (.ow (.dk []) []))).set j (some (.v (.int m)))) n
theorem LE (i j:Nat){m:Int}{q:Nat}{p2:Pos}(h:∀z ta,AW (F z) [.Dict [] [] pos,.Constant (.int m) q p2] ta->SW (F z) st (tPar i j ta)):QS T np K F st (DJ i j m):=by
 refine⟨_,fun z=>(h z _ ⟨C6 JG (C6 D1 E9 (B2 rfl)) (B2 rfl)⟩).h,fun C G σ H env n PD D hK hT hn S hp L=>?_⟩;intro p hn1;refine⟨.ref p,.int m,rfl,?_⟩;exact L.nx _ _ _ _ _ hp ((S.ow i (.dk []) (xs:=[]) (vs:=[]) hn1 rfl).set j rfl) (Ak hn1)
end
end Pu
end
section
namespace Tb
open PySem L2 Pu
abbrev K1:pF:=t9
def GB:pS:=(qSeq (qSet 2 (qC (.str (C1 "abcdefghijklmnopqrstuvwxyz"))))
   (qSeq (qPar 3 4 (sV (B4 K1 (A0 (qV 0) (A0 (qC (.int 26)) qNil)))) (sV (qOp wIx (qL (qLst (A0 (qC (.int 1)) (A0 (qC (.int 3)) (A0 (qC (.int 5)) (A0 (qC (.int 7)) (A0 (qC (.int 9)) (A0 (qC (.int 11)) (A0 (qC (.int 15)) (A0 (qC (.int 17)) qNil)))))))))) (B4 K1 (A0 (qV 0) (A0 (qC (.int 8)) qNil))))))
   (qSeq (qPar 5 6 (sV (B4 K1 (A0 (qV 0) (A0 (qC (.int 2)) qNil)))) (sV (qC (.str (C1 "")))))
   (qSeq (qFor (d9 (B4 K1 (A0 (qV 0) (A0 (qC (.int 8)) qNil)))) (gN 7) (qSet 6 (qOp wAdd (qV 6) (qOp wIx (qV 2) (B4 K1 (A0 (qV 0) (A0 (qC (.int 26)) qNil)))))))
   (qSeq (qOwn 8 (qLst qNil))
   (qSeq (qFor (d9 (qV 1)) (gN 7) (qSeq (qSet 9 (qOp wIx (qV 2) (qOp wMod (qOp wAdd (qV 3) (qOp wMul (qV 4) (qV 7))) (qC (.int 26)))))
   (qSeq (qSet 10 (qSl (qV 6) qNo (M5 (qOp wMod (qOp wAdd (qOp wMul (qV 7) (qV 4)) (qV 3)) (qOp wAdd (qUn wLen (qV 6)) (qC (.int 1)))))))
   (Q5 (BK 8 (B4 K1 (A0 (qV 0) (A0 (qOp wAdd (qV 7) (qC (.int 1))) qNil))) (qOp wIx (qL (qLst (A0 (qOp wAdd (qV 10) (qV 9)) (A0 (qOp wAdd (qV 9) (qV 10)) qNil)))) (qV 5)))))))
   (qSeq (qFor (d9 (qOp wIx (qL (qLst (A0 (qC (.int 0)) (A0 (qC (.int 0)) (A0 (qC (.int 0)) (A0 (qC (.int 1)) (A0 (qC (.int 2)) qNil))))))) (B4 K1 (A0 (qV 0) (A0 (qC (.int 5)) qNil))))) (gN 7) (qSeq (qSet 11 (qOp wIx (qL (qLst (A0 (qC (.str (C1 "drop"))) (A0 (qC (.str (C1 "touch"))) (A0 (qC (.str (C1 "none"))) (A0 (qC (.str (C1 "d"))) (A0 (qC (.str (C1 "u"))) (A0 (qC (.str (C1 "t"))) (A0 (qC (.str (C1 "o"))) qNil))))))))) (B4 K1 (A0 (qV 0) (A0 (qC (.int 7)) qNil)))))
   (qIfS (qB (qOp (wIn 4 true) (qV 11) (qO 8))) (qPut 8 (qV 11) (B4 K1 (A0 (qV 0) (A0 (qV 1) qNil)))) qNx)))
   (qRet (qUn T3 (qO 8))))))))))
def DK:pF:=fnP ["_law_pot","_law_many","_law_letters","_law_first","_law_step","_law_ahead","_law_stem","_law_k","_law_boats_here","_law_sign","_law_part","_law_word"] ["_law_pot","_law_many"] GB
def GC:pS:=(qRet (qOp (wEq 4) (qOp wIx (qV 0) (qC (.int 1))) (qC (.int 0))))
def BO:pF:=fnP ["meeting"] ["meeting"] GC
def GE:pS:=(qRet (O8 (qOp wLe (qV 1) (qOp wIx (qV 0) (qC (.int 0)))) (qOp wLe (qV 1) (qOp wAdd (qOp wIx (qV 0) (qC (.int 1))) (qC (.int 2))))))
def BP:pF:=fnP ["meeting","n"] ["meeting","n"] GE
def GF:pS:=(qSeq (qSet 2 (qL (P0 [none,some 1] (qIt (qV 0)) (gN 0) qTru (K5 (qV 1) (qV 0)))))
   (qRet (qUn wLen (qL (Dz [none,none,none,some 2] (Bw (qV 2)) (gTp 2 (gCn (gN 0) (gCn (gN 1) gNl))) (qIl (qSl (qV 3) (M5 (qOp wAdd (qV 0) (qC (.int 1)))) qNo)) (gN 2) (qB (qOp wLt (qV 2) (qV 1))) (qC (.int 1)))))))
def BQ:pF:=fnP ["row","other","goals"] ["row","other"] GF
def GG:pS:=(qSeq (qOwn 3 (Ah (qV 0)))
   (qSeq (At 3 (qOp wIx (qV 0) (qV 2)) (qOp wIx (qV 0) (qV 1)) (qV 1) (qV 2))
   (qRet (qUn T3 (qO 3)))))
def Ay:pF:=fnP ["row","one","other","boats"] ["row","one","other"] GG
def GH:pS:=(qSeq (qSet 2 (qV 0))
   (qSeq (qOwn 3 (qLst qNil))
   (qSeq (qFor (BI (qV 1)) (gTp 2 (gCn (gN 4) (gCn (gN 5) gNl))) (qFor (DG (qV 4) (K5 (qV 2) (qV 5))) (gN 6) (qSeq (Q5 (An 3 (qTup (A0 (qV 5) (A0 (qOp wIx (qV 2) (qV 6)) qNil)))))
   (qSet 2 (B4 Ay (A0 (qV 2) (A0 (qV 6) (A0 (qOp wAdd (qV 6) (qC (.int 1))) qNil))))))))
   (qRet (qUn T3 (qO 3))))))
def DL:pF:=fnP ["row","other","stands","touches","place","boat","q"] ["row","other"] GH
def GI:pS:=(qSeq (qSet 2 (qV 0))
   (qSeq (qOwn 3 (qLst qNil))
   (qSeq (qFor (BI (qV 1)) (gTp 2 (gCn (gN 4) (gCn (gN 5) gNl))) (qIfS (qB (qOp (wNe 4) (qOp wIx (qV 2) (qV 4)) (qV 5))) (qSeq (Q5 (An 3 (qTup (A0 (qV 5) (A0 (qOp wIx (qV 2) (qV 4)) qNil)))))
   (qSet 2 (B4 Ay (A0 (qV 2) (A0 (qV 4) (A0 (K5 (qV 2) (qV 5)) qNil)))))) qNx))
   (qRet (qUn T3 (qO 3))))))
def DM:pF:=fnP ["row","other","stands","touches","place","boat"] ["row","other"] GI
def GJ:pS:=(qSeq (Dy 2)
   (qSeq (qSet 3 (qC (.int 0)))
   (qSeq (qFor (qIt (qV 0)) (gN 4) (qSeq (qIfS (qB (qInS true 2 (qV 4))) (qAug 3 Dp (qC (.int 1))) qNx)
   (qSeq (qSet 5 (qV 4))
   (q8 (qB (qInS true 2 (qV 5))) (qSeq (Q5 (u4 2 (qV 5)))
   (qSet 5 (qOp wIx (qV 1) (K5 (qV 0) (qV 5)))))))))
   (qRet (qV 3)))))
def Az:pF:=fnP ["row","other","seen","many","boat","at"] ["row","other"] GJ
def GK:pS:=(qSeq (qIfS (qB (B4 BO (A0 (qV 0) qNil))) (qRet (qTup (A0 (B4 BQ (A0 (qV 1) (A0 (qV 2) qNil))) (A0 (B4 DL (A0 (qV 1) (A0 (qV 2) qNil))) (A0 (qTup (A0 (qC (.str (C1 "pairs"))) qNil)) qNil))))) qNx)
   (qSeq (qIfS (qB (B4 BP (A0 (qV 0) (A0 (qUn wLen (qV 1)) qNil)))) (qRet (qTup (A0 (qOp wSub (qUn wLen (qV 1)) (B4 Az (A0 (qV 1) (A0 (qV 2) qNil)))) (A0 (B4 DM (A0 (qV 1) (A0 (qV 2) qNil))) (A0 (qTup (A0 (qC (.str (C1 "rounds"))) qNil)) qNil))))) qNx)
   Ax))
def AB:pF:=fnP ["meeting","row","other","numbers","table"] ["meeting","row","other"] GK
def GL:pS:=(qSeq (qSet 2 (qOp wIx (qV 1) (qC (.int 1))))
   (qSeq (qIfS (qB (qOp (wEq 4) (qV 2) (qTup qNil))) (qRet (qTup (A0 (qC (.int 1)) (A0 (qTup qNil) (A0 (qOp wIx (qV 1) (qC (.int 2))) qNil))))) qNx)
   (qSeq (qSet 3 (B4 K1 (A0 (qV 0) (A0 (qUn wLen (qV 2)) qNil))))
   (qSeq (qOwn 4 (qLst (A0 (qOp wAdd (qOp wAdd (qSl (qV 2) qNo (M5 (qV 3))) (qSl (qV 2) (M5 (qV 3)) (M5 (qOp wAdd (qV 3) (qC (.int 1)))))) (qSl (qV 2) (M5 (qV 3)) qNo)) (A0 (qOp wAdd (qSl (qV 2) qNo (M5 (qV 3))) (qSl (qV 2) (M5 (qOp wAdd (qV 3) (qC (.int 1)))) qNo)) qNil))))
   (qSeq (Q5 (An 4 (qOp wAdd (qSl (qV 2) (M5 (qC (.int 1))) qNo) (qSl (qV 2) qNo (M5 (qC (.int 1)))))))
   (qSeq (qSet 2 (qOpR wIx (qO 4) (B4 K1 (A0 (qV 0) (A0 (qC (.int 3)) qNil)))))
   (qRet (qTup (A0 (qUn wLen (qV 2)) (A0 (qV 2) (A0 (qOp wIx (qV 1) (qC (.int 2))) qNil)))))))))))
def DN:pF:=fnP ["_law_pot","_law_thing","_law_touches","_law_at","_law_some"] ["_law_pot","_law_thing"] GL
def GM:pS:=(qRet (O8 (qUn (wIsi "str") (qV 0)) (qOp (wEq 4) (qV 0) (qV 1))))
def BR:pF:=fnP ["thing","text"] ["thing","text"] GM
def GN:pS:=(qSeq (qIfS (qOr (qNot (qB (qUn (wIsi "tuple") (qV 4)))) (qNot (qB (Y6 wLe wLe (qC (.int 1)) (qUn wLen (qV 4)) (qC (.int 2)))))) (qRet (qC (.bl false))) qNx)
   (qSeq (qSet 5 (qUn wLen (qV 1)))
   (qSeq (qIfS (qB (qOp (wEq 4) (qUn wLen (qV 4)) (qC (.int 2)))) Ax qNx)
   (qSeq (qIfS (qB (B4 BR (A0 (qOp wIx (qV 4) (qC (.int 0))) (A0 (qC (.str (C1 "pairs"))) qNil)))) (qRet (O8 (B4 BO (A0 (qV 0) qNil)) (qOp (wEq 4) (qV 3) (B4 BQ (A0 (qV 1) (A0 (qV 2) qNil)))))) qNx)
   (qRet (O8 (B4 BR (A0 (qOp wIx (qV 4) (qC (.int 0))) (A0 (qC (.str (C1 "rounds"))) qNil))) (O8 (B4 BP (A0 (qV 0) (A0 (qV 5) qNil))) (qOp (wEq 4) (qV 3) (qOp wSub (qV 5) (B4 Az (A0 (qV 1) (A0 (qV 2) qNil))))))))))))
def DO:pF:=fnP ["meeting","row","other","many","thing","n"] ["meeting","row","other","many","thing"] GN
def GO:pS:=(qSeq (qSet 2 (qOp wIx (qV 0) (qC (.int 0))))
   (qRet (qOp Bn (qOp wSub (qOp wAdd (qV 1) (qV 2)) (qC (.int 1))) (qV 2))))
def DP:pF:=fnP ["meeting","n","size"] ["meeting","n"] GO
def GP:pS:=(qSeq (qSet 3 (qOp wIx (qV 0) (qC (.int 0))))
   (qSeq (qSet 4 (qOp wMul (qV 2) (qV 3)))
   (qRet (qTup (A0 (qV 4) (A0 (qOp wMin (qOp wAdd (qV 4) (qV 3)) (qOp wSub (qV 1) (qC (.int 1)))) qNil))))))
def DQ:pF:=fnP ["meeting","n","k","size","first"] ["meeting","n","k"] GP
def GQ:pS:=(qSeq (qOwn 2 (qLst qNil))
   (qSeq (qFor (d9 (B4 DP (A0 (qV 0) (A0 (qV 1) qNil)))) (gN 3) (qSeq (qAsg (B4 DQ (A0 (qV 0) (A0 (qV 1) (A0 (qV 3) qNil)))) (gTp 2 (gCn (gN 4) (gCn (gN 5) gNl))))
   (qFor (Bv (qV 4) (qV 5)) (gN 6) (qSeq (qSet 7 (qOp wMin (qOp wAdd (qOp wAdd (qV 6) (qC (.int 1))) (qOp wIx (qV 0) (qC (.int 1)))) (qV 5)))
   (Do 2 (qL (P0 [none,some 6] (Bv (qOp wAdd (qV 6) (qC (.int 1))) (qOp wAdd (qV 7) (qC (.int 1)))) (gN 0) qTru (qTup (A0 (qV 1) (A0 (qV 0) qNil))))))))))
   (qRet (qUn T3 (qO 2)))))
def BS:pF:=fnP ["meeting","n","pairs","k","first","last","p","furthest"] ["meeting","n"] GQ
def GR:pS:=(qSeq (qSet 4 (B4 BS (A0 (qV 0) (A0 (qUn wLen (qV 1)) qNil))))
   (qSeq (qSet 5 (qV 1))
   (qSeq (qFor (qIt (qV 3)) (gTp 2 (gCn (gN 6) (gCn (gN 7) gNl))) (qSeq (qPar 8 9 (sV (K5 (qV 5) (qV 7))) (sV (K5 (qV 5) (qV 6))))
   (qSeq (qIfS (qB (qOp (wIn 4 true) (qTup (A0 (qV 8) (A0 (qV 9) qNil))) (qV 4))) (qRet (qC (.bl false))) qNx)
   (qSet 5 (B4 Ay (A0 (qV 5) (A0 (qV 8) (A0 (qV 9) qNil))))))))
   (qRet (qOp (wEq 4) (qV 5) (qV 2))))))
def DR:pF:=fnP ["meeting","row","other","pairs","places","stands","x","y","ahead","behind"] ["meeting","row","other","pairs"] GR
def GS:pS:=(qSeq (qIfS (qOr (qNot (qB (qUn (wIsi "str") (qV 0)))) (qNot (qB (Y6 wLe wLe (qC (.int 1)) (qUn wLen (qV 0)) (qC (.int 8)))))) (qRet (qC (.bl false))) qNx)
   (qRet (qUn wAll (qL (P0 [none] (qIs (qV 0)) (gN 0) qTru (Y6 wLe wLe (qC (.str (C1 "a"))) (qV 0) (qC (.str (C1 "z")))))))))
def DS:pF:=fnP ["thing"] ["thing"] GS
def GT:pS:=(qSeq (qIfS (qOr (qNot (qB (qUn (wIsi "tuple") (qV 1)))) (qB (qOp (wNe 4) (qUn wLen (qV 1)) (qC (.int 2))))) (qRet (qC (.bl false))) qNx)
   (qRet (qUn wAll (qL (P0 [none,some 0] (qIt (qV 1)) (gN 0) qTru (O8 (B4 DS (A0 (qV 0) qNil)) (qOp (wIn 4 false) (qV 0) (qV 1))))))))
def DT:pF:=fnP ["row","thing"] ["row","thing"] GT
def GU:pS:=(qSeq (qIfS (qOr (qNot (qB (qUn (wIsi "tuple") (qV 3)))) (qNot (qB (qUn wAll (qL (P0 [none,some 1] (qIt (qV 3)) (gN 0) qTru (B4 DT (A0 (qV 1) (A0 (qV 0) qNil))))))))) (qRet (qC (.bl false))) qNx)
   (qRet (B4 DR (A0 (qV 0) (A0 (qV 1) (A0 (qV 2) (A0 (qV 3) qNil)))))))
def DU:pF:=fnP ["meeting","row","other","thing"] ["meeting","row","other","thing"] GU
def GV:pS:=(qSeq (qIfS (qOr (qNot (qB (qUn (wIsi "int") (qV 0)))) (qB (qUn (wIsi "bool") (qV 0)))) (qRet (qC (.bl false))) qNx)
   (qRet (Y6 wLe wLe (qV 1) (qV 0) (qV 2))))
def DV:pF:=fnP ["thing","low","high"] ["thing","low","high"] GV
def GX:pS:=(qSeq (qIfS (qOr (qNot (qB (qUn (wIsi "tuple") (qV 3)))) (qB (qOp (wNe 4) (qUn wLen (qV 3)) (qC (.int 3))))) (qRet (qC (.bl false))) qNx)
   (qSeq (qAsg (qV 3) (gTp 3 (gCn (gN 4) (gCn (gN 5) (gCn (gN 6) gNl)))))
   (qSeq (qIfS (qOr (qNot (qB (B4 DU (A0 (qV 0) (A0 (qV 1) (A0 (qV 2) (A0 (qV 5) qNil))))))) (qNot (qB (B4 DV (A0 (qV 4) (A0 (qUn wLen (qV 5)) (A0 (qUn wLen (qV 5)) qNil))))))) (qRet (qC (.bl false))) qNx)
   (qRet (B4 DO (A0 (qV 0) (A0 (qV 1) (A0 (qV 2) (A0 (qV 4) (A0 (qV 6) qNil))))))))))
def BT:pF:=fnP ["meeting","row","other","thing","many","touches","paper"] ["meeting","row","other","thing"] GX
def GY:pS:=(qSeq (qPar 2 3 (sV (B4 K1 (A0 (qV 0) (A0 (qC (.int 6)) qNil)))) (sV (qUn wLen (qV 1))))
   (qSeq (qIfS (qB (qOp wLt (qV 2) (qC (.int 3)))) (qSeq (qOwn 4 (qLst qNil))
   (qSeq (qFor (qIt (qV 1)) (gN 5) (Q5 (BK 4 (B4 K1 (A0 (qV 0) (A0 (qOp wAdd (qUn wLen (qO 4)) (qC (.int 1))) qNil))) (qV 5))))
   (qRet (qUn T3 (qO 4))))) qNx)
   (qSeq (qPar 6 7 (sV (B4 K1 (A0 (qV 0) (A0 (qV 3) qNil)))) (sV (B4 K1 (A0 (qV 0) (A0 (qV 3) qNil)))))
   (qSeq (qOwn 4 (Ah (qV 1)))
   (qSeq (At 4 (qOp wIx (qV 1) (qV 7)) (qOp wIx (qV 1) (qV 6)) (qV 6) (qV 7))
   (qRet (qOp wIx (qL (qLst (A0 (qUn wRev (qV 1)) (A0 (qOp wAdd (qSl (qV 1) (M5 (qUn wNeg (qC (.int 1)))) qNo) (qSl (qV 1) qNo (M5 (qUn wNeg (qC (.int 1)))))) (A0 (qUn T3 (qO 4)) qNil))))) (qOp wSub (qV 2) (qC (.int 3))))))))))
def DW:pF:=fnP ["_law_pot","_law_row","_law_way","_law_n","_law_boats_here","_law_boat","_law_p","_law_q"] ["_law_pot","_law_row"] GY
def GZ:pS:=(qSeq (qSet 2 (qL (P0 [none,some 1] (qIt (qV 0)) (gN 0) qTru (K5 (qV 1) (qV 0)))))
   (qRet (qUn wSum (qL (P0 [none,none,some 2] (Bw (qV 2)) (gTp 2 (gCn (gN 0) (gCn (gN 1) gNl))) qTru (qUn wLen (qL (P0 [none,some 1] (qIl (qSl (qV 2) (M5 (qV 0)) qNo)) (gN 0) (qB (qOp wLt (qV 0) (qV 1))) (qC (.int 1))))))))))
def DX:pF:=fnP ["_law_row","_law_other","_law_places"] ["_law_row","_law_other"] GZ
def G_:pS:=(qSeq (DJ 2 3 0)
   (qSeq (qFor (qIt (qV 0)) (gN 4) (qSeq (qSet 3 (qOp wAdd (qV 3) (qUn wInt (W6 2 (qV 4)))))
   (qSeq (qSet 5 (qV 4))
   (q8 (qB (W6 2 (qV 5))) (qSeq (u3 2 (qV 5) (qC (.bl true)))
   (qSet 5 (qOp wIx (qV 1) (K5 (qV 0) (qV 5)))))))))
   (qRet (qV 3))))
def AC:pF:=fnP ["_law_row","_law_other","_law_met","_law_many","_law_start","_law_boat"] ["_law_row","_law_other"] G_
def Ha:pS:=(qSeq (qSet 5 (qUn wLen (qV 1)))
   (qSeq (qIfS (qOr (qNot (qB (qUn (wIsi "tuple") (qV 4)))) (qOr (qB (qOp (wIn 4 true) (qUn wLen (qV 4)) (qTup (A0 (qC (.int 1)) (A0 (qC (.int 2)) qNil))))) (qNot (qB (qUn (wIsi "str") (qOp wIx (qV 4) (qC (.int 0)))))))) (qRet (qC (.bl false))) qNx)
   (qSeq (qIfS (qB (qOp (wEq 4) (qUn wLen (qV 4)) (qC (.int 2)))) Ax qNx)
   (qSeq (qIfS (qB (qOp (wEq 4) (qOp wIx (qV 4) (qC (.int 0))) (qC (.str (C1 "pairs"))))) (qRet (O8 (qOp (wEq 4) (qOp wIx (qV 0) (qC (.int 1))) (qC (.int 0))) (qOp (wEq 4) (qV 3) (B4 DX (A0 (qV 1) (A0 (qV 2) qNil)))))) qNx)
   (qRet (O8 (qOp (wEq 4) (qOp wIx (qV 4) (qC (.int 0))) (qC (.str (C1 "rounds")))) (O8 (qOp wLe (qV 5) (qOp wMin (qOp wIx (qV 0) (qC (.int 0))) (qOp wAdd (qOp wIx (qV 0) (qC (.int 1))) (qC (.int 2))))) (qOp (wEq 4) (qV 3) (qOp wSub (qV 5) (B4 AC (A0 (qV 1) (A0 (qV 2) qNil))))))))))))
def DY:pF:=fnP ["_law_meeting","_law_row","_law_other","_law_many","_law_paper","_law_n"] ["_law_meeting","_law_row","_law_other","_law_many","_law_paper"] Ha
def Hc:pS:=(qSeq (qOwn 3 (Ah (qV 0)))
   (qSeq (At 3 (qOp wIx (qV 0) (qV 2)) (qOp wIx (qV 0) (qV 1)) (qV 1) (qV 2))
   (qRet (qUn T3 (qO 3)))))
def DZ:pF:=fnP ["_law_row","_law_p","_law_q","_law_boats_here"] ["_law_row","_law_p","_law_q"] Hc
def Hd:pS:=(qRet (O8 (qOp wLt (qV 1) (qV 2)) (O8 (qOp wLe (qOp wSub (qOp wSub (qV 2) (qV 1)) (qC (.int 1))) (qOp wIx (qV 0) (qC (.int 1)))) (qOp wLe (qV 2) (qOp wAdd (qOp wMul (qOp Bn (qV 1) (qOp wIx (qV 0) (qC (.int 0)))) (qOp wIx (qV 0) (qC (.int 0)))) (qOp wIx (qV 0) (qC (.int 0))))))))
def D_:pF:=fnP ["_law_meeting","_law_p","_law_q"] ["_law_meeting","_law_p","_law_q"] Hd
def He:pS:=(qSeq (qIfS (qNot (qB (qUn (wIsi "tuple") (qV 2)))) (qRet (qC .non)) qNx)
   (qSeq (qFor (qIt (qV 2)) (gN 3) (qSeq (qIfS (qOr (qNot (qB (qUn (wIsi "tuple") (qV 3)))) (qOr (qB (qOp (wNe 4) (qUn wLen (qV 3)) (qC (.int 2)))) (qOr (qB (qOp (wIn 4 true) (qOp wIx (qV 3) (qC (.int 0))) (qV 1))) (qB (qOp (wIn 4 true) (qOp wIx (qV 3) (qC (.int 1))) (qV 1)))))) (qRet (qC .non)) qNx)
   (qSeq (qPar 4 5 (sV (K5 (qV 1) (qOp wIx (qV 3) (qC (.int 1))))) (sV (K5 (qV 1) (qOp wIx (qV 3) (qC (.int 0))))))
   (qSeq (qIfS (qNot (qB (B4 D_ (A0 (qV 0) (A0 (qV 4) (A0 (qV 5) qNil)))))) (qRet (qC .non)) qNx)
   (qSet 1 (B4 DZ (A0 (qV 1) (A0 (qV 4) (A0 (qV 5) qNil)))))))))
   (qRet (qV 1))))
def Ea:pF:=fnP ["_law_meeting","_law_row","_law_touches","_law_pair","_law_p","_law_q"] ["_law_meeting","_law_row","_law_touches"] He
def Hf:pS:=(qSeq (qIfS (qOr (qNot (qB (qUn (wIsi "tuple") (qV 3)))) (qOr (qB (qOp (wNe 4) (qUn wLen (qV 3)) (qC (.int 3)))) (qOr (qNot (qB (qUn (wIsi "int") (qOp wIx (qV 3) (qC (.int 0)))))) (qB (qUn (wIsi "bool") (qOp wIx (qV 3) (qC (.int 0)))))))) (qRet (qC (.bl false))) qNx)
   (qSeq (qIfS (qOr (qNot (qB (qUn (wIsi "tuple") (qOp wIx (qV 3) (qC (.int 1)))))) (qOr (qB (qOp (wNe 4) (qUn wLen (qOp wIx (qV 3) (qC (.int 1)))) (qOp wIx (qV 3) (qC (.int 0))))) (qB (qOp (wNe 4) (B4 Ea (A0 (qV 0) (A0 (qV 1) (A0 (qOp wIx (qV 3) (qC (.int 1))) qNil)))) (qV 2))))) (qRet (qC (.bl false))) qNx)
   (qRet (B4 DY (A0 (qV 0) (A0 (qV 1) (A0 (qV 2) (A0 (qOp wIx (qV 3) (qC (.int 0))) (A0 (qOp wIx (qV 3) (qC (.int 2))) qNil)))))))))
def BU:pF:=fnP ["_law_meeting","_law_row","_law_other","_law_thing"] ["_law_meeting","_law_row","_law_other","_law_thing"] Hf
def Eb:pS:=(qSeq (qOwn 1 (qLst qNil))
   (qSeq (qFor (d9 (qOp wMax (qC (.int 1)) (qOp wMin (qC (.int 3)) (qUn wLen (qV 0))))) (gN 2) (qSeq (Dq 3 (qV 0) (qV 2))
   (qSeq (qSet 4 (qOp wAdd (qC (.int 1)) (B4 K1 (A0 (qV 3) (A0 (qC (.int 8)) qNil)))))
   (qSeq (qSet 5 (qOp wMax (qC (.int 0)) (qOp wSub (qV 4) (qC (.int 2)))))
   (qSeq (qSet 6 (qTup (A0 (qOp wAdd (qV 4) (B4 K1 (A0 (qV 3) (A0 (qOp wSub (qC (.int 9)) (qV 4)) qNil)))) (A0 (qOp wAdd (qV 5) (B4 K1 (A0 (qV 3) (A0 (qOp wSub (qC (.int 8)) (qV 5)) qNil)))) qNil))))
   (qSeq (qSet 7 (B4 DK (A0 (qV 3) (A0 (qV 4) qNil))))
   (Q5 (An 1 (qTup (A0 (qV 3) (A0 (qV 6) (A0 (qV 7) (A0 (B4 DW (A0 (qV 3) (A0 (qV 7) qNil))) qNil)))))))))))))
   (qSeq (Di 1 (qSet 8 (qL (P0 [none,none,none,none] (qIl (qV 1)) (gTp 4 (gCn (gN 0) (gCn (gN 1) (gCn (gN 2) (gCn (gN 3) gNl))))) qTru (B4 AB (A0 (qV 1) (A0 (qV 2) (A0 (qV 3) qNil))))))))
   (qSeq (qFor (qZip true true (qV 1) (qV 8)) (gTp 2 (gCn (gTp 4 (gCn (gN 3) (gCn (gN 6) (gCn (gN 7) (gCn (gN 9) gNl))))) (gCn (gN 10) gNl))) (qSeq (qIfS (qOr (qNot (qB (B4 BU (A0 (qV 6) (A0 (qV 7) (A0 (qV 9) (A0 (qV 10) qNil))))))) (qB (qOp (wNe 4) (qOp wIx (qV 10) (qC (.int 0))) (qOp wSub (qUn wLen (qV 7)) (B4 AC (A0 (qV 7) (A0 (qV 9) qNil))))))) (qRet (qC (.bl false))) qNx)
   (qSeq (qSet 11 (B4 DN (A0 (qV 3) (A0 (qV 10) qNil))))
   (qSeq (qIfS (qB (qOp BM (B4 BT (A0 (qV 6) (A0 (qV 7) (A0 (qV 9) (A0 (qV 10) qNil))))) (qC (.bl true)))) (qRet (qC (.bl false))) qNx)
   (qIfS (qB (qOp (wNe 4) (qUn Ap (B4 BT (A0 (qV 6) (A0 (qV 7) (A0 (qV 9) (A0 (qV 11) qNil)))))) (qUn Ap (B4 BU (A0 (qV 6) (A0 (qV 7) (A0 (qV 9) (A0 (qV 11) qNil)))))))) (qRet (qC (.bl false))) qNx)))))
   (qRet (qC (.bl true)))))))
end Tb
end
section
namespace Tb
open PySem L2 Pu
def top (i:Nat):Stmt:=PySem.Challenge.pw_touchboats_k46_fewest_of_one_race.main.body.getD i (.Pass ⟨0,0,0,0⟩)
end Tb
end
section
namespace Tb
open PySem L2 Pu
theorem Hg (a b:Int):eqP (.int a) (.int b)=decide (a=b):=by
 show(a == b)=_;rw [Cj]
theorem Hh (a b:Str):eqP (.str a) (.str b)=decide (a=b):=by
 show(a == b)=_;rw [Cj]
theorem Hi (a b:Bool):eqP (.bl a) (.bl b)=decide (a=b):=by
 show(a == b)=_;rw [Cj]
set_option compiler.extract_closed false in
set_option hygiene false in
local macro_rules | `(tactic| walk_at "pd")=>`(tactic| dsimp only [dreduceIte,true_and,and_true,k8,beq_self_eq_true,Nat.reduceLeDiff,Nat.reduceLT,Int.reduceLT,Int.reduceLE,O7,Hg,Hh,Hi,qSeq,qNx,qSet,qOwn,qAsg,Q5,qRet,qRetO,qIfS,qPar,sV,qPut,gAt,Di,BC,qV,qO,qC,qOp,qOpR,qUn,wI,wI0,wAdd,wSub,wMul,Bn,wMod,wEq,wNe,wLt,wLe,qB,Y6,qOr,qNot,O8,qNil,A0,qTup,qLst,qL,wIx,qNo,M5,qSl,wSl,wLen,wInt,wAll,T3,Ah,wIsi,wMin,wMax,B4,gN,gNl,gCn,gTp,qIl,qIt,d9,Bv,qIs,Bw,capV,capS,qTru,P0,wNeg,An,Dh,Z1,tyP,isT,List.map,List.set,O5,List.length_nil,Ce,AO,List.cons_append,List.nil_append,k7,Nat.reduceSub,Nat.reduceAdd,Option.bind,Bool.not_true,Bool.not_false,Bool.true_or,Bool.false_or,Bool.or_false,Bool.true_and,Ba,String.reduceBEq,cmpb,Y5,eqP_ll,eqP_tt,FW,JW,decide_true,decide_false,t9,wRev,Do,qAug,Dp,Dq,BI,qZip,qFor,u3,keyV,BK,K5,At,at2_0,at2_1,at3_0,at3_1,at3_2,grd_t,Dy,qInS,u4,Dz,K1,DG,Ax,BM,wSum,W6,DJ])
set_option hygiene false in
local macro_rules | `(tactic| walk_at "pu")=>`(tactic| (try walk_at "pd") <;> (try simp only [Hg,Hh,Hi,decide_true,decide_false,true_and,and_true,reduceIte,Nat.reduceLeDiff,Nat.reduceLT,Int.reduceLT,Int.reduceLE,O7,beq_self_eq_true,k8]))
def inv:List Nat->Nat
 | []=>0
 | a::l=>(l.filter fun b=>decide (b < a)).length + inv l
def cntP (l1 l2:List Str)(f:Str->Str->Bool):Nat:=(l1.map fun x=>(l2.filter (f x)).length).sum
theorem Hj {α:Type}:∀l:List α,(l.map fun _=>0).sum=0
 | []=>rfl
 | a::l=>by rw [G7,List.sum_cons,Hj l]
def cr (row other:List Str)(x y:Str):Bool:=decide (ixS row x < ixS row y) && decide (ixS other y < ixS other x)
theorem Hk {other row:List Str}(nd:row.Nodup):∀(suf pre:List Str),row=pre++suf->inv (suf.map (ixS other))=(suf.map fun x=>(row.filter (cr row other x)).length).sum
 | [],_,_=>rfl
 | x :: suf, pre, e => by
   have ih:=Hk (other:=other) nd suf (pre++[x]) (by rw [e,x6];rfl);rw [G7,G7,List.sum_cons];show((suf.map (ixS other)).filter fun b=>decide (b < ixS other x)).length + inv (suf.map (ixS other))=_;rw [ih]
   congr 1
   have hx:ixS row x=pre.length:=K6 nd (D2 (show x∈row by rw [e];simp)).1 (by rw [e,X1 (A8 _),Nat.sub_self];rfl)
   have hp:∀y∈pre,ixS row y < pre.length:=fun y hy=>by
     obtain⟨j,hj,ej⟩:=x5 hy;have:=K6 nd (D2 (show y∈row by rw [e];simp [hy])).1 (show row[j]?=some y by rw [e,X2 hj,C4 hj,ej]);omega
   have hs:∀y∈suf,pre.length < ixS row y:=fun y hy=>by
     obtain⟨j,hj,ej⟩:=x5 hy
     have:=K6 nd (D2 (show y∈row by rw [e];simp [hy])).1 (show row[pre.length + 1 + j]?=some y by
       rw [e,X1 (by omega),show pre.length + 1 + j - pre.length=j + 1 by omega,AO,C4 hj,ej])
     omega
   have f0:row.filter (cr row other x)=suf.filter fun y=>decide (ixS other y < ixS other x):=by
     have f1:pre.filter (cr row other x)=[]:=List.filter_eq_nil_iff.mpr fun y hy z=>by
       unfold cr at z;rw [hx,decide_eq_false (by have:=hp y hy;omega),Ba] at z;cases z
     have f2:cr row other x x=false:=by unfold cr;rw [decide_eq_false (by omega),Ba]
     have f3:suf.filter (cr row other x)=suf.filter fun y=>decide (ixS other y < ixS other x):=List.filter_congr fun y hy=>by
       unfold cr;rw [hx,decide_eq_true (hs y hy),Bool.true_and]
     have:(pre++x::suf).filter (cr row other x)=suf.filter fun y=>decide (ixS other y < ixS other x):=by
       rw [List.filter_append,f1,List.filter_cons_of_neg (by rw [f2];exact N1),f3];rfl
     rw [<- this,<- e]
   rw [f0,List.filter_map,A9]
   rfl
theorem LF {other row:List Str}(nd:row.Nodup):inv (row.map (ixS other))=cntP row row (cr row other):=Hk nd row [] rfl
theorem Hl {row:List Str}(nd:row.Nodup):inv (row.map (ixS row))=0:=by
 rw [LF nd];unfold cntP;rw [<- Hj row];refine congrArg List.sum (List.map_congr_left fun x _=>?_);rw [List.length_eq_zero_iff,List.filter_eq_nil_iff];intro y _ z;unfold cr at z;simp only [V4,decide_eq_true_eq] at z;omega
def itr (f:Str->Str):Nat->Str->Str
 | 0,x=>x
 | k + 1,x=>f (itr f k x)
theorem AD (f:Str->Str)(x:Str)(b:Nat):∀a:Nat,itr f (a + b) x=itr f a (itr f b x)
 | 0=>by rw [G0];rfl
 | a + 1 => by
   rw [show a + 1 + b=(a + b) + 1 by omega];show f (itr f (a + b) x)=f (itr f a (itr f b x));rw [AD f x b a]
theorem Ec (f:Str->Str)(x:Str):∀k,itr f k (f x)=itr f (k + 1) x:=fun k=>(AD f x 1 k).symm
structure Prm (f:Str->Str)(row:List Str):Prop where
 st:∀x∈row,f x∈row
 inj:∀x∈row,∀y∈row,f x=f y->x=y
def Rch (f:Str->Str)(x y:Str):Prop:=∃k,itr f k x=y
section
variable {f:Str->Str}{row:List Str}
theorem Prm.mem (P:Prm f row){x:Str}(hx:x∈row):∀k,itr f k x∈row
 | 0=>hx
 | k + 1=>P.st _ (P.mem hx k)
theorem Prm.injk (P:Prm f row){x y:Str}(hx:x∈row)(hy:y∈row):∀k,itr f k x=itr f k y->x=y
 | 0,h=>h
 | k + 1,h=>P.injk hx hy k (P.inj _ (P.mem hx k) _ (P.mem hy k) h)
theorem Prm.per (P:Prm f row){x:Str}(hx:x∈row):∃k,1<=k/\k<=row.length/\itr f k x=x:=by
 apply Cu
 intro no;have no':∀k,1<=k->k<=row.length->itr f k x≠x:=fun k h1 h2 h3=>no ⟨k,h1,h2,h3⟩
 have key:∀a b,a < b->b<=row.length->itr f a x≠itr f b x:=fun a b hab hb e=>by
   rw [show b=a + (b - a) by omega,AD] at e;exact no' (b - a) (by omega) (by omega) (P.injk (P.mem hx _) hx a e.symm)
 have nd:((C2 (row.length + 1)).map fun k=>itr f k x).Nodup:=Gw _ List.nodup_range fun a ha b hb e=>by
   have ha:=M1.mp ha;have hb:=M1.mp hb;rcases Nat.lt_trichotomy a b with c | c | c
   · exact absurd e (key a b c (by omega))
   · exact c
   · exact absurd e.symm (key b a c (by omega))
 have:=nd.length_le_of_subset fun z hz=>by
   obtain⟨k,_,rfl⟩:=J8.mp hz;exact P.mem hx k
 rw [A9,AS] at this;omega
theorem Rch.small (P:Prm f row){x y:Str}(hx:x∈row):∀k,itr f k x=y->∃j,j<=row.length/\itr f j x=y:=by
 intro k
 induction k using Nat.strongRecOn with
 | _ k ih =>
   intro h
   by_cases c:k<=row.length
   · exact⟨k,c,h⟩
   · obtain⟨p,p1,p2,p3⟩:=P.per hx;refine ih (k - p) (by omega) ?_;rw [<- h,show k=(k - p) + p by omega,AD,p3]
     congr 1
     omega
theorem Rch.trans {x y z:Str}(h1:Rch f x y)(h2:Rch f y z):Rch f x z:=by
 obtain⟨a,rfl⟩:=h1;obtain⟨b,rfl⟩:=h2;exact⟨b + a,AD f x a b⟩
theorem Rch.symm (P:Prm f row){x y:Str}(hx:x∈row)(h:Rch f x y):Rch f y x:=by
 obtain⟨k,rfl⟩:=h
 induction k with
 | zero=>exact⟨0,rfl⟩
 | succ k ih =>
   obtain⟨q,q1,_,q3⟩:=P.per (P.mem hx k);refine Rch.trans ⟨q - 1,?_⟩ ih;show itr f (q - 1) (f (itr f k x))=itr f k x;rw [Ec,show q - 1 + 1=q by omega,q3]
def mnR (f:Str->Str)(row:List Str)(x:Str):Nat->Nat
 | 0=>ixS row x
 | k + 1=>min (mnR f row x k) (ixS row (itr f (k + 1) x))
theorem mn_le (x:Str):∀k j,j<=k->mnR f row x k<=ixS row (itr f j x)
 | 0, j, h => by
   have:j=0:=by omega
   subst this;exact A8 _
 | k + 1, j, h => by
   show min _ _<=_
   by_cases c:j<=k
   · have:=mn_le x k j c;omega
   · have:j=k + 1:=by omega
     subst this;omega
theorem Ed (x:Str):∀k,∃j,j<=k/\mnR f row x k=ixS row (itr f j x)
 | 0=>⟨0,A8 _,rfl⟩
 | k + 1 => by
   obtain⟨j,h1,h2⟩:=Ed x k
   by_cases c:mnR f row x k<=ixS row (itr f (k + 1) x)
   · exact⟨j,by omega,by rw [<- h2];show min _ _=_;omega⟩
   · exact⟨k + 1,A8 _,by show min _ _=_;omega⟩
def cOf (f:Str->Str)(row:List Str)(x:Str):Nat:=mnR f row x row.length
theorem c_le (P:Prm f row){x y:Str}(hx:x∈row)(h:Rch f x y):cOf f row x<=ixS row y:=by
 obtain⟨k,hk⟩:=h;obtain⟨j,hj,rfl⟩:=Rch.small P hx k hk;exact mn_le x _ j hj
theorem u8 (P:Prm f row){x y:Str}(hx:x∈row)(hy:y∈row):Rch f x y↔cOf f row x=cOf f row y:=by
 obtain⟨i,_,ei⟩:=Ed (f:=f) (row:=row) x row.length;obtain⟨j,_,ej⟩:=Ed (f:=f) (row:=row) y row.length;constructor
 · intro h;have h':=h.symm P hx
   have a:cOf f row x<=cOf f row y:=by
     show _<=mnR f row y row.length;rw [ej];exact c_le P hx (h.trans ⟨j,rfl⟩)
   have b:cOf f row y<=cOf f row x:=by
     show _<=mnR f row x row.length;rw [ei];exact c_le P hy (h'.trans ⟨i,rfl⟩)
   omega
 · intro h;have e:ixS row (itr f i x)=ixS row (itr f j y):=by rw [<- ei,<- ej];exact h
   have e2:=Av (P.mem hx i) (P.mem hy j) e;exact Rch.trans ⟨i,e2⟩ (Rch.symm P hy ⟨j,rfl⟩)
end
def ddN (l:List Nat):List Nat:=l.foldl (fun acc v=>if v∈acc then acc else acc++[v]) []
theorem u9 (l:List Nat)(v:Nat):ddN (l++[v])=if v∈ddN l then ddN l else ddN l++[v]:=by unfold ddN;rw [List.foldl_append];rfl
theorem W7 (l:List Nat):(ddN l).Nodup/\∀v,v∈ddN l↔v∈l:=by
 have h:∀m,∀l:List Nat,l.length=m->(ddN l).Nodup/\∀v,v∈ddN l↔v∈l:=by
   intro m
   induction m with
   | zero =>
     intro l hl;have:=Cb hl;subst this;exact⟨AY,fun v=>Iff.rfl⟩
   | succ m ih =>
     intro l hl;have hne:l≠[]:=fun z=>by rw [z] at hl;cases hl
     obtain⟨h1,h2⟩:=ih l.dropLast (by rw [List.length_dropLast];omega);have e:=List.dropLast_concat_getLast hne;rw [<- e];rw [u9]
     split
     · rename_i c;refine⟨h1,fun v=>?_⟩;rw [h2 v,E7,E1];exact⟨.inl,fun z=>z.elim id fun z=>by rw [z];exact(h2 _).mp c⟩
     · rename_i c;refine⟨AT.mpr ⟨h1,by simp,fun a ha b hb z=>?_⟩,fun v=>?_⟩
       · rw [E1.mp hb] at z;rw [z] at ha;exact c ha
       · rw [E7,E7,h2 v]
 exact h _ l rfl
theorem dd_len {l l':List Nat}(h:∀v,v∈l↔v∈l'):(ddN l).length=(ddN l').length:=by
 obtain⟨a1,a2⟩:=W7 l;obtain⟨b1,b2⟩:=W7 l';exact Nat.le_antisymm (a1.length_le_of_subset fun v hv=>(b2 v).mpr ((h v).mp ((a2 v).mp hv))) (b1.length_le_of_subset fun v hv=>(a2 v).mpr ((h v).mpr ((b2 v).mp hv)))
theorem LG {l:List Nat}(h:l.Nodup):(ddN l).length=l.length:=by
 obtain⟨a1,a2⟩:=W7 l;exact Nat.le_antisymm (a1.length_le_of_subset fun v hv=>(a2 v).mp hv) (h.length_le_of_subset fun v hv=>(a2 v).mpr hv)
def nxB (row other:List Str)(b:Str):Str:=nm other (ixS row b)
theorem i6 {row other:List Str}(nd:row.Nodup)(p:other.Perm row):Prm (nxB row other) row:=by
 have l:=p.length_eq;refine⟨fun x hx=>p.mem_iff.mp (BL (by rw [l];exact u6 hx)),fun x hx y hy h=>?_⟩;exact Av hx hy (nm_inj (p.nodup_iff.mpr nd) (by rw [l];exact u6 hx) (by rw [l];exact u6 hy) h)
theorem Hm {α:Type}{x:α}:∀{l:List α} (i:Nat),l.Nodup->x∉l->(l.set i x).Nodup
 | [],_,h,_=>h
 | y :: l, 0, h, hx => by
   rw [List.set_cons_zero,N0];exact⟨fun z=>hx (D0 _ z),(N0.mp h).2⟩
 | y :: l, i + 1, h, hx => by
   rw [List.set_cons_succ,N0];refine⟨fun z=>?_,Hm i (N0.mp h).2 fun z=>hx (D0 _ z)⟩;rcases List.mem_or_eq_of_mem_set z with z | z
   · exact(N0.mp h).1 z
   · exact hx (by rw [<- z];exact F4)
theorem Hn {α:Type}(x:α):∀(xs:List α) (j:Nat),(insL xs j x).Perm (x::xs):=by
 intro xs j;unfold insL;have:=(List.perm_middle (a:=x) (l₁:=xs.take j) (l₂:=xs.drop j));rw [Ch] at this;exact this
theorem Ho {α β:Type}(f:α->β)(xs:List α)(j:Nat)(x:α):insL (xs.map f) j (f x)=(insL xs j x).map f:=by
 unfold insL;rw [K3,G7,List.map_take,List.map_drop]
def Sg (ah:Int)(c:Nat)(z:Str):Prop:=(ah=0->∃l,z.cps.toList=l++[c])/\(ah=1->∃l,z.cps.toList=c::l)
theorem Sg.inj {ah:Int}{c d:Nat}{z:Str}(h:ah=0\/ah=1)(h1:Sg ah c z)(h2:Sg ah d z):c=d:=by
 rcases h with h | h
 · obtain⟨l,e1⟩:=h1.1 h;obtain⟨l',e2⟩:=h2.1 h;rw [e1] at e2;have:=congrArg List.getLast? e2
   simpa using this
 · obtain⟨l,e1⟩:=h1.2 h;obtain⟨l',e2⟩:=h2.2 h;rw [e1] at e2;exact(List.cons.inj e2).1
theorem LH {q n:Nat}{many:Int}{R:PV->Nat->Prop}(h0:1<=many)(h1:many<=24)(hn:n<=999900000)(h:∀(zs:List Str) n',(zs.length:Int)=many->RowS zs->n'<=n + 1000->R (rowP zs) n'):DK [.pot q,.int many] n R:=by
 refine⟨rfl,?_⟩;unfold GB;have l26:LETS.length=26:=Gd;have ll:LETS.length<=1000000:=by rw [l26];decide
 walk_at "pu";refine⟨by omega,fun fi f0 f1=>⟨by omega,fun d1 d10 d11=>?_⟩⟩;obtain⟨x,hx,ex⟩:=Dk (xs:=[PV.int 1,PV.int 3,PV.int 5,PV.int 7,PV.int 9,PV.int 11,PV.int 15,PV.int 17]) d10 d11
 have hx':∃t:Int,x=.int t/\t∈Au/\0<=t/\t<=17:=by
   simp only [C0,k5,or_false] at hx;rcases hx with rfl | rfl | rfl | rfl | rfl | rfl | rfl | rfl <;> exact⟨_,rfl,by decide,by decide,by decide⟩
 obtain⟨t,rfl,ht,t0,t1⟩:=hx';rw [ex];refine⟨by omega,fun ah a0 a1=>⟨by omega,fun ln l0 l1=>⟨by omega,?_⟩⟩⟩;have ha:ah=0\/ah=1:=by omega
 refine M7 (fun i env m=>∃s7,∃z:Str,env=[some (.v (.pot q)),some (.v (.int many)),some (.v (.str LETS)),some (.v (.int fi)),some (.v (.int t)),some (.v (.int ah)),some (.v (.str z)),s7,none,none,none,none]/\z.length<=i/\(∀c∈z.cps.toList,Ltr c)/\m<=n + 4 + i) _ 0 _ _ ⟨none,_,rfl,A8 _,(fun c z=>by cases z),by omega⟩ (fun i x env m N ex hI hN=>?_) (fun env m hI=>?_)
 · obtain⟨hi,rfl⟩:=u0 ex;obtain⟨s7,z,rfl,hz,lz,hm⟩:=hI;walk_at "pu";refine⟨by omega,fun d d0 d1=>⟨ll,?_⟩⟩;rw [Ge d0 d1];dsimp only;have e1:∀c:Nat,(⟨#[c]⟩:Str).length=1:=fun _=>rfl;refine⟨by rw [e1];omega,hN _ _ ⟨some (.v (.int (0 + i))),_,rfl,?_,?_,by omega⟩⟩
   · rw [Ab,p5,E3,<- Ab];show _ + 1<=_;omega
   · rw [p5];intro c hc;rcases E7.mp hc with hc | hc
     · exact lz c hc
     · rw [E1.mp hc];exact⟨by omega,by omega⟩
 · obtain⟨s7,stem,rfl,hz,lz,hm⟩:=hI;rw [i3] at hz hm;walk_at "pu";refine⟨by omega,?_⟩;refine M7 (fun i env m'=>∃s7 s9 s10,∃zs:List Str,env=[some (.v (.pot q)),some (.v (.int many)),some (.v (.str LETS)),some (.v (.int fi)),some (.v (.int t)),some (.v (.int ah)),some (.v (.str stem)),s7,some (.own (zs.map PV.str)),s9,s10,none]/\zs.length=i/\RowS zs/\(∀z∈zs,∃j,j < i/\Sg ah (lt fi t j) z)/\m'<=n + 20 + i) _ 0 _ _ ⟨s7,none,none,[],rfl,rfl,⟨AY,(fun _ z=>by cases z)⟩,(fun _ z=>by cases z),by omega⟩ (fun i x env m' N ex hI hN=>?_) (fun env m' hI=>?_)
   · obtain⟨hi,rfl⟩:=u0 ex;obtain⟨s7,s9,s10,zs,rfl,hl,nd,hg,hm'⟩:=hI;generalize hF:zs.map PV.str=FF;have Fl:FF.length=zs.length:=by rw [<- hF,A9]
     walk_at "pu";have e1:∀c:Nat,(⟨#[c]⟩:Str).length=1:=fun _=>rfl;refine⟨.inl (Lh ht),ll,?_⟩;rw [show fi + t * (0 + (i:Int))=fi + (i:Int) * t by rw [Int.zero_add,Int.mul_comm],lt_at]
     have lp:∀c∈(d7 stem none (some (((0 + (i:Int)) * t + fi) % ((stem.length:Int) + 1)))).cps.toList,Ltr c:=fun c hc=>by
       obtain⟨p,hp⟩:=l4 (c8 ((0 + (i:Int)) * t + fi) (show(stem.length:Int) + 1≠0 by omega));have:=l5 ((0 + (i:Int)) * t + fi) (show(0:Int) < (stem.length:Int) + 1 by omega);rw [hp] at hc this;rw [Kp stem (p:=p) (by omega)] at hc;exact lz c (V3 hc)
     have pl:(d7 stem none (some (((0 + (i:Int)) * t + fi) % ((stem.length:Int) + 1)))).length<=stem.length:=y0 stem _ _;generalize d7 stem none (some (((0 + (i:Int)) * t + fi) % ((stem.length:Int) + 1)))=part at pl lp ⊢;refine⟨.inl ⟨by omega,by omega⟩,by omega,by omega,by omega,⟨_,rfl⟩,⟨by omega,by omega,by omega⟩,fun d d0 d1=>⟨by rw [e1];omega,by rw [e1];omega,?_⟩⟩
     have pick:∃z:Str,atI [PV.str (part++(⟨#[lt fi t i]⟩:Str)),PV.str ((⟨#[lt fi t i]⟩:Str)++part)] ah=some (.str z)/\Sg ah (lt fi t i) z/\W3 z:=by
       have p7:part.cps.toList.length<=7:=by rw [<- Ab];omega
       have ll:Ltr (lt fi t i):=by unfold lt;exact⟨by omega,by omega⟩
       have bo:∀l:List Nat,(∀c∈l,c∈part.cps.toList\/c=lt fi t i)->l.length=part.cps.toList.length + 1->1<=l.length/\l.length<=8/\∀c∈l,Ltr c:=fun l h e=>⟨by omega,by omega,fun c hc=>(h c hc).elim (lp c) fun e=>by rw [e];exact ll⟩;rcases ha with rfl | rfl
       · refine⟨_,rfl,⟨fun _=>⟨part.cps.toList,p5 _ _⟩,fun z=>by cases z⟩,?_⟩;unfold W3;rw [p5];exact bo _ (fun c hc=>(E7.mp hc).imp id E1.mp) (E3 ..)
       · refine⟨_,rfl,⟨(fun z=>by cases z),fun _=>⟨part.cps.toList,p5 _ _⟩⟩,?_⟩;unfold W3;rw [p5];exact bo _ (fun c hc=>(E7.mp hc).elim (fun h=>.inr (E1.mp h)) .inl) (by rw [E3];exact Nat.add_comm ..)
     obtain⟨z,ez,sz,bz⟩:=pick;rw [ez]
     have nz:z∉zs:=fun c=>by
       obtain⟨j,hj,sj⟩:=hg z c;exact lt_ne ht f0 (show j < i by omega) (by omega) (Sg.inj ha sj sz)
     have pm:=Hn z zs d.toNat;refine⟨⟨by omega,by omega,by omega⟩,hN _ _ ⟨some (.v (.int (0 + i))),some (.v (.str ⟨#[lt fi t i]⟩)),some (.v (.str part)),insL zs d.toNat z,?_,by rw [DA];omega,⟨pm.nodup_iff.mpr (N0.mpr ⟨nz,nd.1⟩),fun a ha=>(C0.mp (pm.mem_iff.mp ha)).elim (fun e=>by rw [e];exact bz) (nd.2 a)⟩,fun y hy=>?_,by omega⟩⟩
     · rw [<- hF,Ho]
     · rcases C0.mp (pm.mem_iff.mp hy) with e | hy
       · rw [e];exact⟨i,by omega,sz⟩
       · obtain⟨j,hj,sj⟩:=hg y hy;exact⟨j,by omega,sj⟩
   · obtain⟨s7,s9,s10,zs,rfl,hl,nd,hg,hm'⟩:=hI;rw [i3] at hl hm';clear hg;generalize hF:zs.map PV.str=FF;walk_at "pu";refine⟨by omega,fun d d0 d1=>?_⟩;obtain⟨x,hx,ex⟩:=Dk (xs:=[PV.int 0,PV.int 0,PV.int 0,PV.int 1,PV.int 2]) d0 d1
     have hx':∃k:Int,x=.int k/\0<=k/\k<=2:=by
       simp only [C0,k5,or_false] at hx;rcases hx with rfl | rfl | rfl | rfl | rfl <;> exact⟨_,rfl,by decide,by decide⟩
     obtain⟨k,rfl,k0,k2⟩:=hx';rw [ex];refine⟨by omega,?_⟩;subst hF;refine M7 (fun i env m2=>∃s7 s11,∃ys:List Str,env=[some (.v (.pot q)),some (.v (.int many)),some (.v (.str LETS)),some (.v (.int fi)),some (.v (.int t)),some (.v (.int ah)),some (.v (.str stem)),s7,some (.own (ys.map PV.str)),s9,s10,s11]/\ys.length=zs.length/\RowS ys/\m2<=m' + 1 + 2 * i) _ 0 _ _ ⟨s7,none,zs,rfl,rfl,nd,by omega⟩ (fun i x env m2 N ex hI hN=>?_) (fun env m2 hI=>?_)
     · obtain⟨hi,rfl⟩:=u0 ex;obtain⟨s7,s11,ys,rfl,ly,ndy,hm2⟩:=hI;generalize hF:ys.map PV.str=FF;have Fl:FF.length=ys.length:=by rw [<- hF,A9]
       walk_at "pu";refine⟨by omega,fun e e0 e1=>?_⟩;obtain⟨x,hx,ex⟩:=Dk (xs:=[PV.str (C1 "drop"),PV.str (C1 "touch"),PV.str (C1 "none"),PV.str (C1 "d"),PV.str (C1 "u"),PV.str (C1 "t"),PV.str (C1 "o")]) e0 e1;rw [ex]
       have bx:∃z:Str,x=.str z/\W3 z:=by
         simp only [C0,k5,or_false] at hx;rcases hx with rfl | rfl | rfl | rfl | rfl | rfl | rfl <;> exact⟨_,rfl,by decide,by decide,by unfold Ltr;decide⟩
       obtain⟨z,rfl,bz⟩:=bx;rw [<- hF];refine Lk rfl ?_;dsimp only
       by_cases cz:z∈ys
       · refine if_f (by rw [decide_eq_true cz];rfl) (hN _ _ ⟨some (.v (.int (0 + i))),some (.v (.str z)),ys,rfl,ly,ndy,by omega⟩)
       · refine if_t (by rw [decide_eq_false cz];rfl) ⟨⟨_,rfl⟩,⟨by omega,by omega,by omega⟩,fun j j0 j1=>?_⟩;rw [Y3 j0 (by rw [A9];omega)];refine hN _ _ ⟨some (.v (.int (0 + i))),some (.v (.str z)),ys.set j.toNat z,?_,by rw [J0];exact ly,⟨Hm j.toNat ndy.1 cz,fun a ha=>(List.mem_or_eq_of_mem_set ha).elim (ndy.2 a) fun e=>by rw [e];exact bz⟩,by omega⟩;rw [b6]
     · obtain⟨s7,s11,ys,rfl,ly,ndy,hm2⟩:=hI;rw [i3] at hm2;walk_at "pu";exact h ys _ (by omega) ndy (by omega)
theorem AE {Z:List PV}(hZ:zs.map PV.str=Z){i:Nat}(h:i < zs.length):atI Z (i:Int)=some (.str (nm zs i)):=by
 obtain⟨x,e1,e2⟩:=CU (xs:=Z) (d:=(i:Int)) (by omega) (by grind);rw [e2];rw [R0,<- hZ,G6,K7 h] at e1
 grind
theorem Hq {n d:Nat}(h:1<=n):HT.sIx n d (some (-1))=n - 1:=by
 show(if(-1:Int) < 0 then((-1:Int) + (n:Int)).toNat else min (-1:Int).toNat n)=n - 1;rw [if_pos (by decide)];omega
theorem m_goal {q n:Nat}{zs:List Str}{R:PV->Nat->Prop}(h1:1<=zs.length)(h2:zs.length<=24)(hn:n<=999900000)(h:∀(ys:List Str) n',ys.Perm zs->n'<=n + 100->R (rowP ys) n'):DW [.pot q,rowP zs] n R:=by
 refine⟨rfl,?_⟩;unfold GY;have hr0:rowP zs=.tup (zs.map PV.str):=rfl;have hat:∀i:Nat,i < zs.length->atI (zs.map PV.str) (i:Int)=some (.str (nm zs i)):=fun i hi=>AE rfl hi;generalize hZ:zs.map PV.str=Z at *;have Zl:Z.length=zs.length:=by rw [<- hZ,A9]
 rw [hr0];walk_at "pu";refine⟨by omega,fun w w0 w1=>?_⟩
 by_cases c:w < 3
 · refine if_t (decide_eq_true c) ?_;refine M7 (fun i env m=>∃s5,∃ys:List Str,env=[some (.v (.pot q)),some (.v (.tup Z)),some (.v (.int w)),some (.v (.int (Z.length:Int))),some (.own (ys.map PV.str)),s5,none,none]/\ys.Perm (zs.take i)/\ys.length=i/\m<=n + 1 + i) _ 0 _ _ ⟨none,[],rfl,by rw [List.take_zero],rfl,by omega⟩ (fun i x env m N ex hI hN=>?_) (fun env m hI=>?_)
   · rw [<- hZ] at ex;obtain⟨z,ez,rfl⟩:=W5 ex;obtain⟨s5,ys,rfl,pm,hl,hm⟩:=hI;have hi:=(C5.mp ez).1;generalize hF:ys.map PV.str=FF;have Fl:FF.length=ys.length:=by rw [<- hF,A9]
     walk_at "pu";refine⟨⟨_,rfl⟩,by omega,fun d d0 d1=>⟨by omega,hN _ _ ⟨some (.v (.str z)),insL ys d.toNat z,?_,?_,by rw [DA];omega,by omega⟩⟩⟩
     · rw [<- hF,Ho]
     · rw [G0] at pm ⊢;rw [U9 ez];exact(Hn z ys d.toNat).trans ((pm.cons z).trans (List.perm_append_singleton z _).symm)
   · obtain⟨s5,ys,rfl,pm,hl,hm⟩:=hI;rw [G0,Zl,x8] at pm;walk_at "pu";exact h ys _ pm (by omega)
 · refine if_f (decide_eq_false c) ⟨by omega,fun a a0 a1=>⟨by omega,fun b b0 b1=>?_⟩⟩;obtain⟨an,rfl⟩:=l4 a0;obtain⟨bn,rfl⟩:=l4 b0;rw [hat bn (by omega),hat an (by omega)];dsimp only;refine⟨⟨_,rfl⟩,?_⟩;rw [Y3 (by omega) (by omega)];dsimp only;rw [Y3 (by omega) (by rw [J0];omega)];dsimp only;rw [R0,R0]
   have c1:cutP Z (some (-1)) none=Z.drop (Z.length - 1):=by
     unfold cutP;rw [Hq (by omega)];show(Z.drop (Z.length - 1)).take (Z.length - (Z.length - 1))=_;rw [V2 (by rw [Q9];omega)]
   have c2:cutP Z none (some (-1))=Z.take (Z.length - 1):=by
     unfold cutP;rw [Hq (by omega)]
     rfl
   rw [c1,c2];refine⟨by rw [Q9,X3];omega,?_⟩
   have pick:∃ys:List Str,atI [PV.tup Z.reverse,PV.tup (Z.drop (Z.length - 1)++Z.take (Z.length - 1)),PV.tup ((Z.set an (.str (nm zs bn))).set bn (.str (nm zs an)))] (w - 3)=some (rowP ys)/\ys.Perm zs:=by
     rw [<- hZ]
     by_cases d1:w=3
     · subst d1;refine⟨zs.reverse,?_,List.reverse_perm zs⟩;rw [<- List.map_reverse];rfl
     · by_cases d2:w=4
       · subst d2;refine⟨zs.drop (zs.length - 1)++zs.take (zs.length - 1),?_,?_⟩
         · rw [A9,<- List.map_drop,<- List.map_take,<- K3];rfl
         · have:=(List.perm_append_comm (l₁:=zs.drop (zs.length - 1)) (l₂:=zs.take (zs.length - 1)));rw [Ch] at this;exact this
       · have d3:w=5:=by omega
         subst d3;refine⟨exch zs an bn,?_,Aw (by omega) (by omega)⟩;unfold exch;rw [<- b6,<- b6];rfl
   obtain⟨ys,ey,py⟩:=pick;rw [ey];exact h ys _ py (by omega)
def pinN (k:Nat):PV:=.int (k:Int)
theorem Ee {a:Nat}{s0:Option Pu.Slot}{rest:Pu.Env}{n:Nat}{R:List PV->Pu.Env->Nat->Prop}:∀(l:List Nat) (s2:Option Pu.Slot),(∀s2,R (k7 (l.filter fun b=>decide (b < a)).length (.int 1)) (s0::some (.v (.int (a:Int)))::s2::rest) n)->
   Z3 (gN 2) (qB (qOp wLt (qV 2) (qV 1))) (qC (.int 1)) (l.map pinN) (s0::some (.v (.int (a:Int)))::s2::rest) n R
 | [],s2,h=>h s2
 | b :: l, s2, h => by
   show(if decide ((b:Int) < (a:Int))=true then Z3 (gN 2) (qB (qOp wLt (qV 2) (qV 1))) (qC (.int 1)) (l.map pinN) (s0::some (.v (.int (a:Int)))::some (.v (.int (b:Int)))::rest) n fun ys e m=>R (.int 1::ys) e m else Z3 (gN 2) (qB (qOp wLt (qV 2) (qV 1))) (qC (.int 1)) (l.map pinN) (s0::some (.v (.int (a:Int)))::some (.v (.int (b:Int)))::rest) n R)
   by_cases c:b < a
   · refine if_t (decide_eq_true (by omega)) (Ee l _ fun s2=>?_);have:=h s2;rw [List.filter_cons_of_pos (by simpa using c),O5,List.replicate_succ] at this;exact this
   · refine if_f (decide_eq_false (by omega)) (Ee l _ fun s2=>?_);have:=h s2;rw [List.filter_cons_of_neg (by simpa using c)] at this;exact this
theorem Hr {g:List Nat}(hl:g.length<=1000){n:Nat}{R:List PV->Nat->Prop}:∀(suf:List Nat) (i:Nat) (s0 s1 s2:Option Pu.Slot),g.drop i=suf->R (k7 (inv suf) (.int 1)) n->
   i5 (gTp 2 (gCn (gN 0) (gCn (gN 1) gNl))) (qIl (qSl (qV 3) (M5 (qOp wAdd (qV 0) (qC (PV.int 1)))) qNo)) (gN 2) (qB (qOp wLt (qV 2) (qV 1))) (qC (.int 1)) (((suf.map pinN).zipIdx i).map fun y=>PV.tup [.int (y.2:Nat),y.1]) [s0,s1,s2,some (.v (.lst (g.map pinN)))] n R
 | [],i,s0,s1,s2,_,h=>h
 | a :: suf, i, s0, s1, s2, e, h => by
   have e':g.drop (i + 1)=suf:=by
     have:=congrArg (List.drop 1) e;rw [List.drop_drop] at this;rw [show i + 1=i + 1 from rfl];simpa [Nat.add_comm] using this
   refine⟨rfl,?_⟩;show(cutP (g.map pinN) (some ((i:Int) + 1)) none).length<=1000/\Z3 (gN 2) (qB (qOp wLt (qV 2) (qV 1))) (qC (.int 1)) (cutP (g.map pinN) (some ((i:Int) + 1)) none) [some (.v (.int (i:Int))),some (.v (.int (a:Int))),s2,some (.v (.lst (g.map pinN)))] n _;rw [show cutP (g.map pinN) (some ((i:Int) + 1)) none=suf.map pinN by rw [<- e',List.map_drop,<- Gx];rfl];refine⟨by rw [A9,<- e',Q9];omega,Ee suf _ fun s2'=>?_⟩;refine Hr hl suf (i + 1) _ _ _ e' ?_;rw [List.replicate_append_replicate];exact h
theorem Hs {zs ys:List Str}{n:Nat}{R:PV->Nat->Prop}(h2:zs.length<=24)(pm:ys.Perm zs)(h:R (.int (inv (zs.map (ixS ys)):Nat)) n):BQ [rowP zs,rowP ys] n R:=by
 refine⟨rfl,?_⟩;unfold GF;have ly:=pm.length_eq;have hix:∀z∈zs,∀{R:PV->Prop},R (.int (ixS ys z))->O3 (.tup (ys.map PV.str)) (.str z) R:=fun z hz {R} q=>m_ix rfl (pm.mem_iff.mpr hz) (by omega) q;have hr0:rowP zs=.tup (zs.map PV.str):=rfl;have hr1:rowP ys=.tup (ys.map PV.str):=rfl;generalize hY:ys.map PV.str=Y at *;have Zl:(zs.map PV.str).length=zs.length:=A9 ..;rw [hr0,hr1];generalize hZ:zs.map PV.str=Z at *;walk_at "pu";refine⟨by omega,?_⟩;rw [<- hZ];refine As PV.str (fun z=>pinN (ixS ys z)) zs _ _ _ (fun z hz m Q hQ=>?_) ?_
 · walk_at "pu";exact⟨⟨_,rfl⟩,hix z hz hQ⟩
 · have eg:(zs.map fun z=>pinN (ixS ys z))=(zs.map (ixS ys)).map pinN:=by rw [b7];rfl
   have gl:(zs.map (ixS ys)).length=zs.length:=A9 ..;rw [eg];generalize zs.map (ixS ys)=g at *;refine⟨by rw [Aj,A9];omega,?_⟩;refine Hr (g:=g) (by omega) g 0 none none none rfl ?_;rw [Cg];exact h
abbrev pr (a b:Nat):PV:=.tup [.int a,.int b]
def TPp (s r n k i:Nat):List PV:=(C2 (min (k * s + i + 1 + r) (min (k * s + s) (n - 1)) - (k * s + i))).map fun j=>pr (k * s + i) (k * s + i + 1 + j)
def TPk (s r n k:Nat):List PV:=(C2 (min (k * s + s) (n - 1) - k * s)).flatMap (TPp s r n k)
def TP (s r n:Nat):List PV:=(C2 ((n + s - 1) / s)).flatMap (TPk s r n)
theorem LI {s r n m:Nat}{R:PV->Nat->Prop}(h1:1<=s)(h2:s<=8)(hn:1<=n)(h:R (.int (((n + s - 1) / s:Nat):Int)) m):DP [.tup [.int s,.int r],.int n] m R:=by
 refine⟨rfl,?_⟩;unfold GO;walk_at "pu";refine⟨⟨by omega,by omega⟩,?_⟩
 have e:((n:Int) + s - 1) / s=(((n + s - 1) / s:Nat):Int):=by
   rw [show(n:Int) + s - 1=((n + s - 1:Nat):Int) by omega]
   rfl
 rw [show((n:Int) + s - 1) / s=(((n + s - 1) / s:Nat):Int) from e];exact h
theorem m_span {s r n k m:Nat}{R:PV->Nat->Prop}(h1:1<=s)(h2:s<=8)(hn:1<=n)(hk:k<=1000)(h:R (.tup [.int ((k * s:Nat):Int),.int ((min (k * s + s) (n - 1):Nat):Int)]) m):DQ [.tup [.int s,.int r],.int n,.int k] m R:=by
 refine⟨rfl,?_⟩;unfold GP;walk_at "pu";refine⟨.inr ⟨by omega,by omega⟩,?_⟩
 have e:(if(n:Int) - 1 < (k:Int) * s + s then(n:Int) - 1 else(k:Int) * s + s)=((min (k * s + s) (n - 1):Nat):Int):=by
   have:((k * s:Nat):Int)=(k:Int) * s:=Int.natCast_mul k s
   split <;> omega
 have e2:(k:Int) * s=((k * s:Nat):Int):=(Int.natCast_mul k s).symm
 try dsimp only
 rw [e,e2];exact h
theorem LJ {s r n m:Nat}{R:PV->Nat->Prop}(h1:1<=s)(h2:s<=8)(hr:r<=7)(hn:1<=n)(hn2:n<=24)(h:R (.tup (TP s r n)) m):BS [.tup [.int s,.int r],.int n] m R:=by
 refine⟨rfl,?_⟩;unfold GQ;walk_at "pu";refine LI h1 h2 hn ?_
 have hk8:(n + s - 1) / s<=24:=by
   refine Nat.div_le_of_le_mul ?_;have:24 * s>=24 + (s - 1) * 24:=by omega
   rw [Nat.mul_comm];omega
 refine⟨⟨Int.le_trans (by decide) (Int.natCast_nonneg _),by have:(((n + s - 1) / s:Nat):Int)<=24:=Int.ofNat_le.mpr hk8;omega⟩,?_⟩;rw [R0];refine M7 (fun k env m'=>∃s3 s4 s5 s6 s7,env=[some (.v (.tup [.int s,.int r])),some (.v (.int n)),some (.own ((C2 k).flatMap (TPk s r n))),s3,s4,s5,s6,s7]/\((C2 k).flatMap (TPk s r n)).length<=72 * k/\m'=m) _ 0 _ _ ⟨_,_,_,_,_,rfl,by simp,rfl⟩ (fun k x env m' N ex hI hN=>?_) (fun env m' hI=>?_)
 · obtain⟨hk,rfl⟩:=u0 ex;obtain⟨s3,s4,s5,s6,s7,rfl,hl,rfl⟩:=hI;simp only [G0] at hl hN ⊢;walk_at "pu";rw [show(0:Int) + (k:Int)=((k:Nat):Int) by omega];refine m_span h1 h2 hn (by omega) ?_;walk_at "pu";have hks:k * s<=200:=E8 (Nat.mul_le_mul (show k<=24 by omega) h2) (by decide);refine⟨⟨by omega,by omega,by omega,by omega⟩,?_⟩;rw [show((((min (k * s + s) (n - 1):Nat):Int)) - ((k * s:Nat):Int)).toNat=min (k * s + s) (n - 1) - k * s by omega];refine M7 (fun i env m''=>∃s6 s7,env=[some (.v (.tup [.int s,.int r])),some (.v (.int n)),some (.own ((C2 k).flatMap (TPk s r n)++(C2 i).flatMap (TPp s r n k))),some (.v (.int k)),some (.v (.int ((k * s:Nat):Int))),some (.v (.int ((min (k * s + s) (n - 1):Nat):Int))),s6,s7]/\((C2 i).flatMap (TPp s r n k)).length<=9 * i/\m''=m') _ 0 _ _ ⟨s6,s7,by simp,by simp,rfl⟩ (fun i x env m'' N' ex hI hN'=>?_) (fun env m'' hI=>?_)
   · obtain⟨hi,rfl⟩:=u0 ex;obtain⟨s6,s7,rfl,hl2,rfl⟩:=hI;simp only [G0] at hl2 hN' ⊢;walk_at "pu";have hi8:i < 8:=by omega
     refine⟨⟨_,rfl⟩,?_⟩
     have e1:(if((min (k * s + s) (n - 1):Nat):Int) < ((k * s:Nat):Int) + i + 1 + r then((min (k * s + s) (n - 1):Nat):Int) else((k * s:Nat):Int) + i + 1 + r)=((min (k * s + i + 1 + r) (min (k * s + s) (n - 1)):Nat):Int):=by
       split <;> omega
     simp only [e1];refine⟨⟨by omega,by omega,by omega,by omega⟩,by rw [i3];omega,?_⟩;rw [show(((min (k * s + i + 1 + r) (min (k * s + s) (n - 1)):Nat):Int) + 1 - (((k * s:Nat):Int) + i + 1)).toNat=min (k * s + i + 1 + r) (min (k * s + s) (n - 1)) - (k * s + i) by omega];refine Dj (fun y=>.tup [.int (((k * s:Nat):Int) + i),y]) _ _ _ _ (fun y hy m Q hQ=>?_) ?_
     · walk_at "pu";exact hQ
     · have e2:List.map (fun y=>PV.tup [.int (((k * s:Nat):Int) + i),y]) (List.map (fun(j:Nat)=>PV.int (((k * s:Nat):Int) + i + 1 + j)) (C2 (min (k * s + i + 1 + r) (min (k * s + s) (n - 1)) - (k * s + i))))=TPp s r n k i:=by
         rw [b7];unfold TPp;refine List.map_congr_left fun j hj=>?_;simp only [Function.comp,pr]
         congr 3
       rw [e2]
       have hlp:(TPp s r n k i).length<=9:=by
         unfold TPp;rw [A9,AS];omega
       refine⟨by rw [E3];omega,?_⟩;refine hN' _ _ ?_;rw [Km,Dr];exact⟨_,_,rfl,by rw [E3];omega,rfl⟩
   · obtain⟨s6,s7,rfl,hl2,rfl⟩:=hI;rw [i3] at *;refine hN _ _ ?_;rw [Dr];rw [G0] at hl2 ⊢;have hT:(TPk s r n k).length<=72:=by unfold TPk;omega
     exact⟨_,_,_,_,_,rfl,by rw [E3];omega,rfl⟩
 · obtain⟨s3,s4,s5,s6,s7,rfl,hl,rfl⟩:=hI;rw [i3];walk_at "pu";simp only [G0];exact h
def TPn (s r n:Nat):List (Nat×Nat):=(C2 ((n + s - 1) / s)).flatMap fun k=>(C2 (min (k * s + s) (n - 1) - k * s)).flatMap fun i=>(C2 (min (k * s + i + 1 + r) (min (k * s + s) (n - 1)) - (k * s + i))).map fun j=>(k * s + i,k * s + i + 1 + j)
theorem TP_n (s r n:Nat):TP s r n=(TPn s r n).map fun y=>pr y.1 y.2:=by
 unfold TP TPn TPk TPp;simp only [List.map_flatMap,b7]
 rfl
def allN (n:Nat):List (Nat×Nat):=(C2 n).flatMap fun p=>(C2 (n - 1 - p)).map fun j=>(p,p + 1 + j)
theorem TPn_a:∀s < 8,∀r < 8,∀n < 8,(!(decide (n<=s) && decide (n + 1<=r + 2)) || decide (TPn (s + 1) r (n + 1)=allN (n + 1)))=true:=by decide +kernel
theorem TP_a {s r n:Nat}(h2:s<=8)(hr:r<=7)(hn:1<=n)(ns:n<=s)(nr:n<=r + 2):TP s r n=(allN n).map fun y=>pr y.1 y.2:=by
 have:=TPn_a (s - 1) (by omega) r (by omega) (n - 1) (by omega);rw [decide_eq_true (show n - 1<=s - 1 by omega),decide_eq_true (show n - 1 + 1<=r + 2 by omega)] at this;have:TPn (s - 1 + 1) r (n - 1 + 1)=allN (n - 1 + 1):=of_decide_eq_true this;rw [show s - 1 + 1=s by omega,show n - 1 + 1=n by omega] at this;rw [TP_n,this]
theorem Ht {n a b:Nat}:(a,b)∈allN n↔a < b/\b < n:=by
 unfold allN;rw [List.mem_flatMap];constructor
 · rintro⟨p,hp,h⟩;obtain⟨j,hj,e⟩:=J8.mp h;have:=M1.mp hp;have:=M1.mp hj;cases e;omega
 · intro⟨h1,h2⟩;exact⟨a,M1.mpr (by omega),J8.mpr ⟨b - a - 1,M1.mpr (by omega),by rw [show a + 1 + (b - a - 1)=b by omega]⟩⟩
theorem Hu {a b:Nat}(h:b < a)(B:List Nat):∀A:List Nat,inv (A++a::b::B)=inv (A++b::a::B) + 1
 | [] => by
   show((b::B).filter fun x=>decide (x < a)).length + ((B.filter fun x=>decide (x < b)).length + inv B)=((a::B).filter fun x=>decide (x < b)).length + ((B.filter fun x=>decide (x < a)).length + inv B) + 1;rw [AV,AV,if_pos (decide_eq_true h),if_neg (by simp;omega),O5];omega
 | x :: A => by
   have ih:=Hu h B A;show((A++a::b::B).filter fun y=>decide (y < x)).length + inv (A++a::b::B)=((A++b::a::B).filter fun y=>decide (y < x)).length + inv (A++b::a::B) + 1;rw [ih,((List.Perm.swap b a B).append_left A).filter _ |>.length_eq];omega
theorem LK {st A B:List Str}{y b:Str}(e:st=A++y::b::B):exch st A.length (A.length + 1)=A++b::y::B/\nm st A.length=y/\nm st (A.length + 1)=b:=by
 subst e
 have n1:nm (A++y::b::B) A.length=y:=by
   have:=K7 (zs:=A++y::b::B) (i:=A.length) (by simp);rw [X1 (A8 _),Nat.sub_self] at this;exact(D7 this).symm
 have n2:nm (A++y::b::B) (A.length + 1)=b:=by
   have:=K7 (zs:=A++y::b::B) (i:=A.length + 1) (by simp);rw [X1 (by omega),show A.length + 1 - A.length=1 by omega] at this;exact(D7 this).symm
 refine⟨?_,n1,n2⟩;unfold exch;rw [n1,n2,List.set_append_right _ _ (A8 _),Nat.sub_self,List.set_append_right _ _ (by omega),show A.length + 1 - A.length=1 by omega]
 rfl
def led:List Str->List (Str×Str)->Option (List Str)
 | st,[]=>some st
 | st,p::ps=>if ixS st p.2 < ixS st p.1 then led (exch st (ixS st p.2) (ixS st p.1)) ps else none
theorem Ef:∀(ps:List (Str×Str)) (st st':List Str) (p:Str×Str),led st ps=some st'->ixS st' p.2 < ixS st' p.1->led st (ps++[p])=some (exch st' (ixS st' p.2) (ixS st' p.1))
 | [], st, st', p, h, c => by
   cases h;show(if _ then _ else _)=_;rw [if_pos c];rfl
 | a :: ps, st, st', p, h, c => by
   have h':(if ixS st a.2 < ixS st a.1 then led (exch st (ixS st a.2) (ixS st a.1)) ps else none)=some st':=h;show(if _ then _ else _)=_
   by_cases d:ixS st a.2 < ixS st a.1
   · rw [if_pos d] at h' ⊢;exact Ef ps _ _ p h' c
   · rw [if_neg d] at h';cases h'
theorem Hv {A B:List Str}{x:Str}(h:(A++x::B).Nodup):ixS (A++x::B) x=A.length:=
 K6 h (D2 (by simp)).1 (by rw [X1 (A8 _),Nat.sub_self];rfl)
structure Way (row other:List Str)(i:Nat)(st:List Str)(ps:List (Str×Str)):Prop where
 pm:st.Perm other
 hd:st.take i=other.take i
 ld:led row ps=some st
 nu:ps.length + inv (st.map (ixS other))=inv (row.map (ixS other))
 mm:∀p∈ps,p.1∈other/\p.2∈other
theorem LL {row other st:List Str}{i j:Nat}{b:Str}{ps:List (Str×Str)}(nd:other.Nodup)(w:Way row other i st ps)(hb:ixS other b=i)(hm:b∈other)(hj:ixS st b=j + 1)(ij:i<=j):Way row other i (exch st j (j + 1)) (ps++[(b,nm st j)])/\ixS (exch st j (j + 1)) b=j:=by
 have nds:=w.pm.nodup_iff.mpr nd;have bs:=w.pm.mem_iff.mpr hm;have jl:j + 1 < st.length:=by rw [<- hj];exact(C5.mp (D2 bs).1).1
 have eb:nm st (j + 1)=b:=by
   have:=(D2 bs).1;rw [hj,K7 jl] at this;exact D7 this
 have e:st=st.take j++nm st j::b::st.drop (j + 1 + 1):=by
   have e1:=K7 (zs:=st) (i:=j) (by omega);have e2:=K7 jl;rw [eb] at e2
   have d1:st.drop j=nm st j::st.drop (j + 1):=by
     rw [Z9 (by omega)];rw [C4 (by omega)] at e1;rw [D7 e1]
   have d2:st.drop (j + 1)=b::st.drop (j + 1 + 1):=by
     rw [Z9 jl];rw [C4 jl] at e2;rw [D7 e2]
   rw [<- d2,<- d1,Ch]
 have al:(st.take j).length=j:=by rw [X3];omega
 generalize hA:st.take j=A at *;generalize hB:st.drop (j + 1 + 1)=B at *;generalize hy:nm st j=y at *;obtain⟨x1,x2,x3⟩:=LK e;rw [al] at x1 x2 x3;rw [x1];have pm':(A++b::y::B).Perm st:=by rw [e];exact(List.Perm.swap y b B).append_left A
 have nd':=pm'.nodup_iff.mpr nds;have ym:y∈other:=w.pm.mem_iff.mp (by rw [e];simp)
 have yb:y≠b:=fun z=>by
   rw [e] at nds;have:=(AT.mp nds).2.1;rw [N0] at this;exact this.1 (by rw [z];simp)
 have iy:ixS st y=j:=by
   have:=Hv (A:=A) (B:=b::B) (x:=y) (by rw [<- e];exact nds);rw [<- e,al] at this;exact this
 have yi:i < ixS other y:=by
   have h1:¬ixS other y < i:=fun z=>by
     have a1:=(D2 ym).1;have a2:(other.take i)[ixS other y]?=some y:=by rw [j7,if_pos z];exact a1
     rw [<- w.hd,j7,if_pos z] at a2;have:=K6 nds a2 (D2 (w.pm.mem_iff.mpr ym)).1;omega
   have h2:ixS other y≠i:=fun z=>yb (Av ym hm (z.trans hb.symm));omega
 refine⟨⟨pm'.trans w.pm,?_,?_,?_,fun p hp=>?_⟩,?_⟩
 · have:=w.hd;rw [e,List.take_append_of_le_length (by omega)] at this;rw [List.take_append_of_le_length (by omega)];exact this
 · have:=Ef ps row st (b,y) w.ld (by show ixS st y < ixS st b;omega);rw [this];show some (exch st (ixS st y) (ixS st b))=_;rw [iy,hj,x1]
 · have h1:=w.nu;rw [e,K3,G7,G7,Hu (show ixS other b < ixS other y by omega)] at h1;rw [E3,b3,K3,G7,G7];omega
 · rcases E7.mp hp with hp | hp
   · exact w.mm p hp
   · rw [E1.mp hp];exact⟨hm,ym⟩
 · have:=Hv (A:=A) (B:=y::B) (x:=b) nd';rw [al] at this;exact this
theorem Eg {R:PV->Nat->Prop}(hi:i < f.length)(hj:j < f.length)(h:R (rowP (exch f i j)) n):Ay [rowP f,.int (i:Int),.int (j:Int)] n R:=by
 refine⟨rfl,?_⟩;unfold GG;unfold rowP at *;have ai:∀{k:Nat},k < f.length->atI (f.map PV.str) (k:Int)=some (.str (nm f k)):=fun {k} hk=>CL (by rw [G6,K7 hk];rfl);have e:((f.map PV.str).set i (.str (nm f j))).set j (.str (nm f i))=(exch f i j).map PV.str:=by unfold exch;rw [b6,b6]
 generalize hF:f.map PV.str=F at *;have Fl:F.length=f.length:=by rw [<- hF,A9]
 walk_at "pu";rw [ai hj];dsimp only;rw [ai hi];dsimp only;refine⟨⟨_,rfl⟩,?_⟩;rw [Y3 (by omega) (by omega)];dsimp only;rw [Y3 (by omega) (by rw [J0];omega)];dsimp only;rw [R0,R0,e];exact h
theorem LM {f:List Str}{i j n:Nat}{R:PV->Nat->Prop}(hi:i < f.length)(hj:j < f.length)(h:R (rowP (exch f i j)) n):DZ [rowP f,.int (i:Int),.int (j:Int)] n R:=by
 refine⟨rfl,?_⟩;unfold Hc;unfold rowP at *;have ai:∀{k:Nat},k < f.length->atI (f.map PV.str) (k:Int)=some (.str (nm f k)):=fun {k} hk=>CL (by rw [G6,K7 hk];rfl);have e:((f.map PV.str).set i (.str (nm f j))).set j (.str (nm f i))=(exch f i j).map PV.str:=by unfold exch;rw [b6,b6]
 generalize hF:f.map PV.str=F at *;have Fl:F.length=f.length:=by rw [<- hF,A9]
 walk_at "pu";rw [ai hj];dsimp only;rw [ai hi];dsimp only;refine⟨⟨_,rfl⟩,?_⟩;rw [Y3 (by omega) (by omega)];dsimp only;rw [Y3 (by omega) (by rw [J0];omega)];dsimp only;rw [R0,R0,e];exact h
theorem LN {J:Int}{k:Nat}{x:PV}{N:Nat}(h:((C2 N).map fun(k:Nat)=>PV.int (J - 1 - k))[k]?=some x):k < N/\x=.int (J - 1 - k):=by
 rw [G6] at h
 by_cases c:k < N
 · rw [List.getElem?_range c] at h;exact⟨c,(D7 h).symm⟩
 · rw [Q8 (by rw [AS];omega)] at h;cases h
theorem Hw (m:Nat):∀l:List Nat,l.length<=m->inv l<=m * l.length
 | [],_=>O7 _
 | a :: l, h => by
   have ih:=Hw m l (by rw [O5] at h;omega);have:=List.length_filter_le (fun b=>decide (b < a)) l;rw [O5] at h ⊢;show(l.filter fun b=>decide (b < a)).length + inv l<=m * (l.length + 1);rw [Nat.mul_succ];omega
def prS (p:Str×Str):PV:=.tup [.str p.1,.str p.2]
theorem LO {row other:List Str}{n:Nat}{R:PV->Nat->Prop}(nd:other.Nodup)(pm:row.Perm other)(h1:1<=other.length)(h2:other.length<=24)(h:∀ps,Way row other other.length other ps->R (.tup (ps.map prS)) n):DL [rowP row,rowP other] n R:=by
 refine⟨rfl,?_⟩;unfold GH;have hr1:rowP other=.tup (other.map PV.str):=rfl;have hix:∀{st:List Str} {z:Str},st.Perm other->z∈other->∀{R:PV->Prop},R (.int (ixS st z))->O3 (rowP st) (.str z) R:=fun {st z} p hz {R} q=>m_ix rfl (p.mem_iff.mpr hz) (by rw [p.length_eq];omega) q
 have hat:∀{st:List Str} {i:Nat} {R:PV->Prop},i < st.length->R (.str (nm st i))->wIx (rowP st) (.int (i:Int)) R:=fun {st i R} hi q=>by
   show match atI (st.map PV.str) (i:Int) with | some z=>R z | none=>False
   rw [AE rfl hi];exact q
 rw [hr1];have Ol:(other.map PV.str).length=other.length:=A9 ..;generalize hO:other.map PV.str=O at *;generalize hW:rowP row=W;walk_at "pu";refine M7 (fun i env m=>∃(st:List Str) (ps:List (Str×Str)) (s4 s5 s6:Option Pu.Slot),env=[some (.v W),some (.v (.tup O)),some (.v (rowP st)),some (.own (ps.map prS)),s4,s5,s6]/\Way row other i st ps/\m=n) _ 0 _ _ ⟨row,[],none,none,none,by rw [hW];rfl,⟨pm,rfl,rfl,(by show 0 + _=_;omega),(fun _ z=>nomatch z)⟩,rfl⟩ (fun i x env m N ex hI hN=>?_) (fun env m hI=>?_)
 · obtain⟨st,ps,s4,s5,s6,rfl,w,rfl⟩:=hI;rw [G0] at w hN;obtain⟨y,ey,rfl⟩:=Bx ex;rw [<- hO] at ey;obtain⟨b,eb,rfl⟩:=W5 ey;have il:i < other.length:=(C5.mp eb).1;have hm:=J7 eb;have hb:ixS other b=i:=K6 nd (D2 hm).1 eb;have hx:=fun(R:PV->Prop) q=>hix (R:=R) w.pm hm q
   have hj:i<=ixS st b:=by
     by_cases c:ixS st b < i
     · exfalso
       have a1:=(D2 (w.pm.mem_iff.mpr hm)).1;have a2:(st.take i)[ixS st b]?=some b:=by rw [j7,if_pos c];exact a1
       rw [w.hd,j7,if_pos c] at a2;have:=K6 nd a2 eb;omega
     · omega
   have jl:ixS st b < st.length:=(C5.mp (D2 (w.pm.mem_iff.mpr hm)).1).1;have sl:=w.pm.length_eq;generalize hS:rowP st=S at *;generalize hP:ps.map prS=PP at *;walk_at "pu";refine⟨⟨_,hS.symm⟩,hx _ ⟨⟨by omega,by omega,by omega⟩,?_⟩⟩;clear hx;generalize hJ:ixS st b=J at *;refine M7 (fun k env m'=>∃(st:List Str) (ps:List (Str×Str)) (s6:Option Pu.Slot),env=[some (.v W),some (.v (.tup O)),some (.v (rowP st)),some (.own (ps.map prS)),some (.v (.int (i:Int))),some (.v (.str b)),s6]/\Way row other i st ps/\ixS st b=J - k/\m'=m) _ 0 _ _ ⟨st,ps,s6,by rw [hS,hP],w,hJ,rfl⟩ (fun k x env m' N' ex' hI hN'=>?_) (fun env m' hI=>?_)
   · obtain⟨st,ps,s6,rfl,w,hk,rfl⟩:=hI;obtain⟨hk2,rfl⟩:=LN ex';rw [G0] at hk hN';obtain⟨w',hb'⟩:=LL nd w hb hm (show ixS st b=(J - 1 - k) + 1 by omega) (by omega);have sl:=w.pm.length_eq
     have lp:ps.length<=576:=by
       have:=w.nu;have:=Hw 24 (row.map (ixS other)) (by rw [A9,pm.length_eq];exact h2);rw [A9,pm.length_eq] at this;omega
     have mx:=fun(R:PV->Nat->Prop) q=>Eg (f:=st) (i:=J - 1 - k) (j:=J - 1 - k + 1) (n:=m') (R:=R) (by omega) (by omega) q;have ha:=fun(R:PV->Prop) q=>hat (st:=st) (i:=J - 1 - k) (R:=R) (by omega) q;have Pl:(ps.map prS).length=ps.length:=A9 ..;have e1:ps.map prS++[.tup [.str b,.str (nm st (J - 1 - k))]]=(ps++[(b,nm st (J - 1 - k))]).map prS:=by rw [K3];rfl
     rw [show((J:Nat):Int) - 1 - (k:Int)=((J - 1 - k:Nat):Int) by omega];generalize hS:rowP st=S at *;generalize ps.map prS=PP at *;walk_at "pu";rw [show((J - 1 - k:Nat):Int) + 1=((J - 1 - k + 1:Nat):Int) by omega];refine⟨⟨_,rfl⟩,ha _ ⟨by omega,mx _ ?_⟩⟩;rw [e1];exact hN' _ _ ⟨_,_,_,rfl,w',by omega,rfl⟩
   · obtain⟨st,ps,s6,rfl,w,hk,rfl⟩:=hI;rw [G0,A9,AS] at hk;refine hN _ _ ⟨st,ps,_,_,_,rfl,⟨w.pm,?_,w.ld,w.nu,w.mm⟩,rfl⟩;have a1:=(D2 (w.pm.mem_iff.mpr hm)).1;rw [hk,show J - ((J:Int) - i).toNat=i by omega] at a1;rw [U9 a1,U9 eb,w.hd]
 · obtain⟨st,ps,s4,s5,s6,rfl,w,rfl⟩:=hI;rw [Aj,Ol] at w;rw [G0] at w
   have e:st=other:=by
     have:=w.hd;rw [V2 (by rw [w.pm.length_eq];exact A8 _),V2 (A8 _)] at this;exact this
   subst e;generalize hP:ps.map prS=PP;walk_at "pu";rw [<- hP];exact h ps w
theorem Hx (g:List Nat):∀(suf:List Nat) (k:Nat),g.drop k=suf->((suf.zipIdx k).map fun y=>(((g.drop y.2).filter fun b=>decide (b < y.1)).length:Int)).sum=(inv suf:Int)
 | [],_,_=>rfl
 | a :: suf, k, h => by
   have ih:=Hx g suf (k + 1) (by have:=congrArg List.tail h;rw [List.tail_drop] at this;exact this);rw [List.zipIdx_cons,G7,List.sum_cons,ih,h];show(((a::suf).filter fun b=>decide (b < a)).length:Int) + _=(((suf.filter fun b=>decide (b < a)).length + inv suf:Nat):Int);rw [AV,if_neg (by simp)];omega
theorem Hy {α:Type}(f:α->Int):∀l:List α,Z4 (l.map fun y=>PV.int (f y))=some (l.map f)
 | []=>rfl
 | a :: l => by
   show(Z4 (l.map fun y=>PV.int (f y))).map _=_;rw [Hy f l];rfl
theorem Eh {a:Nat}{rest:Pu.Env}:∀(l:List Nat) (s0:Option Pu.Slot) (n:Nat) (R:List PV->Nat->Prop),R (k7 (l.filter fun b=>decide (b < a)).length (.int 1)) n->Q3 (gN 0) (qB (qOp wLt (qV 0) (qV 1))) (qC (.int 1)) (l.map pinN) (s0::some (.v (pinN a))::rest) n R
 | [],_,_,_,h=>h
 | b :: l, s0, n, R, h => by
   rw [AV] at h;show(if decide ((b:Int) < (a:Int))=true then _ else _)
   by_cases c:b < a
   · rw [if_pos (decide_eq_true c)] at h;exact if_t (decide_eq_true (by omega)) (Eh l _ _ _ h)
   · rw [if_neg (by simpa using c)] at h;exact if_f (decide_eq_false (by omega)) (Eh l _ _ _ h)
theorem LP {zs ys:List Str}{n:Nat}{R:PV->Nat->Prop}(h2:zs.length<=24)(pm:ys.Perm zs)(h:R (.int (inv (zs.map (ixS ys)):Nat)) n):DX [rowP zs,rowP ys] n R:=by
 refine⟨rfl,?_⟩;unfold GZ;have ly:=pm.length_eq;have hix:∀z∈zs,∀{R:PV->Prop},R (.int (ixS ys z))->O3 (.tup (ys.map PV.str)) (.str z) R:=fun z hz {R} q=>m_ix rfl (pm.mem_iff.mpr hz) (by omega) q;have hr0:rowP zs=.tup (zs.map PV.str):=rfl;have hr1:rowP ys=.tup (ys.map PV.str):=rfl;generalize hY:ys.map PV.str=Y at *;have Zl:(zs.map PV.str).length=zs.length:=A9 ..;rw [hr0,hr1];generalize hZ:zs.map PV.str=Z at *;walk_at "pu";refine⟨by omega,?_⟩;rw [<- hZ];refine As PV.str (fun z=>pinN (ixS ys z)) zs _ _ _ (fun z hz m Q hQ=>?_) ?_
 · walk_at "pu";exact⟨⟨_,rfl⟩,hix z hz hQ⟩
 · have eg:(zs.map fun z=>pinN (ixS ys z))=(zs.map (ixS ys)).map pinN:=by rw [b7];rfl
   have gl:(zs.map (ixS ys)).length=zs.length:=A9 ..;rw [eg];generalize zs.map (ixS ys)=g at *
   have ee:Y9 (g.map pinN)=g.zipIdx.map fun y=>PV.tup [.int (y.2:Nat),pinN y.1]:=by
     unfold Y9;rw [List.zipIdx_map,b7];rfl
   rw [ee];refine⟨by rw [A9,List.length_zipIdx];omega,?_⟩;refine Go (fun y:Nat×Nat=>.int (y.2:Nat)) (fun y=>pinN y.1) (fun y=>.int (((g.drop y.2).filter fun b=>decide (b < y.1)).length:Int)) g.zipIdx _ _ _ _ (fun y hy m Q hQ=>?_) ?_
   · have ec:cutP (g.map pinN) (some ((y.2:Nat):Int)) none=(g.drop y.2).map pinN:=by rw [Db,Gx]
     have Gl:(g.map pinN).length=zs.length:=by rw [A9,gl]
     generalize hG:g.map pinN=G at *;walk_at "pu";rw [ec];refine⟨by rw [A9,Q9];omega,Eh _ _ _ _ ?_⟩;rw [Cg];exact hQ
   · rw [Hy];have es:=Hx g g 0 rfl;refine⟨by rw [A9,List.length_zipIdx];omega,fun i hi=>?_,by rw [es];exact h⟩;obtain⟨y,_,rfl⟩:=J8.mp hi;have:=List.length_filter_le (fun b=>decide (b < y.1)) (g.drop y.2);rw [Q9] at this;exact⟨by omega,by omega⟩
theorem M9 (h:∀U:pS,U=q->p { D with nx:=fun e m=>U D e m } env n):qSeq p q D env n:=h q rfl
theorem pr_mem {a b n:Nat}(hb:b < n):memP (pr a b) ((allN n).map fun y=>pr y.1 y.2)=decide (a < b):=by
 unfold memP;rw [List.any_map,b9,b4,decide_eq_true_eq];constructor
 · rintro⟨⟨p,q⟩,hp,e⟩;have e:(decide ((p:Int)=(a:Int)) && (decide ((q:Int)=(b:Int)) && true))=true:=e;simp only [Bool.and_true,V4,decide_eq_true_eq] at e;have:=Ht.mp hp;omega
 · intro e;refine⟨(a,b),Ht.mpr ⟨e,hb⟩,?_⟩;show(decide ((a:Int)=(a:Int)) && (decide ((b:Int)=(b:Int)) && true))=true;rw [decide_eq_true rfl,decide_eq_true rfl];rfl
theorem Ei:∀a b:List Str,eqPs (a.map PV.str) (b.map PV.str)=decide (a=b)
 | [],[]=>rfl
 | [],_::_=>rfl
 | _::_,[]=>rfl
 | x :: a, y :: b => by
   rw [G7,G7,FW,Ei a b,Z2]
   by_cases c:x=y <;> by_cases d:a=b <;> simp [c,d]
theorem LQ {s r:Nat}{p q n:Nat}{R:PV->Nat->Prop}(h2:s<=8)(hr:r<=7)(hp:p < s)(hq:q < s)(hq2:q<=r + 1)(h:R (.bl (decide (p < q))) n):D_ [.tup [.int s,.int r],.int p,.int q] n R:=by
 refine⟨rfl,?_⟩;unfold Hd;walk_at "pu"
 by_cases c:p < q
 · rw [decide_eq_true c] at h;have e3:(p:Int) / (s:Int) * (s:Int)=((p / s * s:Nat):Int):=by rw [Int.natCast_mul,Int.natCast_ediv]
   refine if_t (decide_eq_true (by omega)) (if_t (decide_eq_true (by omega)) ⟨⟨by omega,by omega⟩,.inr ⟨by omega,by omega⟩,?_⟩);rw [e3,Nat.div_eq_of_lt hp,decide_eq_true (by omega)];exact h
 · rw [decide_eq_false c] at h;exact if_f (decide_eq_false (by omega)) h
theorem Hz {st:List Str}{p:Str×Str}{ps:List (Str×Str)}:led st (p::ps)=if ixS st p.2 < ixS st p.1 then led (exch st (ixS st p.2) (ixS st p.1)) ps else none:=rfl
theorem HA {α:Type}{l:List α}{i:Nat}{x:α}(h:l[i]?=some x):l.drop i=x::l.drop (i + 1):=by
 obtain⟨hi,e⟩:=C5.mp h;rw [Z9 hi,e]
theorem LR {s r n:Nat}{row other:List Str}{ps:List (Str×Str)}{R:PV->Nat->Prop}(h2:s<=8)(hr:r<=7)(l1:1<=row.length)(ls:row.length<=s)(lr:row.length<=r + 2)(hp:∀p∈ps,p.1∈row/\p.2∈row)(h:R (.bl (decide (led row ps=some other))) n):DR [.tup [.int s,.int r],rowP row,rowP other,.tup (ps.map prS)] n R:=by
 refine⟨rfl,?_⟩;unfold GR;have hr1:rowP other=.tup (other.map PV.str):=rfl;have hr0:rowP row=.tup (row.map PV.str):=rfl;have hix:∀{st:List Str} {z:Str},st.Perm row->z∈row->∀{R:PV->Prop},R (.int (ixS st z))->O3 (rowP st) (.str z) R:=fun {st z} p hz {R} q=>m_ix rfl (p.mem_iff.mpr hz) (by rw [p.length_eq];omega) q;have mt:∀{R:PV->Nat->Prop},R (.tup (TP s r row.length)) n->BS [.tup [.int s,.int r],.int (row.length:Nat)] n R:=fun q=>LJ (r:=r) (by omega) h2 hr l1 (by omega) q;rw [TP_a h2 hr l1 ls lr] at mt
 have ct:(((allN row.length).map fun y=>pr y.1 y.2):List PV).all (cmpb 4)=true:=F9.mpr fun y hy=>by
   obtain⟨p,_,rfl⟩:=J8.mp hy
   rfl
 have mp:=fun(a b:Nat) (hb:b < row.length)=>pr_mem (a:=a) (b:=b) (n:=row.length) hb;generalize hT:(allN row.length).map (fun y=>pr y.1 y.2)=T at *;have Rl:(row.map PV.str).length=row.length:=A9 ..;refine M9 fun U hU=>?_;rw [hr0];walk_at "pu";rw [Rl];refine mt ?_;subst hU;rw [<- hr0];refine M9 fun U hU=>?_;generalize hW:rowP row=W at *;generalize hO:rowP other=O at *;walk_at "pu";subst hU;refine M9 fun U hU=>?_;walk_at "pu";refine M7 (fun i env m=>∃(st:List Str) (s6 s7 s8 s9:Option Pu.Slot),env=[some (.v (.tup [.int s,.int r])),some (.v W),some (.v O),some (.v (.tup (ps.map prS))),some (.v (.tup T)),some (.v (rowP st)),s6,s7,s8,s9]/\st.Perm row/\led st (ps.drop i)=led row ps/\m=n) _ 0 _ _ ⟨row,none,none,none,none,by rw [hW],List.Perm.refl _,rfl,rfl⟩ (fun i x env m N ex hI hN=>?_) (fun env m hI=>?_)
 · obtain⟨st,s6,s7,s8,s9,rfl,pm,hd,rfl⟩:=hI;rw [G0] at hd hN;obtain⟨p,ep,rfl⟩:=W5 ex;obtain⟨p1,p2⟩:=hp p (J7 ep);rw [HA ep,Hz] at hd;have x1:=fun(R:PV->Prop) q=>hix (R:=R) pm p1 q;have x2:=fun(R:PV->Prop) q=>hix (R:=R) pm p2 q;have i1:ixS st p.1 < row.length:=by rw [<- pm.length_eq];exact(C5.mp (D2 (pm.mem_iff.mpr p1)).1).1
   have i2:ixS st p.2 < row.length:=by rw [<- pm.length_eq];exact(C5.mp (D2 (pm.mem_iff.mpr p2)).1).1
   have mx:=fun(R:PV->Nat->Prop) q=>Eg (f:=st) (i:=ixS st p.2) (j:=ixS st p.1) (n:=m) (R:=R) (by rw [pm.length_eq];exact i2) (by rw [pm.length_eq];exact i1) q;have pm':=(Aw (f:=st) (i:=ixS st p.2) (j:=ixS st p.1) (by rw [pm.length_eq];exact i2) (by rw [pm.length_eq];exact i1)).trans pm;have ip:=mp (ixS st p.2) (ixS st p.1) i1;have eS:rowP st=.tup (st.map PV.str):=rfl;generalize hS:rowP st=S at *;generalize hPP:ps.map prS=PP at *;unfold prS;walk_at "pu";refine⟨⟨_,eS⟩,x2 _ ⟨⟨_,eS⟩,x1 _ ⟨rfl,ct,?_⟩⟩⟩;rw [ip]
   by_cases c:ixS st p.2 < ixS st p.1
   · rw [if_pos c] at hd;rw [decide_eq_true c];exact if_f rfl (mx _ (hN _ _ ⟨_,_,_,_,_,rfl,pm',hd,rfl⟩))
   · rw [if_neg c] at hd;rw [decide_eq_false c];rw [<- hd] at h;exact if_t rfl (by simpa using h)
 · obtain⟨st,s6,s7,s8,s9,rfl,pm,hd,rfl⟩:=hI;rw [G0,A9,j9] at hd;have hd:some st=led row ps:=hd;rw [<- hd] at h;have e:=Ei st other;have hO':O=.tup (other.map PV.str):=hO.symm;have c1:=u5 st 3;have c2:=u5 other 3;rw [show rowP st=.tup (st.map PV.str) from rfl,hO'];generalize st.map PV.str=S at *;generalize other.map PV.str=Q at *;generalize ps.map prS=PP at *;subst hU;walk_at "pu";rw [show decide (some st=some other)=decide (st=other) by simp,<- e] at h;exact gd2 c1 c2 h
theorem m_lled {s r n:Nat}{row:List Str}{ps:List (Str×Str)}{R:PV->Nat->Prop}(h2:s<=8)(hr:r<=7)(ls:row.length<=s)(lr:row.length<=r + 2)(hp:∀p∈ps,p.1∈row/\p.2∈row)(h:R (match led row ps with | some st=>rowP st | none=>.non) n):Ea [.tup [.int s,.int r],rowP row,.tup (ps.map prS)] n R:=by
 refine⟨rfl,?_⟩;unfold He;have hix:∀{st:List Str} {z:Str},st.Perm row->z∈row->∀{R:PV->Prop},R (.int (ixS st z))->O3 (rowP st) (.str z) R:=fun {st z} p hz {R} q=>m_ix rfl (p.mem_iff.mpr hz) (by rw [p.length_eq];omega) q;have hin:∀{st:List Str} {z:Str},st.Perm row->z∈row->∀{R:PV->Prop},R (.bl false)->wIn 4 true (.str z) (rowP st) R:=fun {st z} p hz {R} q=>Lj rfl (by rw [decide_eq_true (p.mem_iff.mpr hz)];exact q);generalize hPP:ps.map prS=PP at *;refine M9 fun U hU=>?_;generalize hW:rowP row=W at *;walk_at "pu";subst hU;refine M9 fun U hU=>?_;walk_at "pu";refine M7 (fun i env m=>∃(st:List Str) (s3 s4 s5:Option Pu.Slot),env=[some (.v (.tup [.int s,.int r])),some (.v (rowP st)),some (.v (.tup PP)),s3,s4,s5]/\st.Perm row/\led st (ps.drop i)=led row ps/\m=n) _ 0 _ _ ⟨row,none,none,none,by rw [hW],List.Perm.refl _,rfl,rfl⟩ (fun i x env m N ex hI hN=>?_) (fun env m hI=>?_)
 · obtain⟨st,s3,s4,s5,rfl,pm,hd,rfl⟩:=hI;rw [G0] at hd hN;rw [<- hPP] at ex;obtain⟨p,ep,rfl⟩:=W5 ex;obtain⟨p1,p2⟩:=hp p (J7 ep);rw [HA ep,Hz] at hd;have x1:=fun(R:PV->Prop) q=>hix (R:=R) pm p1 q;have x2:=fun(R:PV->Prop) q=>hix (R:=R) pm p2 q;have y1:=fun(R:PV->Prop) q=>hin (R:=R) pm p1 q;have y2:=fun(R:PV->Prop) q=>hin (R:=R) pm p2 q;have i1:ixS st p.1 < row.length:=by rw [<- pm.length_eq];exact(C5.mp (D2 (pm.mem_iff.mpr p1)).1).1
   have i2:ixS st p.2 < row.length:=by rw [<- pm.length_eq];exact(C5.mp (D2 (pm.mem_iff.mpr p2)).1).1
   have mx:=fun(R:PV->Nat->Prop) q=>LM (f:=st) (i:=ixS st p.2) (j:=ixS st p.1) (n:=m) (R:=R) (by rw [pm.length_eq];exact i2) (by rw [pm.length_eq];exact i1) q;have mp:=fun(R:PV->Nat->Prop) q=>LQ (s:=s) (r:=r) (p:=ixS st p.2) (q:=ixS st p.1) (n:=m) (R:=R) h2 hr (by omega) (by omega) (by omega) q;have pm':=(Aw (f:=st) (i:=ixS st p.2) (j:=ixS st p.1) (by rw [pm.length_eq];exact i2) (by rw [pm.length_eq];exact i1)).trans pm;have eS:rowP st=.tup (st.map PV.str):=rfl;generalize hS:rowP st=S at *;unfold prS;walk_at "pu";refine if_f (by decide) (y1 _ (if_f rfl (y2 _ (if_f rfl ⟨⟨_,eS⟩,x2 _ ⟨⟨_,eS⟩,x1 _ (mp _ ?_)⟩⟩))))
   by_cases c:ixS st p.2 < ixS st p.1
   · rw [if_pos c] at hd;rw [decide_eq_true c];exact if_f rfl (mx _ (hN _ _ ⟨_,_,_,_,rfl,pm',hd,rfl⟩))
   · rw [if_neg c] at hd;rw [decide_eq_false c];rw [<- hd] at h;exact if_t rfl h
 · obtain⟨st,s3,s4,s5,rfl,pm,hd,rfl⟩:=hI;rw [<- hPP,G0,A9,j9] at hd;have hd:some st=led row ps:=hd;rw [<- hd] at h;have h:R (rowP st) m:=h;subst hU;generalize hS:rowP st=S at *;walk_at "pu";exact h
abbrev bk (zs:List Str):List Key:=zs.map P5
theorem BV {z:Str}{zs:List Str}:memS (bk zs) (.inr z)=decide (z∈zs):=by
 unfold memS bk;rw [b9,b4,decide_eq_true_iff];constructor
 · rintro⟨k,hk,e⟩;obtain⟨y,hy,rfl⟩:=J8.mp hk;have:y=z:=by simpa using e
   rw [<- this];exact hy
 · intro h;exact⟨.inr z,J8.mpr ⟨z,h,rfl⟩,by simp⟩
theorem LS {zs ys:List Str}{f:Str->Str}{n:Nat}{D:Q4}{a3 a4:Option Pu.Slot}(P:Prm f zs)(hl:zs.length<=24)
   (hstep:∀z∈zs,∀{R:PV->Prop},R (.str (f z))->O3 (.tup (zs.map PV.str)) (.str z) fun w=>wIx (.tup (ys.map PV.str)) w R):∀(u:Nat) (se:List Str) (at_:Str),se.Nodup->(∀z∈se,z∈zs)->at_∈zs->zs.length - se.length<=u->
   (∀(se':List Str) (at':Str),se'.Nodup->(∀z∈se',z∈zs)->(∀z∈se,z∈se')->(∀z∈se',z∈se\/(z∈se'/\Rch f at_ z/\f z∈se'))->at_∈se'->D.nx [some (.v (.tup (zs.map PV.str))),some (.v (.tup (ys.map PV.str))),some (.ow (.st (bk se')) []),a3,a4,some (.v (.str at'))] n)->
   N8 (qB (qInS true 2 (qV 5))) (qSeq (Q5 (u4 2 (qV 5))) (qSet 5 (qOp wIx (qV 1) (K5 (qV 0) (qV 5))))) D (u + 1) [some (.v (.tup (zs.map PV.str))),some (.v (.tup (ys.map PV.str))),some (.ow (.st (bk se)) []),a3,a4,some (.v (.str at_))] n:=by
 intro u
 induction u with
 | zero =>
   intro se at_ nd sub ha hu h
   have full:at_∈se:=by
     have h1:=nd.length_le_of_subset sub;have h2:zs.length<=se.length:=by omega
     apply Cu
     intro no;have:=(N0.mpr ⟨no,nd⟩).length_le_of_subset fun z hz=>(C0.mp hz).elim (fun e=>e▸ha) (sub z);rw [O5] at this;omega
   have:=h se at_ nd sub (fun z hz=>hz) (fun z hz=>.inl hz) full;generalize hZ:zs.map PV.str=Z at *;generalize hY:ys.map PV.str=Y at *;have eb:memS (bk se) (.inr at_)=true:=by rw [BV];exact decide_eq_true full
   generalize bk se=B at *;simp only [N8];walk_at "pu";rw [eb];exact this
 | succ u ih =>
   intro se at_ nd sub ha hu h
   by_cases c:at_∈se
   · have:=h se at_ nd sub (fun z hz=>hz) (fun z hz=>.inl hz) c;generalize hZ:zs.map PV.str=Z at *;generalize hY:ys.map PV.str=Y at *;have eb:memS (bk se) (.inr at_)=true:=by rw [BV];exact decide_eq_true c
     generalize bk se=B at *;rw [N8];walk_at "pu";rw [eb];exact this
   · have eb:memS (bk se) (.inr at_)=false:=by rw [BV];exact decide_eq_false c
     have sl:=nd.length_le_of_subset sub;have bl:(bk se).length=se.length:=A9 ..;have nx:=ih (se++[at_]) (f at_) (AT.mpr ⟨nd,by simp,fun a h1 b h2 e=>c (by rw [<- E1.mp h2,<- e];exact h1)⟩) (fun z hz=>(E7.mp hz).elim (sub z) fun z'=>by rw [E1.mp z'];exact ha) (P.st _ ha) (by rw [E3,b3];omega) fun se' at' s1 s2 s3 s4 s5=>h se' at' s1 s2 (fun z hz=>s3 z (j6 _ hz)) (fun z hz=>?_) (s3 at_ (by simp))
     · have e2:bk (se++[at_])=bk se++[.inr at_]:=K3;rw [e2] at nx;have hst:=fun {R:PV->Prop}=>@hstep at_ ha R;generalize hZ:zs.map PV.str=Z at *;generalize hY:ys.map PV.str=Y at *;generalize bk se=B at *;rw [N8];walk_at "pu";rw [eb];simp only [k8,if_false,Bool.not_false,if_true];have q:=hst (R:=fun v=>N8 (qB (qInS true 2 (qV 5))) (qSeq (Q5 (u4 2 (qV 5))) (qSet 5 (qOp wIx (qV 1) (K5 (qV 0) (qV 5))))) D (u + 1) [some (.v (.tup Z)),some (.v (.tup Y)),some (.ow (.st (B++[P5 at_])) []),a3,a4,some (.v v)] n) nx;simp only [wIx] at q;exact⟨⟨_,_,rfl⟩,by omega,⟨_,rfl⟩,q⟩
     · rcases s4 z hz with s | ⟨_,s6,s7⟩
       · rcases E7.mp s with s | s
         · exact .inl s
         · rw [E1.mp s];exact .inr ⟨s3 at_ (by simp),⟨0,rfl⟩,s5⟩
       · exact .inr ⟨hz,Rch.trans ⟨1,rfl⟩ s6,s7⟩
theorem LT {zs ys:List Str}{n:Nat}{R:PV->Nat->Prop}(nd:zs.Nodup)(h2:zs.length<=24)(pm:ys.Perm zs)(c:Str->Nat)(hc:∀x∈zs,∀y∈zs,Rch (nxB zs ys) x y↔c x=c y)(h:R (.int ((ddN (zs.map c)).length:Nat)) n):Az [rowP zs,rowP ys] n R:=by
 refine⟨rfl,?_⟩;unfold GJ;have ly:=pm.length_eq;have P:=i6 nd pm
 have hstep:∀z∈zs,∀{R:PV->Prop},R (.str (nxB zs ys z))->O3 (.tup (zs.map PV.str)) (.str z) fun w=>wIx (.tup (ys.map PV.str)) w R:=fun z hz {R} q=>m_ix rfl hz (by omega) (by
   show match atI (ys.map PV.str) ((ixS zs z:Nat):Int) with | some z=>R z | none=>False
   rw [AE rfl (show ixS zs z < ys.length by rw [ly];exact u6 hz)]
   exact q)
 have hr0:rowP zs=.tup (zs.map PV.str):=rfl;have hr1:rowP ys=.tup (ys.map PV.str):=rfl;have mw:=fun(D:Q4) (a3 a4:Option Pu.Slot)=>@LS zs ys (nxB zs ys) n D a3 a4 P h2 hstep;have hmem:∀i z,(zs.map PV.str)[i]?=some z->∃b,zs[i]?=some b/\z=PV.str b:=fun i z hz=>W5 (f:=PV.str) hz;have Zl:(zs.map PV.str).length=zs.length:=A9 ..;rw [hr0,hr1];generalize hZ:zs.map PV.str=Z at *;generalize hY:ys.map PV.str=Y at *;walk_at "pu";refine M7 (fun i env m=>∃s4 s5,∃se:List Str,env=[some (.v (.tup Z)),some (.v (.tup Y)),some (.ow (.st (bk se)) []),some (.v (.int ((ddN ((zs.take i).map c)).length:Nat))),s4,s5]/\se.Nodup/\(∀z∈se,z∈zs)/\(∀z∈se,nxB zs ys z∈se)/\(∀z∈se,∃x∈zs.take i,Rch (nxB zs ys) x z)/\(∀x∈zs.take i,x∈se)/\m=n) _ 0 _ _ ⟨none,none,[],rfl,AY,(fun _ z=>by cases z),(fun _ z=>by cases z),(fun _ z=>by cases z),(fun _ z=>by simp at z),rfl⟩ (fun i x env m N ex hI hN=>?_) (fun env m hI=>?_)
 · obtain⟨b,eb,rfl⟩:=hmem i x ex;obtain⟨s4,s5,se,rfl,s1,s2,s3,s6,s7,rfl⟩:=hI;rw [G0] at s6 s7 hN ⊢;have hb:=J7 eb;have tk:=U9 eb
   have cl:∀x∈se,∀k,itr (nxB zs ys) k x∈se:=fun x hx k=>by
     induction k with
     | zero=>exact hx
     | succ k ih=>exact s3 _ ih
   have seen:b∈se↔c b∈ddN ((zs.take i).map c):=by
     rw [(W7 _).2,J8];constructor
     · intro hb';obtain⟨x,hx,r⟩:=s6 b hb';exact⟨x,hx,(hc x (V3 hx) b hb).mp r⟩
     · rintro⟨x,hx,e⟩;obtain⟨k,rfl⟩:=(hc x (V3 hx) b hb).mpr e;exact cl x (s7 x hx) k
   have cnt:(ddN ((zs.take (i + 1)).map c)).length=(ddN ((zs.take i).map c)).length + if b∈se then 0 else 1:=by
     rw [tk,K3];show(ddN ((zs.take i).map c++[c b])).length=_;rw [u9]
     by_cases cb:b∈se
     · rw [if_pos (seen.mp cb),if_pos cb];rfl
     · rw [if_neg (fun z=>cb (seen.mpr z)),if_neg cb,E3];rfl
   have goal:∀(D:Q4),D.nx=N->∀(many:Nat),many=(ddN ((zs.take (i + 1)).map c)).length->q8 (qB (qInS true 2 (qV 5))) (qSeq (Q5 (u4 2 (qV 5))) (qSet 5 (qOp wIx (qV 1) (K5 (qV 0) (qV 5))))) D [some (.v (.tup Z)),some (.v (.tup Y)),some (.ow (.st (bk se)) []),some (.v (.int (many:Int))),some (.v (.str b)),some (.v (.str b))] m:=fun D hD many em=>by
     subst hD;refine⟨_,mw _ _ _ (zs.length - se.length) se b s1 s2 hb (A8 _) fun se' at' t1 t2 t3 t4 t5=>hN _ _ ⟨some (.v (.str b)),some (.v (.str at')),se',by rw [em],t1,t2,fun z hz=>?_,fun z hz=>?_,fun x hx=>?_,rfl⟩⟩
     · rcases t4 z hz with z' | ⟨_,_,z'⟩
       · exact t3 _ (s3 z z')
       · exact z'
     · rw [tk];rcases t4 z hz with z' | ⟨_,z',_⟩
       · obtain⟨x,hx,r⟩:=s6 z z';exact⟨x,j6 _ hx,r⟩
       · exact⟨b,by simp,z'⟩
     · rw [tk] at hx;rcases E7.mp hx with hx | hx
       · exact t3 x (s7 x hx)
       · rw [E1.mp hx];exact t5
   have em:memS (bk se) (.inr b)=decide (b∈se):=BV;generalize hD:ddN ((zs.take i).map c)=dd at *;generalize hB:bk se=B at *;walk_at "pu";rw [em]
   by_cases cb:b∈se
   · rw [if_pos cb] at cnt;exact if_f (by rw [decide_eq_true cb];rfl) (goal _ rfl dd.length (by omega))
   · rw [if_neg cb] at cnt;refine if_t (by rw [decide_eq_false cb];rfl) ?_;have:=goal { nx:=N,rt:=R,bk:=fun e m=>match e[3]? with | some (some (Slot.v x))=>R x m | x=>False,ct:=N } rfl (dd.length + 1) (by omega);rw [show((dd.length + 1:Nat):Int)=(dd.length:Int) + 1 by omega] at this;exact this
 · obtain⟨s4,s5,se,rfl,s1,s2,s3,s6,s7,rfl⟩:=hI;rw [Zl,G0,x8];generalize bk se=B;walk_at "pu";exact h
def tr (_:Str):PV:=.bl true
theorem BW {z:Str}{zs:List Str}:memK (bk zs) (.inr z)=decide (z∈zs):=by
 unfold memK bk;rw [b9,b4,decide_eq_true_iff];constructor
 · rintro⟨k,hk,e⟩;obtain⟨y,hy,rfl⟩:=J8.mp hk;have:y=z:=by simpa using e
   rw [<- this];exact hy
 · intro h;exact⟨.inr z,J8.mpr ⟨z,h,rfl⟩,by simp⟩
theorem LU {zs ys:List Str}{f:Str->Str}{n:Nat}{D:Q4}{a3 a4:Option Pu.Slot}(P:Prm f zs)(hl:zs.length<=24)
   (hstep:∀z∈zs,∀{R:PV->Prop},R (.str (f z))->O3 (.tup (zs.map PV.str)) (.str z) fun w=>wIx (.tup (ys.map PV.str)) w R):∀(u:Nat) (se:List Str) (at_:Str),se.Nodup->(∀z∈se,z∈zs)->at_∈zs->zs.length - se.length<=u->
   (∀(se':List Str) (at':Str),se'.Nodup->(∀z∈se',z∈zs)->(∀z∈se,z∈se')->(∀z∈se',z∈se\/(z∈se'/\Rch f at_ z/\f z∈se'))->at_∈se'->D.nx [some (.v (.tup (zs.map PV.str))),some (.v (.tup (ys.map PV.str))),some (.ow (.dk (bk se')) (se'.map tr)),a3,a4,some (.v (.str at'))] n)->
   N8 (qB (W6 2 (qV 5))) (qSeq (u3 2 (qV 5) (qC (.bl true))) (qSet 5 (qOp wIx (qV 1) (K5 (qV 0) (qV 5))))) D (u + 1) [some (.v (.tup (zs.map PV.str))),some (.v (.tup (ys.map PV.str))),some (.ow (.dk (bk se)) (se.map tr)),a3,a4,some (.v (.str at_))] n:=by
 intro u
 induction u with
 | zero =>
   intro se at_ nd sub ha hu h
   have full:at_∈se:=by
     have h1:=nd.length_le_of_subset sub;have h2:zs.length<=se.length:=by omega
     apply Cu
     intro no;have:=(N0.mpr ⟨no,nd⟩).length_le_of_subset fun z hz=>(C0.mp hz).elim (fun e=>e▸ha) (sub z);rw [O5] at this;omega
   have:=h se at_ nd sub (fun z hz=>hz) (fun z hz=>.inl hz) full;generalize hZ:zs.map PV.str=Z at *;generalize hY:ys.map PV.str=Y at *;have eb:memK (bk se) (.inr at_)=true:=by rw [BW];exact decide_eq_true full
   have tl:(bk se).length=(se.map tr).length:=by rw [A9,A9]
   generalize bk se=B at *;generalize se.map tr=X at *;simp only [N8];walk_at "pu";rw [eb];exact⟨tl,this⟩
 | succ u ih =>
   intro se at_ nd sub ha hu h
   by_cases c:at_∈se
   · have:=h se at_ nd sub (fun z hz=>hz) (fun z hz=>.inl hz) c;generalize hZ:zs.map PV.str=Z at *;generalize hY:ys.map PV.str=Y at *;have eb:memK (bk se) (.inr at_)=true:=by rw [BW];exact decide_eq_true c
     have tl:(bk se).length=(se.map tr).length:=by rw [A9,A9]
     generalize bk se=B at *;generalize se.map tr=X at *;rw [N8];walk_at "pu";rw [eb];exact⟨tl,this⟩
   · have eb:memK (bk se) (.inr at_)=false:=by rw [BW];exact decide_eq_false c
     have sl:=nd.length_le_of_subset sub;have bl:(bk se).length=se.length:=A9 ..;have nx:=ih (se++[at_]) (f at_) (AT.mpr ⟨nd,by simp,fun a h1 b h2 e=>c (by rw [<- E1.mp h2,<- e];exact h1)⟩) (fun z hz=>(E7.mp hz).elim (sub z) fun z'=>by rw [E1.mp z'];exact ha) (P.st _ ha) (by rw [E3,b3];omega) fun se' at' s1 s2 s3 s4 s5=>h se' at' s1 s2 (fun z hz=>s3 z (j6 _ hz)) (fun z hz=>?_) (s3 at_ (by simp))
     · have e2:bk (se++[at_])=bk se++[.inr at_]:=K3;have e3:(se++[at_]).map tr=se.map tr++[.bl true]:=K3;rw [e2,e3] at nx;have ni:P5 at_∉bk se:=fun z=>by rw [<- KP,eb] at z;cases z
       have tl:(bk se).length=(se.map tr).length:=by rw [A9,A9]
       have xl:(se.map tr).length=se.length:=A9 ..;have hst:=fun {R:PV->Prop}=>@hstep at_ ha R;generalize hZ:zs.map PV.str=Z at *;generalize hY:ys.map PV.str=Y at *;generalize bk se=B at *;generalize se.map tr=X at *;rw [N8];walk_at "pu";rw [eb];refine⟨tl,?_⟩;simp only [k8,if_false,Bool.not_false,if_true];have q:=hst (R:=fun v=>N8 (qB (W6 2 (qV 5))) (qSeq (u3 2 (qV 5) (qC (.bl true))) (qSet 5 (qOp wIx (qV 1) (K5 (qV 0) (qV 5))))) D (u + 1) [some (.v (.tup Z)),some (.v (.tup Y)),some (.ow (.dk (B++[P5 at_])) (X++[.bl true])),a3,a4,some (.v v)] n) nx;simp only [wIx] at q;rw [show i4 B (P5 at_)=B++[P5 at_] from if_neg ni,show W4 B X (P5 at_) (PV.bl true)=X++[.bl true] from if_neg ni];exact⟨⟨_,_,rfl⟩,tl,by omega,⟨_,rfl⟩,q⟩
     · rcases s4 z hz with s | ⟨_,s6,s7⟩
       · rcases E7.mp s with s | s
         · exact .inl s
         · rw [E1.mp s];exact .inr ⟨s3 at_ (by simp),⟨0,rfl⟩,s5⟩
       · exact .inr ⟨hz,Rch.trans ⟨1,rfl⟩ s6,s7⟩
theorem LV {zs ys:List Str}{n:Nat}{R:PV->Nat->Prop}(nd:zs.Nodup)(h2:zs.length<=24)(pm:ys.Perm zs)(c:Str->Nat)(hc:∀x∈zs,∀y∈zs,Rch (nxB zs ys) x y↔c x=c y)(h:R (.int ((ddN (zs.map c)).length:Nat)) n):AC [rowP zs,rowP ys] n R:=by
 refine⟨rfl,?_⟩;unfold G_;have ly:=pm.length_eq;have P:=i6 nd pm
 have hstep:∀z∈zs,∀{R:PV->Prop},R (.str (nxB zs ys z))->O3 (.tup (zs.map PV.str)) (.str z) fun w=>wIx (.tup (ys.map PV.str)) w R:=fun z hz {R} q=>m_ix rfl hz (by omega) (by
   show match atI (ys.map PV.str) ((ixS zs z:Nat):Int) with | some z=>R z | none=>False
   rw [AE rfl (show ixS zs z < ys.length by rw [ly];exact u6 hz)]
   exact q)
 have hr0:rowP zs=.tup (zs.map PV.str):=rfl;have hr1:rowP ys=.tup (ys.map PV.str):=rfl;have mw:=fun(D:Q4) (a3 a4:Option Pu.Slot)=>@LU zs ys (nxB zs ys) n D a3 a4 P h2 hstep;have hmem:∀i z,(zs.map PV.str)[i]?=some z->∃b,zs[i]?=some b/\z=PV.str b:=fun i z hz=>W5 (f:=PV.str) hz;have Zl:(zs.map PV.str).length=zs.length:=A9 ..;rw [hr0,hr1];generalize hZ:zs.map PV.str=Z at *;generalize hY:ys.map PV.str=Y at *;walk_at "pu";refine M7 (fun i env m=>∃s4 s5,∃se:List Str,env=[some (.v (.tup Z)),some (.v (.tup Y)),some (.ow (.dk (bk se)) (se.map tr)),some (.v (.int ((ddN ((zs.take i).map c)).length:Nat))),s4,s5]/\se.Nodup/\(∀z∈se,z∈zs)/\(∀z∈se,nxB zs ys z∈se)/\(∀z∈se,∃x∈zs.take i,Rch (nxB zs ys) x z)/\(∀x∈zs.take i,x∈se)/\m=n) _ 0 _ _ ⟨none,none,[],rfl,AY,(fun _ z=>by cases z),(fun _ z=>by cases z),(fun _ z=>by cases z),(fun _ z=>by simp at z),rfl⟩ (fun i x env m N ex hI hN=>?_) (fun env m hI=>?_)
 · obtain⟨b,eb,rfl⟩:=hmem i x ex;obtain⟨s4,s5,se,rfl,s1,s2,s3,s6,s7,rfl⟩:=hI;rw [G0] at s6 s7 hN ⊢;have hb:=J7 eb;have tk:=U9 eb
   have cl:∀x∈se,∀k,itr (nxB zs ys) k x∈se:=fun x hx k=>by
     induction k with
     | zero=>exact hx
     | succ k ih=>exact s3 _ ih
   have seen:b∈se↔c b∈ddN ((zs.take i).map c):=by
     rw [(W7 _).2,J8];constructor
     · intro hb';obtain⟨x,hx,r⟩:=s6 b hb';exact⟨x,hx,(hc x (V3 hx) b hb).mp r⟩
     · rintro⟨x,hx,e⟩;obtain⟨k,rfl⟩:=(hc x (V3 hx) b hb).mpr e;exact cl x (s7 x hx) k
   have cnt:(ddN ((zs.take (i + 1)).map c)).length=(ddN ((zs.take i).map c)).length + if b∈se then 0 else 1:=by
     rw [tk,K3];show(ddN ((zs.take i).map c++[c b])).length=_;rw [u9]
     by_cases cb:b∈se
     · rw [if_pos (seen.mp cb),if_pos cb];rfl
     · rw [if_neg (fun z=>cb (seen.mpr z)),if_neg cb,E3];rfl
   have goal:∀(D:Q4),D.nx=N->∀(many:Nat),many=(ddN ((zs.take (i + 1)).map c)).length->q8 (qB (W6 2 (qV 5))) (qSeq (u3 2 (qV 5) (qC (.bl true))) (qSet 5 (qOp wIx (qV 1) (K5 (qV 0) (qV 5))))) D [some (.v (.tup Z)),some (.v (.tup Y)),some (.ow (.dk (bk se)) (se.map tr)),some (.v (.int (many:Int))),some (.v (.str b)),some (.v (.str b))] m:=fun D hD many em=>by
     subst hD;refine⟨_,mw _ _ _ (zs.length - se.length) se b s1 s2 hb (A8 _) fun se' at' t1 t2 t3 t4 t5=>hN _ _ ⟨some (.v (.str b)),some (.v (.str at')),se',by rw [em],t1,t2,fun z hz=>?_,fun z hz=>?_,fun x hx=>?_,rfl⟩⟩
     · rcases t4 z hz with z' | ⟨_,_,z'⟩
       · exact t3 _ (s3 z z')
       · exact z'
     · rw [tk];rcases t4 z hz with z' | ⟨_,z',_⟩
       · obtain⟨x,hx,r⟩:=s6 z z';exact⟨x,j6 _ hx,r⟩
       · exact⟨b,by simp,z'⟩
     · rw [tk] at hx;rcases E7.mp hx with hx | hx
       · exact t3 x (s7 x hx)
       · rw [E1.mp hx];exact t5
   have em:memK (bk se) (.inr b)=decide (b∈se):=BW;have tl:(bk se).length=(se.map tr).length:=by rw [A9,A9]
   generalize hD:ddN ((zs.take i).map c)=dd at *;generalize hB:bk se=B at *;generalize hX:se.map tr=X at *;walk_at "pu";rw [em];refine⟨tl,?_⟩
   by_cases cb:b∈se
   · rw [if_pos cb] at cnt;have:=goal { nx:=N,rt:=R,bk:=fun e m=>match e[3]? with | some (some (Slot.v x))=>R x m | x=>False,ct:=N } rfl dd.length (by omega);rw [decide_eq_true cb];show q8 _ _ _ [_,_,_,some (.v (.int ((dd.length:Int) + 0))),_,_] _;rw [Int.add_zero];exact this
   · rw [if_neg cb] at cnt;have:=goal { nx:=N,rt:=R,bk:=fun e m=>match e[3]? with | some (some (Slot.v x))=>R x m | x=>False,ct:=N } rfl (dd.length + 1) (by omega);rw [show((dd.length + 1:Nat):Int)=(dd.length:Int) + 1 by omega] at this;rw [decide_eq_false cb];exact this
 · obtain⟨s4,s5,se,rfl,s1,s2,s3,s6,s7,rfl⟩:=hI;rw [Zl,G0,x8];generalize bk se=B;generalize se.map tr=X;walk_at "pu";exact h
theorem LW {ys:List Str}(nd:ys.Nodup){x y:Str}(hx:x∈ys)(hy:y∈ys):Rch (nxB ys ys) x y↔ixS ys x=ixS ys y:=by
 have one:nxB ys ys x=x:=by
   have h1:=(D2 hx).1;rw [K7 (u6 hx)] at h1;exact D7 h1
 have all:∀k,itr (nxB ys ys) k x=x:=fun k=>by
   induction k with
   | zero=>rfl
   | succ k ih =>
     show nxB ys ys (itr (nxB ys ys) k x)=x;rw [ih,one]
 constructor
 · rintro⟨k,rfl⟩;rw [all]
 · intro e;exact⟨0,Av hx hy e⟩
theorem HB {c d:Str->Nat}{l:List Str}(h:∀x∈l,∀y∈l,c x=c y↔d x=d y):∀i,i<=l.length->(ddN ((l.take i).map c)).length=(ddN ((l.take i).map d)).length
 | 0,_=>rfl
 | i + 1, hi => by
   have ih:=HB h i (by omega);have e:=C4 (show i < l.length by omega);have hx:l[i]∈l:=j8 _;generalize l[i]=x at *;rw [U9 e,K3,K3];show(ddN (_++[c x])).length=(ddN (_++[d x])).length;rw [u9,u9]
   have iff:c x∈ddN ((l.take i).map c)↔d x∈ddN ((l.take i).map d):=by
     rw [(W7 _).2,(W7 _).2,J8,J8];exact⟨fun⟨y,hy,e⟩=>⟨y,hy,(h y (V3 hy) x hx).mp e⟩,fun⟨y,hy,e⟩=>⟨y,hy,(h y (V3 hy) x hx).mpr e⟩⟩
   by_cases k:c x∈ddN ((l.take i).map c)
   · rw [if_pos k,if_pos (iff.mp k)];exact ih
   · rw [if_neg k,if_neg fun z=>k (iff.mpr z),E3,E3,ih];rfl
theorem HC {c d:Str->Nat}{l:List Str}(h:∀x∈l,∀y∈l,c x=c y↔d x=d y):(ddN (l.map c)).length=(ddN (l.map d)).length:=by
 have:=HB h l.length (A8 _);rw [x8] at this;exact this
def rN (st other:List Str):Nat:=(ddN (st.map (cOf (nxB st other) st))).length
theorem Ej {other:List Str}(nd:other.Nodup):rN other other=other.length:=by
 have P:=i6 nd (List.Perm.refl other);have e:∀x∈other,∀y∈other,cOf (nxB other other) other x=cOf (nxB other other) other y↔ixS other x=ixS other y:=fun x hx y hy=>(u8 P hx hy).symm.trans (LW nd hx hy);unfold rN;rw [HC e,LG,A9];refine Cc.mpr fun i j hi hj hij e=>?_;rw [A9] at hi hj;rw [List.getElem_map,List.getElem_map] at e;have:=Av (j8 hi) (j8 hj) e;have:=K6 nd (C4 hi) (by rw [this];exact C4 hj);omega
theorem HD {st other:List Str}{i:Nat}{b:Str}(nd:other.Nodup)(pm:st.Perm other)(eb:other[i]?=some b)(ne:nm st i≠b):rN (exch st i (ixS st b)) other=rN st other + 1:=by
 have nds:=pm.nodup_iff.mpr nd;have bm:b∈st:=pm.mem_iff.mpr (J7 eb);have il:i < st.length:=by rw [pm.length_eq];exact(C5.mp eb).1
 have jl:ixS st b < st.length:=(C5.mp (D2 bm).1).1;have jb:=(D2 bm).1;have nb:nm st (ixS st b)=b:=D7 ((K7 jl).symm.trans jb);have ij:i≠ixS st b:=fun z=>ne (by rw [z];exact nb);have yi:=K7 il;have ym:nm st i∈st:=BL il;have iy:ixS st (nm st i)=i:=K6 nds (D2 ym).1 yi;have pm':=Aw il jl;have nd':=pm'.nodup_iff.mpr nds;have sl':(exch st i (ixS st b)).length=st.length:=pm'.length_eq;generalize hj:ixS st b=j at *;generalize hy:nm st i=y at *
 have g:∀k,(exch st i j)[k]?=if j=k then some y else if i=k then some b else st[k]?:=fun k=>by
   unfold exch;rw [hy,nb,AU,AU,J0]
   by_cases c1:j=k
   · rw [if_pos c1,if_pos c1,if_pos (by omega)]
   · rw [if_neg c1,if_neg c1]
     by_cases c2:i=k
     · rw [if_pos c2,if_pos c2,if_pos (by omega)]
     · rw [if_neg c2,if_neg c2]
 generalize hs:exch st i j=st' at *;have ib':ixS st' b=i:=K6 nd' (D2 (pm'.mem_iff.mpr bm)).1 (by rw [g,if_neg (fun z=>ij z.symm),if_pos rfl]);have iy':ixS st' y=j:=K6 nd' (D2 (pm'.mem_iff.mpr ym)).1 (by rw [g,if_pos rfl])
 have ix':∀x∈st,x≠b->x≠y->ixS st' x=ixS st x:=fun x hx h1 h2=>K6 nd' (D2 (pm'.mem_iff.mpr hx)).1 (by
   have a:=(D2 hx).1;rw [g,if_neg,if_neg,a]
   · intro z;rw [<- z,yi] at a;exact h2 (D7 a).symm
   · intro z;rw [<- z,jb] at a;exact h1 (D7 a).symm)
 have P:=i6 nds pm.symm;have P':=i6 nd' (pm.symm.trans pm'.symm);have nmi:nm other i=b:=D7 ((K7 (by rw [<- pm.length_eq];exact il)).symm.trans eb);have fy:nxB st other y=b:=by unfold nxB;rw [iy,nmi]
 have fb':nxB st' other b=b:=by unfold nxB;rw [ib',nmi]
 have fy':nxB st' other y=nxB st other b:=by unfold nxB;rw [iy',hj]
 have fx':∀x∈st,x≠b->x≠y->nxB st' other x=nxB st other x:=fun x hx h1 h2=>by unfold nxB;rw [ix' x hx h1 h2]
 have fbn:nxB st other b≠b:=fun z=>ne (P.inj y ym b bm (fy.trans z.symm));have fxn:∀x∈st,x≠y->nxB st other x≠b:=fun x hx h z=>h (P.inj x hx y ym (z.trans fy.symm));show(ddN (st'.map (cOf (nxB st' other) st'))).length=(ddN (st.map (cOf (nxB st other) st))).length + 1;generalize nxB st other=f at *;generalize nxB st' other=f' at *
 have A:∀x∈st,x≠b->∀k,itr f' k x∈st/\itr f' k x≠b/\Rch f x (itr f' k x):=fun x hx hb k=>by
   induction k with
   | zero=>exact⟨hx,hb,0,rfl⟩
   | succ k ih =>
     obtain⟨h1,h2,h3⟩:=ih;show f' (itr f' k x)∈st/\f' (itr f' k x)≠b/\Rch f x (f' (itr f' k x));generalize itr f' k x=w at *
     by_cases c:w=y
     · subst c;rw [fy'];exact⟨P.st _ bm,fbn,Rch.trans h3 ⟨2,by show f (f w)=f b;rw [fy]⟩⟩
     · rw [fx' w h1 h2 c];exact⟨P.st _ h1,fxn w h1 c,Rch.trans h3 ⟨1,rfl⟩⟩
 have B:∀k,∀m,m<=k->∀x∈st,x≠b->∀z,z≠b->itr f m x=z->Rch f' x z:=fun k=>by
   induction k with
   | zero =>
     intro m hm x hx hb z hz e;have:m=0:=by omega
     subst this;exact⟨0,e⟩
   | succ k ih =>
     intro m hm x hx hb z hz e;cases m with
     | zero=>exact⟨0,e⟩
     | succ m =>
       rw [<- Ec] at e
       by_cases c:x=y
       · subst c;rw [fy] at e;cases m with
         | zero=>exact absurd e.symm hz
         | succ m =>
           rw [<- Ec] at e;exact Rch.trans ⟨1,fy'⟩ (ih m (by omega) _ (P.st _ bm) fbn z hz e)
       · exact Rch.trans ⟨1,fx' x hx hb c⟩ (ih m (by omega) _ (P.st _ hx) (fxn x hx c) z hz e)
 have cl:∀x∈st,cOf f st x < st.length:=fun x hx=>AZ (c_le P hx ⟨0,rfl⟩) (C5.mp (D2 hx).1).1
 have D:∀x∈st',∀z∈st',cOf f' st' x=cOf f' st' z↔(if x=b then st.length else cOf f st x)=(if z=b then st.length else cOf f st z):=fun x hx' z hz'=>by
   have hx:=pm'.mem_iff.mp hx';have hz:=pm'.mem_iff.mp hz';rw [<- u8 P' hx' hz']
   by_cases c1:x=b
   · have st_b:∀k,itr f' k b=b:=fun k=>by
       induction k with
       | zero=>rfl
       | succ k ih=>show f' (itr f' k b)=b;rw [ih,fb']
     rw [if_pos c1]
     by_cases c2:z=b
     · rw [if_pos c2,c1,c2];exact⟨fun _=>rfl,fun _=>⟨0,rfl⟩⟩
     · rw [if_neg c2];refine⟨fun⟨k,e⟩=>absurd (by rw [<- e,c1,st_b]) c2,fun e=>?_⟩;have:=cl z hz;omega
   · rw [if_neg c1]
     by_cases c2:z=b
     · rw [if_pos c2];refine⟨fun⟨k,e⟩=>absurd (e.trans c2) (A x hx c1 k).2.1,fun e=>?_⟩;have:=cl x hx;omega
     · rw [if_neg c2,<- u8 P hx hz];exact⟨fun⟨k,e⟩=>by rw [<- e];exact(A x hx c1 k).2.2,fun⟨k,e⟩=>B k k (A8 _) x hx c1 z c2 e⟩
 have cb:cOf f st b=cOf f st y:=((u8 P ym bm).mp ⟨1,fy⟩).symm;rw [HC D,dd_len (l':=st.map (cOf f st)++[st.length])]
 · rw [u9,if_neg,E3]
   · rfl
   · rw [(W7 _).2,J8];rintro⟨x,hx,e⟩;have:=cl x hx;omega
 · intro v;rw [J8,E7,J8,E1];constructor
   · rintro⟨x,hx,e⟩
     by_cases c:x=b
     · rw [if_pos c] at e;exact .inr e.symm
     · rw [if_neg c] at e;exact .inl ⟨x,pm'.mem_iff.mp hx,e⟩
   · rintro(⟨x,hx,e⟩ | e)
     · by_cases c:x=b
       · exact⟨y,pm'.mem_iff.mpr ym,by rw [if_neg ne,<- cb,<- c];exact e⟩
       · exact⟨x,pm'.mem_iff.mpr hx,by rw [if_neg c];exact e⟩
     · exact⟨b,pm'.mem_iff.mpr bm,by rw [if_pos rfl];exact e.symm⟩
structure WayR (row other:List Str)(i:Nat)(st:List Str)(ps:List (Str×Str)):Prop where
 pm:st.Perm other
 hd:st.take i=other.take i
 ld:led row ps=some st
 nu:ps.length + rN row other=rN st other
 mm:∀p∈ps,p.1∈other/\p.2∈other
theorem ix_ge {st other:List Str}{i:Nat}{b:Str}(nd:other.Nodup)(pm:st.Perm other)(hd:st.take i=other.take i)(eb:other[i]?=some b):i<=ixS st b:=by
 by_cases c:ixS st b < i
 · exfalso
   have a1:=(D2 (pm.mem_iff.mpr (J7 eb))).1;have a2:(st.take i)[ixS st b]?=some b:=by rw [j7,if_pos c];exact a1
   rw [hd,j7,if_pos c] at a2;have:=K6 nd a2 eb;omega
 · omega
theorem LX {row other st:List Str}{i:Nat}{b:Str}{ps:List (Str×Str)}(nd:other.Nodup)(w:WayR row other i st ps)(eb:other[i]?=some b)(ne:nm st i≠b):WayR row other (i + 1) (exch st i (ixS st b)) (ps++[(b,nm st i)]):=by
 have nds:=w.pm.nodup_iff.mpr nd;have hm:=J7 eb;have bm:b∈st:=w.pm.mem_iff.mpr hm;have il:i < st.length:=by rw [w.pm.length_eq];exact(C5.mp eb).1
 have jl:ixS st b < st.length:=(C5.mp (D2 bm).1).1;have nb:nm st (ixS st b)=b:=D7 ((K7 jl).symm.trans (D2 bm).1);have ij:i≠ixS st b:=fun z=>ne (by rw [z];exact nb);have ge:=ix_ge nd w.pm w.hd eb;have iy:ixS st (nm st i)=i:=K6 nds (D2 (BL il)).1 (K7 il);have nu:=HD nd w.pm eb ne;refine⟨(Aw il jl).trans w.pm,?_,?_,?_,fun p hp=>?_⟩
 · have e:(exch st i (ixS st b))[i]?=some b:=by
     unfold exch;rw [nb,AU,if_neg (fun z=>ij z.symm),AU,if_pos rfl,if_pos il]
   rw [U9 e,U9 eb,<- w.hd];unfold exch;rw [List.take_set_of_le (by omega),List.take_set_of_le (A8 _)]
 · have:=Ef ps row st (b,nm st i) w.ld (by show ixS st (nm st i) < ixS st b;omega);rw [this];show some (exch st (ixS st (nm st i)) (ixS st b))=_;rw [iy]
 · rw [E3,b3,nu];have:=w.nu;omega
 · rcases E7.mp hp with hp | hp
   · exact w.mm p hp
   · rw [E1.mp hp];exact⟨hm,w.pm.mem_iff.mp (BL il)⟩
theorem Ek {row other:List Str}:rN row other<=row.length:=by
 unfold rN;have h:=(W7 (row.map (cOf (nxB row other) row)));have:=h.1.length_le_of_subset fun v hv=>(h.2 v).mp hv;rw [A9] at this;exact this
theorem LY {row other:List Str}{n:Nat}{R:PV->Nat->Prop}(nd:other.Nodup)(pm:row.Perm other)(h1:1<=other.length)(h2:other.length<=24)(h:∀ps,WayR row other other.length other ps->R (.tup (ps.map prS)) n):DM [rowP row,rowP other] n R:=by
 refine⟨rfl,?_⟩;unfold GI;have hr1:rowP other=.tup (other.map PV.str):=rfl;have hix:∀{st:List Str} {z:Str},st.Perm other->z∈other->∀{R:PV->Prop},R (.int (ixS st z))->O3 (rowP st) (.str z) R:=fun {st z} p hz {R} q=>m_ix rfl (p.mem_iff.mpr hz) (by rw [p.length_eq];omega) q
 have hat:∀{st:List Str} {i:Nat} {R:PV->Prop},i < st.length->R (.str (nm st i))->wIx (rowP st) (.int (i:Int)) R:=fun {st i R} hi q=>by
   show match atI (st.map PV.str) (i:Int) with | some z=>R z | none=>False
   rw [AE rfl hi];exact q
 rw [hr1];have Ol:(other.map PV.str).length=other.length:=A9 ..;generalize hO:other.map PV.str=O at *;generalize hW:rowP row=W;walk_at "pu";refine M7 (fun i env m=>∃(st:List Str) (ps:List (Str×Str)) (s4 s5:Option Pu.Slot),env=[some (.v W),some (.v (.tup O)),some (.v (rowP st)),some (.own (ps.map prS)),s4,s5]/\WayR row other i st ps/\m=n) _ 0 _ _ ⟨row,[],none,none,by rw [hW];rfl,⟨pm,rfl,rfl,(by show 0 + _=_;omega),(fun _ z=>nomatch z)⟩,rfl⟩ (fun i x env m N ex hI hN=>?_) (fun env m hI=>?_)
 · obtain⟨st,ps,s4,s5,rfl,w,rfl⟩:=hI;rw [G0] at w hN;obtain⟨y,ey,rfl⟩:=Bx ex;rw [<- hO] at ey;obtain⟨b,eb,rfl⟩:=W5 ey;have il:i < other.length:=(C5.mp eb).1;have hm:=J7 eb;have sl:=w.pm.length_eq;have bm:b∈st:=w.pm.mem_iff.mpr hm;have jl:ixS st b < st.length:=(C5.mp (D2 bm).1).1
   have lp:ps.length<=24:=by
     have:=w.nu;have:=Ek (row:=st) (other:=other);omega
   have hx:=fun(R:PV->Prop) q=>hix (R:=R) w.pm hm q;have ha:=fun(R:PV->Prop) q=>hat (st:=st) (i:=i) (R:=R) (by omega) q;have mx:=fun(R:PV->Nat->Prop) q=>Eg (f:=st) (i:=i) (j:=ixS st b) (n:=m) (R:=R) (by omega) jl q;have Pl:(ps.map prS).length=ps.length:=A9 ..;have e1:ps.map prS++[.tup [.str b,.str (nm st i)]]=(ps++[(b,nm st i)]).map prS:=by rw [K3];rfl
   have eS:rowP st=.tup (st.map PV.str):=rfl;have same:nm st i=b->WayR row other (i + 1) st ps:=fun e=>⟨w.pm,by rw [U9 (show st[i]?=some b by rw [<- e];exact K7 (by omega)),U9 eb,w.hd],w.ld,w.nu,w.mm⟩;have st2:=fun ne=>LX nd w eb ne;generalize hS:rowP st=S at *;generalize hP:ps.map prS=PP at *;walk_at "pu";refine ha _ ?_;show(if(!eqP (.str (nm st i)) (.str b))=true then _ else _);rw [Z2]
   by_cases c:nm st i=b
   · exact if_f (by rw [decide_eq_true c];rfl) (hN _ _ ⟨st,ps,_,_,by rw [hS,hP],same c,rfl⟩)
   · refine if_t (by rw [decide_eq_false c];rfl) ⟨⟨_,rfl⟩,ha _ ⟨by omega,⟨_,eS⟩,hx _ (mx _ ?_)⟩⟩;rw [e1];exact hN _ _ ⟨_,_,_,_,rfl,st2 c,rfl⟩
 · obtain⟨st,ps,s4,s5,rfl,w,rfl⟩:=hI;rw [Aj,Ol,G0] at w
   have e:st=other:=by
     have:=w.hd;rw [V2 (by rw [w.pm.length_eq];exact A8 _),V2 (A8 _)] at this;exact this
   subst e;generalize hP:ps.map prS=PP;walk_at "pu";rw [<- hP];exact h ps w
theorem LZ {row other:List Str}(nd:other.Nodup)(pm:row.Perm other)(h1:1<=row.length)(h2:row.length<=2):inv (row.map (ixS other)) + rN row other=row.length:=by
 by_cases e:row=other
 · subst e;rw [Hl nd,Ej nd];omega
 · have ly:=pm.length_eq
   match row,other,ly with
   | [a],[b],_=>exact absurd pm.eq_singleton e
   | [a, b], [c, d], _ =>
     have ac:a≠c:=fun z=>by
       subst z;have:=pm.cons_inv.eq_singleton;exact e (by rw [this])
     have hc:c∈[a,b]:=pm.mem_iff.mpr (by simp)
     have bc:b=c:=by
       rcases C0.mp hc with z | z
       · exact absurd z.symm ac
       · exact(E1.mp z).symm
     subst bc;have ha:a∈[b,d]:=pm.mem_iff.mp (by simp)
     have ad:a=d:=by
       rcases C0.mp ha with z | z
       · exact absurd z ac
       · exact E1.mp z
     subst ad;have st:=HD (st:=[a,b]) (other:=[b,a]) (i:=0) (b:=b) nd pm rfl ac;have nds:=pm.nodup_iff.mpr nd;have ib:ixS [a,b] b=1:=K6 nds (D2 (by simp)).1 rfl;rw [ib,show exch [a,b] 0 1=[b,a] from rfl,Ej nd] at st;have i1:ixS [b,a] a=1:=K6 nd (D2 (by simp)).1 rfl;have i0:ixS [b,a] b=0:=K6 nd (D2 (by simp)).1 rfl;rw [G7,G7,List.map_nil,i1,i0];show 1 + _=2;have:([b,a]:List Str).length=2:=rfl;omega
theorem HE {α:Type}(xs:List α)(f:α->Bool):V9 (xs.map fun x=>PV.bl (f x))=some (xs.map f):=by
 rw [<- FG (xs.map f),b7];rfl
theorem HF {α:Type}(xs:List α)(f:α->Bool):(xs.map f).all id=xs.all f:=by rw [List.all_map];rfl
theorem ltr_le:∀k:Nat,k < 26->(!decide ((⟨#[97 + k]⟩:Str).cps.toList < (C1 "a").cps.toList))=true/\(!decide ((C1 "z").cps.toList < (⟨#[97 + k]⟩:Str).cps.toList))=true:=by decide +kernel
theorem m_isb {z:Str}{n:Nat}{R:PV->Nat->Prop}(hz:W3 z)(h:R (.bl true) n):DS [.str z] n R:=by
 refine⟨rfl,?_⟩;unfold GS;obtain⟨h1,h2,h3⟩:=hz;have lx:z.length=z.cps.toList.length:=Ab z;have d1:decide ((1:Int)<=(z.length:Int))=true:=decide_eq_true (by omega);have d2:decide ((z.length:Int)<=8)=true:=decide_eq_true (by omega);have hlen:z.length<=1000000:=by omega
 walk_at "pu";simp only [hlen,d1,d2,true_and,reduceIte,Bool.not_true,k8];refine⟨?_,by rw [A9];omega,?_⟩
 · rw [<- Array.all_toList];exact F9.mpr fun c hc=>decide_eq_true (AZ (h3 c hc).2 (by decide))
 · refine Dj (fun _=>.bl true) _ _ _ _ (fun y hy m Q hQ=>?_) ?_
   · obtain⟨c,hc,rfl⟩:=J8.mp hy;have hc:=h3 c hc;unfold Ltr at hc;have:=ltr_le (c - 97) (by omega);rw [show 97 + (c - 97)=c by omega] at this;obtain⟨l1,l2⟩:=this;walk_at "pu";simp only [l1,l2];exact hQ
   · have e:=HE (z.cps.toList.map fun c=>PV.str ⟨#[c]⟩) fun _=>true;rw [e];dsimp only;rw [HF,F9.mpr fun _ _=>rfl];exact h
theorem m_ipo {row:List Str}{p:Str×Str}{n:Nat}{R:PV->Nat->Prop}(hb:∀z∈row,W3 z)(p1:p.1∈row)(p2:p.2∈row)(h:R (.bl true) n):DT [rowP row,prS p] n R:=by
 refine⟨rfl,?_⟩;unfold GT;have hr0:rowP row=.tup (row.map PV.str):=rfl;generalize hZ:row.map PV.str=Z at *;unfold prS;rw [hr0];walk_at "pu";refine if_f (by decide) ?_;show Q3 _ _ _ ([p.1,p.2].map PV.str) _ _ _;refine As PV.str (fun _=>.bl true) [p.1,p.2] _ _ _ (fun z hz m Q hQ=>?_) h
 have zr:z∈row:=by
   rcases C0.mp hz with e | hz
   · rw [e];exact p1
   · rw [E1.mp hz];exact p2
 walk_at "pu";refine m_isb (hb z zr) (if_t rfl (Li hZ ?_));rw [decide_eq_true zr];exact hQ
theorem m_stou {s r n:Nat}{row other:List Str}{ps:List (Str×Str)}{R:PV->Nat->Prop}(h2:s<=8)(hr:r<=7)(l1:1<=row.length)(ls:row.length<=s)(lr:row.length<=r + 2)(hb:∀z∈row,W3 z)(pl:ps.length<=1000)(hp:∀p∈ps,p.1∈row/\p.2∈row)(h:R (.bl (decide (led row ps=some other))) n):DU [.tup [.int s,.int r],rowP row,rowP other,.tup (ps.map prS)] n R:=by
 refine⟨rfl,?_⟩;unfold GU;have ml:=fun(R:PV->Nat->Prop) q=>LR (other:=other) (n:=n) (R:=R) h2 hr l1 ls lr hp q;have mi:=fun p (hp':p∈ps) (m:Nat) (R:PV->Nat->Prop) q=>m_ipo (p:=p) (n:=m) (R:=R) hb (hp p hp').1 (hp p hp').2 q;have Pl:(ps.map prS).length=ps.length:=A9 ..;generalize hW:rowP row=W at *;generalize hO:rowP other=O at *;generalize hP:ps.map prS=PP at *;walk_at "pu";refine⟨by omega,?_⟩;rw [<- hP];refine As prS (fun _=>.bl true) ps _ _ _ (fun p hp' m Q hQ=>?_) ?_
 · generalize hX:prS p=X at *;walk_at "pu";rw [<- hX];refine mi p hp' _ _ ?_;rw [hX];exact hQ
 · rw [HE ps fun _=>true];dsimp only;rw [HF,F9.mpr fun _ _=>rfl,hP];exact if_f rfl (ml _ h)
def wdZ (z:Bool):Str:=if z then C1 "pairs" else C1 "rounds"
def fewP (z:Bool)(k:Nat)(ps:List (Str×Str)):PV:=.tup [.int (k:Int),.tup (ps.map prS),.tup [.str (wdZ z)]]
def Nm (z:Bool)(row other:List Str):Nat:=if z then inv (row.map (ixS other)) else row.length - rN row other
def Fw (z:Bool)(row other:List Str)(k:Nat)(ps:List (Str×Str)):Prop:=led row ps=some other/\ps.length=k/\k=Nm z row other
instance {z:Bool}{row other:List Str}{k:Nat}{ps:List (Str×Str)}:Decidable (Fw z row other k ps):=by unfold Fw;infer_instance
theorem m_mcp {s r n:Nat}{R:PV->Nat->Prop}(h:R (.bl (decide (r=0))) n):BO [.tup [.int s,.int r]] n R:=by
 refine⟨rfl,?_⟩;unfold GC;walk_at "pu";rw [show decide ((r:Int)=0)=decide (r=0) from decide_eq_decide.mpr (by omega)];exact h
theorem m_mcr {s r l n:Nat}{R:PV->Nat->Prop}(ls:l<=s)(lr:l<=r + 2)(h:R (.bl true) n):BP [.tup [.int s,.int r],.int (l:Int)] n R:=by
 refine⟨rfl,?_⟩;unfold GE;walk_at "pu";refine if_t (decide_eq_true (by omega)) ?_;rw [decide_eq_true (by omega)];exact h
theorem m_rof {row other:List Str}{n:Nat}{R:PV->Nat->Prop}(nd:row.Nodup)(h2:row.length<=24)(pm:other.Perm row)(h:R (.int (rN row other:Nat)) n):Az [rowP row,rowP other] n R:=LT nd h2 pm (cOf (nxB row other) row) (fun x hx y hy=>u8 (i6 nd pm) hx hy) h
theorem HG {row other:List Str}{n:Nat}{R:PV->Nat->Prop}(nd:row.Nodup)(h2:row.length<=24)(pm:other.Perm row)(h:R (.int (rN row other:Nat)) n):AC [rowP row,rowP other] n R:=LV nd h2 pm (cOf (nxB row other) row) (fun x hx y hy=>u8 (i6 nd pm) hx hy) h
theorem El {row other:List Str}:((row.length:Nat):Int) - ((rN row other:Nat):Int)=((row.length - rN row other:Nat):Int):=by
 have:=Ek (row:=row) (other:=other);omega
theorem m_few {s r n:Nat}{row other:List Str}{R:PV->Nat->Prop}(nd:other.Nodup)(pm:row.Perm other)(h1:1<=row.length)(ls:row.length<=s)(lr:row.length<=r + 2)(h2:s<=8)(h:∀ps,led row ps=some other->ps.length=Nm (decide (r=0)) row other->(∀p∈ps,p.1∈other/\p.2∈other)->R (fewP (decide (r=0)) (Nm (decide (r=0)) row other) ps) n):AB [.tup [.int s,.int r],rowP row,rowP other] n R:=by
 refine⟨rfl,?_⟩;unfold GK;have ly:=pm.length_eq;have ma:=fun(R:PV->Nat->Prop) q=>Hs (zs:=row) (ys:=other) (n:=n) (R:=R) (by omega) pm.symm q;have mt:=fun(R:PV->Nat->Prop) q=>LO (row:=row) (n:=n) (R:=R) nd pm (by omega) (by omega) q;have mo:=fun(R:PV->Nat->Prop) q=>m_rof (row:=row) (other:=other) (n:=n) (R:=R) (pm.nodup_iff.mpr nd) (by omega) pm.symm q;have mu:=fun(R:PV->Nat->Prop) q=>LY (row:=row) (n:=n) (R:=R) nd pm (by omega) (by omega) q;have hr0:rowP row=.tup (row.map PV.str):=rfl;have Rl:(row.map PV.str).length=row.length:=A9 ..;rw [hr0] at ma mt mo mu ⊢;generalize hW:row.map PV.str=W at *;generalize hO:rowP other=O at *;walk_at "pu";refine m_mcp ?_
 by_cases c:r=0
 · rw [decide_eq_true c] at h ⊢;refine if_t rfl (ma _ (mt _ fun ps w=>h ps w.ld ?_ w.mm));have:=w.nu;rw [Hl nd] at this;exact this
 · rw [decide_eq_false c] at h ⊢;rw [Rl];refine if_f rfl (m_mcr ls lr (if_t rfl (mo _ ?_)));dsimp only;rw [El];refine mu _ fun ps w=>h ps w.ld ?_ w.mm;have:=w.nu;rw [Ej nd] at this;show ps.length=row.length - rN row other;omega
theorem Em {z w:Str}{n:Nat}{R:PV->Nat->Prop}(h:R (.bl (decide (z=w))) n):BR [.str z,.str w] n R:=by
 refine⟨rfl,?_⟩;unfold GM;walk_at "pu";exact h
theorem L_ {k l n:Nat}{R:PV->Nat->Prop}(h:R (.bl (decide (l=k))) n):DV [.int (k:Int),.int (l:Int),.int (l:Int)] n R:=by
 refine⟨rfl,?_⟩;unfold GV;walk_at "pu"
 by_cases c:l<=k
 · refine if_t (decide_eq_true (by omega)) ?_;rw [show decide ((k:Int)<=(l:Int))=decide (l=k) from decide_eq_decide.mpr (by omega)];exact h
 · rw [decide_eq_false (show ¬l=k by omega)] at h;exact if_f (decide_eq_false (by omega)) h
theorem gd1' {c:Bool}{P:Prop}(h:c=true)(p:P):grd c P:=by subst h;exact p
theorem pr_ne:decide (C1 "rounds"=C1 "pairs")=false:=by decide +kernel
theorem BX {k m:Nat}:decide ((k:Int)=(m:Int))=decide (k=m):=decide_eq_decide.mpr (by omega)
theorem Ma {z:Bool}{s r k n:Nat}{row other:List Str}{R:PV->Nat->Prop}(hz:z=true->r=0)(nd:row.Nodup)(pm:row.Perm other)(h2:s<=8)(ls:row.length<=s)(lr:row.length<=r + 2)(h:R (.bl (decide (k=Nm z row other))) n):DO [.tup [.int s,.int r],rowP row,rowP other,.int (k:Int),.tup [.str (wdZ z)]] n R:=by
 refine⟨rfl,?_⟩;unfold GN;have ma:=fun(R:PV->Nat->Prop) q=>Hs (zs:=row) (ys:=other) (n:=n) (R:=R) (by omega) pm.symm q;have mo:=fun(R:PV->Nat->Prop) q=>m_rof (row:=row) (other:=other) (n:=n) (R:=R) nd (by omega) pm.symm q;have hr0:rowP row=.tup (row.map PV.str):=rfl;have Rl:(row.map PV.str).length=row.length:=A9 ..;rw [hr0] at ma mo ⊢;generalize hW:row.map PV.str=W at *;generalize hO:rowP other=O at *;cases z with
 | true =>
   rw [show wdZ true=C1 "pairs" from rfl];walk_at "pu";refine if_t (by decide) (if_f (by decide) (if_f (by decide) (Em ?_)));rw [decide_eq_true rfl];refine if_t rfl (m_mcp ?_);rw [decide_eq_true (hz rfl)];refine if_t rfl (ma _ ?_);show R (.bl (eqP (.int (k:Int)) (.int (inv (row.map (ixS other)):Nat)))) n;rw [Dl,BX];exact h
 | false =>
   rw [show wdZ false=C1 "rounds" from rfl];walk_at "pu";refine if_t (by decide) (if_f (by decide) (if_f (by decide) (Em ?_)));rw [pr_ne];refine if_f rfl (Em ?_);rw [decide_eq_true rfl,Rl];refine if_t rfl (m_mcr ls lr (if_t rfl (mo _ ?_)));dsimp only;rw [El,BX];exact h
theorem Mb {z:Bool}{s r k n:Nat}{row other:List Str}{R:PV->Nat->Prop}(hz:z=true->r=0)(nd:row.Nodup)(pm:row.Perm other)(h2:s<=8)(ls:row.length<=s)(lr:row.length<=r + 2)(h:R (.bl (decide (k=Nm z row other))) n):DY [.tup [.int s,.int r],rowP row,rowP other,.int (k:Int),.tup [.str (wdZ z)]] n R:=by
 refine⟨rfl,?_⟩;unfold Ha;have ma:=fun(R:PV->Nat->Prop) q=>LP (zs:=row) (ys:=other) (n:=n) (R:=R) (by omega) pm.symm q;have mo:=fun(R:PV->Nat->Prop) q=>HG (row:=row) (other:=other) (n:=n) (R:=R) nd (by omega) pm.symm q;have hr0:rowP row=.tup (row.map PV.str):=rfl;have Rl:(row.map PV.str).length=row.length:=A9 ..;rw [hr0] at ma mo ⊢;generalize hW:row.map PV.str=W at *;generalize hO:rowP other=O at *;cases z with
 | true =>
   have r0:=hz rfl;subst r0;rw [show wdZ true=C1 "pairs" from rfl];walk_at "pu";refine⟨rfl,rfl,if_f rfl ?_⟩;rw [show atI [PV.str (C1 "pairs")] 0=some (.str (C1 "pairs")) from rfl];refine if_f (by decide) (if_f (by decide) ?_);dsimp only;rw [Z2,decide_eq_true rfl];refine gd1' rfl (if_t rfl (if_t (by decide) (ma _ ?_)));show R (.bl (eqP (.int (k:Int)) (.int (inv (row.map (ixS other)):Nat)))) n;rw [Dl,BX];exact h
 | false =>
   rw [show wdZ false=C1 "rounds" from rfl];walk_at "pu";refine⟨rfl,rfl,if_f rfl ?_⟩;rw [show atI [PV.str (C1 "rounds")] 0=some (.str (C1 "rounds")) from rfl];refine if_f (by decide) (if_f (by decide) ?_);dsimp only;rw [Z2,pr_ne,Z2,decide_eq_true rfl];refine gd1' rfl (if_f rfl (gd1' rfl (if_t rfl (if_t (decide_eq_true (by rw [Rl];split <;> omega)) (mo _ ?_)))))
   dsimp only;rw [Rl,El,BX];exact h
theorem HH {z:Bool}{s r k n:Nat}{row other:List Str}{ps:List (Str×Str)}{R:PV->Nat->Prop}(hz:z=true->r=0)(h2:s<=8)(hr:r<=7)(l1:1<=row.length)(ls:row.length<=s)(lr:row.length<=r + 2)(nd:row.Nodup)(pm:row.Perm other)(hb:∀z∈row,W3 z)(pl:ps.length<=1000)(hp:∀p∈ps,p.1∈row/\p.2∈row)(h:R (.bl (decide (Fw z row other k ps))) n):BT [.tup [.int s,.int r],rowP row,rowP other,fewP z k ps] n R:=by
 refine⟨rfl,?_⟩;unfold GX;have mt:=fun(R:PV->Nat->Prop) q=>m_stou (other:=other) (n:=n) (R:=R) h2 hr l1 ls lr hb pl hp q;have mp:=fun(R:PV->Nat->Prop) q=>Ma (s:=s) (k:=k) (n:=n) (R:=R) hz nd pm h2 ls lr q;have Pl:(ps.map prS).length=ps.length:=A9 ..;unfold fewP;generalize hW:rowP row=W at *;generalize hO:rowP other=O at *;generalize hP:ps.map prS=PP at *;generalize hX:PV.tup [.str (wdZ z)]=X at *;walk_at "pu";refine if_f (by decide) (mt _ ?_)
 by_cases c1:led row ps=some other
 · refine if_f (by rw [decide_eq_true c1];rfl) ?_;rw [Pl];refine L_ ?_
   by_cases c2:ps.length=k
   · refine if_f (by rw [decide_eq_true c2];rfl) (mp _ ?_);rw [show decide (Fw z row other k ps)=decide (k=Nm z row other) from decide_eq_decide.mpr ⟨fun z=>z.2.2,fun z=>⟨c1,c2,z⟩⟩] at h;exact h
   · rw [decide_eq_false (show ¬Fw z row other k ps from fun z=>c2 z.2.1)] at h;exact if_t (by rw [decide_eq_false c2];rfl) h
 · rw [decide_eq_false (show ¬Fw z row other k ps from fun z=>c1 z.1)] at h;exact if_t (by rw [decide_eq_false c1];rfl) h
theorem HI {z:Bool}{s r k n:Nat}{row other:List Str}{ps:List (Str×Str)}{R:PV->Nat->Prop}(hz:z=true->r=0)(h2:s<=8)(hr:r<=7)(ls:row.length<=s)(lr:row.length<=r + 2)(nd:row.Nodup)(pm:row.Perm other)(hp:∀p∈ps,p.1∈row/\p.2∈row)(h:R (.bl (decide (Fw z row other k ps))) n):BU [.tup [.int s,.int r],rowP row,rowP other,fewP z k ps] n R:=by
 refine⟨rfl,?_⟩;unfold Hf;have ml:=fun(R:PV->Nat->Prop) q=>m_lled (s:=s) (r:=r) (n:=n) (R:=R) h2 hr ls lr hp q;have mp:=fun(R:PV->Nat->Prop) q=>Mb (s:=s) (k:=k) (n:=n) (R:=R) hz nd pm h2 ls lr q;have Pl:(ps.map prS).length=ps.length:=A9 ..;have hO:rowP other=.tup (other.map PV.str):=rfl;have er:=fun st=>Ei st other;have cs:=fun st:List Str=>u5 st 3;unfold fewP;rw [hO] at mp ⊢;generalize hW:rowP row=W at *;generalize hP:ps.map prS=PP at *;generalize hX:PV.tup [.str (wdZ z)]=X at *;have co:=cs other;generalize other.map PV.str=OO at *;walk_at "pu";refine if_f (by decide) ?_;rw [Pl]
 by_cases c2:ps.length=k
 · refine if_f (by rw [decide_eq_true (by omega)];rfl) (ml _ ?_);cases hl:led row ps with
   | none =>
     rw [decide_eq_false (show ¬Fw z row other k ps from fun z=>by rw [Fw,hl] at z;exact nomatch z.1)] at h;exact gd2 rfl co (if_t rfl h)
   | some st =>
     refine gd2 (cs st) co ?_;rw [show eqP (rowP st) (.tup OO)=eqPs (st.map PV.str) OO from rfl,er st]
     by_cases e:st=other
     · refine if_f (by rw [decide_eq_true e];rfl) (mp _ ?_);rw [show decide (Fw z row other k ps)=decide (k=Nm z row other) from decide_eq_decide.mpr ⟨fun z=>z.2.2,fun z=>⟨by rw [hl,e],c2,z⟩⟩] at h;exact h
     · rw [decide_eq_false (show ¬Fw z row other k ps from fun z=>e (by have:=z.1;rw [hl] at this;exact D7 this))] at h;exact if_t (by rw [decide_eq_false e];rfl) h
 · rw [decide_eq_false (show ¬Fw z row other k ps from fun z=>c2 z.2.1)] at h;exact if_t (by rw [decide_eq_false (by omega)];rfl) h
theorem Eo {α:Type}{l:List α}{a b:Option Int}{x:α}(h:x∈cutP l a b):x∈l:=by
 unfold cutP at h;exact List.mem_of_mem_drop (V3 h)
theorem cut_le {α:Type}{l:List α}{a b:Option Int}:(cutP l a b).length<=l.length:=by
 unfold cutP;rw [X3,Q9];omega
theorem m_oth {z:Bool}{k q n:Nat}{ps:List (Str×Str)}{R:PV->Nat->Prop}(pl:ps.length<=1000)(hn:n<=999990000)(h:∀k' ps' n',(∀p∈ps',p∈ps)->ps'.length<=3 * ps.length + 3->n'<=n + 2->R (fewP z k' ps') n'):DN [.pot q,fewP z k ps] n R:=by
 refine⟨rfl,?_⟩;unfold GL fewP;have Pl:(ps.map prS).length=ps.length:=A9 ..
 have cp:(ps.map prS).all (cmpb 3)=true:=F9.mpr fun y hy=>by
   obtain⟨p,_,rfl⟩:=J8.mp hy
   rfl
 have en:eqPs (ps.map prS) []=ps.isEmpty:=by cases ps <;> rfl
 have cm:=fun a b=>Db prS ps a b
 have h':∀(ps':List (Str×Str)) n',(∀p∈ps',p∈ps)->ps'.length<=3 * ps.length + 3->n'<=n + 2->R (.tup [.int ((ps'.map prS).length:Nat),.tup (ps'.map prS),.tup [.str (wdZ z)]]) n':=fun ps' n' a b c=>by
   rw [A9];exact h ps'.length ps' n' a b c
 have h0:R (.tup [.int 1,.tup [],.tup [.str (wdZ z)]]) n:=h 1 [] n nofun (by simp) (by omega);generalize hX:PV.tup [.str (wdZ z)]=X at *;generalize hP:ps.map prS=PP at *;walk_at "pu";refine gd2 cp rfl ?_;rw [en];cases he:ps.isEmpty with
 | true=>exact if_t rfl h0
 | false =>
   have p1:0 < ps.length:=by
     cases ps with
     | nil=>cases he
     | cons _ _=>exact Nat.succ_pos _
   have cl:=fun a b=>cut_le (l:=PP) (a:=a) (b:=b);refine if_f rfl ⟨⟨by omega,by omega,by omega⟩,fun d d0 d1=>?_⟩;have c1:=cl none (some d);have c2:=cl (some d) (some (d + 1));have c3:=cl (some d) none;have c4:=cl (some (d + 1)) none;have c5:=cl (some 1) none;have c6:=cl none (some 1);refine⟨by omega,by rw [E3];omega,by omega,⟨_,rfl⟩,by omega,by omega,fun e e0 e1=>?_⟩;have cs:e=0\/e=1\/e=2:=by omega
   rw [cm,cm,cm,cm,cm,cm] at *;rw [A9] at c1 c2 c3 c4 c5 c6;rcases cs with rfl | rfl | rfl
   · show R (.tup [.int (((cutP ps none (some d)).map prS++(cutP ps (some d) (some (d + 1))).map prS++(cutP ps (some d) none).map prS).length:Nat),.tup ((cutP ps none (some d)).map prS++(cutP ps (some d) (some (d + 1))).map prS++(cutP ps (some d) none).map prS),X]) _;rw [<- K3,<- K3];exact h' _ _ (fun p hp=>by simp only [E7] at hp;rcases hp with(hp | hp) | hp <;> exact Eo hp) (by rw [E3,E3];omega) (by omega)
   · show R (.tup [.int (((cutP ps none (some d)).map prS++(cutP ps (some (d + 1)) none).map prS).length:Nat),.tup ((cutP ps none (some d)).map prS++(cutP ps (some (d + 1)) none).map prS),X]) _;rw [<- K3];exact h' _ _ (fun p hp=>by simp only [E7] at hp;rcases hp with hp | hp <;> exact Eo hp) (by rw [E3];omega) (by omega)
   · show R (.tup [.int (((cutP ps (some 1) none).map prS++(cutP ps none (some 1)).map prS).length:Nat),.tup ((cutP ps (some 1) none).map prS++(cutP ps none (some 1)).map prS),X]) _;rw [<- K3];exact h' _ _ (fun p hp=>by simp only [E7] at hp;rcases hp with hp | hp <;> exact Eo hp) (by rw [E3];omega) (by omega)
structure Lo where
 q:Nat
 s:Nat
 r:Nat
 row:List Str
 other:List Str
def Lo.ok (l:Lo):Prop:=l.s<=8/\l.r<=7/\RowS l.row/\1<=l.row.length/\l.row.length<=l.s/\l.row.length<=l.r + 2/\l.other.Perm l.row
def loP (l:Lo):PV:=.tup [.pot l.q,.tup [.int l.s,.int l.r],rowP l.row,rowP l.other]
def thP (l:Lo×List (Str×Str)):PV:=fewP (decide (l.1.r=0)) (Nm (decide (l.1.r=0)) l.1.row l.1.other) l.2
def Wy (l:Lo×List (Str×Str)):Prop:=led l.1.row l.2=some l.1.other/\l.2.length=Nm (decide (l.1.r=0)) l.1.row l.1.other/\∀p∈l.2,p.1∈l.1.other/\p.2∈l.1.other
theorem Lo.few {l:Lo}(h:l.ok){n:Nat}{R:PV->Nat->Prop}(q:∀ps,Wy (l,ps)->R (thP (l,ps)) n):AB [.tup [.int l.s,.int l.r],rowP l.row,rowP l.other] n R:=by
 obtain⟨h1,h2,rr,l1,l2,l3,pm⟩:=h;exact m_few (pm.nodup_iff.mpr rr.1) pm.symm l1 l2 l3 h1 fun ps a b c=>q ps ⟨a,b,c⟩
theorem HJ:∀(L:List Lo) (s0 s1 s2 s3:Option Pu.Slot) (n:Nat) (R:List PV->Nat->Prop),(∀l∈L,l.ok)->(∀M:List (Lo×List (Str×Str)),M.map Prod.fst=L->(∀l∈M,Wy l)->R (M.map thP) n)->
   Q3 (gTp 4 (gCn (gN 0) (gCn (gN 1) (gCn (gN 2) (gCn (gN 3) gNl))))) qTru (B4 AB (A0 (qV 1) (A0 (qV 2) (A0 (qV 3) qNil)))) (L.map loP) [s0,s1,s2,s3] n R
 | [],_,_,_,_,_,_,_,h=>h [] rfl nofun
 | l :: L, s0, s1, s2, s3, n, R, ho, h => by
   refine⟨rfl,?_⟩;refine Lo.few (ho l F4) fun ps w=>?_;refine HJ L _ _ _ _ _ _ (fun a ha=>ho a (D0 _ ha)) fun M hM hw=>?_;exact h ((l,ps)::M) (by rw [G7,hM]) fun a ha=>(C0.mp ha).elim (fun e=>by rw [e];exact w) (hw a)
theorem rep_bl (b:Bool):∃z:Str,∀R:PV->Prop,R (.str z)->Ap (.bl b) R:=by
 cases b <;> exact⟨_,fun R h=>⟨rfl,by decide,by decide,h⟩⟩
theorem m_law (ns:List Int)(hl:ns.length<=63):Eb ⟨fun _ _=>False,fun r _=>r=.bl true,fun _ _=>False,fun _ _=>False⟩ (Z1 ["_law_script","_law_lots","_law_k","_law_pot","_law_n","_law_low","_law_meeting","_law_row","_law_told","_law_other","_law_thing","_law_odd"] [.scr ns]) 0:=by
 unfold Eb;refine M9 fun U hU=>?_;walk_at "pu";subst hU;refine M9 fun U hU=>?_;walk_at "pu";generalize hk:(if(if((ns.length:Nat):Int) < 3 then((ns.length:Nat):Int) else 3) > 1 then(if((ns.length:Nat):Int) < 3 then((ns.length:Nat):Int) else 3) else 1)=k;have hk2:1<=k/\k<=3:=by rw [<- hk];repeat' split <;> omega
 refine⟨⟨by omega,by omega⟩,?_⟩;refine M7 (fun i env m=>∃s2 s3 s4 s5 s6 s7,∃L:List Lo,env=[some (.v (.scr ns)),some (.own (L.map loP)),s2,s3,s4,s5,s6,s7,none,none,none,none]/\L.length=i/\(∀p∈L,p.ok)/\m<=2000 * i) _ 0 _ _ ⟨none,none,none,none,none,none,[],rfl,rfl,(fun _ z=>nomatch z),by omega⟩ (fun i x env m N ex hI hN=>?_) (fun env m hI=>?_)
 · obtain⟨s2,s3,s4,s5,s6,s7,L,rfl,hi,hy,hm⟩:=hI;obtain⟨hj,rfl⟩:=u0 ex;rw [G0] at hi hm hN;generalize hF:L.map loP=FF;have Fl:FF.length=L.length:=by rw [<- hF,A9]
   refine M9 fun V hV=>?_;walk_at "pu";refine⟨⟨hl,by omega,by omega⟩,fun q=>?_⟩;subst hV;refine M9 fun V hV=>?_;walk_at "pu";refine⟨by omega,fun d d0 d1=>?_⟩;obtain⟨c,hc⟩:=l4 (show 0<=1 + d by omega);rw [hc];have c1:1<=c/\c<=8:=by omega
   subst hV;refine M9 fun V hV=>?_;walk_at "pu";have lw:(if(c:Int) - 2 > 0 then(c:Int) - 2 else 0)=((c - 2:Nat):Int):=by split <;> omega
   rw [lw];subst hV;refine M9 fun V hV=>?_;walk_at "pu";refine⟨⟨by omega,by omega,by omega⟩,fun a a0 a1=>⟨⟨by omega,by omega,by omega⟩,fun b b0 b1=>?_⟩⟩;obtain⟨s,hs⟩:=l4 (show 0<=(c:Int) + a by omega);obtain⟨r,hr⟩:=l4 (show 0<=((c - 2:Nat):Int) + b by omega);rw [hs,hr];subst hV;refine M9 fun V hV=>?_;walk_at "pu";refine LH (by omega) (by omega) (by omega) fun zs n1 hz rz hn1=>?_;subst hV;generalize hZ:rowP zs=Z at *;walk_at "pu";refine⟨⟨_,rfl⟩,?_⟩;rw [<- hZ];refine m_goal (by omega) (by omega) (by omega) fun ys n2 pm hn2=>?_;rw [hZ];refine⟨by omega,hN _ _ ⟨some (.v (.int (0 + i))),some (.v (.pot q)),some (.v (.int (c:Int))),some (.v (.int ((c - 2:Nat):Int))),some (.v (.tup [.int (s:Int),.int (r:Int)])),some (.v Z),L++[⟨q,s,r,zs,ys⟩],?_,by rw [E3,hi];rfl,fun p hp=>?_,by omega⟩⟩
   · rw [K3,hF,List.map_singleton,loP];dsimp only;rw [hZ]
   · rcases E7.mp hp with hp | hp
     · exact hy p hp
     · rw [E1.mp hp];exact⟨by dsimp only;omega,by dsimp only;omega,rz,by dsimp only;omega,by dsimp only;omega,by dsimp only;omega,pm⟩
 · obtain⟨s2,s3,s4,s5,s6,s7,L,rfl,hi,hy,hm⟩:=hI;rw [G0,i3] at hi hm;dsimp only;subst hU;refine M9 fun U hU=>?_;generalize hF:L.map loP=FF;have Fl:FF.length=L.length:=by rw [<- hF,A9]
   walk_at "pu";refine⟨by omega,?_⟩;rw [<- hF];refine HJ L _ _ _ _ _ _ hy fun M hM hw=>?_;have Ml:M.length=L.length:=by rw [<- hM,A9]
   rw [<- hM,b7];have hw':∀l∈M,l.1.ok:=fun l hl=>hy l.1 (by rw [<- hM];exact List.mem_map_of_mem hl);subst hU;refine M9 fun U hU=>?_;generalize hA:M.map (loP∘Prod.fst)=AA;generalize hB:M.map thP=BB;walk_at "pu";show forL _ _ _ (zipP AA BB) _ _;refine M7 (fun i env m'=>∃s3 s6 s7 s9 s10 s11,env=[some (.v (.scr ns)),some (.v (.lst AA)),s2,s3,s4,s5,s6,s7,some (.v (.lst BB)),s9,s10,s11]/\m'<=m + 2 * i) _ 0 _ _ ⟨s3,s6,s7,none,none,none,rfl,by omega⟩ (fun i x env m' N ex hI hN=>?_) (fun env m' hI=>?_)
   · obtain⟨s3,s6,s7,s9,s10,s11,rfl,hm'⟩:=hI;rw [G0] at hm' hN;obtain⟨u,v,eu,ev,rfl⟩:=Gk ex;rw [<- hA] at eu;rw [<- hB] at ev;obtain⟨l,el,rfl⟩:=W5 eu;obtain⟨l',el',rfl⟩:=W5 ev;have e:l'=l:=D7 (el'.symm.trans el);subst e;have il:i < M.length:=(C5.mp el).1;have lm:=J7 el;have w:=hw _ lm;have ok:=hw' _ lm;obtain⟨⟨q,s,r,row,other⟩,ps⟩:=l';obtain⟨h2,hr,rr,l1,ls,lr,pm⟩:=ok;dsimp only at h2 hr rr l1 ls lr pm;obtain⟨w1,w2,w3⟩:=w;dsimp only at w1 w2 w3;have hz:decide (r=0)=true->r=0:=of_decide_eq_true;have hp:∀p∈ps,p.1∈row/\p.2∈row:=fun p h=>⟨pm.mem_iff.mp (w3 p h).1,pm.mem_iff.mp (w3 p h).2⟩;have nd:=pm.nodup_iff.mpr rr.1
     have num:Nm (decide (r=0)) row other + rN row other=row.length:=by
       unfold Nm
       by_cases c:r=0
       · rw [decide_eq_true c];exact LZ nd pm.symm l1 (by omega)
       · rw [decide_eq_false c];have:=Ek (row:=row) (other:=other);show row.length - rN row other + rN row other=row.length;omega
     have pl:ps.length<=8:=by omega
     have mr:=fun(m:Nat) (R:PV->Nat->Prop) q=>HI (k:=Nm (decide (r=0)) row other) (n:=m) (R:=R) hz h2 hr ls lr rr.1 pm.symm hp q;have ms:=fun(m:Nat) (R:PV->Nat->Prop) q=>HH (k:=Nm (decide (r=0)) row other) (n:=m) (R:=R) hz h2 hr l1 ls lr rr.1 pm.symm rr.2 (by omega) hp q;have mr':=fun(k:Nat) (ps':List (Str×Str)) (hs:∀p∈ps',p∈ps) (m:Nat) (R:PV->Nat->Prop) q=>HI (k:=k) (n:=m) (R:=R) hz h2 hr ls lr rr.1 pm.symm (fun p h=>hp p (hs p h)) q;have ms':=fun(k:Nat) (ps':List (Str×Str)) (hs:∀p∈ps',p∈ps) (pl':ps'.length<=1000) (m:Nat) (R:PV->Nat->Prop) q=>HH (k:=k) (n:=m) (R:=R) hz h2 hr l1 ls lr rr.1 pm.symm rr.2 pl' (fun p h=>hp p (hs p h)) q;have mo:=fun(R:PV->Nat->Prop) h=>m_oth (z:=decide (r=0)) (k:=Nm (decide (r=0)) row other) (q:=q) (n:=m') (ps:=ps) (R:=R) (by omega) (by omega) h;have ma:=fun(R:PV->Nat->Prop) q=>HG (row:=row) (other:=other) (n:=m') (R:=R) rr.1 (by omega) pm q;rw [decide_eq_true (show Fw (decide (r=0)) row other (Nm (decide (r=0)) row other) ps from⟨w1,w2,rfl⟩)] at mr ms;rw [show(loP∘Prod.fst) (({ q:=q,s:=s,r:=r,row:=row,other:=other }:Lo),ps)=.tup [.pot q,.tup [.int s,.int r],rowP row,rowP other] from rfl,show thP (({ q:=q,s:=s,r:=r,row:=row,other:=other }:Lo),ps)=fewP (decide (r=0)) (Nm (decide (r=0)) row other) ps from rfl];have hr0:rowP row=.tup (row.map PV.str):=rfl
     have Rl:(row.map PV.str).length=row.length:=A9 ..;have eF:fewP (decide (r=0)) (Nm (decide (r=0)) row other) ps=.tup [.int (Nm (decide (r=0)) row other:Nat),.tup (ps.map prS),.tup [.str (wdZ (decide (r=0)))]]:=rfl;rw [hr0] at mr ms mr' ms' ma ⊢;generalize hW:row.map PV.str=W at *;generalize hO:rowP other=O at *;generalize fewP (decide (r=0)) (Nm (decide (r=0)) row other) ps=TH at *;generalize Nm (decide (r=0)) row other=kk at *;clear hU hy hM hw hw' hA hB;refine⟨rfl,rfl,?_⟩;dsimp only [gCn,gN,gNl,List.set];refine M9 fun V hV=>?_;walk_at "pu";have ix0:=fun(R:PV->Prop) (q:R (.int (kk:Int)))=>(show wIx TH (.int 0) R by rw [eF];exact q);refine mr _ _ (if_f rfl (ix0 _ (ma _ ?_)));dsimp only;rw [Rl];refine gd1' rfl (if_f (by rw [Dl,decide_eq_true (by omega)];rfl) ?_);subst hV;refine M9 fun V hV=>?_;walk_at "pu";refine mo _ fun k' ps' n' a1 a2 a3=>?_;have mr'':=fun R q=>mr' k' ps' a1 n' R q;have ms'':=fun R q=>ms' k' ps' a1 (by omega) n' R q;generalize decide (Fw (decide (r=0)) row other k' ps')=b at *;generalize fewP (decide (r=0)) k' ps'=OD at *;obtain⟨z,hz⟩:=rep_bl b;subst hV;walk_at "pu";refine ms _ _ (if_f rfl (ms'' _ (hz _ (mr'' _ (hz _ ?_)))));show(if(!eqP (.str z) (.str z))=true then _ else _);exact if_f (by rw [Z2,decide_eq_true rfl];rfl) (hN _ _ ⟨_,_,_,_,_,_,rfl,by omega⟩)
   · obtain⟨s3,s6,s7,s9,s10,s11,rfl,hm'⟩:=hI;subst hU
     rfl
end Tb
end
section
namespace L2
open PySem PySem.Spec PyProof.Rows
theorem HK {X:Cx}:OpR X (O1 .Mult) (rI IntMulOk fun i j=>.int (i * j)):=opI fun _ _ _ _ _ _ _ hc q=>mul_int q hc
end L2
namespace Tb
open PySem L2 Pu
section
variable {P:C3}{w:World}{K:A3}{mg:Str->Option Value}{base:Heap}
theorem Mc (F:Fn0 K mg "_law_begin" (top 31))(m_len:mg "len"=none)(m_abs:mg "abs"=none)(m_int:mg "int"=none):Kn P w K mg base "_law_begin" 1 ["_law_script","_law_k"] (Pu.BD K):=by
 have sc:R8 ["_law_script","_law_k","_law_cell","_law_seed","_law_one"] ["_law_script","_law_k"] (E5 (top 31)):=⟨rfl,rfl,rfl,by decide +kernel,rfl,by decide +kernel,by decide +kernel⟩;refine F.ok sc (fun vs H Q E h=>?_) (fun _ _ _ _ _ _=>bd2 fun _ _=>rfl) (fun f cdv A outer s H vs Q E hr h=>?_)
 · obtain⟨a,ns,k,rfl,_⟩:=h
   rfl
 obtain⟨a,ns,k,rfl,hS,hl63,h0,h1,q⟩:=h
 refine⟨_,(R6 (X8 (i:=2) sc.nd rfl (Or.inl rfl) (Iy (y9 op_lt (pv 1) (Y0 Ff rfl m_len Fk (C6 (pv 0) E9)) (D5 _)) (V7 Y1 (pv 0) (pv 1) (fun _ _=>rfl)) D1))
     (R6 (X8 (i:=3) sc.nd rfl (Or.inl rfl) (D4 U2 D1 (D4 V5 D1 (pv 1))))
     (R6 (EJ PassesOwn.never rfl (EH (E_ Fd (pv 0) EY (EZ D1))) (EE (i:=4) sc.nd rfl (Or.inl rfl)) (y4 (X8 (i:=3) sc.nd rfl (Or.inl rfl) (D4 V6 (D4 U2 (D4 U2 (D4 V5 (pv 3) D1) (D4 V6 (pv 4) D1)) D1) D1))))
     (y4 (Bh (EO (C6 (D4 HK (D4 V6 (Y0 EL rfl m_abs Fm (C6 (pv 2) E9)) (D4 HK (D4 CC D1 D1) (D4 CC D1 D1))) (CJ EM rfl m_int Bk (C6 (CF op_ge (Y0 EL rfl m_abs Fm (C6 (pv 2) E9)) (D4 CC D1 D1) (D5 _)) E9))) (C6 (pv 3) (C6 D1 E9))))))))),?_⟩
 refine Jz (fun v=>∃c:Int,v=.int c) (fun key=>?_) ?_
 · refine⟨_,rfl,_,rfl,a,_,rfl,.inl hS,_,_,rfl,rfl,_,rfl,?_⟩;refine ite2 (fun c=>?_) (fun c=>?_)
   · have c':k < (((ns.map V.int).length:Nat):Int):=of_decide_eq_true c;rw [A9] at c';obtain⟨v,qa⟩:=at_map (ns:=ns) h0 c';exact⟨_,rfl,_,rfl,a,_,_,_,rfl,rfl,hS,qa,key _ ⟨_,rfl⟩⟩
   · exact key _ ⟨0,rfl⟩
 rintro v ⟨c,rfl⟩;refine⟨_,rfl,_,_,rfl,rfl,.inl ⟨by decide,by decide⟩,_,_,rfl,rfl,?_⟩;dsimp only [N3];have hk':0<=7919 + 104729 * k/\7919 + 104729 * k < 2305843009213693951:=by omega
 generalize 7919 + 104729 * k=sd0 at hk' ⊢;refine⟨_,rfl,63,rfl,a,_,rfl,hS,fun p0 hp0=>?_⟩;have sm0:Same H (upd H p0 (.lst (cutV (ns.map V.int) none (some 63)))):=Same.lay1 hp0
 have cut:cutV (ns.map V.int) none (some 63)=ns.map V.int:=by
   unfold cutV;rw [HT.sIx_none,show(some (63:Int))=some ((63:Nat):Int) from rfl,HT.sIx_nat,List.drop_zero,A9,Nat.min_eq_right hl63];exact V2 (by rw [A9];omega)
 rw [cut] at sm0 ⊢;refine⟨p0,rfl,⟨_,SqL.of E4⟩,?_⟩;refine IH (xs:=ns.map V.int) (fun i σ H'=>∃sd s4,σ=[some (.ref a),some (.int k),some (.int c),some (.int sd),s4]/\(0<=sd/\sd < 2305843009213693951)/\H'=upd H p0 (.lst (ns.map V.int))) ⟨sd0,none,rfl,hk',rfl⟩ (fun i σ H' _ h=>?_) (fun i x σ H' ex h=>?_) (fun σ H' h=>?_)
 · obtain⟨sd,s4,rfl,_,rfl⟩:=h;exact SqL.of E4
 · obtain⟨sd,s4,rfl,hsd,rfl⟩:=h
   obtain⟨y,ey,rfl⟩:∃y:Int,ns[i]?=some y/\V.int y=x:=by
     rw [G6] at ex;cases en:ns[i]? with
     | none=>rw [en] at ex;cases ex
     | some y=>rw [en] at ex;cases ex;exact⟨y,rfl,rfl⟩
   refine⟨_,rfl,_,_,rfl,rfl,.inl ⟨by omega,by omega⟩,_,rfl,_,_,rfl,rfl,(by show(0:Int) < 2147483647;decide),_,_,rfl,rfl,_,_,rfl,rfl,_,_,rfl,rfl,(by show(0:Int) < 2305843009213693951;decide),?_⟩;exact⟨_,_,rfl,⟨c8 _ (by decide),l5 _ (by decide)⟩,rfl⟩
 · obtain⟨sd,s4,rfl,hsd,rfl⟩:=h;refine⟨_,rfl,_,rfl,_,_,rfl,rfl,⟨by decide,by decide,by decide⟩,_,_,rfl,rfl,⟨by decide,by decide,by decide⟩,_,_,rfl,rfl,(by show IntMulOk (10 ^ c9 60) (10 ^ c9 60);unfold IntMulOk;decide +kernel),_,_,rfl,rfl,(by show(0:Int) < 10 ^ c9 60 * 10 ^ c9 60;decide +kernel),?_⟩;have m0:0<=(if c < 0 then -c else c) % (10 ^ c9 60 * 10 ^ c9 60):=c8 _ (by decide +kernel);refine⟨_,rfl,_,rfl,_,_,rfl,rfl,⟨by decide,by decide,by decide⟩,_,_,rfl,rfl,?_⟩;refine .inr ⟨_,rfl,?_⟩;generalize hb:(decide ((10:Int) ^ c9 18<=(if c < 0 then -c else c)))=b;have hz:0<=(if b=true then(1:Int) else 0)/\(if b=true then(1:Int) else 0) < 2 ^ 64:=by cases b <;> decide
   refine⟨_,_,rfl,rfl,?_⟩;generalize (if b=true then(1:Int) else 0)=z at hz ⊢;refine⟨(show CMul _ z from .inr ⟨by omega,hz.2⟩).ok,_,rfl,(by show 3<=B1;decide),fun p hp=>?_⟩;exact q _ sm0 p _ _ hp ⟨Int.mul_nonneg m0 hz.1,by omega,by omega,by decide,by decide⟩
theorem Md (F:Fn0 K mg "_law_take" (top 32)):Kn P w K mg base "_law_take" 1 ["_law_pot","_law_many"] (D3 K potL t9):=by
 refine JV ?_;have sc:R8 ["_law_pot","_law_many","_law_digit","_law_turn","_law_mixed"] ["_law_pot","_law_many"] (E5 (top 32)):=⟨rfl,rfl,rfl,by decide +kernel,rfl,by decide +kernel,by decide +kernel⟩;refine F.ok sc (fun vs H Q E h=>?_) (fun _ _ _ _ _ _=>bd2 fun _ _=>rfl) (fun f cdv A outer s H vs Q E hr h=>?_)
 · obtain⟨p,own,seed,go,many,rfl,_⟩:=h
   rfl
 obtain⟨p,own,seed,go,many,rfl,hp,⟨o0,s0,s1,g0,g1⟩,g2,n0,n1,q⟩:=h
 refine⟨_,(R6 (ps_if (y9 op_gt (V7 Y1 (pv 0) D1 (fun _ _=>rfl)) D1 (D5 _)) (R6 (X8 (i:=2) sc.nd rfl (Or.inl rfl) (D4 V6 (V7 Y1 (pv 0) D1 (fun _ _=>rfl)) (pv 1)))
     (R6 (CB (D4 Bi (V7 Y1 (pv 0) D1 (fun _ _=>rfl)) (pv 1)) (CA (pv 0) D1 CN))
     (y4 (Bh (pv 2))))) ED)
     (R6 (CB (D4 U2 (V7 Y1 (pv 0) D1 (fun _ _=>rfl)) D1) (CA (pv 0) D1 CN))
     (R6 (X8 (i:=3) sc.nd rfl (Or.inl rfl) (V7 Y1 (pv 0) D1 (fun _ _=>rfl)))
     (R6 (X8 (i:=4) sc.nd rfl (Or.inl rfl) (D4 V6 (D4 V5 (D4 U2 (D4 U2 (V7 Y1 (pv 0) D1 (fun _ _=>rfl)) (D4 V5 (D4 V5 D1 (pv 3)) (pv 3))) (D4 V5 D1 (pv 3))) D1) D1))
     (R6 (X8 (i:=4) sc.nd rfl (Or.inl rfl) (D4 V6 (D4 V5 (pv 4) (D4 U2 (D4 U2 (D4 V6 (pv 4) D1) (D4 V5 D1 (pv 3))) D1)) D1))
     (y4 (Bh (D4 V6 (D4 U2 (D4 Bi (pv 4) D1) (D4 Bi (pv 4) D1)) (pv 1))))))))),?_⟩
 refine⟨_,rfl,p,_,0,_,rfl,rfl,SqL.of hp,rfl,_,_,rfl,rfl,_,rfl,?_⟩;refine ite2 (fun c=>?_) (fun c=>?_)
 · refine⟨_,rfl,p,_,0,_,rfl,rfl,SqL.of hp,rfl,_,rfl,_,_,rfl,rfl,n0,?_⟩;refine⟨_,rfl,p,_,0,_,rfl,rfl,SqL.of hp,rfl,_,rfl,_,_,rfl,rfl,⟨n0,by omega⟩,?_⟩;refine⟨_,rfl,p,_,0,0,rfl,rfl,hp,rfl,?_⟩;refine⟨_,rfl,?_⟩;exact q _ _ _ _ (c8 _ (by omega)) (l5 _ n0) ⟨Int.ediv_nonneg o0 (by omega),s0,s1,g0,g1⟩ (by omega)
 · refine⟨_,rfl,p,_,2,_,rfl,rfl,SqL.of hp,rfl,_,_,rfl,rfl,?_⟩;refine⟨_,rfl,p,_,2,2,rfl,rfl,hp,rfl,?_⟩;refine⟨_,rfl,p,_,2,_,rfl,rfl,SqL.of E4,rfl,?_⟩;refine⟨_,rfl,p,_,1,_,rfl,rfl,SqL.of E4,rfl,_,rfl,_,_,rfl,rfl,.inl ⟨by decide,by decide⟩,_,rfl,_,_,rfl,rfl,.inr ⟨by omega,by omega⟩,_,_,rfl,rfl,?_⟩;refine⟨_,rfl,_,_,rfl,rfl,.inl ⟨by decide,by decide⟩,_,_,rfl,rfl,_,_,rfl,rfl,.inr ⟨by decide,by decide⟩,_,_,rfl,rfl,(by show(0:Int) < 2305843009213693921;decide),?_⟩;dsimp only [N3];generalize (seed + 65537 * (go + 1) * (go + 1) + 15485863 * (go + 1)) * 48271=y;have m0:=c8 y (show(2305843009213693921:Int)≠0 by decide);have m1:=l5 y (show(0:Int) < 2305843009213693921 by decide);generalize y % 2305843009213693921=z at m0 m1 ⊢;refine⟨_,rfl,_,rfl,_,_,rfl,rfl,(by show(0:Int) < 1000003;decide),_,rfl,_,_,rfl,rfl,.inl ⟨by decide,by decide⟩,_,_,rfl,rfl,_,_,rfl,rfl,_,_,rfl,rfl,.inl ⟨by omega,by omega⟩,_,_,rfl,rfl,(by show(0:Int) < 2305843009213693907;decide),?_⟩;refine⟨_,rfl,_,_,rfl,rfl,⟨by decide,by decide⟩,_,rfl,_,_,rfl,rfl,⟨by decide,by decide⟩,_,_,rfl,rfl,_,rfl,_,_,rfl,rfl,n0,?_⟩;exact q _ _ _ _ (c8 _ (by omega)) (l5 _ n0) ⟨o0,s0,s1,by omega,by omega⟩ (by omega)
end
end Tb
end
section
namespace Pu
open PySem PySem.Spec L2
section
variable {T:PotK}{ι:Type}{K:A3}{F:ι->Cx}{e:Expr}{es:List Expr}{st:Stmt}{pe:pE}{pl:pA}{pos:Pos}{np:Bool}{x:Str}
theorem qv (i:Nat)(h:∀z,EW (F z) (.Name x pos) (tVar i):=by exact fun _=>vw _):QE T K F (.Name x pos) (qV i):=qe_var i h
theorem qf {p:Pos}{f:pF}{ps:List Str}{k j:Nat}{P:C3}{w:World}{K0:A3}{mg:Str->Option Value}{base:Heap}{A:Around}(hG:Kn P w K0 mg base x k ps (D3 K T f))(hr:Room j A)(ha:QA T K F (e::es) pl)(hF:∀z,(F z).prog=P/\(F z).w=w/\(F z).K=K0/\(F z).mg=mg/\(F z).base=base/\(F z).A=A:=by exact fun _=>⟨rfl,rfl,rfl,rfl,rfl,rfl⟩)(hk:k<=j:=by decide)(hg:∀z,Gl (F z) x:=by intro _;rfl)(hdb:(x == ("__debug__":Str))=false:=by decide)(hs:C9 e=true:=by rfl)(hpl:∀z,(backTo pos (C7 es (F z).env)).any (·.1)=false:=by intro _;rfl):QE T K F (.Call (.Name x p) (e::es) [] pos) (B4 f pl):=qe_fn (fun z=>by obtain⟨h1,h2,h3,h4,h5,_⟩:=hF z;rw [h1,h2,h3,h4,h5];exact hG) (fun z=>by rw [(hF z).2.2.2.2.2];exact hr) hk hg ha hdb hs hpl
theorem gn (i:Nat){N:List Str}(hN:N.Nodup)(hNF:∀z,(F z).N=N:=by exact fun _=>rfl)(hi:∀z,(F z).N[i]?=some x:=by intro _;rfl)(hx:∀z,Loc (F z).env.scope x:=by intro _;first | exact Or.inl rfl | exact Or.inr rfl)(hf:∀z,(F z).fn x=true\/(F z).env.scope.names.lookup x=some .local:=by intro _;first | exact .inl rfl | exact .inr rfl | assumption):QG K F (.Name x pos) (gN i):=JO fun z=>JN i (hNF z▸hN) (hi z) (hx z) (hf z)
theorem sws (i:Nat){pos':Pos}{N:List Str}(hN:N.Nodup)(hNF:∀z,(F z).N=N:=by exact fun _=>rfl)(hi:∀z,(F z).N[i]?=some x:=by intro _;rfl)(hx:∀z,Loc (F z).env.scope x:=by intro _;first | exact Or.inl rfl | exact Or.inr rfl)(hs:∀z,T5 e (some (.Name x pos')) pos.line (F z).env=pure false:=by intro _;rfl)(hf:∀z,(F z).fn x=true\/(F z).env.scope.names.lookup x=some .local:=by intro _;first | exact .inl rfl | exact .inr rfl | assumption)(z:ι)(te:TE)(h:EW (F z) e te):SW (F z) (.Assign [.Name x pos'] e pos) (tAsg te (N3 i)):=FN (hNF z▸hN) (hi z) (hx z) (hs z) (hf z) te h
end
section
variable {P:C3}{w:World}{K:A3}{mg:Str->Option Value}{base:Heap}{T:PotK}{x:Str}{st:Stmt}{N ps:List Str}{k:Nat}{body:pS}
theorem fnk (F0:Fn0 K mg x st)(h:R8 N ps (E5 st)->∀(f:Addr) (cdv:Value) (A:Around) (outer:List PySem.Env) (s:Shared) (H:Hp) (E:XK),Room k (A.deeper (Ck x (E5 st) s.heap.objs.size f cdv))->
     QSs T false K (fun _:Unit=>(cxOf CX0 P w K mg base N x (E5 st) f cdv A outer s H E).nox) (N6 st) body) (sc:R8 N ps (E5 st):=by exact⟨rfl,rfl,rfl,by decide +kernel,rfl,by decide +kernel,by decide +kernel⟩)
   (bd:∀(kV doc pm:Value) (an:Option Addr) (cdv ct:Value) (us:List Value),us.length=ps.length->bindArgs (P1 x x (U3 st) (N6 st) (E5 st) .none kV doc pm an cdv ct) ⟨us,[]⟩=pure (ps.zip us):=by intro _ _ _ _ _ _;first | exact bd1 fun _=>rfl | exact bd2 fun _ _=>rfl | exact bd3 fun _ _ _=>rfl | exact bd4 fun _ _ _ _=>rfl | exact bd5 fun _ _ _ _ _=>rfl) :
   Kn P w K mg base x (k + 1) ps (D3 K T (fnP N ps body)):=fn_ok F0 sc bd (h sc)
end
end Pu
end
section
namespace Tb
open PySem L2 Pu
section
variable (P:C3)(w:World)(K:A3)(mg:Str->Option Value)(base:Heap)(Pt:Addr)
abbrev Me:Prop:=Kn P w K mg base "_law_begin" 1 ["_law_script","_law_k"] (BD K)
abbrev BY:Prop:=Kn P w K mg base "_law_take" 1 ["_law_pot","_law_many"] (D3 K potL t9)
abbrev HL:Prop:=Kn P w K mg base "_law_boats" 2 ["_law_pot","_law_many"] (D3 K potL DK)
abbrev Ep:Prop:=Kn P w K mg base "may_count_pairs" 1 ["meeting"] (D3 K potL BO)
abbrev Er:Prop:=Kn P w K mg base "may_count_rounds" 1 ["meeting","n"] (D3 K potL BP)
abbrev Es:Prop:=Kn P w K mg base "apart_by" 1 ["row","other"] (D3 K potL BQ)
abbrev BZ:Prop:=Kn P w K mg base "exchanged" 1 ["row","one","other"] (D3 K potL Ay)
abbrev HM:Prop:=Kn P w K mg base "touches_by_pairs" 2 ["row","other"] (D3 K potL DL)
abbrev HN:Prop:=Kn P w K mg base "touches_by_rounds" 2 ["row","other"] (D3 K potL DM)
abbrev Et:Prop:=Kn P w K mg base "rounds_of" 1 ["row","other"] (D3 K potL Az)
abbrev HP:Prop:=Kn P w K mg base "fewest" 3 ["meeting","row","other"] (D3 K potL AB)
abbrev HQ:Prop:=Kn P w K mg base "_law_otherwise" 2 ["_law_pot","_law_thing"] (D3 K potL DN)
abbrev HR:Prop:=Kn P w K mg base "is_text" 1 ["thing","text"] (D3 K potL BR)
abbrev HS:Prop:=Kn P w K mg base "shows_paper" 2 ["meeting","row","other","many","thing"] (D3 K potL DO)
abbrev HU:Prop:=Kn P w K mg base "races_of" 1 ["meeting","n"] (D3 K potL DP)
abbrev HV:Prop:=Kn P w K mg base "span" 1 ["meeting","n","k"] (D3 K potL DQ)
abbrev HW:Prop:=Kn P w K mg base "touch_places" 2 ["meeting","n"] (D3 K potL BS)
abbrev HX:Prop:=Kn P w K mg base "leads_there" 3 ["meeting","row","other","pairs"] (D3 K potL DR)
abbrev HY:Prop:=Kn P w K mg base "is_boat" 1 ["thing"] (D3 K potL DS)
abbrev HZ:Prop:=Kn P w K mg base "is_pair_of" 2 ["row","thing"] (D3 K potL DT)
abbrev H_:Prop:=Kn P w K mg base "shows_touches" 4 ["meeting","row","other","thing"] (D3 K potL DU)
abbrev Ia:Prop:=Kn P w K mg base "is_whole" 1 ["thing","low","high"] (D3 K potL DV)
abbrev Ib:Prop:=Kn P w K mg base "shows_fewest" 5 ["meeting","row","other","thing"] (D3 K potL BT)
abbrev Ie:Prop:=Kn P w K mg base "_law_goal" 2 ["_law_pot","_law_row"] (D3 K potL DW)
abbrev Ig:Prop:=Kn P w K mg base "_law_apart" 1 ["_law_row","_law_other"] (D3 K potL DX)
abbrev Eu:Prop:=Kn P w K mg base "_law_rounds" 1 ["_law_row","_law_other"] (D3 K potL AC)
abbrev Ih:Prop:=Kn P w K mg base "_law_paper_right" 2 ["_law_meeting","_law_row","_law_other","_law_many","_law_paper"] (D3 K potL DY)
abbrev Ii:Prop:=Kn P w K mg base "_law_exchanged" 1 ["_law_row","_law_p","_law_q"] (D3 K potL DZ)
abbrev Ij:Prop:=Kn P w K mg base "_law_is_pair" 1 ["_law_meeting","_law_p","_law_q"] (D3 K potL D_)
abbrev Ik:Prop:=Kn P w K mg base "_law_led" 2 ["_law_meeting","_law_row","_law_touches"] (D3 K potL Ea)
abbrev Il:Prop:=Kn P w K mg base "_law_right" 3 ["_law_meeting","_law_row","_law_other","_law_thing"] (D3 K potL BU)
end
section
variable {P:C3}{w:World}{K:A3}{mg:Str->Option Value}{base:Heap}{Pt cd:Addr}
theorem Mf (F0:Fn0 K mg "_law_boats" (top 33))(g1:BY P w K mg base)(m6:mg "len"=none)(m10:mg "range"=none)(m16:mg "tuple"=none):HL P w K mg base:=fnk F0 fun sc _ _ _ _ _ _ _ hr=>(A5 (D6 2 (sws 2 sc.nd) L4)
   (A5 (t7 3 4 (fun _=>h6 (i:=3) (j:=4) rfl sc.nd rfl rfl (by decide) rfl rfl rfl) (ql_v (qf g1 hr (A2 (qv 0) (A2 A4 A7)))) (ql_v (B8 (QN.ee (Q1 (A2 A4 (A2 A4 (A2 A4 (A2 A4 (A2 A4 (A2 A4 (A2 A4 (A2 A4 A7)))))))))) (qf g1 hr (A2 (qv 0) (A2 A4 A7))))))
   (A5 (t7 5 6 (fun _=>h6 (i:=5) (j:=6) rfl sc.nd rfl rfl (by decide) rfl rfl rfl) (ql_v (qf g1 hr (A2 (qv 0) (A2 A4 A7)))) (ql_v L4))
   (A5 (N7 (fun _=>rfl) (Ai (fun _=>rfl) (fun _=>m10) (qf g1 hr (A2 (qv 0) (A2 A4 A7)))) (gn 7 sc.nd) (B0 (D6 6 (sws 6 sc.nd) (E2 (qv 6) (B8 (qv 2) (qf g1 hr (A2 (qv 0) (A2 A4 A7))))))))
   (A5 (U7 8 (sws 8 sc.nd) (Q1 A7))
   (A5 (N7 (fun _=>rfl) (Ai (fun _=>rfl) (fun _=>m10) (qv 1)) (gn 7 sc.nd) (A5 (D6 9 (sws 9 sc.nd) (B8 (qv 2) (Fq (E2 (qv 3) (Bo (qv 4) (qv 7))) A4)))
   (A5 (D6 10 (sws 10 sc.nd) (Q2 (qv 6) T1 (O9 (Fq (E2 (Bo (qv 7) (qv 4)) (qv 3)) (E2 (F7 (fun _=>rfl) (fun _=>m6) (QE.r (qv 6))) A4)))))
   (B0 (e9 (fun _=>e7) (Gv 8 (fun _=>vw 8) (qf g1 hr (A2 (qv 0) (A2 (E2 (qv 7) A4) A7))) (B8 (QN.ee (Q1 (A2 (E2 (qv 10) (qv 9)) (A2 (E2 (qv 9) (qv 10)) A7)))) (qv 5))))))))
   (A5 (N7 (fun _=>rfl) (Ai (fun _=>rfl) (fun _=>m10) (B8 (QN.ee (Q1 (A2 A4 (A2 A4 (A2 A4 (A2 A4 (A2 A4 A7))))))) (qf g1 hr (A2 (qv 0) (A2 A4 A7))))) (gn 7 sc.nd) (A5 (D6 11 (sws 11 sc.nd) (B8 (QN.ee (Q1 (A2 L4 (A2 L4 (A2 L4 (A2 L4 (A2 L4 (A2 L4 (A2 L4 A7))))))))) (qf g1 hr (A2 (qv 0) (A2 A4 A7)))))
   (B0 (F3 (J3 (Af 4 fun _=>hr) (qv 11) (R9 8 fun _=>vw 8) rfl) (B0 (qs_put 8 (fun _=>p9) (qv 11) (fun _=>h9 (vw 8)) (qf g1 hr (A2 (qv 0) (A2 (qv 1) A7))))) F2))))
   (B0 (B9 (Y8 (fun _=>rfl) (fun _=>m16) (R9 8 fun _=>vw 8)))))))))))
theorem Mg (F0:Fn0 K mg "may_count_pairs" (top 15)):Ep P w K mg base:=fnk F0 fun sc _ _ _ _ _ _ _ hr=>(B0 (B9 (M3 (cEq 4 fun _=>hr) (B8 (qv 0) A4) (QE.r A4) (D5 _))))
theorem Mh (F0:Fn0 K mg "may_count_rounds" (top 16)):Er P w K mg base:=fnk F0 fun sc _ _ _ _ _ _ _ hr=>(B0 (B9 (T0 (M3 cLe (qv 1) (QE.r (B8 (qv 0) A4)) (D5 _)) (Y7 (M3 cLe (qv 1) (QE.r (E2 (B8 (qv 0) A4) A4)) (D5 _))))))
theorem Mi (F0:Fn0 K mg "apart_by" (top 13))(m3:mg "enumerate"=none)(m6:mg "len"=none):Es P w K mg base:=fnk F0 fun sc _ _ _ _ _ _ _ hr=>(A5 (D6 2 (sws 2 sc.nd) (QN.ee (e6 (N:=["boat","other"]) (cs:=[none,some 1]) (fun _=>V8 rfl rfl rfl rfl ⟨rfl,trivial⟩ rfl rfl rfl) (fun _=>rfl) (W0 (qv 0)) (gn 0 (show M2 (["boat","other"]:List Str) by decide +kernel)) Z0 (U8 (qv 1) (qv 0)))))
   (B0 (B9 (F7 (fun _=>rfl) (fun _=>m6) (QE.r (QN.ee (Le (N:=["at","goal","later","goals"]) (cs:=[none,none,none,some 2]) (fun _=>V8 rfl rfl rfl rfl ⟨rfl,trivial⟩ rfl rfl rfl) (fun _=>rfl) (FL (fun _=>rfl) (fun _=>m3) (qv 2)) (U6 (fun _=>rfl) (F8 (gn 0 (show M2 (["at","goal","later","goals"]:List Str) by decide +kernel)) (F8 (gn 1 (show M2 (["at","goal","later","goals"]:List Str) by decide +kernel)) U5))) (Df (Q2 (qv 3) (O9 (E2 (qv 0) A4)) T1)) (gn 2 (show M2 (["at","goal","later","goals"]:List Str) by decide +kernel)) (FM (J3 cLt (qv 2) (QE.r (qv 1)) (D5 _))) A4)))))))
theorem Mj (F0:Fn0 K mg "exchanged" (top 7))(m7:mg "list"=none)(m16:mg "tuple"=none):BZ P w K mg base:=fnk F0 fun sc _ _ _ _ _ _ _ hr=>(A5 (U7 3 (sws 3 sc.nd) (De (fun _=>rfl) (fun _=>m7) (QE.r (qv 0))))
   (A5 (DC 3 (fun _=>p9) (fun _ _ _ h1 h2=>DB K rfl (h9 (vw 3) (by intro _;rfl) _ h1) (h9 (vw 3) (by intro _;rfl) _ h2)) (B8 (qv 0) (qv 2)) (B8 (qv 0) (qv 1)) (qv 1) (qv 2))
   (B0 (B9 (Y8 (fun _=>rfl) (fun _=>m16) (R9 3 fun _=>vw 3))))))
theorem Mm (F0:Fn0 K mg "touches_by_pairs" (top 18))(g6:BZ P w K mg base)(m3:mg "enumerate"=none)(m10:mg "range"=none)(m12:mg "reversed"=none)(m16:mg "tuple"=none):HM P w K mg base:=fnk F0 fun sc _ _ _ _ _ _ _ hr=>(A5 (D6 2 (sws 2 sc.nd) (qv 0))
   (A5 (U7 3 (sws 3 sc.nd) (Q1 A7))
   (A5 (N7 (fun _=>rfl) (Gi (fun _=>rfl) (fun _=>m3) (qv 1)) (U6 (fun _=>rfl) (F8 (gn 4 sc.nd) (F8 (gn 5 sc.nd) U5))) (B0 (N7 (fun _=>rfl) (Lv (fun _=>rfl) (fun _=>m12) (fun _=>rfl) (fun _=>m10) (qv 4) (U8 (qv 2) (qv 5))) (gn 6 sc.nd) (A5 (e9 (fun _=>e7) (BA 3 (fun _=>vw 3) (M4 (A2 (qv 5) (A2 (B8 (qv 2) (qv 6)) A7)))))
   (B0 (D6 2 (sws 2 sc.nd) (qf g6 hr (A2 (qv 2) (A2 (qv 6) (A2 (E2 (qv 6) A4) A7))))))))))
   (B0 (B9 (Y8 (fun _=>rfl) (fun _=>m16) (R9 3 fun _=>vw 3)))))))
theorem Mn (F0:Fn0 K mg "touches_by_rounds" (top 19))(g6:BZ P w K mg base)(m3:mg "enumerate"=none)(m16:mg "tuple"=none):HN P w K mg base:=fnk F0 fun sc _ _ _ _ _ _ _ hr=>(A5 (D6 2 (sws 2 sc.nd) (qv 0))
   (A5 (U7 3 (sws 3 sc.nd) (Q1 A7))
   (A5 (N7 (fun _=>rfl) (Gi (fun _=>rfl) (fun _=>m3) (qv 1)) (U6 (fun _=>rfl) (F8 (gn 4 sc.nd) (F8 (gn 5 sc.nd) U5))) (B0 (F3 (J3 (cNe 4 fun _=>hr) (B8 (qv 2) (qv 4)) (QE.r (qv 5)) (D5 _)) (A5 (e9 (fun _=>e7) (BA 3 (fun _=>vw 3) (M4 (A2 (qv 5) (A2 (B8 (qv 2) (qv 4)) A7)))))
   (B0 (D6 2 (sws 2 sc.nd) (qf g6 hr (A2 (qv 2) (A2 (qv 4) (A2 (U8 (qv 2) (qv 5)) A7))))))) F2)))
   (B0 (B9 (Y8 (fun _=>rfl) (fun _=>m16) (R9 3 fun _=>vw 3)))))))
theorem Mo (F0:Fn0 K mg "rounds_of" (top 14))(m13:mg "set"=none):Et P w K mg base:=fnk F0 fun sc _ _ _ _ _ _ _ hr=>(A5 (KY 2 (fun _=>rfl) (fun _=>m13) (fun _=>FN (i:=2) sc.nd rfl (Or.inl rfl)))
   (A5 (D6 3 (sws 3 sc.nd) A4)
   (A5 (N7 (fun _=>rfl) (W0 (qv 0)) (gn 4 sc.nd) (A5 (F3 (Gr 2 (fun _=>vw 2) (qv 4)) (B0 (Kh 3 (fun _=>Gc (i:=3) sc.nd rfl (Or.inl rfl) II) A4)) F2)
   (A5 (D6 5 (sws 5 sc.nd) (qv 4))
   (B0 (FP (Gr 2 (fun _=>vw 2) (qv 5)) (A5 (e9 (fun _=>e7) (K_ 2 (fun _=>vw 2) (qv 5)))
   (B0 (D6 5 (sws 5 sc.nd) (B8 (qv 1) (U8 (qv 0) (qv 5)))))))))))
   (B0 (B9 (qv 3))))))
theorem Mp (F0:Fn0 K mg "fewest" (top 22))(g3:Ep P w K mg base)(g7:HM P w K mg base)(g5:Es P w K mg base)(g4:Er P w K mg base)(g8:HN P w K mg base)(g9:Et P w K mg base)(m6:mg "len"=none):HP P w K mg base:=fnk F0 fun sc _ _ _ _ _ _ _ hr=>(A5 (F3 (G8 (qf g3 hr (A2 (qv 0) A7))) (B0 (B9 (M4 (A2 (qf g5 hr (A2 (qv 1) (A2 (qv 2) A7))) (A2 (qf g7 hr (A2 (qv 1) (A2 (qv 2) A7))) (A2 (M4 (A2 L4 A7)) A7)))))) F2)
   (A5 (F3 (G8 (qf g4 hr (A2 (qv 0) (A2 (F7 (fun _=>rfl) (fun _=>m6) (QE.r (qv 1))) A7)))) (B0 (B9 (M4 (A2 (P8 (F7 (fun _=>rfl) (fun _=>m6) (QE.r (qv 1))) (qf g9 hr (A2 (qv 1) (A2 (qv 2) A7)))) (A2 (qf g8 hr (A2 (qv 1) (A2 (qv 2) A7))) (A2 (M4 (A2 L4 A7)) A7)))))) F2)
   DH))
theorem Mq (F0:Fn0 K mg "_law_otherwise" (top 44))(g1:BY P w K mg base)(m6:mg "len"=none):HQ P w K mg base:=fnk F0 fun sc _ _ _ _ _ _ _ hr=>(A5 (D6 2 (sws 2 sc.nd) (B8 (qv 1) A4))
   (A5 (F3 (J3 (cEq 4 fun _=>hr) (qv 2) (QE.r (M4 A7)) (D5 _)) (B0 (B9 (M4 (A2 A4 (A2 (M4 A7) (A2 (B8 (qv 1) A4) A7)))))) F2)
   (A5 (D6 3 (sws 3 sc.nd) (qf g1 hr (A2 (qv 0) (A2 (F7 (fun _=>rfl) (fun _=>m6) (QE.r (qv 2))) A7))))
   (A5 (U7 4 (sws 4 sc.nd) (Q1 (A2 (E2 (E2 (Q2 (qv 2) T1 (O9 (qv 3))) (Q2 (qv 2) (O9 (qv 3)) (O9 (E2 (qv 3) A4)))) (Q2 (qv 2) (O9 (qv 3)) T1)) (A2 (E2 (Q2 (qv 2) T1 (O9 (qv 3))) (Q2 (qv 2) (O9 (E2 (qv 3) A4)) T1)) A7))))
   (A5 (e9 (fun _=>e7) (BA 4 (fun _=>vw 4) (E2 (Q2 (qv 2) (O9 A4) T1) (Q2 (qv 2) T1 (O9 A4)))))
   (A5 (D6 2 (sws 2 sc.nd) (qe_ixR (R9 4 fun _=>vw 4) (qf g1 hr (A2 (qv 0) (A2 A4 A7)))))
   (B0 (B9 (M4 (A2 (F7 (fun _=>rfl) (fun _=>m6) (QE.r (qv 2))) (A2 (qv 2) (A2 (B8 (qv 1) A4) A7))))))))))))
theorem Mr (F0:Fn0 K mg "is_text" (top 3))(m5:mg "isinstance"=none)(m14:mg "str"=none):HR P w K mg base:=fnk F0 fun sc _ _ _ _ _ _ _ hr=>(B0 (B9 (T0 (M6 (n:="str") (by decide) (fun _=>rfl) (fun _=>m5) (qv 0) (fun _=>tyw rfl m14 CT)) (Y7 (M3 (cEq 4 fun _=>hr) (qv 0) (QE.r (qv 1)) (D5 _))))))
theorem Ms (F0:Fn0 K mg "shows_paper" (top 28))(g12:HR P w K mg base)(g5:Es P w K mg base)(g3:Ep P w K mg base)(g9:Et P w K mg base)(g4:Er P w K mg base)(m5:mg "isinstance"=none)(m6:mg "len"=none)(m16:mg "tuple"=none):HS P w K mg base:=fnk F0 fun sc _ _ _ _ _ _ _ hr=>(A5 (F3 (QW.qt (K4 (J5 (G8 (M6 (n:="tuple") (by decide) (fun _=>rfl) (fun _=>m5) (qv 4) (fun _=>tyw rfl m16 U4)))) (Q0 (J5 (FA cLe cLe A4 (F7 (fun _=>rfl) (fun _=>m6) (QE.r (qv 4))) A4))))) (B0 (B9 L3)) F2)
   (A5 (D6 5 (sws 5 sc.nd) (F7 (fun _=>rfl) (fun _=>m6) (QE.r (qv 1))))
   (A5 (F3 (J3 (cEq 4 fun _=>hr) (F7 (fun _=>rfl) (fun _=>m6) (QE.r (qv 4))) (QE.r A4) (D5 _)) DH F2)
   (A5 (F3 (G8 (qf g12 hr (A2 (B8 (qv 4) A4) (A2 L4 A7)))) (B0 (B9 (T0 (qf g3 hr (A2 (qv 0) A7)) (Y7 (M3 (cEq 4 fun _=>hr) (qv 3) (QE.r (qf g5 hr (A2 (qv 1) (A2 (qv 2) A7)))) (D5 _)))))) F2)
   (B0 (B9 (T0 (qf g12 hr (A2 (B8 (qv 4) A4) (A2 L4 A7))) (T0 (qf g4 hr (A2 (qv 0) (A2 (qv 5) A7))) (Y7 (M3 (cEq 4 fun _=>hr) (qv 3) (QE.r (P8 (qv 5) (qf g9 hr (A2 (qv 1) (A2 (qv 2) A7))))) (D5 _)))))))))))
theorem Mt (F0:Fn0 K mg "races_of" (top 5)):HU P w K mg base:=fnk F0 fun sc _ _ _ _ _ _ _ hr=>(A5 (D6 2 (sws 2 sc.nd) (B8 (qv 0) A4))
   (B0 (B9 (Fp (P8 (E2 (qv 1) (qv 2)) A4) (qv 2)))))
theorem k_span (F0:Fn0 K mg "span" (top 6))(m9:mg "min"=none):HV P w K mg base:=fnk F0 fun sc _ _ _ _ _ _ _ hr=>(A5 (D6 3 (sws 3 sc.nd) (B8 (qv 0) A4))
   (A5 (D6 4 (sws 4 sc.nd) (Bo (qv 2) (qv 3)))
   (B0 (B9 (M4 (A2 (qv 4) (A2 (Bu (fun _=>rfl) (fun _=>rfl) (fun _=>m9) (E2 (qv 4) (qv 3)) (P8 (qv 1) A4)) A7)))))))
theorem Mu (F0:Fn0 K mg "touch_places" (top 12))(g14:HU P w K mg base)(g15:HV P w K mg base)(m9:mg "min"=none)(m10:mg "range"=none)(m16:mg "tuple"=none):HW P w K mg base:=fnk F0 fun sc _ _ _ _ _ _ _ hr=>(A5 (U7 2 (sws 2 sc.nd) (Q1 A7))
   (A5 (N7 (fun _=>rfl) (Ai (fun _=>rfl) (fun _=>m10) (qf g14 hr (A2 (qv 0) (A2 (qv 1) A7)))) (gn 3 sc.nd) (A5 (FO (fun _=>p9) (qf g15 hr (A2 (qv 0) (A2 (qv 1) (A2 (qv 3) A7)))) (U6 (fun _=>rfl) (F8 (gn 4 sc.nd) (F8 (gn 5 sc.nd) U5))))
   (B0 (N7 (fun _=>rfl) (FK (fun _=>rfl) (fun _=>m10) (qv 4) (qv 5)) (gn 6 sc.nd) (A5 (D6 7 (sws 7 sc.nd) (Bu (fun _=>rfl) (fun _=>rfl) (fun _=>m9) (E2 (E2 (qv 6) A4) (B8 (qv 0) A4)) (qv 5)))
   (B0 (Kg 2 (fun _=>Gc (i:=2) sc.nd rfl (Or.inl rfl) Kf) (QN.ee (e6 (N:=["q","p"]) (cs:=[none,some 6]) (fun _=>V8 rfl rfl rfl rfl ⟨rfl,trivial⟩ rfl rfl rfl) (fun _=>rfl) (FK (fun _=>rfl) (fun _=>m10) (E2 (qv 6) A4) (E2 (qv 7) A4)) (gn 0 (show M2 (["q","p"]:List Str) by decide +kernel)) Z0 (M4 (A2 (qv 1) (A2 (qv 0) A7))))))))))))
   (B0 (B9 (Y8 (fun _=>rfl) (fun _=>m16) (R9 2 fun _=>vw 2))))))
theorem Mv (F0:Fn0 K mg "leads_there" (top 25))(g16:HW P w K mg base)(g6:BZ P w K mg base)(m6:mg "len"=none):HX P w K mg base:=fnk F0 fun sc _ _ _ _ _ _ _ hr=>(A5 (D6 4 (sws 4 sc.nd) (qf g16 hr (A2 (qv 0) (A2 (F7 (fun _=>rfl) (fun _=>m6) (QE.r (qv 1))) A7))))
   (A5 (D6 5 (sws 5 sc.nd) (qv 1))
   (A5 (N7 (fun _=>rfl) (W0 (qv 3)) (U6 (fun _=>rfl) (F8 (gn 6 sc.nd) (F8 (gn 7 sc.nd) U5))) (A5 (t7 8 9 (fun _=>h6 (i:=8) (j:=9) rfl sc.nd rfl rfl (by decide) rfl rfl rfl) (ql_v (U8 (qv 5) (qv 7))) (ql_v (U8 (qv 5) (qv 6))))
   (A5 (F3 (J3 (Af 4 fun _=>hr) (M4 (A2 (qv 8) (A2 (qv 9) A7))) (QE.r (qv 4)) rfl) (B0 (B9 L3)) F2)
   (B0 (D6 5 (sws 5 sc.nd) (qf g6 hr (A2 (qv 5) (A2 (qv 8) (A2 (qv 9) A7)))))))))
   (B0 (B9 (M3 (cEq 4 fun _=>hr) (qv 5) (QE.r (qv 2)) (D5 _)))))))
theorem Mw (F0:Fn0 K mg "is_boat" (top 4))(m1:mg "all"=none)(m5:mg "isinstance"=none)(m6:mg "len"=none)(m14:mg "str"=none)(c0:Num0 mg "MOST_LETTERS" 8):HY P w K mg base:=fnk F0 fun sc _ _ _ _ _ _ _ hr=>(A5 (F3 (QW.qt (K4 (J5 (G8 (M6 (n:="str") (by decide) (fun _=>rfl) (fun _=>m5) (qv 0) (fun _=>tyw rfl m14 CT)))) (Q0 (J5 (FA cLe cLe A4 (F7 (fun _=>rfl) (fun _=>m6) (QE.r (qv 0))) (qe_num (fun _=>c0) fun _=>rfl)))))) (B0 (B9 L3)) F2)
   (B0 (B9 (Dd (fun _=>rfl) (fun _=>rfl) (fun _=>m1) (QE.r (QN.ee (e6 (N:=["sign"]) (cs:=[none]) (fun _=>V8 rfl rfl rfl rfl trivial rfl rfl rfl) (fun _=>rfl) (qi_str (qv 0)) (gn 0 (show M2 (["sign"]:List Str) by decide +kernel)) Z0 (Fz cLe cLe L4 (qv 0) L4))))))))
theorem Mx (F0:Fn0 K mg "is_pair_of" (top 24))(g18:HY P w K mg base)(m1:mg "all"=none)(m5:mg "isinstance"=none)(m6:mg "len"=none)(m16:mg "tuple"=none):HZ P w K mg base:=fnk F0 fun sc _ _ _ _ _ _ _ hr=>(A5 (F3 (QW.qt (K4 (J5 (G8 (M6 (n:="tuple") (by decide) (fun _=>rfl) (fun _=>m5) (qv 1) (fun _=>tyw rfl m16 U4)))) (Q0 (J3 (cNe 4 fun _=>hr) (F7 (fun _=>rfl) (fun _=>m6) (QE.r (qv 1))) (QE.r A4) (D5 _))))) (B0 (B9 L3)) F2)
   (B0 (B9 (Dd (fun _=>rfl) (fun _=>rfl) (fun _=>m1) (QE.r (QN.ee (e6 (N:=["part","row"]) (cs:=[none,some 0]) (fun _=>V8 rfl rfl rfl rfl ⟨rfl,trivial⟩ rfl rfl rfl) (fun _=>rfl) (W0 (qv 1)) (gn 0 (show M2 (["part","row"]:List Str) by decide +kernel)) Z0 (T0 (qf g18 hr (A2 (qv 0) A7)) (Y7 (M3 (cIn 4 fun _=>hr) (qv 0) (QE.r (qv 1)) rfl))))))))))
theorem My (F0:Fn0 K mg "shows_touches" (top 26))(g19:HZ P w K mg base)(g17:HX P w K mg base)(m1:mg "all"=none)(m5:mg "isinstance"=none)(m16:mg "tuple"=none):H_ P w K mg base:=fnk F0 fun sc _ _ _ _ _ _ _ hr=>(A5 (F3 (QW.qt (K4 (J5 (G8 (M6 (n:="tuple") (by decide) (fun _=>rfl) (fun _=>m5) (qv 3) (fun _=>tyw rfl m16 U4)))) (Q0 (J5 (G8 (Dd (fun _=>rfl) (fun _=>rfl) (fun _=>m1) (QE.r (QN.ee (e6 (N:=["part","row"]) (cs:=[none,some 1]) (fun _=>V8 rfl rfl rfl rfl ⟨rfl,trivial⟩ rfl rfl rfl) (fun _=>rfl) (W0 (qv 3)) (gn 0 (show M2 (["part","row"]:List Str) by decide +kernel)) Z0 (qf g19 hr (A2 (qv 1) (A2 (qv 0) A7)))))))))))) (B0 (B9 L3)) F2)
   (B0 (B9 (qf g17 hr (A2 (qv 0) (A2 (qv 1) (A2 (qv 2) (A2 (qv 3) A7))))))))
theorem Mz (F0:Fn0 K mg "is_whole" (top 2))(m2:mg "bool"=none)(m4:mg "int"=none)(m5:mg "isinstance"=none):Ia P w K mg base:=fnk F0 fun sc _ _ _ _ _ _ _ hr=>(A5 (F3 (QW.qt (K4 (J5 (G8 (M6 (n:="int") (by decide) (fun _=>rfl) (fun _=>m5) (qv 0) (fun _=>tyw rfl m4 Bk)))) (Q0 (G8 (M6 (n:="bool") (by decide) (fun _=>rfl) (fun _=>m5) (qv 0) (fun _=>tyw rfl m2 Fn)))))) (B0 (B9 L3)) F2)
   (B0 (B9 (Fz cLe cLe (qv 1) (qv 0) (qv 2)))))
theorem MA (F0:Fn0 K mg "shows_fewest" (top 29))(g21:Ia P w K mg base)(g20:H_ P w K mg base)(g13:HS P w K mg base)(m5:mg "isinstance"=none)(m6:mg "len"=none)(m16:mg "tuple"=none):Ib P w K mg base:=fnk F0 fun sc _ _ _ _ _ _ _ hr=>(A5 (F3 (QW.qt (K4 (J5 (G8 (M6 (n:="tuple") (by decide) (fun _=>rfl) (fun _=>m5) (qv 3) (fun _=>tyw rfl m16 U4)))) (Q0 (J3 (cNe 4 fun _=>hr) (F7 (fun _=>rfl) (fun _=>m6) (QE.r (qv 3))) (QE.r A4) (D5 _))))) (B0 (B9 L3)) F2)
   (A5 (FO (fun _=>p9) (qv 3) (U6 (fun _=>rfl) (F8 (gn 4 sc.nd) (F8 (gn 5 sc.nd) (F8 (gn 6 sc.nd) U5)))))
   (A5 (F3 (QW.qt (K4 (J5 (G8 (qf g20 hr (A2 (qv 0) (A2 (qv 1) (A2 (qv 2) (A2 (qv 5) A7))))))) (Q0 (J5 (G8 (qf g21 hr (A2 (qv 4) (A2 (F7 (fun _=>rfl) (fun _=>m6) (QE.r (qv 5))) (A2 (F7 (fun _=>rfl) (fun _=>m6) (QE.r (qv 5))) A7))))))))) (B0 (B9 L3)) F2)
   (B0 (B9 (qf g13 hr (A2 (qv 0) (A2 (qv 1) (A2 (qv 2) (A2 (qv 4) (A2 (qv 6) A7)))))))))))
theorem MB (F0:Fn0 K mg "_law_goal" (top 34))(g1:BY P w K mg base)(m6:mg "len"=none)(m7:mg "list"=none)(m16:mg "tuple"=none):Ie P w K mg base:=fnk F0 fun sc _ _ _ _ _ _ _ hr=>(A5 (t7 2 3 (fun _=>h6 (i:=2) (j:=3) rfl sc.nd rfl rfl (by decide) rfl rfl rfl) (ql_v (qf g1 hr (A2 (qv 0) (A2 A4 A7)))) (ql_v (F7 (fun _=>rfl) (fun _=>m6) (QE.r (qv 1)))))
   (A5 (F3 (J3 cLt (qv 2) (QE.r A4) (D5 _)) (A5 (U7 4 (sws 4 sc.nd) (Q1 A7))
   (A5 (N7 (fun _=>rfl) (W0 (qv 1)) (gn 5 sc.nd) (B0 (e9 (fun _=>e7) (Gv 4 (fun _=>vw 4) (qf g1 hr (A2 (qv 0) (A2 (E2 (F7 (fun _=>rfl) (fun _=>m6) (R9 4 fun _=>vw 4)) A4) A7))) (qv 5)))))
   (B0 (B9 (Y8 (fun _=>rfl) (fun _=>m16) (R9 4 fun _=>vw 4)))))) F2)
   (A5 (t7 6 7 (fun _=>h6 (i:=6) (j:=7) rfl sc.nd rfl rfl (by decide) rfl rfl rfl) (ql_v (qf g1 hr (A2 (qv 0) (A2 (qv 3) A7)))) (ql_v (qf g1 hr (A2 (qv 0) (A2 (qv 3) A7)))))
   (A5 (U7 4 (sws 4 sc.nd) (De (fun _=>rfl) (fun _=>m7) (QE.r (qv 1))))
   (A5 (DC 4 (fun _=>p9) (fun _ _ _ h1 h2=>DB K rfl (h9 (vw 4) (by intro _;rfl) _ h1) (h9 (vw 4) (by intro _;rfl) _ h2)) (B8 (qv 1) (qv 7)) (B8 (qv 1) (qv 6)) (qv 6) (qv 7))
   (B0 (B9 (B8 (QN.ee (Q1 (A2 (qe_rev (QE.r (qv 1))) (A2 (E2 (Q2 (qv 1) (O9 (FV A4)) T1) (Q2 (qv 1) T1 (O9 (FV A4)))) (A2 (Y8 (fun _=>rfl) (fun _=>m16) (R9 4 fun _=>vw 4)) A7))))) (P8 (qv 2) A4)))))))))
theorem MC (F0:Fn0 K mg "_law_apart" (top 38))(m3:mg "enumerate"=none)(m6:mg "len"=none)(m15:mg "sum"=none):Ig P w K mg base:=fnk F0 fun sc _ _ _ _ _ _ _ hr=>(A5 (D6 2 (sws 2 sc.nd) (QN.ee (e6 (N:=["_law_boat","_law_other"]) (cs:=[none,some 1]) (fun _=>V8 rfl rfl rfl rfl ⟨rfl,trivial⟩ rfl rfl rfl) (fun _=>rfl) (W0 (qv 0)) (gn 0 (show M2 (["_law_boat","_law_other"]:List Str) by decide +kernel)) Z0 (U8 (qv 1) (qv 0)))))
   (B0 (B9 (qe_sum (fun _=>rfl) (fun _=>rfl) (fun _=>m15) (QN.ee (LB (N:=["_law_k","_law_place","_law_places"]) (cs:=[none,none,some 2]) (fun _=>Ly rfl rfl rfl ⟨rfl,trivial⟩ (fun _=>rfl) rfl (fun _=>rfl)) (fun _=>rfl) (FL (fun _=>rfl) (fun _=>m3) (qv 2)) (U6 (fun _=>rfl) (F8 (gn 0 (show M2 (["_law_k","_law_place","_law_places"]:List Str) by decide +kernel)) (F8 (gn 1 (show M2 (["_law_k","_law_place","_law_places"]:List Str) by decide +kernel)) U5))) Z0 (F7 (fun _=>rfl) (fun _=>m6) (QE.r (QN.ee (e6 (N:=["_law_later","_law_place"]) (cs:=[none,some 1]) (fun _=>V8 rfl rfl rfl rfl ⟨rfl,trivial⟩ rfl rfl rfl) (fun _=>rfl) (Df (Q2 (qv 2) (O9 (qv 0)) T1)) (gn 0 (show M2 (["_law_later","_law_place"]:List Str) by decide +kernel)) (FM (J3 cLt (qv 0) (QE.r (qv 1)) (D5 _))) A4))))))))))
theorem MD (F0:Fn0 K mg "_law_rounds" (top 39))(m4:mg "int"=none):Eu P w K mg base:=fnk F0 fun sc _ _ _ _ _ _ _ hr=>(A5 (LE 2 3 (fun _=>h6 (i:=2) (j:=3) rfl sc.nd rfl rfl (by decide) rfl rfl rfl))
   (A5 (N7 (fun _=>rfl) (W0 (qv 0)) (gn 4 sc.nd) (A5 (D6 3 (sws 3 sc.nd) (E2 (qv 3) (JL (fun _=>rfl) (fun _=>m4) (QE.r (LC 2 (fun _=>hr) (fun _=>vw 2) (qv 4))))))
   (A5 (D6 5 (sws 5 sc.nd) (qv 4))
   (B0 (FP (LD 2 (fun _=>hr) (fun _=>vw 2) (qv 5)) (A5 (KM 2 (fun _=>KJ (CO hr) (vw 2)) L3 (qv 5))
   (B0 (D6 5 (sws 5 sc.nd) (B8 (qv 1) (U8 (qv 0) (qv 5)))))))))))
   (B0 (B9 (qv 3)))))
theorem ME (F0:Fn0 K mg "_law_paper_right" (top 42))(g24:Ig P w K mg base)(g25:Eu P w K mg base)(m5:mg "isinstance"=none)(m6:mg "len"=none)(m9:mg "min"=none)(m14:mg "str"=none)(m16:mg "tuple"=none):Ih P w K mg base:=fnk F0 fun sc _ _ _ _ _ _ _ hr=>(A5 (D6 5 (sws 5 sc.nd) (F7 (fun _=>rfl) (fun _=>m6) (QE.r (qv 1))))
   (A5 (F3 (QW.qt (K4 (J5 (G8 (M6 (n:="tuple") (by decide) (fun _=>rfl) (fun _=>m5) (qv 4) (fun _=>tyw rfl m16 U4)))) (K4 (J3 (Af 4 fun _=>hr) (F7 (fun _=>rfl) (fun _=>m6) (QE.r (qv 4))) (QE.r (M4 (A2 A4 (A2 A4 A7)))) rfl) (Q0 (J5 (G8 (M6 (n:="str") (by decide) (fun _=>rfl) (fun _=>m5) (B8 (qv 4) A4) (fun _=>tyw rfl m14 CT)))))))) (B0 (B9 L3)) F2)
   (A5 (F3 (J3 (cEq 4 fun _=>hr) (F7 (fun _=>rfl) (fun _=>m6) (QE.r (qv 4))) (QE.r A4) (D5 _)) DH F2)
   (A5 (F3 (J3 (cEq 4 fun _=>hr) (B8 (qv 4) A4) (QE.r L4) (D5 _)) (B0 (B9 (T0 (M3 (cEq 4 fun _=>hr) (B8 (qv 0) A4) (QE.r A4) (D5 _)) (Y7 (M3 (cEq 4 fun _=>hr) (qv 3) (QE.r (qf g24 hr (A2 (qv 1) (A2 (qv 2) A7)))) (D5 _)))))) F2)
   (B0 (B9 (T0 (M3 (cEq 4 fun _=>hr) (B8 (qv 4) A4) (QE.r L4) (D5 _)) (T0 (M3 cLe (qv 5) (QE.r (Bu (fun _=>rfl) (fun _=>rfl) (fun _=>m9) (B8 (qv 0) A4) (E2 (B8 (qv 0) A4) A4))) (D5 _)) (Y7 (M3 (cEq 4 fun _=>hr) (qv 3) (QE.r (P8 (qv 5) (qf g25 hr (A2 (qv 1) (A2 (qv 2) A7))))) (D5 _)))))))))))
theorem MF (F0:Fn0 K mg "_law_exchanged" (top 36))(m7:mg "list"=none)(m16:mg "tuple"=none):Ii P w K mg base:=fnk F0 fun sc _ _ _ _ _ _ _ hr=>(A5 (U7 3 (sws 3 sc.nd) (De (fun _=>rfl) (fun _=>m7) (QE.r (qv 0))))
   (A5 (DC 3 (fun _=>p9) (fun _ _ _ h1 h2=>DB K rfl (h9 (vw 3) (by intro _;rfl) _ h1) (h9 (vw 3) (by intro _;rfl) _ h2)) (B8 (qv 0) (qv 2)) (B8 (qv 0) (qv 1)) (qv 1) (qv 2))
   (B0 (B9 (Y8 (fun _=>rfl) (fun _=>m16) (R9 3 fun _=>vw 3))))))
theorem MG (F0:Fn0 K mg "_law_is_pair" (top 35)):Ij P w K mg base:=fnk F0 fun sc _ _ _ _ _ _ _ hr=>(B0 (B9 (T0 (M3 cLt (qv 1) (QE.r (qv 2)) (D5 _)) (T0 (M3 cLe (P8 (P8 (qv 2) (qv 1)) A4) (QE.r (B8 (qv 0) A4)) (D5 _)) (Y7 (M3 cLe (qv 2) (QE.r (E2 (Bo (Fp (qv 1) (B8 (qv 0) A4)) (B8 (qv 0) A4)) (B8 (qv 0) A4))) (D5 _)))))))
theorem MH (F0:Fn0 K mg "_law_led" (top 37))(g28:Ij P w K mg base)(g27:Ii P w K mg base)(m5:mg "isinstance"=none)(m6:mg "len"=none)(m16:mg "tuple"=none):Ik P w K mg base:=fnk F0 fun sc _ _ _ _ _ _ _ hr=>(A5 (F3 (J5 (G8 (M6 (n:="tuple") (by decide) (fun _=>rfl) (fun _=>m5) (qv 2) (fun _=>tyw rfl m16 U4)))) (B0 (B9 CW)) F2)
   (A5 (N7 (fun _=>rfl) (W0 (qv 2)) (gn 3 sc.nd) (A5 (F3 (QW.qt (K4 (J5 (G8 (M6 (n:="tuple") (by decide) (fun _=>rfl) (fun _=>m5) (qv 3) (fun _=>tyw rfl m16 U4)))) (K4 (J3 (cNe 4 fun _=>hr) (F7 (fun _=>rfl) (fun _=>m6) (QE.r (qv 3))) (QE.r A4) (D5 _)) (K4 (J3 (Af 4 fun _=>hr) (B8 (qv 3) A4) (QE.r (qv 1)) rfl) (Q0 (J3 (Af 4 fun _=>hr) (B8 (qv 3) A4) (QE.r (qv 1)) rfl)))))) (B0 (B9 CW)) F2)
   (A5 (t7 4 5 (fun _=>h6 (i:=4) (j:=5) rfl sc.nd rfl rfl (by decide) rfl rfl rfl) (ql_v (U8 (qv 1) (B8 (qv 3) A4))) (ql_v (U8 (qv 1) (B8 (qv 3) A4))))
   (A5 (F3 (J5 (G8 (qf g28 hr (A2 (qv 0) (A2 (qv 4) (A2 (qv 5) A7)))))) (B0 (B9 CW)) F2)
   (B0 (D6 1 (sws 1 sc.nd) (qf g27 hr (A2 (qv 1) (A2 (qv 4) (A2 (qv 5) A7))))))))))
   (B0 (B9 (qv 1)))))
theorem MI (F0:Fn0 K mg "_law_right" (top 43))(g29:Ik P w K mg base)(g26:Ih P w K mg base)(m2:mg "bool"=none)(m4:mg "int"=none)(m5:mg "isinstance"=none)(m6:mg "len"=none)(m16:mg "tuple"=none):Il P w K mg base:=fnk F0 fun sc _ _ _ _ _ _ _ hr=>(A5 (F3 (QW.qt (K4 (J5 (G8 (M6 (n:="tuple") (by decide) (fun _=>rfl) (fun _=>m5) (qv 3) (fun _=>tyw rfl m16 U4)))) (K4 (J3 (cNe 4 fun _=>hr) (F7 (fun _=>rfl) (fun _=>m6) (QE.r (qv 3))) (QE.r A4) (D5 _)) (K4 (J5 (G8 (M6 (n:="int") (by decide) (fun _=>rfl) (fun _=>m5) (B8 (qv 3) A4) (fun _=>tyw rfl m4 Bk)))) (Q0 (G8 (M6 (n:="bool") (by decide) (fun _=>rfl) (fun _=>m5) (B8 (qv 3) A4) (fun _=>tyw rfl m2 Fn)))))))) (B0 (B9 L3)) F2)
   (A5 (F3 (QW.qt (K4 (J5 (G8 (M6 (n:="tuple") (by decide) (fun _=>rfl) (fun _=>m5) (B8 (qv 3) A4) (fun _=>tyw rfl m16 U4)))) (K4 (J3 (cNe 4 fun _=>hr) (F7 (fun _=>rfl) (fun _=>m6) (QE.r (B8 (qv 3) A4))) (QE.r (B8 (qv 3) A4)) (D5 _)) (Q0 (J3 (cNe 4 fun _=>hr) (qf g29 hr (A2 (qv 0) (A2 (qv 1) (A2 (B8 (qv 3) A4) A7)))) (QE.r (qv 2)) (D5 _)))))) (B0 (B9 L3)) F2)
   (B0 (B9 (qf g26 hr (A2 (qv 0) (A2 (qv 1) (A2 (qv 2) (A2 (B8 (qv 3) A4) (A2 (B8 (qv 3) A4) A7))))))))))
theorem k_law (F0:Fn0 K mg "law" (top 45))(g0:Me P w K mg base)(g1:BY P w K mg base)(g2:HL P w K mg base)(g23:Ie P w K mg base)(g10:HP P w K mg base)(g25:Eu P w K mg base)(g30:Il P w K mg base)(g11:HQ P w K mg base)(g22:Ib P w K mg base)(m6:mg "len"=none)(m8:mg "max"=none)(m9:mg "min"=none)(m10:mg "range"=none)(m11:mg "repr"=none)(m17:mg "zip"=none):Kn P w K mg base "law" 6 ["_law_script"] (Bl K):=by
 have sc:R8 ["_law_script","_law_lots","_law_k","_law_pot","_law_n","_law_low","_law_meeting","_law_row","_law_told","_law_other","_law_thing","_law_odd"] ["_law_script"] (E5 (top 45)):=⟨rfl,rfl,rfl,by decide +kernel,rfl,by decide +kernel,by decide +kernel⟩
 exact law_ok (T:=potL) F0 sc (fun _ _ _ _ _ _=>bd1 fun _=>rfl) (k:=5) (body:=Eb) (fun _ _ _ _ _ _ _ hr=>(A5 (U7 1 (sws 1 sc.nd) (Q1 A7))
   (A5 (N7 (fun _=>rfl) (Ai (fun _=>rfl) (fun _=>m10) (FI (fun _=>rfl) (fun _=>rfl) (fun _=>m8) A4 (Bu (fun _=>rfl) (fun _=>rfl) (fun _=>m9) A4 (F7 (fun _=>rfl) (fun _=>m6) (QE.r (qv 0)))))) (gn 2 sc.nd) (A5 (Ki 3 (sws 3 sc.nd) (fun _=>g0) (fun _=>hr) (by decide) (fun _=>rfl) (qv 0) (qv 2))
   (A5 (D6 4 (sws 4 sc.nd) (E2 A4 (qf g1 hr (A2 (qv 3) (A2 A4 A7)))))
   (A5 (D6 5 (sws 5 sc.nd) (FI (fun _=>rfl) (fun _=>rfl) (fun _=>m8) A4 (P8 (qv 4) A4)))
   (A5 (D6 6 (sws 6 sc.nd) (M4 (A2 (E2 (qv 4) (qf g1 hr (A2 (qv 3) (A2 (P8 A4 (qv 4)) A7)))) (A2 (E2 (qv 5) (qf g1 hr (A2 (qv 3) (A2 (P8 A4 (qv 5)) A7)))) A7))))
   (A5 (D6 7 (sws 7 sc.nd) (qf g2 hr (A2 (qv 3) (A2 (qv 4) A7))))
   (B0 (e9 (fun _=>e7) (BA 1 (fun _=>vw 1) (M4 (A2 (qv 3) (A2 (qv 6) (A2 (qv 7) (A2 (qf g23 hr (A2 (qv 3) (A2 (qv 7) A7))) A7))))))))))))))
   (A5 (JU 1 (Kl 8 (Kk (N:=["_law_pot","_law_meeting","_law_row","_law_other"]) (cs:=[none,none,none,none]) (fun _=>V8 rfl rfl rfl rfl trivial rfl rfl rfl) (fun _=>rfl) (Df (qv 1)) (U6 (fun _=>rfl) (F8 (gn 0 (show M2 (["_law_pot","_law_meeting","_law_row","_law_other"]:List Str) by decide +kernel)) (F8 (gn 1 (show M2 (["_law_pot","_law_meeting","_law_row","_law_other"]:List Str) by decide +kernel)) (F8 (gn 2 (show M2 (["_law_pot","_law_meeting","_law_row","_law_other"]:List Str) by decide +kernel)) (F8 (gn 3 (show M2 (["_law_pot","_law_meeting","_law_row","_law_other"]:List Str) by decide +kernel)) U5))))) Z0 (qf g10 hr (A2 (qv 1) (A2 (qv 2) (A2 (qv 3) A7))))) (fun _=>sc.nd) (fun _=>rfl) (fun _=>Or.inl rfl)))
   (A5 (N7 (fun _=>rfl) (qi_zip true true (fun _=>rfl) (fun _=>m17) (qv 1) (qv 8)) (U6 (fun _=>rfl) (F8 (U6 (fun _=>rfl) (F8 (gn 3 sc.nd) (F8 (gn 6 sc.nd) (F8 (gn 7 sc.nd) (F8 (gn 9 sc.nd) U5))))) (F8 (gn 10 sc.nd) U5))) (A5 (F3 (QW.qt (K4 (J5 (G8 (qf g30 hr (A2 (qv 6) (A2 (qv 7) (A2 (qv 9) (A2 (qv 10) A7))))))) (Q0 (J3 (cNe 4 fun _=>hr) (B8 (qv 10) A4) (QE.r (P8 (F7 (fun _=>rfl) (fun _=>m6) (QE.r (qv 7))) (qf g25 hr (A2 (qv 7) (A2 (qv 9) A7))))) (D5 _))))) (B0 (B9 L3)) F2)
   (A5 (D6 11 (sws 11 sc.nd) (qf g11 hr (A2 (qv 3) (A2 (qv 10) A7))))
   (A5 (F3 (J3 cNotB (qf g22 hr (A2 (qv 6) (A2 (qv 7) (A2 (qv 9) (A2 (qv 10) A7))))) (QE.r L3) (D5 _)) (B0 (B9 L3)) F2)
   (B0 (F3 (J3 (cNe 4 fun _=>hr) (FZ (fun _=>hr) (fun _=>rfl) (fun _=>m11) (QE.r (qf g22 hr (A2 (qv 6) (A2 (qv 7) (A2 (qv 9) (A2 (qv 11) A7))))))) (QE.r (FZ (fun _=>hr) (fun _=>rfl) (fun _=>m11) (QE.r (qf g30 hr (A2 (qv 6) (A2 (qv 7) (A2 (qv 9) (A2 (qv 11) A7)))))))) (D5 _)) (B0 (B9 L3)) F2))))))
   (B0 (B9 L3))))))) m_law
end
end Tb
open PySem PySem.W PyProof.Rows L2 Tb
set_option hygiene false in
local macro_rules | `(tactic| walk_at "F")=>`(tactic| (dsimp only [KOf];refine' fn0_mk KX G ?a ?l ?c ?k;(case a=>k_is);(case l=>k_is);(case c=>k_is);(case k=>k_is)))
set_option hygiene false in
local macro_rules | `(tactic| walk_at "Z")=>`(tactic| (refine PySem.W.mg_none_of (K:=KOf KX) KX G ?_;dsimp only [KOf];k_is))
abbrev Tb.rwp:=PySem.Challenge.rw_touchboats_k46_fewest_of_one_race.prog
set_option maxRecDepth 100000 in
set_option maxHeartbeats 0 in
theorem PySem.Challenge.cw_touchboats_k46_fewest_of_one_race_holds : PySem.Challenge.rw_touchboats_k46_fewest_of_one_race.Holds := by
 w_on;o_law;k_head;(case hw=>w_witness2)
 k_fill
 refine JA (l:=PySem.Challenge.rw_touchboats_k46_fewest_of_one_race) (x:="_law_script") (k:=6) rfl rfl ⟨rfl,by decide,by decide,rfl⟩ (fun w h Y=>PySem.W.kIn_of Y) ?F
 case F=>
   intro w mg h KX G;have f0:Fn0 (KOf KX) mg "_law_begin" (top 31):=by walk_at "F"
   have f1:Fn0 (KOf KX) mg "_law_take" (top 32):=by walk_at "F"
   have f2:Fn0 (KOf KX) mg "_law_boats" (top 33):=by walk_at "F"
   have f3:Fn0 (KOf KX) mg "may_count_pairs" (top 15):=by walk_at "F"
   have f4:Fn0 (KOf KX) mg "may_count_rounds" (top 16):=by walk_at "F"
   have f5:Fn0 (KOf KX) mg "apart_by" (top 13):=by walk_at "F"
   have f6:Fn0 (KOf KX) mg "exchanged" (top 7):=by walk_at "F"
   have f7:Fn0 (KOf KX) mg "touches_by_pairs" (top 18):=by walk_at "F"
   have f8:Fn0 (KOf KX) mg "touches_by_rounds" (top 19):=by walk_at "F"
   have f9:Fn0 (KOf KX) mg "rounds_of" (top 14):=by walk_at "F"
   have f10:Fn0 (KOf KX) mg "fewest" (top 22):=by walk_at "F"
   have f11:Fn0 (KOf KX) mg "_law_otherwise" (top 44):=by walk_at "F"
   have f12:Fn0 (KOf KX) mg "is_text" (top 3):=by walk_at "F"
   have f13:Fn0 (KOf KX) mg "shows_paper" (top 28):=by walk_at "F"
   have f14:Fn0 (KOf KX) mg "races_of" (top 5):=by walk_at "F"
   have f15:Fn0 (KOf KX) mg "span" (top 6):=by walk_at "F"
   have f16:Fn0 (KOf KX) mg "touch_places" (top 12):=by walk_at "F"
   have f17:Fn0 (KOf KX) mg "leads_there" (top 25):=by walk_at "F"
   have f18:Fn0 (KOf KX) mg "is_boat" (top 4):=by walk_at "F"
   have f19:Fn0 (KOf KX) mg "is_pair_of" (top 24):=by walk_at "F"
   have f20:Fn0 (KOf KX) mg "shows_touches" (top 26):=by walk_at "F"
   have f21:Fn0 (KOf KX) mg "is_whole" (top 2):=by walk_at "F"
   have f22:Fn0 (KOf KX) mg "shows_fewest" (top 29):=by walk_at "F"
   have f23:Fn0 (KOf KX) mg "_law_goal" (top 34):=by walk_at "F"
   have f24:Fn0 (KOf KX) mg "_law_apart" (top 38):=by walk_at "F"
   have f25:Fn0 (KOf KX) mg "_law_rounds" (top 39):=by walk_at "F"
   have f26:Fn0 (KOf KX) mg "_law_paper_right" (top 42):=by walk_at "F"
   have f27:Fn0 (KOf KX) mg "_law_exchanged" (top 36):=by walk_at "F"
   have f28:Fn0 (KOf KX) mg "_law_is_pair" (top 35):=by walk_at "F"
   have f29:Fn0 (KOf KX) mg "_law_led" (top 37):=by walk_at "F"
   have f30:Fn0 (KOf KX) mg "_law_right" (top 43):=by walk_at "F"
   have f31:Fn0 (KOf KX) mg "law" (top 45):=by walk_at "F"
   have m0:mg "abs"=none:=by walk_at "Z"
   have m1:mg "all"=none:=by walk_at "Z"
   have m2:mg "bool"=none:=by walk_at "Z"
   have m3:mg "enumerate"=none:=by walk_at "Z"
   have m4:mg "int"=none:=by walk_at "Z"
   have m5:mg "isinstance"=none:=by walk_at "Z"
   have m6:mg "len"=none:=by walk_at "Z"
   have m7:mg "list"=none:=by walk_at "Z"
   have m8:mg "max"=none:=by walk_at "Z"
   have m9:mg "min"=none:=by walk_at "Z"
   have m10:mg "range"=none:=by walk_at "Z"
   have m11:mg "repr"=none:=by walk_at "Z"
   have m12:mg "reversed"=none:=by walk_at "Z"
   have m13:mg "set"=none:=by walk_at "Z"
   have m14:mg "str"=none:=by walk_at "Z"
   have m15:mg "sum"=none:=by walk_at "Z"
   have m16:mg "tuple"=none:=by walk_at "Z"
   have m17:mg "zip"=none:=by walk_at "Z"
   have c0:Num0 mg "MOST_LETTERS" 8:=by
     refine' JH (K:=KOf KX) KX G ?a
     (case a=>(dsimp only [KOf];k_is))
   refine⟨top 45,f31,fun _ _ _ _ _ _ s u=>.of_eq rfl,fun base kb nb=>?_⟩;have g0:=Mc (P:=rwp) (w:=w) (base:=base) f0 m6 m0 m4;have g1:=Md (P:=rwp) (w:=w) (base:=base) f1;have g2:=Mf (P:=rwp) (w:=w) (base:=base) f2 g1 m6 m10 m16;have g3:=Mg (P:=rwp) (w:=w) (base:=base) f3;have g4:=Mh (P:=rwp) (w:=w) (base:=base) f4;have g5:=Mi (P:=rwp) (w:=w) (base:=base) f5 m3 m6;have g6:=Mj (P:=rwp) (w:=w) (base:=base) f6 m7 m16;have g7:=Mm (P:=rwp) (w:=w) (base:=base) f7 g6 m3 m10 m12 m16;have g8:=Mn (P:=rwp) (w:=w) (base:=base) f8 g6 m3 m16;have g9:=Mo (P:=rwp) (w:=w) (base:=base) f9 m13;have g10:=Mp (P:=rwp) (w:=w) (base:=base) f10 g3 g7 g5 g4 g8 g9 m6;have g11:=Mq (P:=rwp) (w:=w) (base:=base) f11 g1 m6;have g12:=Mr (P:=rwp) (w:=w) (base:=base) f12 m5 m14;have g13:=Ms (P:=rwp) (w:=w) (base:=base) f13 g12 g5 g3 g9 g4 m5 m6 m16;have g14:=Mt (P:=rwp) (w:=w) (base:=base) f14;have g15:=k_span (P:=rwp) (w:=w) (base:=base) f15 m9;have g16:=Mu (P:=rwp) (w:=w) (base:=base) f16 g14 g15 m9 m10 m16;have g17:=Mv (P:=rwp) (w:=w) (base:=base) f17 g16 g6 m6;have g18:=Mw (P:=rwp) (w:=w) (base:=base) f18 m1 m5 m6 m14 c0;have g19:=Mx (P:=rwp) (w:=w) (base:=base) f19 g18 m1 m5 m6 m16
   have g20:=My (P:=rwp) (w:=w) (base:=base) f20 g19 g17 m1 m5 m16;have g21:=Mz (P:=rwp) (w:=w) (base:=base) f21 m2 m4 m5;have g22:=MA (P:=rwp) (w:=w) (base:=base) f22 g21 g20 g13 m5 m6 m16;have g23:=MB (P:=rwp) (w:=w) (base:=base) f23 g1 m6 m7 m16;have g24:=MC (P:=rwp) (w:=w) (base:=base) f24 m3 m6 m15;have g25:=MD (P:=rwp) (w:=w) (base:=base) f25 m4;have g26:=ME (P:=rwp) (w:=w) (base:=base) f26 g24 g25 m5 m6 m9 m14 m16;have g27:=MF (P:=rwp) (w:=w) (base:=base) f27 m7 m16;have g28:=MG (P:=rwp) (w:=w) (base:=base) f28;have g29:=MH (P:=rwp) (w:=w) (base:=base) f29 g28 g27 m5 m6 m16;have g30:=MI (P:=rwp) (w:=w) (base:=base) f30 g29 g26 m2 m4 m5 m6 m16;exact k_law (P:=rwp) (w:=w) (base:=base) f31 g0 g1 g2 g23 g10 g25 g30 g11 g22 m6 m8 m9 m10 m11 m17
end
