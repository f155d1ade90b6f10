import PyProof.Rows.All
import Wide.All
import OpenK.AllK
import Wide.FinOn
import PyProof.EqAt
import PyProof.EqKinds
import PyProof.TupleCall
import PyProof.NeKinds
import PyProof.EnumMake
import PyProof.ConsumeWalk
import KE.LcSums
import PyProof.ReprLen
import PyProof.StrLawsRepr
import PyProof.Rows.StrNews2
import PyProof.Rows.SetFrom
import PyProof.WalksMore
import PyProof.StrLawsChain
import PyProof.StrLawsTight
import PyProof.StrLawsIdx
import PyProof.ZipIter
import PyProof.Draws
import PyProof.Rows.FactsT2
import PyProof.ListStr
import PyProof.Rows.StrPartPair
import KE.KSortTup
import KE.KDictSum
import KE.KRevIter
import PyProof.DictItems
import KE.KPairComp
import PyProof.AutoSeq1
import PyProof.SumWalk
import PyProof.IsRules
import PyProof.Cells
import Lean
import PySem.Challenge.RW_touchboats_k45_fewest_of_neighbours
set_option Elab.async false
set_option linter.all false
set_option maxRecDepth 100000
set_option maxHeartbeats 4000000
namespace PySem.W.Fast
def tw2317207512202151951:=0
def tw11696664050604451689:=0
def tw1138016596727191242:=0
def tw13348664578064039574:=0
def tw9536331020928862000:=0
def tw11538871143104342374:=0
def tw10444275453462295491:=0
def tw1285331585258440032:=0
def tw2044031215194501425:=0
def tw6828766756096099790:=0
def tw4021337516488438612:=0
def tw16506582814700819405:=0
def tw10622747146254661013:=0
def tw15756743999482868784:=0
def tw10673661837958815855:=0
def tw1353176563794663845:=0
def tw12067791704602114138:=0
def tw4522160338124243243:=0
def tw1375836440655920491:=0
def tw1687062534595057436:=0
def tw1108242899938070443:=0
def tw4128885977063022085:=0
def tw10124502948581949794:=0
def tw13035974311346864787:=0
def tw13290850228654239626:=0
def tw14073260593584120864:=0
def tw1544818290311045942:=0
def tw13082757911950830988:=0
def tw9844997156862643086:=0
def tw14345279914227598475:=0
def tw6025041376000740299:=0
def tw7393039886682907954:=0
def tw3434233814290134574:=0
def tw11140181829541729603:=0
def tw3682672724574951571:=0
def tw17617314190893481074:=0
def tw15028422301961237471:=0
def tw1450831714018366925:=0
def tw5357322965633663278:=0
def tw5505270847439038063:=0
def tw3324974730727047095:=0
def tw5727528245179040796:=0
def tw1774781833953985582:=0
def tw10923223532189230329:=0
def tw3464500832233847682:=0
def tw3832991391903445950:=0
def tw8301055449065819258:=0
def tw10026935212398598875:=0
def tw3346112440637148134:=0
def tw13417367019304336564:=0
end PySem.W.Fast
open PySem.W renaming Frag->A3,kia_one->O2,fnOf->M9,kitOne->i4,keepIn->i5,codeIn->v4,methodObj->AN
open PySem renaming wpAny_bind->A0,wpAny_pure->A4,sizeLine->B4,wpAny_newObj_type->J6,bootBuiltins->E5,foldedSetIterable->L6,starEach->C3,mem_of_lookup->N0,wpAny_field->F4,wpAny_mono->E9,wpAny_callSpecial?_slot->T5,Program->C6,wpAny_call_entry->P4,compareOp->G0,assignEach->J3,wpAny_of_eq->L7,wpAny_truthy_bool->W8,mainGlobals->N1,cellsFrom->J7,wpAny_standAt->Q8,wpAny_setField_rec->Z4,wpAny_seqItems->T6,letOwnedTupleGo->W9,wpAny_comprehension_free->v5,wpAny_holding->T7,wpAny_getItem_str_slice->w4,sysModules->O3,codeAny_compStart_list->w5,wpAny_pyIter_tuple->i6,binaryOp->L8,codeAny->J8,wpAny_rule->Q9,wpAny_passesOwn->i7,behindInMarks->Z5,wpAny_pyIter_rangeiter->AO,wpAny_pyIter_list->w6,sliceBounds->X0,relabel->L9,wpAny_pyIter_enum->w8,swapsWith->T8,post_val_or_str->x0,wpAny_typeOf->i8
open PySem.Heap renaming get?_push_of_some->B5,lt_size->B1,get?_push_size->D8,size_push->N2
open List renaming getElem?_eq_getElem->C4,getElem?_eq_some_iff->D2,mem_cons_of_mem->D0,length_map->B8,mem_append_right->E1,mem_cons->B9,size_toArray->D3,mem_cons_self->E2,getElem?_set_self->G9,range->B6,getElem?_map->F2,all_eq_true->F3,getElem?_set_ne->J9,length_set->F6,mem_singleton->K1,length_append->K8,mem_of_getElem?->N3,getElem?_eq_none->O4,getElem?_append_right->T9,getElem?_append_left->U1,mem_append->M1,drop_eq_getElem_cons->X1,map_cons->M2,take_of_length_le->X2,nodup_cons->O5,length_drop->P5,length_cons->P6,mem_range->O6,getD_eq_getElem?_getD->j3,Nodup->K9,length_take->X3,not_mem_nil->X4,mem_filter->X5,filterMap_cons->j6,getElem_of_mem->j7,getElem?_cons_succ->x4,drop_length->Z6,length_singleton->x5,map_append->Z7,map_map->U2,append_assoc->j8,replicate->Z8,map_set->X6,getElem?_replicate->AQ,getElem?_cons_zero->AR,getElem?_take->x6,drop_of_length_le->AS,reverse_cons->x8,length_replicate->AT,take_append_drop->AU,any_eq_true->x9,filter_cons->y0,append_nil->y3,length_reverse->AV
open Nat renaming le_refl->A8,ne_of_lt->C5,lt_of_lt_of_le->G4,le_trans->D7,lt_succ_of_lt->M6,zero_add->K2,le_succ->J4,lt_irrefl->N4,zero_le->N5,ne_of_gt->X7,succ_ne_self->y4
open Option.some renaming inj->E4
open PySem.Str renaming ofString->C0
open PySem.Builtin.SmallTypes renaming nextOf->P7,ownedTupleIsFree->y7,ownedTupleHandOut->CQ
open Bool renaming false_ne_true->M3,and_eq_true->R0,eq_iff_iff->j9,false_eq_true->y8,beq_eq_decide_eq->AX,false_and->y9
open PyProof.Rows renaming callWith_type1->U3,slot_tuple_getitem->Z9,envOfC->AY
open PySem.Builtin.Slice renaming slicePlaces->U4,sliceAdjust->k5,sliceApplied->z0,sliceFields->CS
open Option renaming isSome_iff_exists->U5
open PySem.Builtin.Tuple renaming tupleExact->U6,tupleItemsOf->AZ
open PySem.Builtin.Range renaming rangeFitsLong->X8,rangeSize->A_
open Int renaming toNat_natCast->O7,emod_lt_of_pos->b3,emod_nonneg->X9,eq_ofNat_of_zero_le->Ba,toNat->Y0
open PySem.Builtin.Str renaming occurrences->b4
open PySem.Value renaming type->L0,ref->K3,none->O8
open Array renaming length_toList->b5,getElem?_eq_none->Bb,getElem?_toList->Bc
open PySem.F renaming slot_tuple_iterator_next->z9,args_tuple_add_2->Bd,entry_tuple_add->Be,slot_tuple_add->Bf,slot_zip_next->Aa
open PySem.AutoSeq1 renaming wpAny_loadPart'->Ab
open ForInStep renaming yield->b6
open False renaming elim->P8
open PySem.Builtin.List renaming listTooLong->Bg,listFitsIndex->CT
open PySem.StrLaws renaming sliceText->Ac
open PySem.SeqAt renaming RcNeAt->b7,EqAt->Y1,RcAt->b8
open PySem.Heap.IsSliceOf renaming new->Bh
open PySem.Txt renaming slice_le->k6,slice->Y2
open Prod.mk renaming inj->k7
local macro_rules|`(tactic|omega)=>`(tactic|lia)
section
namespace L2
open PySem PySem.Spec PyProof.Rows
abbrev Key:=Sum Int Str
def keyIs:Key->Value->Bool
 | .inl k,v=>Value.isInt k v
 | .inr x,v=>Value.isStrOf x v
def keyH (w:World):Key->Int
 | .inl k=>hashInt k
 | .inr x=>hashStr w x
theorem P9:∀{k:Key} {v:Value},keyIs k v=true->(∃i t,k=Sum.inl i/\v=Value.int i t)\/(∃x t,k=Sum.inr x/\v=Value.str x t)
 | .inl i, v, h => by
   obtain⟨t,e⟩:=Value.isInt_shape (k:=i) (v:=v) h;exact .inl ⟨i,t,rfl,e⟩
 | .inr x, v, h => by
   obtain⟨t,e⟩:=Value.isStrOf_shape (x:=x) (v:=v) h;exact .inr ⟨x,t,rfl,e⟩
theorem key_ll (a b:Int):decide ((Sum.inl a:Key)=Sum.inl b)=(a == b):=by grind
theorem key_rr (a b:Str):decide ((Sum.inr a:Key)=Sum.inr b)=decide (a=b):=by simp
theorem key_lr (a:Int)(b:Str):decide ((Sum.inl a:Key)=Sum.inr b)=false:=rfl
theorem key_rl (a:Str)(b:Int):decide ((Sum.inr a:Key)=Sum.inl b)=false:=rfl
def Ad (prog:C6)(w:World):PySem.KeyKind prog w Key where
 is:=keyIs
 hash:=keyH w
 inj:=fun v a b ha hb=>by
   rcases P9 ha with⟨i,t,rfl,rfl⟩ | ⟨x,t,rfl,rfl⟩
   · rcases P9 hb with⟨j,u,rfl,e⟩ | ⟨y,u,rfl,e⟩
     · injection e with e1 _;rw [e1]
     · exact nomatch e
   · rcases P9 hb with⟨j,u,rfl,e⟩ | ⟨y,u,rfl,e⟩
     · exact nomatch e
     · injection e with e1 _;rw [e1]
 byValue:=fun k v h=>by
   rcases P9 h with⟨i,t,rfl,rfl⟩ | ⟨x,t,rfl,rfl⟩ <;> rfl
 pyHash:=fun hv h=>by
   rcases P9 hv with⟨i,t,rfl,rfl⟩ | ⟨x,t,rfl,rfl⟩
   · exact wpAny_pyHash_int h
   · exact wpAny_pyHash_str h
 eqBool:=fun hu hv h=>by
   rcases P9 hu with⟨i,t,rfl,rfl⟩ | ⟨x,t,rfl,rfl⟩
   · rcases P9 hv with⟨j,u,rfl,rfl⟩ | ⟨y,u,rfl,rfl⟩
     · rw [key_ll] at h;exact wpAny_eqBool_int h
     · rw [key_lr] at h;exact SeqAt.EqAt.int_str i t y u _ _ _ _ h
   · rcases P9 hv with⟨j,u,rfl,rfl⟩ | ⟨y,u,rfl,rfl⟩
     · rw [key_rl] at h;exact SeqAt.EqAt.str_int x t j u _ _ _ _ h
     · rw [key_rr] at h;exact wpAny_eqBool_str h
 «strs»:=fun k x t v h=>by
   rcases P9 h with⟨i,u,rfl,e⟩ | ⟨y,u,rfl,e⟩
   · exact nomatch e
   · injection e with e1 _;subst e1;cases v <;> rfl
inductive V where
 | non | bl (b:Bool) | int (i:Int) | str (x:Str) | byt (b:Array UInt8) | flt (b:UInt64) | ref (a:Addr) | ty (n:String)
 deriving DecidableEq
def RelV:V->Value->Prop
 | .non,u=>u=O8
 | .bl b,u=>u=Value.bool b
 | .int i,u=>∃t,u=Value.int i t
 | .str x,u=>∃t,u=Value.str x t
 | .byt b,u=>∃t,u=Value.bytes b t
 | .flt b,u=>∃t,u=Value.float b t
 | .ref a,u=>u=K3 a
 | .ty n,u=>u=L0 n
abbrev Vals:List V->List Value->Prop:=Paired RelV
theorem Vals.length (r:Vals xs us):xs.length=us.length:=Paired.length r
theorem Vals.get:∀{xs:List V} {us:List Value} {i:Nat} {x:V},Vals xs us->xs[i]?=some x->∃u,us[i]?=some u/\RelV x u
 | _,_,_,_,.nil,e=>by simp at e
 | _,_,0,_,.cons r _,e=>by simp at e;subst e;exact⟨_,rfl,r⟩
 | _, _, i + 1, x, .cons _ t, e => by
   obtain⟨u,h1,h2⟩:=Vals.get (i:=i) (x:=x) t (by grind);exact⟨u,by simpa using h1,h2⟩
theorem Vals.set (r:RelV x u):∀{xs:List V} {us:List Value} (i:Nat),Vals xs us->Vals (xs.set i x) (us.set i u)
 | _,_,_,.nil=>.nil
 | _,_,0,.cons _ t=>.cons r t
 | _,_,i + 1,.cons q t=>.cons q (Vals.set r i t)
theorem Vals.append:∀{xs ys:List V} {us ws:List Value},Vals xs us->Vals ys ws->Vals (xs++ys) (us++ws)
 | _,_,_,_,.nil,s=>s
 | _,_,_,_,.cons r t,s=>.cons r (Vals.append t s)
theorem Vals.take:∀{xs:List V} {us:List Value} (n:Nat),Vals xs us->Vals (xs.take n) (us.take n)
 | _,_,0,_=>.nil
 | _,_,_ + 1,.nil=>.nil
 | _,_,n + 1,.cons r t=>.cons r (Vals.take n t)
theorem Vals.drop:∀{xs:List V} {us:List Value} (n:Nat),Vals xs us->Vals (xs.drop n) (us.drop n)
 | _,_,0,r=>r
 | _,_,_ + 1,.nil=>.nil
 | _,_,n + 1,.cons _ t=>Vals.drop n t
def RelO:Option V->Option Value->Prop
 | some v,some u=>RelV v u
 | none,none=>True
 | _,_=>False
def KV {κ:Type}:List (κ×V)->List (κ×Value)->Prop:=Paired fun(p:κ×V) (q:κ×Value)=>p.1=q.1/\RelV p.2 q.2
def kV:Key->V
 | .inl i=>.int i
 | .inr x=>.str x
inductive HO where
 /-- a list -/
 | lst (xs:List V)
 /-- a tuple (never changes) -/
 | tup (xs:List V)
 /-- a dict whose keys are ints and Q0; one whose keys are tuples of ints and Q0 (the empty one is both) -/
 | dK (kvs:List (Key×V)) | dT (kvs:List (List Key×V))
 /-- a set of ints: its members, its size -/
 | set (S:Key->Bool) (n:Nat)
 /-- an instance of the class at C, its dict at dx, its attributes -/
 | ins (C dx:Addr) (fs:List (Str×V))
 /-- the dict of the instance at x -/
 | own (x:Addr)
 /-- the dict of an exception -/
 | xd (fs:List (Str×V))
 /-- a bound method, f of x -/
 | met (f x:Addr)
 /-- a range object lo, lo + 1, .. below hi -/
 | rng (lo hi:Int)
 /-- a thing that is known to the object (the script; a dict while a loop walks it): read, never written while it is so -/
 | frz (o:Obj) (u:HO)
 /-- a code object's table -/
 | tbl (ps:Array Value)
 /-- any other thing, by what is true of its one object (a def of one's own: SetO a S n := HO.ext fun h => ..) -/
 | ext (φ:Heap->Prop)
abbrev Hp:=Addr->Option HO
def upd (H:Hp)(a:Addr)(o:HO):Hp:=fun b=>if b=a then some o else H b
theorem D5:upd H a o a=some o:=by unfold upd;rw [if_pos rfl]
theorem A9 (h:b≠a):upd H a o b=H b:=by unfold upd;rw [if_neg h]
theorem O9 {H:Hp}(h:H a=some o)(h':H b=none):a≠b:=by
 intro e;subst e;rw [h] at h';cases h'
def P0 (h:Heap)(a:Addr)(items:Array Value):Prop:=∃o,h.get? a=some o/\(o.cls,o.dict)=(L0 "tuple",none)/\∃n,o.data=.seq items n
theorem P0.is (x:P0 h a items):IsTup h a items:=let ⟨o,e,c,r⟩:=x;⟨o,e,(k7 c).1,r⟩
theorem P0.lt (x:P0 h a items):a < h.objs.size:=let ⟨_,e,_⟩:=x;B1 e
theorem P0.new (h:Heap)(items:Array Value):P0 (h.push { cls:=.type "tuple",data:=.seq items }) h.objs.size items:=⟨_,D8 _ rfl,rfl,_,rfl⟩
section
variable (P:C6)(w:World)
def E6 (H:Hp)(h:Heap)(a:Addr):HO->Prop
 | .lst xs=>xs.length<=B4/\∃(its:List Value) (n:Nat),Vals xs its/\h.get? a=some { cls:=.type "list",data:=.seq its.toArray n }
 | .tup xs=>xs.length<=B4/\∃its:List Value,Vals xs its/\P0 h a its.toArray
 | .dK kvs=>kvs.length<=B4/\(a == O3)=false/\∃vs,KV kvs vs/\h.DictOf (Ad P w) a vs
 | .dT kvs=>kvs.length<=B4/\(a == O3)=false/\∃xs:List (List Key×Addr×Value),
     Paired (fun(p:List Key×V) (q:List Key×Addr×Value)=>p.1=q.1/\H q.2.1=some (.tup (p.1.map kV))/\RelV p.2 q.2.2) kvs xs/\
     ∃o es ep,h.get? a=some o/\o.ExactDict/\o.data=.dict es ep/\es.toList=xs.map (entryOfKey (tupleKind (Ad P w)))/\(xs.map (·.1)).Nodup
 | .set S n=>h.SetOf (Ad P w) a S n
 | .ins C dx fs=>H dx=some (.own a)/\fs.length<=1000/\dx≠a/\h.get? a=some (PySem.W.instObj C dx)/\
     ∃mA,h.Ns1 dx mA/\(∀f,RelO (fs.lookup f) (mA f))/\PySem.Within mA (fs.map (·.1))
 | .own _=>∃o,h.get? a=some o
 | .xd fs=>∃mA,h.Ns1 a mA/\∀f,RelO (fs.lookup f) (mA f)
 | .rng lo hi=>∃t u v,h.get? a=some { cls:=.type "range",data:=.fields #[.int lo t,.int hi u,.int 1 v] }
 | .frz o u=>h.get? a=some o/\E6 H h a u
 | .tbl ps=>h.get? a=some { cls:=.none,data:=.fields ps }
 | .met f x=>h.get? a=some (AN (.ref f) (.ref x))
 | .ext φ=>φ h/\(∃o,h.get? a=some o)/\∀h1 h2:Heap,φ h1->(∀o,h1.get? a=some o->h2.get? a=some o)->φ h2
def HOk (H:Hp)(h:Heap):Prop:=∀a o,H a=some o->E6 P w H h a o
end
section
variable {P:C6}{w:World}{H H':Hp}{h h':Heap}{a:Addr}{o:HO}
theorem E6.lt (x:E6 P w H h a o):a < h.objs.size:=by
 cases o with
 | lst xs=>obtain⟨_,_,_,_,e⟩:=x;exact B1 e
 | tup xs=>obtain⟨_,_,_,p⟩:=x;exact p.lt
 | dK kvs=>obtain⟨_,_,_,_,o,_,_,e,_⟩:=x;exact B1 e
 | dT kvs=>obtain⟨_,_,_,_,o,_,_,e,_⟩:=x;exact B1 e
 | set S n=>obtain⟨o,_,_,_,e,_⟩:=x;exact B1 e
 | ins C dx fs=>obtain⟨_,_,_,e,_⟩:=x;exact B1 e
 | own y=>obtain⟨_,e⟩:=x;exact B1 e
 | xd fs=>obtain⟨_,⟨_,_,_,e,_⟩,_⟩:=x;exact B1 e
 | rng lo hi=>obtain⟨_,_,_,e⟩:=x;exact B1 e
 | frz ob u=>obtain⟨e,_⟩:=x;exact B1 e
 | tbl ps=>exact B1 (show h.get? a=some _ from x)
 | met f y=>exact B1 (show h.get? a=some _ from x)
 | ext φ=>obtain⟨_,⟨_,e⟩,_⟩:=x;exact B1 e
theorem Paired.mapP {α β:Type}{F G:α->β->Prop}:∀{l₁:List α} {l₂:List β},Paired F l₁ l₂->(∀a b,F a b->G a b)->Paired G l₁ l₂
 | _,_,.nil,_=>.nil
 | _,_,.cons r t,f=>.cons (f _ _ r) (Paired.mapP t f)
theorem E6.stay (x:E6 P w H h a o)(k:∀b u,(b=a\/H b=some (.own a))->h.get? b=some u->h'.get? b=some u)
   (ho:∀b,H b=some (.own a)->H' b=some (.own a)) (ht:∀b xs,H b=some (.tup xs)->H' b=some (.tup xs)):E6 P w H' h' a o:=by
 induction o with
 | lst xs=>obtain⟨z,its,n,r,e⟩:=x;exact⟨z,its,n,r,k _ _ (.inl rfl) e⟩
 | tup xs=>obtain⟨z,its,r,ob,e,c⟩:=x;exact⟨z,its,r,ob,k _ _ (.inl rfl) e,c⟩
 | dK kvs=>obtain⟨z,y,vs,r,ob,es,ep,e,c⟩:=x;exact⟨z,y,vs,r,ob,es,ep,k _ _ (.inl rfl) e,c⟩
 | dT kvs =>
   obtain⟨z,y,xs,r,ob,es,ep,e,c⟩:=x;exact⟨z,y,xs,Paired.mapP r fun p q z=>⟨z.1,ht _ _ z.2.1,z.2.2⟩,ob,es,ep,k _ _ (.inl rfl) e,c⟩
 | set S n=>obtain⟨ob,es,ep,t,e,c⟩:=x;exact⟨ob,es,ep,t,k _ _ (.inl rfl) e,c⟩
 | ins C dx fs =>
   obtain⟨d,z,ne,e,mA,⟨od,es,ep,e2,c⟩,r⟩:=x;exact⟨ho _ d,z,ne,k _ _ (.inl rfl) e,mA,⟨od,es,ep,k _ _ (.inr d) e2,c⟩,r⟩
 | own y=>obtain⟨ob,e⟩:=x;exact⟨ob,k _ _ (.inl rfl) e⟩
 | xd fs=>obtain⟨mA,⟨od,es,ep,e,c⟩,r⟩:=x;exact⟨mA,⟨od,es,ep,k _ _ (.inl rfl) e,c⟩,r⟩
 | rng lo hi=>obtain⟨t,u,v,e⟩:=x;exact⟨t,u,v,k _ _ (.inl rfl) e⟩
 | frz ob u ih=>obtain⟨e,q⟩:=x;exact⟨k _ _ (.inl rfl) e,ih q⟩
 | tbl ps =>
   have e:h.get? a=some { cls:=.none,data:=.fields ps }:=x;show h'.get? a=some { cls:=.none,data:=.fields ps };exact k a _ (.inl rfl) e
 | met f y =>
   have e:h.get? a=some (AN (.ref f) (.ref y)):=x;show h'.get? a=some (AN (.ref f) (.ref y));exact k a _ (.inl rfl) e
 | ext φ=>obtain⟨p,⟨o,e⟩,st⟩:=x;exact⟨st _ _ p fun o q=>k _ _ (.inl rfl) q,⟨o,k _ _ (.inl rfl) e⟩,st⟩
theorem HOk.lt (x:HOk P w H h)(e:H a=some o):a < h.objs.size:=(x a o e).lt
theorem HOk.fresh (x:HOk P w H h)(e:h.objs.size<=a):H a=none:=by
 cases q:H a with
 | none=>rfl
 | some u=>exact absurd (G4 (x.lt q) e) (N4 _)
theorem HOk.kept (x:HOk P w H h)(k:∀b u,h.get? b=some u->h'.get? b=some u):HOk P w H h':=fun a o e=>
 (x a o e).stay (fun b u _ q=>k b u q) (fun _ q=>q) fun _ _ q=>q
theorem HOk.laid (x:HOk P w H h)(k:∀b u,h.get? b=some u->h'.get? b=some u)(hp:h.objs.size<=a)(new:E6 P w (upd H a o) h' a o):HOk P w (upd H a o) h':=fun b u e=>by
 have hn:=x.fresh hp
 by_cases hb:b=a
 · subst hb;rw [D5] at e;cases e;exact new
 · rw [A9 hb] at e;exact(x b u e).stay (fun c v _ q=>k c v q) (fun c q=>by rw [A9 (O9 q hn)];exact q) fun c xs q=>by rw [A9 (O9 q hn)];exact q
end
def Rd (H:Hp)(a:Addr)(u:HO):Prop:=H a=some u\/∃o,H a=some (.frz o u)
theorem Rd.ok (r:Rd H a u)(x:HOk P w H h):E6 P w H h a u:=by
 rcases r with r | ⟨o,r⟩
 · exact x a u r
 · obtain⟨_,q⟩:=x a _ r;exact q
def Mut:Option HO->Prop
 | some (.lst _)=>True
 | some (.dK _)=>True
 | some (.dT _)=>True
 | some (.set _ _)=>True
 | some (.ins _ _ _)=>True
 | some (.ext _)=>True
 | _=>False
section
variable {P:C6}{w:World}{H:Hp}{h h':Heap}{x e:Addr}{o':HO}
theorem HOk.write (ok:HOk P w H h)(mu:Mut (H x))(he:e=x\/H e=some (.own x))(k:∀b u,b≠e->h.get? b=some u->h'.get? b=some u)(heo:∃u,h'.get? e=some u)
   (new:E6 P w (upd H x o') h' x o'):HOk P w (upd H x o') h':=fun b u q=>by
 have nown:∀c y,H c=some (.own y)->c≠x:=fun c y r z=>by subst z;rw [r] at mu;exact mu
 have ntup:∀c xs,H c=some (.tup xs)->c≠x:=fun c xs r z=>by subst z;rw [r] at mu;exact mu
 by_cases hb:b=x
 · subst hb;rw [D5] at q;cases q;exact new
 · rw [A9 hb] at q
   by_cases hbe:b=e
   · have q':H b=some (.own x):=by
       rcases he with z | z
       · exact absurd (hbe.trans z) hb
       · rw [hbe];exact z
     rw [q] at q';cases q';obtain⟨v,hv⟩:=heo;exact⟨v,by rw [hbe];exact hv⟩
   · refine(ok b u q).stay (fun c v hc r=>k c v ?_ r) (fun c r=>by rw [A9 (nown c b r)];exact r) fun c xs r=>by rw [A9 (ntup c xs r)];exact r
     rcases hc with rfl | hc
     · exact hbe
     · rintro rfl;rcases he with z | z
       · exact nown c b hc z
       · rw [hc] at z;cases z;exact hb rfl
end
def NS (H:Hp):Prop:=H O3=none\/∃o u,H O3=some (.frz o u)
structure Un (fs ex:List Addr)(H H':Hp)(h h':Heap):Prop where
 keep:∀b o,h.get? b=some o->H b=none->b∉fs->b∉ex->h'.get? b=some o
 slot:∀b o,h.get? b=some o->H b=none->b∈fs->b∉ex->∃sl,h'.get? b=some { o with slots:=sl }
 free:∀b o,h.get? b=some o->H b=none->b∉ex->H' b=none
 there:∀b o,h.get? b=some o->b∉ex->∃o',h'.get? b=some o'
 tups:∀b xs,H b=some (.tup xs)->H' b=some (.tup xs)
 frzs:∀b o u,H b=some (.frz o u)->H' b=some (.frz o u)
 tbls:∀b ps,H b=some (.tbl ps)->∃more,H' b=some (.tbl (ps++more))
 sys:NS H->NS H'
section
variable {fs fs' ex ex':List Addr}{H H1 H2:Hp}{h h1 h2 h':Heap}{a x e:Addr}{o:HO}
theorem Un.any (u:Un fs ex H H1 h h1)(q:h.get? b=some ob)(n:H b=none)(hx:b∉ex):∃sl,h1.get? b=some { ob with slots:=sl }:=by
 by_cases hb:b∈fs
 · exact u.slot b ob q n hb hx
 · exact⟨ob.slots,u.keep b ob q n hb hx⟩
theorem Un.kept (k:∀b u,h.get? b=some u->h'.get? b=some u):Un fs ex H H h h':=
 ⟨fun b ob q _ _ _=>k b ob q,fun b ob q _ _ _=>⟨ob.slots,k b ob q⟩,fun _ _ _ n _=>n,fun b ob q _=>⟨ob,k b ob q⟩,fun _ _ q=>q,fun _ _ _ q=>q,fun _ ps q=>⟨#[],by rw [q];simp⟩,fun z=>z⟩
theorem Un.refl:Un fs ex H H h h:=Un.kept fun _ _ q=>q
theorem Un.laid (k:∀b u,h.get? b=some u->h'.get? b=some u)(hp:h.objs.size<=a)(hn:H a=none)(hy:O3 < h.objs.size):Un fs ex H (upd H a o) h h' where
 keep:=fun b u q _ _ _=>k b u q
 slot:=fun b u q _ _ _=>⟨u.slots,k b u q⟩
 free:=fun b u q n _=>by rw [A9 (C5 (G4 (B1 q) hp))];exact n
 there:=fun b u q _=>⟨u,k b u q⟩
 tups:=fun b xs q=>by rw [A9 (O9 q hn)];exact q
 frzs:=fun b u xs q=>by rw [A9 (O9 q hn)];exact q
 tbls:=fun b ps q=>⟨#[],by rw [A9 (O9 q hn),q];simp⟩
 sys:=fun z=>by unfold NS;rw [A9 (C5 (G4 hy hp))];exact z
theorem Un.write (mu:Mut (H x))(he:e=x\/H e=some (.own x))(k:∀b u,b≠e->h.get? b=some u->h'.get? b=some u)(heo:∃u,h'.get? e=some u):Un fs ex H (upd H x o) h h':=by
 have hx:∀b,H b=none->b≠x:=fun b n z=>by subst z;rw [n] at mu;exact mu
 have hb:∀b,H b=none->b≠e:=fun b n z=>by
   subst z;rcases he with r | r
   · exact hx b n r
   · rw [n] at r;cases r
 have hm:∀b u,H b=some u->¬Mut (some u)->b≠x:=fun b u q nm z=>by subst z;rw [q] at mu;exact nm mu
 refine⟨fun b u q n _ _=>k b u (hb b n) q,fun b u q n _ _=>⟨u.slots,k b u (hb b n) q⟩,fun b u q n _=>by rw [A9 (hx b n)];exact n,fun b u q _=>?_,
   fun b xs q=>by rw [A9 (hm b _ q fun z=>z)];exact q,fun b u xs q=>by rw [A9 (hm b _ q fun z=>z)];exact q,fun b ps q=>⟨#[],by rw [A9 (hm b _ q fun z=>z),q];simp⟩,fun z=>by
     rcases z with z | ⟨ob,u,z⟩
     · exact .inl (by rw [A9 (hx _ z)];exact z)
     · exact .inr ⟨ob,u,by rw [A9 (hm _ _ z fun z=>z)];exact z⟩⟩
 by_cases hbe:b=e
 · subst hbe;exact heo
 · exact⟨u,k b u hbe q⟩
end
def trk (h:Heap)(H:Hp):List Addr:=(B6 h.objs.size).filter fun a=>(H a).isSome
def hidT (h:Heap)(H:Hp):Heap:=PySem.W.hideAll h (trk h H)
theorem Gd (h:Heap)(H:Hp):(hidT h H).objs.size=h.objs.size:=PySem.W.hideAll_size _ _
theorem Ge (e:h.get? b=some o)(n:H b=none):(hidT h H).get? b=some o:=
 PySem.W.hideAll_get _ e fun hm=>by
   have q:(H b).isSome=true:=(X5.mp hm).2;rw [n] at q;simp at q
theorem Gf (e:(hidT h H).get? b=some o):h.get? b=some o/\H b=none:=by
 have e':h.get? b=some o:=PySem.W.of_hideAll (trk h H) e;refine⟨e',?_⟩;cases q:H b with
 | none=>rfl
 | some x =>
   have hm:b∈trk h H:=X5.mpr ⟨O6.mpr (B1 e'),by simp [q]⟩;have z:(hidT h H).get? b=none:=PySem.W.hideAll_none (trk h H) hm;rw [z] at e;cases e
def Gg (g h:Heap)(L:Addr):List (Addr×Obj):=(B6 h.objs.size).filterMap fun a=>if a=L\/(g.get? a).isSome=true then none else(h.get? a).map fun o=>(a,o)
def rest (g h:Heap)(L d:Addr):List (Addr×Obj):=(Gg g h L).filter fun p=>decide (p.1≠d)
structure Mod (K:A3)(mg:Str->Option Value)(base:Heap):Prop where
 kin:K.In base
 glob:base.Ns N1 mg
 blt:∃mb,base.Ns builtinsNs mb/\∀x:Str,x≠"__name__"->mb x=E5 x
 nolimit:base.NoLimit
structure Cx where
 prog:C6
 w:World
 K:A3
 mg:Str->Option Value
 base:Heap
 A:Around
 N:List Str
 s₀:Shared
 H₀:Hp
 env:Env
 outer:List Env
 stack:List Env
 ex:List Addr
 fn:Str->Bool
 calm:Bool
 pn:List (Addr×Obj)
 xe:Value->Shared->Prop
def frs (l:List Env):List Addr:=l.filterMap (·.frame)
abbrev Cx.fs (X:Cx):List Addr:=frs X.outer
def Vis (sc:Scope)(x:Str):Prop:=sc.names.lookup x=some .local\/sc.names.lookup x=some .cell\/sc.names.lookup x=some .free
def Loc (sc:Scope)(x:Str):Prop:=sc.names.lookup x=some .local\/sc.names.lookup x=some .cell
def Look (env:Env)(h:Heap)(m:Str->Option Value)(x:Str)(u:Value):Prop:=
 (env.kindOf x=some .local/\m x=some u)\/((env.kindOf x=some .cell\/env.kindOf x=some .free)/\∃c,env.cells.lookup x=some c/\h.IsCell c (some u))
structure Cx.Ok (X:Cx):Prop where
 mod:Mod X.K X.mg X.base
 kind:X.env.scope.kind=.function
 glob:X.env.globals=N1
 blt:X.env.builtins=builtinsNs
 above:X.s₀.heap.objs.size<=X.env.locals
 inj:∀x y c,X.env.cells.lookup x=some c->X.env.cells.lookup y=some c->x=y
 has:∀x,(X.env.kindOf x=some .cell\/X.env.kindOf x=some .free)->∃c,X.env.cells.lookup x=some c
 cab:∀x c,X.fn x=true->X.env.cells.lookup x=some c->X.s₀.heap.objs.size<=c
 hd:X.calm=true->X.A.handled=none
 frames:X.A.frames=some X.stack
 stk:X.stack=X.outer\/(X.stack=X.env::X.outer/\X.env.frame=some X.env.locals)
 exf:∀b∈X.ex,b≠X.env.locals/\∀x c,X.env.cells.lookup x=some c->c≠b
 bs:∀b o,X.base.get? b=some o->X.s₀.heap.get? b=some o/\X.H₀ b=none
 bsz:X.base.objs.size<=X.s₀.heap.objs.size
 noex:∀b o,X.base.get? b=some o->b∉X.ex
 exfs:∀b∈X.ex,b∉X.fs
 funs:X.s₀.heap.FunFrames X.base X.outer
 frf:∀b∈X.fs,X.H₀ b=none
 nos:NS X.H₀
structure Inv (X:Cx)(pins:List (Addr×Obj))(σ:List (Option V))(H:Hp)(s:Shared):Prop where
 ok:X.Ok
 os:s.os=X.s₀.os
 bare:AllBare s.gens
 base:Un X.fs X.ex X.H₀ H X.s₀.heap s.heap
 loc:∃m,s.heap.Ns X.env.locals m/\∀(i:Nat) (x:Str) (v:V),X.N[i]?=some x->σ[i]?=some (some v)->Vis X.env.scope x->∃u,RelV v u/\Look X.env s.heap m x u
 cell:∀x c,X.env.cells.lookup x=some c->∃v,s.heap.IsCell c v
 free:H X.env.locals=none
 freeC:∀x c,X.env.cells.lookup x=some c->H c=none
 pin:∀p∈X.pn++pins,s.heap.get? p.1=some p.2/\H p.1=none/\p.1≠X.env.locals/\p.1∉X.fs/\∀v,p.2.data≠.cell v
 hok:HOk X.prog X.w H s.heap
 len:σ.length=X.N.length
section
variable {X:Cx}{pins:List (Addr×Obj)}{σ:List (Option V)}{H H':Hp}{s:Shared}{h':Heap}
theorem Cx.Ok.nofr (ok:X.Ok)(e:X.base.get? b=some o):b∉X.fs:=fun hb=>by
 have:=(ok.funs.mem hb).1;rw [e] at this;cases this
theorem Inv.bs (I:Inv X pins σ H s):∀b o,X.base.get? b=some o->s.heap.get? b=some o/\H b=none:=fun b o e=>
 ⟨I.base.keep b o (I.ok.bs b o e).1 (I.ok.bs b o e).2 (I.ok.nofr e) (I.ok.noex b o e),I.base.free b o (I.ok.bs b o e).1 (I.ok.bs b o e).2 (I.ok.noex b o e)⟩
theorem Inv.bk (I:Inv X pins σ H s):∀b o,X.base.get? b=some o->s.heap.get? b=some o:=fun b o e=>(I.bs b o e).1
theorem Inv.mod (I:Inv X pins σ H s):Mod X.K X.mg X.base:=I.ok.mod
theorem Inv.nos (I:Inv X pins σ H s):NS H:=I.base.sys I.ok.nos
theorem Inv.bigS (I:Inv X pins σ H s):O3 < s.heap.objs.size:=Nat.lt_trans (by decide) (I.mod.glob.keeps I.bk).lt
theorem Inv.kIn (I:Inv X pins σ H s):X.K.In s.heap:=I.ok.mod.kin.keeps I.bk
theorem Inv.lt (I:Inv X pins σ H s):X.env.locals < s.heap.objs.size:=let ⟨_,hn,_⟩:=I.loc;hn.lt
theorem Inv.sz (I:Inv X pins σ H s):X.s₀.heap.objs.size<=s.heap.objs.size:=D7 I.ok.above (Nat.le_of_lt I.lt)
theorem Inv.nofs (I:Inv X pins σ H s)(h:s.heap.objs.size<=a):a∉X.fs:=fun hb=>by
 obtain⟨_,o,ho,_⟩:=I.ok.funs.mem hb;exact absurd (G4 (B1 ho) (D7 I.sz h)) (N4 _)
theorem Inv.cne (I:Inv X pins σ H s):∀x c,X.env.cells.lookup x=some c->c≠X.env.locals:=fun x c e z=>by
 obtain⟨v,o,ho,hd⟩:=I.cell x c e;obtain⟨m,⟨o',es,ep,ho',hd',_⟩,_⟩:=I.loc;rw [z,ho'] at ho;cases ho;rw [hd'] at hd;cases hd
theorem Inv.funs (I:Inv X pins σ H s):s.heap.FunFrames X.base X.outer:=by
 have all:∀(l:List Env),(∀b∈frs l,b∈X.fs)->X.s₀.heap.FunFrames X.base l->s.heap.FunFrames X.base l:=by
   intro l
   induction l with
   | nil=>intro _ _;trivial
   | cons env r ih =>
     intro hs hl;obtain⟨hk,⟨L,o,hf,hn,ho,hd⟩,hr⟩:=hl;have hL:L∈X.fs:=hs L (by unfold frs;rw [j6,hf];exact E2);obtain⟨sl,e⟩:=I.base.slot L o ho (I.ok.frf L hL) hL fun z=>I.ok.exfs L z hL;exact⟨hk,⟨L,_,hf,hn,e,hd⟩,ih (fun b hb=>hs b (by unfold frs;rw [j6,hf];exact D0 _ hb)) hr⟩
 exact all X.outer (fun _ hb=>hb) I.ok.funs
theorem Inv.stack (I:Inv X pins σ H s):s.heap.FunFrames X.base X.stack:=by
 rcases I.ok.stk with e | ⟨e,hf⟩
 · rw [e];exact I.funs
 · rw [e];obtain⟨m,hn,_⟩:=I.loc;refine .cons (by rw [I.ok.kind];decide) hf hn ?_ I.funs;exact Heap.get?_none_of_le (D7 I.ok.bsz I.ok.above)
theorem Inv.stkSub (I:Inv X pins σ H s):∀b∈frs X.stack,b∈X.env.locals::X.fs:=fun b hb=>by
 rcases I.ok.stk with e | ⟨e,hf⟩
 · rw [e] at hb;exact D0 _ hb
 · rw [e] at hb;unfold frs at hb;rw [j6,hf] at hb;exact hb
theorem Inv.stkFree (I:Inv X pins σ H s):∀b∈frs X.stack,H b=none:=fun b hb=>by
 rcases B9.mp (I.stkSub b hb) with e | hb
 · rw [e];exact I.free
 · obtain⟨_,o,ho,_⟩:=I.ok.funs.mem hb;exact I.base.free b o ho (I.ok.frf b hb) fun z=>I.ok.exfs b z hb
theorem Inv.step {ch:List Addr}(I:Inv X pins σ H s)
   (hch:∀b∈ch,(b∈X.ex\/X.s₀.heap.objs.size<=b)/\b≠X.env.locals/\(∀x c,X.env.cells.lookup x=some c->c≠b)/\∀p∈X.pn++pins,p.1≠b)
   (keep:∀b o,b≠X.env.locals->b∉X.fs->b∉ch->s.heap.get? b=some o->H b=none->h'.get? b=some o)
   (slot:∀b o,b≠X.env.locals->b∈X.fs->b∉ch->s.heap.get? b=some o->H b=none->∃sl,h'.get? b=some { o with slots:=sl }) (free:∀b o,b∉ch->s.heap.get? b=some o->H b=none->H' b=none)
   (there:∀b o,b∉ch->s.heap.get? b=some o->∃o',h'.get? b=some o')
   (tups:∀b xs,H b=some (.tup xs)->H' b=some (.tup xs)) (frzs:∀b o u,H b=some (.frz o u)->H' b=some (.frz o u)) (tbls:∀b ps,H b=some (.tbl ps)->∃more,H' b=some (.tbl (ps++more))) (sys:NS H->NS H')
   (ns:∀m,s.heap.Ns X.env.locals m->h'.Ns X.env.locals m) (hok:HOk X.prog X.w H' h') (hg:AllBare g') :
   Inv X pins σ H' { s with heap:=h',gens:=g',drawn:=d',toks:=t' }:=by
 have neL:∀b o,X.s₀.heap.get? b=some o->b≠X.env.locals:=fun b o e=>C5 (G4 (B1 e) I.ok.above)
 have neC:∀b o,X.s₀.heap.get? b=some o->b∉X.ex->b∉ch:=fun b o e hx hb=>by
   rcases(hch b hb).1 with z | z
   · exact hx z
   · exact absurd (G4 (B1 e) z) (N4 _)
 have cellK:∀x c,X.env.cells.lookup x=some c->∀v,s.heap.IsCell c v->h'.IsCell c v:=fun x c e v ⟨o,ho,hd⟩=>by
   have nch:c∉ch:=fun z=>(hch c z).2.2.1 x c e rfl
   by_cases hc:c∈X.fs
   · obtain⟨sl,q⟩:=slot c o (I.cne x c e) hc nch ho (I.freeC x c e);exact⟨_,q,hd⟩
   · exact⟨o,keep c o (I.cne x c e) hc nch ho (I.freeC x c e),hd⟩
 refine⟨I.ok,I.os,hg,⟨fun b o e n hb hx=>?_,fun b o e n hb hx=>?_,fun b o e n hx=>?_,fun b o e hx=>?_,fun b xs e=>tups b xs (I.base.tups b xs e),fun b o xs e=>frzs b o xs (I.base.frzs b o xs e),fun b ps e=>?_,fun z=>sys (I.base.sys z)⟩,?_,fun x c e=>?_,?_,fun x c e=>?_,fun p hp=>?_,hok,I.len⟩
 · exact keep b o (neL b o e) hb (neC b o e hx) (I.base.keep b o e n hb hx) (I.base.free b o e n hx)
 · obtain⟨sl,e1⟩:=I.base.slot b o e n hb hx;obtain⟨sl',e2⟩:=slot b _ (neL b o e) hb (neC b o e hx) e1 (I.base.free b o e n hx);exact⟨sl',e2⟩
 · obtain⟨o',e1⟩:=I.base.there b o e hx;exact free b o' (neC b o e hx) e1 (I.base.free b o e n hx)
 · obtain⟨o',e1⟩:=I.base.there b o e hx;exact there b o' (neC b o e hx) e1
 · obtain⟨m1,e1⟩:=I.base.tbls b ps e;obtain⟨m2,e2⟩:=tbls b _ e1;exact⟨m1++m2,by rw [e2,Array.append_assoc]⟩
 · obtain⟨m,hn,hl⟩:=I.loc;refine⟨m,ns m hn,fun i x v e1 e2 e3=>?_⟩;obtain⟨u,r,l⟩:=hl i x v e1 e2 e3;refine⟨u,r,?_⟩;rcases l with l | ⟨k,c,e,z⟩
   · exact .inl l
   · exact .inr ⟨k,c,e,cellK x c e _ z⟩
 · obtain⟨v,z⟩:=I.cell x c e;exact⟨v,cellK x c e v z⟩
 · obtain⟨m,⟨o,_,_,ho,_⟩,_⟩:=I.loc;exact free _ o (fun z=>(hch _ z).2.1 rfl) ho I.free
 · obtain⟨v,o,ho,hd⟩:=I.cell x c e;exact free c o (fun z=>(hch c z).2.2.1 x c e rfl) ho (I.freeC x c e)
 · obtain⟨e,n,ne,nf,d⟩:=I.pin p hp;have nch:p.1∉ch:=fun z=>(hch p.1 z).2.2.2 p hp rfl;exact⟨keep p.1 p.2 ne nf nch e n,free p.1 p.2 nch e n,ne,nf,d⟩
theorem Inv.un (I:Inv X pins σ H s)(u:Un X.fs [] H H' s.heap h')(hok:HOk X.prog X.w H' h'):Inv X pins σ H' { s with heap:=h',toks:=t' }:=by
 obtain⟨m,⟨o,es,ep,ho,r⟩,_⟩:=id I.loc;obtain⟨sl,hL⟩:=u.any ho I.free (by simp)
 exact I.step (g':=s.gens) (d':=s.drawn) (ch:=[]) (fun _ z=>nomatch z) (fun b o _ hb _ e n=>u.keep b o e n hb (by simp)) (fun b o _ hb _ e n=>u.slot b o e n hb (by simp)) (fun b o _ e n=>u.free b o e n (by simp)) (fun b o _ e=>u.there b o e (by simp)) u.tups u.frzs u.tbls u.sys (fun m' hm=>by
   obtain⟨o',es',ep',ho',r'⟩:=hm;rw [ho] at ho';cases ho'
   exact⟨_,es',ep',hL,r'⟩) hok I.bare
theorem Inv.call (I:Inv X pins σ H s)(u:Un (frs X.stack) ch H H' s.heap h')(hok:HOk X.prog X.w H' h')(hg:AllBare g')
   (hch:∀b∈ch,(b∈X.ex\/X.s₀.heap.objs.size<=b)/\b≠X.env.locals/\(∀x c,X.env.cells.lookup x=some c->c≠b)/\∀p∈X.pn++pins,p.1≠b) :
   Inv X pins σ H' { s with heap:=h',gens:=g',drawn:=d',toks:=t' }:=by
 obtain⟨m,⟨o,es,ep,ho,r⟩,_⟩:=id I.loc;obtain⟨sl,hL⟩:=u.any ho I.free fun z=>(hch _ z).2.1 rfl
 exact I.step (ch:=ch) hch (fun b o hL hb hc e n=>u.keep b o e n (fun z=>(B9.mp (I.stkSub b z)).elim hL hb) hc) (fun b o _ _ hc e n=>u.any e n hc) (fun b o hc e n=>u.free b o e n hc) (fun b o hc e=>u.there b o e hc) u.tups u.frzs u.tbls u.sys (fun m' hm=>by
   obtain⟨o',es',ep',ho',r'⟩:=hm;rw [ho] at ho';cases ho'
   exact⟨_,es',ep',hL,r'⟩) hok hg
theorem Inv.turned {t':Nat}{it:Addr}(I:Inv X pins σ H s)(k:∀b o,b≠it->s.heap.get? b=some o->h'.get? b=some o)(hn:H it=none)(hL:it≠X.env.locals)
   (h1:it∈X.ex\/X.s₀.heap.objs.size<=it) (h2:∀x c,X.env.cells.lookup x=some c->c≠it) (h3:∀p∈X.pn++pins,p.1≠it):Inv X pins σ H { s with heap:=h',toks:=t' }:=by
 have nit:∀b u,H b=some u->b≠it:=fun b u e z=>by rw [z,hn] at e;cases e
 refine I.step (g':=s.gens) (d':=s.drawn) (ch:=[it]) (fun b hb=>?_) (fun b o _ _ hc e _=>k b o (fun z=>hc (by simp [z])) e) (fun b o _ _ hc e _=>⟨o.slots,k b o (fun z=>hc (by simp [z])) e⟩) (fun _ _ _ _ n=>n)
   (fun b o hc e=>⟨o,k b o (fun z=>hc (by simp [z])) e⟩) (fun _ _ e=>e) (fun _ _ _ e=>e) (fun b ps e=>⟨#[],by rw [e];simp⟩) (fun z=>z) (fun m hm=>?_) (fun b u e=>?_) I.bare
 · grind
 · obtain⟨o,es,ep,ho,r⟩:=hm;exact⟨o,es,ep,k _ o (Ne.symm hL) ho,r⟩
 · refine(I.hok b u e).stay (fun c v hc q=>k c v ?_ q) (fun _ q=>q) fun _ _ q=>q;rcases hc with z | z
   · grind
   · grind
theorem Inv.tok (I:Inv X pins σ H s)(t:Nat):Inv X pins σ H { s with toks:=t }:=I.un (h':=s.heap) (t':=t) Un.refl I.hok
theorem Inv.kept (I:Inv X pins σ H s)(k:∀b u,s.heap.get? b=some u->h'.get? b=some u):Inv X pins σ H { s with heap:=h',toks:=t' }:=I.un (Un.kept k) (I.hok.kept k)
theorem Inv.laid (I:Inv X pins σ H s)(k:∀b u,s.heap.get? b=some u->h'.get? b=some u)(hp:s.heap.objs.size<=a)(new:E6 X.prog X.w (upd H a o) h' a o) :
   Inv X pins σ (upd H a o) { s with heap:=h',toks:=t' }:=I.un (Un.laid k hp (I.hok.fresh hp) I.bigS) (I.hok.laid k hp new)
theorem Inv.write (I:Inv X pins σ H s)(mu:Mut (H x))(he:e=x\/H e=some (.own x))(k:∀b u,b≠e->s.heap.get? b=some u->h'.get? b=some u)(heo:∃u,h'.get? e=some u)
   (new:E6 X.prog X.w (upd H x o) h' x o):Inv X pins σ (upd H x o) { s with heap:=h',toks:=t' }:=I.un (Un.write mu he k heo) (I.hok.write mu he k heo new)
theorem Inv.pins_of (I:Inv X pins σ H s)(h:∀p∈pins',s.heap.get? p.1=some p.2/\H p.1=none/\p.1≠X.env.locals/\p.1∉X.fs/\∀v,p.2.data≠.cell v):Inv X pins' σ H s:=
 ⟨I.ok,I.os,I.bare,I.base,I.loc,I.cell,I.free,I.freeC,fun p hp=>(M1.mp hp).elim (fun z=>I.pin p (List.mem_append_left _ z)) (h p),I.hok,I.len⟩
theorem CU {N:List Str}(hN:N.Nodup){i j:Nat}{x:Str}(a:N[i]?=some x)(b:N[j]?=some x):i=j:=by
 obtain⟨h1,e1⟩:=D2.mp a;obtain⟨h2,e2⟩:=D2.mp b;exact(List.getElem_inj hN).mp (e1.trans e2.symm)
theorem CV (I:Inv X pins σ H s)(hN:X.N.Nodup)(hi:X.N[i]?=some x)(hx:Loc X.env.scope x)(r:RelV v u)
   (h:∀s',Inv X pins (σ.set i (some v)) H s'->(∃a,Heap.SameBut a s.heap s'.heap/\(a=X.env.locals\/X.env.cells.lookup x=some a))->Q () s') (hf:X.fn x=true\/X.env.scope.names.lookup x=some .local:=by first | exact .inl rfl | exact .inr rfl | assumption):wpAny M A (storeName X.env x u) Q E s:=by
 obtain⟨m,hn,hl⟩:=id I.loc;have hcls:(X.env.scope.kind == .class || (X.env.scope.kind == .module && X.env.locals != X.env.globals))=false:=by rw [I.ok.kind];rfl
 have hiσ:i < σ.length:=by rw [I.len];exact(D2.mp hi).1
 have cne:=I.cne
 have tracked:∀{a:Addr} {h':Heap},(∃o,s.heap.get? a=some o/\H a=none)->Heap.SameBut a s.heap h'->HOk X.prog X.w H h':=fun {a h'} ha hs b ob e=>by
   obtain⟨_,_,hfree⟩:=ha;refine(I.hok b ob e).stay (fun c w' hc q=>(hs.2 c ?_).trans q) (fun _ q=>q) fun _ _ q=>q;rintro rfl;rcases hc with rfl | hc
   · rw [hfree] at e;cases e
   · rw [hfree] at hc;cases hc
 rcases hx with hk | hk
 · refine wpAny_storeName_local hk hn (fun h' hn' hs=>?_) hcls;obtain⟨oL,_,_,hoL,_⟩:=id hn;refine h _ ⟨I.ok,I.os,I.bare,⟨fun b o e n hb hx=>?_,fun b o e n hb hx=>?_,I.base.free,fun b o e hx=>?_,I.base.tups,I.base.frzs,I.base.tbls,I.base.sys⟩,⟨_,hn',fun j y v' e1 e2 e3=>?_⟩,fun y c e=>?_,I.free,I.freeC,fun p hp=>?_,tracked ⟨oL,hoL,I.free⟩ hs,by simpa using I.len⟩ ⟨_,hs,.inl rfl⟩
   · exact(hs.2 b (C5 (G4 (B1 e) I.ok.above))).trans (I.base.keep b o e n hb hx)
   · obtain⟨sl,e1⟩:=I.base.slot b o e n hb hx;exact⟨sl,(hs.2 b (C5 (G4 (B1 e) I.ok.above))).trans e1⟩
   · obtain⟨o',e1⟩:=I.base.there b o e hx;exact⟨o',(hs.2 b (C5 (G4 (B1 e) I.ok.above))).trans e1⟩
   · by_cases hj:j=i
     · subst hj;rw [hi] at e1;cases e1;rw [G9 hiσ] at e2;cases e2;exact⟨u,r,.inl ⟨hk,by simp⟩⟩
     · rw [J9 (Ne.symm hj)] at e2;obtain⟨u',r',q⟩:=hl j y v' e1 e2 e3;refine⟨u',r',?_⟩;rcases q with⟨k,e⟩ | ⟨k,c,e,z⟩
       · refine .inl ⟨k,?_⟩;have:y≠x:=fun e=>hj (CU hN e1 (e▸hi));simp [this,e]
       · exact .inr ⟨k,c,e,z.sameBut hs (cne y c e)⟩
   · obtain⟨w',z⟩:=I.cell y c e;exact⟨w',z.sameBut hs (cne y c e)⟩
   · obtain⟨e,n,ne,nf,d⟩:=I.pin p hp;exact⟨(hs.2 p.1 ne).trans e,n,ne,nf,d⟩
 · have hfn:X.fn x=true:=by
     rcases hf with z | z
     · exact z
     · rw [z] at hk;cases hk
   obtain⟨c,hc⟩:=I.ok.has x (.inl hk);obtain⟨w',z⟩:=I.cell x c hc;refine wpAny_storeName_cell I.ok.kind hk hc z (fun h' hc' hs=>?_);obtain⟨oc,hoc,hocd⟩:=id z;refine h { s with heap:=h' } ⟨I.ok,I.os,I.bare,⟨fun b o e n hb hx=>?_,fun b o e n hb hx=>?_,I.base.free,fun b o e hx=>?_,I.base.tups,I.base.frzs,I.base.tbls,I.base.sys⟩,⟨m,hn.sameBut hs (Ne.symm (cne x c hc)),fun j y v' e1 e2 e3=>?_⟩,fun y c' e=>?_,I.free,I.freeC,fun p hp=>?_,tracked ⟨oc,hoc,I.freeC x c hc⟩ hs,by simpa using I.len⟩ ⟨c,hs,.inr hc⟩
   · exact(hs.2 b (C5 (G4 (B1 e) (I.ok.cab x c hfn hc)))).trans (I.base.keep b o e n hb hx)
   · obtain⟨sl,e1⟩:=I.base.slot b o e n hb hx;exact⟨sl,(hs.2 b (C5 (G4 (B1 e) (I.ok.cab x c hfn hc)))).trans e1⟩
   · obtain⟨o',e1⟩:=I.base.there b o e hx;exact⟨o',(hs.2 b (C5 (G4 (B1 e) (I.ok.cab x c hfn hc)))).trans e1⟩
   · by_cases hj:j=i
     · subst hj;rw [hi] at e1;cases e1;rw [G9 hiσ] at e2;cases e2;exact⟨u,r,.inr ⟨.inl hk,c,hc,hc'⟩⟩
     · rw [J9 (Ne.symm hj)] at e2;obtain⟨u',r',q⟩:=hl j y v' e1 e2 e3;refine⟨u',r',?_⟩;rcases q with q | ⟨k,c',e,z'⟩
       · exact .inl q
       · refine .inr ⟨k,c',e,z'.sameBut hs ?_⟩;rintro rfl;exact hj (CU hN e1 (I.ok.inj _ _ _ e hc▸hi))
   · by_cases hcc:c'=c
     · subst hcc;exact⟨_,hc'⟩
     · obtain⟨w2,z2⟩:=I.cell y c' e;exact⟨w2,z2.sameBut hs hcc⟩
   · obtain⟨e,n,ne,nf,d⟩:=I.pin p hp;refine⟨(hs.2 p.1 ?_).trans e,n,ne,nf,d⟩;intro q;rw [q,hoc] at e;have q':oc=p.2:=E4 e;exact d w' (by rw [<- q'];exact hocd)
theorem k8 (I:Inv X pins σ H s)(hN:X.N.Nodup)(hi:X.N[i]?=some x)(hx:Loc X.env.scope x)(r:RelV v u)
   (h:∀s',Inv X pins (σ.set i (some v)) H s'->Q () s') (hf:X.fn x=true\/X.env.scope.names.lookup x=some .local:=by first | exact .inl rfl | exact .inr rfl | assumption):wpAny M A (storeName X.env x u) Q E s:=
 CV I hN hi hx r (fun s' I' _=>h s' I') hf
end
abbrev XK:=Value->Option Addr->Hp->Prop
abbrev St:=List (Option V)
abbrev VK:=V->Hp->Prop
abbrev TE:=St->Hp->VK->Prop
abbrev TT:=St->Hp->(Bool->Hp->Prop)->Prop
abbrev TA:=St->Hp->(List V->Hp->Prop)->Prop
structure Ends where
 nx:St->Hp->Prop
 rt:VK
 bk:St->Hp->Prop:=fun _ _=>False
 ct:St->Hp->Prop:=fun _ _=>False
abbrev TS:=Ends->St->Hp->Prop
def EP (X:Cx)(pins:List (Addr×Obj))(σ:St)(Q:VK)(u:Value)(s':Shared):Prop:=∃v H',Inv X pins σ H' s'/\RelV v u/\Q v H'
def TP (X:Cx)(pins:List (Addr×Obj))(σ:St)(Q:Bool->Hp->Prop)(b:Bool)(s':Shared):Prop:=∃H',Inv X pins σ H' s'/\Q b H'
def AP (X:Cx)(pins:List (Addr×Obj))(σ:St)(Q:List V->Hp->Prop)(us:List Value)(s':Shared):Prop:=∃vs H',Inv X pins σ H' s'/\Vals vs us/\Q vs H'
def SP (X:Cx)(pins:List (Addr×Obj))(D:Ends)(f:Flow)(s':Shared):Prop:=
 match f with
 | .next=>∃σ' H',Inv X pins σ' H' s'/\D.nx σ' H'
 | .brk=>∃σ' H',Inv X pins σ' H' s'/\D.bk σ' H'
 | .cont=>∃σ' H',Inv X pins σ' H' s'/\D.ct σ' H'
 | .ret u=>∃v σ' H',Inv X pins σ' H' s'/\RelV v u/\D.rt v H'
def PE (X:Cx)(e:Expr)(t:TE):Prop:=
 ∀(pins:List (Addr×Obj)) (s:Shared) (σ:St) (H:Hp) (Q:VK),Inv X pins σ H s->t σ H Q->wpAny (model X.prog X.w) X.A (eval e X.env) (EP X pins σ Q) X.xe s
def PT (X:Cx)(e:Expr)(t:TT):Prop:=
 ∀(pins:List (Addr×Obj)) (s:Shared) (σ:St) (H:Hp) (Q:Bool->Hp->Prop),Inv X pins σ H s->t σ H Q->wpAny (model X.prog X.w) X.A (isTrue e X.env (eval e X.env)) (TP X pins σ Q) X.xe s
def PW (X:Cx)(e:Expr)(t:TT):Prop:=
 ∀(whole:Sem Value) (pins:List (Addr×Obj)) (s:Shared) (σ:St) (H:Hp) (Q:Bool->Hp->Prop),Inv X pins σ H s->t σ H Q->wpAny (model X.prog X.w) X.A (isTrue e X.env whole) (TP X pins σ Q) X.xe s
theorem PW.pt (h:PW X e t):PT X e t:=h _
def PA (X:Cx)(es:List Expr)(t:TA):Prop:=
 ∀(pos:Pos) (pins:List (Addr×Obj)) (s:Shared) (σ:St) (H:Hp) (Q:List V->Hp->Prop),Inv X pins σ H s->t σ H Q->wpAny (model X.prog X.w) X.A (spliced (backTo pos (C3 es X.env))) (AP X pins σ Q) X.xe s
def PS (X:Cx)(st:Stmt)(t:TS):Prop:=
 ∀(pins:List (Addr×Obj)) (s:Shared) (σ:St) (H:Hp) (D:Ends),Inv X pins σ H s->t D σ H->wpAny (model X.prog X.w) X.A (exec st X.env) (SP X pins D) X.xe s
def PSs (X:Cx)(st:List Stmt)(t:TS):Prop:=
 ∀(pins:List (Addr×Obj)) (s:Shared) (σ:St) (H:Hp) (D:Ends),Inv X pins σ H s->t D σ H->wpAny (model X.prog X.w) X.A (execs st X.env) (SP X pins D) X.xe s
theorem thn {α:Type}{t:Sem α}{Q Q':α->Shared->Prop}{M:Model}{A:Around}{E:Value->Shared->Prop}{s:Shared}(h:wpAny M A t Q E s)(hQ:∀a s,Q a s->Q' a s):wpAny M A t Q' E s:=E9 h hQ fun _ _ x=>x
section
variable {X:Cx}
def tVar (i:Nat):TE:=fun σ H Q=>∃v,σ[i]?=some (some v)/\Q v H
def tC (v:V):TE:=fun _ H Q=>Q v H
theorem CW (hN:X.N[i]?=some x)(hv:Vis X.env.scope x)(hd:(x == ("__debug__":Str))=false:=by decide)(hcd:(x == ("__classdict__":Str))=false:=by decide):PE X (.Name x pos) (tVar i):=by
 intro pins s σ H Q I h;obtain⟨v,e,h⟩:=h;obtain⟨m,hn,hl⟩:=I.loc;obtain⟨u,r,l⟩:=hl i x v hN e hv;have fin:EP X pins σ Q u s:=⟨v,H,I,r,h⟩;rcases l with⟨hk,hm⟩ | ⟨hk,c,hc,hcell⟩
 · exact wpAny_Name (wpAny_loadName_local I.ok.kind hk hn hm fin) hd
 · rcases hk with hk | hk
   · exact wpAny_Name (wpAny_loadName_cell I.ok.kind hk hc hcell fin) hd
   · exact wpAny_Name (wpAny_loadName_free I.ok.kind hk hc hcell fin hcd) hd
theorem C8 {i j pos}:PE X (.Constant (.int i) j pos) (tC (.int i)):=fun _ _ _ H _ I h=>wpAny_Constant_int ⟨.int i,H,I.tok _,⟨_,rfl⟩,h⟩
theorem pe_bl {b j pos}:PE X (.Constant (.bool b) j pos) (tC (.bl b)):=fun _ _ _ H _ I h=>Constant_bool ⟨.bl b,H,I,rfl,h⟩
theorem pe_non {j pos}:PE X (.Constant .none j pos) (tC .non):=fun _ _ _ H _ I h=>Constant_none ⟨.non,H,I,rfl,h⟩
theorem pe_str {x j pos}:PE X (.Constant (.str x) j pos) (tC (.str x)):=fun _ _ _ H _ I h=>Calls.Constant_str ⟨.str x,H,I.tok _,⟨_,rfl⟩,h⟩
def Gl (X:Cx)(x:Str):Prop:=X.env.kindOf x=some .globalImplicit
theorem CY (I:Inv X pins σ H s)(hg:Gl X x)(hm:X.mg x=some u)(h:Q u s)
   (hd:(x == ("__debug__":Str))=false:=by decide):wpAny (model X.prog X.w) X.A (eval (.Name x pos) X.env) Q E s:=
 Calls.Name_function_global I.ok.kind hg (Calls.loadGlobal_global (by rw [I.ok.glob];exact I.mod.glob.keeps I.bk) hm h) hd
theorem Q1 (I:Inv X pins σ H s)(hg:Gl X x)(hm:X.mg x=none)(hv:E5 x=some u)(h:Q u s)
   (hn:x≠"__name__":=by decide) (hd:(x == ("__debug__":Str))=false:=by decide):wpAny (model X.prog X.w) X.A (eval (.Name x pos) X.env) Q E s:=by
 obtain⟨mb,h1,h2⟩:=I.mod.blt;exact Calls.Name_function_global I.ok.kind hg (Calls.loadGlobal_builtin (by rw [I.ok.glob];exact I.mod.glob.keeps I.bk) hm (by rw [I.ok.blt];exact h1.keeps I.bk) ((h2 x hn).trans hv) h) hd
theorem Gi {x:Str}{v:V}{u:Value}{pos:Pos}(hg:Gl X x)(hm:X.mg x=some u)(r:RelV v u)(hd:(x == ("__debug__":Str))=false:=by decide):PE X (.Name x pos) (tC v):=
 fun _ _ _ H _ I h=>CY I hg hm ⟨v,H,I,r,h⟩ hd
theorem Gj (hg:Gl X x)(hm:X.mg x=none)(hv:E5 x=some u)(r:RelV v u)(hn:x≠"__name__":=by decide)(hd:(x == ("__debug__":Str))=false:=by decide):PE X (.Name x pos) (tC v):=
 fun _ _ _ H _ I h=>Q1 I hg hm hv ⟨v,H,I,r,h⟩ hn hd
variable {a b:Expr}{ta tb:TE}{pos:Pos}
def tB (t:TE):TT:=fun σ H Q=>t σ H fun x H1=>∃c,x=.bl c/\Q c H1
theorem pt_val (h:PE X e t)(he:∀whole,isTrue e X.env whole=(do let v ← whole;standAt e.pos;holding [v] (truthy v)):=by intro _;rfl):PT X e (tB t):=by
 intro pins s σ H Q I hw;refine isTrue_plain (thn (h pins s σ H _ I hw) fun v s1 ⟨x,H1,I1,r1,q1⟩=>?_) (he _);obtain⟨d,rfl,q⟩:=q1;cases r1;exact W8 ⟨H1,I1,q⟩
variable {tA tB':TT}{rest:List Expr}
def tOr (t u:TT):TT:=fun σ H Q=>t σ H fun c H1=>if c=true then Q true H1 else u σ H1 Q
def tNot (t:TT):TT:=fun σ H Q=>t σ H fun c H1=>Q (!c) H1
theorem pw_or1 (ha:PT X a tA):PW X (.BoolOp .Or [a] pos) tA:=by
 intro wh pins s σ H Q I h;refine isTrue_or (thn (ha pins s σ H Q I h) fun c s1 e=>?_);cases c with
 | false=>exact isTrue_or_nil e
 | true=>exact e
theorem pw_or (ha:PT X a tA)(hb:PW X (.BoolOp .Or (b::rest) pos) tB'):PW X (.BoolOp .Or (a::b::rest) pos) (tOr tA tB'):=by
 intro wh pins s σ H Q I h;refine isTrue_or (thn (ha pins s σ H _ I h) fun c s1 ⟨H1,I1,q1⟩=>?_);cases c with
 | true=>exact⟨H1,I1,q1⟩
 | false=>exact hb wh pins s1 σ H1 Q I1 q1
theorem pt_not (ha:PT X a tA):PT X (.UnaryOp .Not a pos) (tNot tA):=by
 intro pins s σ H Q I h;exact isTrue_not (ha pins s σ H (fun c H1=>Q (!c) H1) I h)
def tAndV (ta tb:TE):TE:=fun σ H Q=>ta σ H fun x H1=>∃c,x=.bl c/\if c=true then tb σ H1 Q else Q (.bl false) H1
theorem pe_one {op}{t:TE}(h:PE X a t):PE X (.BoolOp op [a] pos) t:=fun pins s σ H Q I hw=>BoolOp_one (h pins s σ H Q I hw)
theorem pe_and (ha:PE X a ta)(hb:PE X (.BoolOp .And (b::rest) pos) tb):PE X (.BoolOp .And (a::b::rest) pos) (tAndV ta tb):=by
 intro pins s σ H Q I h;refine BoolOp_and (thn (ha pins s σ H _ I h) fun v s1 ⟨x,H1,I1,r1,q1⟩=>?_);obtain⟨c,rfl,q1⟩:=q1;cases r1;refine W8 ?_;cases c with
 | true=>exact hb pins s1 σ H1 Q I1 q1
 | false=>exact⟨.bl false,H1,I1,rfl,q1⟩
def tIf (t:TT)(ta tb:TE):TE:=fun σ H Q=>t σ H fun c H1=>if c=true then ta σ H1 Q else tb σ H1 Q
theorem Gk (hc:PT X c tA)(ha:PE X a ta)(hb:PE X b tb):PE X (.IfExp c a b pos) (tIf tA ta tb):=by
 intro pins s σ H Q I h;refine wpAny_IfExp (thn (hc pins s σ H _ I h) fun d s1 ⟨H1,I1,q1⟩=>?_);cases d with
 | true=>exact ha pins s1 σ H1 Q I1 q1
 | false=>exact hb pins s1 σ H1 Q I1 q1
end
def SqL (K:A3)(H:Hp)(a:Addr)(xs:List V):Prop:=
 Rd H a (.lst xs)\/
   ∃(o:Obj) (its:Array Value) (n:Nat),K.lookup a=some o/\o.cls=.type "list"/\o.dict=none/\o.data=.seq its n/\its.size<=B4/\Vals xs its.toList
def SqT (K:A3)(H:Hp)(a:Addr)(xs:List V):Prop:=
 Rd H a (.tup xs)\/
   ∃(o:Obj) (its:Array Value) (n:Nat),K.lookup a=some o/\o.cls=.type "tuple"/\o.data=.seq its n/\its.size<=B4/\Vals xs its.toList
def absV:Value->Option V
 | .none=>some .non
 | .bool b=>some (.bl b)
 | .int i _=>some (.int i)
 | .str x _=>some (.str x)
 | .bytes b _=>some (.byt b)
 | .float b _=>some (.flt b)
 | .ref a=>some (.ref a)
 | .type n=>some (.ty n)
 | _=>none
theorem RelV.abs {x:V}{u:Value}(r:RelV x u):absV u=some x:=by grind [RelV,V,absV]
theorem RelV.inj {x y:V}{u:Value}(r:RelV x u)(q:RelV y u):x=y:=by grind [RelV,V]
theorem Vals.inj:∀{xs ys:List V} {us:List Value},Vals xs us->Vals ys us->xs=ys
 | _,_,_,.nil,.nil=>rfl
 | _,_,_,.cons r t,.cons r' t'=>by rw [r.inj r',Vals.inj t t']
section
variable {X:Cx}{pins:List (Addr×Obj)}{σ:St}{H:Hp}{s:Shared}{a:Addr}{xs ys:List V}
theorem SqL.of {K:A3}(h:H a=some (.lst xs)):SqL K H a xs:=.inl (.inl h)
theorem SqT.of {K:A3}(h:H a=some (.tup xs)):SqT K H a xs:=.inl (.inl h)
theorem Inv.list (I:Inv X pins σ H s)(h:SqL X.K H a xs):∃its:List Value,Vals xs its/\PlainL s.heap a its.toArray/\xs.length<=B4:=by
 rcases h with h | ⟨o,its,n,hk,hc,hd,hs,hz,r⟩
 · obtain⟨z,its,n,r,e⟩:=h.ok I.hok;exact⟨its,r,⟨_,n,e,rfl,rfl,rfl⟩,z⟩
 · refine⟨its.toList,r,⟨o,n,I.kIn a o hk,hc,hd,by simpa using hs⟩,?_⟩;have e:=r.length;simp only [b5] at e;omega
theorem Inv.tuple (I:Inv X pins σ H s)(h:SqT X.K H a xs):∃its:List Value,Vals xs its/\IsTup s.heap a its.toArray/\xs.length<=B4:=by
 rcases h with h | ⟨o,its,n,hk,hc,hs,hz,r⟩
 · obtain⟨z,its,r,p⟩:=h.ok I.hok;exact⟨its,r,p.is,z⟩
 · refine⟨its.toList,r,⟨o,I.kIn a o hk,hc,n,by simpa using hs⟩,?_⟩;have e:=r.length;simp only [b5] at e;omega
theorem Inv.list_inj (I:Inv X pins σ H s)(h:SqL X.K H a xs)(h':SqL X.K H a ys):xs=ys:=by
 obtain⟨its,r,⟨o,n,e,_,_,d⟩,_⟩:=I.list h;obtain⟨its',r',⟨o',n',e',_,_,d'⟩,_⟩:=I.list h';rw [e] at e';cases e';rw [d] at d';injection d' with d1 _;have:its=its':=by simpa using congrArg Array.toList d1
 subst this;exact r.inj r'
theorem Inv.tuple_inj (I:Inv X pins σ H s)(h:SqT X.K H a xs)(h':SqT X.K H a ys):xs=ys:=by
 obtain⟨its,r,⟨o,e,_,n,d⟩,_⟩:=I.tuple h;obtain⟨its',r',⟨o',e',_,n',d'⟩,_⟩:=I.tuple h';rw [e] at e';cases e';rw [d] at d';injection d' with d1 _;have:its=its':=by simpa using congrArg Array.toList d1
 subst this;exact r.inj r'
end
abbrev Cx.wish (X:Cx)(E:Value->Shared->Prop):Cx:={ X with xe:=E }
abbrev Cx.nox (X:Cx):Cx:=X.wish fun _ _=>False
theorem Cx.Ok.wish {X:Cx}(ok:X.Ok)(E:Value->Shared->Prop):(X.wish E).Ok:=
 ⟨ok.mod,ok.kind,ok.glob,ok.blt,ok.above,ok.inj,ok.has,ok.cab,ok.hd,ok.frames,ok.stk,ok.exf,ok.bs,ok.bsz,ok.noex,ok.exfs,ok.funs,ok.frf,ok.nos⟩
theorem Cx.Ok.unwish {X:Cx}(ok:(X.wish E).Ok):X.Ok:=
 ⟨ok.mod,ok.kind,ok.glob,ok.blt,ok.above,ok.inj,ok.has,ok.cab,ok.hd,ok.frames,ok.stk,ok.exf,ok.bs,ok.bsz,ok.noex,ok.exfs,ok.funs,ok.frf,ok.nos⟩
section
variable {X:Cx}{pins:List (Addr×Obj)}{σ:St}{H:Hp}{s:Shared}{E:Value->Shared->Prop}
theorem Inv.wish (I:Inv X pins σ H s)(E:Value->Shared->Prop):Inv (X.wish E) pins σ H s:=⟨I.ok.wish E,I.os,I.bare,I.base,I.loc,I.cell,I.free,I.freeC,I.pin,I.hok,I.len⟩
theorem Inv.unwish (I:Inv (X.wish E) pins σ H s):Inv X pins σ H s:=⟨I.ok.unwish,I.os,I.bare,I.base,I.loc,I.cell,I.free,I.freeC,I.pin,I.hok,I.len⟩
theorem SP.unwish (h:SP (X.wish E) pins D f s'):SP X pins D f s':=by
 cases f with
 | next=>obtain⟨σ',H',I,q⟩:=h;exact⟨σ',H',I.unwish,q⟩
 | brk=>obtain⟨σ',H',I,q⟩:=h;exact⟨σ',H',I.unwish,q⟩
 | cont=>obtain⟨σ',H',I,q⟩:=h;exact⟨σ',H',I.unwish,q⟩
 | ret u=>obtain⟨v,σ',H',I,r,q⟩:=h;exact⟨v,σ',H',I.unwish,r,q⟩
theorem PSs.nox {st:List Stmt}(h:PSs X.nox st t):PSs X st t:=fun pins s σ H D I hw=>
 E9 (h pins s σ H D (I.wish _) hw) (fun _ _ q=>q.unwish) fun _ _ z=>P8 z
end
section
variable {X:Cx}{st:Stmt}{rest:List Stmt}{t u:TS}{e:Expr}{te:TE}{pos:Pos}
def tNext:TS:=fun D σ H=>D.nx σ H
def tSeq (t u:TS):TS:=fun D σ H=>t { D with nx:=u D } σ H
theorem CZ:PSs X [] tNext:=fun _ _ σ H _ I h=>wpAny_execs_nil ⟨σ,H,I,h⟩
theorem P1 (h1:PS X st t)(h2:PSs X rest u):PSs X (st::rest) (tSeq t u):=by
 intro pins s σ H D I h;refine wpAny_execs_cons (thn (h1 pins s σ H { D with nx:=u D } I h) fun f s1 q=>?_);cases f with
 | next =>
   obtain⟨σ',H',I',q⟩:=q;exact h2 pins s1 σ' H' D I' q
 | ret v=>exact q
 | brk=>exact q
 | cont=>exact q
theorem k9 (h1:PS X st t):PSs X [st] t:=by
 intro pins s σ H D I h;refine wpAny_execs_cons (thn (h1 pins s σ H D I h) fun f s1 q=>?_);cases f with
 | next=>exact wpAny_execs_nil q
 | ret v=>exact q
 | brk=>exact q
 | cont=>exact q
theorem Inv.quiet (I:Inv X pins σ H s):interactive X.env=false:=by simp [interactive,I.ok.kind]
def Bi (te:TE):TS:=fun D σ H=>te σ H fun _ H1=>D.nx σ H1
theorem Gm (he:PE X e te)(hs:T8 e none pos.line X.env=pure false:=by rfl):PS X (.Expr e pos) (Bi te):=by
 intro pins s σ H D I h;exact wpAny_Expr_any (thn (he pins s σ H _ I h) fun v s1 ⟨x,H1,I1,r1,q1⟩=>⟨σ,H1,I1,q1⟩) I.quiet hs
def tRet (te:TE):TS:=fun D σ H=>te σ H D.rt
theorem Ae (he:PE X e te):PS X (.Return (some e) pos) (tRet te):=by
 intro pins s σ H D I h;exact wpAny_Return_some (thn (he pins s σ H _ I h) fun v s1 ⟨x,H1,I1,r1,q1⟩=>⟨x,σ,H1,I1,r1,q1⟩)
def tIfS (c:TT)(t u:TS):TS:=fun D σ H=>c σ H fun b H1=>if b=true then t D σ H1 else u D σ H1
theorem ps_if (hc:PT X c tc)(ha:PSs X a t)(hb:PSs X b u):PS X (.If c a b pos) (tIfS tc t u):=by
 intro pins s σ H D I h;refine wpAny_If (thn (hc pins s σ H _ I h) fun d s1 ⟨H1,I1,q1⟩=>?_);cases d with
 | true=>exact ha pins s1 σ H1 D I1 q1
 | false=>exact hb pins s1 σ H1 D I1 q1
end
abbrev TG:=V->St->Hp->(St->Hp->Prop)->Prop
abbrev TGs:=List V->St->Hp->(St->Hp->Prop)->Prop
def PG (X:Cx)(target:Expr)(t:TG):Prop:=
 ∀ (pins : List (Addr × Obj)) (s : Shared) (σ : St) (H : Hp) (v : V) (u : Value) (Q : St -> Hp -> Prop), Inv X pins σ H s -> RelV v u -> t v σ H Q ->
   wpAny (model X.prog X.w) X.A (assign target X.env u) (fun _ s'=>∃σ' H',Inv X pins σ' H' s'/\Q σ' H') X.xe s
def PGs (X:Cx)(ts:List Expr)(t:TGs):Prop:=
 ∀ (pins : List (Addr × Obj)) (s : Shared) (σ : St) (H : Hp) (vs : List V) (us : List Value) (Q : St -> Hp -> Prop), Inv X pins σ H s -> Vals vs us -> t vs σ H Q ->
   wpAny (model X.prog X.w) X.A (assignInOrder ((J3 ts X.env).map (·.2)) us) (fun _ s'=>∃σ' H',Inv X pins σ' H' s'/\Q σ' H') X.xe s
abbrev TSet:=V->V->V->Hp->(Hp->Prop)->Prop
def PSet (X:Cx)(t:TSet):Prop:=
 ∀ (pins : List (Addr × Obj)) (s : Shared) (σ : St) (H : Hp) (o i v : V) (ov iv u : Value) (Q : Hp -> Prop), Inv X pins σ H s -> RelV o ov -> RelV i iv -> RelV v u -> t o i v H Q ->
   wpAny (model X.prog X.w) X.A (setItem ov iv u) (fun _ s'=>∃H',Inv X pins σ H' s'/\Q H') X.xe s
abbrev TIp:=V->V->Hp->VK->Prop
def PIp (X:Cx)(op:Operator)(t:TIp):Prop:=
 ∀ (pins : List (Addr × Obj)) (s : Shared) (σ : St) (H : Hp) (x y : V) (v u : Value) (Q : VK), Inv X pins σ H s -> RelV x v -> RelV y u -> t x y H Q ->
   wpAny (model X.prog X.w) X.A (inplaceOp op v u) (EP X pins σ Q) X.xe s
section
variable {X:Cx}{pos:Pos}
def M4 (i:Nat):TG:=fun v σ H Q=>Q (σ.set i (some v)) H
theorem C_ (hN:X.N.Nodup)(hi:X.N[i]?=some x)(hx:Loc X.env.scope x)(hf:X.fn x=true\/X.env.scope.names.lookup x=some .local:=by first | exact .inl rfl | exact .inr rfl | assumption):PG X (.Name x pos) (M4 i):=by
 intro pins s σ H v u Q I r h;exact wpAny_assign_Name (k8 I hN hi hx r (fun s' I'=>⟨_,H,I',h⟩) hf)
def gNil:TGs:=fun vs σ H Q=>vs=[]/\Q σ H
def l3 (t:TG)(u:TGs):TGs:=fun vs σ H Q=>∃v r,vs=v::r/\t v σ H fun σ' H'=>u r σ' H' Q
theorem Da:PGs X [] gNil:=by
 intro pins s σ H vs us Q I r h;obtain⟨e,h⟩:=h;subst e;cases r;exact assignInOrder_nil ⟨σ,H,I,h⟩
theorem Bj (h1:PG X e t)(h2:PGs X es u)
   (hs:(J3 (e::es) X.env).map (·.2)=assign e X.env::(J3 es X.env).map (·.2):=by rfl):PGs X (e::es) (l3 t u):=by
 intro pins s σ H vs us Q I r h;obtain⟨v,vr,e1,h⟩:=h;subst e1;cases r with
 | cons r rr =>
   rw [hs];refine assignInOrder_cons (thn (h1 pins s σ H _ _ _ I r h) fun _ s1 ⟨σ1,H1,I1,q1⟩=>?_);exact h2 pins s1 σ1 H1 _ _ Q I1 rr q1
def gTup (K:A3)(n:Nat)(t:TGs):TG:=fun v σ H Q=>∃a xs,v=.ref a/\SqT K H a xs/\xs.length=n/\t xs σ H Q
theorem Db (hc:X.calm=true)(h:PGs X es t)
   (hn:(J3 es X.env).length=n:=by rfl) (hst:(J3 es X.env).findIdx? (·.1)=none:=by rfl):PG X (.Tuple es k pos) (gTup X.K n t):=by
 intro pins s σ H v u Q I r hw;obtain⟨a,xs,e1,hq,hl,hw⟩:=hw;subst e1;cases r;obtain⟨its,rv,ht,hz⟩:=I.tuple hq;refine assign_Tuple_tuple (I.ok.hd hc) ht (by simp [hn,<- hl,rv.length]) hst fun h' hx=>?_;have I1:Inv X pins σ H { s with heap:=h' }:=I.kept (t':=s.toks) fun b o e=>hx b o (C5 (B1 e)) e;exact h pins _ σ H xs _ Q I1 (by simpa using rv) hw
def gSub (to ti:TE)(t:TSet):TG:=fun v σ H Q=>to σ H fun o H1=>ti σ H1 fun i H2=>t o i v H2 fun H3=>Q σ H3
theorem Bk (ho:PE X o to)(hi:PE X i ti)(hs:PSet X t)
   (ha:∀v,assign (.Subscript o i pos) X.env v=(do
     let ov ← holding [v] (eval o X.env)
     let iv ← holding [v,ov] (eval i X.env)
     standAt pos
     holding [v,ov,iv] (setItem ov iv v)
     release [v,ov,iv] []):=by intro _;rfl):PG X (.Subscript o i pos) (gSub to ti t):=by
 intro pins s σ H v u Q I r h;rw [ha];refine A0 (T7 (thn (ho pins s σ H _ I h) fun ov s1 ⟨x,H1,I1,r1,q1⟩=>?_));refine A0 (T7 (thn (hi pins s1 σ H1 _ I1 q1) fun iv s2 ⟨y,H2,I2,r2,q2⟩=>?_));refine A0 (Q8 (A0 (T7 (thn (hs pins s2 σ H2 x y v ov iv u _ I2 r1 r2 r q2) fun _ s3 ⟨H3,I3,q3⟩=>?_))));exact wpAny_release ⟨σ,H3,I3,q3⟩
def tAsg (te:TE)(g:TG):TS:=fun D σ H=>te σ H fun x H1=>g x σ H1 D.nx
theorem Bl (he:PE X e te)(hg:PG X tg g)(hs:swapsWithSole [tg] e pos.line X.env=pure false:=by rfl)(hw:swappedStores [tg] e X.env=pure none:=by rfl)
   (h1:(J3 [tg] X.env).map (·.2)=[assign tg X.env]:=by rfl):PS X (.Assign [tg] e pos) (tAsg te g):=by
 intro pins s σ H D I h;refine wpAny_Assign_stores (thn (he pins s σ H _ I h) fun v s1 ⟨x,H1,I1,r1,q1⟩=>?_) hs hw;rw [h1];exact thn (hg pins s1 σ H1 x v _ I1 r1 q1) fun _ s2 q=>q
theorem U7 (hN:X.N.Nodup)(hi:X.N[i]?=some x)(hx:Loc X.env.scope x)(he:PE X e te)(hs:T8 e (some (.Name x pos')) pos.line X.env=pure false:=by rfl)(hf:X.fn x=true\/X.env.scope.names.lookup x=some .local:=by first | exact .inl rfl | exact .inr rfl | assumption) :
   PS X (.Assign [.Name x pos'] e pos) (tAsg te (M4 i)):=by
 intro pins s σ H D I h;refine wpAny_Assign_Name (thn (he pins s σ H _ I h) fun v s1 ⟨y,H1,I1,r1,q1⟩=>?_) hs;exact k8 I1 hN hi hx r1 (fun s2 I2=>⟨_,H1,I2,q1⟩) hf
def tPar (i j:Nat)(ta:TA):TS:=fun D σ H=>ta σ H fun vs H1=>∃v w,vs=[v,w]/\D.nx ((σ.set i (some v)).set j (some w)) H1
theorem ps_par {i j:Nat}{x y:Str}{a b:Expr}{ta:TA}{px py pt:Pos}{kt k2 pt2}(hc:X.calm=true)(hN:X.N.Nodup)(hi:X.N[i]?=some x)(hj:X.N[j]?=some y)(hij:i≠j)
   (hx:X.env.scope.names.lookup x=some .local) (hy:X.env.scope.names.lookup y=some .local) (ha:PA X [a,b] ta)
   (hw:swappedStores [.Tuple [.Name x px,.Name y py] kt pt] (.Tuple [a,b] k2 pt2) X.env=pure (some [x,y]))
   (hs:swapsWithSole [.Tuple [.Name x px,.Name y py] kt pt] (.Tuple [a,b] k2 pt2) pos.line X.env=pure false:=by rfl) :
   PS X (.Assign [.Tuple [.Name x px,.Name y py] kt pt] (.Tuple [a,b] k2 pt2) pos) (tPar i j ta):=by
 intro pins s σ H D I h;rw [exec_Assign_arm];refine A0 (Q8 ?_);rw [hs];refine A0 (A4 ?_);rw [if_neg (by decide)];refine A0 (Tuple_ (thn (ha _ pins s σ H _ I h) fun us s1 ⟨vs,H1,I1,r1,q1⟩=>?_));obtain⟨v,w,e1,q1⟩:=q1;subst e1
 obtain⟨u1,u2,rfl,rv,rw'⟩:∃u1 u2,us=[u1,u2]/\RelV v u1/\RelV w u2:=by
   cases r1 with
   | cons p q =>
     cases q with
     | cons p' q' =>
       cases q';exact⟨_,_,rfl,p,p'⟩
 refine J6 ?_ (by show 2<=B4;decide);have I2:Inv X pins σ H1 { s1 with heap:=s1.heap.push { cls:=.type "tuple",data:=.seq [u1,u2].toArray } }:=I1.kept (t':=s1.toks) fun b o e=>B5 _ e;rw [hw];refine A0 (A4 ?_);show wpAny (model X.prog X.w) X.A (do rule "assign.swapped-stores";let items ← unpackItems (.ref s1.heap.objs.size) 2 none;assignInOrder [fun v=>bindName X.env y v,fun v=>bindName X.env x v] items.reverse;pure Flow.next) _ _ _;refine A0 (Q9 (A0 (unpackItems_tuple (items:=#[u1,u2]) (I.ok.hd hc) (IsTup.new s1.heap _) fun h' hx'=>?_)));have I3:=I2.kept (h':=h') (t':=s1.toks) fun b o e=>hx' b o (C5 (B1 e)) e;show wpAny _ _ (assignInOrder [fun v=>bindName X.env y v,fun v=>bindName X.env x v] [u2,u1]>>=fun _=>pure Flow.next) _ _ _;refine A0 (assignInOrder_cons (wpAny_bindName (k8 I3 hN hj (.inl hy) rw' (fun s2 I4=>?_) (.inr hy))));refine assignInOrder_cons (wpAny_bindName (k8 I4 hN hi (.inl hx) rv (fun s3 I5=>assignInOrder_nil (A4 ?_)) (.inr hx)));rw [List.set_comm _ _ (Ne.symm hij)] at I5;exact⟨_,H1,I5,q1⟩
def tAug (i:Nat)(te:TE)(ti:TIp):TS:=fun D σ H=>∃x,σ[i]?=some (some x)/\te σ H fun y H1=>ti x y H1 fun z H2=>D.nx (σ.set i (some z)) H2
theorem ps_aug (hN:X.N.Nodup)(hi:X.N[i]?=some x)(hx:Loc X.env.scope x)(he:PE X e te)(ho:PIp X op ti)(hf:X.fn x=true\/X.env.scope.names.lookup x=some .local:=by first | exact .inl rfl | exact .inr rfl | assumption) :
   PS X (.AugAssign (.Name x pos') op e pos) (tAug i te ti):=by
 intro pins s σ H D I h;obtain⟨v,e1,h⟩:=h;obtain⟨m,hn,hl⟩:=I.loc;have vis:Vis X.env.scope x:=by rcases hx with k | k;exact .inl k;exact .inr (.inl k)
 obtain⟨u,r,l⟩:=hl i x v hi e1 vis;refine wpAny_AugAssign_Name ?_
 have go:wpAny (model X.prog X.w) X.A (eval e X.env) (fun w s₂=>wpAny (model X.prog X.w) X.A (inplaceOp op u w) (fun r s₃=>wpAny (model X.prog X.w) X.A (storeName X.env x r) (fun _=>SP X pins D .next) X.xe s₃) X.xe s₂) X.xe s:=by
   refine thn (he pins s σ H _ I h) fun w s1 ⟨y,H1,I1,r1,q1⟩=>?_;refine thn (ho pins s1 σ H1 v y u w _ I1 r r1 q1) fun z s2 ⟨zv,H2,I2,r2,q2⟩=>?_;exact k8 I2 hN hi hx r2 (fun s3 I3=>⟨_,H2,I3,q2⟩) hf
 rcases l with⟨hk,hm⟩ | ⟨hk,c,hc,hcell⟩
 · exact wpAny_loadName_local I.ok.kind hk hn hm go
 · rcases hk with hk | hk
   · exact wpAny_loadName_cell I.ok.kind hk hc hcell go
   · rcases hx with k | k
     · have:X.env.scope.names.lookup x=some .free:=hk;rw [k] at this;cases this
     · have:X.env.scope.names.lookup x=some .free:=hk;rw [k] at this;cases this
end
structure It where
 go:Nat->Hp->Prop
 yld:Nat->Hp->V->Hp->Prop
 stop:Nat->Hp->Prop
def FpOk (X:Cx)(pins:List (Addr×Obj))(H:Hp)(b:Addr):Prop:=
 H b=none/\b≠X.env.locals/\b∉X.fs/\(b∈X.ex\/X.s₀.heap.objs.size<=b)/\(∀x c,X.env.cells.lookup x=some c->c≠b)/\∀p∈X.pn++pins,p.1≠b
theorem Inv.fpOk (I:Inv X pins σ H s)(hb:s.heap.objs.size<=b)(hn:H' b=none):FpOk X pins H' b:=by
 refine⟨hn,X7 (G4 I.lt hb),I.nofs hb,.inr (D7 I.sz hb),fun x c e z=>?_,fun p hp z=>?_⟩
 · obtain⟨v,q⟩:=I.cell x c e;exact absurd (G4 q.lt (by rw [z];exact hb)) (N4 _)
 · exact absurd (G4 (B1 (I.pin p hp).1) (by rw [z];exact hb)) (N4 _)
structure Turn (P:C6)(w:World)(K:A3)(tg:Expr)(J:It)(fp:List Addr)(it:Addr)(tn:Nat->Heap->Prop):Prop where
 mem:it∈fp
 obj:∀i h,tn i h->∀b∈fp,∃o,h.get? b=some o/\∀v,o.data≠.cell v
 keep:∀i h h',tn i h->(∀b∈fp,∀o,h.get? b=some o->h'.get? b=some o)->tn i h'
 item:∀(X:Cx),X.prog=P->X.w=w->X.K=K->X.calm=true->∀(i:Nat) (pins:List (Addr×Obj)) (s:Shared) (σ:St) (H:Hp) (E:Value->Shared->Prop),Inv X pins σ H s->(∀b∈fp,FpOk X pins H b)->tn i s.heap->J.go i H->
   wpAny (model P w) X.A (pyNext (.ref it)) (fun r s1=>∃u,r=some u/\
     wpAny (model P w) X.A (W9 tg (.ref it) u) (fun _ s2=>∃x H',Inv X pins σ H' s2/\RelV x u/\J.yld i H x H'/\tn (i + 1) s2.heap/\∀b∈fp,H' b=none) E s1) E s
 done:∀(X:Cx),X.prog=P->X.w=w->X.K=K->X.calm=true->∀(i:Nat) (pins:List (Addr×Obj)) (s:Shared) (σ:St) (H:Hp) (E:Value->Shared->Prop),Inv X pins σ H s->(∀b∈fp,FpOk X pins H b)->tn i s.heap->J.stop i H->
   wpAny (model P w) X.A (pyNext (.ref it)) (fun r s1=>r=none/\Inv X pins σ H s1) E s
 self:∀(A:Around) (i:Nat) (s:Shared) (Q:Value->Shared->Prop) (E:Value->Shared->Prop),tn i s.heap->Q (.ref it) s->wpAny (model P w) A (pyIter (.ref it)) Q E s
abbrev TI:=St->Hp->(It->Hp->Prop)->Prop
def PIE (X:Cx)(pins:List (Addr×Obj))(σ:St)(tg:Expr)(R:It->Hp->Prop)(itv:Value)(s2:Shared):Prop:=
 ∃(it:Addr) (fp:List Addr) (tn:Nat->Heap->Prop) (J:It) (H':Hp),itv=.ref it/\Inv X pins σ H' s2/\Turn X.prog X.w X.K tg J fp it tn/\tn 0 s2.heap/\(∀b∈fp,FpOk X pins H' b)/\R J H'
def PI (X:Cx)(tg iter:Expr)(wi:TI):Prop:=
 ∀ (pins : List (Addr × Obj)) (s : Shared) (σ : St) (H : Hp) (R : It -> Hp -> Prop), Inv X pins σ H s -> wi σ H R ->
   wpAny (model X.prog X.w) X.A (eval iter X.env) (fun v s1=>wpAny (model X.prog X.w) X.A (pyIter v) (PIE X pins σ tg R) X.xe s1) X.xe s
theorem l4 (ho:s.heap.get? it=some o)(hc:o.cls=.type n)(hd:o.data=.fields vs)
   (hn:["enumerate","zip","dict_itemiterator","dict_reverseitemiterator","odict_iterator","itertools.zip_longest","itertools.pairwise"].contains n=false) (hQ:Q () s):wpAny M A (W9 tg (.ref it) u) Q E s:=by
 unfold W9
 cases tg <;> first
   | exact A4 hQ
   | (cases u <;> first
       | exact A4 hQ
       | (refine A0 (wpAny_load ho ?_)
          rw [hc,hd];show wpAny M A (if(["enumerate","zip","dict_itemiterator","dict_reverseitemiterator","odict_iterator","itertools.zip_longest","itertools.pairwise"].contains n && vs[0]? == some (rawInt _))=true then _ else _) Q E s;rw [if_neg (by intro h;rw [hn,y9] at h;cases h)]
          exact A4 hQ))
def Itl (K:A3)(a:Addr):It:=
 ⟨fun i H=>∃xs x,SqL K H a xs/\xs[i]?=some x,fun i H x H'=>H'=H/\∀xs,SqL K H a xs->xs[i]?=some x,fun i H=>∃xs,SqL K H a xs/\xs.length<=i⟩
def Itt (K:A3)(a:Addr):It:=
 ⟨fun i H=>∃xs x,SqT K H a xs/\xs[i]?=some x,fun i H x H'=>H'=H/\∀xs,SqT K H a xs->xs[i]?=some x,fun i H=>∃xs,SqT K H a xs/\xs.length<=i⟩
def Itr (lo:Int)(n:Nat):It:=⟨fun i _=>i < n,fun i H x H'=>H'=H/\x=.int (lo + i),fun i _=>n<=i⟩
theorem Gn {K:A3}(a it:Addr):Turn P w K tg (Itl K a) [it] it (fun i h=>h.IsListIter it a i) where
 mem:=by simp
 obj:=fun i h st b hb=>by
   have e:b=it:=by simpa using hb
   subst e;obtain⟨o,e,c,d⟩:=st;exact⟨o,e,fun v z=>by rw [d] at z;cases z⟩
 keep:=fun i h h' st k=>st.at fun o e=>k it (by simp) o e
 item:=by
   intro X hP hw hK hc i pins s σ H E I hf st hg;subst hP hw hK;obtain⟨xs,x,hq,hx⟩:=hg;obtain⟨its,rv,p,hz⟩:=I.list hq;obtain⟨u,hu,ru⟩:=rv.get hx;obtain⟨f0,f1,f2,f3,f4,f5⟩:=hf it (by simp);refine wpAny_pyNext_list_item st p.isList (x:=u) (by simpa using hu) fun h' st' sb=>?_;have I1:Inv X pins σ H { s with heap:=h' }:=I.turned (t':=s.toks) (fun b o hb e=>(sb.2 b hb).trans e) f0 f1 f3 f4 f5;obtain⟨o,e,c,d⟩:=id st';exact⟨u,rfl,l4 (s:={ s with heap:=h' }) e c d (by decide) ⟨x,H,I1,ru,⟨rfl,fun ys hy=>by rw [I.list_inj hy hq];exact hx⟩,st',fun b hb=>(hf b hb).1⟩⟩
 done:=by
   intro X hP hw hK hc i pins s σ H E I hf st hg;subst hP hw hK;obtain⟨xs,hq,hx⟩:=hg;obtain⟨its,rv,p,hz⟩:=I.list hq;obtain⟨f0,f1,f2,f3,f4,f5⟩:=hf it (by simp);have hl:=rv.length;exact wpAny_pyNext_list_end (I.ok.hd hc) st p.isList (by simp;omega) fun h' eb=>⟨rfl,I.turned (t':=s.toks) (fun b o hb e=>eb b o hb e) f0 f1 f3 f4 f5⟩
 self:=fun _ _ _ _ _ st h=>wpAny_pyIter_listiter st h
theorem Go {K:A3}(a it:Addr):Turn P w K tg (Itt K a) [it] it (fun i h=>h.IsTupleIter it a i) where
 mem:=by simp
 obj:=fun i h st b hb=>by
   have e:b=it:=by simpa using hb
   subst e;obtain⟨o,e,c,d⟩:=st;exact⟨o,e,fun v z=>by rw [d] at z;cases z⟩
 keep:=fun i h h' st k=>st.at fun o e=>k it (by simp) o e
 item:=by
   intro X hP hw hK hc i pins s σ H E I hf st hg;subst hP hw hK;obtain⟨xs,x,hq,hx⟩:=hg;obtain⟨its,rv,p,hz⟩:=I.tuple hq;obtain⟨u,hu,ru⟩:=rv.get hx;obtain⟨f0,f1,f2,f3,f4,f5⟩:=hf it (by simp);refine wpAny_pyNext_tuple_item st (show s.heap.IsTuple a its.toArray from p) (x:=u) (by simpa using hu) fun h' st' sb=>?_;have I1:Inv X pins σ H { s with heap:=h' }:=I.turned (t':=s.toks) (fun b o hb e=>(sb.2 b hb).trans e) f0 f1 f3 f4 f5;obtain⟨o,e,c,d⟩:=id st';exact⟨u,rfl,l4 (s:={ s with heap:=h' }) e c d (by decide) ⟨x,H,I1,ru,⟨rfl,fun ys hy=>by rw [I.tuple_inj hy hq];exact hx⟩,st',fun b hb=>(hf b hb).1⟩⟩
 done:=by
   intro X hP hw hK hc i pins s σ H E I hf st hg;subst hP hw hK;obtain⟨xs,hq,hx⟩:=hg;obtain⟨its,rv,p,hz⟩:=I.tuple hq;obtain⟨f0,f1,f2,f3,f4,f5⟩:=hf it (by simp);have hl:=rv.length;exact wpAny_pyNext_tuple_end (I.ok.hd hc) st (show s.heap.IsTuple a its.toArray from p) (by simp;omega) fun h' eb=>⟨rfl,I.turned (t':=s.toks) (fun b o hb e=>eb b o hb e) f0 f1 f3 f4 f5⟩
 self:=fun _ _ _ _ _ st h=>wpAny_pyIter_tupleiter st h
theorem Gp {K:A3}(it:Addr)(lo:Int)(n:Nat):Turn P w K tg (Itr lo n) [it] it (fun i h=>IsRangeIter h it (lo + (i:Nat) * 1) ((n:Int) - (i:Nat)) 1) where
 mem:=by simp
 obj:=fun i h st b hb=>by
   have e:b=it:=by simpa using hb
   subst e
   exact⟨_,st,fun v z=>by
     have z':Data.fields _=Data.cell v:=z
     cases z'⟩
 keep:=fun i h h' st k=>k it (by simp) _ st
 item:=by
   intro X hP hw hK hc i pins s σ H E I hf st hg;subst hP hw hK;obtain⟨f0,f1,f2,f3,f4,f5⟩:=hf it (by simp);have W:=Walks.range (prog:=X.prog) (w:=X.w) (I.ok.hd hc) it lo 1 n;refine W.item i s _ _ hg st fun v h' tk hv st' kk=>?_;obtain⟨t,rfl⟩:=hv;have I1:Inv X pins σ H { s with heap:=h',toks:=tk }:=I.turned (fun b o hb e=>kk b o (by simpa using hb) e) f0 f1 f3 f4 f5;refine⟨_,rfl,l4 (s:={ s with heap:=h',toks:=tk }) (n:="range_iterator") st' rfl rfl (by decide) ⟨.int (lo + i),H,I1,⟨t,?_⟩,⟨rfl,rfl⟩,st',fun b hb=>(hf b hb).1⟩⟩;rw [Int.mul_one]
 done:=by
   intro X hP hw hK hc i pins s σ H E I hf st hg;subst hP hw hK;obtain⟨f0,f1,f2,f3,f4,f5⟩:=hf it (by simp);exact wpAny_pyNext_range_end (I.ok.hd hc) st (by have:n<=i:=hg;omega) fun h' eb=>⟨rfl,I.turned (t':=s.toks) (fun b o hb e=>eb b o hb e) f0 f1 f3 f4 f5⟩
 self:=fun _ _ _ _ _ st h=>AO st h
section
variable {X:Cx}{tg:Expr}
def iList (K:A3)(tl:TE):TI:=fun σ H R=>tl σ H fun x H1=>∃a,x=.ref a/\(∃xs,SqL K H1 a xs)/\R (Itl K a) H1
def iTup (K:A3)(tl:TE):TI:=fun σ H R=>tl σ H fun x H1=>∃a,x=.ref a/\(∃xs,SqT K H1 a xs)/\R (Itt K a) H1
theorem Dc (hl:PE X l tl):PI X tg l (iList X.K tl):=by
 intro pins s σ H R I h;refine thn (hl pins s σ H _ I h) fun v s1 ⟨x,H1,I1,r1,q1⟩=>?_;obtain⟨a,e,⟨xs,hq⟩,q⟩:=q1;subst e;cases r1;obtain⟨its,rv,p,hz⟩:=I1.list hq;refine w6 p.isList ?_;refine⟨s1.heap.objs.size,[s1.heap.objs.size],_,_,H1,rfl,I1.kept (t':=s1.toks) fun b o e=>B5 _ e,Gn a _,⟨_,D8 _ rfl,rfl,rfl⟩,fun b hb=>?_,q⟩;have e:b=s1.heap.objs.size:=by simpa using hb
 subst e;exact I1.fpOk (A8 _) (I1.hok.fresh (A8 _))
theorem pi_tup (hl:PE X l tl):PI X tg l (iTup X.K tl):=by
 intro pins s σ H R I h;refine thn (hl pins s σ H _ I h) fun v s1 ⟨x,H1,I1,r1,q1⟩=>?_;obtain⟨a,e,⟨xs,hq⟩,q⟩:=q1;subst e;cases r1;obtain⟨its,rv,p,hz⟩:=I1.tuple hq;refine i6 (show s1.heap.IsTuple a its.toArray from p) ?_;refine⟨s1.heap.objs.size,[s1.heap.objs.size],_,_,H1,rfl,I1.kept (t':=s1.toks) fun b o e=>B5 _ e,Go a _,⟨_,D8 _ rfl,rfl,rfl⟩,fun b hb=>?_,q⟩;have e:b=s1.heap.objs.size:=by simpa using hb
 subst e;exact I1.fpOk (A8 _) (I1.hok.fresh (A8 _))
theorem Dd {lo hi:Int}(I:Inv X pins σ H s)(h1:-(2 ^ 62)<=lo)(h2:lo < 2 ^ 62)(h3:-(2 ^ 62)<=hi)(h4:hi < 2 ^ 62)
   (q:R (Itr lo (hi - lo).toNat) H):wpAny (model X.prog X.w) X.A (pyIter (.ref s.heap.objs.size)) (PIE X pins σ tg R) E { s with heap:=s.heap.push { cls:=.type "range",data:=.fields #[.int lo t,.int hi u,.int 1 v] },toks:=tk }:=by
 refine wpAny_pyIter_range (IsRange.new ..) (small_one h1 h2 h3 h4) ?_;have I1:Inv X pins σ H { s with heap:=s.heap.push { cls:=.type "range",data:=.fields #[.int lo t,.int hi u,.int 1 v] },toks:=tk }:=I.kept fun b o e=>B5 _ e
 refine⟨(s.heap.push { cls:=.type "range",data:=.fields #[.int lo t,.int hi u,.int 1 v] }).objs.size,[(s.heap.push { cls:=.type "range",data:=.fields #[.int lo t,.int hi u,.int 1 v] }).objs.size],_,_,H,rfl,
   I1.kept (t':=tk) fun b o e=>B5 _ e,Gp _ lo (hi - lo).toNat,?_,fun b hb=>?_,q⟩
 · have e1:lo + ((0:Nat):Int) * 1=lo:=by simp
   have e2:(((hi - lo).toNat:Nat):Int) - ((0:Nat):Int)=A_ lo hi 1:=by rw [rangeSize_one];split <;> omega
   show IsRangeIter _ _ (lo + ((0:Nat):Int) * 1) ((((hi - lo).toNat:Nat):Int) - ((0:Nat):Int)) 1;rw [e1,e2];exact D8 _ rfl
 · have e:b=(s.heap.push { cls:=.type "range",data:=.fields #[.int lo t,.int hi u,.int 1 v] }).objs.size:=by simpa using hb
   subst e;exact I1.fpOk (A8 _) (I1.hok.fresh (A8 _))
def iRng1 (ta:TA):TI:=fun σ H R=>ta σ H fun vs H1=>∃j:Int,vs=[.int j]/\-(2 ^ 62)<=j/\j < 2 ^ 62/\R (Itr 0 j.toNat) H1
def iRng2 (ta:TA):TI:=fun σ H R=>ta σ H fun vs H1=>∃i j:Int,vs=[.int i,.int j]/\(-(2 ^ 62)<=i/\i < 2 ^ 62/\-(2 ^ 62)<=j/\j < 2 ^ 62)/\R (Itr i (j - i).toNat) H1
theorem Gq (hg:Gl X "range")(hm:X.mg "range"=none)(ha:PA X [a] ta)(hs:C3 [a] X.env=[(false,eval a X.env)]:=by rfl):PI X tg (.Call (.Name "range" p) [a] [] pos) (iRng1 ta):=by
 intro pins s σ H R I h;refine Call_ (Q1 I hg hm boot_range (U3 (thn (ha pos pins s σ H _ I h) fun us s1 ⟨vs,H1,I1,r1,q1⟩=>?_) hs rfl));obtain⟨j,e,q1,q2,q⟩:=q1;subst e;cases r1 with
 | cons r rr =>
   cases rr;obtain⟨t,rfl⟩:=r;exact call_range_1 (Dd I1 (by omega) (by omega) q1 q2 (by simpa using q))
theorem Gr {a b:Expr}{ta:TA}{p pos:Pos}(hg:Gl X "range")(hm:X.mg "range"=none)(ha:PA X [a,b] ta)(hs:C3 [a,b] X.env=[(false,eval a X.env),(false,eval b X.env)]:=by rfl)(hs2:C3 [b] X.env=[(false,eval b X.env)]:=by rfl) :
   PI X tg (.Call (.Name "range" p) [a,b] [] pos) (iRng2 ta):=by
 intro pins s σ H R I h;refine Call_ (Q1 I hg hm boot_range (U3 (thn (ha pos pins s σ H _ I h) fun us s1 ⟨vs,H1,I1,r1,q1⟩=>?_) (by rw [hs,hs2]) (by rw [hs2];rfl)));obtain⟨i,j,e,⟨q1,q2,q3,q4⟩,q⟩:=q1;subst e;cases r1 with
 | cons r rr =>
   cases rr with
   | cons r' rr =>
     cases rr;obtain⟨t,rfl⟩:=r;obtain⟨t',rfl⟩:=r';exact call_range_2 (Dd I1 q1 q2 q3 q4 q)
def tFor (wi:TI)(g:TG)(tb:TS):TS:=fun D σ H=>wi σ H fun J H1=>∃W:Nat->Nat->St->Hp->Prop,(∃m,W 0 m σ H1)/\∀i m σ H,W i m σ H->
 (J.stop i H/\D.nx σ H)\/(J.go i H/\∃N:St->Hp->Prop,(∀σ' H',N σ' H'->∃m',m' < m/\W (i + 1) m' σ' H')/\∀x H',J.yld i H x H'->g x σ H' fun σ2 H2=>tb { D with nx:=N,ct:=N,bk:=D.nx } σ2 H2)
def L3 (fp:List Addr)(h:Heap):List (Addr×Obj):=fp.filterMap fun b=>(h.get? b).map fun o=>(b,o)
theorem N6 (hb:b∈fp)(e:h.get? b=some o):(b,o)∈L3 fp h:=List.mem_filterMap.mpr ⟨b,hb,by rw [e];rfl⟩
theorem Gs (hp:p∈L3 fp h):p.1∈fp/\h.get? p.1=some p.2:=by
 obtain⟨b,hb,e⟩:=List.mem_filterMap.mp hp;cases q:h.get? b with
 | none=>rw [q] at e;cases e
 | some o =>
   rw [q] at e;have e':(b,o)=p:=E4 e;subst e';exact⟨hb,q⟩
theorem Inv.pinned (I:Inv X pins σ H s)(hf:∀b∈fp,FpOk X pins H b)(ho:∀b∈fp,∃o,s.heap.get? b=some o/\∀v,o.data≠.cell v):Inv X (pins++L3 fp s.heap) σ H s:=
 I.pins_of fun p hp=>(M1.mp hp).elim (fun z=>I.pin p (E1 _ z)) fun z=>by
   obtain⟨hb,e⟩:=Gs z;obtain⟨f0,f1,f2,_⟩:=hf p.1 hb;obtain⟨o,e',d⟩:=ho p.1 hb;rw [e] at e';cases e';exact⟨e,f0,f1,f2,d⟩
theorem Inv.unpinned (I:Inv X (pins++pl) σ H s):Inv X pins σ H s:=I.pins_of fun p hp=>I.pin p (E1 _ (List.mem_append_left _ hp))
theorem De (hp:PassesOwn (model X.prog X.w) X.A X.env X.xe)(hc:X.calm=true)(hi:PI X tg iter wi)(hg:PG X tg g)(hb:PSs X body tb)
   (hs:∀x,L6 iter X.env x=pure x:=by intro _;rfl):PS X (.For tg iter body [] pos) (tFor wi g tb):=by
 intro pins s σ H D I h;refine wpAny_For (thn (hi pins s σ H _ I h) fun v s1 h1=>thn h1 fun itv s2 h2=>?_) hs;obtain⟨it,fp,tn,J,H2,e,I2,T,st2,f2,W,⟨m0,w0⟩,turn⟩:=h2;subst e
 -- what stays true of the iterator's objects through the loop
 have stat:∀{H':Hp},(∀b∈fp,H' b=none)->∀b∈fp,FpOk X pins H' b:=fun hn b hb=>⟨hn b hb,(f2 b hb).2⟩;refine codeAny_forLoop_any (fun n s'=>∃i σ' H',Inv X pins σ' H' s'/\tn i s'.heap/\(∀b∈fp,H' b=none)/\W i n σ' H') ?_ m0 ⟨0,σ,H2,I2,st2,fun b hb=>(f2 b hb).1,w0⟩;rintro n s3 ⟨i,σ3,H3,I3,st3,fr3,w3⟩;rcases turn i n σ3 H3 w3 with⟨stop,qn⟩ | ⟨go,N,hN,step⟩
 · refine i7 hp (thn (T.done X rfl rfl rfl hc i pins s3 σ3 H3 X.xe I3 (stat fr3) st3 stop) fun r s4 ⟨hr,I4⟩=>?_);subst hr;exact wpAny_execs_nil ⟨σ3,H3,I4,qn⟩
 · refine i7 hp (thn (T.item X rfl rfl rfl hc i pins s3 σ3 H3 X.xe I3 (stat fr3) st3 go) fun r s4 ⟨u,hr,h4⟩=>?_);subst hr;refine i7 hp (thn h4 fun _ s5 ⟨x,H5,I5,r5,y5,st5,fr5⟩=>?_);have I5':=I5.pinned (stat fr5) (T.obj _ _ st5);refine i7 hp (thn (hg _ s5 σ3 H5 x u _ I5' r5 (step x H5 y5)) fun _ s6 ⟨σ6,H6,I6,q6⟩=>?_);refine i7 hp (thn (hb _ s6 σ6 H6 _ I6 q6) fun f s7 q7=>?_)
   have again:∀{σ7:St} {H7:Hp},Inv X (pins++L3 fp s5.heap) σ7 H7 s7->N σ7 H7->∃m,m < n/\∃i σ' H',Inv X pins σ' H' s7/\tn i s7.heap/\(∀b∈fp,H' b=none)/\W i m σ' H':=fun {σ7 H7} I7 n7=>by
     obtain⟨m',hm,w7⟩:=hN σ7 H7 n7;refine⟨m',hm,i + 1,σ7,H7,I7.unpinned,T.keep _ _ _ st5 fun b hb o e=>(I7.pin (b,o) (E1 _ (E1 _ (N6 hb e)))).1,fun b hb=>?_,w7⟩;obtain⟨o,e,d⟩:=T.obj _ _ st5 b hb;exact(I7.pin (b,o) (E1 _ (E1 _ (N6 hb e)))).2.1
   cases f with
   | next=>obtain⟨σ7,H7,I7,n7⟩:=q7;exact again I7 n7
   | cont=>obtain⟨σ7,H7,I7,n7⟩:=q7;exact again I7 n7
   | brk=>obtain⟨σ7,H7,I7,q7⟩:=q7;exact⟨σ7,H7,I7.unpinned,q7⟩
   | ret v=>obtain⟨x7,σ7,H7,I7,r7,q7⟩:=q7;exact⟨x7,σ7,H7,I7.unpinned,r7,q7⟩
end
theorem Gu {K:A3}{a:Addr}{xs:List V}{g:TG}{tb:TS}{D:Ends}{σ:St}{H:Hp}(Pv:Nat->St->Hp->Prop)(h0:Pv 0 σ H)(hl:∀i σ H,i<=xs.length->Pv i σ H->SqL K H a xs)
   (hs:∀i x σ H,xs[i]?=some x->Pv i σ H->g x σ H fun σ2 H2=>tb { D with nx:=Pv (i + 1),ct:=Pv (i + 1),bk:=D.nx } σ2 H2) (hd:∀σ H,Pv xs.length σ H->D.nx σ H) :
   ∃ W : Nat -> Nat -> St -> Hp -> Prop, (∃ m, W 0 m σ H) /\ ∀ i m σ H, W i m σ H ->
     ((Itl K a).stop i H/\D.nx σ H)\/((Itl K a).go i H/\∃N:St->Hp->Prop,(∀σ' H',N σ' H'->∃m',m' < m/\W (i + 1) m' σ' H')/\∀x H',(Itl K a).yld i H x H'->g x σ H' fun σ2 H2=>tb { D with nx:=N,ct:=N,bk:=D.nx } σ2 H2):=by
 refine⟨fun i m σ H=>m=xs.length - i/\i<=xs.length/\Pv i σ H,⟨xs.length,by simp,N5 _,h0⟩,?_⟩;rintro i m σ H ⟨rfl,hi,p⟩;have q:=hl i σ H hi p
 by_cases hlt:i < xs.length
 · refine .inr ⟨⟨xs,xs[i],q,by simp [hlt]⟩,Pv (i + 1),fun σ' H' p'=>⟨xs.length - (i + 1),by omega,rfl,hlt,p'⟩,fun x H' y=>?_⟩;obtain⟨e,y⟩:=y;subst e;exact hs i x σ _ (y xs q) p
 · have e:i=xs.length:=by omega
   subst e;exact .inl ⟨⟨xs,q,A8 _⟩,hd σ H p⟩
abbrev R2:=V->V->Hp->VK->Prop
def OpR (X:Cx)(f:Value->Value->Sem Value)(r:R2):Prop:=
 ∀ (pins : List (Addr × Obj)) (s : Shared) (σ : St) (H : Hp) (x y : V) (v u : Value) (Q : VK), Inv X pins σ H s -> RelV x v -> RelV y u -> r x y H Q ->
   wpAny (model X.prog X.w) X.A (f v u) (EP X pins σ Q) X.xe s
def UnR (X:Cx)(f:Value->Sem Value)(r:V->Hp->VK->Prop):Prop:=
 ∀ (pins : List (Addr × Obj)) (s : Shared) (σ : St) (H : Hp) (x : V) (v : Value) (Q : VK), Inv X pins σ H s -> RelV x v -> r x H Q ->
   wpAny (model X.prog X.w) X.A (f v) (EP X pins σ Q) X.xe s
def G5 (X:Cx)(f:Value)(r:List V->Hp->VK->Prop):Prop:=
 ∀ (pins : List (Addr × Obj)) (s : Shared) (σ : St) (H : Hp) (xs : List V) (us : List Value) (Q : VK), Inv X pins σ H s -> Vals xs us -> r xs H Q ->
   wpAny (model X.prog X.w) X.A (call f us) (EP X pins σ Q) X.xe s
def tOp (r:R2)(ta tb:TE):TE:=fun σ H Q=>ta σ H fun x H1=>tb σ H1 fun y H2=>r x y H2 Q
def tUn (r:V->Hp->VK->Prop)(ta:TE):TE:=fun σ H Q=>ta σ H fun x H1=>r x H1 Q
def rI (C:Int->Int->Prop)(g:Int->Int->V):R2:=fun x y H Q=>∃i j,x=.int i/\y=.int j/\C i j/\Q (g i j) H
def rI0 (g:Int->Int->V):R2:=fun x y H Q=>∃i j,x=.int i/\y=.int j/\Q (g i j) H
def rU (g:Int->V):V->Hp->VK->Prop:=fun x H Q=>∃i,x=.int i/\Q (g i) H
section
variable {X:Cx}{a b c:Expr}{ta tb tc:TE}{pos:Pos}
theorem binT (ha:PE X a ta)(hb:PE X b tb){R:V->V->Hp->Prop}(I:Inv X pins σ H s)
   (h:ta σ H fun x H1=>tb σ H1 fun y H2=>R x y H2) {f:Value->Value->Sem Value}
   (hf:∀v u s2 x y H2,Inv X pins σ H2 s2->RelV x v->RelV y u->R x y H2->wpAny (model X.prog X.w) X.A (f v u) Q X.xe s2) :
   wpAny (model X.prog X.w) X.A (eval a X.env) (fun v s₁=>wpAny (model X.prog X.w) X.A (eval b X.env) (fun u s₂=>wpAny (model X.prog X.w) X.A (f v u) Q X.xe s₂) X.xe s₁) X.xe s:=by
 refine thn (ha pins s σ H _ I h) fun v s1 ⟨x,H1,I1,r1,q1⟩=>?_;refine thn (hb pins s1 σ H1 _ I1 q1) fun u s2 ⟨y,H2,I2,r2,q2⟩=>?_;exact hf v u s2 x y H2 I2 r1 r2 q2
theorem D1 (ho:OpR X (L8 op) r)(ha:PE X a ta)(hb:PE X b tb):PE X (.BinOp a op b pos) (tOp r ta tb):=by
 intro pins s σ H Q I h;exact wpAny_BinOp (binT ha hb I h fun v u s2 x y H2 I2 rx ry q=>ho pins s2 σ H2 x y v u Q I2 rx ry q)
theorem pe_un (ho:UnR X (unaryOp op) r)(ha:PE X a ta):PE X (.UnaryOp op a pos) (tUn r ta):=by
 intro pins s σ H Q I h;exact UnaryOp_ (thn (ha pins s σ H _ I h) fun v s1 ⟨x,H1,I1,r1,q1⟩=>ho pins s1 σ H1 x v Q I1 r1 q1)
theorem opI {g:Int->Int->Int}
   (rule:∀(i j:Int) (t u:Tok) (s:Shared) (Q:Value->Shared->Prop) (E:Value->Shared->Prop),C i j->Q (.int (g i j) s.toks) { s with toks:=s.toks + 1 }->wpAny (model X.prog X.w) X.A (f (.int i t) (.int j u)) Q E s) :
   OpR X f (rI C fun i j=>.int (g i j)):=by
 intro pins s σ H x y v u Q I rx ry h;obtain⟨i,j,rfl,rfl,hc,q⟩:=h;obtain⟨t,rfl⟩:=rx;obtain⟨t',rfl⟩:=ry;exact rule i j t t' s _ _ hc ⟨.int (g i j),H,I.tok _,⟨_,rfl⟩,q⟩
theorem opI0 {g:Int->Int->Int}
   (rule:∀(i j:Int) (t u:Tok) (s:Shared) (Q:Value->Shared->Prop) (E:Value->Shared->Prop),Q (.int (g i j) s.toks) { s with toks:=s.toks + 1 }->wpAny (model X.prog X.w) X.A (f (.int i t) (.int j u)) Q E s) :
   OpR X f (rI0 fun i j=>.int (g i j)):=by
 intro pins s σ H x y v u Q I rx ry h;obtain⟨i,j,rfl,rfl,q⟩:=h;obtain⟨t,rfl⟩:=rx;obtain⟨t',rfl⟩:=ry;exact rule i j t t' s _ _ ⟨.int (g i j),H,I.tok _,⟨_,rfl⟩,q⟩
theorem opB0 {g:Int->Int->Bool}
   (rule:∀(i j:Int) (t u:Tok) (s:Shared) (Q:Value->Shared->Prop) (E:Value->Shared->Prop),Q (.bool (g i j)) s->wpAny (model X.prog X.w) X.A (f (.int i t) (.int j u)) Q E s) :
   OpR X f (rI0 fun i j=>.bl (g i j)):=by
 intro pins s σ H x y v u Q I rx ry h;obtain⟨i,j,rfl,rfl,q⟩:=h;obtain⟨t,rfl⟩:=rx;obtain⟨t',rfl⟩:=ry;exact rule i j t t' s _ _ ⟨.bl (g i j),H,I,rfl,q⟩
def CDiv (i j:Int):Prop:=0 < j/\j < 1073741824
def CPow (i j:Int):Prop:=0<=j/\j<=1000000/\i.natAbs < 2 ^ 64
def CMul (i j:Int):Prop:=(-(2 ^ 64) < i/\i < 2 ^ 64)\/(-(2 ^ 64) < j/\j < 2 ^ 64)
theorem CMul.ok (h:CMul i j):IntMulOk i j:=by
 rcases h with⟨h1,h2⟩ | ⟨h1,h2⟩
 · exact .of_left (intBits_le_64 h1 h2)
 · exact .of_right (intBits_le_64 h1 h2)
theorem Q2:OpR X (L8 .Add) (rI0 fun i j=>.int (i + j)):=opI0 fun _ _ _ _ _ _ _ q=>add_int q
theorem op_sub:OpR X (L8 .Sub) (rI0 fun i j=>.int (i - j)):=opI0 fun _ _ _ _ _ _ _ q=>sub_int q
theorem R1:OpR X (L8 .Mult) (rI CMul fun i j=>.int (i * j)):=opI fun _ _ _ _ _ _ _ hc q=>mul_int q hc.ok
theorem Af:OpR X (L8 .FloorDiv) (rI CDiv fun i j=>.int (i / j)):=opI fun i j _ _ _ _ _ hc q=>by
 have h1:(0:Int) < j:=hc.1;have h2:j < 1073741824:=hc.2;exact floordiv_int (by omega) (by rw [Int.fdiv_eq_ediv_of_nonneg i (by omega)];exact q) (.inl (PyProof.noPylong_small (by omega)))
theorem R3:OpR X (L8 .Mod) (rI (fun _ j=>0 < j) fun i j=>.int (i % j)):=opI fun i j _ _ _ _ _ hc q=>by
 have h1:(0:Int) < j:=hc;exact mod_int' (by omega) (by rw [Int.fmod_eq_emod_of_nonneg i (by omega)];exact q)
theorem Bm:OpR X (L8 .Pow) (rI CPow fun i j=>.int (i ^ j.toNat)):=opI fun _ _ _ _ _ _ _ hc q=>pow_int_small hc.1 hc.2.1 hc.2.2 q
theorem unI {g:Int->Int}
   (rule:∀(i:Int) (t:Tok) (s:Shared) (Q:Value->Shared->Prop) (E:Value->Shared->Prop),Q (.int (g i) s.toks) { s with toks:=s.toks + 1 }->wpAny (model X.prog X.w) X.A (f (.int i t)) Q E s) :
   UnR X f (rU fun i=>.int (g i)):=by
 intro pins s σ H x v Q I rx h;obtain⟨i,rfl,q⟩:=h;obtain⟨t,rfl⟩:=rx;exact rule i t s _ _ ⟨.int (g i),H,I.tok _,⟨_,rfl⟩,q⟩
theorem Df:UnR X (unaryOp .USub) (rU fun i=>.int (-i)):=unI fun _ _ _ _ _ q=>neg_int q
end
section
variable {X:Cx}{a b c:Expr}{ta tb tc:TE}{pos:Pos}
theorem Bn (I:Inv X pins σ H s)(q:Q (.bl k) H)(e:k=k'):EP X pins σ Q (.bool k') s:=by
 subst e;exact⟨.bl k,H,I,rfl,q⟩
theorem op_lt:OpR X (G0 .Lt) (rI0 fun i j=>.bl (decide (i < j))):=opB0 fun _ _ _ _ _ _ _ q=>lt_int q
theorem op_le:OpR X (G0 .LtE) (rI0 fun i j=>.bl (decide (i<=j))):=opB0 fun _ _ _ _ _ _ _ q=>le_int q
theorem op_gt:OpR X (G0 .Gt) (rI0 fun i j=>.bl (decide (j < i))):=opB0 fun _ _ _ _ _ _ _ q=>gt_int q
theorem op_ge:OpR X (G0 .GtE) (rI0 fun i j=>.bl (decide (j<=i))):=opB0 fun _ _ _ _ _ _ _ q=>ge_int q
theorem Gv:OpR X (G0 .Lt) (fun x y H Q=>∃i j,x=.str i/\y=.str j/\Q (.bl (decide (i.cps.toList < j.cps.toList))) H):=by
 intro pins s σ H x y v u Q I rx ry h;obtain⟨i,j,rfl,rfl,q⟩:=h;obtain⟨t,rfl⟩:=rx;obtain⟨t',rfl⟩:=ry;exact lt_str (Bn I q rfl)
theorem Gw:OpR X (G0 .In) (fun x y H Q=>∃i j,x=.str i/\y=.str j/\Q (.bl (!(b4 j i 0 j.length 1).isEmpty)) H):=by
 intro pins s σ H x y v u Q I rx ry h;obtain⟨i,j,rfl,rfl,q⟩:=h;obtain⟨t,rfl⟩:=rx;obtain⟨t',rfl⟩:=ry;exact in_str (Bn I q rfl)
theorem OpR.or (h:OpR X f r)(h':OpR X f r'):OpR X f (fun x y H Q=>r x y H Q\/r' x y H Q):=by
 intro pins s σ H x y v u Q I rx ry q;rcases q with q | q
 · exact h pins s σ H x y v u Q I rx ry q
 · exact h' pins s σ H x y v u Q I rx ry q
theorem D9 (b:Expr)(h:op≠.In:=by decide)(h2:op≠.NotIn:=by decide):Z5 op b=false:=by
 have e1:(op == CmpOp.In)=false:=by cases op <;> first | rfl | exact absurd rfl h
 have e2:(op == CmpOp.NotIn)=false:=by cases op <;> first | rfl | exact absurd rfl h2
 cases b <;> simp [Z5,e1,e2]
theorem Dg (ho:OpR X (G0 op) r)(ha:PE X a ta)(hb:PE X b tb)(hm:Z5 op b=false):PE X (.Compare a [op] [b] pos) (tOp r ta tb):=by
 intro pins s σ H Q I h;exact wpAny_Compare1 (binT ha hb I h fun v u s2 x y H2 I2 rx ry q=>ho pins s2 σ H2 x y v u Q I2 rx ry q) hm
def Bo (t:TE):TT:=fun σ H Q=>t σ H fun x H'=>∃k,x=.bl k/\Q k H'
theorem Bp (ho:OpR X (G0 op) r)(ha:PE X a ta)(hb:PE X b tb)(hm:Z5 op b=false):PT X (.Compare a [op] [b] pos) (Bo (tOp r ta tb)):=by
 intro pins s σ H Q I h
 refine wpAny_isTrue_Compare1 (thn (ha pins s σ H _ I h) fun v s1 ⟨x,H1,I1,r1,q1⟩=>thn (hb pins s1 σ H1 _ I1 q1) fun u s2 ⟨y,H2,I2,r2,q2⟩=>
   thn (ho pins s2 σ H2 x y v u _ I2 r1 r2 q2) fun c s3 ⟨z,H3,I3,r3,k,e,q3⟩=>?_) hm
 subst e;cases r3;exact W8 ⟨H3,I3,q3⟩
def Bq (r r':R2)(ta tb tc:TE):TE:=fun σ H Q=>ta σ H fun x H1=>tb σ H1 fun y H2=>r x y H2 fun z H3=>∃k,z=.bl k/\
 (if k=true then tc σ H3 fun w' H4=>r' y w' H4 Q else Q (.bl false) H3)
theorem Gx (ho:OpR X (G0 op) r)(ho':OpR X (G0 op') r')(ha:PE X a ta)(hb:PE X b tb)(hc:PE X c tc)
   (hm:lastMarks [op,op'] [b,c]=false:=by with_unfolding_all rfl):PE X (.Compare a [op,op'] [b,c] pos) (Bq r r' ta tb tc):=by
 intro pins s σ H Q I h
 refine Compare_chain (thn (ha pins s σ H _ I h) fun v s1 ⟨x,H1,I1,r1,q1⟩=>chain_link (thn (hb pins s1 σ H1 _ I1 q1) fun u s2 ⟨y,H2,I2,r2,q2⟩=>
   thn (ho pins s2 σ H2 x y v u _ I2 r1 r2 q2) fun d s3 ⟨z,H3,I3,r3,k,e,q3⟩=>?_)) hm
 subst e;cases r3;refine W8 ?_;cases k with
 | false=>exact ite_ff ⟨.bl false,H3,I3,rfl,q3⟩
 | true=>exact ite_tt (chain_last (thn (hc pins s3 σ H3 _ I3 q3) fun w' s4 ⟨z',H4,I4,r4,q4⟩=>ho' pins s4 σ H4 y z' u w' Q I4 r2 r4 q4))
theorem Gy (ho:OpR X (G0 op) r)(ho':OpR X (G0 op') r')(ha:PE X a ta)(hb:PE X b tb)(hc:PE X c tc)
   (hm:lastMarks [op,op'] [b,c]=false:=by with_unfolding_all rfl):PT X (.Compare a [op,op'] [b,c] pos) (Bo (Bq r r' ta tb tc)):=by
 intro pins s σ H Q I h
 refine isTrue_chain (thn (ha pins s σ H _ I h) fun v s1 ⟨x,H1,I1,r1,q1⟩=>test_link (thn (hb pins s1 σ H1 _ I1 q1) fun u s2 ⟨y,H2,I2,r2,q2⟩=>
   thn (ho pins s2 σ H2 x y v u _ I2 r1 r2 q2) fun d s3 ⟨z,H3,I3,r3,k,e,q3⟩=>?_)) hm
 subst e;cases r3;refine W8 ?_;cases k with
 | false =>
   obtain⟨k',e',q'⟩:=q3;cases e';exact ite_ff ⟨H3,I3,q'⟩
 | true =>
   refine ite_tt (test_last (thn (hc pins s3 σ H3 _ I3 q3) fun w' s4 ⟨z',H4,I4,r4,q4⟩=>thn (ho' pins s4 σ H4 y z' u w' _ I4 r2 r4 q4) fun d' s5 ⟨z2,H5,I5,r5,k2,e2,q5⟩=>?_));subst e2;cases r5;exact W8 ⟨H5,I5,q5⟩
theorem b9:(B4:Nat) < 2 ^ 63:=by rw [sizeLine_eq];decide
theorem Gz:OpR X (L8 .Add) (fun x y H Q=>∃i j,x=.str i/\y=.str j/\i.length + j.length<=B4/\Q (.str (i++j)) H):=by
 intro pins s σ H x y v u Q I rx ry h;obtain⟨i,j,rfl,rfl,hz,q⟩:=h;obtain⟨t,rfl⟩:=rx;obtain⟨t',rfl⟩:=ry;exact add_str (fun t' tk=>⟨.str (i++j),H,I.tok _,⟨_,rfl⟩,q⟩) hz
theorem U8 (r:Vals [x] us):∃u,us=[u]/\RelV x u:=by
 cases r with
 | cons r1 r2=>cases r2;exact⟨_,rfl,r1⟩
theorem vals2 (r:Vals [x,y] us):∃u w',us=[u,w']/\RelV x u/\RelV y w':=by
 cases r with
 | cons r1 r2 =>
   cases r2 with
   | cons r3 r4=>cases r4;exact⟨_,_,rfl,r1,r3⟩
theorem Dh:G5 X (.builtin "abs") (fun xs H Q=>∃i,xs=[.int i]/\Q (.int (if i < 0 then -i else i)) H):=by
 intro pins s σ H xs us Q I r h;obtain⟨i,rfl,q⟩:=h;obtain⟨u,rfl,t,rfl⟩:=U8 r;exact call_abs_int fun u tk=>⟨.int (if i < 0 then -i else i),H,I.tok _,⟨_,rfl⟩,q⟩
theorem GA (hc:X.calm=true):G5 X (.builtin "max") (fun xs H Q=>∃i j,xs=[.int i,.int j]/\Q (.int (if j > i then j else i)) H):=by
 intro pins s σ H xs us Q I r h;obtain⟨i,j,rfl,q⟩:=h;obtain⟨u,w',rfl,⟨t,rfl⟩,⟨t',rfl⟩⟩:=vals2 r;refine max_two_ints (I.ok.hd hc) fun h' tk k=>⟨_,H,I.kept k,?_,q⟩
 by_cases hj:j > i
 · rw [if_pos hj,if_pos hj];exact⟨_,rfl⟩
 · rw [if_neg hj,if_neg hj];exact⟨_,rfl⟩
theorem GB (hc:X.calm=true):G5 X (.builtin "min") (fun xs H Q=>∃i j,xs=[.int i,.int j]/\Q (.int (if j < i then j else i)) H):=by
 intro pins s σ H xs us Q I r h;obtain⟨i,j,rfl,q⟩:=h;obtain⟨u,w',rfl,⟨t,rfl⟩,⟨t',rfl⟩⟩:=vals2 r;refine min_two_ints (I.ok.hd hc) fun h' tk k=>⟨_,H,I.kept k,?_,q⟩
 by_cases hj:j < i
 · rw [if_pos hj,if_pos hj];exact⟨_,rfl⟩
 · rw [if_neg hj,if_neg hj];exact⟨_,rfl⟩
theorem GC:G5 X (.type "int") (fun xs H Q=>(∃i,xs=[.int i]/\Q (.int i) H)\/∃k,xs=[.bl k]/\Q (.int (if k then 1 else 0)) H):=by
 intro pins s σ H xs us Q I r h;rcases h with⟨i,rfl,q⟩ | ⟨k,rfl,q⟩
 · obtain⟨u,rfl,t,rfl⟩:=U8 r;exact call_int_int ⟨.int i,H,I,⟨_,rfl⟩,q⟩
 · obtain⟨u,rfl,r1⟩:=U8 r;cases r1;exact call_int_bool ⟨.int (if k then 1 else 0),H,I.tok _,⟨_,rfl⟩,q⟩
end
structure ObjM (h:Heap)(x dx C:Addr)(mA:Str->Option Value):Prop where
 obj:h.get? x=some (PySem.W.instObj C dx)
 ns:h.Ns1 dx mA
 ne:dx≠x
theorem GE {h:Heap}(n:h.Ns1 dx mA):∃od,h.get? dx=some od/\∀name,PySem.W.lookIn name od=some (mA name):=by
 obtain⟨o,es,ep,ho,hd,hk,_,hm⟩:=n;refine⟨o,ho,fun name=>?_⟩;have e:=hm name;unfold nsFind findBy at e;rw [<- Array.find?_toList] at e;unfold PySem.W.lookIn;rw [hd];dsimp only
 split
 · grind
 · rename_i q;rw [q] at e
   have a:es.toList.any (·.refKey)=false:=by
     rw [List.any_eq_false];intro y hy;obtain⟨z,t,hkey⟩:=hk y (Array.mem_toList_iff.mp hy);simp [DictEntry.refKey,hkey]
   have a':¬es.toList.any (·.refKey)=true:=by rw [a];exact M3
   rw [if_neg a'];exact congrArg some e
theorem ObjM.look (I:ObjM h x dx C mA):∃od,PySem.W.InstAt h x (PySem.W.instObj C dx) C (some od)/\∀name,PySem.W.lookIn name od=some (mA name):=
 let ⟨od,ho,hl⟩:=GE I.ns
 ⟨od,⟨I.obj,rfl,rfl,ho⟩,hl⟩
section
variable {P:C6}{w:World}{H H':Hp}{h h':Heap}{a C dx:Addr}{fs fs':List (Str×V)}
theorem GF (hok:HOk P w H h)(e:H a=some (.ins C dx fs)):∃mA,ObjM h a dx C mA/\(∀f,RelO (fs.lookup f) (mA f))/\PySem.Within mA (fs.map (·.1))/\fs.length<=1000/\H dx=some (.own a):=by
 obtain⟨d,z,ne,ob,mA,n,r,q⟩:=(show E6 P w H h a (.ins C dx fs) from hok a _ e);exact⟨mA,⟨ob,n,ne⟩,r,q,z,d⟩
end
structure Cls (K:A3)(C:Addr):Prop where
 pg:PySem.W.plainGet K C Str.empty=true
 hd:PySem.W.hasDictIn K C=true
 po:PySem.W.plainOver K C=true
 sa:PySem.W.findIn K (.ref C) "__setattr__"=some (some (.builtin "object.__setattr__"))
theorem Cls.get {K:A3}(c:Cls K C)(f:Str):PySem.W.plainGet K C f=true:=c.pg
section
variable {X:Cx}{pins:List (Addr×Obj)}{σ:St}{H:Hp}{s:Shared}{A:Around}{E:Value->Shared->Prop}{Q:Value->Shared->Prop}{c:Value}{b:Bool}
inductive TyOf (K:A3)(H:Hp):V->Value->Prop where
 | non:TyOf K H .non (.type "NoneType")
 | bl (x:Bool):TyOf K H (.bl x) (.type "bool")
 | int (i:Int):TyOf K H (.int i) (.type "int")
 | str (x:Str):TyOf K H (.str x) (.type "str")
 | flt (x:UInt64):TyOf K H (.flt x) (.type "float")
 | lst {a:Addr} {xs:List V} (e:H a=some (.lst xs)):TyOf K H (.ref a) (.type "list")
 | frz {a:Addr} {o:Obj} {xs:List V} (e:H a=some (.frz o (.lst xs))):TyOf K H (.ref a) (.type "list")
 | tup {a:Addr} {xs:List V} (e:H a=some (.tup xs)):TyOf K H (.ref a) (.type "tuple")
 | dK {a:Addr} {kvs:List (Key×V)} (e:H a=some (.dK kvs)):TyOf K H (.ref a) (.type "dict")
 | dT {a:Addr} {kvs:List (List Key×V)} (e:H a=some (.dT kvs)):TyOf K H (.ref a) (.type "dict")
 | ins {a C dx:Addr} {fs:List (Str×V)} (e:H a=some (.ins C dx fs)) (cl:Cls K C) (ha:PySem.W.findIn K (.ref C) "__class__"=some (some (.builtin "object.__class__")))
     (hn:PySem.W.specialIn K (.builtin "object.__class__") "__get__"=some (some (.builtin "getset_descriptor.__get__"))) (htk:PySem.W.takesIn K (.builtin "object.__class__")=some true)
     (hm:PySem.W.mroIn K C (.type "object")=some true):TyOf K H (.ref a) (.ref C)
theorem GG (I:Inv X pins σ H s)(rx:RelV x u)(ty:TyOf X.K H x t)(e:i4 X.K t c=some b)(h:∀tk,Q (.bool b) { s with toks:=tk }) :
   wpAny (model X.prog X.w) A (call (.builtin "isinstance") [u,c]) Q E s:=by
 cases ty with
 | non=>cases(show u=O8 from rx);exact O2 PySem.W.kitx_none I.kIn True.intro e (fun z=>nomatch z) h
 | bl y=>cases(show u=Value.bool y from rx);exact O2 PySem.W.kitx_bool I.kIn True.intro e (fun z=>nomatch z) h
 | int i=>obtain⟨t,q⟩:=(show ∃t,u=Value.int i t from rx);cases q;exact O2 PySem.W.kitx_int I.kIn True.intro e (fun z=>nomatch z) h
 | str y=>obtain⟨t,q⟩:=(show ∃t,u=Value.str y t from rx);cases q;exact O2 PySem.W.kitx_str I.kIn True.intro e (fun z=>nomatch z) h
 | flt y=>obtain⟨t,q⟩:=(show ∃t,u=Value.float y t from rx);cases q;exact O2 PySem.W.kitx_float I.kIn True.intro e (fun z=>nomatch z) h
 | @lst a xs ea =>
   cases(show u=K3 a from rx);obtain⟨_,_,n,_,h1⟩:=(show E6 X.prog X.w H s.heap a (.lst xs) from I.hok a _ ea);exact O2 PySem.W.kitx_list I.kIn ⟨_,h1,rfl⟩ e (fun z=>nomatch z) h
 | @frz a ob xs ea =>
   cases(show u=K3 a from rx);obtain⟨_,_,_,n,_,h1⟩:=(show E6 X.prog X.w H s.heap a (.frz ob (.lst xs)) from I.hok a _ ea);exact O2 PySem.W.kitx_list I.kIn ⟨_,h1,rfl⟩ e (fun z=>nomatch z) h
 | @tup a xs ea =>
   cases(show u=K3 a from rx);obtain⟨_,_,_,p⟩:=(show E6 X.prog X.w H s.heap a (.tup xs) from I.hok a _ ea);obtain⟨o,h1,h2,_⟩:=p;exact O2 PySem.W.kitx_tuple I.kIn ⟨o,h1,(k7 h2).1⟩ e (fun z=>nomatch z) h
 | @dK a kvs ea =>
   cases(show u=K3 a from rx);obtain⟨_,_,vs,_,p⟩:=(show E6 X.prog X.w H s.heap a (.dK kvs) from I.hok a _ ea);obtain⟨o,es,ep,h1,h2,_⟩:=p;exact O2 PySem.W.kitx_dict I.kIn ⟨o,h1,h2.1⟩ e (fun z=>nomatch z) h
 | @dT a kvs ea =>
   cases(show u=K3 a from rx);obtain⟨_,_,xs,_,o,es,ep,h1,h2,_⟩:=(show E6 X.prog X.w H s.heap a (.dT kvs) from I.hok a _ ea);exact O2 PySem.W.kitx_dict I.kIn ⟨o,h1,h2.1⟩ e (fun z=>nomatch z) h
 | @ins a C dx fs ea cl ha hn htk hm =>
   cases(show u=K3 a from rx);obtain⟨mA,O,_⟩:=GF I.hok ea;obtain⟨od,J,_⟩:=O.look;exact O2 (PySem.W.kitx_own (cl.get _) cl.hd ha hn htk hm) I.kIn J e (fun z=>nomatch z) h
end
structure Room (k:Nat)(A:Around):Prop where
 hd:A.handled=none
 dp:A.depth + 3 * k + 5 < recursionLimit
 un:A.units + 16 * k + 200 < cLine
 gd:A.guards=some []
theorem Room.mono (r:Room k A)(h:j<=k):Room j A:=⟨r.hd,by have:=r.dp;omega,by have:=r.un;omega,r.gd⟩
theorem Room.deeper (r:Room (k + 1) A)(env:Env):Room k (A.deeper env):=
 ⟨r.hd,by have:=r.dp;show A.depth + 1 + 3 * k + 5 < _;omega,by have:=r.un;show A.units + 3 + 16 * k + 200 < _;omega,r.gd⟩
theorem Room.depth (r:Room k A):A.depth < recursionLimit:=by have:=r.dp;omega
theorem Room.units (r:Room k A):A.units + 64 < cLine:=by have:=r.un;omega
def tNil:TA:=fun _ H Q=>Q [] H
def Q3 (ta:TE)(tr:TA):TA:=fun σ H Q=>ta σ H fun x H1=>tr σ H1 fun xs H2=>Q (x::xs) H2
section
variable {X:Cx}{e:Expr}{es:List Expr}{te:TE}{t:TA}{pos:Pos}
theorem E3:PA X [] tNil:=fun _ _ _ _ H Q I h=>Calls.spliced_nil ⟨[],H,I,.nil,h⟩
theorem C7 (ha:PE X e te)(hr:PA X es t)(hs:C3 (e::es) X.env=(false,eval e X.env)::C3 es X.env:=by rfl):PA X (e::es) (Q3 te t):=by
 intro pos pins s σ H Q I h;rw [hs];show wpAny _ _ (spliced ((false,eval e X.env)::backTo pos (C3 es X.env))) _ _ s;refine Calls.spliced_cons (thn (ha pins s σ H _ I h) fun u s1 ⟨x,H1,I1,r1,q1⟩=>?_);exact thn (hr pos pins s1 σ H1 _ I1 q1) fun us s2 ⟨xs,H2,I2,r2,q2⟩=>⟨x::xs,H2,I2,.cons r1 r2,q2⟩
def tTup (t:TA):TE:=fun σ H Q=>t σ H fun xs H1=>xs.length<=B4/\∀p,H1 p=none->Q (.ref p) (upd H1 p (.tup xs))
def tLst (t:TA):TE:=fun σ H Q=>t σ H fun xs H1=>xs.length<=B4/\∀p,H1 p=none->Q (.ref p) (upd H1 p (.lst xs))
theorem Di {x1}(h:PA X es t):PE X (.Tuple es x1 pos) (tTup t):=by
 intro pins s σ H Q I hq;refine wpAny_Tuple_spliced (thn (h pos pins s σ H _ I hq) fun us s1 ⟨xs,H1,I1,r,z,q⟩=>⟨by rw [<- r.length];exact z,?_⟩);have hf:H1 s1.heap.objs.size=none:=I1.hok.fresh (A8 _);refine⟨.ref s1.heap.objs.size,upd H1 s1.heap.objs.size (.tup xs),I1.laid (t':=s1.toks) (fun b u e=>B5 _ e) (A8 _) ?_,rfl,q _ hf⟩;exact⟨z,us,r,⟨_,D8 _ rfl,rfl,_,rfl⟩⟩
theorem Dj (h:PA X es t):PE X (.List es pos) (tLst t):=by
 intro pins s σ H Q I hq;refine wpAny_List_spliced (thn (h pos pins s σ H _ I hq) fun us s1 ⟨xs,H1,I1,r,z,q⟩=>⟨by rw [<- r.length];exact z,?_⟩);have hf:H1 s1.heap.objs.size=none:=I1.hok.fresh (A8 _);refine⟨.ref s1.heap.objs.size,upd H1 s1.heap.objs.size (.lst xs),I1.laid (t':=s1.toks) (fun b u e=>B5 _ e) (A8 _) ?_,rfl,q _ hf⟩;exact⟨z,us,0,r,D8 _ rfl⟩
end
abbrev Sp:=List V->Hp->VK->XK->Prop
abbrev CXT:=List Env->Hp->Shared->XK->Value->Shared->Prop
structure Env0 (P:C6)(w:World)(K:A3)(mg:Str->Option Value)(base:Heap)(A:Around)(outer:List Env)(s:Shared)(H:Hp):Prop where
 frames:A.frames=some outer
 mod:Mod K mg base
 bs:∀b o,base.get? b=some o->s.heap.get? b=some o/\H b=none
 bsz:base.objs.size<=s.heap.objs.size
 funs:s.heap.FunFrames base outer
 frf:∀b∈frs outer,H b=none
 hok:HOk P w H s.heap
 bare:AllBare s.gens
 nos:NS H
def CE (outer:List Env)(P:C6)(w:World)(H:Hp)(s:Shared)(Q:VK)(u:Value)(s':Shared):Prop:=
 ∃v H',s'.os=s.os/\AllBare s'.gens/\Un (frs outer) [] H H' s.heap s'.heap/\HOk P w H' s'.heap/\RelV v u/\Q v H'
def CR (CX:CXT)(outer:List Env)(P:C6)(w:World)(H:Hp)(s:Shared)(Q:VK)(E:XK)(r:Result)(s':Shared):Prop:=
 match r with
 | .ok (.ret u)=>CE outer P w H s Q u s'
 | .ok _=>False
 | .error e=>CX outer H s E e s'
structure FnOk (P:C6)(w:World)(K:A3)(mg:Str->Option Value)(base:Heap)(CX:CXT)(k:Nat)(f:Addr)(fd:FuncData)(ps:List Str)(sp:Sp):Prop where
 len:∀vs H Q E,sp vs H Q E->vs.length=ps.length
 run:∀(A:Around) (outer:List Env) (s:Shared) (H:Hp) (args:Args) (us:List Value) (vs:List V) (Q:VK) (E:XK),Room k A->Env0 P w K mg base A outer s H->BindsTo s fd args (ps.zip us)->Vals vs us->sp vs H Q E->
   J8 (model P w) A (.call (.ref f) args) (CR CX outer P w H s Q E) s
theorem FnOk.imp {K:A3}(F:FnOk P w K mg base CX k f fd ps sp)
   (h:∀vs H Q E,sp' vs H Q E->sp vs H Q E):FnOk P w K mg base CX k f fd ps sp':=
 ⟨fun vs H Q E q=>F.len vs H Q E (h _ _ _ _ q),fun A outer s H args us vs Q E hr he hb hv hs=>F.run A outer s H args us vs Q E hr he hb hv (h _ _ _ _ hs)⟩
section
variable {X:Cx}{pins:List (Addr×Obj)}{σ:St}{H:Hp}{s s':Shared}
theorem Inv.env0 (I:Inv X pins σ H s):Env0 X.prog X.w X.K X.mg X.base X.A X.stack s H:=
 ⟨I.ok.frames,I.ok.mod,I.bs,D7 I.ok.bsz I.sz,I.stack,I.stkFree,I.hok,I.bare,I.nos⟩
theorem Inv.after (I:Inv X pins σ H s)(h:CE X.stack X.prog X.w H s Q u s'):EP X pins σ Q u s':=by
 obtain⟨v,H',os,bare,un,hok,r,q⟩:=h;obtain⟨hh,g,d,t,os'⟩:=s';obtain rfl:os'=s.os:=os;exact⟨v,H',I.call (h':=hh) (g':=g) (d':=d) (t':=t) (ch:=[]) un hok bare (fun b z=>absurd z (by simp)),r,q⟩
end
def tCall (sp:Sp)(dvs:List V)(E:XK)(t:TA):TE:=fun σ H Q=>t σ H fun vs H1=>sp (vs++dvs) H1 Q E
def c5 (K:A3)(fd:FuncData)(ps:List Str)(ds:List Value):Prop:=
 ∀(s:Shared) (us:List Value),K.In s.heap->(us++ds).length=ps.length->BindsTo s fd ⟨us,[]⟩ (ps.zip (us++ds))
theorem c5.all {K:A3}(h:∀us:List Value,us.length=ps.length->bindArgs fd ⟨us,[]⟩=pure (ps.zip us)):c5 K fd ps []:=fun s us _ hl=>by
 rw [y3] at hl ⊢;exact .of_eq (h us hl)
def Br (CX:CXT)(X:Cx)(E:XK):Prop:=∀(pins:List (Addr×Obj)) (σ:St) (H:Hp) (s:Shared) (e:Value) (s':Shared),Inv X pins σ H s->CX X.stack H s E e s'->X.xe e s'
section
variable {X:Cx}{CX:CXT}{k:Nat}{f C:Addr}{fd:FuncData}{ps:List Str}{sp:Sp}{dvs:List V}{ds:List Value}{E:XK}{x m:Str}{p pos apos:Pos}{e o:Expr}{es:List Expr}{ta:TE}{t:TA}
theorem run_fn (F:FnOk X.prog X.w X.K X.mg X.base CX k f fd ps sp)(hr:Room k X.A)(hb:c5 X.K fd ps ds)(hd:Vals dvs ds)(hx:Br CX X E)
   (I:Inv X pins σ H s) (r:Vals vs us) (h:sp (vs++dvs) H Q E):wpAny (model X.prog X.w) X.A (call (.ref f) us) (EP X pins σ Q) X.xe s:=by
 have r2:Vals (vs++dvs) (us++ds):=r.append hd;have hl:(us++ds).length=ps.length:=by rw [<- r2.length];exact F.len _ _ _ _ h
 refine wpAny_call (codeAny_mono (F.run X.A X.stack s H ⟨us,[]⟩ (us++ds) (vs++dvs) Q E hr I.env0 (hb s us I.kIn hl) r2 h) fun r s' hq=>?_);cases r with
 | error e=>exact hx pins σ H s e s' I hq
 | ok fl =>
   cases fl with
   | ret u=>exact I.after hq
   | next=>exact P8 hq
   | brk=>exact P8 hq
   | cont=>exact P8 hq
theorem GH (F:FnOk X.prog X.w X.K X.mg X.base CX k f fd ps sp)(hr:Room k X.A)(hg:Gl X x)(hm:X.mg x=some (.ref f))(hk:i5 X.K (.ref f)=true)(hb:c5 X.K fd ps ds)(hd:Vals dvs ds)(hx:Br CX X E)
   (ha:PA X (e::es) t) (hdb:(x == ("__debug__":Str))=false:=by decide) (he:C3 (e::es) X.env=(false,eval e X.env)::C3 es X.env:=by rfl) (hpl:(backTo pos (C3 es X.env)).any (·.1)=false:=by rfl) :
   PE X (.Call (.Name x p) (e::es) [] pos) (tCall sp dvs E t):=by
 intro pins s σ H Q I h;refine wpAny_Call_Name_kw (CY I hg hm ?_ hdb);refine PySem.W.callWith_K (h₀:=X.base) I.ok.mod.kin hk (thn (ha pos pins s σ H _ I h) fun us s1 ⟨vs,H1,I1,r,q⟩=>⟨I1.kIn,?_⟩) he hpl;exact run_fn F hr hb hd hx I1 r q
end
def PK (X:Cx)(kws:List Keyword)(t:TA):Prop:=
 ∀(pos:Pos) (pins:List (Addr×Obj)) (s:Shared) (σ:St) (H:Hp) (Q:List V->Hp->Prop),Inv X pins σ H s->t σ H Q->wpAny (model X.prog X.w) X.A (evalAll ((backToKw pos (keywordEach kws X.env)).map (·.2))) (AP X pins σ Q) X.xe s
structure P2 (N P:List Str)(sc:Scope):Prop where
 kind:sc.kind=.function
 co:sc.isCoroutine=false
 gen:sc.isGenerator=false
 nd:N.Nodup
 pre:N.take P.length=P
 par:∀x∈P,sc.names.lookup x=some .local\/sc.names.lookup x=some .cell
 nofree:∀y∈sc.names,y.2≠.free
theorem Dk {kindOf:Str->Option NameKind}:∀{binds:List (Str×Value)} {m:Str->Option Value},(∀v,(x,v)∉binds)->bindL kindOf binds m x=m x
 | [],_,_=>rfl
 | (n, v) :: r, m, h => by
   unfold bindL;rw [Dk fun w hw=>h w (D0 _ hw)]
   split
   · have:x≠n:=by rintro rfl;exact h v E2
     simp [this]
   · rfl
theorem Dl {kindOf:Str->Option NameKind}:∀{binds:List (Str×Value)} {m:Str->Option Value},(∀v,(x,v)∉binds)->bindC kindOf binds m x=m x
 | [],_,_=>rfl
 | (n, v) :: r, m, h => by
   unfold bindC;rw [Dl fun w hw=>h w (D0 _ hw)]
   split
   · rfl
   · have:x≠n:=by rintro rfl;exact h v E2
     simp [this]
theorem Dm {kindOf:Str->Option NameKind}:∀{P:List Str} {vs:List Value} {i:Nat} {m:Str->Option Value},P.Nodup->P[i]?=some x->vs[i]?=some v->kindOf x=some .local->
   bindL kindOf (P.zip vs) m x=some v
 | [],_,_,_,_,h,_,_=>by simp at h
 | _::_,[],_,_,_,_,h,_=>by simp at h
 | p :: P, w :: vs, 0, m, nd, h1, h2, hk => by
   simp at h1 h2;subst h1;subst h2;show bindL kindOf ((p,w)::P.zip vs) m p=_;unfold bindL;rw [Dk fun v hv=>(O5.mp nd).1 (List.of_mem_zip hv).1,if_pos hk];simp
 | p :: P, w :: vs, i + 1, m, nd, h1, h2, hk => by
   show bindL kindOf ((p,w)::P.zip vs) m x=_;unfold bindL;exact Dm (i:=i) (O5.mp nd).2 (by simpa using h1) (by simpa using h2) hk
theorem Dn {kindOf:Str->Option NameKind}:∀{P:List Str} {vs:List Value} {i:Nat} {m:Str->Option Value},P.Nodup->P[i]?=some x->vs[i]?=some v->kindOf x≠some .local->
   bindC kindOf (P.zip vs) m x=some v
 | [],_,_,_,_,h,_,_=>by simp at h
 | _::_,[],_,_,_,_,h,_=>by simp at h
 | p :: P, w :: vs, 0, m, nd, h1, h2, hk => by
   simp at h1 h2;subst h1;subst h2;show bindC kindOf ((p,w)::P.zip vs) m p=_;unfold bindC;rw [Dl fun v hv=>(O5.mp nd).1 (List.of_mem_zip hv).1,if_neg hk];simp
 | p :: P, w :: vs, i + 1, m, nd, h1, h2, hk => by
   show bindC kindOf ((p,w)::P.zip vs) m x=_;unfold bindC;exact Dn (i:=i) (O5.mp nd).2 (by simpa using h1) (by simpa using h2) hk
def N7 (N:List Str)(vs:List V):St:=vs.map some++Z8 (N.length - vs.length) none
def cxOf (CX:CXT)(P:C6)(w:World)(K:A3)(mg:Str->Option Value)(base:Heap)(N:List Str)(qual:Str)(scope:Scope)(f:Addr)(cd:Value)(A:Around)(outer:List Env)(s:Shared)(H:Hp)(E:XK):Cx where
 prog:=P
 w:=w
 K:=K
 mg:=mg
 base:=base
 A:=A.deeper (envOfC qual scope s.heap.objs.size f cd)
 N:=N
 s₀:=s
 H₀:=H
 env:=envOfC qual scope s.heap.objs.size f cd
 outer:=outer
 stack:=envOfC qual scope s.heap.objs.size f cd::outer
 ex:=[]
 calm:=true
 fn:=fun _=>true
 pn:=[]
 xe:=fun e s'=>wpAny (model P w) (A.deeper (envOfC qual scope s.heap.objs.size f cd)) (leaving (envOfC qual scope s.heap.objs.size f cd) e) (fun _ s''=>CX outer H s E e s'') (fun e' s''=>CX outer H s E e' s'') s'
theorem Do {sc:Scope}(h:sc.names.lookup x=some .cell):∃c,(J7 n sc.names []).lookup x=some c:=by
 have q:=PySem.W.cellsFrom_some sc.names n [] (.inl h);exact U5.mp q
theorem GI {K:A3}
   (S:P2 N ps scope) (hd:A.handled=none) (e0:Env0 P w K mg base A outer s H) (hl:vs.length=ps.length) (r:Vals vs us)
   (x:InCallC s s.heap.objs.size (bindL (envOfC qual scope s.heap.objs.size f cd).kindOf (ps.zip us) fun _=>none) (J7 (s.heap.objs.size + 1) scope.names []) (bindC (envOfC qual scope s.heap.objs.size f cd).kindOf (ps.zip us) fun _=>none) s1) :
   Inv (cxOf CX P w K mg base N qual scope f cd A outer s H E) [] (N7 N vs) H s1:=by
 have hpl:ps.length<=N.length:=by have:=congrArg List.length S.pre;rw [X3] at this;omega
 obtain⟨h1,tk,rfl,hk⟩:=x.done;have noA:∀b:Addr,b∉(cxOf CX P w K mg base N qual scope f cd A outer s H E).ex:=fun b z=>absurd (show b∈([]:List Addr) from z) (by simp)
 refine⟨⟨e0.mod,S.kind,rfl,rfl,A8 _,fun y z c h1 h2=>?_,fun y hy=>?_,fun y c _ h=>?_,fun _=>hd,Around.frames_deeper e0.frames,.inr ⟨rfl,rfl⟩,fun b z=>absurd z (noA b),e0.bs,e0.bsz,fun b _ _=>noA b,fun b z=>absurd z (noA b),e0.funs,e0.frf,e0.nos⟩,
   rfl,e0.bare,Un.kept hk,⟨_,x.toInCall.ns,fun i y v h1 h2 h3=>?_⟩,fun y c h=>⟨_,x.cell y c h⟩,e0.hok.fresh (A8 _),fun y c h=>?_,fun p hp=>absurd (show p∈([]:List (Addr×Obj)) from hp) (by simp),e0.hok.kept hk,?_⟩
 · exact name_of_addr x.apart (N0 h1) (N0 h2)
 · have hy:scope.names.lookup y=some .cell\/scope.names.lookup y=some .free:=hy;rcases hy with hy | hy
   · exact Do hy
   · exact absurd rfl (S.nofree _ (N0 hy))
 · exact Nat.le_of_lt (x.above y c (N0 h))
 · have hi:i < vs.length:=by
     unfold N7 at h2
     by_cases hi:i < vs.length
     · exact hi
     · rw [T9 (by simpa using hi)] at h2;rw [AQ] at h2
       split at h2 <;> cases h2
   have ha:vs[i]?=some v:=by
     unfold N7 at h2;rw [U1 (by simpa using hi),F2] at h2;cases e:vs[i]? with
     | none=>rw [e] at h2;cases h2
     | some a=>rw [e] at h2;cases h2;rfl
   obtain⟨u,hu,rv⟩:=r.get ha
   have hp:ps[i]?=some y:=by
     rw [<- S.pre,List.getElem?_take_of_lt (by omega)];exact h1
   have ndP:ps.Nodup:=by rw [<- S.pre];exact S.nd.sublist (List.take_sublist _ _)
   refine⟨u,rv,?_⟩;rcases S.par y (N3 hp) with k | k
   · exact .inl ⟨k,Dm ndP hp hu k⟩
   · obtain⟨c,e⟩:=Do (n:=s.heap.objs.size + 1) k;refine .inr ⟨.inl k,c,e,?_⟩;have q:=x.cell y c e;rw [Dn ndP hp hu (by show scope.names.lookup y≠_;rw [k];decide)] at q;exact q
 · exact e0.hok.fresh (Nat.le_of_lt (x.above y c (N0 h)))
 · unfold N7;show _=N.length;rw [K8,B8,AT];omega
theorem fn_of {K:A3}{dV kV doc pm cdv ct oc:Value}
 (lk:K.lookup f=some ⟨oc,od,.func (M9 name qual params body scope dV kV doc pm an cdv ct),osl⟩) (hcd:v4 K cdv qual=true) (S:P2 N ps scope)
   (len:∀vs H Q E,sp vs H Q E->vs.length=ps.length)
   (hbody:∀(A:Around) (outer:List Env) (s:Shared) (H:Hp) (vs:List V) (Q:VK) (E:XK),Room k (A.deeper (envOfC qual scope s.heap.objs.size f cdv))->sp vs H Q E->
     ∃t,PSs (cxOf CX P w K mg base N qual scope f cdv A outer s H E) body t/\t { nx:=fun _ H'=>Q .non H',rt:=Q } (N7 N vs) H) :
   FnOk P w K mg base CX (k + 1) f (M9 name qual params body scope dV kV doc pm an cdv ct) ps sp:=by
 refine⟨len,fun A outer s H args us vs Q E hr e0 hb r hsp=>?_⟩;have hl:=len _ _ _ _ hsp;have KX:K.In s.heap:=e0.mod.kin.keeps fun b o e=>(e0.bs b o e).1;have lim:s.heap.NoLimit:=e0.mod.nolimit.keeps fun b o e=>(e0.bs b o e).1
 have hkind:∀y∈ps.zip us,scope.names.lookup y.1=some .local\/(scope.names.lookup y.1=some .cell/\((J7 (s.heap.objs.size + 1) scope.names []).lookup y.1).isSome=true):=fun⟨n,v⟩ hy=>by
   rcases S.par n (List.of_mem_zip hy).1 with q | q
   · exact .inl q
   · exact .inr ⟨q,PySem.W.cellsFrom_some _ _ _ (.inl q)⟩
 refine codeAny_call_function hr.depth (KX _ _ lk) rfl S.co S.gen rfl (PySem.W.codeRec_of KX hcd) (hb _ _ _ _ ?_);refine wpAny_newFunctionEnv_cells S.kind hkind fun env he s1 x=>?_;subst he;refine⟨lim.keeps x.toInCall.keep,codeAny_func ?_⟩;obtain⟨t,ht,hq⟩:=hbody A outer s H vs Q E (hr.deeper _) hsp;have I:Inv (cxOf CX P w K mg base N qual scope f cdv A outer s H E) [] (N7 N vs) H s1:=GI S hr.hd e0 hl r x;refine E9 (ht [] s1 (N7 N vs) H _ I hq) (fun fl s' hs=>?_) fun e s' hs=>hs
 have fin:∀{σ':St} {H':Hp} {v:V} {u:Value},Inv (cxOf CX P w K mg base N qual scope f cdv A outer s H E) [] σ' H' s'->RelV v u->Q v H'->CE outer P w H s Q u s':=
   fun {σ' H' v u} J rv q=>⟨v,H',J.os,J.bare,J.base,J.hok,rv,q⟩
 cases fl with
 | ret u =>
   obtain⟨v,σ',H',J,rv,q⟩:=hs;exact fin J rv q
 | next =>
   obtain⟨σ',H',J,q⟩:=hs;exact fin (v:=V.non) (u:=O8) J rfl q
 | brk =>
   obtain⟨_,_,_,q⟩:=hs;exact P8 q
 | cont =>
   obtain⟨_,_,_,q⟩:=hs;exact P8 q
section
variable {X:Cx}{x:Str}{p pos:Pos}{e:Expr}{es:List Expr}{t:TA}{id T:String}{r:List V->Hp->VK->Prop}
def tCB (r:List V->Hp->VK->Prop)(t:TA):TE:=fun σ H Q=>t σ H fun vs H1=>r vs H1 Q
theorem U9 (hc:G5 X (.builtin id) r)(hg:Gl X x)(hm:X.mg x=none)(hv:E5 x=some (.builtin id))(ha:PA X (e::es) t)(hn:x≠"__name__":=by decide)(hdb:(x == ("__debug__":Str))=false:=by decide)
   (he:C3 (e::es) X.env=(false,eval e X.env)::C3 es X.env:=by rfl) (hpl:(backTo pos (C3 es X.env)).any (·.1)=false:=by rfl):PE X (.Call (.Name x p) (e::es) [] pos) (tCB r t):=by
 intro pins s σ H Q I h;refine wpAny_Call_Name_kw (Q1 I hg hm hv ?_ hn hdb);exact PyProof.Rows.callWith_builtin1 (thn (ha pos pins s σ H _ I h) fun us s1 ⟨vs,H1,I1,r1,q1⟩=>hc pins s1 σ H1 vs us Q I1 r1 q1) he hpl
theorem Bs (hc:G5 X (.type T) r)(hg:Gl X x)(hm:X.mg x=none)(hv:E5 x=some (.type T))(ha:PA X (e::es) t)(hn:x≠"__name__":=by decide)(hdb:(x == ("__debug__":Str))=false:=by decide)
   (he:C3 (e::es) X.env=(false,eval e X.env)::C3 es X.env:=by rfl) (hpl:(backTo pos (C3 es X.env)).any (·.1)=false:=by rfl):PE X (.Call (.Name x p) (e::es) [] pos) (tCB r t):=by
 intro pins s σ H Q I h;refine wpAny_Call_Name_kw (Q1 I hg hm hv ?_ hn hdb);exact U3 (thn (ha pos pins s σ H _ I h) fun us s1 ⟨vs,H1,I1,r1,q1⟩=>hc pins s1 σ H1 vs us Q I1 r1 q1) he hpl
end
end L2
namespace HT
open PySem PyProof.Rows
section
variable {prog:C6}{w:World}{A:Around}{E:Value->Shared->Prop}{s:Shared}
theorem cat_tup (ht:IsTup s.heap t vs.toArray)(hb:IsTup s.heap b ws.toArray)(hv:vs≠[])
   (h1:ws=[]->Q (.ref t) s) (h2:ws≠[]->Q (.ref s.heap.objs.size) { s with heap:=s.heap.push { cls:=.type "tuple",data:=.seq (vs++ws).toArray } })
   (hsz:vs.length + ws.length<=B4):wpAny (model prog w) A (L8 .Add (.ref t) (.ref b)) Q E s:=by
 obtain⟨⟨cls,dd,data,sl⟩,ho,hc,n,hd⟩:=id ht;obtain⟨⟨cls2,dd2,data2,sl2⟩,ho2,hc2,n2,hd2⟩:=id hb;simp only at hc hd hc2 hd2;subst hc hd hc2 hd2;have e:vs.toArray++ws.toArray=(vs++ws).toArray:=by simp
 by_cases hw:ws=[]
 · exact concat_meets ⟨_,ho,rfl⟩ ⟨_,ho2,rfl⟩ noFill_tuple_add seq_tuple_add Bf Be (Bd _ _)
     (tuple_addW1 t b vs.toArray ws.toArray n n2 dd dd2 sl sl2 (by simpa using hv) (by simp [hw])) ⟨ho,ho2,h1 hw⟩
 · refine concat_meets ⟨_,ho,rfl⟩ ⟨_,ho2,rfl⟩ noFill_tuple_add seq_tuple_add Bf Be (Bd _ _)
     (tuple_addW2 t b vs.toArray ws.toArray n n2 dd dd2 sl sl2 (by simpa using hv) (by simpa using hw) (by rw [D3,D3];exact hsz)) ⟨ho,ho2,?_⟩
   rw [e];exact h2 hw
def sIx (n d:Nat):Option Int->Nat
 | none=>d
 | some v=>if v < 0 then(v + (n:Int)).toNat else min v.toNat n
theorem sIx_none (n d:Nat):sIx n d none=d:=rfl
theorem sIx_nat (n d k:Nat):sIx n d (some (k:Int))=min k n:=by
 show(if(k:Int) < 0 then((k:Int) + (n:Int)).toNat else min (k:Int).toNat n)=min k n;rw [if_neg (by omega),O7]
theorem sIx_le (n d:Nat)(hd:d<=n)(o:Option Int):sIx n d o<=n:=by
 cases o with
 | none=>exact hd
 | some v =>
   show(if v < 0 then(v + (n:Int)).toNat else min v.toNat n)<=n
   by_cases hv:v < 0
   · rw [if_pos hv];omega
   · rw [if_neg hv];exact Nat.min_le_right _ _
theorem Dp (v:Int)(n d:Nat):(if v < 0 then max (v + (n:Int)) 0 else min v (n:Int))=((sIx n d (some v):Nat):Int):=by
 show(if v < 0 then max (v + (n:Int)) 0 else min v (n:Int))=(((if v < 0 then(v + (n:Int)).toNat else min v.toNat n):Nat):Int)
 by_cases hv:v < 0
 · simp only [if_pos hv];omega
 · simp only [if_neg hv];omega
theorem GJ (lo hi:Option Int)(n:Nat):k5 lo hi 1 (n:Int)=(((sIx n 0 lo:Nat):Int),((sIx n n hi:Nat):Int)):=by
 have h1:¬((1:Int) < 0):=by omega
 unfold k5;simp only [h1,if_false];refine Prod.ext ?_ ?_
 · cases lo with
   | none=>rfl
   | some v=>exact Dp v n 0
 · cases hi with
   | none=>rfl
   | some v=>exact Dp v n n
theorem GK (i j:Nat):U4 (i:Int) (j:Int) 1=j - i:=by
 unfold U4;have h1:(1:Int) > 0:=by omega
 simp only [h1,if_true,Int.ediv_one]
 split <;> omega
theorem l5 (p:IsPart v o)(h:Q o s):wpAny (model prog w) A (Builtin.Slice.slicePartIndex v) Q E s:=by
 cases p with
 | none=>exact slicePart_none h
 | int i t=>exact slicePart_int h
theorem Dq {lo hi:Option Int}{n:Nat}{Q:Int×Int×Nat->Shared->Prop}(hs:s.heap.IsSliceOf sl vl vu .none)(pl:IsPart vl lo)(pu:IsPart vu hi)
   (h:Q (((sIx n 0 lo:Nat):Int),1,sIx n n hi - sIx n 0 lo) s):wpAny (model prog w) A (z0 (.ref sl) (pure (n:Int))) Q E s:=by
 obtain⟨os,hos,hcs,hds⟩:=id hs;unfold z0 CS;refine A0 (A0 (F4 hos hds (x:=vl) rfl (A0 (F4 hos hds (x:=vu) rfl (A0 (F4 hos hds (x:=.none) rfl (A4 ?_)))))));refine A0 (slicePart_none ?_);show wpAny _ _ (if((1:Int) == 0)=true then _ else _) _ _ s;rw [if_neg (by decide)];refine A0 (l5 pl (A0 (l5 pu (A0 (A4 ?_)))));show wpAny _ _ (match k5 lo hi 1 (n:Int) with | (lo,hi)=>pure (lo,(1:Int),U4 lo hi 1)) _ _ s;rw [GJ lo hi n];show wpAny _ _ (pure (((sIx n 0 lo:Nat):Int),(1:Int),U4 ((sIx n 0 lo:Nat):Int) ((sIx n n hi:Nat):Int) 1)) _ _ s;rw [GK];exact A4 h
theorem GL (xs:Array Value)(i k:Nat):((B6 k).filterMap fun(m:Nat)=>xs[((i:Int) + (m:Int) * 1).toNat]?).toArray=((xs.toList.drop i).take k).toArray:=by
 have e:(fun(m:Nat)=>xs[((i:Int) + (m:Int) * 1).toNat]?)=fun m=>xs[i + m]?:=by
   funext m
   have:((i:Int) + (m:Int) * 1).toNat=i + m:=by omega
   rw [this]
 rw [e];have:=pick_run xs i k;rw [List.filterMap_map] at this;have e2:((fun x=>xs[x]?)∘fun x=>i + x)=fun m=>xs[i + m]?:=rfl
 grind
theorem getItem_tuple_cut {lo hi:Option Int}(ht:IsTup s.heap t items)(hs:s.heap.IsSliceOf sl vl vu .none)(pl:IsPart vl lo)(pu:IsPart vu hi)
   (hw:¬(sIx items.size 0 lo=0/\sIx items.size items.size hi=items.size))
   (h:Q (.ref s.heap.objs.size) { s with heap:=s.heap.push { cls:=.type "tuple",data:=.seq ((items.toList.drop (sIx items.size 0 lo)).take (sIx items.size items.size hi - sIx items.size 0 lo)).toArray } })
   (hsz:items.size<=B4):wpAny (model prog w) A (getItem (.ref t) (.ref sl)) Q E s:=by
 have htake:sizeOk (.seq ((items.toList.drop (sIx items.size 0 lo)).take (sIx items.size items.size hi - sIx items.size 0 lo)).toArray):=by
   show((items.toList.drop (sIx items.size 0 lo)).take (sIx items.size items.size hi - sIx items.size 0 lo)).toArray.size<=B4;rw [D3,X3,P5,b5];omega
 have hj:sIx items.size items.size hi<=items.size:=sIx_le _ _ (A8 _) hi;obtain⟨os,hos,hcs,hds⟩:=id hs;have hTs:s.TypeIs (.ref sl) "slice":=⟨os,hos,hcs⟩;unfold getItem
 try with_reducible refine T7 ?_
 first | refine A0 (A4 ?_) | skip
 refine A0 (wpAny_sequenceKey ht.typeIs (by decide) ?_)
 refine A0 (T5 (name:=C0 "__getitem__") ht.typeIs Z9
   (P4 Z9 ht.typeIs entry_tuple_getitem ?_ (args_tuple_getitem _ _)))
 show wpAny _ _ (AZ (.ref t)>>=_) _ _ s;refine A0 (tupleItemsOf_ ht ?_);refine A0 (i8 hTs ?_);rw [if_pos (by decide)];refine A0 (Dq hs pl pu ?_)
 have hno:¬((((sIx items.size 0 lo:Nat):Int) == 0 && (1:Int) == 1 && (sIx items.size items.size hi - sIx items.size 0 lo) == items.size)=true):=by
   intro q;rw [R0,R0] at q;have q1:((sIx items.size 0 lo:Nat):Int)=0:=eq_of_beq q.1.1;have q2:sIx items.size items.size hi - sIx items.size 0 lo=items.size:=eq_of_beq q.2;exact hw ⟨by omega,by omega⟩
 show wpAny _ _ (if(((sIx items.size 0 lo:Nat):Int) == 0 && (1:Int) == 1 && (sIx items.size items.size hi - sIx items.size 0 lo) == items.size)=true then _ else _) _ _ s;rw [if_neg hno,GL]
 first
   | exact A0 (m:=U6 _) (J6 (A4 ⟨_,rfl,A4 h⟩) htake)
   | exact A0 (m:=U6 _) (J6 (A0 (A4 (A4 ⟨_,rfl,A4 h⟩))) htake)
   | exact A0 (A0 (m:=U6 _) (J6 (A4 (A4 ⟨_,rfl,A4 h⟩)) htake))
   | exact A0 (A0 (m:=U6 _) (J6 (A4 ⟨_,rfl,A4 h⟩) htake))
end
end HT
namespace L2
open PySem PySem.Spec PyProof.Rows
abbrev TO:=St->Hp->(Option Int->Hp->Prop)->Prop
def PO (X:Cx)(e:Option Expr)(t:TO):Prop:=
 ∀ (pins : List (Addr × Obj)) (s : Shared) (σ : St) (H : Hp) (Q : Option Int -> Hp -> Prop), Inv X pins σ H s -> t σ H Q ->
   wpAny (model X.prog X.w) X.A (evalPart e X.env) (fun u s'=>∃o H',Inv X pins σ H' s'/\IsPart u o/\Q o H') X.xe s
def GM:TO:=fun _ H Q=>Q none H
def tPart (t:TE):TO:=fun σ H Q=>t σ H fun x H1=>∃i,x=.int i/\Q (some i) H1
section
variable {X:Cx}{e:Expr}{te:TE}{lo hi:Option Expr}{tl th:TO}{pos p2:Pos}
theorem Dr:PO X none GM:=by
 intro pins s σ H Q I h;rw [evalPart_none];exact A4 ⟨none,H,I,.none,h⟩
theorem Ds (h:PE X e te):PO X (some e) (tPart te):=by
 intro pins s σ H Q I hw;rw [evalPart_some];refine thn (h pins s σ H _ I hw) fun u s1 ⟨x,H1,I1,r1,q1⟩=>?_;obtain⟨i,rfl,q⟩:=q1;obtain⟨t,rfl⟩:=r1;exact⟨some i,H1,I1,.int i t,q⟩
def SlR (X:Cx)(r:V->Option Int->Option Int->Hp->VK->Prop):Prop:=
 ∀ (pins : List (Addr × Obj)) (s : Shared) (σ : St) (H : Hp) (x : V) (v vl vu : Value) (lo hi : Option Int) (sl : Addr) (Q : VK), Inv X pins σ H s -> RelV x v -> s.heap.IsSliceOf sl vl vu .none -> IsPart vl lo -> IsPart vu hi -> r x lo hi H Q ->
   ∃T id,typeLookup (.type T) "__getitem__"=pure (some (.builtin id))/\s.TypeIs v T/\wpAny (model X.prog X.w) X.A (getItem v (.ref sl)) (EP X pins σ Q) X.xe s
theorem SlR.or (h:SlR X r)(h':SlR X r'):SlR X (fun x lo hi H Q=>r x lo hi H Q\/r' x lo hi H Q):=by
 intro pins s σ H x v vl vu lo hi sl Q I rx hs pl pu q;rcases q with q | q
 · exact h pins s σ H x v vl vu lo hi sl Q I rx hs pl pu q
 · exact h' pins s σ H x v vl vu lo hi sl Q I rx hs pl pu q
def tSl (r:V->Option Int->Option Int->Hp->VK->Prop)(te:TE)(tl th:TO):TE:=fun σ H Q=>te σ H fun x H1=>tl σ H1 fun l H2=>th σ H2 fun u H3=>r x l u H3 Q
theorem Dt (hr:SlR X r)(he:PE X e te)(hl:PO X lo tl)(hu:PO X hi th):PE X (.Subscript e (.Slice lo hi none p2) pos) (tSl r te tl th):=by
 intro pins s σ H Q I h;refine Subscript_ (thn (he pins s σ H _ I h) fun v s1 ⟨x,H1,I1,r1,q1⟩=>?_);refine wpAny_Slice (thn (hl pins s1 σ H1 _ I1 q1) fun vl s2 ⟨l,H2,I2,pl,q2⟩=>thn (hu pins s2 σ H2 _ I2 q2) fun vu s3 ⟨u,H3,I3,pu,q3⟩=>?_);rw [evalPart_none];refine A4 ?_;have I4:Inv X pins σ H3 { s3 with heap:=s3.heap.push { cls:=.type "slice",data:=.fields #[vl,vu,.none] } }:=I3.kept (t':=s3.toks) fun b ob q=>B5 _ q;obtain⟨T,id,hT,ht,hg⟩:=hr pins { s3 with heap:=s3.heap.push { cls:=.type "slice",data:=.fields #[vl,vu,.none] } } σ H3 x v vl vu l u s3.heap.objs.size Q I4 r1 (Bh ..) pl pu q3;show wpAny (model X.prog X.w) X.A (subscriptTail e (.Slice lo hi none p2) v (.ref s3.heap.objs.size)) (EP X pins σ Q) X.xe { s3 with heap:=s3.heap.push { cls:=.type "slice",data:=.fields #[vl,vu,.none] } };exact tail_any (ops:=[.ref s3.heap.objs.size,v]) ht hT hg (by with_unfolding_all rfl)
def cutV (xs:List V)(lo hi:Option Int):List V:=(xs.drop (HT.sIx xs.length 0 lo)).take (HT.sIx xs.length xs.length hi - HT.sIx xs.length 0 lo)
theorem Du (xs:List V)(lo hi:Option Int):(cutV xs lo hi).length<=xs.length:=by
 unfold cutV;rw [X3,P5];omega
def rSlT (K:A3):V->Option Int->Option Int->Hp->VK->Prop:=fun x lo hi H Q=>∃a xs,x=.ref a/\SqT K H a xs/\
 ¬(HT.sIx xs.length 0 lo=0/\HT.sIx xs.length xs.length hi=xs.length)/\∀p,H p=none->Q (.ref p) (upd H p (.tup (cutV xs lo hi)))
theorem sl_tup:SlR X (rSlT X.K):=by
 intro pins s σ H x v vl vu lo hi sl Q I rx hs pl pu h;obtain⟨a,xs,rfl,hx,hw,q⟩:=h;cases rx;obtain⟨its,r,ht,hz⟩:=I.tuple hx;have hlen:its.toArray.size=xs.length:=by rw [D3];exact r.length.symm
 refine⟨"tuple",_,PyProof.Rows.slot_tuple_getitem.lookup,ht.typeIs,?_⟩;refine HT.getItem_tuple_cut ht hs pl pu (by rw [hlen];exact hw) ?_ (by rw [hlen];exact hz);rw [hlen];refine⟨.ref s.heap.objs.size,_,I.laid (t':=s.toks) (o:=.tup (cutV xs lo hi)) (fun b ob q=>B5 _ q) (A8 _) ?_,rfl,q _ (I.hok.fresh (A8 _))⟩;exact⟨D7 (Du xs lo hi) hz,_,(r.drop (HT.sIx xs.length 0 lo)).take (HT.sIx xs.length xs.length hi - HT.sIx xs.length 0 lo),P0.new _ _⟩
def rCatT (K:A3):R2:=fun x y H Q=>∃a b xs ys,x=.ref a/\y=.ref b/\SqT K H a xs/\SqT K H b ys/\xs≠[]/\xs.length + ys.length<=B4/\
 (ys=[]->Q (.ref a) H)/\(ys≠[]->∀p,H p=none->Q (.ref p) (upd H p (.tup (xs++ys))))
theorem Vals.nil_iff (r:Vals xs us):us=[]↔xs=[]:=by
 cases r with
 | nil=>simp
 | cons _ _=>simp
theorem GN:OpR X (L8 .Add) (rCatT X.K):=by
 intro pins s σ H x y v u Q I rx ry h;obtain⟨a,b,xs,ys,rfl,rfl,ha,hb,hx,hz,q1,q2⟩:=h;cases rx;cases ry;obtain⟨its,r1,p1,_⟩:=I.tuple ha;obtain⟨its2,r2,p2,_⟩:=I.tuple hb;refine HT.cat_tup p1 p2 (fun z=>hx (r1.nil_iff.mp z)) (fun z=>⟨.ref a,H,I,rfl,q1 (r2.nil_iff.mp z)⟩) (fun z=>?_) (by rw [<- r1.length,<- r2.length];exact hz);refine⟨.ref s.heap.objs.size,_,I.laid (t':=s.toks) (o:=.tup (xs++ys)) (fun b ob q=>B5 _ q) (A8 _) ?_,rfl,q2 (fun w=>z (r2.nil_iff.mpr w)) _ (I.hok.fresh (A8 _))⟩;exact⟨by rw [K8];exact hz,_,r1.append r2,P0.new _ _⟩
end
def ixN (n:Nat)(i:Int):Option Nat:=if 0<=i then(if i < n then some i.toNat else none) else if -(n:Int)<=i then some (i + n).toNat else none
def atI {α:Type}(xs:List α)(i:Int):Option α:=(ixN xs.length i).bind fun j=>xs[j]?
theorem Dv (h:ixN n i=some j):seqIndex? i n=some j/\j < n/\-(n:Int)<=i/\i < n:=by
 unfold ixN at h
 by_cases h0:0<=i
 · rw [if_pos h0] at h
   by_cases h1:i < n
   · rw [if_pos h1] at h;have e:i.toNat=j:=E4 h;exact⟨by rw [seqIndex_of h0 h1,e],by omega,by omega,h1⟩
   · rw [if_neg h1] at h;cases h
 · rw [if_neg h0] at h
   by_cases h1:-(n:Int)<=i
   · rw [if_pos h1] at h;have e:(i + n).toNat=j:=E4 h;exact⟨by rw [seqIndex_neg (by omega) h1,e],by omega,h1,by omega⟩
   · rw [if_neg h1] at h;cases h
theorem Bt {α:Type}{xs:List α}{i:Int}{v:α}(h:atI xs i=some v):∃j,seqIndex? i xs.length=some j/\xs[j]?=some v/\j < xs.length/\-(xs.length:Int)<=i/\i < xs.length:=by
 unfold atI at h;cases e:ixN xs.length i with
 | none=>rw [e] at h;cases h
 | some j =>
   rw [e] at h;obtain⟨h1,h2,h3,h4⟩:=Dv e;exact⟨j,h1,h,h2,h3,h4⟩
theorem Bu {α:Type}{xs:List α}{j:Nat}{v:α}(h:xs[j]?=some v):atI xs (j:Int)=some v:=by
 have hj:j < xs.length:=(D2.mp h).1
 have e:ixN xs.length (j:Int)=some j:=by
   unfold ixN;rw [if_pos (by omega),if_pos (by omega)];simp
 unfold atI;rw [e];exact h
def Dw (b:Expr):Prop:=∀o i,subscripted b false o i=operate [o,i] (getItem o i)
def IxR (X:Cx)(r:R2):Prop:=
 ∀ (value slice : Expr) (pins : List (Addr × Obj)) (s : Shared) (σ : St) (H : Hp) (x y : V) (v u : Value) (Q : VK), Inv X pins σ H s -> RelV x v -> RelV y u -> r x y H Q ->
   subscripted slice false v u=operate [v,u] (getItem v u)->wpAny (model X.prog X.w) X.A (subscriptTail value slice v u) (EP X pins σ Q) X.xe s
def MtR (X:Cx)(id:String)(r:V->List V->Hp->VK->Prop):Prop:=
 ∀ (pins : List (Addr × Obj)) (s : Shared) (σ : St) (H : Hp) (x : V) (xs : List V) (v : Value) (us : List Value) (Q : VK), Inv X pins σ H s -> RelV x v -> Vals xs us -> r x xs H Q ->
   wpAny (model X.prog X.w) X.A (call (.builtin id) (v::us)) (EP X pins σ Q) X.xe s
section
variable {X:Cx}{a b:Expr}{ta tb:TE}{pos:Pos}
theorem IxR.or (h:IxR X r)(h':IxR X r'):IxR X (fun x y H Q=>r x y H Q\/r' x y H Q):=by
 intro value slice pins s σ H x y v u Q I rx ry q hs;rcases q with q | q
 · exact h value slice pins s σ H x y v u Q I rx ry q hs
 · exact h' value slice pins s σ H x y v u Q I rx ry q hs
theorem V0 (hr:IxR X r)(ha:PE X a ta)(hb:PE X b tb)(hs:Dw b):PE X (.Subscript a b pos) (tOp r ta tb):=by
 intro pins s σ H Q I h;exact Subscript_ (binT ha hb I h fun v u s2 x y H2 I2 rx ry q=>hr a b pins s2 σ H2 x y v u Q I2 rx ry q (hs _ _))
def rIxL (K:A3):R2:=fun x y H Q=>∃p xs i v,x=.ref p/\y=.int i/\SqL K H p xs/\atI xs i=some v/\Q v H
def rIxT (K:A3):R2:=fun x y H Q=>∃p xs i v,x=.ref p/\y=.int i/\SqT K H p xs/\atI xs i=some v/\Q v H
def rIxS:R2:=fun x y H Q=>∃z i c,x=.str z/\y=.int i/\z.length<=B4/\atI z.cps.toList i=some c/\Q (.str ⟨#[c]⟩) H
theorem V1:IxR X (rIxL X.K):=by
 intro value slice pins s σ H x y v u Q I rx ry h hs;obtain⟨p,xs,i,z,rfl,rfl,hq,he,q⟩:=h;cases rx;obtain⟨t,rfl⟩:=ry;obtain⟨its,r,pl,hz⟩:=I.list hq;obtain⟨j,h1,h2,h3,h4,h5⟩:=Bt he;obtain⟨w,ew,rw'⟩:=r.get h2;have hl:=r.length;have hn:=b9;have fin:EP X pins σ Q w s:=⟨z,H,I,rw',q⟩
 by_cases h0:0<=i
 · have hj:i.toNat=j:=by
     rw [seqIndex_of h0 h5] at h1;exact E4 h1
   exact item_listR pl.isList h0 (by omega) (by rw [hj];simpa using ew) fin hs
 · have hj:(i + (its.toArray.size:Int)).toNat=j:=by
     rw [seqIndex_neg (by omega) h4] at h1;rw [D3,<- hl];exact E4 h1
   exact subscriptTail_builtinR (x:=w) pl.isList.typeIs slot_list_getitem.lookup
     (wpAny_getItem_list_neg (Q:=fun r s'=>r=w/\EP X pins σ Q r s') pl.isList (by omega) (by rw [D3] <;> omega) (by omega) (by rw [hj];simpa using ew) ⟨rfl,fin⟩) hs
theorem ix_tup:IxR X (rIxT X.K):=by
 intro value slice pins s σ H x y v u Q I rx ry h hs;obtain⟨p,xs,i,z,rfl,rfl,hq,he,q⟩:=h;cases rx;obtain⟨t,rfl⟩:=ry;obtain⟨its,r,pl,hz⟩:=I.tuple hq;obtain⟨j,h1,h2,h3,h4,h5⟩:=Bt he;obtain⟨w,ew,rw'⟩:=r.get h2;have hl:=r.length;have hn:=b9;have fin:EP X pins σ Q w s:=⟨z,H,I,rw',q⟩
 exact subscriptTail_builtinR (x:=w) pl.typeIs slot_tuple_getitem.lookup
   (getItem_tuple (j:=j) (Q:=fun r s'=>r=w/\EP X pins σ Q r s') pl (by omega) (by omega) (by grind) (by grind) ⟨rfl,fin⟩) hs
theorem ix_str:IxR X rIxS:=by
 intro value slice pins s σ H x y v u Q I rx ry h hs;obtain⟨z,i,c,rfl,rfl,hz,he,q⟩:=h;obtain⟨t,rfl⟩:=rx;obtain⟨t',rfl⟩:=ry;obtain⟨j,h1,h2,h3,h4,h5⟩:=Bt he;have hl:z.cps.toList.length=z.length:=by simp [Str.length]
 rw [hl] at h1 h4 h5;have hn:=b9
 exact tail_any (typeIs_str s z t) slot_str_getitem.lookup (getItem_str (c:=c) (by
   have e1:decide (i < -(2 ^ 63:Int))=false:=decide_eq_false (by omega);have e2:decide (i>=2 ^ 63)=false:=decide_eq_false (by omega)
   rw [e1,e2,Bool.or_false]) (by grind) ⟨.str ⟨#[c]⟩,H,I.tok _,⟨_,rfl⟩,q⟩) hs
def rIx (K:A3):R2:=fun x y H Q=>rIxL K x y H Q\/rIxT K x y H Q\/rIxS x y H Q
theorem ix_seq:IxR X (rIx X.K):=V1.or (ix_tup.or ix_str)
theorem GO (its:List Value)(n j:Nat)(u:Value):Obj.mapSeq (·.setIfInBounds j u) { cls:=.type "list",data:=.seq its.toArray n }={ cls:=.type "list",data:=.seq (its.set j u).toArray n }:=by
 simp [Obj.mapSeq]
theorem Inv.lst (I:Inv X pins σ H s)(h:H p=some (.lst xs)) :
   ∃(its:List Value) (n:Nat),Vals xs its/\s.heap.get? p=some { cls:=.type "list",data:=.seq its.toArray n }/\xs.length<=B4:=by
 obtain⟨z,its,n,r,e⟩:=I.hok p _ h;exact⟨its,n,r,e,z⟩
theorem Inv.lstUpd {its its':List Value}(I:Inv X pins σ H s)(h:H p=some (.lst xs))
   (ho:s.heap.get? p=some { cls:=.type "list",data:=.seq its.toArray n }) (hf:f { cls:=.type "list",data:=.seq its.toArray n }={ cls:=.type "list",data:=.seq its'.toArray n' }) (r:Vals ys its') (hz:ys.length<=B4) (t:Nat) :
   Inv X pins σ (upd H p (.lst ys)) { s with heap:=s.heap.update p f,toks:=t }:=by
 have e:(s.heap.update p f).get? p=some { cls:=.type "list",data:=.seq its'.toArray n' }:=by
   rw [Heap.get?_update_self f ho (by rw [hf] <;> rfl),hf]
 refine I.write (x:=p) (e:=p) (by rw [h];trivial) (.inl rfl) (fun b u hb q=>(Heap.get?_update_other _ _ (Ne.symm hb)).trans q) ⟨_,e⟩ ?_;exact⟨hz,its',n',r,e⟩
def l6:V->V->V->Hp->(Hp->Prop)->Prop:=fun o i v H Q=>∃p xs k j,o=.ref p/\i=.int k/\H p=some (.lst xs)/\ixN xs.length k=some j/\Q (upd H p (.lst (xs.set j v)))
theorem Bv:PSet X l6:=by
 intro pins s σ H o i v ov iv u Q I ro ri rv h;obtain⟨p,xs,k,j,rfl,rfl,hp,hj,q⟩:=h;cases ro;obtain⟨t,rfl⟩:=ri;obtain⟨its,n,r,ho,hz⟩:=I.lst hp;obtain⟨h1,h2,h3,h4⟩:=Dv hj;have hl:=r.length;have hn:=b9
 have I':Inv X pins σ (upd H p (.lst (xs.set j v))) { s with heap:=s.heap.update p (Obj.mapSeq (·.setIfInBounds j u)) }:=
   I.lstUpd hp ho (GO its n j u) (r.set rv j) (by grind) s.toks
 by_cases h0:0<=k
 · have hk:k.toNat=j:=by
     rw [seqIndex_of h0 h4] at h1;exact E4 h1
   exact PySem.W.ki_setAt ho h0 (by omega) (by grind) (by grind)
 · have hk:(k + (its.toArray.size:Int)).toNat=j:=by
     rw [seqIndex_neg (by omega) h3] at h1;rw [D3,<- hl];exact E4 h1
   exact PySem.W.ki_setBack ho (by omega) (by rw [D3,<- hl];exact h3) (by omega) (by rw [hk];exact⟨_,I',q⟩)
theorem GP (lo hi:Option Int)(n:Nat):(X0 lo hi none n).1=((HT.sIx n 0 lo:Nat):Int)/\(X0 lo hi none n).2.1=((HT.sIx n n hi:Nat):Int)/\(X0 lo hi none n).2.2=1:=by
 refine⟨?_,?_,rfl⟩
 · cases lo with
   | none=>simp [X0,HT.sIx]
   | some i =>
     simp only [X0,HT.sIx,Option.getD_none,show(1:Int) > 0 by decide,if_true]
     by_cases h:i < 0
     · simp only [h,if_true] <;> omega
     · simp only [h,if_false] <;> omega
 · cases hi with
   | none=>simp [X0,HT.sIx]
   | some i =>
     simp only [X0,HT.sIx,Option.getD_none,show(1:Int) > 0 by decide,if_true]
     by_cases h:i < 0
     · simp only [h,if_true] <;> omega
     · simp only [h,if_false] <;> omega
theorem GQ (its:List Value)(lo hi:Option Int):slicePick its.toArray lo hi none=((its.drop (HT.sIx its.length 0 lo)).take (HT.sIx its.length its.length hi - HT.sIx its.length 0 lo)).toArray:=by
 obtain⟨h1,h2,h3⟩:=GP lo hi its.toArray.size;unfold slicePick;rw [h1,h2,h3];simp only [sliceRange_one,pick_run,D3] <;> rfl
def rSlL (K:A3):V->Option Int->Option Int->Hp->VK->Prop:=fun x lo hi H Q=>∃a xs,x=.ref a/\SqL K H a xs/\∀p,H p=none->Q (.ref p) (upd H p (.lst (cutV xs lo hi)))
theorem Dx:SlR X (rSlL X.K):=by
 intro pins s σ H x v vl vu lo hi sl Q I rx hs pl pu h;obtain⟨a,xs,rfl,hx,q⟩:=h;cases rx;obtain⟨its,r,ht,hz⟩:=I.list hx;have hlen:=r.length;refine⟨"list",_,slot_list_getitem.lookup,ht.isList.typeIs,?_⟩;refine wpAny_getItem_list_slice ht.isList hs pl pu .none (by simp) ?_ (by rw [D3] <;> omega)
 rw [GQ,<- hlen];refine⟨.ref s.heap.objs.size,_,I.laid (t':=s.toks) (o:=.lst (cutV xs lo hi)) (fun b ob q=>B5 _ q) (A8 _) ?_,rfl,q _ (I.hok.fresh (A8 _))⟩;exact⟨D7 (Du xs lo hi) hz,_,0,(r.drop (HT.sIx xs.length 0 lo)).take (HT.sIx xs.length xs.length hi - HT.sIx xs.length 0 lo),D8 _ rfl⟩
def L4:V->Bool
 | .non=>true
 | .bl _=>true
 | .int _=>true
 | .str _=>true
 | _=>false
def eqV:V->V->Bool
 | .non,.non=>true
 | .bl a,.bl b=>a == b
 | .bl a,.int b=>(if a then 1 else 0) == b
 | .int a,.bl b=>a == (if b then 1 else 0)
 | .int a,.int b=>a == b
 | .str a,.str b=>a == b
 | _,_=>false
theorem Dy (ry:RelV y u)(rx:RelV x v)(fy:L4 y=true)(fx:L4 x=true):Y1 A s u v (eqV y x):=by
 cases y with
 | non =>
   cases ry;cases x with
   | non=>cases rx;exact SeqAt.EqAt.same _
   | bl b=>cases rx;exact SeqAt.EqAt.none_bool b
   | int b=>obtain⟨t,rfl⟩:=rx;exact SeqAt.EqAt.none_int b t
   | str b=>obtain⟨t,rfl⟩:=rx;exact SeqAt.EqAt.none_str b t
   | _=>exact absurd (show false=true from fx) M3
 | bl a =>
   cases ry;cases x with
   | non=>cases rx;exact SeqAt.EqAt.bool_none a
   | bl b=>cases rx;exact SeqAt.EqAt.bool_bool a b
   | int b=>obtain⟨t,rfl⟩:=rx;exact SeqAt.EqAt.bool_int a b t
   | str b=>obtain⟨t,rfl⟩:=rx;exact SeqAt.EqAt.bool_str a b t
   | _=>exact absurd (show false=true from fx) M3
 | int a =>
   obtain⟨t',rfl⟩:=ry;cases x with
   | non=>cases rx;exact SeqAt.EqAt.int_none a t'
   | bl b=>cases rx;exact SeqAt.EqAt.int_bool a t' b
   | int b=>obtain⟨t,rfl⟩:=rx;exact SeqAt.EqAt.int_int a t' b t
   | str b=>obtain⟨t,rfl⟩:=rx;exact SeqAt.EqAt.int_str a t' b t
   | _=>exact absurd (show false=true from fx) M3
 | str a =>
   obtain⟨t',rfl⟩:=ry;cases x with
   | non=>cases rx;exact SeqAt.EqAt.str_none a t'
   | bl b=>cases rx;exact SeqAt.EqAt.str_bool a t' b
   | int b=>obtain⟨t,rfl⟩:=rx;exact SeqAt.EqAt.str_int a t' b t
   | str b=>obtain⟨t,rfl⟩:=rx;exact SeqAt.EqAt.str_str a t' b t
   | _=>exact absurd (show false=true from fx) M3
 | _=>exact absurd (show false=true from fy) M3
theorem GR:OpR X (G0 .NotIn) (fun x y H Q=>∃i j,x=.str i/\y=.str j/\Q (.bl (!(!(b4 j i 0 j.length 1).isEmpty))) H):=by
 intro pins s σ H x y v u Q I rx ry h;obtain⟨i,j,rfl,rfl,q⟩:=h;obtain⟨t,rfl⟩:=rx;obtain⟨t',rfl⟩:=ry;exact notIn_str ⟨.bl _,H,I,rfl,q⟩
theorem Dz:G5 X (.builtin "len") (fun xs H Q=>∃p ys,xs=[.ref p]/\(SqL X.K H p ys\/SqT X.K H p ys)/\Q (.int ys.length) H):=by
 intro pins s σ H xs us Q I r h;obtain⟨p,ys,rfl,hq,q⟩:=h;obtain⟨u,rfl,rx⟩:=U8 r;cases rx;have hn:=b9;rcases hq with hq | hq
 · obtain⟨its,r',pl,hz⟩:=I.list hq;have hlen:=r'.length;exact Calls.call_len_list pl.isList (by simp only [D3] <;> omega) ⟨.int ys.length,H,I.tok _,⟨s.toks + 1,by rw [D3,hlen]⟩,q⟩
 · obtain⟨its,r',pl,hz⟩:=I.tuple hq;have hlen:=r'.length;exact len_tuple pl (by simp only [D3] <;> omega) ⟨.int ys.length,H,I.tok _,⟨s.toks + 1,by rw [D3,hlen]⟩,q⟩
theorem GS:G5 X (.builtin "len") (fun xs H Q=>∃z,xs=[.str z]/\z.length<=B4/\Q (.int z.length) H):=by
 intro pins s σ H xs us Q I r h;obtain⟨z,rfl,hz,q⟩:=h;obtain⟨u,rfl,t,rfl⟩:=U8 r;have hn:=b9;exact len_str (by omega) ⟨.int z.length,H,I.tok _,⟨_,rfl⟩,q⟩
theorem G5.or (h:G5 X f r)(h':G5 X f r'):G5 X f (fun xs H Q=>r xs H Q\/r' xs H Q):=by
 intro pins s σ H xs us Q I rs q;rcases q with q | q
 · exact h pins s σ H xs us Q I rs q
 · exact h' pins s σ H xs us Q I rs q
theorem GT:G5 X (.type "list") (fun xs H Q=>∃p ys,xs=[.ref p]/\(SqL X.K H p ys\/SqT X.K H p ys)/\∀l,H l=none->Q (.ref l) (upd H l (.lst ys))):=by
 intro pins s σ H xs us Q I r h;obtain⟨p,ys,rfl,hq,q⟩:=h;obtain⟨u,rfl,rx⟩:=U8 r;cases rx
 have fin:∀(its:List Value),Vals ys its->ys.length<=B4->∀(h':Heap) (c':Nat),(∀b o',s.heap.get? b=some o'->h'.get? b=some o')->
     h'.get? s.heap.objs.size=some { cls:=.type "list",dict:=none,data:=.seq its.toArray c',slots:=#[] }->EP X pins σ Q (.ref s.heap.objs.size) { s with heap:=h' }:=fun its r' hz h' c' kp e=>
   ⟨.ref s.heap.objs.size,_,I.laid (t':=s.toks) kp (A8 _) (show E6 X.prog X.w _ h' _ (.lst ys) from⟨hz,its,c',r',e⟩),rfl,q _ (I.hok.fresh (A8 _))⟩
 rcases hq with hq | hq
 · obtain⟨its,r',pl,hz⟩:=I.list hq;have hlen:=r'.length;obtain⟨o,ho,hc,n,hd⟩:=pl.isList;exact call_list_seq p (.inl rfl) ho hc hd (fun h' c' kp e=>fin its r' hz h' c' kp e) (by simp only [D3] <;> omega)
 · obtain⟨its,r',pl,hz⟩:=I.tuple hq;have hlen:=r'.length;obtain⟨o,ho,hc,n,hd⟩:=pl;exact call_list_seq p (.inr rfl) ho hc hd (fun h' c' kp e=>fin its r' hz h' c' kp e) (by simp only [D3] <;> omega)
theorem GU:G5 X (.type "tuple") (fun xs H Q=>∃p ys,xs=[.ref p]/\((SqL X.K H p ys/\∀l,H l=none->Q (.ref l) (upd H l (.tup ys)))\/(SqT X.K H p ys/\Q (.ref p) H))):=by
 intro pins s σ H xs us Q I r h;obtain⟨p,ys,rfl,h⟩:=h;obtain⟨u,rfl,rx⟩:=U8 r;cases rx;rcases h with⟨hq,q⟩ | ⟨hq,q⟩
 · obtain⟨its,r',pl,hz⟩:=I.list hq;have hlen:=r'.length;refine call_tuple_list pl.isList (fun h' kp=>?_) (by simp only [D3] <;> omega)
   have I1:Inv X pins σ H { s with heap:=h' }:=I.kept (t':=s.toks) kp
   have I2:Inv X pins σ (upd H h'.objs.size (.tup ys)) { s with heap:=h'.push { cls:=.type "tuple",data:=.seq its.toArray } }:=
     I1.laid (t':=s.toks) (fun b o e=>B5 _ e) (A8 _) (show E6 X.prog X.w _ _ _ (.tup ys) from⟨hz,its,r',P0.new _ _⟩)
   exact⟨.ref h'.objs.size,_,I2,rfl,q _ (I1.hok.fresh (A8 _))⟩
 · obtain⟨its,r',pl,hz⟩:=I.tuple hq;exact call_tuple_same pl ⟨.ref p,H,I,rfl,q⟩
def tyV (K:A3)(T:String)(x:V)(H:Hp):Prop:=match x with
 | .str _=>T="str"
 | .int _=>T="int"
 | .ref p=>(T="list"/\∃xs,SqL K H p xs)\/(T="tuple"/\((∃o,K.lookup p=some o/\o.cls=.type "tuple"/\o.dict=none)\/∃xs,H p=some (.tup xs)))\/
     (T="dict"/\((∃kvs,H p=some (.dK kvs))\/∃kvs,H p=some (.dT kvs)))\/(T="set"/\∃S n,H p=some (.set S n))
 | _=>False
theorem tyV_is (I:Inv X pins σ H s)(r:RelV x v)(ty:tyV X.K T x H) :
   s.TypeIs v T/\∀a,v=.ref a->∃ob,s.heap.get? a=some ob/\ob.dict=none:=by
 cases x with
 | str z =>
   obtain⟨t,rfl⟩:=r;cases(show T="str" from ty);exact⟨typeIs_str s z t,fun _ e=>nomatch e⟩
 | int i =>
   obtain⟨t,rfl⟩:=r;cases(show T="int" from ty);exact⟨typeIs_int s i t,fun _ e=>nomatch e⟩
 | ref p =>
   cases r;rcases ty with⟨rfl,xs,hq⟩ | ⟨rfl,hk⟩ | ⟨rfl,hk⟩ | ⟨rfl,S,n,hk⟩
   · obtain⟨its,_,pl,_⟩:=I.list hq;refine⟨pl.isList.typeIs,fun a e=>?_⟩;cases e;obtain⟨o,n,e,c,hd,_⟩:=pl;exact⟨o,e,hd⟩
   · rcases hk with⟨o,hk,hc,hd⟩ | ⟨xs,hk⟩
     · refine⟨⟨o,I.kIn p o hk,hc⟩,fun a e=>?_⟩;cases e;exact⟨o,I.kIn _ o hk,hd⟩
     · obtain⟨_,_,_,o,e,c,_⟩:=(show E6 X.prog X.w H s.heap p (.tup xs) from I.hok p _ hk);refine⟨⟨o,e,(k7 c).1⟩,fun a e2=>?_⟩;cases e2;exact⟨o,e,(k7 c).2⟩
   · have z:∃o,s.heap.get? p=some o/\o.ExactDict:=by
       rcases hk with⟨kvs,hk⟩ | ⟨kvs,hk⟩
       · obtain⟨_,_,_,_,o,_,_,e,ex,_⟩:=I.hok p _ hk;exact⟨o,e,ex⟩
       · obtain⟨_,_,_,_,o,_,_,e,ex,_⟩:=I.hok p _ hk;exact⟨o,e,ex⟩
     obtain⟨o,e,ex⟩:=z;refine⟨⟨o,e,ex.1⟩,fun a e2=>?_⟩;cases e2;exact⟨o,e,ex.2.1⟩
   · obtain⟨o,_,_,_,e,ex,_⟩:=I.hok p _ hk;refine⟨⟨o,e,ex.1⟩,fun a e2=>?_⟩;cases e2;exact⟨o,e,ex.2.1⟩
 | _=>exact P8 ty
def tBM (K:A3)(T:String)(r:V->List V->Hp->VK->Prop)(to:TE)(t:TA):TE:=fun σ H Q=>to σ H fun x H1=>tyV K T x H1/\t σ H1 fun xs H2=>r x xs H2 Q
variable {o e:Expr}{es:List Expr}{to:TE}{t:TA}{name:Str}{apos cpos:Pos}{T id:String}{r:V->List V->Hp->VK->Prop}
theorem Bw (pa:PlainAttrs T)(slot:Slot T name id)(hty:typeOf (.builtin id)=pure (.type "method_descriptor"))(hm:MtR X id r)(ho:PE X o to)(ha:PA X (e::es) t)
   (hbase:attributeBase o name X.env (eval o X.env)=eval o X.env:=by rfl)
   (hfew:((backTo cpos (C3 (e::es) X.env)).all (fun x=>!x.1) && (backToKw cpos (keywordEach [] X.env)).all (fun x=>x.1.isSome)
     && decide ((e::es).length + ([]:List Keyword).length + (if([]:List Keyword).isEmpty then 0 else 1) < 30))=true:=by rfl)
   (hline:(apos.endLine == cpos.line)=true:=by rfl) (hs:C3 (e::es) X.env=(false,eval e X.env)::C3 es X.env:=by rfl) (hplain:(backTo cpos (C3 es X.env)).any (·.1)=false:=by rfl) :
   PE X (.Call (.Attribute o name apos) (e::es) [] cpos) (tBM X.K T r to t):=by
 intro pins s σ H Q I h;refine wpAny_Call_method_late hbase hfew hline rfl (thn (ho pins s σ H _ I h) fun v s1 ⟨x,H1,I1,r1,ty,q1⟩=>?_);obtain⟨h1,h2⟩:=tyV_is I1 r1 ty;refine⟨T,id,pa,slot,hty,h1,h2,?_⟩;have hA:=ha cpos pins s1 σ H1 _ I1 q1;rw [hs] at hA ⊢;refine Calls.callWith_builtin (by show(false || (backTo cpos (C3 es X.env)).any (·.1))=false;rw [hplain] <;> rfl) (Calls.evalArgs_plain ?_)
 exact thn hA fun us s2 ⟨vs,H2,I2,r2,q2⟩=>hm pins s2 σ H2 x vs v us Q I2 r1 r2 q2
end
def MtM (X:Cx)(id:String)(r:V->List V->Hp->VK->Prop):Prop:=
 ∀ (pins : List (Addr × Obj)) (s : Shared) (σ : St) (H : Hp) (x : V) (xs : List V) (v : Value) (us : List Value) (Q : VK), Inv X pins σ H s -> RelV x v -> Vals xs us -> r x xs H Q ->
   wpAny (model X.prog X.w) X.A (call (.builtin id) (v::us)) (EP X pins σ Q) X.xe s
theorem Vals.one:∀{x:V} {us:List Value},Vals [x] us->∃u,us=[u]/\RelV x u
 | _,_,.cons r .nil=>⟨_,rfl,r⟩
theorem Vals.two:∀{x y:V} {us:List Value},Vals [x,y] us->∃u v,us=[u,v]/\RelV x u/\RelV y v
 | _,_,_,.cons r (.cons q .nil)=>⟨_,_,rfl,r,q⟩
section
variable {X:Cx}{pins:List (Addr×Obj)}{σ:St}{H:Hp}{s:Shared}{l b:Addr}{xs ys zs:List V}
theorem Inv.lset {its its':List Value}(I:Inv X pins σ H s)(hH:H l=some (.lst xs))
   (e:s.heap.get? l=some { cls:=.type "list",data:=.seq its.toArray n }) (hf:f its.toArray=its'.toArray) (hv:Vals ys its') (hz:ys.length<=B4) :
   Inv X pins σ (upd H l (.lst ys)) { s with heap:=s.heap.update l (Obj.mapSeq f),toks:=t' }:=by
 have q:=PySem.IsL.update e f;rw [hf] at q;refine I.write (x:=l) (e:=l) (by rw [hH];exact trivial) (.inl rfl) (fun b' u hb hu=>(Heap.get?_update_other s.heap (Obj.mapSeq f) (Ne.symm hb)).trans hu) ⟨_,q⟩ ?_;exact⟨hz,its',_,hv,q⟩
theorem Inv.fresh (I:Inv X pins σ H s):H s.heap.objs.size=none:=I.hok.fresh (A8 _)
theorem Inv.lstM (I:Inv X pins σ H s)(hH:H l=some (.lst xs)):xs.length<=B4/\∃(its:List Value) (n:Nat),Vals xs its/\xs.length=its.length/\s.heap.get? l=some { cls:=.type "list",data:=.seq its.toArray n }:=by
 obtain⟨z,its,n,r,e⟩:=I.hok l _ hH;exact⟨z,its,n,r,r.length,e⟩
theorem GV (h:n<=B4):Bg n=false:=by
 unfold Bg;exact decide_eq_false (by omega)
end
section
variable {X:Cx}
def DA:V->List V->Hp->VK->Prop:=fun x vs H Q=>∃l xs y,x=.ref l/\vs=[y]/\H l=some (.lst xs)/\xs.length < B4/\Q .non (upd H l (.lst (xs++[y])))
theorem l7:MtM X "list.append" DA:=by
 intro pins s σ H x vs v us Q I rx rv h;obtain⟨l,xs,y,rfl,rfl,hH,hz,q⟩:=h;cases rx;obtain⟨u,rfl,ru⟩:=rv.one;obtain⟨z,its,n,r,hl,e⟩:=I.lstM hH;refine call_meets F.slot_list_append ⟨_,e,rfl⟩ F.entry_list_append (F.args_list_append_2 _ _) (PySem.list_append l its.toArray n u (by rw [D3];omega)) ⟨e,?_⟩;refine⟨.non,_,I.lset (its':=its++[u]) hH e (by simp) (r.append (.cons ru .nil)) ?_,rfl,q⟩;rw [K8,x5];omega
end
end L2
namespace Att
open PySem PySem.W PySem.Calls PyProof.Rows
theorem GX:∀(ns:List Int) (vs:List Value),WellAll P h vs (ns.map WData.int)->IntsAre vs ns:=by
 intro ns
 induction ns with
 | nil =>
   intro vs w;rw [List.map_nil] at w;cases w;exact .nil
 | cons n ns ih =>
   intro vs w;rw [M2] at w;cases w with
   | cons a b =>
     cases a;exact .cons _ _ (ih _ b)
theorem GY {l:OpenLaw}(hn:l.most=some n)
   (hpre:l.row.toRowW.claim.pre args=true) (hwl:WellAll P h vals args) :
   ∃a vs ns,vals=[K3 a]/\args=[WData.list (ns.map WData.int)]/\h.get? a=some { cls:=.type "list",data:=.seq vs.toArray }/\IntsAre vs ns/\ns.length<=n:=by
 have hsh:WShape.hasAll [] args [.list .int]=true:=(pre_splitW hpre).1;have hc:l.pre.holds [] { args:=args }=true:=(pre_splitW hpre).2;obtain⟨d,r,rfl,h1,h2⟩:=hasAllW_cons hsh;obtain rfl:=hasAllW_nil h2;obtain⟨xs,rfl,h3⟩:=hasW_list h1;obtain⟨ns,rfl⟩:=items_int h3
 have hlen:ns.length<=n:=by
   unfold OpenLaw.pre at hc
   have h4:(WTm.not (.lt (.lit (.int (n:Int))) (.len (.arg 0)))).holds [] { args:=[.list (ns.map .int)] }=true:=by
     have h4:=(holds_andW hc).1;rw [hn] at h4;exact h4
   have h5:=condW_of h4 (w_not (w_lt w_lit (w_len_list (w_arg rfl))));rw [B8] at h5;refine Nat.le_of_not_lt fun q=>?_;have q':(n:Int) < ((ns.length:Nat):Int):=by omega
   first
     | (rw [decide_eq_true q'] at h5;exact absurd h5 (by decide))
     | (simp at h5;omega)
 cases hwl with
 | cons w1 w2 =>
   cases w2;cases w1 with
   | list ho hall=>exact⟨_,_,ns,rfl,rfl,ho,GX ns _ hall,hlen⟩
theorem GZ (l:OpenLaw)(args:List WData):l.row.toRowW.claim.post args (.bool true) args=true:=
 postW_of (r:=l.row.toRowW) (X:=(true == true))
   (show WShape.has [] (.bool true) .bool=true by first | rfl | decide | simp [WShape.has,WShape.arms,WShape.armsAll])
   (show(WTm.eq .res (.lit (.bool true))).value [] { args:=args,res:=some (.bool true),after:=args }=some (.bool (true == true)) from w_eq_bool (w_res rfl) w_lit) rfl
theorem attach_call {l:OpenLaw}
   (hn:l.most=some n) (hdf:d.params.defaults=[])
   (call:∀(w:World) (s₀ s₁:Shared) (mg mb:Str->Option Value) (fa:Addr) (o:Obj) (pm cd doc:Value) (a:Addr) (vs:List Value) (ns:List Int),
     Ground q loose [] XP w s₀ mg mb s₁.heap->YP w s₁.heap->
     s₁.heap.get? fa=some o->o.data=.func (docDef d.name d.params d.body d.scope pm cd doc)->s₁.heap.CodeRec cd d.name->mg d.name=some (.ref fa)->
     s₁.heap.get? a=some { cls:=.type "list",data:=.seq vs.toArray }->IntsAre vs ns->ns.length<=n->s₁.gens=#[]->
     J8 (model l.prog w) callerA (.call (.ref fa) ⟨[.ref a],[]⟩) (fun r s'=>r=.ok (.ret (.bool true))/\OldK s₁.heap s'.heap/\s'.os=s₁.os/\AllBare s'.gens) s₁) :
   WalkO q loose XP YP l.row.toRowW d [] (fun f vs=>PySem.call f vs):=by
 intro w s₀ s₁ mg mb G Y fa o pm cd doc dV kV ho hd hcd hD hmg hg args vals as hpre hlay hrd hwl hlo;obtain rfl:dV=.none:=Dflts.none hD hdf;obtain rfl:kV=.none:=Dflts.noKw hD;obtain⟨a,vs,ns,rfl,rfl,hobj,hints,hlen⟩:=GY hn hpre hwl;refine enter_call (codeAny_mono (call w s₀ s₁ mg mb fa o pm cd doc a vs ns G Y ho (fd_plain hd) hcd hmg hobj hints hlen hg) fun r s' hq=>?_);obtain⟨rfl,h2,h3,h4⟩:=hq;exact⟨.inl ⟨.bool true,.bool true,[],rfl,fun _=>rfl,.bool true,GZ l _,fun _=>⟨List.Pairwise.nil,fun _ hm=>(nomatch hm)⟩⟩,h2,h3,h4⟩
end Att
namespace L2
open PySem PySem.Spec PyProof.Rows
theorem DB:∀{vs:List Value} {ns:List Int},IntsAre vs ns->Vals (ns.map V.int) vs
 | _,_,.nil=>.nil
 | _,_,.cons n t h=>.cons ⟨t,rfl⟩ (DB h)
def Only (H:Hp):Prop:=∀b,H b=none\/∃o xs,H b=some (.frz o (.lst xs))
theorem G_ {K:A3}
   (KX:K.In s₁.heap) (hns:s₁.heap.Ns N1 mg) (hb:s₁.heap.Ns builtinsNs mb) (hbb:∀x:Str,x≠"__name__"->mb x=E5 x) (hlim:s₁.heap.NoLimit) (hg:s₁.gens=#[])
   (ha:s₁.heap.get? a=some { cls:=.type "list",data:=.seq vs.toArray }) (hi:IntsAre vs ns) (hl:ns.length<=B4) (hr:Room k callerA)
   (F:∀base:Heap,K.In base->base.Ns N1 mg->FnOk P w K mg base CX k fa fd [x] sp) (hbind:∀(s:Shared) (u:Value),BindsTo s fd ⟨[u],[]⟩ [(x,u)])
   (hsp:∀H:Hp,Only H->SqL K H a (ns.map V.int)->sp [.ref a] H (fun v _=>v=.bl true) fun _ _ _=>False)
   (hCX:∀H e s',CX [] H s₁ (fun _ _ _=>False) e s'->False) :
   J8 (model P w) callerA (.call (.ref fa) ⟨[.ref a],[]⟩) (fun r s'=>r=.ok (.ret (.bool true))/\OldK s₁.heap s'.heap/\s'.os=s₁.os/\AllBare s'.gens) s₁:=by
 have rv:=DB hi;have lenV:=hi.length
 -- from an abstract heap in which nothing but the script may be tracked
 have core:∀H:Hp,Only H->SqL K H a (ns.map V.int)->HOk P w H s₁.heap->(∀b,H b≠none->b=a)->(H a≠none->K.lookup a=none)->
     J8 (model P w) callerA (.call (.ref fa) ⟨[.ref a],[]⟩) (fun r s'=>r=.ok (.ret (.bool true))/\OldK s₁.heap s'.heap/\s'.os=s₁.os/\AllBare s'.gens) s₁:=by
   intro H hO hS hok hA hK;have base_of:∀{b:Addr} {o:Obj},s₁.heap.get? b=some o->H b=none->(hidT s₁.heap H).get? b=some o:=fun e n=>Ge e n
   have noA:∀{b:Addr} {o:Obj} {es:Array DictEntry} {ep:Nat},s₁.heap.get? b=some o->o.data=.dict es ep->H b=none:=fun {b o es ep} e d=>by
     cases q:H b with
     | none=>rfl
     | some u =>
       have e':b=a:=hA b (by rw [q];simp);subst e';rw [ha] at e;cases e;have d':Data.seq vs.toArray _=Data.dict es ep:=d;cases d'
   have nsK:∀{b:Addr} {m:Str->Option Value},s₁.heap.Ns b m->(hidT s₁.heap H).Ns b m:=fun {b m} ⟨o,es,ep,e,d,r⟩=>⟨o,es,ep,base_of e (noA e d),d,r⟩
   have hKb:K.In (hidT s₁.heap H):=fun b o e=>base_of (KX b o e) (by
     cases q:H b with
     | none=>rfl
     | some u =>
       have e':b=a:=hA b (by rw [q];simp);subst e'
       rw [hK (by rw [q];simp)] at e;cases e)
   have hM:Mod K mg (hidT s₁.heap H):=⟨hKb,nsK hns,⟨mb,nsK hb,hbb⟩,let ⟨mc,h1,h2⟩:=hlim;⟨mc,nsK h1,h2⟩⟩;have e0:Env0 P w K mg (hidT s₁.heap H) callerA [] s₁ H:=⟨rfl,hM,fun b o e=>Gf e,Nat.le_of_eq (Gd _ _),trivial,fun b hb=>absurd (show b∈([]:List Addr) from hb) (by simp),hok,.of_eq hg,(hO O3).imp id fun⟨o,xs,e⟩=>⟨o,_,e⟩⟩;refine codeAny_mono ((F _ hKb (nsK hns)).run callerA [] s₁ H ⟨[.ref a],[]⟩ [.ref a] [.ref a] _ _ hr e0 (hbind s₁ (.ref a)) (.cons rfl .nil) (hsp H hO hS)) fun r s' h=>?_;cases r with
   | error e=>exact(hCX H e s' h).elim
   | ok fl =>
     cases fl with
     | next=>exact P8 h
     | brk=>exact P8 h
     | cont=>exact P8 h
     | ret u =>
       obtain⟨v,H',os,bare,un,hok',r',q⟩:=h;have q':v=.bl true:=q;subst q';obtain rfl:u=Value.bool true:=r';refine⟨rfl,OldK.of_keep fun b o e=>?_,os,bare⟩;cases q:H b with
       | none=>exact un.keep b o e q (by intro z;exact absurd (show b∈([]:List Addr) from z) (by simp)) (by simp)
       | some u =>
         rcases hO b with z | ⟨ob,xs,z⟩
         · rw [q] at z;cases z
         · have z2:=un.frzs b ob _ z;obtain⟨e1,_⟩:=hok b _ z;obtain⟨e2,_⟩:=hok' b _ z2;rw [e] at e1;cases e1;exact e2
 cases hk:K.lookup a with
 | some o =>
   -- the script is one of the module's own objects
   have e:=KX a o hk;rw [ha] at e;cases e;refine core (fun _=>none) (fun _=>.inl rfl) (.inr ⟨_,vs.toArray,_,hk,rfl,rfl,rfl,by rw [D3,lenV];exact hl,by simpa using rv⟩) (fun b u z=>by have z':(none:Option HO)=some u:=z;cases z') (fun b z=>absurd rfl z) fun z=>absurd rfl z
 | none =>
   refine core (fun b=>if b=a then some (.frz { cls:=.type "list",data:=.seq vs.toArray } (.lst (ns.map V.int))) else none) (fun b=>?_) (.inl (.inr ⟨{ cls:=.type "list",data:=.seq vs.toArray },if_pos rfl⟩)) (fun b u z=>?_) (fun b z=>?_) fun _=>hk
   · by_cases hb:b=a
     · exact .inr ⟨_,_,if_pos hb⟩
     · exact .inl (if_neg hb)
   · by_cases hb:b=a
     · have z':=(if_pos hb).symm.trans z;cases z';subst hb;exact⟨ha,by rw [B8];exact hl,vs,_,rv,ha⟩
     · have z':=(if_neg hb).symm.trans z;cases z'
   · by_cases hb:b=a
     · exact hb
     · exact absurd (if_neg hb) z
abbrev KOf {K:A3}{h:Heap}(_:K.In h):A3:=K
theorem Ha {l:PySem.W.OpenLaw}{K:Params->A3}{CX:World->CXT}{sp:World->Sp}
   (hn:l.most=some n) (hn2:n<=B4) (hdf:d.params.defaults=[]) (hr:Room k callerA)
   (hY:∀(w:World) (h:Heap),YP w h->(K w.params).In h)
   (F:∀(w:World) (mg:Str->Option Value) (fa:Addr) (h:Heap),(K w.params).In h->h.Ns N1 mg->mg d.name=some (.ref fa)->
     ∃ fd : FuncData, (∀ (s : Shared) (u : Value), BindsTo s fd ⟨[u], []⟩ [(x, u)]) /\
       ∀base:Heap,(K w.params).In base->base.Ns N1 mg->FnOk l.prog w (K w.params) mg base (CX w) k fa fd [x] (sp w))
   (hsp:∀(w:World) (H:Hp) (a:Addr) (ns:List Int),ns.length<=n->Only H->SqL (K w.params) H a (ns.map V.int)->sp w [.ref a] H (fun v _=>v=.bl true) fun _ _ _=>False)
   (hCX:∀(w:World) (H:Hp) (s:Shared) (e:Value) (s':Shared),CX w [] H s (fun _ _ _=>False) e s'->False) :
   PySem.W.WalkO q loose XP YP l.row.toRowW d [] (fun f vs=>PySem.call f vs):=by
 refine Att.attach_call hn hdf fun w s₀ s₁ mg mb fa o pm cd doc a vs ns G Y ho hd hcd hmg hobj hints hlen hg=>?_;have KX:=hY w _ Y;obtain⟨fd,hb,hF⟩:=F w mg fa _ KX G.T.g hmg;exact G_ KX G.T.g G.T.b G.T.builtins G.T.nolimit hg hobj hints (D7 hlen hn2) hr hF hb (fun H hO hS=>hsp w H a ns hlen hO hS) fun H e s'=>hCX w H s₁ e s'
def Q4 (s:Stmt):Arguments:=match s with
 | .FunctionDef _ a _ _ _ _ _ _ _ _=>a
 | _=>{ posonlyargs:=[],args:=[],vararg:=none,kwonlyargs:=[],kw_defaults:=[],kwarg:=none,defaults:=[] }
def L5 (s:Stmt):List Stmt:=match s with
 | .FunctionDef _ _ b _ _ _ _ _ _ _=>b
 | _=>[]
def D6 (s:Stmt):Scope:=match s with
 | .FunctionDef _ _ _ _ _ _ sc _ _ _=>sc
 | _=>{ kind:=.function,names:=[],isGenerator:=false,isCoroutine:=false }
abbrev CX0:CXT:=fun _ _ _ _ _ _=>False
abbrev E0:XK:=fun _ _ _=>False
theorem pass0:Br CX0 X E0:=fun _ _ _ _ _ _ _ h=>h.elim
structure Fun (K:A3)(x qual:Str)(st:Stmt)(f:Addr)(fd:FuncData):Prop where
 ex:∃(oc:Value) (od:Option Addr) (kV doc pm:Value) (an:Option Addr) (cdv ct:Value) (osl:Array (Option Value)),
   fd=M9 x qual (Q4 st) (L5 st) (D6 st) .none kV doc pm an cdv ct/\K.lookup f=some ⟨oc,od,.func fd,osl⟩/\v4 K cdv qual=true
 kp:i5 K (.ref f)=true
section
variable {P:C6}{w:World}{K:A3}{mg:Str->Option Value}{base:Heap}
theorem Fun.ok {st:Stmt}(F:Fun K x qual st f fd)(S:P2 N ps (D6 st))(len:∀vs H Q E,sp vs H Q E->vs.length=ps.length)
   (hbody:∀(cdv:Value) (A:Around) (outer:List Env) (s:Shared) (H:Hp) (vs:List V) (Q:VK) (E:XK),Room k (A.deeper (envOfC qual (D6 st) s.heap.objs.size f cdv))->sp vs H Q E->
     ∃t,PSs (cxOf CX0 P w K mg base N qual (D6 st) f cdv A outer s H E).nox (L5 st) t/\t { nx:=fun _ H'=>Q .non H',rt:=Q } (N7 N vs) H):FnOk P w K mg base CX0 (k + 1) f fd ps sp:=by
 obtain⟨oc,od,kV,doc,pm,an,cdv,ct,osl,rfl,lk,hcd⟩:=F.ex;refine fn_of lk hcd S len fun A outer s H vs Q E hr hsp=>?_;obtain⟨t,h,q⟩:=hbody cdv A outer s H vs Q E hr hsp;exact⟨t,h.nox,q⟩
theorem Fun.binds {st:Stmt}{f:Addr}{fd:FuncData}{ps:List Str}(F:Fun K x qual st f fd)
   (h:∀(kV doc pm:Value) (an:Option Addr) (cdv ct:Value) (us:List Value),us.length=ps.length->bindArgs (M9 x qual (Q4 st) (L5 st) (D6 st) .none kV doc pm an cdv ct) ⟨us,[]⟩=pure (ps.zip us)):c5 K fd ps []:=by
 obtain⟨oc,od,kV,doc,pm,an,cdv,ct,osl,rfl,lk,hcd⟩:=F.ex;exact .all (h kV doc pm an cdv ct)
theorem fun_mk {x qual:Str}{st:Stmt}{f:Addr}{oc:Value}{od an:Option Addr}{osl:Array (Option Value)}{kV doc pm cdv ct:Value}(l:K.lookup f=some ⟨oc,od,.func (M9 x qual (Q4 st) (L5 st) (D6 st) .none kV doc pm an cdv ct),osl⟩)
   (c:v4 K cdv qual=true) (k:i5 K (.ref f)=true):Fun K x qual st f (M9 x qual (Q4 st) (L5 st) (D6 st) .none kV doc pm an cdv ct):=⟨⟨oc,od,kV,doc,pm,an,cdv,ct,osl,rfl,l,c⟩,k⟩
end
section
variable {X:Cx}
theorem pv (i:Nat){x:Str}{pos:Pos}(hN:X.N[i]?=some x:=by rfl)(hv:Vis X.env.scope x:=by first | exact Or.inl rfl | exact Or.inr (Or.inl rfl) | exact Or.inr (Or.inr rfl))(hd:(x == ("__debug__":Str))=false:=by decide)
   (hcd:(x == ("__classdict__":Str))=false:=by decide):PE X (.Name x pos) (tVar i):=CW hN hv hd hcd
end
theorem ite2 {c A B:Prop}[Decidable c](h1:c->A)(h2:¬c->B):if c then A else B:=by grind
def Same (H H':Hp):Prop:=∀b o,H b=some o->H' b=some o
theorem Same.refl (H:Hp):Same H H:=fun _ _ h=>h
end L2
end
section
namespace L2
open PySem PySem.Spec PyProof.Rows
theorem Bx {prog:C6}{w:World}{A:Around}{R:Result->Shared->Prop}{s:Shared}{elt target iter:Expr}{ifs:List Expr}{scope:Scope}{pos:Pos}{it acc:Value}{env:Env}(I:Nat->Shared->Prop)
   (turn:∀n s,I n s->wpAny (model prog w) A (pyNext it) (fun r s₁=>match r with
     | none=>R (.ok .next) s₁
     | some v=>wpAny (model prog w) A (W9 target it v) (fun _ s₁'=>wpAny (model prog w) A (assign target env v) (fun _ s₂=>
         wpAny (model prog w) A (forIn ifs true fun c r=>if r=true then do let ok ← isTrue c env (eval c env);pure (b6 ok) else pure (b6 r)) (fun ok s₃=>
           if ok=true then wpAny (model prog w) A (eval elt env) (fun x s₄=>
             wpAny (model prog w) A (call (.builtin "list.append") [acc,x]) (fun _ s₅=>∃m,m < n/\I m s₅) (fun _ _=>False) s₄) (fun _ _=>False) s₃
           else ∃m,m < n/\I m s₃) (fun _ _=>False) s₂) (fun _ _=>False) s₁') (fun _ _=>False) s₁) (fun _ _=>False) s)
   (n:Nat) (h:I n s) :
   J8 (model prog w) A (.compLoop (.ListComp elt [⟨target,iter,ifs,0⟩] scope pos) 0 it acc env) R s:=by
 refine codeAny_loop rfl I (fun n s hI=>?_) n h;show wpAny _ A ((compTurn (.ListComp elt [⟨target,iter,ifs,0⟩] scope pos) 0 it acc env).onRaise (fun x=>do noteFrame x env;theTreesLotGoes x)) _ _ s;refine wpAny_noted ?_;rw [compTurn_list];refine A0 (Q8 (A0 (E9 (turn n s hI) (fun r s₁ h₁=>?_) fun _ _ h'=>h'.elim)));cases r with
 | none=>exact A4 h₁
 | some v =>
   refine A0 (E9 h₁ (fun _ s₁' h₁'=>?_) fun _ _ h'=>h'.elim);refine A0 (E9 h₁' (fun _ s₂ h₂=>A0 (E9 h₂ (fun ok s₃ h₃=>?_) fun _ _ h'=>h'.elim)) fun _ _ h'=>h'.elim);cases ok with
   | false=>exact A4 ⟨rfl,h₃⟩
   | true =>
     exact A0 (A0 (E9 h₃ (fun x s₄ h₄=>A0 (E9 h₄ (fun _ s₅ h₅=>A4 (A4 ⟨rfl,h₅⟩)) fun _ _ h'=>h'.elim)) fun _ _ h'=>h'.elim))
def B3 (X:Cx)(scope:Scope)(cl:List (Str×Addr))(N:List Str)(fp:List Addr)(C:Addr)(s:Shared)(H:Hp):Cx where
 prog:=X.prog
 w:=X.w
 K:=X.K
 mg:=X.mg
 base:=X.base
 A:=X.A
 N:=N
 s₀:=s
 H₀:=H
 env:=compEnvC scope cl C X.env
 outer:=X.stack
 stack:=X.stack
 ex:=fp
 fn:=fun _=>false
 calm:=X.calm
 pn:=X.pn
 xe:=fun _ _=>False
structure V2 (X:Cx)(scope:Scope)(cl:List (Str×Addr))(N:List Str)(cs:List (Option Nat)):Prop where
 clos:closureFor scope X.env=pure cl
 kind:scope.kind=.function
 nocell:∀y∈scope.names,y.2≠.cell
 names:∀y∈scope.names,y.2=.local->scope.names.lookup y.1=some .local
 sub:∀x c,cl.lookup x=some c->X.env.cells.lookup x=some c
 has:∀x,((L9 scope X.env).names.lookup x=some .cell\/(L9 scope X.env).names.lookup x=some .free)->∃c,cl.lookup x=some c
 len:cs.length=N.length
 cap:∀(k j:Nat) (x:Str),cs[k]?=some (some j)->N[k]?=some x->X.N[j]?=some x/\Vis X.env.scope x/\X.env.kindOf x≠some .local/\(∃c,cl.lookup x=some c)/\((L9 scope X.env).names.lookup x=some .cell\/(L9 scope X.env).names.lookup x=some .free)
def c6:List (Str×Addr)->List (Str×Addr)->Prop
 | [],_=>True
 | y::r,cells=>cells.lookup y.1=some y.2/\c6 r cells
theorem c6.get:∀{cl cells:List (Str×Addr)},c6 cl cells->∀x c,cl.lookup x=some c->cells.lookup x=some c:=by intro a;induction a <;> intros <;> grind [c6]
theorem R4 {X:Cx}{scope:Scope}{cl:List (Str×Addr)}{N:List Str}{cs:List (Option Nat)}(clos:closureFor scope X.env=pure cl)(kind:scope.kind=.function)(nocell:(scope.names.all fun y=>!(y.2 == .cell))=true)
   (names:(scope.names.all fun y=>!(y.2 == .local) || scope.names.lookup y.1 == some .local)=true) (sub:c6 cl X.env.cells)
   (has:((L9 scope X.env).names.all fun y=>!(y.2 == .cell || y.2 == .free) || (cl.lookup y.1).isSome)=true) (len:cs.length=N.length)
   (cap:((cs.zip N).all fun y=>match y.1 with | none=>true | some j=>X.N[j]? == some y.2 && (X.env.scope.names.lookup y.2 == some .cell || X.env.scope.names.lookup y.2 == some .free) && (cl.lookup y.2).isSome &&
     ((L9 scope X.env).names.lookup y.2 == some .cell || (L9 scope X.env).names.lookup y.2 == some .free))=true):V2 X scope cl N cs:=by
 refine⟨clos,kind,fun y hy=>?_,fun y hy e=>?_,sub.get,fun x hx=>?_,len,fun k j x hk hN=>?_⟩
 · have:=F3.mp nocell y hy;intro z;rw [z] at this;cases this
 · have:=F3.mp names y hy;rw [e] at this
   simpa using this
 · rcases hx with hx | hx
   · have:=F3.mp has _ (N0 hx);exact U5.mp (by simpa using this)
   · have:=F3.mp has _ (N0 hx);exact U5.mp (by simpa using this)
 · have hz:(cs.zip N)[k]?=some (some j,x):=by rw [List.getElem?_zip_eq_some];exact⟨hk,hN⟩
   have:=F3.mp cap _ (N3 hz);simp only [R0,Bool.or_eq_true,beq_iff_eq] at this;obtain⟨⟨⟨h1,h2⟩,h3⟩,h4⟩:=this;refine⟨h1,?_,?_,U5.mp h3,h4⟩
   · rcases h2 with h2 | h2
     · exact .inr (.inl h2)
     · exact .inr (.inr h2)
   · intro z;have z':X.env.scope.names.lookup x=some .local:=z;rw [z'] at h2;rcases h2 with h2 | h2 <;> cases h2
def Y3 (cs:List (Option Nat))(σ:St):St:=cs.map fun o=>o.bind fun j=>(σ[j]?).bind id
def PIf (X:Cx)(ifs:List Expr)(t:TT):Prop:=
 ∀ (pins : List (Addr × Obj)) (s : Shared) (σ : St) (H : Hp) (Q : Bool -> Hp -> Prop), Inv X pins σ H s -> t σ H Q ->
   wpAny (model X.prog X.w) X.A (forIn ifs true fun c r=>if r=true then do let ok ← isTrue c X.env (eval c X.env);pure (b6 ok) else pure (b6 r)) (TP X pins σ Q) X.xe s
def tTru:TT:=fun _ H Q=>Q true H
theorem Hc {X:Cx}:PIf X [] tTru:=fun pins s σ H Q I h=>wpAny_tests_nil ⟨H,I,h⟩
theorem Hd {X:Cx}{c:Expr}{t:TT}(h:PT X c t):PIf X [c] t:=fun pins s σ H Q I hq=>wpAny_tests_one (h pins s σ H Q I hq)
def CompW (J:It)(g:TG)(tt:TT)(te:TE)(Q:VK)(D:Addr)(σc:St)(H1:Hp):Prop:=∃W:Nat->Nat->St->Hp->Prop,(∃m,W 0 m σc H1)/\
 ∀i m σ' H',W i m σ' H'->(J.stop i H'/\Q (.ref D) H')\/(J.go i H'/\∀x H2,J.yld i H' x H2->g x σ' H2 fun σ3 H3=>tt σ3 H3 fun b H4=>
    if b=true then te σ3 H4 fun v H5=>∃ys,H5 D=some (.lst ys)/\ys.length < B4/\∃m',m' < m/\W (i + 1) m' σ3 (upd H5 D (.lst (ys++[v])))
    else ∃m',m' < m/\W (i + 1) m' σ3 H4)
def By (cs:List (Option Nat))(wi:TI)(g:TG)(tt:TT)(te:TE):TE:=fun σ H Q=>wi σ H fun J H1=>∀D,H1 D=none->CompW J g tt te Q D (Y3 cs σ) (upd H1 D (.lst []))
theorem Bz {X:Cx}{scope:Scope}{cl:List (Str×Addr)}{N:List Str}{cs:List (Option Nat)}(S:V2 X scope cl N cs){pins:List (Addr×Obj)}{σ:St}{H:Hp}{s:Shared}{fp:List Addr}{h₁:Heap}{tk:Nat}
   (I:Inv X pins σ H s) (f2:∀b∈fp,FpOk X pins H b) (ho:∀b∈fp,∃o,s.heap.get? b=some o)
   (old:∀b o,s.heap.get? b=some o->h₁.get? b=some o) (hns:h₁.Ns (s.heap.objs.size + 1) (fun x=>([]:List (Str×Value)).reverse.lookup x))
   (hD:h₁.get? s.heap.objs.size=some { cls:=.type "list",data:=.seq ([]:List Value).toArray }) :
   Inv (B3 X scope cl N fp (s.heap.objs.size + 1) s H) pins (Y3 cs σ) (upd H s.heap.objs.size (.lst [])) { s with heap:=h₁,toks:=tk }:=by
 have lt:∀b o,s.heap.get? b=some o->b < s.heap.objs.size:=fun b o e=>B1 e;have neC:∀b o,s.heap.get? b=some o->b≠s.heap.objs.size + 1:=fun b o e=>C5 (M6 (lt b o e));have neD:∀b o,s.heap.get? b=some o->b≠s.heap.objs.size:=fun b o e=>C5 (lt b o e);have nstk:∀b,b≠X.env.locals->b∉X.fs->b∉frs X.stack:=fun b h1 h2 hb=>(B9.mp (I.stkSub b hb)).elim h1 h2
 have cellO:∀x c,cl.lookup x=some c->∃v o,s.heap.get? c=some o/\s.heap.IsCell c v:=fun x c e=>by
   obtain⟨v,q⟩:=I.cell x c (S.sub x c e);obtain⟨o,h1,_⟩:=id q;exact⟨v,o,h1,q⟩
 refine⟨⟨I.ok.mod,S.kind,I.ok.glob,I.ok.blt,J4 _,fun x y c h1 h2=>I.ok.inj x y c (S.sub x c h1) (S.sub y c h2),fun x hx=>S.has x hx,fun x c hx=>(by cases hx),I.ok.hd,I.ok.frames,.inl rfl,fun b hb=>?_,I.bs,D7 I.ok.bsz I.sz,fun b o e hb=>?_,fun b hb=>?_,I.stack,I.stkFree,I.nos⟩,
   rfl,I.bare,Un.laid old (A8 _) I.fresh I.bigS,⟨_,hns,fun i x v e1 e2 e3=>?_⟩,fun x c e=>?_,?_,fun x c e=>?_,fun p hp=>?_,I.hok.laid old (A8 _) ⟨N5 _,[],0,.nil,hD⟩,?_⟩
 · obtain⟨o,e⟩:=ho b hb;exact⟨neC b o e,fun x c ec=>(f2 b hb).2.2.2.2.1 x c (S.sub x c ec)⟩
 · rcases(f2 b hb).2.2.2.1 with z | z
   · exact I.ok.noex b o e z
   · exact absurd (G4 (B1 e) (D7 I.ok.bsz z)) (N4 _)
 · exact nstk b (f2 b hb).2.1 (f2 b hb).2.2.1
 · have e2':(cs.map fun o=>o.bind fun j=>(σ[j]?).bind id)[i]?=some (some v):=e2;rw [F2] at e2';cases ec:cs[i]? with
   | none=>rw [ec] at e2';cases e2'
   | some o =>
     rw [ec] at e2';cases o with
     | none=>cases e2'
     | some j =>
       have e2'':(σ[j]?).bind id=some v:=by simpa using e2'
       cases es:σ[j]? with
       | none=>rw [es] at e2'';cases e2''
       | some ov =>
         rw [es] at e2'';have e4:ov=some v:=by simpa using e2''
         subst e4;obtain⟨hN,hv,hnl,⟨c,hc⟩,hk⟩:=S.cap i j x ec e1;obtain⟨m,hn,hl⟩:=I.loc;obtain⟨u,r,l⟩:=hl j x v hN es hv;refine⟨u,r,?_⟩;rcases l with⟨hk',_⟩ | ⟨_,c',hc',z⟩
         · grind
         · have ecc:c'=c:=by
             have:=S.sub x c hc;rw [hc'] at this;exact E4 this
           subst ecc;obtain⟨o,h1,h2⟩:=z;exact .inr ⟨hk,c',hc,⟨o,old _ o h1,h2⟩⟩
 · obtain⟨v,o,h1,o',h2,h3⟩:=cellO x c e;exact⟨v,o',old _ o' h2,h3⟩
 · show upd H s.heap.objs.size (.lst []) (s.heap.objs.size + 1)=none;rw [A9 (y4 _)];exact I.hok.fresh (J4 _)
 · obtain⟨v,o,h1,_⟩:=cellO x c e;rw [A9 (neD c o h1)];exact I.freeC x c (S.sub x c e)
 · obtain⟨e,n,ne,nf,d⟩:=I.pin p hp;exact⟨old _ _ e,by rw [A9 (neD _ _ e)];exact n,neC _ _ e,nstk _ ne nf,d⟩
 · show(cs.map _).length=N.length;rw [B8];exact S.len
theorem Inv.uncomp
   (I:Inv X pins σ H s) (f2:∀b∈fp,FpOk X pins H b)
   (J:Inv (B3 X scope cl N fp (s.heap.objs.size + 1) s H) pins σ' H' s') (hs:∀b,b≠s.heap.objs.size + 1->h'.get? b=s'.heap.get? b) :
   Inv X pins σ H' { s' with heap:=h' }:=by
 obtain⟨hh,g,d,t,os'⟩:=s';obtain rfl:os'=s.os:=J.os;have U:Un (frs X.stack) fp H H' s.heap hh:=J.base;have old:∀b o,s.heap.get? b=some o->b≠s.heap.objs.size + 1:=fun b o e=>C5 (M6 (B1 e));have hs':∀b,b≠s.heap.objs.size + 1->h'.get? b=hh.get? b:=hs
 have trC:∀b u,H' b=some u->b≠s.heap.objs.size + 1:=fun b u e z=>by
   have q:H' (s.heap.objs.size + 1)=none:=J.free;rw [z,q] at e;cases e
 show Inv X pins σ H' { s with heap:=h',gens:=g,drawn:=d,toks:=t };refine I.call (h':=h') (g':=g) (d':=d) (t':=t) (ch:=fp) ⟨fun b o e n hb hx=>?_,fun b o e n hb hx=>?_,U.free,fun b o e hx=>?_,U.tups,U.frzs,U.tbls,U.sys⟩ (fun b u e=>?_) J.bare fun b hb=>?_
 · rw [hs' b (old b o e)];exact U.keep b o e n hb hx
 · rw [hs' b (old b o e)];exact U.slot b o e n hb hx
 · rw [hs' b (old b o e)];exact U.there b o e hx
 · refine(J.hok b u e).stay (fun c v hc q=>?_) (fun _ q=>q) fun _ _ q=>q
   have ne:c≠s.heap.objs.size + 1:=by
     rcases hc with z | z
     · rw [z];exact trC b u e
     · exact trC c _ z
   rw [hs' c ne];exact q
 · exact⟨(f2 b hb).2.2.2.1,(f2 b hb).2.1,(f2 b hb).2.2.2.2.1,(f2 b hb).2.2.2.2.2⟩
theorem DC {X:Cx}{scope:Scope}{cl:List (Str×Addr)}{N:List Str}{cs:List (Option Nat)}{elt tg iter:Expr}{ifs:List Expr}{pos:Pos}{wi:TI}{g:TG}{tt:TT}{te:TE}(S:V2 X scope cl N cs)(hc:X.calm=true)(hi:PI X tg iter wi)
   (hb:∀(fp:List Addr) (C:Addr) (s:Shared) (H:Hp),PG (B3 X scope cl N fp C s H) tg g/\PIf (B3 X scope cl N fp C s H) ifs tt/\PE (B3 X scope cl N fp C s H) elt te)
   (hs:∀x,L6 iter X.env x=pure x:=by intro _;rfl) :
   PE X (.ListComp elt [⟨tg,iter,ifs,0⟩] scope pos) (By cs wi g tt te):=by
 intro pins s σ H Q I h;rw [eval_ListComp];refine v5 (use:=none) rfl hs S.clos S.kind S.names (thn (hi pins s σ H _ I h) fun v s1 h1=>thn h1 fun itv s2 h2=>?_);obtain⟨it,fp,tn,J,H2,rfl,I2,T,st2,f2,q⟩:=h2
 have ho:∀b∈fp,∃o,s2.heap.get? b=some o:=fun b hb=>by
   obtain⟨o,e,_⟩:=T.obj 0 _ st2 b hb;exact⟨o,e⟩
 refine J6 (wpAny_newFunctionEnv S.nocell (by intro y hy;simp at hy) (fun h₁ hns₁ hsb₁=>?_) S.kind);dsimp only at hns₁ hsb₁ ⊢;have hC:(s2.heap.push { cls:=.type "list",dict:=none,data:=.seq ([]:List Value).toArray }).objs.size=s2.heap.objs.size + 1:=by rw [N2]
 generalize hH2:s2.heap.push { cls:=.type "list",dict:=none,data:=.seq ([]:List Value).toArray }=hp2 at hns₁ hsb₁ hC ⊢;have old:∀b o,s2.heap.get? b=some o->h₁.get? b=some o:=fun b o e=>hsb₁.extBut b o (by rw [hC];exact C5 (M6 (B1 e))) (B5 _ (hH2▸B5 _ e));have hD:h₁.get? s2.heap.objs.size=some { cls:=.type "list",data:=.seq ([]:List Value).toArray }:=hsb₁.extBut _ _ (by rw [hC];exact C5 (Nat.lt_succ_self _)) (B5 _ (hH2▸D8 _ rfl));rw [hC] at hns₁ ⊢;obtain⟨W,⟨m0,w0⟩,turn⟩:=q s2.heap.objs.size I2.fresh;have Ic:=Bz S (tk:=s2.toks + ([]:List (Str×Value)).length) I2 f2 ho old hns₁ hD;have nstk:∀b,b≠X.env.locals->b∉X.fs->b∉frs X.stack:=fun b h1 h2 hb=>(B9.mp (I2.stkSub b hb)).elim h1 h2
 have stat:∀{H':Hp},(∀b∈fp,H' b=none)->∀b∈fp,FpOk (B3 X scope cl N fp (s2.heap.objs.size + 1) s2 H2) pins H' b:=fun hn b hb=>by
   obtain⟨o,e⟩:=ho b hb;exact⟨hn b hb,C5 (M6 (B1 e)),nstk b (f2 b hb).2.1 (f2 b hb).2.2.1,.inl hb,fun x c ec=>(f2 b hb).2.2.2.2.1 x c (S.sub x c ec),(f2 b hb).2.2.2.2.2⟩
 obtain⟨hg,hf,he⟩:=hb fp (s2.heap.objs.size + 1) s2 H2;have st1:tn 0 h₁:=T.keep _ _ _ st2 fun b hb o e=>old b o e
 have fr1:∀b∈fp,upd H2 s2.heap.objs.size (.lst []) b=none:=fun b hb=>by
   obtain⟨o,e⟩:=ho b hb;rw [A9 (C5 (B1 e))];exact(f2 b hb).1
 have loop:∀s₃:Shared,s₃={ s2 with heap:=h₁,toks:=s2.toks + ([]:List (Str×Value)).length }->
     J8 (model X.prog X.w) X.A (.compLoop (.ListComp elt [⟨tg,iter,ifs,0⟩] scope pos) 0 (.ref it) (.ref s2.heap.objs.size) (compEnvC scope cl (s2.heap.objs.size + 1) X.env))
       (compPost (model X.prog X.w) X.A X.xe none (EP X pins σ Q) (.ref s2.heap.objs.size) (s2.heap.objs.size + 1)) s₃:=by
   rintro s₃ rfl;refine Bx (fun n s'=>∃i σ' H',Inv (B3 X scope cl N fp (s2.heap.objs.size + 1) s2 H2) pins σ' H' s'/\tn i s'.heap/\(∀b∈fp,H' b=none)/\W i n σ' H') ?_ m0 ⟨0,_,_,Ic,st1,fr1,w0⟩;rintro n s3 ⟨i,σ3,H3,I3,st3,fr3,w3⟩;rcases turn i n σ3 H3 w3 with⟨stop,qn⟩ | ⟨go,step⟩
   · refine thn (T.done (B3 X scope cl N fp (s2.heap.objs.size + 1) s2 H2) rfl rfl rfl hc i pins s3 σ3 H3 (fun _ _=>False) I3 (stat fr3) st3 stop) fun r s4 ⟨hr,I4⟩=>?_;subst hr;obtain⟨m4,hn4,_⟩:=I4.loc;exact⟨m4,hn4,fun h' hs'=>⟨.ref s2.heap.objs.size,H3,Inv.uncomp I2 f2 I4 fun b hb=>hs'.2 b hb,rfl,qn⟩⟩
   · refine thn (T.item (B3 X scope cl N fp (s2.heap.objs.size + 1) s2 H2) rfl rfl rfl hc i pins s3 σ3 H3 (fun _ _=>False) I3 (stat fr3) st3 go) fun r s4 ⟨u,hr,h4⟩=>?_;subst hr;refine thn h4 fun _ s5 ⟨x,H5,I5,r5,y5,st5,fr5⟩=>?_;have I5':=I5.pinned (stat fr5) (T.obj _ _ st5);refine thn (hg _ s5 σ3 H5 x u _ I5' r5 (step x H5 y5)) fun _ s6 ⟨σ6,H6,I6,q6⟩=>?_
     have again:∀{σ7:St} {H7:Hp} {s7:Shared},Inv (B3 X scope cl N fp (s2.heap.objs.size + 1) s2 H2) (pins++L3 fp s5.heap) σ7 H7 s7->(∃m',m' < n/\W (i + 1) m' σ7 H7)->
         ∃m,m < n/\∃i σ' H',Inv (B3 X scope cl N fp (s2.heap.objs.size + 1) s2 H2) pins σ' H' s7/\tn i s7.heap/\(∀b∈fp,H' b=none)/\W i m σ' H':=fun {σ7 H7 s7} I7 n7=>by
       obtain⟨m',hm,w7⟩:=n7;refine⟨m',hm,i + 1,σ7,H7,I7.unpinned,T.keep _ _ _ st5 fun b hb o e=>(I7.pin (b,o) (E1 _ (E1 _ (N6 hb e)))).1,fun b hb=>?_,w7⟩;obtain⟨o,e,d⟩:=T.obj _ _ st5 b hb;exact(I7.pin (b,o) (E1 _ (E1 _ (N6 hb e)))).2.1
     refine thn (hf _ s6 σ6 H6 _ I6 q6) fun ok s7 ⟨H7,I7,q7⟩=>?_;cases ok with
     | false=>exact again I7 q7
     | true =>
       refine thn (he _ s7 σ6 H7 _ I7 q7) fun y s8 ⟨v8,H8,I8,r8,ys,e8,z8,n8⟩=>?_
       have ma:=l7 (X:=B3 X scope cl N fp (s2.heap.objs.size + 1) s2 H2) _ s8 σ6 H8 (.ref s2.heap.objs.size) [v8] (.ref s2.heap.objs.size) [y]
         (fun v H9=>∃m',m' < n/\W (i + 1) m' σ6 H9) I8 rfl (.cons r8 .nil) ⟨_,ys,v8,rfl,rfl,e8,z8,n8⟩
       exact thn ma fun _ s9 ⟨v9,H9,I9,_,q9⟩=>again I9 q9
 exact w5 (loop _ rfl) (T.self _ 0 _ _ _ st1 (loop _ rfl))
end L2
end
section
namespace L2
open PySem PySem.Spec PyProof.Rows
section
variable {X:Cx}
theorem Vals.getE (r:Vals xs us)(h:j < us.length):∃x,xs[j]?=some x/\RelV x us[j]:=by
 have hl:=r.length;have h':j < xs.length:=by omega
 obtain⟨u,e,q⟩:=r.get (i:=j) (x:=xs[j]) (by simp [h']);refine⟨xs[j],by simp [h'],?_⟩;have e':us[j]?=some us[j]:=by simp [h]
 rw [e'] at e;cases e;exact q
theorem DE (h:L4 x=true):eqV x x=true:=by
 cases x <;> simp_all [L4,eqV]
theorem He:G5 X (.builtin "isinstance") (fun vs H Q=>∃x n t b,vs=[x,.ty n]/\TyOf X.K H x t/\i4 X.K t (.type n)=some b/\Q (.bl b) H):=by
 intro pins s σ H vs us Q I rv h;obtain⟨x,n,t,b,rfl,ty,e,q⟩:=h;obtain⟨u,v,rfl,r1,r2⟩:=rv.two;cases r2;exact GG I r1 ty e fun tk=>⟨.bl b,H,I.tok tk,rfl,q⟩
theorem Hf:∀{bs:List Bool} {us:List Value} {j:Nat} {u:Value},Vals (bs.map V.bl) us->us[j]?=some u->∃b,bs[j]?=some b/\u=Value.bool b:=by
 intro bs us j u r e
 have hj:j < us.length:=by
   obtain⟨h,_⟩:=D2.mp e;exact h
 obtain⟨x,e1,q1⟩:=r.getE hj;rw [F2] at e1;cases eb:bs[j]? with
 | none=>rw [eb] at e1;cases e1
 | some b =>
   rw [eb] at e1;cases e1;have e2:us[j]?=some us[j]:=by simp [hj]
   rw [e2] at e;cases e;exact⟨b,rfl,q1⟩
theorem Hg (bs:List Bool):((B6 bs.length).all fun i=>(bs[i]?).getD true)=bs.all id:=by
 rw [j9,F3,F3];constructor
 · intro h b hb;obtain⟨i,hi,rfl⟩:=j7 hb;have:=h i (O6.mpr hi)
   simpa [C4 hi] using this
 · intro h i hi;have hi':=O6.mp hi;simp only [C4 hi',Option.getD_some];exact h _ (List.getElem_mem hi')
theorem Hh {s:Shared}{h':Heap}{o:Obj}(hk:∀b x,b∉[s.heap.objs.size]->(s.heap.push o).get? b=some x->h'.get? b=some x):∀b x,s.heap.get? b=some x->h'.get? b=some x:=
 fun b x e=>hk b x (fun hm=>by rw [K1.mp hm] at e;exact N4 _ (B1 e)) (B5 _ e)
def rAll (K:A3):List V->Hp->VK->Prop:=fun vs H Q=>∃(p:Addr) (bs:List Bool),vs=[.ref p]/\SqL K H p (bs.map V.bl)/\Q (.bl (bs.all id)) H
theorem Hi (hc:X.calm=true):G5 X (.builtin "all") (rAll X.K):=by
 intro pins s σ H vs us Q I rv h;obtain⟨p,bs,rfl,hq,q⟩:=h;obtain⟨u,rfl,r1⟩:=rv.one;cases r1;obtain⟨its,r,pl,hz⟩:=I.list hq;have hl:=pl.isList;have hlt:p < s.heap.objs.size:=by obtain⟨_,e,_⟩:=hl;exact B1 e
 have len:its.toArray.size=bs.length:=by simpa using r.length.symm
 refine call_all_walk (w6 hl ?_)
 refine⟨s.heap.objs.size,[s.heap.objs.size,p],[s.heap.objs.size],its.toArray.size,_,_,fun i=>(bs[i]?).getD true,rfl,Walks.list (A:=X.A.in1) (I.ok.hd hc) _ p (C5 hlt) its.toArray,
   ⟨⟨_,D8 _ rfl,rfl,rfl⟩,hl.push _⟩,fun i v s' Q' E' hP hQ=>?_,fun h' tk hk=>?_⟩
 · obtain⟨b,e,rfl⟩:=Hf r (j:=i) (u:=v) (by grind);simp only [e,Option.getD_some] at hQ;exact W8 hQ
 · rw [len,Hg];exact⟨.bl _,H,I.kept (Hh hk),rfl,q⟩
def Ite (K:A3)(a:Addr):It:=
 ⟨fun i H=>∃xs x,SqL K H a xs/\xs[i]?=some x,fun i H x H'=>∃p v,H p=none/\x=.ref p/\H'=upd H p (.tup [.int i,v])/\∀xs,SqL K H a xs->xs[i]?=some v,fun i H=>∃xs,SqL K H a xs/\xs.length<=i⟩
theorem Inv.turnedNew {ch:List Addr}(I:Inv X pins σ H s)(k:∀b o,b∉ch->s.heap.get? b=some o->h'.get? b=some o)
   (hf:∀b∈ch,FpOk X pins H b) (new:E6 X.prog X.w (upd H s.heap.objs.size (.tup xs)) h' s.heap.objs.size (.tup xs)):Inv X pins σ (upd H s.heap.objs.size (.tup xs)) { s with heap:=h',toks:=t' }:=by
 have nch:∀b u,H b=some u->b∉ch:=fun b u e z=>by rw [(hf b z).1] at e;cases e
 have nD:∀b o,s.heap.get? b=some o->b≠s.heap.objs.size:=fun b o e=>C5 (B1 e)
 refine I.step (g':=s.gens) (d':=s.drawn) (ch:=ch) (fun b hb=>⟨(hf b hb).2.2.2.1,(hf b hb).2.1,(hf b hb).2.2.2.2.1,(hf b hb).2.2.2.2.2⟩) (fun b o _ _ hc e _=>k b o hc e) (fun b o _ _ hc e _=>⟨o.slots,k b o hc e⟩) (fun b o _ e n=>by rw [A9 (nD b o e)];exact n)
   (fun b o hc e=>⟨o,k b o hc e⟩) (fun b ys e=>by rw [A9 (O9 e I.fresh)];exact e) (fun b o u e=>by rw [A9 (O9 e I.fresh)];exact e) (fun b ps e=>⟨#[],by rw [A9 (O9 e I.fresh),e];simp⟩) (fun z=>by unfold NS;rw [A9 (C5 I.bigS)];exact z) (fun m hm=>?_) (fun b u e=>?_) I.bare
 · obtain⟨o,es,ep,ho,r⟩:=hm;exact⟨o,es,ep,k _ o (fun z=>(hf _ z).2.1 rfl) ho,r⟩
 · by_cases hb:b=s.heap.objs.size
   · subst hb;rw [D5] at e;cases e;exact new
   · rw [A9 hb] at e;refine(I.hok b u e).stay (fun c v hc q=>k c v ?_ q) (fun c q=>by rw [A9 (O9 q I.fresh)];exact q) fun c ys q=>by rw [A9 (O9 q I.fresh)];exact q
     rcases hc with z | z
     · rw [z];exact nch b u e
     · exact nch c _ z
theorem Hj {P:C6}{w:World}{K:A3}{elts:List Expr}{x1}{pos:Pos}(a e it:Addr)(hne:e≠it) :
   Turn P w K (.Tuple elts x1 pos) (Ite K a) [e,it] e (fun i h=>(∃old,IsEnum h e it i old)/\h.IsListIter it a i) where
 mem:=by simp
 obj:=fun i h st b hb=>by
   obtain⟨⟨old,he⟩,o,e1,c,d⟩:=st;have hb':b=e\/b=it:=by simpa using hb
   rcases hb' with rfl | rfl
   · exact⟨_,he,fun v z=>by cases z⟩
   · exact⟨o,e1,fun v z=>by rw [d] at z;cases z⟩
 keep:=fun i h h' st k=>by
   obtain⟨⟨old,he⟩,st⟩:=st;exact⟨⟨old,k e (by simp) _ he⟩,st.at fun o e=>k it (by simp) o e⟩
 item:=by
   intro X hP hw hK hc i pins s σ H E I hf st hg;subst hP hw hK;obtain⟨⟨old,he⟩,st⟩:=st;obtain⟨xs,x,hq,hx⟩:=hg;obtain⟨its,rv,p,hz⟩:=I.list hq;obtain⟨u,hu,ru⟩:=rv.get hx;refine wpAny_pyNext_enum_item he st p.isList (x:=u) (by simpa using hu) hne fun h' he' st' ht hz' k=>?_;refine⟨_,rfl,wpAny_letOwnedTupleGo_enum (s:={ s with heap:=h',toks:=s.toks + 1 }) he' fun h'' he'' sb=>?_⟩;have hpe:s.heap.objs.size≠e:=X7 (B1 he);have ht'':h''.get? s.heap.objs.size=some { cls:=.type "tuple",data:=.seq #[.int i s.toks,u] }:=(sb.2 _ hpe).trans ht
   have k':∀b o,b∉[e,it]->s.heap.get? b=some o->h''.get? b=some o:=fun b o hb q=>by
     have hb1:b≠e:=fun z=>hb (by simp [z]);have hb2:b≠it:=fun z=>hb (by simp [z]);exact(sb.2 b hb1).trans (k b o hb1 hb2 q)
   have I1:Inv X pins σ (upd H s.heap.objs.size (.tup [.int i,x])) { s with heap:=h'',toks:=s.toks + 1 }:=
     I.turnedNew k' hf ⟨by show 2<=B4;decide,[.int i s.toks,u],.cons ⟨_,rfl⟩ (.cons ru .nil),⟨_,ht'',rfl,_,rfl⟩⟩
   refine⟨.ref s.heap.objs.size,_,I1,rfl,⟨_,x,I.fresh,rfl,rfl,fun ys hy=>by rw [I.list_inj hy hq];exact hx⟩,⟨⟨u,he''⟩,?_⟩,fun b hb=>?_⟩
   · obtain⟨o,e1,c,d⟩:=st';exact⟨o,(sb.2 it (Ne.symm hne)).trans e1,c,d⟩
   · have hb':b=e\/b=it:=by simpa using hb
     have hbs:b≠s.heap.objs.size:=by
       rcases hb' with rfl | rfl
       · exact Ne.symm hpe
       · obtain⟨o,e1,_⟩:=st;exact C5 (B1 e1)
     rw [A9 hbs];exact(hf b hb).1
 done:=by
   intro X hP hw hK hc i pins s σ H E I hf st hg;subst hP hw hK;obtain⟨⟨old,he⟩,st⟩:=st;obtain⟨xs,hq,hx⟩:=hg;obtain⟨its,rv,p,hz⟩:=I.list hq;obtain⟨f0,f1,f2,f3,f4,f5⟩:=hf it (by simp);have hl:=rv.length;exact wpAny_pyNext_enum_end (I.ok.hd hc) he st p.isList (by simp;omega) fun h' eb=>⟨rfl,I.turned (t':=s.toks) (fun b o hb e=>eb b o hb e) f0 f1 f3 f4 f5⟩
 self:=fun _ _ _ _ _ st h=>by
   obtain⟨⟨old,he⟩,_⟩:=st;exact w8 he h
def iEnum (K:A3)(ta:TA):TI:=fun σ H R=>ta σ H fun vs H1=>∃a,vs=[.ref a]/\(∃xs,SqL K H1 a xs)/\R (Ite K a) H1
theorem Hk {l:Expr}{ta:TA}{p pos:Pos}{elts:List Expr}{x1}{tpos:Pos}(hg:Gl X "enumerate")(hm:X.mg "enumerate"=none)(ha:PA X [l] ta)(hs:C3 [l] X.env=[(false,eval l X.env)]:=by rfl) :
   PI X (.Tuple elts x1 tpos) (.Call (.Name "enumerate" p) [l] [] pos) (iEnum X.K ta):=by
 intro pins s σ H R I h;refine Call_ (Q1 I hg hm boot_enumerate (U3 (thn (ha pos pins s σ H _ I h) fun us s1 ⟨vs,H1,I1,r1,q1⟩=>?_) hs rfl));obtain⟨a,e,⟨xs,hq⟩,q⟩:=q1;subst e;obtain⟨u,rfl,ru⟩:=r1.one;obtain rfl:u=K3 a:=ru;obtain⟨its,rv,pl,hz⟩:=I1.list hq;refine call_enumerate_list pl.isList fun h' hE hI hsz hk=>?_;refine w8 hE ?_;have I2:Inv X pins σ H1 { s1 with heap:=h' }:=I1.kept (t':=s1.toks) hk;refine⟨s1.heap.objs.size + 1,[s1.heap.objs.size + 1,s1.heap.objs.size],_,_,H1,rfl,I2,Hj a _ _ (y4 _),⟨⟨_,hE⟩,hI⟩,fun b hb=>?_,q⟩;have hb':b=s1.heap.objs.size + 1\/b=s1.heap.objs.size:=by simpa using hb
 rcases hb' with rfl | rfl
 · exact I1.fpOk (J4 _) (I1.hok.fresh (J4 _))
 · exact I1.fpOk (A8 _) (I1.hok.fresh (A8 _))
end
end L2
end
section
namespace L2
open PySem PySem.Spec PyProof.Rows
theorem DF:E5 "len"=some (.builtin "len"):=by decide +kernel
theorem DG:E5 "abs"=some (.builtin "abs"):=by decide +kernel
theorem bt_min:E5 "min"=some (.builtin "min"):=by decide +kernel
theorem bt_max:E5 "max"=some (.builtin "max"):=by decide +kernel
theorem bt_all:E5 "all"=some (.builtin "all"):=by decide +kernel
theorem Hl:E5 "isinstance"=some (.builtin "isinstance"):=by decide +kernel
theorem bt_sum:E5 "sum"=some (.builtin "sum"):=by decide +kernel
theorem bt_repr:E5 "repr"=some (.builtin "repr"):=by decide +kernel
theorem BA:E5 "int"=some (.type "int"):=by decide +kernel
theorem BC:E5 "str"=some (.type "str"):=by decide +kernel
theorem DH:E5 "bool"=some (.type "bool"):=by decide +kernel
theorem Hm:E5 "list"=some (.type "list"):=by decide +kernel
theorem Q5:E5 "tuple"=some (.type "tuple"):=by decide +kernel
theorem Hn (p:V->Prop)(h:(∀v,p v->R v H)->tIf tA ta tb σ H R)(hp:∀v,p v->R v H):tIf tA ta tb σ H R:=h hp
theorem at_map {ns:List Int}(h0:0<=k)(h:k < (ns.length:Int)):∃v,atI (ns.map V.int) k=some (.int v):=by
 have hk:k.toNat < ns.length:=by omega
 have q:atI (ns.map V.int) ((k.toNat:Nat):Int)=some (.int ns[k.toNat]):=Bu (by rw [F2,C4 hk] <;> rfl)
 rw [show((k.toNat:Nat):Int)=k by omega] at q;exact⟨_,q⟩
theorem kit_of {K:A3}(h:(if(L0 T == L0 S)=true then some true else if PySem.W.kitMeta S=true then(fastBuiltinMro T).map (·.contains (.type S)) else none)=some b):i4 K (.type T) (.type S)=some b:=h
structure Kn (P:C6)(w:World)(K:A3)(mg:Str->Option Value)(base:Heap)(x:Str)(k:Nat)(ps:List Str)(sp:Sp):Prop where
 ex:∃(f:Addr) (fd:FuncData),FnOk P w K mg base CX0 k f fd ps sp/\c5 K fd ps []/\i5 K (.ref f)=true/\mg x=some (.ref f)/\∃oc od osl,K.lookup f=some ⟨oc,od,.func fd,osl⟩
structure Fn0 (K:A3)(mg:Str->Option Value)(x:Str)(st:Stmt):Prop where
 ex:∃(f:Addr) (fd:FuncData),Fun K x x st f fd/\mg x=some (.ref f)
theorem fn0_mk {K:A3}{st:Stmt}(X:K.In h)(G:h.Ns N1 mg){kV doc pm cdv ct:Value}
   (a:PySem.W.nsIn K N1 x=some (some (.ref f))) (l:K.lookup f=some ⟨oc,od,.func (M9 x x (Q4 st) (L5 st) (D6 st) .none kV doc pm an cdv ct),osl⟩)
   (c:v4 K cdv x=true) (k:i5 K (.ref f)=true):Fn0 K mg x st:=⟨f,_,fun_mk l c k,PySem.W.mg_of X G a⟩
section
variable {P:C6}{w:World}{K:A3}{mg:Str->Option Value}{base:Heap}
theorem Fn0.ok {st:Stmt}{N ps:List Str}{k:Nat}{sp:Sp}(F:Fn0 K mg x st)(S:P2 N ps (D6 st))(len:∀vs H Q E,sp vs H Q E->vs.length=ps.length)
   (bd:∀(kV doc pm:Value) (an:Option Addr) (cdv ct:Value) (us:List Value),us.length=ps.length->bindArgs (M9 x x (Q4 st) (L5 st) (D6 st) .none kV doc pm an cdv ct) ⟨us,[]⟩=pure (ps.zip us))
   (hbody:∀(f:Addr) (cdv:Value) (A:Around) (outer:List Env) (s:Shared) (H:Hp) (vs:List V) (Q:VK) (E:XK),Room k (A.deeper (envOfC x (D6 st) s.heap.objs.size f cdv))->sp vs H Q E->
     ∃t,PSs (cxOf CX0 P w K mg base N x (D6 st) f cdv A outer s H E).nox (L5 st) t/\t { nx:=fun _ H'=>Q .non H',rt:=Q } (N7 N vs) H):Kn P w K mg base x (k + 1) ps sp:=by
 obtain⟨f,fd,F1,m⟩:=F.ex
 have lk:∃oc od osl,K.lookup f=some ⟨oc,od,.func fd,osl⟩:=by
   obtain⟨oc,od,kV,doc,pm,an,cdv,ct,osl,_,lk,hcd⟩:=F1.ex;exact⟨oc,od,osl,lk⟩
 exact⟨f,fd,F1.ok S len fun cdv A outer s H vs Q E hr h=>hbody f cdv A outer s H vs Q E hr h,F1.binds bd,F1.kp,m,lk⟩
theorem Kn.imp {x:Str}{k:Nat}{ps:List Str}{sp sp':Sp}(G:Kn P w K mg base x k ps sp)(h:∀vs H Q E,sp' vs H Q E->sp vs H Q E):Kn P w K mg base x k ps sp':=by
 obtain⟨f,fd,a,b,c,d⟩:=G.ex;exact⟨f,fd,a.imp h,b,c,d⟩
end
section
variable {X:Cx}{x:Str}{p pos:Pos}{e:Expr}{es:List Expr}{t:TA}{ps:List Str}{sp:Sp}{j k:Nat}
theorem pe_fn (G:Kn X.prog X.w X.K X.mg X.base x k ps sp)(hr:Room j X.A)(hk:k<=j)(hg:Gl X x)(ha:PA X (e::es) t)(hdb:(x == ("__debug__":Str))=false:=by decide)
   (he:C3 (e::es) X.env=(false,eval e X.env)::C3 es X.env:=by rfl) (hpl:(backTo pos (C3 es X.env)).any (·.1)=false:=by rfl) :
   PE X (.Call (.Name x p) (e::es) [] pos) (tCall sp [] E0 t):=by
 intro pins s σ H Q I h;obtain⟨f,fd,F,hb,hkp,hm,_⟩:=G.ex;exact GH F (hr.mono hk) hg hm hkp hb .nil pass0 ha hdb he hpl pins s σ H Q I h
end
def Ag (K:A3):Sp:=fun vs H Q _=>∃(a:Addr) (ns:List Int),vs=[.ref a]/\SqL K H a (ns.map V.int)/\ns.length<=63/\Only H/\∀H',Q (.bl true) H'
theorem Ho {l:PySem.W.OpenLaw}{q:C6}{loose:List Str}{XP:(Str->Option Value)->Heap->Prop}{YP:World->Heap->Prop}{d:DefRec}{K:Params->A3}{x:Str}{k:Nat}(hn:l.most=some 63)(hdf:d.params.defaults=[])(hk:Room k callerA)
   (hY:∀(w:World) (h:Heap),YP w h->(K w.params).In h)
   (F:∀(w:World) (mg:Str->Option Value) (h:Heap),(K w.params).In h->h.Ns N1 mg->∃st,Fn0 (K w.params) mg d.name st/\
     (∀(kV doc pm:Value) (an:Option Addr) (cdv ct:Value) (s:Shared) (u:Value),BindsTo s (M9 d.name d.name (Q4 st) (L5 st) (D6 st) .none kV doc pm an cdv ct) ⟨[u],[]⟩ [(x,u)])/\
     ∀base:Heap,(K w.params).In base->base.Ns N1 mg->Kn l.prog w (K w.params) mg base d.name k [x] (Ag (K w.params))) :
   PySem.W.WalkO q loose XP YP l.row.toRowW d [] (fun f vs=>PySem.call f vs):=by
 refine L2.Ha (n:=63) (k:=k) (x:=x) (CX:=fun _=>CX0) (sp:=fun w=>Ag (K w.params)) hn (by decide) hdf hk hY (fun w mg fa h KX G hmg=>?_) (fun _ _ a ns hl hO hS=>⟨a,ns,rfl,hS,hl,hO,fun _=>rfl⟩) fun _ _ _ _ _ z=>z;obtain⟨st,F0,hb,hF⟩:=F w mg h KX G;obtain⟨f,fd,F1,m⟩:=F0.ex;have e:=hmg.symm.trans m;cases e;refine⟨fd,fun s u=>?_,fun base kb nb=>?_⟩
 · obtain⟨oc,od,kV,doc,pm,an,cdv,ct,osl,rfl,lk,hcd⟩:=F1.ex;exact hb kV doc pm an cdv ct s u
 · obtain⟨f',fd',a,b,c,m',oc',od',osl',lk'⟩:=(hF base kb nb).ex;have e:=m.symm.trans m';cases e;obtain⟨oc,od,kV,doc,pm,an,cdv,ct,osl,_,lk,hcd⟩:=F1.ex;have e2:=lk.symm.trans lk';cases e2;exact a
end L2
end
section
namespace L2
open PySem PySem.Spec PyProof.Rows
section
variable {X:Cx}
theorem Hq:OpR X (L8 .Mult) (fun x y H Q=>∃i n,x=.str i/\y=.int n/\i.length<=100/\0<=n/\n<=1000/\Q (.str (Txt.mul i n)) H):=by
 intro pins s σ H x y v u Q I rx ry h;obtain⟨i,n,rfl,rfl,h1,h2,h3,q⟩:=h;obtain⟨t,rfl⟩:=rx;obtain⟨t',rfl⟩:=ry;exact SB.mul (mulOk_of 100 1000 h1 h3 (by omega) (by decide) (by decide)) fun t' tk=>⟨.str _,H,I.tok _,⟨_,rfl⟩,q⟩
theorem c7 (x y:Str):(x++y).cps.toList=x.cps.toList++y.cps.toList:=by
 show(x.cps++y.cps).toList=_;simp
theorem l8 (x:Str):x.length=x.cps.toList.length:=by
 show x.cps.size=_;simp
end
theorem Same.lay {H H':Hp}{p:Addr}{o:HO}(s:Same H H')(h:H' p=none):Same H (upd H' p o):=fun b u e=>by
 rw [A9 (O9 (s b u e) h)];exact s b u e
theorem V3 {n:Nat}{d:Int}(h0:0<=d)(h1:d < n):ixN n d=some d.toNat:=by grind [ixN]
theorem BD {α:Type}{xs:List α}{d:Int}(h0:0<=d)(h1:d < xs.length):∃x,xs[d.toNat]?=some x/\atI xs d=some x:=by
 have hk:d.toNat < xs.length:=by omega
 refine⟨xs[d.toNat],C4 hk,?_⟩;unfold atI;rw [V3 h0 h1];simp
end L2
end
section
namespace L2
open PySem PySem.Spec PyProof.Rows
section
variable {X:Cx}
theorem Hr:OpR X (G0 .LtE) (fun x y H Q=>∃i j,x=.str i/\y=.str j/\Q (.bl (!decide (j.cps.toList < i.cps.toList))) H):=by
 intro pins s σ H x y v u Q I rx ry h;obtain⟨i,j,rfl,rfl,q⟩:=h;obtain⟨t,rfl⟩:=rx;obtain⟨t',rfl⟩:=ry;exact PySem.P.le_str ⟨.bl _,H,I,rfl,q⟩
def rSlS:V->Option Int->Option Int->Hp->VK->Prop:=fun x lo hi H Q=>∃z,x=.str z/\z.length<=B4/\Q (.str (Y2 z lo hi)) H
theorem sl_str:SlR X rSlS:=by
 intro pins s σ H x v vl vu lo hi sl Q I rx hs pl pu h;obtain⟨z,rfl,hz,q⟩:=h;obtain⟨t,rfl⟩:=rx;refine⟨"str",_,F.slot_str_getitem.lookup,typeIs_str _ _ _,?_⟩;cases pl with
 | none =>
   cases pu with
   | none=>exact w4 (l:=none) (u:=none) (st:=none) hs rfl (x0 ⟨D7 (k6 z _ _) hz,fun t' k=>⟨.str _,H,I.tok _,⟨_,rfl⟩,q⟩⟩)
   | int j tj=>exact w4 (l:=none) (u:=some (j,tj)) (st:=none) hs rfl (x0 ⟨D7 (k6 z _ _) hz,fun t' k=>⟨.str _,H,I.tok _,⟨_,rfl⟩,q⟩⟩)
 | int i ti =>
   cases pu with
   | none=>exact w4 (l:=some (i,ti)) (u:=none) (st:=none) hs rfl (x0 ⟨D7 (k6 z _ _) hz,fun t' k=>⟨.str _,H,I.tok _,⟨_,rfl⟩,q⟩⟩)
   | int j tj=>exact w4 (l:=some (i,ti)) (u:=some (j,tj)) (st:=none) hs rfl (x0 ⟨D7 (k6 z _ _) hz,fun t' k=>⟨.str _,H,I.tok _,⟨_,rfl⟩,q⟩⟩)
def Its (x:Str):It:=⟨fun i _=>i < x.cps.toList.length,fun i H v H'=>H'=H/\∃c,x.cps.toList[i]?=some c/\v=.str ⟨#[c]⟩,fun i _=>x.cps.toList.length<=i⟩
theorem Hs {P:C6}{w:World}{K:A3}{tg:Expr}(x:Str)(t:Tok)(it:Addr):Turn P w K tg (Its x) [it] it (fun i h=>h.IsStrIter it "str_ascii_iterator" x t i) where
 mem:=by simp
 obj:=fun i h st b hb=>by
   have e:b=it:=by simpa using hb
   subst e;obtain⟨o,e,c,d⟩:=st;exact⟨o,e,fun v z=>by rw [d] at z;cases z⟩
 keep:=fun i h h' st k=>by
   obtain⟨o,e,c,d⟩:=st;exact⟨o,k it (by simp) o e,c,d⟩
 item:=by
   intro X hP hw hK hc i pins s σ H E I hf st hg;subst hP hw hK;have hg':i < x.cps.toList.length:=hg;have hx:x.cps[i]?=some x.cps.toList[i]:=by rw [<- Bc];exact C4 hg'
   obtain⟨f0,f1,f2,f3,f4,f5⟩:=hf it (by simp);refine wpAny_pyNext_ascii_item st hx fun h' st' sb=>?_;have I1:Inv X pins σ H { s with heap:=h',toks:=s.toks + 1 }:=I.turned (t':=s.toks + 1) (fun b o hb e=>(sb.2 b hb).trans e) f0 f1 f3 f4 f5;obtain⟨o,e,c,d⟩:=id st';exact⟨_,rfl,l4 (s:={ s with heap:=h',toks:=s.toks + 1 }) e c d (by decide) ⟨.str ⟨#[x.cps.toList[i]]⟩,H,I1,⟨_,rfl⟩,⟨rfl,_,C4 hg',rfl⟩,st',fun b hb=>(hf b hb).1⟩⟩
 done:=by
   intro X hP hw hK hc i pins s σ H E I hf st hg;subst hP hw hK;have hg':x.cps.toList.length<=i:=hg;have hx:x.cps[i]?=none:=by rw [<- Bc];exact O4 hg'
   obtain⟨f0,f1,f2,f3,f4,f5⟩:=hf it (by simp);exact wpAny_pyNext_ascii_end (I.ok.hd hc) st hx fun h' eb=>⟨rfl,I.turned (t':=s.toks) (fun b o hb e=>eb b o hb e) f0 f1 f3 f4 f5⟩
 self:=fun _ _ _ _ _ st h=>wpAny_pyIter_striter_ascii st h
def iStr (te:TE):TI:=fun σ H R=>te σ H fun v H1=>∃x,v=.str x/\x.cps.all (· < 128)=true/\R (Its x) H1
theorem pi_str {tg l:Expr}{tl:TE}(hl:PE X l tl):PI X tg l (iStr tl):=by
 intro pins s σ H R I h;refine thn (hl pins s σ H _ I h) fun v s1 ⟨x,H1,I1,r1,q1⟩=>?_;obtain⟨x,rfl,ha,q⟩:=q1;obtain⟨t,rfl⟩:=r1;refine wpAny_pyIter_ascii ha ?_;refine⟨s1.heap.objs.size,[s1.heap.objs.size],_,_,H1,rfl,I1.kept (t':=s1.toks) fun b o e=>B5 _ e,Hs x t _,⟨_,D8 _ rfl,rfl,rfl⟩,fun b hb=>?_,q⟩;have e:b=s1.heap.objs.size:=by simpa using hb
 subst e;exact I1.fpOk (A8 _) (I1.hok.fresh (A8 _))
def rCatA (K:A3):R2:=fun x y H Q=>∃a b xs ys,x=.ref a/\y=.ref b/\SqT K H a xs/\SqT K H b ys/\xs.length + ys.length<=B4/\
 (xs=[]->Q (.ref b) H)/\(xs≠[]->ys=[]->Q (.ref a) H)/\(xs≠[]->ys≠[]->∀p,H p=none->Q (.ref p) (upd H p (.tup (xs++ys))))
theorem Ht:OpR X (L8 .Add) (rCatA X.K):=by
 intro pins s σ H x y v u Q I rx ry h;obtain⟨a,b,xs,ys,rfl,rfl,ha,hb,hz,q0,q1,q2⟩:=h
 by_cases hx:xs=[]
 · cases rx;cases ry;obtain⟨its,r1,p1,_⟩:=I.tuple ha;obtain⟨its2,r2,p2,_⟩:=I.tuple hb;obtain⟨⟨cls,dd,data,sl⟩,ho,hc,n,hd⟩:=id p1;obtain⟨⟨cls2,dd2,data2,sl2⟩,ho2,hc2,n2,hd2⟩:=id p2;simp only at hc hd hc2 hd2;subst hc hd hc2 hd2;have he:its=[]:=r1.nil_iff.mpr hx
   exact concat_meets ⟨_,ho,rfl⟩ ⟨_,ho2,rfl⟩ noFill_tuple_add seq_tuple_add Bf Be (Bd _ _)
     (tuple_addW0 a b its.toArray its2.toArray n n2 dd dd2 sl sl2 (by simp [he])) ⟨ho,ho2,⟨.ref b,H,I,rfl,q0 hx⟩⟩
 · exact GN pins s σ H _ _ v u Q I rx ry ⟨a,b,xs,ys,rfl,rfl,ha,hb,hx,hz,q1 hx,q2 hx⟩
end
structure Num0 (mg:Str->Option Value)(x:Str)(i:Int):Prop where
 ex:∃t,mg x=some (.int i t)
theorem Hu {K:A3}{h:Heap}{mg:Str->Option Value}{x:Str}{i:Int}{t:Tok}(X:K.In h)(G:h.Ns N1 mg)(a:PySem.W.nsIn K N1 x=some (some (.int i t))):Num0 mg x i:=⟨t,PySem.W.mg_of X G a⟩
theorem pe_num {X:Cx}{x:Str}{i:Int}{pos:Pos}(n:Num0 X.mg x i)(hg:Gl X x)(hd:(x == ("__debug__":Str))=false:=by decide):PE X (.Name x pos) (tC (.int i)):=fun pins s σ H Q I h=>by
 obtain⟨t,e⟩:=n.ex;exact Gi (v:=.int i) hg e ⟨t,rfl⟩ hd pins s σ H Q I h
end L2
end
section
namespace Pu
open PySem PySem.Spec L2
inductive PV where
 | non | bl (b:Bool) | int (i:Int) | str (x:Str) | ty (n:String) | pot (k:Nat)
 | tup (xs:List PV) | lst (xs:List PV) | dct (ks:List Key) (xs:List PV)
 /-- the script -/
 | scr (ns:List Int)
 /-- a dict by tuples that nothing changes any more -/
 | fdt (ks:List (List Key)) (xs:List PV)
structure Gh where
 M:List Addr
 pots:List Addr
def KLst (K:A3)(a:Addr)(xs:List V):Prop:=∃(o:Obj) (its:Array Value) (n:Nat),K.lookup a=some o/\o.cls=.type "list"/\o.dict=none/\o.data=.seq its n/\its.size<=B4/\Vals xs its.toList
def AtL (M:List Addr)(H:Hp)(a:Addr)(xs:List V):Prop:=a∉M/\H a=some (.lst xs)
def AtT (M:List Addr)(H:Hp)(a:Addr)(xs:List V):Prop:=a∉M/\H a=some (.tup xs)
theorem AtL.sq {K:A3}{M:List Addr}{H:Hp}{a:Addr}{xs:List V}(h:AtL M H a xs):SqL K H a xs:=SqL.of h.2
theorem AtT.sq {K:A3}{M:List Addr}{H:Hp}{a:Addr}{xs:List V}(h:AtT M H a xs):SqT K H a xs:=SqT.of h.2
mutual
def Rep (K:A3)(G:Gh)(H:Hp):PV->V->Prop
 | .non,v=>v=.non
 | .bl b,v=>v=.bl b
 | .int i,v=>v=.int i
 | .str x,v=>v=.str x
 | .ty n,v=>v=.ty n
 | .pot k,v=>∃p,G.pots[k]?=some p/\v=.ref p
 | .tup xs,v=>∃a vs,v=.ref a/\AtT G.M H a vs/\Reps K G H xs vs
 | .lst xs,v=>∃a vs,v=.ref a/\AtL G.M H a vs/\Reps K G H xs vs
 | .scr ns,v=>∃a,v=.ref a/\((a∉G.M/\∃o,H a=some (.frz o (.lst (ns.map V.int))))\/KLst K a (ns.map V.int))
 | .dct ks xs,v=>∃a kvs,v=.ref a/\a∉G.M/\H a=some (.dK kvs)/\kvs.map (·.1)=ks/\Reps K G H xs (kvs.map (·.2))
 | .fdt ks xs,v=>∃a kvs,v=.ref a/\a∉G.M/\Rd H a (.dT kvs)/\kvs.map (·.1)=ks/\Reps K G H xs (kvs.map (·.2))
def Reps (K:A3)(G:Gh)(H:Hp):List PV->List V->Prop
 | [],vs=>vs=[]
 | x::xs,vs=>∃v r,vs=v::r/\Rep K G H x v/\Reps K G H xs r
end
section
variable {K:A3}{G G':Gh}{H H':Hp}
theorem Rd.keep {a:Addr}{u:HO}(h:Rd H a u)(k:∀o,H a=some o->H' a=some o):Rd H' a u:=by grind [HO,Rd]
theorem Rd.ne {a:Addr}{u:HO}(h:Rd H a u):H a≠none:=by grind [HO,Rd]
mutual
theorem Rep.mono (hk:∀b o,b∉G.M->H b=some o->H' b=some o)(hM:∀a∈G'.M,a∈G.M\/H a=none)(hp:∀(k:Nat) (p:Addr),G.pots[k]?=some p->G'.pots[k]?=some p):∀(x:PV) (v:V),Rep K G H x v->Rep K G' H' x v
 | .non,v,h=>h
 | .bl b,v,h=>h
 | .int i,v,h=>h
 | .str x,v,h=>h
 | .ty n,v,h=>h
 | .pot k, v, h => by
   obtain⟨p,e,r⟩:=h;exact⟨p,hp k p e,r⟩
 | .tup xs, v, h => by
   obtain⟨a,vs,e,t,r⟩:=h;refine⟨a,vs,e,?_,Reps.mono hk hM hp xs vs r⟩;obtain⟨n,t⟩:=t;exact⟨fun z=>(hM a z).elim n (fun z=>by rw [z] at t;cases t),hk a _ n t⟩
 | .lst xs, v, h => by
   obtain⟨a,vs,e,t,r⟩:=h;refine⟨a,vs,e,?_,Reps.mono hk hM hp xs vs r⟩;obtain⟨n,t⟩:=t;exact⟨fun z=>(hM a z).elim n (fun z=>by rw [z] at t;cases t),hk a _ n t⟩
 | .scr ns, v, h => by
   obtain⟨a,e,h⟩:=h;refine⟨a,e,?_⟩;rcases h with⟨n,o,t⟩ | h
   · exact .inl ⟨fun z=>(hM a z).elim n (fun z=>by rw [z] at t;cases t),o,hk a _ n t⟩
   · exact .inr h
 | .dct ks xs, v, h => by
   obtain⟨a,kvs,e,n,t,ek,r⟩:=h;exact⟨a,kvs,e,fun z=>(hM a z).elim n (fun z=>by rw [z] at t;cases t),hk a _ n t,ek,Reps.mono hk hM hp xs _ r⟩
 | .fdt ks xs, v, h => by
   obtain⟨a,kvs,e,n,t,ek,r⟩:=h;exact⟨a,kvs,e,fun z=>(hM a z).elim n (fun z=>Rd.ne (u:=.dT kvs) t z),Rd.keep (u:=.dT kvs) t (fun o e=>hk a o n e),ek,Reps.mono hk hM hp xs _ r⟩
theorem Reps.mono (hk:∀b o,b∉G.M->H b=some o->H' b=some o)(hM:∀a∈G'.M,a∈G.M\/H a=none)(hp:∀(k:Nat) (p:Addr),G.pots[k]?=some p->G'.pots[k]?=some p):∀(xs:List PV) (vs:List V),Reps K G H xs vs->Reps K G' H' xs vs
 | [],vs,h=>h
 | x :: xs, vs, h => by
   obtain⟨v,r,e,hx,hr⟩:=h;exact⟨v,r,e,Rep.mono hk hM hp x v hx,Reps.mono hk hM hp xs r hr⟩
end
theorem Rep.same (h:Rep K G H x v)(s:Same H H'):Rep K G H' x v:=Rep.mono (fun b o _ e=>s b o e) (fun a z=>.inl z) (fun _ _ e=>e) x v h
theorem Reps.same (h:Reps K G H x v)(s:Same H H'):Reps K G H' x v:=Reps.mono (fun b o _ e=>s b o e) (fun a z=>.inl z) (fun _ _ e=>e) x v h
def Fr (G:Gh)(H H':Hp):Prop:=∀b o,b∉G.M->H b=some o->H' b=some o
theorem Fr.refl:Fr G H H:=fun _ _ _ e=>e
theorem Fr.trans (a:Fr G H H')(b:Fr G H' H2):Fr G H H2:=fun c o n e=>b c o n (a c o n e)
theorem Fr.of (s:Same H H'):Fr G H H':=fun b o _ e=>s b o e
theorem Rep.fr (h:Rep K G H x v)(s:Fr G H H'):Rep K G H' x v:=Rep.mono s (fun a z=>.inl z) (fun _ _ e=>e) x v h
theorem Reps.fr (h:Reps K G H x v)(s:Fr G H H'):Reps K G H' x v:=Reps.mono s (fun a z=>.inl z) (fun _ _ e=>e) x v h
theorem Reps.length:∀{xs:List PV} {vs:List V},Reps K G H xs vs->xs.length=vs.length
 | [],vs,h=>by cases(show vs=[] from h);rfl
 | x :: xs, vs, h => by
   obtain⟨v,r,e,hx,hr⟩:=h;subst e;simp [Reps.length hr]
theorem Reps.get:∀{xs:List PV} {vs:List V} {i:Nat} {v:V},Reps K G H xs vs->vs[i]?=some v->∃x,xs[i]?=some x/\Rep K G H x v
 | [],vs,i,v,h,e=>by cases(show vs=[] from h);simp at e
 | x :: xs, vs, i, v, h, e => by
   obtain⟨w,r,e1,hx,hr⟩:=h;subst e1;cases i with
   | zero=>simp at e;subst e;exact⟨x,rfl,hx⟩
   | succ i=>simpa using Reps.get (i:=i) hr (by grind)
theorem Reps.get':∀{xs:List PV} {vs:List V} {i:Nat} {x:PV},Reps K G H xs vs->xs[i]?=some x->∃v,vs[i]?=some v/\Rep K G H x v:=fun {xs vs i x} h e=>by
 obtain⟨hi,_⟩:=D2.mp e;have hl:=h.length;have e2:vs[i]?=some (vs[i]'(by omega)):=C4 (by omega);obtain⟨y,ey,r⟩:=h.get e2;rw [e] at ey;cases ey;exact⟨_,e2,r⟩
theorem Reps.append:∀{xs ys:List PV} {vs us:List V},Reps K G H xs vs->Reps K G H ys us->Reps K G H (xs++ys) (vs++us)
 | [],ys,vs,us,h,h'=>by cases(show vs=[] from h);exact h'
 | x :: xs, ys, vs, us, h, h' => by
   obtain⟨w,r,e1,hx,hr⟩:=h;subst e1;exact⟨w,r++us,rfl,hx,Reps.append hr h'⟩
theorem Reps.take:∀{xs:List PV} {vs:List V} (n:Nat),Reps K G H xs vs->Reps K G H (xs.take n) (vs.take n)
 | xs,vs,0,h=>by simp [Reps]
 | [],vs,n + 1,h=>by cases(show vs=[] from h);exact rfl
 | x :: xs, vs, n + 1, h => by
   obtain⟨w,r,e1,hx,hr⟩:=h;subst e1;exact⟨w,r.take n,rfl,hx,Reps.take n hr⟩
theorem Reps.drop:∀{xs:List PV} {vs:List V} (n:Nat),Reps K G H xs vs->Reps K G H (xs.drop n) (vs.drop n)
 | xs,vs,0,h=>by simpa using h
 | [],vs,n + 1,h=>by cases(show vs=[] from h);exact rfl
 | x :: xs, vs, n + 1, h => by
   obtain⟨w,r,e1,hx,hr⟩:=h;subst e1;exact Reps.drop n hr
theorem Reps.one (h:Rep K G H x v):Reps K G H [x] [v]:=⟨v,[],rfl,h,rfl⟩
theorem Reps.set:∀{xs:List PV} {vs:List V} (n:Nat) {x:PV} {v:V},Reps K G H xs vs->Rep K G H x v->Reps K G H (xs.set n x) (vs.set n v)
 | [],vs,n,x,v,h,_=>by cases(show vs=[] from h);exact rfl
 | y :: xs, vs, 0, x, v, h, h' => by
   obtain⟨w,r,e1,hx,hr⟩:=h;subst e1;exact⟨v,r,rfl,h',hr⟩
 | y :: xs, vs, n + 1, x, v, h, h' => by
   obtain⟨w,r,e1,hx,hr⟩:=h;subst e1;exact⟨w,r.set n v,rfl,hx,Reps.set n hr h'⟩
def MutO:HO->Prop
 | .lst _=>True
 | .dK _=>True
 | .dT _=>True
 | .set _ _=>True
 | .tbl _=>True
 | _=>False
end
inductive OK where
 | lst | dk (ks:List Key) | dt (ks:List (List Key)) | st (zs:List Key)
def memS (zs:List Key)(k:Key):Bool:=zs.any fun z=>decide (z=k)
def mkO:OK->List V->HO
 | .lst,vs=>.lst vs
 | .dk ks,vs=>.dK (ks.zip vs)
 | .dt ks,vs=>.dT (ks.zip vs)
 | .st zs,_=>.set (memS zs) zs.length
theorem DI (k:OK)(vs:List V):MutO (mkO k vs):=by cases k <;> trivial
inductive Slot where
 | v (x:PV)
 | ow (k:OK) (xs:List PV)
abbrev Slot.own (xs:List PV):Slot:=.ow .lst xs
abbrev Env:=List (Option Slot)
structure PotK where
 at_:List Addr->Hp->Addr->Nat->Prop
 mono:∀{M H p n m},at_ M H p n->n<=m->at_ M H p m
 keep:∀{M H H' p n},at_ M H p n->H' p=H p->(∀b o,b∉M->H b=some o->H' b=some o)->at_ M H' p n
 more:∀{M M' H p n},at_ M H p n->(∀a∈M',a∈M\/H a=none)->at_ M' H p n
 mu:∀{M H p n},at_ M H p n->∃o,H p=some o/\MutO o
 /-- what is known of all pots together -/
 has:List Addr->Prop:=fun _=>True
 hasM:∀{l:List Addr} {p:Addr},has l->p∉l->has (l++[p]):=by intro _ _ _ _;trivial
structure Ct where
 K:A3
 T:PotK
 M0:List Addr
 pots0:List Addr
 H0:Hp
 np:Bool
def BE (C:Ct)(G:Gh)(H:Hp)(o:Option (Option V)):Slot->Prop
 | .v x=>∃v,o=some (some v)/\Rep C.K G H x v
 | .ow k xs=>∃a vs,o=some (some (.ref a))/\a∈G.M/\a∉C.M0/\a∉G.pots/\H a=some (mkO k vs)/\Reps C.K G H xs vs
structure SR (C:Ct)(G:Gh)(σ:St)(H:Hp)(env:Env)(n:Nat):Prop where
 frame:∀b o,b∉C.pots0->C.H0 b=some o->H b=some o
 sub:∀a∈G.M,a∈C.M0\/C.H0 a=none
 sup:∀a∈C.M0,a∈G.M
 pots:∀p∈G.pots,p∈G.M/\C.T.at_ G.M H p n
 pre:∃l,G.pots=C.pots0++l/\(l=[]\/C.np=true)
 mu:∀a∈G.M,∃o,H a=some o/\MutO o
 slots:∀(i:Nat) (s:Slot),env[i]?=some (some s)->BE C G H (σ[i]?) s
 inj:∀(i j:Nat) (xs ys:OK×List PV) (a:Addr),env[i]?=some (some (.ow xs.1 xs.2))->env[j]?=some (some (.ow ys.1 ys.2))->σ[i]?=some (some (.ref a))->σ[j]?=some (some (.ref a))->i=j
 p0:(∀p∈C.pots0,p∈C.M0)/\C.T.has G.pots
 len:env.length=σ.length
 newp:∀p∈G.pots,p∉C.pots0->p∈C.M0->False
section
variable {C:Ct}{G G':Gh}{σ:St}{H H':Hp}{env:Env}{n:Nat}
theorem SR.hasG (S:SR C G σ H env n):C.T.has G.pots:=S.p0.2
theorem SR.fresh (S:SR C G σ H env n)(h:H p=none):p∉G.M:=fun z=>by
 obtain⟨o,e,_⟩:=S.mu p z;rw [h] at e;cases e
theorem SR.same (S:SR C G σ H env n)(s:Same H H'):SR C G σ H' env n where
 frame b o hb e:=s b o (S.frame b o hb e)
 sub:=S.sub
 sup:=S.sup
 pots p hp:=⟨(S.pots p hp).1,C.T.keep (S.pots p hp).2 (by
   obtain⟨o,e,_⟩:=C.T.mu (S.pots p hp).2
   rw [e,s p o e]) fun b o _ e=>s b o e⟩
 pre:=S.pre
 mu a ha:=by
   obtain⟨o,e,m⟩:=S.mu a ha;exact⟨o,s a o e,m⟩
 slots i x e:=by
   have:=S.slots i x e;cases x with
   | v x =>
     obtain⟨v,e1,r⟩:=this;exact⟨v,e1,r.same s⟩
   | ow kk xs =>
     obtain⟨a,vs,e1,h1,h2,h3,h4,r⟩:=this;exact⟨a,vs,e1,h1,h2,h3,s _ _ h4,r.same s⟩
 inj:=S.inj
 p0:=S.p0
 len:=S.len
 newp:=S.newp
theorem Same.lay1 (h:H p=none):Same H (upd H p o):=(Same.refl H).lay h
end
end Pu
end
section
namespace Pu
open PySem PySem.Spec L2
abbrev PK:=PV->Env->Nat->Prop
abbrev pE:=Env->Nat->PK->Prop
abbrev pT:=Env->Nat->(Bool->Env->Nat->Prop)->Prop
abbrev pA:=Env->Nat->(List PV->Env->Nat->Prop)->Prop
abbrev pF:=List PV->Nat->(PV->Nat->Prop)->Prop
def RdV (K:A3)(G:Gh)(H:Hp)(x:PV)(v:V):Prop:=Rep K G H x v\/∃a vs xs,x=.lst xs/\v=.ref a/\H a=some (.lst vs)/\Reps K G H xs vs
def RdS (C:Ct)(G:Gh)(σ:St)(H:Hp)(env:Env)(x:PV)(v:V):Prop:=Rep C.K G H x v\/∃(i:Nat) (a:Addr) (xs:List PV),env[i]?=some (some (.ow .lst xs))/\σ[i]?=some (some (.ref a))/\x=.lst xs/\v=.ref a
def EOk (K:A3)(T:PotK)(t:TE)(pe:pE):Prop:=∀(C:Ct) (G:Gh) (σ:St) (H:Hp) (env:Env) (n:Nat) (R:PK) (Q:VK),C.K=K->C.T=T->SR C G σ H env n->pe env n R->
 (∀x env' n' v H',R x env' n'->SR C G σ H' env' n'->Rep K G H' x v->Fr G H H'->Q v H')->t σ H Q
def ROk (K:A3)(T:PotK)(t:TE)(pe:pE):Prop:=∀(C:Ct) (G:Gh) (σ:St) (H:Hp) (env:Env) (n:Nat) (R:PK) (Q:VK),C.K=K->C.T=T->SR C G σ H env n->pe env n R->
 (∀x env' n' v H',R x env' n'->SR C G σ H' env' n'->RdS C G σ H' env' x v->Fr G H H'->Q v H')->t σ H Q
def NOk (K:A3)(T:PotK)(t:TE)(pn:pA):Prop:=∀(C:Ct) (G:Gh) (σ:St) (H:Hp) (env:Env) (n:Nat) (R:List PV->Env->Nat->Prop) (Q:VK),C.K=K->C.T=T->SR C G σ H env n->pn env n R->
 (∀xs env' n' a vs Hb,R xs env' n'->SR C G σ Hb env' n'->Fr G H Hb->Hb a=none->Reps K G Hb xs vs->Q (.ref a) (upd Hb a (.lst vs)))->t σ H Q
def TOk (K:A3)(T:PotK)(t:TT)(pt:pT):Prop:=∀(C:Ct) (G:Gh) (σ:St) (H:Hp) (env:Env) (n:Nat) (R:Bool->Env->Nat->Prop) (Q:Bool->Hp->Prop),C.K=K->C.T=T->SR C G σ H env n->pt env n R->
 (∀b env' n' H',R b env' n'->SR C G σ H' env' n'->Fr G H H'->Q b H')->t σ H Q
def AOk (K:A3)(T:PotK)(t:TA)(pa:pA):Prop:=∀(C:Ct) (G:Gh) (σ:St) (H:Hp) (env:Env) (n:Nat) (R:List PV->Env->Nat->Prop) (Q:List V->Hp->Prop),C.K=K->C.T=T->SR C G σ H env n->pa env n R->
 (∀xs env' n' vs H',R xs env' n'->SR C G σ H' env' n'->Reps K G H' xs vs->Fr G H H'->Q vs H')->t σ H Q
structure EW (X:Cx)(e:Expr)(t:TE):Prop where
 h:PE X e t
structure SW (X:Cx)(st:Stmt)(t:TS):Prop where
 h:PS X st t
structure GW (X:Cx)(e:Expr)(g:TG):Prop where
 h:PG X e g
theorem vw (i:Nat)(hN:X.N[i]?=some x:=by rfl)(hv:Vis X.env.scope x:=by first | exact Or.inl rfl | exact Or.inr (Or.inl rfl) | exact Or.inr (Or.inr rfl))(hd:(x == ("__debug__":Str))=false:=by decide)(hcd:(x == ("__classdict__":Str))=false:=by decide):EW X (.Name x pos) (tVar i):=⟨CW hN hv hd hcd⟩
def QE {ι:Type}(T:PotK)(K:A3)(F:ι->Cx)(e:Expr)(pe:pE):Prop:=∃t,(∀z,PE (F z) e t)/\EOk K T t pe
def QR {ι:Type}(T:PotK)(K:A3)(F:ι->Cx)(e:Expr)(pe:pE):Prop:=∃t,(∀z,PE (F z) e t)/\ROk K T t pe
def QN {ι:Type}(T:PotK)(K:A3)(F:ι->Cx)(e:Expr)(pn:pA):Prop:=∃t,(∀z,PE (F z) e t)/\NOk K T t pn
def QT {ι:Type}(T:PotK)(K:A3)(F:ι->Cx)(e:Expr)(pt:pT):Prop:=∃t,(∀z,PT (F z) e t)/\TOk K T t pt
def QW {ι:Type}(T:PotK)(K:A3)(F:ι->Cx)(e:Expr)(pt:pT):Prop:=∃t,(∀z,PW (F z) e t)/\TOk K T t pt
def QA {ι:Type}(T:PotK)(K:A3)(F:ι->Cx)(es:List Expr)(pa:pA):Prop:=∃t,(∀z,PA (F z) es t)/\AOk K T t pa
section
variable {T:PotK}{ι:Type}{K:A3}{F:ι->Cx}{e a b:Expr}{es:List Expr}{pe pa pb:pE}
theorem Reps.nil:Reps K G H [] []:=rfl
theorem Reps.cons (h:Rep K G H x v)(h':Reps K G H xs vs):Reps K G H (x::xs) (v::vs):=⟨v,vs,rfl,h,h'⟩
theorem RdS.rd (S:SR C G σ H env n)(h:RdS C G σ H env x v):RdV C.K G H x v:=by
 rcases h with h | ⟨i,a,xs,e1,e2,ex,ev⟩
 · exact .inl h
 · obtain⟨a',vs,e3,_,_,_,h4,r⟩:=S.slots i _ e1;rw [e2] at e3;cases e3;exact .inr ⟨a,vs,xs,ex,ev,h4,r⟩
theorem RdV.lst (h:RdV K G H (.lst xs) v):∃a vs,v=.ref a/\SqL K H a vs/\Reps K G H xs vs:=by
 rcases h with⟨a,vs,e,t,r⟩ | ⟨a,vs,ys,ex,ev,h4,r⟩
 · exact⟨a,vs,e,t.sq,r⟩
 · cases ex;exact⟨a,vs,ev,SqL.of h4,r⟩
theorem RdV.rep {K:A3}{G:Gh}{H:Hp}{x:PV}{v:V}(h:RdV K G H x v)(hx:∀xs,x≠.lst xs):Rep K G H x v:=by simp_all [Gh,Hp,PV,RdV,V]
theorem RdV.tup (h:RdV K G H (.tup xs) v):∃a vs,v=.ref a/\SqT K H a vs/\Reps K G H xs vs:=by
 obtain⟨a,vs,e,t,r⟩:=h.rep (fun _ z=>nomatch z);exact⟨a,vs,e,t.sq,r⟩
theorem RdV.int (h:RdV K G H (.int i) v):v=.int i:=h.rep (fun _ z=>nomatch z)
theorem RdV.str (h:RdV K G H (.str i) v):v=.str i:=h.rep (fun _ z=>nomatch z)
theorem RdV.bl (h:RdV K G H (.bl i) v):v=.bl i:=h.rep (fun _ z=>nomatch z)
theorem RdV.non (h:RdV K G H .non v):v=.non:=h.rep (fun _ z=>nomatch z)
def qV (i:Nat):pE:=fun env n R=>match env[i]? with | some (some (.v x))=>R x env n | _=>False
def qO (i:Nat):pE:=fun env n R=>match env[i]? with | some (some (.ow .lst xs))=>R (.lst xs) env n | _=>False
def qC (c:PV):pE:=fun env n R=>R c env n
theorem qV_ex (h:qV i env n R):∃x,env[i]?=some (some (.v x))/\R x env n:=by
 unfold qV at h
 split at h
 · exact⟨_,by assumption,h⟩
 · exact h.elim
theorem qO_ex (h:qO i env n R):∃xs,env[i]?=some (some (.ow .lst xs))/\R (.lst xs) env n:=by
 unfold qO at h
 split at h
 · exact⟨_,by assumption,h⟩
 · exact h.elim
theorem qe_var (i:Nat)(h:∀z,EW (F z) (.Name x pos) (tVar i)):QE T K F (.Name x pos) (qV i):=by
 refine⟨_,fun z=>(h z).h,fun C G σ H env n R Q hK hT S hp k=>?_⟩;obtain⟨x,e,r⟩:=qV_ex hp;obtain⟨v,ev,rv⟩:=S.slots i _ e;exact⟨v,ev,k _ _ _ _ _ r S (hK▸rv) Fr.refl⟩
theorem R5 (i:Nat)(h:∀z,EW (F z) (.Name x pos) (tVar i)):QR T K F (.Name x pos) (qO i):=by
 refine⟨_,fun z=>(h z).h,fun C G σ H env n R Q hK hT S hp k=>?_⟩;obtain⟨xs,e,r⟩:=qO_ex hp;obtain⟨a,vs,ev,_,_,_,_,rv⟩:=S.slots i _ e;exact⟨.ref a,ev,k _ _ _ _ _ r S (.inr ⟨i,a,xs,e,ev,rfl,rfl⟩) Fr.refl⟩
theorem QE.r (h:QE T K F e pe):QR T K F e pe:=by
 obtain⟨t,h1,h2⟩:=h;exact⟨t,h1,fun C G σ H env n R Q hK hT S hp k=>h2 C G σ H env n R Q hK hT S hp fun x env' n' v H' r S' rp f=>k x env' n' v H' r S' (.inl (by rw [hK];exact rp)) f⟩
theorem ok_c (h:∀G H,Rep K G H c v):EOk K T (tC v) (qC c):=fun C G σ H env n R Q hK hT S hp k=>k _ _ _ _ _ hp S (h G H) Fr.refl
theorem A5 {i j pos}:QE T K F (.Constant (.int i) j pos) (qC (.int i)):=⟨_,fun z=>C8,ok_c fun _ _=>rfl⟩
theorem K4 {i j pos}:QE T K F (.Constant (.bool i) j pos) (qC (.bl i)):=⟨_,fun z=>pe_bl,ok_c fun _ _=>rfl⟩
theorem M5 {i j pos}:QE T K F (.Constant (.str i) j pos) (qC (.str i)):=⟨_,fun z=>pe_str,ok_c fun _ _=>rfl⟩
theorem BF {j pos}:QE T K F (.Constant .none j pos) (qC .non):=⟨_,fun z=>pe_non,ok_c fun _ _=>rfl⟩
theorem qe_num {x:Str}{i:Int}{pos:Pos}(n:∀z,Num0 (F z).mg x i)(hg:∀z,Gl (F z) x)(hd:(x == ("__debug__":Str))=false:=by decide):QE T K F (.Name x pos) (qC (.int i)):=⟨_,fun z=>pe_num (n z) (hg z) hd,ok_c fun _ _=>rfl⟩
abbrev w1:=PV->(PV->Prop)->Prop
abbrev w2:=PV->PV->(PV->Prop)->Prop
def W2 (K:A3)(r:R2)(w:w2):Prop:=∀(G:Gh) (H:Hp) (x y:PV) (v u:V) (R:PV->Prop) (Q:VK),(∀p,H p=none->p∉G.M)->RdV K G H x v->RdV K G H y u->w x y R->
 (∀z v' H',R z->Same H H'->Rep K G H' z v'->Q v' H')->r v u H Q
def W1 (K:A3)(r:V->Hp->VK->Prop)(w:w1):Prop:=∀(G:Gh) (H:Hp) (x:PV) (v:V) (R:PV->Prop) (Q:VK),(∀p,H p=none->p∉G.M)->RdV K G H x v->w x R->
 (∀z v' H',R z->Same H H'->Rep K G H' z v'->Q v' H')->r v H Q
def qOp (w:w2)(pa pb:pE):pE:=fun env n R=>pa env n fun x env1 n1=>pb env1 n1 fun y env2 n2=>w x y fun z=>R z env2 n2
def qUn (w:w1)(pa:pE):pE:=fun env n R=>pa env n fun x env1 n1=>w x fun z=>R z env1 n1
theorem l9 (hw:W2 K r w)(ha:EOk K T ta pa)(hb:ROk K T tb pb):EOk K T (tOp r ta tb) (qOp w pa pb):=fun C G σ H env n R Q hK hT S hp k=>by
 refine ha C G σ H env n _ _ hK hT S hp fun x env1 n1 v H1 p1 S1 r1 f1=>?_;refine hb C G σ H1 env1 n1 _ _ hK hT S1 p1 fun y env2 n2 u H2 p2 S2 r2 f2=>?_;subst hK;exact hw G H2 x y v u _ _ (fun p hp=>S2.fresh hp) (.inl (r1.fr f2)) (r2.rd S2) p2 fun z v' H' rz s rv=>k _ _ _ _ _ rz (S2.same s) rv ((f1.trans f2).trans (Fr.of s))
theorem ok_un (hw:W1 K r w)(ha:ROk K T ta pa):EOk K T (tUn r ta) (qUn w pa):=fun C G σ H env n R Q hK hT S hp k=>by
 refine ha C G σ H env n _ _ hK hT S hp fun x env1 n1 v H1 p1 S1 r1 f1=>?_;subst hK;exact hw G H1 x v _ _ (fun p hp=>S1.fresh hp) (r1.rd S1) p1 fun z v' H' rz s rv=>k _ _ _ _ _ rz (S1.same s) rv (f1.trans (Fr.of s))
def wI (C:Int->Int->Prop)(g:Int->Int->PV):w2:=fun x y R=>match x,y with | .int i,.int j=>C i j/\R (g i j) | _,_=>False
theorem W2.I (hg:∀i j G H,Rep K G H (g' i j) (g i j)):W2 K (rI C g) (wI C g'):=by
 intro G H x y v u R Q hf rx ry hw k;unfold wI at hw
 split at hw
 · exact⟨_,_,rx.int,ry.int,hw.1,k _ _ _ hw.2 (Same.refl _) (hg _ _ _ _)⟩
 · exact hw.elim
def wI0 (g:Int->Int->PV):w2:=fun x y R=>match x,y with | .int i,.int j=>R (g i j) | _,_=>False
theorem W2.I0 (hg:∀i j G H,Rep K G H (g' i j) (g i j)):W2 K (rI0 g) (wI0 g'):=by
 intro G H x y v u R Q hf rx ry hw k;unfold wI0 at hw
 split at hw
 · exact⟨_,_,rx.int,ry.int,k _ _ _ hw (Same.refl _) (hg _ _ _ _)⟩
 · exact hw.elim
def wAdd:w2:=fun x y R=>match x,y with
 | .int i,.int j=>R (.int (i + j))
 | .str i,.str j=>i.length + j.length<=1000000/\R (.str (i++j))
 | .tup xs,.tup ys=>xs.length + ys.length<=1000000/\R (.tup (xs++ys))
 | _,_=>False
theorem mil (h:n<=1000000):n<=B4:=D7 h (by rw [sizeLine_eq];decide)
theorem mil' (h:n<=1000000):n < B4:=Nat.lt_of_le_of_lt h (by rw [sizeLine_eq];decide)
theorem V4 (hf:p∉G.M)(hn:H p=none)(r:Reps K G H xs vs):Rep K G (upd H p (.tup vs)) (.tup xs) (.ref p):=
 ⟨p,vs,rfl,⟨hf,D5⟩,r.same (Same.lay1 hn)⟩
theorem n6 (hf:p∉G.M)(hn:H p=none)(r:Reps K G H xs vs):Rep K G (upd H p (.lst vs)) (.lst xs) (.ref p):=
 ⟨p,vs,rfl,⟨hf,D5⟩,r.same (Same.lay1 hn)⟩
theorem W2.add:W2 K (fun x y H Q=>(rI0 fun i j=>.int (i + j)) x y H Q\/(∃i j,x=.str i/\y=.str j/\i.length + j.length<=B4/\Q (.str (i++j)) H)\/rCatA K x y H Q) wAdd:=by
 intro G H x y v u R Q hf rx ry hw k;unfold wAdd at hw
 split at hw
 · exact .inl ⟨_,_,rx.int,ry.int,k _ _ _ hw (Same.refl _) rfl⟩
 · exact .inr (.inl ⟨_,_,rx.str,ry.str,mil hw.1,k _ _ _ hw.2 (Same.refl _) rfl⟩)
 · rename_i xs ys;obtain⟨a,vs,ea,ta,ra⟩:=rx.rep (fun _ z=>nomatch z);obtain⟨b,us,eb,tb,rb⟩:=ry.rep (fun _ z=>nomatch z);refine .inr (.inr ⟨a,b,vs,us,ea,eb,ta.sq,tb.sq,?_,fun z=>?_,fun z1 z2=>?_,fun z1 z2 p hp=>?_⟩)
   · rw [<- ra.length,<- rb.length];exact mil hw.1
   · subst z;have:xs=[]:=List.eq_nil_of_length_eq_zero ra.length;subst this;exact k _ _ _ hw.2 (Same.refl _) ⟨b,us,rfl,tb,rb⟩
   · subst z2;have:ys=[]:=List.eq_nil_of_length_eq_zero rb.length;subst this;exact k _ _ _ hw.2 (Same.refl _) (by rw [y3];exact⟨a,vs,rfl,ta,ra⟩)
   · exact k _ _ _ hw.2 (Same.lay1 hp) (V4 (hf p hp) hp (ra.append rb))
 · exact hw.elim
theorem J0 (ha:QE T K F a pa)(hb:QE T K F b pb)(hK:∀z,(F z).K=K:=by intro _;rfl):QE T K F (.BinOp a .Add b pos) (qOp wAdd pa pb):=by
 obtain⟨ta,h1,h2⟩:=ha;obtain⟨tb,h3,h4⟩:=hb.r;exact⟨_,fun z=>D1 (Q2.or (Gz.or (hK z▸Ht))) (h1 z) (h3 z),l9 W2.add h2 h4⟩
theorem Ah (ho:∀z,OpR (F z) (L8 op) r)(hw:W2 K r w)(ha:QE T K F a pa)(hb:QE T K F b pb):QE T K F (.BinOp a op b pos) (qOp w pa pb):=by
 obtain⟨ta,h1,h2⟩:=ha;obtain⟨tb,h3,h4⟩:=hb.r;exact⟨_,fun z=>D1 (ho z) (h1 z) (h3 z),l9 hw h2 h4⟩
def wSub:w2:=wI0 fun i j=>.int (i - j)
def wMul:w2:=fun x y R=>match x,y with
 | .int i,.int j=>CMul i j/\R (.int (i * j))
 | .str i,.int n=>i.length<=100/\0<=n/\n<=1000/\R (.str (Txt.mul i n))
 | _,_=>False
def Ai:w2:=wI CDiv fun i j=>.int (i / j)
def wMod:w2:=wI (fun _ j=>0 < j) fun i j=>.int (i % j)
theorem W2.mul:W2 K (fun x y H Q=>(rI CMul fun i j=>.int (i * j)) x y H Q\/(∃i n,x=.str i/\y=.int n/\i.length<=100/\0<=n/\n<=1000/\Q (.str (Txt.mul i n)) H)) wMul:=by
 intro G H x y v u R Q hf rx ry hw k;unfold wMul at hw
 split at hw
 · exact .inl ⟨_,_,rx.int,ry.int,hw.1,k _ _ _ hw.2 (Same.refl _) rfl⟩
 · exact .inr ⟨_,_,rx.str,ry.int,hw.1,hw.2.1,hw.2.2.1,k _ _ _ hw.2.2.2 (Same.refl _) rfl⟩
 · exact hw.elim
theorem o1 (ha:QE T K F a pa)(hb:QE T K F b pb):QE T K F (.BinOp a .Sub b pos) (qOp wSub pa pb):=Ah (fun _=>op_sub) (W2.I0 fun _ _ _ _=>rfl) ha hb
theorem Aj (ha:QE T K F a pa)(hb:QE T K F b pb):QE T K F (.BinOp a .Mult b pos) (qOp wMul pa pb):=Ah (fun _=>R1.or Hq) W2.mul ha hb
theorem DJ (ha:QE T K F a pa)(hb:QE T K F b pb):QE T K F (.BinOp a .FloorDiv b pos) (qOp Ai pa pb):=Ah (fun _=>Af) (W2.I fun _ _ _ _=>rfl) ha hb
theorem DK (ha:QE T K F a pa)(hb:QE T K F b pb):QE T K F (.BinOp a .Mod b pos) (qOp wMod pa pb):=Ah (fun _=>R3) (W2.I fun _ _ _ _=>rfl) ha hb
end
end Pu
end
section
namespace L2
open PySem PySem.Spec PyProof.Rows
def EqD (K:A3)(H:Hp):Nat->V->V->Bool->Prop
 | 0,x,y,b=>L4 x=true/\L4 y=true/\b=eqV x y
 | d + 1, x, y, b => (L4 x = true /\ L4 y = true /\ b = eqV x y) \/
   (∃p q xs ys,∃f:Nat->Bool,x=.ref p/\y=.ref q/\SqT K H p xs/\SqT K H q ys/\(∀(j:Nat) x' y',xs[j]?=some x'->ys[j]?=some y'->EqD K H d x' y' (f j))/\b=((B6 (min xs.length ys.length)).all f && xs.length == ys.length))\/
   (∃p q xs ys,∃f:Nat->Bool,x=.ref p/\y=.ref q/\SqL K H p xs/\SqL K H q ys/\(∀(j:Nat) x' y',xs[j]?=some x'->ys[j]?=some y'->EqD K H d x' y' (f j))/\b=((B6 (min xs.length ys.length)).all f && xs.length == ys.length))\/
   (b=false/\((∃p xs,x=.ref p/\(SqT K H p xs\/SqL K H p xs)/\L4 y=true)\/(∃p xs,y=.ref p/\(SqT K H p xs\/SqL K H p xs)/\L4 x=true)\/
     (∃p q xs ys,x=.ref p/\y=.ref q/\SqT K H p xs/\SqL K H q ys)\/(∃p q xs ys,x=.ref p/\y=.ref q/\SqL K H p xs/\SqT K H q ys)))
section
variable {X:Cx}{pins:List (Addr×Obj)}{σ:St}{H:Hp}{s:Shared}
theorem N8 (I:Inv X pins σ H s)(h:SqT X.K H p xs)(h':SqL X.K H p ys):False:=by
 obtain⟨its,r,⟨o,e,c,n,d⟩,_⟩:=I.tuple h;obtain⟨its',r',⟨o',n',e',c',_,d'⟩,_⟩:=I.list h';rw [e] at e';cases e';rw [c] at c';injection c' with c';exact absurd c' (by decide)
theorem EqD.refl (I:Inv X pins σ H s):∀(d:Nat) (x:V) (b:Bool),EqD X.K H d x x b->b=true:=by
 intro d
 induction d with
 | zero =>
   intro x b h;obtain⟨h1,_,rfl⟩:=h;exact DE h1
 | succ d ih =>
   intro x b h;rcases h with⟨h1,_,rfl⟩ | ⟨p,q,xs,ys,f,e1,e2,s1,s2,hf,rfl⟩ | ⟨p,q,xs,ys,f,e1,e2,s1,s2,hf,rfl⟩ | ⟨rfl,h⟩
   · exact DE h1
   · subst e1;cases e2;have:=I.tuple_inj s1 s2;subst this;simp only [Nat.min_self,beq_self_eq_true,Bool.and_true,F3,O6];intro j hj;exact ih _ _ (hf j xs[j] xs[j] (by simp [hj]) (by simp [hj]))
   · subst e1;cases e2;have:=I.list_inj s1 s2;subst this;simp only [Nat.min_self,beq_self_eq_true,Bool.and_true,F3,O6];intro j hj;exact ih _ _ (hf j xs[j] xs[j] (by simp [hj]) (by simp [hj]))
   · rcases h with⟨p,xs,rfl,_,h⟩ | ⟨p,xs,rfl,_,h⟩ | ⟨p,q,xs,ys,e1,e2,s1,s2⟩ | ⟨p,q,xs,ys,e1,e2,s1,s2⟩
     · cases h
     · cases h
     · subst e1;cases e2;exact(N8 I s1 s2).elim
     · subst e1;cases e2;exact(N8 I s2 s1).elim
theorem Inv.sqL (I:Inv X pins σ H s)(h:SqL X.K H p xs):∃its:List Value,Vals xs its/\s.heap.IsList p its.toArray:=by
 obtain⟨its,r,pl,_⟩:=I.list h;exact⟨its,r,pl.isList⟩
theorem Inv.sqT (I:Inv X pins σ H s)(h:SqT X.K H p xs):∃its:List Value,Vals xs its/\s.heap.IsTuple p its.toArray:=by
 obtain⟨its,r,pl,_⟩:=I.tuple h;exact⟨its,r,pl⟩
theorem DL (I:Inv X pins σ H s)(hu:A.units < cLine)(hq:SqT X.K H p xs\/SqL X.K H p xs)(ry:RelV y w)(fy:L4 y=true) :
   b8 A s (.ref p) w false/\b7 A s (.ref p) w true/\b8 A s w (.ref p) false/\b7 A s w (.ref p) true/\Y1 A s (.ref p) w false/\Y1 A s w (.ref p) false:=by
 rcases hq with hq | hq
 · obtain⟨its,r,il⟩:=I.sqT hq;cases y with
   | non=>cases ry;exact⟨.tuple_none il hu,.tuple_none il hu,.none_tuple il hu,.none_tuple il hu,.tuple_none il hu,.none_tuple il hu⟩
   | bl b=>cases ry;exact⟨.tuple_bool b il hu,.tuple_bool b il hu,.bool_tuple b il hu,.bool_tuple b il hu,.tuple_bool b il hu,.bool_tuple b il hu⟩
   | int i=>obtain⟨t,rfl⟩:=ry;exact⟨.tuple_int i t il hu,.tuple_int i t il hu,.int_tuple i t il hu,.int_tuple i t il hu,.tuple_int i t il hu,.int_tuple i t il hu⟩
   | str i=>obtain⟨t,rfl⟩:=ry;exact⟨.tuple_str i t il hu,.tuple_str i t il hu,.str_tuple i t il hu,.str_tuple i t il hu,.tuple_str i t il hu,.str_tuple i t il hu⟩
   | _=>cases fy
 · obtain⟨its,r,il⟩:=I.sqL hq;cases y with
   | non=>cases ry;exact⟨.list_none il hu,.list_none il hu,.none_list il hu,.none_list il hu,.list_none il hu,.none_list il hu⟩
   | bl b=>cases ry;exact⟨.list_bool b il hu,.list_bool b il hu,.bool_list b il hu,.bool_list b il hu,.list_bool b il hu,.bool_list b il hu⟩
   | int i=>obtain⟨t,rfl⟩:=ry;exact⟨.list_int i t il hu,.list_int i t il hu,.int_list i t il hu,.int_list i t il hu,.list_int i t il hu,.int_list i t il hu⟩
   | str i=>obtain⟨t,rfl⟩:=ry;exact⟨.list_str i t il hu,.list_str i t il hu,.str_list i t il hu,.str_list i t il hu,.list_str i t il hu,.str_list i t il hu⟩
   | _=>cases fy
theorem DM (rx:RelV x u)(ry:RelV y w)(fx:L4 x=true)(fy:L4 y=true):b8 A s u w (eqV x y)/\b7 A s u w (!eqV x y):=by
 cases x with
 | non =>
   cases rx;cases y with
   | non=>cases ry;exact⟨.none_none,.none_none⟩
   | bl j=>cases ry;exact⟨.none_bool j,.none_bool j⟩
   | int j=>obtain⟨t,rfl⟩:=ry;exact⟨.none_int j t,.none_int j t⟩
   | str j=>obtain⟨t,rfl⟩:=ry;exact⟨.none_str j t,.none_str j t⟩
   | _=>cases fy
 | bl i =>
   cases rx;cases y with
   | non=>cases ry;exact⟨.bool_none i,.bool_none i⟩
   | bl j=>cases ry;exact⟨.bool_bool i j,.bool_bool i j⟩
   | int j=>obtain⟨t,rfl⟩:=ry;exact⟨.bool_int i j t,.bool_int i j t⟩
   | str j=>obtain⟨t,rfl⟩:=ry;exact⟨.bool_str i j t,.bool_str i j t⟩
   | _=>cases fy
 | int i =>
   obtain⟨ti,rfl⟩:=rx;cases y with
   | non=>cases ry;exact⟨.int_none i ti,.int_none i ti⟩
   | bl j=>cases ry;exact⟨.int_bool i ti j,.int_bool i ti j⟩
   | int j=>obtain⟨t,rfl⟩:=ry;exact⟨.int_int i ti j t,.int_int i ti j t⟩
   | str j=>obtain⟨t,rfl⟩:=ry;exact⟨.int_str i ti j t,.int_str i ti j t⟩
   | _=>cases fy
 | str i =>
   obtain⟨ti,rfl⟩:=rx;cases y with
   | non=>cases ry;exact⟨.str_none i ti,.str_none i ti⟩
   | bl j=>cases ry;exact⟨.str_bool i ti j,.str_bool i ti j⟩
   | int j=>obtain⟨t,rfl⟩:=ry;exact⟨.str_int i ti j t,.str_int i ti j t⟩
   | str j=>obtain⟨t,rfl⟩:=ry;exact⟨.str_str i ti j t,.str_str i ti j t⟩
   | _=>cases fy
 | _=>cases fx
theorem o5 (A:Around):A.in1.units=A.units + 1:=rfl
theorem EqD.at (I:Inv X pins σ H s):∀(d:Nat) (A:Around) (x y:V) (u w:Value) (b:Bool),A.units + d < cLine->RelV x u->RelV y w->EqD X.K H d x y b->Y1 A s u w b/\b8 A s u w b/\b7 A s u w (!b):=by
 intro d
 induction d with
 | zero =>
   intro A x y u w b hu rx ry h;obtain⟨h1,h2,rfl⟩:=h;exact⟨Dy rx ry h1 h2,DM rx ry h1 h2⟩
 | succ d ih =>
   intro A x y u w b hu rx ry h;have hu0:A.units < cLine:=by omega
   have hu1:A.in1.units + d < cLine:=by rw [o5];omega
   have hrefl:=EqD.refl I (d + 1) x b;rcases h with⟨h1,h2,rfl⟩ | ⟨p,q,xs,ys,f,e1,e2,s1,s2,hf,eb⟩ | ⟨p,q,xs,ys,f,e1,e2,s1,s2,hf,eb⟩ | ⟨rfl,h⟩
   · exact⟨Dy rx ry h1 h2,DM rx ry h1 h2⟩
   · subst e1 e2;cases rx;cases ry;obtain⟨its,r1,t1⟩:=I.sqT s1;obtain⟨its2,r2,t2⟩:=I.sqT s2;have z1:its.toArray.size=xs.length:=by simpa using r1.length.symm
     have z2:its2.toArray.size=ys.length:=by simpa using r2.length.symm
     have he:∀j (h1:j < its.toArray.size) (h2:j < its2.toArray.size),Y1 A.in1 s its.toArray[j] its2.toArray[j] (f j):=by
       intro j h1 h2;obtain⟨x',e1,q1⟩:=r1.getE (j:=j) (by omega);obtain⟨y',e2,q2⟩:=r2.getE (j:=j) (by grind);exact(ih A.in1 x' y' _ _ (f j) hu1 (by grind) (by grind) (hf j x' y' e1 e2)).1
     have rc:b8 A s (.ref p) (.ref q) b:=by
       rw [eb,<- z1,<- z2];exact SeqAt.RcAt.tuples t1 t2 hu0 he
     have rn:b7 A s (.ref p) (.ref q) (!b):=by
       rw [eb,<- z1,<- z2];exact SeqAt.RcNeAt.tuples t1 t2 hu0 he
     refine⟨?_,rc,rn⟩
     by_cases hpq:p=q
     · subst hpq;rw [hrefl (.inr (.inl ⟨p,p,xs,ys,f,rfl,rfl,s1,s2,hf,eb⟩))];exact .same _
     · exact .of_refs hpq rc
   · subst e1 e2;cases rx;cases ry;obtain⟨its,r1,t1⟩:=I.sqL s1;obtain⟨its2,r2,t2⟩:=I.sqL s2;have z1:its.toArray.size=xs.length:=by simpa using r1.length.symm
     have z2:its2.toArray.size=ys.length:=by simpa using r2.length.symm
     have he:∀j (h1:j < its.toArray.size) (h2:j < its2.toArray.size),Y1 A.in1 s its.toArray[j] its2.toArray[j] (f j):=by
       intro j h1 h2;obtain⟨x',e1,q1⟩:=r1.getE (j:=j) (by omega);obtain⟨y',e2,q2⟩:=r2.getE (j:=j) (by grind);exact(ih A.in1 x' y' _ _ (f j) hu1 (by grind) (by grind) (hf j x' y' e1 e2)).1
     have rr:b8 A s (.ref p) (.ref q) b/\b7 A s (.ref p) (.ref q) (!b):=by
       by_cases hl:xs.length=ys.length
       · have e3:b=(B6 its.toArray.size).all f:=by rw [eb,hl,Nat.min_self,beq_self_eq_true,Bool.and_true,z1,hl]
         rw [e3];exact⟨SeqAt.RcAt.lists t1 t2 (by grind) hu0 he,SeqAt.RcNeAt.lists t1 t2 (by grind) hu0 he⟩
       · have e3:b=false:=by
           rw [eb];have:(xs.length == ys.length)=false:=by simpa using hl
           rw [this,Bool.and_false]
         rw [e3];have e4:(its.toArray.size != its2.toArray.size)=true:=by rw [z1,z2];simpa using hl
         exact⟨SeqAt.RcAt.lists_lengths t1 t2 e4 hu0,SeqAt.RcNeAt.lists_lengths t1 t2 e4 hu0⟩
     refine⟨?_,rr⟩
     by_cases hpq:p=q
     · subst hpq;rw [hrefl (.inr (.inr (.inl ⟨p,p,xs,ys,f,rfl,rfl,s1,s2,hf,eb⟩)))];exact .same _
     · exact .of_refs hpq rr.1
   · rcases h with⟨p,xs,rfl,hq,fy⟩ | ⟨p,xs,rfl,hq,fx⟩ | ⟨p,q,xs,ys,e1,e2,s1,s2⟩ | ⟨p,q,xs,ys,e1,e2,s1,s2⟩
     · cases rx;obtain⟨a1,a2,a3,a4,a5,a6⟩:=DL I hu0 hq ry fy;exact⟨a5,a1,a2⟩
     · cases ry;obtain⟨a1,a2,a3,a4,a5,a6⟩:=DL I hu0 hq rx fx;exact⟨a6,a3,a4⟩
     · subst e1 e2;cases rx;cases ry;obtain⟨its,r1,t1⟩:=I.sqT s1;obtain⟨its2,r2,t2⟩:=I.sqL s2;exact⟨.tuple_list t1 t2 hu0,.tuple_list t1 t2 hu0,.tuple_list t1 t2 hu0⟩
     · subst e1 e2;cases rx;cases ry;obtain⟨its,r1,t1⟩:=I.sqL s1;obtain⟨its2,r2,t2⟩:=I.sqT s2;exact⟨.list_tuple t1 t2 hu0,.list_tuple t1 t2 hu0,.list_tuple t1 t2 hu0⟩
end
section
variable {X:Cx}
def rEqD (K:A3)(d:Nat)(neg:Bool):R2:=fun x y H Q=>∃b,EqD K H d x y b/\Q (.bl (if neg then !b else b)) H
theorem op_eqD (d:Nat)(hu:X.A.units + d < cLine):OpR X (G0 .Eq) (rEqD X.K d false):=by
 intro pins s σ H x y v u Q I rx ry h;obtain⟨b,hb,q⟩:=h;exact(hb.at I d X.A x y v u b hu rx ry).2.1 X.prog X.w X.xe _ ⟨.bl _,H,I,rfl,q⟩
theorem op_neD (d:Nat)(hu:X.A.units + d < cLine):OpR X (G0 .NotEq) (rEqD X.K d true):=by
 intro pins s σ H x y v u Q I rx ry h;obtain⟨b,hb,q⟩:=h;exact(hb.at I d X.A x y v u b hu rx ry).2.2 X.prog X.w X.xe _ ⟨.bl _,H,I,rfl,q⟩
def rInD (K:A3)(d:Nat)(neg:Bool):R2:=fun x y H Q=>∃p ys,∃f:Nat->Bool,y=.ref p/\(SqL K H p ys\/SqT K H p ys)/\(∀(j:Nat) z,ys[j]?=some z->EqD K H d z x (f j))/\Q (.bl (if neg then !((B6 ys.length).any f) else(B6 ys.length).any f)) H
theorem DN (h:∀j,j < n->f j=g j):(B6 n).all f=(B6 n).all g:=by
 rw [j9,F3,F3];constructor
 · intro k j hj;rw [<- h j (O6.mp hj)];exact k j hj
 · intro k j hj;rw [h j (O6.mp hj)];exact k j hj
theorem EqD.det (I:Inv X pins σ H s):∀(d:Nat) (x y:V) (b b':Bool),EqD X.K H d x y b->EqD X.K H d x y b'->b=b':=by
 intro d
 induction d with
 | zero =>
   intro x y b b' h h';rw [h.2.2,h'.2.2]
 | succ d ih =>
   intro x y b b' h h';rcases h with⟨h1,h2,rfl⟩ | ⟨p,q,xs,ys,f,rfl,rfl,s1,s2,hf,rfl⟩ | ⟨p,q,xs,ys,f,rfl,rfl,s1,s2,hf,rfl⟩ | ⟨rfl,h⟩
   · rcases h' with⟨h1',h2',rfl⟩ | ⟨p,q,xs,ys,f,rfl,rfl,s1,s2,hf,rfl⟩ | ⟨p,q,xs,ys,f,rfl,rfl,s1,s2,hf,rfl⟩ | ⟨rfl,h⟩
     · rfl
     · cases h1
     · cases h1
     · rcases h with⟨p,xs,rfl,_,h⟩ | ⟨p,xs,rfl,_,h⟩ | ⟨p,q,xs,ys,rfl,rfl,s1,s2⟩ | ⟨p,q,xs,ys,rfl,rfl,s1,s2⟩
       · cases h1
       · cases h2
       · cases h1
       · cases h1
   · rcases h' with⟨h1',h2',rfl⟩ | ⟨p',q',xs',ys',f',e1,e2,s1',s2',hf',rfl⟩ | ⟨p',q',xs',ys',f',e1,e2,s1',s2',hf',rfl⟩ | ⟨rfl,h⟩
     · cases h1'
     · cases e1;cases e2;have:=I.tuple_inj s1 s1';subst this;have:=I.tuple_inj s2 s2';subst this;rw [DN fun j hj=>ih _ _ _ _ (hf j (xs[j]'(by omega)) (ys[j]'(by omega)) (C4 _) (C4 _)) (hf' j (xs[j]'(by omega)) (ys[j]'(by omega)) (C4 _) (C4 _))]
     · cases e1;exact(N8 I s1 s1').elim
     · rcases h with⟨p',xs',e1,_,h⟩ | ⟨p',xs',e1,_,h⟩ | ⟨p',q',xs',ys',e1,e2,s1',s2'⟩ | ⟨p',q',xs',ys',e1,e2,s1',s2'⟩
       · cases h
       · cases h
       · cases e2;exact(N8 I s2 s2').elim
       · cases e1;exact(N8 I s1 s1').elim
   · rcases h' with⟨h1',h2',rfl⟩ | ⟨p',q',xs',ys',f',e1,e2,s1',s2',hf',rfl⟩ | ⟨p',q',xs',ys',f',e1,e2,s1',s2',hf',rfl⟩ | ⟨rfl,h⟩
     · cases h1'
     · cases e1;exact(N8 I s1' s1).elim
     · cases e1;cases e2;have:=I.list_inj s1 s1';subst this;have:=I.list_inj s2 s2';subst this;rw [DN fun j hj=>ih _ _ _ _ (hf j (xs[j]'(by omega)) (ys[j]'(by omega)) (C4 _) (C4 _)) (hf' j (xs[j]'(by omega)) (ys[j]'(by omega)) (C4 _) (C4 _))]
     · rcases h with⟨p',xs',e1,_,h⟩ | ⟨p',xs',e1,_,h⟩ | ⟨p',q',xs',ys',e1,e2,s1',s2'⟩ | ⟨p',q',xs',ys',e1,e2,s1',s2'⟩
       · cases h
       · cases h
       · cases e1;exact(N8 I s1' s1).elim
       · cases e2;exact(N8 I s2' s2).elim
   · rcases h' with⟨h1',h2',rfl⟩ | ⟨p',q',xs',ys',f',rfl,rfl,s1',s2',hf',rfl⟩ | ⟨p',q',xs',ys',f',rfl,rfl,s1',s2',hf',rfl⟩ | ⟨rfl,h'⟩
     · rcases h with⟨p,xs,rfl,_,h⟩ | ⟨p,xs,rfl,_,h⟩ | ⟨p,q,xs,ys,rfl,rfl,s1,s2⟩ | ⟨p,q,xs,ys,rfl,rfl,s1,s2⟩
       · cases h1'
       · cases h2'
       · cases h1'
       · cases h1'
     · rcases h with⟨p,xs,e1,_,h⟩ | ⟨p,xs,e1,_,h⟩ | ⟨p,q,xs,ys,e1,e2,s1,s2⟩ | ⟨p,q,xs,ys,e1,e2,s1,s2⟩
       · cases h
       · cases h
       · cases e2;exact(N8 I s2' s2).elim
       · cases e1;exact(N8 I s1' s1).elim
     · rcases h with⟨p,xs,e1,_,h⟩ | ⟨p,xs,e1,_,h⟩ | ⟨p,q,xs,ys,e1,e2,s1,s2⟩ | ⟨p,q,xs,ys,e1,e2,s1,s2⟩
       · cases h
       · cases h
       · cases e1;exact(N8 I s1 s1').elim
       · cases e2;exact(N8 I s2 s2').elim
     · rfl
open Classical in
theorem Ak (I:Inv X pins σ H s)(hu:A.units + d < cLine)(r:Vals ys its)(rx:RelV x v)(hf:∀(j:Nat) z,ys[j]?=some z->EqD X.K H d z x (f j)) :
   ∃e:Value->Bool,(∀y,y∈its->Y1 A s y v (e y))/\its.any e=(B6 ys.length).any f:=by
 have key:∀(j j':Nat) (z:Value),its[j]?=some z->its[j']?=some z->f j=f j':=by
   intro j j' z h h';obtain⟨hj,_⟩:=D2.mp h;obtain⟨hj',_⟩:=D2.mp h';obtain⟨w1,a1,b1⟩:=r.getE hj;obtain⟨w2,a2,b2⟩:=r.getE hj';rw [C4 hj] at h;rw [C4 hj'] at h';cases h;rw [E4 h'] at b2;have:=b1.inj b2;subst this;exact EqD.det I d _ _ _ _ (hf j _ a1) (hf j' _ a2)
 let e:Value->Bool:=fun y=>decide (∃j,its[j]?=some y/\f j=true)
 have he:∀(j:Nat) (y:Value),its[j]?=some y->e y=f j:=by
   intro j y h;show decide _=_;cases hb:f j with
   | true=>exact decide_eq_true ⟨j,h,hb⟩
   | false=>exact decide_eq_false fun⟨j',h1,h2⟩=>by rw [key j j' y h h1,h2] at hb;cases hb
 refine⟨e,fun y hy=>?_,?_⟩
 · obtain⟨j,hj,rfl⟩:=j7 hy;obtain⟨w1,a1,b1⟩:=r.getE hj;rw [he j _ (C4 hj)];exact((hf j w1 a1).at I d A w1 x _ v (f j) hu b1 rx).1
 · have hl:=r.length;rw [j9,x9,x9];constructor
   · rintro⟨y,hy,h⟩;obtain⟨j,hj,rfl⟩:=j7 hy;exact⟨j,O6.mpr (by omega),by rw [<- he j _ (C4 hj)];exact h⟩
   · rintro⟨j,hj,h⟩;have hj':j < its.length:=by have:=O6.mp hj;omega
     exact⟨its[j],List.getElem_mem hj',by rw [he j _ (C4 hj')];exact h⟩
theorem op_inD (d:Nat)(hu:X.A.units + (d + 1) < cLine):OpR X (G0 .In) (rInD X.K d false):=by
 intro pins s σ H x y v u Q I rx ry h;obtain⟨p,ys,f,rfl,hq,hf,q⟩:=h;cases ry;rcases hq with hq | hq
 · obtain⟨its,r,il⟩:=I.sqL hq;obtain⟨e,h1,h2⟩:=Ak I (A:=X.A.in1) (by rw [o5];omega) r rx hf;refine SeqAt.in_listAt e il (fun y hy=>h1 y (by simpa using hy)) ⟨.bl _,H,I,rfl,?_⟩;rw [show its.toArray.any e=its.any e by simp,h2];exact q
 · obtain⟨its,r,il⟩:=I.sqT hq;obtain⟨e,h1,h2⟩:=Ak I (A:=X.A.in1) (by rw [o5];omega) r rx hf;refine SeqAt.in_tupleAt e il (fun y hy=>h1 y (by simpa using hy)) ⟨.bl _,H,I,rfl,?_⟩;rw [show its.toArray.any e=its.any e by simp,h2];exact q
theorem Hv (d:Nat)(hu:X.A.units + (d + 1) < cLine):OpR X (G0 .NotIn) (rInD X.K d true):=by
 intro pins s σ H x y v u Q I rx ry h;obtain⟨p,ys,f,rfl,hq,hf,q⟩:=h;cases ry;rcases hq with hq | hq
 · obtain⟨its,r,il⟩:=I.sqL hq;obtain⟨e,h1,h2⟩:=Ak I (A:=X.A.in1) (by rw [o5];omega) r rx hf;refine SeqAt.notIn_listAt e il (fun y hy=>h1 y (by simpa using hy)) ⟨.bl _,H,I,rfl,?_⟩;rw [show its.toArray.any e=its.any e by simp,h2];exact q
 · obtain⟨its,r,il⟩:=I.sqT hq;obtain⟨e,h1,h2⟩:=Ak I (A:=X.A.in1) (by rw [o5];omega) r rx hf;refine SeqAt.notIn_tupleAt e il (fun y hy=>h1 y (by simpa using hy)) ⟨.bl _,H,I,rfl,?_⟩;rw [show its.toArray.any e=its.any e by simp,h2];exact q
end
end L2
namespace Pu
open PySem PySem.Spec L2
def V5:PV->Bool
 | .non=>true
 | .bl _=>true
 | .int _=>true
 | .str _=>true
 | _=>false
def cmpb:Nat->PV->Bool
 | 0,x=>V5 x
 | d + 1,.tup xs=>xs.all (cmpb d)
 | d + 1,.lst xs=>xs.all (cmpb d)
 | _ + 1,x=>V5 x
mutual
def eqP:PV->PV->Bool
 | .non,.non=>true
 | .bl a,.bl b=>a == b
 | .bl a,.int b=>(if a then 1 else 0) == b
 | .int a,.bl b=>a == (if b then 1 else 0)
 | .int a,.int b=>a == b
 | .str a,.str b=>a == b
 | .tup xs,.tup ys=>eqPs xs ys
 | .lst xs,.lst ys=>eqPs xs ys
 | _,_=>false
def eqPs:List PV->List PV->Bool
 | [],[]=>true
 | x::xs,y::ys=>eqP x y && eqPs xs ys
 | _,_=>false
end
theorem BG:∀(xs ys:List PV),((B6 (min xs.length ys.length)).all (fun j=>match xs[j]?,ys[j]? with | some x,some y=>eqP x y | _,_=>false) && xs.length == ys.length)=eqPs xs ys
 | [],[]=>rfl
 | [],_::_=>rfl
 | _::_,[]=>rfl
 | x :: xs, y :: ys => by
   have ih:=BG xs ys;show _=(eqP x y && eqPs xs ys);rw [<- ih];simp only [P6,Nat.succ_min_succ,List.range_succ_eq_map,List.all_cons,List.all_map,Function.comp_def,AR,x4];rw [Bool.and_assoc]
   congr 1
   simp
end Pu
end
section
namespace Pu
open PySem PySem.Spec L2
section
variable {K:A3}{G:Gh}{H:Hp}
inductive Sort3 (K:A3)(G:Gh)(H:Hp)(d:Nat)(x:PV)(v:V):Prop where
 | fl (h:L4 v=true) (s:V5 x=true)
 | tp (p:Addr) (xs:List PV) (vs:List V) (e:x=.tup xs) (ev:v=.ref p) (h:SqT K H p vs) (r:Reps K G H xs vs) (c:xs.all (cmpb d)=true)
 | ls (p:Addr) (xs:List PV) (vs:List V) (e:x=.lst xs) (ev:v=.ref p) (h:SqL K H p vs) (r:Reps K G H xs vs) (c:xs.all (cmpb d)=true)
theorem c8 (s:V5 x=true)(h:RdV K G H x v):L4 v=true:=by
 cases x with
 | non=>rw [h.non];rfl
 | bl b=>rw [h.bl];rfl
 | int b=>rw [h.int];rfl
 | str b=>rw [h.str];rfl
 | _=>cases s
theorem Al (c:cmpb (d + 1) x=true)(h:RdV K G H x v):Sort3 K G H d x v:=by
 cases x with
 | tup xs =>
   obtain⟨a,vs,e,t,r⟩:=h.tup;exact .tp a xs vs rfl e t r c
 | lst xs =>
   obtain⟨a,vs,e,t,r⟩:=h.lst;exact .ls a xs vs rfl e t r c
 | non=>exact .fl (c8 c h) c
 | bl _=>exact .fl (c8 c h) c
 | int _=>exact .fl (c8 c h) c
 | str _=>exact .fl (c8 c h) c
 | ty _=>cases c
 | pot _=>cases c
 | scr _=>cases c
 | dct _ _=>cases c
 | fdt _ _=>cases c
theorem DO (sx:V5 x=true)(sy:V5 y=true)(hx:RdV K G H x v)(hy:RdV K G H y u):eqP x y=eqV v u:=by
 cases x with
 | non =>
   cases hx.non;cases y with
   | non=>cases hy.non;rfl
   | bl j=>cases hy.bl;rfl
   | int j=>cases hy.int;rfl
   | str j=>cases hy.str;rfl
   | _=>cases sy
 | bl i =>
   cases hx.bl;cases y with
   | non=>cases hy.non;rfl
   | bl j=>cases hy.bl;rfl
   | int j=>cases hy.int;rfl
   | str j=>cases hy.str;rfl
   | _=>cases sy
 | int i =>
   cases hx.int;cases y with
   | non=>cases hy.non;rfl
   | bl j=>cases hy.bl;rfl
   | int j=>cases hy.int;rfl
   | str j=>cases hy.str;rfl
   | _=>cases sy
 | str i =>
   cases hx.str;cases y with
   | non=>cases hy.non;rfl
   | bl j=>cases hy.bl;rfl
   | int j=>cases hy.int;rfl
   | str j=>cases hy.str;rfl
   | _=>cases sy
 | _=>cases sx
theorem Am (sy:V5 y=true):eqP (.tup xs) y=false/\eqP (.lst xs) y=false/\eqP y (.tup xs)=false/\eqP y (.lst xs)=false:=by
 cases y <;> first | exact⟨rfl,rfl,rfl,rfl⟩ | cases sy
theorem BH:∀(d:Nat) (x y:PV) (v u:V),cmpb d x=true->cmpb d y=true->RdV K G H x v->RdV K G H y u->EqD K H d v u (eqP x y):=by
 intro d
 induction d with
 | zero=>intro x y v u cx cy hx hy;exact⟨c8 cx hx,c8 cy hy,DO cx cy hx hy⟩
 | succ d ih =>
   intro x y v u cx cy hx hy
   have el:∀(xs ys:List PV) (vs us:List V),Reps K G H xs vs->Reps K G H ys us->xs.all (cmpb d)=true->ys.all (cmpb d)=true->∀(j:Nat) x' y',vs[j]?=some x'->us[j]?=some y'->EqD K H d x' y' (match xs[j]?,ys[j]? with | some x,some y=>eqP x y | _,_=>false):=by
     intro xs ys vs us r1 r2 c1 c2 j x' y' e1 e2;obtain⟨x1,ex,rx⟩:=r1.get e1;obtain⟨y1,ey,ry⟩:=r2.get e2;rw [ex,ey];exact ih x1 y1 x' y' (F3.mp c1 x1 (N3 ex)) (F3.mp c2 y1 (N3 ey)) (.inl rx) (.inl ry)
   cases Al cx hx with
   | fl fx sx =>
     cases Al cy hy with
     | fl fy sy=>exact .inl ⟨fx,fy,DO sx sy hx hy⟩
     | tp q ys us e ev h r c=>subst e;exact .inr (.inr (.inr ⟨(Am sx).2.2.1,.inr (.inl ⟨q,us,ev,.inl h,fx⟩)⟩))
     | ls q ys us e ev h r c=>subst e;exact .inr (.inr (.inr ⟨(Am sx).2.2.2,.inr (.inl ⟨q,us,ev,.inr h,fx⟩)⟩))
   | tp p xs vs e ev h r c =>
     subst e;cases Al cy hy with
     | fl fy sy=>exact .inr (.inr (.inr ⟨(Am sy).1,.inl ⟨p,vs,ev,.inl h,fy⟩⟩))
     | tp q ys us e2 ev2 h2 r2 c2 =>
       subst e2;refine .inr (.inl ⟨p,q,vs,us,_,ev,ev2,h,h2,el xs ys vs us r r2 c c2,?_⟩);rw [<- r.length,<- r2.length];exact(BG xs ys).symm
     | ls q ys us e2 ev2 h2 r2 c2=>subst e2;exact .inr (.inr (.inr ⟨rfl,.inr (.inr (.inl ⟨p,q,vs,us,ev,ev2,h,h2⟩))⟩))
   | ls p xs vs e ev h r c =>
     subst e;cases Al cy hy with
     | fl fy sy=>exact .inr (.inr (.inr ⟨(Am sy).2.1,.inl ⟨p,vs,ev,.inr h,fy⟩⟩))
     | tp q ys us e2 ev2 h2 r2 c2=>subst e2;exact .inr (.inr (.inr ⟨rfl,.inr (.inr (.inr ⟨p,q,vs,us,ev,ev2,h,h2⟩))⟩))
     | ls q ys us e2 ev2 h2 r2 c2 =>
       subst e2;refine .inr (.inr (.inl ⟨p,q,vs,us,_,ev,ev2,h,h2,el xs ys vs us r r2 c c2,?_⟩));rw [<- r.length,<- r2.length];exact(BG xs ys).symm
end
section
variable {T:PotK}{ι:Type}{K:A3}{F:ι->Cx}{e a b c:Expr}{es rest:List Expr}{pe pa pb pc:pE}{pos:Pos}
def grd (b:Bool)(P:Prop):Prop:=match b with | true=>P | false=>False
theorem grd_t {P:Prop}:grd true P=P:=rfl
theorem grd_i {b:Bool}{P:Prop}(h:b=true)(p:P):grd b P:=by subst h;exact p
theorem An {b:Bool}{P:Prop}(h:grd b P):b=true:=by grind [grd]
theorem c9 {b:Bool}{P:Prop}(h:grd b P):P:=by cases b;exact h.elim;exact h
theorem gd2 {a b:Bool}{P:Prop}(h1:a=true)(h2:b=true)(p:P):grd a (grd b P):=grd_i h1 (grd_i h2 p)
def wEq (d:Nat):w2:=fun x y R=>grd (cmpb d x) (grd (cmpb d y) (R (.bl (eqP x y))))
def wNe (d:Nat):w2:=fun x y R=>grd (cmpb d x) (grd (cmpb d y) (R (.bl (!eqP x y))))
theorem W2.eq (d:Nat):W2 K (rEqD K d false) (wEq d):=fun G H x y v u R Q hf rx ry hw k=>⟨_,BH d x y v u (An hw) (An (c9 hw)) rx ry,k _ _ _ (c9 (c9 hw)) (Same.refl _) rfl⟩
theorem W2.ne (d:Nat):W2 K (rEqD K d true) (wNe d):=fun G H x y v u R Q hf rx ry hw k=>⟨_,BH d x y v u (An hw) (An (c9 hw)) rx ry,k _ _ _ (c9 (c9 hw)) (Same.refl _) rfl⟩
def memP (x:PV)(ys:List PV):Bool:=ys.any fun y=>eqP y x
def wIn (d:Nat)(neg:Bool):w2:=fun x y R=>match x,y with
 | .str i,.str j=>R (.bl (if neg then !(!(b4 j i 0 j.length 1).isEmpty) else !(b4 j i 0 j.length 1).isEmpty))
 | x,.lst ys=>cmpb d x=true/\ys.all (cmpb d)=true/\R (.bl (if neg then !memP x ys else memP x ys))
 | x,.tup ys=>cmpb d x=true/\ys.all (cmpb d)=true/\R (.bl (if neg then !memP x ys else memP x ys))
 | _,_=>False
theorem DP {x:PV}:∀ys:List PV,((B6 ys.length).any fun j=>match ys[j]? with | some y=>eqP y x | none=>false)=memP x ys
 | []=>rfl
 | y :: ys => by
   have ih:=DP (x:=x) ys;show _=(eqP y x || memP x ys);rw [<- ih];simp only [P6,List.range_succ_eq_map,List.any_cons,List.any_map,Function.comp_def,AR,x4]
theorem W2.in_ {K:A3}(d:Nat)(neg:Bool){r:R2}(hr:∀x y H Q,(∃i j,x=.str i/\y=.str j/\Q (.bl (if neg then !(!(b4 j i 0 j.length 1).isEmpty) else !(b4 j i 0 j.length 1).isEmpty)) H)\/rInD K d neg x y H Q->r x y H Q):W2 K r (wIn d neg):=by
 intro G H x y v u R Q hf rx ry hw k;refine hr _ _ _ _ ?_
 have seq:∀(ys:List PV) (p:Addr) (us:List V),u=.ref p->(SqL K H p us\/SqT K H p us)->Reps K G H ys us->cmpb d x=true/\ys.all (cmpb d)=true/\R (.bl (if neg then !memP x ys else memP x ys))->rInD K d neg v u H Q:=by
   intro ys p us eu hq r h;refine⟨p,us,fun j=>match ys[j]? with | some y=>eqP y x | none=>false,eu,hq,fun j z ez=>?_,?_⟩
   · obtain⟨y1,ey,ry⟩:=r.get ez;dsimp only;rw [ey];exact BH d y1 x z v (F3.mp h.2.1 y1 (N3 ey)) h.1 (.inl ry) rx
   · rw [<- r.length,DP];exact k _ _ _ h.2.2 (Same.refl _) rfl
 unfold wIn at hw
 split at hw
 · exact .inl ⟨_,_,rx.str,ry.str,k _ _ _ hw (Same.refl _) rfl⟩
 · obtain⟨p,us,eu,hq,r⟩:=ry.lst;exact .inr (seq _ p us eu (.inl hq) r hw)
 · obtain⟨p,us,eu,hq,r⟩:=ry.tup;exact .inr (seq _ p us eu (.inr hq) r hw)
 · exact hw.elim
def wLt:w2:=fun x y R=>match x,y with | .int i,.int j=>R (.bl (decide (i < j))) | .str i,.str j=>R (.bl (decide (i.cps.toList < j.cps.toList))) | _,_=>False
def wLe:w2:=fun x y R=>match x,y with | .int i,.int j=>R (.bl (decide (i<=j))) | .str i,.str j=>R (.bl (!decide (j.cps.toList < i.cps.toList))) | _,_=>False
theorem W2.lt:W2 K (fun x y H Q=>(rI0 fun i j=>.bl (decide (i < j))) x y H Q\/∃i j,x=.str i/\y=.str j/\Q (.bl (decide (i.cps.toList < j.cps.toList))) H) wLt:=by
 intro G H x y v u R Q hf rx ry hw k;unfold wLt at hw
 split at hw
 · exact .inl ⟨_,_,rx.int,ry.int,k _ _ _ hw (Same.refl _) rfl⟩
 · exact .inr ⟨_,_,rx.str,ry.str,k _ _ _ hw (Same.refl _) rfl⟩
 · exact hw.elim
theorem W2.le:W2 K (fun x y H Q=>(rI0 fun i j=>.bl (decide (i<=j))) x y H Q\/∃i j,x=.str i/\y=.str j/\Q (.bl (!decide (j.cps.toList < i.cps.toList))) H) wLe:=by
 intro G H x y v u R Q hf rx ry hw k;unfold wLe at hw
 split at hw
 · exact .inl ⟨_,_,rx.int,ry.int,k _ _ _ hw (Same.refl _) rfl⟩
 · exact .inr ⟨_,_,rx.str,ry.str,k _ _ _ hw (Same.refl _) rfl⟩
 grind
structure Cmp {ι:Type}(K:A3)(F:ι->Cx)(op:CmpOp)(w:w2):Prop where
 ex:∃r,(∀z,OpR (F z) (G0 op) r)/\W2 K r w
theorem cEq (d:Nat)(hr:∀z,Room k (F z).A)(hd:d<=30:=by decide)(hK:∀z,(F z).K=K:=by intro _;rfl):Cmp K F .Eq (wEq d):=⟨_,fun z=>hK z▸op_eqD d (by have:=(hr z).units;omega),W2.eq d⟩
theorem cNe (d:Nat)(hr:∀z,Room k (F z).A)(hd:d<=30:=by decide)(hK:∀z,(F z).K=K:=by intro _;rfl):Cmp K F .NotEq (wNe d):=⟨_,fun z=>hK z▸op_neD d (by have:=(hr z).units;omega),W2.ne d⟩
theorem cIn (d:Nat)(hr:∀z,Room k (F z).A)(hd:d<=30:=by decide)(hK:∀z,(F z).K=K:=by intro _;rfl):Cmp K F .In (wIn d false):=⟨_,fun z=>Gw.or (hK z▸op_inD d (by have:=(hr z).units;omega)),W2.in_ d false fun _ _ _ _ h=>h⟩
theorem o6 (d:Nat)(hr:∀z,Room k (F z).A)(hd:d<=30:=by decide)(hK:∀z,(F z).K=K:=by intro _;rfl):Cmp K F .NotIn (wIn d true):=⟨_,fun z=>GR.or (hK z▸Hv d (by have:=(hr z).units;omega)),W2.in_ d true fun _ _ _ _ h=>h⟩
theorem cLt:Cmp K F .Lt wLt:=⟨_,fun _=>op_lt.or Gv,W2.lt⟩
theorem cLe:Cmp K F .LtE wLe:=⟨_,fun _=>op_le.or Hr,W2.le⟩
theorem Q6 (hc:Cmp K F op w)(ha:QE T K F a pa)(hb:QR T K F b pb)(hm:Z5 op b=false):QE T K F (.Compare a [op] [b] pos) (qOp w pa pb):=by
 obtain⟨r,ho,hw⟩:=hc.ex;obtain⟨ta,h1,h2⟩:=ha;obtain⟨tb,h3,h4⟩:=hb;exact⟨_,fun z=>Dg (ho z) (h1 z) (h3 z) hm,l9 hw h2 h4⟩
def qB (pe:pE):pT:=fun env n R=>pe env n fun x env' n'=>match x with | .bl b=>R b env' n' | _=>False
theorem ok_b (h:EOk K T t pe):TOk K T (tB t) (qB pe):=fun C G σ H env n R Q hK hT S hp k=>by
 refine h C G σ H env n _ _ hK hT S hp fun x env' n' v H' r S' rp f=>?_;cases x with
 | bl b=>exact⟨b,rp,k _ _ _ _ r S' f⟩
 | _=>exact r.elim
theorem DQ (h:EOk K T t pe):TOk K T (Bo t) (qB pe):=fun C G σ H env n R Q hK hT S hp k=>by
 refine h C G σ H env n _ _ hK hT S hp fun x env' n' v H' r S' rp f=>?_;cases x with
 | bl b=>exact⟨b,rp,k _ _ _ _ r S' f⟩
 | _=>exact r.elim
theorem F5 (h:QE T K F e pe)(he:∀z whole,isTrue e (F z).env whole=(do let v ← whole;standAt e.pos;holding [v] (truthy v)):=by intro _ _;rfl):QT T K F e (qB pe):=by
 obtain⟨t,h1,h2⟩:=h;exact⟨_,fun z=>pt_val (h1 z) (he z),ok_b h2⟩
theorem G6 (hc:Cmp K F op w)(ha:QE T K F a pa)(hb:QR T K F b pb)(hm:Z5 op b=false):QT T K F (.Compare a [op] [b] pos) (qB (qOp w pa pb)):=by
 obtain⟨r,ho,hw⟩:=hc.ex;obtain⟨ta,h1,h2⟩:=ha;obtain⟨tb,h3,h4⟩:=hb;exact⟨_,fun z=>Bp (ho z) (h1 z) (h3 z) hm,DQ (l9 hw h2 h4)⟩
def V6 (w w':w2)(pa pb pc:pE):pE:=fun env n R=>pa env n fun x env1 n1=>pb env1 n1 fun y env2 n2=>w x y fun z=>match z with | .bl k=>if k=true then pc env2 n2 fun u env3 n3=>w' y u fun z=>R z env3 n3 else R (.bl false) env2 n2 | _=>False
theorem DR (hw:W2 K r w)(hw':W2 K r' w')(ha:EOk K T ta pa)(hb:EOk K T tb pb)(hc:EOk K T tc pc):EOk K T (Bq r r' ta tb tc) (V6 w w' pa pb pc):=fun C G σ H env n R Q hK hT S hp k=>by
 refine ha C G σ H env n _ _ hK hT S hp fun x env1 n1 v H1 p1 S1 r1 f1=>?_;refine hb C G σ H1 env1 n1 _ _ hK hT S1 p1 fun y env2 n2 u H2 p2 S2 r2 f2=>?_;subst hK;refine hw G H2 x y v u _ _ (fun p hp=>S2.fresh hp) (.inl (r1.fr f2)) (.inl r2) p2 fun z v' H' rz s rv=>?_;cases z with
 | bl kk =>
   refine⟨kk,rv,?_⟩;cases kk with
   | false=>exact k _ _ _ _ _ rz (S2.same s) rfl ((f1.trans f2).trans (Fr.of s))
   | true =>
     refine hc C G σ H' env2 n2 _ _ rfl hT (S2.same s) rz fun c3 env3 n3 v3 H3 p3 S3 r3 f3=>?_;exact hw' G H3 y c3 u v3 _ _ (fun p hp=>S3.fresh hp) (.inl ((r2.same s).fr f3)) (.inl r3) p3 fun z v' H4 rz s4 rv=>k _ _ _ _ _ rz (S3.same s4) rv ((((f1.trans f2).trans (Fr.of s)).trans f3).trans (Fr.of s4))
 | _=>exact rz.elim
theorem DS (hc:Cmp K F op w)(hc':Cmp K F op' w')(ha:QE T K F a pa)(hb:QE T K F b pb)(hcc:QE T K F c pc)(hm:lastMarks [op,op'] [b,c]=false:=by with_unfolding_all rfl):QE T K F (.Compare a [op,op'] [b,c] pos) (V6 w w' pa pb pc):=by
 obtain⟨r,ho,hw⟩:=hc.ex;obtain⟨r',ho',hw'⟩:=hc'.ex;obtain⟨ta,a1,a2⟩:=ha;obtain⟨tb,b1,b2⟩:=hb;obtain⟨tc,c1,c2⟩:=hcc;exact⟨_,fun z=>Gx (ho z) (ho' z) (a1 z) (b1 z) (c1 z) hm,DR hw hw' a2 b2 c2⟩
theorem DT (hc:Cmp K F op w)(hc':Cmp K F op' w')(ha:QE T K F a pa)(hb:QE T K F b pb)(hcc:QE T K F c pc)(hm:lastMarks [op,op'] [b,c]=false:=by with_unfolding_all rfl):QT T K F (.Compare a [op,op'] [b,c] pos) (qB (V6 w w' pa pb pc)):=by
 obtain⟨r,ho,hw⟩:=hc.ex;obtain⟨r',ho',hw'⟩:=hc'.ex;obtain⟨ta,a1,a2⟩:=ha;obtain⟨tb,b1,b2⟩:=hb;obtain⟨tc,c1,c2⟩:=hcc;exact⟨_,fun z=>Gy (ho z) (ho' z) (a1 z) (b1 z) (c1 z) hm,DQ (DR hw hw' a2 b2 c2)⟩
variable {pt pu:pT}
def qOr (t u:pT):pT:=fun env n R=>t env n fun b env1 n1=>if b=true then R true env1 n1 else u env1 n1 R
def qNot (t:pT):pT:=fun env n R=>t env n fun b env1 n1=>R (!b) env1 n1
theorem ok_or (h:TOk K T t pt)(h':TOk K T u pu):TOk K T (tOr t u) (qOr pt pu):=fun C G σ H env n R Q hK hT S hp k=>by
 refine h C G σ H env n _ _ hK hT S hp fun b env1 n1 H1 p1 S1 f1=>?_;cases b with
 | false=>exact h' C G σ H1 env1 n1 _ _ hK hT S1 p1 fun b env2 n2 H2 p2 S2 f2=>k _ _ _ _ p2 S2 (f1.trans f2)
 | true=>exact k _ _ _ _ p1 S1 f1
theorem ok_not {K:A3}{t:TT}(h:TOk K T t pt):TOk K T (tNot t) (qNot pt):=fun C G σ H env n R Q hK hT S hp k=>h C G σ H env n _ _ hK hT S hp fun b env1 n1 H1 p1 S1 f1=>k _ _ _ _ p1 S1 f1
theorem N9 (ha:QT T K F a pt):QW T K F (.BoolOp .Or [a] pos) pt:=let ⟨t,h1,h2⟩:=ha;⟨t,fun z=>pw_or1 (h1 z),h2⟩
theorem J1 (ha:QT T K F a pt)(hb:QW T K F (.BoolOp .Or (b::rest) pos) pu):QW T K F (.BoolOp .Or (a::b::rest) pos) (qOr pt pu):=let ⟨t,h1,h2⟩:=ha;let ⟨u,h3,h4⟩:=hb;⟨_,fun z=>pw_or (h1 z) (h3 z),ok_or h2 h4⟩
theorem QW.qt (h:QW T K F e pt):QT T K F e pt:=let ⟨t,h1,h2⟩:=h;⟨t,fun z=>(h1 z).pt,h2⟩
theorem G7 (ha:QT T K F a pt):QT T K F (.UnaryOp .Not a pos) (qNot pt):=let ⟨t,h1,h2⟩:=ha;⟨_,fun z=>pt_not (h1 z),ok_not h2⟩
def V7 (pa pb:pE):pE:=fun env n R=>pa env n fun x env1 n1=>match x with | .bl b=>if b=true then pb env1 n1 R else R (.bl false) env1 n1 | _=>False
theorem o7 {op}(h:QE T K F a pa):QE T K F (.BoolOp op [a] pos) pa:=let ⟨t,h1,h2⟩:=h;⟨t,fun z=>pe_one (h1 z),h2⟩
theorem d5 (ha:QE T K F a pa)(hb:QE T K F (.BoolOp .And (b::rest) pos) pb):QE T K F (.BoolOp .And (a::b::rest) pos) (V7 pa pb):=by
 obtain⟨t,h1,h2⟩:=ha;obtain⟨u,h3,h4⟩:=hb;refine⟨_,fun z=>pe_and (h1 z) (h3 z),fun C G σ H env n R Q hK hT S hp k=>?_⟩;refine h2 C G σ H env n _ _ hK hT S hp fun x env1 n1 v H1 p1 S1 r1 f1=>?_;cases x with
 | bl c =>
   refine⟨c,r1,?_⟩;cases c with
   | true=>exact h4 C G σ H1 env1 n1 _ _ hK hT S1 p1 fun x env2 n2 v H2 p2 S2 r2 f2=>k _ _ _ _ _ p2 S2 r2 (f1.trans f2)
   | false=>exact k _ _ _ _ _ p1 S1 rfl f1
 | _=>exact p1.elim
variable {pl pr:pA}
def qNil:pA:=fun env n R=>R [] env n
def A1 (pe:pE)(pr:pA):pA:=fun env n R=>pe env n fun x env1 n1=>pr env1 n1 fun xs env2 n2=>R (x::xs) env2 n2
theorem A7:QA T K F [] qNil:=⟨_,fun _=>E3,fun C G σ H env n R Q hK hT S hp k=>k _ _ _ _ _ hp S Reps.nil Fr.refl⟩
theorem Hw (h:EOk K T t pe)(h':AOk K T u pr):AOk K T (Q3 t u) (A1 pe pr):=fun C G σ H env n R Q hK hT S hp k=>by
 refine h C G σ H env n _ _ hK hT S hp fun x env1 n1 v H1 p1 S1 r1 f1=>?_;exact h' C G σ H1 env1 n1 _ _ hK hT S1 p1 fun xs env2 n2 vs H2 p2 S2 r2 f2=>k _ _ _ _ _ p2 S2 (.cons (r1.fr f2) r2) (f1.trans f2)
def C9:Expr->Bool
 | .Starred ..=>false
 | _=>true
theorem B0 (h:C9 e=true):C3 (e::es) env=(false,eval e env)::C3 es env:=by
 cases e <;> first | rfl | cases h
theorem A2 (ha:QE T K F e pe)(hr:QA T K F es pr)(h:C9 e=true:=by rfl):QA T K F (e::es) (A1 pe pr):=by
 obtain⟨t,h1,h2⟩:=ha;obtain⟨u,h3,h4⟩:=hr;exact⟨_,fun z=>C7 (h1 z) (h3 z) (B0 h),Hw h2 h4⟩
def qTup (pa:pA):pE:=fun env n R=>pa env n fun xs env1 n1=>xs.length<=1000000/\R (.tup xs) env1 n1
def qLst (pa:pA):pA:=fun env n R=>pa env n fun xs env1 n1=>xs.length<=1000000/\R xs env1 n1
def qL (pn:pA):pE:=fun env n R=>pn env n fun xs env1 n1=>R (.lst xs) env1 n1
theorem R6 {x1}(h:QA T K F es pl):QE T K F (.Tuple es x1 pos) (qTup pl):=by
 obtain⟨t,h1,h2⟩:=h;refine⟨_,fun z=>Di (h1 z),fun C G σ H env n R Q hK hT S hp k=>?_⟩;refine h2 C G σ H env n _ _ hK hT S hp fun xs env1 n1 vs H1 p1 S1 r1 f1=>⟨by rw [<- r1.length];exact mil p1.1,fun p hp=>?_⟩;exact k _ _ _ _ _ p1.2 (S1.same (Same.lay1 hp)) (V4 (S1.fresh hp) hp r1) (f1.trans (Fr.of (Same.lay1 hp)))
theorem P3 (h:QA T K F es pl):QN T K F (.List es pos) (qLst pl):=by
 obtain⟨t,h1,h2⟩:=h;refine⟨_,fun z=>Dj (h1 z),fun C G σ H env n R Q hK hT S hp k=>?_⟩;exact h2 C G σ H env n _ _ hK hT S hp fun xs env1 n1 vs H1 p1 S1 r1 f1=>⟨by rw [<- r1.length];exact mil p1.1,fun p hp=>k _ _ _ _ _ _ p1.2 S1 f1 hp r1⟩
theorem QN.ee (h:QN T K F e pl):QE T K F e (qL pl):=by
 obtain⟨t,h1,h2⟩:=h;refine⟨t,h1,fun C G σ H env n R Q hK hT S hp k=>?_⟩;refine h2 C G σ H env n _ _ hK hT S hp fun xs env1 n1 a vs Hb p1 S1 f1 hn r1=>?_;exact k _ _ _ _ _ p1 (S1.same (Same.lay1 hn)) (n6 (S1.fresh hn) hn r1) (f1.trans (Fr.of (Same.lay1 hn)))
theorem BI (h:ROk K T t pe)(hK:C.K=K)(hT:C.T=T)(S:SR C G σ H env n)(hp:pe env n R)
   (k:∀x env' n' v H',R x env' n'->SR C G σ H' env' n'->RdS C G σ H' env' x v->Fr G H H'->Q [v] H'):Q3 t tNil σ H Q:=
 h C G σ H env n _ _ hK hT S hp fun x env1 n1 v H1 p1 S1 r1 f1=>k _ _ _ _ _ p1 S1 r1 f1
end
end Pu
end
section
namespace HT
open PySem PySem.Spec PyProof.Rows
section
variable {prog:C6}{w:World}{A:Around}{E:Value->Shared->Prop}{s:Shared}
theorem getItem_tuple_whole {lo hi:Option Int}(ht:IsTup s.heap t items)(hs:s.heap.IsSliceOf sl vl vu .none)(pl:IsPart vl lo)(pu:IsPart vu hi)
   (hw:sIx items.size 0 lo=0/\sIx items.size items.size hi=items.size) (h:Q (.ref t) s):wpAny (model prog w) A (getItem (.ref t) (.ref sl)) Q E s:=by
 obtain⟨os,hos,hcs,hds⟩:=id hs;have hTs:s.TypeIs (.ref sl) "slice":=⟨os,hos,hcs⟩;have hTt:s.TypeIs (.ref t) "tuple":=ht.typeIs;unfold getItem
 try with_reducible refine T7 ?_
 first | refine A0 (A4 ?_) | skip
 refine A0 (wpAny_sequenceKey ht.typeIs (by decide) ?_)
 refine A0 (T5 (name:=C0 "__getitem__") ht.typeIs Z9
   (P4 Z9 ht.typeIs entry_tuple_getitem ?_ (args_tuple_getitem _ _)))
 show wpAny _ _ (AZ (.ref t)>>=_) _ _ s;refine A0 (tupleItemsOf_ ht ?_);refine A0 (i8 hTs ?_);rw [if_pos (by decide)];refine A0 (Dq hs pl pu ?_)
 have hyes:(((sIx items.size 0 lo:Nat):Int) == 0 && (1:Int) == 1 && (sIx items.size items.size hi - sIx items.size 0 lo) == items.size)=true:=by
   rw [hw.1,hw.2];simp
 show wpAny _ _ (if(((sIx items.size 0 lo:Nat):Int) == 0 && (1:Int) == 1 && (sIx items.size items.size hi - sIx items.size 0 lo) == items.size)=true then _ else _) _ _ s;rw [if_pos hyes];unfold Builtin.Tuple.tupleIsExact;refine A0 (A0 (i8 hTt (A4 ?_)));rw [if_pos (by rfl)];exact A0 (Q9 (A4 ⟨_,rfl,A4 h⟩))
end
end HT
namespace L2
open PySem PySem.Spec PyProof.Rows
section
variable {X:Cx}
def rSlTA (K:A3):V->Option Int->Option Int->Hp->VK->Prop:=fun x lo hi H Q=>∃a xs,x=.ref a/\SqT K H a xs/\
 (cutV xs lo hi=xs->Q (.ref a) H)/\∀p,H p=none->Q (.ref p) (upd H p (.tup (cutV xs lo hi)))
theorem Hx:SlR X (rSlTA X.K):=by
 intro pins s σ H x v vl vu lo hi sl Q I rx hs pl pu h;obtain⟨a,xs,rfl,hx,h1,h2⟩:=h
 by_cases hw:HT.sIx xs.length 0 lo=0/\HT.sIx xs.length xs.length hi=xs.length
 · cases rx;obtain⟨its,r,ht,hz⟩:=I.tuple hx;have hlen:its.toArray.size=xs.length:=by rw [D3];exact r.length.symm
   refine⟨"tuple",_,PyProof.Rows.slot_tuple_getitem.lookup,ht.typeIs,?_⟩;refine HT.getItem_tuple_whole ht hs pl pu (by rw [hlen];exact hw) ⟨.ref a,H,I,rfl,h1 ?_⟩;unfold cutV;rw [hw.1,hw.2];simp
 · exact sl_tup pins s σ H (.ref a) v vl vu lo hi sl Q I rx hs pl pu ⟨a,xs,rfl,hx,hw,h2⟩
end
end L2
namespace Pu
open PySem PySem.Spec L2
section
variable {T:PotK}{ι:Type}{K:A3}{F:ι->Cx}{e a b c:Expr}{es rest:List Expr}{pe pa pb pc:pE}{pos:Pos}{pl pr:pA}
def wIx:w2:=fun x y R=>match x,y with
 | .lst xs,.int i=>match atI xs i with | some z=>R z | none=>False
 | .tup xs,.int i=>match atI xs i with | some z=>R z | none=>False
 | .scr ns,.int i=>match atI ns i with | some z=>R (.int z) | none=>False
 | .str z,.int i=>z.length<=1000000/\match atI z.cps.toList i with | some c=>R (.str ⟨#[c]⟩) | none=>False
 | _,_=>False
theorem DU (r:Reps K G H xs vs)(h:atI xs i=some z):∃v,atI vs i=some v/\Rep K G H z v:=by
 unfold atI at h ⊢;rw [<- r.length];cases e:ixN xs.length i with
 | none=>rw [e] at h;cases h
 | some j =>
   rw [e] at h;exact r.get' h
theorem o8 (h:RdV K G H (.scr ns) v):∃a,v=.ref a/\SqL K H a (ns.map V.int):=by
 obtain⟨a,e,h⟩:=h.rep (fun _ z=>nomatch z);refine⟨a,e,?_⟩;rcases h with⟨_,o,h⟩ | h
 · exact .inl (.inr ⟨o,h⟩)
 · exact .inr h
theorem W2.ix:W2 K (rIx K) wIx:=by
 intro G H x y v u R Q hf rx ry hw k;unfold wIx at hw
 split at hw
 · rename_i xs i;obtain⟨a,vs,ev,hq,r⟩:=rx.lst;cases ez:atI xs i with
   | none=>rw [ez] at hw;exact hw.elim
   | some z =>
     rw [ez] at hw;obtain⟨v',e1,r1⟩:=DU r ez;exact .inl ⟨a,vs,i,v',ev,ry.int,hq,e1,k _ _ _ hw (Same.refl _) r1⟩
 · rename_i xs i;obtain⟨a,vs,ev,hq,r⟩:=rx.tup;cases ez:atI xs i with
   | none=>rw [ez] at hw;exact hw.elim
   | some z =>
     rw [ez] at hw;obtain⟨v',e1,r1⟩:=DU r ez;exact .inr (.inl ⟨a,vs,i,v',ev,ry.int,hq,e1,k _ _ _ hw (Same.refl _) r1⟩)
 · rename_i ns i;obtain⟨a,ev,hq⟩:=o8 rx;cases ez:atI ns i with
   | none=>rw [ez] at hw;exact hw.elim
   | some z =>
     rw [ez] at hw;refine .inl ⟨a,_,i,.int z,ev,ry.int,hq,?_,k _ _ _ hw (Same.refl _) rfl⟩;unfold atI at ez ⊢;rw [B8];cases e:ixN ns.length i with
     | none=>rw [e] at ez;cases ez
     | some j =>
       rw [e] at ez;show(ns.map V.int)[j]?=_;rw [F2,show ns[j]?=some z from ez]
       rfl
 · rename_i z i;obtain⟨hz,hw⟩:=hw;cases ez:atI z.cps.toList i with
   | none=>rw [ez] at hw;exact hw.elim
   | some c =>
     rw [ez] at hw;exact .inr (.inr ⟨z,i,c,rx.str,ry.int,mil hz,ez,k _ _ _ hw (Same.refl _) rfl⟩)
 · exact hw.elim
theorem C2 (ha:QE T K F a pa)(hb:QE T K F b pb)(hs:Dw b:=by exact fun _ _=>rfl)(hK:∀z,(F z).K=K:=by intro _;rfl):QE T K F (.Subscript a b pos) (qOp wIx pa pb):=by
 obtain⟨ta,h1,h2⟩:=ha;obtain⟨tb,h3,h4⟩:=hb.r;exact⟨_,fun z=>V0 (hK z▸ix_seq) (h1 z) (h3 z) hs,l9 W2.ix h2 h4⟩
abbrev pO:=Env->Nat->(Option Int->Env->Nat->Prop)->Prop
def qNo:pO:=fun env n R=>R none env n
def V8 (pe:pE):pO:=fun env n R=>pe env n fun x env1 n1=>match x with | .int i=>R (some i) env1 n1 | _=>False
def OOk (K:A3)(T:PotK)(t:TO)(po:pO):Prop:=∀(C:Ct) (G:Gh) (σ:St) (H:Hp) (env:Env) (n:Nat) (R:Option Int->Env->Nat->Prop) (Q:Option Int->Hp->Prop),C.K=K->C.T=T->SR C G σ H env n->po env n R->
 (∀x env' n' H',R x env' n'->SR C G σ H' env' n'->Fr G H H'->Q x H')->t σ H Q
def QO {ι:Type}(T:PotK)(K:A3)(F:ι->Cx)(e:Option Expr)(po:pO):Prop:=∃t,(∀z,PO (F z) e t)/\OOk K T t po
theorem o9:QO T K F none qNo:=⟨_,fun _=>Dr,fun C G σ H env n R Q hK hT S hp k=>k _ _ _ _ hp S Fr.refl⟩
theorem p5 (h:QE T K F e pe):QO T K F (some e) (V8 pe):=by
 obtain⟨t,h1,h2⟩:=h;refine⟨_,fun z=>Ds (h1 z),fun C G σ H env n R Q hK hT S hp k=>?_⟩;refine h2 C G σ H env n _ _ hK hT S hp fun x env1 n1 v H1 p1 S1 r1 f1=>?_;cases x with
 | int i=>exact⟨i,r1,k _ _ _ _ p1 S1 f1⟩
 | _=>exact p1.elim
def cutP {α:Type}(xs:List α)(lo hi:Option Int):List α:=(xs.drop (HT.sIx xs.length 0 lo)).take (HT.sIx xs.length xs.length hi - HT.sIx xs.length 0 lo)
theorem Reps.cut (r:Reps K G H xs vs)(lo hi:Option Int):Reps K G H (cutP xs lo hi) (cutV vs lo hi):=by
 unfold cutP cutV;rw [<- r.length];exact(r.drop _).take _
def wSl (x:PV)(lo hi:Option Int)(R:PV->Prop):Prop:=match x with
 | .lst xs=>R (.lst (cutP xs lo hi))
 | .scr ns=>R (.lst ((cutP ns lo hi).map PV.int))
 | .tup xs=>R (.tup (cutP xs lo hi))
 | .str z=>z.length<=1000000/\R (.str (Y2 z lo hi))
 | _=>False
def qSl (pe:pE)(pl ph:pO):pE:=fun env n R=>pe env n fun x env1 n1=>pl env1 n1 fun lo env2 n2=>ph env2 n2 fun hi env3 n3=>wSl x lo hi fun z=>R z env3 n3
theorem BJ {K:A3}{G:Gh}{H:Hp}:∀ns:List Int,Reps K G H (ns.map PV.int) (ns.map V.int)
 | []=>rfl
 | i::ns=>⟨.int i,ns.map V.int,rfl,rfl,BJ ns⟩
theorem DV {α β:Type}(f:α->β)(xs:List α)(lo hi:Option Int):cutP (xs.map f) lo hi=(cutP xs lo hi).map f:=by simp [cutP]
theorem sl_ok (hf:∀p,H p=none->p∉G.M)(rx:RdV K G H x v)(hw:wSl x lo hi R)(k:∀z v' H',R z->Same H H'->Rep K G H' z v'->Q v' H') :
   rSlL K v lo hi H Q\/rSlTA K v lo hi H Q\/rSlS v lo hi H Q:=by
 unfold wSl at hw
 split at hw
 · obtain⟨a,vs,ev,hq,r⟩:=rx.lst;exact .inl ⟨a,vs,ev,hq,fun p hp=>k _ _ _ hw (Same.lay1 hp) (n6 (hf p hp) hp (r.cut lo hi))⟩
 · rename_i ns;obtain⟨a,ev,hq⟩:=o8 rx;refine .inl ⟨a,_,ev,hq,fun p hp=>k _ _ _ hw (Same.lay1 hp) (n6 (hf p hp) hp ?_)⟩;have:=(BJ (K:=K) (G:=G) (H:=H) ns).cut lo hi;rw [DV] at this;exact this
 · obtain⟨a,vs,ev,t,r⟩:=rx.rep (fun _ z=>nomatch z);refine .inr (.inl ⟨a,vs,ev,t.sq,fun z=>k _ _ _ hw (Same.refl _) ?_,fun p hp=>k _ _ _ hw (Same.lay1 hp) (V4 (hf p hp) hp (r.cut lo hi))⟩);have rc:=r.cut lo hi;rw [z] at rc;exact⟨a,vs,rfl,t,rc⟩
 · exact .inr (.inr ⟨_,rx.str,mil hw.1,k _ _ _ hw.2 (Same.refl _) rfl⟩)
 · exact hw.elim
theorem p6 (he:QE T K F e pe)(hl:QO T K F lo ql)(hh:QO T K F hi qh)(hK:∀z,(F z).K=K:=by intro _;rfl):QE T K F (.Subscript e (.Slice lo hi none p2) pos) (qSl pe ql qh):=by
 obtain⟨t,h1,h2⟩:=he;obtain⟨tl,l1,l2⟩:=hl;obtain⟨th,u1,u2⟩:=hh;refine⟨_,fun z=>Dt ((hK z▸Dx).or ((hK z▸Hx).or sl_str)) (h1 z) (l1 z) (u1 z),fun C G σ H env n R Q hK hT S hp k=>?_⟩;refine h2 C G σ H env n _ _ hK hT S hp fun x env1 n1 v H1 p1 S1 r1 f1=>?_;refine l2 C G σ H1 env1 n1 _ _ hK hT S1 p1 fun lo env2 n2 H2 p2 S2 f2=>?_;refine u2 C G σ H2 env2 n2 _ _ hK hT S2 p2 fun hi env3 n3 H3 p3 S3 f3=>?_;exact sl_ok (fun p hp=>S3.fresh hp) (.inl ((r1.fr f2).fr f3)) p3 fun z v' H' rz s rv=>k _ _ _ _ _ rz (S3.same s) rv (((f1.trans f2).trans f3).trans (Fr.of s))
def WA1 (K:A3)(r:List V->Hp->VK->Prop)(w:w1):Prop:=∀(G:Gh) (H:Hp) (x:PV) (v:V) (R:PV->Prop) (Q:VK),(∀p,H p=none->p∉G.M)->RdV K G H x v->w x R->
 (∀z v' H',R z->Same H H'->Rep K G H' z v'->Q v' H')->r [v] H Q
theorem DW (hw:WA1 K r w)(h:ROk K T t pe):EOk K T (tCB r (Q3 t tNil)) (qUn w pe):=fun C G σ H env n R Q hK hT S hp k=>by
 refine BI h hK hT S hp fun x env1 n1 v H1 p1 S1 r1 f1=>?_;subst hK;exact hw G H1 x v _ _ (fun p hp=>S1.fresh hp) (r1.rd S1) p1 fun z v' H' rz s rv=>k _ _ _ _ _ rz (S1.same s) rv (f1.trans (Fr.of s))
theorem BK {id:String}(hc:∀z,G5 (F z) (.builtin id) r)(hw:WA1 K r w)(hg:∀z,Gl (F z) x)(hm:∀z,(F z).mg x=none)(hv:E5 x=some (.builtin id))(ha:QR T K F e pe)(hs:C9 e=true:=by rfl)(hn:x≠"__name__":=by decide)(hdb:(x == ("__debug__":Str))=false:=by decide) :
   QE T K F (.Call (.Name x p) [e] [] pos) (qUn w pe):=by
 obtain⟨t,h1,h2⟩:=ha;exact⟨_,fun z=>U9 (hc z) (hg z) (hm z) hv (C7 (h1 z) E3 (B0 hs)) hn hdb (B0 hs),DW hw h2⟩
theorem qe_ct1 {id:String}(hc:∀z,G5 (F z) (.type id) r)(hw:WA1 K r w)(hg:∀z,Gl (F z) x)(hm:∀z,(F z).mg x=none)(hv:E5 x=some (.type id))(ha:QR T K F e pe)(hs:C9 e=true:=by rfl)(hn:x≠"__name__":=by decide)(hdb:(x == ("__debug__":Str))=false:=by decide) :
   QE T K F (.Call (.Name x p) [e] [] pos) (qUn w pe):=by
 obtain⟨t,h1,h2⟩:=ha;exact⟨_,fun z=>Bs (hc z) (hg z) (hm z) hv (C7 (h1 z) E3 (B0 hs)) hn hdb (B0 hs),DW hw h2⟩
def wLen:w1:=fun x R=>match x with
 | .lst xs=>R (.int xs.length)
 | .tup xs=>R (.int xs.length)
 | .scr xs=>R (.int xs.length)
 | .str z=>z.length<=1000000/\R (.int z.length)
 | _=>False
theorem WA1.len:WA1 K (fun xs H Q=>(∃p ys,xs=[.ref p]/\(SqL K H p ys\/SqT K H p ys)/\Q (.int ys.length) H)\/∃z,xs=[.str z]/\z.length<=B4/\Q (.int z.length) H) wLen:=by
 intro G H x v R Q hf rx hw k;unfold wLen at hw
 split at hw
 · obtain⟨a,vs,ev,hq,r⟩:=rx.lst;exact .inl ⟨a,vs,by rw [ev],.inl hq,k _ _ _ hw (Same.refl _) (by rw [r.length];rfl)⟩
 · obtain⟨a,vs,ev,hq,r⟩:=rx.tup;exact .inl ⟨a,vs,by rw [ev],.inr hq,k _ _ _ hw (Same.refl _) (by rw [r.length];rfl)⟩
 · obtain⟨a,ev,hq⟩:=o8 rx;exact .inl ⟨a,_,by rw [ev],.inl hq,k _ _ _ hw (Same.refl _) (by rw [B8];rfl)⟩
 · exact .inr ⟨_,by rw [rx.str],mil hw.1,k _ _ _ hw.2 (Same.refl _) rfl⟩
 · exact hw.elim
theorem F7 (hg:∀z,Gl (F z) "len")(hm:∀z,(F z).mg "len"=none)(ha:QR T K F e pe)(hs:C9 e=true:=by rfl)(hK:∀z,(F z).K=K:=by intro _;rfl):QE T K F (.Call (.Name "len" p) [e] [] pos) (qUn wLen pe):=BK (fun z=>(hK z▸Dz).or GS) WA1.len hg hm DF ha hs
def R7:List PV->Option (List Bool)
 | []=>some []
 | .bl b::xs=>(R7 xs).map (b::·)
 | _=>none
theorem DX {K:A3}{G:Gh}{H:Hp}:∀{xs:List PV} {vs:List V} {bs:List Bool},R7 xs=some bs->Reps K G H xs vs->vs=bs.map V.bl
 | [],vs,bs,h,r=>by cases h;exact r
 | .bl b :: xs, vs, bs, h, r => by
   obtain⟨v,t,e,rv,rt⟩:=r;cases e1:R7 xs with
   | none=>simp [R7,e1] at h
   | some cs =>
     have:b::cs=bs:=by simpa [R7,e1] using h
     subst this;rw [e,show v=.bl b from rv,DX e1 rt]
     rfl
 | .non::_,_,_,h,_=>by cases h
 | .int _::_,_,_,h,_=>by cases h
 | .str _::_,_,_,h,_=>by cases h
 | .ty _::_,_,_,h,_=>by cases h
 | .pot _::_,_,_,h,_=>by cases h
 | .tup _::_,_,_,h,_=>by cases h
 | .lst _::_,_,_,h,_=>by cases h
 | .dct _ _::_,_,_,h,_=>by cases h
 | .fdt _ _::_,_,_,h,_=>by cases h
 | .scr _::_,_,_,h,_=>by cases h
theorem DY:∀bs:List Bool,R7 (bs.map PV.bl)=some bs
 | []=>rfl
 | b::bs=>by simp [R7,DY bs]
def wAll:w1:=fun x R=>match x with | .lst xs=>(match R7 xs with | some bs=>R (.bl (bs.all id)) | none=>False) | _=>False
theorem BL (hc:∀z,(F z).calm=true)(hg:∀z,Gl (F z) "all")(hm:∀z,(F z).mg "all"=none)(ha:QR T K F e pe)(hs:C9 e=true:=by rfl)(hK:∀z,(F z).K=K:=by intro _;rfl):QE T K F (.Call (.Name "all" p) [e] [] pos) (qUn wAll pe):=BK (fun z=>hK z▸Hi (hc z)) (fun G H x v R Q hf rx hw k=>by
 unfold wAll at hw
 split at hw
 · rename_i xs;obtain⟨a,vs,ev,hq,r⟩:=rx.lst
   split at hw
   · rename_i bs eb;exact⟨a,bs,by rw [ev],DX eb r▸hq,k _ _ _ hw (Same.refl _) rfl⟩
   · exact hw.elim
 · exact hw.elim) hg hm bt_all ha hs
def Q7:w1:=fun x R=>match x with | .lst xs=>R (.tup xs) | .tup xs=>R (.tup xs) | _=>False
theorem Y4 (hg:∀z,Gl (F z) "tuple")(hm:∀z,(F z).mg "tuple"=none)(ha:QR T K F e pe)(hs:C9 e=true:=by rfl)(hK:∀z,(F z).K=K:=by intro _;rfl):QE T K F (.Call (.Name "tuple" p) [e] [] pos) (qUn Q7 pe):=qe_ct1 (fun z=>hK z▸GU) (fun G H x v R Q hf rx hw k=>by
 unfold Q7 at hw
 split at hw
 · obtain⟨a,vs,ev,hq,r⟩:=rx.lst;exact⟨a,vs,by rw [ev],.inl ⟨hq,fun l hl=>k _ _ _ hw (Same.lay1 hl) (V4 (hf l hl) hl r)⟩⟩
 · obtain⟨a,vs,ev,t,r⟩:=rx.rep (fun _ z=>nomatch z);exact⟨a,vs,by rw [ev],.inr ⟨t.sq,k _ _ _ hw (Same.refl _) ⟨a,vs,rfl,t,r⟩⟩⟩
 · exact hw.elim) hg hm Q5 ha hs
def p8 (pe:pE):pA:=fun env n R=>pe env n fun x env1 n1=>match x with | .lst xs=>R xs env1 n1 | .tup xs=>R xs env1 n1 | .scr ns=>R (ns.map PV.int) env1 n1 | _=>False
theorem BM (hg:∀z,Gl (F z) "list")(hm:∀z,(F z).mg "list"=none)(ha:QR T K F e pe)(hs:C9 e=true:=by rfl)(hK:∀z,(F z).K=K:=by intro _;rfl):QN T K F (.Call (.Name "list" p) [e] [] pos) (p8 pe):=by
 obtain⟨t,h1,h2⟩:=ha;refine⟨_,fun z=>Bs (hK z▸GT) (hg z) (hm z) Hm (C7 (h1 z) E3 (B0 hs)) (by decide) (by decide) (B0 hs),fun C G σ H env n R Q hK hT S hp k=>?_⟩;refine BI h2 hK hT S hp fun x env1 n1 v H1 p1 S1 r1 f1=>?_;have rd:RdV K G H1 x v:=hK▸r1.rd S1;cases x with
 | lst xs =>
   obtain⟨a,vs,ev,hq,r⟩:=rd.lst;exact⟨a,vs,by rw [ev],.inl hq,fun l hl=>k _ _ _ _ _ _ p1 S1 f1 hl r⟩
 | tup xs =>
   obtain⟨a,vs,ev,hq,r⟩:=rd.tup;exact⟨a,vs,by rw [ev],.inr hq,fun l hl=>k _ _ _ _ _ _ p1 S1 f1 hl r⟩
 | scr ns =>
   obtain⟨a,ev,hq⟩:=o8 rd;exact⟨a,_,by rw [ev],.inl hq,fun l hl=>k _ _ _ _ _ _ p1 S1 f1 hl (BJ ns)⟩
 | _=>exact p1.elim
theorem tyw (hg:Gl X x)(hm:X.mg x=none)(hv:E5 x=some (.type m))(hn:x≠"__name__":=by decide)(hd:(x == ("__debug__":Str))=false:=by decide):EW X (.Name x pos) (tC (.ty m)):=⟨Gj (v:=.ty m) hg hm hv rfl hn hd⟩
def tyP:PV->Option String
 | .non=>some "NoneType"
 | .bl _=>some "bool"
 | .int _=>some "int"
 | .str _=>some "str"
 | .tup _=>some "tuple"
 | .lst _=>some "list"
 | .dct _ _=>some "dict"
 | _=>none
def isT (t n:String):Bool:=t == n || (t == "bool" && n == "int")
def wIsi (n:String):w1:=fun x R=>match tyP x with | some t=>R (.bl (isT t n)) | none=>False
theorem Hy (ht:t∈["NoneType","bool","int","str","tuple","list","dict"])(hn:n∈["bool","int","str","tuple","list"]):i4 K (.type t) (.type n)=some (isT t n):=by
 refine kit_of ?_;have:∀t∈["NoneType","bool","int","str","tuple","list","dict"],∀n∈["bool","int","str","tuple","list"],(if(L0 t == L0 n)=true then some true else if PySem.W.kitMeta n=true then(fastBuiltinMro t).map (·.contains (.type n)) else none)=some (isT t n):=by decide +kernel
 exact this t ht n hn
theorem K5 (hn:n∈["bool","int","str","tuple","list"])(hg:∀z,Gl (F z) "isinstance")(hm:∀z,(F z).mg "isinstance"=none)(ha:QE T K F a pa)(hb:∀z,EW (F z) b (tC (.ty n)))(hs:C9 a=true:=by rfl)(hs2:C9 b=true:=by rfl)(hK:∀z,(F z).K=K:=by intro _;rfl):QE T K F (.Call (.Name "isinstance" p) [a,b] [] pos) (qUn (wIsi n) pa):=by
 obtain⟨t,h1,h2⟩:=ha;refine⟨_,fun z=>U9 (hK z▸He) (hg z) (hm z) Hl (C7 (h1 z) (C7 (hb z).h E3 (B0 hs2)) (B0 hs)) (by decide) (by decide) (B0 hs) (by rw [B0 hs2];rfl),fun C G σ H env n' R Q hK hT S hp k=>?_⟩;refine h2 C G σ H env n' _ _ hK hT S hp fun x env1 n1 v H1 p1 S1 r1 f1=>?_;unfold wIsi at p1
 have fin:∀t,TyOf K H1 v (.type t)->tyP x=some t->t∈["NoneType","bool","int","str","tuple","list","dict"]->∃x' n'' t' b',[v,V.ty n]=[x',.ty n'']/\TyOf K H1 x' t'/\i4 K t' (.type n'')=some b'/\Q (.bl b') H1:=by
   intro t ty e m;rw [e] at p1;exact⟨v,n,_,_,rfl,ty,Hy m hn,k _ _ _ _ _ p1 S1 rfl f1⟩
 cases x with
 | non=>cases(show v=.non from r1);exact fin _ .non rfl (by decide)
 | bl b=>cases(show v=.bl b from r1);exact fin _ (.bl b) rfl (by decide)
 | int b=>cases(show v=.int b from r1);exact fin _ (.int b) rfl (by decide)
 | str b=>cases(show v=.str b from r1);exact fin _ (.str b) rfl (by decide)
 | tup xs=>obtain⟨a,vs,rfl,t,r⟩:=r1;exact fin _ (.tup t.2) rfl (by decide)
 | lst xs=>obtain⟨a,vs,rfl,t,r⟩:=r1;exact fin _ (.lst t.2) rfl (by decide)
 | dct ks xs=>obtain⟨a,kvs,rfl,_,t,r⟩:=r1;exact fin _ (.dK t) rfl (by decide)
 | ty n=>exact p1.elim
 | pot k=>exact p1.elim
 | fdt ks xs=>exact p1.elim
 | scr ns=>exact p1.elim
def wMin:w2:=fun x y R=>match x,y with | .int i,.int j=>R (.int (if j < i then j else i)) | _,_=>False
def wMax:w2:=fun x y R=>match x,y with | .int i,.int j=>R (.int (if j > i then j else i)) | _,_=>False
theorem DZ (hw:W2 K (fun x y H Q=>r [x,y] H Q) w)(h:EOk K T t pa)(h':EOk K T u pb):EOk K T (tCB r (Q3 t (Q3 u tNil))) (qOp w pa pb):=fun C G σ H env n R Q hK hT S hp k=>by
 refine h C G σ H env n _ _ hK hT S hp fun x env1 n1 v H1 p1 S1 r1 f1=>?_;refine h' C G σ H1 env1 n1 _ _ hK hT S1 p1 fun y env2 n2 u H2 p2 S2 r2 f2=>?_;exact hw G H2 x y v u _ _ (fun p hp=>S2.fresh hp) (.inl (r1.fr f2)) (.inl r2) p2 fun z v' H' rz s rv=>k _ _ _ _ _ rz (S2.same s) rv ((f1.trans f2).trans (Fr.of s))
theorem BN (hc:∀z,(F z).calm=true)(hg:∀z,Gl (F z) "min")(hm:∀z,(F z).mg "min"=none)(ha:QE T K F a pa)(hb:QE T K F b pb)(hs:C9 a=true:=by rfl)(hs2:C9 b=true:=by rfl):QE T K F (.Call (.Name "min" p) [a,b] [] pos) (qOp wMin pa pb):=by
 obtain⟨t,h1,h2⟩:=ha;obtain⟨u,h3,h4⟩:=hb;refine⟨_,fun z=>U9 (GB (hc z)) (hg z) (hm z) bt_min (C7 (h1 z) (C7 (h3 z) E3 (B0 hs2)) (B0 hs)) (by decide) (by decide) (B0 hs) (by rw [B0 hs2];rfl),DZ (fun G H x y v u R Q hf rx ry hw k=>?_) h2 h4⟩;unfold wMin at hw
 split at hw
 · exact⟨_,_,by rw [rx.int,ry.int],k _ _ _ hw (Same.refl _) rfl⟩
 · exact hw.elim
theorem qe_max {p:Pos}(hc:∀z,(F z).calm=true)(hg:∀z,Gl (F z) "max")(hm:∀z,(F z).mg "max"=none)(ha:QE T K F a pa)(hb:QE T K F b pb)(hs:C9 a=true:=by rfl)(hs2:C9 b=true:=by rfl):QE T K F (.Call (.Name "max" p) [a,b] [] pos) (qOp wMax pa pb):=by
 obtain⟨t,h1,h2⟩:=ha;obtain⟨u,h3,h4⟩:=hb;refine⟨_,fun z=>U9 (GA (hc z)) (hg z) (hm z) bt_max (C7 (h1 z) (C7 (h3 z) E3 (B0 hs2)) (B0 hs)) (by decide) (by decide) (B0 hs) (by rw [B0 hs2];rfl),DZ (fun G H x y v u R Q hf rx ry hw k=>?_) h2 h4⟩;unfold wMax at hw
 split at hw
 · exact⟨_,_,by rw [rx.int,ry.int],k _ _ _ hw (Same.refl _) rfl⟩
 · exact hw.elim
def D4 (K:A3)(T:PotK)(f:pF):Sp:=fun vs H Q _=>∃(G:Gh) (xs:List PV) (n:Nat) (R:PV->Nat->Prop),(∀p∈G.pots,p∈G.M/\T.at_ G.M H p n)/\(∀a∈G.M,∃o,H a=some o/\MutO o)/\T.has G.pots/\Reps K G H xs vs/\f xs n R/\
 ∀r n' v H',R r n'->Rep K G H' r v->(∀p∈G.pots,T.at_ G.M H' p n')->(∀b o,b∉G.pots->H b=some o->H' b=some o)->Q v H'
def B7 (f:pF)(pa:pA):pE:=fun env n R=>pa env n fun xs env1 n1=>f xs n1 fun r n2=>R r env1 n2
theorem SR.call (S:SR C G σ H env n)(hk:∀b o,b∉G.pots->H b=some o->H' b=some o)(hp:∀p∈G.pots,C.T.at_ G.M H' p n'):SR C G σ H' env n' where
 frame b o hb e:=by
   by_cases hp:b∈G.pots
   · -- a pot that is new since the entry has no old object
     obtain⟨l,el,_⟩:=S.pre;rw [el] at hp;rcases M1.mp hp with z | z
     · exact absurd z hb
     · have hM:=(S.pots b (by rw [el];exact hp)).1;rcases S.sub b hM with z2 | z2
       · exact(S.newp b (by rw [el];exact hp) hb z2).elim
       · rw [z2] at e;cases e
   · exact hk b o hp (S.frame b o hb e)
 sub:=S.sub
 sup:=S.sup
 pots p h:=⟨(S.pots p h).1,hp p h⟩
 pre:=S.pre
 mu a ha:=by
   by_cases h:a∈G.pots
   · exact C.T.mu (hp a h)
   · obtain⟨o,e,m⟩:=S.mu a ha;exact⟨o,hk a o h e,m⟩
 slots i x e:=by
   have f:Fr G H H':=fun b o hb he=>hk b o (fun z=>hb (S.pots b z).1) he;have:=S.slots i x e;cases x with
   | v x =>
     obtain⟨v,e1,r⟩:=this;exact⟨v,e1,r.fr f⟩
   | ow kk xs =>
     obtain⟨a,vs,e1,h1,h2,h3,h4,r⟩:=this;exact⟨a,vs,e1,h1,h2,h3,hk _ _ h3 h4,r.fr f⟩
 inj:=S.inj
 p0:=S.p0
 len:=S.len
 newp:=S.newp
theorem qe_fn (hG:∀z,Kn (F z).prog (F z).w (F z).K (F z).mg (F z).base x k ps (D4 K T f))(hr:∀z,Room j (F z).A)(hk:k<=j)(hg:∀z,Gl (F z) x)(ha:QA T K F (e::es) pl)(hdb:(x == ("__debug__":Str))=false:=by decide)
   (hs:C9 e=true:=by rfl) (hpl:∀z,(backTo pos (C3 es (F z).env)).any (·.1)=false:=by intro _;rfl):QE T K F (.Call (.Name x p) (e::es) [] pos) (B7 f pl):=by
 obtain⟨t,h1,h2⟩:=ha;refine⟨_,fun z=>pe_fn (hG z) (hr z) hk (hg z) (h1 z) hdb (B0 hs) (hpl z),fun C G σ H env n R Q hK hT S hp k=>?_⟩;refine h2 C G σ H env n _ _ hK hT S hp fun xs env1 n1 vs H1 p1 S1 r1 f1=>?_;subst hT;rw [y3];refine⟨G,xs,n1,_,fun p hp=>S1.pots p hp,S1.mu,S1.hasG,r1,p1,fun r n' v H' rr rv hp hk'=>?_⟩;exact k _ _ _ _ _ rr (S1.call hk' hp) rv (f1.trans fun b o hb e=>hk' b o (fun z=>hb (S1.pots b z).1) e)
end
end Pu
end
section
namespace Pu
open PySem PySem.Spec L2
abbrev pG:=PV->Env->(Env->Prop)->Prop
abbrev pGs:=List PV->Env->(Env->Prop)->Prop
def GOk (K:A3)(g:TG)(pg:pG):Prop:=∀(C:Ct) (G:Gh) (σ:St) (H:Hp) (env:Env) (n:Nat) (x:PV) (v:V) (R:Env->Prop) (Q:St->Hp->Prop),C.K=K->SR C G σ H env n->Rep K G H x v->pg x env R->
 (∀env' σ',R env'->SR C G σ' H env' n->Q σ' H)->g v σ H Q
def GsOk (K:A3)(g:TGs)(pg:pGs):Prop:=∀(C:Ct) (G:Gh) (σ:St) (H:Hp) (env:Env) (n:Nat) (x:List PV) (v:List V) (R:Env->Prop) (Q:St->Hp->Prop),C.K=K->SR C G σ H env n->Reps K G H x v->pg x env R->
 (∀env' σ',R env'->SR C G σ' H env' n->Q σ' H)->g v σ H Q
def QG {ι:Type}(K:A3)(F:ι->Cx)(e:Expr)(pg:pG):Prop:=∃g,(∀z,PG (F z) e g)/\GOk K g pg
def QGs {ι:Type}(K:A3)(F:ι->Cx)(e:List Expr)(pg:pGs):Prop:=∃g,(∀z,PGs (F z) e g)/\GsOk K g pg
def gN (i:Nat):pG:=fun x env R=>R (env.set i (some (.v x)))
def gNl:pGs:=fun xs env R=>match xs with | []=>R env | _=>False
def gCn (g:pG)(r:pGs):pGs:=fun xs env R=>match xs with | x::xs=>g x env fun env1=>r xs env1 R | []=>False
def gTp (k:Nat)(g:pGs):pG:=fun x env R=>match x with | .tup xs=>xs.length=k/\g xs env R | _=>False
theorem SR.set (S:SR C G σ H env n)(i:Nat)(r:Rep C.K G H x v):SR C G (σ.set i (some v)) H (env.set i (some (.v x))) n where
 frame:=S.frame
 sub:=S.sub
 sup:=S.sup
 pots:=S.pots
 pre:=S.pre
 mu:=S.mu
 slots j s e:=by
   by_cases h:i=j
   · subst h
     by_cases hl:i < env.length
     · rw [G9 hl] at e;cases e;exact⟨v,by rw [G9 (by rw [<- S.len];exact hl)],r⟩
     · rw [O4 (by rw [F6];omega)] at e;cases e
   · rw [J9 h] at e ⊢;exact S.slots j s e
 inj j k xs ys a e1 e2 e3 e4:=by
   have nj:∀(j:Nat) (xs:OK×List PV),(env.set i (some (.v x)))[j]?=some (some (Slot.ow xs.1 xs.2))->i≠j:=by
     intro j xs e h;subst h
     by_cases hl:i < env.length
     · rw [G9 hl] at e;cases e
     · rw [O4 (by rw [F6];omega)] at e;cases e
   have n1:=nj j xs e1;have n2:=nj k ys e2;rw [J9 n1] at e1 e3;rw [J9 n2] at e2 e4;exact S.inj j k xs ys a e1 e2 e3 e4
 p0:=S.p0
 len:=by rw [F6,F6];exact S.len
 newp:=S.newp
section
variable {T:PotK}{ι:Type}{K:A3}{F:ι->Cx}{e a b c:Expr}{es rest:List Expr}{pe pa pb pc:pE}{pos:Pos}{pl pr:pA}{pg:pG}{pgs:pGs}{pt:pT}
theorem Hz (i:Nat)(hN:X.N.Nodup)(hi:X.N[i]?=some x)(hx:Loc X.env.scope x)(hf:X.fn x=true\/X.env.scope.names.lookup x=some .local:=by first | exact .inl rfl | exact .inr rfl | assumption):GW X (.Name x pos) (M4 i):=⟨C_ hN hi hx hf⟩
theorem HA (h:∀z,GW (F z) (.Name x pos) (M4 i)):QG K F (.Name x pos) (gN i):=⟨_,fun z=>(h z).h,fun C G σ H env n x v R Q hK S r hp k=>k _ _ hp (S.set i (hK▸r))⟩
theorem R8:QGs K F [] gNl:=⟨_,fun _=>Da,fun C G σ H env n x v R Q hK S r hp k=>by
 cases x with
 | nil=>exact⟨r,k _ _ hp S⟩
 | cons _ _=>exact hp.elim⟩
theorem F8 (h1:QG K F e pg)(h2:QGs K F es pgs)(hs:∀z,(J3 (e::es) (F z).env).map (·.2)=assign e (F z).env::(J3 es (F z).env).map (·.2):=by intro _;rfl):QGs K F (e::es) (gCn pg pgs):=by
 obtain⟨g,a1,a2⟩:=h1;obtain⟨gs,b1,b2⟩:=h2;refine⟨_,fun z=>Bj (a1 z) (b1 z) (hs z),fun C G σ H env n x v R Q hK S r hp k=>?_⟩;cases x with
 | nil=>exact hp.elim
 | cons x xs =>
   obtain⟨u,us,rfl,ru,rs⟩:=r;exact⟨u,us,rfl,a2 C G σ H env n x u _ _ hK S ru hp fun env' σ' re S'=>b2 C G σ' H env' n xs us _ _ hK S' rs re k⟩
theorem R9 (hc:∀z,(F z).calm=true)(h:QGs K F es pgs)(hn:∀z,(J3 es (F z).env).length=m:=by intro _;rfl)(hst:∀z,(J3 es (F z).env).findIdx? (·.1)=none:=by intro _;rfl)(hK:∀z,(F z).K=K:=by intro _;rfl):QG K F (.Tuple es k pos) (gTp m pgs):=by
 obtain⟨g,a1,a2⟩:=h;refine⟨_,fun z=>hK z▸Db (hc z) (a1 z) (hn z) (hst z),fun C G σ H env n x v R Q hK S r hp k=>?_⟩;cases x with
 | tup xs =>
   obtain⟨a,vs,rfl,t,rs⟩:=r;exact⟨a,vs,rfl,t.sq,by rw [<- rs.length];exact hp.1,a2 C G σ H env n xs vs _ _ hK S rs hp.2 k⟩
 | _=>exact hp.elim
def ItR (K:A3)(G:Gh)(H:Hp)(J:It)(xs:List PV):Prop:=∀(G2:Gh) (H2:Hp),(∀b o,b∉G.M->H b=some o->H2 b=some o)->(∀a∈G2.M,a∈G.M\/H a=none)->(∀(k:Nat) (p:Addr),G.pots[k]?=some p->G2.pots[k]?=some p)->(∀p,H2 p=none->p∉G2.M)->
 (∀(i:Nat) x,xs[i]?=some x->J.go i H2/\∀v H3,J.yld i H2 v H3->Same H2 H3/\Rep K G2 H3 x v)/\∀i,xs.length<=i->J.stop i H2
def IOk (K:A3)(T:PotK)(wi:TI)(pi:pA):Prop:=∀(C:Ct) (G:Gh) (σ:St) (H:Hp) (env:Env) (n:Nat) (R:List PV->Env->Nat->Prop) (Q:It->Hp->Prop),C.K=K->C.T=T->SR C G σ H env n->pi env n R->
 (∀xs env' n' J H',R xs env' n'->SR C G σ H' env' n'->Fr G H H'->ItR K G H' J xs->Q J H')->wi σ H Q
def QI {ι:Type}(T:PotK)(K:A3)(F:ι->Cx)(tg iter:Expr)(pi:pA):Prop:=∃wi,(∀z,PI (F z) tg iter wi)/\IOk K T wi pi
variable {tg:Expr}
theorem HB {a:Addr}(t:AtL G.M H a vs)(r:Reps K G H xs vs):ItR K G H (Itl K a) xs:=by
 intro G2 H2 hk hM hp hf;have hq:SqL K H2 a vs:=SqL.of (hk a _ t.1 t.2);have r2:Reps K G2 H2 xs vs:=Reps.mono hk hM hp _ _ r;refine⟨fun i x e=>?_,fun i hi=>⟨vs,hq,by rw [<- r.length];exact hi⟩⟩;obtain⟨v,ev,rv⟩:=r2.get' e;refine⟨⟨vs,v,hq,ev⟩,fun v' H3 y=>?_⟩;obtain⟨e3,y⟩:=y;subst e3;have:=y vs hq;rw [ev] at this;cases this;exact⟨Same.refl _,rv⟩
theorem HC {a:Addr}(t:AtT G.M H a vs)(r:Reps K G H xs vs):ItR K G H (Itt K a) xs:=by
 intro G2 H2 hk hM hp hf;have hq:SqT K H2 a vs:=SqT.of (hk a _ t.1 t.2);have r2:Reps K G2 H2 xs vs:=Reps.mono hk hM hp _ _ r;refine⟨fun i x e=>?_,fun i hi=>⟨vs,hq,by rw [<- r.length];exact hi⟩⟩;obtain⟨v,ev,rv⟩:=r2.get' e;refine⟨⟨vs,v,hq,ev⟩,fun v' H3 y=>?_⟩;obtain⟨e3,y⟩:=y;subst e3;have:=y vs hq;rw [ev] at this;cases this;exact⟨Same.refl _,rv⟩
def qIl (pe:pE):pA:=fun env n R=>pe env n fun x env1 n1=>match x with | .lst xs=>R xs env1 n1 | _=>False
def qIt (pe:pE):pA:=fun env n R=>pe env n fun x env1 n1=>match x with | .tup xs=>R xs env1 n1 | _=>False
theorem BO (h:QE T K F e pe)(hK:∀z,(F z).K=K:=by intro _;rfl):QI T K F tg e (qIl pe):=by
 obtain⟨t,h1,h2⟩:=h;refine⟨_,fun z=>hK z▸Dc (h1 z),fun C G σ H env n R Q hK hT S hp k=>?_⟩;refine h2 C G σ H env n _ _ hK hT S hp fun x env1 n1 v H1 p1 S1 r1 f1=>?_;cases x with
 | lst xs =>
   obtain⟨a,vs,rfl,t,r⟩:=r1;exact⟨a,rfl,⟨vs,t.sq⟩,k _ _ _ _ _ p1 S1 f1 (HB t r)⟩
 | _=>exact p1.elim
theorem Y5 (h:QE T K F e pe)(hK:∀z,(F z).K=K:=by intro _;rfl):QI T K F tg e (qIt pe):=by
 obtain⟨t,h1,h2⟩:=h;refine⟨_,fun z=>hK z▸pi_tup (h1 z),fun C G σ H env n R Q hK hT S hp k=>?_⟩;refine h2 C G σ H env n _ _ hK hT S hp fun x env1 n1 v H1 p1 S1 r1 f1=>?_;cases x with
 | tup xs =>
   obtain⟨a,vs,rfl,t,r⟩:=r1;exact⟨a,rfl,⟨vs,t.sq⟩,k _ _ _ _ _ p1 S1 f1 (HC t r)⟩
 | _=>exact p1.elim
theorem D_ (lo:Int)(m:Nat):ItR K G H (Itr lo m) ((B6 m).map fun(k:Nat)=>PV.int (lo + k)):=by
 intro G2 H2 hk hM hp hf;refine⟨fun i x e=>?_,fun i hi=>(show m<=i by simpa using hi)⟩;rw [F2] at e;cases e1:(B6 m)[i]? with
 | none=>rw [e1] at e;cases e
 | some j =>
   rw [e1] at e;cases e;obtain⟨hi,e2⟩:=D2.mp e1;rw [List.getElem_range] at e2;subst e2;refine⟨(show i < m by simpa using hi),fun v H3 y=>?_⟩;obtain⟨e3,y⟩:=y;subst e3 y;exact⟨Same.refl _,rfl⟩
def Y6 (pe:pE):pA:=fun env n R=>pe env n fun x env1 n1=>match x with | .int j=>(-1000000<=j/\j<=1000000)/\R ((B6 j.toNat).map fun(k:Nat)=>PV.int (0 + k)) env1 n1 | _=>False
theorem p9 (hg:∀z,Gl (F z) "range")(hm:∀z,(F z).mg "range"=none)(h:QE T K F e pe)(hs:C9 e=true:=by rfl):QI T K F tg (.Call (.Name "range" p) [e] [] pos) (Y6 pe):=by
 obtain⟨t,h1,h2⟩:=h;refine⟨_,fun z=>Gq (hg z) (hm z) (C7 (h1 z) E3 (B0 hs)) (by rw [B0 hs];rfl),fun C G σ H env n R Q hK hT S hp k=>?_⟩;refine BI (pe:=pe) (fun C G σ H env n R Q hK hT S hp k=>h2 C G σ H env n R Q hK hT S hp fun x env' n' v H' r S' rp f=>k x env' n' v H' r S' (.inl (hK▸rp)) f) hK hT S hp fun x env1 n1 v H1 p1 S1 r1 f1=>?_;cases x with
 | int j=>exact⟨j,by rw [(r1.rd S1).int],by omega,by omega,k _ _ _ _ _ p1.2 S1 f1 (D_ 0 _)⟩
 | _=>exact p1.elim
def Ao (pa pb:pE):pA:=fun env n R=>pa env n fun x env1 n1=>pb env1 n1 fun y env2 n2=>match x,y with | .int i,.int j=>(-1000000<=i/\i<=1000000/\-1000000<=j/\j<=1000000)/\R ((B6 (j - i).toNat).map fun(k:Nat)=>PV.int (i + k)) env2 n2 | _,_=>False
theorem Ea {p:Pos}(hg:∀z,Gl (F z) "range")(hm:∀z,(F z).mg "range"=none)(ha:QE T K F a pa)(hb:QE T K F b pb)(hs:C9 a=true:=by rfl)(hs2:C9 b=true:=by rfl):QI T K F tg (.Call (.Name "range" p) [a,b] [] pos) (Ao pa pb):=by
 obtain⟨t,h1,h2⟩:=ha;obtain⟨u,h3,h4⟩:=hb;refine⟨_,fun z=>Gr (hg z) (hm z) (C7 (h1 z) (C7 (h3 z) E3 (B0 hs2)) (B0 hs)) (by rw [B0 hs,B0 hs2];rfl) (by rw [B0 hs2];rfl),fun C G σ H env n R Q hK hT S hp k=>?_⟩;refine h2 C G σ H env n _ _ hK hT S hp fun x env1 n1 v H1 p1 S1 r1 f1=>?_;refine h4 C G σ H1 env1 n1 _ _ hK hT S1 p1 fun y env2 n2 w H2 p2 S2 r2 f2=>?_;cases x with
 | int i =>
   cases y with
   | int j=>exact⟨i,j,by rw [show v=.int i from r1,show w=.int j from r2],⟨by omega,by omega,by omega,by omega⟩,k _ _ _ _ _ p2.2 S2 (f1.trans f2) (D_ i _)⟩
   | _=>exact p2.elim
 | _=>exact p2.elim
def qIs (pe:pE):pA:=fun env n R=>pe env n fun x env1 n1=>match x with | .str z=>z.cps.all (· < 128)=true/\R (z.cps.toList.map fun c=>.str ⟨#[c]⟩) env1 n1 | _=>False
theorem qi_str (h:QE T K F e pe):QI T K F tg e (qIs pe):=by
 obtain⟨t,h1,h2⟩:=h;refine⟨_,fun z=>pi_str (h1 z),fun C G σ H env n R Q hK hT S hp k=>?_⟩;refine h2 C G σ H env n _ _ hK hT S hp fun x env1 n1 v H1 p1 S1 r1 f1=>?_;cases x with
 | str z =>
   refine⟨z,r1,p1.1,k _ _ _ _ _ p1.2 S1 f1 ?_⟩;intro G2 H2 hk hM hp hf;refine⟨fun i x e=>?_,fun i hi=>(show z.cps.toList.length<=i by simpa using hi)⟩;rw [F2] at e;cases e1:z.cps.toList[i]? with
   | none=>rw [e1] at e;cases e
   | some c =>
     rw [e1] at e;cases e;obtain⟨hi,_⟩:=D2.mp e1;refine⟨hi,fun v H3 y=>?_⟩;obtain⟨e3,c',ec,ev⟩:=y;subst e3 ev;rw [e1] at ec;cases ec;exact⟨Same.refl _,rfl⟩
 | _=>exact p1.elim
def V9 (xs:List PV):List PV:=xs.zipIdx.map fun y=>.tup [.int (y.2:Nat),y.1]
def Ap (pe:pE):pA:=fun env n R=>pe env n fun x env1 n1=>match x with | .lst xs=>R (V9 xs) env1 n1 | _=>False
theorem BP {xs:List PV}{i:Nat}{x:PV}(h:(V9 xs)[i]?=some x):∃y,xs[i]?=some y/\x=.tup [.int (i:Nat),y]:=by
 unfold V9 at h;rw [F2,List.getElem?_zipIdx] at h;cases e:xs[i]? with
 | none=>rw [e] at h;cases h
 | some y =>
   rw [e] at h;cases h;exact⟨y,rfl,by simp⟩
theorem Aq (xs:List PV):(V9 xs).length=xs.length:=by unfold V9;simp
theorem Eb {p:Pos}{elts:List Expr}{x1:Nat}{tpos:Pos}(hg:∀z,Gl (F z) "enumerate")(hm:∀z,(F z).mg "enumerate"=none)(h:QE T K F e pe)(hs:C9 e=true:=by rfl)(hK:∀z,(F z).K=K:=by intro _;rfl):QI T K F (.Tuple elts x1 tpos) (.Call (.Name "enumerate" p) [e] [] pos) (Ap pe):=by
 obtain⟨t,h1,h2⟩:=h;refine⟨_,fun z=>hK z▸Hk (hg z) (hm z) (C7 (h1 z) E3 (B0 hs)) (by rw [B0 hs];rfl),fun C G σ H env n R Q hK hT S hp k=>?_⟩;refine h2 C G σ H env n _ _ hK hT S hp fun x env1 n1 v H1 p1 S1 r1 f1=>?_;cases x with
 | lst xs =>
   obtain⟨a,vs,rfl,t,r⟩:=r1;refine⟨a,rfl,⟨vs,t.sq⟩,k _ _ _ _ _ p1 S1 f1 ?_⟩;intro G2 H2 hk hM hp hf;have hq:SqL K H2 a vs:=SqL.of (hk a _ t.1 t.2);have r2:Reps K G2 H2 xs vs:=Reps.mono hk hM hp _ _ r;refine⟨fun i x e=>?_,fun i hi=>⟨vs,hq,by rw [<- r.length,<- Aq];exact hi⟩⟩;obtain⟨y,ey,rfl⟩:=BP e;obtain⟨v,ev,rv⟩:=r2.get' ey;refine⟨⟨vs,v,hq,ev⟩,fun v' H3 y=>?_⟩;obtain⟨p,w,hn,rfl,rfl,y⟩:=y;have:=y vs hq;rw [ev] at this;cases this;exact⟨Same.lay1 hn,V4 (hf p hn) hn (.cons rfl (.one rv))⟩
 | _=>exact p1.elim
def capS:Option (Option Slot)->Option Slot
 | some (some (.v x))=>some (.v x)
 | _=>none
def capV (cs:List (Option Nat))(env:Env):Env:=cs.map fun o=>o.bind fun j=>capS (env[j]?)
def O0 (g:pG)(tt:pT)(te:pE):List PV->Env->Nat->(List PV->Nat->Prop)->Prop
 | [],_,n,R=>R [] n
 | x::xs,env,n,R=>g x env fun env1=>tt env1 n fun b env2 n2=>if b=true then te env2 n2 fun y env3 n3=>O0 g tt te xs env3 n3 fun ys n4=>R (y::ys) n4 else O0 g tt te xs env2 n2 R
def qTru:pT:=fun env n R=>R true env n
def M7 (cs:List (Option Nat))(pi:pA)(g:pG)(tt:pT)(te:pE):pA:=fun env n R=>pi env n fun xs env1 n1=>xs.length<=1000000/\O0 g tt te xs (capV cs env1) n1 fun ys n2=>R ys env1 n2
structure Inn (K:A3)(T:PotK)(G:Gh)(σ:St)(H:Hp)(env:Env)(n:Nat):Prop where
 pots:∀p∈G.pots,p∈G.M/\T.at_ G.M H p n
 has:T.has G.pots
 mu:∀a∈G.M,∃o,H a=some o/\MutO o
 slots:∀(i:Nat) (s:Slot),env[i]?=some (some s)->∃x v,s=.v x/\σ[i]?=some (some v)/\Rep K G H x v
 len:env.length=σ.length
theorem Inn.sr (I:Inn K T G σ H env n):SR ⟨K,T,G.M,G.pots,H,false⟩ G σ H env n where
 frame b o _ e:=e
 sub a ha:=.inl ha
 sup a ha:=ha
 pots:=I.pots
 pre:=⟨[],by simp,.inl rfl⟩
 mu:=I.mu
 slots i s e:=by
   obtain⟨x,v,rfl,ev,r⟩:=I.slots i s e;exact⟨v,ev,r⟩
 inj i j xs ys a e1:=by
   obtain⟨x,v,z,_⟩:=I.slots i _ e1;cases z
 p0:=⟨fun p hp=>(I.pots p hp).1,I.has⟩
 len:=I.len
 newp p hp hn:=absurd hp hn
theorem SR.inn (S:SR ⟨K,T,G.M,G.pots,H0,false⟩ G σ H env n):Inn K T G σ H env n where
 pots:=S.pots
 has:=S.hasG
 mu:=S.mu
 slots i s e:=by
   cases s with
   | v x =>
     obtain⟨v,ev,r⟩:=S.slots i _ e;exact⟨x,v,rfl,ev,r⟩
   | ow kk xs =>
     obtain⟨a,vs,ev,h1,h2,_⟩:=S.slots i _ e;exact absurd h1 h2
 len:=S.len
theorem HD:TOk K T tTru qTru:=fun C G σ H env n R Q hK hT S hp k=>k _ _ _ _ hp S Fr.refl
theorem BQ {K:A3}{T:PotK}{J:It}{g:TG}{tt:TT}{te:TE}{pg:pG}{ptt:pT}{pte:pE}(hg:GOk K g pg)(ht:TOk K T tt ptt)(he:EOk K T te pte){G:Gh}{H1:Hp}{xs:List PV}(hJ:ItR K G H1 J xs)(hl:xs.length<=1000000)
   {σc:St} {env:Env} {n:Nat} {R:List PV->Nat->Prop} {Q:VK} {D:Addr} (hD:H1 D=none) (I0:Inn K T G σc H1 env n) (hp:O0 pg ptt pte xs env n R)
   (hQ:∀ys n' us H',R ys n'->(∀p∈G.pots,T.at_ (D::G.M) H' p n')->(∀b o,b∉G.pots->H1 b=some o->H' b=some o)->H' D=some (.lst us)->Reps K ⟨D::G.M,G.pots⟩ H' ys us->Q (.ref D) H') :
   CompW J g tt te Q D σc (upd H1 D (.lst [])):=by
 have hDM:D∉G.M:=fun z=>by
   obtain⟨o,e,_⟩:=I0.mu D z;rw [hD] at e;cases e
 let GD:Gh:=⟨D::G.M,G.pots⟩
 refine⟨fun i m σ H=>m=xs.length - i/\i<=xs.length/\∃env n acc us,Inn K T GD σ H env n/\(∀b o,b∉G.pots->H1 b=some o->H b=some o)/\H D=some (.lst us)/\Reps K GD H acc us/\acc.length<=i/\O0 pg ptt pte (xs.drop i) env n fun ys n'=>R (acc++ys) n',?_,?_⟩
 · refine⟨xs.length,by simp,N5 _,env,n,[],[],⟨fun p hp=>⟨D0 _ (I0.pots p hp).1,?_⟩,I0.has,fun a ha=>?_,fun i s e=>?_,I0.len⟩,fun b o _ e=>?_,D5,rfl,A8 _,by simpa using hp⟩
   · have h1:=T.more (M':=D::G.M) (I0.pots p hp).2 (fun a ha=>(B9.mp ha).elim (fun z=>.inr (z▸hD)) .inl);refine T.keep h1 ?_ fun b o hb e=>Same.lay1 hD b o e;obtain⟨o,e,_⟩:=T.mu h1;rw [e,Same.lay1 hD p o e]
   · rcases B9.mp ha with rfl | ha
     · exact⟨_,D5,trivial⟩
     · obtain⟨o,e,m⟩:=I0.mu a ha;exact⟨o,Same.lay1 hD a o e,m⟩
   · obtain⟨x,v,rfl,ev,r⟩:=I0.slots i s e;exact⟨x,v,rfl,ev,Rep.mono (G':=GD) (H':=upd H1 D (.lst [])) (fun b o _ e=>Same.lay1 hD b o e) (fun a ha=>(B9.mp (show a∈D::G.M from ha)).elim (fun z=>.inr (z▸hD)) .inl) (fun _ _ e=>e) _ _ r⟩
   · exact Same.lay1 hD b o e
 · rintro i m σ H ⟨rfl,hi,env,n,acc,us,I,kp,eD,ra,la,hc⟩
   have hf:∀p,H p=none->p∉GD.M:=fun p hp z=>by
     obtain⟨o,e,_⟩:=I.mu p z;rw [hp] at e;cases e
   have hk:∀b o,b∉G.M->H1 b=some o->H b=some o:=fun b o hb e=>kp b o (fun z=>hb (I0.pots b z).1) e;obtain⟨hgo,hstop⟩:=hJ GD H hk (fun a ha=>(B9.mp (show a∈D::G.M from ha)).elim (fun z=>.inr (z▸hD)) .inl) (fun _ _ e=>e) hf
   by_cases hlt:i < xs.length
   · have ex:xs[i]?=some xs[i]:=C4 hlt;obtain⟨g1,g2⟩:=hgo i _ ex;refine .inr ⟨g1,fun v H2 y=>?_⟩;obtain⟨s2,rv⟩:=g2 v H2 y;rw [X1 hlt] at hc;have S0:=I.sr;have S1:SR ⟨K,T,GD.M,GD.pots,H,false⟩ GD σ H2 env n:=S0.same s2;refine hg _ GD σ H2 env n xs[i] v _ _ rfl S1 rv hc fun env1 σ1 hc1 S2=>?_;refine ht _ GD σ1 H2 env1 n _ _ rfl rfl S2 hc1 fun b env2 n2 H4 hc2 S4 f4=>?_
     have pt:∀{H5:Hp} {env5:Env} {n5:Nat},SR ⟨K,T,GD.M,GD.pots,H,false⟩ GD σ1 H5 env5 n5->(∀b o,b∉G.pots->H1 b=some o->H5 b=some o)/\H5 D=some (.lst us):=fun S5=>by
       have nD:D∉G.pots:=fun z=>hDM (I0.pots D z).1;exact⟨fun b o hb e=>S5.frame b o hb (kp b o hb e),S5.frame D _ nD eD⟩
     cases b with
     | false =>
       obtain⟨k1,k2⟩:=pt S4;refine⟨xs.length - (i + 1),by omega,rfl,hlt,env2,n2,acc,us,S4.inn,k1,k2,?_,by omega,hc2⟩;exact Reps.mono (fun b o hb e=>S4.frame b o (fun z=>hb (D0 _ (I0.pots b z).1)) e) (fun a ha=>.inl ha) (fun _ _ e=>e) _ _ ra
     | true =>
       refine he _ GD σ1 H4 env2 n2 _ _ rfl rfl S4 hc2 fun y env3 n3 u H5 hc3 S5 r5 f5=>?_;obtain⟨k1,k2⟩:=pt S5;have ra5:Reps K GD H5 acc us:=Reps.mono (fun b o hb e=>S5.frame b o (fun z=>hb (D0 _ (I0.pots b z).1)) e) (fun a ha=>.inl ha) (fun _ _ e=>e) _ _ ra
       have fD:∀(o:HO),Fr GD H5 (upd H5 D o):=fun o b u hb e=>by
         rw [A9 (fun z=>hb (by rw [z];exact E2))];exact e
       have I5:=S5.inn;refine⟨us,k2,?_,xs.length - (i + 1),by omega,rfl,hlt,env3,n3,acc++[y],us++[u],⟨fun p hp=>⟨(I5.pots p hp).1,?_⟩,I5.has,fun a ha=>?_,fun j s e=>?_,I5.len⟩,fun b o hb e=>?_,D5,(ra5.append (.one r5)).fr (fD _),by rw [K8,x5];omega,?_⟩
       · have:=ra.length;rw [<- this];exact mil' (by omega)
       · have np:p≠D:=fun z=>hDM (by rw [<- z];exact(I0.pots p hp).1);exact T.keep (I5.pots p hp).2 (A9 np) fun b o hb e=>fD _ b o hb e
       · by_cases haD:a=D
         · subst haD;exact⟨_,D5,trivial⟩
         · obtain⟨o,e,m⟩:=I5.mu a ha;exact⟨o,by rw [A9 haD];exact e,m⟩
       · obtain⟨x,v,rfl,ev,r⟩:=I5.slots j s e;exact⟨x,v,rfl,ev,r.fr (fD _)⟩
       · have nb:b≠D:=fun z=>by rw [z,hD] at e;cases e
         rw [A9 nb];exact k1 b o hb e
       · simpa [j8] using hc3
   · have ei:i=xs.length:=by omega
     subst ei;refine .inl ⟨hstop _ (A8 _),?_⟩;rw [Z6] at hc;exact hQ _ n us H (by simpa [O0] using hc) (fun p hp=>(I.pots p hp).2) kp eD ra
end
end Pu
end
section
namespace Pu
open PySem PySem.Spec L2
section
variable {T:PotK}{ι:Type}{K:A3}{F:ι->Cx}{e a b c:Expr}{es rest:List Expr}{pe pa pb pc:pE}{pos:Pos}{pl pr:pA}{pg:pG}{pgs:pGs}{pt:pT}
def QIf {ι:Type}(T:PotK)(K:A3)(F:ι->Cx)(ifs:List Expr)(pt:pT):Prop:=∃t,(∀z,PIf (F z) ifs t)/\TOk K T t pt
theorem W0:QIf T K F [] qTru:=⟨_,fun _=>Hc,HD⟩
theorem Ec (h:QT T K F c pt):QIf T K F [c] pt:=let ⟨t,h1,h2⟩:=h;⟨t,fun z=>Hd (h1 z),h2⟩
theorem Ar {C:Ct}{G:Gh}{σ:St}{H:Hp}{env:Env}{n:Nat}(S:SR C G σ H env n)(cs:List (Option Nat)):Inn C.K C.T G (Y3 cs σ) H (capV cs env) n where
 pots:=S.pots
 has:=S.hasG
 mu:=S.mu
 len:=by simp [capV,Y3]
 slots i s e:=by
   unfold capV at e;rw [F2] at e;cases ec:cs[i]? with
   | none=>rw [ec] at e;cases e
   | some o =>
     rw [ec] at e;cases o with
     | none=>cases e
     | some j =>
       have e':capS (env[j]?)=some s:=by simpa using e
       unfold capS at e'
       split at e'
       · rename_i x ex;cases e';obtain⟨v,ev,r⟩:=S.slots j _ ex;refine⟨x,v,rfl,?_,r⟩;unfold Y3;rw [F2,ec];simp [ev]
       · cases e'
def cutH (H:Hp)(D:Addr):Hp:=fun b=>if b=D then none else H b
theorem J5 {H:Hp}{D b:Addr}(h:b≠D):cutH H D b=H b:=if_neg h
theorem As {H:Hp}{D:Addr}{o:HO}(h:H D=some o):upd (cutH H D) D o=H:=by
 funext b
 by_cases hb:b=D
 · subst hb;rw [D5,h]
 · rw [A9 hb,J5 hb]
theorem Y7 {scope:Scope}{cl:ι->List (Str×Addr)}{N:List Str}{cs:List (Option Nat)}{elt tg iter:Expr}{ifs:List Expr}{pi:pA}{ptt:pT}{pte:pE}(S:∀z,V2 (F z) scope (cl z) N cs)(hc:∀z,(F z).calm=true)(hi:QI T K F tg iter pi)
   (hg:QG K (fun y:ι×List Addr×Addr×Shared×Hp=>B3 (F y.1) scope (cl y.1) N y.2.1 y.2.2.1 y.2.2.2.1 y.2.2.2.2) tg pg) (ht:QIf T K (fun y:ι×List Addr×Addr×Shared×Hp=>B3 (F y.1) scope (cl y.1) N y.2.1 y.2.2.1 y.2.2.2.1 y.2.2.2.2) ifs ptt)
   (he:QE T K (fun y:ι×List Addr×Addr×Shared×Hp=>B3 (F y.1) scope (cl y.1) N y.2.1 y.2.2.1 y.2.2.2.1 y.2.2.2.2) elt pte)
   (hs:∀z x,L6 iter (F z).env x=pure x:=by intro _ _;rfl):QN T K F (.ListComp elt [⟨tg,iter,ifs,0⟩] scope pos) (M7 cs pi pg ptt pte):=by
 obtain⟨wi,i1,i2⟩:=hi;obtain⟨g,hg0,hg⟩:=hg;obtain⟨tt,ht0,ht⟩:=ht;obtain⟨te,he0,he⟩:=he;refine⟨_,fun z=>DC (S z) (hc z) (i1 z) (fun fp C s H=>⟨hg0 (z,fp,C,s,H),ht0 (z,fp,C,s,H),he0 (z,fp,C,s,H)⟩) (hs z),fun C G σ H env n R Q hK hT S hp k=>?_⟩;refine i2 C G σ H env n _ _ hK hT S hp fun xs env1 n1 J H1 p1 S1 f1 hJ=>?_;intro D hD;have hDM:=S1.fresh hD;refine BQ (G:=G) hg ht he hJ p1.1 hD (hT▸hK▸Ar S1 cs) p1.2 fun ys n2 us H' rr hpots hk eD ry=>?_
 -- the heap without D
 have nD:∀b o,H1 b=some o->b≠D:=fun b o e z=>by rw [z,hD] at e;cases e
 have hD0:C.H0 D=none:=by
   cases z:C.H0 D with
   | none=>rfl
   | some o =>
     by_cases hp:D∈C.pots0
     · exact absurd (S1.sup D (S1.p0.1 D hp)) hDM
     · have:=S1.frame D o hp z;rw [hD] at this;cases this
 have hk2:∀b o,b∉G.pots->H1 b=some o->cutH H' D b=some o:=fun b o hb e=>by rw [J5 (nD b o e)];exact hk b o hb e
 have nc:∀b,b∉D::G.M->b≠D:=fun b hb z=>hb (by rw [z];exact E2);have np:∀p∈G.pots,p≠D:=fun p hp z=>hDM (z▸(S1.pots p hp).1)
 have Sb:SR C G σ (cutH H' D) env1 n2:=S1.call hk2 fun p hp=>by
   subst hT;have h2:=C.T.keep (hpots p hp) (H':=cutH H' D) (J5 (np p hp)) fun b o hb e=>by rw [J5 (nc b hb)];exact e
   exact C.T.more h2 fun a ha=>.inl (D0 _ ha)
 have:=k ys env1 n2 D us (cutH H' D) rr Sb (f1.trans fun b o hb e=>hk2 b o (fun z=>hb (S1.pots b z).1) e) (by unfold cutH;rw [if_pos rfl]) ?_
 · rw [As eD] at this;exact this
 · exact Reps.mono (G:=⟨D::G.M,G.pots⟩) (fun b o hb e=>by rw [J5 (nc b hb)];exact e) (fun a ha=>.inl (D0 _ ha)) (fun _ _ e=>e) _ _ ry
end
end Pu
end
section
namespace Pu
open PySem PySem.Spec L2
structure q8 where
 nx:Env->Nat->Prop
 rt:PV->Nat->Prop
 bk:Env->Nat->Prop:=fun _ _=>False
 ct:Env->Nat->Prop:=fun _ _=>False
abbrev pS:=q8->Env->Nat->Prop
structure Ext (G:Gh)(H:Hp)(G':Gh)(H':Hp):Prop where
 keep:∀b o,b∉G.M->H b=some o->H' b=some o
 new:∀a∈G'.M,a∈G.M\/H a=none
 pot:∀(k:Nat) (p:Addr),G.pots[k]?=some p->G'.pots[k]?=some p
theorem Ext.refl:Ext G H G H:=⟨fun _ _ _ e=>e,fun _ h=>.inl h,fun _ _ e=>e⟩
theorem Ext.fr (f:Fr G H H'):Ext G H G H':=⟨f,fun _ h=>.inl h,fun _ _ e=>e⟩
theorem Ext.trans (a:Ext G H G1 H1)(b:Ext G1 H1 G2 H2):Ext G H G2 H2 where
 keep c o hc e:=b.keep c o (fun z=>(a.new c z).elim hc fun z=>by rw [z] at e;cases e) (a.keep c o hc e)
 new c hc:=(b.new c hc).elim (fun z=>a.new c z) fun z=>by
   by_cases hM:c∈G.M
   · exact .inl hM
   · refine .inr ?_;cases e:H c with
     | none=>rfl
     | some o=>rw [a.keep c o hM e] at z;cases z
 pot k p e:=b.pot k p (a.pot k p e)
structure Link (C:Ct)(G:Gh)(H:Hp)(PD:q8)(D:Ends):Prop where
 nx:∀env n G' σ H',PD.nx env n->SR C G' σ H' env n->Ext G H G' H'->D.nx σ H'
 rt:∀x n v G' σ H' env,PD.rt x n->SR C G' σ H' env n->Rep C.K ⟨C.M0,G'.pots⟩ H' x v->Ext G H G' H'->D.rt v H'
 bk:∀env n G' σ H',PD.bk env n->SR C G' σ H' env n->Ext G H G' H'->D.bk σ H'
 ct:∀env n G' σ H',PD.ct env n->SR C G' σ H' env n->Ext G H G' H'->D.ct σ H'
theorem Link.ext (L:Link C G H PD D)(x:Ext G H G' H'):Link C G' H' PD D:=
 ⟨fun env n G2 σ H2 p S e=>L.nx env n G2 σ H2 p S (x.trans e),fun y n v G2 σ H2 env p S r e=>L.rt y n v G2 σ H2 env p S r (x.trans e),fun env n G2 σ H2 p S e=>L.bk env n G2 σ H2 p S (x.trans e),fun env n G2 σ H2 p S e=>L.ct env n G2 σ H2 p S (x.trans e)⟩
def SOk (K:A3)(T:PotK)(np:Bool)(t:TS)(ps:pS):Prop:=∀(C:Ct) (G:Gh) (σ:St) (H:Hp) (env:Env) (n:Nat) (PD:q8) (D:Ends),C.K=K->C.T=T->C.np=np->SR C G σ H env n->ps PD env n->Link C G H PD D->t D σ H
def QS {ι:Type}(T:PotK)(np:Bool)(K:A3)(F:ι->Cx)(st:Stmt)(ps:pS):Prop:=∃t,(∀z,PS (F z) st t)/\SOk K T np t ps
def QSs {ι:Type}(T:PotK)(np:Bool)(K:A3)(F:ι->Cx)(st:List Stmt)(ps:pS):Prop:=∃t,(∀z,PSs (F z) st t)/\SOk K T np t ps
theorem SR.out (S:SR C G σ H env n)(r:Rep C.K G H x v):Rep C.K ⟨C.M0,G.pots⟩ H x v:=
 Rep.mono (G':=⟨C.M0,G.pots⟩) (fun _ _ _ e=>e) (fun a ha=>.inl (S.sup a ha)) (fun _ _ e=>e) _ _ r
theorem SR.old (S:SR C G σ H env n)(h:H a=none):C.H0 a=none:=by
 cases z:C.H0 a with
 | none=>rfl
 | some o =>
   by_cases hp:a∈C.pots0
   · exact absurd (S.sup a (S.p0.1 a hp)) (S.fresh h)
   · have:=S.frame a o hp z;rw [h] at this;cases this
theorem SR.moreO (S:SR C G σ H env n)(mo:MutO ob)(h:H a=none):SR C ⟨a::G.M,G.pots⟩ σ (upd H a ob) env n where
 frame b o hb e:=Same.lay1 h b o (S.frame b o hb e)
 sub b hb:=(B9.mp hb).elim (fun z=>.inr (z▸S.old h)) (S.sub b)
 sup b hb:=D0 _ (S.sup b hb)
 pots p hp:=⟨D0 _ (S.pots p hp).1,by
   have h1:=C.T.more (M':=a::G.M) (S.pots p hp).2 (fun c hc=>(B9.mp hc).elim (fun z=>.inr (z▸h)) .inl);obtain⟨o,e,_⟩:=C.T.mu h1
   exact C.T.keep h1 (by rw [e,Same.lay1 h p o e]) fun b o _ e=>Same.lay1 h b o e⟩
 pre:=S.pre
 mu b hb:=by
   rcases B9.mp hb with rfl | hb
   · exact⟨_,D5,mo⟩
   · obtain⟨o,e,m⟩:=S.mu b hb;exact⟨o,Same.lay1 h b o e,m⟩
 slots i s e:=by
   have mm:∀{x:PV} {v:V},Rep C.K G H x v->Rep C.K ⟨a::G.M,G.pots⟩ (upd H a ob) x v:=fun r=>Rep.mono (G':=⟨a::G.M,G.pots⟩) (H':=upd H a ob) (fun b o _ e=>Same.lay1 h b o e) (fun c hc=>(B9.mp (show c∈a::G.M from hc)).elim (fun z=>.inr (z▸h)) .inl) (fun _ _ e=>e) _ _ r;have:=S.slots i s e;cases s with
   | v x =>
     obtain⟨v,e1,r⟩:=this;exact⟨v,e1,mm r⟩
   | ow kk xs =>
     obtain⟨b,us,e1,h1,h2,h3,h4,r⟩:=this;exact⟨b,us,e1,D0 _ h1,h2,h3,Same.lay1 h _ _ h4,Reps.mono (G':=⟨a::G.M,G.pots⟩) (H':=upd H a ob) (fun b o _ e=>Same.lay1 h b o e) (fun c hc=>(B9.mp (show c∈a::G.M from hc)).elim (fun z=>.inr (z▸h)) .inl) (fun _ _ e=>e) _ _ r⟩
 inj:=S.inj
 p0:=S.p0
 len:=S.len
 newp:=S.newp
theorem SR.more (S:SR C G σ H env n)(h:H a=none):SR C ⟨a::G.M,G.pots⟩ σ (upd H a (.lst vs)) env n:=S.moreO (ob:=.lst vs) trivial h
theorem SR.ow (S:SR C G σ H env n)(i:Nat)(kk:OK)(h:H a=none)(r:Reps C.K G H xs vs) :
   SR C ⟨a::G.M,G.pots⟩ (σ.set i (some (.ref a))) (upd H a (mkO kk vs)) (env.set i (some (.ow kk xs))) n:=by
 have S1:=S.moreO (DI kk vs) h;have aM:a∉G.M:=S.fresh h;have r1:Reps C.K ⟨a::G.M,G.pots⟩ (upd H a (mkO kk vs)) xs vs:=Reps.mono (G':=⟨a::G.M,G.pots⟩) (H':=upd H a (mkO kk vs)) (fun b o _ e=>Same.lay1 h b o e) (fun c hc=>(B9.mp (show c∈a::G.M from hc)).elim (fun z=>.inr (z▸h)) .inl) (fun _ _ e=>e) _ _ r
 have other:∀(j:Nat) (ys:OK×List PV),env[j]?=some (some (Slot.ow ys.1 ys.2))->σ[j]?≠some (some (.ref a)):=by
   intro j ys e z;obtain⟨b,us,e1,h1,_⟩:=S.slots j _ e;rw [z] at e1;cases e1;exact aM h1
 exact {
   frame:=S1.frame
   sub:=S1.sub
   sup:=S1.sup
   pots:=S1.pots
   pre:=S1.pre
   mu:=S1.mu
   slots:=fun j s e=>by
     by_cases hj:i=j
     · subst hj
       by_cases hl:i < env.length
       · rw [G9 hl] at e;cases e;exact⟨a,vs,by rw [G9 (by rw [<- S.len];exact hl)],E2,fun z=>aM (S.sup a z),fun z=>aM (S.pots a z).1,D5,r1⟩
       · rw [O4 (by rw [F6];omega)] at e;cases e
     · rw [J9 hj] at e ⊢;exact S1.slots j s e
   inj:=fun j k xs' ys b e1 e2 e3 e4=>by
     by_cases hj:i=j
     · by_cases hk:i=k
       · omega
       · subst hj;rw [J9 hk] at e2 e4
         by_cases hl:i < σ.length
         · rw [G9 hl] at e3;cases e3;exact absurd e4 (other k ys e2)
         · rw [O4 (by rw [F6];omega)] at e3;cases e3
     · rw [J9 hj] at e1 e3
       by_cases hk:i=k
       · subst hk
         by_cases hl:i < σ.length
         · rw [G9 hl] at e4;cases e4;exact absurd e3 (other j xs' e1)
         · rw [O4 (by rw [F6];omega)] at e4;cases e4
       · rw [J9 hk] at e2 e4;exact S.inj j k xs' ys b e1 e2 e3 e4
   p0:=S.p0
   len:=by rw [F6,F6];exact S.len
   newp:=S.newp }
theorem SR.own (S:SR C G σ H env n)(i:Nat)(h:H a=none)(r:Reps C.K G H xs vs) :
   SR C ⟨a::G.M,G.pots⟩ (σ.set i (some (.ref a))) (upd H a (.lst vs)) (env.set i (some (.ow .lst xs))) n:=S.ow i .lst h r
theorem SR.putO {C:Ct}{G:Gh}{σ:St}{H:Hp}{env:Env}{n:Nat}(S:SR C G σ H env n){i:Nat}{kk:OK}(k':OK){a:Addr}{xs ys:List PV}{vs:List V}(e:env[i]?=some (some (.ow kk xs)))(ea:σ[i]?=some (some (.ref a)))(r:Reps C.K G H ys vs) :
   SR C G σ (upd H a (mkO k' vs)) (env.set i (some (.ow k' ys))) n/\Fr G H (upd H a (mkO k' vs)):=by
 obtain⟨a',us,ea',aM,a0,ap,eH,_⟩:=S.slots i _ e;rw [ea] at ea';cases ea';have f:Fr G H (upd H a (mkO k' vs)):=fun b o hb he=>by rw [A9 (fun z=>hb (by grind))];exact he
 refine⟨{
   frame:=fun b o hb he=>?_
   sub:=S.sub
   sup:=S.sup
   pots:=fun p hp=>⟨(S.pots p hp).1,C.T.keep (S.pots p hp).2 (A9 fun z=>ap (by grind)) f⟩
   pre:=S.pre
   mu:=fun b hb=>?_
   slots:=fun j s es=>?_
   inj:=fun j k xs' ys' b e1 e2 e3 e4=>?_
   p0:=S.p0
   len:=by rw [F6];exact S.len
   newp:=S.newp },f⟩
 · have hb2:b≠a:=fun z=>by
     rcases S.sub a aM with z2 | z2
     · grind
     · grind
   rw [A9 hb2];exact S.frame b o hb he
 · by_cases hba:b=a
   · subst hba;exact⟨_,D5,DI k' vs⟩
   · obtain⟨o,he,m⟩:=S.mu b hb;exact⟨o,by rw [A9 hba];exact he,m⟩
 · by_cases hj:i=j
   · subst hj;have hl:i < env.length:=(D2.mp e).1;rw [G9 hl] at es;cases es;exact⟨a,vs,ea,aM,a0,ap,D5,r.fr f⟩
   · rw [J9 hj] at es;have:=S.slots j s es;cases s with
     | v x =>
       obtain⟨v,e1,r⟩:=this;exact⟨v,e1,r.fr f⟩
     | ow kz zs =>
       obtain⟨b,us',e1,h1,h2,h3,h4,r⟩:=this;have hba:b≠a:=fun z=>hj (S.inj i j (kk,xs) (kz,zs) a e es ea (by rw [e1,z]));exact⟨b,us',e1,h1,h2,h3,by rw [A9 hba];exact h4,r.fr f⟩
 · have back:∀(j:Nat) (zs:OK×List PV),(env.set i (some (.ow k' ys)))[j]?=some (some (Slot.ow zs.1 zs.2))->∃zs':OK×List PV,env[j]?=some (some (.ow zs'.1 zs'.2)):=by
     intro j zs h
     by_cases hj:i=j
     · simp_all
     · grind
   obtain⟨z1,e1'⟩:=back j xs' e1;obtain⟨z2,e2'⟩:=back k ys' e2;exact S.inj j k z1 z2 b e1' e2' e3 e4
theorem SR.put (S:SR C G σ H env n)(e:env[i]?=some (some (.ow .lst xs)))(ea:σ[i]?=some (some (.ref a)))(r:Reps C.K G H ys vs) :
   SR C G σ (upd H a (.lst vs)) (env.set i (some (.ow .lst ys))) n/\Fr G H (upd H a (.lst vs)):=S.putO .lst e ea r
section
variable {T:PotK}{np:Bool}{ι:Type}{K:A3}{F:ι->Cx}{e a b c:Expr}{es:List Expr}{st:Stmt}{rest:List Stmt}{pe pa pb pc:pE}{pos:Pos}{pl pr:pA}{pg:pG}{pt:pT}{p1 p2:pS}
def qNx:pS:=fun D env n=>D.nx env n
def qSeq (p q:pS):pS:=fun D env n=>p { D with nx:=fun e m=>q D e m } env n
theorem E7:QSs T np K F [] qNx:=⟨_,fun _=>CZ,fun C G σ H env n PD D hK hT hn S hp L=>L.nx _ _ _ _ _ hp S Ext.refl⟩
theorem B2 (h:QS T np K F st p1):QSs T np K F [st] p1:=let ⟨t,h1,h2⟩:=h;⟨t,fun z=>k9 (h1 z),h2⟩
theorem A6 (h:QS T np K F st p1)(h':QSs T np K F rest p2):QSs T np K F (st::rest) (qSeq p1 p2):=by
 obtain⟨t,a1,a2⟩:=h;obtain⟨u,b1,b2⟩:=h';refine⟨_,fun z=>P1 (a1 z) (b1 z),fun C G σ H env n PD D hK hT hn S hp L=>?_⟩;refine a2 C G σ H env n _ _ hK hT hn S hp ⟨fun env1 n1 G1 σ1 H1 q1 S1 x1=>?_,L.rt,L.bk,L.ct⟩;exact b2 C G1 σ1 H1 env1 n1 PD D hK hT hn S1 q1 (L.ext x1)
theorem sw_set (hN:X.N.Nodup)(hi:X.N[i]?=some x)(hx:Loc X.env.scope x)(hs:T8 e (some (.Name x pos')) pos.line X.env=pure false:=by rfl)(hf:X.fn x=true\/X.env.scope.names.lookup x=some .local:=by first | exact .inl rfl | exact .inr rfl | assumption)(te:TE)(h:EW X e te):SW X (.Assign [.Name x pos'] e pos) (tAsg te (M4 i)):=⟨U7 hN hi hx h.h hs hf⟩
theorem d7 (hs:swapsWithSole [tg] e pos.line X.env=pure false:=by rfl)(hw:swappedStores [tg] e X.env=pure none:=by rfl)(h1:(J3 [tg] X.env).map (·.2)=[assign tg X.env]:=by rfl)(te:TE)(g:TG)(h:EW X e te)(hg:GW X tg g):SW X (.Assign [tg] e pos) (tAsg te g):=⟨Bl h.h hg.h hs hw h1⟩
theorem At (hs:T8 e none pos.line X.env=pure false:=by rfl)(te:TE)(h:EW X e te):SW X (.Expr e pos) (Bi te):=⟨Gm h.h hs⟩
def qSet (i:Nat)(pe:pE):pS:=fun D env n=>pe env n fun x env1 n1=>D.nx (env1.set i (some (.v x))) n1
theorem F9 (i:Nat)(h:∀z te,EW (F z) e te->SW (F z) st (tAsg te (M4 i)))(he:QE T K F e pe):QS T np K F st (qSet i pe):=by
 obtain⟨t,a1,a2⟩:=he;refine⟨_,fun z=>(h z _ ⟨a1 z⟩).h,fun C G σ H env n PD D hK hT hn S hp L=>?_⟩;refine a2 C G σ H env n _ _ hK hT S hp fun x env1 n1 v H1 q1 S1 r1 f1=>?_;exact L.nx _ _ _ _ _ q1 (S1.set i (hK▸r1)) (Ext.fr f1)
def qOwn (i:Nat)(pn:pA):pS:=fun D env n=>pn env n fun xs env1 n1=>D.nx (env1.set i (some (.ow .lst xs))) n1
theorem BR {a:Addr}(h:H a=none):Ext G H ⟨a::G.M,G.pots⟩ (upd H a o):=⟨fun b u _ e=>Same.lay1 h b u e,fun c hc=>(B9.mp (show c∈a::G.M from hc)).elim (fun z=>.inr (z▸h)) .inl,fun _ _ e=>e⟩
theorem W3 (i:Nat)(h:∀z te,EW (F z) e te->SW (F z) st (tAsg te (M4 i)))(he:QN T K F e pl):QS T np K F st (qOwn i pl):=by
 obtain⟨t,a1,a2⟩:=he;refine⟨_,fun z=>(h z _ ⟨a1 z⟩).h,fun C G σ H env n PD D hK hT hn S hp L=>?_⟩;refine a2 C G σ H env n _ _ hK hT S hp fun xs env1 n1 a vs Hb q1 S1 f1 hn1 r1=>?_;exact L.nx _ _ _ _ _ q1 (S1.own i hn1 (hK▸r1)) ((Ext.fr f1).trans (BR hn1))
def qAsg (pe:pE)(g:pG):pS:=fun D env n=>pe env n fun x env1 n1=>g x env1 fun env2=>D.nx env2 n1
theorem Ed (h:∀z te g,EW (F z) e te->GW (F z) tg g->SW (F z) st (tAsg te g))(he:QE T K F e pe)(hg:QG K F tg pg):QS T np K F st (qAsg pe pg):=by
 obtain⟨t,a1,a2⟩:=he;obtain⟨g,b1,b2⟩:=hg;refine⟨_,fun z=>(h z _ _ ⟨a1 z⟩ ⟨b1 z⟩).h,fun C G σ H env n PD D hK hT hn S hp L=>?_⟩;refine a2 C G σ H env n _ _ hK hT S hp fun x env1 n1 v H1 q1 S1 r1 f1=>?_;exact b2 C G σ H1 env1 n1 x v _ _ hK S1 r1 q1 fun env' σ' re S'=>L.nx _ _ _ _ _ re S' (Ext.fr f1)
def d8 (pe:pE):pS:=fun D env n=>pe env n fun _ env1 n1=>D.nx env1 n1
theorem Au (h:∀z te,EW (F z) e te->SW (F z) st (Bi te))(he:QE T K F e pe):QS T np K F st (d8 pe):=by
 obtain⟨t,a1,a2⟩:=he;refine⟨_,fun z=>(h z _ ⟨a1 z⟩).h,fun C G σ H env n PD D hK hT hn S hp L=>?_⟩;exact a2 C G σ H env n _ _ hK hT S hp fun x env1 n1 v H1 q1 S1 r1 f1=>L.nx _ _ _ _ _ q1 S1 (Ext.fr f1)
def qRet (pe:pE):pS:=fun D env n=>pe env n fun x _ n1=>D.rt x n1
theorem C1 (he:QE T K F e pe):QS T np K F (.Return (some e) pos) (qRet pe):=by
 obtain⟨t,a1,a2⟩:=he;refine⟨_,fun z=>Ae (a1 z),fun C G σ H env n PD D hK hT hn S hp L=>?_⟩;exact a2 C G σ H env n _ _ hK hT S hp fun x env1 n1 v H1 q1 S1 r1 f1=>L.rt _ _ _ _ _ _ _ q1 S1 (S1.out (hK▸r1)) (Ext.fr f1)
def qRetO (i:Nat):pS:=fun D env n=>match env[i]? with | some (some (.ow .lst xs))=>D.rt (.lst xs) n | _=>False
def qIfS (t:pT)(p q:pS):pS:=fun D env n=>t env n fun b env1 n1=>if b=true then p D env1 n1 else q D env1 n1
theorem E8 (hc:QT T K F c pt)(h1:QSs T np K F x p1)(h2:QSs T np K F y p2):QS T np K F (.If c x y pos) (qIfS pt p1 p2):=by
 obtain⟨tc,c1,c2⟩:=hc;obtain⟨t,a1,a2⟩:=h1;obtain⟨u,b1,b2⟩:=h2;refine⟨_,fun z=>ps_if (c1 z) (a1 z) (b1 z),fun C G σ H env n PD D hK hT hn S hp L=>?_⟩;refine c2 C G σ H env n _ _ hK hT S hp fun d env1 n1 H1 q1 S1 f1=>?_;cases d with
 | true=>exact a2 C G σ H1 env1 n1 PD D hK hT hn S1 q1 (L.ext (Ext.fr f1))
 | false=>exact b2 C G σ H1 env1 n1 PD D hK hT hn S1 q1 (L.ext (Ext.fr f1))
def forL (g:pG)(b:pS)(D:q8):List PV->Env->Nat->Prop
 | [],env,n=>D.nx env n
 | x::xs,env,n=>g x env fun env1=>b { D with nx:=fun e m=>forL g b D xs e m,ct:=fun e m=>forL g b D xs e m,bk:=D.nx } env1 n
def qFor (pi:pA)(g:pG)(b:pS):pS:=fun D env n=>pi env n fun xs env1 n1=>forL g b D xs env1 n1
theorem O1 (hc:∀z,(F z).calm=true)(hi:QI T K F tg iter pl)(hg:QG K F tg pg)(hb:QSs T np K F body p1)(hp:∀z,PassesOwn (model (F z).prog (F z).w) (F z).A (F z).env (F z).xe:=by intro _;exact PassesOwn.never)(hs:∀z x,L6 iter (F z).env x=pure x:=by intro _ _;rfl):QS T np K F (.For tg iter body [] pos) (qFor pl pg p1):=by
 obtain⟨wi,i1,i2⟩:=hi;obtain⟨g,g1,g2⟩:=hg;obtain⟨t,b1,b2⟩:=hb;refine⟨_,fun z=>De (hp z) (hc z) (i1 z) (g1 z) (b1 z) (hs z),fun C G σ H env n PD D hK hT hn S hp L=>?_⟩;refine i2 C G σ H env n _ _ hK hT S hp fun xs env1 n1 J H1 q1 S1 f1 hJ=>?_;have L1:=L.ext (Ext.fr f1);refine⟨fun i m σ H=>m=xs.length - i/\i<=xs.length/\∃G' env n,SR C G' σ H env n/\Ext G H1 G' H/\forL pg p1 PD (xs.drop i) env n,⟨xs.length,by simp,N5 _,G,env1,n1,S1,Ext.refl,by simpa using q1⟩,?_⟩;rintro i m σ' H' ⟨rfl,hi,G',env',n',S',x',q'⟩;have hf:∀p,H' p=none->p∉G'.M:=fun p hp=>S'.fresh hp;obtain⟨hgo,hstop⟩:=hJ G' H' x'.keep x'.new x'.pot hf
 by_cases hlt:i < xs.length
 · obtain⟨go1,go2⟩:=hgo i _ (C4 hlt);rw [X1 hlt] at q';refine .inr ⟨go1,fun σ H=>∃G' env n,SR C G' σ H env n/\Ext G H1 G' H/\forL pg p1 PD (xs.drop (i + 1)) env n,fun σ2 H2 h2=>⟨xs.length - (i + 1),by omega,rfl,hlt,h2⟩,fun v H2 y=>?_⟩;obtain⟨s2,rv⟩:=go2 v H2 y;have x2:Ext G' H' G' H2:=Ext.fr (Fr.of s2);refine g2 C G' σ' H2 env' n' _ v _ _ hK (S'.same s2) rv q' fun env2 σ2 q2 S2=>?_;refine b2 C G' σ2 H2 env2 n' _ _ hK hT hn S2 q2 ⟨fun e3 n3 G3 σ3 H3 q3 S3 x3=>?_,fun y n3 v G3 σ3 H3 e3 q3 S3 r3 x3=>?_,fun e3 n3 G3 σ3 H3 q3 S3 x3=>?_,fun e3 n3 G3 σ3 H3 q3 S3 x3=>?_⟩
   · exact⟨G3,e3,n3,S3,(x'.trans x2).trans x3,q3⟩
   · exact L1.rt _ _ _ _ _ _ _ q3 S3 r3 ((x'.trans x2).trans x3)
   · exact L1.nx _ _ _ _ _ q3 S3 ((x'.trans x2).trans x3)
   · exact⟨G3,e3,n3,S3,(x'.trans x2).trans x3,q3⟩
 · have ei:i=xs.length:=by omega
   subst ei;rw [Z6] at q';exact .inl ⟨hstop _ (A8 _),L1.nx _ _ _ _ _ q' S' x'⟩
def BS (i:Nat)(pe:pE):pE:=fun env n R=>pe env n fun y env1 n1=>match env1[i]? with | some (some (.ow .lst xs))=>xs.length < 1000000/\R .non (env1.set i (some (.ow .lst (xs++[y])))) n1 | _=>False
theorem Ee (i:Nat)(hv:∀z,EW (F z) (.Name x p) (tVar i))(he:QE T K F e pe)(hs:C9 e=true:=by rfl)(hbase:∀z,attributeBase (.Name x p) "append" (F z).env (eval (.Name x p) (F z).env)=eval (.Name x p) (F z).env:=by intro _;rfl)(hline:(ap.endLine == pos.line)=true:=by rfl)
   (hfew:∀z,((backTo pos (C3 [e] (F z).env)).all (fun x=>!x.1) && (backToKw pos (keywordEach [] (F z).env)).all (fun x=>x.1.isSome) && decide (([e]:List Expr).length + ([]:List Keyword).length + (if([]:List Keyword).isEmpty then 0 else 1) < 30))=true:=by intro _;rfl) (hK:∀z,(F z).K=K:=by intro _;rfl):QE T K F (.Call (.Attribute (.Name x p) "append" ap) [e] [] pos) (fun env n R=>(∃xs,env[i]?=some (some (.ow .lst xs)))/\BS i pe env n R):=by
 obtain⟨t,a1,a2⟩:=he;refine⟨tBM K "list" DA (tVar i) (Q3 t tNil),fun z=>hK z▸Bw PySem.F.plainAttrs_list PySem.F.slot_list_append PySem.F.type_list_append l7 (hv z).h (C7 (a1 z) E3 (B0 hs)) (hbase z) (hfew z) hline (B0 hs),fun C G σ H env n R Q hK hT S hp k=>?_⟩;obtain⟨⟨xs0,e0⟩,hp⟩:=hp;obtain⟨a,vs,ev,h1,h2,h3,h4,r⟩:=S.slots i _ e0;refine⟨.ref a,ev,.inl ⟨rfl,vs,SqL.of h4⟩,?_⟩;refine a2 C G σ H env n _ _ hK hT S hp fun y env1 n1 v H1 q1 S1 r1 f1=>?_
 split at q1
 · rename_i xs ex;obtain⟨a',us,ev',g1,g2,g3,g4,r'⟩:=S1.slots i _ ex;rw [ev] at ev';cases ev';subst hK;obtain⟨S2,f2⟩:=S1.put ex ev (r'.append (.one r1));exact⟨a,us,v,rfl,rfl,g4,by rw [<- r'.length];exact mil' (by omega),k _ _ _ _ _ q1.2 S2 rfl (f1.trans f2)⟩
 · exact q1.elim
end
end Pu
end
section
namespace Pu
open PySem PySem.Spec L2
abbrev pSl:=Env->Nat->(Slot->Env->Nat->Prop)->Prop
def r0 (σ:St)(env:Env)(a:Addr):Prop:=∃(j:Nat) (ys:OK×List PV),env[j]?=some (some (.ow ys.1 ys.2))/\σ[j]?=some (some (.ref a))
theorem SR.slot (S:SR C G σ H env n)(i:Nat)(r:BE C G H (some (some v)) s)(h:∀(xs:OK×List PV) a,s=.ow xs.1 xs.2->v=.ref a->¬r0 σ env a):SR C G (σ.set i (some v)) H (env.set i (some s)) n where
 frame:=S.frame
 sub:=S.sub
 sup:=S.sup
 pots:=S.pots
 pre:=S.pre
 mu:=S.mu
 slots j t e:=by
   by_cases hj:i=j
   · subst hj
     by_cases hl:i < env.length
     · rw [G9 hl] at e;cases e;rw [G9 (by rw [<- S.len];exact hl)];exact r
     · rw [O4 (by rw [F6];omega)] at e;cases e
   · rw [J9 hj] at e ⊢;exact S.slots j t e
 inj j k xs ys b e1 e2 e3 e4:=by
   by_cases hj:i=j
   · by_cases hk:i=k
     · omega
     · subst hj;rw [J9 hk] at e2 e4
       by_cases hl:i < env.length
       · rw [G9 hl] at e1;rw [G9 (by rw [<- S.len];exact hl)] at e3;cases e1;cases e3;exact absurd ⟨k,ys,e2,e4⟩ (h xs b rfl rfl)
       · rw [O4 (by rw [F6];omega)] at e1;cases e1
   · rw [J9 hj] at e1 e3
     by_cases hk:i=k
     · subst hk
       by_cases hl:i < env.length
       · rw [G9 hl] at e2;rw [G9 (by rw [<- S.len];exact hl)] at e4;cases e2;cases e4;exact absurd ⟨j,xs,e1,e3⟩ (h ys b rfl rfl)
       · rw [O4 (by rw [F6];omega)] at e2;cases e2
     · rw [J9 hk] at e2 e4;exact S.inj j k xs ys b e1 e2 e3 e4
 p0:=S.p0
 len:=by rw [F6,F6];exact S.len
 newp:=S.newp
def Ct.guard (C:Ct)(a:Addr)(vs:List V):Ct:={ C with M0:=a::C.M0,H0:=upd C.H0 a (.lst vs) }
theorem SR.guard (S:SR C G σ H env n)(vs:List V)(h:H a=none):SR (C.guard a vs) ⟨a::G.M,G.pots⟩ σ (upd H a (.lst vs)) env n:=by
 have S1:=S.more (vs:=vs) h;have aM:=S.fresh h
 exact {
   frame:=fun b o hb e=>by
     by_cases hba:b=a
     · subst hba;have e':upd C.H0 b (.lst vs) b=some o:=e;rw [D5] at e' ⊢;exact e'
     · have e':upd C.H0 a (.lst vs) b=some o:=e;rw [A9 hba] at e';exact S1.frame b o hb e'
   sub:=fun b hb=>by
     by_cases hba:b=a
     · exact .inl (by rw [hba];exact E2)
     · rcases S1.sub b hb with z | z
       · exact .inl (D0 _ z)
       · refine .inr ?_;show upd C.H0 a (.lst vs) b=none;rw [A9 hba];exact z
   sup:=fun b hb=>by
     rcases B9.mp (show b∈a::C.M0 from hb) with rfl | z
     · exact E2
     · exact S1.sup b z
   pots:=S1.pots
   pre:=S1.pre
   mu:=S1.mu
   slots:=fun i s e=>by
     cases s with
     | v x =>
       obtain⟨v,ev,r⟩:=S1.slots i _ e;exact⟨v,ev,r⟩
     | ow kk xs =>
       obtain⟨b,us,ev,h1,h2,h3,h4,r⟩:=S1.slots i _ e;obtain⟨b',us',ev',g1,_⟩:=S.slots i _ e;rw [ev] at ev';cases ev';refine⟨b,us,ev,h1,fun z=>?_,h3,h4,r⟩;rcases B9.mp (show b∈a::C.M0 from z) with rfl | z
       · exact aM g1
       · exact h2 z
   inj:=S1.inj
   p0:=⟨fun p hp=>D0 _ (S1.p0.1 p hp),S1.p0.2⟩
   len:=S1.len
   newp:=fun p hp hn hM=>by
     rcases B9.mp (show p∈a::C.M0 from hM) with rfl | z
     · exact aM (S.pots p hp).1
     · exact S1.newp p hp hn z }
theorem SR.unguard (S:SR (C.guard a vs) G σ H env n)(ha:a∉C.M0)(hp0:∀p∈C.pots0,p∈C.M0)(h0:C.H0 a=none):SR C G σ H env n/\H a=some (.lst vs)/\¬r0 σ env a:=by
 have hap:a∉C.pots0:=fun z=>ha (hp0 a z)
 refine⟨{
   frame:=fun b o hb e=>S.frame b o hb (by
     show upd C.H0 a (.lst vs) b=some o
     rw [A9 (fun z=>by rw [z,h0] at e;cases e)];exact e)
   sub:=fun b hb=>by
     by_cases hba:b=a
     · exact .inr (hba▸h0)
     · rcases S.sub b hb with z | z
       · rcases B9.mp (show b∈a::C.M0 from z) with z | z
         · exact absurd z hba
         · exact .inl z
       · have z':upd C.H0 a (.lst vs) b=none:=z;rw [A9 hba] at z';exact .inr z'
   sup:=fun b hb=>S.sup b (D0 _ hb)
   pots:=S.pots
   pre:=S.pre
   mu:=S.mu
   slots:=fun i s e=>by
     cases s with
     | v x =>
       obtain⟨v,ev,r⟩:=S.slots i _ e;exact⟨v,ev,r⟩
     | ow kk xs =>
       obtain⟨b,us,ev,h1,h2,h3,h4,r⟩:=S.slots i _ e;exact⟨b,us,ev,h1,fun z=>h2 (D0 _ z),h3,h4,r⟩
   inj:=S.inj
   p0:=⟨hp0,S.p0.2⟩
   len:=S.len
   newp:=fun p hp hn hM=>S.newp p hp hn (D0 _ hM) },S.frame a _ hap D5,?_⟩
 rintro⟨j,ys,e1,e2⟩;obtain⟨b,us,ev,h1,h2,_⟩:=S.slots j _ e1;rw [e2] at ev;cases ev;exact h2 E2
def LOk (K:A3)(T:PotK)(t:TE)(pl:pSl):Prop:=∀(C:Ct) (G:Gh) (σ:St) (H:Hp) (env:Env) (n:Nat) (R:Slot->Env->Nat->Prop) (Q:VK),C.K=K->C.T=T->SR C G σ H env n->pl env n R->
 (∀x env' n' v H',R (.v x) env' n'->SR C G σ H' env' n'->Rep K G H' x v->Fr G H H'->Q v H')->
 (∀xs env' n' a vs Hb,R (.ow .lst xs) env' n'->SR C G σ Hb env' n'->Fr G H Hb->Hb a=none->Reps K G Hb xs vs->Q (.ref a) (upd Hb a (.lst vs)))->t σ H Q
def QL {ι:Type}(T:PotK)(K:A3)(F:ι->Cx)(e:Expr)(pl:pSl):Prop:=∃t,(∀z,PE (F z) e t)/\LOk K T t pl
def sV (pe:pE):pSl:=fun env n R=>pe env n fun x env1 n1=>R (.v x) env1 n1
section
variable {T:PotK}{np:Bool}{ι:Type}{K:A3}{F:ι->Cx}{e a b c:Expr}{es:List Expr}{st:Stmt}{rest:List Stmt}{pe pa pb pc:pE}{pos:Pos}{pl pr:pA}{pg:pG}{pt:pT}{p1 p2:pS}{s1 s2 s3:pSl}
theorem ql_v (h:QE T K F e pe):QL T K F e (sV pe):=let ⟨t,h1,h2⟩:=h;⟨t,h1,fun C G σ H env n R Q hK hT S hp k _=>h2 C G σ H env n _ _ hK hT S hp fun x env' n' v H' r S' rp f=>k x env' n' v H' r S' rp f⟩
def Got (C:Ct)(G:Gh)(H:Hp)(σ:St)(env:Env)(s:Slot)(v:V):Prop:=BE C G H (some (some v)) s/\∀(xs:OK×List PV) a,s=.ow xs.1 xs.2->v=.ref a->¬r0 σ env a
theorem Ef (h:LOk K T t s1)(hK:C.K=K)(hT:C.T=T)(S:SR C G σ H env n)(hp:s1 env n R)
   (k:∀s env' n' v G' H',R s env' n'->SR C G' σ H' env' n'->Ext G H G' H'->Got C G' H' σ env' s v->Q v H'):t σ H Q:=by
 refine h C G σ H env n _ _ hK hT S hp (fun x env' n' v H' r S' rp f=>?_) fun xs env' n' a vs Hb r S' f hn rs=>?_
 · exact k _ _ _ _ _ _ r S' (Ext.fr f) ⟨⟨v,rfl,hK▸rp⟩,fun _ _ z=>nomatch z⟩
 · have aM:=S'.fresh hn;have S1:=S'.more (vs:=vs) hn;refine k _ _ _ _ _ _ r S1 ((Ext.fr f).trans (BR hn)) ⟨⟨a,vs,rfl,E2,fun z=>aM (S'.sup a z),fun z=>aM (S'.pots a z).1,D5,?_⟩,fun ys b e1 e2=>?_⟩
   · exact Reps.mono (G':=⟨a::G.M,G.pots⟩) (H':=upd Hb a (.lst vs)) (fun b o _ e=>Same.lay1 hn b o e) (fun c hc=>(B9.mp (show c∈a::G.M from hc)).elim (fun z=>.inr (z▸hn)) .inl) (fun _ _ e=>e) _ _ (hK▸rs)
   · cases e2;rintro⟨j,zs,z1,z2⟩;obtain⟨b,us,ev,g1,_⟩:=S'.slots j _ z1;rw [z2] at ev;cases ev;exact aM g1
theorem HE {R:Slot->Slot->Env->Nat->Prop}{Q:V->V->Hp->Prop}(h:LOk K T t s1)(h':LOk K T u s2)(hK:C.K=K)(hT:C.T=T)(S:SR C G σ H env n)(hp:s1 env n fun x env1 n1=>s2 env1 n1 fun y env2 n2=>R x y env2 n2)
   (k:∀x y env' n' v w G' H',R x y env' n'->SR C G' σ H' env' n'->Ext G H G' H'->Got C G' H' σ env' x v->Got C G' H' σ env' y w->(∀(xs ys:OK×List PV) a,x=.ow xs.1 xs.2->y=.ow ys.1 ys.2->v=.ref a->w≠.ref a)->Q v w H'):t σ H fun v H1=>u σ H1 fun w H2=>Q v w H2:=by
 refine h C G σ H env n _ _ hK hT S hp (fun x env1 n1 v H1 q1 S1 r1 f1=>?_) fun xs env1 n1 a vs Hb q1 S1 f1 hn rs=>?_
 · refine Ef h' hK hT S1 q1 fun y env2 n2 w G2 H2 q2 S2 x2 g2=>?_;exact k _ _ _ _ _ _ _ _ q2 S2 ((Ext.fr f1).trans x2) ⟨⟨v,rfl,Rep.mono x2.keep x2.new x2.pot _ _ (hK▸r1)⟩,fun _ _ z=>nomatch z⟩ g2 (fun _ _ _ z=>nomatch z)
 · have aM:=S1.fresh hn;have HF:=S1.guard vs hn;have a0:a∉C.M0:=fun z=>aM (S1.sup a z);have aH:=S1.old hn;have x1:Ext G H ⟨a::G.M,G.pots⟩ (upd Hb a (.lst vs)):=(Ext.fr f1).trans (BR hn);have r1:Reps C.K ⟨a::G.M,G.pots⟩ (upd Hb a (.lst vs)) xs vs:=Reps.mono (G':=⟨a::G.M,G.pots⟩) (H':=upd Hb a (.lst vs)) (fun b o _ e=>Same.lay1 hn b o e) (fun c hc=>(B9.mp (show c∈a::G.M from hc)).elim (fun z=>.inr (z▸hn)) .inl) (fun _ _ e=>e) _ _ (hK▸rs);refine Ef (C:=C.guard a vs) h' hK hT HF q1 fun y env2 n2 w G2 H2 q2 S2 x2 g2=>?_;obtain⟨S3,e3,no⟩:=S2.unguard a0 S1.p0.1 aH;have aM2:a∈G2.M:=S2.sup a E2
   have ap2:a∉G2.pots:=fun z=>by
     by_cases hz:a∈C.pots0
     · exact a0 (S1.p0.1 a hz)
     · exact S2.newp a z hz E2
   have gy:Got C G2 H2 σ env2 y w:=by
     refine⟨?_,g2.2⟩;cases y with
     | v x=>exact g2.1
     | ow kk ys =>
       obtain⟨b,us,ev,h1,h2,h3,h4,r⟩:=g2.1;exact⟨b,us,ev,h1,fun z=>h2 (D0 _ z),h3,h4,r⟩
   refine k _ _ _ _ _ _ _ _ q2 S3 (x1.trans x2) ⟨⟨a,vs,rfl,aM2,a0,ap2,e3,Reps.mono x2.keep x2.new x2.pot _ _ r1⟩,fun _ _ _ e=>by cases e;exact no⟩ gy fun xs' ys b ex ey ev ew=>?_;subst ey;cases ev;obtain⟨b,us,ev,h1,h2,_⟩:=g2.1;rw [ew] at ev;cases ev;exact h2 E2
structure AW (X:Cx)(es:List Expr)(t:TA):Prop where
 h:PA X es t
theorem d9 {X:Cx}{i j:Nat}{x y:Str}{a b:Expr}{px py pt:Pos}{kt k2 pt2}{pos:Pos}(hc:X.calm=true)(hN:X.N.Nodup)(hi:X.N[i]?=some x)(hj:X.N[j]?=some y)(hij:i≠j)
   (hx:X.env.scope.names.lookup x=some .local) (hy:X.env.scope.names.lookup y=some .local) (hw:swappedStores [.Tuple [.Name x px,.Name y py] kt pt] (.Tuple [a,b] k2 pt2) X.env=pure (some [x,y]))
   (hs:swapsWithSole [.Tuple [.Name x px,.Name y py] kt pt] (.Tuple [a,b] k2 pt2) pos.line X.env=pure false:=by rfl) (ta:TA) (h:AW X [a,b] ta) :
   SW X (.Assign [.Tuple [.Name x px,.Name y py] kt pt] (.Tuple [a,b] k2 pt2) pos) (tPar i j ta):=⟨ps_par hc hN hi hj hij hx hy h.h hw hs⟩
def qPar (i j:Nat)(s1 s2:pSl):pS:=fun D env n=>s1 env n fun a env1 n1=>s2 env1 n1 fun b env2 n2=>D.nx ((env2.set i (some a)).set j (some b)) n2
theorem Eg {a:Addr}(hl:env.length=σ.length)(h:r0 (σ.set i (some v)) (env.set i (some s)) a):r0 σ env a\/((∃xs:OK×List PV,s=.ow xs.1 xs.2)/\v=.ref a):=by
 obtain⟨j,ys,e1,e2⟩:=h
 by_cases hj:i=j
 · subst hj
   by_cases hl':i < env.length
   · rw [G9 hl'] at e1;rw [G9 (by omega)] at e2;cases e1;cases e2;exact .inr ⟨⟨_,rfl⟩,rfl⟩
   · rw [O4 (by rw [F6];omega)] at e1;cases e1
 · rw [J9 hj] at e1 e2;exact .inl ⟨j,ys,e1,e2⟩
theorem e6 (i j:Nat)(h:∀z ta,AW (F z) [a,b] ta->SW (F z) st (tPar i j ta))(h1:QL T K F a s1)(h2:QL T K F b s2)(n1:C9 a=true:=by rfl)(n2:C9 b=true:=by rfl):QS T np K F st (qPar i j s1 s2):=by
 obtain⟨t,a1,a2⟩:=h1;obtain⟨u,b1,b2⟩:=h2;refine⟨_,fun z=>(h z _ ⟨C7 (a1 z) (C7 (b1 z) E3 (B0 n2)) (B0 n1)⟩).h,fun C G σ H env n PD D hK hT hn S hp L=>?_⟩;refine HE (Q:=fun v w H2=>∃v' w',[v,w]=[v',w']/\D.nx ((σ.set i (some v')).set j (some w')) H2) a2 b2 hK hT S hp fun x y env2 n2 v w G2 H2 q S2 x2 gx gy ne=>?_;refine⟨v,w,rfl,L.nx _ _ _ _ _ q ((S2.slot i gx.1 gx.2).slot j gy.1 fun ys b e1 e2 z=>?_) x2⟩;rcases Eg S2.len z with z | ⟨⟨xs,ex⟩,ev⟩
 · exact gy.2 ys b e1 e2 z
 · exact ne xs ys b ex e1 ev e2
theorem Y8 (ho:EW X o (tVar i))(ha:∀v,assign (.Subscript o ix pos) X.env v=(do
     let ov ← holding [v] (eval o X.env)
     let iv ← holding [v,ov] (eval ix X.env)
     standAt pos
     holding [v,ov,iv] (setItem ov iv v)
     release [v,ov,iv] []):=by intro _;rfl) (ti:TE) (hi:EW X ix ti):GW X (.Subscript o ix pos) (gSub (tVar i) ti l6):=⟨Bk ho.h hi.h Bv ha⟩
def gAt (i:Nat)(pe:pE):PV->Env->Nat->(Env->Nat->Prop)->Prop:=fun x env n R=>pe env n fun y env1 n1=>match env1[i]?,y with | some (some (.ow .lst xs)),.int d=>(match ixN xs.length d with | some j=>R (env1.set i (some (.ow .lst (xs.set j x)))) n1 | none=>False) | _,_=>False
def qPut (i:Nat)(pv:pE)(pe:pE):pS:=fun D env n=>pv env n fun x env1 n1=>(∃xs,env1[i]?=some (some (.ow .lst xs)))/\gAt i pe x env1 n1 D.nx
theorem qs_put (i:Nat){pv:pE}(h:∀z te g,EW (F z) v te->GW (F z) (.Subscript o ix pos) g->SW (F z) st (tAsg te g))(hv:QE T K F v pv)(hg:∀z ti,EW (F z) ix ti->GW (F z) (.Subscript o ix pos) (gSub (tVar i) ti l6))(he:QE T K F ix pe):QS T np K F st (qPut i pv pe):=by
 obtain⟨tv,v1,v2⟩:=hv;obtain⟨ti,i1,i2⟩:=he;refine⟨_,fun z=>(h z _ _ ⟨v1 z⟩ (hg z _ ⟨i1 z⟩)).h,fun C G σ H env n PD D hK hT hn S hp L=>?_⟩;refine v2 C G σ H env n _ _ hK hT S hp fun x env1 n1 v H1 q1 S1 r1 f1=>?_;obtain⟨⟨xs0,e0⟩,q1⟩:=q1;obtain⟨a,vs,ev,h1,h2,h3,h4,r⟩:=S1.slots i _ e0;refine⟨.ref a,ev,?_⟩;refine i2 C G σ H1 env1 n1 _ _ hK hT S1 q1 fun y env2 n2 w H2 q2 S2 r2 f2=>?_
 split at q2
 · rename_i xs d ex
   split at q2
   · rename_i j ej;obtain⟨a',us,ev',g1,g2,g3,g4,r'⟩:=S2.slots i _ ex;rw [ev] at ev';cases ev';subst hK;obtain⟨S3,f3⟩:=S2.put ex ev (r'.set j (r1.fr f2));exact⟨a,us,d,j,rfl,r2,g4,by rw [<- r'.length];exact ej,L.nx _ _ _ _ _ q2 S3 (Ext.fr ((f1.trans f2).trans f3))⟩
   · exact q2.elim
 · exact q2.elim
def Av (i:Nat)(env:Env):Env:=match env[i]? with | some (some (.ow .lst xs))=>env.set i (some (.v (.lst xs))) | _=>env
theorem SR.freeze (S:SR C G σ H env n)(i:Nat):∃G',SR C G' σ H (Av i env) n/\Ext G H G' H:=by
 unfold Av
 split
 · rename_i xs ex;obtain⟨a,vs,ev,h1,h2,h3,h4,r⟩:=S.slots i _ ex
   let G':Gh:=⟨G.M.filter (·≠a),G.pots⟩
   have sub:∀b∈G'.M,b∈G.M:=fun b hb=>(X5.mp hb).1;have mm:∀{x:PV} {v:V},Rep C.K G H x v->Rep C.K G' H x v:=fun r=>Rep.mono (G':=G') (fun _ _ _ e=>e) (fun b hb=>.inl (sub b hb)) (fun _ _ e=>e) _ _ r;have mms:∀{x:List PV} {v:List V},Reps C.K G H x v->Reps C.K G' H x v:=fun r=>Reps.mono (G':=G') (fun _ _ _ e=>e) (fun b hb=>.inl (sub b hb)) (fun _ _ e=>e) _ _ r
   refine⟨G',{
     frame:=S.frame
     sub:=fun b hb=>S.sub b (sub b hb)
     sup:=fun b hb=>X5.mpr ⟨S.sup b hb,decide_eq_true (show b≠a from fun z=>h2 (by grind))⟩
     pots:=fun p hp=>⟨X5.mpr ⟨(S.pots p hp).1,decide_eq_true (show p≠a from fun z=>h3 (by grind))⟩,C.T.more (S.pots p hp).2 fun b hb=>.inl (sub b hb)⟩
     pre:=S.pre
     mu:=fun b hb=>S.mu b (sub b hb)
     slots:=fun j s es=>?_
     inj:=fun j k xs' ys b e1 e2 e3 e4=>?_
     p0:=S.p0
     len:=by rw [F6];exact S.len
     newp:=S.newp },⟨fun _ _ _ e=>e,fun b hb=>.inl (sub b hb),fun _ _ e=>e⟩⟩
   · by_cases hj:i=j
     · subst hj;rw [G9 (D2.mp ex).1] at es;cases es;exact⟨.ref a,ev,a,vs,rfl,⟨fun z=>by simpa using(X5.mp z).2,h4⟩,mms r⟩
     · rw [J9 hj] at es;have:=S.slots j s es;cases s with
       | v x =>
         obtain⟨v,e1,r⟩:=this;exact⟨v,e1,mm r⟩
       | ow kz zs =>
         obtain⟨b,us,e1,g1,g2,g3,g4,r⟩:=this;have hba:b≠a:=fun z=>hj (S.inj i j (.lst,xs) (kz,zs) a ex es ev (by rw [e1,z]));exact⟨b,us,e1,X5.mpr ⟨g1,by simpa using hba⟩,g2,g3,g4,mms r⟩
   · have back:∀(j:Nat) (zs:OK×List PV),(env.set i (some (.v (.lst xs))))[j]?=some (some (Slot.ow zs.1 zs.2))->env[j]?=some (some (.ow zs.1 zs.2)):=by
       intro j zs h
       by_cases hj:i=j
       · grind
       · grind
     exact S.inj j k xs' ys b (back j _ e1) (back k _ e2) e3 e4
 · exact⟨G,S,Ext.refl⟩
def BT (i:Nat)(p:pS):pS:=fun D env n=>p D (Av i env) n
theorem HG (i:Nat)(h:QS T np K F st p1):QS T np K F st (BT i p1):=by
 obtain⟨t,a1,a2⟩:=h;refine⟨t,a1,fun C G σ H env n PD D hK hT hn S hp L=>?_⟩;obtain⟨G',S',x'⟩:=S.freeze i;exact a2 C G' σ H _ n PD D hK hT hn S' hp (L.ext x')
end
end Pu
end
section
namespace Pu
open PySem PySem.Spec L2
def W4 (N:List Str)(xs:List PV):Env:=xs.map (fun x=>some (.v x))++Z8 (N.length - xs.length) none
def fnP (N ps:List Str)(body:pS):pF:=fun xs n R=>xs.length=ps.length/\body ⟨fun _ m=>R .non m,R,fun _ _=>False,fun _ _=>False⟩ (W4 N xs) n
theorem Eh (hp:∀p∈G.pots,p∈G.M/\T.at_ G.M H p n)(hm:∀a∈G.M,∃o,H a=some o/\MutO o)(hh:T.has G.pots)(r:Reps K G H xs vs) :
   SR ⟨K,T,G.M,G.pots,H,np⟩ G (L2.N7 N vs) H (W4 N xs) n where
 frame b o _ e:=e
 sub a ha:=.inl ha
 sup a ha:=ha
 pots:=hp
 pre:=⟨[],by simp,.inl rfl⟩
 mu:=hm
 slots i s e:=by
   unfold W4 at e
   by_cases hi:i < xs.length
   · rw [U1 (by simpa using hi),F2] at e;cases ex:xs[i]? with
     | none=>rw [ex] at e;cases e
     | some x =>
       rw [ex] at e;cases e;obtain⟨v,ev,rv⟩:=r.get' ex;refine⟨v,?_,rv⟩;unfold L2.N7;rw [U1 (by rw [B8,<- r.length];exact hi),F2,ev]
       rfl
   · rw [T9 (by simpa using hi),AQ] at e
     split at e <;> cases e
 inj i j xs' ys a e1:=by
   exfalso
   unfold W4 at e1
   by_cases hi:i < xs.length
   · rw [U1 (by simpa using hi),F2] at e1;cases ex:xs[i]? with
     | none=>rw [ex] at e1;cases e1
     | some x=>rw [ex] at e1;cases e1
   · rw [T9 (by simpa using hi),AQ] at e1
     split at e1 <;> cases e1
 p0:=⟨fun p h=>(hp p h).1,hh⟩
 len:=by unfold W4 L2.N7;simp [r.length]
 newp p h hn:=absurd h hn
section
variable {P:C6}{w:World}{K:A3}{mg:Str->Option Value}{base:Heap}{T:PotK}
theorem bd1 {P:List Value->Prop}(h:∀a,P [a])(us:List Value)(e:us.length=1):P us:=by
 obtain⟨a,rfl⟩:=List.length_eq_one_iff.mp e;exact h a
theorem bdS {P:List Value->Prop}(h:∀a us,us.length=n->P (a::us))(us:List Value)(e:us.length=n + 1):P us:=by
 obtain⟨a,us,rfl⟩:=List.exists_cons_of_length_eq_add_one e;exact h a us (Nat.succ.inj e)
theorem bd2 {P:List Value->Prop}(h:∀a b,P [a,b])(us:List Value)(e:us.length=2):P us:=bdS (fun a us e=>bd1 (P:=fun us=>P (a::us)) (h a) us e) us e
theorem bd3 {P:List Value->Prop}(h:∀a b c,P [a,b,c])(us:List Value)(e:us.length=3):P us:=bdS (fun a us e=>bd2 (P:=fun us=>P (a::us)) (h a) us e) us e
theorem bd4 {P:List Value->Prop}(h:∀a b c d,P [a,b,c,d])(us:List Value)(e:us.length=4):P us:=bdS (fun a us e=>bd3 (P:=fun us=>P (a::us)) (h a) us e) us e
theorem bd5 {P:List Value->Prop}(h:∀a b c d e,P [a,b,c,d,e])(us:List Value)(e:us.length=5):P us:=bdS (fun a us e=>bd4 (P:=fun us=>P (a::us)) (h a) us e) us e
theorem fn_ok (F0:Fn0 K mg x st)(sc:P2 N ps (D6 st))
   (bd:∀(kV doc pm:Value) (an:Option Addr) (cdv ct:Value) (us:List Value),us.length=ps.length->bindArgs (M9 x x (Q4 st) (L5 st) (D6 st) .none kV doc pm an cdv ct) ⟨us,[]⟩=pure (ps.zip us))
   (h:∀(f:Addr) (cdv:Value) (A:Around) (outer:List PySem.Env) (s:Shared) (H:Hp) (E:XK),Room k (A.deeper (AY x (D6 st) s.heap.objs.size f cdv))->
     QSs T false K (fun _:Unit=>(cxOf CX0 P w K mg base N x (D6 st) f cdv A outer s H E).nox) (L5 st) body) :
   Kn P w K mg base x (k + 1) ps (D4 K T (fnP N ps body)):=by
 refine F0.ok sc (fun vs H Q E h=>?_) bd (fun f cdv A outer s H vs Q E hr hsp=>?_)
 · obtain⟨G,xs,n,R,_,_,_,r,hf,_⟩:=h;rw [<- r.length];exact hf.1
 · obtain⟨t,h1,h2⟩:=h f cdv A outer s H E hr;obtain⟨G,xs,n,R,hp,hm,hh,r,hf,k'⟩:=hsp;refine⟨t,h1 (),?_⟩;have S0:=Eh (N:=N) (np:=false) hp hm hh r
   have fin:∀(x:PV) (n':Nat) (v:V) (G':Gh) (σ:St) (H':Hp) (env:Env),R x n'->SR ⟨K,T,G.M,G.pots,H,false⟩ G' σ H' env n'->Rep K ⟨G.M,G'.pots⟩ H' x v->Q v H':=by
     intro x n' v G' σ H' env rr S' rv
     have ep:G'.pots=G.pots:=by
       obtain⟨l,el,hl⟩:=S'.pre;rcases hl with hl | hl
       · rw [el,hl,y3]
       · cases hl
     rw [ep] at rv;exact k' _ _ _ _ rr rv (fun p hp'=>T.more (S'.pots p (by rw [ep];exact hp')).2 fun a ha=>.inl (S'.sup a ha)) S'.frame
   refine h2 _ G _ H _ n _ _ rfl rfl rfl S0 hf.2 ⟨fun env n' G' σ H' q S' _=>?_,fun x n' v G' σ H' env q S' rv _=>fin x n' v G' σ H' env q S' rv,fun _ _ _ _ _ q=>q.elim,fun _ _ _ _ _ q=>q.elim⟩;exact fin .non n' .non G' σ H' env q S' rfl
theorem law_ok (F0:Fn0 K mg x st)(sc:P2 N [y] (D6 st))
   (bd:∀(kV doc pm:Value) (an:Option Addr) (cdv ct:Value) (us:List Value),us.length=[y].length->bindArgs (M9 x x (Q4 st) (L5 st) (D6 st) .none kV doc pm an cdv ct) ⟨us,[]⟩=pure ([y].zip us))
   (h:∀(f:Addr) (cdv:Value) (A:Around) (outer:List PySem.Env) (s:Shared) (H:Hp) (E:XK),Room k (A.deeper (AY x (D6 st) s.heap.objs.size f cdv))->
     QSs T true K (fun _:Unit=>(cxOf CX0 P w K mg base N x (D6 st) f cdv A outer s H E).nox) (L5 st) body)
   (hlaw:∀ns:List Int,ns.length<=63->body ⟨fun _ _=>False,fun r _=>r=.bl true,fun _ _=>False,fun _ _=>False⟩ (W4 N [.scr ns]) 0) (h0:T.has []:=by trivial) :
   Kn P w K mg base x (k + 1) [y] (Ag K):=by
 refine F0.ok sc (fun vs H Q E h=>?_) bd (fun f cdv A outer s H vs Q E hr hsp=>?_)
 · obtain⟨a,ns,rfl,_⟩:=h
   rfl
 · obtain⟨t,h1,h2⟩:=h f cdv A outer s H E hr;obtain⟨a,ns,rfl,hS,hl,hO,q⟩:=hsp;refine⟨t,h1 (),?_⟩
   let G:Gh:=⟨[],[]⟩
   have r:Reps K G H [.scr ns] [.ref a]:=by
     refine .one ⟨a,rfl,?_⟩;rcases hS with(hS | ⟨o,hS⟩) | hS
     · rcases hO a with z | ⟨o,xs,z⟩
       · rw [z] at hS;cases hS
       · rw [z] at hS;cases hS
     · exact .inl ⟨by simp [G],o,hS⟩
     · exact .inr hS
   have S0:=Eh (T:=T) (N:=N) (np:=true) (n:=0) (G:=G) (fun p hp=>nomatch hp) (fun a ha=>nomatch ha) h0 r;refine h2 _ G _ H _ 0 _ _ rfl rfl rfl S0 (hlaw ns hl) ⟨fun _ _ _ _ _ q=>q.elim,fun x n' v G' σ H' env qq S' rv _=>?_,fun _ _ _ _ _ q=>q.elim,fun _ _ _ _ _ q=>q.elim⟩;subst qq;obtain rfl:v=.bl true:=rv;exact q H'
end
structure t7 (own seed go:Int):Prop where
 o0:0<=own
 s0:0<=seed
 s1:seed < 2 ^ 62
 g0:0<=go
 g1:go<=2 ^ 40
def PotAt (H:Hp)(p:Addr)(n:Nat):Prop:=∃own seed go,H p=some (.lst [.int own,.int seed,.int go])/\t7 own seed go/\go<=(n:Int)
def potL:PotK where
 at_:=fun _ H p n=>PotAt H p n
 mono:=fun⟨own,seed,go,a,b,c⟩ h=>⟨own,seed,go,a,b,by omega⟩
 keep:=fun⟨own,seed,go,a,b,c⟩ e _=>⟨own,seed,go,e.trans a,b,c⟩
 more:=fun h _=>h
 mu:=fun⟨own,seed,go,a,b,c⟩=>⟨_,a,trivial⟩
def e7:pF:=fun xs n R=>match xs with | [.pot _,.int m]=>(0 < m/\m < 1000000/\n < 1000000000)/\∀d:Int,0<=d->d < m->R (.int d) (n + 1) | _=>False
section
variable {P:C6}{w:World}{K:A3}{mg:Str->Option Value}{base:Heap}
def spDraw:Sp:=fun vs H Q _=>∃(p:Addr) (own seed go many:Int),vs=[.ref p,.int many]/\H p=some (.lst [.int own,.int seed,.int go])/\t7 own seed go/\go < 2 ^ 40/\0 < many/\many < 1000000/\
 ∀d own' seed' go',0<=d->d < many->t7 own' seed' go'->go'<=go + 1->Q (.int d) (upd H p (.lst [.int own',.int seed',.int go']))
theorem HH (G:Kn P w K mg base x k ps spDraw):Kn P w K mg base x k ps (D4 K potL e7):=G.imp fun vs H Q E h=>by
 obtain⟨G,xs,n,R,hp,hm,_,r,hf,k⟩:=h;unfold e7 at hf
 split at hf
 · rename_i kk m;obtain⟨v,rr,rfl,rv,u,r2,rfl,ru,rfl⟩:=r;obtain⟨p,ep,rfl⟩:=rv;obtain rfl:u=.int m:=ru;have pin:p∈G.pots:=N3 ep;obtain⟨pM,own,seed,go,e,ok,hg⟩:=hp p pin;refine⟨p,own,seed,go,m,rfl,e,ok,by omega,hf.1.1,hf.1.2.1,fun d own' seed' go' d0 d1 ok' g'=>?_⟩;refine k _ _ _ _ (hf.2 d d0 d1) rfl (fun q hq=>?_) fun b o hb eb=>?_
   · by_cases hqp:q=p
     · subst hqp;exact⟨own',seed',go',D5,ok',by omega⟩
     · obtain⟨_,o2,s2,g2,e2,ok2,hg2⟩:=hp q hq;exact⟨o2,s2,g2,by rw [A9 hqp];exact e2,ok2,by omega⟩
   · rw [A9 (fun z=>hb (by grind))];exact eb
 · grind
end
section
variable {ι:Type}{K:A3}{F:ι->Cx}{e:Expr}{es:List Expr}{st:Stmt}{pos:Pos}{pl:pA}{pe pa pb:pE}
theorem SR.pot {C:Ct}{G:Gh}{σ:St}{H:Hp}{env:Env}{n:Nat}(S:SR C G σ H env n)(hn:C.np=true)(hT:C.T=potL){p:Addr}{own seed:Int}(h:H p=none)(ok:t7 own seed 0) :
   SR C ⟨p::G.M,G.pots++[p]⟩ σ (upd H p (.lst [.int own,.int seed,.int 0])) env n:=by
 have S1:=S.more (vs:=[.int own,.int seed,.int 0]) h
 have mm:∀{x:PV} {v:V} {H:Hp},Rep C.K ⟨p::G.M,G.pots⟩ H x v->Rep C.K ⟨p::G.M,G.pots++[p]⟩ H x v:=fun r=>Rep.mono (G:=⟨p::G.M,G.pots⟩) (G':=⟨p::G.M,G.pots++[p]⟩) (fun _ _ _ e=>e) (fun _ ha=>.inl ha) (fun k q e=>by
   obtain⟨hk,_⟩:=D2.mp e;show(G.pots++[p])[k]?=_
   rw [U1 hk];exact e) _ _ r
 have mms:∀{x:List PV} {v:List V} {H:Hp},Reps C.K ⟨p::G.M,G.pots⟩ H x v->Reps C.K ⟨p::G.M,G.pots++[p]⟩ H x v:=fun r=>Reps.mono (G:=⟨p::G.M,G.pots⟩) (G':=⟨p::G.M,G.pots++[p]⟩) (fun _ _ _ e=>e) (fun _ ha=>.inl ha) (fun k q e=>by
   obtain⟨hk,_⟩:=D2.mp e;show(G.pots++[p])[k]?=_
   rw [U1 hk];exact e) _ _ r
 have pM:=S.fresh h
 exact {
   frame:=S1.frame
   sub:=S1.sub
   sup:=S1.sup
   pots:=fun q hq=>by
     rcases M1.mp hq with z | z
     · exact S1.pots q z
     · rw [K1.mp z];refine⟨E2,?_⟩;rw [hT];exact⟨own,seed,0,D5,ok,by omega⟩
   pre:=by
     obtain⟨l,el,_⟩:=S1.pre;have el':G.pots=C.pots0++l:=el;exact⟨l++[p],by rw [el',j8],.inr hn⟩
   mu:=S1.mu
   slots:=fun i s e=>by
     cases s with
     | v x =>
       obtain⟨v,ev,r⟩:=S1.slots i _ e;exact⟨v,ev,mm r⟩
     | ow kk xs =>
       obtain⟨b,us,ev,h1,h2,h3,h4,r⟩:=S1.slots i _ e;obtain⟨b',us',ev',g1,_⟩:=S.slots i _ e;rw [ev] at ev';cases ev';refine⟨b,us,ev,h1,h2,fun z=>?_,h4,mms r⟩;rcases M1.mp z with z | z
       · exact h3 z
       · rw [K1.mp z] at g1;exact pM g1
   inj:=S1.inj
   p0:=⟨S1.p0.1,C.T.hasM S1.p0.2 fun z=>pM (S.pots p z).1⟩
   len:=S1.len
   newp:=fun q hq hn' hM=>by
     rcases M1.mp hq with z | z
     · exact S1.newp q z hn' hM
     · rw [K1.mp z] at hM
       exact pM (S.sup p hM) }
end
end Pu
end
section
namespace Pu
open PySem PySem.Spec L2
section
variable {T:PotK}{np:Bool}{ι:Type}{K:A3}{F:ι->Cx}{e a b c:Expr}{es:List Expr}{pe pa pb pc:pE}{pos:Pos}{pl pr:pA}
def Q0:List PV->Option (List Str)
 | []=>some []
 | .str b::xs=>(Q0 xs).map (b::·)
 | _=>none
theorem Ei:∀{xs:List PV} {vs:List V} {bs:List Str},Q0 xs=some bs->Reps K G H xs vs->vs=bs.map V.str
 | [],vs,bs,h,r=>by cases h;exact r
 | .str b :: xs, vs, bs, h, r => by
   obtain⟨v,t,e,rv,rt⟩:=r;cases e1:Q0 xs with
   | none=>simp [Q0,e1] at h
   | some cs =>
     have:b::cs=bs:=by simpa [Q0,e1] using h
     subst this;rw [e,show v=.str b from rv,Ei e1 rt]
     rfl
 | .non::_,_,_,h,_=>by cases h
 | .int _::_,_,_,h,_=>by cases h
 | .bl _::_,_,_,h,_=>by cases h
 | .ty _::_,_,_,h,_=>by cases h
 | .pot _::_,_,_,h,_=>by cases h
 | .tup _::_,_,_,h,_=>by cases h
 | .lst _::_,_,_,h,_=>by cases h
 | .dct _ _::_,_,_,h,_=>by cases h
 | .fdt _ _::_,_,_,h,_=>by cases h
 | .scr _::_,_,_,h,_=>by cases h
theorem Ej:∀bs:List Str,Q0 (bs.map PV.str)=some bs
 | []=>rfl
 | b::bs=>by simp [Q0,Ej bs]
def wNeg:w1:=fun x R=>match x with | .int i=>R (.int (-i)) | _=>False
theorem Ek (h:QE T K F a pa):QE T K F (.UnaryOp .USub a pos) (qUn wNeg pa):=by
 obtain⟨t,a1,a2⟩:=h.r;refine⟨_,fun z=>pe_un Df (a1 z),ok_un (fun G H x v R Q hf rx hw k=>?_) a2⟩;unfold wNeg at hw
 split at hw
 · exact⟨_,rx.int,k _ _ _ hw (Same.refl _) rfl⟩
 · exact hw.elim
end
def BU (i:Nat)(pe:pE):pE:=fun env n R=>(∃xs,env[i]?=some (some (.ow .lst xs)))/\BS i pe env n R
end Pu
end
section
namespace Pu
open PySem PySem.Spec L2
theorem BV {te:pE}{rest:Env}(f:PV->PV):∀(xs:List PV) (s0:Option Slot) (n:Nat) (R:List PV->Nat->Prop),(∀x∈xs,∀m Q,Q (f x) (some (.v x)::rest) m->te (some (.v x)::rest) m Q)->R (xs.map f) n->O0 (gN 0) qTru te xs (s0::rest) n R
 | [],_,_,_,_,h=>h
 | x :: xs, s0, n, R, ht, h => by
   show te (some (.v x)::rest) n _;refine ht x E2 n _ ?_;exact BV f xs _ n _ (fun y hy=>ht y (D0 _ hy)) h
theorem M8 {g:pG}{b:pS}{D:q8}(I:Nat->Env->Nat->Prop):∀(xs:List PV) (k:Nat) (env:Env) (n:Nat),I k env n->
   (∀(i:Nat) x env n (N:Env->Nat->Prop),xs[i]?=some x->I (k + i) env n->(∀e m,I (k + i + 1) e m->N e m)->g x env fun env1=>b { D with nx:=N,ct:=N,bk:=D.nx } env1 n)->(∀env n,I (k + xs.length) env n->D.nx env n)->forL g b D xs env n
 | [],k,env,n,h0,_,hd=>hd env n h0
 | x :: xs, k, env, n, h0, hs, hd => by
   show g x env fun env1=>b { D with nx:=fun e m=>forL g b D xs e m,ct:=fun e m=>forL g b D xs e m,bk:=D.nx } env1 n;refine hs 0 x env n _ rfl h0 fun e m h1=>?_;refine M8 I xs (k + 1) e m h1 (fun i y env n N e1 h2 h3=>?_) fun env n h2=>hd env n (by rw [P6,show k + (xs.length + 1)=k + 1 + xs.length by omega];exact h2);refine hs (i + 1) y env n N (by simpa using e1) (by rw [show k + (i + 1)=k + 1 + i by omega];exact h2) fun e m h4=>h3 e m (by rw [show k + 1 + i + 1=k + (i + 1) + 1 by omega];exact h4)
theorem e9 {j i:Nat}{lo:Int}{x:PV}(h:((B6 j).map fun(k:Nat)=>PV.int (lo + k))[i]?=some x):i < j/\x=.int (lo + i):=by grind
theorem Y9:((B6 j).map fun(k:Nat)=>PV.int (lo + k)).length=j:=by simp
theorem Aw {α:Type}{xs:List α}{d:Int}(h0:0<=d)(h1:d < xs.length):∃x,x∈xs/\atI xs d=some x:=by
 obtain⟨x,e1,e2⟩:=BD h0 h1;exact⟨x,N3 e1,e2⟩
theorem BW (a b:Int):eqP (.int a) (.int b)=decide (a=b):=rfl
theorem t9 (a b:Str):eqP (.str a) (.str b)=decide (a=b):=rfl
theorem eqP_ll (xs ys:List PV):eqP (.lst xs) (.lst ys)=eqPs xs ys:=rfl
theorem eqP_tt (xs ys:List PV):eqP (.tup xs) (.tup ys)=eqPs xs ys:=rfl
theorem El (x y:PV)(xs ys:List PV):eqPs (x::xs) (y::ys)=(eqP x y && eqPs xs ys):=rfl
theorem HI:eqPs [] []=true:=rfl
theorem if_t {A B:Prop}(h:b=true)(q:A):if b=true then A else B:=by rw [if_pos h];exact q
theorem if_f {A B:Prop}{b:Bool}(h:b=false)(q:B):if b=true then A else B:=by grind
end Pu
end
section
namespace L2
open PySem PySem.Spec PyProof.Rows
def keyD:Key->PyData
 | .inl i=>.int i
 | .inr x=>.str x
mutual
def RdD (H:Hp):PyData->V->Prop
 | .none,v=>v=.non
 | .bool b,v=>v=.bl b
 | .int i,v=>v=.int i
 | .str x,v=>v=.str x
 | .list xs,v=>∃a vs,v=.ref a/\H a=some (.lst vs)/\RdDs H xs vs
 | .tuple xs,v=>∃a vs,v=.ref a/\H a=some (.tup vs)/\RdDs H xs vs
 | .dict kvs,v=>∃a ws,v=.ref a/\H a=some (.dK ws)/\RdKv H kvs ws
def RdDs (H:Hp):List PyData->List V->Prop
 | [],vs=>vs=[]
 | d::ds,vs=>∃v r,vs=v::r/\RdD H d v/\RdDs H ds r
def RdKv (H:Hp):List (PyData×PyData)->List (Key×V)->Prop
 | [],ws=>ws=[]
 | (k,d)::r,ws=>∃q w ws',ws=(q,w)::ws'/\k=keyD q/\RdD H d w/\RdKv H r ws'
end
section
variable {P:C6}{w:World}{H:Hp}{h:Heap}
mutual
theorem BX (hok:HOk P w H h)(sy:NS H):∀(d:PyData) (v:V) (u:Value),RdD H d v->RelV v u->∃as,Reads h u d as/\O3∉as
 | .none, v, u, r, e => by
   obtain rfl:v=.non:=r;obtain rfl:u=.none:=e;exact⟨[],.none,nofun⟩
 | .bool b, v, u, r, e => by
   obtain rfl:v=.bl b:=r;obtain rfl:u=.bool b:=e;exact⟨[],.bool b,nofun⟩
 | .int i, v, u, r, e => by
   obtain rfl:v=.int i:=r;obtain⟨t,rfl⟩:=e;exact⟨[],.int i t,nofun⟩
 | .str x, v, u, r, e => by
   obtain rfl:v=.str x:=r;obtain⟨t,rfl⟩:=e;exact⟨[],.str x t,nofun⟩
 | .list xs, v, u, r, e => by
   obtain⟨a,vs,rfl,ha,rs⟩:=r;obtain rfl:u=.ref a:=e;obtain⟨_,its,n,rv,ho⟩:=hok a _ ha;obtain⟨as,rr,ns⟩:=BY hok sy xs vs its rs rv;refine⟨a::as,.list ho rfl rfl rr,fun z=>?_⟩;rcases B9.mp z with z | z
   · rw [<- z] at ha;rcases sy with sy | ⟨o,u,sy⟩ <;> rw [sy] at ha <;> cases ha
   · exact ns z
 | .tuple xs, v, u, r, e => by
   obtain⟨a,vs,rfl,ha,rs⟩:=r;obtain rfl:u=.ref a:=e;obtain⟨_,its,rv,ho⟩:=hok a _ ha;obtain⟨as,rr,ns⟩:=BY hok sy xs vs its rs rv;obtain⟨o,e1,e2,n,e3⟩:=ho;exact⟨as,.tuple e1 (k7 e2).1 e3 rr,ns⟩
 | .dict kvs, v, u, r, e => by
   obtain⟨a,ws,rfl,ha,rs⟩:=r;obtain rfl:u=.ref a:=e;obtain⟨_,hs,us,rv,o,es,ep,e1,e2,e3,_,e5,_⟩:=hok a _ ha;obtain⟨as,bs,r1,r2,n1,n2⟩:=Em hok sy kvs ws us es.toList rs rv e5;refine⟨a::as++bs,.dict e1 e2.1 e3 r1 r2,fun z=>?_⟩;rcases M1.mp z with z | z
   · rcases B9.mp z with z | z
     · rw [<- z] at hs;exact absurd hs (by decide)
     · exact n1 z
   · exact n2 z
theorem BY (hok:HOk P w H h)(sy:NS H):∀(ds:List PyData) (vs:List V) (us:List Value),RdDs H ds vs->Vals vs us->∃as,ReadsAll h us ds as/\O3∉as
 | [], vs, us, r, e => by
   obtain rfl:vs=[]:=r;cases e;exact⟨[],.nil,nofun⟩
 | d :: ds, vs, us, r, e => by
   obtain⟨v,r',rfl,r1,r2⟩:=r;cases e with
   | cons e1 e2 =>
     obtain⟨as,a1,a2⟩:=BX hok sy d v _ r1 e1;obtain⟨bs,b1,b2⟩:=BY hok sy ds r' _ r2 e2;exact⟨as++bs,.cons a1 b1,fun z=>(M1.mp z).elim a2 b2⟩
theorem Em (hok:HOk P w H h)(sy:NS H):∀(kvs:List (PyData×PyData)) (ws:List (Key×V)) (us:List (Key×Value)) (es:List DictEntry),RdKv H kvs ws->KV ws us->Pairs (Ad P w) es us->
   ∃as bs,ReadsAll h (es.map (·.key)) (kvs.map (·.1)) as/\ReadsAll h (es.map (·.val)) (kvs.map (·.2)) bs/\O3∉as/\O3∉bs
 | [], ws, us, es, r, e, p => by
   obtain rfl:ws=[]:=r;cases e;cases p;exact⟨[],[],.nil,.nil,nofun,nofun⟩
 | (k, d) :: kvs, ws, us, es, r, e, p => by
   obtain⟨q,w1,ws',rfl,rfl,r1,r2⟩:=r;cases e with
   | cons e1 e2 =>
     cases p with
     | cons p1 p2 p3 =>
       obtain⟨as,bs,a1,a2,a3,a4⟩:=Em hok sy kvs ws' _ _ r2 e2 p3;obtain⟨e1,e1'⟩:=e1;dsimp only at e1 e1';obtain⟨cs,c1,c2⟩:=BX hok sy d w1 _ r1 e1';rw [<- e1] at p1;refine⟨[]++as,cs++bs,.cons ?_ a1,.cons (by dsimp only;rw [p2];exact c1) a2,a3,fun z=>(M1.mp z).elim c2 a4⟩;rcases P9 p1 with⟨i,t,rfl,e⟩ | ⟨x,t,rfl,e⟩
       · dsimp only;rw [e];exact .int i t
       · dsimp only;rw [e];exact .str x t
end
end
section
variable {X:Cx}{pins:List (Addr×Obj)}{σ:St}{H:Hp}{s:Shared}
theorem HJ (hr:Room k X.A):G5 X (.builtin "repr") (fun vs H Q=>∃v d,vs=[v]/\RdD H d v/\d.showable=true/\d.depth<=40/\d.shown.length<=B4/\Q (.str d.shown) H):=by
 intro pins s σ H vs us Q I rv h;obtain⟨v,d,rfl,r,h1,h2,h3,q⟩:=h;obtain⟨u,rfl,ru⟩:=rv.one;obtain⟨as,rr,ns⟩:=BX I.hok I.nos d v u r ru;have fin:∀(h':Heap) (t:Tok) (tk:Tok),(∀b o,s.heap.get? b=some o->h'.get? b=some o)->∃v' H',Inv X pins σ H' { s with heap:=h',toks:=tk }/\RelV v' (.str d.shown t)/\Q v' H':=fun h' t tk kp=>⟨.str d.shown,H,I.kept kp,⟨t,rfl⟩,q⟩;cases rr with
 | none=>exact P.repr_of_none (fin s.heap _ _ fun _ _ z=>z)
 | bool b=>exact P.repr_of_bool (by cases b <;> exact fin s.heap _ _ fun _ _ z=>z)
 | int i t=>exact P.repr_of_int (by simpa [PyData.showable] using h1) (fin s.heap _ _ fun _ _ z=>z)
 | str x t=>exact P.repr_of_str (fin s.heap _ _ fun _ _ z=>z) h3
 | list e1 e2 e3 e4=>exact repr_of_reads' (.list e1 e2 e3 e4) h1 (fun _=>ns) hr.gd (by have:=hr.units;omega) (fun _ _ z=>z) (fun h' u tk kp=>fin h' u tk kp) h3
 | tuple e1 e2 e3 e4=>exact repr_of_reads' (.tuple e1 e2 e3 e4) h1 (fun _=>ns) hr.gd (by have:=hr.units;omega) (fun _ _ z=>z) (fun h' u tk kp=>fin h' u tk kp) h3
 | dict e1 e2 e3 e4 e5=>exact repr_of_reads' (.dict e1 e2 e3 e4 e5) h1 (fun _=>ns) hr.gd (by have:=hr.units;omega) (fun _ _ z=>z) (fun h' u tk kp=>fin h' u tk kp) h3
end
end L2
namespace Pu
open PySem PySem.Spec L2
mutual
/-- what a thing holds, for repr -/
def dat:PV->Option PyData
 | .non=>some .none
 | .bl b=>some (.bool b)
 | .int i=>some (.int i)
 | .str x=>some (.str x)
 | .tup xs=>match dats xs with | some ds=>some (.tuple ds) | none=>none
 | .lst xs=>match dats xs with | some ds=>some (.list ds) | none=>none
 | .dct ks xs=>match dats xs with | some ds=>some (.dict ((ks.map keyD).zip ds)) | none=>none
 | _=>none
def dats:List PV->Option (List PyData)
 | []=>some []
 | x::xs=>match dat x,dats xs with | some d,some ds=>some (d::ds) | _,_=>none
end
theorem kv_rd:∀(kvs:List (Key×V)) (ds:List PyData),RdDs H ds (kvs.map (·.2))->RdKv H (((kvs.map (·.1)).map keyD).zip ds) kvs
 | [], ds, r => by
   cases ds with
   | nil=>exact rfl
   | cons d ds=>obtain⟨v,r',e,_⟩:=r;cases e
 | (q, w) :: kvs, ds, r => by
   cases ds with
   | nil=>exact(List.cons_ne_nil _ _ r).elim
   | cons d ds =>
     obtain⟨v,r',e,r1,r2⟩:=r;cases e;exact⟨q,w,kvs,rfl,rfl,r1,kv_rd kvs ds r2⟩
section
variable {K:A3}{G:Gh}{H:Hp}
mutual
theorem Eo:∀(x:PV) (v:V) (d:PyData),Rep K G H x v->dat x=some d->RdD H d v
 | .non,v,d,r,e=>by cases e;exact r
 | .bl b,v,d,r,e=>by cases e;exact r
 | .int i,v,d,r,e=>by cases e;exact r
 | .str x,v,d,r,e=>by cases e;exact r
 | .tup xs, v, d, r, e => by
   obtain⟨a,vs,rfl,t,rs⟩:=r;rw [dat] at e;cases ed:dats xs with
   | none=>rw [ed] at e;cases e
   | some ds=>rw [ed] at e;cases e;exact⟨a,vs,rfl,t.2,u0 xs vs ds rs ed⟩
 | .lst xs, v, d, r, e => by
   obtain⟨a,vs,rfl,t,rs⟩:=r;rw [dat] at e;cases ed:dats xs with
   | none=>rw [ed] at e;cases e
   | some ds=>rw [ed] at e;cases e;exact⟨a,vs,rfl,t.2,u0 xs vs ds rs ed⟩
 | .ty _,v,d,r,e=>by cases e
 | .pot _,v,d,r,e=>by cases e
 | .scr _,v,d,r,e=>by cases e
 | .fdt _ _,v,d,r,e=>by cases e
 | .dct ks xs, v, d, r, e => by
   obtain⟨a,kvs,rfl,_,ha,hk,rs⟩:=r;rw [dat] at e;cases ed:dats xs with
   | none=>rw [ed] at e;cases e
   | some ds=>rw [ed] at e;cases e;exact⟨a,kvs,rfl,ha,hk▸kv_rd kvs ds (u0 xs _ ds rs ed)⟩
theorem u0:∀(xs:List PV) (vs:List V) (ds:List PyData),Reps K G H xs vs->dats xs=some ds->RdDs H ds vs
 | [],vs,ds,r,e=>by cases e;exact r
 | x :: xs, vs, ds, r, e => by
   obtain⟨v,r',rfl,r1,r2⟩:=r;rw [dats] at e;cases e1:dat x with
   | none=>rw [e1] at e;cases e
   | some d =>
     cases e2:dats xs with
     | none=>rw [e1,e2] at e;cases e
     | some ds'=>rw [e1,e2] at e;cases e;exact⟨v,r',rfl,Eo x v d r1 e1,u0 xs r' ds' r2 e2⟩
end
end
def u3:w1:=fun x R=>match dat x with | some d=>d.showable=true/\d.depth<=40/\d.shown.length<=B4/\R (.str d.shown) | none=>False
theorem bt_repr:E5 "repr"=some (.builtin "repr"):=by decide +kernel
section
variable {T:PotK}{ι:Type}{K:A3}{F:ι->Cx}{e:Expr}{pe:pE}{pos:Pos}
theorem Ep (hr:∀z,Room k (F z).A)(hg:∀z,Gl (F z) "repr")(hm:∀z,(F z).mg "repr"=none)(ha:QR T K F e pe)(hs:C9 e=true:=by rfl):QE T K F (.Call (.Name "repr" p) [e] [] pos) (qUn u3 pe):=BK (fun z=>HJ (hr z)) (fun G H x v R Q hf rx hw k=>by
 unfold u3 at hw;cases ed:dat x with
 | none=>rw [ed] at hw;exact hw.elim
 | some d =>
   rw [ed] at hw;obtain⟨h1,h2,h3,q⟩:=hw;refine⟨v,d,rfl,?_,h1,h2,h3,k _ _ _ q (Same.refl _) rfl⟩;rcases rx with rx | ⟨a,vs,xs,rfl,rfl,hv,rs⟩
   · exact Eo x v d rx ed
   · rw [dat] at ed;cases es:dats xs with
     | none=>rw [es] at ed;cases ed
     | some ds=>rw [es] at ed;cases ed;exact⟨a,vs,rfl,hv,u0 xs vs ds rs es⟩) hg hm bt_repr ha hs
end
end Pu
end
section
namespace HT
open PySem PySem.Spec PyProof.Rows
section
variable {prog:C6}{w:World}{A:Around}{E:Value->Shared->Prop}{s:Shared}
theorem HK (n:Nat):k5 none none (-1) (n:Int)=((n:Int) - 1,-1):=rfl
theorem HL (n:Nat):U4 ((n:Int) - 1) (-1) (-1)=n:=by
 unfold U4;rw [if_neg (by decide)];have h1:(- -1:Int)=1:=by decide
 rw [h1]
 by_cases h:(n:Int) - 1 > -1
 · rw [if_pos h,Int.ediv_one];omega
 · rw [if_neg h];omega
theorem HM {n:Nat}(hs:s.heap.IsSliceOf sl .none .none vk)(pk:IsPart vk (some (-1)))
   (h:Q ((n:Int) - 1,-1,n) s):wpAny (model prog w) A (z0 (.ref sl) (pure (n:Int))) Q E s:=by
 obtain⟨os,hos,hcs,hds⟩:=id hs;unfold z0 CS;refine A0 (A0 (F4 hos hds (x:=.none) rfl (A0 (F4 hos hds (x:=.none) rfl (A0 (F4 hos hds (x:=vk) rfl (A4 ?_)))))));refine A0 (l5 pk ?_);show wpAny _ _ (if((-1:Int) == 0)=true then _ else _) _ _ s;rw [if_neg (by decide)];refine A0 (l5 .none (A0 (l5 .none (A0 (A4 ?_)))));show wpAny _ _ (match k5 none none (-1) (n:Int) with | (lo,hi)=>pure (lo,(-1:Int),U4 lo hi (-1))) _ _ s;rw [HK];show wpAny _ _ (pure ((n:Int) - 1,(-1:Int),U4 ((n:Int) - 1) (-1) (-1))) _ _ s;rw [HL];exact A4 h
theorem Er {α β:Type}{f g:α->Option β}:∀l:List α,(∀m∈l,f m=g m)->l.filterMap f=l.filterMap g
 | [],_=>rfl
 | x::l,h=>by rw [j6,j6,h x E2,Er l fun m hm=>h m (D0 _ hm)]
theorem HN (xs:Array Value):((B6 xs.size).filterMap fun(m:Nat)=>xs[((xs.size:Int) - 1 + (m:Int) * -1).toNat]?).toArray=xs.toList.reverse.toArray:=by
 congr 1
 have e:(B6 xs.size).filterMap (fun(m:Nat)=>xs[((xs.size:Int) - 1 + (m:Int) * -1).toNat]?)=((B6 xs.size).map fun k=>xs.size - 1 - k).filterMap (xs[·]?):=by
   rw [List.filterMap_map];refine Er _ fun m hm=>?_;have:=O6.mp hm;show _=xs[xs.size - 1 - m]?
   congr 1
   omega
 rw [e,PySem.W.krv_range,List.filterMap_reverse,PySem.W.krv_all]
theorem getItem_tuple_rev (ht:IsTup s.heap t items)(hs:s.heap.IsSliceOf sl .none .none vk)(pk:IsPart vk (some (-1)))
   (h:Q (.ref s.heap.objs.size) { s with heap:=s.heap.push { cls:=.type "tuple",data:=.seq items.toList.reverse.toArray } })
   (hsz:items.size<=B4):wpAny (model prog w) A (getItem (.ref t) (.ref sl)) Q E s:=by
 have htake:sizeOk (.seq items.toList.reverse.toArray):=by
   show items.toList.reverse.toArray.size<=B4;rw [D3,AV,b5];omega
 obtain⟨os,hos,hcs,hds⟩:=id hs;have hTs:s.TypeIs (.ref sl) "slice":=⟨os,hos,hcs⟩;unfold getItem
 try with_reducible refine T7 ?_
 first | refine A0 (A4 ?_) | skip
 refine A0 (wpAny_sequenceKey ht.typeIs (by decide) ?_)
 refine A0 (T5 (name:=C0 "__getitem__") ht.typeIs Z9
   (P4 Z9 ht.typeIs entry_tuple_getitem ?_ (args_tuple_getitem _ _)))
 show wpAny _ _ (AZ (.ref t)>>=_) _ _ s;refine A0 (tupleItemsOf_ ht ?_);refine A0 (i8 hTs ?_);rw [if_pos (by decide)];refine A0 (HM hs pk ?_)
 have hno:¬((((items.size:Int) - 1) == 0 && (-1:Int) == 1 && items.size == items.size)=true):=by
   intro q;rw [R0,R0] at q;exact absurd (eq_of_beq q.1.2) (by decide)
 show wpAny _ _ (if(((items.size:Int) - 1) == 0 && (-1:Int) == 1 && items.size == items.size)=true then _ else _) _ _ s;rw [if_neg hno,HN]
 first
   | exact A0 (m:=U6 _) (J6 (A4 ⟨_,rfl,A4 h⟩) htake)
   | exact A0 (m:=U6 _) (J6 (A0 (A4 (A4 ⟨_,rfl,A4 h⟩))) htake)
   | exact A0 (A0 (m:=U6 _) (J6 (A4 (A4 ⟨_,rfl,A4 h⟩)) htake))
   | exact A0 (A0 (m:=U6 _) (J6 (A4 ⟨_,rfl,A4 h⟩) htake))
end
end HT
namespace L2
open PySem PySem.Spec PyProof.Rows
section
variable {X:Cx}{e st:Expr}{te:TE}{ts:TE}{pos p2:Pos}
def rRev (K:A3):V->Hp->VK->Prop:=fun x H Q=>∃a xs,x=.ref a/\((SqL K H a xs/\∀p,H p=none->Q (.ref p) (upd H p (.lst xs.reverse)))\/(SqT K H a xs/\∀p,H p=none->Q (.ref p) (upd H p (.tup xs.reverse))))
def tRev (K:A3)(te ts:TE):TE:=fun σ H Q=>te σ H fun x H1=>ts σ H1 fun y H2=>y=.int (-1)/\rRev K x H2 Q
theorem Vals.rev (r:Vals xs us):Vals xs.reverse us.reverse:=by
 induction r with
 | nil=>exact .nil
 | cons r1 _ ih =>
   rw [x8,x8];exact ih.append (.cons r1 .nil)
theorem pe_rev (he:PE X e te)(hs:PE X st ts):PE X (.Subscript e (.Slice none none (some st) p2) pos) (tRev X.K te ts):=by
 intro pins s σ H Q I h;refine Subscript_ (thn (he pins s σ H _ I h) fun v s1 ⟨x,H1,I1,r1,q1⟩=>?_);refine wpAny_Slice ?_;rw [evalPart_none];refine A4 (A4 ?_);rw [evalPart_some];refine thn (hs pins s1 σ H1 _ I1 q1) fun vk s3 ⟨y,H3,I3,ry,q3⟩=>?_;obtain⟨rfl,a,xs,rfl,q⟩:=q3;obtain⟨t,rfl⟩:=ry;obtain rfl:v=.ref a:=r1;have I4:Inv X pins σ H3 { s3 with heap:=s3.heap.push { cls:=.type "slice",data:=.fields #[.none,.none,.int (-1) t] } }:=I3.kept (t':=s3.toks) fun b ob q=>B5 _ q;show wpAny (model X.prog X.w) X.A (subscriptTail e (.Slice none none (some st) p2) (.ref a) (.ref s3.heap.objs.size)) (EP X pins σ Q) X.xe { s3 with heap:=s3.heap.push { cls:=.type "slice",data:=.fields #[.none,.none,.int (-1) t] } };rcases q with⟨hq,q⟩ | ⟨hq,q⟩
 · obtain⟨its,r,ht,hz⟩:=I4.list hq;refine tail_any (ops:=[.ref a,.ref s3.heap.objs.size]) ht.isList.typeIs slot_list_getitem.lookup ?_ (by with_unfolding_all rfl);refine wpAny_getItem_list_slice ht.isList (Bh ..) .none .none (.int (-1) t) (by decide) ?_ (by rw [D3];have:=r.length;omega);rw [PySem.W.krv_pick];refine⟨.ref _,_,I4.laid (t':=s3.toks) (o:=.lst xs.reverse) (fun b ob q=>B5 _ q) (A8 _) ?_,rfl,q _ (I4.hok.fresh (A8 _))⟩;exact⟨by rw [AV];exact hz,its.reverse,0,r.rev,D8 _ rfl⟩
 · obtain⟨its,r,ht,hz⟩:=I4.tuple hq;refine tail_any (ops:=[.ref a,.ref s3.heap.objs.size]) ht.typeIs PyProof.Rows.slot_tuple_getitem.lookup ?_ (by with_unfolding_all rfl);refine HT.getItem_tuple_rev ht (Bh ..) (.int (-1) t) ?_ (by rw [D3];have:=r.length;omega);refine⟨.ref _,_,I4.laid (t':=s3.toks) (o:=.tup xs.reverse) (fun b ob q=>B5 _ q) (A8 _) ?_,rfl,q _ (I4.hok.fresh (A8 _))⟩;exact⟨by rw [AV];exact hz,its.reverse,r.rev,P0.new _ _⟩
end
end L2
namespace Pu
open PySem PySem.Spec L2
section
variable {T:PotK}{ι:Type}{K:A3}{F:ι->Cx}{e:Expr}{pe:pE}{pos p2 p3 p4:Pos}
theorem Reps.rev:∀{xs:List PV} {vs:List V},Reps K G H xs vs->Reps K G H xs.reverse vs.reverse
 | [],vs,r=>by obtain rfl:vs=[]:=r;exact rfl
 | x :: xs, vs, r => by
   obtain⟨v,r',rfl,r1,r2⟩:=r;rw [x8,x8];exact(Reps.rev r2).append ⟨v,[],rfl,r1,rfl⟩
def wRev:w1:=fun x R=>match x with | .lst xs=>R (.lst xs.reverse) | .tup xs=>R (.tup xs.reverse) | _=>False
theorem qe_rev {i:Nat}(he:QR T K F e pe)(hK:∀z,(F z).K=K:=by intro _;rfl):QE T K F (.Subscript e (.Slice none none (some (.UnaryOp .USub (.Constant (.int 1) i p3) p4)) p2) pos) (qUn wRev pe):=by
 obtain⟨t,h1,h2⟩:=he;refine⟨_,fun z=>hK z▸pe_rev (h1 z) (pe_un Df C8),fun C G σ H env n R Q hK hT S hp k=>?_⟩;refine h2 C G σ H env n _ _ hK hT S hp fun x env1 n1 v H1 p1 S1 r1 f1=>?_;subst hK;have rx:=r1.rd S1;refine⟨1,rfl,rfl,?_⟩;unfold wRev at p1
 split at p1
 · obtain⟨a,vs,ev,hq,r⟩:=rx.lst;exact⟨a,vs,ev,.inl ⟨hq,fun p hn=>k _ _ _ _ _ p1 (S1.same (Same.lay1 hn)) (n6 (S1.fresh hn) hn r.rev) (f1.trans (Fr.of (Same.lay1 hn)))⟩⟩
 · obtain⟨a,vs,ev,hq,r⟩:=rx.tup;exact⟨a,vs,ev,.inr ⟨hq,fun p hn=>k _ _ _ _ _ p1 (S1.same (Same.lay1 hn)) (V4 (S1.fresh hn) hn r.rev) (f1.trans (Fr.of (Same.lay1 hn)))⟩⟩
 grind
end
end Pu
end
section
namespace L2
open PySem PySem.Spec PyProof.Rows
def Itd (a:Int)(n:Nat):It:=⟨fun i _=>i < n,fun i H x H'=>H'=H/\x=.int (a - i),fun i _=>n<=i⟩
theorem HP {K:A3}(it:Addr)(lo:Int)(n:Nat):Turn P w K tg (Itd lo n) [it] it (fun i h=>IsRangeIter h it (lo + (i:Nat) * -1) ((n:Int) - (i:Nat)) (-1)) where
 mem:=by simp
 obj:=fun i h st b hb=>by
   have e:b=it:=by simpa using hb
   subst e
   exact⟨_,st,fun v z=>by
     have z':Data.fields _=Data.cell v:=z
     cases z'⟩
 keep:=fun i h h' st k=>k it (by simp) _ st
 item:=by
   intro X hP hw hK hc i pins s σ H E I hf st hg;subst hP hw hK;obtain⟨f0,f1,f2,f3,f4,f5⟩:=hf it (by simp);have W:=Walks.range (prog:=X.prog) (w:=X.w) (I.ok.hd hc) it lo (-1) n;refine W.item i s _ _ hg st fun v h' tk hv st' kk=>?_;obtain⟨t,rfl⟩:=hv;have I1:Inv X pins σ H { s with heap:=h',toks:=tk }:=I.turned (fun b o hb e=>kk b o (by simpa using hb) e) f0 f1 f3 f4 f5;refine⟨_,rfl,l4 (s:={ s with heap:=h',toks:=tk }) (n:="range_iterator") st' rfl rfl (by decide) ⟨.int (lo - i),H,I1,⟨t,?_⟩,⟨rfl,rfl⟩,st',fun b hb=>(hf b hb).1⟩⟩;have e:lo + (i:Int) * -1=lo - i:=by omega
   rw [e]
 done:=by
   intro X hP hw hK hc i pins s σ H E I hf st hg;subst hP hw hK;obtain⟨f0,f1,f2,f3,f4,f5⟩:=hf it (by simp);exact wpAny_pyNext_range_end (I.ok.hd hc) st (by have:n<=i:=hg;omega) fun h' eb=>⟨rfl,I.turned (t':=s.toks) (fun b o hb e=>eb b o hb e) f0 f1 f3 f4 f5⟩
 self:=fun _ _ _ _ _ st h=>AO st h
end L2
namespace Pu
open PySem PySem.Spec L2
section
variable {T:PotK}{ι:Type}{K:A3}{F:ι->Cx}{tg a b c:Expr}{pa pb pc:pE}{pos:Pos}
theorem HQ {K:A3}{G:Gh}{H:Hp}(lo:Int)(m:Nat):ItR K G H (Itd lo m) ((B6 m).map fun(k:Nat)=>PV.int (lo - k)):=by
 intro G2 H2 hk hM hp hf;refine⟨fun i x e=>?_,fun i hi=>(show m<=i by simpa using hi)⟩;rw [F2] at e;cases e1:(B6 m)[i]? with
 | none=>rw [e1] at e;cases e
 | some j =>
   rw [e1] at e;cases e;obtain⟨hi,e2⟩:=D2.mp e1;rw [List.getElem_range] at e2;subst e2;refine⟨(show i < m by simpa using hi),fun v H3 y=>?_⟩;obtain⟨e3,y⟩:=y;subst e3 y;exact⟨Same.refl _,rfl⟩
end
end Pu
end
section
namespace L2
open PySem PySem.Spec PyProof.Rows
theorem Es:∀{ys:List Str} {us:List Value},Vals (ys.map V.str) us->StrsAre us ys
 | [],us,r=>by rw [List.map_nil] at r;cases r;exact .nil
 | y :: ys, us, r => by
   rw [M2] at r;cases r with
   | cons r1 r2 =>
     obtain⟨t,e⟩:=r1;subst e;exact .cons y t (Es r2)
end L2
end
section
namespace L2
open PySem PySem.Spec PyProof.Rows
section
variable {X:Cx}{pos:Pos}
theorem HR:seqSlot? (.type "list") (dunderI "add")=pure (some (.builtin "list.__iadd__")):=rfl
theorem HS:fillsInplaceSlot (.type "list") "add" (Operator.Add == .Add)=pure false:=rfl
def Et:R2:=fun x y H Q=>∃l b xs zs,x=.ref l/\y=.ref b/\H l=some (.lst xs)/\H b=some (.lst zs)/\xs.length + zs.length<=B4/\Q (.ref l) (upd H l (.lst (xs++zs)))
theorem HU:OpR X (inplaceOp .Add) Et:=by
 intro pins s σ H x y v u Q I rx ry h;obtain⟨l,b,xs,zs,rfl,rfl,hH,hB,hz,q⟩:=h;cases rx;cases ry;obtain⟨z,its,n,r,hl,e⟩:=I.lstM hH;obtain⟨z2,its2,n2,r2,hl2,e2⟩:=I.lstM hB;have hsz:its.toArray.size + its2.toArray.size<=B4:=by rw [D3,D3];omega
 have hlong:¬(!its.toArray.isEmpty && Bg (its.toArray.size + its2.toArray.size))=true:=by
   rw [GV hsz,Bool.and_false];exact M3
 have ha:s.TypeIs (.ref l) "list":=⟨_,e,rfl⟩;have hb:s.TypeIs (.ref b) "list":=⟨_,e2,rfl⟩;unfold inplaceOp;refine T7 ?_;refine A0 (i8 ha (A0 (L7 HS ?_)));show wpAny _ _ (if false=true then _ else _) _ _ s;rw [if_neg M3];refine A0 (binaryOp1_none (nm:="add") ha hb noFill_list_add ?_);refine A0 (L7 HR ?_);refine A0 (Q9 ?_)
 refine call_meets F.slot_list_iadd ha F.entry_list_iadd (F.args_list_iadd_2 _ _)
   (AutoSeq1.list___iadd___list_list_0 l its.toArray n b its2.toArray n2 hlong (by omega) (by omega)) ⟨e,e2,?_⟩
 refine⟨.ref l,_,I.lset (its':=its++its2) hH e (by simp) (r.append r2) ?_,rfl,q⟩;rw [K8];omega
end
end L2
namespace Pu
open PySem PySem.Spec L2
section
variable {T:PotK}{np:Bool}{ι:Type}{K:A3}{F:ι->Cx}{e:Expr}{st:Stmt}{pe:pE}{pos:Pos}
theorem sw_aug {X:Cx}{i:Nat}{x:Str}{e:Expr}{op:Operator}{ti:TIp}{pos' pos:Pos}(hN:X.N.Nodup)(hi:X.N[i]?=some x)(hx:Loc X.env.scope x)(ho:OpR X (inplaceOp op) ti)(hf:X.fn x=true\/X.env.scope.names.lookup x=some .local:=by first | exact .inl rfl | exact .inr rfl | assumption)(te:TE)(h:EW X e te):SW X (.AugAssign (.Name x pos') op e pos) (tAug i te ti):=⟨ps_aug hN hi hx h.h ho hf⟩
def BZ (i:Nat)(pe:pE):pS:=fun D env n=>(∃xs,env[i]?=some (some (.ow .lst xs)))/\pe env n fun y env1 n1=>match env1[i]?,y with | some (some (.ow .lst xs)),.lst ys=>xs.length + ys.length<=1000000/\D.nx (env1.set i (some (.ow .lst (xs++ys)))) n1 | _,_=>False
theorem HV (i:Nat)(h:∀z te,EW (F z) e te->SW (F z) st (tAug i te Et))(he:QE T K F e pe):QS T np K F st (BZ i pe):=by
 obtain⟨t,a1,a2⟩:=he;refine⟨_,fun z=>(h z _ ⟨a1 z⟩).h,fun C G σ H env n PD D hK hT hn S hp L=>?_⟩;obtain⟨⟨xs0,e0⟩,hp⟩:=hp;obtain⟨a,vs,ev,h1,h2,h3,h4,r⟩:=S.slots i _ e0;refine⟨.ref a,ev,?_⟩;refine a2 C G σ H env n _ _ hK hT S hp fun y env1 n1 v H1 q1 S1 r1 f1=>?_
 split at q1
 · rename_i xs ys ex;obtain⟨a',us,ev',g1,g2,g3,g4,r'⟩:=S1.slots i _ ex;rw [ev] at ev';cases ev';subst hK;obtain⟨b,ws,rfl,tb,rb⟩:=r1;obtain⟨S2,f2⟩:=S1.put ex ev (r'.append rb);refine⟨a,b,us,ws,rfl,rfl,g4,tb.2,by rw [<- r'.length,<- rb.length];exact mil q1.1,?_⟩
   have es:σ.set i (some (.ref a))=σ:=by
     obtain⟨hi,e⟩:=D2.mp ev;rw [<- e];exact List.set_getElem_self hi
   show D.nx (σ.set i (some (.ref a))) _;rw [es];exact L.nx _ _ _ _ _ q1.2 S2 (Ext.fr (f1.trans f2))
 · exact q1.elim
end
end Pu
end
section
namespace Pu
open PySem PySem.Spec L2
section
variable {ι:Type}{K:A3}{F:ι->Cx}{a b:Expr}{pos pos':Pos}{pa pb:pE}
def Ax (K:A3):Sp:=fun vs H Q _=>∃(a:Addr) (ns:List Int) (k:Int),vs=[.ref a,.int k]/\SqL K H a (ns.map V.int)/\ns.length<=63/\0<=k/\k<=1000/\
 ∀H1,Same H H1->∀p own seed,H1 p=none->t7 own seed 0->Q (.ref p) (upd H1 p (.lst [.int own,.int seed,.int 0]))
def B_ (i:Nat)(pa pb:pE):pS:=fun D env n=>pa env n fun x env1 n1=>pb env1 n1 fun y env2 n2=>match x,y with | .scr ns,.int k=>(ns.length<=63/\0<=k/\k<=1000)/\∀q:Nat,D.nx (env2.set i (some (.v (.pot q)))) n2 | _,_=>False
theorem HW (i:Nat){st:Stmt}{x:Str}{p:Pos}{k j:Nat}{ps:List Str}(h:∀z te,EW (F z) (.Call (.Name x p) [a,b] [] pos) te->SW (F z) st (tAsg te (M4 i)))(hG:∀z,Kn (F z).prog (F z).w (F z).K (F z).mg (F z).base x k ps (Ax K))(hr:∀z,Room j (F z).A)(hk:k<=j)(hg:∀z,Gl (F z) x)
   (ha:QE potL K F a pa) (hb:QE potL K F b pb) (n1:C9 a=true:=by rfl) (n2:C9 b=true:=by rfl) (hdb:(x == ("__debug__":Str))=false:=by decide):QS potL true K F st (B_ i pa pb):=by
 obtain⟨t,a1,a2⟩:=ha;obtain⟨u,b1,b2⟩:=hb;refine⟨_,fun z=>(h z _ ⟨pe_fn (hG z) (hr z) hk (hg z) (C7 (a1 z) (C7 (b1 z) E3 (B0 n2)) (B0 n1)) hdb (B0 n1) (by rw [B0 n2];rfl)⟩).h,fun C G σ H env n PD D hK hT hn S hp L=>?_⟩;refine a2 C G σ H env n _ _ hK hT S hp fun x env1 n1 v H1 q1 S1 r1 f1=>?_;refine b2 C G σ H1 env1 n1 _ _ hK hT S1 q1 fun y env2 n2 w H2 q2 S2 r2 f2=>?_
 split at q2
 · rename_i ns kk;obtain⟨a,ev,hq⟩:=o8 (.inl (r1.fr f2));refine(show Ax K [v,w] H2 (fun x H1=>M4 i x σ H1 D.nx) E0 from ?_);refine⟨a,ns,kk,by rw [ev,show w=.int kk from r2],hq,q2.1.1,q2.1.2.1,q2.1.2.2,fun H3 sm p own seed hn' ok=>?_⟩;have S3:=(S2.same sm).pot hn hT hn' ok;have S4:=S3.set i (x:=.pot G.pots.length) (v:=.ref p) ⟨p,by simp,rfl⟩;refine L.nx _ _ _ _ _ (q2.2 _) S4 ((Ext.fr ((f1.trans f2).trans (Fr.of sm))).trans ⟨fun b o _ e=>Same.lay1 hn' b o e,fun c hc=>(B9.mp (show c∈p::G.M from hc)).elim (fun z=>.inr (z▸hn')) .inl,fun k q e=>?_⟩);obtain⟨hk,_⟩:=D2.mp e;show(G.pots++[p])[k]?=_;rw [U1 hk];exact e
 · exact q2.elim
end
end Pu
end
section
namespace L2
open PySem PySem.Spec PyProof.Rows
theorem HX {X:Cx}{scope:Scope}{cl:List (Str×Addr)}{N:List Str}{cs:List (Option Nat)}{elt tg iter:Expr}{ifs:List Expr}{pos spos py:Pos}{wi:TI}{g:TG}{tt:TT}{te:TE}{i:Nat}{y:Str}(hN:X.N.Nodup)(hiy:X.N[i]?=some y)(hy:Loc X.env.scope y)(S:V2 X scope cl N cs)(hc:X.calm=true)(hi:PI X tg iter wi)
   (hb:∀(fp:List Addr) (C:Addr) (s:Shared) (H:Hp),PG (B3 X scope cl N fp C s H) tg g/\PIf (B3 X scope cl N fp C s H) ifs tt/\PE (B3 X scope cl N fp C s H) elt te)
   (hsw:T8 (.ListComp elt [⟨tg,iter,ifs,0⟩] scope pos) (some (.Name y py)) spos.line X.env=pure true:=by rfl)
   (hs:∀x,L6 iter X.env x=pure x:=by intro _;rfl) (hff:X.fn y=true\/X.env.scope.names.lookup y=some .local:=by first | exact .inl rfl | exact .inr rfl | assumption) :
   PS X (.Assign [.Name y py] (.ListComp elt [⟨tg,iter,ifs,0⟩] scope pos) spos) (tAsg (By cs wi g tt te) (M4 i)):=by
 have bn:∀(M:Model) (A:Around) (v:Value) (Q:Unit->Shared->Prop) (E:Value->Shared->Prop) (s:Shared),wpAny M A (storeName X.env y v) Q E s->wpAny M A (assign (.Name y py) X.env v) Q E s:=fun M A v Q E s h=>wpAny_assign_Name h;intro pins s σ H DD I h;rw [exec_Assign_Name_used _ _ _ _ hsw];refine A0 (Q8 (A0 ?_));show wpAny _ _ (do let _ ← comprehension (.ListComp elt [⟨tg,iter,ifs,0⟩] scope pos) scope X.env _ (newList []) false (eval iter X.env) (some (assign (.Name y py) X.env))) _ _ s;refine A0 (E9 (Q:=fun _ s'=>SP X pins DD .next s') ?_ (fun _ s' hq=>A4 (A4 hq)) fun _ _ e=>e);refine v5 (use:=some (assign (.Name y py) X.env)) rfl hs S.clos S.kind S.names (thn (hi pins s σ H _ I h) fun v s1 h1=>thn h1 fun itv s2 h2=>?_);obtain⟨it,fp,tn,J,H2,rfl,I2,T,st2,f2,q⟩:=h2
 have ho:∀b∈fp,∃o,s2.heap.get? b=some o:=fun b hb=>by
   obtain⟨o,e,_⟩:=T.obj 0 _ st2 b hb;exact⟨o,e⟩
 refine J6 (wpAny_newFunctionEnv S.nocell (by intro y hy;simp at hy) (fun h₁ hns₁ hsb₁=>?_) S.kind);dsimp only at hns₁ hsb₁ ⊢;have hC:(s2.heap.push { cls:=.type "list",dict:=none,data:=.seq ([]:List Value).toArray }).objs.size=s2.heap.objs.size + 1:=by rw [N2]
 generalize hH2:s2.heap.push { cls:=.type "list",dict:=none,data:=.seq ([]:List Value).toArray }=hp2 at hns₁ hsb₁ hC ⊢;have old:∀b o,s2.heap.get? b=some o->h₁.get? b=some o:=fun b o e=>hsb₁.extBut b o (by rw [hC];exact C5 (M6 (B1 e))) (B5 _ (hH2▸B5 _ e));have hD:h₁.get? s2.heap.objs.size=some { cls:=.type "list",data:=.seq ([]:List Value).toArray }:=hsb₁.extBut _ _ (by rw [hC];exact C5 (Nat.lt_succ_self _)) (B5 _ (hH2▸D8 _ rfl));rw [hC] at hns₁ ⊢;obtain⟨W,⟨m0,w0⟩,turn⟩:=q s2.heap.objs.size I2.fresh;have Ic:=Bz S (tk:=s2.toks + ([]:List (Str×Value)).length) I2 f2 ho old hns₁ hD;have nstk:∀b,b≠X.env.locals->b∉X.fs->b∉frs X.stack:=fun b h1 h2 hb=>(B9.mp (I2.stkSub b hb)).elim h1 h2
 have stat:∀{H':Hp},(∀b∈fp,H' b=none)->∀b∈fp,FpOk (B3 X scope cl N fp (s2.heap.objs.size + 1) s2 H2) pins H' b:=fun hn b hb=>by
   obtain⟨o,e⟩:=ho b hb;exact⟨hn b hb,C5 (M6 (B1 e)),nstk b (f2 b hb).2.1 (f2 b hb).2.2.1,.inl hb,fun x c ec=>(f2 b hb).2.2.2.2.1 x c (S.sub x c ec),(f2 b hb).2.2.2.2.2⟩
 obtain⟨hg,hf,he⟩:=hb fp (s2.heap.objs.size + 1) s2 H2;have st1:tn 0 h₁:=T.keep _ _ _ st2 fun b hb o e=>old b o e
 have fr1:∀b∈fp,upd H2 s2.heap.objs.size (.lst []) b=none:=fun b hb=>by
   obtain⟨o,e⟩:=ho b hb;rw [A9 (C5 (B1 e))];exact(f2 b hb).1
 have loop:∀s₃:Shared,s₃={ s2 with heap:=h₁,toks:=s2.toks + ([]:List (Str×Value)).length }->
     J8 (model X.prog X.w) X.A (.compLoop (.ListComp elt [⟨tg,iter,ifs,0⟩] scope pos) 0 (.ref it) (.ref s2.heap.objs.size) (compEnvC scope cl (s2.heap.objs.size + 1) X.env))
       (compPost (model X.prog X.w) X.A X.xe (some (assign (.Name y py) X.env)) (fun _ s'=>SP X pins DD .next s') (.ref s2.heap.objs.size) (s2.heap.objs.size + 1)) s₃:=by
   rintro s₃ rfl;refine Bx (fun n s'=>∃i σ' H',Inv (B3 X scope cl N fp (s2.heap.objs.size + 1) s2 H2) pins σ' H' s'/\tn i s'.heap/\(∀b∈fp,H' b=none)/\W i n σ' H') ?_ m0 ⟨0,_,_,Ic,st1,fr1,w0⟩;rintro n s3 ⟨i,σ3,H3,I3,st3,fr3,w3⟩;rcases turn i n σ3 H3 w3 with⟨stop,qn⟩ | ⟨go,step⟩
   · refine thn (T.done (B3 X scope cl N fp (s2.heap.objs.size + 1) s2 H2) rfl rfl rfl hc i pins s3 σ3 H3 (fun _ _=>False) I3 (stat fr3) st3 stop) fun r s4 ⟨hr,I4⟩=>?_;subst hr;obtain⟨m4,hn4,_⟩:=I4.loc;have I5:Inv X pins σ H3 s4:=Inv.uncomp (h':=s4.heap) I2 f2 I4 fun b hb=>rfl;have oldne:∀b o,s2.heap.get? b=some o->b≠s2.heap.objs.size + 1:=fun b o e=>C5 (M6 (B1 e));have locne:X.env.locals≠s2.heap.objs.size + 1:=C5 (M6 I2.lt)
     have cellne:∀x c,X.env.cells.lookup x=some c->c≠s2.heap.objs.size + 1:=fun x c e=>by
       obtain⟨v,o,h1,_⟩:=I2.cell x c e;exact oldne c o h1
     refine bn _ _ _ _ _ _ (CV I5 hN hiy hy (v:=.ref s2.heap.objs.size) rfl (fun s6 I6 ⟨a6,sb6,ha6⟩=>?_) hff)
     have ane:s2.heap.objs.size + 1≠a6:=by
       rcases ha6 with rfl | ha6
       · exact Ne.symm locne
       · exact Ne.symm (cellne _ _ ha6)
     refine⟨m4,hn4.sameBut sb6 ane,fun h' hs'=>⟨_,H3,?_,qn⟩⟩;have hs7:∀b,b≠s2.heap.objs.size + 1->h'.get? b=s6.heap.get? b:=fun b hb=>hs'.2 b hb;have U0:Un (frs X.stack) [s2.heap.objs.size + 1] H3 H3 s6.heap s6.heap:=Un.refl
     have trC:∀b u,H3 b=some u->b≠s2.heap.objs.size + 1:=fun b u e z=>by
       have q:H3 (s2.heap.objs.size + 1)=none:=I4.free;rw [z,q] at e;cases e
     obtain⟨hh6,g6,d6,t6,os6⟩:=s6;refine I6.call (h':=h') (g':=g6) (d':=d6) (t':=t6) (ch:=[s2.heap.objs.size + 1]) ⟨fun b o e n hb hx=>?_,fun b o e n hb hx=>?_,U0.free,fun b o e hx=>?_,U0.tups,U0.frzs,U0.tbls,U0.sys⟩ (fun b u e=>?_) I6.bare fun b hb=>?_
     · have hb':b≠s2.heap.objs.size + 1:=fun z=>hx (by rw [z];exact K1.mpr rfl);rw [hs7 b hb'];exact U0.keep b o e n hb hx
     · have hb':b≠s2.heap.objs.size + 1:=fun z=>hx (by rw [z];exact K1.mpr rfl);rw [hs7 b hb'];exact U0.slot b o e n hb hx
     · have hb':b≠s2.heap.objs.size + 1:=fun z=>hx (by rw [z];exact K1.mpr rfl);rw [hs7 b hb'];exact U0.there b o e hx
     · refine(I6.hok b u e).stay (fun c v hc q=>?_) (fun _ q=>q) fun _ _ q=>q
       have ne:c≠s2.heap.objs.size + 1:=by
         rcases hc with z | z
         · rw [z];exact trC b u e
         · exact trC c _ z
       rw [hs7 c ne];exact q
     · rw [K1.mp hb];refine⟨.inr (Nat.le_succ_of_le I2.sz),Ne.symm locne,cellne,fun p hp=>?_⟩;exact oldne _ _ (I2.pin p hp).1
   · refine thn (T.item (B3 X scope cl N fp (s2.heap.objs.size + 1) s2 H2) rfl rfl rfl hc i pins s3 σ3 H3 (fun _ _=>False) I3 (stat fr3) st3 go) fun r s4 ⟨u,hr,h4⟩=>?_;subst hr;refine thn h4 fun _ s5 ⟨x,H5,I5,r5,y5,st5,fr5⟩=>?_;have I5':=I5.pinned (stat fr5) (T.obj _ _ st5);refine thn (hg _ s5 σ3 H5 x u _ I5' r5 (step x H5 y5)) fun _ s6 ⟨σ6,H6,I6,q6⟩=>?_
     have again:∀{σ7:St} {H7:Hp} {s7:Shared},Inv (B3 X scope cl N fp (s2.heap.objs.size + 1) s2 H2) (pins++L3 fp s5.heap) σ7 H7 s7->(∃m',m' < n/\W (i + 1) m' σ7 H7)->
         ∃m,m < n/\∃i σ' H',Inv (B3 X scope cl N fp (s2.heap.objs.size + 1) s2 H2) pins σ' H' s7/\tn i s7.heap/\(∀b∈fp,H' b=none)/\W i m σ' H':=fun {σ7 H7 s7} I7 n7=>by
       obtain⟨m',hm,w7⟩:=n7;refine⟨m',hm,i + 1,σ7,H7,I7.unpinned,T.keep _ _ _ st5 fun b hb o e=>(I7.pin (b,o) (E1 _ (E1 _ (N6 hb e)))).1,fun b hb=>?_,w7⟩;obtain⟨o,e,d⟩:=T.obj _ _ st5 b hb;exact(I7.pin (b,o) (E1 _ (E1 _ (N6 hb e)))).2.1
     refine thn (hf _ s6 σ6 H6 _ I6 q6) fun ok s7 ⟨H7,I7,q7⟩=>?_;cases ok with
     | false=>exact again I7 q7
     | true =>
       refine thn (he _ s7 σ6 H7 _ I7 q7) fun y s8 ⟨v8,H8,I8,r8,ys,e8,z8,n8⟩=>?_
       have ma:=l7 (X:=B3 X scope cl N fp (s2.heap.objs.size + 1) s2 H2) _ s8 σ6 H8 (.ref s2.heap.objs.size) [v8] (.ref s2.heap.objs.size) [y]
         (fun v H9=>∃m',m' < n/\W (i + 1) m' σ6 H9) I8 rfl (.cons r8 .nil) ⟨_,ys,v8,rfl,rfl,e8,z8,n8⟩
       exact thn ma fun _ s9 ⟨v9,H9,I9,_,q9⟩=>again I9 q9
 exact w5 (loop _ rfl) (T.self _ 0 _ _ _ st1 (loop _ rfl))
end L2
namespace Pu
open PySem PySem.Spec L2
def SwOk (X:Cx)(e:Expr)(t:TE):Prop:=∀(i:Nat) (y:Str) (py spos:Pos),X.N.Nodup->X.N[i]?=some y->Loc X.env.scope y->T8 e (some (.Name y py)) spos.line X.env=pure true->(X.fn y=true\/X.env.scope.names.lookup y=some .local)->PS X (.Assign [.Name y py] e spos) (tAsg t (M4 i))
def QNC {ι:Type}(T:PotK)(K:A3)(F:ι->Cx)(e:Expr)(pn:pA):Prop:=∃t,(∀z,PE (F z) e t)/\(∀z,SwOk (F z) e t)/\NOk K T t pn
section
variable {T:PotK}{np:Bool}{ι:Type}{K:A3}{F:ι->Cx}{e:Expr}{pl:pA}{pg:pG}{pos:Pos}
theorem HY {scope:Scope}{cl:ι->List (Str×Addr)}{N:List Str}{cs:List (Option Nat)}{elt tg iter:Expr}{ifs:List Expr}{pi:pA}{ptt:pT}{pte:pE}(S:∀z,V2 (F z) scope (cl z) N cs)(hc:∀z,(F z).calm=true)(hi:QI T K F tg iter pi)
   (hg:QG K (fun y:ι×List Addr×Addr×Shared×Hp=>B3 (F y.1) scope (cl y.1) N y.2.1 y.2.2.1 y.2.2.2.1 y.2.2.2.2) tg pg) (ht:QIf T K (fun y:ι×List Addr×Addr×Shared×Hp=>B3 (F y.1) scope (cl y.1) N y.2.1 y.2.2.1 y.2.2.2.1 y.2.2.2.2) ifs ptt)
   (he:QE T K (fun y:ι×List Addr×Addr×Shared×Hp=>B3 (F y.1) scope (cl y.1) N y.2.1 y.2.2.1 y.2.2.2.1 y.2.2.2.2) elt pte)
   (hs:∀z x,L6 iter (F z).env x=pure x:=by intro _ _;rfl):QNC T K F (.ListComp elt [⟨tg,iter,ifs,0⟩] scope pos) (M7 cs pi pg ptt pte):=by
 obtain⟨wi,i1,i2⟩:=hi;obtain⟨g,hg0,hg⟩:=hg;obtain⟨tt,ht0,ht⟩:=ht;obtain⟨te,he0,he⟩:=he;refine⟨_,fun z=>DC (S z) (hc z) (i1 z) (fun fp C s H=>⟨hg0 (z,fp,C,s,H),ht0 (z,fp,C,s,H),he0 (z,fp,C,s,H)⟩) (hs z),fun z i y py spos hN hi hy hsw hf=>HX hN hi hy (S z) (hc z) (i1 z) (fun fp C s H=>⟨hg0 (z,fp,C,s,H),ht0 (z,fp,C,s,H),he0 (z,fp,C,s,H)⟩) hsw (hs z) hf,fun C G σ H env n R Q hK hT S hp k=>?_⟩;refine i2 C G σ H env n _ _ hK hT S hp fun xs env1 n1 J H1 p1 S1 f1 hJ=>?_;intro D hD;have hDM:=S1.fresh hD;refine BQ (G:=G) hg ht he hJ p1.1 hD (hT▸hK▸Ar S1 cs) p1.2 fun ys n2 us H' rr hpots hk eD ry=>?_
 -- the heap without D
 have nD:∀b o,H1 b=some o->b≠D:=fun b o e z=>by rw [z,hD] at e;cases e
 have hD0:C.H0 D=none:=by
   cases z:C.H0 D with
   | none=>rfl
   | some o =>
     by_cases hp:D∈C.pots0
     · exact absurd (S1.sup D (S1.p0.1 D hp)) hDM
     · have:=S1.frame D o hp z;rw [hD] at this;cases this
 have hk2:∀b o,b∉G.pots->H1 b=some o->cutH H' D b=some o:=fun b o hb e=>by rw [J5 (nD b o e)];exact hk b o hb e
 have nc:∀b,b∉D::G.M->b≠D:=fun b hb z=>hb (by rw [z];exact E2);have np:∀p∈G.pots,p≠D:=fun p hp z=>hDM (z▸(S1.pots p hp).1)
 have Sb:SR C G σ (cutH H' D) env1 n2:=S1.call hk2 fun p hp=>by
   subst hT;have h2:=C.T.keep (hpots p hp) (H':=cutH H' D) (J5 (np p hp)) fun b o hb e=>by rw [J5 (nc b hb)];exact e
   exact C.T.more h2 fun a ha=>.inl (D0 _ ha)
 have:=k ys env1 n2 D us (cutH H' D) rr Sb (f1.trans fun b o hb e=>hk2 b o (fun z=>hb (S1.pots b z).1) e) (by unfold cutH;rw [if_pos rfl]) ?_
 · rw [As eD] at this;exact this
 · exact Reps.mono (G:=⟨D::G.M,G.pots⟩) (fun b o hb e=>by rw [J5 (nc b hb)];exact e) (fun a ha=>.inl (D0 _ ha)) (fun _ _ e=>e) _ _ ry
theorem HZ (i:Nat){y:Str}{py spos:Pos}(h:QNC T K F e pl)(hN:∀z,(F z).N.Nodup)(hi:∀z,(F z).N[i]?=some y)(hy:∀z,Loc (F z).env.scope y)(hsw:∀z,T8 e (some (.Name y py)) spos.line (F z).env=pure true:=by intro _;rfl)(hf:∀z,(F z).fn y=true\/(F z).env.scope.names.lookup y=some .local:=by intro _;first | exact .inl rfl | exact .inr rfl):QS T np K F (.Assign [.Name y py] e spos) (qSet i (qL pl)):=by
 obtain⟨t,a1,a3,a2⟩:=h
 have he:EOk K T t (qL pl):=fun C G σ H env n R Q hK hT S hp k=>by
   refine a2 C G σ H env n _ _ hK hT S hp fun xs env1 n1 a vs Hb p1 S1 f1 hn r1=>?_;exact k _ _ _ _ _ p1 (S1.same (Same.lay1 hn)) (n6 (S1.fresh hn) hn r1) (f1.trans (Fr.of (Same.lay1 hn)))
 refine⟨_,fun z=>a3 z i y py spos (hN z) (hi z) (hy z) (hsw z) (hf z),fun C G σ H env n PD D hK hT hn S hp L=>?_⟩;refine he C G σ H env n _ _ hK hT S hp fun x env1 n1 v H1 q1 S1 r1 f1=>?_;exact L.nx _ _ _ _ _ q1 (S1.set i (hK▸r1)) (Ext.fr f1)
end
end Pu
end
section
namespace Pu
open PySem PySem.Spec L2
theorem Ca {α:Type}(f:Nat->List α)(i:Nat):(B6 (i + 1)).flatMap f=(B6 i).flatMap f++f i:=by
 rw [List.range_succ,List.flatMap_append];simp
theorem H_ {α:Type}(A:List α)(f:Nat->List α)(i:Nat):A++(B6 (i + 1)).flatMap f=(A++(B6 i).flatMap f)++f i:=by
 rw [Ca,j8]
end Pu
end
section
namespace L2
open PySem PySem.Spec PyProof.Rows
def met (val:Nat->Key):Nat->List Key
 | 0=>[]
 | i + 1=>if(met val i).any (fun y=>decide (y=val i)) then met val i else met val i++[val i]
end L2
end
section
namespace Pu
open PySem PySem.Spec L2
theorem Ia (x:Str)(l u:Option Int):Y2 x l u=Ac x l u:=rfl
theorem Ib (x:Str){p:Nat}(h:p<=x.length):(Y2 x none (some (p:Int))).cps.toList=x.cps.toList.take p:=by
 rw [Ia]
 have e:Ac x none (some (p:Int))=Ac x (some ((0:Nat):Int)) (some (p:Int)):=by
   unfold Ac;rw [StrLaws.sliceIdx_none_lo];rfl
 rw [e,StrLaws.sliceText_nat x (N5 _) h];simp
def Ltr (c:Nat):Prop:=97<=c/\c<=122
def T0 (z:Str):Prop:=1<=z.cps.toList.length/\z.cps.toList.length<=8/\∀c∈z.cps.toList,Ltr c
abbrev LETS:Str:=C0 "abcdefghijklmnopqrstuvwxyz"
theorem Ie:LETS.cps.toList=(B6 26).map (97 + ·):=by decide +kernel
theorem Eu:LETS.length=26:=by decide +kernel
theorem Ew {d:Int}(d0:0<=d)(d1:d < 26):atI LETS.cps.toList d=some (97 + d.toNat):=by
 obtain⟨x,e1,e2⟩:=BD (xs:=LETS.cps.toList) d0 (by rw [<- l8,Eu];exact d1);rw [e2,<- e1,Ie,F2,List.getElem?_range (by omega)]
 rfl
end Pu
end
section
namespace L2
open PySem PySem.Spec PyProof.Rows
def ItB (b:Bool)(h:Heap)(it l:Addr)(i:Nat):Prop:=match b with | true=>h.IsListIter it l i | false=>h.IsTupleIter it l i
def SeB (b:Bool)(h:Heap)(l:Addr)(items:Array Value):Prop:=match b with | true=>h.IsList l items | false=>h.IsTuple l items
theorem ItB.at {b:Bool}{h h':Heap}{it l:Addr}{i:Nat}(x:ItB b h it l i)(e:∀o,h.get? it=some o->h'.get? it=some o):ItB b h' it l i:=by
 cases b with
 | true=>exact(show h.IsListIter it l i from x).at e
 | false=>exact(show h.IsTupleIter it l i from x).at e
theorem SeB.at (x:SeB b h l items)(e:∀o,h.get? l=some o->h'.get? l=some o):SeB b h' l items:=by
 cases b with
 | true=>exact(show h.IsList l items from x).at e
 | false=>exact(show h.IsTuple l items from x).at e
theorem ItB.obj (x:ItB b h it l i):∃o,h.get? it=some o/\(o.cls=.type "list_iterator"\/o.cls=.type "tuple_iterator")/\∀v,o.data≠.cell v:=by
 cases b with
 | true=>obtain⟨o,e,c,d⟩:=(show h.IsListIter it l i from x);exact⟨o,e,.inl c,fun v z=>by rw [d] at z;cases z⟩
 | false=>obtain⟨o,e,c,d⟩:=(show h.IsTupleIter it l i from x);exact⟨o,e,.inr c,fun v z=>by rw [d] at z;cases z⟩
theorem SeB.obj (x:SeB b h l items):∃o,h.get? l=some o/\(o.cls=.type "list"\/o.cls=.type "tuple"):=by
 cases b with
 | true=>obtain⟨o,e,c,d⟩:=(show h.IsList l items from x);exact⟨o,e,.inl c⟩
 | false=>obtain⟨o,e,c,d⟩:=(show h.IsTuple l items from x);exact⟨o,e,.inr c⟩
theorem ItB.ne (x:ItB b h it l i)(y:SeB b' h a items):a≠it:=fun z=>by
 obtain⟨o,e,c,_⟩:=x.obj;obtain⟨o',e',c'⟩:=y.obj;rw [z,e] at e';cases e';rcases c with c | c <;> rcases c' with c' | c' <;> (rw [c] at c';exact absurd c' (by decide))
section
variable {prog:C6}{w:World}{A:Around}{E:Value->Shared->Prop}{s:Shared}
theorem Ig (hit:s.heap.IsTupleIter it t i)(ht:s.heap.IsTuple t items)(hx:items[i]?=some x)
   (hQ:∀h',h'.IsTupleIter it t (i + 1)->Heap.SameBut it s.heap h'->Q x { s with heap:=h' }):wpAny (model prog w) A (P7 (.ref it)) Q E s:=by
 obtain⟨oi,hoi,hci,hdi⟩:=id hit;obtain⟨ot,hot,_,nt,hdt⟩:=ht;have ty:=hit.typeIs;unfold P7
 refine A0 (T5 (name:=C0 "__next__") ty z9
   (P4 z9 ty F.entry_tuple_iterator_next ?_ (F.args_tuple_iterator_next_1 _)))
 show wpAny _ _ (field (.ref it) 0>>=_) _ _ s;refine A0 (F4 hoi hdi (x:=.ref t) rfl ?_);show wpAny _ _ (if(K3 t == O8)=true then _ else _) _ _ s;rw [if_neg (show ¬((K3 t == O8)=true) from M3)];show wpAny _ _ (field (.ref it) 1>>=_) _ _ s;refine A0 (F4 hoi hdi (x:=.int i 0) rfl ?_);show wpAny _ _ (seqItems? (.ref t)>>=_) _ _ s;refine A0 (T6 hot hdt ?_);simp only [O7,hx];refine A0 (wpAny_setField hoi hdi (by simp) (A4 ⟨x,rfl,A4 (hQ _ ?_ (Heap.SameBut.update ..))⟩));exact⟨_,Heap.get?_update_self _ hoi (Obj.isFreed_of_fields (Obj.data_mapFields hdi _)),(Obj.cls_mapFields ..).trans hci,by rw [Obj.data_mapFields hdi];simp [rawInt]⟩
theorem Ih (hh:A.handled=none)(hit:s.heap.IsTupleIter it t i)(ht:s.heap.IsTuple t items)(hx:items[i]?=none)
   (hE:∀h' e,Heap.ExtBut it s.heap h'->(∃o,h'.get? e=some o/\o.cls=.type "StopIteration")->E (.ref e) { s with heap:=h' }):wpAny (model prog w) A (P7 (.ref it)) Q E s:=by
 obtain⟨oi,hoi,hci,hdi⟩:=id hit;obtain⟨ot,hot,_,nt,hdt⟩:=ht;have ty:=hit.typeIs;unfold P7
 refine A0 (T5 (name:=C0 "__next__") ty z9
   (P4 z9 ty F.entry_tuple_iterator_next ?_ (F.args_tuple_iterator_next_1 _)))
 show wpAny _ _ (field (.ref it) 0>>=_) _ _ s;refine A0 (F4 hoi hdi (x:=.ref t) rfl ?_);show wpAny _ _ (if(K3 t == O8)=true then _ else _) _ _ s;rw [if_neg (show ¬((K3 t == O8)=true) from M3)];show wpAny _ _ (field (.ref it) 1>>=_) _ _ s;refine A0 (F4 hoi hdi (x:=.int i 0) rfl ?_);show wpAny _ _ (seqItems? (.ref t)>>=_) _ _ s;refine A0 (T6 hot hdt ?_);simp only [O7,hx];refine A0 (Q9 (A0 (wpAny_setField hoi hdi (by simp) ?_)));show wpAny _ _ (newExc (.type "StopIteration") []>>=_) _ _ _;refine A0 ?_;simp only [newExc,newTuple];refine A0 (J6 ?_ (by size_fits));refine A0 (m:=firstArgMember _ _) (L7 (a:=O8) (by first | rfl | (simp only [firstArgMember];rfl)) ?_);refine J6 ?_ (by size_fits);simp only [raiseNew];refine A0 (wpAny_handled ?_)
 first | rw [show A.in1.handled=none from hh] | rw [hh]
 refine A0 (A4 (wpAny_throw ?_));exact hE _ _ (((Heap.SameBut.update ..).extBut.push _).push _) ⟨_,D8 _ rfl,rfl⟩
theorem Ay (hit:ItB b s.heap it t i)(ht:SeB b s.heap t items)(hx:items[i]?=some x)
   (hQ:∀h',ItB b h' it t (i + 1)->Heap.SameBut it s.heap h'->Q x { s with heap:=h' }):wpAny (model prog w) A (P7 (.ref it)) Q E s:=by
 cases b with
 | true=>exact wpAny_nextOf_list_item hit ht hx hQ
 | false=>exact Ig hit ht hx hQ
theorem Az (hh:A.handled=none)(hit:ItB b s.heap it t i)(ht:SeB b s.heap t items)(hx:items[i]?=none)
   (hE:∀h' e,Heap.ExtBut it s.heap h'->(∃o,h'.get? e=some o/\o.cls=.type "StopIteration")->E (.ref e) { s with heap:=h' }):wpAny (model prog w) A (P7 (.ref it)) Q E s:=by
 cases b with
 | true=>exact wpAny_nextOf_list_end hh hit ht hx hE
 | false=>exact Ih hh hit ht hx hE
theorem drawsB {b:Bool}(hh:A.handled=none)(it l:Addr)(hne:l≠it)(items:Array Value):Draws prog w A it [it,l] items.size (fun i v=>items[i]?=some v) (fun i h=>ItB b h it l i/\SeB b h l items) where
 live:=fun _ _ st=>let ⟨o,ho,_⟩:=st.1.obj;⟨o,ho⟩
 frame:=fun _ _ _ st hk=>⟨st.1.at fun o e=>hk it (by simp) o e,st.2.at fun o e=>hk l (by simp) o e⟩
 item:=fun i s Q E hi st hQ=>by
   refine Ay st.1 st.2 (x:=items[i]) (by simp [hi]) fun h' hit' hs'=>?_;exact hQ _ h' s.toks (by simp [hi]) ⟨hit',st.2.at fun o e=>hs'.extBut _ o hne e⟩ hs'
 done:=fun s Q E st hE=>Az hh st.1 st.2 (by simp) hE
theorem Ii (l:Addr)(items:Array Value)(n:Nat)(dct:Option Addr)(sl:Array (Option Value)) :
   Meets (Builtin.«enumerate.__new__» ⟨[.type "enumerate",.ref l],[]⟩) (fun _ R s=>s.heap.get? l=some { cls:=.type "tuple",dict:=dct,data:=.seq items n,slots:=sl }/\
     R (.ok (.ret (.ref (s.heap.push { cls := .type "tuple_iterator", data := .fields #[.ref l, .int 0 0] }).objs.size)))
       { s with heap:=(s.heap.push { cls:=.type "tuple_iterator",data:=.fields #[.ref l,.int 0 0] }).push { cls:=.type "enumerate",data:=.fields #[.none,.bool false,.ref s.heap.objs.size,rawInt 0,.none,.none] } }):=
 .of_wp fun prog w A R s hyp=>by
   obtain⟨hp,g,d,tk,os⟩:=s;obtain⟨hl,fin⟩:=hyp;have hsub:=sub_enumerate;have hL:Heap.IsTuple (Shared.heap ⟨hp,g,d,tk,os⟩) l items:=⟨_,hl,rfl,n,rfl⟩
   wp_walk using Ab hl
   refine wpAny_stack_any fun st=>A4 ?_
   split
   · rename_i c _ _ _ _ _;cases(c == L0 "enumerate")
     · wp_walk using Ab hl,i6 hL
       exact⟨_,rfl,fin⟩
     · wp_walk using Ab hl,i6 hL
       exact⟨_,rfl,fin⟩
   · wp_walk using Ab hl,i6 hL
     exact⟨_,rfl,fin⟩
theorem enumT {l:Addr}{items:Array Value}{Q:Value->Shared->Prop}(hL:s.heap.IsTuple l items)
   (h:∀h',IsEnum h' (s.heap.objs.size + 1) s.heap.objs.size 0 .none->h'.IsTupleIter s.heap.objs.size l 0->(∀b o,s.heap.get? b=some o->h'.get? b=some o)->Q (.ref (s.heap.objs.size + 1)) { s with heap:=h' }) :
   wpAny (model prog w) A (call (.type "enumerate") [.ref l]) Q E s:=by
 obtain⟨⟨c,dct,dt,sl⟩,hl,hc,n,hd⟩:=hL
 replace hc:c=.type "tuple":=hc
 replace hd:dt=.seq items n:=hd
 subst hc hd;refine callType_new F.called_enumerate (by decide) (F.typeCall_enumerate_1 _) (F.newCall_enumerate_1 _) (fun obj=>F.args_object_init_2 obj _) F.entry_enumerate_new (Ii l items n dct sl) ⟨hl,?_⟩;have hz:(s.heap.push { cls:=.type "tuple_iterator",data:=.fields #[.ref l,.int 0 0] }).objs.size=s.heap.objs.size + 1:=N2 ..;show _/\_;rw [hz]
 have he:IsEnum ((s.heap.push { cls:=.type "tuple_iterator",data:=.fields #[.ref l,.int 0 0] }).push { cls:=.type "enumerate",data:=.fields #[.none,.bool false,.ref s.heap.objs.size,rawInt 0,.none,.none] }) (s.heap.objs.size + 1) s.heap.objs.size 0 .none:=by
   have:=D8 (s.heap.push { cls:=.type "tuple_iterator",data:=.fields #[.ref l,.int 0 0] }) (o:={ cls:=.type "enumerate",data:=.fields #[.none,.bool false,.ref s.heap.objs.size,rawInt 0,.none,.none] }) rfl;rw [hz] at this;exact this
 exact⟨⟨_,he,rfl⟩,h _ he ⟨_,B5 _ (D8 _ rfl),rfl,rfl⟩ fun b o x=>B5 _ (B5 _ x)⟩
theorem enumB {b:Bool}{l:Addr}{items:Array Value}{Q:Value->Shared->Prop}(hL:SeB b s.heap l items)
   (h:∀h',IsEnum h' (s.heap.objs.size + 1) s.heap.objs.size 0 .none->ItB b h' s.heap.objs.size l 0->(∀b o,s.heap.get? b=some o->h'.get? b=some o)->Q (.ref (s.heap.objs.size + 1)) { s with heap:=h' }) :
   wpAny (model prog w) A (call (.type "enumerate") [.ref l]) Q E s:=by
 cases b with
 | true=>exact call_enumerate_list hL fun h' a b _ c=>h h' a b c
 | false=>exact enumT hL h
theorem Ij {b:Bool}{e it l:Addr}{j:Nat}{i:Int}{items:Array Value}{old:Value}{Q:Option Value->Shared->Prop}(hh:A.handled=none)(he:IsEnum s.heap e it i old)(hit:ItB b s.heap it l j)(ht:SeB b s.heap l items)(hx:items[j]?=none)
   (hQ:∀h',Heap.ExtBut it s.heap h'->Q none { s with heap:=h' }):wpAny (model prog w) A (pyNext (.ref e)) Q E s:=by
 have ty:s.TypeIs (.ref e) "enumerate":=⟨_,he,rfl⟩;unfold pyNext;refine A0 (wpAny_attempt (T5 (name:=C0 "__next__") ty F.slot_enumerate_next (P4 F.slot_enumerate_next ty F.entry_enumerate_next ?_ (F.args_enumerate_next_1 _))));show wpAny _ _ (field (.ref e) 2>>=_) _ _ _;refine A0 (F4 he rfl (x:=.ref it) rfl ?_);refine A0 (Az (A:=A.in1) hh hit ht hx fun h' x he' hx'=>?_);obtain⟨o,ho,hc⟩:=hx';exact A0 (wpAny_isInstance (T:="StopIteration") (b:=true) ⟨o,ho,hc⟩ isSubtype_stop (A4 (hQ _ he')))
end
def SqB (b:Bool)(K:A3)(H:Hp)(a:Addr)(xs:List V):Prop:=match b with | true=>SqL K H a xs | false=>SqT K H a xs
section
variable {X:Cx}
theorem Inv.seqB (I:Inv X pins σ H s)(h:SqB b X.K H a xs):∃its:List Value,Vals xs its/\SeB b s.heap a its.toArray/\xs.length<=B4:=by
 cases b with
 | true=>obtain⟨its,r,p,z⟩:=I.list h;exact⟨its,r,p.isList,z⟩
 | false=>obtain⟨its,r,p,z⟩:=I.tuple h;exact⟨its,r,p,z⟩
theorem Inv.seqB_inj (I:Inv X pins σ H s)(h:SqB b X.K H a xs)(h':SqB b X.K H a ys):xs=ys:=by
 cases b with
 | true=>exact I.list_inj h h'
 | false=>exact I.tuple_inj h h'
def IteB (b:Bool)(K:A3)(a:Addr):It:=
 ⟨fun i H=>∃xs x,SqB b K H a xs/\xs[i]?=some x,fun i H x H'=>∃p v,H p=none/\x=.ref p/\H'=upd H p (.tup [.int i,v])/\∀xs,SqB b K H a xs->xs[i]?=some v,fun i H=>∃xs,SqB b K H a xs/\xs.length<=i⟩
theorem Ik {b:Bool}{P:C6}{w:World}{K:A3}{elts:List Expr}{x1}{pos:Pos}(a e it:Addr)(hne:e≠it) :
   Turn P w K (.Tuple elts x1 pos) (IteB b K a) [e,it] e (fun i h=>(∃old,IsEnum h e it i old)/\ItB b h it a i) where
 mem:=by simp
 obj:=fun i h st c hc=>by
   obtain⟨⟨old,he⟩,st⟩:=st;obtain⟨o,e1,_,d⟩:=st.obj;have hc':c=e\/c=it:=by simpa using hc
   rcases hc' with rfl | rfl
   · exact⟨_,he,fun v z=>by cases z⟩
   · exact⟨o,e1,d⟩
 keep:=fun i h h' st k=>by
   obtain⟨⟨old,he⟩,st⟩:=st;exact⟨⟨old,k e (by simp) _ he⟩,st.at fun o e=>k it (by simp) o e⟩
 item:=by
   intro X hP hw hK hc i pins s σ H E I hf st hg;subst hP hw hK;obtain⟨⟨old,he⟩,st⟩:=st;obtain⟨xs,x,hq,hx⟩:=hg;obtain⟨its,rv,p,hz⟩:=I.seqB hq;obtain⟨u,hu,ru⟩:=rv.get hx;have nla:a≠it:=st.ne p
   have nea:e≠a:=fun z=>by
     obtain⟨o,e1,c1⟩:=p.obj;rw [<- z,he] at e1;cases e1;rcases c1 with c1 | c1
     · exact absurd (show L0 "enumerate"=L0 "list" from c1) (by decide)
     · exact absurd (show L0 "enumerate"=L0 "tuple" from c1) (by decide)
   have hi:i < its.toArray.size:=by
     obtain⟨h1,_⟩:=D2.mp hu
     simpa using h1
   refine wpAny_pyNext_enum_itemD (drawsB (A:=X.A.in1) (I.ok.hd hc) it a nla its.toArray) he ⟨st,p⟩ hi hne (by simp [hne,nea]) fun y h' tk hy he' st' ht hz' k=>?_
   have ey:y=u:=by
     have:its[i]?=some y:=by simpa using hy
     rw [hu] at this;exact(E4 this).symm
   subst ey;refine⟨_,rfl,wpAny_letOwnedTupleGo_enum (s:={ s with heap:=h',toks:=tk + 1 }) he' fun h'' he'' sb=>?_⟩;have hpe:s.heap.objs.size≠e:=X7 (B1 he);have ht'':h''.get? s.heap.objs.size=some { cls:=.type "tuple",data:=.seq #[.int i tk,y] }:=(sb.2 _ hpe).trans ht
   have k':∀c o,c∉[e,it]->s.heap.get? c=some o->h''.get? c=some o:=fun c o hb q=>by
     have hb1:c≠e:=fun z=>hb (by simp [z]);have hb2:c≠it:=fun z=>hb (by simp [z]);exact(sb.2 c hb1).trans (k c o hb1 hb2 q)
   have I1:Inv X pins σ (upd H s.heap.objs.size (.tup [.int i,x])) { s with heap:=h'',toks:=tk + 1 }:=
     I.turnedNew k' hf ⟨by show 2<=B4;decide,[.int i tk,y],.cons ⟨_,rfl⟩ (.cons ru .nil),⟨_,ht'',rfl,_,rfl⟩⟩
   refine⟨.ref s.heap.objs.size,_,I1,rfl,⟨_,x,I.fresh,rfl,rfl,fun ys hy=>by rw [I.seqB_inj hy hq];exact hx⟩,⟨⟨y,he''⟩,st'.1.at fun o q=>(sb.2 it (Ne.symm hne)).trans q⟩,fun c hb=>?_⟩;have hb':c=e\/c=it:=by simpa using hb
   have hbs:c≠s.heap.objs.size:=by
     rcases hb' with rfl | rfl
     · exact Ne.symm hpe
     · obtain⟨o,e1,_⟩:=st.obj;exact C5 (B1 e1)
   rw [A9 hbs];exact(hf c hb).1
 done:=by
   intro X hP hw hK hc i pins s σ H E I hf st hg;subst hP hw hK;obtain⟨⟨old,he⟩,st⟩:=st;obtain⟨xs,hq,hx⟩:=hg;obtain⟨its,rv,p,hz⟩:=I.seqB hq;obtain⟨f0,f1,f2,f3,f4,f5⟩:=hf it (by simp);have hl:=rv.length;refine Ij (I.ok.hd hc) he st p (Bb (by rw [D3];omega)) fun h' eb=>⟨rfl,I.turned (t':=s.toks) (fun c o hb e=>eb c o hb e) f0 f1 f3 f4 f5⟩
 self:=fun _ _ _ _ _ st h=>by
   obtain⟨⟨old,he⟩,_⟩:=st;exact w8 he h
def iEnumB (b:Bool)(K:A3)(ta:TA):TI:=fun σ H R=>ta σ H fun vs H1=>∃a,vs=[.ref a]/\(∃xs,SqB b K H1 a xs)/\R (IteB b K a) H1
theorem Il (b:Bool){l:Expr}{ta:TA}{p pos:Pos}{elts:List Expr}{x1}{tpos:Pos}(hg:Gl X "enumerate")(hm:X.mg "enumerate"=none)(ha:PA X [l] ta)(hs:C3 [l] X.env=[(false,eval l X.env)]:=by rfl) :
   PI X (.Tuple elts x1 tpos) (.Call (.Name "enumerate" p) [l] [] pos) (iEnumB b X.K ta):=by
 intro pins s σ H R I h;refine Call_ (Q1 I hg hm boot_enumerate (U3 (thn (ha pos pins s σ H _ I h) fun us s1 ⟨vs,H1,I1,r1,q1⟩=>?_) hs rfl));obtain⟨a,e,⟨xs,hq⟩,q⟩:=q1;subst e;obtain⟨u,rfl,ru⟩:=r1.one;obtain rfl:u=K3 a:=ru;obtain⟨its,rv,pl,hz⟩:=I1.seqB hq;refine enumB pl fun h' hE hI hk=>?_;refine w8 hE ?_;have I2:Inv X pins σ H1 { s1 with heap:=h' }:=I1.kept (t':=s1.toks) hk;refine⟨s1.heap.objs.size + 1,[s1.heap.objs.size + 1,s1.heap.objs.size],_,_,H1,rfl,I2,Ik a _ _ (y4 _),⟨⟨_,hE⟩,hI⟩,fun c hb=>?_,q⟩;have hb':c=s1.heap.objs.size + 1\/c=s1.heap.objs.size:=by simpa using hb
 rcases hb' with rfl | rfl
 · exact I1.fpOk (J4 _) (I1.hok.fresh (J4 _))
 · exact I1.fpOk (A8 _) (I1.hok.fresh (A8 _))
end
end L2
end
section
namespace L2
open PySem PySem.Spec PyProof.Rows
section
variable {prog:C6}{w:World}{A:Around}{E:Value->Shared->Prop}{s:Shared}
structure ZAp (z TI TO i1 i2:Addr):Prop where
 a1:TI≠z
 a2:TO≠z
 a3:i1≠z
 a4:i2≠z
 a5:TI≠TO
 a6:TI≠i1
 a7:TI≠i2
 a8:TO≠i1
 a9:TO≠i2
 a10:i1≠i2
theorem Im {z TI TO i1 i2 l1 l2:Addr}{Q:Value->Shared->Prop}(D:ZAp z TI TO i1 i2)(m1:l1≠z)(m2:l2≠z)(m3:l1≠TO)(m4:l2≠TO)(m5:l1≠i1)(m6:l2≠i1)
   (hz:IsZip s.heap z TI TO .none) (hTI:IsPair s.heap TI (.ref i1) (.ref i2)) (hTO:IsPair s.heap TO a b) (h1:ItB b1 s.heap i1 l1 k) (h2:ItB b2 s.heap i2 l2 k) (hl1:SeB b1 s.heap l1 xs) (hl2:SeB b2 s.heap l2 ys) (hx:xs[k]?=some x) (hy:ys[k]?=some y)
   (hQ:∀h',IsZip h' z TI TO (rawInt s.heap.objs.size)->IsPair h' TO x y->ItB b1 h' i1 l1 (k + 1)->ItB b2 h' i2 l2 (k + 1)->IsPair h' s.heap.objs.size x y->
     (∀c o,c≠z->c≠TO->c≠i1->c≠i2->s.heap.get? c=some o->h'.get? c=some o)->Q (.ref s.heap.objs.size) { s with heap:=h' }) :
   wpAny (model prog w) A (Builtin.«zip.__next__» ⟨[.ref z],[]⟩) (fun fin s'=>∃v,fin=.done (.ret v)/\Q v s') E s:=by
 show wpAny _ _ (field (.ref z) 2>>=_) _ _ _;refine A0 (F4 hz rfl (x:=.bool false) rfl ?_);show wpAny _ _ (field (.ref z) 3>>=_) _ _ _;refine A0 (F4 hz rfl (x:=.ref TI) rfl (A0 (T6 hTI rfl ?_)));show wpAny _ _ (y7 (.ref z)>>=_) _ _ _;refine A0 ?_;unfold y7;refine A0 (F4 hz rfl (x:=.none) rfl (A4 ?_));simp only [if_true];refine A0 (Q9 (A0 (F4 hz rfl (x:=.ref TO) rfl (A0 (Z4 hz (by simp) fun g1 z1 s1=>?_)))))
 replace z1:IsZip g1 z TI TO .ellipsis:=z1
 refine A0 ?_;simp only [List.zipIdx_cons,List.zipIdx_nil,List.forIn_cons,List.forIn_nil];refine A0 (A0 (wpAny_onRaise ?_));show wpAny _ _ (P7 (.ref i1)>>=_) _ _ _;refine A0 (Ay (s:={ s with heap:=g1 }) (h1.at fun o e=>s1.extBut _ o D.a3 e) (hl1.at fun o e=>s1.extBut _ o m1 e) hx fun g2 j2 s2=>A4 ?_);have t2:IsPair g2 TO a b:=s2.extBut _ _ D.a8 (s1.extBut _ _ D.a2 hTO);refine A0 (T6 t2 rfl (A0 (wpAny_updateSeq_pair (s:={ s with heap:=g2 }) t2 fun g3 t3 s3=>A0 (wpAny_letGo (A4 ?_)))))
 replace t3:IsPair g3 TO x b:=t3
 refine A0 (A0 (wpAny_onRaise ?_));show wpAny _ _ (P7 (.ref i2)>>=_) _ _ _;have up3:∀c o,c≠z->c≠i1->c≠TO->s.heap.get? c=some o->g3.get? c=some o:=fun c o c1 c2 c3 e=>s3.extBut _ o c3 (s2.extBut _ o c2 (s1.extBut _ o c1 e));refine A0 (Ay (s:={ s with heap:=g3 }) (h2.at fun o e=>up3 _ o D.a4 D.a10.symm D.a9.symm e) (hl2.at fun o e=>up3 _ o m2 m6 m4 e) hy fun g4 j4 s4=>A4 ?_);have t4:IsPair g4 TO x b:=s4.extBut _ _ D.a9 t3;refine A0 (T6 t4 rfl (A0 (wpAny_updateSeq_pair (s:={ s with heap:=g4 }) t4 fun g5 t5 s5=>A0 (wpAny_letGo (A4 (A4 ?_))))))
 replace t5:IsPair g5 TO x y:=t5
 refine A0 (T6 t5 rfl (A0 (wpAny_newTuple ?_)));have hsz:g5.objs.size=s.heap.objs.size:=by rw [s5.1,s4.1,s3.1,s2.1,s1.1]
 have z5:IsZip g5 z TI TO .ellipsis:=s5.extBut _ _ D.a2.symm (s4.extBut _ _ D.a4.symm (s3.extBut _ _ D.a2.symm (s2.extBut _ _ D.a3.symm z1)));have up5:∀c o,c≠z->c≠TO->c≠i1->c≠i2->s.heap.get? c=some o->g5.get? c=some o:=fun c o c1 c2 c3 c4 e=>s5.extBut _ _ c2 (s4.extBut _ _ c4 (up3 c o c1 c3 c2 e));have j1:ItB b1 g5 i1 l1 (k + 1):=j2.at fun o e=>s5.extBut _ o D.a8.symm (s4.extBut _ o D.a10 (s3.extBut _ o D.a8.symm e));have j5:ItB b2 g5 i2 l2 (k + 1):=j4.at fun o e=>s5.extBut _ o D.a9.symm e;have zlt:z < g5.objs.size:=B1 z5;show wpAny _ _ (CQ (.ref z) (.ref g5.objs.size)>>=_) _ _ _;refine A0 ?_;unfold CQ;have z6:IsZip (g5.push { cls:=.type "tuple",data:=.seq #[x,y] }) z TI TO .ellipsis:=B5 _ z5;refine A0 (Z4 z6 (by simp) fun g7 z7 s7=>?_)
 replace z7:IsZip g7 z TI TO (rawInt g5.objs.size):=z7
 refine Z4 z7 (by simp) fun g8 z8 s8=>?_
 replace z8:IsZip g8 z TI TO (rawInt g5.objs.size):=z8
 have up8:∀c o,c≠z->g5.get? c=some o->g8.get? c=some o:=fun c o c1 e=>s8.extBut _ _ c1 (s7.extBut _ _ c1 (B5 _ e));have t8:IsPair g8 g5.objs.size x y:=s8.extBut _ _ (X7 zlt) (s7.extBut _ _ (X7 zlt) (D8 _ rfl));rw [hsz] at z8 t8;refine A4 ⟨_,rfl,?_⟩;show Q (.ref g5.objs.size) _;rw [hsz];exact hQ g8 z8 (up8 _ _ D.a2 t5) (j1.at fun o e=>up8 _ o D.a3 e) (j5.at fun o e=>up8 _ o D.a4 e) t8 fun c o c1 c2 c3 c4 e=>up8 c o c1 (up5 c o c1 c2 c3 c4 e)
theorem zipEnd {z TI TO i1 i2 l1 l2:Addr}(hh:A.handled=none)(D:ZAp z TI TO i1 i2)(m1:l1≠z)(m2:l2≠z)(m3:l1≠TO)(m4:l2≠TO)(m5:l1≠i1)(m6:l2≠i1)
   (hz:IsZip s.heap z TI TO .none) (hTI:IsPair s.heap TI (.ref i1) (.ref i2)) (hTO:IsPair s.heap TO a b) (h1:ItB b1 s.heap i1 l1 k) (h2:ItB b2 s.heap i2 l2 k) (hl1:SeB b1 s.heap l1 xs) (hl2:SeB b2 s.heap l2 ys) (hend:xs[k]?=none\/ys[k]?=none)
   (hE:∀h' e,(∀c o,c≠z->c≠TO->c≠i1->c≠i2->s.heap.get? c=some o->h'.get? c=some o)->(∃o,h'.get? e=some o/\o.cls=.type "StopIteration")->E (.ref e) { s with heap:=h' }) :
   wpAny (model prog w) A (Builtin.«zip.__next__» ⟨[.ref z],[]⟩) Q E s:=by
 show wpAny _ _ (field (.ref z) 2>>=_) _ _ _;refine A0 (F4 hz rfl (x:=.bool false) rfl ?_);show wpAny _ _ (field (.ref z) 3>>=_) _ _ _;refine A0 (F4 hz rfl (x:=.ref TI) rfl (A0 (T6 hTI rfl ?_)));show wpAny _ _ (y7 (.ref z)>>=_) _ _ _;refine A0 ?_;unfold y7;refine A0 (F4 hz rfl (x:=.none) rfl (A4 ?_));simp only [if_true];refine A0 (Q9 (A0 (F4 hz rfl (x:=.ref TO) rfl (A0 (Z4 hz (by simp) fun g1 z1 s1=>?_)))))
 replace z1:IsZip g1 z TI TO .ellipsis:=z1
 refine A0 ?_;simp only [List.zipIdx_cons,List.zipIdx_nil,List.forIn_cons,List.forIn_nil];refine A0 (A0 (wpAny_onRaise ?_));show wpAny _ _ (P7 (.ref i1)>>=_) _ _ _;have h1':ItB b1 g1 i1 l1 k:=h1.at fun o e=>s1.extBut _ o D.a3 e;have hl1':SeB b1 g1 l1 xs:=hl1.at fun o e=>s1.extBut _ o m1 e
 have nz:∀{g:Heap} {e:Addr} {o:Obj},IsZip g z TI TO .ellipsis->g.get? e=some o->o.cls=.type "StopIteration"->e≠z:=fun {g e o} hz ho hc x=>by
   subst x;rw [hz] at ho;cases ho;exact absurd (show L0 "zip"=L0 "StopIteration" from hc) (by decide)
 cases hx:xs[k]? with
 | none =>
   refine A0 (Az (s:={ s with heap:=g1 }) hh h1' hl1' hx fun g2 e s2 ⟨oe,hoe,hce⟩=>?_);have z2:IsZip g2 z TI TO .ellipsis:=s2 _ _ D.a3.symm z1;exact Z4 z2 (by simp) fun g3 _ s3=>hE g3 e (fun c o c1 _ c3 _ x=>s3.extBut _ _ c1 (s2 _ _ c3 (s1.extBut _ _ c1 x))) ⟨oe,s3.extBut _ _ (nz z2 hoe hce) hoe,hce⟩
 | some x =>
   have hy:ys[k]?=none:=hend.elim (fun h=>by rw [hx] at h;cases h) id;refine A0 (Ay (s:={ s with heap:=g1 }) h1' hl1' hx fun g2 j2 s2=>A4 ?_);have t2:IsPair g2 TO a b:=s2.extBut _ _ D.a8 (s1.extBut _ _ D.a2 hTO);refine A0 (T6 t2 rfl (A0 (wpAny_updateSeq_pair (s:={ s with heap:=g2 }) t2 fun g3 t3 s3=>A0 (wpAny_letGo (A4 ?_)))));refine A0 (A0 (wpAny_onRaise ?_));show wpAny _ _ (P7 (.ref i2)>>=_) _ _ _;have up3:∀c o,c≠z->c≠i1->c≠TO->s.heap.get? c=some o->g3.get? c=some o:=fun c o c1 c2 c3 e=>s3.extBut _ o c3 (s2.extBut _ o c2 (s1.extBut _ o c1 e));refine A0 (Az (s:={ s with heap:=g3 }) hh (h2.at fun o e=>up3 _ o D.a4 D.a10.symm D.a9.symm e) (hl2.at fun o e=>up3 _ o m2 m6 m4 e) hy fun g4 e s4 ⟨oe,hoe,hce⟩=>?_);have z4:IsZip g4 z TI TO .ellipsis:=s4 _ _ D.a4.symm (s3.extBut _ _ D.a2.symm (s2.extBut _ _ D.a3.symm z1));exact Z4 z4 (by simp) fun g5 _ s5=>hE g5 e (fun c o c1 c2 c3 c4 x=>s5.extBut _ _ c1 (s4 _ _ c4 (up3 c o c1 c3 c2 x))) ⟨oe,s5.extBut _ _ (nz z4 hoe hce) hoe,hce⟩
end
def itO (b:Bool)(l:Addr):Obj:=match b with | true=>{ cls:=.type "list_iterator",data:=.fields #[.ref l,.int 0 0] } | false=>{ cls:=.type "tuple_iterator",data:=.fields #[.ref l,.int 0 0] }
theorem Ex (b:Bool)(l:Addr):(itO b l).isFreed=false:=by cases b <;> rfl
theorem Ey (e:h.get? a=some (itO b l)):ItB b h a l 0:=by
 cases b with
 | true=>exact⟨_,e,rfl,rfl⟩
 | false=>exact⟨_,e,rfl,rfl⟩
theorem iterO (ht:SeB b s.heap t items)(hQ:Q (.ref s.heap.objs.size) { s with heap:=s.heap.push (itO b t) }):wpAny (model prog w) A (pyIter (.ref t)) Q E s:=by
 cases b with
 | true=>exact w6 ht hQ
 | false=>exact i6 ht hQ
abbrev zh2 (h:Heap)(b1 b2:Bool)(l1 l2:Addr):Heap:=(h.push (itO b1 l1)).push (itO b2 l2)
abbrev zh3 (h:Heap)(b1 b2:Bool)(l1 l2:Addr):Heap:=(zh2 h b1 b2 l1 l2).push { cls:=.type "tuple",data:=.seq #[.ref h.objs.size,.ref (h.push (itO b1 l1)).objs.size] }
abbrev zh4 (h:Heap)(b1 b2:Bool)(l1 l2:Addr):Heap:=(zh3 h b1 b2 l1 l2).push { cls:=.type "tuple",data:=.seq #[.none,.none] }
abbrev zh5 (h:Heap)(b1 b2:Bool)(l1 l2:Addr):Heap:=(zh4 h b1 b2 l1 l2).push { cls:=.type "zip",data:=.fields #[.none,.bool false,.bool false,.ref (zh2 h b1 b2 l1 l2).objs.size,.ref (zh3 h b1 b2 l1 l2).objs.size] }
theorem zipNew (b1 b2:Bool)(l1 l2:Addr)(xs ys:Array Value) :
   Meets (Builtin.«zip.__new__» ⟨[.type "zip",.ref l1,.ref l2],[]⟩) (fun _ R s=>SeB b1 s.heap l1 xs/\SeB b2 s.heap l2 ys/\R (.ok (.ret (.ref (zh4 s.heap b1 b2 l1 l2).objs.size))) { s with heap:=zh5 s.heap b1 b2 l1 l2 }):=
 .of_wp fun prog w A R s hyp=>by
   obtain⟨hp,g,d,tk,os⟩:=s;obtain⟨k1,k2,fin⟩:=hyp;have hsub:=sub_zip;have L1:SeB b1 (Shared.heap ⟨hp,g,d,tk,os⟩) l1 xs:=k1;have L2:SeB b2 (Shared.heap ⟨hp.push (itO b1 l1),g,d,tk,os⟩) l2 ys:=k2.at fun o e=>B5 _ e
   wp_walk using iterO L1,iterO L2
   exact⟨_,rfl,fin⟩
section
variable {prog:C6}{w:World}{A:Around}{E:Value->Shared->Prop}{s:Shared}
theorem zipB (hl1:SeB b1 s.heap l1 xs)(hl2:SeB b2 s.heap l2 ys)
   (h:∀h',IsZip h' (s.heap.objs.size + 4) (s.heap.objs.size + 2) (s.heap.objs.size + 3) .none->IsPair h' (s.heap.objs.size + 2) (.ref s.heap.objs.size) (.ref (s.heap.objs.size + 1))->
     IsPair h' (s.heap.objs.size + 3) .none .none->ItB b1 h' s.heap.objs.size l1 0->ItB b2 h' (s.heap.objs.size + 1) l2 0->(∀c o,s.heap.get? c=some o->h'.get? c=some o)->Q (.ref (s.heap.objs.size + 4)) { s with heap:=h' }) :
   wpAny (model prog w) A (call (.type "zip") [.ref l1,.ref l2]) Q E s:=by
 refine callType_new F.called_zip (by decide) (F.typeCall_zip_2 _ _) (F.newCall_zip_2 _ _) (fun obj=>F.args_object_init_3 obj _ _) F.entry_zip_new (zipNew b1 b2 l1 l2 xs ys) ⟨hl1,hl2,?_⟩;have z1:(s.heap.push (itO b1 l1)).objs.size=s.heap.objs.size + 1:=N2 ..;have z2:(zh2 s.heap b1 b2 l1 l2).objs.size=s.heap.objs.size + 2:=by rw [N2,z1]
 have z3:(zh3 s.heap b1 b2 l1 l2).objs.size=s.heap.objs.size + 3:=by rw [N2,z2]
 have z4:(zh4 s.heap b1 b2 l1 l2).objs.size=s.heap.objs.size + 4:=by rw [N2,z3]
 have g5:(zh5 s.heap b1 b2 l1 l2).get? (zh4 s.heap b1 b2 l1 l2).objs.size=some _:=D8 _ rfl;have g4:(zh5 s.heap b1 b2 l1 l2).get? (zh3 s.heap b1 b2 l1 l2).objs.size=some _:=B5 _ (D8 _ rfl);have g3:(zh5 s.heap b1 b2 l1 l2).get? (zh2 s.heap b1 b2 l1 l2).objs.size=some _:=B5 _ (B5 _ (D8 _ rfl));have g2:(zh5 s.heap b1 b2 l1 l2).get? (s.heap.push (itO b1 l1)).objs.size=some _:=B5 _ (B5 _ (B5 _ (D8 _ (Ex b2 l2))));have g1:(zh5 s.heap b1 b2 l1 l2).get? s.heap.objs.size=some _:=B5 _ (B5 _ (B5 _ (B5 _ (D8 _ (Ex b1 l1)))));show _/\_;rw [z2,z3,z4] at g5;rw [z1,z2] at g3;rw [z3] at g4;rw [z1] at g2;rw [z4];exact⟨⟨_,g5,rfl⟩,h _ g5 g3 g4 (Ey g1) (Ey g2) fun c o x=>B5 _ (B5 _ (B5 _ (B5 _ (B5 _ x))))⟩
end
section
variable {X:Cx}
def ItzB (b1 b2:Bool)(K:A3)(a c:Addr):It:=
 ⟨fun i H=>∃xs ys x y,SqB b1 K H a xs/\SqB b2 K H c ys/\xs[i]?=some x/\ys[i]?=some y,
  fun i H x H'=>∃p u v,H p=none/\x=.ref p/\H'=upd H p (.tup [u,v])/\(∀xs,SqB b1 K H a xs->xs[i]?=some u)/\∀ys,SqB b2 K H c ys->ys[i]?=some v,
  fun i H=>∃xs ys,SqB b1 K H a xs/\SqB b2 K H c ys/\min xs.length ys.length<=i⟩
theorem AB (p:SeB b h l items)(he:h.get? e=some o)(hc:o.cls=.type n)(h1:n≠"list")(h2:n≠"tuple"):l≠e:=fun z=>by
 obtain⟨o',e1,c1⟩:=p.obj;rw [z,he] at e1;cases e1;rw [hc] at c1;rcases c1 with c1 | c1
 · exact h1 (Value.type.inj c1)
 · exact h2 (Value.type.inj c1)
theorem AC {l z TI TO i1 i2:Addr}(I:Inv X pins σ H s)(hf:∀d∈[z,TI,TO,i1,i2],FpOk X pins H d)(hTO:IsPair s.heap TO p q)(hq:SqB b X.K H l xs):l≠TO:=fun zz=>by
 obtain⟨f0,f1,f2,f3,f4,f5⟩:=hf TO (by simp);subst zz;cases b with
 | true =>
   obtain⟨its,_,pl,_⟩:=I.list hq;obtain⟨o,e,c1,_⟩:=pl.isList;rw [hTO] at e;cases e;exact absurd (show L0 "tuple"=L0 "list" from c1) (by decide)
 | false =>
   rcases hq with hq | ⟨o,its,n,hk,hc1,hs,hz,r⟩
   · rcases hq with e | ⟨o,e⟩
     · rw [f0] at e;cases e
     · rw [f0] at e;cases e
   · have eb:X.base.get? l=some o:=I.ok.mod.kin l o hk;rcases f3 with f3 | f3
     · exact I.ok.noex l o eb f3
     · exact absurd (G4 (B1 eb) (D7 I.ok.bsz f3)) (N4 _)
theorem Inv.turnedAll {ch:List Addr}(I:Inv X pins σ H s)(k:∀b o,b∉ch->s.heap.get? b=some o->h'.get? b=some o)(hf:∀b∈ch,FpOk X pins H b):Inv X pins σ H { s with heap:=h',toks:=t' }:=by
 have nch:∀b u,H b=some u->b∉ch:=fun b u e z=>by rw [(hf b z).1] at e;cases e
 refine I.step (g':=s.gens) (d':=s.drawn) (ch:=ch) (fun b hb=>⟨(hf b hb).2.2.2.1,(hf b hb).2.1,(hf b hb).2.2.2.2.1,(hf b hb).2.2.2.2.2⟩) (fun b o _ _ hc e _=>k b o hc e) (fun b o _ _ hc e _=>⟨o.slots,k b o hc e⟩) (fun _ _ _ _ n=>n)
   (fun b o hc e=>⟨o,k b o hc e⟩) (fun _ _ e=>e) (fun _ _ _ e=>e) (fun b ps e=>⟨#[],by rw [e];simp⟩) (fun z=>z) (fun m hm=>?_) (fun b u e=>?_) I.bare
 · obtain⟨o,es,ep,ho,r⟩:=hm;exact⟨o,es,ep,k _ o (fun z=>(hf _ z).2.1 rfl) ho,r⟩
 · refine(I.hok b u e).stay (fun c v hc q=>k c v ?_ q) (fun c q=>q) fun c ys q=>q;rcases hc with z | z
   · rw [z];exact nch b u e
   · exact nch c _ z
theorem Io {b1 b2:Bool}{P:C6}{w:World}{K:A3}{elts:List Expr}{x1}{pos:Pos}(a c z TI TO i1 i2:Addr)(D:ZAp z TI TO i1 i2) :
   Turn P w K (.Tuple elts x1 pos) (ItzB b1 b2 K a c) [z,TI,TO,i1,i2] z (fun i h=>IsZip h z TI TO .none/\IsPair h TI (.ref i1) (.ref i2)/\(∃p q,IsPair h TO p q)/\ItB b1 h i1 a i/\ItB b2 h i2 c i) where
 mem:=by simp
 obj:=fun i h st e he=>by
   obtain⟨hz,h1,⟨p,q,h2⟩,h3,h4⟩:=st;obtain⟨o3,e3,_,d3⟩:=h3.obj;obtain⟨o4,e4,_,d4⟩:=h4.obj;have he':e=z\/e=TI\/e=TO\/e=i1\/e=i2:=by simpa using he
   rcases he' with rfl | rfl | rfl | rfl | rfl
   · exact⟨_,hz,fun v z=>by cases z⟩
   · exact⟨_,h1,fun v z=>by cases z⟩
   · exact⟨_,h2,fun v z=>by cases z⟩
   · exact⟨_,e3,d3⟩
   · exact⟨_,e4,d4⟩
 keep:=fun i h h' st k=>by
   obtain⟨hz,h1,⟨p,q,h2⟩,h3,h4⟩:=st;exact⟨k z (by simp) _ hz,k TI (by simp) _ h1,⟨p,q,k TO (by simp) _ h2⟩,h3.at fun o e=>k i1 (by simp) o e,h4.at fun o e=>k i2 (by simp) o e⟩
 item:=by
   intro X hP hw hK hc i pins s σ H E I hf st hg;subst hP hw hK;obtain⟨hz,hTI,⟨p,q,hTO⟩,h3,h4⟩:=st;obtain⟨xs,ys,x,y,hq1,hq2,hx,hy⟩:=hg;obtain⟨is1,rv1,p1,hz1⟩:=I.seqB hq1;obtain⟨is2,rv2,p2,hz2⟩:=I.seqB hq2;obtain⟨u,hu,ru⟩:=rv1.get hx;obtain⟨v,hv,rv⟩:=rv2.get hy;have ty:s.TypeIs (.ref z) "zip":=⟨_,hz,rfl⟩;unfold pyNext;refine A0 (wpAny_attempt (T5 (name:=C0 "__next__") ty Aa (P4 Aa ty F.entry_zip_next (Im D (AB p1 hz rfl (by decide) (by decide)) (AB p2 hz rfl (by decide) (by decide)) (AC I hf hTO hq1) (AC I hf hTO hq2) (h3.ne p1) (h3.ne p2) hz hTI hTO h3 h4 p1 p2 (by simpa using hu) (by simpa using hv) fun h' a1 a2 a3 a4 a5 k=>A4 ?_) (F.args_zip_next_1 _))));refine⟨_,rfl,wpAny_letOwnedTupleGo_zip (s:={ s with heap:=h' }) a1 fun h'' z'' sb=>?_⟩;have lt:∀{d:Addr} {o:Obj},s.heap.get? d=some o->s.heap.objs.size≠d:=fun e=>X7 (B1 e);have ht'':h''.get? s.heap.objs.size=some { cls:=.type "tuple",data:=.seq #[u,v] }:=(sb.2 _ (lt hz)).trans a5
   have k':∀d o,d∉[z,TI,TO,i1,i2]->s.heap.get? d=some o->h''.get? d=some o:=fun d o hb q=>by
     have hb1:d≠z:=fun e=>hb (by simp [e]);exact(sb.2 d hb1).trans (k d o hb1 (fun e=>hb (by simp [e])) (fun e=>hb (by simp [e])) (fun e=>hb (by simp [e])) q)
   have I1:Inv X pins σ (upd H s.heap.objs.size (.tup [x,y])) { s with heap:=h'' }:=
     I.turnedNew (t':=s.toks) k' hf ⟨by show 2<=B4;decide,[u,v],.cons ru (.cons rv .nil),⟨_,ht'',rfl,_,rfl⟩⟩
   obtain⟨o3,e3,_,_⟩:=h3.obj;obtain⟨o4,e4,_,_⟩:=h4.obj
   refine⟨.ref s.heap.objs.size,_,I1,rfl,⟨_,x,y,I.fresh,rfl,rfl,fun zs hzs=>by rw [I.seqB_inj hzs hq1];exact hx,fun zs hzs=>by rw [I.seqB_inj hzs hq2];exact hy⟩,
     ⟨z'',sb.extBut _ _ D.a1 (k _ _ D.a1 D.a5 D.a6 D.a7 hTI),⟨u,v,sb.extBut _ _ D.a2 a2⟩,a3.at fun o e=>sb.extBut _ o D.a3 e,a4.at fun o e=>sb.extBut _ o D.a4 e⟩,fun d hd=>?_⟩
   have hd':d=z\/d=TI\/d=TO\/d=i1\/d=i2:=by simpa using hd
   have hds:d≠s.heap.objs.size:=by
     rcases hd' with rfl | rfl | rfl | rfl | rfl
     · exact(lt hz).symm
     · exact(lt hTI).symm
     · exact(lt hTO).symm
     · exact(lt e3).symm
     · exact(lt e4).symm
   rw [A9 hds];exact(hf d hd).1
 done:=by
   intro X hP hw hK hc i pins s σ H E I hf st hg;subst hP hw hK;obtain⟨hz,hTI,⟨p,q,hTO⟩,h3,h4⟩:=st;obtain⟨xs,ys,hq1,hq2,hmin⟩:=hg;obtain⟨is1,rv1,p1,hz1⟩:=I.seqB hq1;obtain⟨is2,rv2,p2,hz2⟩:=I.seqB hq2;have l1:=rv1.length;have l2:=rv2.length;have ty:s.TypeIs (.ref z) "zip":=⟨_,hz,rfl⟩
   have hend:is1.toArray[i]?=none\/is2.toArray[i]?=none:=by
     rcases Nat.le_total xs.length ys.length with h | h
     · exact .inl (Bb (by rw [D3];omega))
     · exact .inr (Bb (by rw [D3];omega))
   unfold pyNext;refine A0 (wpAny_attempt (T5 (name:=C0 "__next__") ty Aa (P4 Aa ty F.entry_zip_next (zipEnd (A:=X.A.in1) (I.ok.hd hc) D (AB p1 hz rfl (by decide) (by decide)) (AB p2 hz rfl (by decide) (by decide)) (AC I hf hTO hq1) (AC I hf hTO hq2) (h3.ne p1) (h3.ne p2) hz hTI hTO h3 h4 p1 p2 hend fun h' e k he=>?_) (F.args_zip_next_1 _))));obtain⟨o,ho,hce⟩:=he;refine A0 (wpAny_isInstance (T:="StopIteration") (b:=true) ⟨o,ho,hce⟩ isSubtype_stop (A4 ⟨rfl,?_⟩));exact I.turnedAll (t':=s.toks) (ch:=[z,TI,TO,i1,i2]) (fun d o hd e=>k d o (fun z=>hd (by simp [z])) (fun z=>hd (by simp [z])) (fun z=>hd (by simp [z])) (fun z=>hd (by simp [z])) e) hf
 self:=fun _ _ _ _ _ st h=>wpAny_pyIter_zip st.1 h
end
end L2
end
section
namespace L2
open PySem PySem.Spec PyProof.Rows
section
variable {X:Cx}
def iZipB (b1 b2:Bool)(K:A3)(ta:TA):TI:=fun σ H R=>ta σ H fun vs H1=>∃a c,vs=[.ref a,.ref c]/\(∃xs,SqB b1 K H1 a xs)/\(∃ys,SqB b2 K H1 c ys)/\R (ItzB b1 b2 K a c) H1
theorem Ip (b1 b2:Bool){a b:Expr}{ta:TA}{p pos:Pos}{elts:List Expr}{x1}{tpos:Pos}(hg:Gl X "zip")(hm:X.mg "zip"=none)(ha:PA X [a,b] ta)(hs:C3 [a,b] X.env=[(false,eval a X.env),(false,eval b X.env)]:=by rfl)(hs2:C3 [b] X.env=[(false,eval b X.env)]:=by rfl) :
   PI X (.Tuple elts x1 tpos) (.Call (.Name "zip" p) [a,b] [] pos) (iZipB b1 b2 X.K ta):=by
 intro pins s σ H R I h;refine Call_ (Q1 I hg hm boot_zip (U3 (thn (ha pos pins s σ H _ I h) fun us s1 ⟨vs,H1,I1,r1,q1⟩=>?_) (by rw [hs,hs2]) (by rw [hs2];rfl)));obtain⟨a,c,e,⟨xs,h1⟩,⟨ys,h2⟩,q⟩:=q1;subst e;cases r1 with
 | cons r rr =>
   cases rr with
   | cons r' rr =>
     cases rr;cases r;cases r';obtain⟨is1,rv1,p1,hz1⟩:=I1.seqB h1;obtain⟨is2,rv2,p2,hz2⟩:=I1.seqB h2;refine zipB p1 p2 fun h' e1 e2 e3 e4 e5 hk=>?_;refine wpAny_pyIter_zip e1 ?_;have I2:Inv X pins σ H1 { s1 with heap:=h' }:=I1.kept (t':=s1.toks) hk;refine⟨s1.heap.objs.size + 4,[s1.heap.objs.size + 4,s1.heap.objs.size + 2,s1.heap.objs.size + 3,s1.heap.objs.size,s1.heap.objs.size + 1],_,_,H1,rfl,I2,Io a c _ _ _ _ _ ⟨by simp,by simp,by simp,by simp,by simp,by simp,by simp,by simp,by simp,by simp⟩,⟨e1,e2,⟨_,_,e3⟩,e4,e5⟩,fun d hd=>?_,q⟩
     have hd':s1.heap.objs.size<=d:=by
       simp only [B9,X4,or_false] at hd;rcases hd with rfl | rfl | rfl | rfl | rfl <;> omega
     exact I1.fpOk hd' (I1.hok.fresh hd')
end
end L2
namespace Pu
open PySem PySem.Spec L2
section
variable {T:PotK}{ι:Type}{K:A3}{F:ι->Cx}{e a b tg:Expr}{pe pa pb:pE}{pos:Pos}
def Cb (pe:pE):pA:=fun env n R=>pe env n fun x env1 n1=>match x with | .tup xs=>R (V9 xs) env1 n1 | _=>False
theorem Iq {p:Pos}{elts:List Expr}{x1:Nat}{tpos:Pos}(hg:∀z,Gl (F z) "enumerate")(hm:∀z,(F z).mg "enumerate"=none)(h:QE T K F e pe)(hs:C9 e=true:=by rfl)(hK:∀z,(F z).K=K:=by intro _;rfl):QI T K F (.Tuple elts x1 tpos) (.Call (.Name "enumerate" p) [e] [] pos) (Cb pe):=by
 obtain⟨t,h1,h2⟩:=h;refine⟨_,fun z=>hK z▸Il false (hg z) (hm z) (C7 (h1 z) E3 (B0 hs)) (by rw [B0 hs];rfl),fun C G σ H env n R Q hK hT S hp k=>?_⟩;refine h2 C G σ H env n _ _ hK hT S hp fun x env1 n1 v H1 p1 S1 r1 f1=>?_;cases x with
 | tup xs =>
   obtain⟨a,vs,rfl,t,r⟩:=r1;refine⟨a,rfl,⟨vs,t.sq⟩,k _ _ _ _ _ p1 S1 f1 ?_⟩;intro G2 H2 hk hM hp hf;have hq:SqB false K H2 a vs:=SqT.of (hk a _ t.1 t.2);have r2:Reps K G2 H2 xs vs:=Reps.mono hk hM hp _ _ r;refine⟨fun i x e=>?_,fun i hi=>⟨vs,hq,by rw [<- r.length,<- Aq];exact hi⟩⟩;obtain⟨y,ey,rfl⟩:=BP e;obtain⟨v,ev,rv⟩:=r2.get' ey;refine⟨⟨vs,v,hq,ev⟩,fun v' H3 y=>?_⟩;obtain⟨p,w,hn,rfl,rfl,y⟩:=y;have:=y vs hq;rw [ev] at this;cases this;exact⟨Same.lay1 hn,V4 (hf p hn) hn (.cons rfl (.one rv))⟩
 | _=>exact p1.elim
def zipP (xs ys:List PV):List PV:=(xs.zip ys).map fun y=>.tup [y.1,y.2]
def u4 (b:Bool):PV->Option (List PV)
 | .lst xs=>if b then some xs else none
 | .tup xs=>if b then none else some xs
 | _=>none
theorem Ir {b:Bool}(h:u4 b x=some xs):x=(match b with | true=>.lst xs | false=>.tup xs):=by
 cases x <;> cases b <;> simp [u4] at h <;> simp [h]
theorem Ez {b:Bool}(h:u4 b x=some xs)(r:Rep K G H x v):∃a vs,v=.ref a/\a∉G.M/\Reps K G H xs vs/\∀H2,(∀c o,c∉G.M->H c=some o->H2 c=some o)->SqB b K H2 a vs:=by
 rw [Ir h] at r;cases b with
 | true =>
   obtain⟨a,vs,e,t,r⟩:=r;exact⟨a,vs,e,t.1,r,fun H2 hk=>SqL.of (hk a _ t.1 t.2)⟩
 | false =>
   obtain⟨a,vs,e,t,r⟩:=r;exact⟨a,vs,e,t.1,r,fun H2 hk=>SqT.of (hk a _ t.1 t.2)⟩
def qZip (b1 b2:Bool)(pa pb:pE):pA:=fun env n R=>pa env n fun x env1 n1=>pb env1 n1 fun y env2 n2=>match u4 b1 x,u4 b2 y with | some xs,some ys=>R (zipP xs ys) env2 n2 | _,_=>False
theorem Is (xs ys:List PV):(zipP xs ys).length=min xs.length ys.length:=by simp [zipP]
theorem EA {xs ys:List PV}{i:Nat}{x:PV}(h:(zipP xs ys)[i]?=some x):∃u v,xs[i]?=some u/\ys[i]?=some v/\x=.tup [u,v]:=by grind [PV,zipP]
theorem qi_zip (b1 b2:Bool)(hg:∀z,Gl (F z) "zip")(hm:∀z,(F z).mg "zip"=none)(ha:QE T K F a pa)(hb:QE T K F b pb)(hs:C9 a=true:=by rfl)(hs2:C9 b=true:=by rfl)(hK:∀z,(F z).K=K:=by intro _;rfl):QI T K F (.Tuple elts x1 tpos) (.Call (.Name "zip" p) [a,b] [] pos) (qZip b1 b2 pa pb):=by
 obtain⟨t,h1,h2⟩:=ha;obtain⟨u,h3,h4⟩:=hb;refine⟨_,fun z=>hK z▸Ip b1 b2 (hg z) (hm z) (C7 (h1 z) (C7 (h3 z) E3 (B0 hs2)) (B0 hs)) (by rw [B0 hs,B0 hs2];rfl) (by rw [B0 hs2];rfl),fun C G σ H env n R Q hK hT S hp k=>?_⟩;refine h2 C G σ H env n _ _ hK hT S hp fun x env1 n1 v H1 p1 S1 r1 f1=>?_;refine h4 C G σ H1 env1 n1 _ _ hK hT S1 p1 fun y env2 n2 w H2 p2 S2 r2 f2=>?_
 split at p2
 · rename_i xs ys ex ey;obtain⟨a,vs,rfl,na,ra,sa⟩:=Ez ex (r1.fr f2);obtain⟨c,us,rfl,nc,rc,scq⟩:=Ez ey r2;refine⟨a,c,rfl,⟨vs,sa H2 fun _ _ _ e=>e⟩,⟨us,scq H2 fun _ _ _ e=>e⟩,k _ _ _ _ _ p2 S2 (f1.trans f2) ?_⟩;intro G2 H3 hk hM hp hf;have ra':Reps K G2 H3 xs vs:=Reps.mono hk hM hp _ _ ra;have rc':Reps K G2 H3 ys us:=Reps.mono hk hM hp _ _ rc;refine⟨fun i x e=>?_,fun i hi=>⟨vs,us,sa H3 hk,scq H3 hk,by rw [<- ra.length,<- rc.length,<- Is];exact hi⟩⟩;obtain⟨u,v,eu,ev,rfl⟩:=EA e;obtain⟨u',eu',ru⟩:=ra'.get' eu;obtain⟨v',ev',rv⟩:=rc'.get' ev;refine⟨⟨vs,us,u',v',sa H3 hk,scq H3 hk,eu',ev'⟩,fun x' H4 y=>?_⟩;obtain⟨p,u2,v2,hn,rfl,rfl,y1,y2⟩:=y;have q1:=y1 vs (sa H3 hk);have q2:=y2 us (scq H3 hk);rw [eu'] at q1;rw [ev'] at q2;cases q1;cases q2;exact⟨Same.lay1 hn,V4 (hf p hn) hn (.cons ru (.one rv))⟩
 · exact p2.elim
end
end Pu
end
section
namespace L2
open PySem PySem.Spec PyProof.Rows
section
variable {κ:Type}[DecidableEq κ]
def valV (kvs:List (κ×V))(k:κ):Option V:=(kvs.find? fun kv=>decide (kv.1=k)).map (·.2)
def putK (kvs:List (κ×V))(k:κ)(v:V):List (κ×V):=
 if(kvs.any fun kv=>decide (kv.1=k))=true then kvs.map (fun kv=>if kv.1=k then(kv.1,v) else kv) else kvs++[(k,v)]
end
def DGet (H:Hp)(a:Addr)(y:V)(r:Option V):Prop:=
 (∃kvs k,Rd H a (.dK kvs)/\y=kV k/\r=valV kvs k)\/∃kvs k b,Rd H a (.dT kvs)/\y=.ref b/\H b=some (.tup (k.map kV))/\r=valV kvs k
def DPut (H:Hp)(a:Addr)(y v:V)(H':Hp):Prop:=
 (∃kvs k,H a=some (.dK kvs)/\y=kV k/\kvs.length < B4/\H'=upd H a (.dK (putK kvs k v)))\/
 ∃kvs k b,H a=some (.dT kvs)/\y=.ref b/\H b=some (.tup (k.map kV))/\kvs.length < B4/\H'=upd H a (.dT (putK kvs k v))
theorem DGet.k {k:Key}(e:H a=some (.dK kvs)):DGet H a (kV k) (valV kvs k):=.inl ⟨kvs,k,.inl e,rfl,rfl⟩
theorem DGet.t {k:List Key}(e:H a=some (.dT kvs))(eb:H b=some (.tup (k.map kV))):DGet H a (.ref b) (valV kvs k):=.inr ⟨kvs,k,b,.inl e,rfl,eb,rfl⟩
theorem DPut.k {k:Key}(e:H a=some (.dK kvs))(hl:kvs.length < B4):DPut H a (kV k) v (upd H a (.dK (putK kvs k v))):=.inl ⟨kvs,k,e,rfl,hl,rfl⟩
theorem DPut.t {k:List Key}(e:H a=some (.dT kvs))(eb:H b=some (.tup (k.map kV)))(hl:kvs.length < B4) :
   DPut H a (.ref b) v (upd H a (.dT (putK kvs k v))):=.inr ⟨kvs,k,b,e,rfl,eb,hl,rfl⟩
end L2
end
section
namespace Pu
open PySem PySem.Spec L2
theorem u5 {te:pE}{rest:Env}{α:Type}(f:α->PV)(g:α->PV):∀(xs:List α) (s0:Option Slot) (n:Nat) (R:List PV->Nat->Prop),(∀x∈xs,∀m Q,Q (g x) (some (.v (f x))::rest) m->te (some (.v (f x))::rest) m Q)->R (xs.map g) n->O0 (gN 0) qTru te (xs.map f) (s0::rest) n R
 | [],_,_,_,_,h=>h
 | x :: xs, s0, n, R, ht, h => by
   show te (some (.v (f x))::rest) n _;refine ht x E2 n _ ?_;exact u5 f g xs _ n _ (fun y hy=>ht y (D0 _ hy)) h
theorem EB {te:pE}{rest:Env}{α:Type}(u v g:α->PV):∀(xs:List α) (s0 s1:Option Slot) (n:Nat) (R:List PV->Nat->Prop),(∀x∈xs,∀m Q,Q (g x) (some (.v (u x))::some (.v (v x))::rest) m->te (some (.v (u x))::some (.v (v x))::rest) m Q)->R (xs.map g) n->O0 (gTp 2 (gCn (gN 0) (gCn (gN 1) gNl))) qTru te (xs.map fun x=>.tup [u x,v x]) (s0::s1::rest) n R
 | [],_,_,_,_,_,h=>h
 | x :: xs, s0, s1, n, R, ht, h => by
   refine⟨rfl,?_⟩;show te (some (.v (u x))::some (.v (v x))::rest) n _;refine ht x E2 n _ ?_;exact EB u v g xs _ _ n _ (fun y hy=>ht y (D0 _ hy)) h
end Pu
end
section
namespace L2
open PySem PySem.W PyProof.Rows
namespace Kr
structure Ord (lt:Nat->Nat->Bool):Prop where
 ir:∀a,lt a a=false
 tr:∀a b c,lt a b=true->lt b c=true->lt a c=true
 nt:∀a b c,lt a c=true->lt a b=true\/lt b c=true
variable {lt:Nat->Nat->Bool}(O:Ord lt)
include O
omit O
def g (p:Array Nat)(i:Nat):Nat:=p.getD i 0
include O
omit O
def En (n:Nat)(p:Array Nat):Prop:=0 < n/\∀x∈p,x < n
theorem En.g (h:En n p)(i:Nat):p.getD i 0 < n:=by
 by_cases c:i < p.size
 · rw [show p.getD i 0=p[i] by simp [Array.getD,c]];exact h.2 _ (Array.getElem_mem c)
 · rw [show p.getD i 0=0 by simp [Array.getD,c]];exact h.1
end Kr
end L2
end
section
namespace L2
open PySem PySem.Spec PyProof.Rows
theorem Iu:E5 "reversed"=some (.type "reversed"):=by decide +kernel
theorem Iv:isSubtype (.type "range_iterator") (.type "reversed")=pure false:=by rw [isSubtype_type];kernel_rfl
end L2
end
section
namespace L2
open PySem PySem.Spec PyProof.Rows
section
variable {prog:C6}{w:World}{A:Around}{E:Value->Shared->Prop}{s:Shared}
theorem Iw {j:Nat}(ht:s.heap.IsTuple t its)(hS:StrsAre its.toList ys)(hj:ys[j]?=some k)(hlt:∀i,i < j->ys[i]?≠some k)(hsm:ys.length<=1000000)
   (h:∀tk,Q (.int j tk) { s with toks:=s.toks + 1 }):wpAny (model prog w) A (call (.builtin "tuple.index") [.ref t,.str k tok]) Q E s:=by
 obtain⟨o,ho,hc,n,hd⟩:=id ht;have hT:s.TypeIs (.ref t) "tuple":=⟨o,ho,hc⟩;refine P4 F.slot_tuple_index hT F.entry_tuple_index ?_ (F.args_tuple_index_2 _ _);unfold Builtin.«tuple.index»;refine A0 (L7 (a:=(K3 t,[Value.str k tok])) rfl ?_);refine A0 (wpAny_tupleItemsOf ho hd ?_);dsimp only;refine A0 (A4 (A0 (A4 ?_)));refine A0 ?_;have hlen:ys.length=its.toList.length:=(StrsAre.length hS).symm
 have at_:∀(i:Nat) (y:Str),ys[i]?=some y->∃u,its[i]?=some (.str y u):=by
   intro i y hy
   have:∀{us:List Value} {zs:List Str},StrsAre us zs->∀(i:Nat),zs[i]?=some y->∃u,us[i]?=some (.str y u):=by
     intro us zs hh
     induction hh with
     | nil=>intro i h;cases h
     | cons x t _ ih =>
       intro i h;cases i with
       | zero=>cases h;exact⟨t,rfl⟩
       | succ i=>exact ih i (by simpa using h)
   obtain⟨u,hu⟩:=this hS i hy;exact⟨u,by rw [<- Bc];exact hu⟩
 have hjl:j < its.size:=by
   have:=(D2.mp hj).1;rw [hlen,b5] at this;exact this
 rw [Std.Legacy.Range.forIn_eq_forIn_range'];refine wpAny_forIn_list _ (fun rest r s'=>r.1=none/\s'=s/\∃i,rest=List.range' i (its.size - i)/\i<=j) _ ?_ ?_ _ _ ⟨rfl,rfl,0,?_,N5 _⟩
 · rintro x rest ⟨r1,r2⟩ s' ⟨hr,rfl,i0,hi,hij⟩;have hil:its.size - i0=(its.size - i0 - 1) + 1:=by omega
   rw [hil,List.range'_succ] at hi;obtain⟨i,hxi⟩:∃i,x=i:=⟨x,rfl⟩;injection hi with h1 h2;subst h2;have hi0:i0=i:=by rw [<- hxi,h1]
   subst hi0;subst hxi;clear h1
   revert hij hil
   generalize x=i;intro hij hil;have hiy:i < ys.length:=by rw [hlen,b5];omega
   obtain⟨u,hu⟩:=at_ i ys[i] (C4 hiy);rw [hu];dsimp only;refine A0 (eqBool_str ?_)
   by_cases c:i=j
   · subst c
     have:ys[i]=k:=by
       have:=C4 hiy;rw [hj] at this;exact(E4 this).symm
     rw [this,beq_self_eq_true,if_pos rfl];refine A0 (A0 (wpAny_mkInt (A4 (A4 ?_))));exact A4 ⟨_,rfl,h _⟩
   · have:ys[i]≠k:=fun e=>hlt i (by omega) (by rw [C4 hiy,e]);rw [beq_eq_false_iff_ne.mpr this,if_neg M3];refine A4 ⟨rfl,rfl,i + 1,?_,by omega⟩;rw [show its.size - (i + 1)=its.size - i - 1 by omega]
 · rintro⟨r1,r2⟩ s' ⟨hr,rfl,i,hi,hij⟩;have hil:its.size - i=(its.size - i - 1) + 1:=by omega
   rw [hil,List.range'_succ] at hi;cases hi
 · simp [Std.Legacy.Range.size]
end
section
variable {X:Cx}
def EC (K:A3):V->List V->Hp->VK->Prop:=fun x vs H Q=>∃(l:Addr) (k:Str) (ys:List Str) (j:Nat),x=.ref l/\vs=[.str k]/\SqT K H l (ys.map V.str)/\ys.length<=1000000/\ys[j]?=some k/\(∀i,i < j->ys[i]?≠some k)/\Q (.int j) H
theorem Ix:MtM X "tuple.index" (EC X.K):=by
 intro pins s σ H x vs v us Q I rx rv h;obtain⟨l,k,ys,j,rfl,rfl,hq,hz0,hj,hlt,q⟩:=h;cases rx;obtain⟨u,rfl,ru⟩:=rv.one;obtain⟨t,rfl⟩:=ru;obtain⟨its,r,p,hz⟩:=I.tuple hq;exact Iw p (Es r) hj hlt hz0 fun tk=>⟨.int j,H,I.tok _,⟨_,rfl⟩,q⟩
end
end L2
end
section
namespace Pu
open PySem PySem.Spec PyProof.Rows L2
section
variable {T:PotK}{ι:Type}{K:A3}{F:ι->Cx}{e c:Expr}{pe pc:pE}{pos:Pos}
def T1:w2:=fun x y R=>match x,y with | .tup xs,.str k=>(match Q0 xs with | some ys=>ys.length<=1000000/\∃j:Nat,ys[j]?=some k/\(∀i,i < j->ys[i]?≠some k)/\R (.int j) | none=>False) | _,_=>False
def T3 (pe pc:pE):pE:=fun env n R=>pe env n fun x env1 n1=>(∃xs,x=.tup xs)/\pc env1 n1 fun y env2 n2=>T1 x y fun z=>R z env2 n2
theorem Z0 (he:QE T K F e pe)(hc:QE T K F c pc)(hs:C9 c=true:=by rfl)(hbase:∀z,attributeBase e "index" (F z).env (eval e (F z).env)=eval e (F z).env:=by intro _;rfl)(hline:(ap.endLine == pos.line)=true:=by rfl)
   (hfew:∀z,((backTo pos (C3 [c] (F z).env)).all (fun x=>!x.1) && (backToKw pos (keywordEach [] (F z).env)).all (fun x=>x.1.isSome) && decide (([c]:List Expr).length + ([]:List Keyword).length + (if([]:List Keyword).isEmpty then 0 else 1) < 30))=true:=by intro _;rfl) (hK:∀z,(F z).K=K:=by intro _;rfl):QE T K F (.Call (.Attribute e "index" ap) [c] [] pos) (T3 pe pc):=by
 obtain⟨t,a1,a2⟩:=he;obtain⟨u,b1,b2⟩:=hc;refine⟨tBM K "tuple" (EC K) t (Q3 u tNil),fun z=>hK z▸Bw PySem.F.plainAttrs_tuple PySem.F.slot_tuple_index PySem.F.type_tuple_index Ix (a1 z) (C7 (b1 z) E3 (B0 hs)) (hbase z) (hfew z) hline (B0 hs),fun C G σ H env n R Q hK hT S hp k=>?_⟩;refine a2 C G σ H env n _ _ hK hT S hp fun x env1 n1 v H1 q1 S1 r1 f1=>?_;obtain⟨⟨xs,rfl⟩,q1⟩:=q1;obtain⟨a,vs,rfl,ta,ra⟩:=r1;refine⟨?_,?_⟩
 · exact .inr (.inl ⟨rfl,.inr ⟨vs,ta.2⟩⟩)
 refine b2 C G σ H1 env1 n1 _ _ hK hT S1 q1 fun y env2 n2 w H2 q2 S2 r2 f2=>?_;unfold T1 at q2
 split at q2
 · rename_i xs' kk e1;cases e1
   split at q2
   · rename_i ys ey;obtain⟨hz,j,hj,hlt,q3⟩:=q2;obtain⟨a',vs',e3,ta',ra'⟩:=(show Rep K G H1 (.tup xs) (.ref a) from⟨a,vs,rfl,ta,ra⟩).fr f2;cases e3;exact⟨a,kk,ys,j,rfl,by rw [show w=.str kk from r2],Ei ey ra'▸SqT.of ta'.2,hz,hj,hlt,k _ _ _ _ _ q3 S2 rfl (f1.trans f2)⟩
   · exact q2.elim
 · exact q2.elim
end
end Pu
end
section
namespace Pu
open PySem PySem.Spec L2
def frzS:Slot->Option Slot
 | .v x=>some (.v x)
 | .ow .lst xs=>some (.v (.lst xs))
 | .ow (.dk ks) xs=>if ks.length=xs.length then some (.v (.dct ks xs)) else none
 | .ow (.dt _) _=>none
 | .ow (.st _) _=>none
def frz (env:Env):Env:=env.map fun o=>o.bind frzS
end Pu
end
section
namespace Pu
open PySem PySem.Spec L2
abbrev pSlN:=Env->Nat->(List Slot->Env->Nat->Prop)->Prop
def Gots (C:Ct)(G:Gh)(H:Hp)(σ:St)(env:Env):List Slot->List V->Prop
 | [],vs=>vs=[]
 | s::ss,vs=>∃v r,vs=v::r/\Got C G H σ env s v/\(∀(xs:OK×List PV) a,s=.ow xs.1 xs.2->v=.ref a->∀(ys:OK×List PV) w,(Slot.ow ys.1 ys.2,w)∈ss.zip r->w≠.ref a)/\Gots C G H σ env ss r
section
variable {T:PotK}{np:Bool}{ι:Type}{K:A3}{F:ι->Cx}{e:Expr}{es:List Expr}{st:Stmt}{s1:pSl}{sl:pSlN}{pos:Pos}
theorem Gots.set (hl:env.length=σ.length):∀{ss:List Slot} {vs:List V},Gots C G H σ env ss vs->(∀(xs:OK×List PV) a,s0=.ow xs.1 xs.2->v0=.ref a->∀(ys:OK×List PV) w,(Slot.ow ys.1 ys.2,w)∈ss.zip vs->w≠.ref a)->Gots C G H (σ.set i (some v0)) (env.set i (some s0)) ss vs
 | [],_,h,_=>h
 | s :: ss, vs, h, no => by
   obtain⟨v,r,rfl,g,ne,h⟩:=h;refine⟨v,r,rfl,⟨g.1,fun xs a e1 e2 z=>?_⟩,ne,Gots.set hl h fun xs a e1 e2 ys w hw=>no xs a e1 e2 ys w (by rw [List.zip_cons_cons];exact D0 _ hw)⟩;rcases Eg hl z with z | ⟨⟨zs,ez⟩,ev⟩
   · exact g.2 xs a e1 e2 z
   · exact no zs a ez ev xs v (by rw [List.zip_cons_cons,e1];exact E2) e2
end
end Pu
end
section
namespace L2
open PySem PySem.Spec PyProof.Rows
abbrev LC2 (elt t1 i1 t2 i2:Expr)(ifs:List Expr)(scope:Scope)(pos:Pos):Expr:=.ListComp elt [⟨t1,i1,[],0⟩,⟨t2,i2,ifs,0⟩] scope pos
theorem Iy (elt t1 i1 t2 i2:Expr)(ifs:List Expr)(scope:Scope)(pos:Pos)(it acc:Value)(env:Env) :
   compTurn (LC2 elt t1 i1 t2 i2 ifs scope pos) 1 it acc env=(do
     standAt i2.pos
     match ← pyNext it with
     | none=>pure (.done .next)
     | some v =>
       W9 t2 it v
       assign t2 env v
       let mut ok:=true
       for c in ifs do
         if ok then ok ← isTrue c env (eval c env)
       if ok then
         (do let _ ← call (.builtin "list.append") [acc,<- eval elt env])
       again (.compLoop (LC2 elt t1 i1 t2 i2 ifs scope pos) 1 it acc env)):=by rfl
section
variable {prog:C6}{w:World}{A:Around}{R:Result->Shared->Prop}{s:Shared}{elt t1 i1 t2 i2:Expr}{ifs:List Expr}{scope:Scope}{pos:Pos}{it acc:Value}{env:Env}
theorem loop_i (I:Nat->Shared->Prop)
   (turn:∀n s,I n s->wpAny (model prog w) A (pyNext it) (fun r s₁=>match r with
     | none=>R (.ok .next) s₁
     | some v=>wpAny (model prog w) A (W9 t2 it v) (fun _ s₁'=>wpAny (model prog w) A (assign t2 env v) (fun _ s₂=>
         wpAny (model prog w) A (forIn ifs true fun c r=>if r=true then do let ok ← isTrue c env (eval c env);pure (b6 ok) else pure (b6 r)) (fun ok s₃=>
           if ok=true then wpAny (model prog w) A (eval elt env) (fun x s₄=>
             wpAny (model prog w) A (call (.builtin "list.append") [acc,x]) (fun _ s₅=>∃m,m < n/\I m s₅) (fun _ _=>False) s₄) (fun _ _=>False) s₃
           else ∃m,m < n/\I m s₃) (fun _ _=>False) s₂) (fun _ _=>False) s₁') (fun _ _=>False) s₁) (fun _ _=>False) s)
   (n:Nat) (h:I n s):J8 (model prog w) A (.compLoop (LC2 elt t1 i1 t2 i2 ifs scope pos) 1 it acc env) R s:=by
 refine codeAny_loop rfl I (fun n s hI=>?_) n h;show wpAny _ A ((compTurn (LC2 elt t1 i1 t2 i2 ifs scope pos) 1 it acc env).onRaise (fun x=>do noteFrame x env;theTreesLotGoes x)) _ _ s;refine wpAny_noted ?_;rw [Iy];refine A0 (Q8 (A0 (E9 (turn n s hI) (fun r s₁ h₁=>?_) fun _ _ h'=>h'.elim)));cases r with
 | none=>exact A4 h₁
 | some v =>
   refine A0 (E9 h₁ (fun _ s₁' h₁'=>?_) fun _ _ h'=>h'.elim);refine A0 (E9 h₁' (fun _ s₂ h₂=>A0 (E9 h₂ (fun ok s₃ h₃=>?_) fun _ _ h'=>h'.elim)) fun _ _ h'=>h'.elim);cases ok with
   | false=>exact A4 ⟨rfl,h₃⟩
   | true =>
     exact A0 (A0 (E9 h₃ (fun x s₄ h₄=>A0 (E9 h₄ (fun _ s₅ h₅=>A4 (A4 ⟨rfl,h₅⟩)) fun _ _ h'=>h'.elim)) fun _ _ h'=>h'.elim))
theorem Iz (h0:J8 (model prog w) A (.compLoop (LC2 elt t1 i1 t2 i2 ifs scope pos) 1 it acc env) R s)
   (h:wpAny (model prog w) A (pyIter it) (fun it' s'=>J8 (model prog w) A (.compLoop (LC2 elt t1 i1 t2 i2 ifs scope pos) 1 it' acc env) R s') (fun _ _=>False) s) :
   J8 (model prog w) A (.compStart (LC2 elt t1 i1 t2 i2 ifs scope pos) 1 it acc env) R s:=by
 refine codeAny_of_tree ?_;show wpAny _ _ ((compStart (LC2 elt t1 i1 t2 i2 ifs scope pos) 1 it acc env).onRaise (fun x=>do noteFrame x env;standAt theWindowsPlace)) _ _ s;refine wpAny_notedAt ?_;unfold compStart;show wpAny _ _ (ask>>=_) _ _ s;refine A0 (wpAny_askSetting (wpAny_ite ?_))
 split
 · first
     | exact A0 (A4 (A4 (And.intro rfl h0)))
     | exact A4 (And.intro rfl h0)
 · first
     | exact A0 (Q9 (A0 (Q8 (A0 (E9 h (fun it' s' h'=>A4 (And.intro rfl h')) fun _ _ x=>x.elim)))))
     | (refine A0 (Q9 ?_);show wpAny _ _ (standAt i2.pos>>=_) _ _ s;exact A0 (Q8 (A0 (E9 h (fun it' s' h'=>A4 (And.intro rfl h')) fun _ _ x=>x.elim))))
theorem loop_o (hs:∀x,L6 i2 env x=pure x)(I:Nat->Shared->Prop)
   (turn:∀n s,I n s->wpAny (model prog w) A (pyNext it) (fun r s₁=>match r with
     | none=>R (.ok .next) s₁
     | some v=>wpAny (model prog w) A (W9 t1 it v) (fun _ s₁'=>wpAny (model prog w) A (assign t1 env v) (fun _ s₂=>
         wpAny (model prog w) A (eval i2 env) (fun x s₃=>wpAny (model prog w) A (pyIter x) (fun it2 s₄=>
           J8 (model prog w) A (.compStart (LC2 elt t1 i1 t2 i2 ifs scope pos) 1 it2 acc env) (fun r s'=>r=.ok .next/\∃m,m < n/\I m s') s₄) (fun _ _=>False) s₃) (fun _ _=>False) s₂) (fun _ _=>False) s₁') (fun _ _=>False) s₁) (fun _ _=>False) s)
   (n:Nat) (h:I n s):J8 (model prog w) A (.compLoop (LC2 elt t1 i1 t2 i2 ifs scope pos) 0 it acc env) R s:=by
 refine codeAny_loop rfl I (fun n s hI=>?_) n h;show wpAny _ A ((compTurn (LC2 elt t1 i1 t2 i2 ifs scope pos) 0 it acc env).onRaise (fun x=>do noteFrame x env;theTreesLotGoes x)) _ _ s;refine wpAny_noted ?_;unfold compTurn;show wpAny _ _ (standAt i1.pos>>=_) _ _ s;refine A0 (Q8 ?_);refine A0 (E9 (turn n s hI) (fun r s₁ h₁=>?_) fun _ _ h'=>h'.elim);cases r with
 | none=>exact A4 h₁
 | some v =>
   refine A0 (E9 h₁ (fun _ s₁' h₁'=>?_) fun _ _ h'=>h'.elim);refine A0 (E9 h₁' (fun _ s₂ h₂=>A0 (wpAny_tests_nil ?_)) fun _ _ h'=>h'.elim);refine A0 (E9 h₂ (fun x s₃ h₃=>?_) fun _ _ h'=>h'.elim);refine A0 (Q8 ?_);show wpAny _ _ (L6 i2 env x>>=fun x=>(holding [x] (pyIter x)>>=fun it2=>(runOwn (.compStart (LC2 elt t1 i1 t2 i2 ifs scope pos) 1 it2 acc env) env>>=fun _=>again (.compLoop (LC2 elt t1 i1 t2 i2 ifs scope pos) 0 it acc env)))) _ _ _;refine A0 (L7 (hs x) (A0 (T7 (E9 h₃ (fun it2 s₄ h₄=>?_) fun _ _ h'=>h'.elim))));refine A0 (wpAny_runOwn ?_);rw [Around.mark_none];refine codeAny_mono h₄ fun r s' hr=>?_;obtain⟨rfl,hr⟩:=hr;exact A4 ⟨rfl,hr⟩
end
def CompIn (J:It)(g:TG)(tt:TT)(te:TE)(D:Addr)(N:St->Hp->Prop)(σ:St)(H:Hp):Prop:=∃W:Nat->Nat->St->Hp->Prop,(∃m,W 0 m σ H)/\
 ∀i m σ' H',W i m σ' H'->(J.stop i H'/\N σ' H')\/(J.go i H'/\∀x H2,J.yld i H' x H2->g x σ' H2 fun σ3 H3=>tt σ3 H3 fun b H4=>
    if b=true then te σ3 H4 fun v H5=>∃ys,H5 D=some (.lst ys)/\ys.length < B4/\∃m',m' < m/\W (i + 1) m' σ3 (upd H5 D (.lst (ys++[v])))
    else ∃m',m' < m/\W (i + 1) m' σ3 H4)
def ED (J:It)(g1:TG)(wi2:TI)(g2:TG)(tt:TT)(te:TE)(Q:VK)(D:Addr)(σc:St)(H1:Hp):Prop:=∃W:Nat->Nat->St->Hp->Prop,(∃m,W 0 m σc H1)/\
 ∀i m σ' H',W i m σ' H'->(J.stop i H'/\Q (.ref D) H')\/(J.go i H'/\∀x H2,J.yld i H' x H2->g1 x σ' H2 fun σ3 H3=>wi2 σ3 H3 fun J2 H4=>CompIn J2 g2 tt te D (fun σ5 H5=>∃m',m' < m/\W (i + 1) m' σ5 H5) σ3 H4)
def tComp2 (cs:List (Option Nat))(wi:TI)(g1:TG)(wi2:TI)(g2:TG)(tt:TT)(te:TE):TE:=fun σ H Q=>wi σ H fun J H1=>∀D,H1 D=none->ED J g1 wi2 g2 tt te Q D (Y3 cs σ) (upd H1 D (.lst []))
theorem IA {X:Cx}{scope:Scope}{cl:List (Str×Addr)}{N:List Str}{cs:List (Option Nat)}{elt t1 i1 t2 i2:Expr}{ifs:List Expr}{pos:Pos}{wi1 wi2:TI}{g1 g2:TG}{tt:TT}{te:TE}(S:V2 X scope cl N cs)(hc:X.calm=true)(hi:PI X t1 i1 wi1)
   (hb:∀(fp:List Addr) (C:Addr) (s:Shared) (H:Hp),PG (B3 X scope cl N fp C s H) t1 g1/\PI (B3 X scope cl N fp C s H) t2 i2 wi2/\PG (B3 X scope cl N fp C s H) t2 g2/\PIf (B3 X scope cl N fp C s H) ifs tt/\PE (B3 X scope cl N fp C s H) elt te)
   (hs2:∀fp C s H x,L6 i2 (B3 X scope cl N fp C s H).env x=pure x)
   (hs:∀x,L6 i1 X.env x=pure x:=by intro _;rfl) :
   PE X (LC2 elt t1 i1 t2 i2 ifs scope pos) (tComp2 cs wi1 g1 wi2 g2 tt te):=by
 intro pins s σ H Q I h;rw [eval_ListComp];refine v5 (use:=none) rfl hs S.clos S.kind S.names (thn (hi pins s σ H _ I h) fun v s1 h1=>thn h1 fun itv s2 h2=>?_);obtain⟨it,fp,tn,J,H2,rfl,I2,T,st2,f2,q⟩:=h2
 have ho:∀b∈fp,∃o,s2.heap.get? b=some o:=fun b hb=>by
   obtain⟨o,e,_⟩:=T.obj 0 _ st2 b hb;exact⟨o,e⟩
 refine J6 (wpAny_newFunctionEnv S.nocell (by intro y hy;simp at hy) (fun h₁ hns₁ hsb₁=>?_) S.kind);dsimp only at hns₁ hsb₁ ⊢;have hC:(s2.heap.push { cls:=.type "list",dict:=none,data:=.seq ([]:List Value).toArray }).objs.size=s2.heap.objs.size + 1:=by rw [N2]
 generalize hH2:s2.heap.push { cls:=.type "list",dict:=none,data:=.seq ([]:List Value).toArray }=hp2 at hns₁ hsb₁ hC ⊢;have old:∀b o,s2.heap.get? b=some o->h₁.get? b=some o:=fun b o e=>hsb₁.extBut b o (by rw [hC];exact C5 (M6 (B1 e))) (B5 _ (hH2▸B5 _ e));have hD:h₁.get? s2.heap.objs.size=some { cls:=.type "list",data:=.seq ([]:List Value).toArray }:=hsb₁.extBut _ _ (by rw [hC];exact C5 (Nat.lt_succ_self _)) (B5 _ (hH2▸D8 _ rfl));rw [hC] at hns₁ ⊢;obtain⟨W,⟨m0,w0⟩,turn⟩:=q s2.heap.objs.size I2.fresh;have Ic:=Bz S (tk:=s2.toks + ([]:List (Str×Value)).length) I2 f2 ho old hns₁ hD;have nstk:∀b,b≠X.env.locals->b∉X.fs->b∉frs X.stack:=fun b h1 h2 hb=>(B9.mp (I2.stkSub b hb)).elim h1 h2
 have stat:∀{H':Hp},(∀b∈fp,H' b=none)->∀b∈fp,FpOk (B3 X scope cl N fp (s2.heap.objs.size + 1) s2 H2) pins H' b:=fun hn b hb=>by
   obtain⟨o,e⟩:=ho b hb;exact⟨hn b hb,C5 (M6 (B1 e)),nstk b (f2 b hb).2.1 (f2 b hb).2.2.1,.inl hb,fun x c ec=>(f2 b hb).2.2.2.2.1 x c (S.sub x c ec),(f2 b hb).2.2.2.2.2⟩
 obtain⟨hg,hi2,hg2,hf,he⟩:=hb fp (s2.heap.objs.size + 1) s2 H2;have st1:tn 0 h₁:=T.keep _ _ _ st2 fun b hb o e=>old b o e
 have fr1:∀b∈fp,upd H2 s2.heap.objs.size (.lst []) b=none:=fun b hb=>by
   obtain⟨o,e⟩:=ho b hb;rw [A9 (C5 (B1 e))];exact(f2 b hb).1
 have loop:∀s₃:Shared,s₃={ s2 with heap:=h₁,toks:=s2.toks + ([]:List (Str×Value)).length }->
     J8 (model X.prog X.w) X.A (.compLoop (LC2 elt t1 i1 t2 i2 ifs scope pos) 0 (.ref it) (.ref s2.heap.objs.size) (compEnvC scope cl (s2.heap.objs.size + 1) X.env))
       (compPost (model X.prog X.w) X.A X.xe none (EP X pins σ Q) (.ref s2.heap.objs.size) (s2.heap.objs.size + 1)) s₃:=by
   rintro s₃ rfl;refine loop_o (hs2 fp (s2.heap.objs.size + 1) s2 H2) (fun n s'=>∃i σ' H',Inv (B3 X scope cl N fp (s2.heap.objs.size + 1) s2 H2) pins σ' H' s'/\tn i s'.heap/\(∀b∈fp,H' b=none)/\W i n σ' H') ?_ m0 ⟨0,_,_,Ic,st1,fr1,w0⟩;rintro n s3 ⟨i,σ3,H3,I3,st3,fr3,w3⟩;rcases turn i n σ3 H3 w3 with⟨stop,qn⟩ | ⟨go,step⟩
   · refine thn (T.done (B3 X scope cl N fp (s2.heap.objs.size + 1) s2 H2) rfl rfl rfl hc i pins s3 σ3 H3 (fun _ _=>False) I3 (stat fr3) st3 stop) fun r s4 ⟨hr,I4⟩=>?_;subst hr;obtain⟨m4,hn4,_⟩:=I4.loc;exact⟨m4,hn4,fun h' hs'=>⟨.ref s2.heap.objs.size,H3,Inv.uncomp I2 f2 I4 fun b hb=>hs'.2 b hb,rfl,qn⟩⟩
   · refine thn (T.item (B3 X scope cl N fp (s2.heap.objs.size + 1) s2 H2) rfl rfl rfl hc i pins s3 σ3 H3 (fun _ _=>False) I3 (stat fr3) st3 go) fun r s4 ⟨u,hr,h4⟩=>?_;subst hr;refine thn h4 fun _ s5 ⟨x,H5,I5,r5,y5,st5,fr5⟩=>?_;have I5':=I5.pinned (stat fr5) (T.obj _ _ st5);refine thn (hg _ s5 σ3 H5 x u _ I5' r5 (step x H5 y5)) fun _ s6 ⟨σ6,H6,I6,q6⟩=>?_
     have again:∀{σ7:St} {H7:Hp} {s7:Shared},Inv (B3 X scope cl N fp (s2.heap.objs.size + 1) s2 H2) (pins++L3 fp s5.heap) σ7 H7 s7->(∃m',m' < n/\W (i + 1) m' σ7 H7)->
         ∃m,m < n/\∃i σ' H',Inv (B3 X scope cl N fp (s2.heap.objs.size + 1) s2 H2) pins σ' H' s7/\tn i s7.heap/\(∀b∈fp,H' b=none)/\W i m σ' H':=fun {σ7 H7 s7} I7 n7=>by
       obtain⟨m',hm,w7⟩:=n7;refine⟨m',hm,i + 1,σ7,H7,I7.unpinned,T.keep _ _ _ st5 fun b hb o e=>(I7.pin (b,o) (E1 _ (E1 _ (N6 hb e)))).1,fun b hb=>?_,w7⟩;obtain⟨o,e,d⟩:=T.obj _ _ st5 b hb;exact(I7.pin (b,o) (E1 _ (E1 _ (N6 hb e)))).2.1
     refine thn (hi2 _ s6 σ6 H6 _ I6 q6) fun v7 s7 h7=>thn h7 fun itv s8 h8=>?_;obtain⟨it2,fp2,tn2,J2,H8,rfl,I8,T2,st8,f8,W2,⟨m2,w2⟩,turn2⟩:=h8;have stat2:∀{H':Hp},(∀b∈fp2,H' b=none)->∀b∈fp2,FpOk (B3 X scope cl N fp (s2.heap.objs.size + 1) s2 H2) (pins++L3 fp s5.heap) H' b:=fun hn b hb=>⟨hn b hb,(f8 b hb).2⟩
     have inner:J8 (model X.prog X.w) X.A (.compLoop (LC2 elt t1 i1 t2 i2 ifs scope pos) 1 (.ref it2) (.ref s2.heap.objs.size) (compEnvC scope cl (s2.heap.objs.size + 1) X.env)) (fun r s'=>r=.ok .next/\∃m,m < n/\∃i σ' H',Inv (B3 X scope cl N fp (s2.heap.objs.size + 1) s2 H2) pins σ' H' s'/\tn i s'.heap/\(∀b∈fp,H' b=none)/\W i m σ' H') s8:=by
       refine loop_i (fun n2 s'=>∃i σ' H',Inv (B3 X scope cl N fp (s2.heap.objs.size + 1) s2 H2) (pins++L3 fp s5.heap) σ' H' s'/\tn2 i s'.heap/\(∀b∈fp2,H' b=none)/\W2 i n2 σ' H') ?_ m2 ⟨0,σ6,H8,I8,st8,fun b hb=>(f8 b hb).1,w2⟩;rintro n2 s9 ⟨i9,σ9,H9,I9,st9,fr9,w9⟩;rcases turn2 i9 n2 σ9 H9 w9 with⟨stop2,qn2⟩ | ⟨go2,step2⟩
       · refine thn (T2.done (B3 X scope cl N fp (s2.heap.objs.size + 1) s2 H2) rfl rfl rfl hc i9 (pins++L3 fp s5.heap) s9 σ9 H9 (fun _ _=>False) I9 (stat2 fr9) st9 stop2) fun r s10 ⟨hr,I10⟩=>?_;subst hr;exact⟨rfl,again I10 qn2⟩
       · refine thn (T2.item (B3 X scope cl N fp (s2.heap.objs.size + 1) s2 H2) rfl rfl rfl hc i9 (pins++L3 fp s5.heap) s9 σ9 H9 (fun _ _=>False) I9 (stat2 fr9) st9 go2) fun r s10 ⟨u2,hr,h10⟩=>?_;subst hr;refine thn h10 fun _ s11 ⟨x2,H11,I11,r11,y11,st11,fr11⟩=>?_;have I11':=I11.pinned (stat2 fr11) (T2.obj _ _ st11);refine thn (hg2 _ s11 σ9 H11 x2 u2 _ I11' r11 (step2 x2 H11 y11)) fun _ s12 ⟨σ12,H12,I12,q12⟩=>?_
         have again2:∀{σ7:St} {H7:Hp} {s7:Shared},Inv (B3 X scope cl N fp (s2.heap.objs.size + 1) s2 H2) ((pins++L3 fp s5.heap)++L3 fp2 s11.heap) σ7 H7 s7->(∃m',m' < n2/\W2 (i9 + 1) m' σ7 H7)->
             ∃m,m < n2/\∃i σ' H',Inv (B3 X scope cl N fp (s2.heap.objs.size + 1) s2 H2) (pins++L3 fp s5.heap) σ' H' s7/\tn2 i s7.heap/\(∀b∈fp2,H' b=none)/\W2 i m σ' H':=fun {σ7 H7 s7} I7 n7=>by
           obtain⟨m',hm,w7⟩:=n7;refine⟨m',hm,i9 + 1,σ7,H7,I7.unpinned,T2.keep _ _ _ st11 fun b hb o e=>(I7.pin (b,o) (E1 _ (E1 _ (N6 hb e)))).1,fun b hb=>?_,w7⟩;obtain⟨o,e,d⟩:=T2.obj _ _ st11 b hb;exact(I7.pin (b,o) (E1 _ (E1 _ (N6 hb e)))).2.1
         refine thn (hf _ s12 σ12 H12 _ I12 q12) fun ok s13 ⟨H13,I13,q13⟩=>?_;cases ok with
         | false=>exact again2 I13 q13
         | true =>
           refine thn (he _ s13 σ12 H13 _ I13 q13) fun y s14 ⟨v14,H14,I14,r14,ys,e14,z14,n14⟩=>?_
           have ma:=l7 (X:=(B3 X scope cl N fp (s2.heap.objs.size + 1) s2 H2)) _ s14 σ12 H14 (.ref s2.heap.objs.size) [v14] (.ref s2.heap.objs.size) [y]
             (fun v H9=>∃m',m' < n2/\W2 (i9 + 1) m' σ12 H9) I14 rfl (.cons r14 .nil) ⟨_,ys,v14,rfl,rfl,e14,z14,n14⟩
           exact thn ma fun _ s15 ⟨v15,H15,I15,_,q15⟩=>again2 I15 q15
     exact Iz inner (T2.self _ 0 _ _ _ st8 inner)
 exact w5 (loop _ rfl) (T.self _ 0 _ _ _ st1 (loop _ rfl))
end L2
end
section
namespace Pu
open PySem PySem.Spec L2
def W5 (g:pG)(tt:pT)(te:pE):List PV->Env->Nat->(List PV->Env->Nat->Prop)->Prop
 | [],env,n,R=>R [] env n
 | x::xs,env,n,R=>g x env fun env1=>tt env1 n fun b env2 n2=>if b=true then te env2 n2 fun y env3 n3=>W5 g tt te xs env3 n3 fun ys e m=>R (y::ys) e m else W5 g tt te xs env2 n2 R
def Z1 (g1:pG)(pi2:pA)(g2:pG)(tt:pT)(te:pE):List PV->Env->Nat->(List PV->Nat->Prop)->Prop
 | [],_,n,R=>R [] n
 | x::xs,env,n,R=>g1 x env fun env1=>pi2 env1 n fun ys env2 n2=>ys.length<=1000/\W5 g2 tt te ys env2 n2 fun zs env3 n3=>Z1 g1 pi2 g2 tt te xs env3 n3 fun ws n4=>R (zs++ws) n4
def Cc (cs:List (Option Nat))(pi1:pA)(g1:pG)(pi2:pA)(g2:pG)(tt:pT)(te:pE):pA:=fun env n R=>pi1 env n fun xs env1 n1=>xs.length<=1000/\Z1 g1 pi2 g2 tt te xs (capV cs env1) n1 fun ys n2=>R ys env1 n2
theorem IB {K:A3}{T:PotK}{J:It}{g1 g2:TG}{wi2:TI}{tt:TT}{te:TE}{pg1 pg2:pG}{pi2:pA}{ptt:pT}{pte:pE}(hg1:GOk K g1 pg1)(hi2:IOk K T wi2 pi2)(hg2:GOk K g2 pg2)(ht:TOk K T tt ptt)(he:EOk K T te pte){G:Gh}{H1:Hp}{xs:List PV}(hJ:ItR K G H1 J xs)(hl:xs.length<=1000)
   {σc:St} {env:Env} {n:Nat} {R:List PV->Nat->Prop} {Q:VK} {D:Addr} (hD:H1 D=none) (I0:Inn K T G σc H1 env n) (hp:Z1 pg1 pi2 pg2 ptt pte xs env n R)
   (hQ:∀ys n' us H',R ys n'->(∀p∈G.pots,T.at_ (D::G.M) H' p n')->(∀b o,b∉G.pots->H1 b=some o->H' b=some o)->H' D=some (.lst us)->Reps K ⟨D::G.M,G.pots⟩ H' ys us->Q (.ref D) H') :
   ED J g1 wi2 g2 tt te Q D σc (upd H1 D (.lst [])):=by
 have hDM:D∉G.M:=fun z=>by
   obtain⟨o,e,_⟩:=I0.mu D z;rw [hD] at e;cases e
 have nD:D∉G.pots:=fun z=>hDM (I0.pots D z).1
 let GD:Gh:=⟨D::G.M,G.pots⟩
 have pM:∀b,b∉GD.M->b∉G.pots:=fun b hb z=>hb (D0 _ (I0.pots b z).1);refine⟨fun i m σ H=>m=xs.length - i/\i<=xs.length/\∃env n acc us,Inn K T GD σ H env n/\(∀b o,b∉G.pots->H1 b=some o->H b=some o)/\H D=some (.lst us)/\Reps K GD H acc us/\acc.length<=1000 * i/\Z1 pg1 pi2 pg2 ptt pte (xs.drop i) env n fun ys n'=>R (acc++ys) n',?_,?_⟩
 · refine⟨xs.length,by simp,N5 _,env,n,[],[],⟨fun p hp=>⟨D0 _ (I0.pots p hp).1,?_⟩,I0.has,fun a ha=>?_,fun i s e=>?_,I0.len⟩,fun b o _ e=>?_,D5,rfl,A8 _,by simpa using hp⟩
   · have h1:=T.more (M':=D::G.M) (I0.pots p hp).2 (fun a ha=>(B9.mp ha).elim (fun z=>.inr (z▸hD)) .inl);refine T.keep h1 ?_ fun b o hb e=>Same.lay1 hD b o e;obtain⟨o,e,_⟩:=T.mu h1;rw [e,Same.lay1 hD p o e]
   · rcases B9.mp ha with rfl | ha
     · exact⟨_,D5,trivial⟩
     · obtain⟨o,e,m⟩:=I0.mu a ha;exact⟨o,Same.lay1 hD a o e,m⟩
   · obtain⟨x,v,rfl,ev,r⟩:=I0.slots i s e;exact⟨x,v,rfl,ev,Rep.mono (G':=GD) (H':=upd H1 D (.lst [])) (fun b o _ e=>Same.lay1 hD b o e) (fun a ha=>(B9.mp (show a∈D::G.M from ha)).elim (fun z=>.inr (z▸hD)) .inl) (fun _ _ e=>e) _ _ r⟩
   · exact Same.lay1 hD b o e
 · rintro i m σ H ⟨rfl,hi,env,n,acc,us,I,kp,eD,ra,la,hc⟩
   have hf:∀p,H p=none->p∉GD.M:=fun p hp z=>by
     obtain⟨o,e,_⟩:=I.mu p z;rw [hp] at e;cases e
   have hk:∀b o,b∉G.M->H1 b=some o->H b=some o:=fun b o hb e=>kp b o (fun z=>hb (I0.pots b z).1) e;obtain⟨hgo,hstop⟩:=hJ GD H hk (fun a ha=>(B9.mp (show a∈D::G.M from ha)).elim (fun z=>.inr (z▸hD)) .inl) (fun _ _ e=>e) hf
   by_cases hlt:i < xs.length
   · have ex:xs[i]?=some xs[i]:=C4 hlt;obtain⟨gg1,gg2⟩:=hgo i _ ex;refine .inr ⟨gg1,fun v H2 y=>?_⟩;obtain⟨s2,rv⟩:=gg2 v H2 y;rw [X1 hlt] at hc;have S0:=I.sr;have S1:SR ⟨K,T,GD.M,GD.pots,H,false⟩ GD σ H2 env n:=S0.same s2;refine hg1 _ GD σ H2 env n xs[i] v _ _ rfl S1 rv hc fun env1 σ1 hc1 S2=>?_;refine hi2 _ GD σ1 H2 env1 n _ _ rfl rfl S2 hc1 fun ys env2 n2 J2 H4 q4 S4 f4 hJ2=>?_;have I4:=S4.inn;have k4:∀b o,b∉G.pots->H1 b=some o->H4 b=some o:=fun b o hb e=>S4.frame b o hb (kp b o hb e);have d4:H4 D=some (.lst us):=S4.frame D _ nD eD;have ra4:Reps K GD H4 acc us:=Reps.mono (fun b o hb e=>S4.frame b o (pM b hb) e) (fun a ha=>.inl ha) (fun _ _ e=>e) _ _ ra;refine⟨fun j m σ H'=>m=ys.length - j/\j<=ys.length/\∃env n acc2 us2,Inn K T GD σ H' env n/\(∀b o,b∉G.pots->H1 b=some o->H' b=some o)/\(∀b o,b∉GD.M->H4 b=some o->H' b=some o)/\H' D=some (.lst us2)/\Reps K GD H' acc2 us2/\acc2.length<=1000 * i + j/\W5 pg2 ptt pte (ys.drop j) env n fun zs env3 n3=>Z1 pg1 pi2 pg2 ptt pte (xs.drop (i + 1)) env3 n3 fun ws n4=>R (acc2++(zs++ws)) n4,⟨ys.length,by simp,N5 _,env2,n2,acc,us,I4,k4,fun _ _ _ e=>e,d4,ra4,la,q4.2⟩,?_⟩;rintro j m σ5 H5 ⟨rfl,hj,env5,n5,acc5,us5,I5,kp5,kq5,eD5,ra5,la5,hc5⟩
     have hf5:∀p,H5 p=none->p∉GD.M:=fun p hp z=>by
       obtain⟨o,e,_⟩:=I5.mu p z;rw [hp] at e;cases e
     obtain⟨hgo5,hstop5⟩:=hJ2 GD H5 kq5 (fun a ha=>.inl ha) (fun _ _ e=>e) hf5
     by_cases hlt5:j < ys.length
     · have ex5:ys[j]?=some ys[j]:=C4 hlt5;obtain⟨u1,u2⟩:=hgo5 j _ ex5;refine .inr ⟨u1,fun v6 H6 y6=>?_⟩;obtain⟨s6,rv6⟩:=u2 v6 H6 y6;rw [X1 hlt5] at hc5;have S6:SR ⟨K,T,GD.M,GD.pots,H5,false⟩ GD σ5 H6 env5 n5:=I5.sr.same s6;refine hg2 _ GD σ5 H6 env5 n5 ys[j] v6 _ _ rfl S6 rv6 hc5 fun env7 σ7 hc7 S7=>?_;refine ht _ GD σ7 H6 env7 n5 _ _ rfl rfl S7 hc7 fun b env8 n8 H8 hc8 S8 f8=>?_
       have pt:∀{H9:Hp} {env9:Env} {n9:Nat},SR ⟨K,T,GD.M,GD.pots,H5,false⟩ GD σ7 H9 env9 n9->(∀b o,b∉G.pots->H1 b=some o->H9 b=some o)/\(∀b o,b∉GD.M->H4 b=some o->H9 b=some o)/\H9 D=some (.lst us5):=fun S9=>
         ⟨fun b o hb e=>S9.frame b o hb (kp5 b o hb e),fun b o hb e=>S9.frame b o (pM b hb) (kq5 b o hb e),S9.frame D _ nD eD5⟩
       cases b with
       | false =>
         obtain⟨k1,k2,k3⟩:=pt S8;refine⟨ys.length - (j + 1),by omega,rfl,hlt5,env8,n8,acc5,us5,S8.inn,k1,k2,k3,?_,by omega,hc8⟩;exact Reps.mono (fun b o hb e=>S8.frame b o (pM b hb) e) (fun a ha=>.inl ha) (fun _ _ e=>e) _ _ ra5
       | true =>
         refine he _ GD σ7 H8 env8 n8 _ _ rfl rfl S8 hc8 fun y env9 n9 u H9 hc9 S9 r9 f9=>?_;obtain⟨k1,k2,k3⟩:=pt S9;have ra9:Reps K GD H9 acc5 us5:=Reps.mono (fun b o hb e=>S9.frame b o (pM b hb) e) (fun a ha=>.inl ha) (fun _ _ e=>e) _ _ ra5
         have fD:∀(o:HO),Fr GD H9 (upd H9 D o):=fun o b u hb e=>by
           rw [A9 (fun z=>hb (by rw [z];exact E2))];exact e
         have I9:=S9.inn;refine⟨us5,k3,?_,ys.length - (j + 1),by omega,rfl,hlt5,env9,n9,acc5++[y],us5++[u],⟨fun p hp=>⟨(I9.pots p hp).1,?_⟩,I9.has,fun a ha=>?_,fun q s e=>?_,I9.len⟩,fun b o hb e=>?_,fun b o hb e=>fD _ b o hb (k2 b o hb e),D5,(ra9.append (.one r9)).fr (fD _),by rw [K8,x5];omega,?_⟩
         · have:=ra5.length;rw [<- this];exact mil' (by omega)
         · have np:p≠D:=fun z=>hDM (by rw [<- z];exact(I0.pots p hp).1);exact T.keep (I9.pots p hp).2 (A9 np) fun b o hb e=>fD _ b o hb e
         · by_cases haD:a=D
           · subst haD;exact⟨_,D5,trivial⟩
           · obtain⟨o,e,m⟩:=I9.mu a ha;exact⟨o,by rw [A9 haD];exact e,m⟩
         · obtain⟨x,v,rfl,ev,r⟩:=I9.slots q s e;exact⟨x,v,rfl,ev,r.fr (fD _)⟩
         · have nb:b≠D:=fun z=>by rw [z,hD] at e;cases e
           rw [A9 nb];exact k1 b o hb e
         · simpa [j8] using hc9
     · have ej:j=ys.length:=by omega
       subst ej;refine .inl ⟨hstop5 _ (A8 _),xs.length - (i + 1),by omega,rfl,hlt,env5,n5,acc5,us5,I5,kp5,eD5,ra5,by have:=q4.1;omega,?_⟩;rw [Z6] at hc5;exact hc5
   · have ei:i=xs.length:=by omega
     subst ei;refine .inl ⟨hstop _ (A8 _),?_⟩;rw [Z6] at hc;exact hQ _ n us H (by simpa [Z1] using hc) (fun p hp=>(I.pots p hp).2) kp eD ra
section
variable {T:PotK}{ι:Type}{K:A3}{F:ι->Cx}{pg1 pg2:pG}{pos:Pos}
theorem IC {scope:Scope}{cl:ι->List (Str×Addr)}{N:List Str}{cs:List (Option Nat)}{elt t1 i1 t2 i2:Expr}{ifs:List Expr}{pi1 pi2:pA}{ptt:pT}{pte:pE}(S:∀z,V2 (F z) scope (cl z) N cs)(hc:∀z,(F z).calm=true)(hi:QI T K F t1 i1 pi1)
   (hg:QG K (fun y:ι×List Addr×Addr×Shared×Hp=>B3 (F y.1) scope (cl y.1) N y.2.1 y.2.2.1 y.2.2.2.1 y.2.2.2.2) t1 pg1)
   (hi2:QI T K (fun y:ι×List Addr×Addr×Shared×Hp=>B3 (F y.1) scope (cl y.1) N y.2.1 y.2.2.1 y.2.2.2.1 y.2.2.2.2) t2 i2 pi2)
   (hg2:QG K (fun y:ι×List Addr×Addr×Shared×Hp=>B3 (F y.1) scope (cl y.1) N y.2.1 y.2.2.1 y.2.2.2.1 y.2.2.2.2) t2 pg2)
   (ht:QIf T K (fun y:ι×List Addr×Addr×Shared×Hp=>B3 (F y.1) scope (cl y.1) N y.2.1 y.2.2.1 y.2.2.2.1 y.2.2.2.2) ifs ptt)
   (he:QE T K (fun y:ι×List Addr×Addr×Shared×Hp=>B3 (F y.1) scope (cl y.1) N y.2.1 y.2.2.1 y.2.2.2.1 y.2.2.2.2) elt pte)
   (hs:∀z x,L6 i1 (F z).env x=pure x:=by intro _ _;rfl) (hs2:∀z fp C s H x,L6 i2 (B3 (F z) scope (cl z) N fp C s H).env x=pure x:=by intro _ _ _ _ _ _;rfl):QN T K F (LC2 elt t1 i1 t2 i2 ifs scope pos) (Cc cs pi1 pg1 pi2 pg2 ptt pte):=by
 obtain⟨wi,i1',i2'⟩:=hi;obtain⟨g,hg0,hg⟩:=hg;obtain⟨wj,j1,j2⟩:=hi2;obtain⟨g2,hg20,hg2⟩:=hg2;obtain⟨tt,ht0,ht⟩:=ht;obtain⟨te,he0,he⟩:=he;refine⟨_,fun z=>IA (S z) (hc z) (i1' z) (fun fp C s H=>⟨hg0 (z,fp,C,s,H),j1 (z,fp,C,s,H),hg20 (z,fp,C,s,H),ht0 (z,fp,C,s,H),he0 (z,fp,C,s,H)⟩) (hs2 z) (hs z),fun C G σ H env n R Q hK hT S hp k=>?_⟩;refine i2' C G σ H env n _ _ hK hT S hp fun xs env1 n1 J H1 p1 S1 f1 hJ=>?_;intro D hD;have hDM:=S1.fresh hD;refine IB (G:=G) hg j2 hg2 ht he hJ p1.1 hD (hT▸hK▸Ar S1 cs) p1.2 fun ys n2 us H' rr hpots hk eD ry=>?_;have nD:∀b o,H1 b=some o->b≠D:=fun b o e z=>by rw [z,hD] at e;cases e
 have hk2:∀b o,b∉G.pots->H1 b=some o->cutH H' D b=some o:=fun b o hb e=>by rw [J5 (nD b o e)];exact hk b o hb e
 have nc:∀b,b∉D::G.M->b≠D:=fun b hb z=>hb (by rw [z];exact E2);have np:∀p∈G.pots,p≠D:=fun p hp z=>hDM (z▸(S1.pots p hp).1)
 have Sb:SR C G σ (cutH H' D) env1 n2:=S1.call hk2 fun p hp=>by
   subst hT;have h2:=C.T.keep (hpots p hp) (H':=cutH H' D) (J5 (np p hp)) fun b o hb e=>by rw [J5 (nc b hb)];exact e
   exact C.T.more h2 fun a ha=>.inl (D0 _ ha)
 have:=k ys env1 n2 D us (cutH H' D) rr Sb (f1.trans fun b o hb e=>hk2 b o (fun z=>hb (S1.pots b z).1) e) (by unfold cutH;rw [if_pos rfl]) ?_
 · rw [As eD] at this;exact this
 · exact Reps.mono (G:=⟨D::G.M,G.pots⟩) (fun b o hb e=>by rw [J5 (nc b hb)];exact e) (fun a ha=>.inl (D0 _ ha)) (fun _ _ e=>e) _ _ ry
end
end Pu
end
section
namespace L2
open PySem PySem.Spec PyProof.Rows
def insL {α:Type}(xs:List α)(k:Nat)(y:α):List α:=xs.take k++y::xs.drop k
theorem Cd {α:Type}(xs:List α)(k:Nat)(y:α):(insL xs k y).length=xs.length + 1:=by
 unfold insL;rw [K8,P6,X3,P5];omega
section
variable {X:Cx}
def EE:V->List V->Hp->VK->Prop:=fun x vs H Q=>∃l xs i y,x=.ref l/\vs=[.int i,y]/\H l=some (.lst xs)/\0<=i/\i<=1000000/\xs.length < B4/\Q .non (upd H l (.lst (insL xs i.toNat y)))
theorem ID {u:Value}(h0:0<=i):(have k:=if i < 0 then(i + ((its.toArray.size:Nat):Int)).toNat else min i.toNat its.toArray.size;(its.toArray.extract 0 k).push u++its.toArray.extract k)=(insL its i.toNat u).toArray:=by
 have e:(if i < 0 then(i + ((its.toArray.size:Nat):Int)).toNat else min i.toNat its.toArray.size)=min i.toNat its.length:=by
   rw [if_neg (by omega)];simp
 show(its.toArray.extract 0 (if i < 0 then(i + ((its.toArray.size:Nat):Int)).toNat else min i.toNat its.toArray.size)).push u++its.toArray.extract (if i < 0 then(i + ((its.toArray.size:Nat):Int)).toNat else min i.toNat its.toArray.size)=_;rw [e];unfold insL;rcases Nat.le_total i.toNat its.length with h | h
 · rw [Nat.min_eq_left h];simp;exact X2 (by rw [P5];exact A8 _)
 · rw [Nat.min_eq_right h,X2 h,AS h];simp
theorem IE:MtM X "list.insert" EE:=by
 intro pins s σ H x vs v us Q I rx rv h;obtain⟨l,xs,i,y,rfl,rfl,hH,h0,h1,hz,q⟩:=h;cases rx;cases rv with
 | cons ri rv =>
   obtain⟨t,rfl⟩:=ri;obtain⟨u,rfl,ru⟩:=Vals.one rv;obtain⟨z,its,n,r,hl,e⟩:=I.lstM hH
   have hf:¬(!CT i)=true:=by
     simp only [CT];simp;omega
   refine call_meets F.slot_list_insert ⟨_,e,rfl⟩ F.entry_list_insert (F.args_list_insert_3 _ _ _) (PySem.AutoSeq1.list_insert_list_int_val_1 l its.toArray n i t u hf (by rw [D3];omega)) ⟨e,?_⟩;refine⟨.non,_,I.lset (its':=insL its i.toNat u) hH e (ID h0) ?_ ?_,rfl,q⟩
   · exact(r.take i.toNat).append (.cons ru (r.drop i.toNat))
   · rw [Cd];omega
end
end L2
namespace Pu
open PySem PySem.Spec L2
section
variable {T:PotK}{ι:Type}{K:A3}{F:ι->Cx}{e ei:Expr}{pe pi:pE}{pos:Pos}
def AD (i:Nat)(pi pe:pE):pE:=fun env n R=>(∃xs,env[i]?=some (some (.ow .lst xs)))/\pi env n fun j env1 n1=>pe env1 n1 fun y env2 n2=>match env2[i]?,j with | some (some (.ow .lst xs)),.int j=>(0<=j/\j<=1000000/\xs.length < 1000000)/\R .non (env2.set i (some (.ow .lst (insL xs j.toNat y)))) n2 | _,_=>False
theorem EF (i:Nat)(hv:∀z,EW (F z) (.Name x p) (tVar i))(hi:QE T K F ei pi)(he:QE T K F e pe)(hs1:C9 ei=true:=by rfl)(hs:C9 e=true:=by rfl)(hbase:∀z,attributeBase (.Name x p) "insert" (F z).env (eval (.Name x p) (F z).env)=eval (.Name x p) (F z).env:=by intro _;rfl)(hline:(ap.endLine == pos.line)=true:=by rfl)
   (hfew:∀z,((backTo pos (C3 [ei,e] (F z).env)).all (fun x=>!x.1) && (backToKw pos (keywordEach [] (F z).env)).all (fun x=>x.1.isSome) && decide (([ei,e]:List Expr).length + ([]:List Keyword).length + (if([]:List Keyword).isEmpty then 0 else 1) < 30))=true:=by intro _;rfl)
   (hplain:∀z,(backTo pos (C3 [e] (F z).env)).any (·.1)=false:=by intro _;rfl) (hK:∀z,(F z).K=K:=by intro _;rfl):QE T K F (.Call (.Attribute (.Name x p) "insert" ap) [ei,e] [] pos) (AD i pi pe):=by
 obtain⟨ti,i1,i2⟩:=hi;obtain⟨t,a1,a2⟩:=he;refine⟨tBM K "list" EE (tVar i) (Q3 ti (Q3 t tNil)),fun z=>hK z▸Bw PySem.F.plainAttrs_list PySem.F.slot_list_insert PySem.F.type_list_insert IE (hv z).h (C7 (i1 z) (C7 (a1 z) E3 (B0 hs)) (B0 hs1)) (hbase z) (hfew z) hline (B0 hs1) (hplain z),fun C G σ H env n R Q hK hT S hp k=>?_⟩;obtain⟨⟨xs0,e0⟩,hp⟩:=hp;obtain⟨a,vs,ev,h1,h2,h3,h4,r⟩:=S.slots i _ e0;refine⟨.ref a,ev,.inl ⟨rfl,vs,SqL.of h4⟩,?_⟩;refine i2 C G σ H env n _ _ hK hT S hp fun j env1 n1 v H1 q1 S1 r1 f1=>?_;refine a2 C G σ H1 env1 n1 _ _ hK hT S1 q1 fun y env2 n2 u H2 q2 S2 r2 f2=>?_
 split at q2
 · rename_i xs j' ex;obtain⟨a',us,ev',g1,g2,g3,g4,r'⟩:=S2.slots i _ ex;rw [ev] at ev';cases ev';subst hK;obtain⟨S3,f3⟩:=S2.put ex ev ((r'.take j'.toNat).append (xs:=xs.take j'.toNat) (ys:=y::xs.drop j'.toNat) (us:=u::us.drop j'.toNat) ⟨u,_,rfl,r2,r'.drop j'.toNat⟩);exact⟨a,us,j',u,rfl,by rw [show v=.int j' from r1],g4,q2.1.1,q2.1.2.1,by rw [<- r'.length];exact mil' (by omega),k _ _ _ _ _ q2.2 S3 rfl ((f1.trans f2).trans f3)⟩
 · exact q2.elim
end
end Pu
end
section
namespace Pu
open PySem PySem.Spec L2
section
variable {T:PotK}{np:Bool}{ι:Type}{K:A3}{F:ι->Cx}{a b ea eb:Expr}{st:Stmt}{pos:Pos}{pa pb pi pj:pE}
theorem Ce (K:A3)(hc:X.calm=true)(h1:GW X x gx)(h2:GW X y gy)(hn:(J3 [x,y] X.env).length=2:=by rfl)(hst:(J3 [x,y] X.env).findIdx? (·.1)=none:=by rfl)
   (hs:(J3 [x,y] X.env).map (·.2)=assign x X.env::(J3 [y] X.env).map (·.2):=by rfl) (hs2:(J3 [y] X.env).map (·.2)=assign y X.env::(J3 [] X.env).map (·.2):=by rfl) (hK:X.K=K:=by rfl) :
   GW X (.Tuple [x,y] k pos) (gTup K 2 (l3 gx (l3 gy gNil))):=⟨hK▸Db hc (Bj h1.h (Bj h2.h Da hs2) hs) hn hst⟩
def u6 (i:Nat)(pa pb pi pj:pE):pS:=fun D env n=>pa env n fun x env1 n1=>pb env1 n1 fun y env2 n2=>(∃xs,env2[i]?=some (some (.ow .lst xs)))/\gAt i pi x env2 n2 fun env3 n3=>gAt i pj y env3 n3 D.nx
theorem Cf (i:Nat){tg:Expr}{k:Nat}{p:Pos}(h:∀z te g,EW (F z) (.Tuple [a,b] k p) te->GW (F z) tg g->SW (F z) st (tAsg te g))(hg:∀z ti tj,EW (F z) ea ti->EW (F z) eb tj->GW (F z) tg (gTup K 2 (l3 (gSub (tVar i) ti l6) (l3 (gSub (tVar i) tj l6) gNil))))(h1:QE T K F a pa)(h2:QE T K F b pb)(h3:QE T K F ea pi)(h4:QE T K F eb pj)(n1:C9 a=true:=by rfl)(n2:C9 b=true:=by rfl):QS T np K F st (u6 i pa pb pi pj):=by
 obtain⟨t,a1,a2⟩:=h1;obtain⟨u,b1,b2⟩:=h2;obtain⟨ti,i1,i2⟩:=h3;obtain⟨tj,j1,j2⟩:=h4;refine⟨_,fun z=>(h z _ _ ⟨Di (C7 (a1 z) (C7 (b1 z) E3 (B0 n2)) (B0 n1))⟩ (hg z _ _ ⟨i1 z⟩ ⟨j1 z⟩)).h,fun C G σ H env n PD D hK hT hn S hp L=>?_⟩;refine a2 C G σ H env n _ _ hK hT S hp fun x env1 n1 v H1 q1 S1 r1 f1=>?_;refine b2 C G σ H1 env1 n1 _ _ hK hT S1 q1 fun y env2 n2 w H2 q2 S2 r2 f2=>?_;obtain⟨⟨xs0,e0⟩,q2⟩:=q2;refine⟨by show 2<=B4;decide,fun p hn'=>⟨p,[v,w],rfl,SqT.of D5,rfl,v,[w],rfl,?_⟩⟩;have sm:Same H2 (upd H2 p (.tup [v,w])):=Same.lay1 hn';generalize upd H2 p (.tup [v,w])=H3 at sm ⊢;have S3:=S2.same sm;obtain⟨a,vs,ev,h1,h2,h3,h4,r⟩:=S3.slots i _ e0;refine⟨.ref a,ev,?_⟩;refine i2 C G σ H3 env2 n2 _ _ hK hT S3 q2 fun d env3 n3 ud H4 q3 S4 r4 f4=>?_
 split at q3
 · rename_i xs d ex
   split at q3
   · rename_i jj ej;obtain⟨a',us,ev',g1,g2,g3,g4,r'⟩:=S4.slots i _ ex;rw [ev] at ev';cases ev';subst hK;obtain⟨S5,f5⟩:=S4.put ex ev (r'.set jj (((r1.fr f2).same sm).fr f4));refine⟨a,us,d,jj,rfl,r4,g4,by rw [<- r'.length];exact ej,?_⟩;refine⟨w,[],rfl,.ref a,ev,?_⟩;refine j2 C G σ _ _ n3 _ _ rfl hT S5 q3 fun d2 env5 n5 ud2 H5 q5 S6 r6 f6=>?_
     split at q5
     · rename_i xs2 d2 ex2
       split at q5
       · rename_i jj2 ej2;obtain⟨a',us2,ev',k1,k2,k3,k4,r7⟩:=S6.slots i _ ex2;rw [ev] at ev';cases ev';obtain⟨S7,f7⟩:=S6.put ex2 ev (r7.set jj2 ((((r2.same sm).fr f4).fr f5).fr f6));exact⟨a,us2,d2,jj2,rfl,r6,k4,by rw [<- r7.length];exact ej2,rfl,L.nx _ _ _ _ _ q5 S7 (Ext.fr ((((((f1.trans f2).trans (Fr.of sm)).trans f4).trans f5).trans f6).trans f7))⟩
       · grind
     · grind
   · grind
 grind
end
end Pu
end
section
namespace Pu
open PySem PySem.Spec L2
def lt (f t:Int)(k:Nat):Nat:=97 + ((f + (k:Int) * t) % 26).toNat
def u7:List Int:=[1,3,5,7,9,11,15,17,19,21,23,25]
theorem lt_ne {f t:Int}(ht:t∈u7)(f0:0<=f){j k:Nat}(hjk:j < k)(hk:k < 26):lt f t j≠lt f t k:=by
 unfold lt;simp only [u7,B9,X4,or_false] at ht;rcases ht with rfl | rfl | rfl | rfl | rfl | rfl | rfl | rfl | rfl | rfl | rfl | rfl <;> omega
theorem lt_at {k:Nat}:atI LETS.cps.toList ((f + (k:Int) * t) % 26)=some (lt f t k):=
 Ew (X9 _ (by decide)) (b3 _ (by decide))
theorem IF (ht:t∈u7):-(2 ^ 64) < t/\t < 2 ^ 64:=by
 simp only [u7,B9,X4,or_false] at ht;rcases ht with rfl | rfl | rfl | rfl | rfl | rfl | rfl | rfl | rfl | rfl | rfl | rfl <;> decide
theorem Cg {zs:List Str}:memP (.str z) (zs.map PV.str)=decide (z∈zs):=by
 unfold memP;rw [List.any_map,j9,x9,decide_eq_true_iff];constructor
 · rintro⟨y,hy,e⟩;have e':decide (y=z)=true:=by rw [<- t9];exact e
   rw [<- of_decide_eq_true e'];exact hy
 · intro h;refine⟨z,h,?_⟩;show eqP (.str z) (.str z)=true;rw [t9];exact decide_eq_true rfl
theorem h6 (zs:List Str)(d:Nat):(zs.map PV.str).all (cmpb d)=true:=by
 rw [List.all_map,F3];intro x _;cases d <;> rfl
theorem IG {zs:List Str}(hP:zs.map PV.str=P)(h:R (.bl (decide (z∈zs)))):wIn 4 false (.str z) (.tup P) R:=by
 subst hP;exact⟨rfl,h6 zs 4,by rw [Cg];exact h⟩
theorem IH {zs:List Str}(hP:zs.map PV.str=P)(h:R (.bl (!decide (z∈zs)))):wIn 4 true (.str z) (.tup P) R:=by
 subst hP;exact⟨rfl,h6 zs 4,by rw [Cg];exact h⟩
theorem II {zs:List Str}(hP:zs.map PV.str=P)(h:R (.bl (!decide (z∈zs)))):wIn 4 true (.str z) (.lst P) R:=by
 subst hP;exact⟨rfl,h6 zs 4,by rw [Cg];exact h⟩
def RowS (zs:List Str):Prop:=zs.Nodup/\∀z∈zs,T0 z
abbrev rowP (zs:List Str):PV:=.tup (zs.map PV.str)
inductive Ev where
 | d (x:Str) | t (x y:Str)
def evB:Ev->List Str
 | .d x=>[x]
 | .t x y=>[x,y]
theorem Z2 {zs:List Str}(nd:zs.Nodup){i j:Nat}(h1:zs[i]?=some z)(h2:zs[j]?=some z):i=j:=by
 obtain⟨l1,e1⟩:=D2.mp h1;obtain⟨l2,e2⟩:=D2.mp h2;rcases Nat.lt_trichotomy i j with h | h | h
 · exact absurd (e1.trans e2.symm) (List.pairwise_iff_getElem.mp nd i j l1 l2 h)
 · exact h
 · exact absurd (e2.trans e1.symm) (List.pairwise_iff_getElem.mp nd j i l2 l1 h)
def ixS (zs:List Str)(z:Str):Nat:=zs.findIdx fun y=>decide (y=z)
theorem G8 (h:z∈zs):zs[ixS zs z]?=some z/\∀i,i < ixS zs z->zs[i]?≠some z:=by
 unfold ixS;have hl:zs.findIdx (fun y=>decide (y=z)) < zs.length:=List.findIdx_lt_length_of_exists ⟨z,h,by simp⟩;refine⟨?_,fun i hi e=>?_⟩
 · rw [C4 hl];have:=List.findIdx_getElem (w:=hl);rw [of_decide_eq_true this]
 · have:=List.not_of_lt_findIdx hi;obtain⟨l1,e1⟩:=D2.mp e;rw [e1] at this;simp at this
theorem m_ix (hP:zs.map PV.str=P)(h:z∈zs)(hl:zs.length<=1000000)(q:R (.int (ixS zs z))):T1 (.tup P) (.str z) R:=by
 subst hP;unfold T1;dsimp only;rw [Ej];exact⟨hl,ixS zs z,(G8 h).1,(G8 h).2,q⟩
end Pu
end
section
namespace Pu
open PySem PySem.Spec L2
inductive Mk where
 | d | o | t | u
 deriving DecidableEq
def run (r:Int):Nat->List Nat->List Mk->Option (List Nat)
 | _,st,[]=>some st
 | k,st,.t::m=>run r (k + 1) (k::st) m
 | k,st,.d::m=>run r (k + 1) st m
 | k,[],.o::m=>run r (k + 1) [] m
 | _,_::_,.o::_=>none
 | _,[],.u::_=>none
 | k,p::st,.u::m=>if(k:Int) - p - 1<=r then run r (k + 1) st m else none
def Cl (r:Int)(k:Nat)(m:List Mk):Prop:=∀st,run r k st m=some st
theorem Cl.d (h:Cl r (k + 1) m):Cl r k (.d::m):=fun st=>h st
inductive PE where
 | d (i:Nat) | t (i j:Nat)
def nm (zs:List Str)(i:Nat):Str:=zs.getD i (C0 "")
theorem W6 {zs:List Str}{i:Nat}(h:i < zs.length):zs[i]?=some (nm zs i):=by grind [nm]
structure Fair (zs:List Str)(es:List Ev):Prop where
 nd:(es.flatMap evB).Nodup
 sub:∀b∈es.flatMap evB,b∈zs
def exch (f:List Str)(i j:Nat):List Str:=(f.set i (nm f j)).set j (nm f i)
theorem IJ (hx:x∈zs)(hy:y∈zs)(h:ixS zs x=ixS zs y):x=y:=by
 have h1:=(G8 hx).1;rw [h,(G8 hy).1] at h1;exact(E4 h1).symm
theorem Ch (hi:i < f.length)(hj:j < f.length):(exch f i j).Perm f:=by
 unfold exch nm;rw [j3,j3,C4 hi,C4 hj];show((f.set i f[j]).set j f[i]).Perm f;exact List.set_set_perm hi hj
theorem h9 {α β:Type}{f:α->β}{l:List α}{i:Nat}{y:β}(h:(l.map f)[i]?=some y):∃x,l[i]?=some x/\y=f x:=by
 rw [F2] at h;cases e:l[i]? with
 | none=>rw [e] at h;cases h
 | some x=>rw [e] at h;exact⟨x,rfl,(E4 h).symm⟩
theorem Ci {α:Type}{l:List α}{i:Nat}{x:α}(h:l[i]?=some x):l.take (i + 1)=l.take i++[x]:=by
 rw [List.take_add_one,h];rfl
theorem EG {α:Type}(xs:List α)(a:Nat):cutP xs (some (a:Int)) none=xs.drop a:=by
 unfold cutP;rw [HT.sIx_nat,HT.sIx_none];rcases Nat.le_total a xs.length with h2 | h2
 · rw [Nat.min_eq_left h2];exact X2 (by rw [P5];exact A8 _)
 · rw [Nat.min_eq_right h2,AS h2,AS (A8 _)];simp
theorem at2_0 {α:Type}{a b:α}:atI [a,b] 0=some a:=rfl
theorem at2_1 {α:Type}{a b:α}:atI [a,b] 1=some b:=rfl
theorem at3_0 {α:Type}{a b c:α}:atI [a,b,c] 0=some a:=rfl
theorem at3_1 {α:Type}{a b c:α}:atI [a,b,c] 1=some b:=rfl
theorem at3_2 {α:Type}{a b c:α}:atI [a,b,c] 2=some c:=rfl
end Pu
end
section
namespace Pu
open PySem PySem.Spec L2
theorem Fair.tx {st:List Str}{es:List Ev}(h:Fair st es){x y:Str}(he:Ev.t x y∈es):x∈st/\y∈st:=
 ⟨h.sub x (List.mem_flatMap.mpr ⟨_,he,by simp [evB]⟩),h.sub y (List.mem_flatMap.mpr ⟨_,he,by simp [evB]⟩)⟩
end Pu
end
section
namespace L2
open PySem PySem.Spec PyProof.Rows
theorem IK (hh:A.handled=none)(I a:Addr)(hne:a≠I)(its:Array Value) :
   Walks prog w A I [I,a] [I] its.size (fun i v=>its[i]?=some v) (fun i h=>h.IsListIter I a i/\h.IsList a its) where
 sub:=fun b hb=>by simp at hb;simp [hb]
 frame:=fun _ _ _ st hk=>⟨st.1.at fun o e=>hk I (by simp) o e,let ⟨o,ho,x⟩:=st.2;⟨o,hk a (by simp) o ho,x⟩⟩
 item:=fun i s Q E hi st hQ=>by
   have hx:its[i]?=some its[i]:=by simp [hi]
   refine wpAny_pyNext_list_item st.1 st.2 hx fun h' hit' hs'=>?_;exact hQ its[i] h' s.toks hx ⟨hit',let ⟨o,ho,x⟩:=st.2;⟨o,hs'.extBut a o hne ho,x⟩⟩ fun b o hb e=>hs'.extBut b o (fun h=>hb (by simp [h])) e
 done:=fun s Q E st hQ=>wpAny_pyNext_list_end hh st.1 st.2 (by simp) fun h' he'=>hQ h' s.toks fun b o hb e=>he' b o (fun h=>hb (by simp [h])) e
 self:=fun _ _ _ _ st hQ=>wpAny_pyIter_listiter st.1 hQ
theorem Cj (is:List Int):∀n,n<=is.length->preSum (fun j=>is.getD j 0) n=(is.take n).sum
 | 0,_=>by rw [List.take_zero];rfl
 | n + 1, h => by
   show preSum (fun j=>is.getD j 0) n + is.getD n 0=_;rw [Cj is n (by omega),List.take_succ,j3,C4 (by omega),List.sum_append];simp
theorem IL {is:List Int}(h:∀i∈is,0<=i/\i<=1000000):0<=is.sum/\is.sum<=1000000 * is.length:=by
 induction is with
 | nil=>exact⟨by decide,by decide⟩
 | cons x is ih =>
   obtain⟨h1,h2⟩:=ih fun i hi=>h i (D0 _ hi);obtain⟨x1,x2⟩:=h x E2;rw [List.sum_cons,P6];omega
section
variable {X:Cx}
theorem IM (hc:X.calm=true):G5 X (.builtin "sum") (fun xs H Q=>∃(a:Addr) (is:List Int),xs=[.ref a]/\H a=some (.lst (is.map V.int))/\is.length<=1000/\(∀i∈is,0<=i/\i<=1000000)/\Q (.int is.sum) H):=by
 intro pins s σ H xs us Q I r h;obtain⟨a,is,rfl,ea,hl,hi,q⟩:=h;obtain⟨u,rfl,rx⟩:=U8 r;cases rx;obtain⟨_,its,n,rv,e⟩:=(show E6 X.prog X.w H s.heap a (.lst (is.map V.int)) from I.hok a _ ea);have isL:s.heap.IsList a its.toArray:=⟨_,e,rfl,_,rfl⟩;have hlen:its.length=is.length:=by rw [<- rv.length,B8]
 refine call_sum_walk ?_;refine w6 isL ?_;have lt:a < s.heap.objs.size:=B1 e;have hh:X.A.in1.handled=none:=I.ok.hd hc;refine⟨s.heap.objs.size,[s.heap.objs.size,a],[s.heap.objs.size],its.toArray.size,(fun i v=>its.toArray[i]?=some v),(fun i h=>h.IsListIter s.heap.objs.size a i/\h.IsList a its.toArray),(fun j=>is.getD j 0),rfl,IK hh s.heap.objs.size a (C5 lt) its.toArray,⟨⟨_,D8 _ rfl,rfl,rfl⟩,⟨_,B5 _ e,rfl,_,rfl⟩⟩,fun b hb=>?_,fun i v hv=>?_,fun j hj=>?_,fun h' tk t' hk=>?_⟩
 · have sz:s.heap.objs.size < (s.heap.push { cls:=.type "list_iterator",data:=.fields #[.ref a,.int 0 0] }).objs.size:=by simp [Heap.push]
   rcases B9.mp hb with z | z
   · rw [z];exact sz
   · rw [K1.mp z];exact Nat.lt_trans lt sz
 · have hv':its[i]?=some v:=by simpa using hv
   have hi':=(D2.mp hv').1;have hi2:i < is.length:=by rw [<- hlen];exact hi'
   obtain⟨x,ex,rx⟩:=rv.getE hi';rw [F2,C4 hi2] at ex;have ex:V.int is[i]=x:=E4 ex;subst ex;obtain⟨t,et⟩:=rx;refine⟨t,?_⟩;rw [C4 hi'] at hv';rw [<- E4 hv',et];show Value.int is[i] t=Value.int (is.getD i 0) t;rw [j3,C4 hi2]
   rfl
 · have hj':j < is.length:=by rw [<- hlen];simpa using hj
   have m1:is.getD j 0∈is:=by rw [j3,C4 hj'];exact List.getElem_mem _
   have h1:=hi _ m1;have h2:=IL (is:=is.take (j + 1)) fun i h=>hi i (List.mem_of_mem_take h);show InLong (is.getD j 0)/\InLong (preSum (fun j=>is.getD j 0) (j + 1));rw [Cj is (j + 1) hj'];rw [X3] at h2;refine⟨⟨?_,?_⟩,⟨?_,?_⟩⟩ <;> (have e63:(2:Int) ^ 63=9223372036854775808:=by decide) <;> rw [e63] <;> omega
 · have es:preSum (fun j=>is.getD j 0) its.toArray.size=is.sum:=by
     rw [Cj is _ (by rw [D3,hlen];exact A8 _),D3,hlen,List.take_length]
   rw [es];exact⟨.int is.sum,H,I.kept (t':=tk) fun b o eb=>hk b o (fun z=>N4 _ (by rw [K1.mp z] at eb;exact B1 eb)) (B5 _ eb),⟨_,rfl⟩,q⟩
end
end L2
namespace Pu
open PySem PySem.Spec L2
section
variable {T:PotK}{np:Bool}{ι:Type}{K:A3}{F:ι->Cx}{e a b:Expr}{st:Stmt}{pe pa pb:pE}{pos:Pos}
def W7:List PV->Option (List Int)
 | []=>some []
 | .int i::xs=>(W7 xs).map (i::·)
 | _=>none
theorem IN:∀{vs:List V} {is:List Int},Reps K G H xs vs->W7 xs=some is->vs=is.map V.int:=by
 induction xs with
 | nil=>intro vs is r h;cases h;exact r
 | cons x xs ih =>
   intro vs is r h;obtain⟨v,t,rfl,rv,rt⟩:=r;cases x with
   | int i =>
     have h:(W7 xs).map (i::·)=some is:=h;cases e:W7 xs with
     | none=>rw [e] at h;cases h
     | some js =>
       rw [e] at h;cases h;rw [ih rt e,show v=.int i from rv]
       rfl
   | _=>cases h
def wSum:w1:=fun x R=>match x with | .lst xs=>(match W7 xs with | some is=>is.length<=1000/\(∀i∈is,0<=i/\i<=1000000)/\R (.int is.sum) | none=>False) | _=>False
theorem qe_sum (hc:∀z,(F z).calm=true)(hg:∀z,Gl (F z) "sum")(hm:∀z,(F z).mg "sum"=none)(ha:QE T K F a pa)(hs:C9 a=true:=by rfl):QE T K F (.Call (.Name "sum" p) [a] [] pos) (qUn wSum pa):=by
 obtain⟨t,h1,h2⟩:=ha;refine⟨_,fun z=>U9 (IM (hc z)) (hg z) (hm z) bt_sum (C7 (h1 z) E3 (B0 hs)) (by decide) (by decide) (B0 hs),fun C G σ H env n' R Q hK hT S hp k=>?_⟩;refine h2 C G σ H env n' _ _ hK hT S hp fun x env1 n1 v H1 p1 S1 r1 f1=>?_;dsimp only [wSum] at p1;cases x with
 | lst xs =>
   cases ei:W7 xs with
   | none=>dsimp only at p1;rw [ei] at p1;exact p1.elim
   | some is =>
     dsimp only at p1;rw [ei] at p1;obtain⟨l1,l2,q⟩:=p1;obtain⟨a,vs,rfl,t,r⟩:=r1;have ev:=IN r ei;exact⟨a,is,rfl,by rw [<- ev];exact t.2,l1,l2,k _ _ _ _ _ q S1 rfl f1⟩
 | _=>exact p1.elim
end
end Pu
end
section
namespace L2
open PySem PySem.Spec PyProof.Rows
def i3 (i n:Int):Obj:={ cls:=.type "range_iterator",data:=.fields #[rawInt (i + (n - i - 1) * 1),rawInt (n - i),rawInt (-1)] }
section
variable {prog:C6}{w:World}{A:Around}{E:Value->Shared->Prop}{s:Shared}
theorem IP {r:Addr}{i n:Int}{t u v:Tok}{Q:Value->Shared->Prop}(h0:i<=n)(h1:n<=1000000)(hi:-1000000<=i)(hr:s.heap.get? r=some { cls:=.type "range",data:=.fields #[.int i t,.int n u,.int 1 v] })
   (h:Q (.ref s.heap.objs.size) { s with heap:=s.heap.push (i3 i n) }):wpAny (model prog w) A (call (.builtin "range.__reversed__") [.ref r]) Q E s:=by
 have hT:s.TypeIs (.ref r) "range":=⟨_,hr,rfl⟩;refine P4 F.slot_range_reversed hT F.entry_range_reversed ?_ (F.args_range_reversed_1 _);unfold Builtin.«range.__reversed__»;refine A0 (L7 (a:=K3 r) rfl ?_);refine A0 ?_;unfold Builtin.Range.rangeFields;refine A0 (F4 hr rfl (x:=.int i t) rfl ?_);refine A0 (L7 (a:=some i) rfl ?_);refine A0 (F4 hr rfl (x:=.int n u) rfl ?_);refine A0 (L7 (a:=some n) rfl ?_);refine A0 (F4 hr rfl (x:=.int 1 v) rfl ?_);refine A0 (L7 (a:=some (1:Int)) rfl ?_);refine A4 ?_
 have hs:A_ i n 1=n - i:=by
   unfold A_;rw [if_pos (by decide),Int.ediv_one]
   split <;> omega
 dsimp only;rw [hs]
 have sm:(X8 i && X8 n && X8 1 && X8 (-1) && X8 (i - 1) && X8 (n - i))=true:=by
   simp only [X8,R0,decide_eq_true_eq];omega
 rw [sm];simp only [Bool.not_true,y8,if_false,if_true];exact A0 (J6 (A4 ⟨_,rfl,h⟩))
theorem IQ {r:Addr}{i n:Int}{t u v:Tok}{Q:Value->Shared->Prop}(h0:i<=n)(h1:n<=1000000)(hi:-1000000<=i)(hr:s.heap.get? r=some { cls:=.type "range",data:=.fields #[.int i t,.int n u,.int 1 v] })
   (h:Q (.ref s.heap.objs.size) { s with heap:=s.heap.push (i3 i n) }):wpAny (model prog w) A (call (.type "reversed") [.ref r]) Q E s:=by
 have hT:s.TypeIs (.ref r) "range":=⟨_,hr,rfl⟩;refine callType_other (U:="range_iterator") (Q₁:=fun obj s₁=>obj=.ref s.heap.objs.size/\s₁={ s with heap:=s.heap.push (i3 i n) }) (by decide +kernel) F.create_reversed ⟨_,_,F.mro_reversed⟩ F.made_reversed Iv (F.typeCall_reversed_1 _) ?_ ?_
 · refine codeAny_of_tree ?_;show wpAny _ A.in1.in1 (do checkBuiltinCall "reversed.__new__" ⟨[.type "reversed",.ref r],[]⟩;again (.builtin "reversed.__new__" ⟨[.type "reversed",.ref r],[]⟩)) _ _ s;refine A0 (L7 (F.newCall_reversed_1 _) (A4 ⟨plainId_quiet F.plain_reversed_new _,codeAny_builtin F.entry_reversed_new ?_⟩));rw [Around.under_plainId F.plain_reversed_new _];unfold Builtin.«reversed.__new__»;refine A0 (L7 (newClass_reversed _) ?_)
   try dsimp only
   refine A0 (L7 (a:=()) (by first | rfl | kernel_rfl) ?_);refine A0 (L7 (a:=()) (by first | rfl | kernel_rfl) ?_)
   try dsimp only
   refine A0 (wpAny_specialOf hT F.slot_range_reversed.lookup ?_)
   try dsimp only
   refine A0 (L7 (F.slot_range_reversed.bind _) ?_)
   try dsimp only
   first
   | rw [if_neg (show ¬((Value.builtin "range.__reversed__" == O8)=true) from M3)]
   | (show wpAny _ _ (if(Value.builtin "range.__reversed__" == O8)=true then _ else _) _ _ _;rw [if_neg (show ¬((Value.builtin "range.__reversed__" == O8)=true) from M3)])
   refine A0 (Q9 ?_);refine A0 (m:=runValue (.call (.builtin "range.__reversed__") ⟨[.ref r],[]⟩)) (show wpAny _ _ (call (.builtin "range.__reversed__") [.ref r]) _ _ _ from IP h0 h1 hi hr ?_)
   first
   | exact A4 ⟨rfl,rfl⟩
   | exact A0 (A4 (A4 ⟨rfl,rfl⟩))
 · rintro obj s₁ ⟨rfl,rfl⟩;exact⟨⟨_,D8 _ rfl,rfl⟩,h⟩
end
section
variable {X:Cx}{tg:Expr}
def tRng2 (ta:TA):TE:=fun σ H Q=>ta σ H fun vs H1=>∃i j:Int,vs=[.int i,.int j]/\∀p,H1 p=none->Q (.ref p) (upd H1 p (.rng i j))
theorem IR {a b:Expr}{ta:TA}{p pos:Pos}(hg:Gl X "range")(hm:X.mg "range"=none)(ha:PA X [a,b] ta)(hs:C3 [a,b] X.env=[(false,eval a X.env),(false,eval b X.env)])(hs2:C3 [b] X.env=[(false,eval b X.env)]):PE X (.Call (.Name "range" p) [a,b] [] pos) (tRng2 ta):=by
 intro pins s σ H Q I h;refine Call_ (Q1 I hg hm boot_range (U3 (thn (ha pos pins s σ H _ I h) fun us s1 ⟨vs,H1,I1,r1,q1⟩=>?_) (by rw [hs,hs2]) (by rw [hs2];rfl)));obtain⟨i,j,e,q⟩:=q1;subst e;cases r1 with
 | cons r rr =>
   cases rr with
   | cons r' rr =>
     cases rr;obtain⟨t,rfl⟩:=r;obtain⟨t',rfl⟩:=r';refine call_range_2 ?_;exact⟨.ref s1.heap.objs.size,_,I1.laid (a:=s1.heap.objs.size) (o:=.rng i j) (fun b o e=>B5 _ e) (A8 _) ⟨_,_,_,D8 _ rfl⟩,rfl,q _ (I1.hok.fresh (A8 _))⟩
def iRevS (ta:TA):TI:=fun σ H R=>ta σ H fun vs H1=>∃(r:Addr) (i n:Int),vs=[.ref r]/\H1 r=some (.rng i n)/\i<=n/\n<=1000000/\-1000000<=i/\R (Itd (n - 1) (n - i).toNat) H1
theorem IS {e:Expr}{ta:TA}{p pos:Pos}(hg:Gl X "reversed")(hm:X.mg "reversed"=none)(ha:PA X [e] ta)(hs:C3 [e] X.env=[(false,eval e X.env)]:=by rfl):PI X tg (.Call (.Name "reversed" p) [e] [] pos) (iRevS ta):=by
 intro pins s σ H R I h;refine Call_ (Q1 I hg hm Iu (U3 (thn (ha pos pins s σ H _ I h) fun us s1 ⟨vs,H1,I1,r1,q1⟩=>?_) hs rfl));obtain⟨r,i,n,e,hr,h0,h2,hi,q⟩:=q1;subst e;cases r1 with
 | cons rr0 rr =>
   cases rr;cases rr0;obtain⟨t,u,v,ho⟩:=(show E6 X.prog X.w H1 s1.heap r (.rng i n) from I1.hok r _ hr);refine IQ h0 h2 hi ho ?_;have I2:Inv X pins σ H1 { s1 with heap:=s1.heap.push (i3 i n) }:=I1.kept (t':=s1.toks) fun b o e=>B5 _ e
   have st:IsRangeIter (s1.heap.push (i3 i n)) s1.heap.objs.size (n - 1 + ((0:Nat):Int) * -1) (((n - i).toNat:Int) - ((0:Nat):Int)) (-1):=by
     have e1:n - 1 + ((0:Nat):Int) * -1=i + (n - i - 1) * 1:=by omega
     have e2:((n - i).toNat:Int) - ((0:Nat):Int)=n - i:=by omega
     rw [e1,e2];exact D8 _ rfl
   refine AO (s:={ s1 with heap:=s1.heap.push (i3 i n) }) st ?_;refine⟨s1.heap.objs.size,[s1.heap.objs.size],_,_,H1,rfl,I2,HP _ (n - 1) (n - i).toNat,st,fun b hb=>?_,q⟩;have e:b=s1.heap.objs.size:=by simpa using hb
   subst e;exact I1.fpOk (A8 _) (I1.hok.fresh (A8 _))
end
end L2
namespace Pu
open PySem PySem.Spec L2
section
variable {T:PotK}{ι:Type}{K:A3}{F:ι->Cx}{tg a b:Expr}{pa pb:pE}{pos:Pos}
def Ck (pa pb:pE):pA:=fun env n R=>pa env n fun x env1 n1=>pb env1 n1 fun y env2 n2=>match x,y with | .int i,.int j=>(i<=j/\j<=1000000/\-1000000<=i)/\R ((B6 (j - i).toNat).map fun(k:Nat)=>PV.int (j - 1 - k)) env2 n2 | _,_=>False
theorem IT {p p2 pos2:Pos}(hg:∀z,Gl (F z) "reversed")(hm:∀z,(F z).mg "reversed"=none)(hg2:∀z,Gl (F z) "range")(hm2:∀z,(F z).mg "range"=none)(ha:QE T K F a pa)(hb:QE T K F b pb)(hs:C9 a=true:=by rfl)(hs2:C9 b=true:=by rfl):QI T K F tg (.Call (.Name "reversed" p) [.Call (.Name "range" p2) [a,b] [] pos2] [] pos) (Ck pa pb):=by
 obtain⟨t,h1,h2⟩:=ha;obtain⟨u,h3,h4⟩:=hb;refine⟨_,fun z=>IS (hg z) (hm z) (C7 (IR (hg2 z) (hm2 z) (C7 (h1 z) (C7 (h3 z) E3 (B0 hs2)) (B0 hs)) (by rw [B0 hs,B0 hs2];rfl) (B0 hs2)) E3 (B0 rfl)) (B0 rfl),fun C G σ H env n R Q hK hT S hp k=>?_⟩;refine h2 C G σ H env n _ _ hK hT S hp fun x env1 n1 v H1 p1 S1 r1 f1=>?_;refine h4 C G σ H1 env1 n1 _ _ hK hT S1 p1 fun y env2 n2 v2 H2 p2 S2 r2 f2=>?_;cases x with
 | int i =>
   cases y with
   | int j =>
     refine⟨i,j,by rw [show v=.int i from r1,show v2=.int j from r2],fun p hn=>⟨p,i,j,rfl,D5,p2.1.1,p2.1.2.1,p2.1.2.2,?_⟩⟩;exact k _ _ _ _ _ p2.2 (S2.same (Same.lay1 hn)) ((f1.trans f2).trans (Fr.of (Same.lay1 hn))) (HQ (j - 1) _)
   | _=>exact p2.elim
 | _=>exact p2.elim
end
end Pu
end
section
namespace Pu
open PySem PySem.Spec L2
variable {T:PotK}{ι:Type}{K:A3}{F:ι->Cx}{e:Expr}{st:List Stmt}{np:Bool}
def Z3:pS:=fun _ _ _=>False
theorem u8:QSs T np K F st Z3:=⟨fun _ _ _=>False,fun _ _ _ _ _ _ _ h=>h.elim,fun _ _ _ _ _ _ _ _ _ _ _ _ h=>h.elim⟩
end Pu
end
section
namespace L2
open PySem PySem.Spec PyProof.Rows
variable {X:Cx}
theorem IU:OpR X (G0 .IsNot) (fun x y H Q=>∃a b,x=.bl a/\y=.bl b/\Q (.bl (!(a == b))) H):=by
 intro pins s σ H x y v u Q I rx ry h;obtain⟨a,b,rfl,rfl,q⟩:=h;cases rx;cases ry;exact wpAny_isNot_plain rfl (Bn I q (by cases a <;> cases b <;> rfl))
end L2
namespace Pu
open PySem PySem.Spec L2
variable {T:PotK}{ι:Type}{K:A3}{F:ι->Cx}
def AE:w2:=fun x y R=>match x,y with | .bl a,.bl b=>R (.bl (!(a == b))) | _,_=>False
theorem cNotB:Cmp K F .IsNot AE:=⟨_,fun _=>IU,by
 intro G H x y v u R Q hf rx ry hw k;unfold AE at hw
 split at hw
 · exact⟨_,_,rx.bl,ry.bl,k _ _ _ hw (Same.refl _) rfl⟩
 · exact hw.elim⟩
end Pu
end
section
namespace L2
open PySem PySem.Spec PyProof.Rows
theorem Cm:∀(names:List (Str×NameKind)) (n:Nat) (a b:List (Str×Addr)),J7 n names (a++b)=J7 n names a++b
 | [],_,_,_=>rfl
 | (x, k) :: r, n, a, b => by
   unfold J7
   split
   · exact Cm r (n + 1) ((x,n)::a) b
   · exact Cm r n a b
section
variable {M:Model}{A:Around}{E:Value->Shared->Prop}{s:Shared}
theorem IV {scope:Scope}{globals:Addr}{cl:List (Str×Addr)}{qual:Str}{outer:Env}{Q:Env->Shared->Prop}
   (hQ:Q (newEnv scope s.heap.objs.size globals (J7 (s.heap.objs.size + 1) scope.names cl) qual none .none (some outer) builtinsNs) { s with heap:=pushCells (s.heap.push { cls:=.type "dict",data:=.dict #[] }) scope.names }) :
   wpAny M A (newFunctionEnv scope globals cl [] qual none .none (some outer)) Q E s:=by
 simp only [newFunctionEnv,Option.isSome_some,if_true];refine A0 (wpAny_alloc ?_);refine A0 (wpAny_layCells _ (fun name kind cells=>by cases hkc:kind == NameKind.cell <;> simp [hkc]) _ _ _ _ ?_)
 rw [show({ s with heap:=s.heap.push { cls:=.type "dict",data:=.dict #[] } }:Shared).heap.objs.size=s.heap.objs.size + 1 from N2 ..];rw [List.forIn_nil];exact A0 (A4 (A4 hQ))
end
def ownC (scope:Scope)(C:Addr):List (Str×Addr):=J7 (C + 1) scope.names []
def K6 (X:Cx)(scope:Scope)(cl:List (Str×Addr))(N:List Str)(fp:List Addr)(C:Addr)(s:Shared)(H:Hp):Cx:=
 { B3 X scope (J7 (C + 1) scope.names cl) N fp C s H with fn:=fun x=>((ownC scope C).lookup x).isSome }
structure AF (X:Cx)(scope:Scope)(cl:List (Str×Addr))(N:List Str)(cs:List (Option Nat)):Prop where
 clos:closureFor scope X.env=pure cl
 kind:scope.kind=.function
 names:∀y∈scope.names,y.2=.local->scope.names.lookup y.1=some .local
 sub:∀x c,cl.lookup x=some c->X.env.cells.lookup x=some c
 has:∀(C:Addr) x,((L9 scope X.env).names.lookup x=some .cell\/(L9 scope X.env).names.lookup x=some .free)->∃c,(J7 (C + 1) scope.names cl).lookup x=some c
 len:cs.length=N.length
 cap:∀(k j:Nat) (x:Str),cs[k]?=some (some j)->N[k]?=some x->X.N[j]?=some x/\Vis X.env.scope x/\X.env.kindOf x≠some .local/\(∃c,cl.lookup x=some c)/\((L9 scope X.env).names.lookup x=some .cell\/(L9 scope X.env).names.lookup x=some .free)/\∀C,(ownC scope C).lookup x=none
theorem IW {X:Cx}{scope:Scope}{cl:List (Str×Addr)}{N:List Str}{cs:List (Option Nat)}(clos:closureFor scope X.env=pure cl)(kind:scope.kind=.function)
   (names:(scope.names.all fun y=>!(y.2 == .local) || scope.names.lookup y.1 == some .local)=true) (sub:c6 cl X.env.cells)
   (has:∀C:Addr,((L9 scope X.env).names.all fun y=>!(y.2 == .cell || y.2 == .free) || ((J7 (C + 1) scope.names cl).lookup y.1).isSome)=true) (len:cs.length=N.length)
   (cap:∀C:Addr,((cs.zip N).all fun y=>match y.1 with | none=>true | some j=>X.N[j]? == some y.2 && (X.env.scope.names.lookup y.2 == some .cell || X.env.scope.names.lookup y.2 == some .free) && (cl.lookup y.2).isSome &&
     ((L9 scope X.env).names.lookup y.2 == some .cell || (L9 scope X.env).names.lookup y.2 == some .free) && ((ownC scope C).lookup y.2).isNone)=true):AF X scope cl N cs:=by
 refine⟨clos,kind,fun y hy e=>?_,sub.get,fun C x hx=>?_,len,fun k j x hk hN=>?_⟩
 · have:=F3.mp names y hy;rw [e] at this
   simpa using this
 · rcases hx with hx | hx
   · have:=F3.mp (has C) _ (N0 hx);exact U5.mp (by simpa using this)
   · have:=F3.mp (has C) _ (N0 hx);exact U5.mp (by simpa using this)
 · have hz:(cs.zip N)[k]?=some (some j,x):=by rw [List.getElem?_zip_eq_some];exact⟨hk,hN⟩
   have all:=fun C=>by
     have:=F3.mp (cap C) _ (N3 hz);simp only [R0,Bool.or_eq_true,beq_iff_eq] at this;exact this
   obtain⟨⟨⟨⟨h1,h2⟩,h3⟩,h4⟩,_⟩:=all 0;refine⟨h1,?_,?_,U5.mp h3,h4,fun C=>Option.isNone_iff_eq_none.mp (all C).2⟩
   · rcases h2 with h2 | h2
     · exact .inr (.inl h2)
     · exact .inr (.inr h2)
   · intro z;have z':X.env.scope.names.lookup x=some .local:=z;rw [z'] at h2;rcases h2 with h2 | h2 <;> cases h2
theorem lkA {scope:Scope}{cl:List (Str×Addr)}{C:Addr}{x:Str}:(J7 (C + 1) scope.names cl).lookup x=((ownC scope C).lookup x).or (cl.lookup x):=by
 have:=Cm scope.names (C + 1) [] cl;rw [List.nil_append] at this;rw [this,List.lookup_append];rfl
theorem lkK {scope:Scope}{cl:List (Str×Addr)}{C c:Addr}{x:Str}(h:(J7 (C + 1) scope.names cl).lookup x=some c):(ownC scope C).lookup x=some c\/cl.lookup x=some c:=by
 rw [lkA] at h;cases e:(ownC scope C).lookup x with
 | some d=>rw [e] at h;exact .inl h
 | none=>rw [e] at h;exact .inr h
theorem IX {X:Cx}{scope:Scope}{cl:List (Str×Addr)}{N:List Str}{cs:List (Option Nat)}(S:AF X scope cl N cs){pins:List (Addr×Obj)}{σ:St}{H:Hp}{s:Shared}{fp:List Addr}{h₁:Heap}{tk:Nat}
   (I:Inv X pins σ H s) (f2:∀b∈fp,FpOk X pins H b) (ho:∀b∈fp,∃o,s.heap.get? b=some o)
   (old:∀b o,s.heap.get? b=some o->h₁.get? b=some o) (hns:h₁.Ns (s.heap.objs.size + 1) (fun x=>([]:List (Str×Value)).reverse.lookup x))
   (hD:h₁.get? s.heap.objs.size=some { cls:=.type "list",data:=.seq ([]:List Value).toArray }) (okC:CellsOk h₁ (s.heap.objs.size + 1 + 1) (ownC scope (s.heap.objs.size + 1))) :
   Inv (K6 X scope cl N fp (s.heap.objs.size + 1) s H) pins (Y3 cs σ) (upd H s.heap.objs.size (.lst [])) { s with heap:=h₁,toks:=tk }:=by
 have lt:∀b o,s.heap.get? b=some o->b < s.heap.objs.size:=fun b o e=>B1 e;have neC:∀b o,s.heap.get? b=some o->b≠s.heap.objs.size + 1:=fun b o e=>C5 (M6 (lt b o e));have neD:∀b o,s.heap.get? b=some o->b≠s.heap.objs.size:=fun b o e=>C5 (lt b o e);have nstk:∀b,b≠X.env.locals->b∉X.fs->b∉frs X.stack:=fun b h1 h2 hb=>(B9.mp (I.stkSub b hb)).elim h1 h2
 have cellO:∀x c,cl.lookup x=some c->∃v o,s.heap.get? c=some o/\s.heap.IsCell c v:=fun x c e=>by
   obtain⟨v,q⟩:=I.cell x c (S.sub x c e);obtain⟨o,h1,_⟩:=id q;exact⟨v,o,h1,q⟩
 have ownO:∀x c,(ownC scope (s.heap.objs.size + 1)).lookup x=some c->h₁.IsCell c none/\s.heap.objs.size + 1 + 1<=c:=fun x c e=>okC.empty x c (N0 e);have cls:∀x c,(K6 X scope cl N fp (s.heap.objs.size + 1) s H).env.cells.lookup x=some c->(ownC scope (s.heap.objs.size + 1)).lookup x=some c\/cl.lookup x=some c:=fun x c e=>lkK e
 have clt:∀x c,cl.lookup x=some c->c < s.heap.objs.size:=fun x c e=>by
   obtain⟨v,o,h1,_⟩:=cellO x c e;exact lt c o h1
 have apt:∀{x y:Str} {c:Addr},(ownC scope (s.heap.objs.size + 1)).lookup x=some c->cl.lookup y=some c->False:=fun {x y c} h1 h2=>
   absurd (G4 (clt y c h2) (D7 (D7 (J4 _) (J4 _)) (ownO x c h1).2)) (N4 _)
 refine⟨⟨I.ok.mod,S.kind,I.ok.glob,I.ok.blt,J4 _,fun x y c h1 h2=>?_,fun x hx=>S.has _ x hx,fun x c hf hx=>?_,I.ok.hd,I.ok.frames,.inl rfl,fun b hb=>?_,I.bs,D7 I.ok.bsz I.sz,fun b o e hb=>?_,fun b hb=>?_,I.stack,I.stkFree,I.nos⟩,
   rfl,I.bare,Un.laid old (A8 _) I.fresh I.bigS,⟨_,hns,fun i x v e1 e2 e3=>?_⟩,fun x c e=>?_,?_,fun x c e=>?_,fun p hp=>?_,I.hok.laid old (A8 _) ⟨N5 _,[],0,.nil,hD⟩,?_⟩
 · rcases cls x c h1 with h1 | h1 <;> rcases cls y c h2 with h2 | h2
   · exact name_of_addr okC.apart (N0 h1) (N0 h2)
   · exact(apt h1 h2).elim
   · exact(apt h2 h1).elim
   · exact I.ok.inj x y c (S.sub x c h1) (S.sub y c h2)
 · obtain⟨d,hd⟩:=U5.mp hf;rcases cls x c hx with h1 | h1
   · exact D7 (D7 (J4 _) (J4 _)) (ownO x c h1).2
   · have e:(J7 (s.heap.objs.size + 1 + 1) scope.names cl).lookup x=some c:=hx;rw [lkA,hd] at e;cases e;exact D7 (D7 (J4 _) (J4 _)) (ownO x c hd).2
 · obtain⟨o,e⟩:=ho b hb;refine⟨neC b o e,fun x c ec z=>?_⟩;rcases cls x c ec with h1 | h1
   · exact absurd (G4 (lt b o e) (D7 (D7 (J4 _) (J4 _)) (z▸(ownO x c h1).2))) (N4 _)
   · exact(f2 b hb).2.2.2.2.1 x c (S.sub x c h1) z
 · rcases(f2 b hb).2.2.2.1 with z | z
   · exact I.ok.noex b o e z
   · exact absurd (G4 (B1 e) (D7 I.ok.bsz z)) (N4 _)
 · exact nstk b (f2 b hb).2.1 (f2 b hb).2.2.1
 · have e2':(cs.map fun o=>o.bind fun j=>(σ[j]?).bind id)[i]?=some (some v):=e2;rw [F2] at e2';cases ec:cs[i]? with
   | none=>rw [ec] at e2';cases e2'
   | some o =>
     rw [ec] at e2';cases o with
     | none=>cases e2'
     | some j =>
       have e2'':(σ[j]?).bind id=some v:=by simpa using e2'
       cases es:σ[j]? with
       | none=>rw [es] at e2'';cases e2''
       | some ov =>
         rw [es] at e2'';have e4:ov=some v:=by simpa using e2''
         subst e4;obtain⟨hN,hv,hnl,⟨c,hc⟩,hk,hno⟩:=S.cap i j x ec e1;obtain⟨m,hn,hl⟩:=I.loc;obtain⟨u,r,l⟩:=hl j x v hN es hv;refine⟨u,r,?_⟩;rcases l with⟨hk',_⟩ | ⟨_,c',hc',z⟩
         · exact absurd hk' hnl
         · have ecc:c'=c:=by
             have:=S.sub x c hc;rw [hc'] at this;exact E4 this
           subst ecc;obtain⟨o,h1,h2⟩:=z;exact .inr ⟨hk,c',(by show(J7 (s.heap.objs.size + 1 + 1) scope.names cl).lookup x=some c';rw [lkA,hno];exact hc),⟨o,old _ o h1,h2⟩⟩
 · rcases cls x c e with e | e
   · exact⟨none,(ownO x c e).1⟩
   · obtain⟨v,o,h1,o',h2,h3⟩:=cellO x c e;exact⟨v,o',old _ o' h2,h3⟩
 · show upd H s.heap.objs.size (.lst []) (s.heap.objs.size + 1)=none;rw [A9 (y4 _)];exact I.hok.fresh (J4 _)
 · rcases cls x c e with e | e
   · have ge:=D7 (J4 _) (ownO x c e).2;rw [A9 (X7 ge)];exact I.hok.fresh (Nat.le_of_lt ge)
   · obtain⟨v,o,h1,_⟩:=cellO x c e;rw [A9 (neD c o h1)];exact I.freeC x c (S.sub x c e)
 · obtain⟨e,n,ne,nf,d⟩:=I.pin p hp;exact⟨old _ _ e,by rw [A9 (neD _ _ e)];exact n,neC _ _ e,nstk _ ne nf,d⟩
 · show(cs.map _).length=N.length;rw [B8];exact S.len
theorem Inv.uncompK {X:Cx}{scope:Scope}{cl:List (Str×Addr)}{N:List Str}{pins:List (Addr×Obj)}{σ σ':St}{H H':Hp}{s s':Shared}{fp:List Addr}{h':Heap}
   (I:Inv X pins σ H s) (f2:∀b∈fp,FpOk X pins H b)
   (J:Inv (K6 X scope cl N fp (s.heap.objs.size + 1) s H) pins σ' H' s') (hs:∀b,b≠s.heap.objs.size + 1->h'.get? b=s'.heap.get? b) :
   Inv X pins σ H' { s' with heap:=h' }:=by
 obtain⟨hh,g,d,t,os'⟩:=s';obtain rfl:os'=s.os:=J.os;have U:Un (frs X.stack) fp H H' s.heap hh:=J.base;have old:∀b o,s.heap.get? b=some o->b≠s.heap.objs.size + 1:=fun b o e=>C5 (M6 (B1 e));have hs':∀b,b≠s.heap.objs.size + 1->h'.get? b=hh.get? b:=hs
 have trC:∀b u,H' b=some u->b≠s.heap.objs.size + 1:=fun b u e z=>by
   have q:H' (s.heap.objs.size + 1)=none:=J.free;rw [z,q] at e;cases e
 show Inv X pins σ H' { s with heap:=h',gens:=g,drawn:=d,toks:=t };refine I.call (h':=h') (g':=g) (d':=d) (t':=t) (ch:=fp) ⟨fun b o e n hb hx=>?_,fun b o e n hb hx=>?_,U.free,fun b o e hx=>?_,U.tups,U.frzs,U.tbls,U.sys⟩ (fun b u e=>?_) J.bare fun b hb=>?_
 · rw [hs' b (old b o e)];exact U.keep b o e n hb hx
 · rw [hs' b (old b o e)];exact U.slot b o e n hb hx
 · rw [hs' b (old b o e)];exact U.there b o e hx
 · refine(J.hok b u e).stay (fun c v hc q=>?_) (fun _ q=>q) fun _ _ q=>q
   have ne:c≠s.heap.objs.size + 1:=by
     rcases hc with z | z
     · rw [z];exact trC b u e
     · exact trC c _ z
   rw [hs' c ne];exact q
 · exact⟨(f2 b hb).2.2.2.1,(f2 b hb).2.1,(f2 b hb).2.2.2.2.1,(f2 b hb).2.2.2.2.2⟩
theorem IY {X:Cx}{scope:Scope}{cl:List (Str×Addr)}{N:List Str}{cs:List (Option Nat)}{elt tg iter:Expr}{ifs:List Expr}{pos:Pos}{wi:TI}{g:TG}{tt:TT}{te:TE}(S:AF X scope cl N cs)(hc:X.calm=true)(hi:PI X tg iter wi)
   (hb:∀(fp:List Addr) (C:Addr) (s:Shared) (H:Hp),PG (K6 X scope cl N fp C s H) tg g/\PIf (K6 X scope cl N fp C s H) ifs tt/\PE (K6 X scope cl N fp C s H) elt te)
   (hs:∀x,L6 iter X.env x=pure x:=by intro _;rfl) :
   PE X (.ListComp elt [⟨tg,iter,ifs,0⟩] scope pos) (By cs wi g tt te):=by
 intro pins s σ H Q I h;rw [eval_ListComp];refine v5 (use:=none) rfl hs S.clos S.kind S.names (thn (hi pins s σ H _ I h) fun v s1 h1=>thn h1 fun itv s2 h2=>?_);obtain⟨it,fp,tn,J,H2,rfl,I2,T,st2,f2,q⟩:=h2
 have ho:∀b∈fp,∃o,s2.heap.get? b=some o:=fun b hb=>by
   obtain⟨o,e,_⟩:=T.obj 0 _ st2 b hb;exact⟨o,e⟩
 refine J6 (IV ?_);dsimp only;have hC:(s2.heap.push { cls:=.type "list",dict:=none,data:=.seq ([]:List Value).toArray }).objs.size=s2.heap.objs.size + 1:=by rw [N2]
 generalize hH2:s2.heap.push { cls:=.type "list",dict:=none,data:=.seq ([]:List Value).toArray }=hp2 at hC ⊢;have okC:=cellsFrom_ok scope.names (hp2.push { cls:=.type "dict",data:=.dict #[] }) (s2.heap.objs.size + 1 + 1) [] ⟨fun _ _ hm=>(nomatch hm),List.Pairwise.nil⟩ (by rw [N2,hC];exact A8 _);rw [N2,hC] at okC;have hns₁:=(Heap.Ns.new hp2 (.type "dict")).keeps (pushCells_keeps scope.names _);have old:∀b o,s2.heap.get? b=some o->(pushCells (hp2.push { cls:=.type "dict",data:=.dict #[] }) scope.names).get? b=some o:=fun b o e=>pushCells_keeps _ _ b o (B5 _ (hH2▸B5 _ e));have hD:(pushCells (hp2.push { cls:=.type "dict",data:=.dict #[] }) scope.names).get? s2.heap.objs.size=some { cls:=.type "list",data:=.seq ([]:List Value).toArray }:=pushCells_keeps _ _ _ _ (B5 _ (hH2▸D8 _ rfl));generalize pushCells (hp2.push { cls:=.type "dict",data:=.dict #[] }) scope.names=h₁ at *;rw [hC] at hns₁ ⊢;obtain⟨W,⟨m0,w0⟩,turn⟩:=q s2.heap.objs.size I2.fresh;have Ic:=IX S (tk:=s2.toks) I2 f2 ho old hns₁ hD okC;have nstk:∀b,b≠X.env.locals->b∉X.fs->b∉frs X.stack:=fun b h1 h2 hb=>(B9.mp (I2.stkSub b hb)).elim h1 h2
 have stat:∀{H':Hp},(∀b∈fp,H' b=none)->∀b∈fp,FpOk (K6 X scope cl N fp (s2.heap.objs.size + 1) s2 H2) pins H' b:=fun hn b hb=>by
   obtain⟨o,e⟩:=ho b hb;exact⟨hn b hb,C5 (M6 (B1 e)),nstk b (f2 b hb).2.1 (f2 b hb).2.2.1,.inl hb,fun x c ec=>(Ic.ok.exf b hb).2 x c ec,(f2 b hb).2.2.2.2.2⟩
 obtain⟨hg,hf,he⟩:=hb fp (s2.heap.objs.size + 1) s2 H2;have st1:tn 0 h₁:=T.keep _ _ _ st2 fun b hb o e=>old b o e
 have fr1:∀b∈fp,upd H2 s2.heap.objs.size (.lst []) b=none:=fun b hb=>by
   obtain⟨o,e⟩:=ho b hb;rw [A9 (C5 (B1 e))];exact(f2 b hb).1
 have loop:∀s₃:Shared,s₃={ s2 with heap:=h₁ }->
     J8 (model X.prog X.w) X.A (.compLoop (.ListComp elt [⟨tg,iter,ifs,0⟩] scope pos) 0 (.ref it) (.ref s2.heap.objs.size) (compEnvC scope (J7 (s2.heap.objs.size + 1 + 1) scope.names cl) (s2.heap.objs.size + 1) X.env))
       (compPost (model X.prog X.w) X.A X.xe none (EP X pins σ Q) (.ref s2.heap.objs.size) (s2.heap.objs.size + 1)) s₃:=by
   rintro s₃ rfl;refine Bx (fun n s'=>∃i σ' H',Inv (K6 X scope cl N fp (s2.heap.objs.size + 1) s2 H2) pins σ' H' s'/\tn i s'.heap/\(∀b∈fp,H' b=none)/\W i n σ' H') ?_ m0 ⟨0,_,_,Ic,st1,fr1,w0⟩;rintro n s3 ⟨i,σ3,H3,I3,st3,fr3,w3⟩;rcases turn i n σ3 H3 w3 with⟨stop,qn⟩ | ⟨go,step⟩
   · refine thn (T.done (K6 X scope cl N fp (s2.heap.objs.size + 1) s2 H2) rfl rfl rfl hc i pins s3 σ3 H3 (fun _ _=>False) I3 (stat fr3) st3 stop) fun r s4 ⟨hr,I4⟩=>?_;subst hr;obtain⟨m4,hn4,_⟩:=I4.loc;exact⟨m4,hn4,fun h' hs'=>⟨.ref s2.heap.objs.size,H3,Inv.uncompK I2 f2 I4 fun b hb=>hs'.2 b hb,rfl,qn⟩⟩
   · refine thn (T.item (K6 X scope cl N fp (s2.heap.objs.size + 1) s2 H2) rfl rfl rfl hc i pins s3 σ3 H3 (fun _ _=>False) I3 (stat fr3) st3 go) fun r s4 ⟨u,hr,h4⟩=>?_;subst hr;refine thn h4 fun _ s5 ⟨x,H5,I5,r5,y5,st5,fr5⟩=>?_;have I5':=I5.pinned (stat fr5) (T.obj _ _ st5);refine thn (hg _ s5 σ3 H5 x u _ I5' r5 (step x H5 y5)) fun _ s6 ⟨σ6,H6,I6,q6⟩=>?_
     have again:∀{σ7:St} {H7:Hp} {s7:Shared},Inv (K6 X scope cl N fp (s2.heap.objs.size + 1) s2 H2) (pins++L3 fp s5.heap) σ7 H7 s7->(∃m',m' < n/\W (i + 1) m' σ7 H7)->
         ∃m,m < n/\∃i σ' H',Inv (K6 X scope cl N fp (s2.heap.objs.size + 1) s2 H2) pins σ' H' s7/\tn i s7.heap/\(∀b∈fp,H' b=none)/\W i m σ' H':=fun {σ7 H7 s7} I7 n7=>by
       obtain⟨m',hm,w7⟩:=n7;refine⟨m',hm,i + 1,σ7,H7,I7.unpinned,T.keep _ _ _ st5 fun b hb o e=>(I7.pin (b,o) (E1 _ (E1 _ (N6 hb e)))).1,fun b hb=>?_,w7⟩;obtain⟨o,e,d⟩:=T.obj _ _ st5 b hb;exact(I7.pin (b,o) (E1 _ (E1 _ (N6 hb e)))).2.1
     refine thn (hf _ s6 σ6 H6 _ I6 q6) fun ok s7 ⟨H7,I7,q7⟩=>?_;cases ok with
     | false=>exact again I7 q7
     | true =>
       refine thn (he _ s7 σ6 H7 _ I7 q7) fun y s8 ⟨v8,H8,I8,r8,ys,e8,z8,n8⟩=>?_
       have ma:=l7 (X:=K6 X scope cl N fp (s2.heap.objs.size + 1) s2 H2) _ s8 σ6 H8 (.ref s2.heap.objs.size) [v8] (.ref s2.heap.objs.size) [y]
         (fun v H9=>∃m',m' < n/\W (i + 1) m' σ6 H9) I8 rfl (.cons r8 .nil) ⟨_,ys,v8,rfl,rfl,e8,z8,n8⟩
       exact thn ma fun _ s9 ⟨v9,H9,I9,_,q9⟩=>again I9 q9
 exact w5 (loop _ rfl) (T.self _ 0 _ _ _ st1 (loop _ rfl))
end L2
namespace Pu
open PySem PySem.Spec L2
section
variable {T:PotK}{ι:Type}{K:A3}{F:ι->Cx}{e a b c:Expr}{es rest:List Expr}{pe pa pb pc:pE}{pos:Pos}{pl pr:pA}{pg:pG}{pgs:pGs}{pt:pT}
theorem IZ {scope:Scope}{cl:ι->List (Str×Addr)}{N:List Str}{cs:List (Option Nat)}{elt tg iter:Expr}{ifs:List Expr}{pi:pA}{ptt:pT}{pte:pE}(S:∀z,AF (F z) scope (cl z) N cs)(hc:∀z,(F z).calm=true)(hi:QI T K F tg iter pi)
   (hg:QG K (fun y:ι×List Addr×Addr×Shared×Hp=>K6 (F y.1) scope (cl y.1) N y.2.1 y.2.2.1 y.2.2.2.1 y.2.2.2.2) tg pg) (ht:QIf T K (fun y:ι×List Addr×Addr×Shared×Hp=>K6 (F y.1) scope (cl y.1) N y.2.1 y.2.2.1 y.2.2.2.1 y.2.2.2.2) ifs ptt)
   (he:QE T K (fun y:ι×List Addr×Addr×Shared×Hp=>K6 (F y.1) scope (cl y.1) N y.2.1 y.2.2.1 y.2.2.2.1 y.2.2.2.2) elt pte)
   (hs:∀z x,L6 iter (F z).env x=pure x:=by intro _ _;rfl):QN T K F (.ListComp elt [⟨tg,iter,ifs,0⟩] scope pos) (M7 cs pi pg ptt pte):=by
 obtain⟨wi,i1,i2⟩:=hi;obtain⟨g,hg0,hg⟩:=hg;obtain⟨tt,ht0,ht⟩:=ht;obtain⟨te,he0,he⟩:=he;refine⟨_,fun z=>IY (S z) (hc z) (i1 z) (fun fp C s H=>⟨hg0 (z,fp,C,s,H),ht0 (z,fp,C,s,H),he0 (z,fp,C,s,H)⟩) (hs z),fun C G σ H env n R Q hK hT S hp k=>?_⟩;refine i2 C G σ H env n _ _ hK hT S hp fun xs env1 n1 J H1 p1 S1 f1 hJ=>?_;intro D hD;have hDM:=S1.fresh hD;refine BQ (G:=G) hg ht he hJ p1.1 hD (hT▸hK▸Ar S1 cs) p1.2 fun ys n2 us H' rr hpots hk eD ry=>?_
 -- the heap without D
 have nD:∀b o,H1 b=some o->b≠D:=fun b o e z=>by rw [z,hD] at e;cases e
 have hD0:C.H0 D=none:=by
   cases z:C.H0 D with
   | none=>rfl
   | some o =>
     by_cases hp:D∈C.pots0
     · exact absurd (S1.sup D (S1.p0.1 D hp)) hDM
     · have:=S1.frame D o hp z;rw [hD] at this;cases this
 have hk2:∀b o,b∉G.pots->H1 b=some o->cutH H' D b=some o:=fun b o hb e=>by rw [J5 (nD b o e)];exact hk b o hb e
 have nc:∀b,b∉D::G.M->b≠D:=fun b hb z=>hb (by rw [z];exact E2);have np:∀p∈G.pots,p≠D:=fun p hp z=>hDM (z▸(S1.pots p hp).1)
 have Sb:SR C G σ (cutH H' D) env1 n2:=S1.call hk2 fun p hp=>by
   subst hT;have h2:=C.T.keep (hpots p hp) (H':=cutH H' D) (J5 (np p hp)) fun b o hb e=>by rw [J5 (nc b hb)];exact e
   exact C.T.more h2 fun a ha=>.inl (D0 _ ha)
 have:=k ys env1 n2 D us (cutH H' D) rr Sb (f1.trans fun b o hb e=>hk2 b o (fun z=>hb (S1.pots b z).1) e) (by unfold cutH;rw [if_pos rfl]) ?_
 · rw [As eD] at this;exact this
 · exact Reps.mono (G:=⟨D::G.M,G.pots⟩) (fun b o hb e=>by rw [J5 (nc b hb)];exact e) (fun a ha=>.inl (D0 _ ha)) (fun _ _ e=>e) _ _ ry
end
end Pu
end
section
namespace Tb
open PySem L2 Pu
abbrev K7:pF:=e7
def EH:pS:=(qSeq (qSet 2 (qC (.str (C0 "abcdefghijklmnopqrstuvwxyz"))))
   (qSeq (qPar 3 4 (sV (B7 K7 (A1 (qV 0) (A1 (qC (.int 26)) qNil)))) (sV (qOp wIx (qL (qLst (A1 (qC (.int 1)) (A1 (qC (.int 3)) (A1 (qC (.int 5)) (A1 (qC (.int 7)) (A1 (qC (.int 9)) (A1 (qC (.int 11)) (A1 (qC (.int 15)) (A1 (qC (.int 17)) qNil)))))))))) (B7 K7 (A1 (qV 0) (A1 (qC (.int 8)) qNil))))))
   (qSeq (qPar 5 6 (sV (B7 K7 (A1 (qV 0) (A1 (qC (.int 2)) qNil)))) (sV (qC (.str (C0 "")))))
   (qSeq (qFor (Y6 (B7 K7 (A1 (qV 0) (A1 (qC (.int 8)) qNil)))) (gN 7) (qSet 6 (qOp wAdd (qV 6) (qOp wIx (qV 2) (B7 K7 (A1 (qV 0) (A1 (qC (.int 26)) qNil)))))))
   (qSeq (qOwn 8 (qLst qNil))
   (qSeq (qFor (Y6 (qV 1)) (gN 7) (qSeq (qSet 9 (qOp wIx (qV 2) (qOp wMod (qOp wAdd (qV 3) (qOp wMul (qV 4) (qV 7))) (qC (.int 26)))))
   (qSeq (qSet 10 (qSl (qV 6) qNo (V8 (qOp wMod (qOp wAdd (qOp wMul (qV 7) (qV 4)) (qV 3)) (qOp wAdd (qUn wLen (qV 6)) (qC (.int 1)))))))
   (d8 (AD 8 (B7 K7 (A1 (qV 0) (A1 (qOp wAdd (qV 7) (qC (.int 1))) qNil))) (qOp wIx (qL (qLst (A1 (qOp wAdd (qV 10) (qV 9)) (A1 (qOp wAdd (qV 9) (qV 10)) qNil)))) (qV 5)))))))
   (qSeq (qFor (Y6 (qOp wIx (qL (qLst (A1 (qC (.int 0)) (A1 (qC (.int 0)) (A1 (qC (.int 0)) (A1 (qC (.int 1)) (A1 (qC (.int 2)) qNil))))))) (B7 K7 (A1 (qV 0) (A1 (qC (.int 5)) qNil))))) (gN 7) (qSeq (qSet 11 (qOp wIx (qL (qLst (A1 (qC (.str (C0 "drop"))) (A1 (qC (.str (C0 "touch"))) (A1 (qC (.str (C0 "none"))) (A1 (qC (.str (C0 "d"))) (A1 (qC (.str (C0 "u"))) (A1 (qC (.str (C0 "t"))) (A1 (qC (.str (C0 "o"))) qNil))))))))) (B7 K7 (A1 (qV 0) (A1 (qC (.int 7)) qNil)))))
   (qIfS (qB (qOp (wIn 4 true) (qV 11) (qO 8))) (qPut 8 (qV 11) (B7 K7 (A1 (qV 0) (A1 (qV 1) qNil)))) qNx)))
   (qRet (qUn Q7 (qO 8))))))))))
def Cn:pF:=fnP ["_law_pot","_law_many","_law_letters","_law_first","_law_step","_law_ahead","_law_stem","_law_k","_law_boats_here","_law_sign","_law_part","_law_word"] ["_law_pot","_law_many"] EH
def EI:pS:=(qRet (qOp (wEq 4) (qOp wIx (qV 0) (qC (.int 1))) (qC (.int 0))))
def AG:pF:=fnP ["meeting"] ["meeting"] EI
def EJ:pS:=(qSeq (qSet 2 (qL (M7 [none,some 1] (qIt (qV 0)) (gN 0) qTru (T3 (qV 1) (qV 0)))))
   (qRet (qUn wLen (qL (Cc [none,none,none,some 2] (Ap (qV 2)) (gTp 2 (gCn (gN 0) (gCn (gN 1) gNl))) (qIl (qSl (qV 3) (V8 (qOp wAdd (qV 0) (qC (.int 1)))) qNo)) (gN 2) (qB (qOp wLt (qV 2) (qV 1))) (qC (.int 1)))))))
def AH:pF:=fnP ["row","other","goals"] ["row","other"] EJ
def EK:pS:=(qSeq (qOwn 3 (p8 (qV 0)))
   (qSeq (u6 3 (qOp wIx (qV 0) (qV 2)) (qOp wIx (qV 0) (qV 1)) (qV 1) (qV 2))
   (qRet (qUn Q7 (qO 3)))))
def AI:pF:=fnP ["row","one","other","boats"] ["row","one","other"] EK
def EL:pS:=(qSeq (qSet 2 (qV 0))
   (qSeq (qOwn 3 (qLst qNil))
   (qSeq (qFor (Cb (qV 1)) (gTp 2 (gCn (gN 4) (gCn (gN 5) gNl))) (qFor (Ck (qV 4) (T3 (qV 2) (qV 5))) (gN 6) (qSeq (d8 (BU 3 (qTup (A1 (qV 5) (A1 (qOp wIx (qV 2) (qV 6)) qNil)))))
   (qSet 2 (B7 AI (A1 (qV 2) (A1 (qV 6) (A1 (qOp wAdd (qV 6) (qC (.int 1))) qNil))))))))
   (qRet (qUn Q7 (qO 3))))))
def Co:pF:=fnP ["row","other","stands","touches","place","boat","q"] ["row","other"] EL
def EM:pS:=(qSeq (qIfS (qB (B7 AG (A1 (qV 0) qNil))) (qRet (qTup (A1 (B7 AH (A1 (qV 1) (A1 (qV 2) qNil))) (A1 (B7 Co (A1 (qV 1) (A1 (qV 2) qNil))) (A1 (qTup (A1 (qC (.str (C0 "pairs"))) qNil)) qNil))))) qNx)
   Z3)
def u9:pF:=fnP ["meeting","row","other","numbers","table"] ["meeting","row","other"] EM
def EN:pS:=(qRet (V7 (qUn (wIsi "str") (qV 0)) (qOp (wEq 4) (qV 0) (qV 1))))
def Cp:pF:=fnP ["thing","text"] ["thing","text"] EN
def EO:pS:=(qSeq (qIfS (qOr (qNot (qB (qUn (wIsi "tuple") (qV 4)))) (qNot (qB (V6 wLe wLe (qC (.int 1)) (qUn wLen (qV 4)) (qC (.int 2)))))) (qRet (qC (.bl false))) qNx)
   (qSeq (qSet 5 (qUn wLen (qV 1)))
   (qSeq (qIfS (qB (qOp (wEq 4) (qUn wLen (qV 4)) (qC (.int 2)))) Z3 qNx)
   (qSeq (qIfS (qB (B7 Cp (A1 (qOp wIx (qV 4) (qC (.int 0))) (A1 (qC (.str (C0 "pairs"))) qNil)))) (qRet (V7 (B7 AG (A1 (qV 0) qNil)) (qOp (wEq 4) (qV 3) (B7 AH (A1 (qV 1) (A1 (qV 2) qNil)))))) qNx)
   Z3))))
def Cq:pF:=fnP ["meeting","row","other","many","thing","n"] ["meeting","row","other","many","thing"] EO
def EQ:pS:=(qSeq (qSet 2 (qOp wIx (qV 0) (qC (.int 0))))
   (qRet (qOp Ai (qOp wSub (qOp wAdd (qV 1) (qV 2)) (qC (.int 1))) (qV 2))))
def Cr:pF:=fnP ["meeting","n","size"] ["meeting","n"] EQ
def ER:pS:=(qSeq (qSet 3 (qOp wIx (qV 0) (qC (.int 0))))
   (qSeq (qSet 4 (qOp wMul (qV 2) (qV 3)))
   (qRet (qTup (A1 (qV 4) (A1 (qOp wMin (qOp wAdd (qV 4) (qV 3)) (qOp wSub (qV 1) (qC (.int 1)))) qNil))))))
def Cs:pF:=fnP ["meeting","n","k","size","first"] ["meeting","n","k"] ER
def ES:pS:=(qSeq (qOwn 2 (qLst qNil))
   (qSeq (qFor (Y6 (B7 Cr (A1 (qV 0) (A1 (qV 1) qNil)))) (gN 3) (qSeq (qAsg (B7 Cs (A1 (qV 0) (A1 (qV 1) (A1 (qV 3) qNil)))) (gTp 2 (gCn (gN 4) (gCn (gN 5) gNl))))
   (qFor (Ao (qV 4) (qV 5)) (gN 6) (qSeq (qSet 7 (qOp wMin (qOp wAdd (qOp wAdd (qV 6) (qC (.int 1))) (qOp wIx (qV 0) (qC (.int 1)))) (qV 5)))
   (BZ 2 (qL (M7 [none,some 6] (Ao (qOp wAdd (qV 6) (qC (.int 1))) (qOp wAdd (qV 7) (qC (.int 1)))) (gN 0) qTru (qTup (A1 (qV 1) (A1 (qV 0) qNil))))))))))
   (qRet (qUn Q7 (qO 2)))))
def AJ:pF:=fnP ["meeting","n","pairs","k","first","last","p","furthest"] ["meeting","n"] ES
def ET:pS:=(qSeq (qSet 4 (B7 AJ (A1 (qV 0) (A1 (qUn wLen (qV 1)) qNil))))
   (qSeq (qSet 5 (qV 1))
   (qSeq (qFor (qIt (qV 3)) (gTp 2 (gCn (gN 6) (gCn (gN 7) gNl))) (qSeq (qPar 8 9 (sV (T3 (qV 5) (qV 7))) (sV (T3 (qV 5) (qV 6))))
   (qSeq (qIfS (qB (qOp (wIn 4 true) (qTup (A1 (qV 8) (A1 (qV 9) qNil))) (qV 4))) (qRet (qC (.bl false))) qNx)
   (qSet 5 (B7 AI (A1 (qV 5) (A1 (qV 8) (A1 (qV 9) qNil))))))))
   (qRet (qOp (wEq 4) (qV 5) (qV 2))))))
def Cu:pF:=fnP ["meeting","row","other","pairs","places","stands","x","y","ahead","behind"] ["meeting","row","other","pairs"] ET
def EU:pS:=(qSeq (qIfS (qOr (qNot (qB (qUn (wIsi "str") (qV 0)))) (qNot (qB (V6 wLe wLe (qC (.int 1)) (qUn wLen (qV 0)) (qC (.int 8)))))) (qRet (qC (.bl false))) qNx)
   (qRet (qUn wAll (qL (M7 [none] (qIs (qV 0)) (gN 0) qTru (V6 wLe wLe (qC (.str (C0 "a"))) (qV 0) (qC (.str (C0 "z")))))))))
def Cv:pF:=fnP ["thing"] ["thing"] EU
def EV:pS:=(qSeq (qIfS (qOr (qNot (qB (qUn (wIsi "tuple") (qV 1)))) (qB (qOp (wNe 4) (qUn wLen (qV 1)) (qC (.int 2))))) (qRet (qC (.bl false))) qNx)
   (qRet (qUn wAll (qL (M7 [none,some 0] (qIt (qV 1)) (gN 0) qTru (V7 (B7 Cv (A1 (qV 0) qNil)) (qOp (wIn 4 false) (qV 0) (qV 1))))))))
def Cw:pF:=fnP ["row","thing"] ["row","thing"] EV
def EX:pS:=(qSeq (qIfS (qOr (qNot (qB (qUn (wIsi "tuple") (qV 3)))) (qNot (qB (qUn wAll (qL (M7 [none,some 1] (qIt (qV 3)) (gN 0) qTru (B7 Cw (A1 (qV 1) (A1 (qV 0) qNil))))))))) (qRet (qC (.bl false))) qNx)
   (qRet (B7 Cu (A1 (qV 0) (A1 (qV 1) (A1 (qV 2) (A1 (qV 3) qNil)))))))
def Cy:pF:=fnP ["meeting","row","other","thing"] ["meeting","row","other","thing"] EX
def EY:pS:=(qSeq (qIfS (qOr (qNot (qB (qUn (wIsi "int") (qV 0)))) (qB (qUn (wIsi "bool") (qV 0)))) (qRet (qC (.bl false))) qNx)
   (qRet (V6 wLe wLe (qV 1) (qV 0) (qV 2))))
def Cz:pF:=fnP ["thing","low","high"] ["thing","low","high"] EY
def EZ:pS:=(qSeq (qIfS (qOr (qNot (qB (qUn (wIsi "tuple") (qV 3)))) (qB (qOp (wNe 4) (qUn wLen (qV 3)) (qC (.int 3))))) (qRet (qC (.bl false))) qNx)
   (qSeq (qAsg (qV 3) (gTp 3 (gCn (gN 4) (gCn (gN 5) (gCn (gN 6) gNl)))))
   (qSeq (qIfS (qOr (qNot (qB (B7 Cy (A1 (qV 0) (A1 (qV 1) (A1 (qV 2) (A1 (qV 5) qNil))))))) (qNot (qB (B7 Cz (A1 (qV 4) (A1 (qUn wLen (qV 5)) (A1 (qUn wLen (qV 5)) qNil))))))) (qRet (qC (.bl false))) qNx)
   (qRet (B7 Cq (A1 (qV 0) (A1 (qV 1) (A1 (qV 2) (A1 (qV 4) (A1 (qV 6) qNil))))))))))
def AK:pF:=fnP ["meeting","row","other","thing","many","touches","paper"] ["meeting","row","other","thing"] EZ
def E_:pS:=(qSeq (qPar 2 3 (sV (B7 K7 (A1 (qV 0) (A1 (qC (.int 6)) qNil)))) (sV (qUn wLen (qV 1))))
   (qSeq (qIfS (qB (qOp wLt (qV 2) (qC (.int 3)))) (qSeq (qOwn 4 (qLst qNil))
   (qSeq (qFor (qIt (qV 1)) (gN 5) (d8 (AD 4 (B7 K7 (A1 (qV 0) (A1 (qOp wAdd (qUn wLen (qO 4)) (qC (.int 1))) qNil))) (qV 5))))
   (qRet (qUn Q7 (qO 4))))) qNx)
   (qSeq (qPar 6 7 (sV (B7 K7 (A1 (qV 0) (A1 (qV 3) qNil)))) (sV (B7 K7 (A1 (qV 0) (A1 (qV 3) qNil)))))
   (qSeq (qOwn 4 (p8 (qV 1)))
   (qSeq (u6 4 (qOp wIx (qV 1) (qV 7)) (qOp wIx (qV 1) (qV 6)) (qV 6) (qV 7))
   (qRet (qOp wIx (qL (qLst (A1 (qUn wRev (qV 1)) (A1 (qOp wAdd (qSl (qV 1) (V8 (qUn wNeg (qC (.int 1)))) qNo) (qSl (qV 1) qNo (V8 (qUn wNeg (qC (.int 1)))))) (A1 (qUn Q7 (qO 4)) qNil))))) (qOp wSub (qV 2) (qC (.int 3))))))))))
def CA:pF:=fnP ["_law_pot","_law_row","_law_way","_law_n","_law_boats_here","_law_boat","_law_p","_law_q"] ["_law_pot","_law_row"] E_
def Fa:pS:=(qSeq (qSet 2 (qL (M7 [none,some 1] (qIt (qV 0)) (gN 0) qTru (T3 (qV 1) (qV 0)))))
   (qRet (qUn wSum (qL (M7 [none,none,some 2] (Ap (qV 2)) (gTp 2 (gCn (gN 0) (gCn (gN 1) gNl))) qTru (qUn wLen (qL (M7 [none,some 1] (qIl (qSl (qV 2) (V8 (qV 0)) qNo)) (gN 0) (qB (qOp wLt (qV 0) (qV 1))) (qC (.int 1))))))))))
def AL:pF:=fnP ["_law_row","_law_other","_law_places"] ["_law_row","_law_other"] Fa
def Fb:pS:=(qSeq (qSet 5 (qUn wLen (qV 1)))
   (qSeq (qIfS (qOr (qNot (qB (qUn (wIsi "tuple") (qV 4)))) (qOr (qB (qOp (wIn 4 true) (qUn wLen (qV 4)) (qTup (A1 (qC (.int 1)) (A1 (qC (.int 2)) qNil))))) (qNot (qB (qUn (wIsi "str") (qOp wIx (qV 4) (qC (.int 0)))))))) (qRet (qC (.bl false))) qNx)
   (qSeq (qIfS (qB (qOp (wEq 4) (qUn wLen (qV 4)) (qC (.int 2)))) Z3 qNx)
   (qSeq (qIfS (qB (qOp (wEq 4) (qOp wIx (qV 4) (qC (.int 0))) (qC (.str (C0 "pairs"))))) (qRet (V7 (qOp (wEq 4) (qOp wIx (qV 0) (qC (.int 1))) (qC (.int 0))) (qOp (wEq 4) (qV 3) (B7 AL (A1 (qV 1) (A1 (qV 2) qNil)))))) qNx)
   Z3))))
def CB:pF:=fnP ["_law_meeting","_law_row","_law_other","_law_many","_law_paper","_law_n"] ["_law_meeting","_law_row","_law_other","_law_many","_law_paper"] Fb
def Fc:pS:=(qSeq (qOwn 3 (p8 (qV 0)))
   (qSeq (u6 3 (qOp wIx (qV 0) (qV 2)) (qOp wIx (qV 0) (qV 1)) (qV 1) (qV 2))
   (qRet (qUn Q7 (qO 3)))))
def CC:pF:=fnP ["_law_row","_law_p","_law_q","_law_boats_here"] ["_law_row","_law_p","_law_q"] Fc
def Fd:pS:=(qRet (V7 (qOp wLt (qV 1) (qV 2)) (V7 (qOp wLe (qOp wSub (qOp wSub (qV 2) (qV 1)) (qC (.int 1))) (qOp wIx (qV 0) (qC (.int 1)))) (qOp wLe (qV 2) (qOp wAdd (qOp wMul (qOp Ai (qV 1) (qOp wIx (qV 0) (qC (.int 0)))) (qOp wIx (qV 0) (qC (.int 0)))) (qOp wIx (qV 0) (qC (.int 0))))))))
def CD:pF:=fnP ["_law_meeting","_law_p","_law_q"] ["_law_meeting","_law_p","_law_q"] Fd
def Fe:pS:=(qSeq (qIfS (qNot (qB (qUn (wIsi "tuple") (qV 2)))) (qRet (qC .non)) qNx)
   (qSeq (qFor (qIt (qV 2)) (gN 3) (qSeq (qIfS (qOr (qNot (qB (qUn (wIsi "tuple") (qV 3)))) (qOr (qB (qOp (wNe 4) (qUn wLen (qV 3)) (qC (.int 2)))) (qOr (qB (qOp (wIn 4 true) (qOp wIx (qV 3) (qC (.int 0))) (qV 1))) (qB (qOp (wIn 4 true) (qOp wIx (qV 3) (qC (.int 1))) (qV 1)))))) (qRet (qC .non)) qNx)
   (qSeq (qPar 4 5 (sV (T3 (qV 1) (qOp wIx (qV 3) (qC (.int 1))))) (sV (T3 (qV 1) (qOp wIx (qV 3) (qC (.int 0))))))
   (qSeq (qIfS (qNot (qB (B7 CD (A1 (qV 0) (A1 (qV 4) (A1 (qV 5) qNil)))))) (qRet (qC .non)) qNx)
   (qSet 1 (B7 CC (A1 (qV 1) (A1 (qV 4) (A1 (qV 5) qNil)))))))))
   (qRet (qV 1))))
def CF:pF:=fnP ["_law_meeting","_law_row","_law_touches","_law_pair","_law_p","_law_q"] ["_law_meeting","_law_row","_law_touches"] Fe
def Ff:pS:=(qSeq (qIfS (qOr (qNot (qB (qUn (wIsi "tuple") (qV 3)))) (qOr (qB (qOp (wNe 4) (qUn wLen (qV 3)) (qC (.int 3)))) (qOr (qNot (qB (qUn (wIsi "int") (qOp wIx (qV 3) (qC (.int 0)))))) (qB (qUn (wIsi "bool") (qOp wIx (qV 3) (qC (.int 0)))))))) (qRet (qC (.bl false))) qNx)
   (qSeq (qIfS (qOr (qNot (qB (qUn (wIsi "tuple") (qOp wIx (qV 3) (qC (.int 1)))))) (qOr (qB (qOp (wNe 4) (qUn wLen (qOp wIx (qV 3) (qC (.int 1)))) (qOp wIx (qV 3) (qC (.int 0))))) (qB (qOp (wNe 4) (B7 CF (A1 (qV 0) (A1 (qV 1) (A1 (qOp wIx (qV 3) (qC (.int 1))) qNil)))) (qV 2))))) (qRet (qC (.bl false))) qNx)
   (qRet (B7 CB (A1 (qV 0) (A1 (qV 1) (A1 (qV 2) (A1 (qOp wIx (qV 3) (qC (.int 0))) (A1 (qOp wIx (qV 3) (qC (.int 2))) qNil)))))))))
def AM:pF:=fnP ["_law_meeting","_law_row","_law_other","_law_thing"] ["_law_meeting","_law_row","_law_other","_law_thing"] Ff
def CG:pS:=(qSeq (qOwn 1 (qLst qNil))
   (qSeq (qFor (Y6 (qOp wMax (qC (.int 1)) (qOp wMin (qC (.int 2)) (qUn wLen (qV 0))))) (gN 2) (qSeq (B_ 3 (qV 0) (qV 2))
   (qSeq (qSet 4 (qTup (A1 (qOp wAdd (qC (.int 1)) (B7 K7 (A1 (qV 3) (A1 (qC (.int 8)) qNil)))) (A1 (qC (.int 0)) qNil))))
   (qSeq (qSet 5 (B7 Cn (A1 (qV 3) (A1 (qOp wIx (qL (qLst (A1 (qC (.int 1)) (A1 (qC (.int 2)) (A1 (qC (.int 4)) (A1 (qC (.int 6)) (A1 (qC (.int 9)) (A1 (qC (.int 24)) qNil)))))))) (B7 K7 (A1 (qV 3) (A1 (qC (.int 6)) qNil)))) qNil))))
   (d8 (BU 1 (qTup (A1 (qV 4) (A1 (qV 5) (A1 (B7 CA (A1 (qV 3) (A1 (qV 5) qNil))) qNil))))))))))
   (qSeq (BT 1 (qSet 6 (qL (M7 [none,none,none] (qIl (qV 1)) (gTp 3 (gCn (gN 0) (gCn (gN 1) (gCn (gN 2) gNl)))) qTru (B7 u9 (A1 (qV 0) (A1 (qV 1) (A1 (qV 2) qNil))))))))
   (qSeq (qFor (qZip true true (qV 1) (qV 6)) (gTp 2 (gCn (gTp 3 (gCn (gN 4) (gCn (gN 5) (gCn (gN 7) gNl)))) (gCn (gN 8) gNl))) (qSeq (qIfS (qOr (qNot (qB (B7 AM (A1 (qV 4) (A1 (qV 5) (A1 (qV 7) (A1 (qV 8) qNil))))))) (qB (qOp (wNe 4) (qOp wIx (qV 8) (qC (.int 0))) (B7 AL (A1 (qV 5) (A1 (qV 7) qNil)))))) (qRet (qC (.bl false))) qNx)
   (qSeq (qIfS (qB (qOp AE (B7 AK (A1 (qV 4) (A1 (qV 5) (A1 (qV 7) (A1 (qV 8) qNil))))) (qC (.bl true)))) (qRet (qC (.bl false))) qNx)
   (qIfS (qB (qOp (wNe 4) (qUn u3 (B7 AK (A1 (qV 4) (A1 (qV 7) (A1 (qV 5) (A1 (qV 8) qNil)))))) (qUn u3 (B7 AM (A1 (qV 4) (A1 (qV 7) (A1 (qV 5) (A1 (qV 8) qNil)))))))) (qRet (qC (.bl false))) qNx))))
   (qRet (qC (.bl true)))))))
end Tb
end
section
namespace Tb
open PySem L2 Pu
def top (i:Nat):Stmt:=PySem.Challenge.pw_touchboats_k45_fewest_of_neighbours.main.body.getD i (.Pass ⟨0,0,0,0⟩)
end Tb
end
section
namespace Tb
open PySem L2 Pu
theorem Fg (a b:Int):eqP (.int a) (.int b)=decide (a=b):=by
 show(a == b)=_;rw [AX]
theorem Fh (a b:Str):eqP (.str a) (.str b)=decide (a=b):=by
 show(a == b)=_;rw [AX]
theorem Fi (a b:Bool):eqP (.bl a) (.bl b)=decide (a=b):=by
 show(a == b)=_;rw [AX]
set_option compiler.extract_closed false in
set_option hygiene false in
local macro_rules | `(tactic| walk_at "pd")=>`(tactic| dsimp only [dreduceIte,true_and,and_true,y8,beq_self_eq_true,Nat.reduceLeDiff,Nat.reduceLT,Int.reduceLT,Int.reduceLE,N5,Fg,Fh,Fi,qSeq,qNx,qSet,qOwn,qAsg,d8,qRet,qRetO,qIfS,qPar,sV,qPut,gAt,BT,Av,qV,qO,qC,qOp,qUn,wI,wI0,wAdd,wSub,wMul,Ai,wMod,wEq,wNe,wLt,wLe,qB,V6,qOr,qNot,V7,qNil,A1,qTup,qLst,qL,wIx,qNo,V8,qSl,wSl,wLen,wAll,Q7,p8,wIsi,wMin,wMax,B7,gN,gNl,gCn,gTp,qIl,qIt,Y6,Ao,qIs,Ap,capV,capS,qTru,M7,wNeg,BU,BS,W4,tyP,isT,List.map,List.set,P6,List.length_nil,AR,x4,List.cons_append,List.nil_append,Z8,Nat.reduceSub,Nat.reduceAdd,Option.bind,Bool.not_true,Bool.not_false,Bool.true_or,Bool.false_or,Bool.or_false,Bool.true_and,y9,String.reduceBEq,cmpb,V5,eqP_ll,eqP_tt,El,HI,decide_true,decide_false,e7,wRev,BZ,B_,Cb,qZip,qFor,AD,T3,u6,at2_0,at2_1,at3_0,at3_1,at3_2,grd_t,Cc,K7,Ck,Z3,AE,wSum])
set_option hygiene false in
local macro_rules | `(tactic| walk_at "pu")=>`(tactic| (try walk_at "pd") <;> (try simp only [Fg,Fh,Fi,decide_true,decide_false,true_and,and_true,reduceIte,Nat.reduceLeDiff,Nat.reduceLT,Int.reduceLT,Int.reduceLE,N5,beq_self_eq_true,y8]))
def inv:List Nat->Nat
 | []=>0
 | a::l=>(l.filter fun b=>decide (b < a)).length + inv l
def cntP (l1 l2:List Str)(f:Str->Str->Bool):Nat:=(l1.map fun x=>(l2.filter (f x)).length).sum
theorem Fj {α:Type}:∀l:List α,(l.map fun _=>0).sum=0
 | []=>rfl
 | a::l=>by rw [M2,List.sum_cons,Fj l]
def cr (row other:List Str)(x y:Str):Bool:=decide (ixS row x < ixS row y) && decide (ixS other y < ixS other x)
theorem Fk {other row:List Str}(nd:row.Nodup):∀(suf pre:List Str),row=pre++suf->inv (suf.map (ixS other))=(suf.map fun x=>(row.filter (cr row other x)).length).sum
 | [],_,_=>rfl
 | x :: suf, pre, e => by
   have ih:=Fk (other:=other) nd suf (pre++[x]) (by rw [e,j8];rfl);rw [M2,M2,List.sum_cons];show((suf.map (ixS other)).filter fun b=>decide (b < ixS other x)).length + inv (suf.map (ixS other))=_;rw [ih]
   congr 1
   have hx:ixS row x=pre.length:=Z2 nd (G8 (show x∈row by rw [e];simp)).1 (by rw [e,T9 (A8 _),Nat.sub_self];rfl)
   have hp:∀y∈pre,ixS row y < pre.length:=fun y hy=>by
     obtain⟨j,hj,ej⟩:=j7 hy;have:=Z2 nd (G8 (show y∈row by rw [e];simp [hy])).1 (show row[j]?=some y by rw [e,U1 hj,C4 hj,ej]);omega
   have hs:∀y∈suf,pre.length < ixS row y:=fun y hy=>by
     obtain⟨j,hj,ej⟩:=j7 hy
     have:=Z2 nd (G8 (show y∈row by rw [e];simp [hy])).1 (show row[pre.length + 1 + j]?=some y by
       rw [e,T9 (by omega),show pre.length + 1 + j - pre.length=j + 1 by omega,x4,C4 hj,ej])
     omega
   have f0:row.filter (cr row other x)=suf.filter fun y=>decide (ixS other y < ixS other x):=by
     have f1:pre.filter (cr row other x)=[]:=List.filter_eq_nil_iff.mpr fun y hy z=>by
       unfold cr at z;rw [hx,decide_eq_false (by have:=hp y hy;omega),y9] at z;cases z
     have f2:cr row other x x=false:=by unfold cr;rw [decide_eq_false (by omega),y9]
     have f3:suf.filter (cr row other x)=suf.filter fun y=>decide (ixS other y < ixS other x):=List.filter_congr fun y hy=>by
       unfold cr;rw [hx,decide_eq_true (hs y hy),Bool.true_and]
     have:(pre++x::suf).filter (cr row other x)=suf.filter fun y=>decide (ixS other y < ixS other x):=by
       rw [List.filter_append,f1,List.filter_cons_of_neg (by rw [f2];exact M3),f3];rfl
     rw [<- this,<- e]
   rw [f0,List.filter_map,B8]
   rfl
theorem I_ {other row:List Str}(nd:row.Nodup):inv (row.map (ixS other))=cntP row row (cr row other):=Fk nd row [] rfl
theorem inv_id {row:List Str}(nd:row.Nodup):inv (row.map (ixS row))=0:=by
 rw [I_ nd];unfold cntP;rw [<- Fj row];refine congrArg List.sum (List.map_congr_left fun x _=>?_);rw [List.length_eq_zero_iff,List.filter_eq_nil_iff];intro y _ z;unfold cr at z;simp only [R0,decide_eq_true_eq] at z;omega
theorem Fm {α:Type}{x:α}:∀{l:List α} (i:Nat),l.Nodup->x∉l->(l.set i x).Nodup
 | [],_,h,_=>h
 | y :: l, 0, h, hx => by
   rw [List.set_cons_zero,O5];exact⟨fun z=>hx (D0 _ z),(O5.mp h).2⟩
 | y :: l, i + 1, h, hx => by
   rw [List.set_cons_succ,O5];refine⟨fun z=>?_,Fm i (O5.mp h).2 fun z=>hx (D0 _ z)⟩;rcases List.mem_or_eq_of_mem_set z with z | z
   · exact(O5.mp h).1 z
   · exact hx (by rw [<- z];exact E2)
theorem Fn {α:Type}(x:α):∀(xs:List α) (j:Nat),(insL xs j x).Perm (x::xs):=by
 intro xs j;unfold insL;have:=(List.perm_middle (a:=x) (l₁:=xs.take j) (l₂:=xs.drop j));rw [AU] at this;exact this
theorem Fo {α β:Type}(f:α->β)(xs:List α)(j:Nat)(x:α):insL (xs.map f) j (f x)=(insL xs j x).map f:=by
 unfold insL;rw [Z7,M2,List.map_take,List.map_drop]
def Sg (ah:Int)(c:Nat)(z:Str):Prop:=(ah=0->∃l,z.cps.toList=l++[c])/\(ah=1->∃l,z.cps.toList=c::l)
theorem Sg.inj {ah:Int}{c d:Nat}{z:Str}(h:ah=0\/ah=1)(h1:Sg ah c z)(h2:Sg ah d z):c=d:=by
 rcases h with h | h
 · obtain⟨l,e1⟩:=h1.1 h;obtain⟨l',e2⟩:=h2.1 h;rw [e1] at e2;have:=congrArg List.getLast? e2
   simpa using this
 · obtain⟨l,e1⟩:=h1.2 h;obtain⟨l',e2⟩:=h2.2 h;rw [e1] at e2;exact(List.cons.inj e2).1
theorem Ja {q n:Nat}{many:Int}{R:PV->Nat->Prop}(h0:1<=many)(h1:many<=24)(hn:n<=999900000)(h:∀(zs:List Str) n',(zs.length:Int)=many->RowS zs->n'<=n + 1000->R (rowP zs) n'):Cn [.pot q,.int many] n R:=by
 refine⟨rfl,?_⟩;unfold EH;have l26:LETS.length=26:=Eu;have ll:LETS.length<=1000000:=by rw [l26];decide
 walk_at "pu";refine⟨by omega,fun fi f0 f1=>⟨by omega,fun d1 d10 d11=>?_⟩⟩;obtain⟨x,hx,ex⟩:=Aw (xs:=[PV.int 1,PV.int 3,PV.int 5,PV.int 7,PV.int 9,PV.int 11,PV.int 15,PV.int 17]) d10 d11
 have hx':∃t:Int,x=.int t/\t∈u7/\0<=t/\t<=17:=by
   simp only [B9,X4,or_false] at hx;rcases hx with rfl | rfl | rfl | rfl | rfl | rfl | rfl | rfl <;> exact⟨_,rfl,by decide,by decide,by decide⟩
 obtain⟨t,rfl,ht,t0,t1⟩:=hx';rw [ex];refine⟨by omega,fun ah a0 a1=>⟨by omega,fun ln l0 l1=>⟨by omega,?_⟩⟩⟩;have ha:ah=0\/ah=1:=by omega
 refine M8 (fun i env m=>∃s7,∃z:Str,env=[some (.v (.pot q)),some (.v (.int many)),some (.v (.str LETS)),some (.v (.int fi)),some (.v (.int t)),some (.v (.int ah)),some (.v (.str z)),s7,none,none,none,none]/\z.length<=i/\(∀c∈z.cps.toList,Ltr c)/\m<=n + 4 + i) _ 0 _ _ ⟨none,_,rfl,A8 _,(fun c z=>by cases z),by omega⟩ (fun i x env m N ex hI hN=>?_) (fun env m hI=>?_)
 · obtain⟨hi,rfl⟩:=e9 ex;obtain⟨s7,z,rfl,hz,lz,hm⟩:=hI;walk_at "pu";refine⟨by omega,fun d d0 d1=>⟨ll,?_⟩⟩;rw [Ew d0 d1];dsimp only;have e1:∀c:Nat,(⟨#[c]⟩:Str).length=1:=fun _=>rfl;refine⟨by rw [e1];omega,hN _ _ ⟨some (.v (.int (0 + i))),_,rfl,?_,?_,by omega⟩⟩
   · rw [l8,c7,K8,<- l8];show _ + 1<=_;omega
   · rw [c7];intro c hc;rcases M1.mp hc with hc | hc
     · exact lz c hc
     · rw [K1.mp hc];exact⟨by omega,by omega⟩
 · obtain⟨s7,stem,rfl,hz,lz,hm⟩:=hI;rw [Y9] at hz hm;walk_at "pu";refine⟨by omega,?_⟩;refine M8 (fun i env m'=>∃s7 s9 s10,∃zs:List Str,env=[some (.v (.pot q)),some (.v (.int many)),some (.v (.str LETS)),some (.v (.int fi)),some (.v (.int t)),some (.v (.int ah)),some (.v (.str stem)),s7,some (.own (zs.map PV.str)),s9,s10,none]/\zs.length=i/\RowS zs/\(∀z∈zs,∃j,j < i/\Sg ah (lt fi t j) z)/\m'<=n + 20 + i) _ 0 _ _ ⟨s7,none,none,[],rfl,rfl,⟨List.nodup_nil,(fun _ z=>by cases z)⟩,(fun _ z=>by cases z),by omega⟩ (fun i x env m' N ex hI hN=>?_) (fun env m' hI=>?_)
   · obtain⟨hi,rfl⟩:=e9 ex;obtain⟨s7,s9,s10,zs,rfl,hl,nd,hg,hm'⟩:=hI;generalize hF:zs.map PV.str=FF;have Fl:FF.length=zs.length:=by rw [<- hF,B8]
     walk_at "pu";have e1:∀c:Nat,(⟨#[c]⟩:Str).length=1:=fun _=>rfl;refine⟨.inl (IF ht),ll,?_⟩;rw [show fi + t * (0 + (i:Int))=fi + (i:Int) * t by rw [Int.zero_add,Int.mul_comm],lt_at]
     have lp:∀c∈(Y2 stem none (some (((0 + (i:Int)) * t + fi) % ((stem.length:Int) + 1)))).cps.toList,Ltr c:=fun c hc=>by
       obtain⟨p,hp⟩:=Ba (X9 ((0 + (i:Int)) * t + fi) (show(stem.length:Int) + 1≠0 by omega));have:=b3 ((0 + (i:Int)) * t + fi) (show(0:Int) < (stem.length:Int) + 1 by omega);rw [hp] at hc this;rw [Ib stem (p:=p) (by omega)] at hc;exact lz c (List.mem_of_mem_take hc)
     have pl:(Y2 stem none (some (((0 + (i:Int)) * t + fi) % ((stem.length:Int) + 1)))).length<=stem.length:=k6 stem _ _;generalize Y2 stem none (some (((0 + (i:Int)) * t + fi) % ((stem.length:Int) + 1)))=part at pl lp ⊢;refine⟨.inl ⟨by omega,by omega⟩,by omega,by omega,by omega,⟨_,rfl⟩,⟨by omega,by omega,by omega⟩,fun d d0 d1=>⟨by rw [e1];omega,by rw [e1];omega,?_⟩⟩
     have pick:∃z:Str,atI [PV.str (part++(⟨#[lt fi t i]⟩:Str)),PV.str ((⟨#[lt fi t i]⟩:Str)++part)] ah=some (.str z)/\Sg ah (lt fi t i) z/\T0 z:=by
       have p7:part.cps.toList.length<=7:=by rw [<- l8];omega
       have ll:Ltr (lt fi t i):=by unfold lt;exact⟨by omega,by omega⟩
       have bo:∀l:List Nat,(∀c∈l,c∈part.cps.toList\/c=lt fi t i)->l.length=part.cps.toList.length + 1->1<=l.length/\l.length<=8/\∀c∈l,Ltr c:=fun l h e=>⟨by omega,by omega,fun c hc=>(h c hc).elim (lp c) fun e=>by rw [e];exact ll⟩;rcases ha with rfl | rfl
       · refine⟨_,rfl,⟨fun _=>⟨part.cps.toList,c7 _ _⟩,fun z=>by cases z⟩,?_⟩;unfold T0;rw [c7];exact bo _ (fun c hc=>(M1.mp hc).imp id K1.mp) (K8 ..)
       · refine⟨_,rfl,⟨(fun z=>by cases z),fun _=>⟨part.cps.toList,c7 _ _⟩⟩,?_⟩;unfold T0;rw [c7];exact bo _ (fun c hc=>(M1.mp hc).elim (fun h=>.inr (K1.mp h)) .inl) (by rw [K8];exact Nat.add_comm ..)
     obtain⟨z,ez,sz,bz⟩:=pick;rw [ez]
     have nz:z∉zs:=fun c=>by
       obtain⟨j,hj,sj⟩:=hg z c;exact lt_ne ht f0 (show j < i by omega) (by omega) (Sg.inj ha sj sz)
     have pm:=Fn z zs d.toNat;refine⟨⟨by omega,by omega,by omega⟩,hN _ _ ⟨some (.v (.int (0 + i))),some (.v (.str ⟨#[lt fi t i]⟩)),some (.v (.str part)),insL zs d.toNat z,?_,by rw [Cd];omega,⟨pm.nodup_iff.mpr (O5.mpr ⟨nz,nd.1⟩),fun a ha=>(B9.mp (pm.mem_iff.mp ha)).elim (fun e=>by rw [e];exact bz) (nd.2 a)⟩,fun y hy=>?_,by omega⟩⟩
     · rw [<- hF,Fo]
     · rcases B9.mp (pm.mem_iff.mp hy) with e | hy
       · rw [e];exact⟨i,by omega,sz⟩
       · obtain⟨j,hj,sj⟩:=hg y hy;exact⟨j,by omega,sj⟩
   · obtain⟨s7,s9,s10,zs,rfl,hl,nd,hg,hm'⟩:=hI;rw [Y9] at hl hm';clear hg;generalize hF:zs.map PV.str=FF;walk_at "pu";refine⟨by omega,fun d d0 d1=>?_⟩;obtain⟨x,hx,ex⟩:=Aw (xs:=[PV.int 0,PV.int 0,PV.int 0,PV.int 1,PV.int 2]) d0 d1
     have hx':∃k:Int,x=.int k/\0<=k/\k<=2:=by
       simp only [B9,X4,or_false] at hx;rcases hx with rfl | rfl | rfl | rfl | rfl <;> exact⟨_,rfl,by decide,by decide⟩
     obtain⟨k,rfl,k0,k2⟩:=hx';rw [ex];refine⟨by omega,?_⟩;subst hF;refine M8 (fun i env m2=>∃s7 s11,∃ys:List Str,env=[some (.v (.pot q)),some (.v (.int many)),some (.v (.str LETS)),some (.v (.int fi)),some (.v (.int t)),some (.v (.int ah)),some (.v (.str stem)),s7,some (.own (ys.map PV.str)),s9,s10,s11]/\ys.length=zs.length/\RowS ys/\m2<=m' + 1 + 2 * i) _ 0 _ _ ⟨s7,none,zs,rfl,rfl,nd,by omega⟩ (fun i x env m2 N ex hI hN=>?_) (fun env m2 hI=>?_)
     · obtain⟨hi,rfl⟩:=e9 ex;obtain⟨s7,s11,ys,rfl,ly,ndy,hm2⟩:=hI;generalize hF:ys.map PV.str=FF;have Fl:FF.length=ys.length:=by rw [<- hF,B8]
       walk_at "pu";refine⟨by omega,fun e e0 e1=>?_⟩;obtain⟨x,hx,ex⟩:=Aw (xs:=[PV.str (C0 "drop"),PV.str (C0 "touch"),PV.str (C0 "none"),PV.str (C0 "d"),PV.str (C0 "u"),PV.str (C0 "t"),PV.str (C0 "o")]) e0 e1;rw [ex]
       have bx:∃z:Str,x=.str z/\T0 z:=by
         simp only [B9,X4,or_false] at hx;rcases hx with rfl | rfl | rfl | rfl | rfl | rfl | rfl <;> exact⟨_,rfl,by decide,by decide,by unfold Ltr;decide⟩
       obtain⟨z,rfl,bz⟩:=bx;rw [<- hF];refine II rfl ?_;dsimp only
       by_cases cz:z∈ys
       · refine if_f (by rw [decide_eq_true cz];rfl) (hN _ _ ⟨some (.v (.int (0 + i))),some (.v (.str z)),ys,rfl,ly,ndy,by omega⟩)
       · refine if_t (by rw [decide_eq_false cz];rfl) ⟨⟨_,rfl⟩,⟨by omega,by omega,by omega⟩,fun j j0 j1=>?_⟩;rw [V3 j0 (by rw [B8];omega)];refine hN _ _ ⟨some (.v (.int (0 + i))),some (.v (.str z)),ys.set j.toNat z,?_,by rw [F6];exact ly,⟨Fm j.toNat ndy.1 cz,fun a ha=>(List.mem_or_eq_of_mem_set ha).elim (ndy.2 a) fun e=>by rw [e];exact bz⟩,by omega⟩;rw [X6]
     · obtain⟨s7,s11,ys,rfl,ly,ndy,hm2⟩:=hI;rw [Y9] at hm2;walk_at "pu";exact h ys _ (by omega) ndy (by omega)
theorem at_nm {Z:List PV}(hZ:zs.map PV.str=Z){i:Nat}(h:i < zs.length):atI Z (i:Int)=some (.str (nm zs i)):=by
 obtain⟨x,e1,e2⟩:=BD (xs:=Z) (d:=(i:Int)) (by omega) (by grind);rw [e2];rw [O7,<- hZ,F2,W6 h] at e1
 grind
theorem Fp {n d:Nat}(h:1<=n):HT.sIx n d (some (-1))=n - 1:=by
 show(if(-1:Int) < 0 then((-1:Int) + (n:Int)).toNat else min (-1:Int).toNat n)=n - 1;rw [if_pos (by decide)];omega
theorem m_goal {q n:Nat}{zs:List Str}{R:PV->Nat->Prop}(h1:1<=zs.length)(h2:zs.length<=24)(hn:n<=999900000)(h:∀(ys:List Str) n',ys.Perm zs->n'<=n + 100->R (rowP ys) n'):CA [.pot q,rowP zs] n R:=by
 refine⟨rfl,?_⟩;unfold E_;have hr0:rowP zs=.tup (zs.map PV.str):=rfl;have hat:∀i:Nat,i < zs.length->atI (zs.map PV.str) (i:Int)=some (.str (nm zs i)):=fun i hi=>at_nm rfl hi;generalize hZ:zs.map PV.str=Z at *;have Zl:Z.length=zs.length:=by rw [<- hZ,B8]
 rw [hr0];walk_at "pu";refine⟨by omega,fun w w0 w1=>?_⟩
 by_cases c:w < 3
 · refine if_t (decide_eq_true c) ?_;refine M8 (fun i env m=>∃s5,∃ys:List Str,env=[some (.v (.pot q)),some (.v (.tup Z)),some (.v (.int w)),some (.v (.int (Z.length:Int))),some (.own (ys.map PV.str)),s5,none,none]/\ys.Perm (zs.take i)/\ys.length=i/\m<=n + 1 + i) _ 0 _ _ ⟨none,[],rfl,by rw [List.take_zero],rfl,by omega⟩ (fun i x env m N ex hI hN=>?_) (fun env m hI=>?_)
   · rw [<- hZ] at ex;obtain⟨z,ez,rfl⟩:=h9 ex;obtain⟨s5,ys,rfl,pm,hl,hm⟩:=hI;have hi:=(D2.mp ez).1;generalize hF:ys.map PV.str=FF;have Fl:FF.length=ys.length:=by rw [<- hF,B8]
     walk_at "pu";refine⟨⟨_,rfl⟩,by omega,fun d d0 d1=>⟨by omega,hN _ _ ⟨some (.v (.str z)),insL ys d.toNat z,?_,?_,by rw [Cd];omega,by omega⟩⟩⟩
     · rw [<- hF,Fo]
     · rw [K2] at pm ⊢;rw [Ci ez];exact(Fn z ys d.toNat).trans ((pm.cons z).trans (List.perm_append_singleton z _).symm)
   · obtain⟨s5,ys,rfl,pm,hl,hm⟩:=hI;rw [K2,Zl,List.take_length] at pm;walk_at "pu";exact h ys _ pm (by omega)
 · refine if_f (decide_eq_false c) ⟨by omega,fun a a0 a1=>⟨by omega,fun b b0 b1=>?_⟩⟩;obtain⟨an,rfl⟩:=Ba a0;obtain⟨bn,rfl⟩:=Ba b0;rw [hat bn (by omega),hat an (by omega)];dsimp only;refine⟨⟨_,rfl⟩,?_⟩;rw [V3 (by omega) (by omega)];dsimp only;rw [V3 (by omega) (by rw [F6];omega)];dsimp only;rw [O7,O7]
   have c1:cutP Z (some (-1)) none=Z.drop (Z.length - 1):=by
     unfold cutP;rw [Fp (by omega)];show(Z.drop (Z.length - 1)).take (Z.length - (Z.length - 1))=_;rw [X2 (by rw [P5];omega)]
   have c2:cutP Z none (some (-1))=Z.take (Z.length - 1):=by
     unfold cutP;rw [Fp (by omega)]
     rfl
   rw [c1,c2];refine⟨by rw [P5,X3];omega,?_⟩
   have pick:∃ys:List Str,atI [PV.tup Z.reverse,PV.tup (Z.drop (Z.length - 1)++Z.take (Z.length - 1)),PV.tup ((Z.set an (.str (nm zs bn))).set bn (.str (nm zs an)))] (w - 3)=some (rowP ys)/\ys.Perm zs:=by
     rw [<- hZ]
     by_cases d1:w=3
     · subst d1;refine⟨zs.reverse,?_,List.reverse_perm zs⟩;rw [<- List.map_reverse];rfl
     · by_cases d2:w=4
       · subst d2;refine⟨zs.drop (zs.length - 1)++zs.take (zs.length - 1),?_,?_⟩
         · rw [B8,<- List.map_drop,<- List.map_take,<- Z7];rfl
         · have:=(List.perm_append_comm (l₁:=zs.drop (zs.length - 1)) (l₂:=zs.take (zs.length - 1)));rw [AU] at this;exact this
       · have d3:w=5:=by omega
         subst d3;refine⟨exch zs an bn,?_,Ch (by omega) (by omega)⟩;unfold exch;rw [<- X6,<- X6];rfl
   obtain⟨ys,ey,py⟩:=pick;rw [ey];exact h ys _ py (by omega)
def pinN (k:Nat):PV:=.int (k:Int)
theorem CH {a:Nat}{s0:Option Pu.Slot}{rest:Pu.Env}{n:Nat}{R:List PV->Pu.Env->Nat->Prop}:∀(l:List Nat) (s2:Option Pu.Slot),(∀s2,R (Z8 (l.filter fun b=>decide (b < a)).length (.int 1)) (s0::some (.v (.int (a:Int)))::s2::rest) n)->
   W5 (gN 2) (qB (qOp wLt (qV 2) (qV 1))) (qC (.int 1)) (l.map pinN) (s0::some (.v (.int (a:Int)))::s2::rest) n R
 | [],s2,h=>h s2
 | b :: l, s2, h => by
   show(if decide ((b:Int) < (a:Int))=true then W5 (gN 2) (qB (qOp wLt (qV 2) (qV 1))) (qC (.int 1)) (l.map pinN) (s0::some (.v (.int (a:Int)))::some (.v (.int (b:Int)))::rest) n fun ys e m=>R (.int 1::ys) e m else W5 (gN 2) (qB (qOp wLt (qV 2) (qV 1))) (qC (.int 1)) (l.map pinN) (s0::some (.v (.int (a:Int)))::some (.v (.int (b:Int)))::rest) n R)
   by_cases c:b < a
   · refine if_t (decide_eq_true (by omega)) (CH l _ fun s2=>?_);have:=h s2;rw [List.filter_cons_of_pos (by simpa using c),P6,List.replicate_succ] at this;exact this
   · refine if_f (decide_eq_false (by omega)) (CH l _ fun s2=>?_);have:=h s2;rw [List.filter_cons_of_neg (by simpa using c)] at this;exact this
theorem Fq {g:List Nat}(hl:g.length<=1000){n:Nat}{R:List PV->Nat->Prop}:∀(suf:List Nat) (i:Nat) (s0 s1 s2:Option Pu.Slot),g.drop i=suf->R (Z8 (inv suf) (.int 1)) n->
   Z1 (gTp 2 (gCn (gN 0) (gCn (gN 1) gNl))) (qIl (qSl (qV 3) (V8 (qOp wAdd (qV 0) (qC (PV.int 1)))) qNo)) (gN 2) (qB (qOp wLt (qV 2) (qV 1))) (qC (.int 1)) (((suf.map pinN).zipIdx i).map fun y=>PV.tup [.int (y.2:Nat),y.1]) [s0,s1,s2,some (.v (.lst (g.map pinN)))] n R
 | [],i,s0,s1,s2,_,h=>h
 | a :: suf, i, s0, s1, s2, e, h => by
   have e':g.drop (i + 1)=suf:=by
     have:=congrArg (List.drop 1) e;rw [List.drop_drop] at this;rw [show i + 1=i + 1 from rfl];simpa [Nat.add_comm] using this
   refine⟨rfl,?_⟩;show(cutP (g.map pinN) (some ((i:Int) + 1)) none).length<=1000/\W5 (gN 2) (qB (qOp wLt (qV 2) (qV 1))) (qC (.int 1)) (cutP (g.map pinN) (some ((i:Int) + 1)) none) [some (.v (.int (i:Int))),some (.v (.int (a:Int))),s2,some (.v (.lst (g.map pinN)))] n _;rw [show cutP (g.map pinN) (some ((i:Int) + 1)) none=suf.map pinN by rw [<- e',List.map_drop,<- EG];rfl];refine⟨by rw [B8,<- e',P5];omega,CH suf _ fun s2'=>?_⟩;refine Fq hl suf (i + 1) _ _ _ e' ?_;rw [List.replicate_append_replicate];exact h
theorem Fs {zs ys:List Str}{n:Nat}{R:PV->Nat->Prop}(h2:zs.length<=24)(pm:ys.Perm zs)(h:R (.int (inv (zs.map (ixS ys)):Nat)) n):AH [rowP zs,rowP ys] n R:=by
 refine⟨rfl,?_⟩;unfold EJ;have ly:=pm.length_eq;have hix:∀z∈zs,∀{R:PV->Prop},R (.int (ixS ys z))->T1 (.tup (ys.map PV.str)) (.str z) R:=fun z hz {R} q=>m_ix rfl (pm.mem_iff.mpr hz) (by omega) q;have hr0:rowP zs=.tup (zs.map PV.str):=rfl;have hr1:rowP ys=.tup (ys.map PV.str):=rfl;generalize hY:ys.map PV.str=Y at *;have Zl:(zs.map PV.str).length=zs.length:=B8 ..;rw [hr0,hr1];generalize hZ:zs.map PV.str=Z at *;walk_at "pu";refine⟨by omega,?_⟩;rw [<- hZ];refine u5 PV.str (fun z=>pinN (ixS ys z)) zs _ _ _ (fun z hz m Q hQ=>?_) ?_
 · walk_at "pu";exact⟨⟨_,rfl⟩,hix z hz hQ⟩
 · have eg:(zs.map fun z=>pinN (ixS ys z))=(zs.map (ixS ys)).map pinN:=by rw [U2];rfl
   have gl:(zs.map (ixS ys)).length=zs.length:=B8 ..;rw [eg];generalize zs.map (ixS ys)=g at *;refine⟨by rw [Aq,B8];omega,?_⟩;refine Fq (g:=g) (by omega) g 0 none none none rfl ?_;rw [AT];exact h
abbrev pr (a b:Nat):PV:=.tup [.int a,.int b]
def TPp (s r n k i:Nat):List PV:=(B6 (min (k * s + i + 1 + r) (min (k * s + s) (n - 1)) - (k * s + i))).map fun j=>pr (k * s + i) (k * s + i + 1 + j)
def TPk (s r n k:Nat):List PV:=(B6 (min (k * s + s) (n - 1) - k * s)).flatMap (TPp s r n k)
def TP (s r n:Nat):List PV:=(B6 ((n + s - 1) / s)).flatMap (TPk s r n)
theorem Jb {s r n m:Nat}{R:PV->Nat->Prop}(h1:1<=s)(h2:s<=8)(hn:1<=n)(h:R (.int (((n + s - 1) / s:Nat):Int)) m):Cr [.tup [.int s,.int r],.int n] m R:=by
 refine⟨rfl,?_⟩;unfold EQ;walk_at "pu";refine⟨⟨by omega,by omega⟩,?_⟩
 have e:((n:Int) + s - 1) / s=(((n + s - 1) / s:Nat):Int):=by
   rw [show(n:Int) + s - 1=((n + s - 1:Nat):Int) by omega]
   rfl
 rw [show((n:Int) + s - 1) / s=(((n + s - 1) / s:Nat):Int) from e];exact h
theorem m_span {s r n k m:Nat}{R:PV->Nat->Prop}(h1:1<=s)(h2:s<=8)(hn:1<=n)(hk:k<=1000)(h:R (.tup [.int ((k * s:Nat):Int),.int ((min (k * s + s) (n - 1):Nat):Int)]) m):Cs [.tup [.int s,.int r],.int n,.int k] m R:=by
 refine⟨rfl,?_⟩;unfold ER;walk_at "pu";refine⟨.inr ⟨by omega,by omega⟩,?_⟩
 have e:(if(n:Int) - 1 < (k:Int) * s + s then(n:Int) - 1 else(k:Int) * s + s)=((min (k * s + s) (n - 1):Nat):Int):=by
   have:((k * s:Nat):Int)=(k:Int) * s:=Int.natCast_mul k s
   split <;> omega
 have e2:(k:Int) * s=((k * s:Nat):Int):=(Int.natCast_mul k s).symm
 try dsimp only
 rw [e,e2];exact h
theorem Jc {s r n m:Nat}{R:PV->Nat->Prop}(h1:1<=s)(h2:s<=8)(hr:r<=7)(hn:1<=n)(hn2:n<=24)(h:R (.tup (TP s r n)) m):AJ [.tup [.int s,.int r],.int n] m R:=by
 refine⟨rfl,?_⟩;unfold ES;walk_at "pu";refine Jb h1 h2 hn ?_
 have hk8:(n + s - 1) / s<=24:=by
   refine Nat.div_le_of_le_mul ?_;have:24 * s>=24 + (s - 1) * 24:=by omega
   rw [Nat.mul_comm];omega
 refine⟨⟨Int.le_trans (by decide) (Int.natCast_nonneg _),by have:(((n + s - 1) / s:Nat):Int)<=24:=Int.ofNat_le.mpr hk8;omega⟩,?_⟩;rw [O7];refine M8 (fun k env m'=>∃s3 s4 s5 s6 s7,env=[some (.v (.tup [.int s,.int r])),some (.v (.int n)),some (.own ((B6 k).flatMap (TPk s r n))),s3,s4,s5,s6,s7]/\((B6 k).flatMap (TPk s r n)).length<=72 * k/\m'=m) _ 0 _ _ ⟨_,_,_,_,_,rfl,by simp,rfl⟩ (fun k x env m' N ex hI hN=>?_) (fun env m' hI=>?_)
 · obtain⟨hk,rfl⟩:=e9 ex;obtain⟨s3,s4,s5,s6,s7,rfl,hl,rfl⟩:=hI;simp only [K2] at hl hN ⊢;walk_at "pu";rw [show(0:Int) + (k:Int)=((k:Nat):Int) by omega];refine m_span h1 h2 hn (by omega) ?_;walk_at "pu";have hks:k * s<=200:=D7 (Nat.mul_le_mul (show k<=24 by omega) h2) (by decide);refine⟨⟨by omega,by omega,by omega,by omega⟩,?_⟩;rw [show((((min (k * s + s) (n - 1):Nat):Int)) - ((k * s:Nat):Int)).toNat=min (k * s + s) (n - 1) - k * s by omega];refine M8 (fun i env m''=>∃s6 s7,env=[some (.v (.tup [.int s,.int r])),some (.v (.int n)),some (.own ((B6 k).flatMap (TPk s r n)++(B6 i).flatMap (TPp s r n k))),some (.v (.int k)),some (.v (.int ((k * s:Nat):Int))),some (.v (.int ((min (k * s + s) (n - 1):Nat):Int))),s6,s7]/\((B6 i).flatMap (TPp s r n k)).length<=9 * i/\m''=m') _ 0 _ _ ⟨s6,s7,by simp,by simp,rfl⟩ (fun i x env m'' N' ex hI hN'=>?_) (fun env m'' hI=>?_)
   · obtain⟨hi,rfl⟩:=e9 ex;obtain⟨s6,s7,rfl,hl2,rfl⟩:=hI;simp only [K2] at hl2 hN' ⊢;walk_at "pu";have hi8:i < 8:=by omega
     refine⟨⟨_,rfl⟩,?_⟩
     have e1:(if((min (k * s + s) (n - 1):Nat):Int) < ((k * s:Nat):Int) + i + 1 + r then((min (k * s + s) (n - 1):Nat):Int) else((k * s:Nat):Int) + i + 1 + r)=((min (k * s + i + 1 + r) (min (k * s + s) (n - 1)):Nat):Int):=by
       split <;> omega
     simp only [e1];refine⟨⟨by omega,by omega,by omega,by omega⟩,by rw [Y9];omega,?_⟩;rw [show(((min (k * s + i + 1 + r) (min (k * s + s) (n - 1)):Nat):Int) + 1 - (((k * s:Nat):Int) + i + 1)).toNat=min (k * s + i + 1 + r) (min (k * s + s) (n - 1)) - (k * s + i) by omega];refine BV (fun y=>.tup [.int (((k * s:Nat):Int) + i),y]) _ _ _ _ (fun y hy m Q hQ=>?_) ?_
     · walk_at "pu";exact hQ
     · have e2:List.map (fun y=>PV.tup [.int (((k * s:Nat):Int) + i),y]) (List.map (fun(j:Nat)=>PV.int (((k * s:Nat):Int) + i + 1 + j)) (B6 (min (k * s + i + 1 + r) (min (k * s + s) (n - 1)) - (k * s + i))))=TPp s r n k i:=by
         rw [U2];unfold TPp;refine List.map_congr_left fun j hj=>?_;simp only [Function.comp,pr]
         congr 3
       rw [e2]
       have hlp:(TPp s r n k i).length<=9:=by
         unfold TPp;rw [B8,List.length_range];omega
       refine⟨by rw [K8];omega,?_⟩;refine hN' _ _ ?_;rw [H_,Ca];exact⟨_,_,rfl,by rw [K8];omega,rfl⟩
   · obtain⟨s6,s7,rfl,hl2,rfl⟩:=hI;rw [Y9] at *;refine hN _ _ ?_;rw [Ca];rw [K2] at hl2 ⊢;have hT:(TPk s r n k).length<=72:=by unfold TPk;omega
     exact⟨_,_,_,_,_,rfl,by rw [K8];omega,rfl⟩
 · obtain⟨s3,s4,s5,s6,s7,rfl,hl,rfl⟩:=hI;rw [Y9];walk_at "pu";simp only [K2];exact h
def TPn (s r n:Nat):List (Nat×Nat):=(B6 ((n + s - 1) / s)).flatMap fun k=>(B6 (min (k * s + s) (n - 1) - k * s)).flatMap fun i=>(B6 (min (k * s + i + 1 + r) (min (k * s + s) (n - 1)) - (k * s + i))).map fun j=>(k * s + i,k * s + i + 1 + j)
theorem TP_n (s r n:Nat):TP s r n=(TPn s r n).map fun y=>pr y.1 y.2:=by
 unfold TP TPn TPk TPp;simp only [List.map_flatMap,U2]
 rfl
theorem TPn_0:∀s < 8,∀n < 24,TPn (s + 1) 0 (n + 1)=(B6 n).map fun p=>(p,p + 1):=by decide +kernel
theorem TP_0 {s n:Nat}(h1:1<=s)(h2:s<=8)(hn:1<=n)(hn2:n<=24):TP s 0 n=(B6 (n - 1)).map fun p=>pr p (p + 1):=by
 have:=TPn_0 (s - 1) (by omega) (n - 1) (by omega);rw [show s - 1 + 1=s by omega,show n - 1 + 1=n by omega] at this;rw [TP_n,this,U2];rfl
theorem Ft {a b:Nat}(h:b < a)(B:List Nat):∀A:List Nat,inv (A++a::b::B)=inv (A++b::a::B) + 1
 | [] => by
   show((b::B).filter fun x=>decide (x < a)).length + ((B.filter fun x=>decide (x < b)).length + inv B)=((a::B).filter fun x=>decide (x < b)).length + ((B.filter fun x=>decide (x < a)).length + inv B) + 1;rw [y0,y0,if_pos (decide_eq_true h),if_neg (by simp;omega),P6];omega
 | x :: A => by
   have ih:=Ft h B A;show((A++a::b::B).filter fun y=>decide (y < x)).length + inv (A++a::b::B)=((A++b::a::B).filter fun y=>decide (y < x)).length + inv (A++b::a::B) + 1;rw [ih,((List.Perm.swap b a B).append_left A).filter _ |>.length_eq];omega
theorem Jd {st A B:List Str}{y b:Str}(e:st=A++y::b::B):exch st A.length (A.length + 1)=A++b::y::B/\nm st A.length=y/\nm st (A.length + 1)=b:=by
 subst e
 have n1:nm (A++y::b::B) A.length=y:=by
   have:=W6 (zs:=A++y::b::B) (i:=A.length) (by simp);rw [T9 (A8 _),Nat.sub_self] at this;exact(E4 this).symm
 have n2:nm (A++y::b::B) (A.length + 1)=b:=by
   have:=W6 (zs:=A++y::b::B) (i:=A.length + 1) (by simp);rw [T9 (by omega),show A.length + 1 - A.length=1 by omega] at this;exact(E4 this).symm
 refine⟨?_,n1,n2⟩;unfold exch;rw [n1,n2,List.set_append_right _ _ (A8 _),Nat.sub_self,List.set_append_right _ _ (by omega),show A.length + 1 - A.length=1 by omega]
 rfl
def led:List Str->List (Str×Str)->Option (List Str)
 | st,[]=>some st
 | st,p::ps=>if ixS st p.1=ixS st p.2 + 1 then led (exch st (ixS st p.2) (ixS st p.1)) ps else none
theorem Fu:∀(ps:List (Str×Str)) (st st':List Str) (p:Str×Str),led st ps=some st'->ixS st' p.1=ixS st' p.2 + 1->led st (ps++[p])=some (exch st' (ixS st' p.2) (ixS st' p.1))
 | [], st, st', p, h, c => by
   cases h;show(if _ then _ else _)=_;rw [if_pos c];rfl
 | a :: ps, st, st', p, h, c => by
   have h':(if ixS st a.1=ixS st a.2 + 1 then led (exch st (ixS st a.2) (ixS st a.1)) ps else none)=some st':=h;show(if _ then _ else _)=_
   by_cases d:ixS st a.1=ixS st a.2 + 1
   · rw [if_pos d] at h' ⊢;exact Fu ps _ _ p h' c
   · rw [if_neg d] at h';cases h'
theorem Fv {A B:List Str}{x:Str}(h:(A++x::B).Nodup):ixS (A++x::B) x=A.length:=
 Z2 h (G8 (by simp)).1 (by rw [T9 (A8 _),Nat.sub_self];rfl)
structure Way (row other:List Str)(i:Nat)(st:List Str)(ps:List (Str×Str)):Prop where
 pm:st.Perm other
 hd:st.take i=other.take i
 ld:led row ps=some st
 nu:ps.length + inv (st.map (ixS other))=inv (row.map (ixS other))
 mm:∀p∈ps,p.1∈other/\p.2∈other
theorem Je {row other st:List Str}{i j:Nat}{b:Str}{ps:List (Str×Str)}(nd:other.Nodup)(w:Way row other i st ps)(hb:ixS other b=i)(hm:b∈other)(hj:ixS st b=j + 1)(ij:i<=j):Way row other i (exch st j (j + 1)) (ps++[(b,nm st j)])/\ixS (exch st j (j + 1)) b=j:=by
 have nds:=w.pm.nodup_iff.mpr nd;have bs:=w.pm.mem_iff.mpr hm;have jl:j + 1 < st.length:=by rw [<- hj];exact(D2.mp (G8 bs).1).1
 have eb:nm st (j + 1)=b:=by
   have:=(G8 bs).1;rw [hj,W6 jl] at this;exact E4 this
 have e:st=st.take j++nm st j::b::st.drop (j + 1 + 1):=by
   have e1:=W6 (zs:=st) (i:=j) (by omega);have e2:=W6 jl;rw [eb] at e2
   have d1:st.drop j=nm st j::st.drop (j + 1):=by
     rw [X1 (by omega)];rw [C4 (by omega)] at e1;rw [E4 e1]
   have d2:st.drop (j + 1)=b::st.drop (j + 1 + 1):=by
     rw [X1 jl];rw [C4 jl] at e2;rw [E4 e2]
   rw [<- d2,<- d1,AU]
 have al:(st.take j).length=j:=by rw [X3];omega
 generalize hA:st.take j=A at *;generalize hB:st.drop (j + 1 + 1)=B at *;generalize hy:nm st j=y at *;obtain⟨x1,x2,x3⟩:=Jd e;rw [al] at x1 x2 x3;rw [x1];have pm':(A++b::y::B).Perm st:=by rw [e];exact(List.Perm.swap y b B).append_left A
 have nd':=pm'.nodup_iff.mpr nds;have ym:y∈other:=w.pm.mem_iff.mp (by rw [e];simp)
 have yb:y≠b:=fun z=>by
   rw [e] at nds;have:=(List.nodup_append.mp nds).2.1;rw [O5] at this;exact this.1 (by rw [z];simp)
 have iy:ixS st y=j:=by
   have:=Fv (A:=A) (B:=b::B) (x:=y) (by rw [<- e];exact nds);rw [<- e,al] at this;exact this
 have yi:i < ixS other y:=by
   have h1:¬ixS other y < i:=fun z=>by
     have a1:=(G8 ym).1;have a2:(other.take i)[ixS other y]?=some y:=by rw [x6,if_pos z];exact a1
     rw [<- w.hd,x6,if_pos z] at a2;have:=Z2 nds a2 (G8 (w.pm.mem_iff.mpr ym)).1;omega
   have h2:ixS other y≠i:=fun z=>yb (IJ ym hm (z.trans hb.symm));omega
 refine⟨⟨pm'.trans w.pm,?_,?_,?_,fun p hp=>?_⟩,?_⟩
 · have:=w.hd;rw [e,List.take_append_of_le_length (by omega)] at this;rw [List.take_append_of_le_length (by omega)];exact this
 · have:=Fu ps row st (b,y) w.ld (by show ixS st b=ixS st y + 1;omega);rw [this];show some (exch st (ixS st y) (ixS st b))=_;rw [iy,hj,x1]
 · have h1:=w.nu;rw [e,Z7,M2,M2,Ft (show ixS other b < ixS other y by omega)] at h1;rw [K8,x5,Z7,M2,M2];omega
 · rcases M1.mp hp with hp | hp
   · exact w.mm p hp
   · rw [K1.mp hp];exact⟨hm,ym⟩
 · have:=Fv (A:=A) (B:=y::B) (x:=b) nd';rw [al] at this;exact this
theorem Fx {R:PV->Nat->Prop}(hi:i < f.length)(hj:j < f.length)(h:R (rowP (exch f i j)) n):AI [rowP f,.int (i:Int),.int (j:Int)] n R:=by
 refine⟨rfl,?_⟩;unfold EK;unfold rowP at *;have ai:∀{k:Nat},k < f.length->atI (f.map PV.str) (k:Int)=some (.str (nm f k)):=fun {k} hk=>Bu (by rw [F2,W6 hk];rfl);have e:((f.map PV.str).set i (.str (nm f j))).set j (.str (nm f i))=(exch f i j).map PV.str:=by unfold exch;rw [X6,X6]
 generalize hF:f.map PV.str=F at *;have Fl:F.length=f.length:=by rw [<- hF,B8]
 walk_at "pu";rw [ai hj];dsimp only;rw [ai hi];dsimp only;refine⟨⟨_,rfl⟩,?_⟩;rw [V3 (by omega) (by omega)];dsimp only;rw [V3 (by omega) (by rw [F6];omega)];dsimp only;rw [O7,O7,e];exact h
theorem Jf {f:List Str}{i j n:Nat}{R:PV->Nat->Prop}(hi:i < f.length)(hj:j < f.length)(h:R (rowP (exch f i j)) n):CC [rowP f,.int (i:Int),.int (j:Int)] n R:=by
 refine⟨rfl,?_⟩;unfold Fc;unfold rowP at *;have ai:∀{k:Nat},k < f.length->atI (f.map PV.str) (k:Int)=some (.str (nm f k)):=fun {k} hk=>Bu (by rw [F2,W6 hk];rfl);have e:((f.map PV.str).set i (.str (nm f j))).set j (.str (nm f i))=(exch f i j).map PV.str:=by unfold exch;rw [X6,X6]
 generalize hF:f.map PV.str=F at *;have Fl:F.length=f.length:=by rw [<- hF,B8]
 walk_at "pu";rw [ai hj];dsimp only;rw [ai hi];dsimp only;refine⟨⟨_,rfl⟩,?_⟩;rw [V3 (by omega) (by omega)];dsimp only;rw [V3 (by omega) (by rw [F6];omega)];dsimp only;rw [O7,O7,e];exact h
theorem Jg {J:Int}{k:Nat}{x:PV}{N:Nat}(h:((B6 N).map fun(k:Nat)=>PV.int (J - 1 - k))[k]?=some x):k < N/\x=.int (J - 1 - k):=by
 rw [F2] at h
 by_cases c:k < N
 · rw [List.getElem?_range c] at h;exact⟨c,(E4 h).symm⟩
 · rw [O4 (by rw [List.length_range];omega)] at h;cases h
theorem CI (m:Nat):∀l:List Nat,l.length<=m->inv l<=m * l.length
 | [],_=>N5 _
 | a :: l, h => by
   have ih:=CI m l (by rw [P6] at h;omega);have:=List.length_filter_le (fun b=>decide (b < a)) l;rw [P6] at h ⊢;show(l.filter fun b=>decide (b < a)).length + inv l<=m * (l.length + 1);rw [Nat.mul_succ];omega
def prS (p:Str×Str):PV:=.tup [.str p.1,.str p.2]
theorem Jh {row other:List Str}{n:Nat}{R:PV->Nat->Prop}(nd:other.Nodup)(pm:row.Perm other)(h1:1<=other.length)(h2:other.length<=24)(h:∀ps,Way row other other.length other ps->R (.tup (ps.map prS)) n):Co [rowP row,rowP other] n R:=by
 refine⟨rfl,?_⟩;unfold EL;have hr1:rowP other=.tup (other.map PV.str):=rfl;have hix:∀{st:List Str} {z:Str},st.Perm other->z∈other->∀{R:PV->Prop},R (.int (ixS st z))->T1 (rowP st) (.str z) R:=fun {st z} p hz {R} q=>m_ix rfl (p.mem_iff.mpr hz) (by rw [p.length_eq];omega) q
 have hat:∀{st:List Str} {i:Nat} {R:PV->Prop},i < st.length->R (.str (nm st i))->wIx (rowP st) (.int (i:Int)) R:=fun {st i R} hi q=>by
   show match atI (st.map PV.str) (i:Int) with | some z=>R z | none=>False
   rw [at_nm rfl hi];exact q
 rw [hr1];have Ol:(other.map PV.str).length=other.length:=B8 ..;generalize hO:other.map PV.str=O at *;generalize hW:rowP row=W;walk_at "pu";refine M8 (fun i env m=>∃(st:List Str) (ps:List (Str×Str)) (s4 s5 s6:Option Pu.Slot),env=[some (.v W),some (.v (.tup O)),some (.v (rowP st)),some (.own (ps.map prS)),s4,s5,s6]/\Way row other i st ps/\m=n) _ 0 _ _ ⟨row,[],none,none,none,by rw [hW];rfl,⟨pm,rfl,rfl,(by show 0 + _=_;omega),(fun _ z=>nomatch z)⟩,rfl⟩ (fun i x env m N ex hI hN=>?_) (fun env m hI=>?_)
 · obtain⟨st,ps,s4,s5,s6,rfl,w,rfl⟩:=hI;rw [K2] at w hN;obtain⟨y,ey,rfl⟩:=BP ex;rw [<- hO] at ey;obtain⟨b,eb,rfl⟩:=h9 ey;have il:i < other.length:=(D2.mp eb).1;have hm:=N3 eb;have hb:ixS other b=i:=Z2 nd (G8 hm).1 eb;have hx:=fun(R:PV->Prop) q=>hix (R:=R) w.pm hm q
   have hj:i<=ixS st b:=by
     by_cases c:ixS st b < i
     · exfalso
       have a1:=(G8 (w.pm.mem_iff.mpr hm)).1;have a2:(st.take i)[ixS st b]?=some b:=by rw [x6,if_pos c];exact a1
       rw [w.hd,x6,if_pos c] at a2;have:=Z2 nd a2 eb;omega
     · omega
   have jl:ixS st b < st.length:=(D2.mp (G8 (w.pm.mem_iff.mpr hm)).1).1;have sl:=w.pm.length_eq;generalize hS:rowP st=S at *;generalize hP:ps.map prS=PP at *;walk_at "pu";refine⟨⟨_,hS.symm⟩,hx _ ⟨⟨by omega,by omega,by omega⟩,?_⟩⟩;clear hx;generalize hJ:ixS st b=J at *;refine M8 (fun k env m'=>∃(st:List Str) (ps:List (Str×Str)) (s6:Option Pu.Slot),env=[some (.v W),some (.v (.tup O)),some (.v (rowP st)),some (.own (ps.map prS)),some (.v (.int (i:Int))),some (.v (.str b)),s6]/\Way row other i st ps/\ixS st b=J - k/\m'=m) _ 0 _ _ ⟨st,ps,s6,by rw [hS,hP],w,hJ,rfl⟩ (fun k x env m' N' ex' hI hN'=>?_) (fun env m' hI=>?_)
   · obtain⟨st,ps,s6,rfl,w,hk,rfl⟩:=hI;obtain⟨hk2,rfl⟩:=Jg ex';rw [K2] at hk hN';obtain⟨w',hb'⟩:=Je nd w hb hm (show ixS st b=(J - 1 - k) + 1 by omega) (by omega);have sl:=w.pm.length_eq
     have lp:ps.length<=576:=by
       have:=w.nu;have:=CI 24 (row.map (ixS other)) (by rw [B8,pm.length_eq];exact h2);rw [B8,pm.length_eq] at this;omega
     have mx:=fun(R:PV->Nat->Prop) q=>Fx (f:=st) (i:=J - 1 - k) (j:=J - 1 - k + 1) (n:=m') (R:=R) (by omega) (by omega) q;have ha:=fun(R:PV->Prop) q=>hat (st:=st) (i:=J - 1 - k) (R:=R) (by omega) q;have Pl:(ps.map prS).length=ps.length:=B8 ..;have e1:ps.map prS++[.tup [.str b,.str (nm st (J - 1 - k))]]=(ps++[(b,nm st (J - 1 - k))]).map prS:=by rw [Z7];rfl
     rw [show((J:Nat):Int) - 1 - (k:Int)=((J - 1 - k:Nat):Int) by omega];generalize hS:rowP st=S at *;generalize ps.map prS=PP at *;walk_at "pu";rw [show((J - 1 - k:Nat):Int) + 1=((J - 1 - k + 1:Nat):Int) by omega];refine⟨⟨_,rfl⟩,ha _ ⟨by omega,mx _ ?_⟩⟩;rw [e1];exact hN' _ _ ⟨_,_,_,rfl,w',by omega,rfl⟩
   · obtain⟨st,ps,s6,rfl,w,hk,rfl⟩:=hI;rw [K2,B8,List.length_range] at hk;refine hN _ _ ⟨st,ps,_,_,_,rfl,⟨w.pm,?_,w.ld,w.nu,w.mm⟩,rfl⟩;have a1:=(G8 (w.pm.mem_iff.mpr hm)).1;rw [hk,show J - ((J:Int) - i).toNat=i by omega] at a1;rw [Ci a1,Ci eb,w.hd]
 · obtain⟨st,ps,s4,s5,s6,rfl,w,rfl⟩:=hI;rw [Aq,Ol] at w;rw [K2] at w
   have e:st=other:=by
     have:=w.hd;rw [X2 (by rw [w.pm.length_eq];exact A8 _),X2 (A8 _)] at this;exact this
   subst e;generalize hP:ps.map prS=PP;walk_at "pu";rw [<- hP];exact h ps w
theorem Fy (g:List Nat):∀(suf:List Nat) (k:Nat),g.drop k=suf->((suf.zipIdx k).map fun y=>(((g.drop y.2).filter fun b=>decide (b < y.1)).length:Int)).sum=(inv suf:Int)
 | [],_,_=>rfl
 | a :: suf, k, h => by
   have ih:=Fy g suf (k + 1) (by have:=congrArg List.tail h;rw [List.tail_drop] at this;exact this);rw [List.zipIdx_cons,M2,List.sum_cons,ih,h];show(((a::suf).filter fun b=>decide (b < a)).length:Int) + _=(((suf.filter fun b=>decide (b < a)).length + inv suf:Nat):Int);rw [y0,if_neg (by simp)];omega
theorem Fz {α:Type}(f:α->Int):∀l:List α,W7 (l.map fun y=>PV.int (f y))=some (l.map f)
 | []=>rfl
 | a :: l => by
   show(W7 (l.map fun y=>PV.int (f y))).map _=_;rw [Fz f l];rfl
theorem CJ {a:Nat}{rest:Pu.Env}:∀(l:List Nat) (s0:Option Pu.Slot) (n:Nat) (R:List PV->Nat->Prop),R (Z8 (l.filter fun b=>decide (b < a)).length (.int 1)) n->O0 (gN 0) (qB (qOp wLt (qV 0) (qV 1))) (qC (.int 1)) (l.map pinN) (s0::some (.v (pinN a))::rest) n R
 | [],_,_,_,h=>h
 | b :: l, s0, n, R, h => by
   rw [y0] at h;show(if decide ((b:Int) < (a:Int))=true then _ else _)
   by_cases c:b < a
   · rw [if_pos (decide_eq_true c)] at h;exact if_t (decide_eq_true (by omega)) (CJ l _ _ _ h)
   · rw [if_neg (by simpa using c)] at h;exact if_f (decide_eq_false (by omega)) (CJ l _ _ _ h)
theorem FA {zs ys:List Str}{n:Nat}{R:PV->Nat->Prop}(h2:zs.length<=24)(pm:ys.Perm zs)(h:R (.int (inv (zs.map (ixS ys)):Nat)) n):AL [rowP zs,rowP ys] n R:=by
 refine⟨rfl,?_⟩;unfold Fa;have ly:=pm.length_eq;have hix:∀z∈zs,∀{R:PV->Prop},R (.int (ixS ys z))->T1 (.tup (ys.map PV.str)) (.str z) R:=fun z hz {R} q=>m_ix rfl (pm.mem_iff.mpr hz) (by omega) q;have hr0:rowP zs=.tup (zs.map PV.str):=rfl;have hr1:rowP ys=.tup (ys.map PV.str):=rfl;generalize hY:ys.map PV.str=Y at *;have Zl:(zs.map PV.str).length=zs.length:=B8 ..;rw [hr0,hr1];generalize hZ:zs.map PV.str=Z at *;walk_at "pu";refine⟨by omega,?_⟩;rw [<- hZ];refine u5 PV.str (fun z=>pinN (ixS ys z)) zs _ _ _ (fun z hz m Q hQ=>?_) ?_
 · walk_at "pu";exact⟨⟨_,rfl⟩,hix z hz hQ⟩
 · have eg:(zs.map fun z=>pinN (ixS ys z))=(zs.map (ixS ys)).map pinN:=by rw [U2];rfl
   have gl:(zs.map (ixS ys)).length=zs.length:=B8 ..;rw [eg];generalize zs.map (ixS ys)=g at *
   have ee:V9 (g.map pinN)=g.zipIdx.map fun y=>PV.tup [.int (y.2:Nat),pinN y.1]:=by
     unfold V9;rw [List.zipIdx_map,U2];rfl
   rw [ee];refine⟨by rw [B8,List.length_zipIdx];omega,?_⟩;refine EB (fun y:Nat×Nat=>.int (y.2:Nat)) (fun y=>pinN y.1) (fun y=>.int (((g.drop y.2).filter fun b=>decide (b < y.1)).length:Int)) g.zipIdx _ _ _ _ (fun y hy m Q hQ=>?_) ?_
   · have ec:cutP (g.map pinN) (some ((y.2:Nat):Int)) none=(g.drop y.2).map pinN:=by rw [DV,EG]
     have Gl:(g.map pinN).length=zs.length:=by rw [B8,gl]
     generalize hG:g.map pinN=G at *;walk_at "pu";rw [ec];refine⟨by rw [B8,P5];omega,CJ _ _ _ _ ?_⟩;rw [AT];exact hQ
   · rw [Fz];have es:=Fy g g 0 rfl;refine⟨by rw [B8,List.length_zipIdx];omega,fun i hi=>?_,by rw [es];exact h⟩;obtain⟨y,_,rfl⟩:=List.mem_map.mp hi;have:=List.length_filter_le (fun b=>decide (b < y.1)) (g.drop y.2);rw [P5] at this;exact⟨by omega,by omega⟩
theorem T4 (h:∀U:pS,U=q->p { D with nx:=fun e m=>U D e m } env n):qSeq p q D env n:=h q rfl
theorem pr_mem {a b n:Nat}(hb:b < n):memP (pr a b) ((B6 (n - 1)).map fun p=>pr p (p + 1))=decide (b=a + 1):=by
 unfold memP;rw [List.any_map,j9,x9,decide_eq_true_eq];constructor
 · rintro⟨p,hp,e⟩;have e:(decide ((p:Int)=(a:Int)) && (decide (((p + 1:Nat):Int)=(b:Int)) && true))=true:=e;simp only [Bool.and_true,R0,decide_eq_true_eq] at e;omega
 · intro e;refine⟨a,O6.mpr (by omega),?_⟩;show(decide ((a:Int)=(a:Int)) && (decide (((a + 1:Nat):Int)=(b:Int)) && true))=true;rw [decide_eq_true rfl,decide_eq_true (by omega)];rfl
theorem CK:∀a b:List Str,eqPs (a.map PV.str) (b.map PV.str)=decide (a=b)
 | [],[]=>rfl
 | [],_::_=>rfl
 | _::_,[]=>rfl
 | x :: a, y :: b => by
   rw [M2,M2,El,CK a b,t9]
   by_cases c:x=y <;> by_cases d:a=b <;> simp [c,d]
theorem Ji {s:Nat}{p q n:Nat}{R:PV->Nat->Prop}(h1:1<=s)(h2:s<=8)(hp:p<=100)(hq:q<=100)(h:R (.bl (decide (q=p + 1))) n):CD [.tup [.int s,.int 0],.int p,.int q] n R:=by
 refine⟨rfl,?_⟩;unfold Fd;walk_at "pu";have e:p / s * s<=p:=Nat.div_mul_le_self p s
 have e2:p < p / s * s + s:=by
   have:=Nat.lt_div_mul_add (a:=p) (b:=s) (by omega);omega
 by_cases c:p < q
 · refine if_t (decide_eq_true (by omega)) ?_
   by_cases c2:q=p + 1
   · rw [decide_eq_true c2] at h;have e3:(p:Int) / (s:Int) * (s:Int)=((p / s * s:Nat):Int):=by rw [Int.natCast_mul,Int.natCast_ediv]
     refine if_t (decide_eq_true (by omega)) ⟨⟨by omega,by omega⟩,.inr ⟨by omega,by omega⟩,?_⟩;rw [e3,decide_eq_true (by omega)];exact h
   · rw [decide_eq_false c2] at h;exact if_f (decide_eq_false (by omega)) h
 · rw [decide_eq_false (show ¬q=p + 1 by omega)] at h;exact if_f (decide_eq_false (by omega)) h
theorem FB {st:List Str}{p:Str×Str}{ps:List (Str×Str)}:led st (p::ps)=if ixS st p.1=ixS st p.2 + 1 then led (exch st (ixS st p.2) (ixS st p.1)) ps else none:=rfl
theorem FC {α:Type}{l:List α}{i:Nat}{x:α}(h:l[i]?=some x):l.drop i=x::l.drop (i + 1):=by
 obtain⟨hi,e⟩:=D2.mp h;rw [X1 hi,e]
theorem Jj {s n:Nat}{row other:List Str}{ps:List (Str×Str)}{R:PV->Nat->Prop}(h1:1<=s)(h2:s<=8)(l1:1<=row.length)(l2:row.length<=24)(hp:∀p∈ps,p.1∈row/\p.2∈row)(h:R (.bl (decide (led row ps=some other))) n):Cu [.tup [.int s,.int 0],rowP row,rowP other,.tup (ps.map prS)] n R:=by
 refine⟨rfl,?_⟩;unfold ET;have hr1:rowP other=.tup (other.map PV.str):=rfl;have hr0:rowP row=.tup (row.map PV.str):=rfl;have hix:∀{st:List Str} {z:Str},st.Perm row->z∈row->∀{R:PV->Prop},R (.int (ixS st z))->T1 (rowP st) (.str z) R:=fun {st z} p hz {R} q=>m_ix rfl (p.mem_iff.mpr hz) (by rw [p.length_eq];omega) q;have mt:∀{R:PV->Nat->Prop},R (.tup (TP s 0 row.length)) n->AJ [.tup [.int s,.int 0],.int (row.length:Nat)] n R:=fun q=>Jc (r:=0) h1 h2 (by omega) l1 l2 q;rw [TP_0 h1 h2 l1 l2] at mt
 have ct:(((B6 (row.length - 1)).map fun p=>pr p (p + 1)):List PV).all (cmpb 4)=true:=F3.mpr fun y hy=>by
   obtain⟨p,_,rfl⟩:=List.mem_map.mp hy
   rfl
 have mp:=fun(a b:Nat) (hb:b < row.length)=>pr_mem (a:=a) (b:=b) (n:=row.length) hb;generalize hT:(B6 (row.length - 1)).map (fun p=>pr p (p + 1))=T at *;have Rl:(row.map PV.str).length=row.length:=B8 ..;refine T4 fun U hU=>?_;rw [hr0];walk_at "pu";rw [Rl];refine mt ?_;subst hU;rw [<- hr0];refine T4 fun U hU=>?_;generalize hW:rowP row=W at *;generalize hO:rowP other=O at *;walk_at "pu";subst hU;refine T4 fun U hU=>?_;walk_at "pu";refine M8 (fun i env m=>∃(st:List Str) (s6 s7 s8 s9:Option Pu.Slot),env=[some (.v (.tup [.int s,.int 0])),some (.v W),some (.v O),some (.v (.tup (ps.map prS))),some (.v (.tup T)),some (.v (rowP st)),s6,s7,s8,s9]/\st.Perm row/\led st (ps.drop i)=led row ps/\m=n) _ 0 _ _ ⟨row,none,none,none,none,by rw [hW],List.Perm.refl _,rfl,rfl⟩ (fun i x env m N ex hI hN=>?_) (fun env m hI=>?_)
 · obtain⟨st,s6,s7,s8,s9,rfl,pm,hd,rfl⟩:=hI;rw [K2] at hd hN;obtain⟨p,ep,rfl⟩:=h9 ex;obtain⟨p1,p2⟩:=hp p (N3 ep);rw [FC ep,FB] at hd;have x1:=fun(R:PV->Prop) q=>hix (R:=R) pm p1 q;have x2:=fun(R:PV->Prop) q=>hix (R:=R) pm p2 q;have i1:ixS st p.1 < row.length:=by rw [<- pm.length_eq];exact(D2.mp (G8 (pm.mem_iff.mpr p1)).1).1
   have i2:ixS st p.2 < row.length:=by rw [<- pm.length_eq];exact(D2.mp (G8 (pm.mem_iff.mpr p2)).1).1
   have mx:=fun(R:PV->Nat->Prop) q=>Fx (f:=st) (i:=ixS st p.2) (j:=ixS st p.1) (n:=m) (R:=R) (by rw [pm.length_eq];exact i2) (by rw [pm.length_eq];exact i1) q;have pm':=(Ch (f:=st) (i:=ixS st p.2) (j:=ixS st p.1) (by rw [pm.length_eq];exact i2) (by rw [pm.length_eq];exact i1)).trans pm;have ip:=mp (ixS st p.2) (ixS st p.1) i1;have eS:rowP st=.tup (st.map PV.str):=rfl;generalize hS:rowP st=S at *;generalize hPP:ps.map prS=PP at *;unfold prS;walk_at "pu";refine⟨⟨_,eS⟩,x2 _ ⟨⟨_,eS⟩,x1 _ ⟨rfl,ct,?_⟩⟩⟩;rw [ip]
   by_cases c:ixS st p.1=ixS st p.2 + 1
   · rw [if_pos c] at hd;rw [decide_eq_true c];exact if_f rfl (mx _ (hN _ _ ⟨_,_,_,_,_,rfl,pm',hd,rfl⟩))
   · rw [if_neg c] at hd;rw [decide_eq_false c];rw [<- hd] at h;exact if_t rfl (by simpa using h)
 · obtain⟨st,s6,s7,s8,s9,rfl,pm,hd,rfl⟩:=hI;rw [K2,B8,Z6] at hd;have hd:some st=led row ps:=hd;rw [<- hd] at h;have e:=CK st other;have hO':O=.tup (other.map PV.str):=hO.symm;have c1:=h6 st 3;have c2:=h6 other 3;rw [show rowP st=.tup (st.map PV.str) from rfl,hO'];generalize st.map PV.str=S at *;generalize other.map PV.str=Q at *;generalize ps.map prS=PP at *;subst hU;walk_at "pu";rw [show decide (some st=some other)=decide (st=other) by simp,<- e] at h;exact gd2 c1 c2 h
theorem m_lled {s n:Nat}{row:List Str}{ps:List (Str×Str)}{R:PV->Nat->Prop}(h1:1<=s)(h2:s<=8)(l2:row.length<=24)(hp:∀p∈ps,p.1∈row/\p.2∈row)(h:R (match led row ps with | some st=>rowP st | none=>.non) n):CF [.tup [.int s,.int 0],rowP row,.tup (ps.map prS)] n R:=by
 refine⟨rfl,?_⟩;unfold Fe;have hix:∀{st:List Str} {z:Str},st.Perm row->z∈row->∀{R:PV->Prop},R (.int (ixS st z))->T1 (rowP st) (.str z) R:=fun {st z} p hz {R} q=>m_ix rfl (p.mem_iff.mpr hz) (by rw [p.length_eq];omega) q;have hin:∀{st:List Str} {z:Str},st.Perm row->z∈row->∀{R:PV->Prop},R (.bl false)->wIn 4 true (.str z) (rowP st) R:=fun {st z} p hz {R} q=>IH rfl (by rw [decide_eq_true (p.mem_iff.mpr hz)];exact q);generalize hPP:ps.map prS=PP at *;refine T4 fun U hU=>?_;generalize hW:rowP row=W at *;walk_at "pu";subst hU;refine T4 fun U hU=>?_;walk_at "pu";refine M8 (fun i env m=>∃(st:List Str) (s3 s4 s5:Option Pu.Slot),env=[some (.v (.tup [.int s,.int 0])),some (.v (rowP st)),some (.v (.tup PP)),s3,s4,s5]/\st.Perm row/\led st (ps.drop i)=led row ps/\m=n) _ 0 _ _ ⟨row,none,none,none,by rw [hW],List.Perm.refl _,rfl,rfl⟩ (fun i x env m N ex hI hN=>?_) (fun env m hI=>?_)
 · obtain⟨st,s3,s4,s5,rfl,pm,hd,rfl⟩:=hI;rw [K2] at hd hN;rw [<- hPP] at ex;obtain⟨p,ep,rfl⟩:=h9 ex;obtain⟨p1,p2⟩:=hp p (N3 ep);rw [FC ep,FB] at hd;have x1:=fun(R:PV->Prop) q=>hix (R:=R) pm p1 q;have x2:=fun(R:PV->Prop) q=>hix (R:=R) pm p2 q;have y1:=fun(R:PV->Prop) q=>hin (R:=R) pm p1 q;have y2:=fun(R:PV->Prop) q=>hin (R:=R) pm p2 q;have i1:ixS st p.1 < row.length:=by rw [<- pm.length_eq];exact(D2.mp (G8 (pm.mem_iff.mpr p1)).1).1
   have i2:ixS st p.2 < row.length:=by rw [<- pm.length_eq];exact(D2.mp (G8 (pm.mem_iff.mpr p2)).1).1
   have mx:=fun(R:PV->Nat->Prop) q=>Jf (f:=st) (i:=ixS st p.2) (j:=ixS st p.1) (n:=m) (R:=R) (by rw [pm.length_eq];exact i2) (by rw [pm.length_eq];exact i1) q;have mp:=fun(R:PV->Nat->Prop) q=>Ji (s:=s) (p:=ixS st p.2) (q:=ixS st p.1) (n:=m) (R:=R) h1 h2 (by omega) (by omega) q;have pm':=(Ch (f:=st) (i:=ixS st p.2) (j:=ixS st p.1) (by rw [pm.length_eq];exact i2) (by rw [pm.length_eq];exact i1)).trans pm;have eS:rowP st=.tup (st.map PV.str):=rfl;generalize hS:rowP st=S at *;unfold prS;walk_at "pu";refine if_f (by decide) (y1 _ (if_f rfl (y2 _ (if_f rfl ⟨⟨_,eS⟩,x2 _ ⟨⟨_,eS⟩,x1 _ (mp _ ?_)⟩⟩))))
   by_cases c:ixS st p.1=ixS st p.2 + 1
   · rw [if_pos c] at hd;rw [decide_eq_true c];exact if_f rfl (mx _ (hN _ _ ⟨_,_,_,_,rfl,pm',hd,rfl⟩))
   · rw [if_neg c] at hd;rw [decide_eq_false c];rw [<- hd] at h;exact if_t rfl h
 · obtain⟨st,s3,s4,s5,rfl,pm,hd,rfl⟩:=hI;rw [<- hPP,K2,B8,Z6] at hd;have hd:some st=led row ps:=hd;rw [<- hd] at h;have h:R (rowP st) m:=h;subst hU;generalize hS:rowP st=S at *;walk_at "pu";exact h
theorem FD {α:Type}(xs:List α)(f:α->Bool):R7 (xs.map fun x=>PV.bl (f x))=some (xs.map f):=by
 rw [<- DY (xs.map f),U2];rfl
theorem FE {α:Type}(xs:List α)(f:α->Bool):(xs.map f).all id=xs.all f:=by rw [List.all_map];rfl
theorem ltr_le:∀k:Nat,k < 26->(!decide ((⟨#[97 + k]⟩:Str).cps.toList < (C0 "a").cps.toList))=true/\(!decide ((C0 "z").cps.toList < (⟨#[97 + k]⟩:Str).cps.toList))=true:=by decide +kernel
theorem m_isb {z:Str}{n:Nat}{R:PV->Nat->Prop}(hz:T0 z)(h:R (.bl true) n):Cv [.str z] n R:=by
 refine⟨rfl,?_⟩;unfold EU;obtain⟨h1,h2,h3⟩:=hz;have lx:z.length=z.cps.toList.length:=l8 z;have d1:decide ((1:Int)<=(z.length:Int))=true:=decide_eq_true (by omega);have d2:decide ((z.length:Int)<=8)=true:=decide_eq_true (by omega);have hlen:z.length<=1000000:=by omega
 walk_at "pu";simp only [hlen,d1,d2,true_and,reduceIte,Bool.not_true,y8];refine⟨?_,by rw [B8];omega,?_⟩
 · rw [<- Array.all_toList];exact F3.mpr fun c hc=>decide_eq_true (Nat.lt_of_le_of_lt (h3 c hc).2 (by decide))
 · refine BV (fun _=>.bl true) _ _ _ _ (fun y hy m Q hQ=>?_) ?_
   · obtain⟨c,hc,rfl⟩:=List.mem_map.mp hy;have hc:=h3 c hc;unfold Ltr at hc;have:=ltr_le (c - 97) (by omega);rw [show 97 + (c - 97)=c by omega] at this;obtain⟨l1,l2⟩:=this;walk_at "pu";simp only [l1,l2];exact hQ
   · have e:=FD (z.cps.toList.map fun c=>PV.str ⟨#[c]⟩) fun _=>true;rw [e];dsimp only;rw [FE,F3.mpr fun _ _=>rfl];exact h
theorem m_ipo {row:List Str}{p:Str×Str}{n:Nat}{R:PV->Nat->Prop}(hb:∀z∈row,T0 z)(p1:p.1∈row)(p2:p.2∈row)(h:R (.bl true) n):Cw [rowP row,prS p] n R:=by
 refine⟨rfl,?_⟩;unfold EV;have hr0:rowP row=.tup (row.map PV.str):=rfl;generalize hZ:row.map PV.str=Z at *;unfold prS;rw [hr0];walk_at "pu";refine if_f (by decide) ?_;show O0 _ _ _ ([p.1,p.2].map PV.str) _ _ _;refine u5 PV.str (fun _=>.bl true) [p.1,p.2] _ _ _ (fun z hz m Q hQ=>?_) h
 have zr:z∈row:=by
   rcases B9.mp hz with e | hz
   · rw [e];exact p1
   · rw [K1.mp hz];exact p2
 walk_at "pu";refine m_isb (hb z zr) (if_t rfl (IG hZ ?_));rw [decide_eq_true zr];exact hQ
theorem m_stou {s n:Nat}{row other:List Str}{ps:List (Str×Str)}{R:PV->Nat->Prop}(h1:1<=s)(h2:s<=8)(l1:1<=row.length)(l2:row.length<=24)(hb:∀z∈row,T0 z)(pl:ps.length<=1000)(hp:∀p∈ps,p.1∈row/\p.2∈row)(h:R (.bl (decide (led row ps=some other))) n):Cy [.tup [.int s,.int 0],rowP row,rowP other,.tup (ps.map prS)] n R:=by
 refine⟨rfl,?_⟩;unfold EX;have ml:=fun(R:PV->Nat->Prop) q=>Jj (other:=other) (n:=n) (R:=R) h1 h2 l1 l2 hp q;have mi:=fun p (hp':p∈ps) (m:Nat) (R:PV->Nat->Prop) q=>m_ipo (p:=p) (n:=m) (R:=R) hb (hp p hp').1 (hp p hp').2 q;have Pl:(ps.map prS).length=ps.length:=B8 ..;generalize hW:rowP row=W at *;generalize hO:rowP other=O at *;generalize hP:ps.map prS=PP at *;walk_at "pu";refine⟨by omega,?_⟩;rw [<- hP];refine u5 prS (fun _=>.bl true) ps _ _ _ (fun p hp' m Q hQ=>?_) ?_
 · generalize hX:prS p=X at *;walk_at "pu";rw [<- hX];refine mi p hp' _ _ ?_;rw [hX];exact hQ
 · rw [FD ps fun _=>true];dsimp only;rw [FE,F3.mpr fun _ _=>rfl,hP];exact if_f rfl (ml _ h)
def fewP (k:Nat)(ps:List (Str×Str)):PV:=.tup [.int (k:Int),.tup (ps.map prS),.tup [.str (C0 "pairs")]]
def Fw (row other:List Str)(k:Nat)(ps:List (Str×Str)):Prop:=led row ps=some other/\ps.length=k/\k=inv (row.map (ixS other))
instance {row other:List Str}{k:Nat}{ps:List (Str×Str)}:Decidable (Fw row other k ps):=by unfold Fw;infer_instance
theorem m_mcp {s n:Nat}{R:PV->Nat->Prop}(h:R (.bl true) n):AG [.tup [.int s,.int 0]] n R:=by
 refine⟨rfl,?_⟩;unfold EI;walk_at "pu";exact h
theorem m_few {s n:Nat}{row other:List Str}{R:PV->Nat->Prop}(nd:other.Nodup)(pm:row.Perm other)(h1:1<=other.length)(h2:other.length<=24)(h:∀ps,Way row other other.length other ps->R (fewP (inv (row.map (ixS other))) ps) n):u9 [.tup [.int s,.int 0],rowP row,rowP other] n R:=by
 refine⟨rfl,?_⟩;unfold EM;have ma:=fun(R:PV->Nat->Prop) q=>Fs (zs:=row) (ys:=other) (n:=n) (R:=R) (by rw [pm.length_eq];exact h2) pm.symm q;have mt:=fun(R:PV->Nat->Prop) q=>Jh (row:=row) (n:=n) (R:=R) nd pm h1 h2 q;generalize hW:rowP row=W at *;generalize hO:rowP other=O at *;walk_at "pu";refine m_mcp (if_t rfl (ma _ (mt _ fun ps w=>?_)));exact h ps w
theorem m_ist {z w:Str}{n:Nat}{R:PV->Nat->Prop}(h:R (.bl (decide (z=w))) n):Cp [.str z,.str w] n R:=by
 refine⟨rfl,?_⟩;unfold EN;walk_at "pu";exact h
theorem Jk {k l n:Nat}{R:PV->Nat->Prop}(h:R (.bl (decide (l=k))) n):Cz [.int (k:Int),.int (l:Int),.int (l:Int)] n R:=by
 refine⟨rfl,?_⟩;unfold EY;walk_at "pu"
 by_cases c:l<=k
 · refine if_t (decide_eq_true (by omega)) ?_;rw [show decide ((k:Int)<=(l:Int))=decide (l=k) from decide_eq_decide.mpr (by omega)];exact h
 · rw [decide_eq_false (show ¬l=k by omega)] at h;exact if_f (decide_eq_false (by omega)) h
theorem Jl {s k n:Nat}{row other:List Str}{R:PV->Nat->Prop}(pm:row.Perm other)(h2:row.length<=24)(h:R (.bl (decide (k=inv (row.map (ixS other))))) n):Cq [.tup [.int s,.int 0],rowP row,rowP other,.int (k:Int),.tup [.str (C0 "pairs")]] n R:=by
 refine⟨rfl,?_⟩;unfold EO;have ma:=fun(R:PV->Nat->Prop) q=>Fs (zs:=row) (ys:=other) (n:=n) (R:=R) h2 pm.symm q;have hr0:rowP row=.tup (row.map PV.str):=rfl;rw [hr0] at ma ⊢;generalize hW:row.map PV.str=W at *;generalize hO:rowP other=O at *;walk_at "pu";refine if_t (by decide) (if_f (by decide) (if_f (by decide) (m_ist ?_)));rw [decide_eq_true rfl];refine if_t rfl (m_mcp (if_t rfl (ma _ ?_)));show R (.bl (eqP (.int (k:Int)) (.int (inv (row.map (ixS other)):Nat)))) n;rw [BW,show decide ((k:Int)=((inv (row.map (ixS other)):Nat):Int))=decide (k=inv (row.map (ixS other))) from decide_eq_decide.mpr (by omega)];exact h
theorem FG {s k n:Nat}{row other:List Str}{ps:List (Str×Str)}{R:PV->Nat->Prop}(h1:1<=s)(h2:s<=8)(l1:1<=row.length)(l2:row.length<=24)(pm:row.Perm other)(hb:∀z∈row,T0 z)(pl:ps.length<=1000)(hp:∀p∈ps,p.1∈row/\p.2∈row)(h:R (.bl (decide (Fw row other k ps))) n):AK [.tup [.int s,.int 0],rowP row,rowP other,fewP k ps] n R:=by
 refine⟨rfl,?_⟩;unfold EZ;have mt:=fun(R:PV->Nat->Prop) q=>m_stou (other:=other) (n:=n) (R:=R) h1 h2 l1 l2 hb pl hp q;have mp:=fun(R:PV->Nat->Prop) q=>Jl (s:=s) (k:=k) (n:=n) (R:=R) pm l2 q;have Pl:(ps.map prS).length=ps.length:=B8 ..;unfold fewP;generalize hW:rowP row=W at *;generalize hO:rowP other=O at *;generalize hP:ps.map prS=PP at *;generalize hX:PV.tup [.str (C0 "pairs")]=X at *;walk_at "pu";refine if_f (by decide) (mt _ ?_)
 by_cases c1:led row ps=some other
 · refine if_f (by rw [decide_eq_true c1];rfl) ?_;rw [Pl];refine Jk ?_
   by_cases c2:ps.length=k
   · refine if_f (by rw [decide_eq_true c2];rfl) (mp _ ?_);rw [show decide (Fw row other k ps)=decide (k=inv (row.map (ixS other))) from decide_eq_decide.mpr ⟨fun z=>z.2.2,fun z=>⟨c1,c2,z⟩⟩] at h;exact h
   · rw [decide_eq_false (show ¬Fw row other k ps from fun z=>c2 z.2.1)] at h;exact if_t (by rw [decide_eq_false c2];rfl) h
 · rw [decide_eq_false (show ¬Fw row other k ps from fun z=>c1 z.1)] at h;exact if_t (by rw [decide_eq_false c1];rfl) h
theorem Jm {s k n:Nat}{row other:List Str}{R:PV->Nat->Prop}(pm:row.Perm other)(h2:row.length<=24)(h:R (.bl (decide (k=inv (row.map (ixS other))))) n):CB [.tup [.int s,.int 0],rowP row,rowP other,.int (k:Int),.tup [.str (C0 "pairs")]] n R:=by
 refine⟨rfl,?_⟩;unfold Fb;have ma:=fun(R:PV->Nat->Prop) q=>FA (zs:=row) (ys:=other) (n:=n) (R:=R) h2 pm.symm q;have hr0:rowP row=.tup (row.map PV.str):=rfl;rw [hr0] at ma ⊢;generalize hW:row.map PV.str=W at *;generalize hO:rowP other=O at *;walk_at "pu";refine⟨rfl,rfl,if_f rfl ?_⟩;rw [show atI [PV.str (C0 "pairs")] 0=some (.str (C0 "pairs")) from rfl];refine if_f (by decide) (if_f (by decide) ?_);show(if eqP (.str (C0 "pairs")) (.str (C0 "pairs"))=true then _ else False);refine if_t (by rw [t9];exact decide_eq_true rfl) (ma _ ?_);show R (.bl (eqP (.int (k:Int)) (.int (inv (row.map (ixS other)):Nat)))) n;rw [BW,show decide ((k:Int)=((inv (row.map (ixS other)):Nat):Int))=decide (k=inv (row.map (ixS other))) from decide_eq_decide.mpr (by omega)];exact h
theorem FH {s k n:Nat}{row other:List Str}{ps:List (Str×Str)}{R:PV->Nat->Prop}(h1:1<=s)(h2:s<=8)(l2:row.length<=24)(pm:row.Perm other)(hp:∀p∈ps,p.1∈row/\p.2∈row)(h:R (.bl (decide (Fw row other k ps))) n):AM [.tup [.int s,.int 0],rowP row,rowP other,fewP k ps] n R:=by
 refine⟨rfl,?_⟩;unfold Ff;have ml:=fun(R:PV->Nat->Prop) q=>m_lled (s:=s) (n:=n) (R:=R) h1 h2 l2 hp q;have mp:=fun(R:PV->Nat->Prop) q=>Jm (s:=s) (k:=k) (n:=n) (R:=R) pm l2 q;have Pl:(ps.map prS).length=ps.length:=B8 ..;have hO:rowP other=.tup (other.map PV.str):=rfl;have er:=fun st=>CK st other;have cs:=fun st:List Str=>h6 st 3;unfold fewP;rw [hO] at mp ⊢;generalize hW:rowP row=W at *;generalize hP:ps.map prS=PP at *;generalize hX:PV.tup [.str (C0 "pairs")]=X at *;have co:=cs other;generalize other.map PV.str=OO at *;walk_at "pu";refine if_f (by decide) ?_;rw [Pl]
 by_cases c2:ps.length=k
 · refine if_f (by rw [decide_eq_true (by omega)];rfl) (ml _ ?_);cases hl:led row ps with
   | none =>
     rw [decide_eq_false (show ¬Fw row other k ps from fun z=>by rw [Fw,hl] at z;exact nomatch z.1)] at h;exact gd2 rfl co (if_t rfl h)
   | some st =>
     refine gd2 (cs st) co ?_;rw [show eqP (rowP st) (.tup OO)=eqPs (st.map PV.str) OO from rfl,er st]
     by_cases e:st=other
     · refine if_f (by rw [decide_eq_true e];rfl) (mp _ ?_);rw [show decide (Fw row other k ps)=decide (k=inv (row.map (ixS other))) from decide_eq_decide.mpr ⟨fun z=>z.2.2,fun z=>⟨by rw [hl,e],c2,z⟩⟩] at h;exact h
     · rw [decide_eq_false (show ¬Fw row other k ps from fun z=>e (by have:=z.1;rw [hl] at this;exact E4 this))] at h;exact if_t (by rw [decide_eq_false e];rfl) h
 · rw [decide_eq_false (show ¬Fw row other k ps from fun z=>c2 z.2.1)] at h;exact if_t (by rw [decide_eq_false (by omega)];rfl) h
structure Lo where
 s:Nat
 row:List Str
 other:List Str
def Lo.ok (l:Lo):Prop:=1<=l.s/\l.s<=8/\RowS l.row/\1<=l.row.length/\l.row.length<=24/\l.other.Perm l.row
def loP (l:Lo):PV:=.tup [.tup [.int l.s,.int 0],rowP l.row,rowP l.other]
def thP (l:Lo×List (Str×Str)):PV:=fewP (inv (l.1.row.map (ixS l.1.other))) l.2
def Wy (l:Lo×List (Str×Str)):Prop:=Way l.1.row l.1.other l.1.other.length l.1.other l.2
theorem Lo.few {l:Lo}(h:l.ok){n:Nat}{R:PV->Nat->Prop}(q:∀ps,Wy (l,ps)->R (thP (l,ps)) n):u9 [.tup [.int l.s,.int 0],rowP l.row,rowP l.other] n R:=by
 obtain⟨h1,h2,rr,l1,l2,pm⟩:=h;exact m_few (pm.nodup_iff.mpr rr.1) pm.symm (by rw [pm.length_eq];exact l1) (by rw [pm.length_eq];exact l2) q
theorem FI:∀(L:List Lo) (s0 s1 s2:Option Pu.Slot) (n:Nat) (R:List PV->Nat->Prop),(∀l∈L,l.ok)->(∀M:List (Lo×List (Str×Str)),M.map Prod.fst=L->(∀l∈M,Wy l)->R (M.map thP) n)->
   O0 (gTp 3 (gCn (gN 0) (gCn (gN 1) (gCn (gN 2) gNl)))) qTru (B7 u9 (A1 (qV 0) (A1 (qV 1) (A1 (qV 2) qNil)))) (L.map loP) [s0,s1,s2] n R
 | [],_,_,_,_,_,_,h=>h [] rfl nofun
 | l :: L, s0, s1, s2, n, R, ho, h => by
   refine⟨rfl,?_⟩;refine Lo.few (ho l E2) fun ps w=>?_;refine FI L _ _ _ _ _ (fun a ha=>ho a (D0 _ ha)) fun M hM hw=>?_;exact h ((l,ps)::M) (by rw [M2,hM]) fun a ha=>(B9.mp ha).elim (fun e=>by rw [e];exact w) (hw a)
theorem rep_bl (b:Bool):∃z:Str,∀R:PV->Prop,R (.str z)->u3 (.bl b) R:=by
 cases b <;> exact⟨_,fun R h=>⟨rfl,by decide,by decide,h⟩⟩
theorem m_law (ns:List Int)(hl:ns.length<=63):CG ⟨fun _ _=>False,fun r _=>r=.bl true,fun _ _=>False,fun _ _=>False⟩ (W4 ["_law_script","_law_lots","_law_k","_law_pot","_law_meeting","_law_row","_law_told","_law_other","_law_thing"] [.scr ns]) 0:=by
 unfold CG;refine T4 fun U hU=>?_;walk_at "pu";subst hU;refine T4 fun U hU=>?_;walk_at "pu";generalize hk:(if(if((ns.length:Nat):Int) < 2 then((ns.length:Nat):Int) else 2) > 1 then(if((ns.length:Nat):Int) < 2 then((ns.length:Nat):Int) else 2) else 1)=k;have hk2:1<=k/\k<=2:=by rw [<- hk];repeat' split <;> omega
 refine⟨⟨by omega,by omega⟩,?_⟩;refine M8 (fun i env m=>∃s2 s3 s4 s5,∃L:List Lo,env=[some (.v (.scr ns)),some (.own (L.map loP)),s2,s3,s4,s5,none,none,none]/\L.length=i/\(∀p∈L,p.ok)/\m<=2000 * i) _ 0 _ _ ⟨none,none,none,none,[],rfl,rfl,(fun _ z=>nomatch z),by omega⟩ (fun i x env m N ex hI hN=>?_) (fun env m hI=>?_)
 · obtain⟨s2,s3,s4,s5,L,rfl,hi,hy,hm⟩:=hI;obtain⟨hj,rfl⟩:=e9 ex;rw [K2] at hi hm hN;generalize hF:L.map loP=FF;have Fl:FF.length=L.length:=by rw [<- hF,B8]
   walk_at "pu";refine⟨⟨hl,by omega,by omega⟩,fun q=>⟨by omega,fun e e0 e1=>⟨by omega,fun d d0 d1=>?_⟩⟩⟩;obtain⟨x,hx,ex⟩:=Aw (xs:=[PV.int 1,PV.int 2,PV.int 4,PV.int 6,PV.int 9,PV.int 24]) d0 d1
   have hx':∃t:Int,x=.int t/\1<=t/\t<=24:=by
     simp only [B9,X4,or_false] at hx;rcases hx with rfl | rfl | rfl | rfl | rfl | rfl <;> exact⟨_,rfl,by decide,by decide⟩
   obtain⟨t,rfl,t0,t1⟩:=hx';rw [ex];refine Ja t0 t1 (by omega) fun zs n1 hz rz hn1=>⟨⟨_,rfl⟩,m_goal (by omega) (by omega) (by omega) fun ys n2 pm hn2=>⟨by omega,hN _ _ ⟨some (.v (.int (0 + i))),some (.v (.pot q)),some (.v (.tup [.int (1 + e),.int 0])),some (.v (rowP zs)),L++[⟨(1 + e).toNat,zs,ys⟩],?_,by rw [K8,hi];rfl,fun p hp=>?_,by omega⟩⟩⟩
   · rw [Z7,hF,List.map_singleton,loP];dsimp only;rw [show(((1 + e).toNat:Nat):Int)=1 + e by omega]
   · rcases M1.mp hp with hp | hp
     · exact hy p hp
     · rw [K1.mp hp];exact⟨by dsimp only;omega,by dsimp only;omega,rz,by dsimp only;omega,by dsimp only;omega,pm⟩
 · obtain⟨s2,s3,s4,s5,L,rfl,hi,hy,hm⟩:=hI;rw [K2,Y9] at hi;dsimp only;subst hU;refine T4 fun U hU=>?_;generalize hF:L.map loP=FF;have Fl:FF.length=L.length:=by rw [<- hF,B8]
   walk_at "pu";refine⟨by omega,?_⟩;rw [<- hF];refine FI L _ _ _ _ _ hy fun M hM hw=>?_;rw [<- hM,U2];have hw':∀l∈M,l.1.ok:=fun l hl=>hy l.1 (by rw [<- hM];exact List.mem_map_of_mem hl);subst hU;refine T4 fun U hU=>?_;generalize hA:M.map (loP∘Prod.fst)=AA;generalize hB:M.map thP=BB;walk_at "pu";show forL _ _ _ (zipP AA BB) _ _;refine M8 (fun i env m'=>∃s4 s5 s7 s8,env=[some (.v (.scr ns)),some (.v (.lst AA)),s2,s3,s4,s5,some (.v (.lst BB)),s7,s8]/\m'=m) _ 0 _ _ ⟨s4,s5,none,none,rfl,rfl⟩ (fun i x env m' N ex hI hN=>?_) (fun env m' hI=>?_)
   · obtain⟨s4,s5,s7,s8,rfl,rfl⟩:=hI;obtain⟨u,v,eu,ev,rfl⟩:=EA ex;rw [<- hA] at eu;rw [<- hB] at ev;obtain⟨l,el,rfl⟩:=h9 eu;obtain⟨l',el',rfl⟩:=h9 ev;have e:l'=l:=E4 (el'.symm.trans el);subst e;have lm:=N3 el;have w:=hw _ lm;have ok:=hw' _ lm;obtain⟨⟨s,row,other⟩,ps⟩:=l';obtain⟨h1,h2,rr,l1,l2,pm⟩:=ok;dsimp only at h1 h2 rr l1 l2 pm;have w:Way row other other.length other ps:=w;have nd:=pm.nodup_iff.mpr rr.1
     have nu:ps.length=inv (row.map (ixS other)):=by
       have:=w.nu;rw [inv_id nd] at this;omega
     have pl:ps.length<=576:=by
       rw [nu];have:=CI 24 (row.map (ixS other)) (by rw [B8];exact l2);rw [B8] at this;omega
     have hp:∀p∈ps,p.1∈row/\p.2∈row:=fun p h=>⟨pm.mem_iff.mp (w.mm p h).1,pm.mem_iff.mp (w.mm p h).2⟩;have mr:=fun(R:PV->Nat->Prop) q=>FH (k:=inv (row.map (ixS other))) (n:=m') (R:=R) h1 h2 l2 pm.symm hp q;have ms:=fun(R:PV->Nat->Prop) q=>FG (k:=inv (row.map (ixS other))) (n:=m') (R:=R) h1 h2 l1 l2 pm.symm rr.2 (by omega) hp q;have mr':=fun(R:PV->Nat->Prop) q=>FH (k:=inv (row.map (ixS other))) (n:=m') (R:=R) h1 h2 (by rw [pm.length_eq];exact l2) pm w.mm q;have ms':=fun(R:PV->Nat->Prop) q=>FG (k:=inv (row.map (ixS other))) (n:=m') (R:=R) h1 h2 (by rw [pm.length_eq];exact l1) (by rw [pm.length_eq];exact l2) pm (fun z hz=>rr.2 z (pm.mem_iff.mp hz)) (by omega) w.mm q;have ma:=fun(R:PV->Nat->Prop) q=>FA (zs:=row) (ys:=other) (n:=m') (R:=R) l2 pm q;rw [decide_eq_true (show Fw row other (inv (row.map (ixS other))) ps from⟨w.ld,nu,rfl⟩)] at mr ms;generalize decide (Fw other row (inv (row.map (ixS other))) ps)=b at mr' ms';rw [show(loP∘Prod.fst) (({ s:=s,row:=row,other:=other }:Lo),ps)=.tup [.tup [.int s,.int 0],rowP row,rowP other] from rfl,show thP (({ s:=s,row:=row,other:=other }:Lo),ps)=.tup [.int (inv (row.map (ixS other)):Nat),.tup (ps.map prS),.tup [.str (C0 "pairs")]] from rfl];unfold fewP at mr ms mr' ms';generalize hW:rowP row=W at *;generalize hO:rowP other=O at *;generalize hP:PV.tup (ps.map prS)=PP at *
     generalize hX:PV.tup [.str (C0 "pairs")]=X at *;generalize inv (row.map (ixS other))=kk at *;clear hU hy hM hw hw' hA hB;walk_at "pu";obtain⟨z,hz⟩:=rep_bl b;refine mr _ (if_f rfl (ma _ ?_));show(if(!eqP (.int (kk:Int)) (.int (kk:Int)))=true then _ else _);refine if_f (by rw [BW,decide_eq_true rfl];rfl) (ms _ (if_f rfl (ms' _ (hz _ (mr' _ (hz _ ?_))))));show(if(!eqP (.str z) (.str z))=true then _ else _);exact if_f (by rw [t9,decide_eq_true rfl];rfl) (hN _ _ ⟨_,_,_,_,rfl,rfl⟩)
   · obtain⟨s4,s5,s7,s8,rfl,rfl⟩:=hI;subst hU
     rfl
end Tb
end
section
namespace L2
open PySem PySem.Spec PyProof.Rows
theorem FJ {X:Cx}:OpR X (L8 .Mult) (rI IntMulOk fun i j=>.int (i * j)):=opI fun _ _ _ _ _ _ _ hc q=>mul_int q hc
end L2
namespace Tb
open PySem L2 Pu
section
variable {P:C6}{w:World}{K:A3}{mg:Str->Option Value}{base:Heap}
theorem Jn (F:Fn0 K mg "_law_begin" (top 31))(m_len:mg "len"=none)(m_abs:mg "abs"=none)(m_int:mg "int"=none):Kn P w K mg base "_law_begin" 1 ["_law_script","_law_k"] (Pu.Ax K):=by
 have sc:P2 ["_law_script","_law_k","_law_cell","_law_seed","_law_one"] ["_law_script","_law_k"] (D6 (top 31)):=⟨rfl,rfl,rfl,by decide +kernel,rfl,by decide +kernel,by decide +kernel⟩;refine F.ok sc (fun vs H Q E h=>?_) (fun _ _ _ _ _ _=>bd2 fun _ _=>rfl) (fun f cdv A outer s H vs Q E hr h=>?_)
 · obtain⟨a,ns,k,rfl,_⟩:=h
   rfl
 obtain⟨a,ns,k,rfl,hS,hl63,h0,h1,q⟩:=h
 refine⟨_,(P1 (U7 (i:=2) sc.nd rfl (Or.inl rfl) (Gk (Bp op_lt (pv 1) (U9 Dz rfl m_len DF (C7 (pv 0) E3)) (D9 _)) (V0 V1 (pv 0) (pv 1) (fun _ _=>rfl)) C8))
     (P1 (U7 (i:=3) sc.nd rfl (Or.inl rfl) (D1 Q2 C8 (D1 R1 C8 (pv 1))))
     (P1 (De PassesOwn.never rfl (Dc (Dt Dx (pv 0) Dr (Ds C8))) (C_ (i:=4) sc.nd rfl (Or.inl rfl)) (k9 (U7 (i:=3) sc.nd rfl (Or.inl rfl) (D1 R3 (D1 Q2 (D1 Q2 (D1 R1 (pv 3) C8) (D1 R3 (pv 4) C8)) C8) C8))))
     (k9 (Ae (Dj (C7 (D1 FJ (D1 R3 (U9 Dh rfl m_abs DG (C7 (pv 2) E3)) (D1 FJ (D1 Bm C8 C8) (D1 Bm C8 C8))) (Bs GC rfl m_int BA (C7 (Dg op_ge (U9 Dh rfl m_abs DG (C7 (pv 2) E3)) (D1 Bm C8 C8) (D9 _)) E3))) (C7 (pv 3) (C7 C8 E3))))))))),?_⟩
 refine Hn (fun v=>∃c:Int,v=.int c) (fun key=>?_) ?_
 · refine⟨_,rfl,_,rfl,a,_,rfl,.inl hS,_,_,rfl,rfl,_,rfl,?_⟩;refine ite2 (fun c=>?_) (fun c=>?_)
   · have c':k < (((ns.map V.int).length:Nat):Int):=of_decide_eq_true c;rw [B8] at c';obtain⟨v,qa⟩:=at_map (ns:=ns) h0 c';exact⟨_,rfl,_,rfl,a,_,_,_,rfl,rfl,hS,qa,key _ ⟨_,rfl⟩⟩
   · exact key _ ⟨0,rfl⟩
 rintro v ⟨c,rfl⟩;refine⟨_,rfl,_,_,rfl,rfl,.inl ⟨by decide,by decide⟩,_,_,rfl,rfl,?_⟩;dsimp only [M4];have hk':0<=7919 + 104729 * k/\7919 + 104729 * k < 2305843009213693951:=by omega
 generalize 7919 + 104729 * k=sd0 at hk' ⊢;refine⟨_,rfl,63,rfl,a,_,rfl,hS,fun p0 hp0=>?_⟩;have sm0:Same H (upd H p0 (.lst (cutV (ns.map V.int) none (some 63)))):=Same.lay1 hp0
 have cut:cutV (ns.map V.int) none (some 63)=ns.map V.int:=by
   unfold cutV;rw [HT.sIx_none,show(some (63:Int))=some ((63:Nat):Int) from rfl,HT.sIx_nat,List.drop_zero,B8,Nat.min_eq_right hl63];exact X2 (by rw [B8];omega)
 rw [cut] at sm0 ⊢;refine⟨p0,rfl,⟨_,SqL.of D5⟩,?_⟩;refine Gu (xs:=ns.map V.int) (fun i σ H'=>∃sd s4,σ=[some (.ref a),some (.int k),some (.int c),some (.int sd),s4]/\(0<=sd/\sd < 2305843009213693951)/\H'=upd H p0 (.lst (ns.map V.int))) ⟨sd0,none,rfl,hk',rfl⟩ (fun i σ H' _ h=>?_) (fun i x σ H' ex h=>?_) (fun σ H' h=>?_)
 · obtain⟨sd,s4,rfl,_,rfl⟩:=h;exact SqL.of D5
 · obtain⟨sd,s4,rfl,hsd,rfl⟩:=h
   obtain⟨y,ey,rfl⟩:∃y:Int,ns[i]?=some y/\V.int y=x:=by
     rw [F2] at ex;cases en:ns[i]? with
     | none=>rw [en] at ex;cases ex
     | some y=>rw [en] at ex;cases ex;exact⟨y,rfl,rfl⟩
   refine⟨_,rfl,_,_,rfl,rfl,.inl ⟨by omega,by omega⟩,_,rfl,_,_,rfl,rfl,(by show(0:Int) < 2147483647;decide),_,_,rfl,rfl,_,_,rfl,rfl,_,_,rfl,rfl,(by show(0:Int) < 2305843009213693951;decide),?_⟩;exact⟨_,_,rfl,⟨X9 _ (by decide),b3 _ (by decide)⟩,rfl⟩
 · obtain⟨sd,s4,rfl,hsd,rfl⟩:=h;refine⟨_,rfl,_,rfl,_,_,rfl,rfl,⟨by decide,by decide,by decide⟩,_,_,rfl,rfl,⟨by decide,by decide,by decide⟩,_,_,rfl,rfl,(by show IntMulOk (10 ^ Y0 60) (10 ^ Y0 60);unfold IntMulOk;decide +kernel),_,_,rfl,rfl,(by show(0:Int) < 10 ^ Y0 60 * 10 ^ Y0 60;decide +kernel),?_⟩;have m0:0<=(if c < 0 then -c else c) % (10 ^ Y0 60 * 10 ^ Y0 60):=X9 _ (by decide +kernel);refine⟨_,rfl,_,rfl,_,_,rfl,rfl,⟨by decide,by decide,by decide⟩,_,_,rfl,rfl,?_⟩;refine .inr ⟨_,rfl,?_⟩;generalize hb:(decide ((10:Int) ^ Y0 18<=(if c < 0 then -c else c)))=b;have hz:0<=(if b=true then(1:Int) else 0)/\(if b=true then(1:Int) else 0) < 2 ^ 64:=by cases b <;> decide
   refine⟨_,_,rfl,rfl,?_⟩;generalize (if b=true then(1:Int) else 0)=z at hz ⊢;refine⟨(show CMul _ z from .inr ⟨by omega,hz.2⟩).ok,_,rfl,(by show 3<=B4;decide),fun p hp=>?_⟩;exact q _ sm0 p _ _ hp ⟨Int.mul_nonneg m0 hz.1,by omega,by omega,by decide,by decide⟩
theorem Jo (F:Fn0 K mg "_law_take" (top 32)):Kn P w K mg base "_law_take" 1 ["_law_pot","_law_many"] (D4 K potL e7):=by
 refine HH ?_;have sc:P2 ["_law_pot","_law_many","_law_digit","_law_turn","_law_mixed"] ["_law_pot","_law_many"] (D6 (top 32)):=⟨rfl,rfl,rfl,by decide +kernel,rfl,by decide +kernel,by decide +kernel⟩;refine F.ok sc (fun vs H Q E h=>?_) (fun _ _ _ _ _ _=>bd2 fun _ _=>rfl) (fun f cdv A outer s H vs Q E hr h=>?_)
 · obtain⟨p,own,seed,go,many,rfl,_⟩:=h
   rfl
 obtain⟨p,own,seed,go,many,rfl,hp,⟨o0,s0,s1,g0,g1⟩,g2,n0,n1,q⟩:=h
 refine⟨_,(P1 (ps_if (Bp op_gt (V0 V1 (pv 0) C8 (fun _ _=>rfl)) C8 (D9 _)) (P1 (U7 (i:=2) sc.nd rfl (Or.inl rfl) (D1 R3 (V0 V1 (pv 0) C8 (fun _ _=>rfl)) (pv 1)))
     (P1 (Bl (D1 Af (V0 V1 (pv 0) C8 (fun _ _=>rfl)) (pv 1)) (Bk (pv 0) C8 Bv))
     (k9 (Ae (pv 2))))) CZ)
     (P1 (Bl (D1 Q2 (V0 V1 (pv 0) C8 (fun _ _=>rfl)) C8) (Bk (pv 0) C8 Bv))
     (P1 (U7 (i:=3) sc.nd rfl (Or.inl rfl) (V0 V1 (pv 0) C8 (fun _ _=>rfl)))
     (P1 (U7 (i:=4) sc.nd rfl (Or.inl rfl) (D1 R3 (D1 R1 (D1 Q2 (D1 Q2 (V0 V1 (pv 0) C8 (fun _ _=>rfl)) (D1 R1 (D1 R1 C8 (pv 3)) (pv 3))) (D1 R1 C8 (pv 3))) C8) C8))
     (P1 (U7 (i:=4) sc.nd rfl (Or.inl rfl) (D1 R3 (D1 R1 (pv 4) (D1 Q2 (D1 Q2 (D1 R3 (pv 4) C8) (D1 R1 C8 (pv 3))) C8)) C8))
     (k9 (Ae (D1 R3 (D1 Q2 (D1 Af (pv 4) C8) (D1 Af (pv 4) C8)) (pv 1))))))))),?_⟩
 refine⟨_,rfl,p,_,0,_,rfl,rfl,SqL.of hp,rfl,_,_,rfl,rfl,_,rfl,?_⟩;refine ite2 (fun c=>?_) (fun c=>?_)
 · refine⟨_,rfl,p,_,0,_,rfl,rfl,SqL.of hp,rfl,_,rfl,_,_,rfl,rfl,n0,?_⟩;refine⟨_,rfl,p,_,0,_,rfl,rfl,SqL.of hp,rfl,_,rfl,_,_,rfl,rfl,⟨n0,by omega⟩,?_⟩;refine⟨_,rfl,p,_,0,0,rfl,rfl,hp,rfl,?_⟩;refine⟨_,rfl,?_⟩;exact q _ _ _ _ (X9 _ (by omega)) (b3 _ n0) ⟨Int.ediv_nonneg o0 (by omega),s0,s1,g0,g1⟩ (by omega)
 · refine⟨_,rfl,p,_,2,_,rfl,rfl,SqL.of hp,rfl,_,_,rfl,rfl,?_⟩;refine⟨_,rfl,p,_,2,2,rfl,rfl,hp,rfl,?_⟩;refine⟨_,rfl,p,_,2,_,rfl,rfl,SqL.of D5,rfl,?_⟩;refine⟨_,rfl,p,_,1,_,rfl,rfl,SqL.of D5,rfl,_,rfl,_,_,rfl,rfl,.inl ⟨by decide,by decide⟩,_,rfl,_,_,rfl,rfl,.inr ⟨by omega,by omega⟩,_,_,rfl,rfl,?_⟩;refine⟨_,rfl,_,_,rfl,rfl,.inl ⟨by decide,by decide⟩,_,_,rfl,rfl,_,_,rfl,rfl,.inr ⟨by decide,by decide⟩,_,_,rfl,rfl,(by show(0:Int) < 2305843009213693921;decide),?_⟩;dsimp only [M4];generalize (seed + 65537 * (go + 1) * (go + 1) + 15485863 * (go + 1)) * 48271=y;have m0:=X9 y (show(2305843009213693921:Int)≠0 by decide);have m1:=b3 y (show(0:Int) < 2305843009213693921 by decide);generalize y % 2305843009213693921=z at m0 m1 ⊢;refine⟨_,rfl,_,rfl,_,_,rfl,rfl,(by show(0:Int) < 1000003;decide),_,rfl,_,_,rfl,rfl,.inl ⟨by decide,by decide⟩,_,_,rfl,rfl,_,_,rfl,rfl,_,_,rfl,rfl,.inl ⟨by omega,by omega⟩,_,_,rfl,rfl,(by show(0:Int) < 2305843009213693907;decide),?_⟩;refine⟨_,rfl,_,_,rfl,rfl,⟨by decide,by decide⟩,_,rfl,_,_,rfl,rfl,⟨by decide,by decide⟩,_,_,rfl,rfl,_,rfl,_,_,rfl,rfl,n0,?_⟩;exact q _ _ _ _ (X9 _ (by omega)) (b3 _ n0) ⟨o0,s0,s1,by omega,by omega⟩ (by omega)
end
end Tb
end
section
namespace Pu
open PySem PySem.Spec L2
section
variable {T:PotK}{ι:Type}{K:A3}{F:ι->Cx}{e:Expr}{es:List Expr}{st:Stmt}{pe:pE}{pl:pA}{pos:Pos}{np:Bool}{x:Str}
theorem qv (i:Nat)(h:∀z,EW (F z) (.Name x pos) (tVar i):=by exact fun _=>vw _):QE T K F (.Name x pos) (qV i):=qe_var i h
theorem qf {p:Pos}{f:pF}{ps:List Str}{k j:Nat}{P:C6}{w:World}{K0:A3}{mg:Str->Option Value}{base:Heap}{A:Around}(hG:Kn P w K0 mg base x k ps (D4 K T f))(hr:Room j A)(ha:QA T K F (e::es) pl)(hF:∀z,(F z).prog=P/\(F z).w=w/\(F z).K=K0/\(F z).mg=mg/\(F z).base=base/\(F z).A=A:=by exact fun _=>⟨rfl,rfl,rfl,rfl,rfl,rfl⟩)(hk:k<=j:=by decide)(hg:∀z,Gl (F z) x:=by intro _;rfl)(hdb:(x == ("__debug__":Str))=false:=by decide)(hs:C9 e=true:=by rfl)(hpl:∀z,(backTo pos (C3 es (F z).env)).any (·.1)=false:=by intro _;rfl):QE T K F (.Call (.Name x p) (e::es) [] pos) (B7 f pl):=qe_fn (fun z=>by obtain⟨h1,h2,h3,h4,h5,_⟩:=hF z;rw [h1,h2,h3,h4,h5];exact hG) (fun z=>by rw [(hF z).2.2.2.2.2];exact hr) hk hg ha hdb hs hpl
theorem gn (i:Nat){N:List Str}(hN:N.Nodup)(hNF:∀z,(F z).N=N:=by exact fun _=>rfl)(hi:∀z,(F z).N[i]?=some x:=by intro _;rfl)(hx:∀z,Loc (F z).env.scope x:=by intro _;first | exact Or.inl rfl | exact Or.inr rfl)(hf:∀z,(F z).fn x=true\/(F z).env.scope.names.lookup x=some .local:=by intro _;first | exact .inl rfl | exact .inr rfl | assumption):QG K F (.Name x pos) (gN i):=HA fun z=>Hz i (hNF z▸hN) (hi z) (hx z) (hf z)
theorem sws (i:Nat){pos':Pos}{N:List Str}(hN:N.Nodup)(hNF:∀z,(F z).N=N:=by exact fun _=>rfl)(hi:∀z,(F z).N[i]?=some x:=by intro _;rfl)(hx:∀z,Loc (F z).env.scope x:=by intro _;first | exact Or.inl rfl | exact Or.inr rfl)(hs:∀z,T8 e (some (.Name x pos')) pos.line (F z).env=pure false:=by intro _;rfl)(hf:∀z,(F z).fn x=true\/(F z).env.scope.names.lookup x=some .local:=by intro _;first | exact .inl rfl | exact .inr rfl | assumption)(z:ι)(te:TE)(h:EW (F z) e te):SW (F z) (.Assign [.Name x pos'] e pos) (tAsg te (M4 i)):=sw_set (hNF z▸hN) (hi z) (hx z) (hs z) (hf z) te h
end
section
variable {P:C6}{w:World}{K:A3}{mg:Str->Option Value}{base:Heap}{T:PotK}{x:Str}{st:Stmt}{N ps:List Str}{k:Nat}{body:pS}
theorem fnk (F0:Fn0 K mg x st)(h:P2 N ps (D6 st)->∀(f:Addr) (cdv:Value) (A:Around) (outer:List PySem.Env) (s:Shared) (H:Hp) (E:XK),Room k (A.deeper (AY x (D6 st) s.heap.objs.size f cdv))->
     QSs T false K (fun _:Unit=>(cxOf CX0 P w K mg base N x (D6 st) f cdv A outer s H E).nox) (L5 st) body) (sc:P2 N ps (D6 st):=by exact⟨rfl,rfl,rfl,by decide +kernel,rfl,by decide +kernel,by decide +kernel⟩)
   (bd:∀(kV doc pm:Value) (an:Option Addr) (cdv ct:Value) (us:List Value),us.length=ps.length->bindArgs (M9 x x (Q4 st) (L5 st) (D6 st) .none kV doc pm an cdv ct) ⟨us,[]⟩=pure (ps.zip us):=by intro _ _ _ _ _ _;first | exact bd1 fun _=>rfl | exact bd2 fun _ _=>rfl | exact bd3 fun _ _ _=>rfl | exact bd4 fun _ _ _ _=>rfl | exact bd5 fun _ _ _ _ _=>rfl) :
   Kn P w K mg base x (k + 1) ps (D4 K T (fnP N ps body)):=fn_ok F0 sc bd (h sc)
end
end Pu
end
section
namespace Tb
open PySem L2 Pu
section
variable (P:C6)(w:World)(K:A3)(mg:Str->Option Value)(base:Heap)(Pt:Addr)
abbrev Jp:Prop:=Kn P w K mg base "_law_begin" 1 ["_law_script","_law_k"] (Ax K)
abbrev CL:Prop:=Kn P w K mg base "_law_take" 1 ["_law_pot","_law_many"] (D4 K potL e7)
abbrev FK:Prop:=Kn P w K mg base "_law_boats" 2 ["_law_pot","_law_many"] (D4 K potL Cn)
abbrev CM:Prop:=Kn P w K mg base "may_count_pairs" 1 ["meeting"] (D4 K potL AG)
abbrev CN:Prop:=Kn P w K mg base "apart_by" 1 ["row","other"] (D4 K potL AH)
abbrev CO:Prop:=Kn P w K mg base "exchanged" 1 ["row","one","other"] (D4 K potL AI)
abbrev FL:Prop:=Kn P w K mg base "touches_by_pairs" 2 ["row","other"] (D4 K potL Co)
abbrev FM:Prop:=Kn P w K mg base "fewest" 3 ["meeting","row","other"] (D4 K potL u9)
abbrev FN:Prop:=Kn P w K mg base "is_text" 1 ["thing","text"] (D4 K potL Cp)
abbrev FO:Prop:=Kn P w K mg base "shows_paper" 2 ["meeting","row","other","many","thing"] (D4 K potL Cq)
abbrev FP:Prop:=Kn P w K mg base "races_of" 1 ["meeting","n"] (D4 K potL Cr)
abbrev FQ:Prop:=Kn P w K mg base "span" 1 ["meeting","n","k"] (D4 K potL Cs)
abbrev FR:Prop:=Kn P w K mg base "touch_places" 2 ["meeting","n"] (D4 K potL AJ)
abbrev FS:Prop:=Kn P w K mg base "leads_there" 3 ["meeting","row","other","pairs"] (D4 K potL Cu)
abbrev FT:Prop:=Kn P w K mg base "is_boat" 1 ["thing"] (D4 K potL Cv)
abbrev FU:Prop:=Kn P w K mg base "is_pair_of" 2 ["row","thing"] (D4 K potL Cw)
abbrev FV:Prop:=Kn P w K mg base "shows_touches" 4 ["meeting","row","other","thing"] (D4 K potL Cy)
abbrev FW:Prop:=Kn P w K mg base "is_whole" 1 ["thing","low","high"] (D4 K potL Cz)
abbrev FX:Prop:=Kn P w K mg base "shows_fewest" 5 ["meeting","row","other","thing"] (D4 K potL AK)
abbrev FY:Prop:=Kn P w K mg base "_law_goal" 2 ["_law_pot","_law_row"] (D4 K potL CA)
abbrev CP:Prop:=Kn P w K mg base "_law_apart" 1 ["_law_row","_law_other"] (D4 K potL AL)
abbrev FZ:Prop:=Kn P w K mg base "_law_paper_right" 2 ["_law_meeting","_law_row","_law_other","_law_many","_law_paper"] (D4 K potL CB)
abbrev F_:Prop:=Kn P w K mg base "_law_exchanged" 1 ["_law_row","_law_p","_law_q"] (D4 K potL CC)
abbrev Ga:Prop:=Kn P w K mg base "_law_is_pair" 1 ["_law_meeting","_law_p","_law_q"] (D4 K potL CD)
abbrev Gb:Prop:=Kn P w K mg base "_law_led" 2 ["_law_meeting","_law_row","_law_touches"] (D4 K potL CF)
abbrev Gc:Prop:=Kn P w K mg base "_law_right" 3 ["_law_meeting","_law_row","_law_other","_law_thing"] (D4 K potL AM)
end
section
variable {P:C6}{w:World}{K:A3}{mg:Str->Option Value}{base:Heap}{Pt cd:Addr}
theorem Jq (F0:Fn0 K mg "_law_boats" (top 33))(g1:CL P w K mg base)(m6:mg "len"=none)(m10:mg "range"=none)(m15:mg "tuple"=none):FK P w K mg base:=fnk F0 fun sc _ _ _ _ _ _ _ hr=>(A6 (F9 2 (sws 2 sc.nd) M5)
   (A6 (e6 3 4 (fun _=>d9 (i:=3) (j:=4) rfl sc.nd rfl rfl (by decide) rfl rfl rfl) (ql_v (qf g1 hr (A2 (qv 0) (A2 A5 A7)))) (ql_v (C2 (QN.ee (P3 (A2 A5 (A2 A5 (A2 A5 (A2 A5 (A2 A5 (A2 A5 (A2 A5 (A2 A5 A7)))))))))) (qf g1 hr (A2 (qv 0) (A2 A5 A7))))))
   (A6 (e6 5 6 (fun _=>d9 (i:=5) (j:=6) rfl sc.nd rfl rfl (by decide) rfl rfl rfl) (ql_v (qf g1 hr (A2 (qv 0) (A2 A5 A7)))) (ql_v M5))
   (A6 (O1 (fun _=>rfl) (p9 (fun _=>rfl) (fun _=>m10) (qf g1 hr (A2 (qv 0) (A2 A5 A7)))) (gn 7 sc.nd) (B2 (F9 6 (sws 6 sc.nd) (J0 (qv 6) (C2 (qv 2) (qf g1 hr (A2 (qv 0) (A2 A5 A7))))))))
   (A6 (W3 8 (sws 8 sc.nd) (P3 A7))
   (A6 (O1 (fun _=>rfl) (p9 (fun _=>rfl) (fun _=>m10) (qv 1)) (gn 7 sc.nd) (A6 (F9 9 (sws 9 sc.nd) (C2 (qv 2) (DK (J0 (qv 3) (Aj (qv 4) (qv 7))) A5)))
   (A6 (F9 10 (sws 10 sc.nd) (p6 (qv 6) o9 (p5 (DK (J0 (Aj (qv 7) (qv 4)) (qv 3)) (J0 (F7 (fun _=>rfl) (fun _=>m6) (QE.r (qv 6))) A5)))))
   (B2 (Au (fun _=>At) (EF 8 (fun _=>vw 8) (qf g1 hr (A2 (qv 0) (A2 (J0 (qv 7) A5) A7))) (C2 (QN.ee (P3 (A2 (J0 (qv 10) (qv 9)) (A2 (J0 (qv 9) (qv 10)) A7)))) (qv 5))))))))
   (A6 (O1 (fun _=>rfl) (p9 (fun _=>rfl) (fun _=>m10) (C2 (QN.ee (P3 (A2 A5 (A2 A5 (A2 A5 (A2 A5 (A2 A5 A7))))))) (qf g1 hr (A2 (qv 0) (A2 A5 A7))))) (gn 7 sc.nd) (A6 (F9 11 (sws 11 sc.nd) (C2 (QN.ee (P3 (A2 M5 (A2 M5 (A2 M5 (A2 M5 (A2 M5 (A2 M5 (A2 M5 A7))))))))) (qf g1 hr (A2 (qv 0) (A2 A5 A7)))))
   (B2 (E8 (G6 (o6 4 fun _=>hr) (qv 11) (R5 8 fun _=>vw 8) rfl) (B2 (qs_put 8 (fun _=>d7) (qv 11) (fun _=>Y8 (vw 8)) (qf g1 hr (A2 (qv 0) (A2 (qv 1) A7))))) E7))))
   (B2 (C1 (Y4 (fun _=>rfl) (fun _=>m15) (R5 8 fun _=>vw 8)))))))))))
theorem Jr (F0:Fn0 K mg "may_count_pairs" (top 15)):CM P w K mg base:=fnk F0 fun sc _ _ _ _ _ _ _ hr=>(B2 (C1 (Q6 (cEq 4 fun _=>hr) (C2 (qv 0) A5) (QE.r A5) (D9 _))))
theorem Js (F0:Fn0 K mg "apart_by" (top 13))(m3:mg "enumerate"=none)(m6:mg "len"=none):CN P w K mg base:=fnk F0 fun sc _ _ _ _ _ _ _ hr=>(A6 (F9 2 (sws 2 sc.nd) (QN.ee (Y7 (N:=["boat","other"]) (cs:=[none,some 1]) (fun _=>R4 rfl rfl rfl rfl ⟨rfl,trivial⟩ rfl rfl rfl) (fun _=>rfl) (Y5 (qv 0)) (gn 0 (show K9 (["boat","other"]:List Str) by decide +kernel)) W0 (Z0 (qv 1) (qv 0)))))
   (B2 (C1 (F7 (fun _=>rfl) (fun _=>m6) (QE.r (QN.ee (IC (N:=["at","goal","later","goals"]) (cs:=[none,none,none,some 2]) (fun _=>R4 rfl rfl rfl rfl ⟨rfl,trivial⟩ rfl rfl rfl) (fun _=>rfl) (Eb (fun _=>rfl) (fun _=>m3) (qv 2)) (R9 (fun _=>rfl) (F8 (gn 0 (show K9 (["at","goal","later","goals"]:List Str) by decide +kernel)) (F8 (gn 1 (show K9 (["at","goal","later","goals"]:List Str) by decide +kernel)) R8))) (BO (p6 (qv 3) (p5 (J0 (qv 0) A5)) o9)) (gn 2 (show K9 (["at","goal","later","goals"]:List Str) by decide +kernel)) (Ec (G6 cLt (qv 2) (QE.r (qv 1)) (D9 _))) A5)))))))
theorem Jt (F0:Fn0 K mg "exchanged" (top 7))(m7:mg "list"=none)(m15:mg "tuple"=none):CO P w K mg base:=fnk F0 fun sc _ _ _ _ _ _ _ hr=>(A6 (W3 3 (sws 3 sc.nd) (BM (fun _=>rfl) (fun _=>m7) (QE.r (qv 0))))
   (A6 (Cf 3 (fun _=>d7) (fun _ _ _ h1 h2=>Ce K rfl (Y8 (vw 3) (by intro _;rfl) _ h1) (Y8 (vw 3) (by intro _;rfl) _ h2)) (C2 (qv 0) (qv 2)) (C2 (qv 0) (qv 1)) (qv 1) (qv 2))
   (B2 (C1 (Y4 (fun _=>rfl) (fun _=>m15) (R5 3 fun _=>vw 3))))))
theorem Ju (F0:Fn0 K mg "touches_by_pairs" (top 18))(g5:CO P w K mg base)(m3:mg "enumerate"=none)(m10:mg "range"=none)(m12:mg "reversed"=none)(m15:mg "tuple"=none):FL P w K mg base:=fnk F0 fun sc _ _ _ _ _ _ _ hr=>(A6 (F9 2 (sws 2 sc.nd) (qv 0))
   (A6 (W3 3 (sws 3 sc.nd) (P3 A7))
   (A6 (O1 (fun _=>rfl) (Iq (fun _=>rfl) (fun _=>m3) (qv 1)) (R9 (fun _=>rfl) (F8 (gn 4 sc.nd) (F8 (gn 5 sc.nd) R8))) (B2 (O1 (fun _=>rfl) (IT (fun _=>rfl) (fun _=>m12) (fun _=>rfl) (fun _=>m10) (qv 4) (Z0 (qv 2) (qv 5))) (gn 6 sc.nd) (A6 (Au (fun _=>At) (Ee 3 (fun _=>vw 3) (R6 (A2 (qv 5) (A2 (C2 (qv 2) (qv 6)) A7)))))
   (B2 (F9 2 (sws 2 sc.nd) (qf g5 hr (A2 (qv 2) (A2 (qv 6) (A2 (J0 (qv 6) A5) A7))))))))))
   (B2 (C1 (Y4 (fun _=>rfl) (fun _=>m15) (R5 3 fun _=>vw 3)))))))
theorem Jv (F0:Fn0 K mg "fewest" (top 22))(g3:CM P w K mg base)(g6:FL P w K mg base)(g4:CN P w K mg base):FM P w K mg base:=fnk F0 fun sc _ _ _ _ _ _ _ hr=>(A6 (E8 (F5 (qf g3 hr (A2 (qv 0) A7))) (B2 (C1 (R6 (A2 (qf g4 hr (A2 (qv 1) (A2 (qv 2) A7))) (A2 (qf g6 hr (A2 (qv 1) (A2 (qv 2) A7))) (A2 (R6 (A2 M5 A7)) A7)))))) E7)
   u8)
theorem Jw (F0:Fn0 K mg "is_text" (top 3))(m5:mg "isinstance"=none)(m13:mg "str"=none):FN P w K mg base:=fnk F0 fun sc _ _ _ _ _ _ _ hr=>(B2 (C1 (d5 (K5 (n:="str") (by decide) (fun _=>rfl) (fun _=>m5) (qv 0) (fun _=>tyw rfl m13 BC)) (o7 (Q6 (cEq 4 fun _=>hr) (qv 0) (QE.r (qv 1)) (D9 _))))))
theorem Jx (F0:Fn0 K mg "shows_paper" (top 28))(g8:FN P w K mg base)(g4:CN P w K mg base)(g3:CM P w K mg base)(m5:mg "isinstance"=none)(m6:mg "len"=none)(m15:mg "tuple"=none):FO P w K mg base:=fnk F0 fun sc _ _ _ _ _ _ _ hr=>(A6 (E8 (QW.qt (J1 (G7 (F5 (K5 (n:="tuple") (by decide) (fun _=>rfl) (fun _=>m5) (qv 4) (fun _=>tyw rfl m15 Q5)))) (N9 (G7 (DT cLe cLe A5 (F7 (fun _=>rfl) (fun _=>m6) (QE.r (qv 4))) A5))))) (B2 (C1 K4)) E7)
   (A6 (F9 5 (sws 5 sc.nd) (F7 (fun _=>rfl) (fun _=>m6) (QE.r (qv 1))))
   (A6 (E8 (G6 (cEq 4 fun _=>hr) (F7 (fun _=>rfl) (fun _=>m6) (QE.r (qv 4))) (QE.r A5) (D9 _)) u8 E7)
   (A6 (E8 (F5 (qf g8 hr (A2 (C2 (qv 4) A5) (A2 M5 A7)))) (B2 (C1 (d5 (qf g3 hr (A2 (qv 0) A7)) (o7 (Q6 (cEq 4 fun _=>hr) (qv 3) (QE.r (qf g4 hr (A2 (qv 1) (A2 (qv 2) A7)))) (D9 _)))))) E7)
   u8))))
theorem Jy (F0:Fn0 K mg "races_of" (top 5)):FP P w K mg base:=fnk F0 fun sc _ _ _ _ _ _ _ hr=>(A6 (F9 2 (sws 2 sc.nd) (C2 (qv 0) A5))
   (B2 (C1 (DJ (o1 (J0 (qv 1) (qv 2)) A5) (qv 2)))))
theorem k_span (F0:Fn0 K mg "span" (top 6))(m9:mg "min"=none):FQ P w K mg base:=fnk F0 fun sc _ _ _ _ _ _ _ hr=>(A6 (F9 3 (sws 3 sc.nd) (C2 (qv 0) A5))
   (A6 (F9 4 (sws 4 sc.nd) (Aj (qv 2) (qv 3)))
   (B2 (C1 (R6 (A2 (qv 4) (A2 (BN (fun _=>rfl) (fun _=>rfl) (fun _=>m9) (J0 (qv 4) (qv 3)) (o1 (qv 1) A5)) A7)))))))
theorem Jz (F0:Fn0 K mg "touch_places" (top 12))(g10:FP P w K mg base)(g11:FQ P w K mg base)(m9:mg "min"=none)(m10:mg "range"=none)(m15:mg "tuple"=none):FR P w K mg base:=fnk F0 fun sc _ _ _ _ _ _ _ hr=>(A6 (W3 2 (sws 2 sc.nd) (P3 A7))
   (A6 (O1 (fun _=>rfl) (p9 (fun _=>rfl) (fun _=>m10) (qf g10 hr (A2 (qv 0) (A2 (qv 1) A7)))) (gn 3 sc.nd) (A6 (Ed (fun _=>d7) (qf g11 hr (A2 (qv 0) (A2 (qv 1) (A2 (qv 3) A7)))) (R9 (fun _=>rfl) (F8 (gn 4 sc.nd) (F8 (gn 5 sc.nd) R8))))
   (B2 (O1 (fun _=>rfl) (Ea (fun _=>rfl) (fun _=>m10) (qv 4) (qv 5)) (gn 6 sc.nd) (A6 (F9 7 (sws 7 sc.nd) (BN (fun _=>rfl) (fun _=>rfl) (fun _=>m9) (J0 (J0 (qv 6) A5) (C2 (qv 0) A5)) (qv 5)))
   (B2 (HV 2 (fun _=>sw_aug (i:=2) sc.nd rfl (Or.inl rfl) HU) (QN.ee (Y7 (N:=["q","p"]) (cs:=[none,some 6]) (fun _=>R4 rfl rfl rfl rfl ⟨rfl,trivial⟩ rfl rfl rfl) (fun _=>rfl) (Ea (fun _=>rfl) (fun _=>m10) (J0 (qv 6) A5) (J0 (qv 7) A5)) (gn 0 (show K9 (["q","p"]:List Str) by decide +kernel)) W0 (R6 (A2 (qv 1) (A2 (qv 0) A7))))))))))))
   (B2 (C1 (Y4 (fun _=>rfl) (fun _=>m15) (R5 2 fun _=>vw 2))))))
theorem JA (F0:Fn0 K mg "leads_there" (top 25))(g12:FR P w K mg base)(g5:CO P w K mg base)(m6:mg "len"=none):FS P w K mg base:=fnk F0 fun sc _ _ _ _ _ _ _ hr=>(A6 (F9 4 (sws 4 sc.nd) (qf g12 hr (A2 (qv 0) (A2 (F7 (fun _=>rfl) (fun _=>m6) (QE.r (qv 1))) A7))))
   (A6 (F9 5 (sws 5 sc.nd) (qv 1))
   (A6 (O1 (fun _=>rfl) (Y5 (qv 3)) (R9 (fun _=>rfl) (F8 (gn 6 sc.nd) (F8 (gn 7 sc.nd) R8))) (A6 (e6 8 9 (fun _=>d9 (i:=8) (j:=9) rfl sc.nd rfl rfl (by decide) rfl rfl rfl) (ql_v (Z0 (qv 5) (qv 7))) (ql_v (Z0 (qv 5) (qv 6))))
   (A6 (E8 (G6 (o6 4 fun _=>hr) (R6 (A2 (qv 8) (A2 (qv 9) A7))) (QE.r (qv 4)) rfl) (B2 (C1 K4)) E7)
   (B2 (F9 5 (sws 5 sc.nd) (qf g5 hr (A2 (qv 5) (A2 (qv 8) (A2 (qv 9) A7)))))))))
   (B2 (C1 (Q6 (cEq 4 fun _=>hr) (qv 5) (QE.r (qv 2)) (D9 _)))))))
theorem JB (F0:Fn0 K mg "is_boat" (top 4))(m1:mg "all"=none)(m5:mg "isinstance"=none)(m6:mg "len"=none)(m13:mg "str"=none)(c0:Num0 mg "MOST_LETTERS" 8):FT P w K mg base:=fnk F0 fun sc _ _ _ _ _ _ _ hr=>(A6 (E8 (QW.qt (J1 (G7 (F5 (K5 (n:="str") (by decide) (fun _=>rfl) (fun _=>m5) (qv 0) (fun _=>tyw rfl m13 BC)))) (N9 (G7 (DT cLe cLe A5 (F7 (fun _=>rfl) (fun _=>m6) (QE.r (qv 0))) (qe_num (fun _=>c0) fun _=>rfl)))))) (B2 (C1 K4)) E7)
   (B2 (C1 (BL (fun _=>rfl) (fun _=>rfl) (fun _=>m1) (QE.r (QN.ee (Y7 (N:=["sign"]) (cs:=[none]) (fun _=>R4 rfl rfl rfl rfl trivial rfl rfl rfl) (fun _=>rfl) (qi_str (qv 0)) (gn 0 (show K9 (["sign"]:List Str) by decide +kernel)) W0 (DS cLe cLe M5 (qv 0) M5))))))))
theorem JC (F0:Fn0 K mg "is_pair_of" (top 24))(g14:FT P w K mg base)(m1:mg "all"=none)(m5:mg "isinstance"=none)(m6:mg "len"=none)(m15:mg "tuple"=none):FU P w K mg base:=fnk F0 fun sc _ _ _ _ _ _ _ hr=>(A6 (E8 (QW.qt (J1 (G7 (F5 (K5 (n:="tuple") (by decide) (fun _=>rfl) (fun _=>m5) (qv 1) (fun _=>tyw rfl m15 Q5)))) (N9 (G6 (cNe 4 fun _=>hr) (F7 (fun _=>rfl) (fun _=>m6) (QE.r (qv 1))) (QE.r A5) (D9 _))))) (B2 (C1 K4)) E7)
   (B2 (C1 (BL (fun _=>rfl) (fun _=>rfl) (fun _=>m1) (QE.r (QN.ee (Y7 (N:=["part","row"]) (cs:=[none,some 0]) (fun _=>R4 rfl rfl rfl rfl ⟨rfl,trivial⟩ rfl rfl rfl) (fun _=>rfl) (Y5 (qv 1)) (gn 0 (show K9 (["part","row"]:List Str) by decide +kernel)) W0 (d5 (qf g14 hr (A2 (qv 0) A7)) (o7 (Q6 (cIn 4 fun _=>hr) (qv 0) (QE.r (qv 1)) rfl))))))))))
theorem JD (F0:Fn0 K mg "shows_touches" (top 26))(g15:FU P w K mg base)(g13:FS P w K mg base)(m1:mg "all"=none)(m5:mg "isinstance"=none)(m15:mg "tuple"=none):FV P w K mg base:=fnk F0 fun sc _ _ _ _ _ _ _ hr=>(A6 (E8 (QW.qt (J1 (G7 (F5 (K5 (n:="tuple") (by decide) (fun _=>rfl) (fun _=>m5) (qv 3) (fun _=>tyw rfl m15 Q5)))) (N9 (G7 (F5 (BL (fun _=>rfl) (fun _=>rfl) (fun _=>m1) (QE.r (QN.ee (Y7 (N:=["part","row"]) (cs:=[none,some 1]) (fun _=>R4 rfl rfl rfl rfl ⟨rfl,trivial⟩ rfl rfl rfl) (fun _=>rfl) (Y5 (qv 3)) (gn 0 (show K9 (["part","row"]:List Str) by decide +kernel)) W0 (qf g15 hr (A2 (qv 1) (A2 (qv 0) A7)))))))))))) (B2 (C1 K4)) E7)
   (B2 (C1 (qf g13 hr (A2 (qv 0) (A2 (qv 1) (A2 (qv 2) (A2 (qv 3) A7))))))))
theorem JE (F0:Fn0 K mg "is_whole" (top 2))(m2:mg "bool"=none)(m4:mg "int"=none)(m5:mg "isinstance"=none):FW P w K mg base:=fnk F0 fun sc _ _ _ _ _ _ _ hr=>(A6 (E8 (QW.qt (J1 (G7 (F5 (K5 (n:="int") (by decide) (fun _=>rfl) (fun _=>m5) (qv 0) (fun _=>tyw rfl m4 BA)))) (N9 (F5 (K5 (n:="bool") (by decide) (fun _=>rfl) (fun _=>m5) (qv 0) (fun _=>tyw rfl m2 DH)))))) (B2 (C1 K4)) E7)
   (B2 (C1 (DS cLe cLe (qv 1) (qv 0) (qv 2)))))
theorem JF (F0:Fn0 K mg "shows_fewest" (top 29))(g17:FW P w K mg base)(g16:FV P w K mg base)(g9:FO P w K mg base)(m5:mg "isinstance"=none)(m6:mg "len"=none)(m15:mg "tuple"=none):FX P w K mg base:=fnk F0 fun sc _ _ _ _ _ _ _ hr=>(A6 (E8 (QW.qt (J1 (G7 (F5 (K5 (n:="tuple") (by decide) (fun _=>rfl) (fun _=>m5) (qv 3) (fun _=>tyw rfl m15 Q5)))) (N9 (G6 (cNe 4 fun _=>hr) (F7 (fun _=>rfl) (fun _=>m6) (QE.r (qv 3))) (QE.r A5) (D9 _))))) (B2 (C1 K4)) E7)
   (A6 (Ed (fun _=>d7) (qv 3) (R9 (fun _=>rfl) (F8 (gn 4 sc.nd) (F8 (gn 5 sc.nd) (F8 (gn 6 sc.nd) R8)))))
   (A6 (E8 (QW.qt (J1 (G7 (F5 (qf g16 hr (A2 (qv 0) (A2 (qv 1) (A2 (qv 2) (A2 (qv 5) A7))))))) (N9 (G7 (F5 (qf g17 hr (A2 (qv 4) (A2 (F7 (fun _=>rfl) (fun _=>m6) (QE.r (qv 5))) (A2 (F7 (fun _=>rfl) (fun _=>m6) (QE.r (qv 5))) A7))))))))) (B2 (C1 K4)) E7)
   (B2 (C1 (qf g9 hr (A2 (qv 0) (A2 (qv 1) (A2 (qv 2) (A2 (qv 4) (A2 (qv 6) A7)))))))))))
theorem JG (F0:Fn0 K mg "_law_goal" (top 34))(g1:CL P w K mg base)(m6:mg "len"=none)(m7:mg "list"=none)(m15:mg "tuple"=none):FY P w K mg base:=fnk F0 fun sc _ _ _ _ _ _ _ hr=>(A6 (e6 2 3 (fun _=>d9 (i:=2) (j:=3) rfl sc.nd rfl rfl (by decide) rfl rfl rfl) (ql_v (qf g1 hr (A2 (qv 0) (A2 A5 A7)))) (ql_v (F7 (fun _=>rfl) (fun _=>m6) (QE.r (qv 1)))))
   (A6 (E8 (G6 cLt (qv 2) (QE.r A5) (D9 _)) (A6 (W3 4 (sws 4 sc.nd) (P3 A7))
   (A6 (O1 (fun _=>rfl) (Y5 (qv 1)) (gn 5 sc.nd) (B2 (Au (fun _=>At) (EF 4 (fun _=>vw 4) (qf g1 hr (A2 (qv 0) (A2 (J0 (F7 (fun _=>rfl) (fun _=>m6) (R5 4 fun _=>vw 4)) A5) A7))) (qv 5)))))
   (B2 (C1 (Y4 (fun _=>rfl) (fun _=>m15) (R5 4 fun _=>vw 4)))))) E7)
   (A6 (e6 6 7 (fun _=>d9 (i:=6) (j:=7) rfl sc.nd rfl rfl (by decide) rfl rfl rfl) (ql_v (qf g1 hr (A2 (qv 0) (A2 (qv 3) A7)))) (ql_v (qf g1 hr (A2 (qv 0) (A2 (qv 3) A7)))))
   (A6 (W3 4 (sws 4 sc.nd) (BM (fun _=>rfl) (fun _=>m7) (QE.r (qv 1))))
   (A6 (Cf 4 (fun _=>d7) (fun _ _ _ h1 h2=>Ce K rfl (Y8 (vw 4) (by intro _;rfl) _ h1) (Y8 (vw 4) (by intro _;rfl) _ h2)) (C2 (qv 1) (qv 7)) (C2 (qv 1) (qv 6)) (qv 6) (qv 7))
   (B2 (C1 (C2 (QN.ee (P3 (A2 (qe_rev (QE.r (qv 1))) (A2 (J0 (p6 (qv 1) (p5 (Ek A5)) o9) (p6 (qv 1) o9 (p5 (Ek A5)))) (A2 (Y4 (fun _=>rfl) (fun _=>m15) (R5 4 fun _=>vw 4)) A7))))) (o1 (qv 2) A5)))))))))
theorem JH (F0:Fn0 K mg "_law_apart" (top 38))(m3:mg "enumerate"=none)(m6:mg "len"=none)(m14:mg "sum"=none):CP P w K mg base:=fnk F0 fun sc _ _ _ _ _ _ _ hr=>(A6 (F9 2 (sws 2 sc.nd) (QN.ee (Y7 (N:=["_law_boat","_law_other"]) (cs:=[none,some 1]) (fun _=>R4 rfl rfl rfl rfl ⟨rfl,trivial⟩ rfl rfl rfl) (fun _=>rfl) (Y5 (qv 0)) (gn 0 (show K9 (["_law_boat","_law_other"]:List Str) by decide +kernel)) W0 (Z0 (qv 1) (qv 0)))))
   (B2 (C1 (qe_sum (fun _=>rfl) (fun _=>rfl) (fun _=>m14) (QN.ee (IZ (N:=["_law_k","_law_place","_law_places"]) (cs:=[none,none,some 2]) (fun _=>IW rfl rfl rfl ⟨rfl,trivial⟩ (fun _=>rfl) rfl (fun _=>rfl)) (fun _=>rfl) (Eb (fun _=>rfl) (fun _=>m3) (qv 2)) (R9 (fun _=>rfl) (F8 (gn 0 (show K9 (["_law_k","_law_place","_law_places"]:List Str) by decide +kernel)) (F8 (gn 1 (show K9 (["_law_k","_law_place","_law_places"]:List Str) by decide +kernel)) R8))) W0 (F7 (fun _=>rfl) (fun _=>m6) (QE.r (QN.ee (Y7 (N:=["_law_later","_law_place"]) (cs:=[none,some 1]) (fun _=>R4 rfl rfl rfl rfl ⟨rfl,trivial⟩ rfl rfl rfl) (fun _=>rfl) (BO (p6 (qv 2) (p5 (qv 0)) o9)) (gn 0 (show K9 (["_law_later","_law_place"]:List Str) by decide +kernel)) (Ec (G6 cLt (qv 0) (QE.r (qv 1)) (D9 _))) A5))))))))))
theorem JI (F0:Fn0 K mg "_law_paper_right" (top 42))(g20:CP P w K mg base)(m5:mg "isinstance"=none)(m6:mg "len"=none)(m13:mg "str"=none)(m15:mg "tuple"=none):FZ P w K mg base:=fnk F0 fun sc _ _ _ _ _ _ _ hr=>(A6 (F9 5 (sws 5 sc.nd) (F7 (fun _=>rfl) (fun _=>m6) (QE.r (qv 1))))
   (A6 (E8 (QW.qt (J1 (G7 (F5 (K5 (n:="tuple") (by decide) (fun _=>rfl) (fun _=>m5) (qv 4) (fun _=>tyw rfl m15 Q5)))) (J1 (G6 (o6 4 fun _=>hr) (F7 (fun _=>rfl) (fun _=>m6) (QE.r (qv 4))) (QE.r (R6 (A2 A5 (A2 A5 A7)))) rfl) (N9 (G7 (F5 (K5 (n:="str") (by decide) (fun _=>rfl) (fun _=>m5) (C2 (qv 4) A5) (fun _=>tyw rfl m13 BC)))))))) (B2 (C1 K4)) E7)
   (A6 (E8 (G6 (cEq 4 fun _=>hr) (F7 (fun _=>rfl) (fun _=>m6) (QE.r (qv 4))) (QE.r A5) (D9 _)) u8 E7)
   (A6 (E8 (G6 (cEq 4 fun _=>hr) (C2 (qv 4) A5) (QE.r M5) (D9 _)) (B2 (C1 (d5 (Q6 (cEq 4 fun _=>hr) (C2 (qv 0) A5) (QE.r A5) (D9 _)) (o7 (Q6 (cEq 4 fun _=>hr) (qv 3) (QE.r (qf g20 hr (A2 (qv 1) (A2 (qv 2) A7)))) (D9 _)))))) E7)
   u8))))
theorem JJ (F0:Fn0 K mg "_law_exchanged" (top 36))(m7:mg "list"=none)(m15:mg "tuple"=none):F_ P w K mg base:=fnk F0 fun sc _ _ _ _ _ _ _ hr=>(A6 (W3 3 (sws 3 sc.nd) (BM (fun _=>rfl) (fun _=>m7) (QE.r (qv 0))))
   (A6 (Cf 3 (fun _=>d7) (fun _ _ _ h1 h2=>Ce K rfl (Y8 (vw 3) (by intro _;rfl) _ h1) (Y8 (vw 3) (by intro _;rfl) _ h2)) (C2 (qv 0) (qv 2)) (C2 (qv 0) (qv 1)) (qv 1) (qv 2))
   (B2 (C1 (Y4 (fun _=>rfl) (fun _=>m15) (R5 3 fun _=>vw 3))))))
theorem JK (F0:Fn0 K mg "_law_is_pair" (top 35)):Ga P w K mg base:=fnk F0 fun sc _ _ _ _ _ _ _ hr=>(B2 (C1 (d5 (Q6 cLt (qv 1) (QE.r (qv 2)) (D9 _)) (d5 (Q6 cLe (o1 (o1 (qv 2) (qv 1)) A5) (QE.r (C2 (qv 0) A5)) (D9 _)) (o7 (Q6 cLe (qv 2) (QE.r (J0 (Aj (DJ (qv 1) (C2 (qv 0) A5)) (C2 (qv 0) A5)) (C2 (qv 0) A5))) (D9 _)))))))
theorem JL (F0:Fn0 K mg "_law_led" (top 37))(g23:Ga P w K mg base)(g22:F_ P w K mg base)(m5:mg "isinstance"=none)(m6:mg "len"=none)(m15:mg "tuple"=none):Gb P w K mg base:=fnk F0 fun sc _ _ _ _ _ _ _ hr=>(A6 (E8 (G7 (F5 (K5 (n:="tuple") (by decide) (fun _=>rfl) (fun _=>m5) (qv 2) (fun _=>tyw rfl m15 Q5)))) (B2 (C1 BF)) E7)
   (A6 (O1 (fun _=>rfl) (Y5 (qv 2)) (gn 3 sc.nd) (A6 (E8 (QW.qt (J1 (G7 (F5 (K5 (n:="tuple") (by decide) (fun _=>rfl) (fun _=>m5) (qv 3) (fun _=>tyw rfl m15 Q5)))) (J1 (G6 (cNe 4 fun _=>hr) (F7 (fun _=>rfl) (fun _=>m6) (QE.r (qv 3))) (QE.r A5) (D9 _)) (J1 (G6 (o6 4 fun _=>hr) (C2 (qv 3) A5) (QE.r (qv 1)) rfl) (N9 (G6 (o6 4 fun _=>hr) (C2 (qv 3) A5) (QE.r (qv 1)) rfl)))))) (B2 (C1 BF)) E7)
   (A6 (e6 4 5 (fun _=>d9 (i:=4) (j:=5) rfl sc.nd rfl rfl (by decide) rfl rfl rfl) (ql_v (Z0 (qv 1) (C2 (qv 3) A5))) (ql_v (Z0 (qv 1) (C2 (qv 3) A5))))
   (A6 (E8 (G7 (F5 (qf g23 hr (A2 (qv 0) (A2 (qv 4) (A2 (qv 5) A7)))))) (B2 (C1 BF)) E7)
   (B2 (F9 1 (sws 1 sc.nd) (qf g22 hr (A2 (qv 1) (A2 (qv 4) (A2 (qv 5) A7))))))))))
   (B2 (C1 (qv 1)))))
theorem JM (F0:Fn0 K mg "_law_right" (top 43))(g24:Gb P w K mg base)(g21:FZ P w K mg base)(m2:mg "bool"=none)(m4:mg "int"=none)(m5:mg "isinstance"=none)(m6:mg "len"=none)(m15:mg "tuple"=none):Gc P w K mg base:=fnk F0 fun sc _ _ _ _ _ _ _ hr=>(A6 (E8 (QW.qt (J1 (G7 (F5 (K5 (n:="tuple") (by decide) (fun _=>rfl) (fun _=>m5) (qv 3) (fun _=>tyw rfl m15 Q5)))) (J1 (G6 (cNe 4 fun _=>hr) (F7 (fun _=>rfl) (fun _=>m6) (QE.r (qv 3))) (QE.r A5) (D9 _)) (J1 (G7 (F5 (K5 (n:="int") (by decide) (fun _=>rfl) (fun _=>m5) (C2 (qv 3) A5) (fun _=>tyw rfl m4 BA)))) (N9 (F5 (K5 (n:="bool") (by decide) (fun _=>rfl) (fun _=>m5) (C2 (qv 3) A5) (fun _=>tyw rfl m2 DH)))))))) (B2 (C1 K4)) E7)
   (A6 (E8 (QW.qt (J1 (G7 (F5 (K5 (n:="tuple") (by decide) (fun _=>rfl) (fun _=>m5) (C2 (qv 3) A5) (fun _=>tyw rfl m15 Q5)))) (J1 (G6 (cNe 4 fun _=>hr) (F7 (fun _=>rfl) (fun _=>m6) (QE.r (C2 (qv 3) A5))) (QE.r (C2 (qv 3) A5)) (D9 _)) (N9 (G6 (cNe 4 fun _=>hr) (qf g24 hr (A2 (qv 0) (A2 (qv 1) (A2 (C2 (qv 3) A5) A7)))) (QE.r (qv 2)) (D9 _)))))) (B2 (C1 K4)) E7)
   (B2 (C1 (qf g21 hr (A2 (qv 0) (A2 (qv 1) (A2 (qv 2) (A2 (C2 (qv 3) A5) (A2 (C2 (qv 3) A5) A7))))))))))
theorem k_law (F0:Fn0 K mg "law" (top 44))(g0:Jp P w K mg base)(g1:CL P w K mg base)(g2:FK P w K mg base)(g19:FY P w K mg base)(g7:FM P w K mg base)(g20:CP P w K mg base)(g25:Gc P w K mg base)(g18:FX P w K mg base)(m6:mg "len"=none)(m8:mg "max"=none)(m9:mg "min"=none)(m10:mg "range"=none)(m11:mg "repr"=none)(m16:mg "zip"=none):Kn P w K mg base "law" 6 ["_law_script"] (Ag K):=by
 have sc:P2 ["_law_script","_law_lots","_law_k","_law_pot","_law_meeting","_law_row","_law_told","_law_other","_law_thing"] ["_law_script"] (D6 (top 44)):=⟨rfl,rfl,rfl,by decide +kernel,rfl,by decide +kernel,by decide +kernel⟩
 exact law_ok (T:=potL) F0 sc (fun _ _ _ _ _ _=>bd1 fun _=>rfl) (k:=5) (body:=CG) (fun _ _ _ _ _ _ _ hr=>(A6 (W3 1 (sws 1 sc.nd) (P3 A7))
   (A6 (O1 (fun _=>rfl) (p9 (fun _=>rfl) (fun _=>m10) (qe_max (fun _=>rfl) (fun _=>rfl) (fun _=>m8) A5 (BN (fun _=>rfl) (fun _=>rfl) (fun _=>m9) A5 (F7 (fun _=>rfl) (fun _=>m6) (QE.r (qv 0)))))) (gn 2 sc.nd) (A6 (HW 3 (sws 3 sc.nd) (fun _=>g0) (fun _=>hr) (by decide) (fun _=>rfl) (qv 0) (qv 2))
   (A6 (F9 4 (sws 4 sc.nd) (R6 (A2 (J0 A5 (qf g1 hr (A2 (qv 3) (A2 A5 A7)))) (A2 A5 A7))))
   (A6 (F9 5 (sws 5 sc.nd) (qf g2 hr (A2 (qv 3) (A2 (C2 (QN.ee (P3 (A2 A5 (A2 A5 (A2 A5 (A2 A5 (A2 A5 (A2 A5 A7)))))))) (qf g1 hr (A2 (qv 3) (A2 A5 A7)))) A7))))
   (B2 (Au (fun _=>At) (Ee 1 (fun _=>vw 1) (R6 (A2 (qv 4) (A2 (qv 5) (A2 (qf g19 hr (A2 (qv 3) (A2 (qv 5) A7))) A7)))))))))))
   (A6 (HG 1 (HZ 6 (HY (N:=["_law_meeting","_law_row","_law_other"]) (cs:=[none,none,none]) (fun _=>R4 rfl rfl rfl rfl trivial rfl rfl rfl) (fun _=>rfl) (BO (qv 1)) (R9 (fun _=>rfl) (F8 (gn 0 (show K9 (["_law_meeting","_law_row","_law_other"]:List Str) by decide +kernel)) (F8 (gn 1 (show K9 (["_law_meeting","_law_row","_law_other"]:List Str) by decide +kernel)) (F8 (gn 2 (show K9 (["_law_meeting","_law_row","_law_other"]:List Str) by decide +kernel)) R8)))) W0 (qf g7 hr (A2 (qv 0) (A2 (qv 1) (A2 (qv 2) A7))))) (fun _=>sc.nd) (fun _=>rfl) (fun _=>Or.inl rfl)))
   (A6 (O1 (fun _=>rfl) (qi_zip true true (fun _=>rfl) (fun _=>m16) (qv 1) (qv 6)) (R9 (fun _=>rfl) (F8 (R9 (fun _=>rfl) (F8 (gn 4 sc.nd) (F8 (gn 5 sc.nd) (F8 (gn 7 sc.nd) R8)))) (F8 (gn 8 sc.nd) R8))) (A6 (E8 (QW.qt (J1 (G7 (F5 (qf g25 hr (A2 (qv 4) (A2 (qv 5) (A2 (qv 7) (A2 (qv 8) A7))))))) (N9 (G6 (cNe 4 fun _=>hr) (C2 (qv 8) A5) (QE.r (qf g20 hr (A2 (qv 5) (A2 (qv 7) A7)))) (D9 _))))) (B2 (C1 K4)) E7)
   (A6 (E8 (G6 cNotB (qf g18 hr (A2 (qv 4) (A2 (qv 5) (A2 (qv 7) (A2 (qv 8) A7))))) (QE.r K4) (D9 _)) (B2 (C1 K4)) E7)
   (B2 (E8 (G6 (cNe 4 fun _=>hr) (Ep (fun _=>hr) (fun _=>rfl) (fun _=>m11) (QE.r (qf g18 hr (A2 (qv 4) (A2 (qv 7) (A2 (qv 5) (A2 (qv 8) A7))))))) (QE.r (Ep (fun _=>hr) (fun _=>rfl) (fun _=>m11) (QE.r (qf g25 hr (A2 (qv 4) (A2 (qv 7) (A2 (qv 5) (A2 (qv 8) A7)))))))) (D9 _)) (B2 (C1 K4)) E7)))))
   (B2 (C1 K4))))))) m_law
end
end Tb
open PySem PySem.W PyProof.Rows L2 Tb
set_option hygiene false in
local macro_rules | `(tactic| walk_at "F")=>`(tactic| (dsimp only [KOf];refine' fn0_mk KX G ?a ?l ?c ?k;(case a=>k_is);(case l=>k_is);(case c=>k_is);(case k=>k_is)))
set_option hygiene false in
local macro_rules | `(tactic| walk_at "Z")=>`(tactic| (refine PySem.W.mg_none_of (K:=KOf KX) KX G ?_;dsimp only [KOf];k_is))
abbrev Tb.rwp:=PySem.Challenge.rw_touchboats_k45_fewest_of_neighbours.prog
set_option maxRecDepth 100000 in
set_option maxHeartbeats 0 in
theorem PySem.Challenge.cw_touchboats_k45_fewest_of_neighbours_holds : PySem.Challenge.rw_touchboats_k45_fewest_of_neighbours.Holds := by
 w_on;o_law;k_head;(case hw=>w_witness2)
 k_fill
 refine Ho (l:=PySem.Challenge.rw_touchboats_k45_fewest_of_neighbours) (x:="_law_script") (k:=6) rfl rfl ⟨rfl,by decide,by decide,rfl⟩ (fun w h Y=>PySem.W.kIn_of Y) ?F
 case F=>
   intro w mg h KX G;have f0:Fn0 (KOf KX) mg "_law_begin" (top 31):=by walk_at "F"
   have f1:Fn0 (KOf KX) mg "_law_take" (top 32):=by walk_at "F"
   have f2:Fn0 (KOf KX) mg "_law_boats" (top 33):=by walk_at "F"
   have f3:Fn0 (KOf KX) mg "may_count_pairs" (top 15):=by walk_at "F"
   have f4:Fn0 (KOf KX) mg "apart_by" (top 13):=by walk_at "F"
   have f5:Fn0 (KOf KX) mg "exchanged" (top 7):=by walk_at "F"
   have f6:Fn0 (KOf KX) mg "touches_by_pairs" (top 18):=by walk_at "F"
   have f7:Fn0 (KOf KX) mg "fewest" (top 22):=by walk_at "F"
   have f8:Fn0 (KOf KX) mg "is_text" (top 3):=by walk_at "F"
   have f9:Fn0 (KOf KX) mg "shows_paper" (top 28):=by walk_at "F"
   have f10:Fn0 (KOf KX) mg "races_of" (top 5):=by walk_at "F"
   have f11:Fn0 (KOf KX) mg "span" (top 6):=by walk_at "F"
   have f12:Fn0 (KOf KX) mg "touch_places" (top 12):=by walk_at "F"
   have f13:Fn0 (KOf KX) mg "leads_there" (top 25):=by walk_at "F"
   have f14:Fn0 (KOf KX) mg "is_boat" (top 4):=by walk_at "F"
   have f15:Fn0 (KOf KX) mg "is_pair_of" (top 24):=by walk_at "F"
   have f16:Fn0 (KOf KX) mg "shows_touches" (top 26):=by walk_at "F"
   have f17:Fn0 (KOf KX) mg "is_whole" (top 2):=by walk_at "F"
   have f18:Fn0 (KOf KX) mg "shows_fewest" (top 29):=by walk_at "F"
   have f19:Fn0 (KOf KX) mg "_law_goal" (top 34):=by walk_at "F"
   have f20:Fn0 (KOf KX) mg "_law_apart" (top 38):=by walk_at "F"
   have f21:Fn0 (KOf KX) mg "_law_paper_right" (top 42):=by walk_at "F"
   have f22:Fn0 (KOf KX) mg "_law_exchanged" (top 36):=by walk_at "F"
   have f23:Fn0 (KOf KX) mg "_law_is_pair" (top 35):=by walk_at "F"
   have f24:Fn0 (KOf KX) mg "_law_led" (top 37):=by walk_at "F"
   have f25:Fn0 (KOf KX) mg "_law_right" (top 43):=by walk_at "F"
   have f26:Fn0 (KOf KX) mg "law" (top 44):=by walk_at "F"
   have m0:mg "abs"=none:=by walk_at "Z"
   have m1:mg "all"=none:=by walk_at "Z"
   have m2:mg "bool"=none:=by walk_at "Z"
   have m3:mg "enumerate"=none:=by walk_at "Z"
   have m4:mg "int"=none:=by walk_at "Z"
   have m5:mg "isinstance"=none:=by walk_at "Z"
   have m6:mg "len"=none:=by walk_at "Z"
   have m7:mg "list"=none:=by walk_at "Z"
   have m8:mg "max"=none:=by walk_at "Z"
   have m9:mg "min"=none:=by walk_at "Z"
   have m10:mg "range"=none:=by walk_at "Z"
   have m11:mg "repr"=none:=by walk_at "Z"
   have m12:mg "reversed"=none:=by walk_at "Z"
   have m13:mg "str"=none:=by walk_at "Z"
   have m14:mg "sum"=none:=by walk_at "Z"
   have m15:mg "tuple"=none:=by walk_at "Z"
   have m16:mg "zip"=none:=by walk_at "Z"
   have c0:Num0 mg "MOST_LETTERS" 8:=by
     refine' Hu (K:=KOf KX) KX G ?a
     (case a=>(dsimp only [KOf];k_is))
   refine⟨top 44,f26,fun _ _ _ _ _ _ s u=>.of_eq rfl,fun base kb nb=>?_⟩;have g0:=Jn (P:=rwp) (w:=w) (base:=base) f0 m6 m0 m4;have g1:=Jo (P:=rwp) (w:=w) (base:=base) f1;have g2:=Jq (P:=rwp) (w:=w) (base:=base) f2 g1 m6 m10 m15;have g3:=Jr (P:=rwp) (w:=w) (base:=base) f3;have g4:=Js (P:=rwp) (w:=w) (base:=base) f4 m3 m6;have g5:=Jt (P:=rwp) (w:=w) (base:=base) f5 m7 m15;have g6:=Ju (P:=rwp) (w:=w) (base:=base) f6 g5 m3 m10 m12 m15;have g7:=Jv (P:=rwp) (w:=w) (base:=base) f7 g3 g6 g4;have g8:=Jw (P:=rwp) (w:=w) (base:=base) f8 m5 m13;have g9:=Jx (P:=rwp) (w:=w) (base:=base) f9 g8 g4 g3 m5 m6 m15;have g10:=Jy (P:=rwp) (w:=w) (base:=base) f10;have g11:=k_span (P:=rwp) (w:=w) (base:=base) f11 m9;have g12:=Jz (P:=rwp) (w:=w) (base:=base) f12 g10 g11 m9 m10 m15;have g13:=JA (P:=rwp) (w:=w) (base:=base) f13 g12 g5 m6;have g14:=JB (P:=rwp) (w:=w) (base:=base) f14 m1 m5 m6 m13 c0;have g15:=JC (P:=rwp) (w:=w) (base:=base) f15 g14 m1 m5 m6 m15;have g16:=JD (P:=rwp) (w:=w) (base:=base) f16 g15 g13 m1 m5 m15;have g17:=JE (P:=rwp) (w:=w) (base:=base) f17 m2 m4 m5;have g18:=JF (P:=rwp) (w:=w) (base:=base) f18 g17 g16 g9 m5 m6 m15;have g19:=JG (P:=rwp) (w:=w) (base:=base) f19 g1 m6 m7 m15
   have g20:=JH (P:=rwp) (w:=w) (base:=base) f20 m3 m6 m14;have g21:=JI (P:=rwp) (w:=w) (base:=base) f21 g20 m5 m6 m13 m15;have g22:=JJ (P:=rwp) (w:=w) (base:=base) f22 m7 m15;have g23:=JK (P:=rwp) (w:=w) (base:=base) f23;have g24:=JL (P:=rwp) (w:=w) (base:=base) f24 g23 g22 m5 m6 m15;have g25:=JM (P:=rwp) (w:=w) (base:=base) f25 g24 g21 m2 m4 m5 m6 m15;exact k_law (P:=rwp) (w:=w) (base:=base) f26 g0 g1 g2 g19 g7 g20 g25 g18 m6 m8 m9 m10 m11 m16
end
