import PyProof.Rows.All
import Wide.All
import OpenK.AllK
import Wide.FinOn
import PyProof.EqAt
import PyProof.EqKinds
import PyProof.TupleCall
import PyProof.NeKinds
import PyProof.EnumMake
import PyProof.ConsumeWalk
import KE.LcSums
import PyProof.ReprLen
import PyProof.StrLawsRepr
import PyProof.Rows.StrNews2
import PyProof.Rows.SetFrom
import PyProof.WalksMore
import PyProof.StrLawsChain
import PyProof.StrLawsTight
import PyProof.StrLawsIdx
import PyProof.ZipIter
import PyProof.Draws
import PyProof.Rows.FactsT2
import PyProof.ListStr
import PyProof.Rows.StrPartPair
import KE.KSortTup
import KE.KDictSum
import KE.KRevIter
import PyProof.DictItems
import KE.KPairComp
import PyProof.AutoSeq1
import PyProof.SumWalk
import PyProof.IsRules
import PyProof.Cells
import PyProof.AttrMissHeap
import KE.KDictOf
import PyProof.FactsAll.zip
import Lean
import PySem.Challenge.RW_touchboats_k47_fewest_by_tables
set_option Elab.async false
set_option linter.all false
set_option maxRecDepth 100000
set_option maxHeartbeats 4000000
namespace PySem.W.Fast
def tw17850011065917523745:=0
def tw16087986267440442547:=0
def tw14939918837784396252:=0
def tw15304241630069753244:=0
def tw17549189779710219808:=0
def tw3865301970798923776:=0
def tw15001645875700051885:=0
def tw15024626002499573830:=0
def tw17076773438668853407:=0
def tw3614186371458437176:=0
def tw11448886190483990785:=0
def tw9856900201762095122:=0
def tw3923061889562301795:=0
def tw6560495216343123734:=0
def tw13533853977226621509:=0
def tw2460406907229867013:=0
def tw4122843758195037381:=0
def tw979434225314241387:=0
def tw12690533389104411787:=0
def tw1449328711102756160:=0
def tw8841545074822293243:=0
def tw16589596087341224170:=0
def tw5988759657211286692:=0
def tw17460218249968141340:=0
def tw12672076548796221830:=0
def tw1222054998027558352:=0
def tw17260223083263006346:=0
def tw14628313238985346682:=0
def tw15192999885064870124:=0
def tw9083795484106268536:=0
def tw11811073178421758373:=0
def tw3475549125559284325:=0
def tw15937731286472030324:=0
def tw4241179581865675053:=0
def tw16685338271724644888:=0
def tw10377958706107772562:=0
def tw11994018471332661501:=0
def tw6974394051793822260:=0
def tw803702459585155825:=0
def tw8304388177066689277:=0
def tw2111331647624422243:=0
def tw7602944209981748504:=0
def tw6659778204758948217:=0
def tw7132793565591367562:=0
def tw9281162393809711016:=0
def tw2142267914864688951:=0
def tw7816454699536305176:=0
def tw8783869700094831300:=0
def tw4514413689097159964:=0
def tw5295642128665321356:=0
def tw3694876075646446581:=0
def tw2610435513546478208:=0
def tw432604529097474029:=0
def tw13529067169284339442:=0
def tw13666110439288935169:=0
end PySem.W.Fast
open PySem renaming wpAny_bind->A2,wpAny_pure->A9,Value->A3,Shared->A5,Addr->A0,wpAny->A6,sizeLine->B8,model->A8,wpAny_field->G7,foldedSetIterable->N6,wpAny_callSpecial?_slot->T9,bootBuiltins->K5,starEach->E2,Program->D3,wpAny_call_entry->P6,wpAny_newObj_type->R8,wpAny_mono->K4,mem_of_lookup->V9,wpAny_seqItems->P7,wpAny_setField_rec->W0,wpAny_holding->P8,compareOp->L6,sysModules->N7,World->C3,Around->E8,wpAny_truthy_bool->p6,wpAny_standAt->W3,assignEach->P9,wpAny_of_eq->U1,tupleKind->O8,Heap->B5,mainGlobals->V3,letOwnedTupleGo->w9,cellsFrom->Q6,wpAny_rule->V4,wpAny_Call_Name_kw->Bo,wpAny_attempt->p8,wpAny_passesOwn->AE,sizeLine_eq->d9,wpAny_getItem_str_slice->DT,wpAny_onRaise->x4,Builtin->O4,wpAny_pyIter_tuple->Cz,Scope->F8,wpAny_typeOf->x5,binaryOp->U2,behindInMarks->AF,attributeBase->AG,swapsWith->Y2,wpAny_isInstance->CA,wpAny_pyIter_zip->CB,codeAny->Q7,keywordEach->x8,swapsWithSole->Bp,swappedStores->Bq,Keyword->R9,tupleKind_room_in1->DU,codeAny_builtin->CC,wpAny_pyIter_rangeiter->FK,wpAny_pyIter_list->DV,sliceBounds->AH,relabel->U3,wpAny_pyIter_enum->DW,wpAny_bindName->CD,isSubtype_stop->CF,assignInOrder->CG,bindName->e7,holding->W4,wpAny_execs_nil->DX,getItem->W5,post_val_or_str->DY,wpAny_letGo->Br,storedH->W6,standAt->e9
open PySem.W renaming Frag->A7,kia_one->Y3,fnOf->W7,kitOne->CH,keepIn->CJ,kas_sort->p9,codeIn->DZ,methodObj->FL
open List renaming length_map->B1,getElem?_eq_getElem->D7,mem_cons_of_mem->C9,getElem?_eq_some_iff->E6,mem_cons_self->C6,length_append->D6,mem_singleton->E3,mem_cons->C8,mem_append->E5,size_toArray->F5,mem_of_getElem?->J9,getElem?_set_self->L7,all_eq_true->J3,range->D1,getElem?_map->K6,map_append->J8,getElem?_set_ne->M9,length_set->K1,mem_append_left->N8,map_cons->J5,length_cons->L8,getElem?_eq_none->Q0,mem_map->J7,take_of_length_le->T0,append_assoc->O9,mem_filter->O5,nodup_cons->P0,getElem?_append_right->q8,mem_range->P1,getElem?_append_left->r0,not_mem_nil->T1,append_nil->Q8,mem_of_mem_take->Y4,getD_eq_getElem?_getD->x9,length_drop->U4,eq_nil_of_length_eq_zero->AI,Nodup->K7,mem_append_right->h9,length_singleton->t9,drop_eq_getElem_cons->AJ,nodup_append->Y5,length_take->Y6,take_length->Y7,getElem_mem->i4,getElem?_take->y0,zip_cons_cons->AK,any_eq_true->y4,filter_cons->y7,length_range->AL,getElem_of_mem->Bs,map_map->i5,take_append_drop->CK,length_filter_le->CL,getElem?_zip_eq_some->D_,forIn_nil->y8,pairwise_iff_getElem->Ea,forIn_cons->AM,getElem?_set->Bt,filterMap_cons->CM,getElem?_cons_succ->Eb,drop_length->Bu,find?_cons->Bv,reverse_cons->CN,flatMap_cons->CO,replicate->Bw,nodup_nil->Bx,zipIdx_cons->CP,map_fst_zip->CQ,map_congr_left->Ec,map_set->AN,getElem?_replicate->FM,getElem?_cons_zero->FN,length_zip->CS,foldl_cons->CT,drop_of_length_le->FO,filter_eq_nil_iff->FP,length_replicate->FQ,map_snd_zip->Ed,mem_flatMap->Ee,length_reverse->FR,flatMap_append->FS,zipIdx_nil->Ef,all_map->CU,any_map->CV
open PySem.Heap renaming get?_push_of_some->C1,get?_push_size->F4,lt_size->C4,size_push->T3,SameBut->AO,get?_update_self->FT
open Nat renaming le_refl->B7,zero_add->F2,lt_of_lt_of_le->L0,ne_of_lt->F3,le_trans->G8,zero_le->M5,le_succ->P2,le_add_right->i6,lt_irrefl->W8,lt_succ_of_lt->y9,ne_of_gt->i7,lt_of_le_of_lt->By,sub_succ_lt_self->CW,le_antisymm->Bz,le_of_not_lt->CY,le_of_eq->AQ,le_of_lt->BA,succ_ne_self->Eg,min_eq_right->Eh,sub_self->CZ
open Option.some renaming inj->E9
open PySem.Str renaming ofString->C7
open PySem.Builtin.SmallTypes renaming ownedTupleIsFree->W9,nextOf->Q1,ownedTupleHandOut->Ei
open PyProof.Rows renaming callWith_type1->Y8,slot_tuple_getitem->BC,assignInOrder_cons->BD,envOfC->FU
open Bool renaming false_ne_true->Q9,and_eq_true->R0,false_eq_true->Y9,eq_iff_iff->z9,false_and->BE,beq_eq_decide_eq->FV
open Int renaming toNat_natCast->R1,eq_ofNat_of_zero_le->Aa,emod_lt_of_pos->BF,emod_nonneg->AR,toNat->AS
open Classical renaming byContradiction->i8
open PySem.F renaming slot_zip_next->R3,args_zip_next_1->Ab,entry_zip_next->Ac,slot_tuple_iterator_next->Ej,plainAttrs_list->Ek,args_tuple_add_2->FW,entry_tuple_add->FX,slot_tuple_add->FY
open PySem.Builtin.Slice renaming slicePlaces->Ad,sliceAdjust->C_,sliceApplied->El,sliceFields->IW
open Option renaming isSome_iff_exists->Ae
open PySem.Builtin.Tuple renaming tupleExact->Af,tupleItemsOf->FZ
open PySem.Builtin.Range renaming rangeFitsLong->AT,rangeSize->F_
open PySem.Value renaming ref->K8,type->N0,none->X0,builtin->Em,int->BG
open PySem.Builtin.Str renaming occurrences->BH
open Array renaming length_toList->AU,getElem?_eq_none->Da,getElem?_toList->Ga
open PySem.Obj renaming mapSeq->R4
open ForInStep renaming yield->Ag
open PySem.Builtin.List renaming listTooLong->Eo,listExtendWith->IX,listFitsIndex->IY
open PySem.AutoSeq1 renaming wpAny_loadPart'->Ep
open PySem.Heap.SameBut renaming update->Db
open True renaming intro->Z0
open False renaming elim->i9
open PySem.StrLaws renaming sliceText->Er
open PySem.SeqAt renaming RcNeAt->BI,EqAt->AV,RcAt->BJ
open PySem.Around renaming under_plainId->Gb
open PySem.Paired renaming length->Dc
open Sum renaming inr->X1
open Prod.mk renaming inj->BK
open PySem.Shared renaming heap->BL
open PySem.Heap.IsSliceOf renaming new->Gc
open PySem.Txt renaming slice_le->Dd,slice->AX
theorem ju{p:Prop}[Decidable p](h:p):decide p=true:=decide_eq_true h
theorem jv{p:Prop}[Decidable p](h:¬p):decide p=false:=decide_eq_false h
theorem jw{c:Prop}{h:Decidable c}(i:c){α:Type}{t e:α}:ite c t e=t:=if_pos i
theorem jy{c:Prop}{h:Decidable c}(i:¬c){α:Type}{t e:α}:ite c t e=e:=if_neg i
theorem jz{p:Prop}[Decidable p](h:decide p=true):p:=of_decide_eq_true h
local macro_rules|`(tactic|omega)=>`(tactic|lia)
section
namespace L2
open PySem PySem.Spec PyProof.Rows
abbrev Key:=Sum Int Str
def BM:Key->A3->Bool
 |.inl k,v=>Value.isInt k v
 |.inr x,v=>Value.isStrOf x v
def keyH (w:C3):Key->Int
 |.inl k=>hashInt k
 |.inr x=>hashStr w x
theorem j8:∀{k:Key} {v:A3},BM k v=true->(∃i t,k=Sum.inl i/\v=BG i t)\/(∃x t,k=X1 x/\v=Value.str x t)
 | .inl i, v, h => by
  obtain⟨t,e⟩:=Value.isInt_shape (k:=i) (v:=v) h;exact .inl ⟨i,t,rfl,e⟩
 | .inr x, v, h => by
  obtain⟨t,e⟩:=Value.isStrOf_shape (x:=x) (v:=v) h;exact .inr ⟨x,t,rfl,e⟩
theorem NG (i:Int)(t:Tok):BM (.inl i) (.int i t)=true:=by simp[BM,Value.isInt]
theorem NH (x:Str)(t:Tok):BM (.inr x) (.str x t)=true:=by simp[BM,Value.isStrOf]
theorem key_ll (a b:Int):decide ((Sum.inl a:Key)=Sum.inl b)=(a == b):=by grind
theorem key_rr (a b:Str):decide ((X1 a:Key)=X1 b)=decide (a=b):=by simp
theorem key_lr (a:Int)(b:Str):decide ((Sum.inl a:Key)=X1 b)=false:=rfl
theorem key_rl (a:Str)(b:Int):decide ((X1 a:Key)=Sum.inl b)=false:=rfl
def N1 (prog:D3)(w:C3):PySem.KeyKind prog w Key where
 is:=BM
 hash:=keyH w
 inj:=fun v a b ha hb=>by
  rcases j8 ha with⟨i,t,rfl,rfl⟩|⟨x,t,rfl,rfl⟩
  ·rcases j8 hb with⟨j,u,rfl,e⟩|⟨y,u,rfl,e⟩
   ·injection e with e1 _;rw[e1]
   ·exact nomatch e
  ·rcases j8 hb with⟨j,u,rfl,e⟩|⟨y,u,rfl,e⟩
   ·exact nomatch e
   ·injection e with e1 _;rw[e1]
 byValue:=λk v h=>by
  rcases j8 h with⟨i,t,rfl,rfl⟩|⟨x,t,rfl,rfl⟩ <;> rfl
 pyHash:=λhv h=>by
  rcases j8 hv with⟨i,t,rfl,rfl⟩|⟨x,t,rfl,rfl⟩
  ·exact wpAny_pyHash_int h
  ·exact wpAny_pyHash_str h
 eqBool:=λhu hv h=>by
  rcases j8 hu with⟨i,t,rfl,rfl⟩|⟨x,t,rfl,rfl⟩
  ·rcases j8 hv with⟨j,u,rfl,rfl⟩|⟨y,u,rfl,rfl⟩
   ·rw[key_ll] at h;exact wpAny_eqBool_int h
   ·rw[key_lr] at h;exact SeqAt.EqAt.int_str i t y u _ _ _ _ h
  ·rcases j8 hv with⟨j,u,rfl,rfl⟩|⟨y,u,rfl,rfl⟩
   ·rw[key_rl] at h;exact SeqAt.EqAt.str_int x t j u _ _ _ _ h
   ·rw[key_rr] at h;exact wpAny_eqBool_str h
 «strs»:=λk x t v h=>by
  rcases j8 h with⟨i,u,rfl,e⟩|⟨y,u,rfl,e⟩
  ·exact nomatch e
  ·injection e with e1 _;subst e1;cases v <;> rfl
theorem NI (prog:D3)(w:C3)(i:Int)(t:Tok):(N1 prog w).is (.inl i) (.int i t)=true:=NG i t
theorem NJ (prog:D3)(w:C3)(x:Str)(t:Tok):(N1 prog w).is (.inr x) (.str x t)=true:=NH x t
inductive V where
 |non|bl (b:Bool)|int (i:Int)|str (x:Str)|byt (b:Array UInt8)|flt (b:UInt64)|ref (a:A0)|ty (n:String)
 deriving DecidableEq
def RelV:V->A3->Prop
 |.non,u=>u=X0
 |.bl b,u=>u=Value.bool b
 |.int i,u=>∃t,u=BG i t
 |.str x,u=>∃t,u=Value.str x t
 |.byt b,u=>∃t,u=Value.bytes b t
 |.flt b,u=>∃t,u=Value.float b t
 |.ref a,u=>u=K8 a
 |.ty n,u=>u=N0 n
abbrev Vals:List V->List A3->Prop:=Paired RelV
theorem Vals.length (r:Vals xs us):xs.length=us.length:=Dc r
theorem Vals.get:∀{xs:List V} {us:List A3} {i:Nat} {x:V},Vals xs us->xs[i]?=some x->∃u,us[i]?=some u/\RelV x u
 |_,_,_,_,.nil,e=>by simp at e
 |_,_,0,_,.cons r _,e=>by simp at e;subst e;exact⟨_,rfl,r⟩
 | _, _, i + 1, x, .cons _ t, e => by
  obtain⟨u,h1,h2⟩:=Vals.get (i:=i) (x:=x) t (by grind);exact⟨u,by simpa using h1,h2⟩
theorem Vals.set (r:RelV x u):∀{xs:List V} {us:List A3} (i:Nat),Vals xs us->Vals (xs.set i x) (us.set i u)
 |_,_,_,.nil=>.nil
 |_,_,0,.cons _ t=>.cons r t
 |_,_,i+1,.cons q t=>.cons q (Vals.set r i t)
theorem Vals.append (h:Vals xs us)(s:Vals ys ws):Vals (xs++ys) (us++ws):=by
 induction h with
 |nil=>exact s
 |cons r _ ih=>exact .cons r ih
theorem Vals.take:∀{xs:List V} {us:List A3} (n:Nat),Vals xs us->Vals (xs.take n) (us.take n)
 |_,_,0,_=>.nil
 |_,_,_+1,.nil=>.nil
 |_,_,n+1,.cons r t=>.cons r (Vals.take n t)
theorem Vals.drop:∀{xs:List V} {us:List A3} (n:Nat),Vals xs us->Vals (xs.drop n) (us.drop n)
 |_,_,0,r=>r
 |_,_,_+1,.nil=>.nil
 |_,_,n+1,.cons _ t=>Vals.drop n t
def RelO:Option V->Option A3->Prop
 |some v,some u=>RelV v u
 |none,none=>True
 |_,_=>False
def KV {κ:Type}:List (κ×V)->List (κ×A3)->Prop:=Paired λ(p:κ×V) (q:κ×A3)=>p.1=q.1/\RelV p.2 q.2
def kV:Key->V
 |.inl i=>.int i
 |.inr x=>.str x
inductive HO where
 /-- a list -/
 |lst (xs:List V)
 /-- a tuple (never changes) -/
 |tup (xs:List V)
 /-- a dict whose keys are ints and j9; one whose keys are tuples of ints and j9 (the empty one is both) -/
 |dK (ji:List (Key×V))|dT (ji:List (List Key×V))
 /-- a set of ints: jh members, jh size -/
 |set (S:Key->Bool) (n:Nat)
 /-- an instance of the class at C, jh dict at dx, jh attributes -/
 |ins (C dx:A0) (fs:List (Str×V))
 /-- the dict of the instance at x -/
 |own (x:A0)
 /-- the dict of an exception -/
 |xd (fs:List (Str×V))
 /-- a bound method, f of x -/
 |met (f x:A0)
 /-- a range object lo, lo + 1, .. below hi -/
 |rng (lo hi:Int)
 /-- a thing that is known to the object (the script; a dict while a loop walks it): read, never written while it is so -/
 |frz (o:Obj) (u:HO)
 /-- a code object's table -/
 |tbl (ps:Array A3)
 /-- any jc thing, by what is true of jh one object (a def of one's own: SetO a S n := HO.ext fun h => ..) -/
 |ext (φ:B5->Prop)
abbrev Hp:=A0->Option HO
def upd (H:Hp)(a:A0)(o:HO):Hp:=λb=>if b=a then some o else H b
theorem F9:upd H a o a=some o:=by unfold upd;rw[jw rfl]
theorem C0 (h:b≠a):upd H a o b=H b:=by unfold upd;rw[jy h]
theorem ne_of {H:Hp}(h:H a=some o)(h':H b=some u)(d:o≠u):a≠b:=by
 intro e;subst e;rw[h] at h';exact d (E9 h')
theorem Z1 {H:Hp}(h:H a=some o)(h':H b=none):a≠b:=by
 intro e;subst e;rw[h] at h';cases h'
def Z2 (h:B5)(a:A0)(items:Array A3):Prop:=∃o,h.get? a=some o/\(o.cls,o.dict)=(N0 "tuple",none)/\∃n,o.data=.seq items n
theorem Z2.is (x:Z2 h a items):IsTup h a items:=let ⟨o,e,c,r⟩:=x;⟨o,e,(BK c).1,r⟩
theorem Z2.lt (x:Z2 h a items):a<h.objs.size:=let ⟨_,e,_⟩:=x;C4 e
theorem Z2.new (h:B5)(items:Array A3):Z2 (h.push { cls:=.type "tuple",data:=.seq items }) h.objs.size items:=⟨_,F4 _ rfl,rfl,_,rfl⟩
section
variable (P:D3)(w:C3)
def J4 (H:Hp)(h:B5)(a:A0):HO->Prop
 |.lst xs=>xs.length<=B8/\∃(jh:List A3) (n:Nat),Vals xs jh/\h.get? a=some { cls:=.type "list",data:=.seq jh.toArray n }
 |.tup xs=>xs.length<=B8/\∃jh:List A3,Vals xs jh/\Z2 h a jh.toArray
 |.dK ji=>ji.length<=B8/\(a == N7)=false/\∃vs,KV ji vs/\h.DictOf (N1 P w) a vs
 |.dT ji=>ji.length<=B8/\(a == N7)=false/\∃xs:List (List Key×A0×A3),
     Paired (λ(p:List Key×V) (q:List Key×A0×A3)=>p.1=q.1/\H q.2.1=some (.tup (p.1.map kV))/\RelV p.2 q.2.2) ji xs/\
     ∃o es ep,h.get? a=some o/\o.ExactDict/\o.data=.dict es ep/\es.toList=xs.map (entryOfKey (O8 (N1 P w)))/\(xs.map (·.1)).Nodup
 |.set S n=>h.SetOf (N1 P w) a S n
 |.ins C dx fs=>H dx=some (.own a)/\fs.length<=1000/\dx≠a/\h.get? a=some (PySem.W.instObj C dx)/\
     ∃mA,h.Ns1 dx mA/\(∀f,RelO (fs.lookup f) (mA f))/\PySem.Within mA (fs.map (·.1))
 |.own _=>∃o,h.get? a=some o
 |.xd fs=>∃mA,h.Ns1 a mA/\∀f,RelO (fs.lookup f) (mA f)
 |.rng lo hi=>∃t u v,h.get? a=some { cls:=.type "range",data:=.fields #[.int lo t,.int hi u,.int 1 v] }
 |.frz o u=>h.get? a=some o/\J4 H h a u
 |.tbl ps=>h.get? a=some { cls:=.none,data:=.fields ps }
 |.met f x=>h.get? a=some (FL (.ref f) (.ref x))
 |.ext φ=>φ h/\(∃o,h.get? a=some o)/\∀h1 h2:B5,φ h1->(∀o,h1.get? a=some o->h2.get? a=some o)->φ h2
def HOk (H:Hp)(h:B5):Prop:=∀a o,H a=some o->J4 P w H h a o
end
section
variable {P:D3}{w:C3}{H H':Hp}{h h':B5}{a:A0}{o:HO}
theorem J4.lt (x:J4 P w H h a o):a<h.objs.size:=by
 cases o with
 |lst xs=>obtain⟨_,_,_,_,e⟩:=x;exact C4 e
 |tup xs=>obtain⟨_,_,_,p⟩:=x;exact p.lt
 |dK ji=>obtain⟨_,_,_,_,o,_,_,e,_⟩:=x;exact C4 e
 |dT ji=>obtain⟨_,_,_,_,o,_,_,e,_⟩:=x;exact C4 e
 |set S n=>obtain⟨o,_,_,_,e,_⟩:=x;exact C4 e
 |ins C dx fs=>obtain⟨_,_,_,e,_⟩:=x;exact C4 e
 |own y=>obtain⟨_,e⟩:=x;exact C4 e
 |xd fs=>obtain⟨_,⟨_,_,_,e,_⟩,_⟩:=x;exact C4 e
 |rng lo hi=>obtain⟨_,_,_,e⟩:=x;exact C4 e
 |frz ob u=>obtain⟨e,_⟩:=x;exact C4 e
 |tbl ps=>exact C4 (show h.get? a=some _ from x)
 |met f y=>exact C4 (show h.get? a=some _ from x)
 |ext φ=>obtain⟨_,⟨_,e⟩,_⟩:=x;exact C4 e
theorem Paired.mapP {α β:Type}{F G:α->β->Prop}{l₁:List α}{l₂:List β}(h:Paired F l₁ l₂)(f:∀a b,F a b->G a b):Paired G l₁ l₂:=by
 induction h with
 |nil=>exact .nil
 |cons r _ ih=>exact .cons (f _ _ r) ih
theorem J4.stay (x:J4 P w H h a o)(k:∀b u,(b=a\/H b=some (.own a))->h.get? b=some u->h'.get? b=some u)
   (ho:∀b,H b=some (.own a)->H' b=some (.own a)) (ht:∀b xs,H b=some (.tup xs)->H' b=some (.tup xs)):J4 P w H' h' a o:=by
 induction o with
 |lst xs=>obtain⟨z,jh,n,r,e⟩:=x;exact⟨z,jh,n,r,k _ _ (.inl rfl) e⟩
 |tup xs=>obtain⟨z,jh,r,ob,e,c⟩:=x;exact⟨z,jh,r,ob,k _ _ (.inl rfl) e,c⟩
 |dK ji=>obtain⟨z,y,vs,r,ob,es,ep,e,c⟩:=x;exact⟨z,y,vs,r,ob,es,ep,k _ _ (.inl rfl) e,c⟩
 | dT ji =>
  obtain⟨z,y,xs,r,ob,es,ep,e,c⟩:=x;exact⟨z,y,xs,Paired.mapP r λp q z=>⟨z.1,ht _ _ z.2.1,z.2.2⟩,ob,es,ep,k _ _ (.inl rfl) e,c⟩
 |set S n=>obtain⟨ob,es,ep,t,e,c⟩:=x;exact⟨ob,es,ep,t,k _ _ (.inl rfl) e,c⟩
 | ins C dx fs =>
  obtain⟨d,z,ne,e,mA,⟨od,es,ep,e2,c⟩,r⟩:=x;exact⟨ho _ d,z,ne,k _ _ (.inl rfl) e,mA,⟨od,es,ep,k _ _ (.inr d) e2,c⟩,r⟩
 |own y=>obtain⟨ob,e⟩:=x;exact⟨ob,k _ _ (.inl rfl) e⟩
 |xd fs=>obtain⟨mA,⟨od,es,ep,e,c⟩,r⟩:=x;exact⟨mA,⟨od,es,ep,k _ _ (.inl rfl) e,c⟩,r⟩
 |rng lo hi=>obtain⟨t,u,v,e⟩:=x;exact⟨t,u,v,k _ _ (.inl rfl) e⟩
 |frz ob u ih=>obtain⟨e,q⟩:=x;exact⟨k _ _ (.inl rfl) e,ih q⟩
 | tbl ps =>
  have e:h.get? a=some { cls:=.none,data:=.fields ps }:=x;show h'.get? a=some { cls:=.none,data:=.fields ps };exact k a _ (.inl rfl) e
 | met f y =>
  have e:h.get? a=some (FL (.ref f) (.ref y)):=x;show h'.get? a=some (FL (.ref f) (.ref y));exact k a _ (.inl rfl) e
 |ext φ=>obtain⟨p,⟨o,e⟩,st⟩:=x;exact⟨st _ _ p λo q=>k _ _ (.inl rfl) q,⟨o,k _ _ (.inl rfl) e⟩,st⟩
theorem HOk.lt (x:HOk P w H h)(e:H a=some o):a<h.objs.size:=(x a o e).lt
theorem HOk.fresh (x:HOk P w H h)(e:h.objs.size<=a):H a=none:=by
 cases q:H a with
 |none=>rfl
 |some u=>exact absurd (L0 (x.lt q) e) (W8 _)
theorem HOk.kept (x:HOk P w H h)(k:∀b u,h.get? b=some u->h'.get? b=some u):HOk P w H h':=λa o e=>
 (x a o e).stay (λb u _ q=>k b u q) (λ_ q=>q) λ_ _ q=>q
theorem HOk.laid (x:HOk P w H h)(k:∀b u,h.get? b=some u->h'.get? b=some u)(hp:h.objs.size<=a)(new:J4 P w (upd H a o) h' a o):HOk P w (upd H a o) h':=λb u e=>by
 have hn:=x.fresh hp
 by_cases hb:b=a
 ·subst hb;rw[F9] at e;cases e;exact new
 ·rw[C0 hb] at e;exact(x b u e).stay (λc v _ q=>k c v q) (λc q=>by rw[C0 (Z1 q hn)];exact q) λc xs q=>by rw[C0 (Z1 q hn)];exact q
end
def Rd (H:Hp)(a:A0)(u:HO):Prop:=H a=some u\/∃o,H a=some (.frz o u)
theorem Rd.ok (r:Rd H a u)(x:HOk P w H h):J4 P w H h a u:=by
 rcases r with r|⟨o,r⟩
 ·exact x a u r
 ·obtain⟨_,q⟩:=x a _ r;exact q
def Mut:Option HO->Prop
 |some (.lst _)=>True
 |some (.dK _)=>True
 |some (.dT _)=>True
 |some (.set _ _)=>True
 |some (.ins _ _ _)=>True
 |some (.ext _)=>True
 |_=>False
section
variable {P:D3}{w:C3}{H:Hp}{h h':B5}{x e:A0}{o':HO}
theorem HOk.write (ok:HOk P w H h)(mu:Mut (H x))(he:e=x\/H e=some (.own x))(k:∀b u,b≠e->h.get? b=some u->h'.get? b=some u)(heo:∃u,h'.get? e=some u)
   (new:J4 P w (upd H x o') h' x o'):HOk P w (upd H x o') h':=λb u q=>by
 have nown:∀c y,H c=some (.own y)->c≠x:=λc y r z=>by subst z;rw[r] at mu;exact mu
 have ntup:∀c xs,H c=some (.tup xs)->c≠x:=λc xs r z=>by subst z;rw[r] at mu;exact mu
 by_cases hb:b=x
 ·subst hb;rw[F9] at q;cases q;exact new
 ·rw[C0 hb] at q
  by_cases hbe:b=e
  ·have q':H b=some (.own x):=by
    rcases he with z|z
    ·exact absurd (hbe.trans z) hb
    ·rw[hbe];exact z
   rw[q] at q';cases q';obtain⟨v,hv⟩:=heo;exact⟨v,by rw[hbe];exact hv⟩
  ·refine(ok b u q).stay (λc v hc r=>k c v ?_ r) (λc r=>by rw[C0 (nown c b r)];exact r) λc xs r=>by rw[C0 (ntup c xs r)];exact r
   rcases hc with rfl|hc
   ·exact hbe
   ·rintro rfl;rcases he with z|z
    ·exact nown c b hc z
    ·rw[hc] at z;cases z;exact hb rfl
end
def NS (H:Hp):Prop:=H N7=none\/∃o u,H N7=some (.frz o u)
structure Un (fs ex:List A0)(H H':Hp)(h h':B5):Prop where
 keep:∀b o,h.get? b=some o->H b=none->b∉fs->b∉ex->h'.get? b=some o
 slot:∀b o,h.get? b=some o->H b=none->b∈fs->b∉ex->∃sl,h'.get? b=some { o with slots:=sl }
 free:∀b o,h.get? b=some o->H b=none->b∉ex->H' b=none
 there:∀b o,h.get? b=some o->b∉ex->∃o',h'.get? b=some o'
 tups:∀b xs,H b=some (.tup xs)->H' b=some (.tup xs)
 frzs:∀b o u,H b=some (.frz o u)->H' b=some (.frz o u)
 tbls:∀b ps,H b=some (.tbl ps)->∃more,H' b=some (.tbl (ps++more))
 sys:NS H->NS H'
section
variable {fs fs' ex ex':List A0}{H H1 H2:Hp}{h h1 h2 h':B5}{a x e:A0}{o:HO}
theorem Un.any (u:Un fs ex H H1 h h1)(q:h.get? b=some ob)(n:H b=none)(hx:b∉ex):∃sl,h1.get? b=some { ob with slots:=sl }:=by
 by_cases hb:b∈fs
 ·exact u.slot b ob q n hb hx
 ·exact⟨ob.slots,u.keep b ob q n hb hx⟩
theorem Un.kept (k:∀b u,h.get? b=some u->h'.get? b=some u):Un fs ex H H h h':=
 ⟨λb ob q _ _ _=>k b ob q,λb ob q _ _ _=>⟨ob.slots,k b ob q⟩,λ_ _ _ n _=>n,λb ob q _=>⟨ob,k b ob q⟩,λ_ _ q=>q,λ_ _ _ q=>q,λ_ ps q=>⟨#[],by rw[q];simp⟩,λz=>z⟩
theorem Un.refl:Un fs ex H H h h:=Un.kept λ_ _ q=>q
theorem Un.laid (k:∀b u,h.get? b=some u->h'.get? b=some u)(hp:h.objs.size<=a)(hn:H a=none)(hy:N7<h.objs.size):Un fs ex H (upd H a o) h h' where
 keep:=λb u q _ _ _=>k b u q
 slot:=λb u q _ _ _=>⟨u.slots,k b u q⟩
 free:=λb u q n _=>by rw[C0 (F3 (L0 (C4 q) hp))];exact n
 there:=λb u q _=>⟨u,k b u q⟩
 tups:=λb xs q=>by rw[C0 (Z1 q hn)];exact q
 frzs:=λb u xs q=>by rw[C0 (Z1 q hn)];exact q
 tbls:=λb ps q=>⟨#[],by rw[C0 (Z1 q hn),q];simp⟩
 sys:=λz=>by unfold NS;rw[C0 (F3 (L0 hy hp))];exact z
theorem Un.write (mu:Mut (H x))(he:e=x\/H e=some (.own x))(k:∀b u,b≠e->h.get? b=some u->h'.get? b=some u)(heo:∃u,h'.get? e=some u):Un fs ex H (upd H x o) h h':=by
 have hx:∀b,H b=none->b≠x:=λb n z=>by subst z;rw[n] at mu;exact mu
 have hb:∀b,H b=none->b≠e:=λb n z=>by
  subst z;rcases he with r|r
  ·exact hx b n r
  ·rw[n] at r;cases r
 have hm:∀b u,H b=some u->¬Mut (some u)->b≠x:=λb u q nm z=>by subst z;rw[q] at mu;exact nm mu
 refine⟨λb u q n _ _=>k b u (hb b n) q,λb u q n _ _=>⟨u.slots,k b u (hb b n) q⟩,λb u q n _=>by rw[C0 (hx b n)];exact n,λb u q _=>?_,
  λb xs q=>by rw[C0 (hm b _ q λz=>z)];exact q,λb u xs q=>by rw[C0 (hm b _ q λz=>z)];exact q,λb ps q=>⟨#[],by rw[C0 (hm b _ q λz=>z),q];simp⟩,λz=>by
   rcases z with z|⟨ob,u,z⟩
   ·exact .inl (by rw[C0 (hx _ z)];exact z)
   ·exact .inr ⟨ob,u,by rw[C0 (hm _ _ z λz=>z)];exact z⟩⟩
 by_cases hbe:b=e
 ·subst hbe;exact heo
 ·exact⟨u,k b u hbe q⟩
end
def trk (h:B5)(H:Hp):List A0:=(D1 h.objs.size).filter λa=>(H a).isSome
def hidT (h:B5)(H:Hp):B5:=PySem.W.hideAll h (trk h H)
theorem NK (h:B5)(H:Hp):(hidT h H).objs.size=h.objs.size:=PySem.W.hideAll_size _ _
theorem NL (e:h.get? b=some o)(n:H b=none):(hidT h H).get? b=some o:=
 PySem.W.hideAll_get _ e λhm=>by
  have q:(H b).isSome=true:=(O5.mp hm).2;rw[n] at q;simp at q
theorem NM (e:(hidT h H).get? b=some o):h.get? b=some o/\H b=none:=by
 have e':h.get? b=some o:=PySem.W.of_hideAll (trk h H) e;refine⟨e',?_⟩;cases q:H b with
 |none=>rfl
 | some x =>
  have hm:b∈trk h H:=O5.mpr ⟨P1.mpr (C4 e'),by simp[q]⟩;have z:(hidT h H).get? b=none:=PySem.W.hideAll_none (trk h H) hm;rw[z] at e;cases e
def NN (g h:B5)(L:A0):List (A0×Obj):=(D1 h.objs.size).filterMap λa=>if a=L\/(g.get? a).isSome=true then none else(h.get? a).map λo=>(a,o)
def rest (g h:B5)(L d:A0):List (A0×Obj):=(NN g h L).filter λp=>decide (p.1≠d)
structure Mod (K:A7)(mg:Str->Option A3)(base:B5):Prop where
 kin:K.In base
 glob:base.Ns V3 mg
 blt:∃mb,base.Ns builtinsNs mb/\∀x:Str,x≠"__name__"->mb x=K5 x
 nolimit:base.NoLimit
structure Cx where
 prog:D3
 w:C3
 K:A7
 mg:Str->Option A3
 base:B5
 A:E8
 N:List Str
 s₀:A5
 H₀:Hp
 env:Env
 outer:List Env
 stack:List Env
 ex:List A0
 fn:Str->Bool
 calm:Bool
 pn:List (A0×Obj)
 xe:A3->A5->Prop
def frs (l:List Env):List A0:=l.filterMap (·.frame)
abbrev Cx.fs (X:Cx):List A0:=frs X.outer
def Vis (sc:F8)(x:Str):Prop:=sc.names.lookup x=some .local\/sc.names.lookup x=some .cell\/sc.names.lookup x=some .free
def Loc (sc:F8)(x:Str):Prop:=sc.names.lookup x=some .local\/sc.names.lookup x=some .cell
def Look (env:Env)(h:B5)(m:Str->Option A3)(x:Str)(u:A3):Prop:=
 (env.kindOf x=some .local/\m x=some u)\/((env.kindOf x=some .cell\/env.kindOf x=some .free)/\∃c,env.cells.lookup x=some c/\h.IsCell c (some u))
structure Cx.Ok (X:Cx):Prop where
 mod:Mod X.K X.mg X.base
 kind:X.env.scope.kind=.function
 glob:X.env.globals=V3
 blt:X.env.builtins=builtinsNs
 above:X.s₀.heap.objs.size<=X.env.locals
 inj:∀x y c,X.env.cells.lookup x=some c->X.env.cells.lookup y=some c->x=y
 has:∀x,(X.env.kindOf x=some .cell\/X.env.kindOf x=some .free)->∃c,X.env.cells.lookup x=some c
 cab:∀x c,X.fn x=true->X.env.cells.lookup x=some c->X.s₀.heap.objs.size<=c
 hd:X.calm=true->X.A.handled=none
 frames:X.A.frames=some X.stack
 stk:X.stack=X.outer\/(X.stack=X.env::X.outer/\X.env.frame=some X.env.locals)
 exf:∀b∈X.ex,b≠X.env.locals/\∀x c,X.env.cells.lookup x=some c->c≠b
 bs:∀b o,X.base.get? b=some o->X.s₀.heap.get? b=some o/\X.H₀ b=none
 bsz:X.base.objs.size<=X.s₀.heap.objs.size
 noex:∀b o,X.base.get? b=some o->b∉X.ex
 exfs:∀b∈X.ex,b∉X.fs
 funs:X.s₀.heap.FunFrames X.base X.outer
 frf:∀b∈X.fs,X.H₀ b=none
 nos:NS X.H₀
structure Inv (X:Cx)(jd:List (A0×Obj))(σ:List (Option V))(H:Hp)(s:A5):Prop where
 ok:X.Ok
 os:s.os=X.s₀.os
 bare:AllBare s.gens
 base:Un X.fs X.ex X.H₀ H X.s₀.heap s.heap
 loc:∃m,s.heap.Ns X.env.locals m/\∀(i:Nat) (x:Str) (v:V),X.N[i]?=some x->σ[i]?=some (some v)->Vis X.env.scope x->∃u,RelV v u/\Look X.env s.heap m x u
 cell:∀x c,X.env.cells.lookup x=some c->∃v,s.heap.IsCell c v
 free:H X.env.locals=none
 freeC:∀x c,X.env.cells.lookup x=some c->H c=none
 pin:∀p∈X.pn++jd,s.heap.get? p.1=some p.2/\H p.1=none/\p.1≠X.env.locals/\p.1∉X.fs/\∀v,p.2.data≠.cell v
 hok:HOk X.prog X.w H s.heap
 len:σ.length=X.N.length
section
variable {X:Cx}{jd:List (A0×Obj)}{σ:List (Option V)}{H H':Hp}{s:A5}{h':B5}
theorem Cx.Ok.nofr (ok:X.Ok)(e:X.base.get? b=some o):b∉X.fs:=λhb=>by
 have:=(ok.funs.mem hb).1;rw[e] at this;cases this
theorem Inv.bs (I:Inv X jd σ H s):∀b o,X.base.get? b=some o->s.heap.get? b=some o/\H b=none:=λb o e=>
 ⟨I.base.keep b o (I.ok.bs b o e).1 (I.ok.bs b o e).2 (I.ok.nofr e) (I.ok.noex b o e),I.base.free b o (I.ok.bs b o e).1 (I.ok.bs b o e).2 (I.ok.noex b o e)⟩
theorem Inv.bk (I:Inv X jd σ H s):∀b o,X.base.get? b=some o->s.heap.get? b=some o:=λb o e=>(I.bs b o e).1
theorem Inv.mod (I:Inv X jd σ H s):Mod X.K X.mg X.base:=I.ok.mod
theorem Inv.nos (I:Inv X jd σ H s):NS H:=I.base.sys I.ok.nos
theorem Inv.bigS (I:Inv X jd σ H s):N7<s.heap.objs.size:=Nat.lt_trans (by decide) (I.mod.glob.keeps I.bk).lt
theorem Inv.kIn (I:Inv X jd σ H s):X.K.In s.heap:=I.ok.mod.kin.keeps I.bk
theorem Inv.fr (I:Inv X jd σ H s):∃m,Fr X.base X.env.locals s.heap m:=
 let ⟨m,hn,_⟩:=I.loc
 ⟨m,hn,I.bk,G8 I.ok.bsz I.ok.above⟩
theorem Inv.lt (I:Inv X jd σ H s):X.env.locals<s.heap.objs.size:=let ⟨_,hn,_⟩:=I.loc;hn.lt
theorem Inv.sz (I:Inv X jd σ H s):X.s₀.heap.objs.size<=s.heap.objs.size:=G8 I.ok.above (BA I.lt)
theorem Inv.nofs (I:Inv X jd σ H s)(h:s.heap.objs.size<=a):a∉X.fs:=λhb=>by
 obtain⟨_,o,ho,_⟩:=I.ok.funs.mem hb;exact absurd (L0 (C4 ho) (G8 I.sz h)) (W8 _)
theorem Inv.cne (I:Inv X jd σ H s):∀x c,X.env.cells.lookup x=some c->c≠X.env.locals:=λx c e z=>by
 obtain⟨v,o,ho,hd⟩:=I.cell x c e;obtain⟨m,⟨o',es,ep,ho',hd',_⟩,_⟩:=I.loc;rw[z,ho'] at ho;cases ho;rw[hd'] at hd;cases hd
theorem Inv.funs (I:Inv X jd σ H s):s.heap.FunFrames X.base X.outer:=by
 have all:∀(l:List Env),(∀b∈frs l,b∈X.fs)->X.s₀.heap.FunFrames X.base l->s.heap.FunFrames X.base l:=by
  intro l
  induction l with
  |nil=>intro _ _;trivial
  | cons env r ih =>
   intro hs hl;obtain⟨hk,⟨L,o,hf,hn,ho,hd⟩,hr⟩:=hl;have hL:L∈X.fs:=hs L (by unfold frs;rw[CM,hf];exact C6);obtain⟨sl,e⟩:=I.base.slot L o ho (I.ok.frf L hL) hL λz=>I.ok.exfs L z hL;exact⟨hk,⟨L,_,hf,hn,e,hd⟩,ih (λb hb=>hs b (by unfold frs;rw[CM,hf];exact C9 _ hb)) hr⟩
 exact all X.outer (λ_ hb=>hb) I.ok.funs
theorem Inv.stack (I:Inv X jd σ H s):s.heap.FunFrames X.base X.stack:=by
 rcases I.ok.stk with e|⟨e,hf⟩
 ·rw[e];exact I.funs
 ·rw[e];obtain⟨m,hn,_⟩:=I.loc;refine .cons (by rw[I.ok.kind];decide) hf hn ?_ I.funs;exact Heap.get?_none_of_le (G8 I.ok.bsz I.ok.above)
theorem Inv.stkSub (I:Inv X jd σ H s):∀b∈frs X.stack,b∈X.env.locals::X.fs:=λb hb=>by
 rcases I.ok.stk with e|⟨e,hf⟩
 ·rw[e] at hb;exact C9 _ hb
 ·rw[e] at hb;unfold frs at hb;rw[CM,hf] at hb;exact hb
theorem Inv.stkFree (I:Inv X jd σ H s):∀b∈frs X.stack,H b=none:=λb hb=>by
 rcases C8.mp (I.stkSub b hb) with e|hb
 ·rw[e];exact I.free
 ·obtain⟨_,o,ho,_⟩:=I.ok.funs.mem hb;exact I.base.free b o ho (I.ok.frf b hb) λz=>I.ok.exfs b z hb
theorem Inv.step {ch:List A0}(I:Inv X jd σ H s)
   (hch:∀b∈ch,(b∈X.ex\/X.s₀.heap.objs.size<=b)/\b≠X.env.locals/\(∀x c,X.env.cells.lookup x=some c->c≠b)/\∀p∈X.pn++jd,p.1≠b)
   (keep:∀b o,b≠X.env.locals->b∉X.fs->b∉ch->s.heap.get? b=some o->H b=none->h'.get? b=some o)
   (slot:∀b o,b≠X.env.locals->b∈X.fs->b∉ch->s.heap.get? b=some o->H b=none->∃sl,h'.get? b=some { o with slots:=sl }) (free:∀b o,b∉ch->s.heap.get? b=some o->H b=none->H' b=none)
   (there:∀b o,b∉ch->s.heap.get? b=some o->∃o',h'.get? b=some o')
   (tups:∀b xs,H b=some (.tup xs)->H' b=some (.tup xs)) (frzs:∀b o u,H b=some (.frz o u)->H' b=some (.frz o u)) (tbls:∀b ps,H b=some (.tbl ps)->∃more,H' b=some (.tbl (ps++more))) (sys:NS H->NS H')
   (ns:∀m,s.heap.Ns X.env.locals m->h'.Ns X.env.locals m) (hok:HOk X.prog X.w H' h') (hg:AllBare g') :
   Inv X jd σ H' { s with heap:=h',gens:=g',drawn:=d',toks:=t' }:=by
 have neL:∀b o,X.s₀.heap.get? b=some o->b≠X.env.locals:=λb o e=>F3 (L0 (C4 e) I.ok.above)
 have neC:∀b o,X.s₀.heap.get? b=some o->b∉X.ex->b∉ch:=λb o e hx hb=>by
  rcases(hch b hb).1 with z|z
  ·exact hx z
  ·exact absurd (L0 (C4 e) z) (W8 _)
 have cellK:∀x c,X.env.cells.lookup x=some c->∀v,s.heap.IsCell c v->h'.IsCell c v:=λx c e v ⟨o,ho,hd⟩=>by
  have nch:c∉ch:=λz=>(hch c z).2.2.1 x c e rfl
  by_cases hc:c∈X.fs
  ·obtain⟨sl,q⟩:=slot c o (I.cne x c e) hc nch ho (I.freeC x c e);exact⟨_,q,hd⟩
  ·exact⟨o,keep c o (I.cne x c e) hc nch ho (I.freeC x c e),hd⟩
 refine⟨I.ok,I.os,hg,⟨λb o e n hb hx=>?_,λb o e n hb hx=>?_,λb o e n hx=>?_,λb o e hx=>?_,λb xs e=>tups b xs (I.base.tups b xs e),λb o xs e=>frzs b o xs (I.base.frzs b o xs e),λb ps e=>?_,λz=>sys (I.base.sys z)⟩,?_,λx c e=>?_,?_,λx c e=>?_,λp hp=>?_,hok,I.len⟩
 ·exact keep b o (neL b o e) hb (neC b o e hx) (I.base.keep b o e n hb hx) (I.base.free b o e n hx)
 ·obtain⟨sl,e1⟩:=I.base.slot b o e n hb hx;obtain⟨sl',e2⟩:=slot b _ (neL b o e) hb (neC b o e hx) e1 (I.base.free b o e n hx);exact⟨sl',e2⟩
 ·obtain⟨o',e1⟩:=I.base.there b o e hx;exact free b o' (neC b o e hx) e1 (I.base.free b o e n hx)
 ·obtain⟨o',e1⟩:=I.base.there b o e hx;exact there b o' (neC b o e hx) e1
 ·obtain⟨m1,e1⟩:=I.base.tbls b ps e;obtain⟨m2,e2⟩:=tbls b _ e1;exact⟨m1++m2,by rw[e2,Array.append_assoc]⟩
 ·obtain⟨m,hn,hl⟩:=I.loc;refine⟨m,ns m hn,λi x v e1 e2 e3=>?_⟩;obtain⟨u,r,l⟩:=hl i x v e1 e2 e3;refine⟨u,r,?_⟩;rcases l with l|⟨k,c,e,z⟩
  ·exact .inl l
  ·exact .inr ⟨k,c,e,cellK x c e _ z⟩
 ·obtain⟨v,z⟩:=I.cell x c e;exact⟨v,cellK x c e v z⟩
 ·obtain⟨m,⟨o,_,_,ho,_⟩,_⟩:=I.loc;exact free _ o (λz=>(hch _ z).2.1 rfl) ho I.free
 ·obtain⟨v,o,ho,hd⟩:=I.cell x c e;exact free c o (λz=>(hch c z).2.2.1 x c e rfl) ho (I.freeC x c e)
 ·obtain⟨e,n,ne,nf,d⟩:=I.pin p hp;have nch:p.1∉ch:=λz=>(hch p.1 z).2.2.2 p hp rfl;exact⟨keep p.1 p.2 ne nf nch e n,free p.1 p.2 nch e n,ne,nf,d⟩
theorem Inv.un (I:Inv X jd σ H s)(u:Un X.fs [] H H' s.heap h')(hok:HOk X.prog X.w H' h'):Inv X jd σ H' { s with heap:=h',toks:=t' }:=by
 obtain⟨m,⟨o,es,ep,ho,r⟩,_⟩:=id I.loc;obtain⟨sl,hL⟩:=u.any ho I.free (by simp)
 exact I.step (g':=s.gens) (d':=s.drawn) (ch:=[]) (λ_ z=>nomatch z) (λb o _ hb _ e n=>u.keep b o e n hb (by simp)) (λb o _ hb _ e n=>u.slot b o e n hb (by simp)) (λb o _ e n=>u.free b o e n (by simp)) (λb o _ e=>u.there b o e (by simp)) u.tups u.frzs u.tbls u.sys (λm' hm=>by
  obtain⟨o',es',ep',ho',r'⟩:=hm;rw[ho] at ho';cases ho'
  exact⟨_,es',ep',hL,r'⟩) hok I.bare
theorem Inv.call (I:Inv X jd σ H s)(u:Un (frs X.stack) ch H H' s.heap h')(hok:HOk X.prog X.w H' h')(hg:AllBare g')
   (hch:∀b∈ch,(b∈X.ex\/X.s₀.heap.objs.size<=b)/\b≠X.env.locals/\(∀x c,X.env.cells.lookup x=some c->c≠b)/\∀p∈X.pn++jd,p.1≠b) :
   Inv X jd σ H' { s with heap:=h',gens:=g',drawn:=d',toks:=t' }:=by
 obtain⟨m,⟨o,es,ep,ho,r⟩,_⟩:=id I.loc;obtain⟨sl,hL⟩:=u.any ho I.free λz=>(hch _ z).2.1 rfl
 exact I.step (ch:=ch) hch (λb o hL hb hc e n=>u.keep b o e n (λz=>(C8.mp (I.stkSub b z)).elim hL hb) hc) (λb o _ _ hc e n=>u.any e n hc) (λb o hc e n=>u.free b o e n hc) (λb o hc e=>u.there b o e hc) u.tups u.frzs u.tbls u.sys (λm' hm=>by
  obtain⟨o',es',ep',ho',r'⟩:=hm;rw[ho] at ho';cases ho'
  exact⟨_,es',ep',hL,r'⟩) hok hg
theorem Inv.turned {t':Nat}{it:A0}(I:Inv X jd σ H s)(k:∀b o,b≠it->s.heap.get? b=some o->h'.get? b=some o)(hn:H it=none)(hL:it≠X.env.locals)
   (h1:it∈X.ex\/X.s₀.heap.objs.size<=it) (h2:∀x c,X.env.cells.lookup x=some c->c≠it) (h3:∀p∈X.pn++jd,p.1≠it):Inv X jd σ H { s with heap:=h',toks:=t' }:=by
 have nit:∀b u,H b=some u->b≠it:=λb u e z=>by rw[z,hn] at e;cases e
 refine I.step (g':=s.gens) (d':=s.drawn) (ch:=[it]) (λb hb=>?_) (λb o _ _ hc e _=>k b o (λz=>hc (by simp[z])) e) (λb o _ _ hc e _=>⟨o.slots,k b o (λz=>hc (by simp[z])) e⟩) (λ_ _ _ _ n=>n)
   (λb o hc e=>⟨o,k b o (λz=>hc (by simp[z])) e⟩) (λ_ _ e=>e) (λ_ _ _ e=>e) (λb ps e=>⟨#[],by rw[e];simp⟩) (λz=>z) (λm hm=>?_) (λb u e=>?_) I.bare
 ·grind
 ·obtain⟨o,es,ep,ho,r⟩:=hm;exact⟨o,es,ep,k _ o (Ne.symm hL) ho,r⟩
 ·refine(I.hok b u e).stay (λc v hc q=>k c v ?_ q) (λ_ q=>q) λ_ _ q=>q;rcases hc with z|z
  ·grind
  ·grind
theorem Inv.tok (I:Inv X jd σ H s)(t:Nat):Inv X jd σ H { s with toks:=t }:=I.un (h':=s.heap) (t':=t) Un.refl I.hok
theorem Inv.kept (I:Inv X jd σ H s)(k:∀b u,s.heap.get? b=some u->h'.get? b=some u):Inv X jd σ H { s with heap:=h',toks:=t' }:=I.un (Un.kept k) (I.hok.kept k)
theorem Inv.laid (I:Inv X jd σ H s)(k:∀b u,s.heap.get? b=some u->h'.get? b=some u)(hp:s.heap.objs.size<=a)(new:J4 X.prog X.w (upd H a o) h' a o) :
   Inv X jd σ (upd H a o) { s with heap:=h',toks:=t' }:=I.un (Un.laid k hp (I.hok.fresh hp) I.bigS) (I.hok.laid k hp new)
theorem Inv.write (I:Inv X jd σ H s)(mu:Mut (H x))(he:e=x\/H e=some (.own x))(k:∀b u,b≠e->s.heap.get? b=some u->h'.get? b=some u)(heo:∃u,h'.get? e=some u)
   (new:J4 X.prog X.w (upd H x o) h' x o):Inv X jd σ (upd H x o) { s with heap:=h',toks:=t' }:=I.un (Un.write mu he k heo) (I.hok.write mu he k heo new)
theorem Inv.pins_of (I:Inv X jd σ H s)(h:∀p∈pins',s.heap.get? p.1=some p.2/\H p.1=none/\p.1≠X.env.locals/\p.1∉X.fs/\∀v,p.2.data≠.cell v):Inv X pins' σ H s:=
 ⟨I.ok,I.os,I.bare,I.base,I.loc,I.cell,I.free,I.freeC,λp hp=>(E5.mp hp).elim (λz=>I.pin p (N8 _ z)) (h p),I.hok,I.len⟩
theorem IZ {N:List Str}(hN:N.Nodup){i j:Nat}{x:Str}(a:N[i]?=some x)(b:N[j]?=some x):i=j:=by
 obtain⟨h1,e1⟩:=E6.mp a;obtain⟨h2,e2⟩:=E6.mp b;exact(List.getElem_inj hN).mp (e1.trans e2.symm)
theorem I_ (I:Inv X jd σ H s)(hN:X.N.Nodup)(hi:X.N[i]?=some x)(hx:Loc X.env.scope x)(r:RelV v u)
   (h:∀s',Inv X jd (σ.set i (some v)) H s'->(∃a,AO a s.heap s'.heap/\(a=X.env.locals\/X.env.cells.lookup x=some a))->Q () s') (hf:X.fn x=true\/X.env.scope.names.lookup x=some .local:=by first|exact .inl rfl|exact .inr rfl|assumption):A6 M A (storeName X.env x u) Q E s:=by
 obtain⟨m,hn,hl⟩:=id I.loc;have hcls:(X.env.scope.kind == .class||(X.env.scope.kind == .module&&X.env.locals != X.env.globals))=false:=by rw[I.ok.kind];rfl
 have hiσ:i<σ.length:=by rw[I.len];exact(E6.mp hi).1
 have cne:=I.cne
 have tracked:∀{a:A0} {h':B5},(∃o,s.heap.get? a=some o/\H a=none)->AO a s.heap h'->HOk X.prog X.w H h':=λ{a h'} ha hs b ob e=>by
  obtain⟨_,_,hfree⟩:=ha;refine(I.hok b ob e).stay (λc w' hc q=>(hs.2 c ?_).trans q) (λ_ q=>q) λ_ _ q=>q;rintro rfl;rcases hc with rfl|hc
  ·rw[hfree] at e;cases e
  ·rw[hfree] at hc;cases hc
 rcases hx with hk|hk
 ·refine wpAny_storeName_local hk hn (λh' hn' hs=>?_) hcls;obtain⟨oL,_,_,hoL,_⟩:=id hn;refine h _ ⟨I.ok,I.os,I.bare,⟨λb o e n hb hx=>?_,λb o e n hb hx=>?_,I.base.free,λb o e hx=>?_,I.base.tups,I.base.frzs,I.base.tbls,I.base.sys⟩,⟨_,hn',λj y v' e1 e2 e3=>?_⟩,λy c e=>?_,I.free,I.freeC,λp hp=>?_,tracked ⟨oL,hoL,I.free⟩ hs,by simpa using I.len⟩ ⟨_,hs,.inl rfl⟩
  ·exact(hs.2 b (F3 (L0 (C4 e) I.ok.above))).trans (I.base.keep b o e n hb hx)
  ·obtain⟨sl,e1⟩:=I.base.slot b o e n hb hx;exact⟨sl,(hs.2 b (F3 (L0 (C4 e) I.ok.above))).trans e1⟩
  ·obtain⟨o',e1⟩:=I.base.there b o e hx;exact⟨o',(hs.2 b (F3 (L0 (C4 e) I.ok.above))).trans e1⟩
  ·by_cases hj:j=i
   ·subst hj;rw[hi] at e1;cases e1;rw[L7 hiσ] at e2;cases e2;exact⟨u,r,.inl ⟨hk,by simp⟩⟩
   ·rw[M9 (Ne.symm hj)] at e2;obtain⟨u',r',q⟩:=hl j y v' e1 e2 e3;refine⟨u',r',?_⟩;rcases q with⟨k,e⟩|⟨k,c,e,z⟩
    ·refine .inl ⟨k,?_⟩;have:y≠x:=λe=>hj (IZ hN e1 (e▸hi));simp[this,e]
    ·exact .inr ⟨k,c,e,z.sameBut hs (cne y c e)⟩
  ·obtain⟨w',z⟩:=I.cell y c e;exact⟨w',z.sameBut hs (cne y c e)⟩
  ·obtain⟨e,n,ne,nf,d⟩:=I.pin p hp;exact⟨(hs.2 p.1 ne).trans e,n,ne,nf,d⟩
 ·have hfn:X.fn x=true:=by
   rcases hf with z|z
   ·exact z
   ·rw[z] at hk;cases hk
  obtain⟨c,hc⟩:=I.ok.has x (.inl hk);obtain⟨w',z⟩:=I.cell x c hc;refine wpAny_storeName_cell I.ok.kind hk hc z (λh' hc' hs=>?_);obtain⟨oc,hoc,hocd⟩:=id z;refine h { s with heap:=h' } ⟨I.ok,I.os,I.bare,⟨λb o e n hb hx=>?_,λb o e n hb hx=>?_,I.base.free,λb o e hx=>?_,I.base.tups,I.base.frzs,I.base.tbls,I.base.sys⟩,⟨m,hn.sameBut hs (Ne.symm (cne x c hc)),λj y v' e1 e2 e3=>?_⟩,λy c' e=>?_,I.free,I.freeC,λp hp=>?_,tracked ⟨oc,hoc,I.freeC x c hc⟩ hs,by simpa using I.len⟩ ⟨c,hs,.inr hc⟩
  ·exact(hs.2 b (F3 (L0 (C4 e) (I.ok.cab x c hfn hc)))).trans (I.base.keep b o e n hb hx)
  ·obtain⟨sl,e1⟩:=I.base.slot b o e n hb hx;exact⟨sl,(hs.2 b (F3 (L0 (C4 e) (I.ok.cab x c hfn hc)))).trans e1⟩
  ·obtain⟨o',e1⟩:=I.base.there b o e hx;exact⟨o',(hs.2 b (F3 (L0 (C4 e) (I.ok.cab x c hfn hc)))).trans e1⟩
  ·by_cases hj:j=i
   ·subst hj;rw[hi] at e1;cases e1;rw[L7 hiσ] at e2;cases e2;exact⟨u,r,.inr ⟨.inl hk,c,hc,hc'⟩⟩
   ·rw[M9 (Ne.symm hj)] at e2;obtain⟨u',r',q⟩:=hl j y v' e1 e2 e3;refine⟨u',r',?_⟩;rcases q with q|⟨k,c',e,z'⟩
    ·exact .inl q
    ·refine .inr ⟨k,c',e,z'.sameBut hs ?_⟩;rintro rfl;exact hj (IZ hN e1 (I.ok.inj _ _ _ e hc▸hi))
  ·by_cases hcc:c'=c
   ·subst hcc;exact⟨_,hc'⟩
   ·obtain⟨w2,z2⟩:=I.cell y c' e;exact⟨w2,z2.sameBut hs hcc⟩
  ·obtain⟨e,n,ne,nf,d⟩:=I.pin p hp;refine⟨(hs.2 p.1 ?_).trans e,n,ne,nf,d⟩;intro q;rw[q,hoc] at e;have q':oc=p.2:=E9 e;exact d w' (by rw[<- q'];exact hocd)
theorem Ah (I:Inv X jd σ H s)(hN:X.N.Nodup)(hi:X.N[i]?=some x)(hx:Loc X.env.scope x)(r:RelV v u)
   (h:∀s',Inv X jd (σ.set i (some v)) H s'->Q () s') (hf:X.fn x=true\/X.env.scope.names.lookup x=some .local:=by first|exact .inl rfl|exact .inr rfl|assumption):A6 M A (storeName X.env x u) Q E s:=
 I_ I hN hi hx r (λs' I' _=>h s' I') hf
end
abbrev XK:=A3->Option A0->Hp->Prop
abbrev St:=List (Option V)
abbrev VK:=V->Hp->Prop
abbrev TE:=St->Hp->VK->Prop
abbrev TT:=St->Hp->(Bool->Hp->Prop)->Prop
abbrev TA:=St->Hp->(List V->Hp->Prop)->Prop
structure Ends where
 nx:St->Hp->Prop
 rt:VK
 bk:St->Hp->Prop:=λ_ _=>False
 ct:St->Hp->Prop:=λ_ _=>False
abbrev TS:=Ends->St->Hp->Prop
def EP (X:Cx)(jd:List (A0×Obj))(σ:St)(Q:VK)(u:A3)(s':A5):Prop:=∃v H',Inv X jd σ H' s'/\RelV v u/\Q v H'
def TP (X:Cx)(jd:List (A0×Obj))(σ:St)(Q:Bool->Hp->Prop)(b:Bool)(s':A5):Prop:=∃H',Inv X jd σ H' s'/\Q b H'
def AP (X:Cx)(jd:List (A0×Obj))(σ:St)(Q:List V->Hp->Prop)(us:List A3)(s':A5):Prop:=∃vs H',Inv X jd σ H' s'/\Vals vs us/\Q vs H'
def SP (X:Cx)(jd:List (A0×Obj))(D:Ends)(f:Flow)(s':A5):Prop:=
 match f with
 |.next=>∃σ' H',Inv X jd σ' H' s'/\D.nx σ' H'
 |.brk=>∃σ' H',Inv X jd σ' H' s'/\D.bk σ' H'
 |.cont=>∃σ' H',Inv X jd σ' H' s'/\D.ct σ' H'
 |.ret u=>∃v σ' H',Inv X jd σ' H' s'/\RelV v u/\D.rt v H'
def PE (X:Cx)(e:Expr)(t:TE):Prop:=
 ∀(jd:List (A0×Obj)) (s:A5) (σ:St) (H:Hp) (Q:VK),Inv X jd σ H s->t σ H Q->A6 (A8 X.prog X.w) X.A (eval e X.env) (EP X jd σ Q) X.xe s
def PT (X:Cx)(e:Expr)(t:TT):Prop:=
 ∀(jd:List (A0×Obj)) (s:A5) (σ:St) (H:Hp) (Q:Bool->Hp->Prop),Inv X jd σ H s->t σ H Q->A6 (A8 X.prog X.w) X.A (isTrue e X.env (eval e X.env)) (TP X jd σ Q) X.xe s
def PW (X:Cx)(e:Expr)(t:TT):Prop:=
 ∀(whole:Sem A3) (jd:List (A0×Obj)) (s:A5) (σ:St) (H:Hp) (Q:Bool->Hp->Prop),Inv X jd σ H s->t σ H Q->A6 (A8 X.prog X.w) X.A (isTrue e X.env whole) (TP X jd σ Q) X.xe s
theorem PW.pt (h:PW X e t):PT X e t:=h _
def PA (X:Cx)(es:List Expr)(t:TA):Prop:=
 ∀(pos:Pos) (jd:List (A0×Obj)) (s:A5) (σ:St) (H:Hp) (Q:List V->Hp->Prop),Inv X jd σ H s->t σ H Q->A6 (A8 X.prog X.w) X.A (spliced (backTo pos (E2 es X.env))) (AP X jd σ Q) X.xe s
def PS (X:Cx)(st:Stmt)(t:TS):Prop:=
 ∀(jd:List (A0×Obj)) (s:A5) (σ:St) (H:Hp) (D:Ends),Inv X jd σ H s->t D σ H->A6 (A8 X.prog X.w) X.A (exec st X.env) (SP X jd D) X.xe s
def PSs (X:Cx)(st:List Stmt)(t:TS):Prop:=
 ∀(jd:List (A0×Obj)) (s:A5) (σ:St) (H:Hp) (D:Ends),Inv X jd σ H s->t D σ H->A6 (A8 X.prog X.w) X.A (execs st X.env) (SP X jd D) X.xe s
theorem thn {α:Type}{t:Sem α}{Q Q':α->A5->Prop}{M:Model}{A:E8}{E:A3->A5->Prop}{s:A5}(h:A6 M A t Q E s)(hQ:∀a s,Q a s->Q' a s):A6 M A t Q' E s:=K4 h hQ λ_ _ x=>x
section
variable {X:Cx}
def tVar (i:Nat):TE:=λσ H Q=>∃v,σ[i]?=some (some v)/\Q v H
def tC (v:V):TE:=λ_ H Q=>Q v H
theorem Ja (hN:X.N[i]?=some x)(hv:Vis X.env.scope x)(hd:(x == ("__debug__":Str))=false:=by decide)(hcd:(x == ("__classdict__":Str))=false:=by decide):PE X (.Name x pos) (tVar i):=by
 intro jd s σ H Q I h;obtain⟨v,e,h⟩:=h;obtain⟨m,hn,hl⟩:=I.loc;obtain⟨u,r,l⟩:=hl i x v hN e hv;have fin:EP X jd σ Q u s:=⟨v,H,I,r,h⟩;rcases l with⟨hk,hm⟩|⟨hk,c,hc,hcell⟩
 ·exact wpAny_Name (wpAny_loadName_local I.ok.kind hk hn hm fin) hd
 ·rcases hk with hk|hk
  ·exact wpAny_Name (wpAny_loadName_cell I.ok.kind hk hc hcell fin) hd
  ·exact wpAny_Name (wpAny_loadName_free I.ok.kind hk hc hcell fin hcd) hd
theorem F6 {i j pos}:PE X (.Constant (.int i) j pos) (tC (.int i)):=λ_ _ _ H _ I h=>wpAny_Constant_int ⟨.int i,H,I.tok _,⟨_,rfl⟩,h⟩
theorem pe_bl {b j pos}:PE X (.Constant (.bool b) j pos) (tC (.bl b)):=λ_ _ _ H _ I h=>Constant_bool ⟨.bl b,H,I,rfl,h⟩
theorem pe_non {j pos}:PE X (.Constant .none j pos) (tC .non):=λ_ _ _ H _ I h=>Constant_none ⟨.non,H,I,rfl,h⟩
theorem pe_str {x j pos}:PE X (.Constant (.str x) j pos) (tC (.str x)):=λ_ _ _ H _ I h=>Calls.Constant_str ⟨.str x,H,I.tok _,⟨_,rfl⟩,h⟩
def Gl (X:Cx)(x:Str):Prop:=X.env.kindOf x=some .globalImplicit
theorem Jb (I:Inv X jd σ H s)(hg:Gl X x)(hm:X.mg x=some u)(h:Q u s)
   (hd:(x == ("__debug__":Str))=false:=by decide):A6 (A8 X.prog X.w) X.A (eval (.Name x pos) X.env) Q E s:=
 Calls.Name_function_global I.ok.kind hg (Calls.loadGlobal_global (by rw[I.ok.glob];exact I.mod.glob.keeps I.bk) hm h) hd
theorem U5 (I:Inv X jd σ H s)(hg:Gl X x)(hm:X.mg x=none)(hv:K5 x=some u)(h:Q u s)
   (hn:x≠"__name__":=by decide) (hd:(x == ("__debug__":Str))=false:=by decide):A6 (A8 X.prog X.w) X.A (eval (.Name x pos) X.env) Q E s:=by
 obtain⟨mb,h1,h2⟩:=I.mod.blt;exact Calls.Name_function_global I.ok.kind hg (Calls.loadGlobal_builtin (by rw[I.ok.glob];exact I.mod.glob.keeps I.bk) hm (by rw[I.ok.blt];exact h1.keeps I.bk) ((h2 x hn).trans hv) h) hd
theorem NO {x:Str}{v:V}{u:A3}{pos:Pos}(hg:Gl X x)(hm:X.mg x=some u)(r:RelV v u)(hd:(x == ("__debug__":Str))=false:=by decide):PE X (.Name x pos) (tC v):=
 λ_ _ _ H _ I h=>Jb I hg hm ⟨v,H,I,r,h⟩ hd
theorem NP (hg:Gl X x)(hm:X.mg x=none)(hv:K5 x=some u)(r:RelV v u)(hn:x≠"__name__":=by decide)(hd:(x == ("__debug__":Str))=false:=by decide):PE X (.Name x pos) (tC v):=
 λ_ _ _ H _ I h=>U5 I hg hm hv ⟨v,H,I,r,h⟩ hn hd
variable {a b:Expr}{ta tb:TE}{pos:Pos}
def tB (t:TE):TT:=λσ H Q=>t σ H λx H1=>∃c,x=.bl c/\Q c H1
theorem pt_val (h:PE X e t)(he:∀whole,isTrue e X.env whole=(do let v ← whole;e9 e.pos;W4 [v] (truthy v)):=by intro _;rfl):PT X e (tB t):=by
 intro jd s σ H Q I hw;refine isTrue_plain (thn (h jd s σ H _ I hw) λv s1 ⟨x,H1,I1,r1,q1⟩=>?_) (he _);obtain⟨d,rfl,q⟩:=q1;cases r1;exact p6 ⟨H1,I1,q⟩
variable {tA tB':TT}{rest:List Expr}
def tAnd (t u:TT):TT:=λσ H Q=>t σ H λc H1=>if c=true then u σ H1 Q else Q false H1
def tOr (t u:TT):TT:=λσ H Q=>t σ H λc H1=>if c=true then Q true H1 else u σ H1 Q
def tNot (t:TT):TT:=λσ H Q=>t σ H λc H1=>Q (!c) H1
theorem NQ (ha:PT X a tA):PW X (.BoolOp .And [a] pos) tA:=by
 intro wh jd s σ H Q I h;refine isTrue_and (thn (ha jd s σ H Q I h) λc s1 e=>?_);cases c with
 |true=>exact isTrue_and_nil e
 |false=>exact e
theorem pw_or1 (ha:PT X a tA):PW X (.BoolOp .Or [a] pos) tA:=by
 intro wh jd s σ H Q I h;refine isTrue_or (thn (ha jd s σ H Q I h) λc s1 e=>?_);cases c with
 |false=>exact isTrue_or_nil e
 |true=>exact e
theorem pw_and (ha:PT X a tA)(hb:PW X (.BoolOp .And (b::rest) pos) tB'):PW X (.BoolOp .And (a::b::rest) pos) (tAnd tA tB'):=by
 intro wh jd s σ H Q I h;refine isTrue_and (thn (ha jd s σ H _ I h) λc s1 ⟨H1,I1,q1⟩=>?_);cases c with
 |true=>exact hb wh jd s1 σ H1 Q I1 q1
 |false=>exact⟨H1,I1,q1⟩
theorem pw_or (ha:PT X a tA)(hb:PW X (.BoolOp .Or (b::rest) pos) tB'):PW X (.BoolOp .Or (a::b::rest) pos) (tOr tA tB'):=by
 intro wh jd s σ H Q I h;refine isTrue_or (thn (ha jd s σ H _ I h) λc s1 ⟨H1,I1,q1⟩=>?_);cases c with
 |true=>exact⟨H1,I1,q1⟩
 |false=>exact hb wh jd s1 σ H1 Q I1 q1
theorem pt_not (ha:PT X a tA):PT X (.UnaryOp .Not a pos) (tNot tA):=by
 intro jd s σ H Q I h;exact isTrue_not (ha jd s σ H (λc H1=>Q (!c) H1) I h)
def tAndV (ta tb:TE):TE:=λσ H Q=>ta σ H λx H1=>∃c,x=.bl c/\if c=true then tb σ H1 Q else Q (.bl false) H1
def tNotV (ta:TE):TE:=λσ H Q=>ta σ H λx H1=>∃c,x=.bl c/\Q (.bl (!c)) H1
theorem pe_one {op}{t:TE}(h:PE X a t):PE X (.BoolOp op [a] pos) t:=λjd s σ H Q I hw=>BoolOp_one (h jd s σ H Q I hw)
theorem pe_and (ha:PE X a ta)(hb:PE X (.BoolOp .And (b::rest) pos) tb):PE X (.BoolOp .And (a::b::rest) pos) (tAndV ta tb):=by
 intro jd s σ H Q I h;refine BoolOp_and (thn (ha jd s σ H _ I h) λv s1 ⟨x,H1,I1,r1,q1⟩=>?_);obtain⟨c,rfl,q1⟩:=q1;cases r1;refine p6 ?_;cases c with
 |true=>exact hb jd s1 σ H1 Q I1 q1
 |false=>exact⟨.bl false,H1,I1,rfl,q1⟩
theorem pe_not (ha:PE X a ta):PE X (.UnaryOp .Not a pos) (tNotV ta):=by
 intro jd s σ H Q I h;refine UnaryOp_ (thn (ha jd s σ H _ I h) λv s1 ⟨x,H1,I1,r1,q1⟩=>?_);obtain⟨c,rfl,q1⟩:=q1;cases r1;exact not_of (p6 ⟨.bl (!c),H1,I1,rfl,q1⟩)
def tIf (t:TT)(ta tb:TE):TE:=λσ H Q=>t σ H λc H1=>if c=true then ta σ H1 Q else tb σ H1 Q
theorem NR (hc:PT X c tA)(ha:PE X a ta)(hb:PE X b tb):PE X (.IfExp c a b pos) (tIf tA ta tb):=by
 intro jd s σ H Q I h;refine wpAny_IfExp (thn (hc jd s σ H _ I h) λd s1 ⟨H1,I1,q1⟩=>?_);cases d with
 |true=>exact ha jd s1 σ H1 Q I1 q1
 |false=>exact hb jd s1 σ H1 Q I1 q1
end
def SqL (K:A7)(H:Hp)(a:A0)(xs:List V):Prop:=
 Rd H a (.lst xs)\/
   ∃(o:Obj) (jh:Array A3) (n:Nat),K.lookup a=some o/\o.cls=.type "list"/\o.dict=none/\o.data=.seq jh n/\jh.size<=B8/\Vals xs jh.toList
def SqT (K:A7)(H:Hp)(a:A0)(xs:List V):Prop:=
 Rd H a (.tup xs)\/
   ∃(o:Obj) (jh:Array A3) (n:Nat),K.lookup a=some o/\o.cls=.type "tuple"/\o.data=.seq jh n/\jh.size<=B8/\Vals xs jh.toList
def absV:A3->Option V
 |.none=>some .non
 |.bool b=>some (.bl b)
 |.int i _=>some (.int i)
 |.str x _=>some (.str x)
 |.bytes b _=>some (.byt b)
 |.float b _=>some (.flt b)
 |.ref a=>some (.ref a)
 |.type n=>some (.ty n)
 |_=>none
theorem RelV.abs {x:V}{u:A3}(r:RelV x u):absV u=some x:=by grind [RelV,V,absV]
theorem RelV.inj {x y:V}{u:A3}(r:RelV x u)(q:RelV y u):x=y:=by grind [RelV,V]
theorem Vals.inj (h:Vals xs us)(h':Vals ys us):xs=ys:=by
 induction h generalizing ys with
 |nil=>cases h';rfl
 |cons r t ih=>cases h' with|cons r' t'=>rw[r.inj r',ih t']
section
variable {X:Cx}{jd:List (A0×Obj)}{σ:St}{H:Hp}{s:A5}{a:A0}{xs ys:List V}
theorem SqL.of {K:A7}(h:H a=some (.lst xs)):SqL K H a xs:=.inl (.inl h)
theorem SqT.of {K:A7}(h:H a=some (.tup xs)):SqT K H a xs:=.inl (.inl h)
theorem Inv.list (I:Inv X jd σ H s)(h:SqL X.K H a xs):∃jh:List A3,Vals xs jh/\PlainL s.heap a jh.toArray/\xs.length<=B8:=by
 rcases h with h|⟨o,jh,n,hk,hc,hd,hs,hz,r⟩
 ·obtain⟨z,jh,n,r,e⟩:=h.ok I.hok;exact⟨jh,r,⟨_,n,e,rfl,rfl,rfl⟩,z⟩
 ·refine⟨jh.toList,r,⟨o,n,I.kIn a o hk,hc,hd,by simpa using hs⟩,?_⟩;have e:=r.length;simp only[AU] at e;omega
theorem Inv.tuple (I:Inv X jd σ H s)(h:SqT X.K H a xs):∃jh:List A3,Vals xs jh/\IsTup s.heap a jh.toArray/\xs.length<=B8:=by
 rcases h with h|⟨o,jh,n,hk,hc,hs,hz,r⟩
 ·obtain⟨z,jh,r,p⟩:=h.ok I.hok;exact⟨jh,r,p.is,z⟩
 ·refine⟨jh.toList,r,⟨o,I.kIn a o hk,hc,n,by simpa using hs⟩,?_⟩;have e:=r.length;simp only[AU] at e;omega
theorem Inv.list_inj (I:Inv X jd σ H s)(h:SqL X.K H a xs)(h':SqL X.K H a ys):xs=ys:=by
 obtain⟨jh,r,⟨o,n,e,_,_,d⟩,_⟩:=I.list h;obtain⟨its',r',⟨o',n',e',_,_,d'⟩,_⟩:=I.list h';rw[e] at e';cases e';rw[d] at d';injection d' with d1 _;have:jh=its':=by simpa using congrArg Array.toList d1
 subst this;exact r.inj r'
theorem Inv.tuple_inj (I:Inv X jd σ H s)(h:SqT X.K H a xs)(h':SqT X.K H a ys):xs=ys:=by
 obtain⟨jh,r,⟨o,e,_,n,d⟩,_⟩:=I.tuple h;obtain⟨its',r',⟨o',e',_,n',d'⟩,_⟩:=I.tuple h';rw[e] at e';cases e';rw[d] at d';injection d' with d1 _;have:jh=its':=by simpa using congrArg Array.toList d1
 subst this;exact r.inj r'
end
abbrev Cx.wish (X:Cx)(E:A3->A5->Prop):Cx:={ X with xe:=E }
abbrev Cx.nox (X:Cx):Cx:=X.wish λ_ _=>False
theorem Cx.Ok.wish {X:Cx}(ok:X.Ok)(E:A3->A5->Prop):(X.wish E).Ok:=
 ⟨ok.mod,ok.kind,ok.glob,ok.blt,ok.above,ok.inj,ok.has,ok.cab,ok.hd,ok.frames,ok.stk,ok.exf,ok.bs,ok.bsz,ok.noex,ok.exfs,ok.funs,ok.frf,ok.nos⟩
theorem Cx.Ok.unwish {X:Cx}(ok:(X.wish E).Ok):X.Ok:=
 ⟨ok.mod,ok.kind,ok.glob,ok.blt,ok.above,ok.inj,ok.has,ok.cab,ok.hd,ok.frames,ok.stk,ok.exf,ok.bs,ok.bsz,ok.noex,ok.exfs,ok.funs,ok.frf,ok.nos⟩
section
variable {X:Cx}{jd:List (A0×Obj)}{σ:St}{H:Hp}{s:A5}{E:A3->A5->Prop}
theorem Inv.wish (I:Inv X jd σ H s)(E:A3->A5->Prop):Inv (X.wish E) jd σ H s:=⟨I.ok.wish E,I.os,I.bare,I.base,I.loc,I.cell,I.free,I.freeC,I.pin,I.hok,I.len⟩
theorem Inv.unwish (I:Inv (X.wish E) jd σ H s):Inv X jd σ H s:=⟨I.ok.unwish,I.os,I.bare,I.base,I.loc,I.cell,I.free,I.freeC,I.pin,I.hok,I.len⟩
theorem SP.unwish (h:SP (X.wish E) jd D f s'):SP X jd D f s':=by
 cases f with
 |next=>obtain⟨σ',H',I,q⟩:=h;exact⟨σ',H',I.unwish,q⟩
 |brk=>obtain⟨σ',H',I,q⟩:=h;exact⟨σ',H',I.unwish,q⟩
 |cont=>obtain⟨σ',H',I,q⟩:=h;exact⟨σ',H',I.unwish,q⟩
 |ret u=>obtain⟨v,σ',H',I,r,q⟩:=h;exact⟨v,σ',H',I.unwish,r,q⟩
theorem PSs.nox {st:List Stmt}(h:PSs X.nox st t):PSs X st t:=λjd s σ H D I hw=>
 K4 (h jd s σ H D (I.wish _) hw) (λ_ _ q=>q.unwish) λ_ _ z=>i9 z
end
section
variable {X:Cx}{st:Stmt}{rest:List Stmt}{t u:TS}{e:Expr}{te:TE}{pos:Pos}
def tNext:TS:=λD σ H=>D.nx σ H
def tSeq (t u:TS):TS:=λD σ H=>t { D with nx:=u D } σ H
theorem Jc:PSs X [] tNext:=λ_ _ σ H _ I h=>DX ⟨σ,H,I,h⟩
theorem Z3 (h1:PS X st t)(h2:PSs X rest u):PSs X (st::rest) (tSeq t u):=by
 intro jd s σ H D I h;refine wpAny_execs_cons (thn (h1 jd s σ H { D with nx:=u D } I h) λf s1 q=>?_);cases f with
 | next =>
  obtain⟨σ',H',I',q⟩:=q;exact h2 jd s1 σ' H' D I' q
 |ret v=>exact q
 |brk=>exact q
 |cont=>exact q
theorem De (h1:PS X st t):PSs X [st] t:=by
 intro jd s σ H D I h;refine wpAny_execs_cons (thn (h1 jd s σ H D I h) λf s1 q=>?_);cases f with
 |next=>exact DX q
 |ret v=>exact q
 |brk=>exact q
 |cont=>exact q
theorem Inv.quiet (I:Inv X jd σ H s):interactive X.env=false:=by simp[interactive,I.ok.kind]
def Gd (te:TE):TS:=λD σ H=>te σ H λ_ H1=>D.nx σ H1
theorem NT (he:PE X e te)(hs:Y2 e none pos.line X.env=pure false:=by rfl):PS X (.Expr e pos) (Gd te):=by
 intro jd s σ H D I h;exact wpAny_Expr_any (thn (he jd s σ H _ I h) λv s1 ⟨x,H1,I1,r1,q1⟩=>⟨σ,H1,I1,q1⟩) I.quiet hs
def tRet (te:TE):TS:=λD σ H=>te σ H D.rt
theorem Es (he:PE X e te):PS X (.Return (some e) pos) (tRet te):=by
 intro jd s σ H D I h;exact wpAny_Return_some (thn (he jd s σ H _ I h) λv s1 ⟨x,H1,I1,r1,q1⟩=>⟨x,σ,H1,I1,r1,q1⟩)
def tIfS (c:TT)(t u:TS):TS:=λD σ H=>c σ H λb H1=>if b=true then t D σ H1 else u D σ H1
theorem ps_if (hc:PT X c tc)(ha:PSs X a t)(hb:PSs X b u):PS X (.If c a b pos) (tIfS tc t u):=by
 intro jd s σ H D I h;refine wpAny_If (thn (hc jd s σ H _ I h) λd s1 ⟨H1,I1,q1⟩=>?_);cases d with
 |true=>exact ha jd s1 σ H1 D I1 q1
 |false=>exact hb jd s1 σ H1 D I1 q1
end
abbrev TG:=V->St->Hp->(St->Hp->Prop)->Prop
abbrev TGs:=List V->St->Hp->(St->Hp->Prop)->Prop
def PG (X:Cx)(target:Expr)(t:TG):Prop:=
 ∀ (jd : List (A0 × Obj)) (s : A5) (σ : St) (H : Hp) (v : V) (u : A3) (Q : St -> Hp -> Prop), Inv X jd σ H s -> RelV v u -> t v σ H Q ->
   A6 (A8 X.prog X.w) X.A (assign target X.env u) (λ_ s'=>∃σ' H',Inv X jd σ' H' s'/\Q σ' H') X.xe s
def PGs (X:Cx)(ts:List Expr)(t:TGs):Prop:=
 ∀ (jd : List (A0 × Obj)) (s : A5) (σ : St) (H : Hp) (vs : List V) (us : List A3) (Q : St -> Hp -> Prop), Inv X jd σ H s -> Vals vs us -> t vs σ H Q ->
   A6 (A8 X.prog X.w) X.A (CG ((P9 ts X.env).map (·.2)) us) (λ_ s'=>∃σ' H',Inv X jd σ' H' s'/\Q σ' H') X.xe s
abbrev TSet:=V->V->V->Hp->(Hp->Prop)->Prop
def PSet (X:Cx)(t:TSet):Prop:=
 ∀ (jd : List (A0 × Obj)) (s : A5) (σ : St) (H : Hp) (o i v : V) (ov iv u : A3) (Q : Hp -> Prop), Inv X jd σ H s -> RelV o ov -> RelV i iv -> RelV v u -> t o i v H Q ->
   A6 (A8 X.prog X.w) X.A (setItem ov iv u) (λ_ s'=>∃H',Inv X jd σ H' s'/\Q H') X.xe s
abbrev TIp:=V->V->Hp->VK->Prop
def PIp (X:Cx)(op:Operator)(t:TIp):Prop:=
 ∀ (jd : List (A0 × Obj)) (s : A5) (σ : St) (H : Hp) (x y : V) (v u : A3) (Q : VK), Inv X jd σ H s -> RelV x v -> RelV y u -> t x y H Q ->
   A6 (A8 X.prog X.w) X.A (inplaceOp op v u) (EP X jd σ Q) X.xe s
section
variable {X:Cx}{pos:Pos}
def R5 (i:Nat):TG:=λv σ H Q=>Q (σ.set i (some v)) H
theorem Jd (hN:X.N.Nodup)(hi:X.N[i]?=some x)(hx:Loc X.env.scope x)(hf:X.fn x=true\/X.env.scope.names.lookup x=some .local:=by first|exact .inl rfl|exact .inr rfl|assumption):PG X (.Name x pos) (R5 i):=by
 intro jd s σ H v u Q I r h;exact wpAny_assign_Name (Ah I hN hi hx r (λs' I'=>⟨_,H,I',h⟩) hf)
def gNil:TGs:=λvs σ H Q=>vs=[]/\Q σ H
def Df (t:TG)(u:TGs):TGs:=λvs σ H Q=>∃v r,vs=v::r/\t v σ H λσ' H'=>u r σ' H' Q
theorem Je:PGs X [] gNil:=by
 intro jd s σ H vs us Q I r h;obtain⟨e,h⟩:=h;subst e;cases r;exact assignInOrder_nil ⟨σ,H,I,h⟩
theorem Ge (h1:PG X e t)(h2:PGs X es u)
   (hs:(P9 (e::es) X.env).map (·.2)=assign e X.env::(P9 es X.env).map (·.2):=by rfl):PGs X (e::es) (Df t u):=by
 intro jd s σ H vs us Q I r h;obtain⟨v,vr,e1,h⟩:=h;subst e1;cases r with
 | cons r rr =>
  rw[hs];refine BD (thn (h1 jd s σ H _ _ _ I r h) λ_ s1 ⟨σ1,H1,I1,q1⟩=>?_);exact h2 jd s1 σ1 H1 _ _ Q I1 rr q1
def gTup (K:A7)(n:Nat)(t:TGs):TG:=λv σ H Q=>∃a xs,v=.ref a/\SqT K H a xs/\xs.length=n/\t xs σ H Q
theorem Jf (hc:X.calm=true)(h:PGs X es t)
   (hn:(P9 es X.env).length=n:=by rfl) (hst:(P9 es X.env).findIdx? (·.1)=none:=by rfl):PG X (.Tuple es k pos) (gTup X.K n t):=by
 intro jd s σ H v u Q I r hw;obtain⟨a,xs,e1,hq,hl,hw⟩:=hw;subst e1;cases r;obtain⟨jh,rv,ht,hz⟩:=I.tuple hq;refine assign_Tuple_tuple (I.ok.hd hc) ht (by simp[hn,<- hl,rv.length]) hst λh' hx=>?_;have I1:Inv X jd σ H { s with heap:=h' }:=I.kept (t':=s.toks) λb o e=>hx b o (F3 (C4 e)) e;exact h jd _ σ H xs _ Q I1 (by simpa using rv) hw
def gSub (to ti:TE)(t:TSet):TG:=λv σ H Q=>to σ H λo H1=>ti σ H1 λi H2=>t o i v H2 λH3=>Q σ H3
theorem Gf (ho:PE X o to)(hi:PE X i ti)(hs:PSet X t)
   (ha:∀v,assign (.Subscript o i pos) X.env v=(do
    let ov ← W4 [v] (eval o X.env)
    let iv ← W4 [v,ov] (eval i X.env)
    e9 pos
    W4 [v,ov,iv] (setItem ov iv v)
    release [v,ov,iv] []):=by intro _;rfl):PG X (.Subscript o i pos) (gSub to ti t):=by
 intro jd s σ H v u Q I r h;rw[ha];refine A2 (P8 (thn (ho jd s σ H _ I h) λov s1 ⟨x,H1,I1,r1,q1⟩=>?_));refine A2 (P8 (thn (hi jd s1 σ H1 _ I1 q1) λiv s2 ⟨y,H2,I2,r2,q2⟩=>?_));refine A2 (W3 (A2 (P8 (thn (hs jd s2 σ H2 x y v ov iv u _ I2 r1 r2 r q2) λ_ s3 ⟨H3,I3,q3⟩=>?_))));exact wpAny_release ⟨σ,H3,I3,q3⟩
def tAsg (te:TE)(g:TG):TS:=λD σ H=>te σ H λx H1=>g x σ H1 D.nx
theorem Gg (he:PE X e te)(hg:PG X tg g)(hs:Bp [tg] e pos.line X.env=pure false:=by rfl)(hw:Bq [tg] e X.env=pure none:=by rfl)
   (h1:(P9 [tg] X.env).map (·.2)=[assign tg X.env]:=by rfl):PS X (.Assign [tg] e pos) (tAsg te g):=by
 intro jd s σ H D I h;refine wpAny_Assign_stores (thn (he jd s σ H _ I h) λv s1 ⟨x,H1,I1,r1,q1⟩=>?_) hs hw;rw[h1];exact thn (hg jd s1 σ H1 x v _ I1 r1 q1) λ_ s2 q=>q
theorem Ai (hN:X.N.Nodup)(hi:X.N[i]?=some x)(hx:Loc X.env.scope x)(he:PE X e te)(hs:Y2 e (some (.Name x pos')) pos.line X.env=pure false:=by rfl)(hf:X.fn x=true\/X.env.scope.names.lookup x=some .local:=by first|exact .inl rfl|exact .inr rfl|assumption) :
   PS X (.Assign [.Name x pos'] e pos) (tAsg te (R5 i)):=by
 intro jd s σ H D I h;refine wpAny_Assign_Name (thn (he jd s σ H _ I h) λv s1 ⟨y,H1,I1,r1,q1⟩=>?_) hs;exact Ah I1 hN hi hx r1 (λs2 I2=>⟨_,H1,I2,q1⟩) hf
def tPar (i j:Nat)(ta:TA):TS:=λD σ H=>ta σ H λvs H1=>∃v w,vs=[v,w]/\D.nx ((σ.set i (some v)).set j (some w)) H1
theorem ps_par {i j:Nat}{x y:Str}{a b:Expr}{ta:TA}{px py pt:Pos}{kt k2 pt2}(hc:X.calm=true)(hN:X.N.Nodup)(hi:X.N[i]?=some x)(hj:X.N[j]?=some y)(hij:i≠j)
   (hx:X.env.scope.names.lookup x=some .local) (hy:X.env.scope.names.lookup y=some .local) (ha:PA X [a,b] ta)
   (hw:Bq [.Tuple [.Name x px,.Name y py] kt pt] (.Tuple [a,b] k2 pt2) X.env=pure (some [x,y]))
   (hs:Bp [.Tuple [.Name x px,.Name y py] kt pt] (.Tuple [a,b] k2 pt2) pos.line X.env=pure false:=by rfl) :
   PS X (.Assign [.Tuple [.Name x px,.Name y py] kt pt] (.Tuple [a,b] k2 pt2) pos) (tPar i j ta):=by
 intro jd s σ H D I h;rw[exec_Assign_arm];refine A2 (W3 ?_);rw[hs];refine A2 (A9 ?_);rw[jy (by decide)];refine A2 (Tuple_ (thn (ha _ jd s σ H _ I h) λus s1 ⟨vs,H1,I1,r1,q1⟩=>?_));obtain⟨v,w,e1,q1⟩:=q1;subst e1
 obtain⟨u1,u2,rfl,rv,rw'⟩:∃u1 u2,us=[u1,u2]/\RelV v u1/\RelV w u2:=by
  cases r1 with
  | cons p q =>
   cases q with
   | cons p' q' =>
    cases q';exact⟨_,_,rfl,p,p'⟩
 refine R8 ?_ (by show 2<=B8;decide);have I2:Inv X jd σ H1 { s1 with heap:=s1.heap.push { cls:=.type "tuple",data:=.seq [u1,u2].toArray } }:=I1.kept (t':=s1.toks) λb o e=>C1 _ e;rw[hw];refine A2 (A9 ?_);show A6 (A8 X.prog X.w) X.A (do rule "assign.swapped-stores";let items ← unpackItems (.ref s1.heap.objs.size) 2 none;CG [λv=>e7 X.env y v,λv=>e7 X.env x v] items.reverse;pure Flow.next) _ _ _;refine A2 (V4 (A2 (unpackItems_tuple (items:=#[u1,u2]) (I.ok.hd hc) (IsTup.new s1.heap _) λh' hx'=>?_)));have I3:=I2.kept (h':=h') (t':=s1.toks) λb o e=>hx' b o (F3 (C4 e)) e;show A6 _ _ (CG [λv=>e7 X.env y v,λv=>e7 X.env x v] [u2,u1]>>=λ_=>pure Flow.next) _ _ _;refine A2 (BD (CD (Ah I3 hN hj (.inl hy) rw' (λs2 I4=>?_) (.inr hy))));refine BD (CD (Ah I4 hN hi (.inl hx) rv (λs3 I5=>assignInOrder_nil (A9 ?_)) (.inr hx)));rw[List.set_comm _ _ (Ne.symm hij)] at I5;exact⟨_,H1,I5,q1⟩
def tAug (i:Nat)(te:TE)(ti:TIp):TS:=λD σ H=>∃x,σ[i]?=some (some x)/\te σ H λy H1=>ti x y H1 λz H2=>D.nx (σ.set i (some z)) H2
theorem ps_aug (hN:X.N.Nodup)(hi:X.N[i]?=some x)(hx:Loc X.env.scope x)(he:PE X e te)(ho:PIp X op ti)(hf:X.fn x=true\/X.env.scope.names.lookup x=some .local:=by first|exact .inl rfl|exact .inr rfl|assumption) :
   PS X (.AugAssign (.Name x pos') op e pos) (tAug i te ti):=by
 intro jd s σ H D I h;obtain⟨v,e1,h⟩:=h;obtain⟨m,hn,hl⟩:=I.loc;have vis:Vis X.env.scope x:=by rcases hx with k|k;exact .inl k;exact .inr (.inl k)
 obtain⟨u,r,l⟩:=hl i x v hi e1 vis;refine wpAny_AugAssign_Name ?_
 have go:A6 (A8 X.prog X.w) X.A (eval e X.env) (λw s₂=>A6 (A8 X.prog X.w) X.A (inplaceOp op u w) (λr s₃=>A6 (A8 X.prog X.w) X.A (storeName X.env x r) (λ_=>SP X jd D .next) X.xe s₃) X.xe s₂) X.xe s:=by
  refine thn (he jd s σ H _ I h) λw s1 ⟨y,H1,I1,r1,q1⟩=>?_;refine thn (ho jd s1 σ H1 v y u w _ I1 r r1 q1) λz s2 ⟨zv,H2,I2,r2,q2⟩=>?_;exact Ah I2 hN hi hx r2 (λs3 I3=>⟨_,H2,I3,q2⟩) hf
 rcases l with⟨hk,hm⟩|⟨hk,c,hc,hcell⟩
 ·exact wpAny_loadName_local I.ok.kind hk hn hm go
 ·rcases hk with hk|hk
  ·exact wpAny_loadName_cell I.ok.kind hk hc hcell go
  ·rcases hx with k|k
   ·have:X.env.scope.names.lookup x=some .free:=hk;rw[k] at this;cases this
   ·have:X.env.scope.names.lookup x=some .free:=hk;rw[k] at this;cases this
end
section
variable {X:Cx}{pos:Pos}
def tWhile (c:TT)(tb:TS):TS:=λD σ H=>∃W:Nat->St->Hp->Prop,(∃m,W m σ H)/\∀m σ H,W m σ H->
 c σ H λb H1=>if b=true then ∃N:St->Hp->Prop,(∀σ' H',N σ' H'->∃m',m'<m/\W m' σ' H')/\tb { D with nx:=N,ct:=N,bk:=D.nx } σ H1 else D.nx σ H1
theorem NU (hp:PassesOwn (A8 X.prog X.w) X.A X.env X.xe)(hc:PT X c tc)(hb:PSs X body tb):PS X (.While c body [] pos) (tWhile tc tb):=by
 intro jd s σ H D I h;obtain⟨W,⟨m0,w0⟩,turn⟩:=h;refine wpAny_While (codeAny_whileLoop (λn s'=>∃σ' H',Inv X jd σ' H' s'/\W n σ' H') ?_ m0 ⟨σ,H,I,w0⟩);rintro n s1 ⟨σ1,H1,I1,w1⟩;refine AE hp (thn (hc jd s1 σ1 H1 _ I1 (turn n σ1 H1 w1)) λb s2 ⟨H2,I2,q2⟩=>?_);cases b with
 | true =>
  obtain⟨N,hN,q2⟩:=q2;rw[jw rfl];refine AE hp (thn (hb jd s2 σ1 H2 _ I2 q2) λf s3 q3=>?_);cases f with
  | next =>
   obtain⟨σ3,H3,I3,n3⟩:=q3;obtain⟨m',hm,w3⟩:=hN σ3 H3 n3;exact⟨m',hm,σ3,H3,I3,w3⟩
  | cont =>
   obtain⟨σ3,H3,I3,n3⟩:=q3;obtain⟨m',hm,w3⟩:=hN σ3 H3 n3;exact⟨m',hm,σ3,H3,I3,w3⟩
  |brk=>exact q3
  |ret v=>exact q3
 | false =>
  rw[jy Q9];exact DX ⟨σ1,H2,I2,q2⟩
end
structure It where
 go:Nat->Hp->Prop
 yld:Nat->Hp->V->Hp->Prop
 stop:Nat->Hp->Prop
def FpOk (X:Cx)(jd:List (A0×Obj))(H:Hp)(b:A0):Prop:=
 H b=none/\b≠X.env.locals/\b∉X.fs/\(b∈X.ex\/X.s₀.heap.objs.size<=b)/\(∀x c,X.env.cells.lookup x=some c->c≠b)/\∀p∈X.pn++jd,p.1≠b
theorem Inv.fpOk (I:Inv X jd σ H s)(hb:s.heap.objs.size<=b)(hn:H' b=none):FpOk X jd H' b:=by
 refine⟨hn,i7 (L0 I.lt hb),I.nofs hb,.inr (G8 I.sz hb),λx c e z=>?_,λp hp z=>?_⟩
 ·obtain⟨v,q⟩:=I.cell x c e;exact absurd (L0 q.lt (by rw[z];exact hb)) (W8 _)
 ·exact absurd (L0 (C4 (I.pin p hp).1) (by rw[z];exact hb)) (W8 _)
structure Turn (P:D3)(w:C3)(K:A7)(tg:Expr)(J:It)(fp:List A0)(it:A0)(tn:Nat->B5->Prop):Prop where
 mem:it∈fp
 obj:∀i h,tn i h->∀b∈fp,∃o,h.get? b=some o/\∀v,o.data≠.cell v
 keep:∀i h h',tn i h->(∀b∈fp,∀o,h.get? b=some o->h'.get? b=some o)->tn i h'
 item:∀(X:Cx),X.prog=P->X.w=w->X.K=K->X.calm=true->∀(i:Nat) (jd:List (A0×Obj)) (s:A5) (σ:St) (H:Hp) (E:A3->A5->Prop),Inv X jd σ H s->(∀b∈fp,FpOk X jd H b)->tn i s.heap->J.go i H->
   A6 (A8 P w) X.A (pyNext (.ref it)) (λr s1=>∃u,r=some u/\
     A6 (A8 P w) X.A (w9 tg (.ref it) u) (λ_ s2=>∃x H',Inv X jd σ H' s2/\RelV x u/\J.yld i H x H'/\tn (i+1) s2.heap/\∀b∈fp,H' b=none) E s1) E s
 done:∀(X:Cx),X.prog=P->X.w=w->X.K=K->X.calm=true->∀(i:Nat) (jd:List (A0×Obj)) (s:A5) (σ:St) (H:Hp) (E:A3->A5->Prop),Inv X jd σ H s->(∀b∈fp,FpOk X jd H b)->tn i s.heap->J.stop i H->
   A6 (A8 P w) X.A (pyNext (.ref it)) (λr s1=>r=none/\Inv X jd σ H s1) E s
 self:∀(A:E8) (i:Nat) (s:A5) (Q:A3->A5->Prop) (E:A3->A5->Prop),tn i s.heap->Q (.ref it) s->A6 (A8 P w) A (pyIter (.ref it)) Q E s
abbrev TI:=St->Hp->(It->Hp->Prop)->Prop
def PIE (X:Cx)(jd:List (A0×Obj))(σ:St)(tg:Expr)(R:It->Hp->Prop)(itv:A3)(s2:A5):Prop:=
 ∃(it:A0) (fp:List A0) (tn:Nat->B5->Prop) (J:It) (H':Hp),itv=.ref it/\Inv X jd σ H' s2/\Turn X.prog X.w X.K tg J fp it tn/\tn 0 s2.heap/\(∀b∈fp,FpOk X jd H' b)/\R J H'
def PI (X:Cx)(tg iter:Expr)(wi:TI):Prop:=
 ∀ (jd : List (A0 × Obj)) (s : A5) (σ : St) (H : Hp) (R : It -> Hp -> Prop), Inv X jd σ H s -> wi σ H R ->
   A6 (A8 X.prog X.w) X.A (eval iter X.env) (λv s1=>A6 (A8 X.prog X.w) X.A (pyIter v) (PIE X jd σ tg R) X.xe s1) X.xe s
theorem Dg (ho:s.heap.get? it=some o)(hc:o.cls=.type n)(hd:o.data=.fields vs)
   (hn:["enumerate","zip","dict_itemiterator","dict_reverseitemiterator","odict_iterator","itertools.zip_longest","itertools.pairwise"].contains n=false) (hQ:Q () s):A6 M A (w9 tg (.ref it) u) Q E s:=by
 unfold w9
 cases tg <;> first
   |exact A9 hQ
   |(cases u <;> first
       |exact A9 hQ
       | (refine A2 (wpAny_load ho ?_)
          rw[hc,hd];show A6 M A (if(["enumerate","zip","dict_itemiterator","dict_reverseitemiterator","odict_iterator","itertools.zip_longest","itertools.pairwise"].contains n&&vs[0]? == some (rawInt _))=true then _ else _) Q E s;rw[jy (by intro h;rw[hn,BE] at h;cases h)]
          exact A9 hQ))
def Itl (K:A7)(a:A0):It:=
 ⟨λi H=>∃xs x,SqL K H a xs/\xs[i]?=some x,λi H x H'=>H'=H/\∀xs,SqL K H a xs->xs[i]?=some x,λi H=>∃xs,SqL K H a xs/\xs.length<=i⟩
def Itt (K:A7)(a:A0):It:=
 ⟨λi H=>∃xs x,SqT K H a xs/\xs[i]?=some x,λi H x H'=>H'=H/\∀xs,SqT K H a xs->xs[i]?=some x,λi H=>∃xs,SqT K H a xs/\xs.length<=i⟩
def Itr (lo:Int)(n:Nat):It:=⟨λi _=>i<n,λi H x H'=>H'=H/\x=.int (lo+i),λi _=>n<=i⟩
theorem NV {K:A7}(a it:A0):Turn P w K tg (Itl K a) [it] it (λi h=>h.IsListIter it a i) where
 mem:=by simp
 obj:=λi h st b hb=>by
  have e:b=it:=by simpa using hb
  subst e;obtain⟨o,e,c,d⟩:=st;exact⟨o,e,λv z=>by rw[d] at z;cases z⟩
 keep:=λi h h' st k=>st.at λo e=>k it (by simp) o e
 item:=by
  intro X hP hw hK hc i jd s σ H E I hf st hg;subst hP hw hK;obtain⟨xs,x,hq,hx⟩:=hg;obtain⟨jh,rv,p,hz⟩:=I.list hq;obtain⟨u,hu,ru⟩:=rv.get hx;obtain⟨f0,f1,f2,f3,f4,f5⟩:=hf it (by simp);refine wpAny_pyNext_list_item st p.isList (x:=u) (by simpa using hu) λh' st' sb=>?_;have I1:Inv X jd σ H { s with heap:=h' }:=I.turned (t':=s.toks) (λb o hb e=>(sb.2 b hb).trans e) f0 f1 f3 f4 f5;obtain⟨o,e,c,d⟩:=id st';exact⟨u,rfl,Dg (s:={ s with heap:=h' }) e c d (by decide) ⟨x,H,I1,ru,⟨rfl,λys hy=>by rw[I.list_inj hy hq];exact hx⟩,st',λb hb=>(hf b hb).1⟩⟩
 done:=by
  intro X hP hw hK hc i jd s σ H E I hf st hg;subst hP hw hK;obtain⟨xs,hq,hx⟩:=hg;obtain⟨jh,rv,p,hz⟩:=I.list hq;obtain⟨f0,f1,f2,f3,f4,f5⟩:=hf it (by simp);have hl:=rv.length;exact wpAny_pyNext_list_end (I.ok.hd hc) st p.isList (by simp;omega) λh' eb=>⟨rfl,I.turned (t':=s.toks) (λb o hb e=>eb b o hb e) f0 f1 f3 f4 f5⟩
 self:=λ_ _ _ _ _ st h=>wpAny_pyIter_listiter st h
theorem NW {K:A7}(a it:A0):Turn P w K tg (Itt K a) [it] it (λi h=>h.IsTupleIter it a i) where
 mem:=by simp
 obj:=λi h st b hb=>by
  have e:b=it:=by simpa using hb
  subst e;obtain⟨o,e,c,d⟩:=st;exact⟨o,e,λv z=>by rw[d] at z;cases z⟩
 keep:=λi h h' st k=>st.at λo e=>k it (by simp) o e
 item:=by
  intro X hP hw hK hc i jd s σ H E I hf st hg;subst hP hw hK;obtain⟨xs,x,hq,hx⟩:=hg;obtain⟨jh,rv,p,hz⟩:=I.tuple hq;obtain⟨u,hu,ru⟩:=rv.get hx;obtain⟨f0,f1,f2,f3,f4,f5⟩:=hf it (by simp);refine wpAny_pyNext_tuple_item st (show s.heap.IsTuple a jh.toArray from p) (x:=u) (by simpa using hu) λh' st' sb=>?_;have I1:Inv X jd σ H { s with heap:=h' }:=I.turned (t':=s.toks) (λb o hb e=>(sb.2 b hb).trans e) f0 f1 f3 f4 f5;obtain⟨o,e,c,d⟩:=id st';exact⟨u,rfl,Dg (s:={ s with heap:=h' }) e c d (by decide) ⟨x,H,I1,ru,⟨rfl,λys hy=>by rw[I.tuple_inj hy hq];exact hx⟩,st',λb hb=>(hf b hb).1⟩⟩
 done:=by
  intro X hP hw hK hc i jd s σ H E I hf st hg;subst hP hw hK;obtain⟨xs,hq,hx⟩:=hg;obtain⟨jh,rv,p,hz⟩:=I.tuple hq;obtain⟨f0,f1,f2,f3,f4,f5⟩:=hf it (by simp);have hl:=rv.length;exact wpAny_pyNext_tuple_end (I.ok.hd hc) st (show s.heap.IsTuple a jh.toArray from p) (by simp;omega) λh' eb=>⟨rfl,I.turned (t':=s.toks) (λb o hb e=>eb b o hb e) f0 f1 f3 f4 f5⟩
 self:=λ_ _ _ _ _ st h=>wpAny_pyIter_tupleiter st h
theorem NX {K:A7}(it:A0)(lo:Int)(n:Nat):Turn P w K tg (Itr lo n) [it] it (λi h=>IsRangeIter h it (lo+(i:Nat)*1) ((n:Int)-(i:Nat)) 1) where
 mem:=by simp
 obj:=fun i h st b hb=>by
  have e:b=it:=by simpa using hb
  subst e
  exact⟨_,st,λv z=>by
   have z':Data.fields _=Data.cell v:=z
   cases z'⟩
 keep:=λi h h' st k=>k it (by simp) _ st
 item:=by
  intro X hP hw hK hc i jd s σ H E I hf st hg;subst hP hw hK;obtain⟨f0,f1,f2,f3,f4,f5⟩:=hf it (by simp);have W:=Walks.range (prog:=X.prog) (w:=X.w) (I.ok.hd hc) it lo 1 n;refine W.item i s _ _ hg st λv h' tk hv st' kk=>?_;obtain⟨t,rfl⟩:=hv;have I1:Inv X jd σ H { s with heap:=h',toks:=tk }:=I.turned (λb o hb e=>kk b o (by simpa using hb) e) f0 f1 f3 f4 f5;refine⟨_,rfl,Dg (s:={ s with heap:=h',toks:=tk }) (n:="range_iterator") st' rfl rfl (by decide) ⟨.int (lo+i),H,I1,⟨t,?_⟩,⟨rfl,rfl⟩,st',λb hb=>(hf b hb).1⟩⟩;rw[Int.mul_one]
 done:=by
  intro X hP hw hK hc i jd s σ H E I hf st hg;subst hP hw hK;obtain⟨f0,f1,f2,f3,f4,f5⟩:=hf it (by simp);exact wpAny_pyNext_range_end (I.ok.hd hc) st (by have:n<=i:=hg;omega) λh' eb=>⟨rfl,I.turned (t':=s.toks) (λb o hb e=>eb b o hb e) f0 f1 f3 f4 f5⟩
 self:=λ_ _ _ _ _ st h=>FK st h
section
variable {X:Cx}{tg:Expr}
def iList (K:A7)(tl:TE):TI:=λσ H R=>tl σ H λx H1=>∃a,x=.ref a/\(∃xs,SqL K H1 a xs)/\R (Itl K a) H1
def iTup (K:A7)(tl:TE):TI:=λσ H R=>tl σ H λx H1=>∃a,x=.ref a/\(∃xs,SqT K H1 a xs)/\R (Itt K a) H1
theorem Jg (hl:PE X l tl):PI X tg l (iList X.K tl):=by
 intro jd s σ H R I h;refine thn (hl jd s σ H _ I h) λv s1 ⟨x,H1,I1,r1,q1⟩=>?_;obtain⟨a,e,⟨xs,hq⟩,q⟩:=q1;subst e;cases r1;obtain⟨jh,rv,p,hz⟩:=I1.list hq;refine DV p.isList ?_;refine⟨s1.heap.objs.size,[s1.heap.objs.size],_,_,H1,rfl,I1.kept (t':=s1.toks) λb o e=>C1 _ e,NV a _,⟨_,F4 _ rfl,rfl,rfl⟩,λb hb=>?_,q⟩;have e:b=s1.heap.objs.size:=by simpa using hb
 subst e;exact I1.fpOk (B7 _) (I1.hok.fresh (B7 _))
theorem pi_tup (hl:PE X l tl):PI X tg l (iTup X.K tl):=by
 intro jd s σ H R I h;refine thn (hl jd s σ H _ I h) λv s1 ⟨x,H1,I1,r1,q1⟩=>?_;obtain⟨a,e,⟨xs,hq⟩,q⟩:=q1;subst e;cases r1;obtain⟨jh,rv,p,hz⟩:=I1.tuple hq;refine Cz (show s1.heap.IsTuple a jh.toArray from p) ?_;refine⟨s1.heap.objs.size,[s1.heap.objs.size],_,_,H1,rfl,I1.kept (t':=s1.toks) λb o e=>C1 _ e,NW a _,⟨_,F4 _ rfl,rfl,rfl⟩,λb hb=>?_,q⟩;have e:b=s1.heap.objs.size:=by simpa using hb
 subst e;exact I1.fpOk (B7 _) (I1.hok.fresh (B7 _))
theorem Jh {lo hi:Int}(I:Inv X jd σ H s)(h1:-(2 ^ 62)<=lo)(h2:lo<2 ^ 62)(h3:-(2 ^ 62)<=hi)(h4:hi<2 ^ 62)
   (q:R (Itr lo (hi-lo).toNat) H):A6 (A8 X.prog X.w) X.A (pyIter (.ref s.heap.objs.size)) (PIE X jd σ tg R) E { s with heap:=s.heap.push { cls:=.type "range",data:=.fields #[.int lo t,.int hi u,.int 1 v] },toks:=tk }:=by
 refine wpAny_pyIter_range (IsRange.new ..) (small_one h1 h2 h3 h4) ?_;have I1:Inv X jd σ H { s with heap:=s.heap.push { cls:=.type "range",data:=.fields #[.int lo t,.int hi u,.int 1 v] },toks:=tk }:=I.kept λb o e=>C1 _ e
 refine⟨(s.heap.push { cls:=.type "range",data:=.fields #[.int lo t,.int hi u,.int 1 v] }).objs.size,[(s.heap.push { cls:=.type "range",data:=.fields #[.int lo t,.int hi u,.int 1 v] }).objs.size],_,_,H,rfl,
  I1.kept (t':=tk) λb o e=>C1 _ e,NX _ lo (hi-lo).toNat,?_,λb hb=>?_,q⟩
 ·have e1:lo+((0:Nat):Int)*1=lo:=by simp
  have e2:(((hi-lo).toNat:Nat):Int)-((0:Nat):Int)=F_ lo hi 1:=by rw[rangeSize_one];split <;> omega
  show IsRangeIter _ _ (lo+((0:Nat):Int)*1) ((((hi-lo).toNat:Nat):Int)-((0:Nat):Int)) 1;rw[e1,e2];exact F4 _ rfl
 ·have e:b=(s.heap.push { cls:=.type "range",data:=.fields #[.int lo t,.int hi u,.int 1 v] }).objs.size:=by simpa using hb
  subst e;exact I1.fpOk (B7 _) (I1.hok.fresh (B7 _))
def iRng1 (ta:TA):TI:=λσ H R=>ta σ H λvs H1=>∃j:Int,vs=[.int j]/\-(2 ^ 62)<=j/\j<2 ^ 62/\R (Itr 0 j.toNat) H1
def iRng2 (ta:TA):TI:=λσ H R=>ta σ H λvs H1=>∃i j:Int,vs=[.int i,.int j]/\(-(2 ^ 62)<=i/\i<2 ^ 62/\-(2 ^ 62)<=j/\j<2 ^ 62)/\R (Itr i (j-i).toNat) H1
theorem NY (hg:Gl X "range")(hm:X.mg "range"=none)(ha:PA X [a] ta)(hs:E2 [a] X.env=[(false,eval a X.env)]:=by rfl):PI X tg (.Call (.Name "range" p) [a] [] pos) (iRng1 ta):=by
 intro jd s σ H R I h;refine Call_ (U5 I hg hm boot_range (Y8 (thn (ha pos jd s σ H _ I h) λus s1 ⟨vs,H1,I1,r1,q1⟩=>?_) hs rfl));obtain⟨j,e,q1,q2,q⟩:=q1;subst e;cases r1 with
 | cons r rr =>
  cases rr;obtain⟨t,rfl⟩:=r;exact call_range_1 (Jh I1 (by omega) (by omega) q1 q2 (by simpa using q))
theorem NZ {a b:Expr}{ta:TA}{p pos:Pos}(hg:Gl X "range")(hm:X.mg "range"=none)(ha:PA X [a,b] ta)(hs:E2 [a,b] X.env=[(false,eval a X.env),(false,eval b X.env)]:=by rfl)(hs2:E2 [b] X.env=[(false,eval b X.env)]:=by rfl) :
   PI X tg (.Call (.Name "range" p) [a,b] [] pos) (iRng2 ta):=by
 intro jd s σ H R I h;refine Call_ (U5 I hg hm boot_range (Y8 (thn (ha pos jd s σ H _ I h) λus s1 ⟨vs,H1,I1,r1,q1⟩=>?_) (by rw[hs,hs2]) (by rw[hs2];rfl)));obtain⟨i,j,e,⟨q1,q2,q3,q4⟩,q⟩:=q1;subst e;cases r1 with
 | cons r rr =>
  cases rr with
  | cons r' rr =>
   cases rr;obtain⟨t,rfl⟩:=r;obtain⟨t',rfl⟩:=r';exact call_range_2 (Jh I1 q1 q2 q3 q4 q)
def tFor (wi:TI)(g:TG)(tb:TS):TS:=λD σ H=>wi σ H λJ H1=>∃W:Nat->Nat->St->Hp->Prop,(∃m,W 0 m σ H1)/\∀i m σ H,W i m σ H->
 (J.stop i H/\D.nx σ H)\/(J.go i H/\∃N:St->Hp->Prop,(∀σ' H',N σ' H'->∃m',m'<m/\W (i+1) m' σ' H')/\∀x H',J.yld i H x H'->g x σ H' λσ2 H2=>tb { D with nx:=N,ct:=N,bk:=D.nx } σ2 H2)
def BN (fp:List A0)(h:B5):List (A0×Obj):=fp.filterMap λb=>(h.get? b).map λo=>(b,o)
theorem Gi (hb:b∈fp)(e:h.get? b=some o):(b,o)∈BN fp h:=List.mem_filterMap.mpr ⟨b,hb,by rw[e];rfl⟩
theorem N_ (hp:p∈BN fp h):p.1∈fp/\h.get? p.1=some p.2:=by
 obtain⟨b,hb,e⟩:=List.mem_filterMap.mp hp;cases q:h.get? b with
 |none=>rw[q] at e;cases e
 | some o =>
  rw[q] at e;have e':(b,o)=p:=E9 e;subst e';exact⟨hb,q⟩
theorem Inv.pinned (I:Inv X jd σ H s)(hf:∀b∈fp,FpOk X jd H b)(ho:∀b∈fp,∃o,s.heap.get? b=some o/\∀v,o.data≠.cell v):Inv X (jd++BN fp s.heap) σ H s:=
 I.pins_of fun p hp=>(E5.mp hp).elim (fun z=>I.pin p (h9 _ z)) fun z=>by
  obtain⟨hb,e⟩:=N_ z;obtain⟨f0,f1,f2,_⟩:=hf p.1 hb;obtain⟨o,e',d⟩:=ho p.1 hb;rw[e] at e';cases e';exact⟨e,f0,f1,f2,d⟩
theorem Inv.unpinned (I:Inv X (jd++pl) σ H s):Inv X jd σ H s:=I.pins_of λp hp=>I.pin p (h9 _ (N8 _ hp))
theorem Ji (hp:PassesOwn (A8 X.prog X.w) X.A X.env X.xe)(hc:X.calm=true)(hi:PI X tg iter wi)(hg:PG X tg g)(hb:PSs X body tb)
   (hs:∀x,N6 iter X.env x=pure x:=by intro _;rfl):PS X (.For tg iter body [] pos) (tFor wi g tb):=by
 intro jd s σ H D I h;refine wpAny_For (thn (hi jd s σ H _ I h) λv s1 h1=>thn h1 λitv s2 h2=>?_) hs;obtain⟨it,fp,tn,J,H2,e,I2,T,st2,f2,W,⟨m0,w0⟩,turn⟩:=h2;subst e
 -- what stays true of the iterator's objects through the loop
 have stat:∀{H':Hp},(∀b∈fp,H' b=none)->∀b∈fp,FpOk X jd H' b:=λhn b hb=>⟨hn b hb,(f2 b hb).2⟩;refine codeAny_forLoop_any (λn s'=>∃i σ' H',Inv X jd σ' H' s'/\tn i s'.heap/\(∀b∈fp,H' b=none)/\W i n σ' H') ?_ m0 ⟨0,σ,H2,I2,st2,λb hb=>(f2 b hb).1,w0⟩;rintro n s3 ⟨i,σ3,H3,I3,st3,fr3,w3⟩;rcases turn i n σ3 H3 w3 with⟨stop,qn⟩|⟨go,N,hN,step⟩
 ·refine AE hp (thn (T.done X rfl rfl rfl hc i jd s3 σ3 H3 X.xe I3 (stat fr3) st3 stop) λr s4 ⟨hr,I4⟩=>?_);subst hr;exact DX ⟨σ3,H3,I4,qn⟩
 ·refine AE hp (thn (T.item X rfl rfl rfl hc i jd s3 σ3 H3 X.xe I3 (stat fr3) st3 go) λr s4 ⟨u,hr,h4⟩=>?_);subst hr;refine AE hp (thn h4 λ_ s5 ⟨x,H5,I5,r5,y5,st5,fr5⟩=>?_);have I5':=I5.pinned (stat fr5) (T.obj _ _ st5);refine AE hp (thn (hg _ s5 σ3 H5 x u _ I5' r5 (step x H5 y5)) λ_ s6 ⟨σ6,H6,I6,q6⟩=>?_);refine AE hp (thn (hb _ s6 σ6 H6 _ I6 q6) λf s7 q7=>?_)
  have again:∀{σ7:St} {H7:Hp},Inv X (jd++BN fp s5.heap) σ7 H7 s7->N σ7 H7->∃m,m<n/\∃i σ' H',Inv X jd σ' H' s7/\tn i s7.heap/\(∀b∈fp,H' b=none)/\W i m σ' H':=λ{σ7 H7} I7 n7=>by
   obtain⟨m',hm,w7⟩:=hN σ7 H7 n7;refine⟨m',hm,i+1,σ7,H7,I7.unpinned,T.keep _ _ _ st5 λb hb o e=>(I7.pin (b,o) (h9 _ (h9 _ (Gi hb e)))).1,λb hb=>?_,w7⟩;obtain⟨o,e,d⟩:=T.obj _ _ st5 b hb;exact(I7.pin (b,o) (h9 _ (h9 _ (Gi hb e)))).2.1
  cases f with
  |next=>obtain⟨σ7,H7,I7,n7⟩:=q7;exact again I7 n7
  |cont=>obtain⟨σ7,H7,I7,n7⟩:=q7;exact again I7 n7
  |brk=>obtain⟨σ7,H7,I7,q7⟩:=q7;exact⟨σ7,H7,I7.unpinned,q7⟩
  |ret v=>obtain⟨x7,σ7,H7,I7,r7,q7⟩:=q7;exact⟨x7,σ7,H7,I7.unpinned,r7,q7⟩
end
theorem Oa {K:A7}{a:A0}{xs:List V}{g:TG}{tb:TS}{D:Ends}{σ:St}{H:Hp}(Pv:Nat->St->Hp->Prop)(h0:Pv 0 σ H)(hl:∀i σ H,i<=xs.length->Pv i σ H->SqL K H a xs)
   (hs:∀i x σ H,xs[i]?=some x->Pv i σ H->g x σ H λσ2 H2=>tb { D with nx:=Pv (i+1),ct:=Pv (i+1),bk:=D.nx } σ2 H2) (hd:∀σ H,Pv xs.length σ H->D.nx σ H) :
   ∃ W : Nat -> Nat -> St -> Hp -> Prop, (∃ m, W 0 m σ H) /\ ∀ i m σ H, W i m σ H ->
     ((Itl K a).stop i H/\D.nx σ H)\/((Itl K a).go i H/\∃N:St->Hp->Prop,(∀σ' H',N σ' H'->∃m',m'<m/\W (i+1) m' σ' H')/\∀x H',(Itl K a).yld i H x H'->g x σ H' λσ2 H2=>tb { D with nx:=N,ct:=N,bk:=D.nx } σ2 H2):=by
 refine⟨λi m σ H=>m=xs.length-i/\i<=xs.length/\Pv i σ H,⟨xs.length,by simp,M5 _,h0⟩,?_⟩;rintro i m σ H ⟨rfl,hi,p⟩;have q:=hl i σ H hi p
 by_cases hlt:i<xs.length
 ·refine .inr ⟨⟨xs,xs[i],q,by simp[hlt]⟩,Pv (i+1),λσ' H' p'=>⟨xs.length-(i+1),by omega,rfl,hlt,p'⟩,λx H' y=>?_⟩;obtain⟨e,y⟩:=y;subst e;exact hs i x σ _ (y xs q) p
 ·have e:i=xs.length:=by omega
  subst e;exact .inl ⟨⟨xs,q,B7 _⟩,hd σ H p⟩
abbrev R2:=V->V->Hp->VK->Prop
def OpR (X:Cx)(f:A3->A3->Sem A3)(r:R2):Prop:=
 ∀ (jd : List (A0 × Obj)) (s : A5) (σ : St) (H : Hp) (x y : V) (v u : A3) (Q : VK), Inv X jd σ H s -> RelV x v -> RelV y u -> r x y H Q ->
   A6 (A8 X.prog X.w) X.A (f v u) (EP X jd σ Q) X.xe s
def UnR (X:Cx)(f:A3->Sem A3)(r:V->Hp->VK->Prop):Prop:=
 ∀ (jd : List (A0 × Obj)) (s : A5) (σ : St) (H : Hp) (x : V) (v : A3) (Q : VK), Inv X jd σ H s -> RelV x v -> r x H Q ->
   A6 (A8 X.prog X.w) X.A (f v) (EP X jd σ Q) X.xe s
def M6 (X:Cx)(f:A3)(r:List V->Hp->VK->Prop):Prop:=
 ∀ (jd : List (A0 × Obj)) (s : A5) (σ : St) (H : Hp) (xs : List V) (us : List A3) (Q : VK), Inv X jd σ H s -> Vals xs us -> r xs H Q ->
   A6 (A8 X.prog X.w) X.A (call f us) (EP X jd σ Q) X.xe s
def TruR (X:Cx)(r:V->Hp->(Bool->Hp->Prop)->Prop):Prop:=
 ∀ (jd : List (A0 × Obj)) (s : A5) (σ : St) (H : Hp) (x : V) (v : A3) (Q : Bool -> Hp -> Prop), Inv X jd σ H s -> RelV x v -> r x H Q ->
   A6 (A8 X.prog X.w) X.A (truthy v) (TP X jd σ Q) X.xe s
def tOp (r:R2)(ta tb:TE):TE:=λσ H Q=>ta σ H λx H1=>tb σ H1 λy H2=>r x y H2 Q
def tUn (r:V->Hp->VK->Prop)(ta:TE):TE:=λσ H Q=>ta σ H λx H1=>r x H1 Q
def rI (C:Int->Int->Prop)(g:Int->Int->V):R2:=λx y H Q=>∃i j,x=.int i/\y=.int j/\C i j/\Q (g i j) H
def rI0 (g:Int->Int->V):R2:=λx y H Q=>∃i j,x=.int i/\y=.int j/\Q (g i j) H
def rU (g:Int->V):V->Hp->VK->Prop:=λx H Q=>∃i,x=.int i/\Q (g i) H
section
variable {X:Cx}{a b c:Expr}{ta tb tc:TE}{pos:Pos}
theorem binT (ha:PE X a ta)(hb:PE X b tb){R:V->V->Hp->Prop}(I:Inv X jd σ H s)
   (h:ta σ H λx H1=>tb σ H1 λy H2=>R x y H2) {f:A3->A3->Sem A3}
   (hf:∀v u s2 x y H2,Inv X jd σ H2 s2->RelV x v->RelV y u->R x y H2->A6 (A8 X.prog X.w) X.A (f v u) Q X.xe s2) :
   A6 (A8 X.prog X.w) X.A (eval a X.env) (λv s₁=>A6 (A8 X.prog X.w) X.A (eval b X.env) (λu s₂=>A6 (A8 X.prog X.w) X.A (f v u) Q X.xe s₂) X.xe s₁) X.xe s:=by
 refine thn (ha jd s σ H _ I h) λv s1 ⟨x,H1,I1,r1,q1⟩=>?_;refine thn (hb jd s1 σ H1 _ I1 q1) λu s2 ⟨y,H2,I2,r2,q2⟩=>?_;exact hf v u s2 x y H2 I2 r1 r2 q2
theorem J1 (ho:OpR X (U2 op) r)(ha:PE X a ta)(hb:PE X b tb):PE X (.BinOp a op b pos) (tOp r ta tb):=by
 intro jd s σ H Q I h;exact wpAny_BinOp (binT ha hb I h λv u s2 x y H2 I2 rx ry q=>ho jd s2 σ H2 x y v u Q I2 rx ry q)
theorem pe_un (ho:UnR X (unaryOp op) r)(ha:PE X a ta):PE X (.UnaryOp op a pos) (tUn r ta):=by
 intro jd s σ H Q I h;exact UnaryOp_ (thn (ha jd s σ H _ I h) λv s1 ⟨x,H1,I1,r1,q1⟩=>ho jd s1 σ H1 x v Q I1 r1 q1)
theorem opI {g:Int->Int->Int}
   (rule:∀(i j:Int) (t u:Tok) (s:A5) (Q:A3->A5->Prop) (E:A3->A5->Prop),C i j->Q (.int (g i j) s.toks) { s with toks:=s.toks+1 }->A6 (A8 X.prog X.w) X.A (f (.int i t) (.int j u)) Q E s) :
   OpR X f (rI C λi j=>.int (g i j)):=by
 intro jd s σ H x y v u Q I rx ry h;obtain⟨i,j,rfl,rfl,hc,q⟩:=h;obtain⟨t,rfl⟩:=rx;obtain⟨t',rfl⟩:=ry;exact rule i j t t' s _ _ hc ⟨.int (g i j),H,I.tok _,⟨_,rfl⟩,q⟩
theorem opI0 {g:Int->Int->Int}
   (rule:∀(i j:Int) (t u:Tok) (s:A5) (Q:A3->A5->Prop) (E:A3->A5->Prop),Q (.int (g i j) s.toks) { s with toks:=s.toks+1 }->A6 (A8 X.prog X.w) X.A (f (.int i t) (.int j u)) Q E s) :
   OpR X f (rI0 λi j=>.int (g i j)):=by
 intro jd s σ H x y v u Q I rx ry h;obtain⟨i,j,rfl,rfl,q⟩:=h;obtain⟨t,rfl⟩:=rx;obtain⟨t',rfl⟩:=ry;exact rule i j t t' s _ _ ⟨.int (g i j),H,I.tok _,⟨_,rfl⟩,q⟩
theorem opB0 {g:Int->Int->Bool}
   (rule:∀(i j:Int) (t u:Tok) (s:A5) (Q:A3->A5->Prop) (E:A3->A5->Prop),Q (.bool (g i j)) s->A6 (A8 X.prog X.w) X.A (f (.int i t) (.int j u)) Q E s) :
   OpR X f (rI0 λi j=>.bl (g i j)):=by
 intro jd s σ H x y v u Q I rx ry h;obtain⟨i,j,rfl,rfl,q⟩:=h;obtain⟨t,rfl⟩:=rx;obtain⟨t',rfl⟩:=ry;exact rule i j t t' s _ _ ⟨.bl (g i j),H,I,rfl,q⟩
def CDiv (i j:Int):Prop:=0<j/\j<1073741824
def CPow (i j:Int):Prop:=0<=j/\j<=1000000/\i.natAbs<2 ^ 64
def CMul (i j:Int):Prop:=(-(2 ^ 64)<i/\i<2 ^ 64)\/(-(2 ^ 64)<j/\j<2 ^ 64)
theorem CMul.ok (h:CMul i j):IntMulOk i j:=by
 rcases h with⟨h1,h2⟩|⟨h1,h2⟩
 ·exact .of_left (intBits_le_64 h1 h2)
 ·exact .of_right (intBits_le_64 h1 h2)
theorem k6:OpR X (U2 .Add) (rI0 λi j=>.int (i+j)):=opI0 λ_ _ _ _ _ _ _ q=>add_int q
theorem op_sub:OpR X (U2 .Sub) (rI0 λi j=>.int (i-j)):=opI0 λ_ _ _ _ _ _ _ q=>sub_int q
theorem u0:OpR X (U2 .Mult) (rI CMul λi j=>.int (i*j)):=opI λ_ _ _ _ _ _ _ hc q=>mul_int q hc.ok
theorem Et:OpR X (U2 .FloorDiv) (rI CDiv λi j=>.int (i/j)):=opI λi j _ _ _ _ _ hc q=>by
 have h1:(0:Int)<j:=hc.1;have h2:j<1073741824:=hc.2;exact floordiv_int (by omega) (by rw[Int.fdiv_eq_ediv_of_nonneg i (by omega)];exact q) (.inl (PyProof.noPylong_small (by omega)))
theorem u4:OpR X (U2 .Mod) (rI (λ_ j=>0<j) λi j=>.int (i%j)):=opI λi j _ _ _ _ _ hc q=>by
 have h1:(0:Int)<j:=hc;exact mod_int' (by omega) (by rw[Int.fmod_eq_emod_of_nonneg i (by omega)];exact q)
theorem Gj:OpR X (U2 .Pow) (rI CPow λi j=>.int (i ^ j.toNat)):=opI λ_ _ _ _ _ _ _ hc q=>pow_int_small hc.1 hc.2.1 hc.2.2 q
theorem Ob:OpR X (inplaceOp .Add) (rI0 λi j=>.int (i+j)):=opI0 λ_ _ _ _ _ _ _ q=>iadd_int q
theorem unI {g:Int->Int}
   (rule:∀(i:Int) (t:Tok) (s:A5) (Q:A3->A5->Prop) (E:A3->A5->Prop),Q (.int (g i) s.toks) { s with toks:=s.toks+1 }->A6 (A8 X.prog X.w) X.A (f (.int i t)) Q E s) :
   UnR X f (rU λi=>.int (g i)):=by
 intro jd s σ H x v Q I rx h;obtain⟨i,rfl,q⟩:=h;obtain⟨t,rfl⟩:=rx;exact rule i t s _ _ ⟨.int (g i),H,I.tok _,⟨_,rfl⟩,q⟩
theorem Jj:UnR X (unaryOp .USub) (rU λi=>.int (-i)):=unI λ_ _ _ _ _ q=>neg_int q
end
section
variable {X:Cx}{a b c:Expr}{ta tb tc:TE}{pos:Pos}
theorem Gk (I:Inv X jd σ H s)(q:Q (.bl k) H)(e:k=k'):EP X jd σ Q (.bool k') s:=by
 subst e;exact⟨.bl k,H,I,rfl,q⟩
theorem op_lt:OpR X (L6 .Lt) (rI0 λi j=>.bl (decide (i<j))):=opB0 λ_ _ _ _ _ _ _ q=>lt_int q
theorem op_le:OpR X (L6 .LtE) (rI0 λi j=>.bl (decide (i<=j))):=opB0 λ_ _ _ _ _ _ _ q=>le_int q
theorem op_gt:OpR X (L6 .Gt) (rI0 λi j=>.bl (decide (j<i))):=opB0 λ_ _ _ _ _ _ _ q=>gt_int q
theorem op_ge:OpR X (L6 .GtE) (rI0 λi j=>.bl (decide (j<=i))):=opB0 λ_ _ _ _ _ _ _ q=>ge_int q
theorem Oc:OpR X (L6 .Lt) (λx y H Q=>∃i j,x=.str i/\y=.str j/\Q (.bl (decide (i.cps.toList<j.cps.toList))) H):=by
 intro jd s σ H x y v u Q I rx ry h;obtain⟨i,j,rfl,rfl,q⟩:=h;obtain⟨t,rfl⟩:=rx;obtain⟨t',rfl⟩:=ry;exact lt_str (Gk I q rfl)
theorem Od:OpR X (L6 .In) (λx y H Q=>∃i j,x=.str i/\y=.str j/\Q (.bl (!(BH j i 0 j.length 1).isEmpty)) H):=by
 intro jd s σ H x y v u Q I rx ry h;obtain⟨i,j,rfl,rfl,q⟩:=h;obtain⟨t,rfl⟩:=rx;obtain⟨t',rfl⟩:=ry;exact in_str (Gk I q rfl)
theorem OpR.or (h:OpR X f r)(h':OpR X f r'):OpR X f (λx y H Q=>r x y H Q\/r' x y H Q):=by
 intro jd s σ H x y v u Q I rx ry q;rcases q with q|q
 ·exact h jd s σ H x y v u Q I rx ry q
 ·exact h' jd s σ H x y v u Q I rx ry q
theorem D5 (b:Expr)(h:op≠.In:=by decide)(h2:op≠.NotIn:=by decide):AF op b=false:=by
 have e1:(op == CmpOp.In)=false:=by cases op <;> first|rfl|exact absurd rfl h
 have e2:(op == CmpOp.NotIn)=false:=by cases op <;> first|rfl|exact absurd rfl h2
 cases b <;> simp[AF,e1,e2]
theorem Gm (ho:OpR X (L6 op) r)(ha:PE X a ta)(hb:PE X b tb)(hm:AF op b=false):PE X (.Compare a [op] [b] pos) (tOp r ta tb):=by
 intro jd s σ H Q I h;exact wpAny_Compare1 (binT ha hb I h λv u s2 x y H2 I2 rx ry q=>ho jd s2 σ H2 x y v u Q I2 rx ry q) hm
def Gn (t:TE):TT:=λσ H Q=>t σ H λx H'=>∃k,x=.bl k/\Q k H'
theorem AY (ho:OpR X (L6 op) r)(ha:PE X a ta)(hb:PE X b tb)(hm:AF op b=false):PT X (.Compare a [op] [b] pos) (Gn (tOp r ta tb)):=by
 intro jd s σ H Q I h
 refine wpAny_isTrue_Compare1 (thn (ha jd s σ H _ I h) λv s1 ⟨x,H1,I1,r1,q1⟩=>thn (hb jd s1 σ H1 _ I1 q1) λu s2 ⟨y,H2,I2,r2,q2⟩=>
  thn (ho jd s2 σ H2 x y v u _ I2 r1 r2 q2) λc s3 ⟨z,H3,I3,r3,k,e,q3⟩=>?_) hm
 subst e;cases r3;exact p6 ⟨H3,I3,q3⟩
def Go (r r':R2)(ta tb tc:TE):TE:=λσ H Q=>ta σ H λx H1=>tb σ H1 λy H2=>r x y H2 λz H3=>∃k,z=.bl k/\
 (if k=true then tc σ H3 λw' H4=>r' y w' H4 Q else Q (.bl false) H3)
theorem Oe (ho:OpR X (L6 op) r)(ho':OpR X (L6 op') r')(ha:PE X a ta)(hb:PE X b tb)(hc:PE X c tc)
   (hm:lastMarks [op,op'] [b,c]=false:=by with_unfolding_all rfl):PE X (.Compare a [op,op'] [b,c] pos) (Go r r' ta tb tc):=by
 intro jd s σ H Q I h
 refine Compare_chain (thn (ha jd s σ H _ I h) λv s1 ⟨x,H1,I1,r1,q1⟩=>chain_link (thn (hb jd s1 σ H1 _ I1 q1) λu s2 ⟨y,H2,I2,r2,q2⟩=>
  thn (ho jd s2 σ H2 x y v u _ I2 r1 r2 q2) λd s3 ⟨z,H3,I3,r3,k,e,q3⟩=>?_)) hm
 subst e;cases r3;refine p6 ?_;cases k with
 |false=>exact ite_ff ⟨.bl false,H3,I3,rfl,q3⟩
 |true=>exact ite_tt (chain_last (thn (hc jd s3 σ H3 _ I3 q3) λw' s4 ⟨z',H4,I4,r4,q4⟩=>ho' jd s4 σ H4 y z' u w' Q I4 r2 r4 q4))
theorem Of (ho:OpR X (L6 op) r)(ho':OpR X (L6 op') r')(ha:PE X a ta)(hb:PE X b tb)(hc:PE X c tc)
   (hm:lastMarks [op,op'] [b,c]=false:=by with_unfolding_all rfl):PT X (.Compare a [op,op'] [b,c] pos) (Gn (Go r r' ta tb tc)):=by
 intro jd s σ H Q I h
 refine isTrue_chain (thn (ha jd s σ H _ I h) λv s1 ⟨x,H1,I1,r1,q1⟩=>test_link (thn (hb jd s1 σ H1 _ I1 q1) λu s2 ⟨y,H2,I2,r2,q2⟩=>
  thn (ho jd s2 σ H2 x y v u _ I2 r1 r2 q2) λd s3 ⟨z,H3,I3,r3,k,e,q3⟩=>?_)) hm
 subst e;cases r3;refine p6 ?_;cases k with
 | false =>
  obtain⟨k',e',q'⟩:=q3;cases e';exact ite_ff ⟨H3,I3,q'⟩
 | true =>
  refine ite_tt (test_last (thn (hc jd s3 σ H3 _ I3 q3) λw' s4 ⟨z',H4,I4,r4,q4⟩=>thn (ho' jd s4 σ H4 y z' u w' _ I4 r2 r4 q4) λd' s5 ⟨z2,H5,I5,r5,k2,e2,q5⟩=>?_));subst e2;cases r5;exact p6 ⟨H5,I5,q5⟩
def TruV (K:A7)(x:V)(H:Hp)(k:Bool):Prop:=
 match x with
 |.non=>k=false
 |.bl b=>k=b
 |.int i=>k=(i != 0)
 |.str y=>y.length<=B8/\k=((y.length:Int) != 0)
 |.byt y=>y.size<=B8/\k=((y.size:Int) != 0)
 |.ref p=>(∃xs,SqL K H p xs/\k=!xs.isEmpty)\/(∃xs,SqT K H p xs/\k=!xs.isEmpty)\/∃ji,H p=some (.dK ji)/\k=!ji.isEmpty
 |_=>False
theorem Og {κ:Type}{ji:List (κ×V)}{vs:List (κ×A3)}(r:KV ji vs):(!vs.isEmpty)=!ji.isEmpty:=by
 cases r <;> rfl
theorem Jk (r:Vals xs jh):(!jh.toArray.isEmpty)=!xs.isEmpty:=by
 cases r <;> simp
theorem AZ:(B8:Nat)<2 ^ 63:=by rw[d9];decide
theorem tru_ok:TruR X (λx H Q=>∃k,TruV X.K x H k/\Q k H):=by
 intro jd s σ H x v Q I rx h;obtain⟨k,e,q⟩:=h;have hl:=AZ;have hs:B8=16777216:=d9;cases x with
 | non =>
  cases rx;have e':k=false:=e;subst e';exact truthy_none ⟨H,I,q⟩
 | bl b =>
  cases rx;have e':k=b:=e;subst e';exact p6 ⟨H,I,q⟩
 | int i =>
  obtain⟨t,rfl⟩:=rx;have e':k=(i != 0):=e;subst e';exact PySem.P.truthy_int ⟨H,I,q⟩
 | str y =>
  obtain⟨t,rfl⟩:=rx;obtain⟨hy,e'⟩:y.length<=B8/\k=((y.length:Int) != 0):=e;subst e';exact PySem.P.truthy_str (by omega) ⟨H,I.tok _,q⟩
 | byt y =>
  obtain⟨t,rfl⟩:=rx;obtain⟨hy,e'⟩:y.size<=B8/\k=((y.size:Int) != 0):=e;subst e';exact PySem.W.truthy_bytes (by omega) ⟨H,I.tok _,q⟩
 | ref p =>
  cases rx;have e':(∃xs,SqL X.K H p xs/\k=!xs.isEmpty)\/(∃xs,SqT X.K H p xs/\k=!xs.isEmpty)\/∃ji,H p=some (.dK ji)/\k=!ji.isEmpty:=e;rcases e' with⟨xs,hx,e'⟩|⟨xs,hx,e'⟩|⟨ji,hx,e'⟩
  ·subst e';obtain⟨jh,r,pl,hz⟩:=I.list hx;have hlen:=r.length;exact wpAny_truthy_list pl.isList (by simp only[F5];omega) ⟨H,I.tok _,by rw[Jk r];exact q⟩
  ·subst e';obtain⟨jh,r,pl,hz⟩:=I.tuple hx;have hlen:=r.length;exact truthy_tuple pl (by simp only[F5];omega) ⟨H,I.tok _,by rw[Jk r];exact q⟩
  ·subst e';obtain⟨hz,hS,vs,r,m⟩:ji.length<=B8/\(p == N7)=false/\∃vs,KV ji vs/\s.heap.DictOf (N1 X.prog X.w) p vs:=I.hok p _ hx;have hlen:ji.length=vs.length:=Dc r;exact wpAny_truthy_dict hS m (by omega) ⟨H,I.tok _,by rw[Og r];exact q⟩
 |_=>exact(show False from e).elim
theorem Oh (ha:PE X a ta)(he:∀whole,isTrue a X.env whole=(do let v ← whole;e9 a.pos;W4 [v] (truthy v))) :
   PT X a (λσ H Q=>ta σ H λx H'=>∃k,TruV X.K x H' k/\Q k H'):=by
 intro jd s σ H Q I h;exact isTrue_plain (thn (ha jd s σ H _ I h) λv s1 ⟨x,H1,I1,r1,q1⟩=>tru_ok jd s1 σ H1 x v Q I1 r1 q1) (he _)
theorem Oi:OpR X (U2 .Add) (λx y H Q=>∃i j,x=.str i/\y=.str j/\i.length+j.length<=B8/\Q (.str (i++j)) H):=by
 intro jd s σ H x y v u Q I rx ry h;obtain⟨i,j,rfl,rfl,hz,q⟩:=h;obtain⟨t,rfl⟩:=rx;obtain⟨t',rfl⟩:=ry;exact add_str (λt' tk=>⟨.str (i++j),H,I.tok _,⟨_,rfl⟩,q⟩) hz
theorem u5 (r:Vals [x] us):∃u,us=[u]/\RelV x u:=by
 cases r with
 |cons r1 r2=>cases r2;exact⟨_,rfl,r1⟩
theorem vals2 (r:Vals [x,y] us):∃u w',us=[u,w']/\RelV x u/\RelV y w':=by
 cases r with
 | cons r1 r2 =>
  cases r2 with
  |cons r3 r4=>cases r4;exact⟨_,_,rfl,r1,r3⟩
theorem Gp:M6 X (.builtin "abs") (λxs H Q=>∃i,xs=[.int i]/\Q (.int (if i<0 then -i else i)) H):=by
 intro jd s σ H xs us Q I r h;obtain⟨i,rfl,q⟩:=h;obtain⟨u,rfl,t,rfl⟩:=u5 r;exact call_abs_int λu tk=>⟨.int (if i<0 then -i else i),H,I.tok _,⟨_,rfl⟩,q⟩
theorem Oj (hc:X.calm=true):M6 X (.builtin "min") (λxs H Q=>∃i j,xs=[.int i,.int j]/\Q (.int (if j<i then j else i)) H):=by
 intro jd s σ H xs us Q I r h;obtain⟨i,j,rfl,q⟩:=h;obtain⟨u,w',rfl,⟨t,rfl⟩,⟨t',rfl⟩⟩:=vals2 r;refine min_two_ints (I.ok.hd hc) λh' tk k=>⟨_,H,I.kept k,?_,q⟩
 by_cases hj:j<i
 ·rw[jw hj,jw hj];exact⟨_,rfl⟩
 ·rw[jy hj,jy hj];exact⟨_,rfl⟩
theorem Jl:M6 X (.type "int") (λxs H Q=>(∃i,xs=[.int i]/\Q (.int i) H)\/∃k,xs=[.bl k]/\Q (.int (if k then 1 else 0)) H):=by
 intro jd s σ H xs us Q I r h;rcases h with⟨i,rfl,q⟩|⟨k,rfl,q⟩
 ·obtain⟨u,rfl,t,rfl⟩:=u5 r;exact call_int_int ⟨.int i,H,I,⟨_,rfl⟩,q⟩
 ·obtain⟨u,rfl,r1⟩:=u5 r;cases r1;exact call_int_bool ⟨.int (if k then 1 else 0),H,I.tok _,⟨_,rfl⟩,q⟩
end
structure ObjM (h:B5)(x dx C:A0)(mA:Str->Option A3):Prop where
 obj:h.get? x=some (PySem.W.instObj C dx)
 ns:h.Ns1 dx mA
 ne:dx≠x
theorem Om {h:B5}(n:h.Ns1 dx mA):∃od,h.get? dx=some od/\∀name,PySem.W.lookIn name od=some (mA name):=by
 obtain⟨o,es,ep,ho,hd,hk,_,hm⟩:=n;refine⟨o,ho,λname=>?_⟩;have e:=hm name;unfold nsFind findBy at e;rw[<- Array.find?_toList] at e;unfold PySem.W.lookIn;rw[hd];dsimp only
 split
 ·grind
 ·rename_i q;rw[q] at e
  have a:es.toList.any (·.refKey)=false:=by
   rw[List.any_eq_false];intro y hy;obtain⟨z,t,hkey⟩:=hk y (Array.mem_toList_iff.mp hy);simp[DictEntry.refKey,hkey]
  have a':¬es.toList.any (·.refKey)=true:=by rw[a];exact Q9
  rw[jy a'];exact congrArg some e
theorem ObjM.look (I:ObjM h x dx C mA):∃od,PySem.W.InstAt h x (PySem.W.instObj C dx) C (some od)/\∀name,PySem.W.lookIn name od=some (mA name):=
 let ⟨od,ho,hl⟩:=Om I.ns
 ⟨od,⟨I.obj,rfl,rfl,ho⟩,hl⟩
theorem RelO.some_of (r:RelO (some v) o):∃u,o=some u/\RelV v u:=by
 cases o with
 |none=>exact(show False from r).elim
 |some u=>exact⟨u,rfl,r⟩
section
variable {P:D3}{w:C3}{H H':Hp}{h h':B5}{a C dx:A0}{fs fs':List (Str×V)}
theorem On (hok:HOk P w H h)(e:H a=some (.ins C dx fs)):∃mA,ObjM h a dx C mA/\(∀f,RelO (fs.lookup f) (mA f))/\PySem.Within mA (fs.map (·.1))/\fs.length<=1000/\H dx=some (.own a):=by
 obtain⟨d,z,ne,ob,mA,n,r,q⟩:=(show J4 P w H h a (.ins C dx fs) from hok a _ e);exact⟨mA,⟨ob,n,ne⟩,r,q,z,d⟩
end
structure Cls (K:A7)(C:A0):Prop where
 pg:PySem.W.plainGet K C Str.empty=true
 hd:PySem.W.hasDictIn K C=true
 po:PySem.W.plainOver K C=true
 sa:PySem.W.findIn K (.ref C) "__setattr__"=some (some (.builtin "object.__setattr__"))
theorem Cls.get {K:A7}(c:Cls K C)(f:Str):PySem.W.plainGet K C f=true:=c.pg
section
variable {X:Cx}{jd:List (A0×Obj)}{σ:St}{H:Hp}{s:A5}{A:E8}{E:A3->A5->Prop}{Q:A3->A5->Prop}{c:A3}{b:Bool}
inductive TyOf (K:A7)(H:Hp):V->A3->Prop where
 |non:TyOf K H .non (.type "NoneType")
 |bl (x:Bool):TyOf K H (.bl x) (.type "bool")
 |int (i:Int):TyOf K H (.int i) (.type "int")
 |str (x:Str):TyOf K H (.str x) (.type "str")
 |flt (x:UInt64):TyOf K H (.flt x) (.type "float")
 |lst {a:A0} {xs:List V} (e:H a=some (.lst xs)):TyOf K H (.ref a) (.type "list")
 |frz {a:A0} {o:Obj} {xs:List V} (e:H a=some (.frz o (.lst xs))):TyOf K H (.ref a) (.type "list")
 |tup {a:A0} {xs:List V} (e:H a=some (.tup xs)):TyOf K H (.ref a) (.type "tuple")
 |dK {a:A0} {ji:List (Key×V)} (e:H a=some (.dK ji)):TyOf K H (.ref a) (.type "dict")
 |dT {a:A0} {ji:List (List Key×V)} (e:H a=some (.dT ji)):TyOf K H (.ref a) (.type "dict")
 |ins {a C dx:A0} {fs:List (Str×V)} (e:H a=some (.ins C dx fs)) (cl:Cls K C) (ha:PySem.W.findIn K (.ref C) "__class__"=some (some (.builtin "object.__class__")))
     (hn:PySem.W.specialIn K (.builtin "object.__class__") "__get__"=some (some (.builtin "getset_descriptor.__get__"))) (htk:PySem.W.takesIn K (.builtin "object.__class__")=some true)
     (hm:PySem.W.mroIn K C (.type "object")=some true):TyOf K H (.ref a) (.ref C)
theorem Oo (I:Inv X jd σ H s)(rx:RelV x u)(ty:TyOf X.K H x t)(e:CH X.K t c=some b)(h:∀tk,Q (.bool b) { s with toks:=tk }) :
   A6 (A8 X.prog X.w) A (call (.builtin "isinstance") [u,c]) Q E s:=by
 cases ty with
 |non=>cases(show u=X0 from rx);exact Y3 PySem.W.kitx_none I.kIn Z0 e (λz=>nomatch z) h
 |bl y=>cases(show u=Value.bool y from rx);exact Y3 PySem.W.kitx_bool I.kIn Z0 e (λz=>nomatch z) h
 |int i=>obtain⟨t,q⟩:=(show ∃t,u=BG i t from rx);cases q;exact Y3 PySem.W.kitx_int I.kIn Z0 e (λz=>nomatch z) h
 |str y=>obtain⟨t,q⟩:=(show ∃t,u=Value.str y t from rx);cases q;exact Y3 PySem.W.kitx_str I.kIn Z0 e (λz=>nomatch z) h
 |flt y=>obtain⟨t,q⟩:=(show ∃t,u=Value.float y t from rx);cases q;exact Y3 PySem.W.kitx_float I.kIn Z0 e (λz=>nomatch z) h
 | @lst a xs ea =>
  cases(show u=K8 a from rx);obtain⟨_,_,n,_,h1⟩:=(show J4 X.prog X.w H s.heap a (.lst xs) from I.hok a _ ea);exact Y3 PySem.W.kitx_list I.kIn ⟨_,h1,rfl⟩ e (λz=>nomatch z) h
 | @frz a ob xs ea =>
  cases(show u=K8 a from rx);obtain⟨_,_,_,n,_,h1⟩:=(show J4 X.prog X.w H s.heap a (.frz ob (.lst xs)) from I.hok a _ ea);exact Y3 PySem.W.kitx_list I.kIn ⟨_,h1,rfl⟩ e (λz=>nomatch z) h
 | @tup a xs ea =>
  cases(show u=K8 a from rx);obtain⟨_,_,_,p⟩:=(show J4 X.prog X.w H s.heap a (.tup xs) from I.hok a _ ea);obtain⟨o,h1,h2,_⟩:=p;exact Y3 PySem.W.kitx_tuple I.kIn ⟨o,h1,(BK h2).1⟩ e (λz=>nomatch z) h
 | @dK a ji ea =>
  cases(show u=K8 a from rx);obtain⟨_,_,vs,_,p⟩:=(show J4 X.prog X.w H s.heap a (.dK ji) from I.hok a _ ea);obtain⟨o,es,ep,h1,h2,_⟩:=p;exact Y3 PySem.W.kitx_dict I.kIn ⟨o,h1,h2.1⟩ e (λz=>nomatch z) h
 | @dT a ji ea =>
  cases(show u=K8 a from rx);obtain⟨_,_,xs,_,o,es,ep,h1,h2,_⟩:=(show J4 X.prog X.w H s.heap a (.dT ji) from I.hok a _ ea);exact Y3 PySem.W.kitx_dict I.kIn ⟨o,h1,h2.1⟩ e (λz=>nomatch z) h
 | @ins a C dx fs ea cl ha hn htk hm =>
  cases(show u=K8 a from rx);obtain⟨mA,O,_⟩:=On I.hok ea;obtain⟨od,J,_⟩:=O.look;exact Y3 (PySem.W.kitx_own (cl.get _) cl.hd ha hn htk hm) I.kIn J e (λz=>nomatch z) h
end
structure Room (k:Nat)(A:E8):Prop where
 hd:A.handled=none
 dp:A.depth+3*k+5<recursionLimit
 un:A.units+16*k+200<cLine
 gd:A.guards=some []
theorem Room.mono (r:Room k A)(h:j<=k):Room j A:=⟨r.hd,by have:=r.dp;omega,by have:=r.un;omega,r.gd⟩
theorem Room.deeper (r:Room (k+1) A)(env:Env):Room k (A.deeper env):=
 ⟨r.hd,by have:=r.dp;show A.depth+1+3*k+5<_;omega,by have:=r.un;show A.units+3+16*k+200<_;omega,r.gd⟩
theorem Room.depth (r:Room k A):A.depth<recursionLimit:=by have:=r.dp;omega
theorem Room.units (r:Room k A):A.units+64<cLine:=by have:=r.un;omega
def tNil:TA:=λ_ H Q=>Q [] H
def U6 (ta:TE)(tr:TA):TA:=λσ H Q=>ta σ H λx H1=>tr σ H1 λxs H2=>Q (x::xs) H2
section
variable {X:Cx}{e:Expr}{es:List Expr}{te:TE}{t:TA}{pos:Pos}
theorem G0:PA X [] tNil:=λ_ _ _ _ H Q I h=>Calls.spliced_nil ⟨[],H,I,.nil,h⟩
theorem D4 (ha:PE X e te)(hr:PA X es t)(hs:E2 (e::es) X.env=(false,eval e X.env)::E2 es X.env:=by rfl):PA X (e::es) (U6 te t):=by
 intro pos jd s σ H Q I h;rw[hs];show A6 _ _ (spliced ((false,eval e X.env)::backTo pos (E2 es X.env))) _ _ s;refine Calls.spliced_cons (thn (ha jd s σ H _ I h) λu s1 ⟨x,H1,I1,r1,q1⟩=>?_);exact thn (hr pos jd s1 σ H1 _ I1 q1) λus s2 ⟨xs,H2,I2,r2,q2⟩=>⟨x::xs,H2,I2,.cons r1 r2,q2⟩
def tTup (t:TA):TE:=λσ H Q=>t σ H λxs H1=>xs.length<=B8/\∀p,H1 p=none->Q (.ref p) (upd H1 p (.tup xs))
def tLst (t:TA):TE:=λσ H Q=>t σ H λxs H1=>xs.length<=B8/\∀p,H1 p=none->Q (.ref p) (upd H1 p (.lst xs))
theorem Jm {x1}(h:PA X es t):PE X (.Tuple es x1 pos) (tTup t):=by
 intro jd s σ H Q I hq;refine wpAny_Tuple_spliced (thn (h pos jd s σ H _ I hq) λus s1 ⟨xs,H1,I1,r,z,q⟩=>⟨by rw[<- r.length];exact z,?_⟩);have hf:H1 s1.heap.objs.size=none:=I1.hok.fresh (B7 _);refine⟨.ref s1.heap.objs.size,upd H1 s1.heap.objs.size (.tup xs),I1.laid (t':=s1.toks) (λb u e=>C1 _ e) (B7 _) ?_,rfl,q _ hf⟩;exact⟨z,us,r,⟨_,F4 _ rfl,rfl,_,rfl⟩⟩
theorem Eu (h:PA X es t):PE X (.List es pos) (tLst t):=by
 intro jd s σ H Q I hq;refine wpAny_List_spliced (thn (h pos jd s σ H _ I hq) λus s1 ⟨xs,H1,I1,r,z,q⟩=>⟨by rw[<- r.length];exact z,?_⟩);have hf:H1 s1.heap.objs.size=none:=I1.hok.fresh (B7 _);refine⟨.ref s1.heap.objs.size,upd H1 s1.heap.objs.size (.lst xs),I1.laid (t':=s1.toks) (λb u e=>C1 _ e) (B7 _) ?_,rfl,q _ hf⟩;exact⟨z,us,0,r,F4 _ rfl⟩
end
abbrev Sp:=List V->Hp->VK->XK->Prop
abbrev CXT:=List Env->Hp->A5->XK->A3->A5->Prop
structure Env0 (P:D3)(w:C3)(K:A7)(mg:Str->Option A3)(base:B5)(A:E8)(outer:List Env)(s:A5)(H:Hp):Prop where
 frames:A.frames=some outer
 mod:Mod K mg base
 bs:∀b o,base.get? b=some o->s.heap.get? b=some o/\H b=none
 bsz:base.objs.size<=s.heap.objs.size
 funs:s.heap.FunFrames base outer
 frf:∀b∈frs outer,H b=none
 hok:HOk P w H s.heap
 bare:AllBare s.gens
 nos:NS H
def CE (outer:List Env)(P:D3)(w:C3)(H:Hp)(s:A5)(Q:VK)(u:A3)(s':A5):Prop:=
 ∃v H',s'.os=s.os/\AllBare s'.gens/\Un (frs outer) [] H H' s.heap s'.heap/\HOk P w H' s'.heap/\RelV v u/\Q v H'
def CR (CX:CXT)(outer:List Env)(P:D3)(w:C3)(H:Hp)(s:A5)(Q:VK)(E:XK)(r:Result)(s':A5):Prop:=
 match r with
 |.ok (.ret u)=>CE outer P w H s Q u s'
 |.ok _=>False
 |.error e=>CX outer H s E e s'
structure FnOk (P:D3)(w:C3)(K:A7)(mg:Str->Option A3)(base:B5)(CX:CXT)(k:Nat)(f:A0)(fd:FuncData)(ps:List Str)(sp:Sp):Prop where
 len:∀vs H Q E,sp vs H Q E->vs.length=ps.length
 run:∀(A:E8) (outer:List Env) (s:A5) (H:Hp) (args:Args) (us:List A3) (vs:List V) (Q:VK) (E:XK),Room k A->Env0 P w K mg base A outer s H->BindsTo s fd args (ps.zip us)->Vals vs us->sp vs H Q E->
   Q7 (A8 P w) A (.call (.ref f) args) (CR CX outer P w H s Q E) s
theorem FnOk.imp {K:A7}(F:FnOk P w K mg base CX k f fd ps sp)
   (h:∀vs H Q E,sp' vs H Q E->sp vs H Q E):FnOk P w K mg base CX k f fd ps sp':=
 ⟨λvs H Q E q=>F.len vs H Q E (h _ _ _ _ q),λA outer s H args us vs Q E hr he hb hv hs=>F.run A outer s H args us vs Q E hr he hb hv (h _ _ _ _ hs)⟩
section
variable {X:Cx}{jd:List (A0×Obj)}{σ:St}{H:Hp}{s s':A5}
theorem Inv.env0 (I:Inv X jd σ H s):Env0 X.prog X.w X.K X.mg X.base X.A X.stack s H:=
 ⟨I.ok.frames,I.ok.mod,I.bs,G8 I.ok.bsz I.sz,I.stack,I.stkFree,I.hok,I.bare,I.nos⟩
theorem Inv.after (I:Inv X jd σ H s)(h:CE X.stack X.prog X.w H s Q u s'):EP X jd σ Q u s':=by
 obtain⟨v,H',os,bare,un,hok,r,q⟩:=h;obtain⟨hh,g,d,t,os'⟩:=s';obtain rfl:os'=s.os:=os;exact⟨v,H',I.call (h':=hh) (g':=g) (d':=d) (t':=t) (ch:=[]) un hok bare (λb z=>absurd z (by simp)),r,q⟩
end
def tCall (sp:Sp)(dvs:List V)(E:XK)(t:TA):TE:=λσ H Q=>t σ H λvs H1=>sp (vs++dvs) H1 Q E
def BO (K:A7)(fd:FuncData)(ps:List Str)(ds:List A3):Prop:=
 ∀(s:A5) (us:List A3),K.In s.heap->(us++ds).length=ps.length->BindsTo s fd ⟨us,[]⟩ (ps.zip (us++ds))
theorem BO.all {K:A7}(h:∀us:List A3,us.length=ps.length->bindArgs fd ⟨us,[]⟩=pure (ps.zip us)):BO K fd ps []:=λs us _ hl=>by
 rw[Q8] at hl ⊢;exact .of_eq (h us hl)
def Gq (CX:CXT)(X:Cx)(E:XK):Prop:=∀(jd:List (A0×Obj)) (σ:St) (H:Hp) (s:A5) (e:A3) (s':A5),Inv X jd σ H s->CX X.stack H s E e s'->X.xe e s'
section
variable {X:Cx}{CX:CXT}{k:Nat}{f C:A0}{fd:FuncData}{ps:List Str}{sp:Sp}{dvs:List V}{ds:List A3}{E:XK}{x m:Str}{p pos apos:Pos}{e o:Expr}{es:List Expr}{ta:TE}{t:TA}
theorem run_fn (F:FnOk X.prog X.w X.K X.mg X.base CX k f fd ps sp)(hr:Room k X.A)(hb:BO X.K fd ps ds)(hd:Vals dvs ds)(hx:Gq CX X E)
   (I:Inv X jd σ H s) (r:Vals vs us) (h:sp (vs++dvs) H Q E):A6 (A8 X.prog X.w) X.A (call (.ref f) us) (EP X jd σ Q) X.xe s:=by
 have r2:Vals (vs++dvs) (us++ds):=r.append hd;have hl:(us++ds).length=ps.length:=by rw[<- r2.length];exact F.len _ _ _ _ h
 refine wpAny_call (codeAny_mono (F.run X.A X.stack s H ⟨us,[]⟩ (us++ds) (vs++dvs) Q E hr I.env0 (hb s us I.kIn hl) r2 h) λr s' hq=>?_);cases r with
 |error e=>exact hx jd σ H s e s' I hq
 | ok fl =>
  cases fl with
  |ret u=>exact I.after hq
  |next=>exact i9 hq
  |brk=>exact i9 hq
  |cont=>exact i9 hq
theorem Op (F:FnOk X.prog X.w X.K X.mg X.base CX k f fd ps sp)(hr:Room k X.A)(hg:Gl X x)(hm:X.mg x=some (.ref f))(hk:CJ X.K (.ref f)=true)(hb:BO X.K fd ps ds)(hd:Vals dvs ds)(hx:Gq CX X E)
   (ha:PA X (e::es) t) (hdb:(x == ("__debug__":Str))=false:=by decide) (he:E2 (e::es) X.env=(false,eval e X.env)::E2 es X.env:=by rfl) (hpl:(backTo pos (E2 es X.env)).any (·.1)=false:=by rfl) :
   PE X (.Call (.Name x p) (e::es) [] pos) (tCall sp dvs E t):=by
 intro jd s σ H Q I h;refine Bo (Jb I hg hm ?_ hdb);refine PySem.W.callWith_K (h₀:=X.base) I.ok.mod.kin hk (thn (ha pos jd s σ H _ I h) λus s1 ⟨vs,H1,I1,r,q⟩=>⟨I1.kIn,?_⟩) he hpl;exact run_fn F hr hb hd hx I1 r q
end
def PK (X:Cx)(kws:List R9)(t:TA):Prop:=
 ∀(pos:Pos) (jd:List (A0×Obj)) (s:A5) (σ:St) (H:Hp) (Q:List V->Hp->Prop),Inv X jd σ H s->t σ H Q->A6 (A8 X.prog X.w) X.A (evalAll ((backToKw pos (x8 kws X.env)).map (·.2))) (AP X jd σ Q) X.xe s
structure Z4 (N P:List Str)(sc:F8):Prop where
 kind:sc.kind=.function
 co:sc.isCoroutine=false
 gen:sc.isGenerator=false
 nd:N.Nodup
 pre:N.take P.length=P
 par:∀x∈P,sc.names.lookup x=some .local\/sc.names.lookup x=some .cell
 nofree:∀y∈sc.names,y.2≠.free
theorem Jn {kindOf:Str->Option NameKind}:∀{binds:List (Str×A3)} {m:Str->Option A3},(∀v,(x,v)∉binds)->bindL kindOf binds m x=m x
 |[],_,_=>rfl
 | (n, v) :: r, m, h => by
  unfold bindL;rw[Jn λw hw=>h w (C9 _ hw)]
  split
  ·have:x≠n:=by rintro rfl;exact h v C6
   simp[this]
  ·rfl
theorem Jo {kindOf:Str->Option NameKind}:∀{binds:List (Str×A3)} {m:Str->Option A3},(∀v,(x,v)∉binds)->bindC kindOf binds m x=m x
 |[],_,_=>rfl
 | (n, v) :: r, m, h => by
  unfold bindC;rw[Jo λw hw=>h w (C9 _ hw)]
  split
  ·rfl
  ·have:x≠n:=by rintro rfl;exact h v C6
   simp[this]
theorem Jp {kindOf:Str->Option NameKind}:∀{P:List Str} {vs:List A3} {i:Nat} {m:Str->Option A3},P.Nodup->P[i]?=some x->vs[i]?=some v->kindOf x=some .local->
   bindL kindOf (P.zip vs) m x=some v
 |[],_,_,_,_,h,_,_=>by simp at h
 |_::_,[],_,_,_,_,h,_=>by simp at h
 | p :: P, w :: vs, 0, m, nd, h1, h2, hk => by
  simp at h1 h2;subst h1;subst h2;show bindL kindOf ((p,w)::P.zip vs) m p=_;unfold bindL;rw[Jn λv hv=>(P0.mp nd).1 (List.of_mem_zip hv).1,jw hk];simp
 | p :: P, w :: vs, i + 1, m, nd, h1, h2, hk => by
  show bindL kindOf ((p,w)::P.zip vs) m x=_;unfold bindL;exact Jp (i:=i) (P0.mp nd).2 (by simpa using h1) (by simpa using h2) hk
theorem Jq {kindOf:Str->Option NameKind}:∀{P:List Str} {vs:List A3} {i:Nat} {m:Str->Option A3},P.Nodup->P[i]?=some x->vs[i]?=some v->kindOf x≠some .local->
   bindC kindOf (P.zip vs) m x=some v
 |[],_,_,_,_,h,_,_=>by simp at h
 |_::_,[],_,_,_,_,h,_=>by simp at h
 | p :: P, w :: vs, 0, m, nd, h1, h2, hk => by
  simp at h1 h2;subst h1;subst h2;show bindC kindOf ((p,w)::P.zip vs) m p=_;unfold bindC;rw[Jo λv hv=>(P0.mp nd).1 (List.of_mem_zip hv).1,jy hk];simp
 | p :: P, w :: vs, i + 1, m, nd, h1, h2, hk => by
  show bindC kindOf ((p,w)::P.zip vs) m x=_;unfold bindC;exact Jq (i:=i) (P0.mp nd).2 (by simpa using h1) (by simpa using h2) hk
def start (N:List Str)(vs:List V):St:=vs.map some++Bw (N.length-vs.length) none
def cxOf (CX:CXT)(P:D3)(w:C3)(K:A7)(mg:Str->Option A3)(base:B5)(N:List Str)(qual:Str)(scope:F8)(f:A0)(cd:A3)(A:E8)(outer:List Env)(s:A5)(H:Hp)(E:XK):Cx where
 prog:=P
 w:=w
 K:=K
 mg:=mg
 base:=base
 A:=A.deeper (envOfC qual scope s.heap.objs.size f cd)
 N:=N
 s₀:=s
 H₀:=H
 env:=envOfC qual scope s.heap.objs.size f cd
 outer:=outer
 stack:=envOfC qual scope s.heap.objs.size f cd::outer
 ex:=[]
 calm:=true
 fn:=λ_=>true
 pn:=[]
 xe:=λe s'=>A6 (A8 P w) (A.deeper (envOfC qual scope s.heap.objs.size f cd)) (leaving (envOfC qual scope s.heap.objs.size f cd) e) (λ_ s''=>CX outer H s E e s'') (λe' s''=>CX outer H s E e' s'') s'
theorem Jr {sc:F8}(h:sc.names.lookup x=some .cell):∃c,(Q6 n sc.names []).lookup x=some c:=by
 have q:=PySem.W.cellsFrom_some sc.names n [] (.inl h);exact Ae.mp q
theorem Oq {K:A7}
   (S:Z4 N ps scope) (hd:A.handled=none) (e0:Env0 P w K mg base A outer s H) (hl:vs.length=ps.length) (r:Vals vs us)
   (x:InCallC s s.heap.objs.size (bindL (envOfC qual scope s.heap.objs.size f cd).kindOf (ps.zip us) λ_=>none) (Q6 (s.heap.objs.size+1) scope.names []) (bindC (envOfC qual scope s.heap.objs.size f cd).kindOf (ps.zip us) λ_=>none) s1) :
   Inv (cxOf CX P w K mg base N qual scope f cd A outer s H E) [] (start N vs) H s1:=by
 have hpl:ps.length<=N.length:=by have:=congrArg List.length S.pre;rw[Y6] at this;omega
 obtain⟨h1,tk,rfl,hk⟩:=x.done;have noA:∀b:A0,b∉(cxOf CX P w K mg base N qual scope f cd A outer s H E).ex:=λb z=>absurd (show b∈([]:List A0) from z) (by simp)
 refine⟨⟨e0.mod,S.kind,rfl,rfl,B7 _,λy z c h1 h2=>?_,λy hy=>?_,λy c _ h=>?_,λ_=>hd,Around.frames_deeper e0.frames,.inr ⟨rfl,rfl⟩,λb z=>absurd z (noA b),e0.bs,e0.bsz,λb _ _=>noA b,λb z=>absurd z (noA b),e0.funs,e0.frf,e0.nos⟩,
  rfl,e0.bare,Un.kept hk,⟨_,x.toInCall.ns,λi y v h1 h2 h3=>?_⟩,λy c h=>⟨_,x.cell y c h⟩,e0.hok.fresh (B7 _),λy c h=>?_,λp hp=>absurd (show p∈([]:List (A0×Obj)) from hp) (by simp),e0.hok.kept hk,?_⟩
 ·exact name_of_addr x.apart (V9 h1) (V9 h2)
 ·have hy:scope.names.lookup y=some .cell\/scope.names.lookup y=some .free:=hy;rcases hy with hy|hy
  ·exact Jr hy
  ·exact absurd rfl (S.nofree _ (V9 hy))
 ·exact BA (x.above y c (V9 h))
 ·have hi:i<vs.length:=by
   unfold start at h2
   by_cases hi:i<vs.length
   ·exact hi
   ·rw[q8 (by simpa using hi)] at h2;rw[FM] at h2
    split at h2 <;> cases h2
  have ha:vs[i]?=some v:=by
   unfold start at h2;rw[r0 (by simpa using hi),K6] at h2;cases e:vs[i]? with
   |none=>rw[e] at h2;cases h2
   |some a=>rw[e] at h2;cases h2;rfl
  obtain⟨u,hu,rv⟩:=r.get ha
  have hp:ps[i]?=some y:=by
   rw[<- S.pre,List.getElem?_take_of_lt (by omega)];exact h1
  have ndP:ps.Nodup:=by rw[<- S.pre];exact S.nd.sublist (List.take_sublist _ _)
  refine⟨u,rv,?_⟩;rcases S.par y (J9 hp) with k|k
  ·exact .inl ⟨k,Jp ndP hp hu k⟩
  ·obtain⟨c,e⟩:=Jr (n:=s.heap.objs.size+1) k;refine .inr ⟨.inl k,c,e,?_⟩;have q:=x.cell y c e;rw[Jq ndP hp hu (by show scope.names.lookup y≠_;rw[k];decide)] at q;exact q
 ·exact e0.hok.fresh (BA (x.above y c (V9 h)))
 ·unfold start;show _=N.length;rw[D6,B1,FQ];omega
theorem fn_of {K:A7}{dV kV doc pm jp ct oc:A3}
 (lk:K.lookup f=some ⟨oc,od,.func (W7 name qual params body scope dV kV doc pm an jp ct),osl⟩) (hcd:DZ K jp qual=true) (S:Z4 N ps scope)
   (len:∀vs H Q E,sp vs H Q E->vs.length=ps.length)
   (hbody:∀(A:E8) (outer:List Env) (s:A5) (H:Hp) (vs:List V) (Q:VK) (E:XK),Room k (A.deeper (envOfC qual scope s.heap.objs.size f jp))->sp vs H Q E->
     ∃t,PSs (cxOf CX P w K mg base N qual scope f jp A outer s H E) body t/\t { nx:=λ_ H'=>Q .non H',rt:=Q } (start N vs) H) :
   FnOk P w K mg base CX (k+1) f (W7 name qual params body scope dV kV doc pm an jp ct) ps sp:=by
 refine⟨len,λA outer s H args us vs Q E hr e0 hb r hsp=>?_⟩;have hl:=len _ _ _ _ hsp;have KX:K.In s.heap:=e0.mod.kin.keeps λb o e=>(e0.bs b o e).1;have lim:s.heap.NoLimit:=e0.mod.nolimit.keeps λb o e=>(e0.bs b o e).1
 have hkind:∀y∈ps.zip us,scope.names.lookup y.1=some .local\/(scope.names.lookup y.1=some .cell/\((Q6 (s.heap.objs.size+1) scope.names []).lookup y.1).isSome=true):=λ⟨n,v⟩ hy=>by
  rcases S.par n (List.of_mem_zip hy).1 with q|q
  ·exact .inl q
  ·exact .inr ⟨q,PySem.W.cellsFrom_some _ _ _ (.inl q)⟩
 refine codeAny_call_function hr.depth (KX _ _ lk) rfl S.co S.gen rfl (PySem.W.codeRec_of KX hcd) (hb _ _ _ _ ?_);refine wpAny_newFunctionEnv_cells S.kind hkind λenv he s1 x=>?_;subst he;refine⟨lim.keeps x.toInCall.keep,codeAny_func ?_⟩;obtain⟨t,ht,hq⟩:=hbody A outer s H vs Q E (hr.deeper _) hsp;have I:Inv (cxOf CX P w K mg base N qual scope f jp A outer s H E) [] (start N vs) H s1:=Oq S hr.hd e0 hl r x;refine K4 (ht [] s1 (start N vs) H _ I hq) (λfl s' hs=>?_) λe s' hs=>hs
 have fin:∀{σ':St} {H':Hp} {v:V} {u:A3},Inv (cxOf CX P w K mg base N qual scope f jp A outer s H E) [] σ' H' s'->RelV v u->Q v H'->CE outer P w H s Q u s':=
  λ{σ' H' v u} J rv q=>⟨v,H',J.os,J.bare,J.base,J.hok,rv,q⟩
 cases fl with
 | ret u =>
  obtain⟨v,σ',H',J,rv,q⟩:=hs;exact fin J rv q
 | next =>
  obtain⟨σ',H',J,q⟩:=hs;exact fin (v:=V.non) (u:=X0) J rfl q
 | brk =>
  obtain⟨_,_,_,q⟩:=hs;exact i9 q
 | cont =>
  obtain⟨_,_,_,q⟩:=hs;exact i9 q
section
variable {X:Cx}{x:Str}{p pos:Pos}{e:Expr}{es:List Expr}{t:TA}{id T:String}{r:List V->Hp->VK->Prop}
def tCB (r:List V->Hp->VK->Prop)(t:TA):TE:=λσ H Q=>t σ H λvs H1=>r vs H1 Q
theorem Aj (hc:M6 X (.builtin id) r)(hg:Gl X x)(hm:X.mg x=none)(hv:K5 x=some (.builtin id))(ha:PA X (e::es) t)(hn:x≠"__name__":=by decide)(hdb:(x == ("__debug__":Str))=false:=by decide)
   (he:E2 (e::es) X.env=(false,eval e X.env)::E2 es X.env:=by rfl) (hpl:(backTo pos (E2 es X.env)).any (·.1)=false:=by rfl):PE X (.Call (.Name x p) (e::es) [] pos) (tCB r t):=by
 intro jd s σ H Q I h;refine Bo (U5 I hg hm hv ?_ hn hdb);exact PyProof.Rows.callWith_builtin1 (thn (ha pos jd s σ H _ I h) λus s1 ⟨vs,H1,I1,r1,q1⟩=>hc jd s1 σ H1 vs us Q I1 r1 q1) he hpl
theorem Gr (hc:M6 X (.type T) r)(hg:Gl X x)(hm:X.mg x=none)(hv:K5 x=some (.type T))(ha:PA X (e::es) t)(hn:x≠"__name__":=by decide)(hdb:(x == ("__debug__":Str))=false:=by decide)
   (he:E2 (e::es) X.env=(false,eval e X.env)::E2 es X.env:=by rfl) (hpl:(backTo pos (E2 es X.env)).any (·.1)=false:=by rfl):PE X (.Call (.Name x p) (e::es) [] pos) (tCB r t):=by
 intro jd s σ H Q I h;refine Bo (U5 I hg hm hv ?_ hn hdb);exact Y8 (thn (ha pos jd s σ H _ I h) λus s1 ⟨vs,H1,I1,r1,q1⟩=>hc jd s1 σ H1 vs us Q I1 r1 q1) he hpl
theorem Os (hc:M6 X (.type T) r)(hg:Gl X x)(hm:X.mg x=none)(hv:K5 x=some (.type T))(hn:x≠"__name__":=by decide)(hdb:(x == ("__debug__":Str))=false:=by decide) :
   PE X (.Call (.Name x p) [] [] pos) (tCB r tNil):=by
 intro jd s σ H Q I h;refine Bo (U5 I hg hm hv ?_ hn hdb);exact PyProof.Rows.callWith_type0 (hc jd s σ H [] [] Q I .nil h)
end
end L2
namespace HT
open PySem PyProof.Rows
section
variable {prog:D3}{w:C3}{A:E8}{E:A3->A5->Prop}{s:A5}
theorem cat_tup (ht:IsTup s.heap t vs.toArray)(hb:IsTup s.heap b ws.toArray)(hv:vs≠[])
   (h1:ws=[]->Q (.ref t) s) (h2:ws≠[]->Q (.ref s.heap.objs.size) { s with heap:=s.heap.push { cls:=.type "tuple",data:=.seq (vs++ws).toArray } })
   (hsz:vs.length+ws.length<=B8):A6 (A8 prog w) A (U2 .Add (.ref t) (.ref b)) Q E s:=by
 obtain⟨⟨cls,dd,data,sl⟩,ho,hc,n,hd⟩:=id ht;obtain⟨⟨cls2,dd2,data2,sl2⟩,ho2,hc2,n2,hd2⟩:=id hb;simp only at hc hd hc2 hd2;subst hc hd hc2 hd2;have e:vs.toArray++ws.toArray=(vs++ws).toArray:=by simp
 by_cases hw:ws=[]
 ·exact concat_meets ⟨_,ho,rfl⟩ ⟨_,ho2,rfl⟩ noFill_tuple_add seq_tuple_add FY FX (FW _ _)
    (tuple_addW1 t b vs.toArray ws.toArray n n2 dd dd2 sl sl2 (by simpa using hv) (by simp[hw])) ⟨ho,ho2,h1 hw⟩
 ·refine concat_meets ⟨_,ho,rfl⟩ ⟨_,ho2,rfl⟩ noFill_tuple_add seq_tuple_add FY FX (FW _ _)
    (tuple_addW2 t b vs.toArray ws.toArray n n2 dd dd2 sl sl2 (by simpa using hv) (by simpa using hw) (by rw[F5,F5];exact hsz)) ⟨ho,ho2,?_⟩
  rw[e];exact h2 hw
def sIx (n d:Nat):Option Int->Nat
 |none=>d
 |some v=>if v<0 then(v+(n:Int)).toNat else min v.toNat n
theorem sIx_none (n d:Nat):sIx n d none=d:=rfl
theorem sIx_nat (n d k:Nat):sIx n d (some (k:Int))=min k n:=by
 show(if(k:Int)<0 then((k:Int)+(n:Int)).toNat else min (k:Int).toNat n)=min k n;rw[jy (by omega),R1]
theorem sIx_le (n d:Nat)(hd:d<=n)(o:Option Int):sIx n d o<=n:=by
 cases o with
 |none=>exact hd
 | some v =>
  show(if v<0 then(v+(n:Int)).toNat else min v.toNat n)<=n
  by_cases hv:v<0
  ·rw[jw hv];omega
  ·rw[jy hv];exact Nat.min_le_right _ _
theorem Js (v:Int)(n d:Nat):(if v<0 then max (v+(n:Int)) 0 else min v (n:Int))=((sIx n d (some v):Nat):Int):=by
 show(if v<0 then max (v+(n:Int)) 0 else min v (n:Int))=(((if v<0 then(v+(n:Int)).toNat else min v.toNat n):Nat):Int)
 by_cases hv:v<0
 ·simp only[jw hv];omega
 ·simp only[jy hv];omega
theorem Ot (lo hi:Option Int)(n:Nat):C_ lo hi 1 (n:Int)=(((sIx n 0 lo:Nat):Int),((sIx n n hi:Nat):Int)):=by
 have h1:¬((1:Int)<0):=by omega
 unfold C_;simp only[h1,if_false];refine Prod.ext ?_ ?_
 ·cases lo with
  |none=>rfl
  |some v=>exact Js v n 0
 ·cases hi with
  |none=>rfl
  |some v=>exact Js v n n
theorem Ou (i j:Nat):Ad (i:Int) (j:Int) 1=j-i:=by
 unfold Ad;have h1:(1:Int)>0:=by omega
 simp only[h1,if_true,Int.ediv_one]
 split <;> omega
theorem Dh (p:IsPart v o)(h:Q o s):A6 (A8 prog w) A (Builtin.Slice.slicePartIndex v) Q E s:=by
 cases p with
 |none=>exact slicePart_none h
 |int i t=>exact slicePart_int h
theorem Jt {lo hi:Option Int}{n:Nat}{Q:Int×Int×Nat->A5->Prop}(hs:s.heap.IsSliceOf sl vl vu .none)(pl:IsPart vl lo)(pu:IsPart vu hi)
   (h:Q (((sIx n 0 lo:Nat):Int),1,sIx n n hi-sIx n 0 lo) s):A6 (A8 prog w) A (El (.ref sl) (pure (n:Int))) Q E s:=by
 obtain⟨os,hos,hcs,hds⟩:=id hs;unfold El IW;refine A2 (A2 (G7 hos hds (x:=vl) rfl (A2 (G7 hos hds (x:=vu) rfl (A2 (G7 hos hds (x:=.none) rfl (A9 ?_)))))));refine A2 (slicePart_none ?_);show A6 _ _ (if((1:Int) == 0)=true then _ else _) _ _ s;rw[jy (by decide)];refine A2 (Dh pl (A2 (Dh pu (A2 (A9 ?_)))));show A6 _ _ (match C_ lo hi 1 (n:Int) with|(lo,hi)=>pure (lo,(1:Int),Ad lo hi 1)) _ _ s;rw[Ot lo hi n];show A6 _ _ (pure (((sIx n 0 lo:Nat):Int),(1:Int),Ad ((sIx n 0 lo:Nat):Int) ((sIx n n hi:Nat):Int) 1)) _ _ s;rw[Ou];exact A9 h
theorem Ov (xs:Array A3)(i k:Nat):((D1 k).filterMap λ(m:Nat)=>xs[((i:Int)+(m:Int)*1).toNat]?).toArray=((xs.toList.drop i).take k).toArray:=by
 have e:(λ(m:Nat)=>xs[((i:Int)+(m:Int)*1).toNat]?)=λm=>xs[i+m]?:=by
  funext m
  have:((i:Int)+(m:Int)*1).toNat=i+m:=by omega
  rw[this]
 rw[e];have:=pick_run xs i k;rw[List.filterMap_map] at this;have e2:((λx=>xs[x]?)∘λx=>i+x)=λm=>xs[i+m]?:=rfl
 grind
theorem getItem_tuple_cut {lo hi:Option Int}(ht:IsTup s.heap t items)(hs:s.heap.IsSliceOf sl vl vu .none)(pl:IsPart vl lo)(pu:IsPart vu hi)
   (hw:¬(sIx items.size 0 lo=0/\sIx items.size items.size hi=items.size))
   (h:Q (.ref s.heap.objs.size) { s with heap:=s.heap.push { cls:=.type "tuple",data:=.seq ((items.toList.drop (sIx items.size 0 lo)).take (sIx items.size items.size hi-sIx items.size 0 lo)).toArray } })
   (hsz:items.size<=B8):A6 (A8 prog w) A (W5 (.ref t) (.ref sl)) Q E s:=by
 have htake:sizeOk (.seq ((items.toList.drop (sIx items.size 0 lo)).take (sIx items.size items.size hi-sIx items.size 0 lo)).toArray):=by
  show((items.toList.drop (sIx items.size 0 lo)).take (sIx items.size items.size hi-sIx items.size 0 lo)).toArray.size<=B8;rw[F5,Y6,U4,AU];omega
 have hj:sIx items.size items.size hi<=items.size:=sIx_le _ _ (B7 _) hi;obtain⟨os,hos,hcs,hds⟩:=id hs;have hTs:s.TypeIs (.ref sl) "slice":=⟨os,hos,hcs⟩;unfold W5
 try with_reducible refine P8 ?_
 first|refine A2 (A9 ?_)|skip
 refine A2 (wpAny_sequenceKey ht.typeIs (by decide) ?_)
 refine A2 (T9 (name:=C7 "__getitem__") ht.typeIs BC
   (P6 BC ht.typeIs entry_tuple_getitem ?_ (args_tuple_getitem _ _)))
 show A6 _ _ (FZ (.ref t)>>=_) _ _ s;refine A2 (tupleItemsOf_ ht ?_);refine A2 (x5 hTs ?_);rw[jw (by decide)];refine A2 (Jt hs pl pu ?_)
 have hno:¬((((sIx items.size 0 lo:Nat):Int) == 0&&(1:Int) == 1&&(sIx items.size items.size hi-sIx items.size 0 lo) == items.size)=true):=by
  intro q;rw[R0,R0] at q;have q1:((sIx items.size 0 lo:Nat):Int)=0:=eq_of_beq q.1.1;have q2:sIx items.size items.size hi-sIx items.size 0 lo=items.size:=eq_of_beq q.2;exact hw ⟨by omega,by omega⟩
 show A6 _ _ (if(((sIx items.size 0 lo:Nat):Int) == 0&&(1:Int) == 1&&(sIx items.size items.size hi-sIx items.size 0 lo) == items.size)=true then _ else _) _ _ s;rw[jy hno,Ov]
 first
   |exact A2 (m:=Af _) (R8 (A9 ⟨_,rfl,A9 h⟩) htake)
   |exact A2 (m:=Af _) (R8 (A2 (A9 (A9 ⟨_,rfl,A9 h⟩))) htake)
   |exact A2 (A2 (m:=Af _) (R8 (A9 (A9 ⟨_,rfl,A9 h⟩)) htake))
   |exact A2 (A2 (m:=Af _) (R8 (A9 ⟨_,rfl,A9 h⟩) htake))
end
end HT
namespace L2
open PySem PySem.Spec PyProof.Rows
abbrev TO:=St->Hp->(Option Int->Hp->Prop)->Prop
def PO (X:Cx)(e:Option Expr)(t:TO):Prop:=
 ∀ (jd : List (A0 × Obj)) (s : A5) (σ : St) (H : Hp) (Q : Option Int -> Hp -> Prop), Inv X jd σ H s -> t σ H Q ->
   A6 (A8 X.prog X.w) X.A (evalPart e X.env) (λu s'=>∃o H',Inv X jd σ H' s'/\IsPart u o/\Q o H') X.xe s
def Ow:TO:=λ_ H Q=>Q none H
def tPart (t:TE):TO:=λσ H Q=>t σ H λx H1=>∃i,x=.int i/\Q (some i) H1
section
variable {X:Cx}{e:Expr}{te:TE}{lo hi:Option Expr}{tl th:TO}{pos p2:Pos}
theorem Ju:PO X none Ow:=by
 intro jd s σ H Q I h;rw[evalPart_none];exact A9 ⟨none,H,I,.none,h⟩
theorem Jv (h:PE X e te):PO X (some e) (tPart te):=by
 intro jd s σ H Q I hw;rw[evalPart_some];refine thn (h jd s σ H _ I hw) λu s1 ⟨x,H1,I1,r1,q1⟩=>?_;obtain⟨i,rfl,q⟩:=q1;obtain⟨t,rfl⟩:=r1;exact⟨some i,H1,I1,.int i t,q⟩
def SlR (X:Cx)(r:V->Option Int->Option Int->Hp->VK->Prop):Prop:=
 ∀ (jd : List (A0 × Obj)) (s : A5) (σ : St) (H : Hp) (x : V) (v vl vu : A3) (lo hi : Option Int) (sl : A0) (Q : VK), Inv X jd σ H s -> RelV x v -> s.heap.IsSliceOf sl vl vu .none -> IsPart vl lo -> IsPart vu hi -> r x lo hi H Q ->
   ∃T id,typeLookup (.type T) "__getitem__"=pure (some (.builtin id))/\s.TypeIs v T/\A6 (A8 X.prog X.w) X.A (W5 v (.ref sl)) (EP X jd σ Q) X.xe s
theorem SlR.or (h:SlR X r)(h':SlR X r'):SlR X (λx lo hi H Q=>r x lo hi H Q\/r' x lo hi H Q):=by
 intro jd s σ H x v vl vu lo hi sl Q I rx hs pl pu q;rcases q with q|q
 ·exact h jd s σ H x v vl vu lo hi sl Q I rx hs pl pu q
 ·exact h' jd s σ H x v vl vu lo hi sl Q I rx hs pl pu q
def tSl (r:V->Option Int->Option Int->Hp->VK->Prop)(te:TE)(tl th:TO):TE:=λσ H Q=>te σ H λx H1=>tl σ H1 λl H2=>th σ H2 λu H3=>r x l u H3 Q
theorem Jw (hr:SlR X r)(he:PE X e te)(hl:PO X lo tl)(hu:PO X hi th):PE X (.Subscript e (.Slice lo hi none p2) pos) (tSl r te tl th):=by
 intro jd s σ H Q I h;refine Subscript_ (thn (he jd s σ H _ I h) λv s1 ⟨x,H1,I1,r1,q1⟩=>?_);refine wpAny_Slice (thn (hl jd s1 σ H1 _ I1 q1) λvl s2 ⟨l,H2,I2,pl,q2⟩=>thn (hu jd s2 σ H2 _ I2 q2) λvu s3 ⟨u,H3,I3,pu,q3⟩=>?_);rw[evalPart_none];refine A9 ?_;have I4:Inv X jd σ H3 { s3 with heap:=s3.heap.push { cls:=.type "slice",data:=.fields #[vl,vu,.none] } }:=I3.kept (t':=s3.toks) λb ob q=>C1 _ q;obtain⟨T,id,hT,ht,hg⟩:=hr jd { s3 with heap:=s3.heap.push { cls:=.type "slice",data:=.fields #[vl,vu,.none] } } σ H3 x v vl vu l u s3.heap.objs.size Q I4 r1 (Gc ..) pl pu q3;show A6 (A8 X.prog X.w) X.A (subscriptTail e (.Slice lo hi none p2) v (.ref s3.heap.objs.size)) (EP X jd σ Q) X.xe { s3 with heap:=s3.heap.push { cls:=.type "slice",data:=.fields #[vl,vu,.none] } };exact tail_any (ops:=[.ref s3.heap.objs.size,v]) ht hT hg (by with_unfolding_all rfl)
def cutV (xs:List V)(lo hi:Option Int):List V:=(xs.drop (HT.sIx xs.length 0 lo)).take (HT.sIx xs.length xs.length hi-HT.sIx xs.length 0 lo)
theorem Jx (xs:List V)(lo hi:Option Int):(cutV xs lo hi).length<=xs.length:=by
 unfold cutV;rw[Y6,U4];omega
def rSlT (K:A7):V->Option Int->Option Int->Hp->VK->Prop:=λx lo hi H Q=>∃a xs,x=.ref a/\SqT K H a xs/\
 ¬(HT.sIx xs.length 0 lo=0/\HT.sIx xs.length xs.length hi=xs.length)/\∀p,H p=none->Q (.ref p) (upd H p (.tup (cutV xs lo hi)))
theorem sl_tup:SlR X (rSlT X.K):=by
 intro jd s σ H x v vl vu lo hi sl Q I rx hs pl pu h;obtain⟨a,xs,rfl,hx,hw,q⟩:=h;cases rx;obtain⟨jh,r,ht,hz⟩:=I.tuple hx;have hlen:jh.toArray.size=xs.length:=by rw[F5];exact r.length.symm
 refine⟨"tuple",_,PyProof.Rows.slot_tuple_getitem.lookup,ht.typeIs,?_⟩;refine HT.getItem_tuple_cut ht hs pl pu (by rw[hlen];exact hw) ?_ (by rw[hlen];exact hz);rw[hlen];refine⟨.ref s.heap.objs.size,_,I.laid (t':=s.toks) (o:=.tup (cutV xs lo hi)) (λb ob q=>C1 _ q) (B7 _) ?_,rfl,q _ (I.hok.fresh (B7 _))⟩;exact⟨G8 (Jx xs lo hi) hz,_,(r.drop (HT.sIx xs.length 0 lo)).take (HT.sIx xs.length xs.length hi-HT.sIx xs.length 0 lo),Z2.new _ _⟩
def rCatT (K:A7):R2:=λx y H Q=>∃a b xs ys,x=.ref a/\y=.ref b/\SqT K H a xs/\SqT K H b ys/\xs≠[]/\xs.length+ys.length<=B8/\
 (ys=[]->Q (.ref a) H)/\(ys≠[]->∀p,H p=none->Q (.ref p) (upd H p (.tup (xs++ys))))
theorem Vals.nil_iff (r:Vals xs us):us=[]↔xs=[]:=by
 cases r with
 |nil=>simp
 |cons _ _=>simp
theorem Ox:OpR X (U2 .Add) (rCatT X.K):=by
 intro jd s σ H x y v u Q I rx ry h;obtain⟨a,b,xs,ys,rfl,rfl,ha,hb,hx,hz,q1,q2⟩:=h;cases rx;cases ry;obtain⟨jh,r1,p1,_⟩:=I.tuple ha;obtain⟨its2,r2,p2,_⟩:=I.tuple hb;refine HT.cat_tup p1 p2 (λz=>hx (r1.nil_iff.mp z)) (λz=>⟨.ref a,H,I,rfl,q1 (r2.nil_iff.mp z)⟩) (λz=>?_) (by rw[<- r1.length,<- r2.length];exact hz);refine⟨.ref s.heap.objs.size,_,I.laid (t':=s.toks) (o:=.tup (xs++ys)) (λb ob q=>C1 _ q) (B7 _) ?_,rfl,q2 (λw=>z (r2.nil_iff.mpr w)) _ (I.hok.fresh (B7 _))⟩;exact⟨by rw[D6];exact hz,_,r1.append r2,Z2.new _ _⟩
end
def ixN (n:Nat)(i:Int):Option Nat:=if 0<=i then(if i<n then some i.toNat else none) else if -(n:Int)<=i then some (i+n).toNat else none
def atI {α:Type}(xs:List α)(i:Int):Option α:=(ixN xs.length i).bind λj=>xs[j]?
theorem Gs (h:ixN n i=some j):seqIndex? i n=some j/\j<n/\-(n:Int)<=i/\i<n:=by
 unfold ixN at h
 by_cases h0:0<=i
 ·rw[jw h0] at h
  by_cases h1:i<n
  ·rw[jw h1] at h;have e:i.toNat=j:=E9 h;exact⟨by rw[seqIndex_of h0 h1,e],by omega,by omega,h1⟩
  ·rw[jy h1] at h;cases h
 ·rw[jy h0] at h
  by_cases h1:-(n:Int)<=i
  ·rw[jw h1] at h;have e:(i+n).toNat=j:=E9 h;exact⟨by rw[seqIndex_neg (by omega) h1,e],by omega,h1,by omega⟩
  ·rw[jy h1] at h;cases h
theorem Gu {α:Type}{xs:List α}{i:Int}{v:α}(h:atI xs i=some v):∃j,seqIndex? i xs.length=some j/\xs[j]?=some v/\j<xs.length/\-(xs.length:Int)<=i/\i<xs.length:=by
 unfold atI at h;cases e:ixN xs.length i with
 |none=>rw[e] at h;cases h
 | some j =>
  rw[e] at h;obtain⟨h1,h2,h3,h4⟩:=Gs e;exact⟨j,h1,h,h2,h3,h4⟩
theorem Di {α:Type}{xs:List α}{j:Nat}{v:α}(h:xs[j]?=some v):atI xs (j:Int)=some v:=by
 have hj:j<xs.length:=(E6.mp h).1
 have e:ixN xs.length (j:Int)=some j:=by
  unfold ixN;rw[jw (by omega),jw (by omega)];simp
 unfold atI;rw[e];exact h
def Jy (b:Expr):Prop:=∀o i,subscripted b false o i=operate [o,i] (W5 o i)
def IxR (X:Cx)(r:R2):Prop:=
 ∀ (value slice : Expr) (jd : List (A0 × Obj)) (s : A5) (σ : St) (H : Hp) (x y : V) (v u : A3) (Q : VK), Inv X jd σ H s -> RelV x v -> RelV y u -> r x y H Q ->
   subscripted slice false v u=operate [v,u] (W5 v u)->A6 (A8 X.prog X.w) X.A (subscriptTail value slice v u) (EP X jd σ Q) X.xe s
def MtR (X:Cx)(id:String)(r:V->List V->Hp->VK->Prop):Prop:=
 ∀ (jd : List (A0 × Obj)) (s : A5) (σ : St) (H : Hp) (x : V) (xs : List V) (v : A3) (us : List A3) (Q : VK), Inv X jd σ H s -> RelV x v -> Vals xs us -> r x xs H Q ->
   A6 (A8 X.prog X.w) X.A (call (.builtin id) (v::us)) (EP X jd σ Q) X.xe s
section
variable {X:Cx}{a b:Expr}{ta tb:TE}{pos:Pos}
theorem IxR.or (h:IxR X r)(h':IxR X r'):IxR X (λx y H Q=>r x y H Q\/r' x y H Q):=by
 intro value slice jd s σ H x y v u Q I rx ry q hs;rcases q with q|q
 ·exact h value slice jd s σ H x y v u Q I rx ry q hs
 ·exact h' value slice jd s σ H x y v u Q I rx ry q hs
theorem Ak (hr:IxR X r)(ha:PE X a ta)(hb:PE X b tb)(hs:Jy b):PE X (.Subscript a b pos) (tOp r ta tb):=by
 intro jd s σ H Q I h;exact Subscript_ (binT ha hb I h λv u s2 x y H2 I2 rx ry q=>hr a b jd s2 σ H2 x y v u Q I2 rx ry q (hs _ _))
def rIxL (K:A7):R2:=λx y H Q=>∃p xs i v,x=.ref p/\y=.int i/\SqL K H p xs/\atI xs i=some v/\Q v H
def rIxT (K:A7):R2:=λx y H Q=>∃p xs i v,x=.ref p/\y=.int i/\SqT K H p xs/\atI xs i=some v/\Q v H
def rIxS:R2:=λx y H Q=>∃z i c,x=.str z/\y=.int i/\z.length<=B8/\atI z.cps.toList i=some c/\Q (.str ⟨#[c]⟩) H
theorem Am:IxR X (rIxL X.K):=by
 intro value slice jd s σ H x y v u Q I rx ry h hs;obtain⟨p,xs,i,z,rfl,rfl,hq,he,q⟩:=h;cases rx;obtain⟨t,rfl⟩:=ry;obtain⟨jh,r,pl,hz⟩:=I.list hq;obtain⟨j,h1,h2,h3,h4,h5⟩:=Gu he;obtain⟨w,ew,rw'⟩:=r.get h2;have hl:=r.length;have hn:=AZ;have fin:EP X jd σ Q w s:=⟨z,H,I,rw',q⟩
 by_cases h0:0<=i
 ·have hj:i.toNat=j:=by
   rw[seqIndex_of h0 h5] at h1;exact E9 h1
  exact item_listR pl.isList h0 (by omega) (by rw[hj];simpa using ew) fin hs
 ·have hj:(i+(jh.toArray.size:Int)).toNat=j:=by
   rw[seqIndex_neg (by omega) h4] at h1;rw[F5,<- hl];exact E9 h1
  exact subscriptTail_builtinR (x:=w) pl.isList.typeIs slot_list_getitem.lookup
    (wpAny_getItem_list_neg (Q:=λr s'=>r=w/\EP X jd σ Q r s') pl.isList (by omega) (by rw[F5] <;> omega) (by omega) (by rw[hj];simpa using ew) ⟨rfl,fin⟩) hs
theorem ix_tup:IxR X (rIxT X.K):=by
 intro value slice jd s σ H x y v u Q I rx ry h hs;obtain⟨p,xs,i,z,rfl,rfl,hq,he,q⟩:=h;cases rx;obtain⟨t,rfl⟩:=ry;obtain⟨jh,r,pl,hz⟩:=I.tuple hq;obtain⟨j,h1,h2,h3,h4,h5⟩:=Gu he;obtain⟨w,ew,rw'⟩:=r.get h2;have hl:=r.length;have hn:=AZ;have fin:EP X jd σ Q w s:=⟨z,H,I,rw',q⟩
 exact subscriptTail_builtinR (x:=w) pl.typeIs slot_tuple_getitem.lookup
   (getItem_tuple (j:=j) (Q:=λr s'=>r=w/\EP X jd σ Q r s') pl (by omega) (by omega) (by grind) (by grind) ⟨rfl,fin⟩) hs
theorem ix_str:IxR X rIxS:=by
 intro value slice jd s σ H x y v u Q I rx ry h hs;obtain⟨z,i,c,rfl,rfl,hz,he,q⟩:=h;obtain⟨t,rfl⟩:=rx;obtain⟨t',rfl⟩:=ry;obtain⟨j,h1,h2,h3,h4,h5⟩:=Gu he;have hl:z.cps.toList.length=z.length:=by simp[Str.length]
 rw[hl] at h1 h4 h5;have hn:=AZ
 exact tail_any (typeIs_str s z t) slot_str_getitem.lookup (getItem_str (c:=c) (by
  have e1:decide (i < -(2 ^ 63:Int))=false:=jv (by omega);have e2:decide (i>=2 ^ 63)=false:=jv (by omega)
  rw[e1,e2,Bool.or_false]) (by grind) ⟨.str ⟨#[c]⟩,H,I.tok _,⟨_,rfl⟩,q⟩) hs
def rIx (K:A7):R2:=λx y H Q=>rIxL K x y H Q\/rIxT K x y H Q\/rIxS x y H Q
theorem ix_seq:IxR X (rIx X.K):=Am.or (ix_tup.or ix_str)
theorem Oy (jh:List A3)(n j:Nat)(u:A3):R4 (·.setIfInBounds j u) { cls:=.type "list",data:=.seq jh.toArray n }={ cls:=.type "list",data:=.seq (jh.set j u).toArray n }:=by
 simp[R4]
theorem Inv.lst (I:Inv X jd σ H s)(h:H p=some (.lst xs)) :
   ∃(jh:List A3) (n:Nat),Vals xs jh/\s.heap.get? p=some { cls:=.type "list",data:=.seq jh.toArray n }/\xs.length<=B8:=by
 obtain⟨z,jh,n,r,e⟩:=I.hok p _ h;exact⟨jh,n,r,e,z⟩
theorem Inv.lstUpd {jh its':List A3}(I:Inv X jd σ H s)(h:H p=some (.lst xs))
   (ho:s.heap.get? p=some { cls:=.type "list",data:=.seq jh.toArray n }) (hf:f { cls:=.type "list",data:=.seq jh.toArray n }={ cls:=.type "list",data:=.seq its'.toArray n' }) (r:Vals ys its') (hz:ys.length<=B8) (t:Nat) :
   Inv X jd σ (upd H p (.lst ys)) { s with heap:=s.heap.update p f,toks:=t }:=by
 have e:(s.heap.update p f).get? p=some { cls:=.type "list",data:=.seq its'.toArray n' }:=by
  rw[FT f ho (by rw[hf] <;> rfl),hf]
 refine I.write (x:=p) (e:=p) (by rw[h];trivial) (.inl rfl) (λb u hb q=>(Heap.get?_update_other _ _ (Ne.symm hb)).trans q) ⟨_,e⟩ ?_;exact⟨hz,its',n',r,e⟩
def Dj:V->V->V->Hp->(Hp->Prop)->Prop:=λo i v H Q=>∃p xs k j,o=.ref p/\i=.int k/\H p=some (.lst xs)/\ixN xs.length k=some j/\Q (upd H p (.lst (xs.set j v)))
theorem Gv:PSet X Dj:=by
 intro jd s σ H o i v ov iv u Q I ro ri rv h;obtain⟨p,xs,k,j,rfl,rfl,hp,hj,q⟩:=h;cases ro;obtain⟨t,rfl⟩:=ri;obtain⟨jh,n,r,ho,hz⟩:=I.lst hp;obtain⟨h1,h2,h3,h4⟩:=Gs hj;have hl:=r.length;have hn:=AZ
 have I':Inv X jd σ (upd H p (.lst (xs.set j v))) { s with heap:=s.heap.update p (R4 (·.setIfInBounds j u)) }:=
  I.lstUpd hp ho (Oy jh n j u) (r.set rv j) (by grind) s.toks
 by_cases h0:0<=k
 ·have hk:k.toNat=j:=by
   rw[seqIndex_of h0 h4] at h1;exact E9 h1
  exact PySem.W.ki_setAt ho h0 (by omega) (by grind) (by grind)
 ·have hk:(k+(jh.toArray.size:Int)).toNat=j:=by
   rw[seqIndex_neg (by omega) h3] at h1;rw[F5,<- hl];exact E9 h1
  exact PySem.W.ki_setBack ho (by omega) (by rw[F5,<- hl];exact h3) (by omega) (by rw[hk];exact⟨_,I',q⟩)
theorem Oz (lo hi:Option Int)(n:Nat):(AH lo hi none n).1=((HT.sIx n 0 lo:Nat):Int)/\(AH lo hi none n).2.1=((HT.sIx n n hi:Nat):Int)/\(AH lo hi none n).2.2=1:=by
 refine⟨?_,?_,rfl⟩
 ·cases lo with
  |none=>simp[AH,HT.sIx]
  | some i =>
   simp only[AH,HT.sIx,Option.getD_none,show(1:Int)>0 by decide,if_true]
   by_cases h:i<0
   ·simp only[h,if_true] <;> omega
   ·simp only[h,if_false] <;> omega
 ·cases hi with
  |none=>simp[AH,HT.sIx]
  | some i =>
   simp only[AH,HT.sIx,Option.getD_none,show(1:Int)>0 by decide,if_true]
   by_cases h:i<0
   ·simp only[h,if_true] <;> omega
   ·simp only[h,if_false] <;> omega
theorem OA (jh:List A3)(lo hi:Option Int):slicePick jh.toArray lo hi none=((jh.drop (HT.sIx jh.length 0 lo)).take (HT.sIx jh.length jh.length hi-HT.sIx jh.length 0 lo)).toArray:=by
 obtain⟨h1,h2,h3⟩:=Oz lo hi jh.toArray.size;unfold slicePick;rw[h1,h2,h3];simp only[sliceRange_one,pick_run,F5] <;> rfl
def rSlL (K:A7):V->Option Int->Option Int->Hp->VK->Prop:=λx lo hi H Q=>∃a xs,x=.ref a/\SqL K H a xs/\∀p,H p=none->Q (.ref p) (upd H p (.lst (cutV xs lo hi)))
theorem Jz:SlR X (rSlL X.K):=by
 intro jd s σ H x v vl vu lo hi sl Q I rx hs pl pu h;obtain⟨a,xs,rfl,hx,q⟩:=h;cases rx;obtain⟨jh,r,ht,hz⟩:=I.list hx;have hlen:=r.length;refine⟨"list",_,slot_list_getitem.lookup,ht.isList.typeIs,?_⟩;refine wpAny_getItem_list_slice ht.isList hs pl pu .none (by simp) ?_ (by rw[F5] <;> omega)
 rw[OA,<- hlen];refine⟨.ref s.heap.objs.size,_,I.laid (t':=s.toks) (o:=.lst (cutV xs lo hi)) (λb ob q=>C1 _ q) (B7 _) ?_,rfl,q _ (I.hok.fresh (B7 _))⟩;exact⟨G8 (Jx xs lo hi) hz,_,0,(r.drop (HT.sIx xs.length 0 lo)).take (HT.sIx xs.length xs.length hi-HT.sIx xs.length 0 lo),F4 _ rfl⟩
def T4:V->Bool
 |.non=>true
 |.bl _=>true
 |.int _=>true
 |.str _=>true
 |_=>false
def eqV:V->V->Bool
 |.non,.non=>true
 |.bl a,.bl b=>a == b
 |.bl a,.int b=>(if a then 1 else 0) == b
 |.int a,.bl b=>a == (if b then 1 else 0)
 |.int a,.int b=>a == b
 |.str a,.str b=>a == b
 |_,_=>false
theorem JA (ry:RelV y u)(rx:RelV x v)(fy:T4 y=true)(fx:T4 x=true):AV A s u v (eqV y x):=by
 cases y with
 | non =>
  cases ry;cases x with
  |non=>cases rx;exact SeqAt.EqAt.same _
  |bl b=>cases rx;exact SeqAt.EqAt.none_bool b
  |int b=>obtain⟨t,rfl⟩:=rx;exact SeqAt.EqAt.none_int b t
  |str b=>obtain⟨t,rfl⟩:=rx;exact SeqAt.EqAt.none_str b t
  |_=>exact absurd (show false=true from fx) Q9
 | bl a =>
  cases ry;cases x with
  |non=>cases rx;exact SeqAt.EqAt.bool_none a
  |bl b=>cases rx;exact SeqAt.EqAt.bool_bool a b
  |int b=>obtain⟨t,rfl⟩:=rx;exact SeqAt.EqAt.bool_int a b t
  |str b=>obtain⟨t,rfl⟩:=rx;exact SeqAt.EqAt.bool_str a b t
  |_=>exact absurd (show false=true from fx) Q9
 | int a =>
  obtain⟨t',rfl⟩:=ry;cases x with
  |non=>cases rx;exact SeqAt.EqAt.int_none a t'
  |bl b=>cases rx;exact SeqAt.EqAt.int_bool a t' b
  |int b=>obtain⟨t,rfl⟩:=rx;exact SeqAt.EqAt.int_int a t' b t
  |str b=>obtain⟨t,rfl⟩:=rx;exact SeqAt.EqAt.int_str a t' b t
  |_=>exact absurd (show false=true from fx) Q9
 | str a =>
  obtain⟨t',rfl⟩:=ry;cases x with
  |non=>cases rx;exact SeqAt.EqAt.str_none a t'
  |bl b=>cases rx;exact SeqAt.EqAt.str_bool a t' b
  |int b=>obtain⟨t,rfl⟩:=rx;exact SeqAt.EqAt.str_int a t' b t
  |str b=>obtain⟨t,rfl⟩:=rx;exact SeqAt.EqAt.str_str a t' b t
  |_=>exact absurd (show false=true from fx) Q9
 |_=>exact absurd (show false=true from fy) Q9
theorem OB:OpR X (L6 .NotIn) (λx y H Q=>∃i j,x=.str i/\y=.str j/\Q (.bl (!(!(BH j i 0 j.length 1).isEmpty))) H):=by
 intro jd s σ H x y v u Q I rx ry h;obtain⟨i,j,rfl,rfl,q⟩:=h;obtain⟨t,rfl⟩:=rx;obtain⟨t',rfl⟩:=ry;exact notIn_str ⟨.bl _,H,I,rfl,q⟩
theorem JB:M6 X (.builtin "len") (λxs H Q=>∃p ys,xs=[.ref p]/\(SqL X.K H p ys\/SqT X.K H p ys)/\Q (.int ys.length) H):=by
 intro jd s σ H xs us Q I r h;obtain⟨p,ys,rfl,hq,q⟩:=h;obtain⟨u,rfl,rx⟩:=u5 r;cases rx;have hn:=AZ;rcases hq with hq|hq
 ·obtain⟨jh,r',pl,hz⟩:=I.list hq;have hlen:=r'.length;exact Calls.call_len_list pl.isList (by simp only[F5] <;> omega) ⟨.int ys.length,H,I.tok _,⟨s.toks+1,by rw[F5,hlen]⟩,q⟩
 ·obtain⟨jh,r',pl,hz⟩:=I.tuple hq;have hlen:=r'.length;exact len_tuple pl (by simp only[F5] <;> omega) ⟨.int ys.length,H,I.tok _,⟨s.toks+1,by rw[F5,hlen]⟩,q⟩
theorem OC:M6 X (.builtin "len") (λxs H Q=>∃z,xs=[.str z]/\z.length<=B8/\Q (.int z.length) H):=by
 intro jd s σ H xs us Q I r h;obtain⟨z,rfl,hz,q⟩:=h;obtain⟨u,rfl,t,rfl⟩:=u5 r;have hn:=AZ;exact len_str (by omega) ⟨.int z.length,H,I.tok _,⟨_,rfl⟩,q⟩
theorem M6.or (h:M6 X f r)(h':M6 X f r'):M6 X f (λxs H Q=>r xs H Q\/r' xs H Q):=by
 intro jd s σ H xs us Q I rs q;rcases q with q|q
 ·exact h jd s σ H xs us Q I rs q
 ·exact h' jd s σ H xs us Q I rs q
theorem OE:M6 X (.type "list") (λxs H Q=>∃p ys,xs=[.ref p]/\(SqL X.K H p ys\/SqT X.K H p ys)/\∀l,H l=none->Q (.ref l) (upd H l (.lst ys))):=by
 intro jd s σ H xs us Q I r h;obtain⟨p,ys,rfl,hq,q⟩:=h;obtain⟨u,rfl,rx⟩:=u5 r;cases rx
 have fin:∀(jh:List A3),Vals ys jh->ys.length<=B8->∀(h':B5) (c':Nat),(∀b o',s.heap.get? b=some o'->h'.get? b=some o')->
     h'.get? s.heap.objs.size=some { cls:=.type "list",dict:=none,data:=.seq jh.toArray c',slots:=#[] }->EP X jd σ Q (.ref s.heap.objs.size) { s with heap:=h' }:=λjh r' hz h' c' kp e=>
   ⟨.ref s.heap.objs.size,_,I.laid (t':=s.toks) kp (B7 _) (show J4 X.prog X.w _ h' _ (.lst ys) from⟨hz,jh,c',r',e⟩),rfl,q _ (I.hok.fresh (B7 _))⟩
 rcases hq with hq|hq
 ·obtain⟨jh,r',pl,hz⟩:=I.list hq;have hlen:=r'.length;obtain⟨o,ho,hc,n,hd⟩:=pl.isList;exact call_list_seq p (.inl rfl) ho hc hd (λh' c' kp e=>fin jh r' hz h' c' kp e) (by simp only[F5] <;> omega)
 ·obtain⟨jh,r',pl,hz⟩:=I.tuple hq;have hlen:=r'.length;obtain⟨o,ho,hc,n,hd⟩:=pl;exact call_list_seq p (.inr rfl) ho hc hd (λh' c' kp e=>fin jh r' hz h' c' kp e) (by simp only[F5] <;> omega)
theorem OF:M6 X (.type "tuple") (λxs H Q=>∃p ys,xs=[.ref p]/\((SqL X.K H p ys/\∀l,H l=none->Q (.ref l) (upd H l (.tup ys)))\/(SqT X.K H p ys/\Q (.ref p) H))):=by
 intro jd s σ H xs us Q I r h;obtain⟨p,ys,rfl,h⟩:=h;obtain⟨u,rfl,rx⟩:=u5 r;cases rx;rcases h with⟨hq,q⟩|⟨hq,q⟩
 ·obtain⟨jh,r',pl,hz⟩:=I.list hq;have hlen:=r'.length;refine call_tuple_list pl.isList (λh' kp=>?_) (by simp only[F5] <;> omega)
  have I1:Inv X jd σ H { s with heap:=h' }:=I.kept (t':=s.toks) kp
  have I2:Inv X jd σ (upd H h'.objs.size (.tup ys)) { s with heap:=h'.push { cls:=.type "tuple",data:=.seq jh.toArray } }:=
   I1.laid (t':=s.toks) (λb o e=>C1 _ e) (B7 _) (show J4 X.prog X.w _ _ _ (.tup ys) from⟨hz,jh,r',Z2.new _ _⟩)
  exact⟨.ref h'.objs.size,_,I2,rfl,q _ (I1.hok.fresh (B7 _))⟩
 ·obtain⟨jh,r',pl,hz⟩:=I.tuple hq;exact call_tuple_same pl ⟨.ref p,H,I,rfl,q⟩
def tyV (K:A7)(T:String)(x:V)(H:Hp):Prop:=match x with
 |.str _=>T="str"
 |.int _=>T="int"
 |.ref p=>(T="list"/\∃xs,SqL K H p xs)\/(T="tuple"/\((∃o,K.lookup p=some o/\o.cls=.type "tuple"/\o.dict=none)\/∃xs,H p=some (.tup xs)))\/
     (T="dict"/\((∃ji,H p=some (.dK ji))\/∃ji,H p=some (.dT ji)))\/(T="set"/\∃S n,H p=some (.set S n))
 |_=>False
theorem tyV_is (I:Inv X jd σ H s)(r:RelV x v)(ty:tyV X.K T x H) :
   s.TypeIs v T/\∀a,v=.ref a->∃ob,s.heap.get? a=some ob/\ob.dict=none:=by
 cases x with
 | str z =>
  obtain⟨t,rfl⟩:=r;cases(show T="str" from ty);exact⟨typeIs_str s z t,λ_ e=>nomatch e⟩
 | int i =>
  obtain⟨t,rfl⟩:=r;cases(show T="int" from ty);exact⟨typeIs_int s i t,λ_ e=>nomatch e⟩
 | ref p =>
  cases r;rcases ty with⟨rfl,xs,hq⟩|⟨rfl,hk⟩|⟨rfl,hk⟩|⟨rfl,S,n,hk⟩
  ·obtain⟨jh,_,pl,_⟩:=I.list hq;refine⟨pl.isList.typeIs,λa e=>?_⟩;cases e;obtain⟨o,n,e,c,hd,_⟩:=pl;exact⟨o,e,hd⟩
  ·rcases hk with⟨o,hk,hc,hd⟩|⟨xs,hk⟩
   ·refine⟨⟨o,I.kIn p o hk,hc⟩,λa e=>?_⟩;cases e;exact⟨o,I.kIn _ o hk,hd⟩
   ·obtain⟨_,_,_,o,e,c,_⟩:=(show J4 X.prog X.w H s.heap p (.tup xs) from I.hok p _ hk);refine⟨⟨o,e,(BK c).1⟩,λa e2=>?_⟩;cases e2;exact⟨o,e,(BK c).2⟩
  ·have z:∃o,s.heap.get? p=some o/\o.ExactDict:=by
    rcases hk with⟨ji,hk⟩|⟨ji,hk⟩
    ·obtain⟨_,_,_,_,o,_,_,e,ex,_⟩:=I.hok p _ hk;exact⟨o,e,ex⟩
    ·obtain⟨_,_,_,_,o,_,_,e,ex,_⟩:=I.hok p _ hk;exact⟨o,e,ex⟩
   obtain⟨o,e,ex⟩:=z;refine⟨⟨o,e,ex.1⟩,λa e2=>?_⟩;cases e2;exact⟨o,e,ex.2.1⟩
  ·obtain⟨o,_,_,_,e,ex,_⟩:=I.hok p _ hk;refine⟨⟨o,e,ex.1⟩,λa e2=>?_⟩;cases e2;exact⟨o,e,ex.2.1⟩
 |_=>exact i9 ty
def tBM (K:A7)(T:String)(r:V->List V->Hp->VK->Prop)(to:TE)(t:TA):TE:=λσ H Q=>to σ H λx H1=>tyV K T x H1/\t σ H1 λxs H2=>r x xs H2 Q
variable {o e:Expr}{es:List Expr}{to:TE}{t:TA}{name:Str}{apos cpos:Pos}{T id:String}{r:V->List V->Hp->VK->Prop}
theorem BP (pa:PlainAttrs T)(slot:Slot T name id)(hty:typeOf (.builtin id)=pure (.type "method_descriptor"))(hm:MtR X id r)(ho:PE X o to)(ha:PA X (e::es) t)
   (hbase:AG o name X.env (eval o X.env)=eval o X.env:=by rfl)
   (hfew:((backTo cpos (E2 (e::es) X.env)).all (λx=>!x.1)&&(backToKw cpos (x8 [] X.env)).all (λx=>x.1.isSome)
     && decide ((e::es).length+([]:List R9).length+(if([]:List R9).isEmpty then 0 else 1)<30))=true:=by rfl)
   (hline:(apos.endLine == cpos.line)=true:=by rfl) (hs:E2 (e::es) X.env=(false,eval e X.env)::E2 es X.env:=by rfl) (hplain:(backTo cpos (E2 es X.env)).any (·.1)=false:=by rfl) :
   PE X (.Call (.Attribute o name apos) (e::es) [] cpos) (tBM X.K T r to t):=by
 intro jd s σ H Q I h;refine wpAny_Call_method_late hbase hfew hline rfl (thn (ho jd s σ H _ I h) λv s1 ⟨x,H1,I1,r1,ty,q1⟩=>?_);obtain⟨h1,h2⟩:=tyV_is I1 r1 ty;refine⟨T,id,pa,slot,hty,h1,h2,?_⟩;have hA:=ha cpos jd s1 σ H1 _ I1 q1;rw[hs] at hA ⊢;refine Calls.callWith_builtin (by show(false||(backTo cpos (E2 es X.env)).any (·.1))=false;rw[hplain] <;> rfl) (Calls.evalArgs_plain ?_)
 exact thn hA λus s2 ⟨vs,H2,I2,r2,q2⟩=>hm jd s2 σ H2 x vs v us Q I2 r1 r2 q2
end
def MtM (X:Cx)(id:String)(r:V->List V->Hp->VK->Prop):Prop:=
 ∀ (jd : List (A0 × Obj)) (s : A5) (σ : St) (H : Hp) (x : V) (xs : List V) (v : A3) (us : List A3) (Q : VK), Inv X jd σ H s -> RelV x v -> Vals xs us -> r x xs H Q ->
   A6 (A8 X.prog X.w) X.A (call (.builtin id) (v::us)) (EP X jd σ Q) X.xe s
theorem Vals.one (h:Vals [x] us):∃u,us=[u]/\RelV x u:=by
 cases h with|cons r h=>cases h;exact⟨_,rfl,r⟩
theorem Vals.two (h:Vals [x,y] us):∃u v,us=[u,v]/\RelV x u/\RelV y v:=by
 cases h with|cons r h=>cases h with|cons q h=>cases h;exact⟨_,_,rfl,r,q⟩
theorem Vals.eraseIdx:∀{xs:List V} {us:List A3} (i:Nat),Vals xs us->Vals (xs.eraseIdx i) (us.eraseIdx i)
 |_,_,_,.nil=>.nil
 |_,_,0,.cons _ t=>t
 |_,_,i+1,.cons r t=>.cons r (Vals.eraseIdx i t)
theorem len_erase {α:Type}:∀(l:List α) (i:Nat),(l.eraseIdx i).length<=l.length:=by grind
section
variable {X:Cx}{jd:List (A0×Obj)}{σ:St}{H:Hp}{s:A5}{l b:A0}{xs ys zs:List V}
theorem Inv.lset {jh its':List A3}(I:Inv X jd σ H s)(hH:H l=some (.lst xs))
   (e:s.heap.get? l=some { cls:=.type "list",data:=.seq jh.toArray n }) (hf:f jh.toArray=its'.toArray) (hv:Vals ys its') (hz:ys.length<=B8) :
   Inv X jd σ (upd H l (.lst ys)) { s with heap:=s.heap.update l (R4 f),toks:=t' }:=by
 have q:=PySem.IsL.update e f;rw[hf] at q;refine I.write (x:=l) (e:=l) (by rw[hH];exact trivial) (.inl rfl) (λb' u hb hu=>(Heap.get?_update_other s.heap (R4 f) (Ne.symm hb)).trans hu) ⟨_,q⟩ ?_;exact⟨hz,its',_,hv,q⟩
theorem Inv.fresh (I:Inv X jd σ H s):H s.heap.objs.size=none:=I.hok.fresh (B7 _)
theorem Inv.lstM (I:Inv X jd σ H s)(hH:H l=some (.lst xs)):xs.length<=B8/\∃(jh:List A3) (n:Nat),Vals xs jh/\xs.length=jh.length/\s.heap.get? l=some { cls:=.type "list",data:=.seq jh.toArray n }:=by
 obtain⟨z,jh,n,r,e⟩:=I.hok l _ hH;exact⟨z,jh,n,r,r.length,e⟩
theorem JC (h:n<=B8):Eo n=false:=by
 unfold Eo;exact jv (by omega)
end
section
variable {X:Cx}
def JD:V->List V->Hp->VK->Prop:=λx vs H Q=>∃l xs y,x=.ref l/\vs=[y]/\H l=some (.lst xs)/\xs.length<B8/\Q .non (upd H l (.lst (xs++[y])))
theorem JE:MtM X "list.append" JD:=by
 intro jd s σ H x vs v us Q I rx rv h;obtain⟨l,xs,y,rfl,rfl,hH,hz,q⟩:=h;cases rx;obtain⟨u,rfl,ru⟩:=rv.one;obtain⟨z,jh,n,r,hl,e⟩:=I.lstM hH;refine call_meets F.slot_list_append ⟨_,e,rfl⟩ F.entry_list_append (F.args_list_append_2 _ _) (PySem.list_append l jh.toArray n u (by rw[F5];omega)) ⟨e,?_⟩;refine⟨.non,_,I.lset (its':=jh++[u]) hH e (by simp) (r.append (.cons ru .nil)) ?_,rfl,q⟩;rw[D6,t9];omega
def JF:V->List V->Hp->VK->Prop:=λx vs H Q=>∃l b xs zs,x=.ref l/\vs=[.ref b]/\H l=some (.lst xs)/\H b=some (.lst zs)/\xs.length+zs.length<=B8/\Q .non (upd H l (.lst (xs++zs)))
theorem OG:MtM X "list.extend" JF:=by
 intro jd s σ H x vs v us Q I rx rv h;obtain⟨l,b,xs,zs,rfl,rfl,hH,hB,hz,q⟩:=h;cases rx;obtain⟨u,rfl,ru⟩:=rv.one;cases ru;obtain⟨z,jh,n,r,hl,e⟩:=I.lstM hH;obtain⟨z2,its2,n2,r2,hl2,e2⟩:=I.lstM hB;have hsz:jh.toArray.size+its2.toArray.size<=B8:=by rw[F5,F5];omega
 have hlong:¬(!jh.toArray.isEmpty&&Eo (jh.toArray.size+its2.toArray.size))=true:=by
  rw[JC hsz,Bool.and_false];exact Q9
 refine call_meets F.slot_list_extend ⟨_,e,rfl⟩ F.entry_list_extend (F.args_list_extend_2 _ _)
   (AutoSeq1.list_extend_list_list_0 l jh.toArray n b its2.toArray n2 hlong (by grind) (by omega)) ⟨e,e2,?_⟩
 refine⟨.non,_,I.lset (its':=jh++its2) hH e (by simp) (r.append r2) ?_,rfl,q⟩
 grind
def JG:V->List V->Hp->VK->Prop:=λx vs H Q=>∃l xs i k y,x=.ref l/\vs=[.int i]/\H l=some (.lst xs)/\-(2 ^ 63)<=i/\i<2 ^ 63/\seqIndex? i xs.length=some k/\xs[k]?=some y/\Q y (upd H l (.lst (xs.eraseIdx k)))
theorem OH:MtM X "list.pop" JG:=by
 intro jd s σ H x vs v us Q I rx rv h;obtain⟨l,xs,i,k,y,rfl,rfl,hH,h1,h2,hk,hy,q⟩:=h;cases rx;obtain⟨u,rfl,ru⟩:=rv.one;obtain⟨t,rfl⟩:=ru;obtain⟨z,jh,n,r,hl,e⟩:=I.lstM hH;obtain⟨w,hw,rw'⟩:=r.get hy
 refine call_meets F.slot_list_pop ⟨_,e,rfl⟩ F.entry_list_pop (F.args_list_pop_2 _ _)
   (MeetsSeq.list_pop_at l jh.toArray n i t k w (fitsIndex_both h1 h2) (by grind) (by grind) (by grind)) ⟨e,?_⟩
 refine⟨y,_,I.lset (its':=jh.eraseIdx k) hH e ?_ (r.eraseIdx k) ?_,rw',q⟩
 ·grind
 grind
end
end L2
namespace Att
open PySem PySem.W PySem.Calls PyProof.Rows
theorem OI:∀(ns:List Int) (vs:List A3),WellAll P h vs (ns.map WData.int)->IntsAre vs ns:=by
 intro ns
 induction ns with
 | nil =>
  intro vs w;rw[List.map_nil] at w;cases w;exact .nil
 | cons n ns ih =>
  intro vs w;rw[J5] at w;cases w with
  | cons a b =>
   cases a;exact .cons _ _ (ih _ b)
theorem OJ {l:OpenLaw}(hn:l.most=some n)
   (hpre:l.row.toRowW.claim.pre args=true) (hwl:WellAll P h vals args) :
   ∃a vs ns,vals=[K8 a]/\args=[WData.list (ns.map WData.int)]/\h.get? a=some { cls:=.type "list",data:=.seq vs.toArray }/\IntsAre vs ns/\ns.length<=n:=by
 have hsh:WShape.hasAll [] args [.list .int]=true:=(pre_splitW hpre).1;have hc:l.pre.holds [] { args:=args }=true:=(pre_splitW hpre).2;obtain⟨d,r,rfl,h1,h2⟩:=hasAllW_cons hsh;obtain rfl:=hasAllW_nil h2;obtain⟨xs,rfl,h3⟩:=hasW_list h1;obtain⟨ns,rfl⟩:=items_int h3
 have hlen:ns.length<=n:=by
  unfold OpenLaw.pre at hc
  have h4:(WTm.not (.lt (.lit (.int (n:Int))) (.len (.arg 0)))).holds [] { args:=[.list (ns.map .int)] }=true:=by
   have h4:=(holds_andW hc).1;rw[hn] at h4;exact h4
  have h5:=condW_of h4 (w_not (w_lt w_lit (w_len_list (w_arg rfl))));rw[B1] at h5;refine CY λq=>?_;have q':(n:Int)<((ns.length:Nat):Int):=by omega
  first
    |(rw[ju q'] at h5;exact absurd h5 (by decide))
    |(simp at h5;omega)
 cases hwl with
 | cons w1 w2 =>
  cases w2;cases w1 with
  |list ho hall=>exact⟨_,_,ns,rfl,rfl,ho,OI ns _ hall,hlen⟩
theorem OL (l:OpenLaw)(args:List WData):l.row.toRowW.claim.post args (.bool true) args=true:=
 postW_of (r:=l.row.toRowW) (X:=(true == true))
   (show WShape.has [] (.bool true) .bool=true by first|rfl|decide|simp[WShape.has,WShape.arms,WShape.armsAll])
   (show(WTm.eq .res (.lit (.bool true))).value [] { args:=args,res:=some (.bool true),after:=args }=some (.bool (true == true)) from w_eq_bool (w_res rfl) w_lit) rfl
theorem attach_call {l:OpenLaw}
   (hn:l.most=some n) (hdf:d.params.defaults=[])
   (call:∀(w:C3) (s₀ s₁:A5) (mg mb:Str->Option A3) (fa:A0) (o:Obj) (pm cd doc:A3) (a:A0) (vs:List A3) (ns:List Int),
    Ground q loose [] XP w s₀ mg mb s₁.heap->YP w s₁.heap->
    s₁.heap.get? fa=some o->o.data=.func (docDef d.name d.params d.body d.scope pm cd doc)->s₁.heap.CodeRec cd d.name->mg d.name=some (.ref fa)->
    s₁.heap.get? a=some { cls:=.type "list",data:=.seq vs.toArray }->IntsAre vs ns->ns.length<=n->s₁.gens=#[]->
    Q7 (A8 l.prog w) callerA (.call (.ref fa) ⟨[.ref a],[]⟩) (λr s'=>r=.ok (.ret (.bool true))/\OldK s₁.heap s'.heap/\s'.os=s₁.os/\AllBare s'.gens) s₁) :
   WalkO q loose XP YP l.row.toRowW d [] (λf vs=>PySem.call f vs):=by
 intro w s₀ s₁ mg mb G Y fa o pm cd doc dV kV ho hd hcd hD hmg hg args vals as hpre hlay hrd hwl hlo;obtain rfl:dV=.none:=Dflts.none hD hdf;obtain rfl:kV=.none:=Dflts.noKw hD;obtain⟨a,vs,ns,rfl,rfl,hobj,hints,hlen⟩:=OJ hn hpre hwl;refine enter_call (codeAny_mono (call w s₀ s₁ mg mb fa o pm cd doc a vs ns G Y ho (fd_plain hd) hcd hmg hobj hints hlen hg) λr s' hq=>?_);obtain⟨rfl,h2,h3,h4⟩:=hq;exact⟨.inl ⟨.bool true,.bool true,[],rfl,λ_=>rfl,.bool true,OL l _,λ_=>⟨List.Pairwise.nil,λ_ hm=>(nomatch hm)⟩⟩,h2,h3,h4⟩
end Att
namespace L2
open PySem PySem.Spec PyProof.Rows
theorem OM (h:IntsAre vs ns):Vals (ns.map V.int) vs:=by
 induction h with
 |nil=>exact .nil
 |cons n t _ ih=>exact .cons ⟨t,rfl⟩ ih
def Only (H:Hp):Prop:=∀b,H b=none\/∃o xs,H b=some (.frz o (.lst xs))
theorem ON {K:A7}
   (KX:K.In s₁.heap) (hns:s₁.heap.Ns V3 mg) (hb:s₁.heap.Ns builtinsNs mb) (hbb:∀x:Str,x≠"__name__"->mb x=K5 x) (hlim:s₁.heap.NoLimit) (hg:s₁.gens=#[])
   (ha:s₁.heap.get? a=some { cls:=.type "list",data:=.seq vs.toArray }) (hi:IntsAre vs ns) (hl:ns.length<=B8) (hr:Room k callerA)
   (F:∀base:B5,K.In base->base.Ns V3 mg->FnOk P w K mg base CX k fa fd [x] sp) (hbind:∀(s:A5) (u:A3),BindsTo s fd ⟨[u],[]⟩ [(x,u)])
   (hsp:∀H:Hp,Only H->SqL K H a (ns.map V.int)->sp [.ref a] H (λv _=>v=.bl true) λ_ _ _=>False)
   (hCX:∀H e s',CX [] H s₁ (λ_ _ _=>False) e s'->False) :
   Q7 (A8 P w) callerA (.call (.ref fa) ⟨[.ref a],[]⟩) (λr s'=>r=.ok (.ret (.bool true))/\OldK s₁.heap s'.heap/\s'.os=s₁.os/\AllBare s'.gens) s₁:=by
 have rv:=OM hi;have lenV:=hi.length
 -- from an abstract heap in which nothing but the script may be tracked
 have core:∀H:Hp,Only H->SqL K H a (ns.map V.int)->HOk P w H s₁.heap->(∀b,H b≠none->b=a)->(H a≠none->K.lookup a=none)->
     Q7 (A8 P w) callerA (.call (.ref fa) ⟨[.ref a],[]⟩) (λr s'=>r=.ok (.ret (.bool true))/\OldK s₁.heap s'.heap/\s'.os=s₁.os/\AllBare s'.gens) s₁:=by
   intro H hO hS hok hA hK;have base_of:∀{b:A0} {o:Obj},s₁.heap.get? b=some o->H b=none->(hidT s₁.heap H).get? b=some o:=λe n=>NL e n
   have noA:∀{b:A0} {o:Obj} {es:Array DictEntry} {ep:Nat},s₁.heap.get? b=some o->o.data=.dict es ep->H b=none:=λ{b o es ep} e d=>by
    cases q:H b with
    |none=>rfl
    | some u =>
     have e':b=a:=hA b (by rw[q];simp);subst e';rw[ha] at e;cases e;have d':Data.seq vs.toArray _=Data.dict es ep:=d;cases d'
   have nsK:∀{b:A0} {m:Str->Option A3},s₁.heap.Ns b m->(hidT s₁.heap H).Ns b m:=λ{b m} ⟨o,es,ep,e,d,r⟩=>⟨o,es,ep,base_of e (noA e d),d,r⟩
   have hKb:K.In (hidT s₁.heap H):=λb o e=>base_of (KX b o e) (by
    cases q:H b with
    |none=>rfl
    | some u =>
     have e':b=a:=hA b (by rw[q];simp);subst e'
     rw[hK (by rw[q];simp)] at e;cases e)
   have hM:Mod K mg (hidT s₁.heap H):=⟨hKb,nsK hns,⟨mb,nsK hb,hbb⟩,let ⟨mc,h1,h2⟩:=hlim;⟨mc,nsK h1,h2⟩⟩;have e0:Env0 P w K mg (hidT s₁.heap H) callerA [] s₁ H:=⟨rfl,hM,λb o e=>NM e,AQ (NK _ _),trivial,λb hb=>absurd (show b∈([]:List A0) from hb) (by simp),hok,.of_eq hg,(hO N7).imp id λ⟨o,xs,e⟩=>⟨o,_,e⟩⟩;refine codeAny_mono ((F _ hKb (nsK hns)).run callerA [] s₁ H ⟨[.ref a],[]⟩ [.ref a] [.ref a] _ _ hr e0 (hbind s₁ (.ref a)) (.cons rfl .nil) (hsp H hO hS)) λr s' h=>?_;cases r with
   |error e=>exact(hCX H e s' h).elim
   | ok fl =>
    cases fl with
    |next=>exact i9 h
    |brk=>exact i9 h
    |cont=>exact i9 h
    | ret u =>
     obtain⟨v,H',os,bare,un,hok',r',q⟩:=h;have q':v=.bl true:=q;subst q';obtain rfl:u=Value.bool true:=r';refine⟨rfl,OldK.of_keep λb o e=>?_,os,bare⟩;cases q:H b with
     |none=>exact un.keep b o e q (by intro z;exact absurd (show b∈([]:List A0) from z) (by simp)) (by simp)
     | some u =>
      rcases hO b with z|⟨ob,xs,z⟩
      ·rw[q] at z;cases z
      ·have z2:=un.frzs b ob _ z;obtain⟨e1,_⟩:=hok b _ z;obtain⟨e2,_⟩:=hok' b _ z2;rw[e] at e1;cases e1;exact e2
 cases hk:K.lookup a with
 | some o =>
  -- the script is one of the module's own objects
  have e:=KX a o hk;rw[ha] at e;cases e;refine core (λ_=>none) (λ_=>.inl rfl) (.inr ⟨_,vs.toArray,_,hk,rfl,rfl,rfl,by rw[F5,lenV];exact hl,by simpa using rv⟩) (λb u z=>by have z':(none:Option HO)=some u:=z;cases z') (λb z=>absurd rfl z) λz=>absurd rfl z
 | none =>
  refine core (λb=>if b=a then some (.frz { cls:=.type "list",data:=.seq vs.toArray } (.lst (ns.map V.int))) else none) (λb=>?_) (.inl (.inr ⟨{ cls:=.type "list",data:=.seq vs.toArray },jw rfl⟩)) (λb u z=>?_) (λb z=>?_) λ_=>hk
  ·by_cases hb:b=a
   ·exact .inr ⟨_,_,jw hb⟩
   ·exact .inl (jy hb)
  ·by_cases hb:b=a
   ·have z':=(jw hb).symm.trans z;cases z';subst hb;exact⟨ha,by rw[B1];exact hl,vs,_,rv,ha⟩
   ·have z':=(jy hb).symm.trans z;cases z'
  ·by_cases hb:b=a
   ·exact hb
   ·exact absurd (jy hb) z
abbrev KOf {K:A7}{h:B5}(_:K.In h):A7:=K
theorem OP {l:PySem.W.OpenLaw}{K:Params->A7}{CX:C3->CXT}{sp:C3->Sp}
   (hn:l.most=some n) (hn2:n<=B8) (hdf:d.params.defaults=[]) (hr:Room k callerA)
   (hY:∀(w:C3) (h:B5),YP w h->(K w.params).In h)
   (F:∀(w:C3) (mg:Str->Option A3) (fa:A0) (h:B5),(K w.params).In h->h.Ns V3 mg->mg d.name=some (.ref fa)->
     ∃ fd : FuncData, (∀ (s : A5) (u : A3), BindsTo s fd ⟨[u], []⟩ [(x, u)]) /\
       ∀base:B5,(K w.params).In base->base.Ns V3 mg->FnOk l.prog w (K w.params) mg base (CX w) k fa fd [x] (sp w))
   (hsp:∀(w:C3) (H:Hp) (a:A0) (ns:List Int),ns.length<=n->Only H->SqL (K w.params) H a (ns.map V.int)->sp w [.ref a] H (λv _=>v=.bl true) λ_ _ _=>False)
   (hCX:∀(w:C3) (H:Hp) (s:A5) (e:A3) (s':A5),CX w [] H s (λ_ _ _=>False) e s'->False) :
   PySem.W.WalkO q loose XP YP l.row.toRowW d [] (λf vs=>PySem.call f vs):=by
 refine Att.attach_call hn hdf λw s₀ s₁ mg mb fa o pm cd doc a vs ns G Y ho hd hcd hmg hobj hints hlen hg=>?_;have KX:=hY w _ Y;obtain⟨fd,hb,hF⟩:=F w mg fa _ KX G.T.g hmg;exact ON KX G.T.g G.T.b G.T.builtins G.T.nolimit hg hobj hints (G8 hlen hn2) hr hF hb (λH hO hS=>hsp w H a ns hlen hO hS) λH e s'=>hCX w H s₁ e s'
def k7 (s:Stmt):Arguments:=match s with
 |.FunctionDef _ a _ _ _ _ _ _ _ _=>a
 |_=>{ posonlyargs:=[],args:=[],vararg:=none,kwonlyargs:=[],kw_defaults:=[],kwarg:=none,defaults:=[] }
def T5 (s:Stmt):List Stmt:=match s with
 |.FunctionDef _ _ b _ _ _ _ _ _ _=>b
 |_=>[]
def K2 (s:Stmt):F8:=match s with
 |.FunctionDef _ _ _ _ _ _ sc _ _ _=>sc
 |_=>{ kind:=.function,names:=[],isGenerator:=false,isCoroutine:=false }
abbrev CX0:CXT:=λ_ _ _ _ _ _=>False
abbrev E0:XK:=λ_ _ _=>False
theorem pass0:Gq CX0 X E0:=λ_ _ _ _ _ _ _ h=>h.elim
structure Fun (K:A7)(x qual:Str)(st:Stmt)(f:A0)(fd:FuncData):Prop where
 ex:∃(oc:A3) (od:Option A0) (kV doc pm:A3) (an:Option A0) (jp ct:A3) (osl:Array (Option A3)),
  fd=W7 x qual (k7 st) (T5 st) (K2 st) .none kV doc pm an jp ct/\K.lookup f=some ⟨oc,od,.func fd,osl⟩/\DZ K jp qual=true
 kp:CJ K (.ref f)=true
section
variable {P:D3}{w:C3}{K:A7}{mg:Str->Option A3}{base:B5}
theorem Fun.ok {st:Stmt}(F:Fun K x qual st f fd)(S:Z4 N ps (K2 st))(len:∀vs H Q E,sp vs H Q E->vs.length=ps.length)
   (hbody:∀(jp:A3) (A:E8) (outer:List Env) (s:A5) (H:Hp) (vs:List V) (Q:VK) (E:XK),Room k (A.deeper (envOfC qual (K2 st) s.heap.objs.size f jp))->sp vs H Q E->
     ∃t,PSs (cxOf CX0 P w K mg base N qual (K2 st) f jp A outer s H E).nox (T5 st) t/\t { nx:=λ_ H'=>Q .non H',rt:=Q } (start N vs) H):FnOk P w K mg base CX0 (k+1) f fd ps sp:=by
 obtain⟨oc,od,kV,doc,pm,an,jp,ct,osl,rfl,lk,hcd⟩:=F.ex;refine fn_of lk hcd S len λA outer s H vs Q E hr hsp=>?_;obtain⟨t,h,q⟩:=hbody jp A outer s H vs Q E hr hsp;exact⟨t,h.nox,q⟩
theorem Fun.binds {st:Stmt}{f:A0}{fd:FuncData}{ps:List Str}(F:Fun K x qual st f fd)
   (h:∀(kV doc pm:A3) (an:Option A0) (jp ct:A3) (us:List A3),us.length=ps.length->bindArgs (W7 x qual (k7 st) (T5 st) (K2 st) .none kV doc pm an jp ct) ⟨us,[]⟩=pure (ps.zip us)):BO K fd ps []:=by
 obtain⟨oc,od,kV,doc,pm,an,jp,ct,osl,rfl,lk,hcd⟩:=F.ex;exact .all (h kV doc pm an jp ct)
theorem fun_mk {x qual:Str}{st:Stmt}{f:A0}{oc:A3}{od an:Option A0}{osl:Array (Option A3)}{kV doc pm jp ct:A3}(l:K.lookup f=some ⟨oc,od,.func (W7 x qual (k7 st) (T5 st) (K2 st) .none kV doc pm an jp ct),osl⟩)
   (c:DZ K jp qual=true) (k:CJ K (.ref f)=true):Fun K x qual st f (W7 x qual (k7 st) (T5 st) (K2 st) .none kV doc pm an jp ct):=⟨⟨oc,od,kV,doc,pm,an,jp,ct,osl,rfl,l,c⟩,k⟩
end
theorem k8 {A:E8}{k:Nat}(hr:Room k A):A.units+1<cLine:=By (Nat.add_le_add_left (by decide:1<=64) _) hr.units
section
variable {X:Cx}
theorem pv (i:Nat){x:Str}{pos:Pos}(hN:X.N[i]?=some x:=by rfl)(hv:Vis X.env.scope x:=by first|exact Or.inl rfl|exact Or.inr (Or.inl rfl)|exact Or.inr (Or.inr rfl))(hd:(x == ("__debug__":Str))=false:=by decide)
   (hcd:(x == ("__classdict__":Str))=false:=by decide):PE X (.Name x pos) (tVar i):=Ja hN hv hd hcd
end
theorem iteF {A B:Prop}(h:B):if false=true then A else B:=by grind
theorem iteT {A B:Prop}(h:A):if true=true then A else B:=by grind
theorem ite2 {c A B:Prop}[Decidable c](h1:c->A)(h2:¬c->B):if c then A else B:=by grind
def Same (H H':Hp):Prop:=∀b o,H b=some o->H' b=some o
theorem Same.refl (H:Hp):Same H H:=λ_ _ h=>h
end L2
end
section
namespace L2
open PySem PySem.Spec PyProof.Rows
theorem Gw {prog:D3}{w:C3}{A:E8}{R:Result->A5->Prop}{s:A5}{jm target iter:Expr}{jn:List Expr}{scope:F8}{pos:Pos}{it jo:A3}{env:Env}(I:Nat->A5->Prop)
   (turn:∀n s,I n s->A6 (A8 prog w) A (pyNext it) (fun r s₁=>match r with
    |none=>R (.ok .next) s₁
    |some v=>A6 (A8 prog w) A (w9 target it v) (λ_ s₁'=>A6 (A8 prog w) A (assign target env v) (λ_ s₂=>
        A6 (A8 prog w) A (forIn jn true fun c r=>if r=true then do let ok ← isTrue c env (eval c env);pure (Ag ok) else pure (Ag r)) (fun ok s₃=>
         if ok=true then A6 (A8 prog w) A (eval jm env) (λx s₄=>
          A6 (A8 prog w) A (call (.builtin "list.append") [jo,x]) (λ_ s₅=>∃m,m<n/\I m s₅) (λ_ _=>False) s₄) (λ_ _=>False) s₃
         else ∃m,m<n/\I m s₃) (λ_ _=>False) s₂) (λ_ _=>False) s₁') (λ_ _=>False) s₁) (λ_ _=>False) s)
   (n:Nat) (h:I n s) :
   Q7 (A8 prog w) A (.compLoop (.ListComp jm [⟨target,iter,jn,0⟩] scope pos) 0 it jo env) R s:=by
 refine codeAny_loop rfl I (λn s hI=>?_) n h;show A6 _ A ((compTurn (.ListComp jm [⟨target,iter,jn,0⟩] scope pos) 0 it jo env).onRaise (λx=>do noteFrame x env;theTreesLotGoes x)) _ _ s;refine wpAny_noted ?_;rw[compTurn_list];refine A2 (W3 (A2 (K4 (turn n s hI) (λr s₁ h₁=>?_) λ_ _ h'=>h'.elim)));cases r with
 |none=>exact A9 h₁
 | some v =>
  refine A2 (K4 h₁ (λ_ s₁' h₁'=>?_) λ_ _ h'=>h'.elim);refine A2 (K4 h₁' (λ_ s₂ h₂=>A2 (K4 h₂ (λok s₃ h₃=>?_) λ_ _ h'=>h'.elim)) λ_ _ h'=>h'.elim);cases ok with
  |false=>exact A9 ⟨rfl,h₃⟩
  | true =>
   exact A2 (A2 (K4 h₃ (λx s₄ h₄=>A2 (K4 h₄ (λ_ s₅ h₅=>A9 (A9 ⟨rfl,h₅⟩)) λ_ _ h'=>h'.elim)) λ_ _ h'=>h'.elim))
def E4 (X:Cx)(scope:F8)(cl:List (Str×A0))(N:List Str)(fp:List A0)(C:A0)(s:A5)(H:Hp):Cx where
 prog:=X.prog
 w:=X.w
 K:=X.K
 mg:=X.mg
 base:=X.base
 A:=X.A
 N:=N
 s₀:=s
 H₀:=H
 env:=compEnvC scope cl C X.env
 outer:=X.stack
 stack:=X.stack
 ex:=fp
 fn:=λ_=>false
 calm:=X.calm
 pn:=X.pn
 xe:=λ_ _=>False
structure Z5 (X:Cx)(scope:F8)(cl:List (Str×A0))(N:List Str)(cs:List (Option Nat)):Prop where
 clos:closureFor scope X.env=pure cl
 kind:scope.kind=.function
 nocell:∀y∈scope.names,y.2≠.cell
 names:∀y∈scope.names,y.2=.local->scope.names.lookup y.1=some .local
 sub:∀x c,cl.lookup x=some c->X.env.cells.lookup x=some c
 has:∀x,((U3 scope X.env).names.lookup x=some .cell\/(U3 scope X.env).names.lookup x=some .free)->∃c,cl.lookup x=some c
 len:cs.length=N.length
 cap:∀(k j:Nat) (x:Str),cs[k]?=some (some j)->N[k]?=some x->X.N[j]?=some x/\Vis X.env.scope x/\X.env.kindOf x≠some .local/\(∃c,cl.lookup x=some c)/\((U3 scope X.env).names.lookup x=some .cell\/(U3 scope X.env).names.lookup x=some .free)
def BQ:List (Str×A0)->List (Str×A0)->Prop
 |[],_=>True
 |y::r,cells=>cells.lookup y.1=some y.2/\BQ r cells
theorem BQ.get:∀{cl cells:List (Str×A0)},BQ cl cells->∀x c,cl.lookup x=some c->cells.lookup x=some c:=by intro a;induction a <;> intros <;> grind [BQ]
theorem Q2 {X:Cx}{scope:F8}{cl:List (Str×A0)}{N:List Str}{cs:List (Option Nat)}(clos:closureFor scope X.env=pure cl)(kind:scope.kind=.function)(nocell:(scope.names.all λy=>!(y.2 == .cell))=true)
   (names:(scope.names.all λy=>!(y.2 == .local)||scope.names.lookup y.1 == some .local)=true) (sub:BQ cl X.env.cells)
   (has:((U3 scope X.env).names.all λy=>!(y.2 == .cell||y.2 == .free)||(cl.lookup y.1).isSome)=true) (len:cs.length=N.length)
   (cap:((cs.zip N).all λy=>match y.1 with|none=>true|some j=>X.N[j]? == some y.2&&(X.env.scope.names.lookup y.2 == some .cell||X.env.scope.names.lookup y.2 == some .free)&&(cl.lookup y.2).isSome &&
     ((U3 scope X.env).names.lookup y.2 == some .cell||(U3 scope X.env).names.lookup y.2 == some .free))=true):Z5 X scope cl N cs:=by
 refine⟨clos,kind,λy hy=>?_,λy hy e=>?_,sub.get,λx hx=>?_,len,λk j x hk hN=>?_⟩
 ·have:=J3.mp nocell y hy;intro z;rw[z] at this;cases this
 ·have:=J3.mp names y hy;rw[e] at this
  simpa using this
 ·rcases hx with hx|hx
  ·have:=J3.mp has _ (V9 hx);exact Ae.mp (by simpa using this)
  ·have:=J3.mp has _ (V9 hx);exact Ae.mp (by simpa using this)
 ·have hz:(cs.zip N)[k]?=some (some j,x):=by rw[D_];exact⟨hk,hN⟩
  have:=J3.mp cap _ (J9 hz);simp only[R0,Bool.or_eq_true,beq_iff_eq] at this;obtain⟨⟨⟨h1,h2⟩,h3⟩,h4⟩:=this;refine⟨h1,?_,?_,Ae.mp h3,h4⟩
  ·rcases h2 with h2|h2
   ·exact .inr (.inl h2)
   ·exact .inr (.inr h2)
  ·intro z;have z':X.env.scope.names.lookup x=some .local:=z;rw[z'] at h2;rcases h2 with h2|h2 <;> cases h2
def k9 (cs:List (Option Nat))(σ:St):St:=cs.map λo=>o.bind λj=>(σ[j]?).bind id
def PIf (X:Cx)(jn:List Expr)(t:TT):Prop:=
 ∀ (jd : List (A0 × Obj)) (s : A5) (σ : St) (H : Hp) (Q : Bool -> Hp -> Prop), Inv X jd σ H s -> t σ H Q ->
   A6 (A8 X.prog X.w) X.A (forIn jn true λc r=>if r=true then do let ok ← isTrue c X.env (eval c X.env);pure (Ag ok) else pure (Ag r)) (TP X jd σ Q) X.xe s
def tTru:TT:=λ_ H Q=>Q true H
theorem OQ {X:Cx}:PIf X [] tTru:=λjd s σ H Q I h=>wpAny_tests_nil ⟨H,I,h⟩
theorem OR {X:Cx}{c:Expr}{t:TT}(h:PT X c t):PIf X [c] t:=λjd s σ H Q I hq=>wpAny_tests_one (h jd s σ H Q I hq)
def CompW (J:It)(g:TG)(tt:TT)(te:TE)(Q:VK)(D:A0)(σc:St)(H1:Hp):Prop:=∃W:Nat->Nat->St->Hp->Prop,(∃m,W 0 m σc H1)/\
 ∀i m σ' H',W i m σ' H'->(J.stop i H'/\Q (.ref D) H')\/(J.go i H'/\∀x H2,J.yld i H' x H2->g x σ' H2 fun σ3 H3=>tt σ3 H3 fun b H4=>
    if b=true then te σ3 H4 λv H5=>∃ys,H5 D=some (.lst ys)/\ys.length<B8/\∃m',m'<m/\W (i+1) m' σ3 (upd H5 D (.lst (ys++[v])))
    else ∃m',m'<m/\W (i+1) m' σ3 H4)
def Gx (cs:List (Option Nat))(wi:TI)(g:TG)(tt:TT)(te:TE):TE:=λσ H Q=>wi σ H λJ H1=>∀D,H1 D=none->CompW J g tt te Q D (k9 cs σ) (upd H1 D (.lst []))
theorem OS {X:Cx}{scope:F8}{cl:List (Str×A0)}{N:List Str}{cs:List (Option Nat)}(S:Z5 X scope cl N cs){jd:List (A0×Obj)}{σ:St}{H:Hp}{s:A5}{fp:List A0}{h₁:B5}{tk:Nat}
   (I:Inv X jd σ H s) (f2:∀b∈fp,FpOk X jd H b) (ho:∀b∈fp,∃o,s.heap.get? b=some o)
   (old:∀b o,s.heap.get? b=some o->h₁.get? b=some o) (hns:h₁.Ns (s.heap.objs.size+1) (λx=>([]:List (Str×A3)).reverse.lookup x))
   (hD:h₁.get? s.heap.objs.size=some { cls:=.type "list",data:=.seq ([]:List A3).toArray }) :
   Inv (E4 X scope cl N fp (s.heap.objs.size+1) s H) jd (k9 cs σ) (upd H s.heap.objs.size (.lst [])) { s with heap:=h₁,toks:=tk }:=by
 have lt:∀b o,s.heap.get? b=some o->b<s.heap.objs.size:=λb o e=>C4 e;have neC:∀b o,s.heap.get? b=some o->b≠s.heap.objs.size+1:=λb o e=>F3 (y9 (lt b o e));have neD:∀b o,s.heap.get? b=some o->b≠s.heap.objs.size:=λb o e=>F3 (lt b o e);have nstk:∀b,b≠X.env.locals->b∉X.fs->b∉frs X.stack:=λb h1 h2 hb=>(C8.mp (I.stkSub b hb)).elim h1 h2
 have cellO:∀x c,cl.lookup x=some c->∃v o,s.heap.get? c=some o/\s.heap.IsCell c v:=λx c e=>by
  obtain⟨v,q⟩:=I.cell x c (S.sub x c e);obtain⟨o,h1,_⟩:=id q;exact⟨v,o,h1,q⟩
 refine⟨⟨I.ok.mod,S.kind,I.ok.glob,I.ok.blt,P2 _,λx y c h1 h2=>I.ok.inj x y c (S.sub x c h1) (S.sub y c h2),λx hx=>S.has x hx,λx c hx=>(by cases hx),I.ok.hd,I.ok.frames,.inl rfl,λb hb=>?_,I.bs,G8 I.ok.bsz I.sz,λb o e hb=>?_,λb hb=>?_,I.stack,I.stkFree,I.nos⟩,
  rfl,I.bare,Un.laid old (B7 _) I.fresh I.bigS,⟨_,hns,λi x v e1 e2 e3=>?_⟩,λx c e=>?_,?_,λx c e=>?_,λp hp=>?_,I.hok.laid old (B7 _) ⟨M5 _,[],0,.nil,hD⟩,?_⟩
 ·obtain⟨o,e⟩:=ho b hb;exact⟨neC b o e,λx c ec=>(f2 b hb).2.2.2.2.1 x c (S.sub x c ec)⟩
 ·rcases(f2 b hb).2.2.2.1 with z|z
  ·exact I.ok.noex b o e z
  ·exact absurd (L0 (C4 e) (G8 I.ok.bsz z)) (W8 _)
 ·exact nstk b (f2 b hb).2.1 (f2 b hb).2.2.1
 ·have e2':(cs.map λo=>o.bind λj=>(σ[j]?).bind id)[i]?=some (some v):=e2;rw[K6] at e2';cases ec:cs[i]? with
  |none=>rw[ec] at e2';cases e2'
  | some o =>
   rw[ec] at e2';cases o with
   |none=>cases e2'
   | some j =>
    have e2'':(σ[j]?).bind id=some v:=by simpa using e2'
    cases es:σ[j]? with
    |none=>rw[es] at e2'';cases e2''
    | some ov =>
     rw[es] at e2'';have e4:ov=some v:=by simpa using e2''
     subst e4;obtain⟨hN,hv,hnl,⟨c,hc⟩,hk⟩:=S.cap i j x ec e1;obtain⟨m,hn,hl⟩:=I.loc;obtain⟨u,r,l⟩:=hl j x v hN es hv;refine⟨u,r,?_⟩;rcases l with⟨hk',_⟩|⟨_,c',hc',z⟩
     ·grind
     ·have ecc:c'=c:=by
       have:=S.sub x c hc;rw[hc'] at this;exact E9 this
      subst ecc;obtain⟨o,h1,h2⟩:=z;exact .inr ⟨hk,c',hc,⟨o,old _ o h1,h2⟩⟩
 ·obtain⟨v,o,h1,o',h2,h3⟩:=cellO x c e;exact⟨v,o',old _ o' h2,h3⟩
 ·show upd H s.heap.objs.size (.lst []) (s.heap.objs.size+1)=none;rw[C0 (Eg _)];exact I.hok.fresh (P2 _)
 ·obtain⟨v,o,h1,_⟩:=cellO x c e;rw[C0 (neD c o h1)];exact I.freeC x c (S.sub x c e)
 ·obtain⟨e,n,ne,nf,d⟩:=I.pin p hp;exact⟨old _ _ e,by rw[C0 (neD _ _ e)];exact n,neC _ _ e,nstk _ ne nf,d⟩
 ·show(cs.map _).length=N.length;rw[B1];exact S.len
theorem Inv.uncomp
   (I:Inv X jd σ H s) (f2:∀b∈fp,FpOk X jd H b)
   (J:Inv (E4 X scope cl N fp (s.heap.objs.size+1) s H) jd σ' H' s') (hs:∀b,b≠s.heap.objs.size+1->h'.get? b=s'.heap.get? b) :
   Inv X jd σ H' { s' with heap:=h' }:=by
 obtain⟨hh,g,d,t,os'⟩:=s';obtain rfl:os'=s.os:=J.os;have U:Un (frs X.stack) fp H H' s.heap hh:=J.base;have old:∀b o,s.heap.get? b=some o->b≠s.heap.objs.size+1:=λb o e=>F3 (y9 (C4 e));have hs':∀b,b≠s.heap.objs.size+1->h'.get? b=hh.get? b:=hs
 have trC:∀b u,H' b=some u->b≠s.heap.objs.size+1:=λb u e z=>by
  have q:H' (s.heap.objs.size+1)=none:=J.free;rw[z,q] at e;cases e
 show Inv X jd σ H' { s with heap:=h',gens:=g,drawn:=d,toks:=t };refine I.call (h':=h') (g':=g) (d':=d) (t':=t) (ch:=fp) ⟨λb o e n hb hx=>?_,λb o e n hb hx=>?_,U.free,λb o e hx=>?_,U.tups,U.frzs,U.tbls,U.sys⟩ (λb u e=>?_) J.bare λb hb=>?_
 ·rw[hs' b (old b o e)];exact U.keep b o e n hb hx
 ·rw[hs' b (old b o e)];exact U.slot b o e n hb hx
 ·rw[hs' b (old b o e)];exact U.there b o e hx
 ·refine(J.hok b u e).stay (λc v hc q=>?_) (λ_ q=>q) λ_ _ q=>q
  have ne:c≠s.heap.objs.size+1:=by
   rcases hc with z|z
   ·rw[z];exact trC b u e
   ·exact trC c _ z
  rw[hs' c ne];exact q
 ·exact⟨(f2 b hb).2.2.2.1,(f2 b hb).2.1,(f2 b hb).2.2.2.2.1,(f2 b hb).2.2.2.2.2⟩
theorem Gy {K:A7}{W:Nat->Nat->St->Hp->Prop}{s5 s7:A5}(T:Turn P w K tg J fp it tn)(st5:tn (i+1) s5.heap)(I7:Inv Y (jd++BN fp s5.heap) σ7 H7 s7)(n7:∃m',m'<n/\W (i+1) m' σ7 H7):∃m,m<n/\∃i σ' H',Inv Y jd σ' H' s7/\tn i s7.heap/\(∀b∈fp,H' b=none)/\W i m σ' H':=by
 obtain⟨m',hm,w7⟩:=n7;have pn:∀b∈fp,∀o,s5.heap.get? b=some o->_:=λb hb o e=>I7.pin (b,o) (h9 _ (h9 _ (Gi hb e)));refine⟨m',hm,i+1,σ7,H7,I7.unpinned,T.keep _ _ _ st5 λb hb o e=>(pn b hb o e).1,λb hb=>?_,w7⟩;obtain⟨o,e,d⟩:=T.obj _ _ st5 b hb;exact(pn b hb o e).2.1
theorem Ew {Y:Cx}{jd:List (A0×Obj)}{tg jm:Expr}{jn:List Expr}{g:TG}{tt:TT}{te:TE}{J:It}{fp:List A0}{it D:A0}{tn:Nat->B5->Prop}{W:Nat->Nat->St->Hp->Prop}{N:St->Hp->Prop}{Rn:A5->Prop}(T:Turn Y.prog Y.w Y.K tg J fp it tn)(hc:Y.calm=true)(stat:∀{H':Hp},(∀b∈fp,H' b=none)->∀b∈fp,FpOk Y jd H' b)(hg:PG Y tg g)(hf:PIf Y jn tt)(he:PE Y jm te)(fin:∀s σ H,Inv Y jd σ H s->N σ H->Rn s)
   (turn:∀i m σ' H',W i m σ' H'->(J.stop i H'/\N σ' H')\/(J.go i H'/\∀x H2,J.yld i H' x H2->g x σ' H2 λσ3 H3=>tt σ3 H3 λb H4=>
    if b=true then te σ3 H4 λv H5=>∃ys,H5 D=some (.lst ys)/\ys.length<B8/\∃m',m'<m/\W (i+1) m' σ3 (upd H5 D (.lst (ys++[v])))
    else ∃m',m'<m/\W (i+1) m' σ3 H4)) (n:Nat) (s:A5) (hI:∃i σ' H',Inv Y jd σ' H' s/\tn i s.heap/\(∀b∈fp,H' b=none)/\W i n σ' H') :
   A6 (A8 Y.prog Y.w) Y.A (pyNext (.ref it)) (λr s₁=>match r with
    |none=>Rn s₁
    |some v=>A6 (A8 Y.prog Y.w) Y.A (w9 tg (.ref it) v) (λ_ s₁'=>A6 (A8 Y.prog Y.w) Y.A (assign tg Y.env v) (λ_ s₂=>
        A6 (A8 Y.prog Y.w) Y.A (forIn jn true fun c r=>if r=true then do let ok ← isTrue c Y.env (eval c Y.env);pure (Ag ok) else pure (Ag r)) (fun ok s₃=>
         if ok=true then A6 (A8 Y.prog Y.w) Y.A (eval jm Y.env) (λx s₄=>
          A6 (A8 Y.prog Y.w) Y.A (call (.builtin "list.append") [.ref D,x]) (λ_ s₅=>∃m,m<n/\∃i σ' H',Inv Y jd σ' H' s₅/\tn i s₅.heap/\(∀b∈fp,H' b=none)/\W i m σ' H') Y.xe s₄) Y.xe s₃
         else ∃m,m<n/\∃i σ' H',Inv Y jd σ' H' s₃/\tn i s₃.heap/\(∀b∈fp,H' b=none)/\W i m σ' H') Y.xe s₂) Y.xe s₁') Y.xe s₁) Y.xe s:=by
 obtain⟨i,σ3,H3,I3,st3,fr3,w3⟩:=hI;rcases turn i n σ3 H3 w3 with⟨stop,qn⟩|⟨go,step⟩
 ·refine thn (T.done Y rfl rfl rfl hc i jd s σ3 H3 Y.xe I3 (stat fr3) st3 stop) λr s4 ⟨hr,I4⟩=>?_;subst hr;exact fin s4 σ3 H3 I4 qn
 ·refine thn (T.item Y rfl rfl rfl hc i jd s σ3 H3 Y.xe I3 (stat fr3) st3 go) λr s4 ⟨u,hr,h4⟩=>?_;subst hr;refine thn h4 λ_ s5 ⟨x,H5,I5,r5,y5,st5,fr5⟩=>?_;refine thn (hg _ s5 σ3 H5 x u _ (I5.pinned (stat fr5) (T.obj _ _ st5)) r5 (step x H5 y5)) λ_ s6 ⟨σ6,H6,I6,q6⟩=>?_;refine thn (hf _ s6 σ6 H6 _ I6 q6) λok s7 ⟨H7,I7,q7⟩=>?_;cases ok with
  |false=>exact Gy T st5 I7 q7
  | true =>
   refine thn (he _ s7 σ6 H7 _ I7 q7) λy s8 ⟨v8,H8,I8,r8,ys,e8,z8,n8⟩=>?_;have ma:=JE (X:=Y) _ s8 σ6 H8 (.ref D) [v8] (.ref D) [y] (λv H9=>∃m',m'<n/\W (i+1) m' σ6 H9) I8 rfl (.cons r8 .nil) ⟨_,ys,v8,rfl,rfl,e8,z8,n8⟩;exact thn ma λ_ s9 ⟨v9,H9,I9,_,q9⟩=>Gy T st5 I9 q9
theorem Ex {X:Cx}{scope:F8}{cl:List (Str×A0)}{N:List Str}{cs:List (Option Nat)}{jm tg iter:Expr}{jn:List Expr}{gs:List Comprehension}{pos p0:Pos}{wi:TI}{use:Option (A3->Sem Unit)}{Qf:A3->A5->Prop}{QQ:It->A0->St->Hp->Prop}(S:Z5 X scope cl N cs)(hc:X.calm=true)(hi:PI X tg iter wi)
   (hs:∀x,N6 iter X.env x=pure x) {jd:List (A0×Obj)} {s:A5} {σ:St} {H:Hp} (I:Inv X jd σ H s) (h:wi σ H λJ H1=>∀D,H1 D=none->QQ J D (k9 cs σ) (upd H1 D (.lst [])))
   (loop:∀(fp:List A0) (it:A0) (tn:Nat->B5->Prop) (J:It) (s2:A5) (H2:Hp) (s₃:A5),Turn X.prog X.w X.K tg J fp it tn->(∀{H':Hp},(∀b∈fp,H' b=none)->∀b∈fp,FpOk (E4 X scope cl N fp (s2.heap.objs.size+1) s2 H2) jd H' b)->Inv X jd σ H2 s2->(∀b∈fp,FpOk X jd H2 b)->QQ J s2.heap.objs.size (k9 cs σ) (upd H2 s2.heap.objs.size (.lst []))->
     Inv (E4 X scope cl N fp (s2.heap.objs.size+1) s2 H2) jd (k9 cs σ) (upd H2 s2.heap.objs.size (.lst [])) s₃->tn 0 s₃.heap->(∀b∈fp,upd H2 s2.heap.objs.size (.lst []) b=none)->
     Q7 (A8 X.prog X.w) X.A (.compLoop (.ListComp jm (⟨tg,iter,jn,0⟩::gs) scope pos) 0 (.ref it) (.ref s2.heap.objs.size) (compEnvC scope cl (s2.heap.objs.size+1) X.env)) (compPost (A8 X.prog X.w) X.A X.xe use Qf (.ref s2.heap.objs.size) (s2.heap.objs.size+1)) s₃) :
   A6 (A8 X.prog X.w) X.A (comprehension (.ListComp jm (⟨tg,iter,jn,0⟩::gs) scope pos) scope X.env p0 (newList []) false (eval iter X.env) use) Qf X.xe s:=by
 refine wpAny_comprehension_free rfl hs S.clos S.kind S.names (thn (hi jd s σ H _ I h) λv s1 h1=>thn h1 λitv s2 h2=>?_);obtain⟨it,fp,tn,J,H2,rfl,I2,T,st2,f2,q⟩:=h2
 have ho:∀b∈fp,∃o,s2.heap.get? b=some o:=λb hb=>by
  obtain⟨o,e,_⟩:=T.obj 0 _ st2 b hb;exact⟨o,e⟩
 refine R8 (wpAny_newFunctionEnv S.nocell (by intro y hy;simp at hy) (λh₁ hns₁ hsb₁=>?_) S.kind);dsimp only at hns₁ hsb₁ ⊢;have hC:(s2.heap.push { cls:=.type "list",dict:=none,data:=.seq ([]:List A3).toArray }).objs.size=s2.heap.objs.size+1:=by rw[T3]
 generalize hH2:s2.heap.push { cls:=.type "list",dict:=none,data:=.seq ([]:List A3).toArray }=hp2 at hns₁ hsb₁ hC ⊢;have lt:∀{b o},s2.heap.get? b=some o->b<s2.heap.objs.size+1:=λe=>y9 (C4 e);have old:∀b o,s2.heap.get? b=some o->h₁.get? b=some o:=λb o e=>hsb₁.extBut b o (by rw[hC];exact F3 (lt e)) (C1 _ (hH2▸C1 _ e));have hD:h₁.get? s2.heap.objs.size=some { cls:=.type "list",data:=.seq ([]:List A3).toArray }:=hsb₁.extBut _ _ (by rw[hC];exact F3 (Nat.lt_succ_self _)) (C1 _ (hH2▸F4 _ rfl));rw[hC] at hns₁ ⊢;have st1:tn 0 h₁:=T.keep _ _ _ st2 λb hb o e=>old b o e
 have L:=loop fp it tn J s2 H2 _ T (λhn b hb=>by
  obtain⟨o,e⟩:=ho b hb
  exact⟨hn b hb,F3 (lt e),λz=>(C8.mp (I2.stkSub b z)).elim (f2 b hb).2.1 (f2 b hb).2.2.1,.inl hb,λx c ec=>(f2 b hb).2.2.2.2.1 x c (S.sub x c ec),(f2 b hb).2.2.2.2.2⟩) I2 f2 (q _ I2.fresh) (OS S (tk:=s2.toks+([]:List (Str×A3)).length) I2 f2 ho old hns₁ hD) st1 λb hb=>by
  obtain⟨o,e⟩:=ho b hb;rw[C0 (F3 (C4 e))];exact(f2 b hb).1
 exact codeAny_compStart_list L (T.self _ 0 _ _ _ st1 L)
theorem JH {X:Cx}{scope:F8}{cl:List (Str×A0)}{N:List Str}{jd:List (A0×Obj)}{σ σ3:St}{H2 H3:Hp}{s2 s4:A5}{fp:List A0}{Q:VK}(I2:Inv X jd σ H2 s2)(f2:∀b∈fp,FpOk X jd H2 b)(I4:Inv (E4 X scope cl N fp (s2.heap.objs.size+1) s2 H2) jd σ3 H3 s4)(qn:Q (.ref s2.heap.objs.size) H3) :
   compPost (A8 X.prog X.w) X.A X.xe none (EP X jd σ Q) (.ref s2.heap.objs.size) (s2.heap.objs.size+1) (.ok .next) s4:=by
 obtain⟨m4,hn4,_⟩:=I4.loc;exact⟨m4,hn4,λh' hs'=>⟨.ref s2.heap.objs.size,H3,Inv.uncomp I2 f2 I4 λb hb=>hs'.2 b hb,rfl,qn⟩⟩
theorem JI {X:Cx}{scope:F8}{cl:List (Str×A0)}{N:List Str}{cs:List (Option Nat)}{jm tg iter:Expr}{jn:List Expr}{pos:Pos}{wi:TI}{g:TG}{tt:TT}{te:TE}(S:Z5 X scope cl N cs)(hc:X.calm=true)(hi:PI X tg iter wi)
   (hb:∀(fp:List A0) (C:A0) (s:A5) (H:Hp),PG (E4 X scope cl N fp C s H) tg g/\PIf (E4 X scope cl N fp C s H) jn tt/\PE (E4 X scope cl N fp C s H) jm te)
   (hs:∀x,N6 iter X.env x=pure x:=by intro _;rfl) :
   PE X (.ListComp jm [⟨tg,iter,jn,0⟩] scope pos) (Gx cs wi g tt te):=by
 intro jd s σ H Q I h;rw[eval_ListComp];refine Ex S hc hi hs I h λfp it tn J s2 H2 s₃ T stat I2 f2 q Ic st1 fr1=>?_;obtain⟨W,⟨m0,w0⟩,turn⟩:=q;obtain⟨hg,hf,he⟩:=hb fp (s2.heap.objs.size+1) s2 H2;exact Gw _ (Ew (Y:=E4 X scope cl N fp (s2.heap.objs.size+1) s2 H2) T hc stat hg hf he (λs4 σ3 H3 I4 qn=>JH I2 f2 I4 qn) turn) m0 ⟨0,_,_,Ic,st1,fr1,w0⟩
end L2
end
section
namespace L2
open PySem PySem.Spec PyProof.Rows
section
variable {X:Cx}
theorem Vals.getE (r:Vals xs us)(h:j<us.length):∃x,xs[j]?=some x/\RelV x us[j]:=by
 have hl:=r.length;have h':j<xs.length:=by omega
 obtain⟨u,e,q⟩:=r.get (i:=j) (x:=xs[j]) (by simp[h']);refine⟨xs[j],by simp[h'],?_⟩;have e':us[j]?=some us[j]:=by simp[h]
 rw[e'] at e;cases e;exact q
theorem JJ (h:T4 x=true):eqV x x=true:=by
 cases x <;> simp_all [T4,eqV]
theorem OT:M6 X (.builtin "isinstance") (λvs H Q=>∃x n t b,vs=[x,.ty n]/\TyOf X.K H x t/\CH X.K t (.type n)=some b/\Q (.bl b) H):=by
 intro jd s σ H vs us Q I rv h;obtain⟨x,n,t,b,rfl,ty,e,q⟩:=h;obtain⟨u,v,rfl,r1,r2⟩:=rv.two;cases r2;exact Oo I r1 ty e λtk=>⟨.bl b,H,I.tok tk,rfl,q⟩
theorem OU:∀{bs:List Bool} {us:List A3} {j:Nat} {u:A3},Vals (bs.map V.bl) us->us[j]?=some u->∃b,bs[j]?=some b/\u=Value.bool b:=by
 intro bs us j u r e
 have hj:j<us.length:=by
  obtain⟨h,_⟩:=E6.mp e;exact h
 obtain⟨x,e1,q1⟩:=r.getE hj;rw[K6] at e1;cases eb:bs[j]? with
 |none=>rw[eb] at e1;cases e1
 | some b =>
  rw[eb] at e1;cases e1;have e2:us[j]?=some us[j]:=by simp[hj]
  rw[e2] at e;cases e;exact⟨b,rfl,q1⟩
theorem OV (bs:List Bool):((D1 bs.length).all λi=>(bs[i]?).getD true)=bs.all id:=by
 rw[z9,J3,J3];constructor
 ·intro h b hb;obtain⟨i,hi,rfl⟩:=Bs hb;have:=h i (P1.mpr hi)
  simpa[D7 hi] using this
 ·intro h i hi;have hi':=P1.mp hi;simp only[D7 hi',Option.getD_some];exact h _ (i4 hi')
theorem OW {s:A5}{h':B5}{o:Obj}(hk:∀b x,b∉[s.heap.objs.size]->(s.heap.push o).get? b=some x->h'.get? b=some x):∀b x,s.heap.get? b=some x->h'.get? b=some x:=
 λb x e=>hk b x (λhm=>by rw[E3.mp hm] at e;exact W8 _ (C4 e)) (C1 _ e)
def rAll (K:A7):List V->Hp->VK->Prop:=λvs H Q=>∃(p:A0) (bs:List Bool),vs=[.ref p]/\SqL K H p (bs.map V.bl)/\Q (.bl (bs.all id)) H
theorem OX (hc:X.calm=true):M6 X (.builtin "all") (rAll X.K):=by
 intro jd s σ H vs us Q I rv h;obtain⟨p,bs,rfl,hq,q⟩:=h;obtain⟨u,rfl,r1⟩:=rv.one;cases r1;obtain⟨jh,r,pl,hz⟩:=I.list hq;have hl:=pl.isList;have hlt:p<s.heap.objs.size:=by obtain⟨_,e,_⟩:=hl;exact C4 e
 have len:jh.toArray.size=bs.length:=by simpa using r.length.symm
 refine call_all_walk (DV hl ?_)
 refine⟨s.heap.objs.size,[s.heap.objs.size,p],[s.heap.objs.size],jh.toArray.size,_,_,λi=>(bs[i]?).getD true,rfl,Walks.list (A:=X.A.in1) (I.ok.hd hc) _ p (F3 hlt) jh.toArray,
  ⟨⟨_,F4 _ rfl,rfl,rfl⟩,hl.push _⟩,λi v s' Q' E' hP hQ=>?_,λh' tk hk=>?_⟩
 ·obtain⟨b,e,rfl⟩:=OU r (j:=i) (u:=v) (by grind);simp only[e,Option.getD_some] at hQ;exact p6 hQ
 ·rw[len,OV];exact⟨.bl _,H,I.kept (OW hk),rfl,q⟩
def Ite (K:A7)(a:A0):It:=
 ⟨λi H=>∃xs x,SqL K H a xs/\xs[i]?=some x,λi H x H'=>∃p v,H p=none/\x=.ref p/\H'=upd H p (.tup [.int i,v])/\∀xs,SqL K H a xs->xs[i]?=some v,λi H=>∃xs,SqL K H a xs/\xs.length<=i⟩
theorem Inv.turnedNew {ch:List A0}(I:Inv X jd σ H s)(k:∀b o,b∉ch->s.heap.get? b=some o->h'.get? b=some o)
   (hf:∀b∈ch,FpOk X jd H b) (new:J4 X.prog X.w (upd H s.heap.objs.size (.tup xs)) h' s.heap.objs.size (.tup xs)):Inv X jd σ (upd H s.heap.objs.size (.tup xs)) { s with heap:=h',toks:=t' }:=by
 have nch:∀b u,H b=some u->b∉ch:=λb u e z=>by rw[(hf b z).1] at e;cases e
 have nD:∀b o,s.heap.get? b=some o->b≠s.heap.objs.size:=λb o e=>F3 (C4 e)
 refine I.step (g':=s.gens) (d':=s.drawn) (ch:=ch) (λb hb=>⟨(hf b hb).2.2.2.1,(hf b hb).2.1,(hf b hb).2.2.2.2.1,(hf b hb).2.2.2.2.2⟩) (λb o _ _ hc e _=>k b o hc e) (λb o _ _ hc e _=>⟨o.slots,k b o hc e⟩) (λb o _ e n=>by rw[C0 (nD b o e)];exact n)
   (λb o hc e=>⟨o,k b o hc e⟩) (λb ys e=>by rw[C0 (Z1 e I.fresh)];exact e) (λb o u e=>by rw[C0 (Z1 e I.fresh)];exact e) (λb ps e=>⟨#[],by rw[C0 (Z1 e I.fresh),e];simp⟩) (λz=>by unfold NS;rw[C0 (F3 I.bigS)];exact z) (λm hm=>?_) (λb u e=>?_) I.bare
 ·obtain⟨o,es,ep,ho,r⟩:=hm;exact⟨o,es,ep,k _ o (λz=>(hf _ z).2.1 rfl) ho,r⟩
 ·by_cases hb:b=s.heap.objs.size
  ·subst hb;rw[F9] at e;cases e;exact new
  ·rw[C0 hb] at e;refine(I.hok b u e).stay (λc v hc q=>k c v ?_ q) (λc q=>by rw[C0 (Z1 q I.fresh)];exact q) λc ys q=>by rw[C0 (Z1 q I.fresh)];exact q
   rcases hc with z|z
   ·rw[z];exact nch b u e
   ·exact nch c _ z
theorem OY {P:D3}{w:C3}{K:A7}{elts:List Expr}{x1}{pos:Pos}(a e it:A0)(hne:e≠it) :
   Turn P w K (.Tuple elts x1 pos) (Ite K a) [e,it] e (λi h=>(∃old,IsEnum h e it i old)/\h.IsListIter it a i) where
 mem:=by simp
 obj:=λi h st b hb=>by
  obtain⟨⟨old,he⟩,o,e1,c,d⟩:=st;have hb':b=e\/b=it:=by simpa using hb
  rcases hb' with rfl|rfl
  ·exact⟨_,he,λv z=>by cases z⟩
  ·exact⟨o,e1,λv z=>by rw[d] at z;cases z⟩
 keep:=λi h h' st k=>by
  obtain⟨⟨old,he⟩,st⟩:=st;exact⟨⟨old,k e (by simp) _ he⟩,st.at λo e=>k it (by simp) o e⟩
 item:=by
  intro X hP hw hK hc i jd s σ H E I hf st hg;subst hP hw hK;obtain⟨⟨old,he⟩,st⟩:=st;obtain⟨xs,x,hq,hx⟩:=hg;obtain⟨jh,rv,p,hz⟩:=I.list hq;obtain⟨u,hu,ru⟩:=rv.get hx;refine wpAny_pyNext_enum_item he st p.isList (x:=u) (by simpa using hu) hne λh' he' st' ht hz' k=>?_;refine⟨_,rfl,wpAny_letOwnedTupleGo_enum (s:={ s with heap:=h',toks:=s.toks+1 }) he' λh'' he'' sb=>?_⟩;have hpe:s.heap.objs.size≠e:=i7 (C4 he);have ht'':h''.get? s.heap.objs.size=some { cls:=.type "tuple",data:=.seq #[.int i s.toks,u] }:=(sb.2 _ hpe).trans ht
  have k':∀b o,b∉[e,it]->s.heap.get? b=some o->h''.get? b=some o:=λb o hb q=>by
   have hb1:b≠e:=λz=>hb (by simp[z]);have hb2:b≠it:=λz=>hb (by simp[z]);exact(sb.2 b hb1).trans (k b o hb1 hb2 q)
  have I1:Inv X jd σ (upd H s.heap.objs.size (.tup [.int i,x])) { s with heap:=h'',toks:=s.toks+1 }:=
   I.turnedNew k' hf ⟨by show 2<=B8;decide,[.int i s.toks,u],.cons ⟨_,rfl⟩ (.cons ru .nil),⟨_,ht'',rfl,_,rfl⟩⟩
  refine⟨.ref s.heap.objs.size,_,I1,rfl,⟨_,x,I.fresh,rfl,rfl,λys hy=>by rw[I.list_inj hy hq];exact hx⟩,⟨⟨u,he''⟩,?_⟩,λb hb=>?_⟩
  ·obtain⟨o,e1,c,d⟩:=st';exact⟨o,(sb.2 it (Ne.symm hne)).trans e1,c,d⟩
  ·have hb':b=e\/b=it:=by simpa using hb
   have hbs:b≠s.heap.objs.size:=by
    rcases hb' with rfl|rfl
    ·exact Ne.symm hpe
    ·obtain⟨o,e1,_⟩:=st;exact F3 (C4 e1)
   rw[C0 hbs];exact(hf b hb).1
 done:=by
  intro X hP hw hK hc i jd s σ H E I hf st hg;subst hP hw hK;obtain⟨⟨old,he⟩,st⟩:=st;obtain⟨xs,hq,hx⟩:=hg;obtain⟨jh,rv,p,hz⟩:=I.list hq;obtain⟨f0,f1,f2,f3,f4,f5⟩:=hf it (by simp);have hl:=rv.length;exact wpAny_pyNext_enum_end (I.ok.hd hc) he st p.isList (by simp;omega) λh' eb=>⟨rfl,I.turned (t':=s.toks) (λb o hb e=>eb b o hb e) f0 f1 f3 f4 f5⟩
 self:=λ_ _ _ _ _ st h=>by
  obtain⟨⟨old,he⟩,_⟩:=st;exact DW he h
def iEnum (K:A7)(ta:TA):TI:=λσ H R=>ta σ H λvs H1=>∃a,vs=[.ref a]/\(∃xs,SqL K H1 a xs)/\R (Ite K a) H1
theorem OZ {l:Expr}{ta:TA}{p pos:Pos}{elts:List Expr}{x1}{tpos:Pos}(hg:Gl X "enumerate")(hm:X.mg "enumerate"=none)(ha:PA X [l] ta)(hs:E2 [l] X.env=[(false,eval l X.env)]:=by rfl) :
   PI X (.Tuple elts x1 tpos) (.Call (.Name "enumerate" p) [l] [] pos) (iEnum X.K ta):=by
 intro jd s σ H R I h;refine Call_ (U5 I hg hm boot_enumerate (Y8 (thn (ha pos jd s σ H _ I h) λus s1 ⟨vs,H1,I1,r1,q1⟩=>?_) hs rfl));obtain⟨a,e,⟨xs,hq⟩,q⟩:=q1;subst e;obtain⟨u,rfl,ru⟩:=r1.one;obtain rfl:u=K8 a:=ru;obtain⟨jh,rv,pl,hz⟩:=I1.list hq;refine call_enumerate_list pl.isList λh' hE hI hsz hk=>?_;refine DW hE ?_;have I2:Inv X jd σ H1 { s1 with heap:=h' }:=I1.kept (t':=s1.toks) hk;refine⟨s1.heap.objs.size+1,[s1.heap.objs.size+1,s1.heap.objs.size],_,_,H1,rfl,I2,OY a _ _ (Eg _),⟨⟨_,hE⟩,hI⟩,λb hb=>?_,q⟩;have hb':b=s1.heap.objs.size+1\/b=s1.heap.objs.size:=by simpa using hb
 rcases hb' with rfl|rfl
 ·exact I1.fpOk (P2 _) (I1.hok.fresh (P2 _))
 ·exact I1.fpOk (B7 _) (I1.hok.fresh (B7 _))
end
end L2
end
section
namespace L2
open PySem PySem.Spec PyProof.Rows
theorem JK:K5 "len"=some (.builtin "len"):=by decide +kernel
theorem Gz:K5 "abs"=some (.builtin "abs"):=by decide +kernel
theorem bt_min:K5 "min"=some (.builtin "min"):=by decide +kernel
theorem bt_all:K5 "all"=some (.builtin "all"):=by decide +kernel
theorem O_:K5 "isinstance"=some (.builtin "isinstance"):=by decide +kernel
theorem Pa:K5 "sorted"=some (.builtin "sorted"):=by decide +kernel
theorem bt_sum:K5 "sum"=some (.builtin "sum"):=by decide +kernel
theorem bt_repr:K5 "repr"=some (.builtin "repr"):=by decide +kernel
theorem Dk:K5 "int"=some (.type "int"):=by decide +kernel
theorem GA:K5 "str"=some (.type "str"):=by decide +kernel
theorem GB:K5 "bool"=some (.type "bool"):=by decide +kernel
theorem Pb:K5 "list"=some (.type "list"):=by decide +kernel
theorem X2:K5 "tuple"=some (.type "tuple"):=by decide +kernel
theorem Pc:K5 "dict"=some (.type "dict"):=by decide +kernel
theorem bt_set:K5 "set"=some (.type "set"):=by decide +kernel
theorem Pd (p:V->Prop)(h:(∀v,p v->R v H)->tIf tA ta tb σ H R)(hp:∀v,p v->R v H):tIf tA ta tb σ H R:=h hp
theorem at_map {ns:List Int}(h0:0<=k)(h:k<(ns.length:Int)):∃v,atI (ns.map V.int) k=some (.int v):=by
 have hk:k.toNat<ns.length:=by omega
 have q:atI (ns.map V.int) ((k.toNat:Nat):Int)=some (.int ns[k.toNat]):=Di (by rw[K6,D7 hk] <;> rfl)
 rw[show((k.toNat:Nat):Int)=k by omega] at q;exact⟨_,q⟩
theorem kit_of {K:A7}(h:(if(N0 T == N0 S)=true then some true else if PySem.W.kitMeta S=true then(fastBuiltinMro T).map (·.contains (.type S)) else none)=some b):CH K (.type T) (.type S)=some b:=h
structure Kn (P:D3)(w:C3)(K:A7)(mg:Str->Option A3)(base:B5)(x:Str)(k:Nat)(ps:List Str)(sp:Sp):Prop where
 ex:∃(f:A0) (fd:FuncData),FnOk P w K mg base CX0 k f fd ps sp/\BO K fd ps []/\CJ K (.ref f)=true/\mg x=some (.ref f)/\∃oc od osl,K.lookup f=some ⟨oc,od,.func fd,osl⟩
structure Fn0 (K:A7)(mg:Str->Option A3)(x:Str)(st:Stmt):Prop where
 ex:∃(f:A0) (fd:FuncData),Fun K x x st f fd/\mg x=some (.ref f)
theorem fn0_mk {K:A7}{st:Stmt}(X:K.In h)(G:h.Ns V3 mg){kV doc pm jp ct:A3}
   (a:PySem.W.nsIn K V3 x=some (some (.ref f))) (l:K.lookup f=some ⟨oc,od,.func (W7 x x (k7 st) (T5 st) (K2 st) .none kV doc pm an jp ct),osl⟩)
   (c:DZ K jp x=true) (k:CJ K (.ref f)=true):Fn0 K mg x st:=⟨f,_,fun_mk l c k,PySem.W.mg_of X G a⟩
section
variable {P:D3}{w:C3}{K:A7}{mg:Str->Option A3}{base:B5}
theorem Fn0.ok {st:Stmt}{N ps:List Str}{k:Nat}{sp:Sp}(F:Fn0 K mg x st)(S:Z4 N ps (K2 st))(len:∀vs H Q E,sp vs H Q E->vs.length=ps.length)
   (bd:∀(kV doc pm:A3) (an:Option A0) (jp ct:A3) (us:List A3),us.length=ps.length->bindArgs (W7 x x (k7 st) (T5 st) (K2 st) .none kV doc pm an jp ct) ⟨us,[]⟩=pure (ps.zip us))
   (hbody:∀(f:A0) (jp:A3) (A:E8) (outer:List Env) (s:A5) (H:Hp) (vs:List V) (Q:VK) (E:XK),Room k (A.deeper (envOfC x (K2 st) s.heap.objs.size f jp))->sp vs H Q E->
     ∃t,PSs (cxOf CX0 P w K mg base N x (K2 st) f jp A outer s H E).nox (T5 st) t/\t { nx:=λ_ H'=>Q .non H',rt:=Q } (start N vs) H):Kn P w K mg base x (k+1) ps sp:=by
 obtain⟨f,fd,F1,m⟩:=F.ex
 have lk:∃oc od osl,K.lookup f=some ⟨oc,od,.func fd,osl⟩:=by
  obtain⟨oc,od,kV,doc,pm,an,jp,ct,osl,_,lk,hcd⟩:=F1.ex;exact⟨oc,od,osl,lk⟩
 exact⟨f,fd,F1.ok S len λjp A outer s H vs Q E hr h=>hbody f jp A outer s H vs Q E hr h,F1.binds bd,F1.kp,m,lk⟩
theorem Kn.imp {x:Str}{k:Nat}{ps:List Str}{sp sp':Sp}(G:Kn P w K mg base x k ps sp)(h:∀vs H Q E,sp' vs H Q E->sp vs H Q E):Kn P w K mg base x k ps sp':=by
 obtain⟨f,fd,a,b,c,d⟩:=G.ex;exact⟨f,fd,a.imp h,b,c,d⟩
end
section
variable {X:Cx}{x:Str}{p pos:Pos}{e:Expr}{es:List Expr}{t:TA}{ps:List Str}{sp:Sp}{j k:Nat}
theorem GC (G:Kn X.prog X.w X.K X.mg X.base x k ps sp)(hr:Room j X.A)(hk:k<=j)(hg:Gl X x)(ha:PA X (e::es) t)(hdb:(x == ("__debug__":Str))=false:=by decide)
   (he:E2 (e::es) X.env=(false,eval e X.env)::E2 es X.env:=by rfl) (hpl:(backTo pos (E2 es X.env)).any (·.1)=false:=by rfl) :
   PE X (.Call (.Name x p) (e::es) [] pos) (tCall sp [] E0 t):=by
 intro jd s σ H Q I h;obtain⟨f,fd,F,hb,hkp,hm,_⟩:=G.ex;exact Op F (hr.mono hk) hg hm hkp hb .nil pass0 ha hdb he hpl jd s σ H Q I h
end
def Ey (K:A7):Sp:=λvs H Q _=>∃(a:A0) (ns:List Int),vs=[.ref a]/\SqL K H a (ns.map V.int)/\ns.length<=63/\Only H/\∀H',Q (.bl true) H'
theorem Pe {l:PySem.W.OpenLaw}{q:D3}{loose:List Str}{XP:(Str->Option A3)->B5->Prop}{YP:C3->B5->Prop}{d:DefRec}{K:Params->A7}{x:Str}{k:Nat}(hn:l.most=some 63)(hdf:d.params.defaults=[])(hk:Room k callerA)
   (hY:∀(w:C3) (h:B5),YP w h->(K w.params).In h)
   (F:∀(w:C3) (mg:Str->Option A3) (h:B5),(K w.params).In h->h.Ns V3 mg->∃st,Fn0 (K w.params) mg d.name st/\
     (∀(kV doc pm:A3) (an:Option A0) (jp ct:A3) (s:A5) (u:A3),BindsTo s (W7 d.name d.name (k7 st) (T5 st) (K2 st) .none kV doc pm an jp ct) ⟨[u],[]⟩ [(x,u)])/\
     ∀base:B5,(K w.params).In base->base.Ns V3 mg->Kn l.prog w (K w.params) mg base d.name k [x] (Ey (K w.params))) :
   PySem.W.WalkO q loose XP YP l.row.toRowW d [] (λf vs=>PySem.call f vs):=by
 refine L2.OP (n:=63) (k:=k) (x:=x) (CX:=λ_=>CX0) (sp:=λw=>Ey (K w.params)) hn (by decide) hdf hk hY (λw mg fa h KX G hmg=>?_) (λ_ _ a ns hl hO hS=>⟨a,ns,rfl,hS,hl,hO,λ_=>rfl⟩) λ_ _ _ _ _ z=>z;obtain⟨st,F0,hb,hF⟩:=F w mg h KX G;obtain⟨f,fd,F1,m⟩:=F0.ex;have e:=hmg.symm.trans m;cases e;refine⟨fd,λs u=>?_,λbase kb nb=>?_⟩
 ·obtain⟨oc,od,kV,doc,pm,an,jp,ct,osl,rfl,lk,hcd⟩:=F1.ex;exact hb kV doc pm an jp ct s u
 ·obtain⟨f',fd',a,b,c,m',oc',od',osl',lk'⟩:=(hF base kb nb).ex;have e:=m.symm.trans m';cases e;obtain⟨oc,od,kV,doc,pm,an,jp,ct,osl,_,lk,hcd⟩:=F1.ex;have e2:=lk.symm.trans lk';cases e2;exact a
end L2
end
section
namespace L2
open PySem PySem.Spec PyProof.Rows
section
variable {X:Cx}
theorem Pf:OpR X (U2 .Mult) (λx y H Q=>∃i n,x=.str i/\y=.int n/\i.length<=100/\0<=n/\n<=1000/\Q (.str (Txt.mul i n)) H):=by
 intro jd s σ H x y v u Q I rx ry h;obtain⟨i,n,rfl,rfl,h1,h2,h3,q⟩:=h;obtain⟨t,rfl⟩:=rx;obtain⟨t',rfl⟩:=ry;exact SB.mul (mulOk_of 100 1000 h1 h3 (by omega) (by decide) (by decide)) λt' tk=>⟨.str _,H,I.tok _,⟨_,rfl⟩,q⟩
theorem BR (x y:Str):(x++y).cps.toList=x.cps.toList++y.cps.toList:=by
 show(x.cps++y.cps).toList=_;simp
theorem Dl (x:Str):x.length=x.cps.toList.length:=by
 show x.cps.size=_;simp
end
section
variable {X:Cx}{pos:Pos}
def GD (i j k:Nat)(ta:TA):TS:=λD σ H=>ta σ H λvs H1=>∃u v w,vs=[u,v,w]/\D.nx (((σ.set i (some u)).set j (some v)).set k (some w)) H1
theorem Pg (hc:X.calm=true)(hN:X.N.Nodup)(hi:X.N[i]?=some x)(hj:X.N[j]?=some y)(hk:X.N[k]?=some z)(hij:i≠j)(hik:i≠k)(hjk:j≠k)
   (hx:X.env.scope.names.lookup x=some .local) (hy:X.env.scope.names.lookup y=some .local) (hz:X.env.scope.names.lookup z=some .local) (ha:PA X [a,b,c] ta)
   (hw:Bq [.Tuple [.Name x px,.Name y py,.Name z pz] kt pt] (.Tuple [a,b,c] k2 pt2) X.env=pure (some [x,y,z]))
   (hs:Bp [.Tuple [.Name x px,.Name y py,.Name z pz] kt pt] (.Tuple [a,b,c] k2 pt2) pos.line X.env=pure false:=by rfl) :
   PS X (.Assign [.Tuple [.Name x px,.Name y py,.Name z pz] kt pt] (.Tuple [a,b,c] k2 pt2) pos) (GD i j k ta):=by
 intro jd s σ H D I h;rw[exec_Assign_arm];refine A2 (W3 ?_);rw[hs];refine A2 (A9 ?_);rw[jy (by decide)];refine A2 (Tuple_ (thn (ha _ jd s σ H _ I h) λus s1 ⟨vs,H1,I1,r1,q1⟩=>?_));obtain⟨v,w,w2,e1,q1⟩:=q1;subst e1
 obtain⟨u1,u2,u3,rfl,rv,rw',rw2⟩:∃u1 u2 u3,us=[u1,u2,u3]/\RelV v u1/\RelV w u2/\RelV w2 u3:=by
  cases r1 with
  | cons p q =>
   cases q with
   | cons p' q' =>
    cases q' with
    | cons p2 q2 =>
     cases q2;exact⟨_,_,_,rfl,p,p',p2⟩
 refine R8 ?_ (by show 3<=B8;decide);have I2:Inv X jd σ H1 { s1 with heap:=s1.heap.push { cls:=.type "tuple",data:=.seq [u1,u2,u3].toArray } }:=I1.kept (t':=s1.toks) λb o e=>C1 _ e;rw[hw];refine A2 (A9 ?_);show A6 (A8 X.prog X.w) X.A (do rule "assign.swapped-stores";let items ← unpackItems (.ref s1.heap.objs.size) 3 none;CG [λv=>e7 X.env z v,λv=>e7 X.env y v,λv=>e7 X.env x v] items.reverse;pure Flow.next) _ _ _;refine A2 (V4 (A2 (unpackItems_tuple (items:=#[u1,u2,u3]) (I.ok.hd hc) (IsTup.new s1.heap _) λh' hx'=>?_)));have I3:=I2.kept (h':=h') (t':=s1.toks) λb o e=>hx' b o (F3 (C4 e)) e;show A6 _ _ (CG [λv=>e7 X.env z v,λv=>e7 X.env y v,λv=>e7 X.env x v] [u3,u2,u1]>>=λ_=>pure Flow.next) _ _ _;refine A2 (BD (CD (Ah I3 hN hk (.inl hz) rw2 (λs2 I4=>?_) (.inr hz))));refine BD (CD (Ah I4 hN hj (.inl hy) rw' (λs3 I5=>?_) (.inr hy)));refine BD (CD (Ah I5 hN hi (.inl hx) rv (λs4 I6=>assignInOrder_nil (A9 ?_)) (.inr hx)));rw[List.set_comm _ _ (Ne.symm hjk),List.set_comm _ _ (Ne.symm hik),List.set_comm _ _ (Ne.symm hij)] at I6;exact⟨_,H1,I6,q1⟩
end
theorem Same.lay {H H':Hp}{p:A0}{o:HO}(s:Same H H')(h:H' p=none):Same H (upd H' p o):=λb u e=>by
 rw[C0 (Z1 (s b u e) h)];exact s b u e
theorem u6 {n:Nat}{d:Int}(h0:0<=d)(h1:d<n):ixN n d=some d.toNat:=by grind [ixN]
theorem GE {α:Type}{xs:List α}{d:Int}(h0:0<=d)(h1:d<xs.length):∃x,xs[d.toNat]?=some x/\atI xs d=some x:=by
 have hk:d.toNat<xs.length:=by omega
 refine⟨xs[d.toNat],D7 hk,?_⟩;unfold atI;rw[u6 h0 h1];simp
end L2
end
section
namespace L2
open PySem PySem.Spec PyProof.Rows
section
variable {X:Cx}
theorem Ph:OpR X (L6 .LtE) (λx y H Q=>∃i j,x=.str i/\y=.str j/\Q (.bl (!decide (j.cps.toList<i.cps.toList))) H):=by
 intro jd s σ H x y v u Q I rx ry h;obtain⟨i,j,rfl,rfl,q⟩:=h;obtain⟨t,rfl⟩:=rx;obtain⟨t',rfl⟩:=ry;exact PySem.P.le_str ⟨.bl _,H,I,rfl,q⟩
def rSlS:V->Option Int->Option Int->Hp->VK->Prop:=λx lo hi H Q=>∃z,x=.str z/\z.length<=B8/\Q (.str (AX z lo hi)) H
theorem sl_str:SlR X rSlS:=by
 intro jd s σ H x v vl vu lo hi sl Q I rx hs pl pu h;obtain⟨z,rfl,hz,q⟩:=h;obtain⟨t,rfl⟩:=rx;refine⟨"str",_,F.slot_str_getitem.lookup,typeIs_str _ _ _,?_⟩;cases pl with
 | none =>
  cases pu with
  |none=>exact DT (l:=none) (u:=none) (st:=none) hs rfl (DY ⟨G8 (Dd z _ _) hz,λt' k=>⟨.str _,H,I.tok _,⟨_,rfl⟩,q⟩⟩)
  |int j tj=>exact DT (l:=none) (u:=some (j,tj)) (st:=none) hs rfl (DY ⟨G8 (Dd z _ _) hz,λt' k=>⟨.str _,H,I.tok _,⟨_,rfl⟩,q⟩⟩)
 | int i ti =>
  cases pu with
  |none=>exact DT (l:=some (i,ti)) (u:=none) (st:=none) hs rfl (DY ⟨G8 (Dd z _ _) hz,λt' k=>⟨.str _,H,I.tok _,⟨_,rfl⟩,q⟩⟩)
  |int j tj=>exact DT (l:=some (i,ti)) (u:=some (j,tj)) (st:=none) hs rfl (DY ⟨G8 (Dd z _ _) hz,λt' k=>⟨.str _,H,I.tok _,⟨_,rfl⟩,q⟩⟩)
def Its (x:Str):It:=⟨λi _=>i<x.cps.toList.length,λi H v H'=>H'=H/\∃c,x.cps.toList[i]?=some c/\v=.str ⟨#[c]⟩,λi _=>x.cps.toList.length<=i⟩
theorem Pi {P:D3}{w:C3}{K:A7}{tg:Expr}(x:Str)(t:Tok)(it:A0):Turn P w K tg (Its x) [it] it (λi h=>h.IsStrIter it "str_ascii_iterator" x t i) where
 mem:=by simp
 obj:=λi h st b hb=>by
  have e:b=it:=by simpa using hb
  subst e;obtain⟨o,e,c,d⟩:=st;exact⟨o,e,λv z=>by rw[d] at z;cases z⟩
 keep:=λi h h' st k=>by
  obtain⟨o,e,c,d⟩:=st;exact⟨o,k it (by simp) o e,c,d⟩
 item:=by
  intro X hP hw hK hc i jd s σ H E I hf st hg;subst hP hw hK;have hg':i<x.cps.toList.length:=hg;have hx:x.cps[i]?=some x.cps.toList[i]:=by rw[<- Ga];exact D7 hg'
  obtain⟨f0,f1,f2,f3,f4,f5⟩:=hf it (by simp);refine wpAny_pyNext_ascii_item st hx λh' st' sb=>?_;have I1:Inv X jd σ H { s with heap:=h',toks:=s.toks+1 }:=I.turned (t':=s.toks+1) (λb o hb e=>(sb.2 b hb).trans e) f0 f1 f3 f4 f5;obtain⟨o,e,c,d⟩:=id st';exact⟨_,rfl,Dg (s:={ s with heap:=h',toks:=s.toks+1 }) e c d (by decide) ⟨.str ⟨#[x.cps.toList[i]]⟩,H,I1,⟨_,rfl⟩,⟨rfl,_,D7 hg',rfl⟩,st',λb hb=>(hf b hb).1⟩⟩
 done:=by
  intro X hP hw hK hc i jd s σ H E I hf st hg;subst hP hw hK;have hg':x.cps.toList.length<=i:=hg;have hx:x.cps[i]?=none:=by rw[<- Ga];exact Q0 hg'
  obtain⟨f0,f1,f2,f3,f4,f5⟩:=hf it (by simp);exact wpAny_pyNext_ascii_end (I.ok.hd hc) st hx λh' eb=>⟨rfl,I.turned (t':=s.toks) (λb o hb e=>eb b o hb e) f0 f1 f3 f4 f5⟩
 self:=λ_ _ _ _ _ st h=>wpAny_pyIter_striter_ascii st h
def iStr (te:TE):TI:=λσ H R=>te σ H λv H1=>∃x,v=.str x/\x.cps.all (· < 128)=true/\R (Its x) H1
theorem pi_str {tg l:Expr}{tl:TE}(hl:PE X l tl):PI X tg l (iStr tl):=by
 intro jd s σ H R I h;refine thn (hl jd s σ H _ I h) λv s1 ⟨x,H1,I1,r1,q1⟩=>?_;obtain⟨x,rfl,ha,q⟩:=q1;obtain⟨t,rfl⟩:=r1;refine wpAny_pyIter_ascii ha ?_;refine⟨s1.heap.objs.size,[s1.heap.objs.size],_,_,H1,rfl,I1.kept (t':=s1.toks) λb o e=>C1 _ e,Pi x t _,⟨_,F4 _ rfl,rfl,rfl⟩,λb hb=>?_,q⟩;have e:b=s1.heap.objs.size:=by simpa using hb
 subst e;exact I1.fpOk (B7 _) (I1.hok.fresh (B7 _))
def rCatA (K:A7):R2:=λx y H Q=>∃a b xs ys,x=.ref a/\y=.ref b/\SqT K H a xs/\SqT K H b ys/\xs.length+ys.length<=B8/\
 (xs=[]->Q (.ref b) H)/\(xs≠[]->ys=[]->Q (.ref a) H)/\(xs≠[]->ys≠[]->∀p,H p=none->Q (.ref p) (upd H p (.tup (xs++ys))))
theorem Pj:OpR X (U2 .Add) (rCatA X.K):=by
 intro jd s σ H x y v u Q I rx ry h;obtain⟨a,b,xs,ys,rfl,rfl,ha,hb,hz,q0,q1,q2⟩:=h
 by_cases hx:xs=[]
 ·cases rx;cases ry;obtain⟨jh,r1,p1,_⟩:=I.tuple ha;obtain⟨its2,r2,p2,_⟩:=I.tuple hb;obtain⟨⟨cls,dd,data,sl⟩,ho,hc,n,hd⟩:=id p1;obtain⟨⟨cls2,dd2,data2,sl2⟩,ho2,hc2,n2,hd2⟩:=id p2;simp only at hc hd hc2 hd2;subst hc hd hc2 hd2;have he:jh=[]:=r1.nil_iff.mpr hx
  exact concat_meets ⟨_,ho,rfl⟩ ⟨_,ho2,rfl⟩ noFill_tuple_add seq_tuple_add FY FX (FW _ _)
    (tuple_addW0 a b jh.toArray its2.toArray n n2 dd dd2 sl sl2 (by simp[he])) ⟨ho,ho2,⟨.ref b,H,I,rfl,q0 hx⟩⟩
 ·exact Ox jd s σ H _ _ v u Q I rx ry ⟨a,b,xs,ys,rfl,rfl,ha,hb,hx,hz,q1 hx,q2 hx⟩
theorem Inv.big {jd:List (A0×Obj)}{σ:St}{H:Hp}{s:A5}(I:Inv X jd σ H s):N7<s.heap.objs.size:=by
 have h:V3<s.heap.objs.size:=(I.mod.glob.keeps I.bk).lt;exact Nat.lt_trans (by decide) h
theorem Pk {P:D3}{w:C3}{H:Hp}(h:B5)(hb:N7<h.objs.size):J4 P w H (h.push { cls:=.type "dict",data:=.dict #[] }) h.objs.size (.dK []):=
 ⟨M5 _,beq_eq_false_iff_ne.mpr (Ne.symm (F3 hb)),[],.nil,Heap.DictOf.new h⟩
def tDNewK:TE:=λ_ H Q=>∀p,H p=none->Q (.ref p) (upd H p (.dK []))
theorem Pm {pos:Pos}:PE X (.Dict [] [] pos) tDNewK:=λjd s σ H Q I h=>
 wpAny_Dict_empty ⟨.ref s.heap.objs.size,_,I.laid (a:=s.heap.objs.size) (o:=.dK []) (t':=s.toks) (λ_ _ q=>C1 _ q) (B7 _) (Pk s.heap I.big),rfl,h _ (I.hok.fresh (B7 _))⟩
end
structure Num0 (mg:Str->Option A3)(x:Str)(i:Int):Prop where
 ex:∃t,mg x=some (.int i t)
theorem JL {K:A7}{h:B5}{mg:Str->Option A3}{x:Str}{i:Int}{t:Tok}(X:K.In h)(G:h.Ns V3 mg)(a:PySem.W.nsIn K V3 x=some (some (.int i t))):Num0 mg x i:=⟨t,PySem.W.mg_of X G a⟩
theorem pe_num {X:Cx}{x:Str}{i:Int}{pos:Pos}(n:Num0 X.mg x i)(hg:Gl X x)(hd:(x == ("__debug__":Str))=false:=by decide):PE X (.Name x pos) (tC (.int i)):=λjd s σ H Q I h=>by
 obtain⟨t,e⟩:=n.ex;exact NO (v:=.int i) hg e ⟨t,rfl⟩ hd jd s σ H Q I h
end L2
end
section
namespace Pu
open PySem PySem.Spec L2
inductive PV where
 |non|bl (b:Bool)|int (i:Int)|str (x:Str)|ty (n:String)|pot (k:Nat)
 |tup (xs:List PV)|lst (xs:List PV)|dct (ks:List Key) (xs:List PV)
 /-- the script -/
 |scr (ns:List Int)
 /-- a dict by tuples that nothing changes any more -/
 |fdt (ks:List (List Key)) (xs:List PV)
structure Gh where
 M:List A0
 pots:List A0
def KLst (K:A7)(a:A0)(xs:List V):Prop:=∃(o:Obj) (jh:Array A3) (n:Nat),K.lookup a=some o/\o.cls=.type "list"/\o.dict=none/\o.data=.seq jh n/\jh.size<=B8/\Vals xs jh.toList
def AtL (M:List A0)(H:Hp)(a:A0)(xs:List V):Prop:=a∉M/\H a=some (.lst xs)
def AtT (M:List A0)(H:Hp)(a:A0)(xs:List V):Prop:=a∉M/\H a=some (.tup xs)
theorem AtL.sq {K:A7}{M:List A0}{H:Hp}{a:A0}{xs:List V}(h:AtL M H a xs):SqL K H a xs:=SqL.of h.2
theorem AtT.sq {K:A7}{M:List A0}{H:Hp}{a:A0}{xs:List V}(h:AtT M H a xs):SqT K H a xs:=SqT.of h.2
mutual
def Rep (K:A7)(G:Gh)(H:Hp):PV->V->Prop
 |.non,v=>v=.non
 |.bl b,v=>v=.bl b
 |.int i,v=>v=.int i
 |.str x,v=>v=.str x
 |.ty n,v=>v=.ty n
 |.pot k,v=>∃p,G.pots[k]?=some p/\v=.ref p
 |.tup xs,v=>∃a vs,v=.ref a/\AtT G.M H a vs/\Reps K G H xs vs
 |.lst xs,v=>∃a vs,v=.ref a/\AtL G.M H a vs/\Reps K G H xs vs
 |.scr ns,v=>∃a,v=.ref a/\((a∉G.M/\∃o,H a=some (.frz o (.lst (ns.map V.int))))\/KLst K a (ns.map V.int))
 |.dct ks xs,v=>∃a ji,v=.ref a/\a∉G.M/\H a=some (.dK ji)/\ji.map (·.1)=ks/\Reps K G H xs (ji.map (·.2))
 |.fdt ks xs,v=>∃a ji,v=.ref a/\a∉G.M/\Rd H a (.dT ji)/\ji.map (·.1)=ks/\Reps K G H xs (ji.map (·.2))
def Reps (K:A7)(G:Gh)(H:Hp):List PV->List V->Prop
 |[],vs=>vs=[]
 |x::xs,vs=>∃v r,vs=v::r/\Rep K G H x v/\Reps K G H xs r
end
section
variable {K:A7}{G G':Gh}{H H':Hp}
theorem Rd.keep {a:A0}{u:HO}(h:Rd H a u)(k:∀o,H a=some o->H' a=some o):Rd H' a u:=by grind [HO,Rd]
theorem Rd.ne {a:A0}{u:HO}(h:Rd H a u):H a≠none:=by grind [HO,Rd]
mutual
theorem Rep.mono (hk:∀b o,b∉G.M->H b=some o->H' b=some o)(hM:∀a∈G'.M,a∈G.M\/H a=none)(hp:∀(k:Nat) (p:A0),G.pots[k]?=some p->G'.pots[k]?=some p):∀(x:PV) (v:V),Rep K G H x v->Rep K G' H' x v
 |.non,v,h=>h
 |.bl b,v,h=>h
 |.int i,v,h=>h
 |.str x,v,h=>h
 |.ty n,v,h=>h
 | .pot k, v, h => by
  obtain⟨p,e,r⟩:=h;exact⟨p,hp k p e,r⟩
 | .tup xs, v, h => by
  obtain⟨a,vs,e,t,r⟩:=h;refine⟨a,vs,e,?_,Reps.mono hk hM hp xs vs r⟩;obtain⟨n,t⟩:=t;exact⟨λz=>(hM a z).elim n (λz=>by rw[z] at t;cases t),hk a _ n t⟩
 | .lst xs, v, h => by
  obtain⟨a,vs,e,t,r⟩:=h;refine⟨a,vs,e,?_,Reps.mono hk hM hp xs vs r⟩;obtain⟨n,t⟩:=t;exact⟨λz=>(hM a z).elim n (λz=>by rw[z] at t;cases t),hk a _ n t⟩
 | .scr ns, v, h => by
  obtain⟨a,e,h⟩:=h;refine⟨a,e,?_⟩;rcases h with⟨n,o,t⟩|h
  ·exact .inl ⟨λz=>(hM a z).elim n (λz=>by rw[z] at t;cases t),o,hk a _ n t⟩
  ·exact .inr h
 | .dct ks xs, v, h => by
  obtain⟨a,ji,e,n,t,ek,r⟩:=h;exact⟨a,ji,e,λz=>(hM a z).elim n (λz=>by rw[z] at t;cases t),hk a _ n t,ek,Reps.mono hk hM hp xs _ r⟩
 | .fdt ks xs, v, h => by
  obtain⟨a,ji,e,n,t,ek,r⟩:=h;exact⟨a,ji,e,λz=>(hM a z).elim n (λz=>Rd.ne (u:=.dT ji) t z),Rd.keep (u:=.dT ji) t (λo e=>hk a o n e),ek,Reps.mono hk hM hp xs _ r⟩
theorem Reps.mono (hk:∀b o,b∉G.M->H b=some o->H' b=some o)(hM:∀a∈G'.M,a∈G.M\/H a=none)(hp:∀(k:Nat) (p:A0),G.pots[k]?=some p->G'.pots[k]?=some p):∀(xs:List PV) (vs:List V),Reps K G H xs vs->Reps K G' H' xs vs
 |[],vs,h=>h
 | x :: xs, vs, h => by
  obtain⟨v,r,e,hx,hr⟩:=h;exact⟨v,r,e,Rep.mono hk hM hp x v hx,Reps.mono hk hM hp xs r hr⟩
end
theorem Rep.same (h:Rep K G H x v)(s:Same H H'):Rep K G H' x v:=Rep.mono (λb o _ e=>s b o e) (λa z=>.inl z) (λ_ _ e=>e) x v h
theorem Reps.same (h:Reps K G H x v)(s:Same H H'):Reps K G H' x v:=Reps.mono (λb o _ e=>s b o e) (λa z=>.inl z) (λ_ _ e=>e) x v h
def Fr (G:Gh)(H H':Hp):Prop:=∀b o,b∉G.M->H b=some o->H' b=some o
theorem Fr.refl:Fr G H H:=λ_ _ _ e=>e
theorem Fr.trans (a:Fr G H H')(b:Fr G H' H2):Fr G H H2:=λc o n e=>b c o n (a c o n e)
theorem Fr.of (s:Same H H'):Fr G H H':=λb o _ e=>s b o e
theorem Rep.fr (h:Rep K G H x v)(s:Fr G H H'):Rep K G H' x v:=Rep.mono s (λa z=>.inl z) (λ_ _ e=>e) x v h
theorem Reps.fr (h:Reps K G H x v)(s:Fr G H H'):Reps K G H' x v:=Reps.mono s (λa z=>.inl z) (λ_ _ e=>e) x v h
theorem Reps.length:∀{xs:List PV} {vs:List V},Reps K G H xs vs->xs.length=vs.length
 |[],vs,h=>by cases(show vs=[] from h);rfl
 | x :: xs, vs, h => by
  obtain⟨v,r,e,hx,hr⟩:=h;subst e;simp[Reps.length hr]
theorem Reps.get:∀{xs:List PV} {vs:List V} {i:Nat} {v:V},Reps K G H xs vs->vs[i]?=some v->∃x,xs[i]?=some x/\Rep K G H x v
 |[],vs,i,v,h,e=>by cases(show vs=[] from h);simp at e
 | x :: xs, vs, i, v, h, e => by
  obtain⟨w,r,e1,hx,hr⟩:=h;subst e1;cases i with
  |zero=>simp at e;subst e;exact⟨x,rfl,hx⟩
  |succ i=>simpa using Reps.get (i:=i) hr (by grind)
theorem Reps.get':∀{xs:List PV} {vs:List V} {i:Nat} {x:PV},Reps K G H xs vs->xs[i]?=some x->∃v,vs[i]?=some v/\Rep K G H x v:=λ{xs vs i x} h e=>by
 obtain⟨hi,_⟩:=E6.mp e;have hl:=h.length;have e2:vs[i]?=some (vs[i]'(by omega)):=D7 (by omega);obtain⟨y,ey,r⟩:=h.get e2;rw[e] at ey;cases ey;exact⟨_,e2,r⟩
theorem Reps.append:∀{xs ys:List PV} {vs us:List V},Reps K G H xs vs->Reps K G H ys us->Reps K G H (xs++ys) (vs++us)
 |[],ys,vs,us,h,h'=>by cases(show vs=[] from h);exact h'
 | x :: xs, ys, vs, us, h, h' => by
  obtain⟨w,r,e1,hx,hr⟩:=h;subst e1;exact⟨w,r++us,rfl,hx,Reps.append hr h'⟩
theorem Reps.take:∀{xs:List PV} {vs:List V} (n:Nat),Reps K G H xs vs->Reps K G H (xs.take n) (vs.take n)
 |xs,vs,0,h=>by simp[Reps]
 |[],vs,n+1,h=>by cases(show vs=[] from h);exact rfl
 | x :: xs, vs, n + 1, h => by
  obtain⟨w,r,e1,hx,hr⟩:=h;subst e1;exact⟨w,r.take n,rfl,hx,Reps.take n hr⟩
theorem Reps.drop:∀{xs:List PV} {vs:List V} (n:Nat),Reps K G H xs vs->Reps K G H (xs.drop n) (vs.drop n)
 |xs,vs,0,h=>by simpa using h
 |[],vs,n+1,h=>by cases(show vs=[] from h);exact rfl
 | x :: xs, vs, n + 1, h => by
  obtain⟨w,r,e1,hx,hr⟩:=h;subst e1;exact Reps.drop n hr
theorem Reps.one (h:Rep K G H x v):Reps K G H [x] [v]:=⟨v,[],rfl,h,rfl⟩
theorem Reps.set:∀{xs:List PV} {vs:List V} (n:Nat) {x:PV} {v:V},Reps K G H xs vs->Rep K G H x v->Reps K G H (xs.set n x) (vs.set n v)
 |[],vs,n,x,v,h,_=>by cases(show vs=[] from h);exact rfl
 | y :: xs, vs, 0, x, v, h, h' => by
  obtain⟨w,r,e1,hx,hr⟩:=h;subst e1;exact⟨v,r,rfl,h',hr⟩
 | y :: xs, vs, n + 1, x, v, h, h' => by
  obtain⟨w,r,e1,hx,hr⟩:=h;subst e1;exact⟨w,r.set n v,rfl,hx,Reps.set n hr h'⟩
theorem Reps.eraseIdx:∀{xs:List PV} {vs:List V} (n:Nat),Reps K G H xs vs->Reps K G H (xs.eraseIdx n) (vs.eraseIdx n)
 |[],vs,n,h=>by cases(show vs=[] from h);exact rfl
 | y :: xs, vs, 0, h => by
  obtain⟨w,r,e1,hx,hr⟩:=h;subst e1;exact hr
 | y :: xs, vs, n + 1, h => by
  obtain⟨w,r,e1,hx,hr⟩:=h;subst e1;exact⟨w,r.eraseIdx n,rfl,hx,Reps.eraseIdx n hr⟩
def MutO:HO->Prop
 |.lst _=>True
 |.dK _=>True
 |.dT _=>True
 |.set _ _=>True
 |.tbl _=>True
 |_=>False
end
inductive OK where
 |lst|dk (ks:List Key)|dt (ks:List (List Key))|st (zs:List Key)
def memS (zs:List Key)(k:Key):Bool:=zs.any λz=>decide (z=k)
def mkO:OK->List V->HO
 |.lst,vs=>.lst vs
 |.dk ks,vs=>.dK (ks.zip vs)
 |.dt ks,vs=>.dT (ks.zip vs)
 |.st zs,_=>.set (memS zs) zs.length
theorem GF (k:OK)(vs:List V):MutO (mkO k vs):=by cases k <;> trivial
inductive Slot where
 |v (x:PV)
 |ow (k:OK) (xs:List PV)
abbrev Slot.own (xs:List PV):Slot:=.ow .lst xs
abbrev Env:=List (Option Slot)
structure PotK where
 at_:List A0->Hp->A0->Nat->Prop
 mono:∀{M H p n m},at_ M H p n->n<=m->at_ M H p m
 keep:∀{M H H' p n},at_ M H p n->H' p=H p->(∀b o,b∉M->H b=some o->H' b=some o)->at_ M H' p n
 more:∀{M M' H p n},at_ M H p n->(∀a∈M',a∈M\/H a=none)->at_ M' H p n
 mu:∀{M H p n},at_ M H p n->∃o,H p=some o/\MutO o
 /-- what is known of all pots together -/
 has:List A0->Prop:=λ_=>True
 hasM:∀{l:List A0} {p:A0},has l->p∉l->has (l++[p]):=by intro _ _ _ _;trivial
structure Ct where
 K:A7
 T:PotK
 M0:List A0
 pots0:List A0
 H0:Hp
 np:Bool
def GH (C:Ct)(G:Gh)(H:Hp)(o:Option (Option V)):Slot->Prop
 |.v x=>∃v,o=some (some v)/\Rep C.K G H x v
 |.ow k xs=>∃a vs,o=some (some (.ref a))/\a∈G.M/\a∉C.M0/\a∉G.pots/\H a=some (mkO k vs)/\Reps C.K G H xs vs
structure SR (C:Ct)(G:Gh)(σ:St)(H:Hp)(env:Env)(n:Nat):Prop where
 frame:∀b o,b∉C.pots0->C.H0 b=some o->H b=some o
 sub:∀a∈G.M,a∈C.M0\/C.H0 a=none
 sup:∀a∈C.M0,a∈G.M
 pots:∀p∈G.pots,p∈G.M/\C.T.at_ G.M H p n
 pre:∃l,G.pots=C.pots0++l/\(l=[]\/C.np=true)
 mu:∀a∈G.M,∃o,H a=some o/\MutO o
 slots:∀(i:Nat) (s:Slot),env[i]?=some (some s)->GH C G H (σ[i]?) s
 inj:∀(i j:Nat) (xs ys:OK×List PV) (a:A0),env[i]?=some (some (.ow xs.1 xs.2))->env[j]?=some (some (.ow ys.1 ys.2))->σ[i]?=some (some (.ref a))->σ[j]?=some (some (.ref a))->i=j
 p0:(∀p∈C.pots0,p∈C.M0)/\C.T.has G.pots
 len:env.length=σ.length
 newp:∀p∈G.pots,p∉C.pots0->p∈C.M0->False
section
variable {C:Ct}{G G':Gh}{σ:St}{H H':Hp}{env:Env}{n:Nat}
theorem SR.hasG (S:SR C G σ H env n):C.T.has G.pots:=S.p0.2
theorem SR.fresh (S:SR C G σ H env n)(h:H p=none):p∉G.M:=λz=>by
 obtain⟨o,e,_⟩:=S.mu p z;rw[h] at e;cases e
theorem SR.same (S:SR C G σ H env n)(s:Same H H'):SR C G σ H' env n where
 frame b o hb e:=s b o (S.frame b o hb e)
 sub:=S.sub
 sup:=S.sup
 pots p hp:=⟨(S.pots p hp).1,C.T.keep (S.pots p hp).2 (by
  obtain⟨o,e,_⟩:=C.T.mu (S.pots p hp).2
  rw[e,s p o e]) λb o _ e=>s b o e⟩
 pre:=S.pre
 mu a ha:=by
  obtain⟨o,e,m⟩:=S.mu a ha;exact⟨o,s a o e,m⟩
 slots i x e:=by
  have:=S.slots i x e;cases x with
  | v x =>
   obtain⟨v,e1,r⟩:=this;exact⟨v,e1,r.same s⟩
  | ow kk xs =>
   obtain⟨a,vs,e1,h1,h2,h3,h4,r⟩:=this;exact⟨a,vs,e1,h1,h2,h3,s _ _ h4,r.same s⟩
 inj:=S.inj
 p0:=S.p0
 len:=S.len
 newp:=S.newp
theorem Same.lay1 (h:H p=none):Same H (upd H p o):=(Same.refl H).lay h
end
end Pu
end
section
namespace Pu
open PySem PySem.Spec L2
abbrev PK:=PV->Env->Nat->Prop
abbrev pE:=Env->Nat->PK->Prop
abbrev pT:=Env->Nat->(Bool->Env->Nat->Prop)->Prop
abbrev pA:=Env->Nat->(List PV->Env->Nat->Prop)->Prop
abbrev pF:=List PV->Nat->(PV->Nat->Prop)->Prop
def RdV (K:A7)(G:Gh)(H:Hp)(x:PV)(v:V):Prop:=Rep K G H x v\/∃a vs xs,x=.lst xs/\v=.ref a/\H a=some (.lst vs)/\Reps K G H xs vs
def RdS (C:Ct)(G:Gh)(σ:St)(H:Hp)(env:Env)(x:PV)(v:V):Prop:=Rep C.K G H x v\/∃(i:Nat) (a:A0) (xs:List PV),env[i]?=some (some (.ow .lst xs))/\σ[i]?=some (some (.ref a))/\x=.lst xs/\v=.ref a
def EOk (K:A7)(T:PotK)(t:TE)(pe:pE):Prop:=∀(C:Ct) (G:Gh) (σ:St) (H:Hp) (env:Env) (n:Nat) (R:PK) (Q:VK),C.K=K->C.T=T->SR C G σ H env n->pe env n R->
 (∀x jk n' v H',R x jk n'->SR C G σ H' jk n'->Rep K G H' x v->Fr G H H'->Q v H')->t σ H Q
def ROk (K:A7)(T:PotK)(t:TE)(pe:pE):Prop:=∀(C:Ct) (G:Gh) (σ:St) (H:Hp) (env:Env) (n:Nat) (R:PK) (Q:VK),C.K=K->C.T=T->SR C G σ H env n->pe env n R->
 (∀x jk n' v H',R x jk n'->SR C G σ H' jk n'->RdS C G σ H' jk x v->Fr G H H'->Q v H')->t σ H Q
def NOk (K:A7)(T:PotK)(t:TE)(pn:pA):Prop:=∀(C:Ct) (G:Gh) (σ:St) (H:Hp) (env:Env) (n:Nat) (R:List PV->Env->Nat->Prop) (Q:VK),C.K=K->C.T=T->SR C G σ H env n->pn env n R->
 (∀xs jk n' a vs Hb,R xs jk n'->SR C G σ Hb jk n'->Fr G H Hb->Hb a=none->Reps K G Hb xs vs->Q (.ref a) (upd Hb a (.lst vs)))->t σ H Q
def TOk (K:A7)(T:PotK)(t:TT)(pt:pT):Prop:=∀(C:Ct) (G:Gh) (σ:St) (H:Hp) (env:Env) (n:Nat) (R:Bool->Env->Nat->Prop) (Q:Bool->Hp->Prop),C.K=K->C.T=T->SR C G σ H env n->pt env n R->
 (∀b jk n' H',R b jk n'->SR C G σ H' jk n'->Fr G H H'->Q b H')->t σ H Q
def AOk (K:A7)(T:PotK)(t:TA)(pa:pA):Prop:=∀(C:Ct) (G:Gh) (σ:St) (H:Hp) (env:Env) (n:Nat) (R:List PV->Env->Nat->Prop) (Q:List V->Hp->Prop),C.K=K->C.T=T->SR C G σ H env n->pa env n R->
 (∀xs jk n' vs H',R xs jk n'->SR C G σ H' jk n'->Reps K G H' xs vs->Fr G H H'->Q vs H')->t σ H Q
structure EW (X:Cx)(e:Expr)(t:TE):Prop where
 h:PE X e t
structure SW (X:Cx)(st:Stmt)(t:TS):Prop where
 h:PS X st t
structure GW (X:Cx)(e:Expr)(g:TG):Prop where
 h:PG X e g
theorem vw (i:Nat)(hN:X.N[i]?=some x:=by rfl)(hv:Vis X.env.scope x:=by first|exact Or.inl rfl|exact Or.inr (Or.inl rfl)|exact Or.inr (Or.inr rfl))(hd:(x == ("__debug__":Str))=false:=by decide)(hcd:(x == ("__classdict__":Str))=false:=by decide):EW X (.Name x pos) (tVar i):=⟨Ja hN hv hd hcd⟩
def QE {ι:Type}(T:PotK)(K:A7)(F:ι->Cx)(e:Expr)(pe:pE):Prop:=∃t,(∀z,PE (F z) e t)/\EOk K T t pe
def QR {ι:Type}(T:PotK)(K:A7)(F:ι->Cx)(e:Expr)(pe:pE):Prop:=∃t,(∀z,PE (F z) e t)/\ROk K T t pe
def QN {ι:Type}(T:PotK)(K:A7)(F:ι->Cx)(e:Expr)(pn:pA):Prop:=∃t,(∀z,PE (F z) e t)/\NOk K T t pn
def QT {ι:Type}(T:PotK)(K:A7)(F:ι->Cx)(e:Expr)(pt:pT):Prop:=∃t,(∀z,PT (F z) e t)/\TOk K T t pt
def QW {ι:Type}(T:PotK)(K:A7)(F:ι->Cx)(e:Expr)(pt:pT):Prop:=∃t,(∀z,PW (F z) e t)/\TOk K T t pt
def QA {ι:Type}(T:PotK)(K:A7)(F:ι->Cx)(es:List Expr)(pa:pA):Prop:=∃t,(∀z,PA (F z) es t)/\AOk K T t pa
section
variable {T:PotK}{ι:Type}{K:A7}{F:ι->Cx}{e a b:Expr}{es:List Expr}{pe pa pb:pE}
theorem Reps.nil:Reps K G H [] []:=rfl
theorem Reps.cons (h:Rep K G H x v)(h':Reps K G H xs vs):Reps K G H (x::xs) (v::vs):=⟨v,vs,rfl,h,h'⟩
theorem RdS.rd (S:SR C G σ H env n)(h:RdS C G σ H env x v):RdV C.K G H x v:=by
 rcases h with h|⟨i,a,xs,e1,e2,ex,ev⟩
 ·exact .inl h
 ·obtain⟨a',vs,e3,_,_,_,h4,r⟩:=S.slots i _ e1;rw[e2] at e3;cases e3;exact .inr ⟨a,vs,xs,ex,ev,h4,r⟩
theorem RdS.fr (h:RdS C G σ H env x v)(f:Fr G H H'):RdS C G σ H' env x v:=by
 rcases h with h|h
 ·exact .inl (h.fr f)
 ·exact .inr h
theorem RdV.lst (h:RdV K G H (.lst xs) v):∃a vs,v=.ref a/\SqL K H a vs/\Reps K G H xs vs:=by
 rcases h with⟨a,vs,e,t,r⟩|⟨a,vs,ys,ex,ev,h4,r⟩
 ·exact⟨a,vs,e,t.sq,r⟩
 ·cases ex;exact⟨a,vs,ev,SqL.of h4,r⟩
theorem RdV.rep {K:A7}{G:Gh}{H:Hp}{x:PV}{v:V}(h:RdV K G H x v)(hx:∀xs,x≠.lst xs):Rep K G H x v:=by simp_all [Gh,Hp,PV,RdV,V]
theorem RdV.tup (h:RdV K G H (.tup xs) v):∃a vs,v=.ref a/\SqT K H a vs/\Reps K G H xs vs:=by
 obtain⟨a,vs,e,t,r⟩:=h.rep (λ_ z=>nomatch z);exact⟨a,vs,e,t.sq,r⟩
theorem RdV.int (h:RdV K G H (.int i) v):v=.int i:=h.rep (λ_ z=>nomatch z)
theorem RdV.str (h:RdV K G H (.str i) v):v=.str i:=h.rep (λ_ z=>nomatch z)
theorem RdV.bl (h:RdV K G H (.bl i) v):v=.bl i:=h.rep (λ_ z=>nomatch z)
theorem RdV.non (h:RdV K G H .non v):v=.non:=h.rep (λ_ z=>nomatch z)
def qV (i:Nat):pE:=λenv n R=>match env[i]? with|some (some (.v x))=>R x env n|_=>False
def qO (i:Nat):pE:=λenv n R=>match env[i]? with|some (some (.ow .lst xs))=>R (.lst xs) env n|_=>False
def qC (c:PV):pE:=λenv n R=>R c env n
theorem qV_ex (h:qV i env n R):∃x,env[i]?=some (some (.v x))/\R x env n:=by
 unfold qV at h
 split at h
 ·exact⟨_,by assumption,h⟩
 ·exact h.elim
theorem qO_ex (h:qO i env n R):∃xs,env[i]?=some (some (.ow .lst xs))/\R (.lst xs) env n:=by
 unfold qO at h
 split at h
 ·exact⟨_,by assumption,h⟩
 ·exact h.elim
theorem qe_var (i:Nat)(h:∀z,EW (F z) (.Name x pos) (tVar i)):QE T K F (.Name x pos) (qV i):=by
 refine⟨_,λz=>(h z).h,λC G σ H env n R Q hK hT S hp k=>?_⟩;obtain⟨x,e,r⟩:=qV_ex hp;obtain⟨v,ev,rv⟩:=S.slots i _ e;exact⟨v,ev,k _ _ _ _ _ r S (hK▸rv) Fr.refl⟩
theorem X3 (i:Nat)(h:∀z,EW (F z) (.Name x pos) (tVar i)):QR T K F (.Name x pos) (qO i):=by
 refine⟨_,λz=>(h z).h,λC G σ H env n R Q hK hT S hp k=>?_⟩;obtain⟨xs,e,r⟩:=qO_ex hp;obtain⟨a,vs,ev,_,_,_,_,rv⟩:=S.slots i _ e;exact⟨.ref a,ev,k _ _ _ _ _ r S (.inr ⟨i,a,xs,e,ev,rfl,rfl⟩) Fr.refl⟩
theorem QE.r (h:QE T K F e pe):QR T K F e pe:=by
 obtain⟨t,h1,h2⟩:=h;exact⟨t,h1,λC G σ H env n R Q hK hT S hp k=>h2 C G σ H env n R Q hK hT S hp λx jk n' v H' r S' rp f=>k x jk n' v H' r S' (.inl (by rw[hK];exact rp)) f⟩
theorem ok_c (h:∀G H,Rep K G H c v):EOk K T (tC v) (qC c):=λC G σ H env n R Q hK hT S hp k=>k _ _ _ _ _ hp S (h G H) Fr.refl
theorem B0 {i j pos}:QE T K F (.Constant (.int i) j pos) (qC (.int i)):=⟨_,λz=>F6,ok_c λ_ _=>rfl⟩
theorem M2 {i j pos}:QE T K F (.Constant (.bool i) j pos) (qC (.bl i)):=⟨_,λz=>pe_bl,ok_c λ_ _=>rfl⟩
theorem N9 {i j pos}:QE T K F (.Constant (.str i) j pos) (qC (.str i)):=⟨_,λz=>pe_str,ok_c λ_ _=>rfl⟩
theorem GI {j pos}:QE T K F (.Constant .none j pos) (qC .non):=⟨_,λz=>pe_non,ok_c λ_ _=>rfl⟩
theorem JM {x:Str}{i:Int}{pos:Pos}(n:∀z,Num0 (F z).mg x i)(hg:∀z,Gl (F z) x)(hd:(x == ("__debug__":Str))=false:=by decide):QE T K F (.Name x pos) (qC (.int i)):=⟨_,λz=>pe_num (n z) (hg z) hd,ok_c λ_ _=>rfl⟩
abbrev w1:=PV->(PV->Prop)->Prop
abbrev w2:=PV->PV->(PV->Prop)->Prop
def W2 (K:A7)(r:R2)(w:w2):Prop:=∀(G:Gh) (H:Hp) (x y:PV) (v u:V) (R:PV->Prop) (Q:VK),(∀p,H p=none->p∉G.M)->RdV K G H x v->RdV K G H y u->w x y R->
 (∀z v' H',R z->Same H H'->Rep K G H' z v'->Q v' H')->r v u H Q
def W1 (K:A7)(r:V->Hp->VK->Prop)(w:w1):Prop:=∀(G:Gh) (H:Hp) (x:PV) (v:V) (R:PV->Prop) (Q:VK),(∀p,H p=none->p∉G.M)->RdV K G H x v->w x R->
 (∀z v' H',R z->Same H H'->Rep K G H' z v'->Q v' H')->r v H Q
def qOp (w:w2)(pa pb:pE):pE:=λenv n R=>pa env n λx je n1=>pb je n1 λy jf n2=>w x y λz=>R z jf n2
def qOpR (w:w2)(pa pb:pE):pE:=λenv n R=>pa env n λx je n1=>pb je n1 λy jf n2=>jf=je/\w x y λz=>R z jf n2
def qUn (w:w1)(pa:pE):pE:=λenv n R=>pa env n λx je n1=>w x λz=>R z je n1
theorem Dm (hw:W2 K r w)(ha:EOk K T ta pa)(hb:ROk K T tb pb):EOk K T (tOp r ta tb) (qOp w pa pb):=λC G σ H env n R Q hK hT S hp k=>by
 refine ha C G σ H env n _ _ hK hT S hp λx je n1 v H1 p1 S1 r1 f1=>?_;refine hb C G σ H1 je n1 _ _ hK hT S1 p1 λy jf n2 u H2 p2 S2 r2 f2=>?_;subst hK;exact hw G H2 x y v u _ _ (λp hp=>S2.fresh hp) (.inl (r1.fr f2)) (r2.rd S2) p2 λz v' H' rz s rv=>k _ _ _ _ _ rz (S2.same s) rv ((f1.trans f2).trans (Fr.of s))
theorem ok_opR (hw:W2 K r w)(ha:ROk K T ta pa)(hb:ROk K T tb pb):EOk K T (tOp r ta tb) (qOpR w pa pb):=λC G σ H env n R Q hK hT S hp k=>by
 refine ha C G σ H env n _ _ hK hT S hp λx je n1 v H1 p1 S1 r1 f1=>?_;refine hb C G σ H1 je n1 _ _ hK hT S1 p1 λy jf n2 u H2 p2 S2 r2 f2=>?_;subst hK;obtain⟨e,p2⟩:=p2;subst e;exact hw G H2 x y v u _ _ (λp hp=>S2.fresh hp) ((r1.fr f2).rd S2) (r2.rd S2) p2 λz v' H' rz s rv=>k _ _ _ _ _ rz (S2.same s) rv ((f1.trans f2).trans (Fr.of s))
theorem ok_un (hw:W1 K r w)(ha:ROk K T ta pa):EOk K T (tUn r ta) (qUn w pa):=λC G σ H env n R Q hK hT S hp k=>by
 refine ha C G σ H env n _ _ hK hT S hp λx je n1 v H1 p1 S1 r1 f1=>?_;subst hK;exact hw G H1 x v _ _ (λp hp=>S1.fresh hp) (r1.rd S1) p1 λz v' H' rz s rv=>k _ _ _ _ _ rz (S1.same s) rv (f1.trans (Fr.of s))
def wI (C:Int->Int->Prop)(g:Int->Int->PV):w2:=λx y R=>match x,y with|.int i,.int j=>C i j/\R (g i j)|_,_=>False
theorem W2.I (hg:∀i j G H,Rep K G H (g' i j) (g i j)):W2 K (rI C g) (wI C g'):=by
 intro G H x y v u R Q hf rx ry hw k;unfold wI at hw
 split at hw
 ·exact⟨_,_,rx.int,ry.int,hw.1,k _ _ _ hw.2 (Same.refl _) (hg _ _ _ _)⟩
 ·exact hw.elim
def wI0 (g:Int->Int->PV):w2:=λx y R=>match x,y with|.int i,.int j=>R (g i j)|_,_=>False
theorem W2.I0 (hg:∀i j G H,Rep K G H (g' i j) (g i j)):W2 K (rI0 g) (wI0 g'):=by
 intro G H x y v u R Q hf rx ry hw k;unfold wI0 at hw
 split at hw
 ·exact⟨_,_,rx.int,ry.int,k _ _ _ hw (Same.refl _) (hg _ _ _ _)⟩
 ·exact hw.elim
def wAdd:w2:=λx y R=>match x,y with
 |.int i,.int j=>R (.int (i+j))
 |.str i,.str j=>i.length+j.length<=1000000/\R (.str (i++j))
 |.tup xs,.tup ys=>xs.length+ys.length<=1000000/\R (.tup (xs++ys))
 |_,_=>False
theorem mil (h:n<=1000000):n<=B8:=G8 h (by rw[d9];decide)
theorem mil' (h:n<=1000000):n<B8:=By h (by rw[d9];decide)
theorem u7 (hf:p∉G.M)(hn:H p=none)(r:Reps K G H xs vs):Rep K G (upd H p (.tup vs)) (.tup xs) (.ref p):=
 ⟨p,vs,rfl,⟨hf,F9⟩,r.same (Same.lay1 hn)⟩
theorem Dn (hf:p∉G.M)(hn:H p=none)(r:Reps K G H xs vs):Rep K G (upd H p (.lst vs)) (.lst xs) (.ref p):=
 ⟨p,vs,rfl,⟨hf,F9⟩,r.same (Same.lay1 hn)⟩
theorem W2.add:W2 K (λx y H Q=>(rI0 λi j=>.int (i+j)) x y H Q\/(∃i j,x=.str i/\y=.str j/\i.length+j.length<=B8/\Q (.str (i++j)) H)\/rCatA K x y H Q) wAdd:=by
 intro G H x y v u R Q hf rx ry hw k;unfold wAdd at hw
 split at hw
 ·exact .inl ⟨_,_,rx.int,ry.int,k _ _ _ hw (Same.refl _) rfl⟩
 ·exact .inr (.inl ⟨_,_,rx.str,ry.str,mil hw.1,k _ _ _ hw.2 (Same.refl _) rfl⟩)
 ·rename_i xs ys;obtain⟨a,vs,ea,ta,ra⟩:=rx.rep (λ_ z=>nomatch z);obtain⟨b,us,eb,tb,rb⟩:=ry.rep (λ_ z=>nomatch z);refine .inr (.inr ⟨a,b,vs,us,ea,eb,ta.sq,tb.sq,?_,λz=>?_,λz1 z2=>?_,λz1 z2 p hp=>?_⟩)
  ·rw[<- ra.length,<- rb.length];exact mil hw.1
  ·subst z;have:xs=[]:=AI ra.length;subst this;exact k _ _ _ hw.2 (Same.refl _) ⟨b,us,rfl,tb,rb⟩
  ·subst z2;have:ys=[]:=AI rb.length;subst this;exact k _ _ _ hw.2 (Same.refl _) (by rw[Q8];exact⟨a,vs,rfl,ta,ra⟩)
  ·exact k _ _ _ hw.2 (Same.lay1 hp) (u7 (hf p hp) hp (ra.append rb))
 ·exact hw.elim
theorem G9 (ha:QE T K F a pa)(hb:QE T K F b pb)(hK:∀z,(F z).K=K:=by intro _;rfl):QE T K F (.BinOp a .Add b pos) (qOp wAdd pa pb):=by
 obtain⟨ta,h1,h2⟩:=ha;obtain⟨tb,h3,h4⟩:=hb.r;exact⟨_,λz=>J1 (k6.or (Oi.or (hK z▸Pj))) (h1 z) (h3 z),Dm W2.add h2 h4⟩
theorem Ez (ho:∀z,OpR (F z) (U2 op) r)(hw:W2 K r w)(ha:QE T K F a pa)(hb:QE T K F b pb):QE T K F (.BinOp a op b pos) (qOp w pa pb):=by
 obtain⟨ta,h1,h2⟩:=ha;obtain⟨tb,h3,h4⟩:=hb.r;exact⟨_,λz=>J1 (ho z) (h1 z) (h3 z),Dm hw h2 h4⟩
def wSub:w2:=wI0 λi j=>.int (i-j)
def wMul:w2:=λx y R=>match x,y with
 |.int i,.int j=>CMul i j/\R (.int (i*j))
 |.str i,.int n=>i.length<=100/\0<=n/\n<=1000/\R (.str (Txt.mul i n))
 |_,_=>False
def EA:w2:=wI CDiv λi j=>.int (i/j)
def wMod:w2:=wI (λ_ j=>0<j) λi j=>.int (i%j)
theorem W2.mul:W2 K (λx y H Q=>(rI CMul λi j=>.int (i*j)) x y H Q\/(∃i n,x=.str i/\y=.int n/\i.length<=100/\0<=n/\n<=1000/\Q (.str (Txt.mul i n)) H)) wMul:=by
 intro G H x y v u R Q hf rx ry hw k;unfold wMul at hw
 split at hw
 ·exact .inl ⟨_,_,rx.int,ry.int,hw.1,k _ _ _ hw.2 (Same.refl _) rfl⟩
 ·exact .inr ⟨_,_,rx.str,ry.int,hw.1,hw.2.1,hw.2.2.1,k _ _ _ hw.2.2.2 (Same.refl _) rfl⟩
 ·exact hw.elim
theorem l6 (ha:QE T K F a pa)(hb:QE T K F b pb):QE T K F (.BinOp a .Sub b pos) (qOp wSub pa pb):=Ez (λ_=>op_sub) (W2.I0 λ_ _ _ _=>rfl) ha hb
theorem EB (ha:QE T K F a pa)(hb:QE T K F b pb):QE T K F (.BinOp a .Mult b pos) (qOp wMul pa pb):=Ez (λ_=>u0.or Pf) W2.mul ha hb
theorem JN (ha:QE T K F a pa)(hb:QE T K F b pb):QE T K F (.BinOp a .FloorDiv b pos) (qOp EA pa pb):=Ez (λ_=>Et) (W2.I λ_ _ _ _=>rfl) ha hb
theorem JO (ha:QE T K F a pa)(hb:QE T K F b pb):QE T K F (.BinOp a .Mod b pos) (qOp wMod pa pb):=Ez (λ_=>u4) (W2.I λ_ _ _ _=>rfl) ha hb
end
end Pu
end
section
namespace L2
open PySem PySem.Spec PyProof.Rows
def EqD (K:A7)(H:Hp):Nat->V->V->Bool->Prop
 |0,x,y,b=>T4 x=true/\T4 y=true/\b=eqV x y
 | d + 1, x, y, b => (T4 x = true /\ T4 y = true /\ b = eqV x y) \/
   (∃p q xs ys,∃f:Nat->Bool,x=.ref p/\y=.ref q/\SqT K H p xs/\SqT K H q ys/\(∀(j:Nat) x' y',xs[j]?=some x'->ys[j]?=some y'->EqD K H d x' y' (f j))/\b=((D1 (min xs.length ys.length)).all f&&xs.length == ys.length))\/
   (∃p q xs ys,∃f:Nat->Bool,x=.ref p/\y=.ref q/\SqL K H p xs/\SqL K H q ys/\(∀(j:Nat) x' y',xs[j]?=some x'->ys[j]?=some y'->EqD K H d x' y' (f j))/\b=((D1 (min xs.length ys.length)).all f&&xs.length == ys.length))\/
   (b=false/\((∃p xs,x=.ref p/\(SqT K H p xs\/SqL K H p xs)/\T4 y=true)\/(∃p xs,y=.ref p/\(SqT K H p xs\/SqL K H p xs)/\T4 x=true)\/
     (∃p q xs ys,x=.ref p/\y=.ref q/\SqT K H p xs/\SqL K H q ys)\/(∃p q xs ys,x=.ref p/\y=.ref q/\SqL K H p xs/\SqT K H q ys)))
section
variable {X:Cx}{jd:List (A0×Obj)}{σ:St}{H:Hp}{s:A5}
theorem X4 (I:Inv X jd σ H s)(h:SqT X.K H p xs)(h':SqL X.K H p ys):False:=by
 obtain⟨jh,r,⟨o,e,c,n,d⟩,_⟩:=I.tuple h;obtain⟨its',r',⟨o',n',e',c',_,d'⟩,_⟩:=I.list h';rw[e] at e';cases e';rw[c] at c';injection c' with c';exact absurd c' (by decide)
theorem EqD.refl (I:Inv X jd σ H s):∀(d:Nat) (x:V) (b:Bool),EqD X.K H d x x b->b=true:=by
 intro d
 induction d with
 | zero =>
  intro x b h;obtain⟨h1,_,rfl⟩:=h;exact JJ h1
 | succ d ih =>
  intro x b h;rcases h with⟨h1,_,rfl⟩|⟨p,q,xs,ys,f,e1,e2,s1,s2,hf,rfl⟩|⟨p,q,xs,ys,f,e1,e2,s1,s2,hf,rfl⟩|⟨rfl,h⟩
  ·exact JJ h1
  ·subst e1;cases e2;have:=I.tuple_inj s1 s2;subst this;simp only[Nat.min_self,beq_self_eq_true,Bool.and_true,J3,P1];intro j hj;exact ih _ _ (hf j xs[j] xs[j] (by simp[hj]) (by simp[hj]))
  ·subst e1;cases e2;have:=I.list_inj s1 s2;subst this;simp only[Nat.min_self,beq_self_eq_true,Bool.and_true,J3,P1];intro j hj;exact ih _ _ (hf j xs[j] xs[j] (by simp[hj]) (by simp[hj]))
  ·rcases h with⟨p,xs,rfl,_,h⟩|⟨p,xs,rfl,_,h⟩|⟨p,q,xs,ys,e1,e2,s1,s2⟩|⟨p,q,xs,ys,e1,e2,s1,s2⟩
   ·cases h
   ·cases h
   ·subst e1;cases e2;exact(X4 I s1 s2).elim
   ·subst e1;cases e2;exact(X4 I s2 s1).elim
theorem Inv.sqL (I:Inv X jd σ H s)(h:SqL X.K H p xs):∃jh:List A3,Vals xs jh/\s.heap.IsList p jh.toArray:=by
 obtain⟨jh,r,pl,_⟩:=I.list h;exact⟨jh,r,pl.isList⟩
theorem Inv.sqT (I:Inv X jd σ H s)(h:SqT X.K H p xs):∃jh:List A3,Vals xs jh/\s.heap.IsTuple p jh.toArray:=by
 obtain⟨jh,r,pl,_⟩:=I.tuple h;exact⟨jh,r,pl⟩
theorem JP (I:Inv X jd σ H s)(hu:A.units<cLine)(hq:SqT X.K H p xs\/SqL X.K H p xs)(ry:RelV y w)(fy:T4 y=true) :
   BJ A s (.ref p) w false/\BI A s (.ref p) w true/\BJ A s w (.ref p) false/\BI A s w (.ref p) true/\AV A s (.ref p) w false/\AV A s w (.ref p) false:=by
 rcases hq with hq|hq
 ·obtain⟨jh,r,il⟩:=I.sqT hq;cases y with
  |non=>cases ry;exact⟨.tuple_none il hu,.tuple_none il hu,.none_tuple il hu,.none_tuple il hu,.tuple_none il hu,.none_tuple il hu⟩
  |bl b=>cases ry;exact⟨.tuple_bool b il hu,.tuple_bool b il hu,.bool_tuple b il hu,.bool_tuple b il hu,.tuple_bool b il hu,.bool_tuple b il hu⟩
  |int i=>obtain⟨t,rfl⟩:=ry;exact⟨.tuple_int i t il hu,.tuple_int i t il hu,.int_tuple i t il hu,.int_tuple i t il hu,.tuple_int i t il hu,.int_tuple i t il hu⟩
  |str i=>obtain⟨t,rfl⟩:=ry;exact⟨.tuple_str i t il hu,.tuple_str i t il hu,.str_tuple i t il hu,.str_tuple i t il hu,.tuple_str i t il hu,.str_tuple i t il hu⟩
  |_=>cases fy
 ·obtain⟨jh,r,il⟩:=I.sqL hq;cases y with
  |non=>cases ry;exact⟨.list_none il hu,.list_none il hu,.none_list il hu,.none_list il hu,.list_none il hu,.none_list il hu⟩
  |bl b=>cases ry;exact⟨.list_bool b il hu,.list_bool b il hu,.bool_list b il hu,.bool_list b il hu,.list_bool b il hu,.bool_list b il hu⟩
  |int i=>obtain⟨t,rfl⟩:=ry;exact⟨.list_int i t il hu,.list_int i t il hu,.int_list i t il hu,.int_list i t il hu,.list_int i t il hu,.int_list i t il hu⟩
  |str i=>obtain⟨t,rfl⟩:=ry;exact⟨.list_str i t il hu,.list_str i t il hu,.str_list i t il hu,.str_list i t il hu,.list_str i t il hu,.str_list i t il hu⟩
  |_=>cases fy
theorem JQ (rx:RelV x u)(ry:RelV y w)(fx:T4 x=true)(fy:T4 y=true):BJ A s u w (eqV x y)/\BI A s u w (!eqV x y):=by
 cases x with
 | non =>
  cases rx;cases y with
  |non=>cases ry;exact⟨.none_none,.none_none⟩
  |bl j=>cases ry;exact⟨.none_bool j,.none_bool j⟩
  |int j=>obtain⟨t,rfl⟩:=ry;exact⟨.none_int j t,.none_int j t⟩
  |str j=>obtain⟨t,rfl⟩:=ry;exact⟨.none_str j t,.none_str j t⟩
  |_=>cases fy
 | bl i =>
  cases rx;cases y with
  |non=>cases ry;exact⟨.bool_none i,.bool_none i⟩
  |bl j=>cases ry;exact⟨.bool_bool i j,.bool_bool i j⟩
  |int j=>obtain⟨t,rfl⟩:=ry;exact⟨.bool_int i j t,.bool_int i j t⟩
  |str j=>obtain⟨t,rfl⟩:=ry;exact⟨.bool_str i j t,.bool_str i j t⟩
  |_=>cases fy
 | int i =>
  obtain⟨ti,rfl⟩:=rx;cases y with
  |non=>cases ry;exact⟨.int_none i ti,.int_none i ti⟩
  |bl j=>cases ry;exact⟨.int_bool i ti j,.int_bool i ti j⟩
  |int j=>obtain⟨t,rfl⟩:=ry;exact⟨.int_int i ti j t,.int_int i ti j t⟩
  |str j=>obtain⟨t,rfl⟩:=ry;exact⟨.int_str i ti j t,.int_str i ti j t⟩
  |_=>cases fy
 | str i =>
  obtain⟨ti,rfl⟩:=rx;cases y with
  |non=>cases ry;exact⟨.str_none i ti,.str_none i ti⟩
  |bl j=>cases ry;exact⟨.str_bool i ti j,.str_bool i ti j⟩
  |int j=>obtain⟨t,rfl⟩:=ry;exact⟨.str_int i ti j t,.str_int i ti j t⟩
  |str j=>obtain⟨t,rfl⟩:=ry;exact⟨.str_str i ti j t,.str_str i ti j t⟩
  |_=>cases fy
 |_=>cases fx
theorem Do (A:E8):A.in1.units=A.units+1:=rfl
theorem EqD.at (I:Inv X jd σ H s):∀(d:Nat) (A:E8) (x y:V) (u w:A3) (b:Bool),A.units+d<cLine->RelV x u->RelV y w->EqD X.K H d x y b->AV A s u w b/\BJ A s u w b/\BI A s u w (!b):=by
 intro d
 induction d with
 | zero =>
  intro A x y u w b hu rx ry h;obtain⟨h1,h2,rfl⟩:=h;exact⟨JA rx ry h1 h2,JQ rx ry h1 h2⟩
 | succ d ih =>
  intro A x y u w b hu rx ry h;have hu0:A.units<cLine:=by omega
  have hu1:A.in1.units+d<cLine:=by rw[Do];omega
  have hrefl:=EqD.refl I (d+1) x b;rcases h with⟨h1,h2,rfl⟩|⟨p,q,xs,ys,f,e1,e2,s1,s2,hf,eb⟩|⟨p,q,xs,ys,f,e1,e2,s1,s2,hf,eb⟩|⟨rfl,h⟩
  ·exact⟨JA rx ry h1 h2,JQ rx ry h1 h2⟩
  ·subst e1 e2;cases rx;cases ry;obtain⟨jh,r1,t1⟩:=I.sqT s1;obtain⟨its2,r2,t2⟩:=I.sqT s2;have z1:jh.toArray.size=xs.length:=by simpa using r1.length.symm
   have z2:its2.toArray.size=ys.length:=by simpa using r2.length.symm
   have he:∀j (h1:j<jh.toArray.size) (h2:j<its2.toArray.size),AV A.in1 s jh.toArray[j] its2.toArray[j] (f j):=by
    intro j h1 h2;obtain⟨x',e1,q1⟩:=r1.getE (j:=j) (by omega);obtain⟨y',e2,q2⟩:=r2.getE (j:=j) (by grind);exact(ih A.in1 x' y' _ _ (f j) hu1 (by grind) (by grind) (hf j x' y' e1 e2)).1
   have rc:BJ A s (.ref p) (.ref q) b:=by
    rw[eb,<- z1,<- z2];exact SeqAt.RcAt.tuples t1 t2 hu0 he
   have rn:BI A s (.ref p) (.ref q) (!b):=by
    rw[eb,<- z1,<- z2];exact SeqAt.RcNeAt.tuples t1 t2 hu0 he
   refine⟨?_,rc,rn⟩
   by_cases hpq:p=q
   ·subst hpq;rw[hrefl (.inr (.inl ⟨p,p,xs,ys,f,rfl,rfl,s1,s2,hf,eb⟩))];exact .same _
   ·exact .of_refs hpq rc
  ·subst e1 e2;cases rx;cases ry;obtain⟨jh,r1,t1⟩:=I.sqL s1;obtain⟨its2,r2,t2⟩:=I.sqL s2;have z1:jh.toArray.size=xs.length:=by simpa using r1.length.symm
   have z2:its2.toArray.size=ys.length:=by simpa using r2.length.symm
   have he:∀j (h1:j<jh.toArray.size) (h2:j<its2.toArray.size),AV A.in1 s jh.toArray[j] its2.toArray[j] (f j):=by
    intro j h1 h2;obtain⟨x',e1,q1⟩:=r1.getE (j:=j) (by omega);obtain⟨y',e2,q2⟩:=r2.getE (j:=j) (by grind);exact(ih A.in1 x' y' _ _ (f j) hu1 (by grind) (by grind) (hf j x' y' e1 e2)).1
   have rr:BJ A s (.ref p) (.ref q) b/\BI A s (.ref p) (.ref q) (!b):=by
    by_cases hl:xs.length=ys.length
    ·have e3:b=(D1 jh.toArray.size).all f:=by rw[eb,hl,Nat.min_self,beq_self_eq_true,Bool.and_true,z1,hl]
     rw[e3];exact⟨SeqAt.RcAt.lists t1 t2 (by grind) hu0 he,SeqAt.RcNeAt.lists t1 t2 (by grind) hu0 he⟩
    ·have e3:b=false:=by
      rw[eb];have:(xs.length == ys.length)=false:=by simpa using hl
      rw[this,Bool.and_false]
     rw[e3];have e4:(jh.toArray.size != its2.toArray.size)=true:=by rw[z1,z2];simpa using hl
     exact⟨SeqAt.RcAt.lists_lengths t1 t2 e4 hu0,SeqAt.RcNeAt.lists_lengths t1 t2 e4 hu0⟩
   refine⟨?_,rr⟩
   by_cases hpq:p=q
   ·subst hpq;rw[hrefl (.inr (.inr (.inl ⟨p,p,xs,ys,f,rfl,rfl,s1,s2,hf,eb⟩)))];exact .same _
   ·exact .of_refs hpq rr.1
  ·rcases h with⟨p,xs,rfl,hq,fy⟩|⟨p,xs,rfl,hq,fx⟩|⟨p,q,xs,ys,e1,e2,s1,s2⟩|⟨p,q,xs,ys,e1,e2,s1,s2⟩
   ·cases rx;obtain⟨a1,a2,a3,a4,a5,a6⟩:=JP I hu0 hq ry fy;exact⟨a5,a1,a2⟩
   ·cases ry;obtain⟨a1,a2,a3,a4,a5,a6⟩:=JP I hu0 hq rx fx;exact⟨a6,a3,a4⟩
   ·subst e1 e2;cases rx;cases ry;obtain⟨jh,r1,t1⟩:=I.sqT s1;obtain⟨its2,r2,t2⟩:=I.sqL s2;exact⟨.tuple_list t1 t2 hu0,.tuple_list t1 t2 hu0,.tuple_list t1 t2 hu0⟩
   ·subst e1 e2;cases rx;cases ry;obtain⟨jh,r1,t1⟩:=I.sqL s1;obtain⟨its2,r2,t2⟩:=I.sqT s2;exact⟨.list_tuple t1 t2 hu0,.list_tuple t1 t2 hu0,.list_tuple t1 t2 hu0⟩
end
section
variable {X:Cx}
def rEqD (K:A7)(d:Nat)(neg:Bool):R2:=λx y H Q=>∃b,EqD K H d x y b/\Q (.bl (if neg then !b else b)) H
theorem op_eqD (d:Nat)(hu:X.A.units+d<cLine):OpR X (L6 .Eq) (rEqD X.K d false):=by
 intro jd s σ H x y v u Q I rx ry h;obtain⟨b,hb,q⟩:=h;exact(hb.at I d X.A x y v u b hu rx ry).2.1 X.prog X.w X.xe _ ⟨.bl _,H,I,rfl,q⟩
theorem op_neD (d:Nat)(hu:X.A.units+d<cLine):OpR X (L6 .NotEq) (rEqD X.K d true):=by
 intro jd s σ H x y v u Q I rx ry h;obtain⟨b,hb,q⟩:=h;exact(hb.at I d X.A x y v u b hu rx ry).2.2 X.prog X.w X.xe _ ⟨.bl _,H,I,rfl,q⟩
def rInD (K:A7)(d:Nat)(neg:Bool):R2:=λx y H Q=>∃p ys,∃f:Nat->Bool,y=.ref p/\(SqL K H p ys\/SqT K H p ys)/\(∀(j:Nat) z,ys[j]?=some z->EqD K H d z x (f j))/\Q (.bl (if neg then !((D1 ys.length).any f) else(D1 ys.length).any f)) H
theorem JR (h:∀j,j<n->f j=g j):(D1 n).all f=(D1 n).all g:=by
 rw[z9,J3,J3];constructor
 ·intro k j hj;rw[<- h j (P1.mp hj)];exact k j hj
 ·intro k j hj;rw[h j (P1.mp hj)];exact k j hj
theorem EqD.det (I:Inv X jd σ H s):∀(d:Nat) (x y:V) (b b':Bool),EqD X.K H d x y b->EqD X.K H d x y b'->b=b':=by
 intro d
 induction d with
 | zero =>
  intro x y b b' h h';rw[h.2.2,h'.2.2]
 | succ d ih =>
  intro x y b b' h h';rcases h with⟨h1,h2,rfl⟩|⟨p,q,xs,ys,f,rfl,rfl,s1,s2,hf,rfl⟩|⟨p,q,xs,ys,f,rfl,rfl,s1,s2,hf,rfl⟩|⟨rfl,h⟩
  ·rcases h' with⟨h1',h2',rfl⟩|⟨p,q,xs,ys,f,rfl,rfl,s1,s2,hf,rfl⟩|⟨p,q,xs,ys,f,rfl,rfl,s1,s2,hf,rfl⟩|⟨rfl,h⟩
   ·rfl
   ·cases h1
   ·cases h1
   ·rcases h with⟨p,xs,rfl,_,h⟩|⟨p,xs,rfl,_,h⟩|⟨p,q,xs,ys,rfl,rfl,s1,s2⟩|⟨p,q,xs,ys,rfl,rfl,s1,s2⟩
    ·cases h1
    ·cases h2
    ·cases h1
    ·cases h1
  ·rcases h' with⟨h1',h2',rfl⟩|⟨p',q',xs',ys',f',e1,e2,s1',s2',hf',rfl⟩|⟨p',q',xs',ys',f',e1,e2,s1',s2',hf',rfl⟩|⟨rfl,h⟩
   ·cases h1'
   ·cases e1;cases e2;have:=I.tuple_inj s1 s1';subst this;have:=I.tuple_inj s2 s2';subst this;rw[JR λj hj=>ih _ _ _ _ (hf j (xs[j]'(by omega)) (ys[j]'(by omega)) (D7 _) (D7 _)) (hf' j (xs[j]'(by omega)) (ys[j]'(by omega)) (D7 _) (D7 _))]
   ·cases e1;exact(X4 I s1 s1').elim
   ·rcases h with⟨p',xs',e1,_,h⟩|⟨p',xs',e1,_,h⟩|⟨p',q',xs',ys',e1,e2,s1',s2'⟩|⟨p',q',xs',ys',e1,e2,s1',s2'⟩
    ·cases h
    ·cases h
    ·cases e2;exact(X4 I s2 s2').elim
    ·cases e1;exact(X4 I s1 s1').elim
  ·rcases h' with⟨h1',h2',rfl⟩|⟨p',q',xs',ys',f',e1,e2,s1',s2',hf',rfl⟩|⟨p',q',xs',ys',f',e1,e2,s1',s2',hf',rfl⟩|⟨rfl,h⟩
   ·cases h1'
   ·cases e1;exact(X4 I s1' s1).elim
   ·cases e1;cases e2;have:=I.list_inj s1 s1';subst this;have:=I.list_inj s2 s2';subst this;rw[JR λj hj=>ih _ _ _ _ (hf j (xs[j]'(by omega)) (ys[j]'(by omega)) (D7 _) (D7 _)) (hf' j (xs[j]'(by omega)) (ys[j]'(by omega)) (D7 _) (D7 _))]
   ·rcases h with⟨p',xs',e1,_,h⟩|⟨p',xs',e1,_,h⟩|⟨p',q',xs',ys',e1,e2,s1',s2'⟩|⟨p',q',xs',ys',e1,e2,s1',s2'⟩
    ·cases h
    ·cases h
    ·cases e1;exact(X4 I s1' s1).elim
    ·cases e2;exact(X4 I s2' s2).elim
  ·rcases h' with⟨h1',h2',rfl⟩|⟨p',q',xs',ys',f',rfl,rfl,s1',s2',hf',rfl⟩|⟨p',q',xs',ys',f',rfl,rfl,s1',s2',hf',rfl⟩|⟨rfl,h'⟩
   ·rcases h with⟨p,xs,rfl,_,h⟩|⟨p,xs,rfl,_,h⟩|⟨p,q,xs,ys,rfl,rfl,s1,s2⟩|⟨p,q,xs,ys,rfl,rfl,s1,s2⟩
    ·cases h1'
    ·cases h2'
    ·cases h1'
    ·cases h1'
   ·rcases h with⟨p,xs,e1,_,h⟩|⟨p,xs,e1,_,h⟩|⟨p,q,xs,ys,e1,e2,s1,s2⟩|⟨p,q,xs,ys,e1,e2,s1,s2⟩
    ·cases h
    ·cases h
    ·cases e2;exact(X4 I s2' s2).elim
    ·cases e1;exact(X4 I s1' s1).elim
   ·rcases h with⟨p,xs,e1,_,h⟩|⟨p,xs,e1,_,h⟩|⟨p,q,xs,ys,e1,e2,s1,s2⟩|⟨p,q,xs,ys,e1,e2,s1,s2⟩
    ·cases h
    ·cases h
    ·cases e1;exact(X4 I s1 s1').elim
    ·cases e2;exact(X4 I s2 s2').elim
   ·rfl
open Classical in
theorem EC (I:Inv X jd σ H s)(hu:A.units+d<cLine)(r:Vals ys jh)(rx:RelV x v)(hf:∀(j:Nat) z,ys[j]?=some z->EqD X.K H d z x (f j)) :
   ∃e:A3->Bool,(∀y,y∈jh->AV A s y v (e y))/\jh.any e=(D1 ys.length).any f:=by
 have key:∀(j j':Nat) (z:A3),jh[j]?=some z->jh[j']?=some z->f j=f j':=by
  intro j j' z h h';obtain⟨hj,_⟩:=E6.mp h;obtain⟨hj',_⟩:=E6.mp h';obtain⟨w1,a1,b1⟩:=r.getE hj;obtain⟨w2,a2,b2⟩:=r.getE hj';rw[D7 hj] at h;rw[D7 hj'] at h';cases h;rw[E9 h'] at b2;have:=b1.inj b2;subst this;exact EqD.det I d _ _ _ _ (hf j _ a1) (hf j' _ a2)
 let e:A3->Bool:=λy=>decide (∃j,jh[j]?=some y/\f j=true)
 have he:∀(j:Nat) (y:A3),jh[j]?=some y->e y=f j:=by
  intro j y h;show decide _=_;cases hb:f j with
  |true=>exact ju ⟨j,h,hb⟩
  |false=>exact jv λ⟨j',h1,h2⟩=>by rw[key j j' y h h1,h2] at hb;cases hb
 refine⟨e,λy hy=>?_,?_⟩
 ·obtain⟨j,hj,rfl⟩:=Bs hy;obtain⟨w1,a1,b1⟩:=r.getE hj;rw[he j _ (D7 hj)];exact((hf j w1 a1).at I d A w1 x _ v (f j) hu b1 rx).1
 ·have hl:=r.length;rw[z9,y4,y4];constructor
  ·rintro⟨y,hy,h⟩;obtain⟨j,hj,rfl⟩:=Bs hy;exact⟨j,P1.mpr (by omega),by rw[<- he j _ (D7 hj)];exact h⟩
  ·rintro⟨j,hj,h⟩;have hj':j<jh.length:=by have:=P1.mp hj;omega
   exact⟨jh[j],i4 hj',by rw[he j _ (D7 hj')];exact h⟩
theorem op_inD (d:Nat)(hu:X.A.units+(d+1)<cLine):OpR X (L6 .In) (rInD X.K d false):=by
 intro jd s σ H x y v u Q I rx ry h;obtain⟨p,ys,f,rfl,hq,hf,q⟩:=h;cases ry;rcases hq with hq|hq
 ·obtain⟨jh,r,il⟩:=I.sqL hq;obtain⟨e,h1,h2⟩:=EC I (A:=X.A.in1) (by rw[Do];omega) r rx hf;refine SeqAt.in_listAt e il (λy hy=>h1 y (by simpa using hy)) ⟨.bl _,H,I,rfl,?_⟩;rw[show jh.toArray.any e=jh.any e by simp,h2];exact q
 ·obtain⟨jh,r,il⟩:=I.sqT hq;obtain⟨e,h1,h2⟩:=EC I (A:=X.A.in1) (by rw[Do];omega) r rx hf;refine SeqAt.in_tupleAt e il (λy hy=>h1 y (by simpa using hy)) ⟨.bl _,H,I,rfl,?_⟩;rw[show jh.toArray.any e=jh.any e by simp,h2];exact q
theorem Pn (d:Nat)(hu:X.A.units+(d+1)<cLine):OpR X (L6 .NotIn) (rInD X.K d true):=by
 intro jd s σ H x y v u Q I rx ry h;obtain⟨p,ys,f,rfl,hq,hf,q⟩:=h;cases ry;rcases hq with hq|hq
 ·obtain⟨jh,r,il⟩:=I.sqL hq;obtain⟨e,h1,h2⟩:=EC I (A:=X.A.in1) (by rw[Do];omega) r rx hf;refine SeqAt.notIn_listAt e il (λy hy=>h1 y (by simpa using hy)) ⟨.bl _,H,I,rfl,?_⟩;rw[show jh.toArray.any e=jh.any e by simp,h2];exact q
 ·obtain⟨jh,r,il⟩:=I.sqT hq;obtain⟨e,h1,h2⟩:=EC I (A:=X.A.in1) (by rw[Do];omega) r rx hf;refine SeqAt.notIn_tupleAt e il (λy hy=>h1 y (by simpa using hy)) ⟨.bl _,H,I,rfl,?_⟩;rw[show jh.toArray.any e=jh.any e by simp,h2];exact q
end
end L2
namespace Pu
open PySem PySem.Spec L2
def An:PV->Bool
 |.non=>true
 |.bl _=>true
 |.int _=>true
 |.str _=>true
 |_=>false
def cmpb:Nat->PV->Bool
 |0,x=>An x
 |d+1,.tup xs=>xs.all (cmpb d)
 |d+1,.lst xs=>xs.all (cmpb d)
 |_+1,x=>An x
mutual
def eqP:PV->PV->Bool
 |.non,.non=>true
 |.bl a,.bl b=>a == b
 |.bl a,.int b=>(if a then 1 else 0) == b
 |.int a,.bl b=>a == (if b then 1 else 0)
 |.int a,.int b=>a == b
 |.str a,.str b=>a == b
 |.tup xs,.tup ys=>eqPs xs ys
 |.lst xs,.lst ys=>eqPs xs ys
 |_,_=>false
def eqPs:List PV->List PV->Bool
 |[],[]=>true
 |x::xs,y::ys=>eqP x y&&eqPs xs ys
 |_,_=>false
end
theorem GJ:∀(xs ys:List PV),((D1 (min xs.length ys.length)).all (λj=>match xs[j]?,ys[j]? with|some x,some y=>eqP x y|_,_=>false)&&xs.length == ys.length)=eqPs xs ys
 |[],[]=>rfl
 |[],_::_=>rfl
 |_::_,[]=>rfl
 | x :: xs, y :: ys => by
  have ih:=GJ xs ys;show _=(eqP x y&&eqPs xs ys);rw[<- ih];simp only[L8,Nat.succ_min_succ,List.range_succ_eq_map,List.all_cons,CU,Function.comp_def,FN,Eb];rw[Bool.and_assoc]
  congr 1
  simp
end Pu
end
section
namespace Pu
open PySem PySem.Spec L2
section
variable {K:A7}{G:Gh}{H:Hp}
inductive Sort3 (K:A7)(G:Gh)(H:Hp)(d:Nat)(x:PV)(v:V):Prop where
 |fl (h:T4 v=true) (s:An x=true)
 |tp (p:A0) (xs:List PV) (vs:List V) (e:x=.tup xs) (ev:v=.ref p) (h:SqT K H p vs) (r:Reps K G H xs vs) (c:xs.all (cmpb d)=true)
 |ls (p:A0) (xs:List PV) (vs:List V) (e:x=.lst xs) (ev:v=.ref p) (h:SqL K H p vs) (r:Reps K G H xs vs) (c:xs.all (cmpb d)=true)
theorem BT (s:An x=true)(h:RdV K G H x v):T4 v=true:=by
 cases x with
 |non=>rw[h.non];rfl
 |bl b=>rw[h.bl];rfl
 |int b=>rw[h.int];rfl
 |str b=>rw[h.str];rfl
 |_=>cases s
theorem ED (c:cmpb (d+1) x=true)(h:RdV K G H x v):Sort3 K G H d x v:=by
 cases x with
 | tup xs =>
  obtain⟨a,vs,e,t,r⟩:=h.tup;exact .tp a xs vs rfl e t r c
 | lst xs =>
  obtain⟨a,vs,e,t,r⟩:=h.lst;exact .ls a xs vs rfl e t r c
 |non=>exact .fl (BT c h) c
 |bl _=>exact .fl (BT c h) c
 |int _=>exact .fl (BT c h) c
 |str _=>exact .fl (BT c h) c
 |ty _=>cases c
 |pot _=>cases c
 |scr _=>cases c
 |dct _ _=>cases c
 |fdt _ _=>cases c
theorem JS (sx:An x=true)(sy:An y=true)(hx:RdV K G H x v)(hy:RdV K G H y u):eqP x y=eqV v u:=by
 cases x with
 | non =>
  cases hx.non;cases y with
  |non=>cases hy.non;rfl
  |bl j=>cases hy.bl;rfl
  |int j=>cases hy.int;rfl
  |str j=>cases hy.str;rfl
  |_=>cases sy
 | bl i =>
  cases hx.bl;cases y with
  |non=>cases hy.non;rfl
  |bl j=>cases hy.bl;rfl
  |int j=>cases hy.int;rfl
  |str j=>cases hy.str;rfl
  |_=>cases sy
 | int i =>
  cases hx.int;cases y with
  |non=>cases hy.non;rfl
  |bl j=>cases hy.bl;rfl
  |int j=>cases hy.int;rfl
  |str j=>cases hy.str;rfl
  |_=>cases sy
 | str i =>
  cases hx.str;cases y with
  |non=>cases hy.non;rfl
  |bl j=>cases hy.bl;rfl
  |int j=>cases hy.int;rfl
  |str j=>cases hy.str;rfl
  |_=>cases sy
 |_=>cases sx
theorem EE (sy:An y=true):eqP (.tup xs) y=false/\eqP (.lst xs) y=false/\eqP y (.tup xs)=false/\eqP y (.lst xs)=false:=by
 cases y <;> first|exact⟨rfl,rfl,rfl,rfl⟩|cases sy
theorem GK:∀(d:Nat) (x y:PV) (v u:V),cmpb d x=true->cmpb d y=true->RdV K G H x v->RdV K G H y u->EqD K H d v u (eqP x y):=by
 intro d
 induction d with
 |zero=>intro x y v u cx cy hx hy;exact⟨BT cx hx,BT cy hy,JS cx cy hx hy⟩
 | succ d ih =>
  intro x y v u cx cy hx hy
  have el:∀(xs ys:List PV) (vs us:List V),Reps K G H xs vs->Reps K G H ys us->xs.all (cmpb d)=true->ys.all (cmpb d)=true->∀(j:Nat) x' y',vs[j]?=some x'->us[j]?=some y'->EqD K H d x' y' (match xs[j]?,ys[j]? with|some x,some y=>eqP x y|_,_=>false):=by
   intro xs ys vs us r1 r2 c1 c2 j x' y' e1 e2;obtain⟨x1,ex,rx⟩:=r1.get e1;obtain⟨y1,ey,ry⟩:=r2.get e2;rw[ex,ey];exact ih x1 y1 x' y' (J3.mp c1 x1 (J9 ex)) (J3.mp c2 y1 (J9 ey)) (.inl rx) (.inl ry)
  cases ED cx hx with
  | fl fx sx =>
   cases ED cy hy with
   |fl fy sy=>exact .inl ⟨fx,fy,JS sx sy hx hy⟩
   |tp q ys us e ev h r c=>subst e;exact .inr (.inr (.inr ⟨(EE sx).2.2.1,.inr (.inl ⟨q,us,ev,.inl h,fx⟩)⟩))
   |ls q ys us e ev h r c=>subst e;exact .inr (.inr (.inr ⟨(EE sx).2.2.2,.inr (.inl ⟨q,us,ev,.inr h,fx⟩)⟩))
  | tp p xs vs e ev h r c =>
   subst e;cases ED cy hy with
   |fl fy sy=>exact .inr (.inr (.inr ⟨(EE sy).1,.inl ⟨p,vs,ev,.inl h,fy⟩⟩))
   | tp q ys us e2 ev2 h2 r2 c2 =>
    subst e2;refine .inr (.inl ⟨p,q,vs,us,_,ev,ev2,h,h2,el xs ys vs us r r2 c c2,?_⟩);rw[<- r.length,<- r2.length];exact(GJ xs ys).symm
   |ls q ys us e2 ev2 h2 r2 c2=>subst e2;exact .inr (.inr (.inr ⟨rfl,.inr (.inr (.inl ⟨p,q,vs,us,ev,ev2,h,h2⟩))⟩))
  | ls p xs vs e ev h r c =>
   subst e;cases ED cy hy with
   |fl fy sy=>exact .inr (.inr (.inr ⟨(EE sy).2.1,.inl ⟨p,vs,ev,.inr h,fy⟩⟩))
   |tp q ys us e2 ev2 h2 r2 c2=>subst e2;exact .inr (.inr (.inr ⟨rfl,.inr (.inr (.inr ⟨p,q,vs,us,ev,ev2,h,h2⟩))⟩))
   | ls q ys us e2 ev2 h2 r2 c2 =>
    subst e2;refine .inr (.inr (.inl ⟨p,q,vs,us,_,ev,ev2,h,h2,el xs ys vs us r r2 c c2,?_⟩));rw[<- r.length,<- r2.length];exact(GJ xs ys).symm
end
section
variable {T:PotK}{ι:Type}{K:A7}{F:ι->Cx}{e a b c:Expr}{es rest:List Expr}{pe pa pb pc:pE}{pos:Pos}
def grd (b:Bool)(P:Prop):Prop:=match b with|true=>P|false=>False
theorem grd_t {P:Prop}:grd true P=P:=rfl
theorem grd_i {b:Bool}{P:Prop}(h:b=true)(p:P):grd b P:=by subst h;exact p
theorem EF {b:Bool}{P:Prop}(h:grd b P):b=true:=by grind [grd]
theorem BU {b:Bool}{P:Prop}(h:grd b P):P:=by cases b;exact h.elim;exact h
theorem gd2 {a b:Bool}{P:Prop}(h1:a=true)(h2:b=true)(p:P):grd a (grd b P):=grd_i h1 (grd_i h2 p)
def wEq (d:Nat):w2:=λx y R=>grd (cmpb d x) (grd (cmpb d y) (R (.bl (eqP x y))))
def wNe (d:Nat):w2:=λx y R=>grd (cmpb d x) (grd (cmpb d y) (R (.bl (!eqP x y))))
theorem W2.eq (d:Nat):W2 K (rEqD K d false) (wEq d):=λG H x y v u R Q hf rx ry hw k=>⟨_,GK d x y v u (EF hw) (EF (BU hw)) rx ry,k _ _ _ (BU (BU hw)) (Same.refl _) rfl⟩
theorem W2.ne (d:Nat):W2 K (rEqD K d true) (wNe d):=λG H x y v u R Q hf rx ry hw k=>⟨_,GK d x y v u (EF hw) (EF (BU hw)) rx ry,k _ _ _ (BU (BU hw)) (Same.refl _) rfl⟩
def memP (x:PV)(ys:List PV):Bool:=ys.any λy=>eqP y x
def wIn (d:Nat)(neg:Bool):w2:=λx y R=>match x,y with
 |.str i,.str j=>R (.bl (if neg then !(!(BH j i 0 j.length 1).isEmpty) else !(BH j i 0 j.length 1).isEmpty))
 |x,.lst ys=>cmpb d x=true/\ys.all (cmpb d)=true/\R (.bl (if neg then !memP x ys else memP x ys))
 |x,.tup ys=>cmpb d x=true/\ys.all (cmpb d)=true/\R (.bl (if neg then !memP x ys else memP x ys))
 |_,_=>False
theorem JT {x:PV}:∀ys:List PV,((D1 ys.length).any λj=>match ys[j]? with|some y=>eqP y x|none=>false)=memP x ys
 |[]=>rfl
 | y :: ys => by
  have ih:=JT (x:=x) ys;show _=(eqP y x||memP x ys);rw[<- ih];simp only[L8,List.range_succ_eq_map,List.any_cons,CV,Function.comp_def,FN,Eb]
theorem W2.in_ {K:A7}(d:Nat)(neg:Bool){r:R2}(hr:∀x y H Q,(∃i j,x=.str i/\y=.str j/\Q (.bl (if neg then !(!(BH j i 0 j.length 1).isEmpty) else !(BH j i 0 j.length 1).isEmpty)) H)\/rInD K d neg x y H Q->r x y H Q):W2 K r (wIn d neg):=by
 intro G H x y v u R Q hf rx ry hw k;refine hr _ _ _ _ ?_
 have seq:∀(ys:List PV) (p:A0) (us:List V),u=.ref p->(SqL K H p us\/SqT K H p us)->Reps K G H ys us->cmpb d x=true/\ys.all (cmpb d)=true/\R (.bl (if neg then !memP x ys else memP x ys))->rInD K d neg v u H Q:=by
  intro ys p us eu hq r h;refine⟨p,us,λj=>match ys[j]? with|some y=>eqP y x|none=>false,eu,hq,λj z ez=>?_,?_⟩
  ·obtain⟨y1,ey,ry⟩:=r.get ez;dsimp only;rw[ey];exact GK d y1 x z v (J3.mp h.2.1 y1 (J9 ey)) h.1 (.inl ry) rx
  ·rw[<- r.length,JT];exact k _ _ _ h.2.2 (Same.refl _) rfl
 unfold wIn at hw
 split at hw
 ·exact .inl ⟨_,_,rx.str,ry.str,k _ _ _ hw (Same.refl _) rfl⟩
 ·obtain⟨p,us,eu,hq,r⟩:=ry.lst;exact .inr (seq _ p us eu (.inl hq) r hw)
 ·obtain⟨p,us,eu,hq,r⟩:=ry.tup;exact .inr (seq _ p us eu (.inr hq) r hw)
 ·exact hw.elim
def wLt:w2:=λx y R=>match x,y with|.int i,.int j=>R (.bl (decide (i<j)))|.str i,.str j=>R (.bl (decide (i.cps.toList<j.cps.toList)))|_,_=>False
def wLe:w2:=λx y R=>match x,y with|.int i,.int j=>R (.bl (decide (i<=j)))|.str i,.str j=>R (.bl (!decide (j.cps.toList<i.cps.toList)))|_,_=>False
def wGt:w2:=wI0 λi j=>.bl (decide (j<i))
def wGe:w2:=wI0 λi j=>.bl (decide (j<=i))
theorem W2.lt:W2 K (λx y H Q=>(rI0 λi j=>.bl (decide (i<j))) x y H Q\/∃i j,x=.str i/\y=.str j/\Q (.bl (decide (i.cps.toList<j.cps.toList))) H) wLt:=by
 intro G H x y v u R Q hf rx ry hw k;unfold wLt at hw
 split at hw
 ·exact .inl ⟨_,_,rx.int,ry.int,k _ _ _ hw (Same.refl _) rfl⟩
 ·exact .inr ⟨_,_,rx.str,ry.str,k _ _ _ hw (Same.refl _) rfl⟩
 ·exact hw.elim
theorem W2.le:W2 K (λx y H Q=>(rI0 λi j=>.bl (decide (i<=j))) x y H Q\/∃i j,x=.str i/\y=.str j/\Q (.bl (!decide (j.cps.toList<i.cps.toList))) H) wLe:=by
 intro G H x y v u R Q hf rx ry hw k;unfold wLe at hw
 split at hw
 ·exact .inl ⟨_,_,rx.int,ry.int,k _ _ _ hw (Same.refl _) rfl⟩
 ·exact .inr ⟨_,_,rx.str,ry.str,k _ _ _ hw (Same.refl _) rfl⟩
 grind
structure Cmp {ι:Type}(K:A7)(F:ι->Cx)(op:CmpOp)(w:w2):Prop where
 ex:∃r,(∀z,OpR (F z) (L6 op) r)/\W2 K r w
theorem cEq (d:Nat)(hr:∀z,Room k (F z).A)(hd:d<=30:=by decide)(hK:∀z,(F z).K=K:=by intro _;rfl):Cmp K F .Eq (wEq d):=⟨_,λz=>hK z▸op_eqD d (by have:=(hr z).units;omega),W2.eq d⟩
theorem cNe (d:Nat)(hr:∀z,Room k (F z).A)(hd:d<=30:=by decide)(hK:∀z,(F z).K=K:=by intro _;rfl):Cmp K F .NotEq (wNe d):=⟨_,λz=>hK z▸op_neD d (by have:=(hr z).units;omega),W2.ne d⟩
theorem cIn (d:Nat)(hr:∀z,Room k (F z).A)(hd:d<=30:=by decide)(hK:∀z,(F z).K=K:=by intro _;rfl):Cmp K F .In (wIn d false):=⟨_,λz=>Od.or (hK z▸op_inD d (by have:=(hr z).units;omega)),W2.in_ d false λ_ _ _ _ h=>h⟩
theorem A_ (d:Nat)(hr:∀z,Room k (F z).A)(hd:d<=30:=by decide)(hK:∀z,(F z).K=K:=by intro _;rfl):Cmp K F .NotIn (wIn d true):=⟨_,λz=>OB.or (hK z▸Pn d (by have:=(hr z).units;omega)),W2.in_ d true λ_ _ _ _ h=>h⟩
theorem cLt:Cmp K F .Lt wLt:=⟨_,λ_=>op_lt.or Oc,W2.lt⟩
theorem cLe:Cmp K F .LtE wLe:=⟨_,λ_=>op_le.or Ph,W2.le⟩
theorem cGt:Cmp K F .Gt wGt:=⟨_,λ_=>op_gt,W2.I0 λ_ _ _ _=>rfl⟩
theorem cGe:Cmp K F .GtE wGe:=⟨_,λ_=>op_ge,W2.I0 λ_ _ _ _=>rfl⟩
theorem M3 (hc:Cmp K F op w)(ha:QE T K F a pa)(hb:QR T K F b pb)(hm:AF op b=false):QE T K F (.Compare a [op] [b] pos) (qOp w pa pb):=by
 obtain⟨r,ho,hw⟩:=hc.ex;obtain⟨ta,h1,h2⟩:=ha;obtain⟨tb,h3,h4⟩:=hb;exact⟨_,λz=>Gm (ho z) (h1 z) (h3 z) hm,Dm hw h2 h4⟩
def qB (pe:pE):pT:=λenv n R=>pe env n λx jk n'=>match x with|.bl b=>R b jk n'|_=>False
theorem ok_b (h:EOk K T t pe):TOk K T (tB t) (qB pe):=λC G σ H env n R Q hK hT S hp k=>by
 refine h C G σ H env n _ _ hK hT S hp λx jk n' v H' r S' rp f=>?_;cases x with
 |bl b=>exact⟨b,rp,k _ _ _ _ r S' f⟩
 |_=>exact r.elim
theorem BV (h:EOk K T t pe):TOk K T (Gn t) (qB pe):=λC G σ H env n R Q hK hT S hp k=>by
 refine h C G σ H env n _ _ hK hT S hp λx jk n' v H' r S' rp f=>?_;cases x with
 |bl b=>exact⟨b,rp,k _ _ _ _ r S' f⟩
 |_=>exact r.elim
theorem K3 (h:QE T K F e pe)(he:∀z whole,isTrue e (F z).env whole=(do let v ← whole;e9 e.pos;W4 [v] (truthy v)):=by intro _ _;rfl):QT T K F e (qB pe):=by
 obtain⟨t,h1,h2⟩:=h;exact⟨_,λz=>pt_val (h1 z) (he z),ok_b h2⟩
theorem J6 (hc:Cmp K F op w)(ha:QE T K F a pa)(hb:QR T K F b pb)(hm:AF op b=false):QT T K F (.Compare a [op] [b] pos) (qB (qOp w pa pb)):=by
 obtain⟨r,ho,hw⟩:=hc.ex;obtain⟨ta,h1,h2⟩:=ha;obtain⟨tb,h3,h4⟩:=hb;exact⟨_,λz=>AY (ho z) (h1 z) (h3 z) hm,BV (Dm hw h2 h4)⟩
theorem Po (hc:Cmp K F op w)(ha:QR T K F a pa)(hb:QR T K F b pb)(hm:AF op b=false):QT T K F (.Compare a [op] [b] pos) (qB (qOpR w pa pb)):=by
 obtain⟨r,ho,hw⟩:=hc.ex;obtain⟨ta,h1,h2⟩:=ha;obtain⟨tb,h3,h4⟩:=hb;exact⟨_,λz=>AY (ho z) (h1 z) (h3 z) hm,BV (ok_opR hw h2 h4)⟩
def Ao (w w':w2)(pa pb pc:pE):pE:=λenv n R=>pa env n λx je n1=>pb je n1 λy jf n2=>w x y λz=>match z with|.bl k=>if k=true then pc jf n2 λu jg n3=>w' y u λz=>R z jg n3 else R (.bl false) jf n2|_=>False
theorem JU (hw:W2 K r w)(hw':W2 K r' w')(ha:EOk K T ta pa)(hb:EOk K T tb pb)(hc:EOk K T tc pc):EOk K T (Go r r' ta tb tc) (Ao w w' pa pb pc):=λC G σ H env n R Q hK hT S hp k=>by
 refine ha C G σ H env n _ _ hK hT S hp λx je n1 v H1 p1 S1 r1 f1=>?_;refine hb C G σ H1 je n1 _ _ hK hT S1 p1 λy jf n2 u H2 p2 S2 r2 f2=>?_;subst hK;refine hw G H2 x y v u _ _ (λp hp=>S2.fresh hp) (.inl (r1.fr f2)) (.inl r2) p2 λz v' H' rz s rv=>?_;cases z with
 | bl kk =>
  refine⟨kk,rv,?_⟩;cases kk with
  |false=>exact k _ _ _ _ _ rz (S2.same s) rfl ((f1.trans f2).trans (Fr.of s))
  | true =>
   refine hc C G σ H' jf n2 _ _ rfl hT (S2.same s) rz λc3 jg n3 v3 H3 p3 S3 r3 f3=>?_;exact hw' G H3 y c3 u v3 _ _ (λp hp=>S3.fresh hp) (.inl ((r2.same s).fr f3)) (.inl r3) p3 λz v' H4 rz s4 rv=>k _ _ _ _ _ rz (S3.same s4) rv ((((f1.trans f2).trans (Fr.of s)).trans f3).trans (Fr.of s4))
 |_=>exact rz.elim
theorem JV (hc:Cmp K F op w)(hc':Cmp K F op' w')(ha:QE T K F a pa)(hb:QE T K F b pb)(hcc:QE T K F c pc)(hm:lastMarks [op,op'] [b,c]=false:=by with_unfolding_all rfl):QE T K F (.Compare a [op,op'] [b,c] pos) (Ao w w' pa pb pc):=by
 obtain⟨r,ho,hw⟩:=hc.ex;obtain⟨r',ho',hw'⟩:=hc'.ex;obtain⟨ta,a1,a2⟩:=ha;obtain⟨tb,b1,b2⟩:=hb;obtain⟨tc,c1,c2⟩:=hcc;exact⟨_,λz=>Oe (ho z) (ho' z) (a1 z) (b1 z) (c1 z) hm,JU hw hw' a2 b2 c2⟩
theorem JW (hc:Cmp K F op w)(hc':Cmp K F op' w')(ha:QE T K F a pa)(hb:QE T K F b pb)(hcc:QE T K F c pc)(hm:lastMarks [op,op'] [b,c]=false:=by with_unfolding_all rfl):QT T K F (.Compare a [op,op'] [b,c] pos) (qB (Ao w w' pa pb pc)):=by
 obtain⟨r,ho,hw⟩:=hc.ex;obtain⟨r',ho',hw'⟩:=hc'.ex;obtain⟨ta,a1,a2⟩:=ha;obtain⟨tb,b1,b2⟩:=hb;obtain⟨tc,c1,c2⟩:=hcc;exact⟨_,λz=>Of (ho z) (ho' z) (a1 z) (b1 z) (c1 z) hm,BV (JU hw hw' a2 b2 c2)⟩
variable {pt pu:pT}
def qAnd (t u:pT):pT:=λenv n R=>t env n λb je n1=>if b=true then u je n1 R else R false je n1
def qOr (t u:pT):pT:=λenv n R=>t env n λb je n1=>if b=true then R true je n1 else u je n1 R
def qNot (t:pT):pT:=λenv n R=>t env n λb je n1=>R (!b) je n1
theorem ok_and (h:TOk K T t pt)(h':TOk K T u pu):TOk K T (tAnd t u) (qAnd pt pu):=λC G σ H env n R Q hK hT S hp k=>by
 refine h C G σ H env n _ _ hK hT S hp λb je n1 H1 p1 S1 f1=>?_;cases b with
 |true=>exact h' C G σ H1 je n1 _ _ hK hT S1 p1 λb jf n2 H2 p2 S2 f2=>k _ _ _ _ p2 S2 (f1.trans f2)
 |false=>exact k _ _ _ _ p1 S1 f1
theorem ok_or (h:TOk K T t pt)(h':TOk K T u pu):TOk K T (tOr t u) (qOr pt pu):=λC G σ H env n R Q hK hT S hp k=>by
 refine h C G σ H env n _ _ hK hT S hp λb je n1 H1 p1 S1 f1=>?_;cases b with
 |false=>exact h' C G σ H1 je n1 _ _ hK hT S1 p1 λb jf n2 H2 p2 S2 f2=>k _ _ _ _ p2 S2 (f1.trans f2)
 |true=>exact k _ _ _ _ p1 S1 f1
theorem ok_not {K:A7}{t:TT}(h:TOk K T t pt):TOk K T (tNot t) (qNot pt):=λC G σ H env n R Q hK hT S hp k=>h C G σ H env n _ _ hK hT S hp λb je n1 H1 p1 S1 f1=>k _ _ _ _ p1 S1 f1
theorem JX (ha:QT T K F a pt):QW T K F (.BoolOp .And [a] pos) pt:=let ⟨t,h1,h2⟩:=ha;⟨t,λz=>NQ (h1 z),h2⟩
theorem T6 (ha:QT T K F a pt):QW T K F (.BoolOp .Or [a] pos) pt:=let ⟨t,h1,h2⟩:=ha;⟨t,λz=>pw_or1 (h1 z),h2⟩
theorem JY (ha:QT T K F a pt)(hb:QW T K F (.BoolOp .And (b::rest) pos) pu):QW T K F (.BoolOp .And (a::b::rest) pos) (qAnd pt pu):=let ⟨t,h1,h2⟩:=ha;let ⟨u,h3,h4⟩:=hb;⟨_,λz=>pw_and (h1 z) (h3 z),ok_and h2 h4⟩
theorem N2 (ha:QT T K F a pt)(hb:QW T K F (.BoolOp .Or (b::rest) pos) pu):QW T K F (.BoolOp .Or (a::b::rest) pos) (qOr pt pu):=let ⟨t,h1,h2⟩:=ha;let ⟨u,h3,h4⟩:=hb;⟨_,λz=>pw_or (h1 z) (h3 z),ok_or h2 h4⟩
theorem QW.qt (h:QW T K F e pt):QT T K F e pt:=let ⟨t,h1,h2⟩:=h;⟨t,λz=>(h1 z).pt,h2⟩
theorem L9 (ha:QT T K F a pt):QT T K F (.UnaryOp .Not a pos) (qNot pt):=let ⟨t,h1,h2⟩:=ha;⟨_,λz=>pt_not (h1 z),ok_not h2⟩
def O0 (pa pb:pE):pE:=λenv n R=>pa env n λx je n1=>match x with|.bl b=>if b=true then pb je n1 R else R (.bl false) je n1|_=>False
def GL (pa:pE):pE:=λenv n R=>pa env n λx je n1=>match x with|.bl b=>R (.bl (!b)) je n1|_=>False
theorem X5 {op}(h:QE T K F a pa):QE T K F (.BoolOp op [a] pos) pa:=let ⟨t,h1,h2⟩:=h;⟨t,λz=>pe_one (h1 z),h2⟩
theorem P3 (ha:QE T K F a pa)(hb:QE T K F (.BoolOp .And (b::rest) pos) pb):QE T K F (.BoolOp .And (a::b::rest) pos) (O0 pa pb):=by
 obtain⟨t,h1,h2⟩:=ha;obtain⟨u,h3,h4⟩:=hb;refine⟨_,λz=>pe_and (h1 z) (h3 z),λC G σ H env n R Q hK hT S hp k=>?_⟩;refine h2 C G σ H env n _ _ hK hT S hp λx je n1 v H1 p1 S1 r1 f1=>?_;cases x with
 | bl c =>
  refine⟨c,r1,?_⟩;cases c with
  |true=>exact h4 C G σ H1 je n1 _ _ hK hT S1 p1 λx jf n2 v H2 p2 S2 r2 f2=>k _ _ _ _ _ p2 S2 r2 (f1.trans f2)
  |false=>exact k _ _ _ _ _ p1 S1 rfl f1
 |_=>exact p1.elim
theorem qe_not (ha:QE T K F a pa):QE T K F (.UnaryOp .Not a pos) (GL pa):=by
 obtain⟨t,h1,h2⟩:=ha;refine⟨_,λz=>pe_not (h1 z),λC G σ H env n R Q hK hT S hp k=>?_⟩;refine h2 C G σ H env n _ _ hK hT S hp λx je n1 v H1 p1 S1 r1 f1=>?_;cases x with
 |bl c=>exact⟨c,r1,k _ _ _ _ _ p1 S1 rfl f1⟩
 |_=>exact p1.elim
variable {pl pr:pA}
def qNil:pA:=λenv n R=>R [] env n
def A1 (pe:pE)(pr:pA):pA:=λenv n R=>pe env n λx je n1=>pr je n1 λxs jf n2=>R (x::xs) jf n2
theorem B3:QA T K F [] qNil:=⟨_,λ_=>G0,λC G σ H env n R Q hK hT S hp k=>k _ _ _ _ _ hp S Reps.nil Fr.refl⟩
theorem Pp (h:EOk K T t pe)(h':AOk K T u pr):AOk K T (U6 t u) (A1 pe pr):=λC G σ H env n R Q hK hT S hp k=>by
 refine h C G σ H env n _ _ hK hT S hp λx je n1 v H1 p1 S1 r1 f1=>?_;exact h' C G σ H1 je n1 _ _ hK hT S1 p1 λxs jf n2 vs H2 p2 S2 r2 f2=>k _ _ _ _ _ p2 S2 (.cons (r1.fr f2) r2) (f1.trans f2)
def D8:Expr->Bool
 |.Starred ..=>false
 |_=>true
theorem B9 (h:D8 e=true):E2 (e::es) env=(false,eval e env)::E2 es env:=by
 cases e <;> first|rfl|cases h
theorem A4 (ha:QE T K F e pe)(hr:QA T K F es pr)(h:D8 e=true:=by rfl):QA T K F (e::es) (A1 pe pr):=by
 obtain⟨t,h1,h2⟩:=ha;obtain⟨u,h3,h4⟩:=hr;exact⟨_,λz=>D4 (h1 z) (h3 z) (B9 h),Pp h2 h4⟩
def qTup (pa:pA):pE:=λenv n R=>pa env n λxs je n1=>xs.length<=1000000/\R (.tup xs) je n1
def qLst (pa:pA):pA:=λenv n R=>pa env n λxs je n1=>xs.length<=1000000/\R xs je n1
def qL (pn:pA):pE:=λenv n R=>pn env n λxs je n1=>R (.lst xs) je n1
theorem L4 {x1}(h:QA T K F es pl):QE T K F (.Tuple es x1 pos) (qTup pl):=by
 obtain⟨t,h1,h2⟩:=h;refine⟨_,λz=>Jm (h1 z),λC G σ H env n R Q hK hT S hp k=>?_⟩;refine h2 C G σ H env n _ _ hK hT S hp λxs je n1 vs H1 p1 S1 r1 f1=>⟨by rw[<- r1.length];exact mil p1.1,λp hp=>?_⟩;exact k _ _ _ _ _ p1.2 (S1.same (Same.lay1 hp)) (u7 (S1.fresh hp) hp r1) (f1.trans (Fr.of (Same.lay1 hp)))
theorem N3 (h:QA T K F es pl):QN T K F (.List es pos) (qLst pl):=by
 obtain⟨t,h1,h2⟩:=h;refine⟨_,λz=>Eu (h1 z),λC G σ H env n R Q hK hT S hp k=>?_⟩;exact h2 C G σ H env n _ _ hK hT S hp λxs je n1 vs H1 p1 S1 r1 f1=>⟨by rw[<- r1.length];exact mil p1.1,λp hp=>k _ _ _ _ _ _ p1.2 S1 f1 hp r1⟩
theorem QN.ee (h:QN T K F e pl):QE T K F e (qL pl):=by
 obtain⟨t,h1,h2⟩:=h;refine⟨t,h1,λC G σ H env n R Q hK hT S hp k=>?_⟩;refine h2 C G σ H env n _ _ hK hT S hp λxs je n1 a vs Hb p1 S1 f1 hn r1=>?_;exact k _ _ _ _ _ p1 (S1.same (Same.lay1 hn)) (Dn (S1.fresh hn) hn r1) (f1.trans (Fr.of (Same.lay1 hn)))
theorem EG (h:ROk K T t pe)(hK:C.K=K)(hT:C.T=T)(S:SR C G σ H env n)(hp:pe env n R)
   (k:∀x jk n' v H',R x jk n'->SR C G σ H' jk n'->RdS C G σ H' jk x v->Fr G H H'->Q [v] H'):U6 t tNil σ H Q:=
 h C G σ H env n _ _ hK hT S hp λx je n1 v H1 p1 S1 r1 f1=>k _ _ _ _ _ p1 S1 r1 f1
end
end Pu
end
section
namespace HT
open PySem PySem.Spec PyProof.Rows
section
variable {prog:D3}{w:C3}{A:E8}{E:A3->A5->Prop}{s:A5}
theorem getItem_tuple_whole {lo hi:Option Int}(ht:IsTup s.heap t items)(hs:s.heap.IsSliceOf sl vl vu .none)(pl:IsPart vl lo)(pu:IsPart vu hi)
   (hw:sIx items.size 0 lo=0/\sIx items.size items.size hi=items.size) (h:Q (.ref t) s):A6 (A8 prog w) A (W5 (.ref t) (.ref sl)) Q E s:=by
 obtain⟨os,hos,hcs,hds⟩:=id hs;have hTs:s.TypeIs (.ref sl) "slice":=⟨os,hos,hcs⟩;have hTt:s.TypeIs (.ref t) "tuple":=ht.typeIs;unfold W5
 try with_reducible refine P8 ?_
 first|refine A2 (A9 ?_)|skip
 refine A2 (wpAny_sequenceKey ht.typeIs (by decide) ?_)
 refine A2 (T9 (name:=C7 "__getitem__") ht.typeIs BC
   (P6 BC ht.typeIs entry_tuple_getitem ?_ (args_tuple_getitem _ _)))
 show A6 _ _ (FZ (.ref t)>>=_) _ _ s;refine A2 (tupleItemsOf_ ht ?_);refine A2 (x5 hTs ?_);rw[jw (by decide)];refine A2 (Jt hs pl pu ?_)
 have hyes:(((sIx items.size 0 lo:Nat):Int) == 0&&(1:Int) == 1&&(sIx items.size items.size hi-sIx items.size 0 lo) == items.size)=true:=by
  rw[hw.1,hw.2];simp
 show A6 _ _ (if(((sIx items.size 0 lo:Nat):Int) == 0&&(1:Int) == 1&&(sIx items.size items.size hi-sIx items.size 0 lo) == items.size)=true then _ else _) _ _ s;rw[jw hyes];unfold Builtin.Tuple.tupleIsExact;refine A2 (A2 (x5 hTt (A9 ?_)));rw[jw (by rfl)];exact A2 (V4 (A9 ⟨_,rfl,A9 h⟩))
end
end HT
namespace L2
open PySem PySem.Spec PyProof.Rows
section
variable {X:Cx}
def rSlTA (K:A7):V->Option Int->Option Int->Hp->VK->Prop:=λx lo hi H Q=>∃a xs,x=.ref a/\SqT K H a xs/\
 (cutV xs lo hi=xs->Q (.ref a) H)/\∀p,H p=none->Q (.ref p) (upd H p (.tup (cutV xs lo hi)))
theorem Pq:SlR X (rSlTA X.K):=by
 intro jd s σ H x v vl vu lo hi sl Q I rx hs pl pu h;obtain⟨a,xs,rfl,hx,h1,h2⟩:=h
 by_cases hw:HT.sIx xs.length 0 lo=0/\HT.sIx xs.length xs.length hi=xs.length
 ·cases rx;obtain⟨jh,r,ht,hz⟩:=I.tuple hx;have hlen:jh.toArray.size=xs.length:=by rw[F5];exact r.length.symm
  refine⟨"tuple",_,PyProof.Rows.slot_tuple_getitem.lookup,ht.typeIs,?_⟩;refine HT.getItem_tuple_whole ht hs pl pu (by rw[hlen];exact hw) ⟨.ref a,H,I,rfl,h1 ?_⟩;unfold cutV;rw[hw.1,hw.2];simp
 ·exact sl_tup jd s σ H (.ref a) v vl vu lo hi sl Q I rx hs pl pu ⟨a,xs,rfl,hx,hw,h2⟩
end
end L2
namespace Pu
open PySem PySem.Spec L2
section
variable {T:PotK}{ι:Type}{K:A7}{F:ι->Cx}{e a b c:Expr}{es rest:List Expr}{pe pa pb pc:pE}{pos:Pos}{pl pr:pA}
def wIx:w2:=λx y R=>match x,y with
 |.lst xs,.int i=>match atI xs i with|some z=>R z|none=>False
 |.tup xs,.int i=>match atI xs i with|some z=>R z|none=>False
 |.scr ns,.int i=>match atI ns i with|some z=>R (.int z)|none=>False
 |.str z,.int i=>z.length<=1000000/\match atI z.cps.toList i with|some c=>R (.str ⟨#[c]⟩)|none=>False
 |_,_=>False
theorem JZ (r:Reps K G H xs vs)(h:atI xs i=some z):∃v,atI vs i=some v/\Rep K G H z v:=by
 unfold atI at h ⊢;rw[<- r.length];cases e:ixN xs.length i with
 |none=>rw[e] at h;cases h
 | some j =>
  rw[e] at h;exact r.get' h
theorem BW (h:RdV K G H (.scr ns) v):∃a,v=.ref a/\SqL K H a (ns.map V.int):=by
 obtain⟨a,e,h⟩:=h.rep (λ_ z=>nomatch z);refine⟨a,e,?_⟩;rcases h with⟨_,o,h⟩|h
 ·exact .inl (.inr ⟨o,h⟩)
 ·exact .inr h
theorem W2.ix:W2 K (rIx K) wIx:=by
 intro G H x y v u R Q hf rx ry hw k;unfold wIx at hw
 split at hw
 ·rename_i xs i;obtain⟨a,vs,ev,hq,r⟩:=rx.lst;cases ez:atI xs i with
  |none=>rw[ez] at hw;exact hw.elim
  | some z =>
   rw[ez] at hw;obtain⟨v',e1,r1⟩:=JZ r ez;exact .inl ⟨a,vs,i,v',ev,ry.int,hq,e1,k _ _ _ hw (Same.refl _) r1⟩
 ·rename_i xs i;obtain⟨a,vs,ev,hq,r⟩:=rx.tup;cases ez:atI xs i with
  |none=>rw[ez] at hw;exact hw.elim
  | some z =>
   rw[ez] at hw;obtain⟨v',e1,r1⟩:=JZ r ez;exact .inr (.inl ⟨a,vs,i,v',ev,ry.int,hq,e1,k _ _ _ hw (Same.refl _) r1⟩)
 ·rename_i ns i;obtain⟨a,ev,hq⟩:=BW rx;cases ez:atI ns i with
  |none=>rw[ez] at hw;exact hw.elim
  | some z =>
   rw[ez] at hw;refine .inl ⟨a,_,i,.int z,ev,ry.int,hq,?_,k _ _ _ hw (Same.refl _) rfl⟩;unfold atI at ez ⊢;rw[B1];cases e:ixN ns.length i with
   |none=>rw[e] at ez;cases ez
   | some j =>
    rw[e] at ez;show(ns.map V.int)[j]?=_;rw[K6,show ns[j]?=some z from ez]
    rfl
 ·rename_i z i;obtain⟨hz,hw⟩:=hw;cases ez:atI z.cps.toList i with
  |none=>rw[ez] at hw;exact hw.elim
  | some c =>
   rw[ez] at hw;exact .inr (.inr ⟨z,i,c,rx.str,ry.int,mil hz,ez,k _ _ _ hw (Same.refl _) rfl⟩)
 ·exact hw.elim
theorem C5 (ha:QE T K F a pa)(hb:QE T K F b pb)(hs:Jy b:=by exact λ_ _=>rfl)(hK:∀z,(F z).K=K:=by intro _;rfl):QE T K F (.Subscript a b pos) (qOp wIx pa pb):=by
 obtain⟨ta,h1,h2⟩:=ha;obtain⟨tb,h3,h4⟩:=hb.r;exact⟨_,λz=>Ak (hK z▸ix_seq) (h1 z) (h3 z) hs,Dm W2.ix h2 h4⟩
abbrev pO:=Env->Nat->(Option Int->Env->Nat->Prop)->Prop
def qNo:pO:=λenv n R=>R none env n
def Z6 (pe:pE):pO:=λenv n R=>pe env n λx je n1=>match x with|.int i=>R (some i) je n1|_=>False
def OOk (K:A7)(T:PotK)(t:TO)(po:pO):Prop:=∀(C:Ct) (G:Gh) (σ:St) (H:Hp) (env:Env) (n:Nat) (R:Option Int->Env->Nat->Prop) (Q:Option Int->Hp->Prop),C.K=K->C.T=T->SR C G σ H env n->po env n R->
 (∀x jk n' H',R x jk n'->SR C G σ H' jk n'->Fr G H H'->Q x H')->t σ H Q
def QO {ι:Type}(T:PotK)(K:A7)(F:ι->Cx)(e:Option Expr)(po:pO):Prop:=∃t,(∀z,PO (F z) e t)/\OOk K T t po
theorem Ap:QO T K F none qNo:=⟨_,λ_=>Ju,λC G σ H env n R Q hK hT S hp k=>k _ _ _ _ hp S Fr.refl⟩
theorem Aq (h:QE T K F e pe):QO T K F (some e) (Z6 pe):=by
 obtain⟨t,h1,h2⟩:=h;refine⟨_,λz=>Jv (h1 z),λC G σ H env n R Q hK hT S hp k=>?_⟩;refine h2 C G σ H env n _ _ hK hT S hp λx je n1 v H1 p1 S1 r1 f1=>?_;cases x with
 |int i=>exact⟨i,r1,k _ _ _ _ p1 S1 f1⟩
 |_=>exact p1.elim
def cutP {α:Type}(xs:List α)(lo hi:Option Int):List α:=(xs.drop (HT.sIx xs.length 0 lo)).take (HT.sIx xs.length xs.length hi-HT.sIx xs.length 0 lo)
theorem Reps.cut (r:Reps K G H xs vs)(lo hi:Option Int):Reps K G H (cutP xs lo hi) (cutV vs lo hi):=by
 unfold cutP cutV;rw[<- r.length];exact(r.drop _).take _
def wSl (x:PV)(lo hi:Option Int)(R:PV->Prop):Prop:=match x with
 |.lst xs=>R (.lst (cutP xs lo hi))
 |.scr ns=>R (.lst ((cutP ns lo hi).map PV.int))
 |.tup xs=>R (.tup (cutP xs lo hi))
 |.str z=>z.length<=1000000/\R (.str (AX z lo hi))
 |_=>False
def qSl (pe:pE)(pl ph:pO):pE:=λenv n R=>pe env n λx je n1=>pl je n1 λlo jf n2=>ph jf n2 λhi jg n3=>wSl x lo hi λz=>R z jg n3
theorem GM {K:A7}{G:Gh}{H:Hp}:∀ns:List Int,Reps K G H (ns.map PV.int) (ns.map V.int)
 |[]=>rfl
 |i::ns=>⟨.int i,ns.map V.int,rfl,rfl,GM ns⟩
theorem EH {α β:Type}(f:α->β)(xs:List α)(lo hi:Option Int):cutP (xs.map f) lo hi=(cutP xs lo hi).map f:=by simp[cutP]
theorem sl_ok (hf:∀p,H p=none->p∉G.M)(rx:RdV K G H x v)(hw:wSl x lo hi R)(k:∀z v' H',R z->Same H H'->Rep K G H' z v'->Q v' H') :
   rSlL K v lo hi H Q\/rSlTA K v lo hi H Q\/rSlS v lo hi H Q:=by
 unfold wSl at hw
 split at hw
 ·obtain⟨a,vs,ev,hq,r⟩:=rx.lst;exact .inl ⟨a,vs,ev,hq,λp hp=>k _ _ _ hw (Same.lay1 hp) (Dn (hf p hp) hp (r.cut lo hi))⟩
 ·rename_i ns;obtain⟨a,ev,hq⟩:=BW rx;refine .inl ⟨a,_,ev,hq,λp hp=>k _ _ _ hw (Same.lay1 hp) (Dn (hf p hp) hp ?_)⟩;have:=(GM (K:=K) (G:=G) (H:=H) ns).cut lo hi;rw[EH] at this;exact this
 ·obtain⟨a,vs,ev,t,r⟩:=rx.rep (λ_ z=>nomatch z);refine .inr (.inl ⟨a,vs,ev,t.sq,λz=>k _ _ _ hw (Same.refl _) ?_,λp hp=>k _ _ _ hw (Same.lay1 hp) (u7 (hf p hp) hp (r.cut lo hi))⟩);have rc:=r.cut lo hi;rw[z] at rc;exact⟨a,vs,rfl,t,rc⟩
 ·exact .inr (.inr ⟨_,rx.str,mil hw.1,k _ _ _ hw.2 (Same.refl _) rfl⟩)
 ·exact hw.elim
theorem Ar (he:QE T K F e pe)(hl:QO T K F lo ql)(hh:QO T K F hi qh)(hK:∀z,(F z).K=K:=by intro _;rfl):QE T K F (.Subscript e (.Slice lo hi none p2) pos) (qSl pe ql qh):=by
 obtain⟨t,h1,h2⟩:=he;obtain⟨tl,l1,l2⟩:=hl;obtain⟨th,u1,u2⟩:=hh;refine⟨_,λz=>Jw ((hK z▸Jz).or ((hK z▸Pq).or sl_str)) (h1 z) (l1 z) (u1 z),λC G σ H env n R Q hK hT S hp k=>?_⟩;refine h2 C G σ H env n _ _ hK hT S hp λx je n1 v H1 p1 S1 r1 f1=>?_;refine l2 C G σ H1 je n1 _ _ hK hT S1 p1 λlo jf n2 H2 p2 S2 f2=>?_;refine u2 C G σ H2 jf n2 _ _ hK hT S2 p2 λhi jg n3 H3 p3 S3 f3=>?_;exact sl_ok (λp hp=>S3.fresh hp) (.inl ((r1.fr f2).fr f3)) p3 λz v' H' rz s rv=>k _ _ _ _ _ rz (S3.same s) rv (((f1.trans f2).trans f3).trans (Fr.of s))
def WA1 (K:A7)(r:List V->Hp->VK->Prop)(w:w1):Prop:=∀(G:Gh) (H:Hp) (x:PV) (v:V) (R:PV->Prop) (Q:VK),(∀p,H p=none->p∉G.M)->RdV K G H x v->w x R->
 (∀z v' H',R z->Same H H'->Rep K G H' z v'->Q v' H')->r [v] H Q
theorem J_ (hw:WA1 K r w)(h:ROk K T t pe):EOk K T (tCB r (U6 t tNil)) (qUn w pe):=λC G σ H env n R Q hK hT S hp k=>by
 refine EG h hK hT S hp λx je n1 v H1 p1 S1 r1 f1=>?_;subst hK;exact hw G H1 x v _ _ (λp hp=>S1.fresh hp) (r1.rd S1) p1 λz v' H' rz s rv=>k _ _ _ _ _ rz (S1.same s) rv (f1.trans (Fr.of s))
theorem EI {id:String}(hc:∀z,M6 (F z) (.builtin id) r)(hw:WA1 K r w)(hg:∀z,Gl (F z) x)(hm:∀z,(F z).mg x=none)(hv:K5 x=some (.builtin id))(ha:QR T K F e pe)(hs:D8 e=true:=by rfl)(hn:x≠"__name__":=by decide)(hdb:(x == ("__debug__":Str))=false:=by decide) :
   QE T K F (.Call (.Name x p) [e] [] pos) (qUn w pe):=by
 obtain⟨t,h1,h2⟩:=ha;exact⟨_,λz=>Aj (hc z) (hg z) (hm z) hv (D4 (h1 z) G0 (B9 hs)) hn hdb (B9 hs),J_ hw h2⟩
theorem Ka {id:String}(hc:∀z,M6 (F z) (.type id) r)(hw:WA1 K r w)(hg:∀z,Gl (F z) x)(hm:∀z,(F z).mg x=none)(hv:K5 x=some (.type id))(ha:QR T K F e pe)(hs:D8 e=true:=by rfl)(hn:x≠"__name__":=by decide)(hdb:(x == ("__debug__":Str))=false:=by decide) :
   QE T K F (.Call (.Name x p) [e] [] pos) (qUn w pe):=by
 obtain⟨t,h1,h2⟩:=ha;exact⟨_,λz=>Gr (hc z) (hg z) (hm z) hv (D4 (h1 z) G0 (B9 hs)) hn hdb (B9 hs),J_ hw h2⟩
def wLen:w1:=λx R=>match x with
 |.lst xs=>R (.int xs.length)
 |.tup xs=>R (.int xs.length)
 |.scr xs=>R (.int xs.length)
 |.str z=>z.length<=1000000/\R (.int z.length)
 |_=>False
theorem WA1.len:WA1 K (λxs H Q=>(∃p ys,xs=[.ref p]/\(SqL K H p ys\/SqT K H p ys)/\Q (.int ys.length) H)\/∃z,xs=[.str z]/\z.length<=B8/\Q (.int z.length) H) wLen:=by
 intro G H x v R Q hf rx hw k;unfold wLen at hw
 split at hw
 ·obtain⟨a,vs,ev,hq,r⟩:=rx.lst;exact .inl ⟨a,vs,by rw[ev],.inl hq,k _ _ _ hw (Same.refl _) (by rw[r.length];rfl)⟩
 ·obtain⟨a,vs,ev,hq,r⟩:=rx.tup;exact .inl ⟨a,vs,by rw[ev],.inr hq,k _ _ _ hw (Same.refl _) (by rw[r.length];rfl)⟩
 ·obtain⟨a,ev,hq⟩:=BW rx;exact .inl ⟨a,_,by rw[ev],.inl hq,k _ _ _ hw (Same.refl _) (by rw[B1];rfl)⟩
 ·exact .inr ⟨_,by rw[rx.str],mil hw.1,k _ _ _ hw.2 (Same.refl _) rfl⟩
 ·exact hw.elim
theorem J0 (hg:∀z,Gl (F z) "len")(hm:∀z,(F z).mg "len"=none)(ha:QR T K F e pe)(hs:D8 e=true:=by rfl)(hK:∀z,(F z).K=K:=by intro _;rfl):QE T K F (.Call (.Name "len" p) [e] [] pos) (qUn wLen pe):=EI (λz=>(hK z▸JB).or OC) WA1.len hg hm JK ha hs
def wAbs:w1:=λx R=>match x with|.int i=>R (.int (if i<0 then -i else i))|_=>False
theorem Kb {p:Pos}(hg:∀z,Gl (F z) "abs")(hm:∀z,(F z).mg "abs"=none)(ha:QR T K F e pe)(hs:D8 e=true:=by rfl):QE T K F (.Call (.Name "abs" p) [e] [] pos) (qUn wAbs pe):=EI (λ_=>Gp) (λG H x v R Q hf rx hw k=>by
 unfold wAbs at hw
 split at hw
 ·exact⟨_,by rw[rx.int],k _ _ _ hw (Same.refl _) rfl⟩
 ·exact hw.elim) hg hm Gz ha hs
def wInt:w1:=λx R=>match x with|.int i=>R (.int i)|.bl b=>R (.int (if b then 1 else 0))|_=>False
theorem Pr {p:Pos}(hg:∀z,Gl (F z) "int")(hm:∀z,(F z).mg "int"=none)(ha:QR T K F e pe)(hs:D8 e=true:=by rfl):QE T K F (.Call (.Name "int" p) [e] [] pos) (qUn wInt pe):=Ka (λ_=>Jl) (λG H x v R Q hf rx hw k=>by
 unfold wInt at hw
 split at hw
 ·exact .inl ⟨_,by rw[rx.int],k _ _ _ hw (Same.refl _) rfl⟩
 ·exact .inr ⟨_,by rw[rx.bl],k _ _ _ hw (Same.refl _) rfl⟩
 ·exact hw.elim) hg hm Dk ha hs
def u8:List PV->Option (List Bool)
 |[]=>some []
 |.bl b::xs=>(u8 xs).map (b::·)
 |_=>none
theorem Kc {K:A7}{G:Gh}{H:Hp}:∀{xs:List PV} {vs:List V} {bs:List Bool},u8 xs=some bs->Reps K G H xs vs->vs=bs.map V.bl
 |[],vs,bs,h,r=>by cases h;exact r
 | .bl b :: xs, vs, bs, h, r => by
  obtain⟨v,t,e,rv,rt⟩:=r;cases e1:u8 xs with
  |none=>simp[u8,e1] at h
  | some cs =>
   have:b::cs=bs:=by simpa[u8,e1] using h
   subst this;rw[e,show v=.bl b from rv,Kc e1 rt]
   rfl
 |.non::_,_,_,h,_=>by cases h
 |.int _::_,_,_,h,_=>by cases h
 |.str _::_,_,_,h,_=>by cases h
 |.ty _::_,_,_,h,_=>by cases h
 |.pot _::_,_,_,h,_=>by cases h
 |.tup _::_,_,_,h,_=>by cases h
 |.lst _::_,_,_,h,_=>by cases h
 |.dct _ _::_,_,_,h,_=>by cases h
 |.fdt _ _::_,_,_,h,_=>by cases h
 |.scr _::_,_,_,h,_=>by cases h
theorem GN:∀bs:List Bool,u8 (bs.map PV.bl)=some bs
 |[]=>rfl
 |b::bs=>by simp[u8,GN bs]
def wAll:w1:=λx R=>match x with|.lst xs=>(match u8 xs with|some bs=>R (.bl (bs.all id))|none=>False)|_=>False
theorem BX (hc:∀z,(F z).calm=true)(hg:∀z,Gl (F z) "all")(hm:∀z,(F z).mg "all"=none)(ha:QR T K F e pe)(hs:D8 e=true:=by rfl)(hK:∀z,(F z).K=K:=by intro _;rfl):QE T K F (.Call (.Name "all" p) [e] [] pos) (qUn wAll pe):=EI (λz=>hK z▸OX (hc z)) (λG H x v R Q hf rx hw k=>by
 unfold wAll at hw
 split at hw
 ·rename_i xs;obtain⟨a,vs,ev,hq,r⟩:=rx.lst
  split at hw
  ·rename_i bs eb;exact⟨a,bs,by rw[ev],Kc eb r▸hq,k _ _ _ hw (Same.refl _) rfl⟩
  ·exact hw.elim
 ·exact hw.elim) hg hm bt_all ha hs
def V5:w1:=λx R=>match x with|.lst xs=>R (.tup xs)|.tup xs=>R (.tup xs)|_=>False
theorem l7 (hg:∀z,Gl (F z) "tuple")(hm:∀z,(F z).mg "tuple"=none)(ha:QR T K F e pe)(hs:D8 e=true:=by rfl)(hK:∀z,(F z).K=K:=by intro _;rfl):QE T K F (.Call (.Name "tuple" p) [e] [] pos) (qUn V5 pe):=Ka (λz=>hK z▸OF) (λG H x v R Q hf rx hw k=>by
 unfold V5 at hw
 split at hw
 ·obtain⟨a,vs,ev,hq,r⟩:=rx.lst;exact⟨a,vs,by rw[ev],.inl ⟨hq,λl hl=>k _ _ _ hw (Same.lay1 hl) (u7 (hf l hl) hl r)⟩⟩
 ·obtain⟨a,vs,ev,t,r⟩:=rx.rep (λ_ z=>nomatch z);exact⟨a,vs,by rw[ev],.inr ⟨t.sq,k _ _ _ hw (Same.refl _) ⟨a,vs,rfl,t,r⟩⟩⟩
 ·exact hw.elim) hg hm X2 ha hs
def Dp (pe:pE):pA:=λenv n R=>pe env n λx je n1=>match x with|.lst xs=>R xs je n1|.tup xs=>R xs je n1|.scr ns=>R (ns.map PV.int) je n1|_=>False
theorem GO (hg:∀z,Gl (F z) "list")(hm:∀z,(F z).mg "list"=none)(ha:QR T K F e pe)(hs:D8 e=true:=by rfl)(hK:∀z,(F z).K=K:=by intro _;rfl):QN T K F (.Call (.Name "list" p) [e] [] pos) (Dp pe):=by
 obtain⟨t,h1,h2⟩:=ha;refine⟨_,λz=>Gr (hK z▸OE) (hg z) (hm z) Pb (D4 (h1 z) G0 (B9 hs)) (by decide) (by decide) (B9 hs),λC G σ H env n R Q hK hT S hp k=>?_⟩;refine EG h2 hK hT S hp λx je n1 v H1 p1 S1 r1 f1=>?_;have rd:RdV K G H1 x v:=hK▸r1.rd S1;cases x with
 | lst xs =>
  obtain⟨a,vs,ev,hq,r⟩:=rd.lst;exact⟨a,vs,by rw[ev],.inl hq,λl hl=>k _ _ _ _ _ _ p1 S1 f1 hl r⟩
 | tup xs =>
  obtain⟨a,vs,ev,hq,r⟩:=rd.tup;exact⟨a,vs,by rw[ev],.inr hq,λl hl=>k _ _ _ _ _ _ p1 S1 f1 hl r⟩
 | scr ns =>
  obtain⟨a,ev,hq⟩:=BW rd;exact⟨a,_,by rw[ev],.inl hq,λl hl=>k _ _ _ _ _ _ p1 S1 f1 hl (GM ns)⟩
 |_=>exact p1.elim
theorem tyw (hg:Gl X x)(hm:X.mg x=none)(hv:K5 x=some (.type m))(hn:x≠"__name__":=by decide)(hd:(x == ("__debug__":Str))=false:=by decide):EW X (.Name x pos) (tC (.ty m)):=⟨NP (v:=.ty m) hg hm hv rfl hn hd⟩
def tyP:PV->Option String
 |.non=>some "NoneType"
 |.bl _=>some "bool"
 |.int _=>some "int"
 |.str _=>some "str"
 |.tup _=>some "tuple"
 |.lst _=>some "list"
 |.dct _ _=>some "dict"
 |_=>none
def isT (t n:String):Bool:=t == n||(t == "bool" && n == "int")
def wIsi (n:String):w1:=λx R=>match tyP x with|some t=>R (.bl (isT t n))|none=>False
theorem Ps (ht:t∈["NoneType","bool","int","str","tuple","list","dict"])(hn:n∈["bool","int","str","tuple","list"]):CH K (.type t) (.type n)=some (isT t n):=by
 refine kit_of ?_;have:∀t∈["NoneType","bool","int","str","tuple","list","dict"],∀n∈["bool","int","str","tuple","list"],(if(N0 t == N0 n)=true then some true else if PySem.W.kitMeta n=true then(fastBuiltinMro t).map (·.contains (.type n)) else none)=some (isT t n):=by decide +kernel
 exact this t ht n hn
theorem O1 (hn:n∈["bool","int","str","tuple","list"])(hg:∀z,Gl (F z) "isinstance")(hm:∀z,(F z).mg "isinstance"=none)(ha:QE T K F a pa)(hb:∀z,EW (F z) b (tC (.ty n)))(hs:D8 a=true:=by rfl)(hs2:D8 b=true:=by rfl)(hK:∀z,(F z).K=K:=by intro _;rfl):QE T K F (.Call (.Name "isinstance" p) [a,b] [] pos) (qUn (wIsi n) pa):=by
 obtain⟨t,h1,h2⟩:=ha;refine⟨_,λz=>Aj (hK z▸OT) (hg z) (hm z) O_ (D4 (h1 z) (D4 (hb z).h G0 (B9 hs2)) (B9 hs)) (by decide) (by decide) (B9 hs) (by rw[B9 hs2];rfl),λC G σ H env n' R Q hK hT S hp k=>?_⟩;refine h2 C G σ H env n' _ _ hK hT S hp λx je n1 v H1 p1 S1 r1 f1=>?_;unfold wIsi at p1
 have fin:∀t,TyOf K H1 v (.type t)->tyP x=some t->t∈["NoneType","bool","int","str","tuple","list","dict"]->∃x' n'' t' b',[v,V.ty n]=[x',.ty n'']/\TyOf K H1 x' t'/\CH K t' (.type n'')=some b'/\Q (.bl b') H1:=by
  intro t ty e m;rw[e] at p1;exact⟨v,n,_,_,rfl,ty,Ps m hn,k _ _ _ _ _ p1 S1 rfl f1⟩
 cases x with
 |non=>cases(show v=.non from r1);exact fin _ .non rfl (by decide)
 |bl b=>cases(show v=.bl b from r1);exact fin _ (.bl b) rfl (by decide)
 |int b=>cases(show v=.int b from r1);exact fin _ (.int b) rfl (by decide)
 |str b=>cases(show v=.str b from r1);exact fin _ (.str b) rfl (by decide)
 |tup xs=>obtain⟨a,vs,rfl,t,r⟩:=r1;exact fin _ (.tup t.2) rfl (by decide)
 |lst xs=>obtain⟨a,vs,rfl,t,r⟩:=r1;exact fin _ (.lst t.2) rfl (by decide)
 |dct ks xs=>obtain⟨a,ji,rfl,_,t,r⟩:=r1;exact fin _ (.dK t) rfl (by decide)
 |ty n=>exact p1.elim
 |pot k=>exact p1.elim
 |fdt ks xs=>exact p1.elim
 |scr ns=>exact p1.elim
def wMin:w2:=λx y R=>match x,y with|.int i,.int j=>R (.int (if j<i then j else i))|_,_=>False
theorem ok_cb2 (hw:W2 K (λx y H Q=>r [x,y] H Q) w)(h:EOk K T t pa)(h':EOk K T u pb):EOk K T (tCB r (U6 t (U6 u tNil))) (qOp w pa pb):=λC G σ H env n R Q hK hT S hp k=>by
 refine h C G σ H env n _ _ hK hT S hp λx je n1 v H1 p1 S1 r1 f1=>?_;refine h' C G σ H1 je n1 _ _ hK hT S1 p1 λy jf n2 u H2 p2 S2 r2 f2=>?_;exact hw G H2 x y v u _ _ (λp hp=>S2.fresh hp) (.inl (r1.fr f2)) (.inl r2) p2 λz v' H' rz s rv=>k _ _ _ _ _ rz (S2.same s) rv ((f1.trans f2).trans (Fr.of s))
theorem GP (hc:∀z,(F z).calm=true)(hg:∀z,Gl (F z) "min")(hm:∀z,(F z).mg "min"=none)(ha:QE T K F a pa)(hb:QE T K F b pb)(hs:D8 a=true:=by rfl)(hs2:D8 b=true:=by rfl):QE T K F (.Call (.Name "min" p) [a,b] [] pos) (qOp wMin pa pb):=by
 obtain⟨t,h1,h2⟩:=ha;obtain⟨u,h3,h4⟩:=hb;refine⟨_,λz=>Aj (Oj (hc z)) (hg z) (hm z) bt_min (D4 (h1 z) (D4 (h3 z) G0 (B9 hs2)) (B9 hs)) (by decide) (by decide) (B9 hs) (by rw[B9 hs2];rfl),ok_cb2 (λG H x y v u R Q hf rx ry hw k=>?_) h2 h4⟩;unfold wMin at hw
 split at hw
 ·exact⟨_,_,by rw[rx.int,ry.int],k _ _ _ hw (Same.refl _) rfl⟩
 ·exact hw.elim
def E7 (K:A7)(T:PotK)(f:pF):Sp:=λvs H Q _=>∃(G:Gh) (xs:List PV) (n:Nat) (R:PV->Nat->Prop),(∀p∈G.pots,p∈G.M/\T.at_ G.M H p n)/\(∀a∈G.M,∃o,H a=some o/\MutO o)/\T.has G.pots/\Reps K G H xs vs/\f xs n R/\
 ∀r n' v H',R r n'->Rep K G H' r v->(∀p∈G.pots,T.at_ G.M H' p n')->(∀b o,b∉G.pots->H b=some o->H' b=some o)->Q v H'
def B6 (f:pF)(pa:pA):pE:=λenv n R=>pa env n λxs je n1=>f xs n1 λr n2=>R r je n2
theorem SR.call (S:SR C G σ H env n)(hk:∀b o,b∉G.pots->H b=some o->H' b=some o)(hp:∀p∈G.pots,C.T.at_ G.M H' p n'):SR C G σ H' env n' where
 frame b o hb e:=by
  by_cases hp:b∈G.pots
  ·-- a pot that is new since the entry has no old object
   obtain⟨l,el,_⟩:=S.pre;rw[el] at hp;rcases E5.mp hp with z|z
   ·exact absurd z hb
   ·have hM:=(S.pots b (by rw[el];exact hp)).1;rcases S.sub b hM with z2|z2
    ·exact(S.newp b (by rw[el];exact hp) hb z2).elim
    ·rw[z2] at e;cases e
  ·exact hk b o hp (S.frame b o hb e)
 sub:=S.sub
 sup:=S.sup
 pots p h:=⟨(S.pots p h).1,hp p h⟩
 pre:=S.pre
 mu a ha:=by
  by_cases h:a∈G.pots
  ·exact C.T.mu (hp a h)
  ·obtain⟨o,e,m⟩:=S.mu a ha;exact⟨o,hk a o h e,m⟩
 slots i x e:=by
  have f:Fr G H H':=λb o hb he=>hk b o (λz=>hb (S.pots b z).1) he;have:=S.slots i x e;cases x with
  | v x =>
   obtain⟨v,e1,r⟩:=this;exact⟨v,e1,r.fr f⟩
  | ow kk xs =>
   obtain⟨a,vs,e1,h1,h2,h3,h4,r⟩:=this;exact⟨a,vs,e1,h1,h2,h3,hk _ _ h3 h4,r.fr f⟩
 inj:=S.inj
 p0:=S.p0
 len:=S.len
 newp:=S.newp
theorem qe_fn (hG:∀z,Kn (F z).prog (F z).w (F z).K (F z).mg (F z).base x k ps (E7 K T f))(hr:∀z,Room j (F z).A)(hk:k<=j)(hg:∀z,Gl (F z) x)(ha:QA T K F (e::es) pl)(hdb:(x == ("__debug__":Str))=false:=by decide)
   (hs:D8 e=true:=by rfl) (hpl:∀z,(backTo pos (E2 es (F z).env)).any (·.1)=false:=by intro _;rfl):QE T K F (.Call (.Name x p) (e::es) [] pos) (B6 f pl):=by
 obtain⟨t,h1,h2⟩:=ha;refine⟨_,λz=>GC (hG z) (hr z) hk (hg z) (h1 z) hdb (B9 hs) (hpl z),λC G σ H env n R Q hK hT S hp k=>?_⟩;refine h2 C G σ H env n _ _ hK hT S hp λxs je n1 vs H1 p1 S1 r1 f1=>?_;subst hT;rw[Q8];refine⟨G,xs,n1,_,λp hp=>S1.pots p hp,S1.mu,S1.hasG,r1,p1,λr n' v H' rr rv hp hk'=>?_⟩;exact k _ _ _ _ _ rr (S1.call hk' hp) rv (f1.trans λb o hb e=>hk' b o (λz=>hb (S1.pots b z).1) e)
end
end Pu
end
section
namespace Pu
open PySem PySem.Spec L2
abbrev pG:=PV->Env->(Env->Prop)->Prop
abbrev pGs:=List PV->Env->(Env->Prop)->Prop
def GOk (K:A7)(g:TG)(pg:pG):Prop:=∀(C:Ct) (G:Gh) (σ:St) (H:Hp) (env:Env) (n:Nat) (x:PV) (v:V) (R:Env->Prop) (Q:St->Hp->Prop),C.K=K->SR C G σ H env n->Rep K G H x v->pg x env R->
 (∀jk σ',R jk->SR C G σ' H jk n->Q σ' H)->g v σ H Q
def GsOk (K:A7)(g:TGs)(pg:pGs):Prop:=∀(C:Ct) (G:Gh) (σ:St) (H:Hp) (env:Env) (n:Nat) (x:List PV) (v:List V) (R:Env->Prop) (Q:St->Hp->Prop),C.K=K->SR C G σ H env n->Reps K G H x v->pg x env R->
 (∀jk σ',R jk->SR C G σ' H jk n->Q σ' H)->g v σ H Q
def QG {ι:Type}(K:A7)(F:ι->Cx)(e:Expr)(pg:pG):Prop:=∃g,(∀z,PG (F z) e g)/\GOk K g pg
def QGs {ι:Type}(K:A7)(F:ι->Cx)(e:List Expr)(pg:pGs):Prop:=∃g,(∀z,PGs (F z) e g)/\GsOk K g pg
def gN (i:Nat):pG:=λx env R=>R (env.set i (some (.v x)))
def gNl:pGs:=λxs env R=>match xs with|[]=>R env|_=>False
def gCn (g:pG)(r:pGs):pGs:=λxs env R=>match xs with|x::xs=>g x env λje=>r xs je R|[]=>False
def gTp (k:Nat)(g:pGs):pG:=λx env R=>match x with|.tup xs=>xs.length=k/\g xs env R|_=>False
theorem SR.set (S:SR C G σ H env n)(i:Nat)(r:Rep C.K G H x v):SR C G (σ.set i (some v)) H (env.set i (some (.v x))) n where
 frame:=S.frame
 sub:=S.sub
 sup:=S.sup
 pots:=S.pots
 pre:=S.pre
 mu:=S.mu
 slots j s e:=by
  by_cases h:i=j
  ·subst h
   by_cases hl:i<env.length
   ·rw[L7 hl] at e;cases e;exact⟨v,by rw[L7 (by rw[<- S.len];exact hl)],r⟩
   ·rw[Q0 (by rw[K1];omega)] at e;cases e
  ·rw[M9 h] at e ⊢;exact S.slots j s e
 inj j k xs ys a e1 e2 e3 e4:=by
  have nj:∀(j:Nat) (xs:OK×List PV),(env.set i (some (.v x)))[j]?=some (some (Slot.ow xs.1 xs.2))->i≠j:=by
   intro j xs e h;subst h
   by_cases hl:i<env.length
   ·rw[L7 hl] at e;cases e
   ·rw[Q0 (by rw[K1];omega)] at e;cases e
  have n1:=nj j xs e1;have n2:=nj k ys e2;rw[M9 n1] at e1 e3;rw[M9 n2] at e2 e4;exact S.inj j k xs ys a e1 e2 e3 e4
 p0:=S.p0
 len:=by rw[K1,K1];exact S.len
 newp:=S.newp
section
variable {T:PotK}{ι:Type}{K:A7}{F:ι->Cx}{e a b c:Expr}{es rest:List Expr}{pe pa pb pc:pE}{pos:Pos}{pl pr:pA}{pg:pG}{pgs:pGs}{pt:pT}
theorem Pw (i:Nat)(hN:X.N.Nodup)(hi:X.N[i]?=some x)(hx:Loc X.env.scope x)(hf:X.fn x=true\/X.env.scope.names.lookup x=some .local:=by first|exact .inl rfl|exact .inr rfl|assumption):GW X (.Name x pos) (R5 i):=⟨Jd hN hi hx hf⟩
theorem Px (h:∀z,GW (F z) (.Name x pos) (R5 i)):QG K F (.Name x pos) (gN i):=⟨_,λz=>(h z).h,λC G σ H env n x v R Q hK S r hp k=>k _ _ hp (S.set i (hK▸r))⟩
theorem R6:QGs K F [] gNl:=⟨_,λ_=>Je,λC G σ H env n x v R Q hK S r hp k=>by
 cases x with
 |nil=>exact⟨r,k _ _ hp S⟩
 |cons _ _=>exact hp.elim⟩
theorem G4 (h1:QG K F e pg)(h2:QGs K F es pgs)(hs:∀z,(P9 (e::es) (F z).env).map (·.2)=assign e (F z).env::(P9 es (F z).env).map (·.2):=by intro _;rfl):QGs K F (e::es) (gCn pg pgs):=by
 obtain⟨g,a1,a2⟩:=h1;obtain⟨gs,b1,b2⟩:=h2;refine⟨_,λz=>Ge (a1 z) (b1 z) (hs z),λC G σ H env n x v R Q hK S r hp k=>?_⟩;cases x with
 |nil=>exact hp.elim
 | cons x xs =>
  obtain⟨u,us,rfl,ru,rs⟩:=r;exact⟨u,us,rfl,a2 C G σ H env n x u _ _ hK S ru hp λjk σ' re S'=>b2 C G σ' H jk n xs us _ _ hK S' rs re k⟩
theorem R7 (hc:∀z,(F z).calm=true)(h:QGs K F es pgs)(hn:∀z,(P9 es (F z).env).length=m:=by intro _;rfl)(hst:∀z,(P9 es (F z).env).findIdx? (·.1)=none:=by intro _;rfl)(hK:∀z,(F z).K=K:=by intro _;rfl):QG K F (.Tuple es k pos) (gTp m pgs):=by
 obtain⟨g,a1,a2⟩:=h;refine⟨_,λz=>hK z▸Jf (hc z) (a1 z) (hn z) (hst z),λC G σ H env n x v R Q hK S r hp k=>?_⟩;cases x with
 | tup xs =>
  obtain⟨a,vs,rfl,t,rs⟩:=r;exact⟨a,vs,rfl,t.sq,by rw[<- rs.length];exact hp.1,a2 C G σ H env n xs vs _ _ hK S rs hp.2 k⟩
 |_=>exact hp.elim
def ItR (K:A7)(G:Gh)(H:Hp)(J:It)(xs:List PV):Prop:=∀(G2:Gh) (H2:Hp),(∀b o,b∉G.M->H b=some o->H2 b=some o)->(∀a∈G2.M,a∈G.M\/H a=none)->(∀(k:Nat) (p:A0),G.pots[k]?=some p->G2.pots[k]?=some p)->(∀p,H2 p=none->p∉G2.M)->
 (∀(i:Nat) x,xs[i]?=some x->J.go i H2/\∀v H3,J.yld i H2 v H3->Same H2 H3/\Rep K G2 H3 x v)/\∀i,xs.length<=i->J.stop i H2
def IOk (K:A7)(T:PotK)(wi:TI)(pi:pA):Prop:=∀(C:Ct) (G:Gh) (σ:St) (H:Hp) (env:Env) (n:Nat) (R:List PV->Env->Nat->Prop) (Q:It->Hp->Prop),C.K=K->C.T=T->SR C G σ H env n->pi env n R->
 (∀xs jk n' J H',R xs jk n'->SR C G σ H' jk n'->Fr G H H'->ItR K G H' J xs->Q J H')->wi σ H Q
def QI {ι:Type}(T:PotK)(K:A7)(F:ι->Cx)(tg iter:Expr)(pi:pA):Prop:=∃wi,(∀z,PI (F z) tg iter wi)/\IOk K T wi pi
variable {tg:Expr}
theorem Py {a:A0}(t:AtL G.M H a vs)(r:Reps K G H xs vs):ItR K G H (Itl K a) xs:=by
 intro G2 H2 hk hM hp hf;have hq:SqL K H2 a vs:=SqL.of (hk a _ t.1 t.2);have r2:Reps K G2 H2 xs vs:=Reps.mono hk hM hp _ _ r;refine⟨λi x e=>?_,λi hi=>⟨vs,hq,by rw[<- r.length];exact hi⟩⟩;obtain⟨v,ev,rv⟩:=r2.get' e;refine⟨⟨vs,v,hq,ev⟩,λv' H3 y=>?_⟩;obtain⟨e3,y⟩:=y;subst e3;have:=y vs hq;rw[ev] at this;cases this;exact⟨Same.refl _,rv⟩
theorem Pz {a:A0}(t:AtT G.M H a vs)(r:Reps K G H xs vs):ItR K G H (Itt K a) xs:=by
 intro G2 H2 hk hM hp hf;have hq:SqT K H2 a vs:=SqT.of (hk a _ t.1 t.2);have r2:Reps K G2 H2 xs vs:=Reps.mono hk hM hp _ _ r;refine⟨λi x e=>?_,λi hi=>⟨vs,hq,by rw[<- r.length];exact hi⟩⟩;obtain⟨v,ev,rv⟩:=r2.get' e;refine⟨⟨vs,v,hq,ev⟩,λv' H3 y=>?_⟩;obtain⟨e3,y⟩:=y;subst e3;have:=y vs hq;rw[ev] at this;cases this;exact⟨Same.refl _,rv⟩
def qIl (pe:pE):pA:=λenv n R=>pe env n λx je n1=>match x with|.lst xs=>R xs je n1|_=>False
def qIt (pe:pE):pA:=λenv n R=>pe env n λx je n1=>match x with|.tup xs=>R xs je n1|_=>False
theorem X6 (h:QE T K F e pe)(hK:∀z,(F z).K=K:=by intro _;rfl):QI T K F tg e (qIl pe):=by
 obtain⟨t,h1,h2⟩:=h;refine⟨_,λz=>hK z▸Jg (h1 z),λC G σ H env n R Q hK hT S hp k=>?_⟩;refine h2 C G σ H env n _ _ hK hT S hp λx je n1 v H1 p1 S1 r1 f1=>?_;cases x with
 | lst xs =>
  obtain⟨a,vs,rfl,t,r⟩:=r1;exact⟨a,rfl,⟨vs,t.sq⟩,k _ _ _ _ _ p1 S1 f1 (Py t r)⟩
 |_=>exact p1.elim
theorem U7 (h:QE T K F e pe)(hK:∀z,(F z).K=K:=by intro _;rfl):QI T K F tg e (qIt pe):=by
 obtain⟨t,h1,h2⟩:=h;refine⟨_,λz=>hK z▸pi_tup (h1 z),λC G σ H env n R Q hK hT S hp k=>?_⟩;refine h2 C G σ H env n _ _ hK hT S hp λx je n1 v H1 p1 S1 r1 f1=>?_;cases x with
 | tup xs =>
  obtain⟨a,vs,rfl,t,r⟩:=r1;exact⟨a,rfl,⟨vs,t.sq⟩,k _ _ _ _ _ p1 S1 f1 (Pz t r)⟩
 |_=>exact p1.elim
theorem Kd (lo:Int)(m:Nat):ItR K G H (Itr lo m) ((D1 m).map λ(k:Nat)=>PV.int (lo+k)):=by
 intro G2 H2 hk hM hp hf;refine⟨λi x e=>?_,λi hi=>(show m<=i by simpa using hi)⟩;rw[K6] at e;cases e1:(D1 m)[i]? with
 |none=>rw[e1] at e;cases e
 | some j =>
  rw[e1] at e;cases e;obtain⟨hi,e2⟩:=E6.mp e1;rw[List.getElem_range] at e2;subst e2;refine⟨(show i<m by simpa using hi),λv H3 y=>?_⟩;obtain⟨e3,y⟩:=y;subst e3 y;exact⟨Same.refl _,rfl⟩
def l8 (pe:pE):pA:=λenv n R=>pe env n λx je n1=>match x with|.int j=>(-1000000<=j/\j<=1000000)/\R ((D1 j.toNat).map λ(k:Nat)=>PV.int (0+k)) je n1|_=>False
theorem As (hg:∀z,Gl (F z) "range")(hm:∀z,(F z).mg "range"=none)(h:QE T K F e pe)(hs:D8 e=true:=by rfl):QI T K F tg (.Call (.Name "range" p) [e] [] pos) (l8 pe):=by
 obtain⟨t,h1,h2⟩:=h;refine⟨_,λz=>NY (hg z) (hm z) (D4 (h1 z) G0 (B9 hs)) (by rw[B9 hs];rfl),λC G σ H env n R Q hK hT S hp k=>?_⟩;refine EG (pe:=pe) (λC G σ H env n R Q hK hT S hp k=>h2 C G σ H env n R Q hK hT S hp λx jk n' v H' r S' rp f=>k x jk n' v H' r S' (.inl (hK▸rp)) f) hK hT S hp λx je n1 v H1 p1 S1 r1 f1=>?_;cases x with
 |int j=>exact⟨j,by rw[(r1.rd S1).int],by omega,by omega,k _ _ _ _ _ p1.2 S1 f1 (Kd 0 _)⟩
 |_=>exact p1.elim
def BY (pa pb:pE):pA:=λenv n R=>pa env n λx je n1=>pb je n1 λy jf n2=>match x,y with|.int i,.int j=>(-1000000<=i/\i<=1000000/\-1000000<=j/\j<=1000000)/\R ((D1 (j-i).toNat).map λ(k:Nat)=>PV.int (i+k)) jf n2|_,_=>False
theorem EJ {p:Pos}(hg:∀z,Gl (F z) "range")(hm:∀z,(F z).mg "range"=none)(ha:QE T K F a pa)(hb:QE T K F b pb)(hs:D8 a=true:=by rfl)(hs2:D8 b=true:=by rfl):QI T K F tg (.Call (.Name "range" p) [a,b] [] pos) (BY pa pb):=by
 obtain⟨t,h1,h2⟩:=ha;obtain⟨u,h3,h4⟩:=hb;refine⟨_,λz=>NZ (hg z) (hm z) (D4 (h1 z) (D4 (h3 z) G0 (B9 hs2)) (B9 hs)) (by rw[B9 hs,B9 hs2];rfl) (by rw[B9 hs2];rfl),λC G σ H env n R Q hK hT S hp k=>?_⟩;refine h2 C G σ H env n _ _ hK hT S hp λx je n1 v H1 p1 S1 r1 f1=>?_;refine h4 C G σ H1 je n1 _ _ hK hT S1 p1 λy jf n2 w H2 p2 S2 r2 f2=>?_;cases x with
 | int i =>
  cases y with
  |int j=>exact⟨i,j,by rw[show v=.int i from r1,show w=.int j from r2],⟨by omega,by omega,by omega,by omega⟩,k _ _ _ _ _ p2.2 S2 (f1.trans f2) (Kd i _)⟩
  |_=>exact p2.elim
 |_=>exact p2.elim
def qIs (pe:pE):pA:=λenv n R=>pe env n λx je n1=>match x with|.str z=>z.cps.all (· < 128)=true/\R (z.cps.toList.map λc=>.str ⟨#[c]⟩) je n1|_=>False
theorem qi_str (h:QE T K F e pe):QI T K F tg e (qIs pe):=by
 obtain⟨t,h1,h2⟩:=h;refine⟨_,λz=>pi_str (h1 z),λC G σ H env n R Q hK hT S hp k=>?_⟩;refine h2 C G σ H env n _ _ hK hT S hp λx je n1 v H1 p1 S1 r1 f1=>?_;cases x with
 | str z =>
  refine⟨z,r1,p1.1,k _ _ _ _ _ p1.2 S1 f1 ?_⟩;intro G2 H2 hk hM hp hf;refine⟨λi x e=>?_,λi hi=>(show z.cps.toList.length<=i by simpa using hi)⟩;rw[K6] at e;cases e1:z.cps.toList[i]? with
  |none=>rw[e1] at e;cases e
  | some c =>
   rw[e1] at e;cases e;obtain⟨hi,_⟩:=E6.mp e1;refine⟨hi,λv H3 y=>?_⟩;obtain⟨e3,c',ec,ev⟩:=y;subst e3 ev;rw[e1] at ec;cases ec;exact⟨Same.refl _,rfl⟩
 |_=>exact p1.elim
def At (xs:List PV):List PV:=xs.zipIdx.map λy=>.tup [.int (y.2:Nat),y.1]
def EK (pe:pE):pA:=λenv n R=>pe env n λx je n1=>match x with|.lst xs=>R (At xs) je n1|_=>False
theorem EL {xs:List PV}{i:Nat}{x:PV}(h:(At xs)[i]?=some x):∃y,xs[i]?=some y/\x=.tup [.int (i:Nat),y]:=by
 unfold At at h;rw[K6,List.getElem?_zipIdx] at h;cases e:xs[i]? with
 |none=>rw[e] at h;cases h
 | some y =>
  rw[e] at h;cases h;exact⟨y,rfl,by simp⟩
theorem Dq (xs:List PV):(At xs).length=xs.length:=by unfold At;simp
theorem Ke {p:Pos}{elts:List Expr}{x1:Nat}{tpos:Pos}(hg:∀z,Gl (F z) "enumerate")(hm:∀z,(F z).mg "enumerate"=none)(h:QE T K F e pe)(hs:D8 e=true:=by rfl)(hK:∀z,(F z).K=K:=by intro _;rfl):QI T K F (.Tuple elts x1 tpos) (.Call (.Name "enumerate" p) [e] [] pos) (EK pe):=by
 obtain⟨t,h1,h2⟩:=h;refine⟨_,λz=>hK z▸OZ (hg z) (hm z) (D4 (h1 z) G0 (B9 hs)) (by rw[B9 hs];rfl),λC G σ H env n R Q hK hT S hp k=>?_⟩;refine h2 C G σ H env n _ _ hK hT S hp λx je n1 v H1 p1 S1 r1 f1=>?_;cases x with
 | lst xs =>
  obtain⟨a,vs,rfl,t,r⟩:=r1;refine⟨a,rfl,⟨vs,t.sq⟩,k _ _ _ _ _ p1 S1 f1 ?_⟩;intro G2 H2 hk hM hp hf;have hq:SqL K H2 a vs:=SqL.of (hk a _ t.1 t.2);have r2:Reps K G2 H2 xs vs:=Reps.mono hk hM hp _ _ r;refine⟨λi x e=>?_,λi hi=>⟨vs,hq,by rw[<- r.length,<- Dq];exact hi⟩⟩;obtain⟨y,ey,rfl⟩:=EL e;obtain⟨v,ev,rv⟩:=r2.get' ey;refine⟨⟨vs,v,hq,ev⟩,λv' H3 y=>?_⟩;obtain⟨p,w,hn,rfl,rfl,y⟩:=y;have:=y vs hq;rw[ev] at this;cases this;exact⟨Same.lay1 hn,u7 (hf p hn) hn (.cons rfl (.one rv))⟩
 |_=>exact p1.elim
def capS:Option (Option Slot)->Option Slot
 |some (some (.v x))=>some (.v x)
 |_=>none
def capV (cs:List (Option Nat))(env:Env):Env:=cs.map λo=>o.bind λj=>capS (env[j]?)
def Q3 (g:pG)(tt:pT)(te:pE):List PV->Env->Nat->(List PV->Nat->Prop)->Prop
 |[],_,n,R=>R [] n
 |x::xs,env,n,R=>g x env λje=>tt je n λb jf n2=>if b=true then te jf n2 λy jg n3=>Q3 g tt te xs jg n3 λys n4=>R (y::ys) n4 else Q3 g tt te xs jf n2 R
def qTru:pT:=λenv n R=>R true env n
def O2 (cs:List (Option Nat))(pi:pA)(g:pG)(tt:pT)(te:pE):pA:=λenv n R=>pi env n λxs je n1=>xs.length<=1000000/\Q3 g tt te xs (capV cs je) n1 λys n2=>R ys je n2
structure Inn (K:A7)(T:PotK)(G:Gh)(σ:St)(H:Hp)(env:Env)(n:Nat):Prop where
 pots:∀p∈G.pots,p∈G.M/\T.at_ G.M H p n
 has:T.has G.pots
 mu:∀a∈G.M,∃o,H a=some o/\MutO o
 slots:∀(i:Nat) (s:Slot),env[i]?=some (some s)->∃x v,s=.v x/\σ[i]?=some (some v)/\Rep K G H x v
 len:env.length=σ.length
theorem Inn.sr (I:Inn K T G σ H env n):SR ⟨K,T,G.M,G.pots,H,false⟩ G σ H env n where
 frame b o _ e:=e
 sub a ha:=.inl ha
 sup a ha:=ha
 pots:=I.pots
 pre:=⟨[],by simp,.inl rfl⟩
 mu:=I.mu
 slots i s e:=by
  obtain⟨x,v,rfl,ev,r⟩:=I.slots i s e;exact⟨v,ev,r⟩
 inj i j xs ys a e1:=by
  obtain⟨x,v,z,_⟩:=I.slots i _ e1;cases z
 p0:=⟨λp hp=>(I.pots p hp).1,I.has⟩
 len:=I.len
 newp p hp hn:=absurd hp hn
theorem SR.inn (S:SR ⟨K,T,G.M,G.pots,H0,false⟩ G σ H env n):Inn K T G σ H env n where
 pots:=S.pots
 has:=S.hasG
 mu:=S.mu
 slots i s e:=by
  cases s with
  | v x =>
   obtain⟨v,ev,r⟩:=S.slots i _ e;exact⟨x,v,rfl,ev,r⟩
  | ow kk xs =>
   obtain⟨a,vs,ev,h1,h2,_⟩:=S.slots i _ e;exact absurd h1 h2
 len:=S.len
theorem PB:TOk K T tTru qTru:=λC G σ H env n R Q hK hT S hp k=>k _ _ _ _ hp S Fr.refl
structure CI (K:A7)(T:PotK)(G:Gh)(H1:Hp)(D:A0)(σ:St)(H:Hp)(env:Env)(n:Nat)(jo:List PV)(us:List V):Prop where
 inn:Inn K T ⟨D::G.M,G.pots⟩ σ H env n
 kp:∀b o,b∉G.pots->H1 b=some o->H b=some o
 eD:H D=some (.lst us)
 ra:Reps K ⟨D::G.M,G.pots⟩ H jo us
theorem CI.start {K:A7}{T:PotK}{G:Gh}{H1:Hp}{D:A0}{σ:St}{env:Env}{n:Nat}(hD:H1 D=none)(I0:Inn K T G σ H1 env n):CI K T G H1 D σ (upd H1 D (.lst [])) env n [] []:=by
 have lay:∀b o,H1 b=some o->upd H1 D (.lst []) b=some o:=λb o e=>Same.lay1 hD b o e;have new:∀a,a∈D::G.M->a∈G.M\/H1 a=none:=λa ha=>(C8.mp ha).elim (λz=>.inr (z▸hD)) .inl;refine⟨⟨λp hp=>⟨C9 _ (I0.pots p hp).1,?_⟩,I0.has,λa ha=>?_,λi s e=>?_,I0.len⟩,λb o _ e=>lay b o e,F9,rfl⟩
 ·have h1:=T.more (M':=D::G.M) (I0.pots p hp).2 new;obtain⟨o,e,_⟩:=T.mu h1;exact T.keep h1 (by rw[e,lay p o e]) λb o _ e=>lay b o e
 ·rcases C8.mp ha with rfl|ha
  ·exact⟨_,F9,trivial⟩
  ·obtain⟨o,e,m⟩:=I0.mu a ha;exact⟨o,lay a o e,m⟩
 ·obtain⟨x,v,rfl,ev,r⟩:=I0.slots i s e;exact⟨x,v,rfl,ev,Rep.mono (G':=⟨D::G.M,G.pots⟩) (λb o _ e=>lay b o e) new (λ_ _ e=>e) _ _ r⟩
theorem CI.go {K:A7}{T:PotK}{G:Gh}{H1:Hp}{D:A0}{σ σ':St}{H H':Hp}{env jk:Env}{n n':Nat}{jo:List PV}{us:List V}(c:CI K T G H1 D σ H env n jo us)(nD:D∉G.pots)(S:SR ⟨K,T,D::G.M,G.pots,H,false⟩ ⟨D::G.M,G.pots⟩ σ' H' jk n'):CI K T G H1 D σ' H' jk n' jo us:=
 ⟨S.inn,λb o hb e=>S.frame b o hb (c.kp b o hb e),S.frame D _ nD c.eD,Reps.mono (λb o hb e=>S.frame b o (λz=>hb (c.inn.pots b z).1) e) (λa ha=>.inl ha) (λ_ _ e=>e) _ _ c.ra⟩
theorem CI.fD {G:Gh}(o:HO):Fr ⟨D::G.M,G.pots⟩ H (upd H D o):=λb u hb e=>by
 rw[C0 (λz=>hb (by rw[z];exact C6))];exact e
theorem CI.add {K:A7}{T:PotK}{G:Gh}{H1:Hp}{D:A0}{σ:St}{H:Hp}{env:Env}{n:Nat}{jo:List PV}{us:List V}{y:PV}{u:V}(c:CI K T G H1 D σ H env n jo us)(nD:D∉G.pots)(hD:H1 D=none)(r:Rep K ⟨D::G.M,G.pots⟩ H y u):CI K T G H1 D σ (upd H D (.lst (us++[u]))) env n (jo++[y]) (us++[u]):=by
 refine⟨⟨λp hp=>⟨(c.inn.pots p hp).1,T.keep (c.inn.pots p hp).2 (C0 λz=>nD (by rw[<- z];exact hp)) (CI.fD _)⟩,c.inn.has,λa ha=>?_,λq s e=>?_,c.inn.len⟩,λb o hb e=>?_,F9,(c.ra.append (.one r)).fr (CI.fD _)⟩
 ·by_cases haD:a=D
  ·subst haD;exact⟨_,F9,trivial⟩
  ·rw[C0 haD];exact c.inn.mu a ha
 ·obtain⟨x,v,rfl,ev,r⟩:=c.inn.slots q s e;exact⟨x,v,rfl,ev,r.fr (CI.fD _)⟩
 ·rw[C0 (λz=>by rw[z,hD] at e;cases e)];exact c.kp b o hb e
theorem CI.it {K:A7}{T:PotK}{G:Gh}{H1:Hp}{D:A0}{σ:St}{H:Hp}{env:Env}{n:Nat}{jo:List PV}{us:List V}{J:It}{xs:List PV}(c:CI K T G H1 D σ H env n jo us)(hD:H1 D=none)(hJ:ItR K G H1 J xs):(∀(i:Nat) x,xs[i]?=some x->J.go i H/\∀v H3,J.yld i H v H3->Same H H3/\Rep K ⟨D::G.M,G.pots⟩ H3 x v)/\∀i,xs.length<=i->J.stop i H:=
 hJ ⟨D::G.M,G.pots⟩ H (fun b o hb e=>by
  by_cases z:b∈G.pots
  ·obtain⟨h1,_⟩:=c.inn.pots b z;rcases C8.mp h1 with rfl|h1
   ·rw[hD] at e;cases e
   ·exact absurd h1 hb
  ·exact c.kp b o z e) (λa ha=>(C8.mp (show a∈D::G.M from ha)).elim (λz=>.inr (z▸hD)) .inl) (λ_ _ e=>e) λp hp=>c.inn.sr.fresh hp
theorem GQ {K:A7}{T:PotK}{J:It}{g:TG}{tt:TT}{te:TE}{pg:pG}{ptt:pT}{pte:pE}(hg:GOk K g pg)(ht:TOk K T tt ptt)(he:EOk K T te pte){G:Gh}{H1:Hp}{xs:List PV}(hJ:ItR K G H1 J xs)(hl:xs.length<=1000000)
   {σc:St} {env:Env} {n:Nat} {R:List PV->Nat->Prop} {Q:VK} {D:A0} (hD:H1 D=none) (I0:Inn K T G σc H1 env n) (hp:Q3 pg ptt pte xs env n R)
   (hQ:∀ys n' us H',R ys n'->(∀p∈G.pots,T.at_ (D::G.M) H' p n')->(∀b o,b∉G.pots->H1 b=some o->H' b=some o)->H' D=some (.lst us)->Reps K ⟨D::G.M,G.pots⟩ H' ys us->Q (.ref D) H') :
   CompW J g tt te Q D σc (upd H1 D (.lst [])):=by
 have nD:D∉G.pots:=λz=>I0.sr.fresh hD (I0.pots D z).1;refine⟨λi m σ H=>m=xs.length-i/\i<=xs.length/\∃env n jo us,CI K T G H1 D σ H env n jo us/\jo.length<=i/\Q3 pg ptt pte (xs.drop i) env n λys n'=>R (jo++ys) n',⟨xs.length,rfl,M5 _,env,n,[],[],.start hD I0,B7 _,hp⟩,?_⟩;rintro i m σ H ⟨rfl,hi,env,n,jo,us,c,la,hc⟩;obtain⟨hgo,hstop⟩:=c.it hD hJ
 by_cases hlt:i<xs.length
 ·obtain⟨g1,g2⟩:=hgo i _ (D7 hlt);refine .inr ⟨g1,λv H2 y=>?_⟩;obtain⟨s2,rv⟩:=g2 v H2 y;rw[AJ hlt] at hc;refine hg _ _ σ H2 env n xs[i] v _ _ rfl (c.inn.sr.same s2) rv hc λje σ1 hc1 S2=>?_;refine ht _ _ σ1 H2 je n _ _ rfl rfl S2 hc1 λb jf n2 H4 hc2 S4 f4=>?_;cases b with
  |false=>exact⟨xs.length-(i+1),CW _ _ hlt,rfl,hlt,jf,n2,jo,us,c.go nD S4,Nat.le_succ_of_le la,hc2⟩
  | true =>
   refine he _ _ σ1 H4 jf n2 _ _ rfl rfl S4 hc2 λy jg n3 u H5 hc3 S5 r5 f5=>?_;have c5:=c.go nD S5;refine⟨us,c5.eD,by rw[<- c.ra.length];exact mil' (by omega),xs.length-(i+1),CW _ _ hlt,rfl,hlt,jg,n3,jo++[y],us++[u],c5.add nD hD r5,by rw[D6,t9];omega,?_⟩;simp only[O9];exact hc3
 ·obtain rfl:i=xs.length:=Bz hi (CY hlt);refine .inl ⟨hstop _ (B7 _),?_⟩;rw[Bu] at hc;have hc':R (jo++[]) n:=hc;rw[Q8] at hc';exact hQ _ n us H hc' (λp hp=>(c.inn.pots p hp).2) c.kp c.eD c.ra
end
end Pu
end
section
namespace Pu
open PySem PySem.Spec L2
section
variable {T:PotK}{ι:Type}{K:A7}{F:ι->Cx}{e a b c:Expr}{es rest:List Expr}{pe pa pb pc:pE}{pos:Pos}{pl pr:pA}{pg:pG}{pgs:pGs}{pt:pT}
def QIf {ι:Type}(T:PotK)(K:A7)(F:ι->Cx)(jn:List Expr)(pt:pT):Prop:=∃t,(∀z,PIf (F z) jn t)/\TOk K T t pt
theorem X7:QIf T K F [] qTru:=⟨_,λ_=>OQ,PB⟩
theorem BZ (h:QT T K F c pt):QIf T K F [c] pt:=let ⟨t,h1,h2⟩:=h;⟨t,λz=>OR (h1 z),h2⟩
theorem Dr {C:Ct}{G:Gh}{σ:St}{H:Hp}{env:Env}{n:Nat}(S:SR C G σ H env n)(cs:List (Option Nat)):Inn C.K C.T G (k9 cs σ) H (capV cs env) n where
 pots:=S.pots
 has:=S.hasG
 mu:=S.mu
 len:=by simp[capV,k9]
 slots i s e:=by
  unfold capV at e;rw[K6] at e;cases ec:cs[i]? with
  |none=>rw[ec] at e;cases e
  | some o =>
   rw[ec] at e;cases o with
   |none=>cases e
   | some j =>
    have e':capS (env[j]?)=some s:=by simpa using e
    unfold capS at e'
    split at e'
    ·rename_i x ex;cases e';obtain⟨v,ev,r⟩:=S.slots j _ ex;refine⟨x,v,rfl,?_,r⟩;unfold k9;rw[K6,ec];simp[ev]
    ·cases e'
def cutH (H:Hp)(D:A0):Hp:=λb=>if b=D then none else H b
theorem N4 {H:Hp}{D b:A0}(h:b≠D):cutH H D b=H b:=jy h
theorem Ds {H:Hp}{D:A0}{o:HO}(h:H D=some o):upd (cutH H D) D o=H:=by
 funext b
 by_cases hb:b=D
 ·subst hb;rw[F9,h]
 ·rw[C0 hb,N4 hb]
theorem X8 {scope:F8}{cl:ι->List (Str×A0)}{N:List Str}{cs:List (Option Nat)}{jm tg iter:Expr}{jn:List Expr}{pi:pA}{ptt:pT}{pte:pE}(S:∀z,Z5 (F z) scope (cl z) N cs)(hc:∀z,(F z).calm=true)(hi:QI T K F tg iter pi)
   (hg:QG K (λy:ι×List A0×A0×A5×Hp=>E4 (F y.1) scope (cl y.1) N y.2.1 y.2.2.1 y.2.2.2.1 y.2.2.2.2) tg pg) (ht:QIf T K (λy:ι×List A0×A0×A5×Hp=>E4 (F y.1) scope (cl y.1) N y.2.1 y.2.2.1 y.2.2.2.1 y.2.2.2.2) jn ptt)
   (he:QE T K (λy:ι×List A0×A0×A5×Hp=>E4 (F y.1) scope (cl y.1) N y.2.1 y.2.2.1 y.2.2.2.1 y.2.2.2.2) jm pte)
   (hs:∀z x,N6 iter (F z).env x=pure x:=by intro _ _;rfl):QN T K F (.ListComp jm [⟨tg,iter,jn,0⟩] scope pos) (O2 cs pi pg ptt pte):=by
 obtain⟨wi,i1,i2⟩:=hi;obtain⟨g,hg0,hg⟩:=hg;obtain⟨tt,ht0,ht⟩:=ht;obtain⟨te,he0,he⟩:=he;refine⟨_,λz=>JI (S z) (hc z) (i1 z) (λfp C s H=>⟨hg0 (z,fp,C,s,H),ht0 (z,fp,C,s,H),he0 (z,fp,C,s,H)⟩) (hs z),λC G σ H env n R Q hK hT S hp k=>?_⟩;refine i2 C G σ H env n _ _ hK hT S hp λxs je n1 J H1 p1 S1 f1 hJ=>?_;intro D hD;have hDM:=S1.fresh hD;refine GQ (G:=G) hg ht he hJ p1.1 hD (hT▸hK▸Dr S1 cs) p1.2 λys n2 us H' rr hpots hk eD ry=>?_
 -- the heap without D
 have nD:∀b o,H1 b=some o->b≠D:=λb o e z=>by rw[z,hD] at e;cases e
 have hD0:C.H0 D=none:=by
  cases z:C.H0 D with
  |none=>rfl
  | some o =>
   by_cases hp:D∈C.pots0
   ·exact absurd (S1.sup D (S1.p0.1 D hp)) hDM
   ·have:=S1.frame D o hp z;rw[hD] at this;cases this
 have hk2:∀b o,b∉G.pots->H1 b=some o->cutH H' D b=some o:=λb o hb e=>by rw[N4 (nD b o e)];exact hk b o hb e
 have nc:∀b,b∉D::G.M->b≠D:=λb hb z=>hb (by rw[z];exact C6);have np:∀p∈G.pots,p≠D:=λp hp z=>hDM (z▸(S1.pots p hp).1)
 have Sb:SR C G σ (cutH H' D) je n2:=S1.call hk2 λp hp=>by
  subst hT;have h2:=C.T.keep (hpots p hp) (H':=cutH H' D) (N4 (np p hp)) λb o hb e=>by rw[N4 (nc b hb)];exact e
  exact C.T.more h2 λa ha=>.inl (C9 _ ha)
 have:=k ys je n2 D us (cutH H' D) rr Sb (f1.trans λb o hb e=>hk2 b o (λz=>hb (S1.pots b z).1) e) (by unfold cutH;rw[jw rfl]) ?_
 ·rw[Ds eD] at this;exact this
 ·exact Reps.mono (G:=⟨D::G.M,G.pots⟩) (λb o hb e=>by rw[N4 (nc b hb)];exact e) (λa ha=>.inl (C9 _ ha)) (λ_ _ e=>e) _ _ ry
end
end Pu
end
section
namespace Pu
open PySem PySem.Spec L2
structure Q4 where
 nx:Env->Nat->Prop
 rt:PV->Nat->Prop
 bk:Env->Nat->Prop:=λ_ _=>False
 ct:Env->Nat->Prop:=λ_ _=>False
abbrev pS:=Q4->Env->Nat->Prop
structure Ext (G:Gh)(H:Hp)(G':Gh)(H':Hp):Prop where
 keep:∀b o,b∉G.M->H b=some o->H' b=some o
 new:∀a∈G'.M,a∈G.M\/H a=none
 pot:∀(k:Nat) (p:A0),G.pots[k]?=some p->G'.pots[k]?=some p
theorem Ext.refl:Ext G H G H:=⟨λ_ _ _ e=>e,λ_ h=>.inl h,λ_ _ e=>e⟩
theorem Ext.fr (f:Fr G H H'):Ext G H G H':=⟨f,λ_ h=>.inl h,λ_ _ e=>e⟩
theorem Ext.trans (a:Ext G H G1 H1)(b:Ext G1 H1 G2 H2):Ext G H G2 H2 where
 keep c o hc e:=b.keep c o (λz=>(a.new c z).elim hc λz=>by rw[z] at e;cases e) (a.keep c o hc e)
 new c hc:=(b.new c hc).elim (fun z=>a.new c z) fun z=>by
  by_cases hM:c∈G.M
  ·exact .inl hM
  ·refine .inr ?_;cases e:H c with
   |none=>rfl
   |some o=>rw[a.keep c o hM e] at z;cases z
 pot k p e:=b.pot k p (a.pot k p e)
structure Link (C:Ct)(G:Gh)(H:Hp)(PD:Q4)(D:Ends):Prop where
 nx:∀env n G' σ H',PD.nx env n->SR C G' σ H' env n->Ext G H G' H'->D.nx σ H'
 rt:∀x n v G' σ H' env,PD.rt x n->SR C G' σ H' env n->Rep C.K ⟨C.M0,G'.pots⟩ H' x v->Ext G H G' H'->D.rt v H'
 bk:∀env n G' σ H',PD.bk env n->SR C G' σ H' env n->Ext G H G' H'->D.bk σ H'
 ct:∀env n G' σ H',PD.ct env n->SR C G' σ H' env n->Ext G H G' H'->D.ct σ H'
theorem Link.ext (L:Link C G H PD D)(x:Ext G H G' H'):Link C G' H' PD D:=
 ⟨λenv n G2 σ H2 p S e=>L.nx env n G2 σ H2 p S (x.trans e),λy n v G2 σ H2 env p S r e=>L.rt y n v G2 σ H2 env p S r (x.trans e),λenv n G2 σ H2 p S e=>L.bk env n G2 σ H2 p S (x.trans e),λenv n G2 σ H2 p S e=>L.ct env n G2 σ H2 p S (x.trans e)⟩
def SOk (K:A7)(T:PotK)(np:Bool)(t:TS)(ps:pS):Prop:=∀(C:Ct) (G:Gh) (σ:St) (H:Hp) (env:Env) (n:Nat) (PD:Q4) (D:Ends),C.K=K->C.T=T->C.np=np->SR C G σ H env n->ps PD env n->Link C G H PD D->t D σ H
def QS {ι:Type}(T:PotK)(np:Bool)(K:A7)(F:ι->Cx)(st:Stmt)(ps:pS):Prop:=∃t,(∀z,PS (F z) st t)/\SOk K T np t ps
def QSs {ι:Type}(T:PotK)(np:Bool)(K:A7)(F:ι->Cx)(st:List Stmt)(ps:pS):Prop:=∃t,(∀z,PSs (F z) st t)/\SOk K T np t ps
theorem SR.out (S:SR C G σ H env n)(r:Rep C.K G H x v):Rep C.K ⟨C.M0,G.pots⟩ H x v:=
 Rep.mono (G':=⟨C.M0,G.pots⟩) (λ_ _ _ e=>e) (λa ha=>.inl (S.sup a ha)) (λ_ _ e=>e) _ _ r
theorem SR.old (S:SR C G σ H env n)(h:H a=none):C.H0 a=none:=by
 cases z:C.H0 a with
 |none=>rfl
 | some o =>
  by_cases hp:a∈C.pots0
  ·exact absurd (S.sup a (S.p0.1 a hp)) (S.fresh h)
  ·have:=S.frame a o hp z;rw[h] at this;cases this
theorem SR.moreO (S:SR C G σ H env n)(mo:MutO ob)(h:H a=none):SR C ⟨a::G.M,G.pots⟩ σ (upd H a ob) env n where
 frame b o hb e:=Same.lay1 h b o (S.frame b o hb e)
 sub b hb:=(C8.mp hb).elim (λz=>.inr (z▸S.old h)) (S.sub b)
 sup b hb:=C9 _ (S.sup b hb)
 pots p hp:=⟨C9 _ (S.pots p hp).1,by
  have h1:=C.T.more (M':=a::G.M) (S.pots p hp).2 (λc hc=>(C8.mp hc).elim (λz=>.inr (z▸h)) .inl);obtain⟨o,e,_⟩:=C.T.mu h1
  exact C.T.keep h1 (by rw[e,Same.lay1 h p o e]) λb o _ e=>Same.lay1 h b o e⟩
 pre:=S.pre
 mu b hb:=by
  rcases C8.mp hb with rfl|hb
  ·exact⟨_,F9,mo⟩
  ·obtain⟨o,e,m⟩:=S.mu b hb;exact⟨o,Same.lay1 h b o e,m⟩
 slots i s e:=by
  have mm:∀{x:PV} {v:V},Rep C.K G H x v->Rep C.K ⟨a::G.M,G.pots⟩ (upd H a ob) x v:=λr=>Rep.mono (G':=⟨a::G.M,G.pots⟩) (H':=upd H a ob) (λb o _ e=>Same.lay1 h b o e) (λc hc=>(C8.mp (show c∈a::G.M from hc)).elim (λz=>.inr (z▸h)) .inl) (λ_ _ e=>e) _ _ r;have:=S.slots i s e;cases s with
  | v x =>
   obtain⟨v,e1,r⟩:=this;exact⟨v,e1,mm r⟩
  | ow kk xs =>
   obtain⟨b,us,e1,h1,h2,h3,h4,r⟩:=this;exact⟨b,us,e1,C9 _ h1,h2,h3,Same.lay1 h _ _ h4,Reps.mono (G':=⟨a::G.M,G.pots⟩) (H':=upd H a ob) (λb o _ e=>Same.lay1 h b o e) (λc hc=>(C8.mp (show c∈a::G.M from hc)).elim (λz=>.inr (z▸h)) .inl) (λ_ _ e=>e) _ _ r⟩
 inj:=S.inj
 p0:=S.p0
 len:=S.len
 newp:=S.newp
theorem SR.more (S:SR C G σ H env n)(h:H a=none):SR C ⟨a::G.M,G.pots⟩ σ (upd H a (.lst vs)) env n:=S.moreO (ob:=.lst vs) trivial h
theorem SR.ow (S:SR C G σ H env n)(i:Nat)(kk:OK)(h:H a=none)(r:Reps C.K G H xs vs) :
   SR C ⟨a::G.M,G.pots⟩ (σ.set i (some (.ref a))) (upd H a (mkO kk vs)) (env.set i (some (.ow kk xs))) n:=by
 have S1:=S.moreO (GF kk vs) h;have aM:a∉G.M:=S.fresh h;have r1:Reps C.K ⟨a::G.M,G.pots⟩ (upd H a (mkO kk vs)) xs vs:=Reps.mono (G':=⟨a::G.M,G.pots⟩) (H':=upd H a (mkO kk vs)) (λb o _ e=>Same.lay1 h b o e) (λc hc=>(C8.mp (show c∈a::G.M from hc)).elim (λz=>.inr (z▸h)) .inl) (λ_ _ e=>e) _ _ r
 have jc:∀(j:Nat) (ys:OK×List PV),env[j]?=some (some (Slot.ow ys.1 ys.2))->σ[j]?≠some (some (.ref a)):=by
  intro j ys e z;obtain⟨b,us,e1,h1,_⟩:=S.slots j _ e;rw[z] at e1;cases e1;exact aM h1
 exact {
  frame:=S1.frame
  sub:=S1.sub
  sup:=S1.sup
  pots:=S1.pots
  pre:=S1.pre
  mu:=S1.mu
  slots:=λj s e=>by
   by_cases hj:i=j
   ·subst hj
    by_cases hl:i<env.length
    ·rw[L7 hl] at e;cases e;exact⟨a,vs,by rw[L7 (by rw[<- S.len];exact hl)],C6,λz=>aM (S.sup a z),λz=>aM (S.pots a z).1,F9,r1⟩
    ·rw[Q0 (by rw[K1];omega)] at e;cases e
   ·rw[M9 hj] at e ⊢;exact S1.slots j s e
  inj:=fun j k xs' ys b e1 e2 e3 e4=>by
   by_cases hj:i=j
   ·by_cases hk:i=k
    ·omega
    ·subst hj;rw[M9 hk] at e2 e4
     by_cases hl:i<σ.length
     ·rw[L7 hl] at e3;cases e3;exact absurd e4 (jc k ys e2)
     ·rw[Q0 (by rw[K1];omega)] at e3;cases e3
   ·rw[M9 hj] at e1 e3
    by_cases hk:i=k
    ·subst hk
     by_cases hl:i<σ.length
     ·rw[L7 hl] at e4;cases e4;exact absurd e3 (jc j xs' e1)
     ·rw[Q0 (by rw[K1];omega)] at e4;cases e4
    ·rw[M9 hk] at e2 e4;exact S.inj j k xs' ys b e1 e2 e3 e4
  p0:=S.p0
  len:=by rw[K1,K1];exact S.len
  newp:=S.newp }
theorem SR.own (S:SR C G σ H env n)(i:Nat)(h:H a=none)(r:Reps C.K G H xs vs) :
   SR C ⟨a::G.M,G.pots⟩ (σ.set i (some (.ref a))) (upd H a (.lst vs)) (env.set i (some (.ow .lst xs))) n:=S.ow i .lst h r
theorem SR.putO {C:Ct}{G:Gh}{σ:St}{H:Hp}{env:Env}{n:Nat}(S:SR C G σ H env n){i:Nat}{kk:OK}(k':OK){a:A0}{xs ys:List PV}{vs:List V}(e:env[i]?=some (some (.ow kk xs)))(ea:σ[i]?=some (some (.ref a)))(r:Reps C.K G H ys vs) :
   SR C G σ (upd H a (mkO k' vs)) (env.set i (some (.ow k' ys))) n/\Fr G H (upd H a (mkO k' vs)):=by
 obtain⟨a',us,ea',aM,a0,ap,eH,_⟩:=S.slots i _ e;rw[ea] at ea';cases ea';have f:Fr G H (upd H a (mkO k' vs)):=λb o hb he=>by rw[C0 (λz=>hb (by grind))];exact he
 refine⟨{
  frame:=λb o hb he=>?_
  sub:=S.sub
  sup:=S.sup
  pots:=λp hp=>⟨(S.pots p hp).1,C.T.keep (S.pots p hp).2 (C0 λz=>ap (by grind)) f⟩
  pre:=S.pre
  mu:=λb hb=>?_
  slots:=λj s es=>?_
  inj:=λj k xs' ys' b e1 e2 e3 e4=>?_
  p0:=S.p0
  len:=by rw[K1];exact S.len
  newp:=S.newp },f⟩
 ·have hb2:b≠a:=λz=>by
   rcases S.sub a aM with z2|z2
   ·grind
   ·grind
  rw[C0 hb2];exact S.frame b o hb he
 ·by_cases hba:b=a
  ·subst hba;exact⟨_,F9,GF k' vs⟩
  ·obtain⟨o,he,m⟩:=S.mu b hb;exact⟨o,by rw[C0 hba];exact he,m⟩
 ·by_cases hj:i=j
  ·subst hj;have hl:i<env.length:=(E6.mp e).1;rw[L7 hl] at es;cases es;exact⟨a,vs,ea,aM,a0,ap,F9,r.fr f⟩
  ·rw[M9 hj] at es;have:=S.slots j s es;cases s with
   | v x =>
    obtain⟨v,e1,r⟩:=this;exact⟨v,e1,r.fr f⟩
   | ow kz zs =>
    obtain⟨b,us',e1,h1,h2,h3,h4,r⟩:=this;have hba:b≠a:=λz=>hj (S.inj i j (kk,xs) (kz,zs) a e es ea (by rw[e1,z]));exact⟨b,us',e1,h1,h2,h3,by rw[C0 hba];exact h4,r.fr f⟩
 ·have back:∀(j:Nat) (zs:OK×List PV),(env.set i (some (.ow k' ys)))[j]?=some (some (Slot.ow zs.1 zs.2))->∃zs':OK×List PV,env[j]?=some (some (.ow zs'.1 zs'.2)):=by
   intro j zs h
   by_cases hj:i=j
   ·simp_all
   ·grind
  obtain⟨z1,e1'⟩:=back j xs' e1;obtain⟨z2,e2'⟩:=back k ys' e2;exact S.inj j k z1 z2 b e1' e2' e3 e4
theorem SR.put (S:SR C G σ H env n)(e:env[i]?=some (some (.ow .lst xs)))(ea:σ[i]?=some (some (.ref a)))(r:Reps C.K G H ys vs) :
   SR C G σ (upd H a (.lst vs)) (env.set i (some (.ow .lst ys))) n/\Fr G H (upd H a (.lst vs)):=S.putO .lst e ea r
section
variable {T:PotK}{np:Bool}{ι:Type}{K:A7}{F:ι->Cx}{e a b c:Expr}{es:List Expr}{st:Stmt}{rest:List Stmt}{pe pa pb pc:pE}{pos:Pos}{pl pr:pA}{pg:pG}{pt:pT}{p1 p2:pS}
def qNx:pS:=λD env n=>D.nx env n
def qSeq (p q:pS):pS:=λD env n=>p { D with nx:=λe m=>q D e m } env n
theorem G5:QSs T np K F [] qNx:=⟨_,λ_=>Jc,λC G σ H env n PD D hK hT hn S hp L=>L.nx _ _ _ _ _ hp S Ext.refl⟩
theorem B4 (h:QS T np K F st p1):QSs T np K F [st] p1:=let ⟨t,h1,h2⟩:=h;⟨t,λz=>De (h1 z),h2⟩
theorem B2 (h:QS T np K F st p1)(h':QSs T np K F rest p2):QSs T np K F (st::rest) (qSeq p1 p2):=by
 obtain⟨t,a1,a2⟩:=h;obtain⟨u,b1,b2⟩:=h';refine⟨_,λz=>Z3 (a1 z) (b1 z),λC G σ H env n PD D hK hT hn S hp L=>?_⟩;refine a2 C G σ H env n _ _ hK hT hn S hp ⟨λje n1 G1 σ1 H1 q1 S1 x1=>?_,L.rt,L.bk,L.ct⟩;exact b2 C G1 σ1 H1 je n1 PD D hK hT hn S1 q1 (L.ext x1)
theorem Dt (hN:X.N.Nodup)(hi:X.N[i]?=some x)(hx:Loc X.env.scope x)(hs:Y2 e (some (.Name x pos')) pos.line X.env=pure false:=by rfl)(hf:X.fn x=true\/X.env.scope.names.lookup x=some .local:=by first|exact .inl rfl|exact .inr rfl|assumption)(te:TE)(h:EW X e te):SW X (.Assign [.Name x pos'] e pos) (tAsg te (R5 i)):=⟨Ai hN hi hx h.h hs hf⟩
theorem Au (hs:Bp [tg] e pos.line X.env=pure false:=by rfl)(hw:Bq [tg] e X.env=pure none:=by rfl)(h1:(P9 [tg] X.env).map (·.2)=[assign tg X.env]:=by rfl)(te:TE)(g:TG)(h:EW X e te)(hg:GW X tg g):SW X (.Assign [tg] e pos) (tAsg te g):=⟨Gg h.h hg.h hs hw h1⟩
theorem Z7 (hs:Y2 e none pos.line X.env=pure false:=by rfl)(te:TE)(h:EW X e te):SW X (.Expr e pos) (Gd te):=⟨NT h.h hs⟩
def qSet (i:Nat)(pe:pE):pS:=λD env n=>pe env n λx je n1=>D.nx (je.set i (some (.v x))) n1
theorem D9 (i:Nat)(h:∀z te,EW (F z) e te->SW (F z) st (tAsg te (R5 i)))(he:QE T K F e pe):QS T np K F st (qSet i pe):=by
 obtain⟨t,a1,a2⟩:=he;refine⟨_,λz=>(h z _ ⟨a1 z⟩).h,λC G σ H env n PD D hK hT hn S hp L=>?_⟩;refine a2 C G σ H env n _ _ hK hT S hp λx je n1 v H1 q1 S1 r1 f1=>?_;exact L.nx _ _ _ _ _ q1 (S1.set i (hK▸r1)) (Ext.fr f1)
def qOwn (i:Nat)(pn:pA):pS:=λD env n=>pn env n λxs je n1=>D.nx (je.set i (some (.ow .lst xs))) n1
theorem l9 {a:A0}(h:H a=none):Ext G H ⟨a::G.M,G.pots⟩ (upd H a o):=⟨λb u _ e=>Same.lay1 h b u e,λc hc=>(C8.mp (show c∈a::G.M from hc)).elim (λz=>.inr (z▸h)) .inl,λ_ _ e=>e⟩
theorem X9 (i:Nat)(h:∀z te,EW (F z) e te->SW (F z) st (tAsg te (R5 i)))(he:QN T K F e pl):QS T np K F st (qOwn i pl):=by
 obtain⟨t,a1,a2⟩:=he;refine⟨_,λz=>(h z _ ⟨a1 z⟩).h,λC G σ H env n PD D hK hT hn S hp L=>?_⟩;refine a2 C G σ H env n _ _ hK hT S hp λxs je n1 a vs Hb q1 S1 f1 hn1 r1=>?_;exact L.nx _ _ _ _ _ q1 (S1.own i hn1 (hK▸r1)) ((Ext.fr f1).trans (l9 hn1))
def qAsg (pe:pE)(g:pG):pS:=λD env n=>pe env n λx je n1=>g x je λjf=>D.nx jf n1
theorem EM (h:∀z te g,EW (F z) e te->GW (F z) tg g->SW (F z) st (tAsg te g))(he:QE T K F e pe)(hg:QG K F tg pg):QS T np K F st (qAsg pe pg):=by
 obtain⟨t,a1,a2⟩:=he;obtain⟨g,b1,b2⟩:=hg;refine⟨_,λz=>(h z _ _ ⟨a1 z⟩ ⟨b1 z⟩).h,λC G σ H env n PD D hK hT hn S hp L=>?_⟩;refine a2 C G σ H env n _ _ hK hT S hp λx je n1 v H1 q1 S1 r1 f1=>?_;exact b2 C G σ H1 je n1 x v _ _ hK S1 r1 q1 λjk σ' re S'=>L.nx _ _ _ _ _ re S' (Ext.fr f1)
def O6 (pe:pE):pS:=λD env n=>pe env n λ_ je n1=>D.nx je n1
theorem Z8 (h:∀z te,EW (F z) e te->SW (F z) st (Gd te))(he:QE T K F e pe):QS T np K F st (O6 pe):=by
 obtain⟨t,a1,a2⟩:=he;refine⟨_,λz=>(h z _ ⟨a1 z⟩).h,λC G σ H env n PD D hK hT hn S hp L=>?_⟩;exact a2 C G σ H env n _ _ hK hT S hp λx je n1 v H1 q1 S1 r1 f1=>L.nx _ _ _ _ _ q1 S1 (Ext.fr f1)
def qRet (pe:pE):pS:=λD env n=>pe env n λx _ n1=>D.rt x n1
theorem C2 (he:QE T K F e pe):QS T np K F (.Return (some e) pos) (qRet pe):=by
 obtain⟨t,a1,a2⟩:=he;refine⟨_,λz=>Es (a1 z),λC G σ H env n PD D hK hT hn S hp L=>?_⟩;exact a2 C G σ H env n _ _ hK hT S hp λx je n1 v H1 q1 S1 r1 f1=>L.rt _ _ _ _ _ _ _ q1 S1 (S1.out (hK▸r1)) (Ext.fr f1)
def qRetO (i:Nat):pS:=λD env n=>match env[i]? with|some (some (.ow .lst xs))=>D.rt (.lst xs) n|_=>False
def qIfS (t:pT)(p q:pS):pS:=λD env n=>t env n λb je n1=>if b=true then p D je n1 else q D je n1
theorem G6 (hc:QT T K F c pt)(h1:QSs T np K F x p1)(h2:QSs T np K F y p2):QS T np K F (.If c x y pos) (qIfS pt p1 p2):=by
 obtain⟨tc,c1,c2⟩:=hc;obtain⟨t,a1,a2⟩:=h1;obtain⟨u,b1,b2⟩:=h2;refine⟨_,λz=>ps_if (c1 z) (a1 z) (b1 z),λC G σ H env n PD D hK hT hn S hp L=>?_⟩;refine c2 C G σ H env n _ _ hK hT S hp λd je n1 H1 q1 S1 f1=>?_;cases d with
 |true=>exact a2 C G σ H1 je n1 PD D hK hT hn S1 q1 (L.ext (Ext.fr f1))
 |false=>exact b2 C G σ H1 je n1 PD D hK hT hn S1 q1 (L.ext (Ext.fr f1))
def forL (g:pG)(b:pS)(D:Q4):List PV->Env->Nat->Prop
 |[],env,n=>D.nx env n
 |x::xs,env,n=>g x env λje=>b { D with nx:=λe m=>forL g b D xs e m,ct:=λe m=>forL g b D xs e m,bk:=D.nx } je n
def qFor (pi:pA)(g:pG)(b:pS):pS:=λD env n=>pi env n λxs je n1=>forL g b D xs je n1
theorem L5 (hc:∀z,(F z).calm=true)(hi:QI T K F tg iter pl)(hg:QG K F tg pg)(hb:QSs T np K F body p1)(hp:∀z,PassesOwn (A8 (F z).prog (F z).w) (F z).A (F z).env (F z).xe:=by intro _;exact PassesOwn.never)(hs:∀z x,N6 iter (F z).env x=pure x:=by intro _ _;rfl):QS T np K F (.For tg iter body [] pos) (qFor pl pg p1):=by
 obtain⟨wi,i1,i2⟩:=hi;obtain⟨g,g1,g2⟩:=hg;obtain⟨t,b1,b2⟩:=hb;refine⟨_,λz=>Ji (hp z) (hc z) (i1 z) (g1 z) (b1 z) (hs z),λC G σ H env n PD D hK hT hn S hp L=>?_⟩;refine i2 C G σ H env n _ _ hK hT S hp λxs je n1 J H1 q1 S1 f1 hJ=>?_;have L1:=L.ext (Ext.fr f1);refine⟨λi m σ H=>m=xs.length-i/\i<=xs.length/\∃G' env n,SR C G' σ H env n/\Ext G H1 G' H/\forL pg p1 PD (xs.drop i) env n,⟨xs.length,by simp,M5 _,G,je,n1,S1,Ext.refl,by simpa using q1⟩,?_⟩;rintro i m σ' H' ⟨rfl,hi,G',jk,n',S',x',q'⟩;have hf:∀p,H' p=none->p∉G'.M:=λp hp=>S'.fresh hp;obtain⟨hgo,hstop⟩:=hJ G' H' x'.keep x'.new x'.pot hf
 by_cases hlt:i<xs.length
 ·obtain⟨go1,go2⟩:=hgo i _ (D7 hlt);rw[AJ hlt] at q';refine .inr ⟨go1,λσ H=>∃G' env n,SR C G' σ H env n/\Ext G H1 G' H/\forL pg p1 PD (xs.drop (i+1)) env n,λσ2 H2 h2=>⟨xs.length-(i+1),by omega,rfl,hlt,h2⟩,λv H2 y=>?_⟩;obtain⟨s2,rv⟩:=go2 v H2 y;have x2:Ext G' H' G' H2:=Ext.fr (Fr.of s2);refine g2 C G' σ' H2 jk n' _ v _ _ hK (S'.same s2) rv q' λjf σ2 q2 S2=>?_;refine b2 C G' σ2 H2 jf n' _ _ hK hT hn S2 q2 ⟨λe3 n3 G3 σ3 H3 q3 S3 x3=>?_,λy n3 v G3 σ3 H3 e3 q3 S3 r3 x3=>?_,λe3 n3 G3 σ3 H3 q3 S3 x3=>?_,λe3 n3 G3 σ3 H3 q3 S3 x3=>?_⟩
  ·exact⟨G3,e3,n3,S3,(x'.trans x2).trans x3,q3⟩
  ·exact L1.rt _ _ _ _ _ _ _ q3 S3 r3 ((x'.trans x2).trans x3)
  ·exact L1.nx _ _ _ _ _ q3 S3 ((x'.trans x2).trans x3)
  ·exact⟨G3,e3,n3,S3,(x'.trans x2).trans x3,q3⟩
 ·have ei:i=xs.length:=by omega
  subst ei;rw[Bu] at q';exact .inl ⟨hstop _ (B7 _),L1.nx _ _ _ _ _ q' S' x'⟩
def N5 (t:pT)(b:pS)(D:Q4):Nat->Env->Nat->Prop
 |0,_,_=>False
 |k+1,env,n=>t env n λc je n1=>if c=true then b { D with nx:=λe m=>N5 t b D k e m,ct:=λe m=>N5 t b D k e m,bk:=D.nx } je n1 else D.nx je n1
def u9 (t:pT)(b:pS):pS:=λD env n=>∃k,N5 t b D k env n
theorem Du (hc:QT T K F c pt)(hb:QSs T np K F body p1)(hp:∀z,PassesOwn (A8 (F z).prog (F z).w) (F z).A (F z).env (F z).xe:=by intro _;exact PassesOwn.never):QS T np K F (.While c body [] pos) (u9 pt p1):=by
 obtain⟨tc,c1,c2⟩:=hc;obtain⟨t,b1,b2⟩:=hb;refine⟨_,λz=>NU (hp z) (c1 z) (b1 z),λC G σ H env n PD D hK hT hn S hp L=>?_⟩;obtain⟨k,hp⟩:=hp;refine⟨λm σ H'=>∃G' env n,SR C G' σ H' env n/\Ext G H G' H'/\N5 pt p1 PD m env n,⟨k,G,env,n,S,Ext.refl,hp⟩,?_⟩;rintro m σ1 H1 ⟨G1,je,n1,S1,x1,q1⟩;cases m with
 |zero=>exact q1.elim
 | succ m =>
  refine c2 C G1 σ1 H1 je n1 _ _ hK hT S1 q1 λd jf n2 H2 q2 S2 f2=>?_;have x2:=x1.trans (Ext.fr f2);cases d with
  |false=>exact iteF (L.nx _ _ _ _ _ q2 S2 x2)
  | true =>
   refine iteT ⟨λσ H'=>∃G' env n,SR C G' σ H' env n/\Ext G H G' H'/\N5 pt p1 PD m env n,λσ' H' h=>⟨m,by omega,h⟩,?_⟩;exact b2 C G1 σ1 H2 jf n2 _ _ hK hT hn S2 q2 ⟨λe3 n3 G3 σ3 H3 q3 S3 x3=>⟨G3,e3,n3,S3,x2.trans x3,q3⟩,λy n3 v G3 σ3 H3 e3 q3 S3 r3 x3=>L.rt _ _ _ _ _ _ _ q3 S3 r3 (x2.trans x3),λe3 n3 G3 σ3 H3 q3 S3 x3=>L.nx _ _ _ _ _ q3 S3 (x2.trans x3),λe3 n3 G3 σ3 H3 q3 S3 x3=>⟨G3,e3,n3,S3,x2.trans x3,q3⟩⟩
def GR (i:Nat)(pe:pE):pE:=λenv n R=>pe env n λy je n1=>match je[i]? with|some (some (.ow .lst xs))=>xs.length<1000000/\R .non (je.set i (some (.ow .lst (xs++[y])))) n1|_=>False
theorem B_ (i:Nat)(hv:∀z,EW (F z) (.Name x p) (tVar i))(he:QE T K F e pe)(hs:D8 e=true:=by rfl)(hbase:∀z,AG (.Name x p) "append" (F z).env (eval (.Name x p) (F z).env)=eval (.Name x p) (F z).env:=by intro _;rfl)(hline:(ap.endLine == pos.line)=true:=by rfl)
   (hfew:∀z,((backTo pos (E2 [e] (F z).env)).all (λx=>!x.1)&&(backToKw pos (x8 [] (F z).env)).all (λx=>x.1.isSome)&&decide (([e]:List Expr).length+([]:List R9).length+(if([]:List R9).isEmpty then 0 else 1)<30))=true:=by intro _;rfl) (hK:∀z,(F z).K=K:=by intro _;rfl):QE T K F (.Call (.Attribute (.Name x p) "append" ap) [e] [] pos) (λenv n R=>(∃xs,env[i]?=some (some (.ow .lst xs)))/\GR i pe env n R):=by
 obtain⟨t,a1,a2⟩:=he;refine⟨tBM K "list" JD (tVar i) (U6 t tNil),λz=>hK z▸BP Ek PySem.F.slot_list_append PySem.F.type_list_append JE (hv z).h (D4 (a1 z) G0 (B9 hs)) (hbase z) (hfew z) hline (B9 hs),λC G σ H env n R Q hK hT S hp k=>?_⟩;obtain⟨⟨xs0,e0⟩,hp⟩:=hp;obtain⟨a,vs,ev,h1,h2,h3,h4,r⟩:=S.slots i _ e0;refine⟨.ref a,ev,.inl ⟨rfl,vs,SqL.of h4⟩,?_⟩;refine a2 C G σ H env n _ _ hK hT S hp λy je n1 v H1 q1 S1 r1 f1=>?_
 split at q1
 ·rename_i xs ex;obtain⟨a',us,ev',g1,g2,g3,g4,r'⟩:=S1.slots i _ ex;rw[ev] at ev';cases ev';subst hK;obtain⟨S2,f2⟩:=S1.put ex ev (r'.append (.one r1));exact⟨a,us,v,rfl,rfl,g4,by rw[<- r'.length];exact mil' (by omega),k _ _ _ _ _ q1.2 S2 rfl (f1.trans f2)⟩
 ·exact q1.elim
def GS (i:Nat)(pe:pE):pE:=λenv n R=>pe env n λy je n1=>match je[i]?,y with|some (some (.ow .lst xs)),.int d=>xs.length<=1000000/\(match ixN xs.length d with|some j=>(match xs[j]? with|some z=>R z (je.set i (some (.ow .lst (xs.eraseIdx j)))) n1|none=>False)|none=>False)|_,_=>False
theorem PC (i:Nat)(hv:∀z,EW (F z) (.Name x p) (tVar i))(he:QE T K F e pe)(hs:D8 e=true:=by rfl)(hbase:∀z,AG (.Name x p) "pop" (F z).env (eval (.Name x p) (F z).env)=eval (.Name x p) (F z).env:=by intro _;rfl)(hline:(ap.endLine == pos.line)=true:=by rfl)
   (hfew:∀z,((backTo pos (E2 [e] (F z).env)).all (λx=>!x.1)&&(backToKw pos (x8 [] (F z).env)).all (λx=>x.1.isSome)&&decide (([e]:List Expr).length+([]:List R9).length+(if([]:List R9).isEmpty then 0 else 1)<30))=true:=by intro _;rfl) (hK:∀z,(F z).K=K:=by intro _;rfl) :
   QE T K F (.Call (.Attribute (.Name x p) "pop" ap) [e] [] pos) (λenv n R=>(∃xs,env[i]?=some (some (.ow .lst xs)))/\GS i pe env n R):=by
 obtain⟨t,a1,a2⟩:=he;refine⟨tBM K "list" JG (tVar i) (U6 t tNil),λz=>hK z▸BP Ek PySem.F.slot_list_pop PySem.F.type_list_pop OH (hv z).h (D4 (a1 z) G0 (B9 hs)) (hbase z) (hfew z) hline (B9 hs),λC G σ H env n R Q hK hT S hp k=>?_⟩;obtain⟨⟨xs0,e0⟩,hp⟩:=hp;obtain⟨a,vs,ev,h1,h2,h3,h4,r⟩:=S.slots i _ e0;refine⟨.ref a,ev,.inl ⟨rfl,vs,SqL.of h4⟩,?_⟩;refine a2 C G σ H env n _ _ hK hT S hp λy je n1 v H1 q1 S1 r1 f1=>?_
 split at q1
 ·rename_i xs d ex;obtain⟨hlen,q1⟩:=q1
  split at q1
  ·rename_i j ej
   split at q1
   ·rename_i z ez;obtain⟨a',us,ev',g1,g2,g3,g4,r'⟩:=S1.slots i _ ex;rw[ev] at ev';cases ev';subst hK;obtain⟨S2,f2⟩:=S1.put ex ev (r'.eraseIdx j);obtain⟨w,e1,rw'⟩:=r'.get' ez;obtain⟨q1',q2',q3',q4'⟩:=Gs ej;refine⟨a,us,d,j,w,rfl,by rw[show v=.int d from r1],g4,?_,?_,by rw[<- r'.length];exact q1',e1,k _ _ _ _ _ q1 S2 (rw'.fr f2) (f1.trans f2)⟩
    ·omega
    ·omega
   ·exact q1.elim
  ·exact q1.elim
 ·exact q1.elim
end
end Pu
end
section
namespace Pu
open PySem PySem.Spec L2
abbrev pSl:=Env->Nat->(Slot->Env->Nat->Prop)->Prop
def Ca (σ:St)(env:Env)(a:A0):Prop:=∃(j:Nat) (ys:OK×List PV),env[j]?=some (some (.ow ys.1 ys.2))/\σ[j]?=some (some (.ref a))
theorem SR.slot (S:SR C G σ H env n)(i:Nat)(r:GH C G H (some (some v)) s)(h:∀(xs:OK×List PV) a,s=.ow xs.1 xs.2->v=.ref a->¬Ca σ env a):SR C G (σ.set i (some v)) H (env.set i (some s)) n where
 frame:=S.frame
 sub:=S.sub
 sup:=S.sup
 pots:=S.pots
 pre:=S.pre
 mu:=S.mu
 slots j t e:=by
  by_cases hj:i=j
  ·subst hj
   by_cases hl:i<env.length
   ·rw[L7 hl] at e;cases e;rw[L7 (by rw[<- S.len];exact hl)];exact r
   ·rw[Q0 (by rw[K1];omega)] at e;cases e
  ·rw[M9 hj] at e ⊢;exact S.slots j t e
 inj j k xs ys b e1 e2 e3 e4:=by
  by_cases hj:i=j
  ·by_cases hk:i=k
   ·omega
   ·subst hj;rw[M9 hk] at e2 e4
    by_cases hl:i<env.length
    ·rw[L7 hl] at e1;rw[L7 (by rw[<- S.len];exact hl)] at e3;cases e1;cases e3;exact absurd ⟨k,ys,e2,e4⟩ (h xs b rfl rfl)
    ·rw[Q0 (by rw[K1];omega)] at e1;cases e1
  ·rw[M9 hj] at e1 e3
   by_cases hk:i=k
   ·subst hk
    by_cases hl:i<env.length
    ·rw[L7 hl] at e2;rw[L7 (by rw[<- S.len];exact hl)] at e4;cases e2;cases e4;exact absurd ⟨j,xs,e1,e3⟩ (h ys b rfl rfl)
    ·rw[Q0 (by rw[K1];omega)] at e2;cases e2
   ·rw[M9 hk] at e2 e4;exact S.inj j k xs ys b e1 e2 e3 e4
 p0:=S.p0
 len:=by rw[K1,K1];exact S.len
 newp:=S.newp
def Ct.guard (C:Ct)(a:A0)(vs:List V):Ct:={ C with M0:=a::C.M0,H0:=upd C.H0 a (.lst vs) }
theorem SR.guard (S:SR C G σ H env n)(vs:List V)(h:H a=none):SR (C.guard a vs) ⟨a::G.M,G.pots⟩ σ (upd H a (.lst vs)) env n:=by
 have S1:=S.more (vs:=vs) h;have aM:=S.fresh h
 exact {
  frame:=λb o hb e=>by
   by_cases hba:b=a
   ·subst hba;have e':upd C.H0 b (.lst vs) b=some o:=e;rw[F9] at e' ⊢;exact e'
   ·have e':upd C.H0 a (.lst vs) b=some o:=e;rw[C0 hba] at e';exact S1.frame b o hb e'
  sub:=fun b hb=>by
   by_cases hba:b=a
   ·exact .inl (by rw[hba];exact C6)
   ·rcases S1.sub b hb with z|z
    ·exact .inl (C9 _ z)
    ·refine .inr ?_;show upd C.H0 a (.lst vs) b=none;rw[C0 hba];exact z
  sup:=λb hb=>by
   rcases C8.mp (show b∈a::C.M0 from hb) with rfl|z
   ·exact C6
   ·exact S1.sup b z
  pots:=S1.pots
  pre:=S1.pre
  mu:=S1.mu
  slots:=λi s e=>by
   cases s with
   | v x =>
    obtain⟨v,ev,r⟩:=S1.slots i _ e;exact⟨v,ev,r⟩
   | ow kk xs =>
    obtain⟨b,us,ev,h1,h2,h3,h4,r⟩:=S1.slots i _ e;obtain⟨b',us',ev',g1,_⟩:=S.slots i _ e;rw[ev] at ev';cases ev';refine⟨b,us,ev,h1,λz=>?_,h3,h4,r⟩;rcases C8.mp (show b∈a::C.M0 from z) with rfl|z
    ·exact aM g1
    ·exact h2 z
  inj:=S1.inj
  p0:=⟨λp hp=>C9 _ (S1.p0.1 p hp),S1.p0.2⟩
  len:=S1.len
  newp:=λp hp hn hM=>by
   rcases C8.mp (show p∈a::C.M0 from hM) with rfl|z
   ·exact aM (S.pots p hp).1
   ·exact S1.newp p hp hn z }
theorem SR.unguard (S:SR (C.guard a vs) G σ H env n)(ha:a∉C.M0)(hp0:∀p∈C.pots0,p∈C.M0)(h0:C.H0 a=none):SR C G σ H env n/\H a=some (.lst vs)/\¬Ca σ env a:=by
 have hap:a∉C.pots0:=λz=>ha (hp0 a z)
 refine⟨{
  frame:=λb o hb e=>S.frame b o hb (by
   show upd C.H0 a (.lst vs) b=some o
   rw[C0 (λz=>by rw[z,h0] at e;cases e)];exact e)
  sub:=fun b hb=>by
   by_cases hba:b=a
   ·exact .inr (hba▸h0)
   ·rcases S.sub b hb with z|z
    ·rcases C8.mp (show b∈a::C.M0 from z) with z|z
     ·exact absurd z hba
     ·exact .inl z
    ·have z':upd C.H0 a (.lst vs) b=none:=z;rw[C0 hba] at z';exact .inr z'
  sup:=λb hb=>S.sup b (C9 _ hb)
  pots:=S.pots
  pre:=S.pre
  mu:=S.mu
  slots:=λi s e=>by
   cases s with
   | v x =>
    obtain⟨v,ev,r⟩:=S.slots i _ e;exact⟨v,ev,r⟩
   | ow kk xs =>
    obtain⟨b,us,ev,h1,h2,h3,h4,r⟩:=S.slots i _ e;exact⟨b,us,ev,h1,λz=>h2 (C9 _ z),h3,h4,r⟩
  inj:=S.inj
  p0:=⟨hp0,S.p0.2⟩
  len:=S.len
  newp:=λp hp hn hM=>S.newp p hp hn (C9 _ hM) },S.frame a _ hap F9,?_⟩
 rintro⟨j,ys,e1,e2⟩;obtain⟨b,us,ev,h1,h2,_⟩:=S.slots j _ e1;rw[e2] at ev;cases ev;exact h2 C6
def LOk (K:A7)(T:PotK)(t:TE)(pl:pSl):Prop:=∀(C:Ct) (G:Gh) (σ:St) (H:Hp) (env:Env) (n:Nat) (R:Slot->Env->Nat->Prop) (Q:VK),C.K=K->C.T=T->SR C G σ H env n->pl env n R->
 (∀x jk n' v H',R (.v x) jk n'->SR C G σ H' jk n'->Rep K G H' x v->Fr G H H'->Q v H')->
 (∀xs jk n' a vs Hb,R (.ow .lst xs) jk n'->SR C G σ Hb jk n'->Fr G H Hb->Hb a=none->Reps K G Hb xs vs->Q (.ref a) (upd Hb a (.lst vs)))->t σ H Q
def QL {ι:Type}(T:PotK)(K:A7)(F:ι->Cx)(e:Expr)(pl:pSl):Prop:=∃t,(∀z,PE (F z) e t)/\LOk K T t pl
def sV (pe:pE):pSl:=λenv n R=>pe env n λx je n1=>R (.v x) je n1
def sO (pn:pA):pSl:=λenv n R=>pn env n λxs je n1=>R (.ow .lst xs) je n1
section
variable {T:PotK}{np:Bool}{ι:Type}{K:A7}{F:ι->Cx}{e a b c:Expr}{es:List Expr}{st:Stmt}{rest:List Stmt}{pe pa pb pc:pE}{pos:Pos}{pl pr:pA}{pg:pG}{pt:pT}{p1 p2:pS}{s1 s2 s3:pSl}
theorem ql_v (h:QE T K F e pe):QL T K F e (sV pe):=let ⟨t,h1,h2⟩:=h;⟨t,h1,λC G σ H env n R Q hK hT S hp k _=>h2 C G σ H env n _ _ hK hT S hp λx jk n' v H' r S' rp f=>k x jk n' v H' r S' rp f⟩
theorem ql_o (h:QN T K F e pl):QL T K F e (sO pl):=let ⟨t,h1,h2⟩:=h;⟨t,h1,λC G σ H env n R Q hK hT S hp _ k=>h2 C G σ H env n _ _ hK hT S hp λxs jk n' a vs Hb r S' f hn rs=>k xs jk n' a vs Hb r S' f hn rs⟩
def Got (C:Ct)(G:Gh)(H:Hp)(σ:St)(env:Env)(s:Slot)(v:V):Prop:=GH C G H (some (some v)) s/\∀(xs:OK×List PV) a,s=.ow xs.1 xs.2->v=.ref a->¬Ca σ env a
theorem Kf (h:LOk K T t s1)(hK:C.K=K)(hT:C.T=T)(S:SR C G σ H env n)(hp:s1 env n R)
   (k:∀s jk n' v G' H',R s jk n'->SR C G' σ H' jk n'->Ext G H G' H'->Got C G' H' σ jk s v->Q v H'):t σ H Q:=by
 refine h C G σ H env n _ _ hK hT S hp (λx jk n' v H' r S' rp f=>?_) λxs jk n' a vs Hb r S' f hn rs=>?_
 ·exact k _ _ _ _ _ _ r S' (Ext.fr f) ⟨⟨v,rfl,hK▸rp⟩,λ_ _ z=>nomatch z⟩
 ·have aM:=S'.fresh hn;have S1:=S'.more (vs:=vs) hn;refine k _ _ _ _ _ _ r S1 ((Ext.fr f).trans (l9 hn)) ⟨⟨a,vs,rfl,C6,λz=>aM (S'.sup a z),λz=>aM (S'.pots a z).1,F9,?_⟩,λys b e1 e2=>?_⟩
  ·exact Reps.mono (G':=⟨a::G.M,G.pots⟩) (H':=upd Hb a (.lst vs)) (λb o _ e=>Same.lay1 hn b o e) (λc hc=>(C8.mp (show c∈a::G.M from hc)).elim (λz=>.inr (z▸hn)) .inl) (λ_ _ e=>e) _ _ (hK▸rs)
  ·cases e2;rintro⟨j,zs,z1,z2⟩;obtain⟨b,us,ev,g1,_⟩:=S'.slots j _ z1;rw[z2] at ev;cases ev;exact aM g1
theorem PF {R:Slot->Slot->Env->Nat->Prop}{Q:V->V->Hp->Prop}(h:LOk K T t s1)(h':LOk K T u s2)(hK:C.K=K)(hT:C.T=T)(S:SR C G σ H env n)(hp:s1 env n λx je n1=>s2 je n1 λy jf n2=>R x y jf n2)
   (k:∀x y jk n' v w G' H',R x y jk n'->SR C G' σ H' jk n'->Ext G H G' H'->Got C G' H' σ jk x v->Got C G' H' σ jk y w->(∀(xs ys:OK×List PV) a,x=.ow xs.1 xs.2->y=.ow ys.1 ys.2->v=.ref a->w≠.ref a)->Q v w H'):t σ H λv H1=>u σ H1 λw H2=>Q v w H2:=by
 refine h C G σ H env n _ _ hK hT S hp (λx je n1 v H1 q1 S1 r1 f1=>?_) λxs je n1 a vs Hb q1 S1 f1 hn rs=>?_
 ·refine Kf h' hK hT S1 q1 λy jf n2 w G2 H2 q2 S2 x2 g2=>?_;exact k _ _ _ _ _ _ _ _ q2 S2 ((Ext.fr f1).trans x2) ⟨⟨v,rfl,Rep.mono x2.keep x2.new x2.pot _ _ (hK▸r1)⟩,λ_ _ z=>nomatch z⟩ g2 (λ_ _ _ z=>nomatch z)
 ·have aM:=S1.fresh hn;have GT:=S1.guard vs hn;have a0:a∉C.M0:=λz=>aM (S1.sup a z);have aH:=S1.old hn;have x1:Ext G H ⟨a::G.M,G.pots⟩ (upd Hb a (.lst vs)):=(Ext.fr f1).trans (l9 hn);have r1:Reps C.K ⟨a::G.M,G.pots⟩ (upd Hb a (.lst vs)) xs vs:=Reps.mono (G':=⟨a::G.M,G.pots⟩) (H':=upd Hb a (.lst vs)) (λb o _ e=>Same.lay1 hn b o e) (λc hc=>(C8.mp (show c∈a::G.M from hc)).elim (λz=>.inr (z▸hn)) .inl) (λ_ _ e=>e) _ _ (hK▸rs);refine Kf (C:=C.guard a vs) h' hK hT GT q1 λy jf n2 w G2 H2 q2 S2 x2 g2=>?_;obtain⟨S3,e3,no⟩:=S2.unguard a0 S1.p0.1 aH;have aM2:a∈G2.M:=S2.sup a C6
  have ap2:a∉G2.pots:=λz=>by
   by_cases hz:a∈C.pots0
   ·exact a0 (S1.p0.1 a hz)
   ·exact S2.newp a z hz C6
  have gy:Got C G2 H2 σ jf y w:=by
   refine⟨?_,g2.2⟩;cases y with
   |v x=>exact g2.1
   | ow kk ys =>
    obtain⟨b,us,ev,h1,h2,h3,h4,r⟩:=g2.1;exact⟨b,us,ev,h1,λz=>h2 (C9 _ z),h3,h4,r⟩
  refine k _ _ _ _ _ _ _ _ q2 S3 (x1.trans x2) ⟨⟨a,vs,rfl,aM2,a0,ap2,e3,Reps.mono x2.keep x2.new x2.pot _ _ r1⟩,λ_ _ _ e=>by cases e;exact no⟩ gy λxs' ys b ex ey ev ew=>?_;subst ey;cases ev;obtain⟨b,us,ev,h1,h2,_⟩:=g2.1;rw[ew] at ev;cases ev;exact h2 C6
structure AW (X:Cx)(es:List Expr)(t:TA):Prop where
 h:PA X es t
theorem v4 {X:Cx}{i j:Nat}{x y:Str}{a b:Expr}{px py pt:Pos}{kt k2 pt2}{pos:Pos}(hc:X.calm=true)(hN:X.N.Nodup)(hi:X.N[i]?=some x)(hj:X.N[j]?=some y)(hij:i≠j)
   (hx:X.env.scope.names.lookup x=some .local) (hy:X.env.scope.names.lookup y=some .local) (hw:Bq [.Tuple [.Name x px,.Name y py] kt pt] (.Tuple [a,b] k2 pt2) X.env=pure (some [x,y]))
   (hs:Bp [.Tuple [.Name x px,.Name y py] kt pt] (.Tuple [a,b] k2 pt2) pos.line X.env=pure false:=by rfl) (ta:TA) (h:AW X [a,b] ta) :
   SW X (.Assign [.Tuple [.Name x px,.Name y py] kt pt] (.Tuple [a,b] k2 pt2) pos) (tPar i j ta):=⟨ps_par hc hN hi hj hij hx hy h.h hw hs⟩
theorem PH {px py pz pt:Pos}(hc:X.calm=true)(hN:X.N.Nodup)(hi:X.N[i]?=some x)(hj:X.N[j]?=some y)(hk:X.N[k]?=some z)(hij:i≠j)(hik:i≠k)(hjk:j≠k)
   (hx:X.env.scope.names.lookup x=some .local) (hy:X.env.scope.names.lookup y=some .local) (hz:X.env.scope.names.lookup z=some .local) (hw:Bq [.Tuple [.Name x px,.Name y py,.Name z pz] kt pt] (.Tuple [a,b,c] k2 pt2) X.env=pure (some [x,y,z]))
   (hs:Bp [.Tuple [.Name x px,.Name y py,.Name z pz] kt pt] (.Tuple [a,b,c] k2 pt2) pos.line X.env=pure false:=by rfl) (ta:TA) (h:AW X [a,b,c] ta) :
   SW X (.Assign [.Tuple [.Name x px,.Name y py,.Name z pz] kt pt] (.Tuple [a,b,c] k2 pt2) pos) (GD i j k ta):=⟨Pg hc hN hi hj hk hij hik hjk hx hy hz h.h hw hs⟩
def qPar (i j:Nat)(s1 s2:pSl):pS:=λD env n=>s1 env n λa je n1=>s2 je n1 λb jf n2=>D.nx ((jf.set i (some a)).set j (some b)) n2
theorem Kg {a:A0}(hl:env.length=σ.length)(h:Ca (σ.set i (some v)) (env.set i (some s)) a):Ca σ env a\/((∃xs:OK×List PV,s=.ow xs.1 xs.2)/\v=.ref a):=by
 obtain⟨j,ys,e1,e2⟩:=h
 by_cases hj:i=j
 ·subst hj
  by_cases hl':i<env.length
  ·rw[L7 hl'] at e1;rw[L7 (by omega)] at e2;cases e1;cases e2;exact .inr ⟨⟨_,rfl⟩,rfl⟩
  ·rw[Q0 (by rw[K1];omega)] at e1;cases e1
 ·rw[M9 hj] at e1 e2;exact .inl ⟨j,ys,e1,e2⟩
theorem Ba (i j:Nat)(h:∀z ta,AW (F z) [a,b] ta->SW (F z) st (tPar i j ta))(h1:QL T K F a s1)(h2:QL T K F b s2)(n1:D8 a=true:=by rfl)(n2:D8 b=true:=by rfl):QS T np K F st (qPar i j s1 s2):=by
 obtain⟨t,a1,a2⟩:=h1;obtain⟨u,b1,b2⟩:=h2;refine⟨_,λz=>(h z _ ⟨D4 (a1 z) (D4 (b1 z) G0 (B9 n2)) (B9 n1)⟩).h,λC G σ H env n PD D hK hT hn S hp L=>?_⟩;refine PF (Q:=λv w H2=>∃v' w',[v,w]=[v',w']/\D.nx ((σ.set i (some v')).set j (some w')) H2) a2 b2 hK hT S hp λx y jf n2 v w G2 H2 q S2 x2 gx gy ne=>?_;refine⟨v,w,rfl,L.nx _ _ _ _ _ q ((S2.slot i gx.1 gx.2).slot j gy.1 λys b e1 e2 z=>?_) x2⟩;rcases Kg S2.len z with z|⟨⟨xs,ex⟩,ev⟩
 ·exact gy.2 ys b e1 e2 z
 ·exact ne xs ys b ex e1 ev e2
theorem Bb (ho:EW X o (tVar i))(ha:∀v,assign (.Subscript o ix pos) X.env v=(do
     let ov ← W4 [v] (eval o X.env)
     let iv ← W4 [v,ov] (eval ix X.env)
     e9 pos
     W4 [v,ov,iv] (setItem ov iv v)
     release [v,ov,iv] []):=by intro _;rfl) (ti:TE) (hi:EW X ix ti):GW X (.Subscript o ix pos) (gSub (tVar i) ti Dj):=⟨Gf ho.h hi.h Gv ha⟩
def gAt (i:Nat)(pe:pE):PV->Env->Nat->(Env->Nat->Prop)->Prop:=λx env n R=>pe env n λy je n1=>match je[i]?,y with|some (some (.ow .lst xs)),.int d=>(match ixN xs.length d with|some j=>R (je.set i (some (.ow .lst (xs.set j x)))) n1|none=>False)|_,_=>False
def qPut (i:Nat)(pv:pE)(pe:pE):pS:=λD env n=>pv env n λx je n1=>(∃xs,je[i]?=some (some (.ow .lst xs)))/\gAt i pe x je n1 D.nx
theorem qs_put (i:Nat){pv:pE}(h:∀z te g,EW (F z) v te->GW (F z) (.Subscript o ix pos) g->SW (F z) st (tAsg te g))(hv:QE T K F v pv)(hg:∀z ti,EW (F z) ix ti->GW (F z) (.Subscript o ix pos) (gSub (tVar i) ti Dj))(he:QE T K F ix pe):QS T np K F st (qPut i pv pe):=by
 obtain⟨tv,v1,v2⟩:=hv;obtain⟨ti,i1,i2⟩:=he;refine⟨_,λz=>(h z _ _ ⟨v1 z⟩ (hg z _ ⟨i1 z⟩)).h,λC G σ H env n PD D hK hT hn S hp L=>?_⟩;refine v2 C G σ H env n _ _ hK hT S hp λx je n1 v H1 q1 S1 r1 f1=>?_;obtain⟨⟨xs0,e0⟩,q1⟩:=q1;obtain⟨a,vs,ev,h1,h2,h3,h4,r⟩:=S1.slots i _ e0;refine⟨.ref a,ev,?_⟩;refine i2 C G σ H1 je n1 _ _ hK hT S1 q1 λy jf n2 w H2 q2 S2 r2 f2=>?_
 split at q2
 ·rename_i xs d ex
  split at q2
  ·rename_i j ej;obtain⟨a',us,ev',g1,g2,g3,g4,r'⟩:=S2.slots i _ ex;rw[ev] at ev';cases ev';subst hK;obtain⟨S3,f3⟩:=S2.put ex ev (r'.set j (r1.fr f2));exact⟨a,us,d,j,rfl,r2,g4,by rw[<- r'.length];exact ej,L.nx _ _ _ _ _ q2 S3 (Ext.fr ((f1.trans f2).trans f3))⟩
  ·exact q2.elim
 ·exact q2.elim
def EN (i:Nat)(env:Env):Env:=match env[i]? with|some (some (.ow .lst xs))=>env.set i (some (.v (.lst xs)))|_=>env
theorem SR.freeze (S:SR C G σ H env n)(i:Nat):∃G',SR C G' σ H (EN i env) n/\Ext G H G' H:=by
 unfold EN
 split
 ·rename_i xs ex;obtain⟨a,vs,ev,h1,h2,h3,h4,r⟩:=S.slots i _ ex
  let G':Gh:=⟨G.M.filter (·≠a),G.pots⟩
  have sub:∀b∈G'.M,b∈G.M:=λb hb=>(O5.mp hb).1;have mm:∀{x:PV} {v:V},Rep C.K G H x v->Rep C.K G' H x v:=λr=>Rep.mono (G':=G') (λ_ _ _ e=>e) (λb hb=>.inl (sub b hb)) (λ_ _ e=>e) _ _ r;have mms:∀{x:List PV} {v:List V},Reps C.K G H x v->Reps C.K G' H x v:=λr=>Reps.mono (G':=G') (λ_ _ _ e=>e) (λb hb=>.inl (sub b hb)) (λ_ _ e=>e) _ _ r
  refine⟨G',{
   frame:=S.frame
   sub:=λb hb=>S.sub b (sub b hb)
   sup:=λb hb=>O5.mpr ⟨S.sup b hb,ju (show b≠a from λz=>h2 (by grind))⟩
   pots:=λp hp=>⟨O5.mpr ⟨(S.pots p hp).1,ju (show p≠a from λz=>h3 (by grind))⟩,C.T.more (S.pots p hp).2 λb hb=>.inl (sub b hb)⟩
   pre:=S.pre
   mu:=λb hb=>S.mu b (sub b hb)
   slots:=λj s es=>?_
   inj:=λj k xs' ys b e1 e2 e3 e4=>?_
   p0:=S.p0
   len:=by rw[K1];exact S.len
   newp:=S.newp },⟨λ_ _ _ e=>e,λb hb=>.inl (sub b hb),λ_ _ e=>e⟩⟩
  ·by_cases hj:i=j
   ·subst hj;rw[L7 (E6.mp ex).1] at es;cases es;exact⟨.ref a,ev,a,vs,rfl,⟨λz=>by simpa using(O5.mp z).2,h4⟩,mms r⟩
   ·rw[M9 hj] at es;have:=S.slots j s es;cases s with
    | v x =>
     obtain⟨v,e1,r⟩:=this;exact⟨v,e1,mm r⟩
    | ow kz zs =>
     obtain⟨b,us,e1,g1,g2,g3,g4,r⟩:=this;have hba:b≠a:=λz=>hj (S.inj i j (.lst,xs) (kz,zs) a ex es ev (by rw[e1,z]));exact⟨b,us,e1,O5.mpr ⟨g1,by simpa using hba⟩,g2,g3,g4,mms r⟩
  ·have back:∀(j:Nat) (zs:OK×List PV),(env.set i (some (.v (.lst xs))))[j]?=some (some (Slot.ow zs.1 zs.2))->env[j]?=some (some (.ow zs.1 zs.2)):=by
    intro j zs h
    by_cases hj:i=j
    ·grind
    ·grind
   exact S.inj j k xs' ys b (back j _ e1) (back k _ e2) e3 e4
 ·exact⟨G,S,Ext.refl⟩
def v5 (i:Nat)(p:pS):pS:=λD env n=>p D (EN i env) n
theorem EO (i:Nat)(h:QS T np K F st p1):QS T np K F st (v5 i p1):=by
 obtain⟨t,a1,a2⟩:=h;refine⟨t,a1,λC G σ H env n PD D hK hT hn S hp L=>?_⟩;obtain⟨G',S',x'⟩:=S.freeze i;exact a2 C G' σ H _ n PD D hK hT hn S' hp (L.ext x')
end
end Pu
end
section
namespace Pu
open PySem PySem.Spec L2
def Av (N:List Str)(xs:List PV):Env:=xs.map (λx=>some (.v x))++Bw (N.length-xs.length) none
def fnP (N ps:List Str)(body:pS):pF:=λxs n R=>xs.length=ps.length/\body ⟨λ_ m=>R .non m,R,λ_ _=>False,λ_ _=>False⟩ (Av N xs) n
theorem Kh (hp:∀p∈G.pots,p∈G.M/\T.at_ G.M H p n)(hm:∀a∈G.M,∃o,H a=some o/\MutO o)(hh:T.has G.pots)(r:Reps K G H xs vs) :
   SR ⟨K,T,G.M,G.pots,H,np⟩ G (L2.start N vs) H (Av N xs) n where
 frame b o _ e:=e
 sub a ha:=.inl ha
 sup a ha:=ha
 pots:=hp
 pre:=⟨[],by simp,.inl rfl⟩
 mu:=hm
 slots i s e:=by
  unfold Av at e
  by_cases hi:i<xs.length
  ·rw[r0 (by simpa using hi),K6] at e;cases ex:xs[i]? with
   |none=>rw[ex] at e;cases e
   | some x =>
    rw[ex] at e;cases e;obtain⟨v,ev,rv⟩:=r.get' ex;refine⟨v,?_,rv⟩;unfold L2.start;rw[r0 (by rw[B1,<- r.length];exact hi),K6,ev]
    rfl
  ·rw[q8 (by simpa using hi),FM] at e
   split at e <;> cases e
 inj i j xs' ys a e1:=by
  exfalso
  unfold Av at e1
  by_cases hi:i<xs.length
  ·rw[r0 (by simpa using hi),K6] at e1;cases ex:xs[i]? with
   |none=>rw[ex] at e1;cases e1
   |some x=>rw[ex] at e1;cases e1
  ·rw[q8 (by simpa using hi),FM] at e1
   split at e1 <;> cases e1
 p0:=⟨λp h=>(hp p h).1,hh⟩
 len:=by unfold Av L2.start;simp[r.length]
 newp p h hn:=absurd h hn
section
variable {P:D3}{w:C3}{K:A7}{mg:Str->Option A3}{base:B5}{T:PotK}
theorem bd1 {P:List A3->Prop}(h:∀a,P [a])(us:List A3)(e:us.length=1):P us:=by
 obtain⟨a,rfl⟩:=List.length_eq_one_iff.mp e;exact h a
theorem bdS {P:List A3->Prop}(h:∀a us,us.length=n->P (a::us))(us:List A3)(e:us.length=n+1):P us:=by
 obtain⟨a,us,rfl⟩:=List.exists_cons_of_length_eq_add_one e;exact h a us (Nat.succ.inj e)
theorem bd2 {P:List A3->Prop}(h:∀a b,P [a,b])(us:List A3)(e:us.length=2):P us:=bdS (λa us e=>bd1 (P:=λus=>P (a::us)) (h a) us e) us e
theorem bd3 {P:List A3->Prop}(h:∀a b c,P [a,b,c])(us:List A3)(e:us.length=3):P us:=bdS (λa us e=>bd2 (P:=λus=>P (a::us)) (h a) us e) us e
theorem bd4 {P:List A3->Prop}(h:∀a b c d,P [a,b,c,d])(us:List A3)(e:us.length=4):P us:=bdS (λa us e=>bd3 (P:=λus=>P (a::us)) (h a) us e) us e
theorem bd5 {P:List A3->Prop}(h:∀a b c d e,P [a,b,c,d,e])(us:List A3)(e:us.length=5):P us:=bdS (λa us e=>bd4 (P:=λus=>P (a::us)) (h a) us e) us e
theorem fn_ok (F0:Fn0 K mg x st)(sc:Z4 N ps (K2 st))
   (bd:∀(kV doc pm:A3) (an:Option A0) (jp ct:A3) (us:List A3),us.length=ps.length->bindArgs (W7 x x (k7 st) (T5 st) (K2 st) .none kV doc pm an jp ct) ⟨us,[]⟩=pure (ps.zip us))
   (h:∀(f:A0) (jp:A3) (A:E8) (outer:List PySem.Env) (s:A5) (H:Hp) (E:XK),Room k (A.deeper (FU x (K2 st) s.heap.objs.size f jp))->
     QSs T false K (λ_:Unit=>(cxOf CX0 P w K mg base N x (K2 st) f jp A outer s H E).nox) (T5 st) body) :
   Kn P w K mg base x (k+1) ps (E7 K T (fnP N ps body)):=by
 refine F0.ok sc (λvs H Q E h=>?_) bd (λf jp A outer s H vs Q E hr hsp=>?_)
 ·obtain⟨G,xs,n,R,_,_,_,r,hf,_⟩:=h;rw[<- r.length];exact hf.1
 ·obtain⟨t,h1,h2⟩:=h f jp A outer s H E hr;obtain⟨G,xs,n,R,hp,hm,hh,r,hf,k'⟩:=hsp;refine⟨t,h1 (),?_⟩;have S0:=Kh (N:=N) (np:=false) hp hm hh r
  have fin:∀(x:PV) (n':Nat) (v:V) (G':Gh) (σ:St) (H':Hp) (env:Env),R x n'->SR ⟨K,T,G.M,G.pots,H,false⟩ G' σ H' env n'->Rep K ⟨G.M,G'.pots⟩ H' x v->Q v H':=by
   intro x n' v G' σ H' env rr S' rv
   have ep:G'.pots=G.pots:=by
    obtain⟨l,el,hl⟩:=S'.pre;rcases hl with hl|hl
    ·rw[el,hl,Q8]
    ·cases hl
   rw[ep] at rv;exact k' _ _ _ _ rr rv (λp hp'=>T.more (S'.pots p (by rw[ep];exact hp')).2 λa ha=>.inl (S'.sup a ha)) S'.frame
  refine h2 _ G _ H _ n _ _ rfl rfl rfl S0 hf.2 ⟨λenv n' G' σ H' q S' _=>?_,λx n' v G' σ H' env q S' rv _=>fin x n' v G' σ H' env q S' rv,λ_ _ _ _ _ q=>q.elim,λ_ _ _ _ _ q=>q.elim⟩;exact fin .non n' .non G' σ H' env q S' rfl
theorem law_ok (F0:Fn0 K mg x st)(sc:Z4 N [y] (K2 st))
   (bd:∀(kV doc pm:A3) (an:Option A0) (jp ct:A3) (us:List A3),us.length=[y].length->bindArgs (W7 x x (k7 st) (T5 st) (K2 st) .none kV doc pm an jp ct) ⟨us,[]⟩=pure ([y].zip us))
   (h:∀(f:A0) (jp:A3) (A:E8) (outer:List PySem.Env) (s:A5) (H:Hp) (E:XK),Room k (A.deeper (FU x (K2 st) s.heap.objs.size f jp))->
     QSs T true K (λ_:Unit=>(cxOf CX0 P w K mg base N x (K2 st) f jp A outer s H E).nox) (T5 st) body)
   (hlaw:∀ns:List Int,ns.length<=63->body ⟨λ_ _=>False,λr _=>r=.bl true,λ_ _=>False,λ_ _=>False⟩ (Av N [.scr ns]) 0) (h0:T.has []:=by trivial) :
   Kn P w K mg base x (k+1) [y] (Ey K):=by
 refine F0.ok sc (λvs H Q E h=>?_) bd (λf jp A outer s H vs Q E hr hsp=>?_)
 ·obtain⟨a,ns,rfl,_⟩:=h
  rfl
 ·obtain⟨t,h1,h2⟩:=h f jp A outer s H E hr;obtain⟨a,ns,rfl,hS,hl,hO,q⟩:=hsp;refine⟨t,h1 (),?_⟩
  let G:Gh:=⟨[],[]⟩
  have r:Reps K G H [.scr ns] [.ref a]:=by
   refine .one ⟨a,rfl,?_⟩;rcases hS with(hS|⟨o,hS⟩)|hS
   ·rcases hO a with z|⟨o,xs,z⟩
    ·rw[z] at hS;cases hS
    ·rw[z] at hS;cases hS
   ·exact .inl ⟨by simp[G],o,hS⟩
   ·exact .inr hS
  have S0:=Kh (T:=T) (N:=N) (np:=true) (n:=0) (G:=G) (λp hp=>nomatch hp) (λa ha=>nomatch ha) h0 r;refine h2 _ G _ H _ 0 _ _ rfl rfl rfl S0 (hlaw ns hl) ⟨λ_ _ _ _ _ q=>q.elim,λx n' v G' σ H' env qq S' rv _=>?_,λ_ _ _ _ _ q=>q.elim,λ_ _ _ _ _ q=>q.elim⟩;subst qq;obtain rfl:v=.bl true:=rv;exact q H'
end
structure Dv (own seed go:Int):Prop where
 o0:0<=own
 s0:0<=seed
 s1:seed<2 ^ 62
 g0:0<=go
 g1:go<=2 ^ 40
def PotAt (H:Hp)(p:A0)(n:Nat):Prop:=∃own seed go,H p=some (.lst [.int own,.int seed,.int go])/\Dv own seed go/\go<=(n:Int)
def potL:PotK where
 at_:=λ_ H p n=>PotAt H p n
 mono:=λ⟨own,seed,go,a,b,c⟩ h=>⟨own,seed,go,a,b,by omega⟩
 keep:=λ⟨own,seed,go,a,b,c⟩ e _=>⟨own,seed,go,e.trans a,b,c⟩
 more:=λh _=>h
 mu:=λ⟨own,seed,go,a,b,c⟩=>⟨_,a,trivial⟩
def Cb:pF:=λxs n R=>match xs with|[.pot _,.int m]=>(0<m/\m<1000000/\n<1000000000)/\∀d:Int,0<=d->d<m->R (.int d) (n+1)|_=>False
section
variable {P:D3}{w:C3}{K:A7}{mg:Str->Option A3}{base:B5}
def spDraw:Sp:=λvs H Q _=>∃(p:A0) (own seed go many:Int),vs=[.ref p,.int many]/\H p=some (.lst [.int own,.int seed,.int go])/\Dv own seed go/\go<2 ^ 40/\0<many/\many<1000000/\
 ∀d own' seed' go',0<=d->d<many->Dv own' seed' go'->go'<=go+1->Q (.int d) (upd H p (.lst [.int own',.int seed',.int go']))
theorem PJ (G:Kn P w K mg base x k ps spDraw):Kn P w K mg base x k ps (E7 K potL Cb):=G.imp λvs H Q E h=>by
 obtain⟨G,xs,n,R,hp,hm,_,r,hf,k⟩:=h;unfold Cb at hf
 split at hf
 ·rename_i kk m;obtain⟨v,rr,rfl,rv,u,r2,rfl,ru,rfl⟩:=r;obtain⟨p,ep,rfl⟩:=rv;obtain rfl:u=.int m:=ru;have pin:p∈G.pots:=J9 ep;obtain⟨pM,own,seed,go,e,ok,hg⟩:=hp p pin;refine⟨p,own,seed,go,m,rfl,e,ok,by omega,hf.1.1,hf.1.2.1,λd own' seed' go' d0 d1 ok' g'=>?_⟩;refine k _ _ _ _ (hf.2 d d0 d1) rfl (λq hq=>?_) λb o hb eb=>?_
  ·by_cases hqp:q=p
   ·subst hqp;exact⟨own',seed',go',F9,ok',by omega⟩
   ·obtain⟨_,o2,s2,g2,e2,ok2,hg2⟩:=hp q hq;exact⟨o2,s2,g2,by rw[C0 hqp];exact e2,ok2,by omega⟩
  ·rw[C0 (λz=>hb (by grind))];exact eb
 ·grind
end
section
variable {ι:Type}{K:A7}{F:ι->Cx}{e:Expr}{es:List Expr}{st:Stmt}{pos:Pos}{pl:pA}{pe pa pb:pE}
theorem SR.pot {C:Ct}{G:Gh}{σ:St}{H:Hp}{env:Env}{n:Nat}(S:SR C G σ H env n)(hn:C.np=true)(hT:C.T=potL){p:A0}{own seed:Int}(h:H p=none)(ok:Dv own seed 0) :
   SR C ⟨p::G.M,G.pots++[p]⟩ σ (upd H p (.lst [.int own,.int seed,.int 0])) env n:=by
 have S1:=S.more (vs:=[.int own,.int seed,.int 0]) h
 have mm:∀{x:PV} {v:V} {H:Hp},Rep C.K ⟨p::G.M,G.pots⟩ H x v->Rep C.K ⟨p::G.M,G.pots++[p]⟩ H x v:=λr=>Rep.mono (G:=⟨p::G.M,G.pots⟩) (G':=⟨p::G.M,G.pots++[p]⟩) (λ_ _ _ e=>e) (λ_ ha=>.inl ha) (λk q e=>by
  obtain⟨hk,_⟩:=E6.mp e;show(G.pots++[p])[k]?=_
  rw[r0 hk];exact e) _ _ r
 have mms:∀{x:List PV} {v:List V} {H:Hp},Reps C.K ⟨p::G.M,G.pots⟩ H x v->Reps C.K ⟨p::G.M,G.pots++[p]⟩ H x v:=λr=>Reps.mono (G:=⟨p::G.M,G.pots⟩) (G':=⟨p::G.M,G.pots++[p]⟩) (λ_ _ _ e=>e) (λ_ ha=>.inl ha) (λk q e=>by
  obtain⟨hk,_⟩:=E6.mp e;show(G.pots++[p])[k]?=_
  rw[r0 hk];exact e) _ _ r
 have pM:=S.fresh h
 exact {
  frame:=S1.frame
  sub:=S1.sub
  sup:=S1.sup
  pots:=λq hq=>by
   rcases E5.mp hq with z|z
   ·exact S1.pots q z
   ·rw[E3.mp z];refine⟨C6,?_⟩;rw[hT];exact⟨own,seed,0,F9,ok,by omega⟩
  pre:=by
   obtain⟨l,el,_⟩:=S1.pre;have el':G.pots=C.pots0++l:=el;exact⟨l++[p],by rw[el',O9],.inr hn⟩
  mu:=S1.mu
  slots:=λi s e=>by
   cases s with
   | v x =>
    obtain⟨v,ev,r⟩:=S1.slots i _ e;exact⟨v,ev,mm r⟩
   | ow kk xs =>
    obtain⟨b,us,ev,h1,h2,h3,h4,r⟩:=S1.slots i _ e;obtain⟨b',us',ev',g1,_⟩:=S.slots i _ e;rw[ev] at ev';cases ev';refine⟨b,us,ev,h1,h2,λz=>?_,h4,mms r⟩;rcases E5.mp z with z|z
    ·exact h3 z
    ·rw[E3.mp z] at g1;exact pM g1
  inj:=S1.inj
  p0:=⟨S1.p0.1,C.T.hasM S1.p0.2 λz=>pM (S.pots p z).1⟩
  len:=S1.len
  newp:=λq hq hn' hM=>by
   rcases E5.mp hq with z|z
   ·exact S1.newp q z hn' hM
   ·rw[E3.mp z] at hM
    exact pM (S.sup p hM) }
end
end Pu
end
section
namespace Pu
open PySem PySem.Spec L2
section
variable {T:PotK}{np:Bool}{ι:Type}{K:A7}{F:ι->Cx}{e a b c:Expr}{es:List Expr}{pe pa pb pc:pE}{pos:Pos}{pl pr:pA}
def j9:List PV->Option (List Str)
 |[]=>some []
 |.str b::xs=>(j9 xs).map (b::·)
 |_=>none
theorem Ki:∀{xs:List PV} {vs:List V} {bs:List Str},j9 xs=some bs->Reps K G H xs vs->vs=bs.map V.str
 |[],vs,bs,h,r=>by cases h;exact r
 | .str b :: xs, vs, bs, h, r => by
  obtain⟨v,t,e,rv,rt⟩:=r;cases e1:j9 xs with
  |none=>simp[j9,e1] at h
  | some cs =>
   have:b::cs=bs:=by simpa[j9,e1] using h
   subst this;rw[e,show v=.str b from rv,Ki e1 rt]
   rfl
 |.non::_,_,_,h,_=>by cases h
 |.int _::_,_,_,h,_=>by cases h
 |.bl _::_,_,_,h,_=>by cases h
 |.ty _::_,_,_,h,_=>by cases h
 |.pot _::_,_,_,h,_=>by cases h
 |.tup _::_,_,_,h,_=>by cases h
 |.lst _::_,_,_,h,_=>by cases h
 |.dct _ _::_,_,_,h,_=>by cases h
 |.fdt _ _::_,_,_,h,_=>by cases h
 |.scr _::_,_,_,h,_=>by cases h
theorem Kj:∀bs:List Str,j9 (bs.map PV.str)=some bs
 |[]=>rfl
 |b::bs=>by simp[j9,Kj bs]
def GU:PV->Option Bool
 |.non=>some false
 |.bl b=>some b
 |.int i=>some (i != 0)
 |.str z=>if z.length<=1000000 then some ((z.length:Int) != 0) else none
 |.lst xs=>some (!xs.isEmpty)
 |.tup xs=>some (!xs.isEmpty)
 |_=>none
def EQ (pe:pE):pT:=λenv n R=>pe env n λx je n1=>match GU x with|some b=>R b je n1|none=>False
theorem Kk (r:Reps K G H xs vs):(!vs.isEmpty)=!xs.isEmpty:=by
 have:=r.length;cases xs <;> cases vs <;> simp_all
theorem tru_of {b:Bool}(h:GU x=some b)(r:RdV K G H x v):TruV K v H b:=by
 cases x with
 |non=>rw[r.non];cases h;rfl
 |bl c=>rw[r.bl];cases h;rfl
 |int i=>rw[r.int];cases h;rfl
 | str z =>
  rw[r.str]
  by_cases hz:z.length<=1000000
  ·have h':(if z.length<=1000000 then some ((z.length:Int) != 0) else none)=some b:=h;rw[jw hz] at h';cases h';exact⟨mil hz,rfl⟩
  ·have h':(if z.length<=1000000 then some ((z.length:Int) != 0) else none)=some b:=h;rw[jy hz] at h';cases h'
 |lst xs=>obtain⟨a,vs,ev,hq,rs⟩:=r.lst;rw[ev];cases h;exact .inl ⟨vs,hq,(Kk rs).symm⟩
 |tup xs=>obtain⟨a,vs,ev,hq,rs⟩:=r.tup;rw[ev];cases h;exact .inr (.inl ⟨vs,hq,(Kk rs).symm⟩)
 |_=>cases h
theorem PL (h:QR T K F e pe)(he:∀z whole,isTrue e (F z).env whole=(do let v ← whole;e9 e.pos;W4 [v] (truthy v)):=by intro _ _;rfl)(hK:∀z,(F z).K=K:=by intro _;rfl):QT T K F e (EQ pe):=by
 obtain⟨t,a1,a2⟩:=h;refine⟨_,λz=>hK z▸Oh (a1 z) (he z),λC G σ H env n R Q hK hT S hp k=>?_⟩;refine a2 C G σ H env n _ _ hK hT S hp λx je n1 v H1 q1 S1 r1 f1=>?_
 split at q1
 ·rename_i b eb;exact⟨b,hK▸tru_of eb (r1.rd S1),k _ _ _ _ q1 S1 f1⟩
 grind
def wNeg:w1:=λx R=>match x with|.int i=>R (.int (-i))|_=>False
theorem GV (h:QE T K F a pa):QE T K F (.UnaryOp .USub a pos) (qUn wNeg pa):=by
 obtain⟨t,a1,a2⟩:=h.r;refine⟨_,λz=>pe_un Jj (a1 z),ok_un (λG H x v R Q hf rx hw k=>?_) a2⟩;unfold wNeg at hw
 split at hw
 ·exact⟨_,rx.int,k _ _ _ hw (Same.refl _) rfl⟩
 ·exact hw.elim
end
def n6 (i:Nat)(pe:pE):pE:=λenv n R=>(∃xs,env[i]?=some (some (.ow .lst xs)))/\GR i pe env n R
def GX (i:Nat)(pe:pE):pE:=λenv n R=>(∃xs,env[i]?=some (some (.ow .lst xs)))/\GS i pe env n R
end Pu
end
section
namespace Pu
open PySem PySem.Spec L2
theorem GY {te:pE}{rest:Env}(f:PV->PV):∀(xs:List PV) (s0:Option Slot) (n:Nat) (R:List PV->Nat->Prop),(∀x∈xs,∀m Q,Q (f x) (some (.v x)::rest) m->te (some (.v x)::rest) m Q)->R (xs.map f) n->Q3 (gN 0) qTru te xs (s0::rest) n R
 |[],_,_,_,_,h=>h
 | x :: xs, s0, n, R, ht, h => by
  show te (some (.v x)::rest) n _;refine ht x C6 n _ ?_;exact GY f xs _ n _ (λy hy=>ht y (C9 _ hy)) h
theorem K9 {g:pG}{b:pS}{D:Q4}(I:Nat->Env->Nat->Prop):∀(xs:List PV) (k:Nat) (env:Env) (n:Nat),I k env n->
   (∀(i:Nat) x env n (N:Env->Nat->Prop),xs[i]?=some x->I (k+i) env n->(∀e m,I (k+i+1) e m->N e m)->g x env λje=>b { D with nx:=N,ct:=N,bk:=D.nx } je n)->(∀env n,I (k+xs.length) env n->D.nx env n)->forL g b D xs env n
 |[],k,env,n,h0,_,hd=>hd env n h0
 | x :: xs, k, env, n, h0, hs, hd => by
  show g x env λje=>b { D with nx:=λe m=>forL g b D xs e m,ct:=λe m=>forL g b D xs e m,bk:=D.nx } je n;refine hs 0 x env n _ rfl h0 λe m h1=>?_;refine K9 I xs (k+1) e m h1 (λi y env n N e1 h2 h3=>?_) λenv n h2=>hd env n (by rw[L8,show k+(xs.length+1)=k+1+xs.length by omega];exact h2);refine hs (i+1) y env n N (by simpa using e1) (by rw[show k+(i+1)=k+1+i by omega];exact h2) λe m h4=>h3 e m (by rw[show k+1+i+1=k+(i+1)+1 by omega];exact h4)
theorem o6 {j i:Nat}{lo:Int}{x:PV}(h:((D1 j).map λ(k:Nat)=>PV.int (lo+k))[i]?=some x):i<j/\x=.int (lo+i):=by grind
theorem o7:((D1 j).map λ(k:Nat)=>PV.int (lo+k)).length=j:=by simp
theorem ER {α:Type}{xs:List α}{d:Int}(h0:0<=d)(h1:d<xs.length):∃x,x∈xs/\atI xs d=some x:=by
 obtain⟨x,e1,e2⟩:=GE h0 h1;exact⟨x,J9 e1,e2⟩
theorem Bc (a b:Int):eqP (.int a) (.int b)=decide (a=b):=rfl
theorem Aw (a b:Str):eqP (.str a) (.str b)=decide (a=b):=rfl
theorem eqP_ll (xs ys:List PV):eqP (.lst xs) (.lst ys)=eqPs xs ys:=rfl
theorem eqP_tt (xs ys:List PV):eqP (.tup xs) (.tup ys)=eqPs xs ys:=rfl
theorem Kl (x y:PV)(xs ys:List PV):eqPs (x::xs) (y::ys)=(eqP x y&&eqPs xs ys):=rfl
theorem PM:eqPs [] []=true:=rfl
theorem if_t {A B:Prop}(h:b=true)(q:A):if b=true then A else B:=by rw[jw h];exact q
theorem if_f {A B:Prop}{b:Bool}(h:b=false)(q:B):if b=true then A else B:=by grind
end Pu
end
section
namespace L2
open PySem PySem.Spec PyProof.Rows
def keyD:Key->PyData
 |.inl i=>.int i
 |.inr x=>.str x
mutual
def RdD (H:Hp):PyData->V->Prop
 |.none,v=>v=.non
 |.bool b,v=>v=.bl b
 |.int i,v=>v=.int i
 |.str x,v=>v=.str x
 |.list xs,v=>∃a vs,v=.ref a/\H a=some (.lst vs)/\RdDs H xs vs
 |.tuple xs,v=>∃a vs,v=.ref a/\H a=some (.tup vs)/\RdDs H xs vs
 |.dict ji,v=>∃a ws,v=.ref a/\H a=some (.dK ws)/\RdKv H ji ws
def RdDs (H:Hp):List PyData->List V->Prop
 |[],vs=>vs=[]
 |d::ds,vs=>∃v r,vs=v::r/\RdD H d v/\RdDs H ds r
def RdKv (H:Hp):List (PyData×PyData)->List (Key×V)->Prop
 |[],ws=>ws=[]
 |(k,d)::r,ws=>∃q w ws',ws=(q,w)::ws'/\k=keyD q/\RdD H d w/\RdKv H r ws'
end
section
variable {P:D3}{w:C3}{H:Hp}{h:B5}
mutual
theorem GZ (hok:HOk P w H h)(sy:NS H):∀(d:PyData) (v:V) (u:A3),RdD H d v->RelV v u->∃as,Reads h u d as/\N7∉as
 | .none, v, u, r, e => by
  obtain rfl:v=.non:=r;obtain rfl:u=.none:=e;exact⟨[],.none,nofun⟩
 | .bool b, v, u, r, e => by
  obtain rfl:v=.bl b:=r;obtain rfl:u=.bool b:=e;exact⟨[],.bool b,nofun⟩
 | .int i, v, u, r, e => by
  obtain rfl:v=.int i:=r;obtain⟨t,rfl⟩:=e;exact⟨[],.int i t,nofun⟩
 | .str x, v, u, r, e => by
  obtain rfl:v=.str x:=r;obtain⟨t,rfl⟩:=e;exact⟨[],.str x t,nofun⟩
 | .list xs, v, u, r, e => by
  obtain⟨a,vs,rfl,ha,rs⟩:=r;obtain rfl:u=.ref a:=e;obtain⟨_,jh,n,rv,ho⟩:=hok a _ ha;obtain⟨as,rr,ns⟩:=G_ hok sy xs vs jh rs rv;refine⟨a::as,.list ho rfl rfl rr,λz=>?_⟩;rcases C8.mp z with z|z
  ·rw[<- z] at ha;rcases sy with sy|⟨o,u,sy⟩ <;> rw[sy] at ha <;> cases ha
  ·exact ns z
 | .tuple xs, v, u, r, e => by
  obtain⟨a,vs,rfl,ha,rs⟩:=r;obtain rfl:u=.ref a:=e;obtain⟨_,jh,rv,ho⟩:=hok a _ ha;obtain⟨as,rr,ns⟩:=G_ hok sy xs vs jh rs rv;obtain⟨o,e1,e2,n,e3⟩:=ho;exact⟨as,.tuple e1 (BK e2).1 e3 rr,ns⟩
 | .dict ji, v, u, r, e => by
  obtain⟨a,ws,rfl,ha,rs⟩:=r;obtain rfl:u=.ref a:=e;obtain⟨_,hs,us,rv,o,es,ep,e1,e2,e3,_,e5,_⟩:=hok a _ ha;obtain⟨as,bs,r1,r2,n1,n2⟩:=Km hok sy ji ws us es.toList rs rv e5;refine⟨a::as++bs,.dict e1 e2.1 e3 r1 r2,λz=>?_⟩;rcases E5.mp z with z|z
  ·rcases C8.mp z with z|z
   ·rw[<- z] at hs;exact absurd hs (by decide)
   ·exact n1 z
  ·exact n2 z
theorem G_ (hok:HOk P w H h)(sy:NS H):∀(ds:List PyData) (vs:List V) (us:List A3),RdDs H ds vs->Vals vs us->∃as,ReadsAll h us ds as/\N7∉as
 | [], vs, us, r, e => by
  obtain rfl:vs=[]:=r;cases e;exact⟨[],.nil,nofun⟩
 | d :: ds, vs, us, r, e => by
  obtain⟨v,r',rfl,r1,r2⟩:=r;cases e with
  | cons e1 e2 =>
   obtain⟨as,a1,a2⟩:=GZ hok sy d v _ r1 e1;obtain⟨bs,b1,b2⟩:=G_ hok sy ds r' _ r2 e2;exact⟨as++bs,.cons a1 b1,λz=>(E5.mp z).elim a2 b2⟩
theorem Km (hok:HOk P w H h)(sy:NS H):∀(ji:List (PyData×PyData)) (ws:List (Key×V)) (us:List (Key×A3)) (es:List DictEntry),RdKv H ji ws->KV ws us->Pairs (N1 P w) es us->
   ∃as bs,ReadsAll h (es.map (·.key)) (ji.map (·.1)) as/\ReadsAll h (es.map (·.val)) (ji.map (·.2)) bs/\N7∉as/\N7∉bs
 | [], ws, us, es, r, e, p => by
  obtain rfl:ws=[]:=r;cases e;cases p;exact⟨[],[],.nil,.nil,nofun,nofun⟩
 | (k, d) :: ji, ws, us, es, r, e, p => by
  obtain⟨q,w1,ws',rfl,rfl,r1,r2⟩:=r;cases e with
  | cons e1 e2 =>
   cases p with
   | cons p1 p2 p3 =>
    obtain⟨as,bs,a1,a2,a3,a4⟩:=Km hok sy ji ws' _ _ r2 e2 p3;obtain⟨e1,e1'⟩:=e1;dsimp only at e1 e1';obtain⟨cs,c1,c2⟩:=GZ hok sy d w1 _ r1 e1';rw[<- e1] at p1;refine⟨[]++as,cs++bs,.cons ?_ a1,.cons (by dsimp only;rw[p2];exact c1) a2,a3,λz=>(E5.mp z).elim c2 a4⟩;rcases j8 p1 with⟨i,t,rfl,e⟩|⟨x,t,rfl,e⟩
    ·dsimp only;rw[e];exact .int i t
    ·dsimp only;rw[e];exact .str x t
end
end
section
variable {X:Cx}{jd:List (A0×Obj)}{σ:St}{H:Hp}{s:A5}
theorem PN (hr:Room k X.A):M6 X (.builtin "repr") (λvs H Q=>∃v d,vs=[v]/\RdD H d v/\d.showable=true/\d.depth<=40/\d.shown.length<=B8/\Q (.str d.shown) H):=by
 intro jd s σ H vs us Q I rv h;obtain⟨v,d,rfl,r,h1,h2,h3,q⟩:=h;obtain⟨u,rfl,ru⟩:=rv.one;obtain⟨as,rr,ns⟩:=GZ I.hok I.nos d v u r ru;have fin:∀(h':B5) (t:Tok) (tk:Tok),(∀b o,s.heap.get? b=some o->h'.get? b=some o)->∃v' H',Inv X jd σ H' { s with heap:=h',toks:=tk }/\RelV v' (.str d.shown t)/\Q v' H':=λh' t tk kp=>⟨.str d.shown,H,I.kept kp,⟨t,rfl⟩,q⟩;cases rr with
 |none=>exact P.repr_of_none (fin s.heap _ _ λ_ _ z=>z)
 |bool b=>exact P.repr_of_bool (by cases b <;> exact fin s.heap _ _ λ_ _ z=>z)
 |int i t=>exact P.repr_of_int (by simpa[PyData.showable] using h1) (fin s.heap _ _ λ_ _ z=>z)
 |str x t=>exact P.repr_of_str (fin s.heap _ _ λ_ _ z=>z) h3
 |list e1 e2 e3 e4=>exact repr_of_reads' (.list e1 e2 e3 e4) h1 (λ_=>ns) hr.gd (by have:=hr.units;omega) (λ_ _ z=>z) (λh' u tk kp=>fin h' u tk kp) h3
 |tuple e1 e2 e3 e4=>exact repr_of_reads' (.tuple e1 e2 e3 e4) h1 (λ_=>ns) hr.gd (by have:=hr.units;omega) (λ_ _ z=>z) (λh' u tk kp=>fin h' u tk kp) h3
 |dict e1 e2 e3 e4 e5=>exact repr_of_reads' (.dict e1 e2 e3 e4 e5) h1 (λ_=>ns) hr.gd (by have:=hr.units;omega) (λ_ _ z=>z) (λh' u tk kp=>fin h' u tk kp) h3
end
end L2
namespace Pu
open PySem PySem.Spec L2
mutual
/-- what a thing holds, for repr -/
def dat:PV->Option PyData
 |.non=>some .none
 |.bl b=>some (.bool b)
 |.int i=>some (.int i)
 |.str x=>some (.str x)
 |.tup xs=>match dats xs with|some ds=>some (.tuple ds)|none=>none
 |.lst xs=>match dats xs with|some ds=>some (.list ds)|none=>none
 |.dct ks xs=>match dats xs with|some ds=>some (.dict ((ks.map keyD).zip ds))|none=>none
 |_=>none
def dats:List PV->Option (List PyData)
 |[]=>some []
 |x::xs=>match dat x,dats xs with|some d,some ds=>some (d::ds)|_,_=>none
end
theorem kv_rd:∀(ji:List (Key×V)) (ds:List PyData),RdDs H ds (ji.map (·.2))->RdKv H (((ji.map (·.1)).map keyD).zip ds) ji
 | [], ds, r => by
  cases ds with
  |nil=>exact rfl
  |cons d ds=>obtain⟨v,r',e,_⟩:=r;cases e
 | (q, w) :: ji, ds, r => by
  cases ds with
  |nil=>exact(List.cons_ne_nil _ _ r).elim
  | cons d ds =>
   obtain⟨v,r',e,r1,r2⟩:=r;cases e;exact⟨q,w,ji,rfl,rfl,r1,kv_rd ji ds r2⟩
section
variable {K:A7}{G:Gh}{H:Hp}
mutual
theorem Ko:∀(x:PV) (v:V) (d:PyData),Rep K G H x v->dat x=some d->RdD H d v
 |.non,v,d,r,e=>by cases e;exact r
 |.bl b,v,d,r,e=>by cases e;exact r
 |.int i,v,d,r,e=>by cases e;exact r
 |.str x,v,d,r,e=>by cases e;exact r
 | .tup xs, v, d, r, e => by
  obtain⟨a,vs,rfl,t,rs⟩:=r;rw[dat] at e;cases ed:dats xs with
  |none=>rw[ed] at e;cases e
  |some ds=>rw[ed] at e;cases e;exact⟨a,vs,rfl,t.2,Dw xs vs ds rs ed⟩
 | .lst xs, v, d, r, e => by
  obtain⟨a,vs,rfl,t,rs⟩:=r;rw[dat] at e;cases ed:dats xs with
  |none=>rw[ed] at e;cases e
  |some ds=>rw[ed] at e;cases e;exact⟨a,vs,rfl,t.2,Dw xs vs ds rs ed⟩
 |.ty _,v,d,r,e=>by cases e
 |.pot _,v,d,r,e=>by cases e
 |.scr _,v,d,r,e=>by cases e
 |.fdt _ _,v,d,r,e=>by cases e
 | .dct ks xs, v, d, r, e => by
  obtain⟨a,ji,rfl,_,ha,hk,rs⟩:=r;rw[dat] at e;cases ed:dats xs with
  |none=>rw[ed] at e;cases e
  |some ds=>rw[ed] at e;cases e;exact⟨a,ji,rfl,ha,hk▸kv_rd ji ds (Dw xs _ ds rs ed)⟩
theorem Dw:∀(xs:List PV) (vs:List V) (ds:List PyData),Reps K G H xs vs->dats xs=some ds->RdDs H ds vs
 |[],vs,ds,r,e=>by cases e;exact r
 | x :: xs, vs, ds, r, e => by
  obtain⟨v,r',rfl,r1,r2⟩:=r;rw[dats] at e;cases e1:dat x with
  |none=>rw[e1] at e;cases e
  | some d =>
   cases e2:dats xs with
   |none=>rw[e1,e2] at e;cases e
   |some ds'=>rw[e1,e2] at e;cases e;exact⟨v,r',rfl,Ko x v d r1 e1,Dw xs r' ds' r2 e2⟩
end
end
def Bd:w1:=λx R=>match dat x with|some d=>d.showable=true/\d.depth<=40/\d.shown.length<=B8/\R (.str d.shown)|none=>False
theorem bt_repr:K5 "repr"=some (.builtin "repr"):=by decide +kernel
section
variable {T:PotK}{ι:Type}{K:A7}{F:ι->Cx}{e:Expr}{pe:pE}{pos:Pos}
theorem Kp (hr:∀z,Room k (F z).A)(hg:∀z,Gl (F z) "repr")(hm:∀z,(F z).mg "repr"=none)(ha:QR T K F e pe)(hs:D8 e=true:=by rfl):QE T K F (.Call (.Name "repr" p) [e] [] pos) (qUn Bd pe):=EI (λz=>PN (hr z)) (λG H x v R Q hf rx hw k=>by
 unfold Bd at hw;cases ed:dat x with
 |none=>rw[ed] at hw;exact hw.elim
 | some d =>
  rw[ed] at hw;obtain⟨h1,h2,h3,q⟩:=hw;refine⟨v,d,rfl,?_,h1,h2,h3,k _ _ _ q (Same.refl _) rfl⟩;rcases rx with rx|⟨a,vs,xs,rfl,rfl,hv,rs⟩
  ·exact Ko x v d rx ed
  ·rw[dat] at ed;cases es:dats xs with
   |none=>rw[es] at ed;cases ed
   |some ds=>rw[es] at ed;cases ed;exact⟨a,vs,rfl,hv,Dw xs vs ds rs es⟩) hg hm bt_repr ha hs
end
end Pu
end
section
namespace HT
open PySem PySem.Spec PyProof.Rows
section
variable {prog:D3}{w:C3}{A:E8}{E:A3->A5->Prop}{s:A5}
theorem PR (n:Nat):C_ none none (-1) (n:Int)=((n:Int)-1,-1):=rfl
theorem PU (n:Nat):Ad ((n:Int)-1) (-1) (-1)=n:=by
 unfold Ad;rw[jy (by decide)];have h1:(- -1:Int)=1:=by decide
 rw[h1]
 by_cases h:(n:Int)-1 > -1
 ·rw[jw h,Int.ediv_one];omega
 ·rw[jy h];omega
theorem PX {n:Nat}(hs:s.heap.IsSliceOf sl .none .none vk)(pk:IsPart vk (some (-1)))
   (h:Q ((n:Int)-1,-1,n) s):A6 (A8 prog w) A (El (.ref sl) (pure (n:Int))) Q E s:=by
 obtain⟨os,hos,hcs,hds⟩:=id hs;unfold El IW;refine A2 (A2 (G7 hos hds (x:=.none) rfl (A2 (G7 hos hds (x:=.none) rfl (A2 (G7 hos hds (x:=vk) rfl (A9 ?_)))))));refine A2 (Dh pk ?_);show A6 _ _ (if((-1:Int) == 0)=true then _ else _) _ _ s;rw[jy (by decide)];refine A2 (Dh .none (A2 (Dh .none (A2 (A9 ?_)))));show A6 _ _ (match C_ none none (-1) (n:Int) with|(lo,hi)=>pure (lo,(-1:Int),Ad lo hi (-1))) _ _ s;rw[PR];show A6 _ _ (pure ((n:Int)-1,(-1:Int),Ad ((n:Int)-1) (-1) (-1))) _ _ s;rw[PU];exact A9 h
theorem Kq {α β:Type}{f g:α->Option β}:∀l:List α,(∀m∈l,f m=g m)->l.filterMap f=l.filterMap g
 |[],_=>rfl
 |x::l,h=>by rw[CM,CM,h x C6,Kq l λm hm=>h m (C9 _ hm)]
theorem PY (xs:Array A3):((D1 xs.size).filterMap λ(m:Nat)=>xs[((xs.size:Int)-1+(m:Int) * -1).toNat]?).toArray=xs.toList.reverse.toArray:=by
 congr 1
 have e:(D1 xs.size).filterMap (λ(m:Nat)=>xs[((xs.size:Int)-1+(m:Int) * -1).toNat]?)=((D1 xs.size).map λk=>xs.size-1-k).filterMap (xs[·]?):=by
  rw[List.filterMap_map];refine Kq _ λm hm=>?_;have:=P1.mp hm;show _=xs[xs.size-1-m]?
  congr 1
  omega
 rw[e,PySem.W.krv_range,List.filterMap_reverse,PySem.W.krv_all]
theorem getItem_tuple_rev (ht:IsTup s.heap t items)(hs:s.heap.IsSliceOf sl .none .none vk)(pk:IsPart vk (some (-1)))
   (h:Q (.ref s.heap.objs.size) { s with heap:=s.heap.push { cls:=.type "tuple",data:=.seq items.toList.reverse.toArray } })
   (hsz:items.size<=B8):A6 (A8 prog w) A (W5 (.ref t) (.ref sl)) Q E s:=by
 have htake:sizeOk (.seq items.toList.reverse.toArray):=by
  show items.toList.reverse.toArray.size<=B8;rw[F5,FR,AU];omega
 obtain⟨os,hos,hcs,hds⟩:=id hs;have hTs:s.TypeIs (.ref sl) "slice":=⟨os,hos,hcs⟩;unfold W5
 try with_reducible refine P8 ?_
 first|refine A2 (A9 ?_)|skip
 refine A2 (wpAny_sequenceKey ht.typeIs (by decide) ?_)
 refine A2 (T9 (name:=C7 "__getitem__") ht.typeIs BC
   (P6 BC ht.typeIs entry_tuple_getitem ?_ (args_tuple_getitem _ _)))
 show A6 _ _ (FZ (.ref t)>>=_) _ _ s;refine A2 (tupleItemsOf_ ht ?_);refine A2 (x5 hTs ?_);rw[jw (by decide)];refine A2 (PX hs pk ?_)
 have hno:¬((((items.size:Int)-1) == 0&&(-1:Int) == 1&&items.size == items.size)=true):=by
  intro q;rw[R0,R0] at q;exact absurd (eq_of_beq q.1.2) (by decide)
 show A6 _ _ (if(((items.size:Int)-1) == 0&&(-1:Int) == 1&&items.size == items.size)=true then _ else _) _ _ s;rw[jy hno,PY]
 first
   |exact A2 (m:=Af _) (R8 (A9 ⟨_,rfl,A9 h⟩) htake)
   |exact A2 (m:=Af _) (R8 (A2 (A9 (A9 ⟨_,rfl,A9 h⟩))) htake)
   |exact A2 (A2 (m:=Af _) (R8 (A9 (A9 ⟨_,rfl,A9 h⟩)) htake))
   |exact A2 (A2 (m:=Af _) (R8 (A9 ⟨_,rfl,A9 h⟩) htake))
end
end HT
namespace L2
open PySem PySem.Spec PyProof.Rows
section
variable {X:Cx}{e st:Expr}{te:TE}{ts:TE}{pos p2:Pos}
def rRev (K:A7):V->Hp->VK->Prop:=λx H Q=>∃a xs,x=.ref a/\((SqL K H a xs/\∀p,H p=none->Q (.ref p) (upd H p (.lst xs.reverse)))\/(SqT K H a xs/\∀p,H p=none->Q (.ref p) (upd H p (.tup xs.reverse))))
def tRev (K:A7)(te ts:TE):TE:=λσ H Q=>te σ H λx H1=>ts σ H1 λy H2=>y=.int (-1)/\rRev K x H2 Q
theorem Vals.rev (r:Vals xs us):Vals xs.reverse us.reverse:=by
 induction r with
 |nil=>exact .nil
 | cons r1 _ ih =>
  rw[CN,CN];exact ih.append (.cons r1 .nil)
theorem pe_rev (he:PE X e te)(hs:PE X st ts):PE X (.Subscript e (.Slice none none (some st) p2) pos) (tRev X.K te ts):=by
 intro jd s σ H Q I h;refine Subscript_ (thn (he jd s σ H _ I h) λv s1 ⟨x,H1,I1,r1,q1⟩=>?_);refine wpAny_Slice ?_;rw[evalPart_none];refine A9 (A9 ?_);rw[evalPart_some];refine thn (hs jd s1 σ H1 _ I1 q1) λvk s3 ⟨y,H3,I3,ry,q3⟩=>?_;obtain⟨rfl,a,xs,rfl,q⟩:=q3;obtain⟨t,rfl⟩:=ry;obtain rfl:v=.ref a:=r1;have I4:Inv X jd σ H3 { s3 with heap:=s3.heap.push { cls:=.type "slice",data:=.fields #[.none,.none,.int (-1) t] } }:=I3.kept (t':=s3.toks) λb ob q=>C1 _ q;show A6 (A8 X.prog X.w) X.A (subscriptTail e (.Slice none none (some st) p2) (.ref a) (.ref s3.heap.objs.size)) (EP X jd σ Q) X.xe { s3 with heap:=s3.heap.push { cls:=.type "slice",data:=.fields #[.none,.none,.int (-1) t] } };rcases q with⟨hq,q⟩|⟨hq,q⟩
 ·obtain⟨jh,r,ht,hz⟩:=I4.list hq;refine tail_any (ops:=[.ref a,.ref s3.heap.objs.size]) ht.isList.typeIs slot_list_getitem.lookup ?_ (by with_unfolding_all rfl);refine wpAny_getItem_list_slice ht.isList (Gc ..) .none .none (.int (-1) t) (by decide) ?_ (by rw[F5];have:=r.length;omega);rw[PySem.W.krv_pick];refine⟨.ref _,_,I4.laid (t':=s3.toks) (o:=.lst xs.reverse) (λb ob q=>C1 _ q) (B7 _) ?_,rfl,q _ (I4.hok.fresh (B7 _))⟩;exact⟨by rw[FR];exact hz,jh.reverse,0,r.rev,F4 _ rfl⟩
 ·obtain⟨jh,r,ht,hz⟩:=I4.tuple hq;refine tail_any (ops:=[.ref a,.ref s3.heap.objs.size]) ht.typeIs PyProof.Rows.slot_tuple_getitem.lookup ?_ (by with_unfolding_all rfl);refine HT.getItem_tuple_rev ht (Gc ..) (.int (-1) t) ?_ (by rw[F5];have:=r.length;omega);refine⟨.ref _,_,I4.laid (t':=s3.toks) (o:=.tup xs.reverse) (λb ob q=>C1 _ q) (B7 _) ?_,rfl,q _ (I4.hok.fresh (B7 _))⟩;exact⟨by rw[FR];exact hz,jh.reverse,r.rev,Z2.new _ _⟩
end
end L2
namespace Pu
open PySem PySem.Spec L2
section
variable {T:PotK}{ι:Type}{K:A7}{F:ι->Cx}{e:Expr}{pe:pE}{pos p2 p3 p4:Pos}
theorem Reps.rev:∀{xs:List PV} {vs:List V},Reps K G H xs vs->Reps K G H xs.reverse vs.reverse
 |[],vs,r=>by obtain rfl:vs=[]:=r;exact rfl
 | x :: xs, vs, r => by
  obtain⟨v,r',rfl,r1,r2⟩:=r;rw[CN,CN];exact(Reps.rev r2).append ⟨v,[],rfl,r1,rfl⟩
def wRev:w1:=λx R=>match x with|.lst xs=>R (.lst xs.reverse)|.tup xs=>R (.tup xs.reverse)|_=>False
theorem qe_rev {i:Nat}(he:QR T K F e pe)(hK:∀z,(F z).K=K:=by intro _;rfl):QE T K F (.Subscript e (.Slice none none (some (.UnaryOp .USub (.Constant (.int 1) i p3) p4)) p2) pos) (qUn wRev pe):=by
 obtain⟨t,h1,h2⟩:=he;refine⟨_,λz=>hK z▸pe_rev (h1 z) (pe_un Jj F6),λC G σ H env n R Q hK hT S hp k=>?_⟩;refine h2 C G σ H env n _ _ hK hT S hp λx je n1 v H1 p1 S1 r1 f1=>?_;subst hK;have rx:=r1.rd S1;refine⟨1,rfl,rfl,?_⟩;unfold wRev at p1
 split at p1
 ·obtain⟨a,vs,ev,hq,r⟩:=rx.lst;exact⟨a,vs,ev,.inl ⟨hq,λp hn=>k _ _ _ _ _ p1 (S1.same (Same.lay1 hn)) (Dn (S1.fresh hn) hn r.rev) (f1.trans (Fr.of (Same.lay1 hn)))⟩⟩
 ·obtain⟨a,vs,ev,hq,r⟩:=rx.tup;exact⟨a,vs,ev,.inr ⟨hq,λp hn=>k _ _ _ _ _ p1 (S1.same (Same.lay1 hn)) (u7 (S1.fresh hn) hn r.rev) (f1.trans (Fr.of (Same.lay1 hn)))⟩⟩
 grind
end
end Pu
end
section
namespace Pu
open PySem PySem.Spec L2
section
variable {T:PotK}{ι:Type}{K:A7}{F:ι->Cx}{e:Expr}{pe:pE}{pos:Pos}
def ES (i:Nat)(pe:pE):pE:=λenv n R=>(∃xs,env[i]?=some (some (.ow .lst xs)))/\pe env n λy je n1=>match je[i]?,y with|some (some (.ow .lst xs)),.lst ys=>xs.length+ys.length<=1000000/\R .non (je.set i (some (.ow .lst (xs++ys)))) n1|_,_=>False
theorem Ks (i:Nat)(hv:∀z,EW (F z) (.Name x p) (tVar i))(he:QE T K F e pe)(hs:D8 e=true:=by rfl)(hbase:∀z,AG (.Name x p) "extend" (F z).env (eval (.Name x p) (F z).env)=eval (.Name x p) (F z).env:=by intro _;rfl)(hline:(ap.endLine == pos.line)=true:=by rfl)
   (hfew:∀z,((backTo pos (E2 [e] (F z).env)).all (λx=>!x.1)&&(backToKw pos (x8 [] (F z).env)).all (λx=>x.1.isSome)&&decide (([e]:List Expr).length+([]:List R9).length+(if([]:List R9).isEmpty then 0 else 1)<30))=true:=by intro _;rfl) (hK:∀z,(F z).K=K:=by intro _;rfl):QE T K F (.Call (.Attribute (.Name x p) "extend" ap) [e] [] pos) (ES i pe):=by
 obtain⟨t,a1,a2⟩:=he;refine⟨tBM K "list" JF (tVar i) (U6 t tNil),λz=>hK z▸BP Ek PySem.F.slot_list_extend PySem.F.type_list_extend OG (hv z).h (D4 (a1 z) G0 (B9 hs)) (hbase z) (hfew z) hline (B9 hs),λC G σ H env n R Q hK hT S hp k=>?_⟩;obtain⟨⟨xs0,e0⟩,hp⟩:=hp;obtain⟨a,vs,ev,h1,h2,h3,h4,r⟩:=S.slots i _ e0;refine⟨.ref a,ev,.inl ⟨rfl,vs,SqL.of h4⟩,?_⟩;refine a2 C G σ H env n _ _ hK hT S hp λy je n1 v H1 q1 S1 r1 f1=>?_
 split at q1
 ·rename_i xs ys ex;obtain⟨a',us,ev',g1,g2,g3,g4,r'⟩:=S1.slots i _ ex;rw[ev] at ev';cases ev';subst hK;obtain⟨b,ws,rfl,tb,rb⟩:=r1;obtain⟨S2,f2⟩:=S1.put ex ev (r'.append rb);exact⟨a,b,us,ws,rfl,rfl,g4,tb.2,by rw[<- r'.length,<- rb.length];exact mil q1.1,k _ _ _ _ _ q1.2 S2 rfl (f1.trans f2)⟩
 ·exact q1.elim
end
end Pu
end
section
namespace L2
open PySem PySem.Spec PyProof.Rows
def Itd (a:Int)(n:Nat):It:=⟨λi _=>i<n,λi H x H'=>H'=H/\x=.int (a-i),λi _=>n<=i⟩
theorem PZ {K:A7}(it:A0)(lo:Int)(n:Nat):Turn P w K tg (Itd lo n) [it] it (λi h=>IsRangeIter h it (lo+(i:Nat) * -1) ((n:Int)-(i:Nat)) (-1)) where
 mem:=by simp
 obj:=fun i h st b hb=>by
  have e:b=it:=by simpa using hb
  subst e
  exact⟨_,st,λv z=>by
   have z':Data.fields _=Data.cell v:=z
   cases z'⟩
 keep:=λi h h' st k=>k it (by simp) _ st
 item:=by
  intro X hP hw hK hc i jd s σ H E I hf st hg;subst hP hw hK;obtain⟨f0,f1,f2,f3,f4,f5⟩:=hf it (by simp);have W:=Walks.range (prog:=X.prog) (w:=X.w) (I.ok.hd hc) it lo (-1) n;refine W.item i s _ _ hg st λv h' tk hv st' kk=>?_;obtain⟨t,rfl⟩:=hv;have I1:Inv X jd σ H { s with heap:=h',toks:=tk }:=I.turned (λb o hb e=>kk b o (by simpa using hb) e) f0 f1 f3 f4 f5;refine⟨_,rfl,Dg (s:={ s with heap:=h',toks:=tk }) (n:="range_iterator") st' rfl rfl (by decide) ⟨.int (lo-i),H,I1,⟨t,?_⟩,⟨rfl,rfl⟩,st',λb hb=>(hf b hb).1⟩⟩;have e:lo+(i:Int) * -1=lo-i:=by omega
  rw[e]
 done:=by
  intro X hP hw hK hc i jd s σ H E I hf st hg;subst hP hw hK;obtain⟨f0,f1,f2,f3,f4,f5⟩:=hf it (by simp);exact wpAny_pyNext_range_end (I.ok.hd hc) st (by have:n<=i:=hg;omega) λh' eb=>⟨rfl,I.turned (t':=s.toks) (λb o hb e=>eb b o hb e) f0 f1 f3 f4 f5⟩
 self:=λ_ _ _ _ _ st h=>FK st h
end L2
namespace Pu
open PySem PySem.Spec L2
section
variable {T:PotK}{ι:Type}{K:A7}{F:ι->Cx}{tg a b c:Expr}{pa pb pc:pE}{pos:Pos}
theorem P_ {K:A7}{G:Gh}{H:Hp}(lo:Int)(m:Nat):ItR K G H (Itd lo m) ((D1 m).map λ(k:Nat)=>PV.int (lo-k)):=by
 intro G2 H2 hk hM hp hf;refine⟨λi x e=>?_,λi hi=>(show m<=i by simpa using hi)⟩;rw[K6] at e;cases e1:(D1 m)[i]? with
 |none=>rw[e1] at e;cases e
 | some j =>
  rw[e1] at e;cases e;obtain⟨hi,e2⟩:=E6.mp e1;rw[List.getElem_range] at e2;subst e2;refine⟨(show i<m by simpa using hi),λv H3 y=>?_⟩;obtain⟨e3,y⟩:=y;subst e3 y;exact⟨Same.refl _,rfl⟩
end
end Pu
end
section
namespace L2
open PySem PySem.Spec PyProof.Rows
theorem Kt:∀{ys:List Str} {us:List A3},Vals (ys.map V.str) us->StrsAre us ys
 |[],us,r=>by rw[List.map_nil] at r;cases r;exact .nil
 | y :: ys, us, r => by
  rw[J5] at r;cases r with
  | cons r1 r2 =>
   obtain⟨t,e⟩:=r1;subst e;exact .cons y t (Kt r2)
end L2
end
section
namespace L2
open PySem PySem.Spec PyProof.Rows
section
variable {X:Cx}{pos:Pos}
theorem Qa:seqSlot? (.type "list") (dunderI "add")=pure (some (.builtin "list.__iadd__")):=rfl
theorem Qb:fillsInplaceSlot (.type "list") "add" (Operator.Add == .Add)=pure false:=rfl
def Ku:R2:=λx y H Q=>∃l b xs zs,x=.ref l/\y=.ref b/\H l=some (.lst xs)/\H b=some (.lst zs)/\xs.length+zs.length<=B8/\Q (.ref l) (upd H l (.lst (xs++zs)))
theorem Qc:OpR X (inplaceOp .Add) Ku:=by
 intro jd s σ H x y v u Q I rx ry h;obtain⟨l,b,xs,zs,rfl,rfl,hH,hB,hz,q⟩:=h;cases rx;cases ry;obtain⟨z,jh,n,r,hl,e⟩:=I.lstM hH;obtain⟨z2,its2,n2,r2,hl2,e2⟩:=I.lstM hB;have hsz:jh.toArray.size+its2.toArray.size<=B8:=by rw[F5,F5];omega
 have hlong:¬(!jh.toArray.isEmpty&&Eo (jh.toArray.size+its2.toArray.size))=true:=by
  rw[JC hsz,Bool.and_false];exact Q9
 have ha:s.TypeIs (.ref l) "list":=⟨_,e,rfl⟩;have hb:s.TypeIs (.ref b) "list":=⟨_,e2,rfl⟩;unfold inplaceOp;refine P8 ?_;refine A2 (x5 ha (A2 (U1 Qb ?_)));show A6 _ _ (if false=true then _ else _) _ _ s;rw[jy Q9];refine A2 (binaryOp1_none (nm:="add") ha hb noFill_list_add ?_);refine A2 (U1 Qa ?_);refine A2 (V4 ?_)
 refine call_meets F.slot_list_iadd ha F.entry_list_iadd (F.args_list_iadd_2 _ _)
   (AutoSeq1.list___iadd___list_list_0 l jh.toArray n b its2.toArray n2 hlong (by omega) (by omega)) ⟨e,e2,?_⟩
 refine⟨.ref l,_,I.lset (its':=jh++its2) hH e (by simp) (r.append r2) ?_,rfl,q⟩;rw[D6];omega
end
end L2
namespace Pu
open PySem PySem.Spec L2
section
variable {T:PotK}{np:Bool}{ι:Type}{K:A7}{F:ι->Cx}{e:Expr}{st:Stmt}{pe:pE}{pos:Pos}
theorem Kv {X:Cx}{i:Nat}{x:Str}{e:Expr}{op:Operator}{ti:TIp}{pos' pos:Pos}(hN:X.N.Nodup)(hi:X.N[i]?=some x)(hx:Loc X.env.scope x)(ho:OpR X (inplaceOp op) ti)(hf:X.fn x=true\/X.env.scope.names.lookup x=some .local:=by first|exact .inl rfl|exact .inr rfl|assumption)(te:TE)(h:EW X e te):SW X (.AugAssign (.Name x pos') op e pos) (tAug i te ti):=⟨ps_aug hN hi hx h.h ho hf⟩
def Ha (i:Nat)(pe:pE):pS:=λD env n=>(∃xs,env[i]?=some (some (.ow .lst xs)))/\pe env n λy je n1=>match je[i]?,y with|some (some (.ow .lst xs)),.lst ys=>xs.length+ys.length<=1000000/\D.nx (je.set i (some (.ow .lst (xs++ys)))) n1|_,_=>False
theorem Qd (i:Nat)(h:∀z te,EW (F z) e te->SW (F z) st (tAug i te Ku))(he:QE T K F e pe):QS T np K F st (Ha i pe):=by
 obtain⟨t,a1,a2⟩:=he;refine⟨_,λz=>(h z _ ⟨a1 z⟩).h,λC G σ H env n PD D hK hT hn S hp L=>?_⟩;obtain⟨⟨xs0,e0⟩,hp⟩:=hp;obtain⟨a,vs,ev,h1,h2,h3,h4,r⟩:=S.slots i _ e0;refine⟨.ref a,ev,?_⟩;refine a2 C G σ H env n _ _ hK hT S hp λy je n1 v H1 q1 S1 r1 f1=>?_
 split at q1
 ·rename_i xs ys ex;obtain⟨a',us,ev',g1,g2,g3,g4,r'⟩:=S1.slots i _ ex;rw[ev] at ev';cases ev';subst hK;obtain⟨b,ws,rfl,tb,rb⟩:=r1;obtain⟨S2,f2⟩:=S1.put ex ev (r'.append rb);refine⟨a,b,us,ws,rfl,rfl,g4,tb.2,by rw[<- r'.length,<- rb.length];exact mil q1.1,?_⟩
  have es:σ.set i (some (.ref a))=σ:=by
   obtain⟨hi,e⟩:=E6.mp ev;rw[<- e];exact List.set_getElem_self hi
  show D.nx (σ.set i (some (.ref a))) _;rw[es];exact L.nx _ _ _ _ _ q1.2 S2 (Ext.fr (f1.trans f2))
 ·exact q1.elim
def qAug (i:Nat)(w:w2)(pe:pE):pS:=λD env n=>match env[i]? with|some (some (.v x))=>(pe env n λy je n1=>w x y λz=>D.nx (je.set i (some (.v z))) n1)|_=>False
theorem qs_aug (i:Nat){ti:TIp}{w:w2}(hw:W2 K ti w)(h:∀z te,EW (F z) e te->SW (F z) st (tAug i te ti))(he:QE T K F e pe):QS T np K F st (qAug i w pe):=by
 obtain⟨t,a1,a2⟩:=he;refine⟨_,λz=>(h z _ ⟨a1 z⟩).h,λC G σ H env n PD D hK hT hn S hp L=>?_⟩;unfold qAug at hp
 split at hp
 ·rename_i x ex;obtain⟨v,ev,rv⟩:=S.slots i _ ex;refine⟨v,ev,?_⟩;refine a2 C G σ H env n _ _ hK hT S hp λy je n1 u H1 q1 S1 r1 f1=>?_;subst hK;refine hw G H1 x y v u _ _ (λp hp=>S1.fresh hp) (.inl (rv.fr f1)) (.inl r1) q1 λz v' H' rz s rv'=>?_;exact L.nx _ _ _ _ _ rz ((S1.same s).set i rv') (Ext.fr (f1.trans (Fr.of s)))
 ·exact hp.elim
def Hc:w2:=wI0 λi j=>.int (i+j)
theorem Qe (i:Nat)(h:∀z te,EW (F z) e te->SW (F z) st (tAug i te (rI0 λi j=>.int (i+j))))(he:QE T K F e pe):QS T np K F st (qAug i Hc pe):=qs_aug i (W2.I0 λ_ _ _ _=>rfl) h he
end
end Pu
end
section
namespace Pu
open PySem PySem.Spec L2
section
variable {ι:Type}{K:A7}{F:ι->Cx}{a b:Expr}{pos pos':Pos}{pa pb:pE}
def Hd (K:A7):Sp:=λvs H Q _=>∃(a:A0) (ns:List Int) (k:Int),vs=[.ref a,.int k]/\SqL K H a (ns.map V.int)/\ns.length<=63/\0<=k/\k<=1000/\
 ∀H1,Same H H1->∀p own seed,H1 p=none->Dv own seed 0->Q (.ref p) (upd H1 p (.lst [.int own,.int seed,.int 0]))
end
end Pu
end
section
namespace L2
open PySem PySem.Spec PyProof.Rows
theorem Kw {X:Cx}{scope:F8}{cl:List (Str×A0)}{N:List Str}{jd:List (A0×Obj)}{σ σ3:St}{H2 H3:Hp}{s2 s4:A5}{fp:List A0}{i:Nat}{y:Str}{py:Pos}{DD:Ends}(hN:X.N.Nodup)(hiy:X.N[i]?=some y)(hy:Loc X.env.scope y)(hff:X.fn y=true\/X.env.scope.names.lookup y=some .local)(I2:Inv X jd σ H2 s2)(f2:∀b∈fp,FpOk X jd H2 b)(I4:Inv (E4 X scope cl N fp (s2.heap.objs.size+1) s2 H2) jd σ3 H3 s4)(qn:DD.nx (σ.set i (some (.ref s2.heap.objs.size))) H3) :
   compPost (A8 X.prog X.w) X.A X.xe (some (assign (.Name y py) X.env)) (λ_ s'=>SP X jd DD .next s') (.ref s2.heap.objs.size) (s2.heap.objs.size+1) (.ok .next) s4:=by
 obtain⟨m4,hn4,_⟩:=I4.loc;have I5:Inv X jd σ H3 s4:=Inv.uncomp (h':=s4.heap) I2 f2 I4 λb hb=>rfl;have fr:H3 (s2.heap.objs.size+1)=none:=I4.free;have oldne:∀{b o},s2.heap.get? b=some o->b≠s2.heap.objs.size+1:=λe=>F3 (y9 (C4 e));have locne:X.env.locals≠s2.heap.objs.size+1:=F3 (y9 I2.lt)
 have cellne:∀x c,X.env.cells.lookup x=some c->c≠s2.heap.objs.size+1:=λx c e=>by
  obtain⟨v,o,h1,_⟩:=I2.cell x c e;exact oldne h1
 have pinne:∀p∈X.pn++jd,p.1≠s2.heap.objs.size+1:=λp hp=>oldne (I2.pin p hp).1;have sz:X.s₀.heap.objs.size<=s2.heap.objs.size+1:=Nat.le_succ_of_le I2.sz;clear I4 I2;generalize s2.heap.objs.size+1=C at *;refine wpAny_assign_Name (I_ I5 hN hiy hy (v:=.ref s2.heap.objs.size) rfl (λs6 I6 ⟨a6,sb6,ha6⟩=>?_) hff);refine⟨m4,hn4.sameBut sb6 (ha6.elim (λz=>by rw[z];exact Ne.symm locne) λz=>Ne.symm (cellne _ _ z)),λh' hs'=>⟨_,H3,?_,qn⟩⟩;have U0:Un (frs X.stack) [C] H3 H3 s6.heap s6.heap:=Un.refl;have hx':∀{b},b∉[C]->h'.get? b=s6.heap.get? b:=λ{b} hx=>hs'.2 b λz=>hx (by rw[z];simp)
 have trC:∀{b u},H3 b=some u->b∉[C]:=λ{b u} e z=>by
  rw[E3.mp z,fr] at e;cases e
 obtain⟨hh6,g6,d6,t6,os6⟩:=s6;refine I6.call (h':=h') (g':=g6) (d':=d6) (t':=t6) (ch:=[C]) ⟨λb o e n hb hx=>?_,λb o e n hb hx=>?_,U0.free,λb o e hx=>?_,U0.tups,U0.frzs,U0.tbls,U0.sys⟩ (λb u e=>?_) I6.bare λb hb=>?_
 ·rw[hx' hx];exact U0.keep b o e n hb hx
 ·rw[hx' hx];exact U0.slot b o e n hb hx
 ·rw[hx' hx];exact U0.there b o e hx
 ·refine(I6.hok b u e).stay (λc v hc q=>?_) (λ_ q=>q) λ_ _ q=>q;rw[hx' (hc.elim (λz=>by rw[z];exact trC e) trC)];exact q
 ·rw[E3.mp hb];exact⟨.inr sz,Ne.symm locne,cellne,pinne⟩
theorem Qg {X:Cx}{scope:F8}{cl:List (Str×A0)}{N:List Str}{cs:List (Option Nat)}{jm tg iter:Expr}{jn:List Expr}{pos spos py:Pos}{wi:TI}{g:TG}{tt:TT}{te:TE}{i:Nat}{y:Str}(hN:X.N.Nodup)(hiy:X.N[i]?=some y)(hy:Loc X.env.scope y)(S:Z5 X scope cl N cs)(hc:X.calm=true)(hi:PI X tg iter wi)
   (hb:∀(fp:List A0) (C:A0) (s:A5) (H:Hp),PG (E4 X scope cl N fp C s H) tg g/\PIf (E4 X scope cl N fp C s H) jn tt/\PE (E4 X scope cl N fp C s H) jm te)
   (hsw:Y2 (.ListComp jm [⟨tg,iter,jn,0⟩] scope pos) (some (.Name y py)) spos.line X.env=pure true:=by rfl)
   (hs:∀x,N6 iter X.env x=pure x:=by intro _;rfl) (hff:X.fn y=true\/X.env.scope.names.lookup y=some .local:=by first|exact .inl rfl|exact .inr rfl|assumption) :
   PS X (.Assign [.Name y py] (.ListComp jm [⟨tg,iter,jn,0⟩] scope pos) spos) (tAsg (Gx cs wi g tt te) (R5 i)):=by
 intro jd s σ H DD I h;rw[exec_Assign_Name_used _ _ _ _ hsw];refine A2 (W3 (A2 (A2 (K4 (Q:=λ_ s'=>SP X jd DD .next s') (Ex S hc hi hs I h λfp it tn J s2 H2 s₃ T stat I2 f2 q Ic st1 fr1=>?_) (λ_ s' hq=>A9 (A9 hq)) λ_ _ e=>e))));obtain⟨W,⟨m0,w0⟩,turn⟩:=q;obtain⟨hg,hf,he⟩:=hb fp (s2.heap.objs.size+1) s2 H2;exact Gw _ (Ew (Y:=E4 X scope cl N fp (s2.heap.objs.size+1) s2 H2) T hc stat hg hf he (λs4 σ3 H3 I4 qn=>Kw hN hiy hy hff I2 f2 I4 qn) turn) m0 ⟨0,_,_,Ic,st1,fr1,w0⟩
end L2
namespace Pu
open PySem PySem.Spec L2
def SwOk (X:Cx)(e:Expr)(t:TE):Prop:=∀(i:Nat) (y:Str) (py spos:Pos),X.N.Nodup->X.N[i]?=some y->Loc X.env.scope y->Y2 e (some (.Name y py)) spos.line X.env=pure true->(X.fn y=true\/X.env.scope.names.lookup y=some .local)->PS X (.Assign [.Name y py] e spos) (tAsg t (R5 i))
def QNC {ι:Type}(T:PotK)(K:A7)(F:ι->Cx)(e:Expr)(pn:pA):Prop:=∃t,(∀z,PE (F z) e t)/\(∀z,SwOk (F z) e t)/\NOk K T t pn
section
variable {T:PotK}{np:Bool}{ι:Type}{K:A7}{F:ι->Cx}{e:Expr}{pl:pA}{pg:pG}{pos:Pos}
theorem Kx {scope:F8}{cl:ι->List (Str×A0)}{N:List Str}{cs:List (Option Nat)}{jm tg iter:Expr}{jn:List Expr}{pi:pA}{ptt:pT}{pte:pE}(S:∀z,Z5 (F z) scope (cl z) N cs)(hc:∀z,(F z).calm=true)(hi:QI T K F tg iter pi)
   (hg:QG K (λy:ι×List A0×A0×A5×Hp=>E4 (F y.1) scope (cl y.1) N y.2.1 y.2.2.1 y.2.2.2.1 y.2.2.2.2) tg pg) (ht:QIf T K (λy:ι×List A0×A0×A5×Hp=>E4 (F y.1) scope (cl y.1) N y.2.1 y.2.2.1 y.2.2.2.1 y.2.2.2.2) jn ptt)
   (he:QE T K (λy:ι×List A0×A0×A5×Hp=>E4 (F y.1) scope (cl y.1) N y.2.1 y.2.2.1 y.2.2.2.1 y.2.2.2.2) jm pte)
   (hs:∀z x,N6 iter (F z).env x=pure x:=by intro _ _;rfl):QNC T K F (.ListComp jm [⟨tg,iter,jn,0⟩] scope pos) (O2 cs pi pg ptt pte):=by
 obtain⟨wi,i1,i2⟩:=hi;obtain⟨g,hg0,hg⟩:=hg;obtain⟨tt,ht0,ht⟩:=ht;obtain⟨te,he0,he⟩:=he;refine⟨_,λz=>JI (S z) (hc z) (i1 z) (λfp C s H=>⟨hg0 (z,fp,C,s,H),ht0 (z,fp,C,s,H),he0 (z,fp,C,s,H)⟩) (hs z),λz i y py spos hN hi hy hsw hf=>Qg hN hi hy (S z) (hc z) (i1 z) (λfp C s H=>⟨hg0 (z,fp,C,s,H),ht0 (z,fp,C,s,H),he0 (z,fp,C,s,H)⟩) hsw (hs z) hf,λC G σ H env n R Q hK hT S hp k=>?_⟩;refine i2 C G σ H env n _ _ hK hT S hp λxs je n1 J H1 p1 S1 f1 hJ=>?_;intro D hD;have hDM:=S1.fresh hD;refine GQ (G:=G) hg ht he hJ p1.1 hD (hT▸hK▸Dr S1 cs) p1.2 λys n2 us H' rr hpots hk eD ry=>?_
 -- the heap without D
 have nD:∀b o,H1 b=some o->b≠D:=λb o e z=>by rw[z,hD] at e;cases e
 have hD0:C.H0 D=none:=by
  cases z:C.H0 D with
  |none=>rfl
  | some o =>
   by_cases hp:D∈C.pots0
   ·exact absurd (S1.sup D (S1.p0.1 D hp)) hDM
   ·have:=S1.frame D o hp z;rw[hD] at this;cases this
 have hk2:∀b o,b∉G.pots->H1 b=some o->cutH H' D b=some o:=λb o hb e=>by rw[N4 (nD b o e)];exact hk b o hb e
 have nc:∀b,b∉D::G.M->b≠D:=λb hb z=>hb (by rw[z];exact C6);have np:∀p∈G.pots,p≠D:=λp hp z=>hDM (z▸(S1.pots p hp).1)
 have Sb:SR C G σ (cutH H' D) je n2:=S1.call hk2 λp hp=>by
  subst hT;have h2:=C.T.keep (hpots p hp) (H':=cutH H' D) (N4 (np p hp)) λb o hb e=>by rw[N4 (nc b hb)];exact e
  exact C.T.more h2 λa ha=>.inl (C9 _ ha)
 have:=k ys je n2 D us (cutH H' D) rr Sb (f1.trans λb o hb e=>hk2 b o (λz=>hb (S1.pots b z).1) e) (by unfold cutH;rw[jw rfl]) ?_
 ·rw[Ds eD] at this;exact this
 ·exact Reps.mono (G:=⟨D::G.M,G.pots⟩) (λb o hb e=>by rw[N4 (nc b hb)];exact e) (λa ha=>.inl (C9 _ ha)) (λ_ _ e=>e) _ _ ry
theorem He (i:Nat){y:Str}{py spos:Pos}(h:QNC T K F e pl)(hN:∀z,(F z).N.Nodup)(hi:∀z,(F z).N[i]?=some y)(hy:∀z,Loc (F z).env.scope y)(hsw:∀z,Y2 e (some (.Name y py)) spos.line (F z).env=pure true:=by intro _;rfl)(hf:∀z,(F z).fn y=true\/(F z).env.scope.names.lookup y=some .local:=by intro _;first|exact .inl rfl|exact .inr rfl):QS T np K F (.Assign [.Name y py] e spos) (qSet i (qL pl)):=by
 obtain⟨t,a1,a3,a2⟩:=h
 have he:EOk K T t (qL pl):=λC G σ H env n R Q hK hT S hp k=>by
  refine a2 C G σ H env n _ _ hK hT S hp λxs je n1 a vs Hb p1 S1 f1 hn r1=>?_;exact k _ _ _ _ _ p1 (S1.same (Same.lay1 hn)) (Dn (S1.fresh hn) hn r1) (f1.trans (Fr.of (Same.lay1 hn)))
 refine⟨_,λz=>a3 z i y py spos (hN z) (hi z) (hy z) (hsw z) (hf z),λC G σ H env n PD D hK hT hn S hp L=>?_⟩;refine he C G σ H env n _ _ hK hT S hp λx je n1 v H1 q1 S1 r1 f1=>?_;exact L.nx _ _ _ _ _ q1 (S1.set i (hK▸r1)) (Ext.fr f1)
end
end Pu
end
section
namespace Pu
open PySem PySem.Spec L2
theorem Dx {α:Type}(f:Nat->List α)(i:Nat):(D1 (i+1)).flatMap f=(D1 i).flatMap f++f i:=by
 rw[List.range_succ,FS];simp
theorem Qh {α:Type}(A:List α)(f:Nat->List α)(i:Nat):A++(D1 (i+1)).flatMap f=(A++(D1 i).flatMap f)++f i:=by
 rw[Dx,O9]
end Pu
end
section
namespace L2
open PySem PySem.Spec PyProof.Rows
def met (val:Nat->Key):Nat->List Key
 |0=>[]
 |i+1=>if(met val i).any (λy=>decide (y=val i)) then met val i else met val i++[val i]
end L2
end
section
namespace Pu
open PySem PySem.Spec L2
theorem Qi (x:Str)(l u:Option Int):AX x l u=Er x l u:=rfl
theorem Qj (x:Str){p:Nat}(h:p<=x.length):(AX x none (some (p:Int))).cps.toList=x.cps.toList.take p:=by
 rw[Qi]
 have e:Er x none (some (p:Int))=Er x (some ((0:Nat):Int)) (some (p:Int)):=by
  unfold Er;rw[StrLaws.sliceIdx_none_lo];rfl
 rw[e,StrLaws.sliceText_nat x (M5 _) h];simp
def Ltr (c:Nat):Prop:=97<=c/\c<=122
def w4 (z:Str):Prop:=1<=z.cps.toList.length/\z.cps.toList.length<=8/\∀c∈z.cps.toList,Ltr c
abbrev LETS:Str:=C7 "abcdefghijklmnopqrstuvwxyz"
theorem Qk:LETS.cps.toList=(D1 26).map (97 + ·):=by decide +kernel
theorem Ky:LETS.length=26:=by decide +kernel
theorem Kz {d:Int}(d0:0<=d)(d1:d<26):atI LETS.cps.toList d=some (97+d.toNat):=by
 obtain⟨x,e1,e2⟩:=GE (xs:=LETS.cps.toList) d0 (by rw[<- Dl,Ky];exact d1);rw[e2,<- e1,Qk,K6,List.getElem?_range (by omega)]
 rfl
end Pu
end
section
namespace L2
open PySem PySem.Spec PyProof.Rows
def ItB (b:Bool)(h:B5)(it l:A0)(i:Nat):Prop:=match b with|true=>h.IsListIter it l i|false=>h.IsTupleIter it l i
def SeB (b:Bool)(h:B5)(l:A0)(items:Array A3):Prop:=match b with|true=>h.IsList l items|false=>h.IsTuple l items
theorem ItB.at {b:Bool}{h h':B5}{it l:A0}{i:Nat}(x:ItB b h it l i)(e:∀o,h.get? it=some o->h'.get? it=some o):ItB b h' it l i:=by
 cases b with
 |true=>exact(show h.IsListIter it l i from x).at e
 |false=>exact(show h.IsTupleIter it l i from x).at e
theorem SeB.at (x:SeB b h l items)(e:∀o,h.get? l=some o->h'.get? l=some o):SeB b h' l items:=by
 cases b with
 |true=>exact(show h.IsList l items from x).at e
 |false=>exact(show h.IsTuple l items from x).at e
theorem ItB.obj (x:ItB b h it l i):∃o,h.get? it=some o/\(o.cls=.type "list_iterator"\/o.cls=.type "tuple_iterator")/\∀v,o.data≠.cell v:=by
 cases b with
 |true=>obtain⟨o,e,c,d⟩:=(show h.IsListIter it l i from x);exact⟨o,e,.inl c,λv z=>by rw[d] at z;cases z⟩
 |false=>obtain⟨o,e,c,d⟩:=(show h.IsTupleIter it l i from x);exact⟨o,e,.inr c,λv z=>by rw[d] at z;cases z⟩
theorem SeB.obj (x:SeB b h l items):∃o,h.get? l=some o/\(o.cls=.type "list"\/o.cls=.type "tuple"):=by
 cases b with
 |true=>obtain⟨o,e,c,d⟩:=(show h.IsList l items from x);exact⟨o,e,.inl c⟩
 |false=>obtain⟨o,e,c,d⟩:=(show h.IsTuple l items from x);exact⟨o,e,.inr c⟩
theorem ItB.ne (x:ItB b h it l i)(y:SeB b' h a items):a≠it:=λz=>by
 obtain⟨o,e,c,_⟩:=x.obj;obtain⟨o',e',c'⟩:=y.obj;rw[z,e] at e';cases e';rcases c with c|c <;> rcases c' with c'|c' <;> (rw[c] at c';exact absurd c' (by decide))
section
variable {prog:D3}{w:C3}{A:E8}{E:A3->A5->Prop}{s:A5}
theorem Ql (hit:s.heap.IsTupleIter it t i)(ht:s.heap.IsTuple t items)(hx:items[i]?=some x)
   (hQ:∀h',h'.IsTupleIter it t (i+1)->AO it s.heap h'->Q x { s with heap:=h' }):A6 (A8 prog w) A (Q1 (.ref it)) Q E s:=by
 obtain⟨oi,hoi,hci,hdi⟩:=id hit;obtain⟨ot,hot,_,nt,hdt⟩:=ht;have ty:=hit.typeIs;unfold Q1
 refine A2 (T9 (name:=C7 "__next__") ty Ej
   (P6 Ej ty F.entry_tuple_iterator_next ?_ (F.args_tuple_iterator_next_1 _)))
 show A6 _ _ (field (.ref it) 0>>=_) _ _ s;refine A2 (G7 hoi hdi (x:=.ref t) rfl ?_);show A6 _ _ (if(K8 t == X0)=true then _ else _) _ _ s;rw[jy (show ¬((K8 t == X0)=true) from Q9)];show A6 _ _ (field (.ref it) 1>>=_) _ _ s;refine A2 (G7 hoi hdi (x:=.int i 0) rfl ?_);show A6 _ _ (seqItems? (.ref t)>>=_) _ _ s;refine A2 (P7 hot hdt ?_);simp only[R1,hx];refine A2 (wpAny_setField hoi hdi (by simp) (A9 ⟨x,rfl,A9 (hQ _ ?_ (Db ..))⟩));exact⟨_,FT _ hoi (Obj.isFreed_of_fields (Obj.data_mapFields hdi _)),(Obj.cls_mapFields ..).trans hci,by rw[Obj.data_mapFields hdi];simp[rawInt]⟩
theorem Qm (hh:A.handled=none)(hit:s.heap.IsTupleIter it t i)(ht:s.heap.IsTuple t items)(hx:items[i]?=none)
   (hE:∀h' e,Heap.ExtBut it s.heap h'->(∃o,h'.get? e=some o/\o.cls=.type "StopIteration")->E (.ref e) { s with heap:=h' }):A6 (A8 prog w) A (Q1 (.ref it)) Q E s:=by
 obtain⟨oi,hoi,hci,hdi⟩:=id hit;obtain⟨ot,hot,_,nt,hdt⟩:=ht;have ty:=hit.typeIs;unfold Q1
 refine A2 (T9 (name:=C7 "__next__") ty Ej
   (P6 Ej ty F.entry_tuple_iterator_next ?_ (F.args_tuple_iterator_next_1 _)))
 show A6 _ _ (field (.ref it) 0>>=_) _ _ s;refine A2 (G7 hoi hdi (x:=.ref t) rfl ?_);show A6 _ _ (if(K8 t == X0)=true then _ else _) _ _ s;rw[jy (show ¬((K8 t == X0)=true) from Q9)];show A6 _ _ (field (.ref it) 1>>=_) _ _ s;refine A2 (G7 hoi hdi (x:=.int i 0) rfl ?_);show A6 _ _ (seqItems? (.ref t)>>=_) _ _ s;refine A2 (P7 hot hdt ?_);simp only[R1,hx];refine A2 (V4 (A2 (wpAny_setField hoi hdi (by simp) ?_)));show A6 _ _ (newExc (.type "StopIteration") []>>=_) _ _ _;refine A2 ?_;simp only[newExc,newTuple];refine A2 (R8 ?_ (by size_fits));refine A2 (m:=firstArgMember _ _) (U1 (a:=X0) (by first|rfl|(simp only[firstArgMember];rfl)) ?_);refine R8 ?_ (by size_fits);simp only[raiseNew];refine A2 (wpAny_handled ?_)
 first|rw[show A.in1.handled=none from hh]|rw[hh]
 refine A2 (A9 (wpAny_throw ?_));exact hE _ _ (((Db ..).extBut.push _).push _) ⟨_,F4 _ rfl,rfl⟩
theorem w5 (hit:ItB b s.heap it t i)(ht:SeB b s.heap t items)(hx:items[i]?=some x)
   (hQ:∀h',ItB b h' it t (i+1)->AO it s.heap h'->Q x { s with heap:=h' }):A6 (A8 prog w) A (Q1 (.ref it)) Q E s:=by
 cases b with
 |true=>exact wpAny_nextOf_list_item hit ht hx hQ
 |false=>exact Ql hit ht hx hQ
theorem Cc (hh:A.handled=none)(hit:ItB b s.heap it t i)(ht:SeB b s.heap t items)(hx:items[i]?=none)
   (hE:∀h' e,Heap.ExtBut it s.heap h'->(∃o,h'.get? e=some o/\o.cls=.type "StopIteration")->E (.ref e) { s with heap:=h' }):A6 (A8 prog w) A (Q1 (.ref it)) Q E s:=by
 cases b with
 |true=>exact wpAny_nextOf_list_end hh hit ht hx hE
 |false=>exact Qm hh hit ht hx hE
theorem drawsB {b:Bool}(hh:A.handled=none)(it l:A0)(hne:l≠it)(items:Array A3):Draws prog w A it [it,l] items.size (λi v=>items[i]?=some v) (λi h=>ItB b h it l i/\SeB b h l items) where
 live:=λ_ _ st=>let ⟨o,ho,_⟩:=st.1.obj;⟨o,ho⟩
 frame:=λ_ _ _ st hk=>⟨st.1.at λo e=>hk it (by simp) o e,st.2.at λo e=>hk l (by simp) o e⟩
 item:=λi s Q E hi st hQ=>by
  refine w5 st.1 st.2 (x:=items[i]) (by simp[hi]) λh' hit' hs'=>?_;exact hQ _ h' s.toks (by simp[hi]) ⟨hit',st.2.at λo e=>hs'.extBut _ o hne e⟩ hs'
 done:=λs Q E st hE=>Cc hh st.1 st.2 (by simp) hE
theorem Qn (l:A0)(items:Array A3)(n:Nat)(dct:Option A0)(sl:Array (Option A3)) :
   Meets (O4.«enumerate.__new__» ⟨[.type "enumerate",.ref l],[]⟩) (λ_ R s=>s.heap.get? l=some { cls:=.type "tuple",dict:=dct,data:=.seq items n,slots:=sl }/\
     R (.ok (.ret (.ref (s.heap.push { cls := .type "tuple_iterator", data := .fields #[.ref l, .int 0 0] }).objs.size)))
       { s with heap:=(s.heap.push { cls:=.type "tuple_iterator",data:=.fields #[.ref l,.int 0 0] }).push { cls:=.type "enumerate",data:=.fields #[.none,.bool false,.ref s.heap.objs.size,rawInt 0,.none,.none] } }):=
 .of_wp λprog w A R s hyp=>by
  obtain⟨hp,g,d,tk,os⟩:=s;obtain⟨hl,fin⟩:=hyp;have hsub:=sub_enumerate;have hL:Heap.IsTuple (BL ⟨hp,g,d,tk,os⟩) l items:=⟨_,hl,rfl,n,rfl⟩
  wp_walk using Ep hl
  refine wpAny_stack_any λst=>A9 ?_
  split
  ·rename_i c _ _ _ _ _;cases(c == N0 "enumerate")
   ·wp_walk using Ep hl,Cz hL
    exact⟨_,rfl,fin⟩
   ·wp_walk using Ep hl,Cz hL
    exact⟨_,rfl,fin⟩
  ·wp_walk using Ep hl,Cz hL
   exact⟨_,rfl,fin⟩
theorem enumT {l:A0}{items:Array A3}{Q:A3->A5->Prop}(hL:s.heap.IsTuple l items)
   (h:∀h',IsEnum h' (s.heap.objs.size+1) s.heap.objs.size 0 .none->h'.IsTupleIter s.heap.objs.size l 0->(∀b o,s.heap.get? b=some o->h'.get? b=some o)->Q (.ref (s.heap.objs.size+1)) { s with heap:=h' }) :
   A6 (A8 prog w) A (call (.type "enumerate") [.ref l]) Q E s:=by
 obtain⟨⟨c,dct,dt,sl⟩,hl,hc,n,hd⟩:=hL
 replace hc:c=.type "tuple":=hc
 replace hd:dt=.seq items n:=hd
 subst hc hd;refine callType_new F.called_enumerate (by decide) (F.typeCall_enumerate_1 _) (F.newCall_enumerate_1 _) (λobj=>F.args_object_init_2 obj _) F.entry_enumerate_new (Qn l items n dct sl) ⟨hl,?_⟩;have hz:(s.heap.push { cls:=.type "tuple_iterator",data:=.fields #[.ref l,.int 0 0] }).objs.size=s.heap.objs.size+1:=T3 ..;show _/\_;rw[hz]
 have he:IsEnum ((s.heap.push { cls:=.type "tuple_iterator",data:=.fields #[.ref l,.int 0 0] }).push { cls:=.type "enumerate",data:=.fields #[.none,.bool false,.ref s.heap.objs.size,rawInt 0,.none,.none] }) (s.heap.objs.size+1) s.heap.objs.size 0 .none:=by
  have:=F4 (s.heap.push { cls:=.type "tuple_iterator",data:=.fields #[.ref l,.int 0 0] }) (o:={ cls:=.type "enumerate",data:=.fields #[.none,.bool false,.ref s.heap.objs.size,rawInt 0,.none,.none] }) rfl;rw[hz] at this;exact this
 exact⟨⟨_,he,rfl⟩,h _ he ⟨_,C1 _ (F4 _ rfl),rfl,rfl⟩ λb o x=>C1 _ (C1 _ x)⟩
theorem enumB {b:Bool}{l:A0}{items:Array A3}{Q:A3->A5->Prop}(hL:SeB b s.heap l items)
   (h:∀h',IsEnum h' (s.heap.objs.size+1) s.heap.objs.size 0 .none->ItB b h' s.heap.objs.size l 0->(∀b o,s.heap.get? b=some o->h'.get? b=some o)->Q (.ref (s.heap.objs.size+1)) { s with heap:=h' }) :
   A6 (A8 prog w) A (call (.type "enumerate") [.ref l]) Q E s:=by
 cases b with
 |true=>exact call_enumerate_list hL λh' a b _ c=>h h' a b c
 |false=>exact enumT hL h
theorem Qo {b:Bool}{e it l:A0}{j:Nat}{i:Int}{items:Array A3}{old:A3}{Q:Option A3->A5->Prop}(hh:A.handled=none)(he:IsEnum s.heap e it i old)(hit:ItB b s.heap it l j)(ht:SeB b s.heap l items)(hx:items[j]?=none)
   (hQ:∀h',Heap.ExtBut it s.heap h'->Q none { s with heap:=h' }):A6 (A8 prog w) A (pyNext (.ref e)) Q E s:=by
 have ty:s.TypeIs (.ref e) "enumerate":=⟨_,he,rfl⟩;unfold pyNext;refine A2 (p8 (T9 (name:=C7 "__next__") ty F.slot_enumerate_next (P6 F.slot_enumerate_next ty F.entry_enumerate_next ?_ (F.args_enumerate_next_1 _))));show A6 _ _ (field (.ref e) 2>>=_) _ _ _;refine A2 (G7 he rfl (x:=.ref it) rfl ?_);refine A2 (Cc (A:=A.in1) hh hit ht hx λh' x he' hx'=>?_);obtain⟨o,ho,hc⟩:=hx';exact A2 (CA (T:="StopIteration") (b:=true) ⟨o,ho,hc⟩ CF (A9 (hQ _ he')))
end
def SqB (b:Bool)(K:A7)(H:Hp)(a:A0)(xs:List V):Prop:=match b with|true=>SqL K H a xs|false=>SqT K H a xs
section
variable {X:Cx}
theorem Inv.seqB (I:Inv X jd σ H s)(h:SqB b X.K H a xs):∃jh:List A3,Vals xs jh/\SeB b s.heap a jh.toArray/\xs.length<=B8:=by
 cases b with
 |true=>obtain⟨jh,r,p,z⟩:=I.list h;exact⟨jh,r,p.isList,z⟩
 |false=>obtain⟨jh,r,p,z⟩:=I.tuple h;exact⟨jh,r,p,z⟩
theorem Inv.seqB_inj (I:Inv X jd σ H s)(h:SqB b X.K H a xs)(h':SqB b X.K H a ys):xs=ys:=by
 cases b with
 |true=>exact I.list_inj h h'
 |false=>exact I.tuple_inj h h'
def IteB (b:Bool)(K:A7)(a:A0):It:=
 ⟨λi H=>∃xs x,SqB b K H a xs/\xs[i]?=some x,λi H x H'=>∃p v,H p=none/\x=.ref p/\H'=upd H p (.tup [.int i,v])/\∀xs,SqB b K H a xs->xs[i]?=some v,λi H=>∃xs,SqB b K H a xs/\xs.length<=i⟩
theorem Qp {b:Bool}{P:D3}{w:C3}{K:A7}{elts:List Expr}{x1}{pos:Pos}(a e it:A0)(hne:e≠it) :
   Turn P w K (.Tuple elts x1 pos) (IteB b K a) [e,it] e (λi h=>(∃old,IsEnum h e it i old)/\ItB b h it a i) where
 mem:=by simp
 obj:=λi h st c hc=>by
  obtain⟨⟨old,he⟩,st⟩:=st;obtain⟨o,e1,_,d⟩:=st.obj;have hc':c=e\/c=it:=by simpa using hc
  rcases hc' with rfl|rfl
  ·exact⟨_,he,λv z=>by cases z⟩
  ·exact⟨o,e1,d⟩
 keep:=λi h h' st k=>by
  obtain⟨⟨old,he⟩,st⟩:=st;exact⟨⟨old,k e (by simp) _ he⟩,st.at λo e=>k it (by simp) o e⟩
 item:=by
  intro X hP hw hK hc i jd s σ H E I hf st hg;subst hP hw hK;obtain⟨⟨old,he⟩,st⟩:=st;obtain⟨xs,x,hq,hx⟩:=hg;obtain⟨jh,rv,p,hz⟩:=I.seqB hq;obtain⟨u,hu,ru⟩:=rv.get hx;have nla:a≠it:=st.ne p
  have nea:e≠a:=λz=>by
   obtain⟨o,e1,c1⟩:=p.obj;rw[<- z,he] at e1;cases e1;rcases c1 with c1|c1
   ·exact absurd (show N0 "enumerate"=N0 "list" from c1) (by decide)
   ·exact absurd (show N0 "enumerate"=N0 "tuple" from c1) (by decide)
  have hi:i<jh.toArray.size:=by
   obtain⟨h1,_⟩:=E6.mp hu
   simpa using h1
  refine wpAny_pyNext_enum_itemD (drawsB (A:=X.A.in1) (I.ok.hd hc) it a nla jh.toArray) he ⟨st,p⟩ hi hne (by simp[hne,nea]) λy h' tk hy he' st' ht hz' k=>?_
  have ey:y=u:=by
   have:jh[i]?=some y:=by simpa using hy
   rw[hu] at this;exact(E9 this).symm
  subst ey;refine⟨_,rfl,wpAny_letOwnedTupleGo_enum (s:={ s with heap:=h',toks:=tk+1 }) he' λh'' he'' sb=>?_⟩;have hpe:s.heap.objs.size≠e:=i7 (C4 he);have ht'':h''.get? s.heap.objs.size=some { cls:=.type "tuple",data:=.seq #[.int i tk,y] }:=(sb.2 _ hpe).trans ht
  have k':∀c o,c∉[e,it]->s.heap.get? c=some o->h''.get? c=some o:=λc o hb q=>by
   have hb1:c≠e:=λz=>hb (by simp[z]);have hb2:c≠it:=λz=>hb (by simp[z]);exact(sb.2 c hb1).trans (k c o hb1 hb2 q)
  have I1:Inv X jd σ (upd H s.heap.objs.size (.tup [.int i,x])) { s with heap:=h'',toks:=tk+1 }:=
   I.turnedNew k' hf ⟨by show 2<=B8;decide,[.int i tk,y],.cons ⟨_,rfl⟩ (.cons ru .nil),⟨_,ht'',rfl,_,rfl⟩⟩
  refine⟨.ref s.heap.objs.size,_,I1,rfl,⟨_,x,I.fresh,rfl,rfl,λys hy=>by rw[I.seqB_inj hy hq];exact hx⟩,⟨⟨y,he''⟩,st'.1.at λo q=>(sb.2 it (Ne.symm hne)).trans q⟩,λc hb=>?_⟩;have hb':c=e\/c=it:=by simpa using hb
  have hbs:c≠s.heap.objs.size:=by
   rcases hb' with rfl|rfl
   ·exact Ne.symm hpe
   ·obtain⟨o,e1,_⟩:=st.obj;exact F3 (C4 e1)
  rw[C0 hbs];exact(hf c hb).1
 done:=by
  intro X hP hw hK hc i jd s σ H E I hf st hg;subst hP hw hK;obtain⟨⟨old,he⟩,st⟩:=st;obtain⟨xs,hq,hx⟩:=hg;obtain⟨jh,rv,p,hz⟩:=I.seqB hq;obtain⟨f0,f1,f2,f3,f4,f5⟩:=hf it (by simp);have hl:=rv.length;refine Qo (I.ok.hd hc) he st p (Da (by rw[F5];omega)) λh' eb=>⟨rfl,I.turned (t':=s.toks) (λc o hb e=>eb c o hb e) f0 f1 f3 f4 f5⟩
 self:=λ_ _ _ _ _ st h=>by
  obtain⟨⟨old,he⟩,_⟩:=st;exact DW he h
def iEnumB (b:Bool)(K:A7)(ta:TA):TI:=λσ H R=>ta σ H λvs H1=>∃a,vs=[.ref a]/\(∃xs,SqB b K H1 a xs)/\R (IteB b K a) H1
theorem Qq (b:Bool){l:Expr}{ta:TA}{p pos:Pos}{elts:List Expr}{x1}{tpos:Pos}(hg:Gl X "enumerate")(hm:X.mg "enumerate"=none)(ha:PA X [l] ta)(hs:E2 [l] X.env=[(false,eval l X.env)]:=by rfl) :
   PI X (.Tuple elts x1 tpos) (.Call (.Name "enumerate" p) [l] [] pos) (iEnumB b X.K ta):=by
 intro jd s σ H R I h;refine Call_ (U5 I hg hm boot_enumerate (Y8 (thn (ha pos jd s σ H _ I h) λus s1 ⟨vs,H1,I1,r1,q1⟩=>?_) hs rfl));obtain⟨a,e,⟨xs,hq⟩,q⟩:=q1;subst e;obtain⟨u,rfl,ru⟩:=r1.one;obtain rfl:u=K8 a:=ru;obtain⟨jh,rv,pl,hz⟩:=I1.seqB hq;refine enumB pl λh' hE hI hk=>?_;refine DW hE ?_;have I2:Inv X jd σ H1 { s1 with heap:=h' }:=I1.kept (t':=s1.toks) hk;refine⟨s1.heap.objs.size+1,[s1.heap.objs.size+1,s1.heap.objs.size],_,_,H1,rfl,I2,Qp a _ _ (Eg _),⟨⟨_,hE⟩,hI⟩,λc hb=>?_,q⟩;have hb':c=s1.heap.objs.size+1\/c=s1.heap.objs.size:=by simpa using hb
 rcases hb' with rfl|rfl
 ·exact I1.fpOk (P2 _) (I1.hok.fresh (P2 _))
 ·exact I1.fpOk (B7 _) (I1.hok.fresh (B7 _))
end
end L2
end
section
namespace L2
open PySem PySem.Spec PyProof.Rows
section
variable {prog:D3}{w:C3}{A:E8}{E:A3->A5->Prop}{s:A5}
structure ZAp (z TI TO i1 i2:A0):Prop where
 a1:TI≠z
 a2:TO≠z
 a3:i1≠z
 a4:i2≠z
 a5:TI≠TO
 a6:TI≠i1
 a7:TI≠i2
 a8:TO≠i1
 a9:TO≠i2
 a10:i1≠i2
theorem KA {z TI TO i1 i2 l1 l2:A0}{Q:A3->A5->Prop}(D:ZAp z TI TO i1 i2)(m1:l1≠z)(m2:l2≠z)(m3:l1≠TO)(m4:l2≠TO)(m5:l1≠i1)(m6:l2≠i1)
   (hz:IsZip s.heap z TI TO .none) (hTI:IsPair s.heap TI (.ref i1) (.ref i2)) (hTO:IsPair s.heap TO a b) (h1:ItB b1 s.heap i1 l1 k) (h2:ItB b2 s.heap i2 l2 k) (hl1:SeB b1 s.heap l1 xs) (hl2:SeB b2 s.heap l2 ys) (hx:xs[k]?=some x) (hy:ys[k]?=some y)
   (hQ:∀h',IsZip h' z TI TO (rawInt s.heap.objs.size)->IsPair h' TO x y->ItB b1 h' i1 l1 (k+1)->ItB b2 h' i2 l2 (k+1)->IsPair h' s.heap.objs.size x y->
     (∀c o,c≠z->c≠TO->c≠i1->c≠i2->s.heap.get? c=some o->h'.get? c=some o)->Q (.ref s.heap.objs.size) { s with heap:=h' }) :
   A6 (A8 prog w) A (O4.«zip.__next__» ⟨[.ref z],[]⟩) (λfin s'=>∃v,fin=.done (.ret v)/\Q v s') E s:=by
 show A6 _ _ (field (.ref z) 2>>=_) _ _ _;refine A2 (G7 hz rfl (x:=.bool false) rfl ?_);show A6 _ _ (field (.ref z) 3>>=_) _ _ _;refine A2 (G7 hz rfl (x:=.ref TI) rfl (A2 (P7 hTI rfl ?_)));show A6 _ _ (W9 (.ref z)>>=_) _ _ _;refine A2 ?_;unfold W9;refine A2 (G7 hz rfl (x:=.none) rfl (A9 ?_));simp only[if_true];refine A2 (V4 (A2 (G7 hz rfl (x:=.ref TO) rfl (A2 (W0 hz (by simp) λg1 z1 s1=>?_)))))
 replace z1:IsZip g1 z TI TO .ellipsis:=z1
 refine A2 ?_;simp only[CP,Ef,AM,y8];refine A2 (A2 (x4 ?_));show A6 _ _ (Q1 (.ref i1)>>=_) _ _ _;refine A2 (w5 (s:={ s with heap:=g1 }) (h1.at λo e=>s1.extBut _ o D.a3 e) (hl1.at λo e=>s1.extBut _ o m1 e) hx λg2 j2 s2=>A9 ?_);have t2:IsPair g2 TO a b:=s2.extBut _ _ D.a8 (s1.extBut _ _ D.a2 hTO);refine A2 (P7 t2 rfl (A2 (wpAny_updateSeq_pair (s:={ s with heap:=g2 }) t2 λg3 t3 s3=>A2 (Br (A9 ?_)))))
 replace t3:IsPair g3 TO x b:=t3
 refine A2 (A2 (x4 ?_));show A6 _ _ (Q1 (.ref i2)>>=_) _ _ _;have up3:∀c o,c≠z->c≠i1->c≠TO->s.heap.get? c=some o->g3.get? c=some o:=λc o c1 c2 c3 e=>s3.extBut _ o c3 (s2.extBut _ o c2 (s1.extBut _ o c1 e));refine A2 (w5 (s:={ s with heap:=g3 }) (h2.at λo e=>up3 _ o D.a4 D.a10.symm D.a9.symm e) (hl2.at λo e=>up3 _ o m2 m6 m4 e) hy λg4 j4 s4=>A9 ?_);have t4:IsPair g4 TO x b:=s4.extBut _ _ D.a9 t3;refine A2 (P7 t4 rfl (A2 (wpAny_updateSeq_pair (s:={ s with heap:=g4 }) t4 λg5 t5 s5=>A2 (Br (A9 (A9 ?_))))))
 replace t5:IsPair g5 TO x y:=t5
 refine A2 (P7 t5 rfl (A2 (wpAny_newTuple ?_)));have hsz:g5.objs.size=s.heap.objs.size:=by rw[s5.1,s4.1,s3.1,s2.1,s1.1]
 have z5:IsZip g5 z TI TO .ellipsis:=s5.extBut _ _ D.a2.symm (s4.extBut _ _ D.a4.symm (s3.extBut _ _ D.a2.symm (s2.extBut _ _ D.a3.symm z1)));have up5:∀c o,c≠z->c≠TO->c≠i1->c≠i2->s.heap.get? c=some o->g5.get? c=some o:=λc o c1 c2 c3 c4 e=>s5.extBut _ _ c2 (s4.extBut _ _ c4 (up3 c o c1 c3 c2 e));have j1:ItB b1 g5 i1 l1 (k+1):=j2.at λo e=>s5.extBut _ o D.a8.symm (s4.extBut _ o D.a10 (s3.extBut _ o D.a8.symm e));have j5:ItB b2 g5 i2 l2 (k+1):=j4.at λo e=>s5.extBut _ o D.a9.symm e;have zlt:z<g5.objs.size:=C4 z5;show A6 _ _ (Ei (.ref z) (.ref g5.objs.size)>>=_) _ _ _;refine A2 ?_;unfold Ei;have z6:IsZip (g5.push { cls:=.type "tuple",data:=.seq #[x,y] }) z TI TO .ellipsis:=C1 _ z5;refine A2 (W0 z6 (by simp) λg7 z7 s7=>?_)
 replace z7:IsZip g7 z TI TO (rawInt g5.objs.size):=z7
 refine W0 z7 (by simp) λg8 z8 s8=>?_
 replace z8:IsZip g8 z TI TO (rawInt g5.objs.size):=z8
 have up8:∀c o,c≠z->g5.get? c=some o->g8.get? c=some o:=λc o c1 e=>s8.extBut _ _ c1 (s7.extBut _ _ c1 (C1 _ e));have t8:IsPair g8 g5.objs.size x y:=s8.extBut _ _ (i7 zlt) (s7.extBut _ _ (i7 zlt) (F4 _ rfl));rw[hsz] at z8 t8;refine A9 ⟨_,rfl,?_⟩;show Q (.ref g5.objs.size) _;rw[hsz];exact hQ g8 z8 (up8 _ _ D.a2 t5) (j1.at λo e=>up8 _ o D.a3 e) (j5.at λo e=>up8 _ o D.a4 e) t8 λc o c1 c2 c3 c4 e=>up8 c o c1 (up5 c o c1 c2 c3 c4 e)
theorem KB {z TI TO i1 i2 l1 l2:A0}(hh:A.handled=none)(D:ZAp z TI TO i1 i2)(m1:l1≠z)(m2:l2≠z)(m3:l1≠TO)(m4:l2≠TO)(m5:l1≠i1)(m6:l2≠i1)
   (hz:IsZip s.heap z TI TO .none) (hTI:IsPair s.heap TI (.ref i1) (.ref i2)) (hTO:IsPair s.heap TO a b) (h1:ItB b1 s.heap i1 l1 k) (h2:ItB b2 s.heap i2 l2 k) (hl1:SeB b1 s.heap l1 xs) (hl2:SeB b2 s.heap l2 ys) (hend:xs[k]?=none\/ys[k]?=none)
   (hE:∀h' e,(∀c o,c≠z->c≠TO->c≠i1->c≠i2->s.heap.get? c=some o->h'.get? c=some o)->(∃o,h'.get? e=some o/\o.cls=.type "StopIteration")->E (.ref e) { s with heap:=h' }) :
   A6 (A8 prog w) A (O4.«zip.__next__» ⟨[.ref z],[]⟩) Q E s:=by
 show A6 _ _ (field (.ref z) 2>>=_) _ _ _;refine A2 (G7 hz rfl (x:=.bool false) rfl ?_);show A6 _ _ (field (.ref z) 3>>=_) _ _ _;refine A2 (G7 hz rfl (x:=.ref TI) rfl (A2 (P7 hTI rfl ?_)));show A6 _ _ (W9 (.ref z)>>=_) _ _ _;refine A2 ?_;unfold W9;refine A2 (G7 hz rfl (x:=.none) rfl (A9 ?_));simp only[if_true];refine A2 (V4 (A2 (G7 hz rfl (x:=.ref TO) rfl (A2 (W0 hz (by simp) λg1 z1 s1=>?_)))))
 replace z1:IsZip g1 z TI TO .ellipsis:=z1
 refine A2 ?_;simp only[CP,Ef,AM,y8];refine A2 (A2 (x4 ?_));show A6 _ _ (Q1 (.ref i1)>>=_) _ _ _;have h1':ItB b1 g1 i1 l1 k:=h1.at λo e=>s1.extBut _ o D.a3 e;have hl1':SeB b1 g1 l1 xs:=hl1.at λo e=>s1.extBut _ o m1 e
 have nz:∀{g:B5} {e:A0} {o:Obj},IsZip g z TI TO .ellipsis->g.get? e=some o->o.cls=.type "StopIteration"->e≠z:=λ{g e o} hz ho hc x=>by
  subst x;rw[hz] at ho;cases ho;exact absurd (show N0 "zip"=N0 "StopIteration" from hc) (by decide)
 cases hx:xs[k]? with
 | none =>
  refine A2 (Cc (s:={ s with heap:=g1 }) hh h1' hl1' hx λg2 e s2 ⟨oe,hoe,hce⟩=>?_);have z2:IsZip g2 z TI TO .ellipsis:=s2 _ _ D.a3.symm z1;exact W0 z2 (by simp) λg3 _ s3=>hE g3 e (λc o c1 _ c3 _ x=>s3.extBut _ _ c1 (s2 _ _ c3 (s1.extBut _ _ c1 x))) ⟨oe,s3.extBut _ _ (nz z2 hoe hce) hoe,hce⟩
 | some x =>
  have hy:ys[k]?=none:=hend.elim (λh=>by rw[hx] at h;cases h) id;refine A2 (w5 (s:={ s with heap:=g1 }) h1' hl1' hx λg2 j2 s2=>A9 ?_);have t2:IsPair g2 TO a b:=s2.extBut _ _ D.a8 (s1.extBut _ _ D.a2 hTO);refine A2 (P7 t2 rfl (A2 (wpAny_updateSeq_pair (s:={ s with heap:=g2 }) t2 λg3 t3 s3=>A2 (Br (A9 ?_)))));refine A2 (A2 (x4 ?_));show A6 _ _ (Q1 (.ref i2)>>=_) _ _ _;have up3:∀c o,c≠z->c≠i1->c≠TO->s.heap.get? c=some o->g3.get? c=some o:=λc o c1 c2 c3 e=>s3.extBut _ o c3 (s2.extBut _ o c2 (s1.extBut _ o c1 e));refine A2 (Cc (s:={ s with heap:=g3 }) hh (h2.at λo e=>up3 _ o D.a4 D.a10.symm D.a9.symm e) (hl2.at λo e=>up3 _ o m2 m6 m4 e) hy λg4 e s4 ⟨oe,hoe,hce⟩=>?_);have z4:IsZip g4 z TI TO .ellipsis:=s4 _ _ D.a4.symm (s3.extBut _ _ D.a2.symm (s2.extBut _ _ D.a3.symm z1));exact W0 z4 (by simp) λg5 _ s5=>hE g5 e (λc o c1 c2 c3 c4 x=>s5.extBut _ _ c1 (s4 _ _ c4 (up3 c o c1 c3 c2 x))) ⟨oe,s5.extBut _ _ (nz z4 hoe hce) hoe,hce⟩
end
def itO (b:Bool)(l:A0):Obj:=match b with|true=>{ cls:=.type "list_iterator",data:=.fields #[.ref l,.int 0 0] }|false=>{ cls:=.type "tuple_iterator",data:=.fields #[.ref l,.int 0 0] }
theorem Dy (b:Bool)(l:A0):(itO b l).isFreed=false:=by cases b <;> rfl
theorem Dz (e:h.get? a=some (itO b l)):ItB b h a l 0:=by
 cases b with
 |true=>exact⟨_,e,rfl,rfl⟩
 |false=>exact⟨_,e,rfl,rfl⟩
theorem DA (ht:SeB b s.heap t items)(hQ:Q (.ref s.heap.objs.size) { s with heap:=s.heap.push (itO b t) }):A6 (A8 prog w) A (pyIter (.ref t)) Q E s:=by
 cases b with
 |true=>exact DV ht hQ
 |false=>exact Cz ht hQ
abbrev zh2 (h:B5)(b1 b2:Bool)(l1 l2:A0):B5:=(h.push (itO b1 l1)).push (itO b2 l2)
abbrev zh3 (h:B5)(b1 b2:Bool)(l1 l2:A0):B5:=(zh2 h b1 b2 l1 l2).push { cls:=.type "tuple",data:=.seq #[.ref h.objs.size,.ref (h.push (itO b1 l1)).objs.size] }
abbrev zh4 (h:B5)(b1 b2:Bool)(l1 l2:A0):B5:=(zh3 h b1 b2 l1 l2).push { cls:=.type "tuple",data:=.seq #[.none,.none] }
abbrev zh5 (h:B5)(b1 b2:Bool)(l1 l2:A0):B5:=(zh4 h b1 b2 l1 l2).push { cls:=.type "zip",data:=.fields #[.none,.bool false,.bool false,.ref (zh2 h b1 b2 l1 l2).objs.size,.ref (zh3 h b1 b2 l1 l2).objs.size] }
theorem zipNew (b1 b2:Bool)(l1 l2:A0)(xs ys:Array A3) :
   Meets (O4.«zip.__new__» ⟨[.type "zip",.ref l1,.ref l2],[]⟩) (λ_ R s=>SeB b1 s.heap l1 xs/\SeB b2 s.heap l2 ys/\R (.ok (.ret (.ref (zh4 s.heap b1 b2 l1 l2).objs.size))) { s with heap:=zh5 s.heap b1 b2 l1 l2 }):=
 .of_wp λprog w A R s hyp=>by
  obtain⟨hp,g,d,tk,os⟩:=s;obtain⟨k1,k2,fin⟩:=hyp;have hsub:=sub_zip;have L1:SeB b1 (BL ⟨hp,g,d,tk,os⟩) l1 xs:=k1;have L2:SeB b2 (BL ⟨hp.push (itO b1 l1),g,d,tk,os⟩) l2 ys:=k2.at λo e=>C1 _ e
  wp_walk using DA L1,DA L2
  exact⟨_,rfl,fin⟩
section
variable {prog:D3}{w:C3}{A:E8}{E:A3->A5->Prop}{s:A5}
theorem zipB (hl1:SeB b1 s.heap l1 xs)(hl2:SeB b2 s.heap l2 ys)
   (h:∀h',IsZip h' (s.heap.objs.size+4) (s.heap.objs.size+2) (s.heap.objs.size+3) .none->IsPair h' (s.heap.objs.size+2) (.ref s.heap.objs.size) (.ref (s.heap.objs.size+1))->
     IsPair h' (s.heap.objs.size+3) .none .none->ItB b1 h' s.heap.objs.size l1 0->ItB b2 h' (s.heap.objs.size+1) l2 0->(∀c o,s.heap.get? c=some o->h'.get? c=some o)->Q (.ref (s.heap.objs.size+4)) { s with heap:=h' }) :
   A6 (A8 prog w) A (call (.type "zip") [.ref l1,.ref l2]) Q E s:=by
 refine callType_new F.called_zip (by decide) (F.typeCall_zip_2 _ _) (F.newCall_zip_2 _ _) (λobj=>F.args_object_init_3 obj _ _) F.entry_zip_new (zipNew b1 b2 l1 l2 xs ys) ⟨hl1,hl2,?_⟩;have z1:(s.heap.push (itO b1 l1)).objs.size=s.heap.objs.size+1:=T3 ..;have z2:(zh2 s.heap b1 b2 l1 l2).objs.size=s.heap.objs.size+2:=by rw[T3,z1]
 have z3:(zh3 s.heap b1 b2 l1 l2).objs.size=s.heap.objs.size+3:=by rw[T3,z2]
 have z4:(zh4 s.heap b1 b2 l1 l2).objs.size=s.heap.objs.size+4:=by rw[T3,z3]
 have g5:(zh5 s.heap b1 b2 l1 l2).get? (zh4 s.heap b1 b2 l1 l2).objs.size=some _:=F4 _ rfl;have g4:(zh5 s.heap b1 b2 l1 l2).get? (zh3 s.heap b1 b2 l1 l2).objs.size=some _:=C1 _ (F4 _ rfl);have g3:(zh5 s.heap b1 b2 l1 l2).get? (zh2 s.heap b1 b2 l1 l2).objs.size=some _:=C1 _ (C1 _ (F4 _ rfl));have g2:(zh5 s.heap b1 b2 l1 l2).get? (s.heap.push (itO b1 l1)).objs.size=some _:=C1 _ (C1 _ (C1 _ (F4 _ (Dy b2 l2))));have g1:(zh5 s.heap b1 b2 l1 l2).get? s.heap.objs.size=some _:=C1 _ (C1 _ (C1 _ (C1 _ (F4 _ (Dy b1 l1)))));show _/\_;rw[z2,z3,z4] at g5;rw[z1,z2] at g3;rw[z3] at g4;rw[z1] at g2;rw[z4];exact⟨⟨_,g5,rfl⟩,h _ g5 g3 g4 (Dz g1) (Dz g2) λc o x=>C1 _ (C1 _ (C1 _ (C1 _ (C1 _ x))))⟩
end
section
variable {X:Cx}
def ItzB (b1 b2:Bool)(K:A7)(a c:A0):It:=
 ⟨λi H=>∃xs ys x y,SqB b1 K H a xs/\SqB b2 K H c ys/\xs[i]?=some x/\ys[i]?=some y,
  λi H x H'=>∃p u v,H p=none/\x=.ref p/\H'=upd H p (.tup [u,v])/\(∀xs,SqB b1 K H a xs->xs[i]?=some u)/\∀ys,SqB b2 K H c ys->ys[i]?=some v,
  λi H=>∃xs ys,SqB b1 K H a xs/\SqB b2 K H c ys/\min xs.length ys.length<=i⟩
theorem o8 (p:SeB b h l items)(he:h.get? e=some o)(hc:o.cls=.type n)(h1:n≠"list")(h2:n≠"tuple"):l≠e:=λz=>by
 obtain⟨o',e1,c1⟩:=p.obj;rw[z,he] at e1;cases e1;rw[hc] at c1;rcases c1 with c1|c1
 ·exact h1 (Value.type.inj c1)
 ·exact h2 (Value.type.inj c1)
theorem ET {l z TI TO i1 i2:A0}(I:Inv X jd σ H s)(hf:∀d∈[z,TI,TO,i1,i2],FpOk X jd H d)(hTO:IsPair s.heap TO p q)(hq:SqB b X.K H l xs):l≠TO:=λzz=>by
 obtain⟨f0,f1,f2,f3,f4,f5⟩:=hf TO (by simp);subst zz;cases b with
 | true =>
  obtain⟨jh,_,pl,_⟩:=I.list hq;obtain⟨o,e,c1,_⟩:=pl.isList;rw[hTO] at e;cases e;exact absurd (show N0 "tuple"=N0 "list" from c1) (by decide)
 | false =>
  rcases hq with hq|⟨o,jh,n,hk,hc1,hs,hz,r⟩
  ·rcases hq with e|⟨o,e⟩
   ·rw[f0] at e;cases e
   ·rw[f0] at e;cases e
  ·have eb:X.base.get? l=some o:=I.ok.mod.kin l o hk;rcases f3 with f3|f3
   ·exact I.ok.noex l o eb f3
   ·exact absurd (L0 (C4 eb) (G8 I.ok.bsz f3)) (W8 _)
theorem Inv.turnedAll {ch:List A0}(I:Inv X jd σ H s)(k:∀b o,b∉ch->s.heap.get? b=some o->h'.get? b=some o)(hf:∀b∈ch,FpOk X jd H b):Inv X jd σ H { s with heap:=h',toks:=t' }:=by
 have nch:∀b u,H b=some u->b∉ch:=λb u e z=>by rw[(hf b z).1] at e;cases e
 refine I.step (g':=s.gens) (d':=s.drawn) (ch:=ch) (λb hb=>⟨(hf b hb).2.2.2.1,(hf b hb).2.1,(hf b hb).2.2.2.2.1,(hf b hb).2.2.2.2.2⟩) (λb o _ _ hc e _=>k b o hc e) (λb o _ _ hc e _=>⟨o.slots,k b o hc e⟩) (λ_ _ _ _ n=>n)
   (λb o hc e=>⟨o,k b o hc e⟩) (λ_ _ e=>e) (λ_ _ _ e=>e) (λb ps e=>⟨#[],by rw[e];simp⟩) (λz=>z) (λm hm=>?_) (λb u e=>?_) I.bare
 ·obtain⟨o,es,ep,ho,r⟩:=hm;exact⟨o,es,ep,k _ o (λz=>(hf _ z).2.1 rfl) ho,r⟩
 ·refine(I.hok b u e).stay (λc v hc q=>k c v ?_ q) (λc q=>q) λc ys q=>q;rcases hc with z|z
  ·rw[z];exact nch b u e
  ·exact nch c _ z
theorem Qr {b1 b2:Bool}{P:D3}{w:C3}{K:A7}{elts:List Expr}{x1}{pos:Pos}(a c z TI TO i1 i2:A0)(D:ZAp z TI TO i1 i2) :
   Turn P w K (.Tuple elts x1 pos) (ItzB b1 b2 K a c) [z,TI,TO,i1,i2] z (λi h=>IsZip h z TI TO .none/\IsPair h TI (.ref i1) (.ref i2)/\(∃p q,IsPair h TO p q)/\ItB b1 h i1 a i/\ItB b2 h i2 c i) where
 mem:=by simp
 obj:=λi h st e he=>by
  obtain⟨hz,h1,⟨p,q,h2⟩,h3,h4⟩:=st;obtain⟨o3,e3,_,d3⟩:=h3.obj;obtain⟨o4,e4,_,d4⟩:=h4.obj;have he':e=z\/e=TI\/e=TO\/e=i1\/e=i2:=by simpa using he
  rcases he' with rfl|rfl|rfl|rfl|rfl
  ·exact⟨_,hz,λv z=>by cases z⟩
  ·exact⟨_,h1,λv z=>by cases z⟩
  ·exact⟨_,h2,λv z=>by cases z⟩
  ·exact⟨_,e3,d3⟩
  ·exact⟨_,e4,d4⟩
 keep:=λi h h' st k=>by
  obtain⟨hz,h1,⟨p,q,h2⟩,h3,h4⟩:=st;exact⟨k z (by simp) _ hz,k TI (by simp) _ h1,⟨p,q,k TO (by simp) _ h2⟩,h3.at λo e=>k i1 (by simp) o e,h4.at λo e=>k i2 (by simp) o e⟩
 item:=by
  intro X hP hw hK hc i jd s σ H E I hf st hg;subst hP hw hK;obtain⟨hz,hTI,⟨p,q,hTO⟩,h3,h4⟩:=st;obtain⟨xs,ys,x,y,hq1,hq2,hx,hy⟩:=hg;obtain⟨is1,rv1,p1,hz1⟩:=I.seqB hq1;obtain⟨is2,rv2,p2,hz2⟩:=I.seqB hq2;obtain⟨u,hu,ru⟩:=rv1.get hx;obtain⟨v,hv,rv⟩:=rv2.get hy;have ty:s.TypeIs (.ref z) "zip":=⟨_,hz,rfl⟩;unfold pyNext;refine A2 (p8 (T9 (name:=C7 "__next__") ty R3 (P6 R3 ty Ac (KA D (o8 p1 hz rfl (by decide) (by decide)) (o8 p2 hz rfl (by decide) (by decide)) (ET I hf hTO hq1) (ET I hf hTO hq2) (h3.ne p1) (h3.ne p2) hz hTI hTO h3 h4 p1 p2 (by simpa using hu) (by simpa using hv) λh' a1 a2 a3 a4 a5 k=>A9 ?_) (Ab _))));refine⟨_,rfl,wpAny_letOwnedTupleGo_zip (s:={ s with heap:=h' }) a1 λh'' z'' sb=>?_⟩;have lt:∀{d:A0} {o:Obj},s.heap.get? d=some o->s.heap.objs.size≠d:=λe=>i7 (C4 e);have ht'':h''.get? s.heap.objs.size=some { cls:=.type "tuple",data:=.seq #[u,v] }:=(sb.2 _ (lt hz)).trans a5
  have k':∀d o,d∉[z,TI,TO,i1,i2]->s.heap.get? d=some o->h''.get? d=some o:=λd o hb q=>by
   have hb1:d≠z:=λe=>hb (by simp[e]);exact(sb.2 d hb1).trans (k d o hb1 (λe=>hb (by simp[e])) (λe=>hb (by simp[e])) (λe=>hb (by simp[e])) q)
  have I1:Inv X jd σ (upd H s.heap.objs.size (.tup [x,y])) { s with heap:=h'' }:=
   I.turnedNew (t':=s.toks) k' hf ⟨by show 2<=B8;decide,[u,v],.cons ru (.cons rv .nil),⟨_,ht'',rfl,_,rfl⟩⟩
  obtain⟨o3,e3,_,_⟩:=h3.obj;obtain⟨o4,e4,_,_⟩:=h4.obj
  refine⟨.ref s.heap.objs.size,_,I1,rfl,⟨_,x,y,I.fresh,rfl,rfl,λzs hzs=>by rw[I.seqB_inj hzs hq1];exact hx,λzs hzs=>by rw[I.seqB_inj hzs hq2];exact hy⟩,
   ⟨z'',sb.extBut _ _ D.a1 (k _ _ D.a1 D.a5 D.a6 D.a7 hTI),⟨u,v,sb.extBut _ _ D.a2 a2⟩,a3.at λo e=>sb.extBut _ o D.a3 e,a4.at λo e=>sb.extBut _ o D.a4 e⟩,λd hd=>?_⟩
  have hd':d=z\/d=TI\/d=TO\/d=i1\/d=i2:=by simpa using hd
  have hds:d≠s.heap.objs.size:=by
   rcases hd' with rfl|rfl|rfl|rfl|rfl
   ·exact(lt hz).symm
   ·exact(lt hTI).symm
   ·exact(lt hTO).symm
   ·exact(lt e3).symm
   ·exact(lt e4).symm
  rw[C0 hds];exact(hf d hd).1
 done:=by
  intro X hP hw hK hc i jd s σ H E I hf st hg;subst hP hw hK;obtain⟨hz,hTI,⟨p,q,hTO⟩,h3,h4⟩:=st;obtain⟨xs,ys,hq1,hq2,hmin⟩:=hg;obtain⟨is1,rv1,p1,hz1⟩:=I.seqB hq1;obtain⟨is2,rv2,p2,hz2⟩:=I.seqB hq2;have l1:=rv1.length;have l2:=rv2.length;have ty:s.TypeIs (.ref z) "zip":=⟨_,hz,rfl⟩
  have hend:is1.toArray[i]?=none\/is2.toArray[i]?=none:=by
   rcases Nat.le_total xs.length ys.length with h|h
   ·exact .inl (Da (by rw[F5];omega))
   ·exact .inr (Da (by rw[F5];omega))
  unfold pyNext;refine A2 (p8 (T9 (name:=C7 "__next__") ty R3 (P6 R3 ty Ac (KB (A:=X.A.in1) (I.ok.hd hc) D (o8 p1 hz rfl (by decide) (by decide)) (o8 p2 hz rfl (by decide) (by decide)) (ET I hf hTO hq1) (ET I hf hTO hq2) (h3.ne p1) (h3.ne p2) hz hTI hTO h3 h4 p1 p2 hend λh' e k he=>?_) (Ab _))));obtain⟨o,ho,hce⟩:=he;refine A2 (CA (T:="StopIteration") (b:=true) ⟨o,ho,hce⟩ CF (A9 ⟨rfl,?_⟩));exact I.turnedAll (t':=s.toks) (ch:=[z,TI,TO,i1,i2]) (λd o hd e=>k d o (λz=>hd (by simp[z])) (λz=>hd (by simp[z])) (λz=>hd (by simp[z])) (λz=>hd (by simp[z])) e) hf
 self:=λ_ _ _ _ _ st h=>CB st.1 h
end
end L2
end
section
namespace L2
open PySem PySem.Spec PyProof.Rows
section
variable {X:Cx}
def iZipB (b1 b2:Bool)(K:A7)(ta:TA):TI:=λσ H R=>ta σ H λvs H1=>∃a c,vs=[.ref a,.ref c]/\(∃xs,SqB b1 K H1 a xs)/\(∃ys,SqB b2 K H1 c ys)/\R (ItzB b1 b2 K a c) H1
theorem Qs (b1 b2:Bool){a b:Expr}{ta:TA}{p pos:Pos}{elts:List Expr}{x1}{tpos:Pos}(hg:Gl X "zip")(hm:X.mg "zip"=none)(ha:PA X [a,b] ta)(hs:E2 [a,b] X.env=[(false,eval a X.env),(false,eval b X.env)]:=by rfl)(hs2:E2 [b] X.env=[(false,eval b X.env)]:=by rfl) :
   PI X (.Tuple elts x1 tpos) (.Call (.Name "zip" p) [a,b] [] pos) (iZipB b1 b2 X.K ta):=by
 intro jd s σ H R I h;refine Call_ (U5 I hg hm boot_zip (Y8 (thn (ha pos jd s σ H _ I h) λus s1 ⟨vs,H1,I1,r1,q1⟩=>?_) (by rw[hs,hs2]) (by rw[hs2];rfl)));obtain⟨a,c,e,⟨xs,h1⟩,⟨ys,h2⟩,q⟩:=q1;subst e;cases r1 with
 | cons r rr =>
  cases rr with
  | cons r' rr =>
   cases rr;cases r;cases r';obtain⟨is1,rv1,p1,hz1⟩:=I1.seqB h1;obtain⟨is2,rv2,p2,hz2⟩:=I1.seqB h2;refine zipB p1 p2 λh' e1 e2 e3 e4 e5 hk=>?_;refine CB e1 ?_;have I2:Inv X jd σ H1 { s1 with heap:=h' }:=I1.kept (t':=s1.toks) hk;refine⟨s1.heap.objs.size+4,[s1.heap.objs.size+4,s1.heap.objs.size+2,s1.heap.objs.size+3,s1.heap.objs.size,s1.heap.objs.size+1],_,_,H1,rfl,I2,Qr a c _ _ _ _ _ ⟨by simp,by simp,by simp,by simp,by simp,by simp,by simp,by simp,by simp,by simp⟩,⟨e1,e2,⟨_,_,e3⟩,e4,e5⟩,λd hd=>?_,q⟩
   have hd':s1.heap.objs.size<=d:=by
    simp only[C8,T1,or_false] at hd;rcases hd with rfl|rfl|rfl|rfl|rfl <;> omega
   exact I1.fpOk hd' (I1.hok.fresh hd')
end
end L2
namespace Pu
open PySem PySem.Spec L2
section
variable {T:PotK}{ι:Type}{K:A7}{F:ι->Cx}{e a b tg:Expr}{pe pa pb:pE}{pos:Pos}
def EU (pe:pE):pA:=λenv n R=>pe env n λx je n1=>match x with|.tup xs=>R (At xs) je n1|_=>False
theorem KC {p:Pos}{elts:List Expr}{x1:Nat}{tpos:Pos}(hg:∀z,Gl (F z) "enumerate")(hm:∀z,(F z).mg "enumerate"=none)(h:QE T K F e pe)(hs:D8 e=true:=by rfl)(hK:∀z,(F z).K=K:=by intro _;rfl):QI T K F (.Tuple elts x1 tpos) (.Call (.Name "enumerate" p) [e] [] pos) (EU pe):=by
 obtain⟨t,h1,h2⟩:=h;refine⟨_,λz=>hK z▸Qq false (hg z) (hm z) (D4 (h1 z) G0 (B9 hs)) (by rw[B9 hs];rfl),λC G σ H env n R Q hK hT S hp k=>?_⟩;refine h2 C G σ H env n _ _ hK hT S hp λx je n1 v H1 p1 S1 r1 f1=>?_;cases x with
 | tup xs =>
  obtain⟨a,vs,rfl,t,r⟩:=r1;refine⟨a,rfl,⟨vs,t.sq⟩,k _ _ _ _ _ p1 S1 f1 ?_⟩;intro G2 H2 hk hM hp hf;have hq:SqB false K H2 a vs:=SqT.of (hk a _ t.1 t.2);have r2:Reps K G2 H2 xs vs:=Reps.mono hk hM hp _ _ r;refine⟨λi x e=>?_,λi hi=>⟨vs,hq,by rw[<- r.length,<- Dq];exact hi⟩⟩;obtain⟨y,ey,rfl⟩:=EL e;obtain⟨v,ev,rv⟩:=r2.get' ey;refine⟨⟨vs,v,hq,ev⟩,λv' H3 y=>?_⟩;obtain⟨p,w,hn,rfl,rfl,y⟩:=y;have:=y vs hq;rw[ev] at this;cases this;exact⟨Same.lay1 hn,u7 (hf p hn) hn (.cons rfl (.one rv))⟩
 |_=>exact p1.elim
def zipP (xs ys:List PV):List PV:=(xs.zip ys).map λy=>.tup [y.1,y.2]
def Z9 (b:Bool):PV->Option (List PV)
 |.lst xs=>if b then some xs else none
 |.tup xs=>if b then none else some xs
 |_=>none
theorem Qt {b:Bool}(h:Z9 b x=some xs):x=(match b with|true=>.lst xs|false=>.tup xs):=by
 cases x <;> cases b <;> simp[Z9] at h <;> simp[h]
theorem Be {b:Bool}(h:Z9 b x=some xs)(r:Rep K G H x v):∃a vs,v=.ref a/\a∉G.M/\Reps K G H xs vs/\∀H2,(∀c o,c∉G.M->H c=some o->H2 c=some o)->SqB b K H2 a vs:=by
 rw[Qt h] at r;cases b with
 | true =>
  obtain⟨a,vs,e,t,r⟩:=r;exact⟨a,vs,e,t.1,r,λH2 hk=>SqL.of (hk a _ t.1 t.2)⟩
 | false =>
  obtain⟨a,vs,e,t,r⟩:=r;exact⟨a,vs,e,t.1,r,λH2 hk=>SqT.of (hk a _ t.1 t.2)⟩
def qZip (b1 b2:Bool)(pa pb:pE):pA:=λenv n R=>pa env n λx je n1=>pb je n1 λy jf n2=>match Z9 b1 x,Z9 b2 y with|some xs,some ys=>R (zipP xs ys) jf n2|_,_=>False
theorem KD (xs ys:List PV):(zipP xs ys).length=min xs.length ys.length:=by simp[zipP]
theorem KF {xs ys:List PV}{i:Nat}{x:PV}(h:(zipP xs ys)[i]?=some x):∃u v,xs[i]?=some u/\ys[i]?=some v/\x=.tup [u,v]:=by grind [PV,zipP]
theorem qi_zip (b1 b2:Bool)(hg:∀z,Gl (F z) "zip")(hm:∀z,(F z).mg "zip"=none)(ha:QE T K F a pa)(hb:QE T K F b pb)(hs:D8 a=true:=by rfl)(hs2:D8 b=true:=by rfl)(hK:∀z,(F z).K=K:=by intro _;rfl):QI T K F (.Tuple elts x1 tpos) (.Call (.Name "zip" p) [a,b] [] pos) (qZip b1 b2 pa pb):=by
 obtain⟨t,h1,h2⟩:=ha;obtain⟨u,h3,h4⟩:=hb;refine⟨_,λz=>hK z▸Qs b1 b2 (hg z) (hm z) (D4 (h1 z) (D4 (h3 z) G0 (B9 hs2)) (B9 hs)) (by rw[B9 hs,B9 hs2];rfl) (by rw[B9 hs2];rfl),λC G σ H env n R Q hK hT S hp k=>?_⟩;refine h2 C G σ H env n _ _ hK hT S hp λx je n1 v H1 p1 S1 r1 f1=>?_;refine h4 C G σ H1 je n1 _ _ hK hT S1 p1 λy jf n2 w H2 p2 S2 r2 f2=>?_
 split at p2
 ·rename_i xs ys ex ey;obtain⟨a,vs,rfl,na,ra,sa⟩:=Be ex (r1.fr f2);obtain⟨c,us,rfl,nc,rc,scq⟩:=Be ey r2;refine⟨a,c,rfl,⟨vs,sa H2 λ_ _ _ e=>e⟩,⟨us,scq H2 λ_ _ _ e=>e⟩,k _ _ _ _ _ p2 S2 (f1.trans f2) ?_⟩;intro G2 H3 hk hM hp hf;have ra':Reps K G2 H3 xs vs:=Reps.mono hk hM hp _ _ ra;have rc':Reps K G2 H3 ys us:=Reps.mono hk hM hp _ _ rc;refine⟨λi x e=>?_,λi hi=>⟨vs,us,sa H3 hk,scq H3 hk,by rw[<- ra.length,<- rc.length,<- KD];exact hi⟩⟩;obtain⟨u,v,eu,ev,rfl⟩:=KF e;obtain⟨u',eu',ru⟩:=ra'.get' eu;obtain⟨v',ev',rv⟩:=rc'.get' ev;refine⟨⟨vs,us,u',v',sa H3 hk,scq H3 hk,eu',ev'⟩,λx' H4 y=>?_⟩;obtain⟨p,u2,v2,hn,rfl,rfl,y1,y2⟩:=y;have q1:=y1 vs (sa H3 hk);have q2:=y2 us (scq H3 hk);rw[eu'] at q1;rw[ev'] at q2;cases q1;cases q2;exact⟨Same.lay1 hn,u7 (hf p hn) hn (.cons ru (.one rv))⟩
 ·exact p2.elim
end
end Pu
end
section
namespace L2
open PySem PySem.Spec PyProof.Rows
section
variable {κ:Type}[DecidableEq κ]
def valV (ji:List (κ×V))(k:κ):Option V:=(ji.find? λkv=>decide (kv.1=k)).map (·.2)
def putK (ji:List (κ×V))(k:κ)(v:V):List (κ×V):=
 if(ji.any λkv=>decide (kv.1=k))=true then ji.map (λkv=>if kv.1=k then(kv.1,v) else kv) else ji++[(k,v)]
theorem Hf {k:κ}(e:p.1=k):valV (p::r) k=some p.2:=by simp[valV,Bv,e]
theorem Hg {k:κ}(e:¬p.1=k):valV (p::r) k=valV r k:=by simp[valV,Bv,e]
theorem EV (k:κ):∀ji:List (κ×V),(ji.any λkv=>decide (kv.1=k))=(valV ji k).isSome
 |[]=>rfl
 | p :: r => by
  rw[List.any_cons]
  by_cases e:p.1=k
  ·simp only[Hf e,ju e,Bool.true_or,Option.isSome_some]
  ·rw[Hg e,jv e,Bool.false_or];exact EV k r
theorem KG (ji:List (κ×V))(k:κ)(v:V):(putK ji k v).length<=ji.length+1:=by
 unfold putK
 split
 ·rw[B1];omega
 ·rw[D6,L8,List.length_nil];omega
theorem RelO.isSome_eq (r:RelO o u):o.isSome=u.isSome:=by
 cases o with
 | none => cases u with
  |none=>rfl
  |some _=>exact(show False from r).elim
 | some _ => cases u with
  |none=>exact(show False from r).elim
  |some _=>rfl
theorem KV.val (r:KV ji vs)(k:κ):RelO (valV ji k) (valueAt vs k):=by
 unfold KV at r
 induction r with
 |nil=>exact Z0
 | @cons p q ps qs h t ih =>
  obtain⟨h1,h2⟩:=h
  by_cases e:p.1=k
  ·have e':q.1=k:=h1.symm.trans e;have b:valueAt (q::qs) k=some q.2:=by simp[valueAt,Bv,e']
   rw[Hf e,b];exact h2
  ·have e':¬q.1=k:=λz=>e (h1.trans z);have b:valueAt (q::qs) k=valueAt qs k:=by simp[valueAt,Bv,e']
   rw[Hg e,b];exact ih
theorem KV.any {ji:List (κ×V)}{vs:List (κ×A3)}(r:KV ji vs)(k:κ):(ji.any λkv=>decide (kv.1=k))=vs.any λkv=>decide (kv.1=k):=by induction r <;> grind
theorem KV.repl (r:KV ji vs)(k:κ)(ry:RelV y u) :
   KV (ji.map λkv=>if kv.1=k then(kv.1,y) else kv) (vs.map λkv=>if kv.1=k then(kv.1,u) else kv):=by
 unfold KV at r ⊢
 induction r with
 |nil=>exact .nil
 | @cons p q ps qs h t ih =>
  rw[J5,J5];refine .cons ?_ ih;obtain⟨h1,h2⟩:=h
  by_cases e:p.1=k
  ·rw[jw e,jw (h1.symm.trans e)];exact⟨h1,ry⟩
  ·rw[jy e,jy (λz=>e (h1.trans z))];exact⟨h1,h2⟩
theorem KV.put (r:KV ji vs)(k:κ)(ry:RelV y u):KV (putK ji k y) (stored vs k u):=by
 unfold putK stored;rw[r.any k]
 by_cases e:(vs.any λkv=>decide (kv.1=k))=true
 ·rw[jw e,jw e];exact r.repl k ry
 ·rw[jy e,jy e];exact Paired.snoc r ⟨rfl,ry⟩
theorem KV.length (r:KV ji vs):ji.length=vs.length:=Dc r
end
theorem Cd (r:RelV (kV k) u):(N1 P w).is k u=true:=by
 cases k with
 |inl i=>obtain⟨t,e⟩:=(show ∃t,u=BG i t from r);subst e;exact NI P w i t
 |inr x=>obtain⟨t,e⟩:=(show ∃t,u=Value.str x t from r);subst e;exact NJ P w x t
theorem KH {P:D3}{w:C3}:∀{ks:List Key} {us:List A3},Vals (ks.map kV) us->ItemsAre (N1 P w) ks us
 |[],_,r=>by rw[List.map_nil] at r;cases r;exact .nil
 | k :: ks, _, r => by
  rw[J5] at r;cases r with
  |cons h t=>exact .cons (Cd h) (KH t)
abbrev KT (H:Hp):List (List Key×V)->List (List Key×A0×A3)->Prop:=Paired λp q=>p.1=q.1/\H q.2.1=some (.tup (p.1.map kV))/\RelV p.2 q.2.2
theorem KT.val (r:KT H ji xs)(k:List Key):RelO (valV ji k) ((atKey xs k).map (·.2)):=by
 induction r with
 |nil=>exact Z0
 | @cons p q ps qs h t ih =>
  obtain⟨h1,_,h2⟩:=h
  by_cases e:p.1=k
  ·have e':q.1=k:=h1.symm.trans e;have b:atKey (q::qs) k=some q.2:=by simp[atKey,Bv,e']
   rw[Hf e,b];exact h2
  ·have e':¬q.1=k:=λz=>e (h1.trans z);have b:atKey (q::qs) k=atKey qs k:=by simp[atKey,Bv,e']
   rw[Hg e,b];exact ih
theorem KT.repl {H:Hp}{ji:List (List Key×V)}{xs:List (List Key×A0×A3)}(r:KT H ji xs)(k:List Key){y:V}{u:A3}(ry:RelV y u) :
   KT H (ji.map λkv=>if kv.1=k then(kv.1,y) else kv) (xs.map (putAt k u)):=by
 induction r with
 |nil=>exact .nil
 | @cons p q ps qs h t ih =>
  rw[J5,J5];refine .cons ?_ ih;obtain⟨h1,h2,h3⟩:=h;unfold putAt
  by_cases e:p.1=k
  ·grind
  ·grind
theorem KT.put (r:KT H ji xs)(k:List Key)(hb:H b=some (.tup (k.map kV)))(ry:RelV y u) :
   KT H (putK ji k y) (W6 xs k b u):=by
 have e:(ji.any λkv=>decide (kv.1=k))=(atKey xs k).isSome:=by
  rw[EV,(r.val k).isSome_eq,Option.isSome_map]
 unfold putK W6;rw[e]
 by_cases q:(atKey xs k).isSome=true
 ·rw[jw q,jw q];exact r.repl k ry
 ·rw[jy q,jy q];exact Paired.snoc r ⟨rfl,hb,ry⟩
theorem KT.keeps (r:KT H ji xs)(ht:∀b ys,H b=some (.tup ys)->H' b=some (.tup ys)):KT H' ji xs:=
 Paired.mapP r λ_ _ z=>⟨z.1,ht _ _ z.2.1,z.2.2⟩
section
variable {P:D3}{w:C3}{H:Hp}{h:B5}{a:A0}
theorem rd_of (ok:HOk P w H h)(e:Rd H a u):J4 P w H h a u:=e.ok ok
theorem EX (ok:HOk P w H h)(e:Rd H a (.dK ji)):ji.length<=B8/\(a == N7)=false/\∃vs,KV ji vs/\h.DictOf (N1 P w) a vs:=
 show J4 P w H h a (.dK ji) from rd_of ok e
theorem dk_of (ok:HOk P w H h)(e:H a=some (.dK ji)):ji.length<=B8/\(a == N7)=false/\∃vs,KV ji vs/\h.DictOf (N1 P w) a vs:=EX ok (.inl e)
theorem Ce (ok:HOk P w H h)(e:H a=some (.tup (ks.map kV))):(O8 (N1 P w)).is h ks a:=by
 obtain⟨_,jh,r,o,h1,h2,n,h3⟩:=(show J4 P w H h a (.tup (ks.map kV)) from ok a _ e);exact⟨o,jh.toArray,n,h1,(BK h2).1,h3,by simpa using KH r⟩
theorem EY {ji:List (List Key×V)}(ok:HOk P w H h)(e:Rd H a (.dT ji)):ji.length<=B8/\(a == N7)=false/\
   ∃xs,KT H ji xs/\h.DictOfH (O8 (N1 P w)) a xs:=by
 obtain⟨z,y,xs,r,o,es,ep,h1,h2,h3,h4,h5⟩:=(show J4 P w H h a (.dT ji) from rd_of ok e);refine⟨z,y,xs,r,o,es,ep,h1,h2,h3,h4,λx hx=>?_,h5⟩
 have all:∀{l:List (List Key×V)} {m:List (List Key×A0×A3)},KT H l m->∀x∈m,(O8 (N1 P w)).is h x.1 x.2.1:=by
  intro l m q
  induction q with
  |nil=>intro x hx;exact nomatch hx
  | @cons p q ps qs hq t ih =>
   intro x hx;rcases C8.mp hx with e|hx
   ·subst e;exact Ce ok (by grind)
   ·grind
 grind
theorem dt_of (ok:HOk P w H h)(e:H a=some (.dT ji)):ji.length<=B8/\(a == N7)=false/\
   ∃xs,KT H ji xs/\h.DictOfH (O8 (N1 P w)) a xs:=EY ok (.inl e)
end
def DGet (H:Hp)(a:A0)(y:V)(r:Option V):Prop:=
 (∃ji k,Rd H a (.dK ji)/\y=kV k/\r=valV ji k)\/∃ji k b,Rd H a (.dT ji)/\y=.ref b/\H b=some (.tup (k.map kV))/\r=valV ji k
def DPut (H:Hp)(a:A0)(y v:V)(H':Hp):Prop:=
 (∃ji k,H a=some (.dK ji)/\y=kV k/\ji.length<B8/\H'=upd H a (.dK (putK ji k v)))\/
 ∃ji k b,H a=some (.dT ji)/\y=.ref b/\H b=some (.tup (k.map kV))/\ji.length<B8/\H'=upd H a (.dT (putK ji k v))
theorem DGet.k {k:Key}(e:H a=some (.dK ji)):DGet H a (kV k) (valV ji k):=.inl ⟨ji,k,.inl e,rfl,rfl⟩
theorem DGet.t {k:List Key}(e:H a=some (.dT ji))(eb:H b=some (.tup (k.map kV))):DGet H a (.ref b) (valV ji k):=.inr ⟨ji,k,b,.inl e,rfl,eb,rfl⟩
theorem DPut.k {k:Key}(e:H a=some (.dK ji))(hl:ji.length<B8):DPut H a (kV k) v (upd H a (.dK (putK ji k v))):=.inl ⟨ji,k,e,rfl,hl,rfl⟩
theorem DPut.t {k:List Key}(e:H a=some (.dT ji))(eb:H b=some (.tup (k.map kV)))(hl:ji.length<B8) :
   DPut H a (.ref b) v (upd H a (.dT (putK ji k v))):=.inr ⟨ji,k,b,e,rfl,eb,hl,rfl⟩
section
variable {X:Cx}{jd:List (A0×Obj)}{σ:St}{H:Hp}{s:A5}{a:A0}{y v:V}{u r:A3}{o:Option V}{A:E8}{E:A3->A5->Prop}
theorem Qu (hu:A.units+1<cLine)(I:Inv X jd σ H s)(g:DGet H a y (some v))(ry:RelV y u)(h:∀w' s',Inv X jd σ H s'->RelV v w'->Q w' s') :
   A6 (A8 X.prog X.w) A (W5 (.ref a) u) Q E s:=by
 rcases g with⟨ji,k,e,ey,l⟩|⟨ji,k,b,e,ey,eb,l⟩
 ·subst ey;obtain⟨z,hd,vs,rel,dd⟩:=EX I.hok e;obtain⟨w',hw,rw'⟩:=RelO.some_of (v:=v) (o:=valueAt vs k) (by rw[l];exact rel.val k);exact wpAny_getItem_of (Cd ry) dd.mapOf hw (h w' _ (I.tok _) rw')
 ·subst ey;cases(show u=K8 b from ry);obtain⟨z,hd,xs,rel,dd⟩:=EY I.hok e;obtain⟨w',hw,rw'⟩:=RelO.some_of (v:=v) (o:=(atKey xs k).map (·.2)) (by rw[l];exact rel.val k);obtain⟨p,hp,hp2⟩:=Option.map_eq_some_iff.mp hw;refine wpAny_getItem_heap (DU hu) (Ce I.hok eb) dd hp ?_;rw[hp2];exact h w' _ (I.tok _) rw'
theorem Qw {Q:A3->A5->Prop}(hu:A.units+1<cLine)(I:Inv X jd σ H s)(g:DGet H a y o)(ry:RelV y u)(h:∀s',Inv X jd σ H s'->Q (.bool (!o.isSome)) s') :
   A6 (A8 X.prog X.w) A (L6 .NotIn u (.ref a)) Q E s:=by
 rcases g with⟨ji,k,e,ey,l⟩|⟨ji,k,b,e,ey,eb,l⟩
 ·subst ey;obtain⟨z,hd,vs,rel,dd⟩:=EX I.hok e;refine wpAny_notIn_of (Cd ry) hd dd.mapOf ?_;rw[<- (rel.val k).isSome_eq,<- l];exact h _ (I.tok _)
 ·subst ey;cases(show u=K8 b from ry);obtain⟨z,hd,xs,rel,dd⟩:=EY I.hok e;refine wpAny_notIn_heap (DU hu) (Ce I.hok eb) hd dd ?_;have q:=(rel.val k).isSome_eq;rw[Option.isSome_map] at q;rw[<- q,<- l];exact h _ (I.tok _)
theorem EZ (I:Inv X jd σ H s)(mu:Mut (H a))(hs:AO a s.heap h')(he:∃q,h'.get? a=some q)(new:J4 X.prog X.w (upd H a ob) h' a ob) :
   Inv X jd σ (upd H a ob) { s with heap:=h',toks:=t' }:=
 I.write (x:=a) (e:=a) mu (.inl rfl) (λb q hb z=>(hs.2 b hb).trans z) he new
theorem dk_new (z:ji.length<=B8)(hd:(a == N7)=false)(rel:KV ji vs)(dd:h'.DictOf (N1 P w) a vs) :
   J4 P w H' h' a (.dK ji):=⟨z,hd,vs,rel,dd⟩
theorem Qx (hu:A.units+1<cLine)(I:Inv X jd σ H s)(g:DPut H a y v H')(ry:RelV y u)(rv:RelV v r)(h:∀s',Inv X jd σ H' s'->Q () s') :
   A6 (A8 X.prog X.w) A (setItem (.ref a) u r) Q E s:=by
 rcases g with⟨ji,k,e,ey,l,eH⟩|⟨ji,k,b,e,ey,eb,l,eH⟩
 ·subst ey eH;obtain⟨z,hd,vs,rel,dd⟩:=dk_of I.hok e;have hz:vs.length<=B8:=by rw[<- rel.length];exact z
  have hl:(putK ji k v).length<=B8:=by have:=KG ji k v;omega
  refine wpAny_setItem_pairs (hsz:=hz) (Cd ry) dd λh' dd' hs=>h _ ?_;have he:∃q,h'.get? a=some q:=let ⟨q,_,_,hq,_⟩:=dd';⟨q,hq⟩;exact EZ I (by rw[e];exact Z0) hs he (dk_new hl hd (rel.put k rv) dd')
 ·subst ey eH;cases(show u=K8 b from ry);obtain⟨z,hd,xs,rel,dd⟩:=dt_of I.hok e;have hz:xs.length<=B8:=by rw[<- Dc rel];exact z
  have hl:(putK ji k v).length<=B8:=by have:=KG ji k v;omega
  refine wpAny_setItem_heap (hsz:=hz) (DU hu) (Ce I.hok eb) dd λh' dd' hs=>h _ ?_;obtain⟨q,es,ep,hq,h2,h3,h4,_,h5⟩:=dd';refine EZ I (by rw[e];exact Z0) hs ⟨q,hq⟩ ⟨hl,hd,_,(rel.put k eb rv).keeps λc ys ec=>?_,q,es,ep,hq,h2,h3,h4,h5⟩;rw[C0 (ne_of ec e (λz=>nomatch z))];exact ec
end
def NoSl (i:Expr):Prop:=∀ov iv,subscripted i false ov iv=operate [ov,iv] (W5 ov iv)
theorem Qy {T id:String}
   (hl:typeLookup (.type T) "__getitem__"=pure (some (.builtin id))) (hs:NoSl slice)
   (h:A6 (A8 prog w) A (eval value env) (λo s₁=>A6 (A8 prog w) A (eval slice env) (λi s₂=>s₂.TypeIs o T/\A6 (A8 prog w) A (W5 o i) Q E s₂) E s₁) E s) :
   A6 (A8 prog w) A (eval (.Subscript value slice pos) env) Q E s:=by
 refine Subscript_ (K4 h (λo s₁ h₁=>K4 h₁ (λi s₂ h₂=>?_) λ_ _ x=>x) λ_ _ x=>x);obtain⟨hT,h₂⟩:=h₂;unfold subscriptTail;refine A2 ?_;rw[getitemInPython_of_ne hT.not_modules];refine A2 (wpAny_specialOf hT hl ?_)
 have fin:A6 (A8 prog w) A (subscripted slice false o i) (λr s₃=>A6 (A8 prog w) A (letTemporaryGo value o r>>=λ_=>pure r) Q E s₃) E s₂:=by
  rw[hs o i];exact wpAny_operating (K4 h₂ (λr s₃ h₃=>A2 (wpAny_letTemporaryGo (A9 h₃))) λ_ _ x=>x)
 first
   |exact A9 (A2 fin)
   |exact A2 (A9 (A2 fin))
   |exact A2 fin
theorem Qz (I:Inv X jd σ H s)(g:DGet H a y o):s.TypeIs (.ref a) "dict":=by
 rcases g with⟨ji,k,e,_,_⟩|⟨ji,k,b,e,_,_,_⟩
 ·obtain⟨_,_,vs,_,dd⟩:=EX I.hok e;exact dd.typeIs
 ·obtain⟨_,_,xs,_,dd⟩:=EY I.hok e;exact dd.typeIs
def Hh (td ty:TE):TE:=λσ H Q=>td σ H λx H1=>ty σ H1 λy H2=>∃a v,x=.ref a/\DGet H2 a y (some v)/\Q v H2
def E_ (td ty tv:TE):TS:=λD σ H=>tv σ H λv H1=>td σ H1 λx H2=>ty σ H2 λy H3=>∃a H4,x=.ref a/\DPut H3 a y v H4/\D.nx σ H4
section
variable {X:Cx}{o i e value:Expr}{pos pos' tpos:Pos}{td ty tv:TE}
theorem KI (hu:X.A.units+1<cLine)(ho:PE X o td)(hi:PE X i ty)(hs:NoSl i):PE X (.Subscript o i pos) (Hh td ty):=by
 intro jd s σ H Q I h;refine Qy PySem.F.slot_dict_getitem.lookup hs (thn (ho jd s σ H _ I h) λu s1 ⟨x,H1,I1,rx,q1⟩=>thn (hi jd s1 σ H1 _ I1 q1) λiv s2 ⟨y,H2,I2,ry,a,v,ex,g,q2⟩=>?_);subst ex;obtain rfl:u=K8 a:=rx;exact⟨Qz I2 g,Qu hu I2 g ry λw' s3 I3 rw'=>⟨v,H2,I3,rw',q2⟩⟩
theorem QB (hu:X.A.units+1<cLine)(ho:PE X o td)(hi:PE X i ty)(hv:PE X value tv)(hs:Y2 value (some (.Subscript o i pos')) pos.line X.env=pure false) :
   PS X (.Assign [.Subscript o i pos'] value pos) (E_ td ty tv):=by
 intro jd s σ H D I h;refine wpAny_Assign_Subscript (thn (hv jd s σ H _ I h) λr s1 ⟨v,H1,I1,rv,q1⟩=>thn (ho jd s1 σ H1 _ I1 q1) λu s2 ⟨x,H2,I2,rx,q2⟩=>thn (hi jd s2 σ H2 _ I2 q2) λiv s3 ⟨y,H3,I3,ry,a,H4,ex,g,q3⟩=>?_) hs;subst ex;obtain rfl:u=K8 a:=rx;exact Qx hu I3 g ry rv λs4 I4=>⟨σ,H4,I4,q3⟩
end
theorem QC {P:D3}{w:C3}{H:Hp}(h:B5)(hb:N7<h.objs.size):J4 P w H (h.push { cls:=.type "dict",data:=.dict #[] }) h.objs.size (.dT []):=
 ⟨M5 _,beq_eq_false_iff_ne.mpr (Ne.symm (F3 hb)),[],.nil,_,#[],0,F4 _ rfl,⟨rfl,rfl,rfl⟩,rfl,rfl,Bx⟩
def Hi:List (TE×TE)->St->Hp->(List (V×V)->Hp->Prop)->Prop
 |[],_,H,Q=>Q [] H
 |(tk,tv)::r,σ,H,Q=>tk σ H λx H1=>tv σ H1 λy H2=>Hi r σ H2 λps H3=>Q ((x,y)::ps) H3
abbrev VV:List (V×V)->List (A3×A3)->Prop:=Paired λp q=>RelV p.1 q.1/\RelV p.2 q.2
def PPs (X:Cx)(pos:Pos)(keys:List (Option Expr))(values:List Expr)(trs:List (TE×TE)):Prop:=
 ∀ (jd : List (A0 × Obj)) (s : A5) (σ : St) (H : Hp) (Q : List (V × V) -> Hp -> Prop), Inv X jd σ H s -> Hi trs σ H Q ->
   A6 (A8 X.prog X.w) X.A (evalPairs (pairTrees keys values X.env pos)) (λvs s'=>∃ps H',Inv X jd σ H' s'/\VV ps vs/\Q ps H') X.xe s
theorem QD:PPs X pos [] [] []:=λjd s σ H Q I h=>pairTrees_nil_walk ⟨[],H,I,.nil,h⟩
theorem QF (hk:PE X k tk)(hv:PE X v tv)(hr:PPs X pos ks vs trs) :
   PPs X pos (some k::ks) (v::vs) ((tk,tv)::trs):=λjd s σ H Q I h=>
 pairTrees_cons_walk (thn (hk jd s σ H _ I h) λu s1 ⟨x,H1,I1,rx,q1⟩=>thn (hv jd s1 σ H1 _ I1 q1) λw2 s2 ⟨y,H2,I2,ry,q2⟩=>
  thn (hr jd s2 σ H2 _ I2 q2) λws s3 ⟨ps,H3,I3,rel,q3⟩=>⟨(x,y)::ps,H3,I3,.cons ⟨rx,ry⟩ rel,q3⟩)
end L2
end
section
namespace Pu
open PySem PySem.Spec L2
theorem Ax {te:pE}{rest:Env}{α:Type}(f:α->PV)(g:α->PV):∀(xs:List α) (s0:Option Slot) (n:Nat) (R:List PV->Nat->Prop),(∀x∈xs,∀m Q,Q (g x) (some (.v (f x))::rest) m->te (some (.v (f x))::rest) m Q)->R (xs.map g) n->Q3 (gN 0) qTru te (xs.map f) (s0::rest) n R
 |[],_,_,_,_,h=>h
 | x :: xs, s0, n, R, ht, h => by
  show te (some (.v (f x))::rest) n _;refine ht x C6 n _ ?_;exact Ax f g xs _ n _ (λy hy=>ht y (C9 _ hy)) h
theorem KJ {te:pE}{rest:Env}{α:Type}(u v g:α->PV):∀(xs:List α) (s0 s1:Option Slot) (n:Nat) (R:List PV->Nat->Prop),(∀x∈xs,∀m Q,Q (g x) (some (.v (u x))::some (.v (v x))::rest) m->te (some (.v (u x))::some (.v (v x))::rest) m Q)->R (xs.map g) n->Q3 (gTp 2 (gCn (gN 0) (gCn (gN 1) gNl))) qTru te (xs.map λx=>.tup [u x,v x]) (s0::s1::rest) n R
 |[],_,_,_,_,_,h=>h
 | x :: xs, s0, s1, n, R, ht, h => by
  refine⟨rfl,?_⟩;show te (some (.v (u x))::some (.v (v x))::rest) n _;refine ht x C6 n _ ?_;exact KJ u v g xs _ _ n _ (λy hy=>ht y (C9 _ hy)) h
end Pu
end
section
namespace L2
open PySem PySem.W PyProof.Rows
namespace Kr
def run {α:Type}(lt:Nat->Nat->Bool):KasT α->α
 |.ret a=>a
 |.ask i j k=>run lt (k (lt i j))
structure Ord (lt:Nat->Nat->Bool):Prop where
 ir:∀a,lt a a=false
 tr:∀a b c,lt a b=true->lt b c=true->lt a c=true
 nt:∀a b c,lt a c=true->lt a b=true\/lt b c=true
variable {lt:Nat->Nat->Bool}(O:Ord lt)
include O
theorem Ord.le (h1:lt b a=false)(h2:lt c b=false):lt c a=false:=by
 cases e:lt c a with
 |false=>rfl
 |true=>rcases O.nt c b a e with h|h <;> simp_all
theorem Ord.l1 (h1:lt a b=true)(h2:lt c b=false):lt a c=true:=by
 rcases O.nt a c b h1 with h|h
 ·exact h
 ·rw[h2] at h;cases h
theorem Ord.l2 (h1:lt b a=false)(h2:lt b c=true):lt a c=true:=by
 rcases O.nt b a c h2 with h|h
 ·rw[h1] at h;cases h
 ·exact h
omit O
def g (p:Array Nat)(i:Nat):Nat:=p.getD i 0
theorem QH (p:Array Nat)(i j:Nat):(kas_rev p i j).Perm p:=mirror_perm _ _ _ _
include O
omit O
def InQ {α:Type}(n:Nat)(Q:α->Prop):KasT α->Prop
 |.ret a=>Q a
 |.ask i j k=>i<n/\j<n/\∀b,InQ n Q (k b)
theorem Cf {α β:Type}{n:Nat}{Q:α->Prop}{R:β->Prop}{f:α->KasT β}(hf:∀a,Q a->InQ n R (f a)):∀t:KasT α,InQ n Q t->InQ n R (t.bind f)
 |.ret a,h=>hf a h
 |.ask _ _ k,h=>⟨h.1,h.2.1,λb=>Cf hf (k b) (h.2.2 b)⟩
def En (n:Nat)(p:Array Nat):Prop:=0<n/\p.Perm (List.toArray (D1 n))
theorem En.g {n:Nat}{p:Array Nat}(h:En n p)(i:Nat):p.getD i 0<n:=by
 by_cases c:i<p.size
 ·rw[show p.getD i 0=p[i] by simp[Array.getD,c]]
  simpa using h.2.mem_iff.mp (Array.getElem_mem c)
 ·rw[show p.getD i 0=0 by simp[Array.getD,c]];exact h.1
theorem En.perm {n:Nat}{p q:Array Nat}(h:En n p)(hp:q.Perm p):En n q:=⟨h.1,hp.trans h.2⟩
theorem En.rev (h:En n p)(i j:Nat):En n (kas_rev p i j):=h.perm (QH _ _ _)
theorem Hj {n:Nat}{p:Array Nat}(h:En n p):∀f m,InQ n (λ_=>True) (kas_asc p f m)
 |0,_=>trivial
 | f + 1, m => ⟨h.g _, h.g _, fun b => by
  cases b with
  |true=>exact trivial
  |false=>exact Hj h f (m+1)⟩
theorem Fa {n:Nat}:∀f p m q,En n p->InQ n (λr=>En n r.1) (kas_desc f p m q)
 |0,_,_,_,h=>h
 | f + 1, p, m, q, h => ⟨h.g _, h.g _, fun b => by
  cases b with
  | true =>
   show InQ n _ (if q>0 then _ else _)
   by_cases c:q>0
   ·rw[jw c];exact Fa f _ _ _ (h.rev _ _)
   ·rw[jy c];exact Fa f _ _ _ h
  | false =>
   refine⟨h.g _,h.g _,λd=>?_⟩;cases d with
   |true=>exact h
   |false=>exact Fa f _ _ _ h⟩
theorem KL (h:En n p):InQ n (λr=>En n r.2) (kas_tail3 m k p):=by
 unfold kas_tail3;refine Cf (Q:=λ_=>True) (λa _=>?_) _ (Hj (h.rev _ _) _ _);exact(h.rev _ _:En n _)
theorem KM (h:En n p):InQ n (λr=>En n r.2) (kas_descPart m k p):=Cf (λr hr=>by
   by_cases c:r.2.2>0
   ·rw[jw c];exact KL (hr.rev _ _)
   ·rw[jy c];exact KL hr) _ (Fa _ _ _ _ h)
theorem QJ (h:En n p):InQ n (λr=>En n r.2) (kas_count k p):=Cf (λm _=>by
   by_cases c:(m == k)=true
   ·rw[jw c];exact h
   ·rw[jy c]
    by_cases c1:m>1
    ·rw[jw c1];refine⟨h.g _,h.g _,λb=>?_⟩;cases b with
     |true=>exact h
     |false=>exact KM (h.rev _ _)
    ·rw[jy c1];exact KM h) _ (Hj h _ _)
theorem Hk {n k:Nat}{p:Array Nat}(h:En n p):∀f l r,InQ n (λ_=>True) (kas_place p k f l r)
 |0,_,_=>trivial
 | f + 1, l, r => by
  unfold kas_place
  by_cases c:l>=r
  ·rw[jw c];exact trivial
  ·rw[jy c];refine⟨h.g _,h.g _,λb=>?_⟩;cases b with
   |true=>exact Hk h f _ _
   |false=>exact Hk h f _ _
theorem KN {n:Nat}:∀f p k,En n p->InQ n (En n) (kas_bin f p k)
 |0,_,_,h=>h
 |f+1,p,k,h=>Cf (λl _=>KN f _ _ (h.perm (bubble_perm _ _ _))) _ (Hk h k 0 k)
theorem sort_in {n:Nat}(h1:1<=n):InQ n (En n) (p9 n):=Cf (λr hr=>by
   by_cases c:r.1<n
   ·rw[jw c];exact KN _ _ _ hr
   ·rw[jy c];exact hr) _ (QJ ⟨h1,Array.Perm.refl _⟩)
theorem KO {α:Type}{lt:Nat->Nat->Bool}{n:Nat}{Q:α->Prop}:∀t:KasT α,InQ n Q t->Q (run lt t)
 |.ret a,h=>h
 |.ask i j k,h=>KO (k (lt i j)) (h.2.2 _)
theorem sort_perm {lt:Nat->Nat->Bool}{n:Nat}(h1:1<=n):(run lt (p9 n)).Perm (List.toArray (D1 n)):=(KO _ (sort_in h1)).2
theorem wp_run {α:Type}{lt:Nat->Nat->Bool}{n:Nat}{P:α->Prop}{ask:Nat->Nat->(Bool->A5->Prop)->A5->Prop}{Q:α->A5->Prop}{s:A5}(h:∀i j C,i<n->j<n->C (lt i j) s->ask i j C s):∀t:KasT α,InQ n P t->Q (run lt t) s->t.kasWp ask Q s
 |.ret a,_,q=>q
 |.ask i j k,hi,q=>h i j _ hi.1 hi.2.1 (wp_run h (k (lt i j)) (hi.2.2 _) q)
end Kr
end L2
end
section
namespace L2
open PySem PySem.W PySem.Spec PyProof.Rows
def V6 (lt:Nat->Nat->Bool)(vs:List A3):List A3:=if vs.length<2 then vs else(Kr.run lt (p9 vs.length)).toList.map λi=>vs.getD i X0
section
variable {prog:D3}{w:C3}{A:E8}{E:A3->A5->Prop}{s:A5}
def Fb (h h1:B5)(a:A0):Prop:=∀b o,b≠a->h.get? b=some o->h1.get? b=some o
theorem QK {a:A0}{vs:List A3}{n:Nat}{lt:Nat->Nat->Bool}{P:PySem.Fin->A5->Prop}(ho:s.heap.get? a=some (seqObj "list" vs.toArray n))(h64:vs.length<64)
   (hk:2<=vs.length->∀h1,Fb s.heap h1 a->∃κ,(∀Q:SortKind->A5->Prop,Q κ { s with heap:=h1 }->A6 (A8 prog w) A (keyKind' vs.toArray) Q E { s with heap:=h1 })/\∀i j (C:Bool->A5->Prop),i<vs.length->j<vs.length->C (lt i j) { s with heap:=h1 }->kas_ask prog w A κ vs i j C { s with heap:=h1 })
   (h:∀h2 e,Fb s.heap h2 a->h2.get? a=some (seqObj "list" (V6 lt vs).toArray e)->P (.done (.ret .none)) { s with heap:=h2 }):A6 (A8 prog w) A (O4.«list.sort» ⟨[.ref a],[]⟩) P E s:=by
 have ha:a<s.heap.objs.size:=C4 ho;have hsz:vs.toArray.size=vs.length:=by simp
 rw[list_sort_plain];refine A2 (listItems_at ho rfl ?_);refine A2 (listUpdate_at ho rfl ?_ (by rw[hsz,d9];omega) (M5 _));obtain⟨e1,ho1⟩:∃e1,(s.heap.update a (R4 λ_=>(#[]:Array A3))).get? a=some (seqObj "list" #[] e1):=⟨_,get?_update_seq ho λ_=>#[]⟩;refine A2 (seqEpoch_at ho1 rfl ?_);refine A2 (wpAny_newTuple ?_ (by show vs.length<=_;rw[d9];omega));refine A2 (wpAny_newList ?_ (M5 _));refine P8 ?_;show A6 (A8 prog w) A _ P E { s with heap:=((s.heap.update a (R4 λ_=>(#[]:Array A3))).push (seqObj "tuple" vs.toArray 0)).push (seqObj "list" #[] 0) };have ho3:=C1 (seqObj "list" #[] 0) (C1 (seqObj "tuple" vs.toArray 0) ho1)
 have k3:Fb s.heap (((s.heap.update a (R4 λ_=>(#[]:Array A3))).push (seqObj "tuple" vs.toArray 0)).push (seqObj "list" #[] 0)) a:=λb o hb e=>
  C1 _ (C1 _ (((Db s.heap a (R4 λ_=>(#[]:Array A3))).2 b hb).trans e))
 generalize ((s.heap.update a (R4 λ_=>(#[]:Array A3))).push (seqObj "tuple" vs.toArray 0)).push (seqObj "list" #[] 0)=h3 at ho3 k3 ⊢;dsimp only
 have last:∀out:Array A3,out.size=vs.length->out=(V6 lt vs).toArray->∃e,(h3.update a (R4 λ_=>out)).get? a=some (seqObj "list" (V6 lt vs).toArray e)/\Fb s.heap (h3.update a (R4 λ_=>out)) a:=λout _ eo=>
  ⟨_,by rw[<- eo];exact get?_update_seq ho3 λ_=>out,λb o hb e=>((Db h3 a (R4 λ_=>out)).2 b hb).trans (k3 b o hb e)⟩
 by_cases h2:vs.toArray.size<2
 ·rw[jw h2,jw h2];refine A2 (A9 ?_);rw[StateT.run_pure];refine A2 (A9 ?_);dsimp only
  have eo:(arrOf (SortSt.mk' general' (vs.toArray.zip vs.toArray) #[] 7 none)).map (·.2)=(V6 lt vs).toArray:=by
   have e2:(arrOf (SortSt.mk' general' (vs.toArray.zip vs.toArray) #[] 7 none))=vs.toArray.zip vs.toArray:=rfl;rw[e2];unfold V6;rw[jw (by omega)]
   apply Array.toList_inj.mp
   rw[Array.toList_map,Array.toList_zip];exact Ed (B7 _)
  obtain⟨e,x1,x2⟩:=last _ (by rw[eo];unfold V6;rw[jw (by omega)];simp) eo;refine A2 (seqEpoch_at ho3 rfl ?_);refine A2 (listUpdate_at ho3 rfl ?_ (M5 _) (by rw[eo];unfold V6;rw[jw (by omega),hsz,d9];omega));simp only[bne_self_eq_false,Y9,if_false];exact A9 (h _ e x2 x1)
 ·rw[jy h2,jy h2];have l2:2<=vs.length:=by omega
  obtain⟨κ,q1,q2⟩:=hk l2 h3 k3;refine A2 (q1 _ ?_);have wp:=Kr.wp_run (Q:=λp s'=>p=Kr.run lt (p9 vs.length)/\s'={ s with heap:=h3 }) (P:=Kr.En vs.length) q2 (p9 vs.length) (Kr.sort_in (by omega)) ⟨rfl,rfl⟩;refine A2 (K4 (kat_run (E:=E) (Q:=λst' s'=>∃p:Array Nat,p.size=vs.length/\arrOf st'=p.map (kas_item (vs.toArray.zip vs.toArray))/\failedOf st'=none/\p=Kr.run lt (p9 vs.length)/\s'={ s with heap:=h3 }) rfl l2 h64 (λp' st' s' a1 a2 a3 a4=>⟨p',a1,a2,a3,a4⟩) wp) ?_ λ_ _ e=>e);rintro⟨⟨⟩,st'⟩ s' ⟨p,hp,har,hf,ep,rfl⟩;dsimp only
  have eo:(arrOf st').map (·.2)=(V6 lt vs).toArray:=by
   rw[kat_snds rfl har,ep];unfold V6;rw[jy (by omega)]
  have so:((arrOf st').map (·.2)).size=vs.length:=by rw[eo];unfold V6;rw[jy (by omega),F5,B1,AU,<- ep,hp]
  obtain⟨e,x1,x2⟩:=last _ so eo;refine A2 (seqEpoch_at ho3 rfl ?_);refine A2 (listUpdate_at ho3 rfl ?_ (M5 _) (by rw[so,d9];omega));rw[hf];simp only[bne_self_eq_false,Y9,if_false];exact A9 (h _ e x2 x1)
theorem QM (h64:vs.length<64)
   (hcol:∀(R:List A3->A5->Prop),(∀h1 tk,(∀b o,s.heap.get? b=some o->h1.get? b=some o)->s.heap.objs.size<=h1.objs.size->R vs { s with heap:=h1,toks:=tk })->A6 (A8 prog w) A.in1 (collect v) R E s)
   (hk:2<=vs.length->∀(A:E8) (E:A3->A5->Prop) h1 tk,(∀b o,s.heap.get? b=some o->h1.get? b=some o)->∃κ,(∀Q:SortKind->A5->Prop,Q κ { s with heap:=h1,toks:=tk }->A6 (A8 prog w) A (keyKind' vs.toArray) Q E { s with heap:=h1,toks:=tk })/\∀i j (C:Bool->A5->Prop),i<vs.length->j<vs.length->C (lt i j) { s with heap:=h1,toks:=tk }->kas_ask prog w A κ vs i j C { s with heap:=h1,toks:=tk })
   (h:∀h2 tk D e,(∀b o,s.heap.get? b=some o->h2.get? b=some o)->s.heap.objs.size<=D->h2.get? D=some (seqObj "list" (V6 lt vs).toArray e)->Q (.ref D) { s with heap:=h2,toks:=tk }) :
   A6 (A8 prog w) A (call (.builtin "sorted") [v]) Q E s:=by
 refine Calls.call_function_entry kind_sorted plain_sorted entry_sorted (args_sorted1 _) ?_;unfold O4.«sorted»;refine A2 (m:=checkCount "sorted" 1 1 _) (A9 ?_);refine A2 (hcol _ λh1 tk k1 z1=>?_);refine A2 (wpAny_newList ?_ (by rw[d9];omega));have hoL:(h1.push (seqObj "list" vs.toArray 0)).get? h1.objs.size=some (seqObj "list" vs.toArray 0):=F4 _ rfl;have kL:∀b o,s.heap.get? b=some o->(h1.push (seqObj "list" vs.toArray 0)).get? b=some o:=λb o e=>C1 _ (k1 b o e);have ne:∀b o,s.heap.get? b=some o->b≠h1.objs.size:=λb o e=>F3 (L0 (C4 e) z1);refine A2 (P8 (P6 slot_list_sort ⟨_,hoL,rfl⟩ entry_list_sort ?body (args_list_sort _)))
 case body=>
  refine QK (lt:=lt) (s:={ s with heap:=h1.push (seqObj "list" vs.toArray 0),toks:=tk }) hoL h64 (λl2 h3 k3=>?_) λh3 e k3 e3=>?_
  ·exact hk l2 _ _ h3 tk λb o x=>k3 b o (ne b o x) (kL b o x)
  ·exact⟨_,rfl,A9 ⟨_,rfl,h h3 tk _ e (λb o x=>k3 b o (ne b o x) (kL b o x)) z1 e3⟩⟩
end
end L2
end
section
namespace L2
open PySem PySem.W PySem.Spec PyProof.Rows
def Hl:Key->Key->Bool
 |.inl a,.inl b=>decide (a<b)
 |.inr a,.inr b=>decide (a.cps.toList<b.cps.toList)
 |.inl _,.inr _=>true
 |.inr _,.inl _=>false
def Al:List Key->List Key->Prop
 |.inl _::xs,.inl _::ys=>Al xs ys
 |.inr _::xs,.inr _::ys=>Al xs ys
 |_::_,_::_=>False
 |_,_=>True
def KeyV:Key->A3->Prop
 |.inl i,v=>∃t,v=.int i t
 |.inr z,v=>∃t,v=.str z t
section
variable {prog:D3}{w:C3}{A:E8}{E:A3->A5->Prop}{s:A5}
theorem lt_key (hx:KeyV x u)(hy:KeyV y v)(al:Al (x::xs) (y::ys))(h:Q (.bool (Hl x y)) s):A6 (A8 prog w) A (L6 .Lt u v) Q E s:=by
 cases x with
 | inl a =>
  cases y with
  | inl b =>
   obtain⟨t,rfl⟩:=hx;obtain⟨t',rfl⟩:=hy;exact PyProof.Rows.lt_int h
  |inr b=>exact al.elim
 | inr a =>
  cases y with
  |inl b=>exact al.elim
  | inr b =>
   obtain⟨t,rfl⟩:=hx;obtain⟨t',rfl⟩:=hy;exact PyProof.Rows.lt_str h
theorem QP (hx:KeyV x u)(hy:KeyV y v)(al:Al (x::xs) (y::ys))(h:Q (Hl x y) s):A6 (A8 prog w) A (oneLt' b u v) Q E s:=by
 cases b with
 |false=>exact kat_one u v (lt_key hx hy al h)
 | true =>
  cases x with
  | inl a =>
   cases y with
   | inl b =>
    obtain⟨t,rfl⟩:=hx;obtain⟨t',rfl⟩:=hy;exact oneLt_int h
   |inr b=>exact al.elim
  | inr a =>
   cases y with
   |inl b=>exact al.elim
   | inr b =>
    obtain⟨t,rfl⟩:=hx;obtain⟨t',rfl⟩:=hy;exact oneLt_str h
end
end L2
end
section
namespace L2
open PySem PySem.W PySem.Spec PyProof.Rows
section
variable {X:Cx}
theorem QU {α β:Type}{F:α->β->Prop}{xs:List α}{ys:List β}(h:Paired F xs ys)(d:α)(e:β):∀i,i<xs.length->F (xs.getD i d) (ys.getD i e):=by
 induction h with
 |nil=>intro i hi;exact absurd hi (Nat.not_lt_zero _)
 | cons h1 _ ih =>
  intro i hi;cases i with
  |zero=>exact h1
  |succ i=>exact ih i (Nat.lt_of_succ_lt_succ hi)
end
end L2
end
section
namespace Pu
open PySem PySem.Spec L2
def kP:Key->PV
 |.inl i=>.int i
 |.inr z=>.str z
def M4:List PV->Option (List Key)
 |[]=>some []
 |.int i::r=>(M4 r).map (.inl i::·)
 |.str z::r=>(M4 r).map (.inr z::·)
 |_=>none
theorem Hm:∀ks:List Key,M4 (ks.map kP)=some ks
 |[]=>rfl
 |.inl i::r=>by show(M4 (r.map kP)).map _=_;rw[Hm r];rfl
 |.inr i::r=>by show(M4 (r.map kP)).map _=_;rw[Hm r];rfl
theorem Cg:∀(ks:List Key) {us:List V},Reps K G H (ks.map kP) us->us=ks.map kV
 |[],_,h=>h
 | .inl i :: r, _, h => by
  obtain⟨v,t,rfl,h1,h2⟩:=h;rw[Cg r h2,show v=.int i from h1];rfl
 | .inr i :: r, _, h => by
  obtain⟨v,t,rfl,h1,h2⟩:=h;rw[Cg r h2,show v=.str i from h1];rfl
theorem Ch:∀{xs:List PV} {ks:List Key},M4 xs=some ks->xs=ks.map kP
 |[],ks,h=>by cases h;rfl
 | .int i :: r, ks, h => by
  cases e:M4 r with
  |none=>simp[M4,e] at h
  |some t=>simp[M4,e] at h;subst h;rw[Ch e];rfl
 | .str i :: r, ks, h => by
  cases e:M4 r with
  |none=>simp[M4,e] at h
  |some t=>simp[M4,e] at h;subst h;rw[Ch e];rfl
 |.non::_,_,h=>by cases h
 |.bl _::_,_,h=>by cases h
 |.ty _::_,_,h=>by cases h
 |.pot _::_,_,h=>by cases h
 |.tup _::_,_,h=>by cases h
 |.lst _::_,_,h=>by cases h
 |.scr _::_,_,h=>by cases h
 |.fdt _ _::_,_,h=>by cases h
 |.dct _ _::_,_,h=>by cases h
end Pu
end
section
namespace Pu
open PySem PySem.Spec L2
def P4 {κ:Type}[DecidableEq κ](ks:List κ)(k:κ):List κ:=if k∈ks then ks else ks++[k]
def O3 {κ α:Type}[DecidableEq κ](ks:List κ)(xs:List α)(k:κ)(x:α):List α:=if k∈ks then(ks.zip xs).map (λp=>if p.1=k then x else p.2) else xs++[x]
theorem Hn {κ:Type}[DecidableEq κ]{ks:List κ}{vs:List V}(h:ks.length=vs.length)(k:κ)(v:V):putK (ks.zip vs) k v=(P4 ks k).zip (O3 ks vs k v):=by
 have any:((ks.zip vs).any λkv=>decide (kv.1=k))=decide (k∈ks):=by
  clear v
  induction ks generalizing vs with
  |nil=>simp
  | cons a ks ih =>
   cases vs with
   |nil=>cases h
   | cons b vs =>
    rw[AK,List.any_cons,ih (by simpa using h)]
    by_cases c:a=k
    ·subst c;simp
    ·by_cases d:k∈ks
     ·simp[d]
     ·have:¬k=a:=λe=>c e.symm;simp[c,d,this]
 unfold putK P4 O3;rw[any]
 by_cases c:k∈ks
 ·rw[jw (ju c),jw c,jw c];clear any c
  induction ks generalizing vs with
  |nil=>simp
  | cons a ks ih =>
   cases vs with
   |nil=>cases h
   | cons b vs =>
    simp only[AK,J5];rw[ih (by simpa using h)]
    split <;> rfl
 ·rw[jy (by simpa using c),jy c,jy c,List.zip_append h];rfl
theorem QV {κ α:Type}[DecidableEq κ]{ks:List κ}{xs:List α}(h:ks.length=xs.length)(k:κ)(x:α):(P4 ks k).length=(O3 ks xs k x).length:=by
 unfold P4 O3
 by_cases c:k∈ks
 ·rw[jw c,jw c,B1,CS];omega
 ·rw[jy c,jy c,D6,D6,h];rfl
theorem Ho {κ:Type}[DecidableEq κ]{K:A7}{G:Gh}{H:Hp}{ks:List κ}{xs:List PV}{vs:List V}(r:Reps K G H xs vs)(h:ks.length=xs.length)(k:κ){x:PV}{v:V}(rx:Rep K G H x v):Reps K G H (O3 ks xs k x) (O3 ks vs k v):=by
 unfold O3
 by_cases c:k∈ks
 ·rw[jw c,jw c];clear c
  induction ks generalizing xs vs with
  |nil=>exact rfl
  | cons a ks ih =>
   cases xs with
   |nil=>cases h
   | cons y ys =>
    obtain⟨u,t,rfl,h1,h2⟩:=r;refine⟨_,_,rfl,?_,ih h2 (by simpa using h)⟩;show Rep K G H (if a=k then x else y) (if a=k then v else u)
    by_cases d:a=k
    ·rw[jw d,jw d];exact rx
    ·rw[jy d,jy d];exact h1
 ·rw[jy c,jy c];exact r.append ⟨v,[],rfl,rx,rfl⟩
section
variable {T:PotK}{np:Bool}{ι:Type}{K:A7}{F:ι->Cx}{e:Expr}{st:Stmt}{pe pk pv:pE}{pos:Pos}
def Ci (i:Nat)(pk pv:pE):pS:=λD env n=>pv env n λx je n1=>(∃ks xs,je[i]?=some (some (.ow (.dt ks) xs)))/\pk je n1 λy jf n2=>match jf[i]?,y with
 |some (some (.ow (.dt ks) xs)),.tup ys=>(match M4 ys with|some k=>ks.length=xs.length/\xs.length<1000000/\D.nx (jf.set i (some (.ow (.dt (P4 ks k)) (O3 ks xs k x)))) n2|none=>False)
 |_,_=>False
theorem Hq {X:Cx}{i:Nat}{o ix v:Expr}{pos' pos:Pos}(hu:X.A.units+1<cLine)(ho:EW X o (tVar i))(hs:Y2 v (some (.Subscript o ix pos')) pos.line X.env=pure false:=by rfl)(tv ti:TE)(hv:EW X v tv)(hi:EW X ix ti):SW X (.Assign [.Subscript o ix pos'] v pos) (E_ (tVar i) ti tv):=⟨QB hu ho.h hi.h hv.h hs⟩
theorem KP (i:Nat){v ix:Expr}(h:∀z tv ti,EW (F z) v tv->EW (F z) ix ti->SW (F z) st (E_ (tVar i) ti tv))(hv:QE T K F v pv)(hi:QE T K F ix pk):QS T np K F st (Ci i pk pv):=by
 obtain⟨tv,v1,v2⟩:=hv;obtain⟨ti,i1,i2⟩:=hi;refine⟨_,λz=>(h z _ _ ⟨v1 z⟩ ⟨i1 z⟩).h,λC G σ H env n PD D hK hT hn S hp L=>?_⟩;refine v2 C G σ H env n _ _ hK hT S hp λx je n1 v H1 q1 S1 r1 f1=>?_;obtain⟨⟨ks0,xs0,e0⟩,q1⟩:=q1;obtain⟨a,vs,ev,h1,h2,h3,h4,r⟩:=S1.slots i _ e0;refine⟨.ref a,ev,?_⟩;refine i2 C G σ H1 je n1 _ _ hK hT S1 q1 λy jf n2 w H2 q2 S2 r2 f2=>?_
 split at q2
 ·rename_i ks xs ys ex
  split at q2
  ·rename_i k ek;obtain⟨hl,hz,q3⟩:=q2;obtain⟨a',us,ev',g1,g2,g3,g4,r'⟩:=S2.slots i _ ex;rw[ev] at ev';cases ev';subst hK;have hlv:ks.length=us.length:=by rw[hl];exact r'.length
   obtain⟨b,ws,rfl,atb,rb⟩:=r2;rw[Ch ek] at rb;have eb:H2 b=some (.tup (k.map kV)):=by rw[<- Cg k rb];exact atb.2
   have rx:=r1.fr f2;obtain⟨S3,f3⟩:=S2.putO (.dt (P4 ks k)) ex ev (Ho r' hl k rx)
   have eH:upd H2 a (mkO (.dt (P4 ks k)) (O3 ks us k v))=upd H2 a (.dT (putK (ks.zip us) k v)):=by
    show upd H2 a (.dT ((P4 ks k).zip (O3 ks us k v)))=_;rw[Hn hlv]
   have zl:(ks.zip us).length<B8:=by rw[CS];unfold B8;omega
   rw[eH] at S3 f3;exact⟨a,_,rfl,DPut.t g4 eb zl,L.nx _ _ _ _ _ q3 S3 (Ext.fr ((f1.trans f2).trans f3))⟩
  ·exact q2.elim
 ·exact q2.elim
end
end Pu
end
section
namespace L2
open PySem PySem.Spec PyProof.Rows
theorem QX:K5 "reversed"=some (.type "reversed"):=by decide +kernel
theorem QY:isSubtype (.type "range_iterator") (.type "reversed")=pure false:=by rw[isSubtype_type];kernel_rfl
end L2
end
section
namespace Pu
open PySem PySem.Spec L2
section
variable {T:PotK}{np:Bool}{ι:Type}{K:A7}{F:ι->Cx}{e:Expr}{st:Stmt}{pe pk pv:pE}{pos:Pos}
def keyV:PV->Option Key
 |.int i=>some (.inl i)
 |.str z=>some (.inr z)
 |_=>none
theorem Fc {G:Gh}{H:Hp}{x:PV}{v:V}{k:Key}(r:Rep K G H x v)(h:keyV x=some k):v=kV k:=by
 cases x <;> simp[keyV] at h <;> subst h <;> exact r
def Cj (i:Nat)(pk pv:pE):pS:=λD env n=>pv env n λx je n1=>(∃ks xs,je[i]?=some (some (.ow (.dk ks) xs)))/\pk je n1 λy jf n2=>match jf[i]?,keyV y with
 |some (some (.ow (.dk ks) xs)),some k=>ks.length=xs.length/\xs.length<1000000/\D.nx (jf.set i (some (.ow (.dk (P4 ks k)) (O3 ks xs k x)))) n2
 |_,_=>False
theorem QZ (i:Nat){v ix:Expr}(h:∀z tv ti,EW (F z) v tv->EW (F z) ix ti->SW (F z) st (E_ (tVar i) ti tv))(hv:QE T K F v pv)(hi:QE T K F ix pk):QS T np K F st (Cj i pk pv):=by
 obtain⟨tv,v1,v2⟩:=hv;obtain⟨ti,i1,i2⟩:=hi;refine⟨_,λz=>(h z _ _ ⟨v1 z⟩ ⟨i1 z⟩).h,λC G σ H env n PD D hK hT hn S hp L=>?_⟩;refine v2 C G σ H env n _ _ hK hT S hp λx je n1 v H1 q1 S1 r1 f1=>?_;obtain⟨⟨ks0,xs0,e0⟩,q1⟩:=q1;obtain⟨a,vs,ev,h1,h2,h3,h4,r⟩:=S1.slots i _ e0;refine⟨.ref a,ev,?_⟩;refine i2 C G σ H1 je n1 _ _ hK hT S1 q1 λy jf n2 w H2 q2 S2 r2 f2=>?_
 split at q2
 ·rename_i ks xs k ex ek;obtain⟨hl,hz,q3⟩:=q2;obtain⟨a',us,ev',g1,g2,g3,g4,r'⟩:=S2.slots i _ ex;rw[ev] at ev';cases ev';subst hK;have hlv:ks.length=us.length:=by rw[hl];exact r'.length
  have ew:=Fc r2 ek;subst ew;have rx:=r1.fr f2;obtain⟨S3,f3⟩:=S2.putO (.dk (P4 ks k)) ex ev (Ho r' hl k rx)
  have eH:upd H2 a (mkO (.dk (P4 ks k)) (O3 ks us k v))=upd H2 a (.dK (putK (ks.zip us) k v)):=by
   show upd H2 a (.dK ((P4 ks k).zip (O3 ks us k v)))=_;rw[Hn hlv]
  have zl:(ks.zip us).length<B8:=by rw[CS];unfold B8;omega
  rw[eH] at S3 f3;exact⟨a,_,rfl,DPut.k g4 zl,L.nx _ _ _ _ _ q3 S3 (Ext.fr ((f1.trans f2).trans f3))⟩
 ·exact q2.elim
end
end Pu
end
section
namespace L2
open PySem PySem.Spec PyProof.Rows
section
variable {prog:D3}{w:C3}{A:E8}{E:A3->A5->Prop}{s:A5}
theorem Q_ {j:Nat}(ht:s.heap.IsTuple t jh)(hS:StrsAre jh.toList ys)(hj:ys[j]?=some k)(hlt:∀i,i<j->ys[i]?≠some k)(hsm:ys.length<=1000000)
   (h:∀tk,Q (.int j tk) { s with toks:=s.toks+1 }):A6 (A8 prog w) A (call (.builtin "tuple.index") [.ref t,.str k tok]) Q E s:=by
 obtain⟨o,ho,hc,n,hd⟩:=id ht;have hT:s.TypeIs (.ref t) "tuple":=⟨o,ho,hc⟩;refine P6 F.slot_tuple_index hT F.entry_tuple_index ?_ (F.args_tuple_index_2 _ _);unfold O4.«tuple.index»;refine A2 (U1 (a:=(K8 t,[Value.str k tok])) rfl ?_);refine A2 (wpAny_tupleItemsOf ho hd ?_);dsimp only;refine A2 (A9 (A2 (A9 ?_)));refine A2 ?_;have hlen:ys.length=jh.toList.length:=(StrsAre.length hS).symm
 have at_:∀(i:Nat) (y:Str),ys[i]?=some y->∃u,jh[i]?=some (.str y u):=by
  intro i y hy
  have:∀{us:List A3} {zs:List Str},StrsAre us zs->∀(i:Nat),zs[i]?=some y->∃u,us[i]?=some (.str y u):=by
   intro us zs hh
   induction hh with
   |nil=>intro i h;cases h
   | cons x t _ ih =>
    intro i h;cases i with
    |zero=>cases h;exact⟨t,rfl⟩
    |succ i=>exact ih i (by simpa using h)
  obtain⟨u,hu⟩:=this hS i hy;exact⟨u,by rw[<- Ga];exact hu⟩
 have hjl:j<jh.size:=by
  have:=(E6.mp hj).1;rw[hlen,AU] at this;exact this
 rw[Std.Legacy.Range.forIn_eq_forIn_range'];refine wpAny_forIn_list _ (λrest r s'=>r.1=none/\s'=s/\∃i,rest=List.range' i (jh.size-i)/\i<=j) _ ?_ ?_ _ _ ⟨rfl,rfl,0,?_,M5 _⟩
 ·rintro x rest ⟨r1,r2⟩ s' ⟨hr,rfl,i0,hi,hij⟩;have hil:jh.size-i0=(jh.size-i0-1)+1:=by omega
  rw[hil,List.range'_succ] at hi;obtain⟨i,hxi⟩:∃i,x=i:=⟨x,rfl⟩;injection hi with h1 h2;subst h2;have hi0:i0=i:=by rw[<- hxi,h1]
  subst hi0;subst hxi;clear h1
  revert hij hil
  generalize x=i;intro hij hil;have hiy:i<ys.length:=by rw[hlen,AU];omega
  obtain⟨u,hu⟩:=at_ i ys[i] (D7 hiy);rw[hu];dsimp only;refine A2 (eqBool_str ?_)
  by_cases c:i=j
  ·subst c
   have:ys[i]=k:=by
    have:=D7 hiy;rw[hj] at this;exact(E9 this).symm
   rw[this,beq_self_eq_true,jw rfl];refine A2 (A2 (wpAny_mkInt (A9 (A9 ?_))));exact A9 ⟨_,rfl,h _⟩
  ·have:ys[i]≠k:=λe=>hlt i (by omega) (by rw[D7 hiy,e]);rw[beq_eq_false_iff_ne.mpr this,jy Q9];refine A9 ⟨rfl,rfl,i+1,?_,by omega⟩;rw[show jh.size-(i+1)=jh.size-i-1 by omega]
 ·rintro⟨r1,r2⟩ s' ⟨hr,rfl,i,hi,hij⟩;have hil:jh.size-i=(jh.size-i-1)+1:=by omega
  rw[hil,List.range'_succ] at hi;cases hi
 ·simp[Std.Legacy.Range.size]
end
section
variable {X:Cx}
def KQ (K:A7):V->List V->Hp->VK->Prop:=λx vs H Q=>∃(l:A0) (k:Str) (ys:List Str) (j:Nat),x=.ref l/\vs=[.str k]/\SqT K H l (ys.map V.str)/\ys.length<=1000000/\ys[j]?=some k/\(∀i,i<j->ys[i]?≠some k)/\Q (.int j) H
theorem Ra:MtM X "tuple.index" (KQ X.K):=by
 intro jd s σ H x vs v us Q I rx rv h;obtain⟨l,k,ys,j,rfl,rfl,hq,hz0,hj,hlt,q⟩:=h;cases rx;obtain⟨u,rfl,ru⟩:=rv.one;obtain⟨t,rfl⟩:=ru;obtain⟨jh,r,p,hz⟩:=I.tuple hq;exact Q_ p (Kt r) hj hlt hz0 λtk=>⟨.int j,H,I.tok _,⟨_,rfl⟩,q⟩
end
end L2
end
section
namespace Pu
open PySem PySem.Spec PyProof.Rows L2
section
variable {T:PotK}{ι:Type}{K:A7}{F:ι->Cx}{e c:Expr}{pe pc:pE}{pos:Pos}
def U8:w2:=λx y R=>match x,y with|.tup xs,.str k=>(match j9 xs with|some ys=>ys.length<=1000000/\∃j:Nat,ys[j]?=some k/\(∀i,i<j->ys[i]?≠some k)/\R (.int j)|none=>False)|_,_=>False
def P5 (pe pc:pE):pE:=λenv n R=>pe env n λx je n1=>(∃xs,x=.tup xs)/\pc je n1 λy jf n2=>U8 x y λz=>R z jf n2
theorem o9 (he:QE T K F e pe)(hc:QE T K F c pc)(hs:D8 c=true:=by rfl)(hbase:∀z,AG e "index" (F z).env (eval e (F z).env)=eval e (F z).env:=by intro _;rfl)(hline:(ap.endLine == pos.line)=true:=by rfl)
   (hfew:∀z,((backTo pos (E2 [c] (F z).env)).all (λx=>!x.1)&&(backToKw pos (x8 [] (F z).env)).all (λx=>x.1.isSome)&&decide (([c]:List Expr).length+([]:List R9).length+(if([]:List R9).isEmpty then 0 else 1)<30))=true:=by intro _;rfl) (hK:∀z,(F z).K=K:=by intro _;rfl):QE T K F (.Call (.Attribute e "index" ap) [c] [] pos) (P5 pe pc):=by
 obtain⟨t,a1,a2⟩:=he;obtain⟨u,b1,b2⟩:=hc;refine⟨tBM K "tuple" (KQ K) t (U6 u tNil),λz=>hK z▸BP PySem.F.plainAttrs_tuple PySem.F.slot_tuple_index PySem.F.type_tuple_index Ra (a1 z) (D4 (b1 z) G0 (B9 hs)) (hbase z) (hfew z) hline (B9 hs),λC G σ H env n R Q hK hT S hp k=>?_⟩;refine a2 C G σ H env n _ _ hK hT S hp λx je n1 v H1 q1 S1 r1 f1=>?_;obtain⟨⟨xs,rfl⟩,q1⟩:=q1;obtain⟨a,vs,rfl,ta,ra⟩:=r1;refine⟨?_,?_⟩
 ·exact .inr (.inl ⟨rfl,.inr ⟨vs,ta.2⟩⟩)
 refine b2 C G σ H1 je n1 _ _ hK hT S1 q1 λy jf n2 w H2 q2 S2 r2 f2=>?_;unfold U8 at q2
 split at q2
 ·rename_i xs' kk e1;cases e1
  split at q2
  ·rename_i ys ey;obtain⟨hz,j,hj,hlt,q3⟩:=q2;obtain⟨a',vs',e3,ta',ra'⟩:=(show Rep K G H1 (.tup xs) (.ref a) from⟨a,vs,rfl,ta,ra⟩).fr f2;cases e3;exact⟨a,kk,ys,j,rfl,by rw[show w=.str kk from r2],Ki ey ra'▸SqT.of ta'.2,hz,hj,hlt,k _ _ _ _ _ q3 S2 rfl (f1.trans f2)⟩
  ·exact q2.elim
 ·exact q2.elim
end
end Pu
end
section
namespace Pu
open PySem PySem.Spec L2
def frzS:Slot->Option Slot
 |.v x=>some (.v x)
 |.ow .lst xs=>some (.v (.lst xs))
 |.ow (.dk ks) xs=>if ks.length=xs.length then some (.v (.dct ks xs)) else none
 |.ow (.dt _) _=>none
 |.ow (.st _) _=>none
def frz (env:Env):Env:=env.map λo=>o.bind frzS
end Pu
end
section
namespace Pu
open PySem PySem.Spec L2
section
variable {T:PotK}{np:Bool}{ι:Type}{K:A7}{F:ι->Cx}{e:Expr}{pk:pE}{pos tpos:Pos}
def memK (ks:List Key)(k:Key):Bool:=ks.any λz=>decide (z=k)
theorem Rb {ks:List Key}{k:Key}:memK ks k=true↔k∈ks:=by
 unfold memK;rw[y4];constructor
 ·rintro⟨x,h1,h2⟩;have:x=k:=by simpa using h2
  exact this▸h1
 ·intro h;exact⟨k,h,by simp⟩
theorem Rc {ji:List (Key×V)}{k:Key}:(valV ji k).isSome=memK (ji.map (·.1)) k:=by
 rw[<- EV];unfold memK;rw[CV];rfl
end
end Pu
end
section
namespace Pu
open PySem PySem.Spec L2
abbrev pSlN:=Env->Nat->(List Slot->Env->Nat->Prop)->Prop
def Hr:pSlN:=λenv n R=>R [] env n
def Fd (s:pSl)(r:pSlN):pSlN:=λenv n R=>s env n λa je n1=>r je n1 λss jf n2=>R (a::ss) jf n2
def setAll:List Nat->List Slot->Env->Env
 |i::is,s::ss,env=>setAll is ss (env.set i (some s))
 |_,_,env=>env
def KR:List Nat->List V->St->St
 |i::is,v::vs,σ=>KR is vs (σ.set i (some v))
 |_,_,σ=>σ
def Gots (C:Ct)(G:Gh)(H:Hp)(σ:St)(env:Env):List Slot->List V->Prop
 |[],vs=>vs=[]
 |s::ss,vs=>∃v r,vs=v::r/\Got C G H σ env s v/\(∀(xs:OK×List PV) a,s=.ow xs.1 xs.2->v=.ref a->∀(ys:OK×List PV) w,(Slot.ow ys.1 ys.2,w)∈ss.zip r->w≠.ref a)/\Gots C G H σ env ss r
def LsOk (K:A7)(T:PotK)(t:TA)(sl:pSlN):Prop:=∀(C:Ct) (G:Gh) (σ:St) (H:Hp) (env:Env) (n:Nat) (R:List Slot->Env->Nat->Prop) (Q:List V->Hp->Prop),C.K=K->C.T=T->SR C G σ H env n->sl env n R->
 (∀ss jk n' vs G' H',R ss jk n'->SR C G' σ H' jk n'->Ext G H G' H'->Gots C G' H' σ jk ss vs->Q vs H')->t σ H Q
def QLs {ι:Type}(T:PotK)(K:A7)(F:ι->Cx)(es:List Expr)(sl:pSlN):Prop:=∃t,(∀z,PA (F z) es t)/\LsOk K T t sl
section
variable {T:PotK}{np:Bool}{ι:Type}{K:A7}{F:ι->Cx}{e:Expr}{es:List Expr}{st:Stmt}{s1:pSl}{sl:pSlN}{pos:Pos}
theorem Re:QLs T K F [] Hr:=⟨tNil,λz=>G0,λC G σ H env n R Q hK hT S hp k=>k _ _ _ _ _ _ hp S Ext.refl rfl⟩
theorem Gots.unguard:∀{ss:List Slot} {vs:List V},Gots (C.guard a us) G H σ env ss vs->Gots C G H σ env ss vs/\∀(ys:OK×List PV) w,(Slot.ow ys.1 ys.2,w)∈ss.zip vs->w≠.ref a
 |[],_,h=>⟨h,λ_ _ z=>by simp at z⟩
 | s :: ss, vs, h => by
  obtain⟨v,r,rfl,g,ne,h⟩:=h;obtain⟨h1,h2⟩:=Gots.unguard h
  have gy:Got C G H σ env s v:=by
   refine⟨?_,g.2⟩;cases s with
   |v x=>exact g.1
   | ow kk ys =>
    obtain⟨b,us,ev,g1,g2,g3,g4,r⟩:=g.1;exact⟨b,us,ev,g1,λz=>g2 (C9 _ z),g3,g4,r⟩
  refine⟨⟨v,r,rfl,gy,ne,h1⟩,λys w hw ew=>?_⟩;rw[AK] at hw;rcases C8.mp hw with e|hw
  ·cases e;obtain⟨b,us,ev,g1,g2,_⟩:=g.1;rw[ew] at ev;cases ev;exact g2 C6
  ·grind
theorem KS (h:QL T K F e s1)(hr:QLs T K F es sl)(n1:D8 e=true:=by rfl):QLs T K F (e::es) (Fd s1 sl):=by
 obtain⟨t,a1,a2⟩:=h;obtain⟨u,b1,b2⟩:=hr;refine⟨U6 t u,λz=>D4 (a1 z) (b1 z) (B9 n1),λC G σ H env n R Q hK hT S hp k=>?_⟩;refine a2 C G σ H env n _ _ hK hT S hp (λx je n1 v H1 q1 S1 r1 f1=>?_) λxs je n1 a vs Hb q1 S1 f1 hn rs=>?_
 ·refine b2 C G σ H1 je n1 _ _ hK hT S1 q1 λss jf n2 ws G2 H2 q2 S2 x2 g2=>?_;exact k _ _ _ _ _ _ q2 S2 ((Ext.fr f1).trans x2) ⟨v,ws,rfl,⟨⟨v,rfl,Rep.mono x2.keep x2.new x2.pot _ _ (hK▸r1)⟩,λ_ _ z=>nomatch z⟩,(λ_ _ z=>nomatch z),g2⟩
 ·have aM:=S1.fresh hn;have GT:=S1.guard vs hn;have a0:a∉C.M0:=λz=>aM (S1.sup a z);have aH:=S1.old hn;have x1:Ext G H ⟨a::G.M,G.pots⟩ (upd Hb a (.lst vs)):=(Ext.fr f1).trans (l9 hn);have r1:Reps C.K ⟨a::G.M,G.pots⟩ (upd Hb a (.lst vs)) xs vs:=Reps.mono (G':=⟨a::G.M,G.pots⟩) (H':=upd Hb a (.lst vs)) (λb o _ e=>Same.lay1 hn b o e) (λc hc=>(C8.mp (show c∈a::G.M from hc)).elim (λz=>.inr (z▸hn)) .inl) (λ_ _ e=>e) _ _ (hK▸rs);refine b2 (C.guard a vs) ⟨a::G.M,G.pots⟩ σ (upd Hb a (.lst vs)) je n1 _ _ hK hT GT q1 λss jf n2 ws G2 H2 q2 S2 x2 g2=>?_;obtain⟨S3,e3,no⟩:=S2.unguard a0 S1.p0.1 aH;have aM2:a∈G2.M:=S2.sup a C6
  have ap2:a∉G2.pots:=λz=>by
   by_cases hz:a∈C.pots0
   ·exact a0 (S1.p0.1 a hz)
   ·exact S2.newp a z hz C6
  obtain⟨g3,g4⟩:=Gots.unguard g2;refine k _ _ _ _ _ _ q2 S3 (x1.trans x2) ⟨.ref a,ws,rfl,⟨⟨a,vs,rfl,aM2,a0,ap2,e3,Reps.mono x2.keep x2.new x2.pot _ _ r1⟩,λ_ _ _ e=>by cases e;exact no⟩,λxs' b ex ev ys w hw=>?_,g3⟩;cases ev;exact g4 ys w hw
theorem Gots.len:∀{ss:List Slot} {vs:List V},Gots C G H σ env ss vs->ss.length=vs.length
 |[],_,h=>by cases(show _=[] from h);rfl
 | s :: ss, vs, h => by
  obtain⟨v,r,rfl,g,ne,h⟩:=h;have:=Gots.len h;simp[this]
theorem Gots.set (hl:env.length=σ.length):∀{ss:List Slot} {vs:List V},Gots C G H σ env ss vs->(∀(xs:OK×List PV) a,s0=.ow xs.1 xs.2->v0=.ref a->∀(ys:OK×List PV) w,(Slot.ow ys.1 ys.2,w)∈ss.zip vs->w≠.ref a)->Gots C G H (σ.set i (some v0)) (env.set i (some s0)) ss vs
 |[],_,h,_=>h
 | s :: ss, vs, h, no => by
  obtain⟨v,r,rfl,g,ne,h⟩:=h;refine⟨v,r,rfl,⟨g.1,λxs a e1 e2 z=>?_⟩,ne,Gots.set hl h λxs a e1 e2 ys w hw=>no xs a e1 e2 ys w (by rw[AK];exact C9 _ hw)⟩;rcases Kg hl z with z|⟨⟨zs,ez⟩,ev⟩
  ·exact g.2 xs a e1 e2 z
  ·exact no zs a ez ev xs v (by rw[AK,e1];exact C6) e2
theorem SR.setAll:∀(is:List Nat) (ss:List Slot) (vs:List V) {σ:St} {env:Env},SR C G σ H env n->Gots C G H σ env ss vs->SR C G (KR is vs σ) H (Pu.setAll is ss env) n
 |[],_,_,_,_,S,_=>S
 |i::is,[],vs,_,_,S,g=>by cases(show vs=[] from g);exact S
 | i :: is, s :: ss, vs, σ, env, S, g => by
  obtain⟨v,r,rfl,g1,ne,g2⟩:=g;exact SR.setAll is ss r (S.slot i g1.1 g1.2) (g2.set S.len ne)
def Hs (is:List Nat)(sl:pSlN):pS:=λD env n=>sl env n λss je n1=>ss.length=is.length/\D.nx (setAll is ss je) n1
end
end Pu
end
section
namespace L2
open PySem PySem.Spec PyProof.Rows
section
variable {X:Cx}
def Rf:List V->Hp->VK->Prop:=λvs H Q=>vs=[]/\∀p,H p=none->Q (.ref p) (upd H p (.set (λ_=>false) 0))
theorem Rg:M6 X (.type "set") Rf:=by
 intro jd s σ H vs us Q I rv h;obtain⟨rfl,q⟩:=h;cases rv;refine call_set_0 λled=>⟨.ref s.heap.objs.size,_,I.laid (a:=s.heap.objs.size) (o:=.set (λ_=>false) 0) (t':=s.toks) (λ_ _ q=>C1 _ q) (B7 _) ?_,rfl,q _ (I.hok.fresh (B7 _))⟩;exact⟨_,#[],0,_,F4 _ rfl,⟨rfl,rfl,rfl⟩,rfl,λe he=>by simp at he,λk=>by simp,by decide,by rfl,rfl⟩
theorem KU {k:Key}{u:A3}(r:RelV (kV k) u):u.scannable=true:=by
 cases k with
 |inl i=>obtain⟨t,rfl⟩:=r;rfl
 |inr z=>obtain⟨t,rfl⟩:=r;rfl
def rInS (neg:Bool):R2:=λy x H Q=>∃a S n k,x=.ref a/\H a=some (.set S n)/\y=kV k/\Q (.bl (if neg=true then !S k else S k)) H
theorem Rh:OpR X (L6 .NotIn) (rInS true):=by
 intro jd s σ H x y v u Q I rx ry h;obtain⟨a,S,n,k,rfl,hH,rfl,q⟩:=h;cases ry;have hS:s.heap.SetOf (N1 X.prog X.w) a S n:=I.hok a _ hH;exact wpAny_notInSet_of (Cd rx) (KU rx) hS ⟨.bl (!S k),H,I.kept (h':=s.heap) (t':=s.toks+1) λb o e=>e,rfl,q⟩
def rAddS:V->List V->Hp->VK->Prop:=λx vs H Q=>∃a S n k,x=.ref a/\vs=[kV k]/\H a=some (.set S n)/\n<1000/\Q .non (upd H a (.set (λk'=>S k'||decide (k'=k)) (if S k then n else n+1)))
theorem Ri:MtM X "set.add" rAddS:=by
 intro jd s σ H x vs v us Q I rx rv h;obtain⟨a,S,n,k,rfl,rfl,hH,hn,q⟩:=h;cases rx;obtain⟨u,rfl,ru⟩:=rv.one;have hS:s.heap.SetOf (N1 X.prog X.w) a S n:=I.hok a _ hH;refine call_set_add (Cd ru) (KU ru) hS (by unfold scanBound;omega) λh' hs hS'=>⟨.non,_,EZ (ob:=.set (λk'=>S k'||decide (k'=k)) (if S k then n else n+1)) I (by rw[hH];exact Z0) hs ?_ hS',rfl,q⟩;obtain⟨o,_,_,_,ho,_⟩:=hS';exact⟨o,ho⟩
end
end L2
namespace Pu
open PySem PySem.Spec L2
section
variable {T:PotK}{np:Bool}{ι:Type}{K:A7}{F:ι->Cx}{e a:Expr}{pe pa:pE}{pos:Pos}{st:Stmt}
def Ht (i:Nat):pS:=λD env n=>D.nx (env.set i (some (.ow (.st []) []))) n
theorem Rj (i:Nat){p cp:Pos}(hg:∀z,Gl (F z) "set")(hm:∀z,(F z).mg "set"=none)(h:∀z te,EW (F z) (.Call (.Name "set" p) [] [] cp) te->SW (F z) st (tAsg te (R5 i))):QS T np K F st (Ht i):=by
 refine⟨_,λz=>(h z _ ⟨Os Rg (hg z) (hm z) bt_set (by decide) (by decide)⟩).h,λC G σ H env n PD D hK hT hn S hp L=>?_⟩;refine⟨rfl,λp hn1=>?_⟩;exact L.nx _ _ _ _ _ hp (S.ow i (.st []) (xs:=[]) (vs:=[]) hn1 rfl) (l9 hn1)
def qInS (neg:Bool)(i:Nat)(pa:pE):pE:=λenv n R=>pa env n λx je n1=>match je[i]?,keyV x with
 |some (some (.ow (.st zs) _)),some k=>R (.bl (if neg=true then !memS zs k else memS zs k)) je n1
 |_,_=>False
theorem ok_inS {t:TE}(neg:Bool)(i:Nat)(h2:EOk K T t pa):EOk K T (tOp (rInS neg) t (tVar i)) (qInS neg i pa):=λC G σ H env n R Q hK hT S hp k=>by
 refine h2 C G σ H env n _ _ hK hT S hp λx je n1 v H1 q1 S1 r1 f1=>?_
 split at q1
 ·rename_i zs xs kk ex ek;obtain⟨a,vs,ev,g1,g2,g3,g4,r'⟩:=S1.slots i _ ex;exact⟨.ref a,ev,a,memS zs,zs.length,kk,rfl,g4,Fc r1 ek,k _ _ _ _ _ q1 S1 rfl f1⟩
 ·exact q1.elim
theorem KW (i:Nat){x:Str}{p:Pos}(hv:∀z,EW (F z) (.Name x p) (tVar i))(ha:QE T K F a pa):QT T K F (.Compare a [.NotIn] [.Name x p] pos) (qB (qInS true i pa)):=by
 obtain⟨t,h1,h2⟩:=ha;exact⟨_,λz=>AY Rh (h1 z) (hv z).h rfl,BV (ok_inS true i h2)⟩
def Ck (i:Nat)(pe:pE):pE:=λenv n R=>(∃zs xs,env[i]?=some (some (.ow (.st zs) xs)))/\pe env n λy je n1=>match je[i]?,keyV y with
 |some (some (.ow (.st zs) [])),some k=>zs.length<1000/\R .non (je.set i (some (.ow (.st (if memS zs k=true then zs else zs++[k])) []))) n1
 |_,_=>False
theorem Rk (zs:List Key)(k:Key):(λk'=>memS zs k'||decide (k'=k))=memS (if memS zs k=true then zs else zs++[k]):=by
 funext k'
 split
 ·rename_i h
  by_cases c:k'=k
  ·subst c;rw[h];rfl
  ·rw[jv c,Bool.or_false]
 ·unfold memS;rw[List.any_append];show _=(_||(decide (k=k')||false));rw[Bool.or_false]
  congr 1
  rw[decide_eq_decide];exact⟨Eq.symm,Eq.symm⟩
theorem Rm (i:Nat){x:Str}{p ap:Pos}(hv:∀z,EW (F z) (.Name x p) (tVar i))(he:QE T K F e pe)(hs:D8 e=true:=by rfl)(hbase:∀z,AG (.Name x p) "add" (F z).env (eval (.Name x p) (F z).env)=eval (.Name x p) (F z).env:=by intro _;rfl)(hline:(ap.endLine == pos.line)=true:=by rfl)
   (hfew:∀z,((backTo pos (E2 [e] (F z).env)).all (λx=>!x.1)&&(backToKw pos (x8 [] (F z).env)).all (λx=>x.1.isSome)&&decide (([e]:List Expr).length+([]:List R9).length+(if([]:List R9).isEmpty then 0 else 1)<30))=true:=by intro _;rfl) (hK:∀z,(F z).K=K:=by intro _;rfl):QE T K F (.Call (.Attribute (.Name x p) "add" ap) [e] [] pos) (Ck i pe):=by
 obtain⟨t,a1,a2⟩:=he;refine⟨tBM K "set" rAddS (tVar i) (U6 t tNil),λz=>hK z▸BP PySem.F.plainAttrs_set PySem.F.slot_set_add PySem.F.type_set_add Ri (hv z).h (D4 (a1 z) G0 (B9 hs)) (hbase z) (hfew z) hline (B9 hs),λC G σ H env n R Q hK hT S hp k=>?_⟩;obtain⟨⟨zs0,xs0,e0⟩,hp⟩:=hp;obtain⟨a,vs,ev,h1,h2,h3,h4,r⟩:=S.slots i _ e0;refine⟨.ref a,ev,.inr (.inr (.inr ⟨rfl,_,_,h4⟩)),?_⟩;refine a2 C G σ H env n _ _ hK hT S hp λy je n1 v H1 q1 S1 r1 f1=>?_
 split at q1
 ·rename_i zs kk ex ek;obtain⟨a',us,ev',g1,g2,g3,g4,r'⟩:=S1.slots i _ ex;rw[ev] at ev';cases ev';subst hK;obtain⟨S2,f2⟩:=S1.putO (.st (if memS zs kk=true then zs else zs++[kk])) ex ev r'
  have eH:upd H1 a (mkO (.st (if memS zs kk=true then zs else zs++[kk])) us)=upd H1 a (.set (λk'=>memS zs k'||decide (k'=kk)) (if memS zs kk then zs.length else zs.length+1)):=by
   show upd H1 a (.set (memS _) _)=_;rw[Rk]
   congr 2
   split <;> simp
  rw[eH] at S2 f2;exact⟨a,memS zs,zs.length,kk,rfl,by rw[Fc r1 ek],g4,q1.1,k _ _ _ _ _ q1.2 S2 rfl (f1.trans f2)⟩
 ·exact q1.elim
end
end Pu
end
section
namespace L2
open PySem PySem.Spec PyProof.Rows
abbrev LC2 (jm t1 i1 t2 i2:Expr)(jn:List Expr)(scope:F8)(pos:Pos):Expr:=.ListComp jm [⟨t1,i1,[],0⟩,⟨t2,i2,jn,0⟩] scope pos
theorem Ro (jm t1 i1 t2 i2:Expr)(jn:List Expr)(scope:F8)(pos:Pos)(it jo:A3)(env:Env) :
   compTurn (LC2 jm t1 i1 t2 i2 jn scope pos) 1 it jo env=(do
    e9 i2.pos
    match ← pyNext it with
    |none=>pure (.done .next)
    | some v =>
     w9 t2 it v
     assign t2 env v
     let mut ok:=true
     for c in jn do
      if ok then ok ← isTrue c env (eval c env)
     if ok then
      (do let _ ← call (.builtin "list.append") [jo,<- eval jm env])
     again (.compLoop (LC2 jm t1 i1 t2 i2 jn scope pos) 1 it jo env)):=by rfl
section
variable {prog:D3}{w:C3}{A:E8}{R:Result->A5->Prop}{s:A5}{jm t1 i1 t2 i2:Expr}{jn:List Expr}{scope:F8}{pos:Pos}{it jo:A3}{env:Env}
theorem loop_i (I:Nat->A5->Prop)
   (turn:∀n s,I n s->A6 (A8 prog w) A (pyNext it) (fun r s₁=>match r with
    |none=>R (.ok .next) s₁
    |some v=>A6 (A8 prog w) A (w9 t2 it v) (λ_ s₁'=>A6 (A8 prog w) A (assign t2 env v) (λ_ s₂=>
        A6 (A8 prog w) A (forIn jn true fun c r=>if r=true then do let ok ← isTrue c env (eval c env);pure (Ag ok) else pure (Ag r)) (fun ok s₃=>
         if ok=true then A6 (A8 prog w) A (eval jm env) (λx s₄=>
          A6 (A8 prog w) A (call (.builtin "list.append") [jo,x]) (λ_ s₅=>∃m,m<n/\I m s₅) (λ_ _=>False) s₄) (λ_ _=>False) s₃
         else ∃m,m<n/\I m s₃) (λ_ _=>False) s₂) (λ_ _=>False) s₁') (λ_ _=>False) s₁) (λ_ _=>False) s)
   (n:Nat) (h:I n s):Q7 (A8 prog w) A (.compLoop (LC2 jm t1 i1 t2 i2 jn scope pos) 1 it jo env) R s:=by
 refine codeAny_loop rfl I (λn s hI=>?_) n h;show A6 _ A ((compTurn (LC2 jm t1 i1 t2 i2 jn scope pos) 1 it jo env).onRaise (λx=>do noteFrame x env;theTreesLotGoes x)) _ _ s;refine wpAny_noted ?_;rw[Ro];refine A2 (W3 (A2 (K4 (turn n s hI) (λr s₁ h₁=>?_) λ_ _ h'=>h'.elim)));cases r with
 |none=>exact A9 h₁
 | some v =>
  refine A2 (K4 h₁ (λ_ s₁' h₁'=>?_) λ_ _ h'=>h'.elim);refine A2 (K4 h₁' (λ_ s₂ h₂=>A2 (K4 h₂ (λok s₃ h₃=>?_) λ_ _ h'=>h'.elim)) λ_ _ h'=>h'.elim);cases ok with
  |false=>exact A9 ⟨rfl,h₃⟩
  | true =>
   exact A2 (A2 (K4 h₃ (λx s₄ h₄=>A2 (K4 h₄ (λ_ s₅ h₅=>A9 (A9 ⟨rfl,h₅⟩)) λ_ _ h'=>h'.elim)) λ_ _ h'=>h'.elim))
theorem Rp (h0:Q7 (A8 prog w) A (.compLoop (LC2 jm t1 i1 t2 i2 jn scope pos) 1 it jo env) R s)
   (h:A6 (A8 prog w) A (pyIter it) (λit' s'=>Q7 (A8 prog w) A (.compLoop (LC2 jm t1 i1 t2 i2 jn scope pos) 1 it' jo env) R s') (λ_ _=>False) s) :
   Q7 (A8 prog w) A (.compStart (LC2 jm t1 i1 t2 i2 jn scope pos) 1 it jo env) R s:=by
 refine codeAny_of_tree ?_;show A6 _ _ ((compStart (LC2 jm t1 i1 t2 i2 jn scope pos) 1 it jo env).onRaise (λx=>do noteFrame x env;e9 theWindowsPlace)) _ _ s;refine wpAny_notedAt ?_;unfold compStart;show A6 _ _ (ask>>=_) _ _ s;refine A2 (wpAny_askSetting (wpAny_ite ?_))
 split
 ·first
    |exact A2 (A9 (A9 (And.intro rfl h0)))
    |exact A9 (And.intro rfl h0)
 ·first
    |exact A2 (V4 (A2 (W3 (A2 (K4 h (λit' s' h'=>A9 (And.intro rfl h')) λ_ _ x=>x.elim)))))
    |(refine A2 (V4 ?_);show A6 _ _ (e9 i2.pos>>=_) _ _ s;exact A2 (W3 (A2 (K4 h (λit' s' h'=>A9 (And.intro rfl h')) λ_ _ x=>x.elim))))
theorem loop_o (hs:∀x,N6 i2 env x=pure x)(I:Nat->A5->Prop)
   (turn:∀n s,I n s->A6 (A8 prog w) A (pyNext it) (fun r s₁=>match r with
    |none=>R (.ok .next) s₁
    |some v=>A6 (A8 prog w) A (w9 t1 it v) (λ_ s₁'=>A6 (A8 prog w) A (assign t1 env v) (λ_ s₂=>
        A6 (A8 prog w) A (eval i2 env) (λx s₃=>A6 (A8 prog w) A (pyIter x) (λit2 s₄=>
         Q7 (A8 prog w) A (.compStart (LC2 jm t1 i1 t2 i2 jn scope pos) 1 it2 jo env) (λr s'=>r=.ok .next/\∃m,m<n/\I m s') s₄) (λ_ _=>False) s₃) (λ_ _=>False) s₂) (λ_ _=>False) s₁') (λ_ _=>False) s₁) (λ_ _=>False) s)
   (n:Nat) (h:I n s):Q7 (A8 prog w) A (.compLoop (LC2 jm t1 i1 t2 i2 jn scope pos) 0 it jo env) R s:=by
 refine codeAny_loop rfl I (λn s hI=>?_) n h;show A6 _ A ((compTurn (LC2 jm t1 i1 t2 i2 jn scope pos) 0 it jo env).onRaise (λx=>do noteFrame x env;theTreesLotGoes x)) _ _ s;refine wpAny_noted ?_;unfold compTurn;show A6 _ _ (e9 i1.pos>>=_) _ _ s;refine A2 (W3 ?_);refine A2 (K4 (turn n s hI) (λr s₁ h₁=>?_) λ_ _ h'=>h'.elim);cases r with
 |none=>exact A9 h₁
 | some v =>
  refine A2 (K4 h₁ (λ_ s₁' h₁'=>?_) λ_ _ h'=>h'.elim);refine A2 (K4 h₁' (λ_ s₂ h₂=>A2 (wpAny_tests_nil ?_)) λ_ _ h'=>h'.elim);refine A2 (K4 h₂ (λx s₃ h₃=>?_) λ_ _ h'=>h'.elim);refine A2 (W3 ?_);show A6 _ _ (N6 i2 env x>>=λx=>(W4 [x] (pyIter x)>>=λit2=>(runOwn (.compStart (LC2 jm t1 i1 t2 i2 jn scope pos) 1 it2 jo env) env>>=λ_=>again (.compLoop (LC2 jm t1 i1 t2 i2 jn scope pos) 0 it jo env)))) _ _ _;refine A2 (U1 (hs x) (A2 (P8 (K4 h₃ (λit2 s₄ h₄=>?_) λ_ _ h'=>h'.elim))));refine A2 (wpAny_runOwn ?_);rw[Around.mark_none];refine codeAny_mono h₄ λr s' hr=>?_;obtain⟨rfl,hr⟩:=hr;exact A9 ⟨rfl,hr⟩
end
def KY (J:It)(g:TG)(tt:TT)(te:TE)(D:A0)(N:St->Hp->Prop)(σ:St)(H:Hp):Prop:=∃W:Nat->Nat->St->Hp->Prop,(∃m,W 0 m σ H)/\
 ∀i m σ' H',W i m σ' H'->(J.stop i H'/\N σ' H')\/(J.go i H'/\∀x H2,J.yld i H' x H2->g x σ' H2 fun σ3 H3=>tt σ3 H3 fun b H4=>
    if b=true then te σ3 H4 λv H5=>∃ys,H5 D=some (.lst ys)/\ys.length<B8/\∃m',m'<m/\W (i+1) m' σ3 (upd H5 D (.lst (ys++[v])))
    else ∃m',m'<m/\W (i+1) m' σ3 H4)
def Hu (J:It)(g1:TG)(wi2:TI)(g2:TG)(tt:TT)(te:TE)(Q:VK)(D:A0)(σc:St)(H1:Hp):Prop:=∃W:Nat->Nat->St->Hp->Prop,(∃m,W 0 m σc H1)/\
 ∀i m σ' H',W i m σ' H'->(J.stop i H'/\Q (.ref D) H')\/(J.go i H'/\∀x H2,J.yld i H' x H2->g1 x σ' H2 λσ3 H3=>wi2 σ3 H3 λJ2 H4=>KY J2 g2 tt te D (λσ5 H5=>∃m',m'<m/\W (i+1) m' σ5 H5) σ3 H4)
def KZ (cs:List (Option Nat))(wi:TI)(g1:TG)(wi2:TI)(g2:TG)(tt:TT)(te:TE):TE:=λσ H Q=>wi σ H λJ H1=>∀D,H1 D=none->Hu J g1 wi2 g2 tt te Q D (k9 cs σ) (upd H1 D (.lst []))
theorem loop2 {Y:Cx}{scope:F8}{jm t1 i1 t2 i2:Expr}{jn:List Expr}{pos:Pos}{wi2:TI}{g1 g2:TG}{tt:TT}{te:TE}{fp:List A0}{it D:A0}{tn:Nat->B5->Prop}{J:It}{s₃:A5}{H3:Hp}{σ3:St}{jd:List (A0×Obj)}{Q:VK}{R:Result->A5->Prop}(hx:Y.xe=λ_ _=>False)(hc:Y.calm=true)
   (hb:PG Y t1 g1/\PI Y t2 i2 wi2/\PG Y t2 g2/\PIf Y jn tt/\PE Y jm te) (hs2:∀x,N6 i2 Y.env x=pure x) (T:Turn Y.prog Y.w Y.K t1 J fp it tn) (stat:∀{H':Hp},(∀b∈fp,H' b=none)->∀b∈fp,FpOk Y jd H' b) (q:Hu J g1 wi2 g2 tt te Q D σ3 H3)
   (fin:∀s4 σ4 H4,Inv Y jd σ4 H4 s4->Q (.ref D) H4->R (.ok .next) s4) (Ic:Inv Y jd σ3 H3 s₃) (st1:tn 0 s₃.heap) (fr1:∀b∈fp,H3 b=none) :
   Q7 (A8 Y.prog Y.w) Y.A (.compLoop (LC2 jm t1 i1 t2 i2 jn scope pos) 0 (.ref it) (.ref D) Y.env) R s₃:=by
 obtain⟨W,⟨m0,w0⟩,turn⟩:=q;obtain⟨hg,hi2,hg2,hf,he⟩:=hb;refine loop_o hs2 (λn s'=>∃i σ' H',Inv Y jd σ' H' s'/\tn i s'.heap/\(∀b∈fp,H' b=none)/\W i n σ' H') ?_ m0 ⟨0,_,_,Ic,st1,fr1,w0⟩;rintro n s3 ⟨i,σ3,H3,I3,st3,fr3,w3⟩;rcases turn i n σ3 H3 w3 with⟨stop,qn⟩|⟨go,step⟩
 ·refine thn (T.done Y rfl rfl rfl hc i jd s3 σ3 H3 (λ_ _=>False) I3 (stat fr3) st3 stop) λr s4 ⟨hr,I4⟩=>?_;subst hr;exact fin s4 _ _ I4 qn
 ·refine thn (T.item Y rfl rfl rfl hc i jd s3 σ3 H3 (λ_ _=>False) I3 (stat fr3) st3 go) λr s4 ⟨u,hr,h4⟩=>?_;subst hr;refine thn h4 λ_ s5 ⟨x,H5,I5,r5,y5,st5,fr5⟩=>?_;refine thn (hx▸hg _ s5 σ3 H5 x u _ (I5.pinned (stat fr5) (T.obj _ _ st5)) r5 (step x H5 y5)) λ_ s6 ⟨σ6,H6,I6,q6⟩=>?_;refine thn (hx▸hi2 _ s6 σ6 H6 _ I6 q6) λv7 s7 h7=>thn h7 λitv s8 h8=>?_;obtain⟨it2,fp2,tn2,J2,H8,rfl,I8,T2,st8,f8,W2,⟨m2,w2⟩,turn2⟩:=h8
  have inner:Q7 (A8 Y.prog Y.w) Y.A (.compLoop (LC2 jm t1 i1 t2 i2 jn scope pos) 1 (.ref it2) (.ref D) Y.env) (λr s'=>r=.ok .next/\∃m,m<n/\∃i σ' H',Inv Y jd σ' H' s'/\tn i s'.heap/\(∀b∈fp,H' b=none)/\W i m σ' H') s8:=
   loop_i (λn s'=>∃i σ' H',Inv Y (jd++BN fp s5.heap) σ' H' s'/\tn2 i s'.heap/\(∀b∈fp2,H' b=none)/\W2 i n σ' H') (by rw[<- hx];exact Ew T2 hc (λhn b hb=>⟨hn b hb,(f8 b hb).2⟩) hg2 hf he (λs10 σ9 H9 I10 qn2=>⟨rfl,Gy T st5 I10 qn2⟩) turn2) m2 ⟨0,σ6,H8,I8,st8,λb hb=>(f8 b hb).1,w2⟩
  exact Rp inner (T2.self _ 0 _ _ _ st8 inner)
theorem K_ {X:Cx}{scope:F8}{cl:List (Str×A0)}{N:List Str}{cs:List (Option Nat)}{jm t1 i1 t2 i2:Expr}{jn:List Expr}{pos:Pos}{wi1 wi2:TI}{g1 g2:TG}{tt:TT}{te:TE}(S:Z5 X scope cl N cs)(hc:X.calm=true)(hi:PI X t1 i1 wi1)
   (hb:∀(fp:List A0) (C:A0) (s:A5) (H:Hp),PG (E4 X scope cl N fp C s H) t1 g1/\PI (E4 X scope cl N fp C s H) t2 i2 wi2/\PG (E4 X scope cl N fp C s H) t2 g2/\PIf (E4 X scope cl N fp C s H) jn tt/\PE (E4 X scope cl N fp C s H) jm te)
   (hs2:∀fp C s H x,N6 i2 (E4 X scope cl N fp C s H).env x=pure x)
   (hs:∀x,N6 i1 X.env x=pure x:=by intro _;rfl) :
   PE X (LC2 jm t1 i1 t2 i2 jn scope pos) (KZ cs wi1 g1 wi2 g2 tt te):=by
 intro jd s σ H Q I h;rw[eval_ListComp];exact Ex S hc hi hs I h λfp it tn J s2 H2 s₃ T stat I2 f2 q Ic st1 fr1=>loop2 (Y:=E4 X scope cl N fp (s2.heap.objs.size+1) s2 H2) rfl hc (hb _ _ _ _) (hs2 _ _ _ _) T stat q (λs4 σ3 H3 I4 qn=>JH I2 f2 I4 qn) Ic st1 fr1
end L2
end
section
namespace Pu
open PySem PySem.Spec L2
def U9 (g:pG)(tt:pT)(te:pE):List PV->Env->Nat->(List PV->Env->Nat->Prop)->Prop
 |[],env,n,R=>R [] env n
 |x::xs,env,n,R=>g x env λje=>tt je n λb jf n2=>if b=true then te jf n2 λy jg n3=>U9 g tt te xs jg n3 λys e m=>R (y::ys) e m else U9 g tt te xs jf n2 R
def Bf (g1:pG)(pi2:pA)(g2:pG)(tt:pT)(te:pE):List PV->Env->Nat->(List PV->Nat->Prop)->Prop
 |[],_,n,R=>R [] n
 |x::xs,env,n,R=>g1 x env λje=>pi2 je n λys jf n2=>ys.length<=1000/\U9 g2 tt te ys jf n2 λzs jg n3=>Bf g1 pi2 g2 tt te xs jg n3 λws n4=>R (zs++ws) n4
def Cm (cs:List (Option Nat))(pi1:pA)(g1:pG)(pi2:pA)(g2:pG)(tt:pT)(te:pE):pA:=λenv n R=>pi1 env n λxs je n1=>xs.length<=1000/\Bf g1 pi2 g2 tt te xs (capV cs je) n1 λys n2=>R ys je n2
theorem Rq {K:A7}{T:PotK}{J:It}{g:TG}{tt:TT}{te:TE}{pg:pG}{ptt:pT}{pte:pE}(hg:GOk K g pg)(ht:TOk K T tt ptt)(he:EOk K T te pte){G:Gh}{H1 H4:Hp}{ys:List PV}{D:A0}(hJ:ItR K ⟨D::G.M,G.pots⟩ H4 J ys)(nD:D∉G.pots)(hD:H1 D=none){σ:St}{env:Env}{n:Nat}{jo:List PV}{us:List V}{P:List PV->Env->Nat->Prop}{N:St->Hp->Prop}(c:CI K T G H1 D σ H4 env n jo us)(hl:jo.length+ys.length<=1001000)(hc:U9 pg ptt pte ys env n P)
   (hN:∀zs env n us σ H,P zs env n->CI K T G H1 D σ H env n (jo++zs) us->zs.length<=ys.length->N σ H):KY J g tt te D N σ H4:=by
 refine⟨λj m σ H'=>m=ys.length-j/\j<=ys.length/\∃env n zs us2,CI K T G H1 D σ H' env n (jo++zs) us2/\Fr ⟨D::G.M,G.pots⟩ H4 H'/\zs.length<=j/\U9 pg ptt pte (ys.drop j) env n λws e m=>P (zs++ws) e m,⟨ys.length,rfl,M5 _,env,n,[],us,by rw[Q8];exact c,Fr.refl,B7 _,hc⟩,?_⟩;rintro j m σ5 H5 ⟨rfl,hj,env5,n5,zs,us5,c5,fr5,la5,hc5⟩;obtain⟨hgo5,hstop5⟩:=hJ _ H5 fr5 (λa ha=>.inl ha) (λ_ _ e=>e) λp hp=>c5.inn.sr.fresh hp
 by_cases hlt5:j<ys.length
 ·obtain⟨u1,u2⟩:=hgo5 j _ (D7 hlt5);refine .inr ⟨u1,λv6 H6 y6=>?_⟩;obtain⟨s6,rv6⟩:=u2 v6 H6 y6;rw[AJ hlt5] at hc5;have np:∀b,b∉D::G.M->b∉G.pots:=λb hb z=>hb (c5.inn.pots b z).1;refine hg _ _ σ5 H6 env5 n5 ys[j] v6 _ _ rfl (c5.inn.sr.same s6) rv6 hc5 λenv7 σ7 hc7 S7=>?_;refine ht _ _ σ7 H6 env7 n5 _ _ rfl rfl S7 hc7 λb env8 n8 H8 hc8 S8 f8=>?_;cases b with
  |false=>exact⟨ys.length-(j+1),CW _ _ hlt5,rfl,hlt5,env8,n8,zs,us5,c5.go nD S8,λb o hb e=>S8.frame b o (np b hb) (fr5 b o hb e),Nat.le_succ_of_le la5,hc8⟩
  | true =>
   refine he _ _ σ7 H8 env8 n8 _ _ rfl rfl S8 hc8 λy env9 n9 u H9 hc9 S9 r9 f9=>?_;have c9:=c5.go nD S9;have c10:=c9.add nD hD r9;rw[O9] at c10;refine⟨us5,c9.eD,by rw[<- c5.ra.length,D6];exact By (show _<=1001000 by omega) (by rw[d9];decide),ys.length-(j+1),CW _ _ hlt5,rfl,hlt5,env9,n9,zs++[y],us5++[u],c10,Fr.trans (λb o hb e=>S9.frame b o (np b hb) (fr5 b o hb e)) (CI.fD _),by rw[D6];exact Nat.succ_le_succ la5,?_⟩;simp only[O9];exact hc9
 ·obtain rfl:j=ys.length:=Bz hj (CY hlt5);rw[Bu] at hc5;have h5:P (zs++[]) env5 n5:=hc5;rw[Q8] at h5;exact .inl ⟨hstop5 _ (B7 _),hN zs env5 n5 us5 σ5 H5 h5 c5 la5⟩
theorem La {K:A7}{T:PotK}{J:It}{g1 g2:TG}{wi2:TI}{tt:TT}{te:TE}{pg1 pg2:pG}{pi2:pA}{ptt:pT}{pte:pE}(hg1:GOk K g1 pg1)(hi2:IOk K T wi2 pi2)(hg2:GOk K g2 pg2)(ht:TOk K T tt ptt)(he:EOk K T te pte){G:Gh}{H1:Hp}{xs:List PV}(hJ:ItR K G H1 J xs)(hl:xs.length<=1000)
   {σc:St} {env:Env} {n:Nat} {R:List PV->Nat->Prop} {Q:VK} {D:A0} (hD:H1 D=none) (I0:Inn K T G σc H1 env n) (hp:Bf pg1 pi2 pg2 ptt pte xs env n R)
   (hQ:∀ys n' us H',R ys n'->(∀p∈G.pots,T.at_ (D::G.M) H' p n')->(∀b o,b∉G.pots->H1 b=some o->H' b=some o)->H' D=some (.lst us)->Reps K ⟨D::G.M,G.pots⟩ H' ys us->Q (.ref D) H') :
   Hu J g1 wi2 g2 tt te Q D σc (upd H1 D (.lst [])):=by
 have nD:D∉G.pots:=λz=>I0.sr.fresh hD (I0.pots D z).1;refine⟨λi m σ H=>m=xs.length-i/\i<=xs.length/\∃env n jo us,CI K T G H1 D σ H env n jo us/\jo.length<=1000*i/\Bf pg1 pi2 pg2 ptt pte (xs.drop i) env n λys n'=>R (jo++ys) n',⟨xs.length,rfl,M5 _,env,n,[],[],.start hD I0,B7 _,hp⟩,?_⟩;rintro i m σ H ⟨rfl,hi,env,n,jo,us,c,la,hc⟩;obtain⟨hgo,hstop⟩:=c.it hD hJ
 by_cases hlt:i<xs.length
 ·obtain⟨gg1,gg2⟩:=hgo i _ (D7 hlt);refine .inr ⟨gg1,λv H2 y=>?_⟩;obtain⟨s2,rv⟩:=gg2 v H2 y;rw[AJ hlt] at hc;refine hg1 _ _ σ H2 env n xs[i] v _ _ rfl (c.inn.sr.same s2) rv hc λje σ1 hc1 S2=>?_;refine hi2 _ _ σ1 H2 je n _ _ rfl rfl S2 hc1 λys jf n2 J2 H4 q4 S4 f4 hJ2=>?_;refine Rq hg2 ht he hJ2 nD hD (c.go nD S4) (by have:=q4.1;omega) q4.2 λzs env5 n5 us5 σ5 H5 h5 c5 lz=>⟨xs.length-(i+1),CW _ _ hlt,rfl,hlt,env5,n5,jo++zs,us5,c5,by rw[D6];have:=q4.1;omega,?_⟩;simp only[O9];exact h5
 ·obtain rfl:i=xs.length:=Bz hi (CY hlt);rw[Bu] at hc;have hc':R (jo++[]) n:=hc;rw[Q8] at hc';exact .inl ⟨hstop _ (B7 _),hQ _ n us H hc' (λp hp=>(c.inn.pots p hp).2) c.kp c.eD c.ra⟩
section
variable {T:PotK}{ι:Type}{K:A7}{F:ι->Cx}{pg1 pg2:pG}{pos:Pos}
theorem Lb {scope:F8}{cl:ι->List (Str×A0)}{N:List Str}{cs:List (Option Nat)}{jm t1 i1 t2 i2:Expr}{jn:List Expr}{pi1 pi2:pA}{ptt:pT}{pte:pE}(S:∀z,Z5 (F z) scope (cl z) N cs)(hc:∀z,(F z).calm=true)(hi:QI T K F t1 i1 pi1)
   (hg:QG K (λy:ι×List A0×A0×A5×Hp=>E4 (F y.1) scope (cl y.1) N y.2.1 y.2.2.1 y.2.2.2.1 y.2.2.2.2) t1 pg1)
   (hi2:QI T K (λy:ι×List A0×A0×A5×Hp=>E4 (F y.1) scope (cl y.1) N y.2.1 y.2.2.1 y.2.2.2.1 y.2.2.2.2) t2 i2 pi2)
   (hg2:QG K (λy:ι×List A0×A0×A5×Hp=>E4 (F y.1) scope (cl y.1) N y.2.1 y.2.2.1 y.2.2.2.1 y.2.2.2.2) t2 pg2)
   (ht:QIf T K (λy:ι×List A0×A0×A5×Hp=>E4 (F y.1) scope (cl y.1) N y.2.1 y.2.2.1 y.2.2.2.1 y.2.2.2.2) jn ptt)
   (he:QE T K (λy:ι×List A0×A0×A5×Hp=>E4 (F y.1) scope (cl y.1) N y.2.1 y.2.2.1 y.2.2.2.1 y.2.2.2.2) jm pte)
   (hs:∀z x,N6 i1 (F z).env x=pure x:=by intro _ _;rfl) (hs2:∀z fp C s H x,N6 i2 (E4 (F z) scope (cl z) N fp C s H).env x=pure x:=by intro _ _ _ _ _ _;rfl):QN T K F (LC2 jm t1 i1 t2 i2 jn scope pos) (Cm cs pi1 pg1 pi2 pg2 ptt pte):=by
 obtain⟨wi,i1',i2'⟩:=hi;obtain⟨g,hg0,hg⟩:=hg;obtain⟨wj,j1,j2⟩:=hi2;obtain⟨g2,hg20,hg2⟩:=hg2;obtain⟨tt,ht0,ht⟩:=ht;obtain⟨te,he0,he⟩:=he;refine⟨_,λz=>K_ (S z) (hc z) (i1' z) (λfp C s H=>⟨hg0 (z,fp,C,s,H),j1 (z,fp,C,s,H),hg20 (z,fp,C,s,H),ht0 (z,fp,C,s,H),he0 (z,fp,C,s,H)⟩) (hs2 z) (hs z),λC G σ H env n R Q hK hT S hp k=>?_⟩;refine i2' C G σ H env n _ _ hK hT S hp λxs je n1 J H1 p1 S1 f1 hJ=>?_;intro D hD;have hDM:=S1.fresh hD;refine La (G:=G) hg j2 hg2 ht he hJ p1.1 hD (hT▸hK▸Dr S1 cs) p1.2 λys n2 us H' rr hpots hk eD ry=>?_;have nD:∀b o,H1 b=some o->b≠D:=λb o e z=>by rw[z,hD] at e;cases e
 have hk2:∀b o,b∉G.pots->H1 b=some o->cutH H' D b=some o:=λb o hb e=>by rw[N4 (nD b o e)];exact hk b o hb e
 have nc:∀b,b∉D::G.M->b≠D:=λb hb z=>hb (by rw[z];exact C6);have np:∀p∈G.pots,p≠D:=λp hp z=>hDM (z▸(S1.pots p hp).1)
 have Sb:SR C G σ (cutH H' D) je n2:=S1.call hk2 λp hp=>by
  subst hT;have h2:=C.T.keep (hpots p hp) (H':=cutH H' D) (N4 (np p hp)) λb o hb e=>by rw[N4 (nc b hb)];exact e
  exact C.T.more h2 λa ha=>.inl (C9 _ ha)
 have:=k ys je n2 D us (cutH H' D) rr Sb (f1.trans λb o hb e=>hk2 b o (λz=>hb (S1.pots b z).1) e) (by unfold cutH;rw[jw rfl]) ?_
 ·rw[Ds eD] at this;exact this
 ·exact Reps.mono (G:=⟨D::G.M,G.pots⟩) (λb o hb e=>by rw[N4 (nc b hb)];exact e) (λa ha=>.inl (C9 _ ha)) (λ_ _ e=>e) _ _ ry
end
end Pu
end
section
namespace Pu
open PySem PySem.Spec L2
section
variable {C:Ct}{G:Gh}{σ:St}{H:Hp}{env:Env}{n:Nat}
theorem SR.take (S:SR C G σ H env n){i:Nat}{kk:OK}{xs:List PV}{a:A0}(ex:env[i]?=some (some (.ow kk xs)))(ev:σ[i]?=some (some (.ref a)))(ob:HO) :
   ∃G':Gh,SR C G' σ (upd H a ob) (env.set i none) n/\Ext G H G' (upd H a ob)/\a∉G'.M/\(∀b∈G'.M,b∈G.M)/\G'.pots=G.pots:=by
 obtain⟨a',vs,ev',h1,h2,h3,h4,r⟩:=S.slots i _ ex;rw[ev] at ev';cases ev'
 let G':Gh:=⟨G.M.filter (·≠a),G.pots⟩
 have sub:∀b∈G'.M,b∈G.M:=λb hb=>(O5.mp hb).1;have sub2:∀b∈G'.M,b≠a:=λb hb=>by simpa using(O5.mp hb).2
 have f:Fr G H (upd H a ob):=λb o hb he=>by rw[C0 (λz=>hb (by rw[z];exact h1))];exact he
 have mm:∀{x:PV} {v:V},Rep C.K G H x v->Rep C.K G' (upd H a ob) x v:=λr=>Rep.mono (G':=G') f (λb hb=>.inl (sub b hb)) (λ_ _ e=>e) _ _ r;have mms:∀{x:List PV} {v:List V},Reps C.K G H x v->Reps C.K G' (upd H a ob) x v:=λr=>Reps.mono (G':=G') f (λb hb=>.inl (sub b hb)) (λ_ _ e=>e) _ _ r
 have back:∀(j:Nat) (s:Slot),(env.set i none)[j]?=some (some s)->i≠j/\env[j]?=some (some s):=λj s e=>by
  by_cases h:i=j
  ·subst h;rw[L7 (E6.mp ex).1] at e;cases e
  ·rw[M9 h] at e;exact⟨h,e⟩
 refine⟨G',{
  frame:=λb o hb he=>?_
  sub:=λb hb=>S.sub b (sub b hb)
  sup:=λb hb=>O5.mpr ⟨S.sup b hb,ju (show b≠a from λz=>h2 (by rw[<- z];exact hb))⟩
  pots:=λp hp=>⟨O5.mpr ⟨(S.pots p hp).1,ju (show p≠a from λz=>h3 (by rw[<- z];exact hp))⟩,C.T.more (C.T.keep (S.pots p hp).2 (C0 λz=>h3 (by rw[<- z];exact hp)) f) λb hb=>.inl (sub b hb)⟩
  pre:=S.pre
  mu:=λb hb=>?_
  slots:=λj s es=>?_
  inj:=λj k xs' ys b e1 e2 e3 e4=>S.inj j k xs' ys b (back j _ e1).2 (back k _ e2).2 e3 e4
  p0:=S.p0
  len:=by rw[K1];exact S.len
  newp:=S.newp },⟨f,λb hb=>.inl (sub b hb),λ_ _ e=>e⟩,λz=>sub2 a z rfl,sub,rfl⟩
 ·have hb2:b≠a:=λz=>by
   rcases S.sub a h1 with z2|z2
   ·exact h2 z2
   ·rw[z,z2] at he;cases he
  rw[C0 hb2];exact S.frame b o hb he
 ·obtain⟨o,he,m⟩:=S.mu b (sub b hb);exact⟨o,by rw[C0 (sub2 b hb)];exact he,m⟩
 ·obtain⟨hj,es⟩:=back j s es;have:=S.slots j s es;cases s with
  | v x =>
   obtain⟨v,e1,r⟩:=this;exact⟨v,e1,mm r⟩
  | ow kz zs =>
   obtain⟨b,us,e1,g1,g2,g3,g4,r⟩:=this;have hba:b≠a:=λz=>hj (S.inj i j (kk,xs) (kz,zs) a ex es ev (by rw[e1,z]));exact⟨b,us,e1,O5.mpr ⟨g1,by simpa using hba⟩,g2,g3,by rw[C0 hba];exact g4,mms r⟩
def Ct.hid (C:Ct)(p:A0)(ob:HO):Ct:={ C with M0:=p::C.M0,H0:=upd C.H0 p ob }
theorem SR.hide (S:SR C G σ H env n){p:A0}{ob:HO}(mo:MutO ob)(h:H p=none):SR (C.hid p ob) ⟨p::G.M,G.pots⟩ σ (upd H p ob) env n:=by
 have S1:=S.moreO mo h;have pM:p∉G.M:=S.fresh h
 exact {
  frame:=λb o hb e=>by
   by_cases hbp:b=p
   ·subst hbp;have e':some ob=some o:=by rw[<- e];exact F9.symm
    rw[F9];exact e'
   ·have e':C.H0 b=some o:=by rw[<- e];exact(C0 hbp).symm
    exact S1.frame b o hb e'
  sub:=fun b hb=>by
   rcases C8.mp hb with rfl|hb
   ·exact .inl C6
   ·rcases S.sub b hb with z|z
    ·exact .inl (C9 _ z)
    ·exact .inr (by show upd C.H0 p ob b=none;rw[C0 λz=>pM (by rw[<- z];exact hb)];exact z)
  sup:=λb hb=>by
   rcases C8.mp hb with rfl|hb
   ·exact C6
   ·exact C9 _ (S.sup b hb)
  pots:=S1.pots
  pre:=S.pre
  mu:=S1.mu
  slots:=λj s e=>by
   have:=S1.slots j s e;cases s with
   |v x=>exact this
   | ow kk xs =>
    obtain⟨b,us,e1,g1,g2,g3,g4,r⟩:=this;obtain⟨b',us',e1',g1',_⟩:=S.slots j _ e;rw[e1] at e1';cases e1';refine⟨b,us,e1,g1,λz=>?_,g3,g4,r⟩;rcases C8.mp z with rfl|z
    ·exact pM g1'
    ·exact g2 z
  inj:=S.inj
  p0:=⟨λq hq=>C9 _ (S.p0.1 q hq),S.p0.2⟩
  len:=S.len
  newp:=λq hq h1 h2=>by
   rcases C8.mp h2 with rfl|h2
   ·exact pM (S.pots q hq).1
   ·exact S.newp q hq h1 h2 }
theorem SR.hid_at {p:A0}{ob:HO}(S:SR (C.hid p ob) G σ H env n)(h2:p∉C.pots0):H p=some ob:=S.frame p ob h2 F9
theorem SR.unhide {p:A0}{ob:HO}(S:SR (C.hid p ob) G σ H env n)(h0:C.H0 p=none)(hp:p∉C.M0)(h2:p∉C.pots0)(i:Nat)(kk:OK){xs:List PV}{vs:List V}(r:Reps C.K G H xs vs) :
   SR C G (σ.set i (some (.ref p))) (upd H p (mkO kk vs)) (env.set i (some (.ow kk xs))) n/\Fr G H (upd H p (mkO kk vs)):=by
 have pM:p∈G.M:=S.sup p C6;have pp:p∉G.pots:=λz=>S.newp p z h2 C6;have f:Fr G H (upd H p (mkO kk vs)):=λb o hb he=>by rw[C0 (λz=>hb (by rw[z];exact pM))];exact he
 have jc:∀(j:Nat) (ys:OK×List PV),env[j]?=some (some (Slot.ow ys.1 ys.2))->σ[j]?≠some (some (.ref p)):=by
  intro j ys e z;obtain⟨b,us,e1,h1,h2,_⟩:=S.slots j _ e;rw[z] at e1;cases e1;exact h2 C6
 refine⟨{
  frame:=λb o hb he=>?_
  sub:=λb hb=>?_
  sup:=λb hb=>S.sup b (C9 _ hb)
  pots:=λq hq=>⟨(S.pots q hq).1,C.T.keep (S.pots q hq).2 (C0 λz=>pp (by rw[<- z];exact hq)) f⟩
  pre:=S.pre
  mu:=λb hb=>?_
  slots:=λj s es=>?_
  inj:=λj k xs' ys b e1 e2 e3 e4=>?_
  p0:=⟨λq hq=>(C8.mp (S.p0.1 q hq)).elim (λz=>absurd hq (by rw[z];exact h2)) λz=>z,S.p0.2⟩
  len:=by rw[K1,K1];exact S.len
  newp:=λq hq h1 h2=>S.newp q hq h1 (C9 _ h2) },f⟩
 ·have hbp:b≠p:=λz=>by rw[z,h0] at he;cases he
  rw[C0 hbp];exact S.frame b o hb (by show upd C.H0 p ob b=some o;rw[C0 hbp];exact he)
 ·by_cases hbp:b=p
  ·exact .inr (by rw[hbp];exact h0)
  ·rcases S.sub b hb with z|z
   ·exact .inl ((C8.mp z).elim (λz=>absurd z hbp) λz=>z)
   ·refine .inr ?_;have z':upd C.H0 p ob b=none:=z;rw[C0 hbp] at z';exact z'
 ·by_cases hbp:b=p
  ·rw[hbp];exact⟨_,F9,GF kk vs⟩
  ·obtain⟨o,he,m⟩:=S.mu b hb;exact⟨o,by rw[C0 hbp];exact he,m⟩
 ·by_cases hj:i=j
  ·subst hj
   by_cases hl:i<env.length
   ·rw[L7 hl] at es;cases es;exact⟨p,vs,by rw[L7 (by rw[<- S.len];exact hl)],pM,hp,pp,F9,r.fr f⟩
   ·rw[Q0 (by rw[K1];omega)] at es;cases es
  ·rw[M9 hj] at es ⊢;have:=S.slots j s es;cases s with
   | v x =>
    obtain⟨v,e1,r⟩:=this;exact⟨v,e1,r.fr f⟩
   | ow kz zs =>
    obtain⟨b,us,e1,g1,g2,g3,g4,r⟩:=this;have hba:b≠p:=λz=>g2 (by rw[z];exact C6);exact⟨b,us,e1,g1,λz=>g2 (C9 _ z),g3,by rw[C0 hba];exact g4,r.fr f⟩
 ·by_cases hj:i=j
  ·by_cases hk:i=k
   ·omega
   ·subst hj;rw[M9 hk] at e2 e4
    by_cases hl:i<σ.length
    ·rw[L7 hl] at e3;cases e3;exact absurd e4 (jc k ys e2)
    ·rw[Q0 (by rw[K1];omega)] at e3;cases e3
  ·rw[M9 hj] at e1 e3
   by_cases hk:i=k
   ·subst hk
    by_cases hl:i<σ.length
    ·rw[L7 hl] at e4;cases e4;exact absurd e3 (jc j xs' e1)
    ·rw[Q0 (by rw[K1];omega)] at e4;cases e4
   ·rw[M9 hk] at e2 e4;exact S.inj j k xs' ys b e1 e2 e3 e4
end
end Pu
end
section
namespace L2
open PySem PySem.Spec PyProof.Rows
def insL {α:Type}(xs:List α)(k:Nat)(y:α):List α:=xs.take k++y::xs.drop k
theorem Hv {α:Type}(xs:List α)(k:Nat)(y:α):(insL xs k y).length=xs.length+1:=by
 unfold insL;rw[D6,L8,Y6,U4];omega
section
variable {X:Cx}
def Lc:V->List V->Hp->VK->Prop:=λx vs H Q=>∃l xs i y,x=.ref l/\vs=[.int i,y]/\H l=some (.lst xs)/\0<=i/\i<=1000000/\xs.length<B8/\Q .non (upd H l (.lst (insL xs i.toNat y)))
theorem Rr {u:A3}(h0:0<=i):(have k:=if i<0 then(i+((jh.toArray.size:Nat):Int)).toNat else min i.toNat jh.toArray.size;(jh.toArray.extract 0 k).push u++jh.toArray.extract k)=(insL jh i.toNat u).toArray:=by
 have e:(if i<0 then(i+((jh.toArray.size:Nat):Int)).toNat else min i.toNat jh.toArray.size)=min i.toNat jh.length:=by
  rw[jy (by omega)];simp
 show(jh.toArray.extract 0 (if i<0 then(i+((jh.toArray.size:Nat):Int)).toNat else min i.toNat jh.toArray.size)).push u++jh.toArray.extract (if i<0 then(i+((jh.toArray.size:Nat):Int)).toNat else min i.toNat jh.toArray.size)=_;rw[e];unfold insL;rcases Nat.le_total i.toNat jh.length with h|h
 ·rw[Nat.min_eq_left h];simp;exact T0 (by rw[U4];exact B7 _)
 ·rw[Eh h,T0 h,FO h];simp
theorem Rs:MtM X "list.insert" Lc:=by
 intro jd s σ H x vs v us Q I rx rv h;obtain⟨l,xs,i,y,rfl,rfl,hH,h0,h1,hz,q⟩:=h;cases rx;cases rv with
 | cons ri rv =>
  obtain⟨t,rfl⟩:=ri;obtain⟨u,rfl,ru⟩:=Vals.one rv;obtain⟨z,jh,n,r,hl,e⟩:=I.lstM hH
  have hf:¬(!IY i)=true:=by
   simp only[IY];simp;omega
  refine call_meets F.slot_list_insert ⟨_,e,rfl⟩ F.entry_list_insert (F.args_list_insert_3 _ _ _) (PySem.AutoSeq1.list_insert_list_int_val_1 l jh.toArray n i t u hf (by rw[F5];omega)) ⟨e,?_⟩;refine⟨.non,_,I.lset (its':=insL jh i.toNat u) hH e (Rr h0) ?_ ?_,rfl,q⟩
  ·exact(r.take i.toNat).append (.cons ru (r.drop i.toNat))
  ·rw[Hv];omega
end
end L2
namespace Pu
open PySem PySem.Spec L2
section
variable {T:PotK}{ι:Type}{K:A7}{F:ι->Cx}{e ei:Expr}{pe pi:pE}{pos:Pos}
def Fe (i:Nat)(pi pe:pE):pE:=λenv n R=>(∃xs,env[i]?=some (some (.ow .lst xs)))/\pi env n λj je n1=>pe je n1 λy jf n2=>match jf[i]?,j with|some (some (.ow .lst xs)),.int j=>(0<=j/\j<=1000000/\xs.length<1000000)/\R .non (jf.set i (some (.ow .lst (insL xs j.toNat y)))) n2|_,_=>False
theorem Ld (i:Nat)(hv:∀z,EW (F z) (.Name x p) (tVar i))(hi:QE T K F ei pi)(he:QE T K F e pe)(hs1:D8 ei=true:=by rfl)(hs:D8 e=true:=by rfl)(hbase:∀z,AG (.Name x p) "insert" (F z).env (eval (.Name x p) (F z).env)=eval (.Name x p) (F z).env:=by intro _;rfl)(hline:(ap.endLine == pos.line)=true:=by rfl)
   (hfew:∀z,((backTo pos (E2 [ei,e] (F z).env)).all (λx=>!x.1)&&(backToKw pos (x8 [] (F z).env)).all (λx=>x.1.isSome)&&decide (([ei,e]:List Expr).length+([]:List R9).length+(if([]:List R9).isEmpty then 0 else 1)<30))=true:=by intro _;rfl)
   (hplain:∀z,(backTo pos (E2 [e] (F z).env)).any (·.1)=false:=by intro _;rfl) (hK:∀z,(F z).K=K:=by intro _;rfl):QE T K F (.Call (.Attribute (.Name x p) "insert" ap) [ei,e] [] pos) (Fe i pi pe):=by
 obtain⟨ti,i1,i2⟩:=hi;obtain⟨t,a1,a2⟩:=he;refine⟨tBM K "list" Lc (tVar i) (U6 ti (U6 t tNil)),λz=>hK z▸BP Ek PySem.F.slot_list_insert PySem.F.type_list_insert Rs (hv z).h (D4 (i1 z) (D4 (a1 z) G0 (B9 hs)) (B9 hs1)) (hbase z) (hfew z) hline (B9 hs1) (hplain z),λC G σ H env n R Q hK hT S hp k=>?_⟩;obtain⟨⟨xs0,e0⟩,hp⟩:=hp;obtain⟨a,vs,ev,h1,h2,h3,h4,r⟩:=S.slots i _ e0;refine⟨.ref a,ev,.inl ⟨rfl,vs,SqL.of h4⟩,?_⟩;refine i2 C G σ H env n _ _ hK hT S hp λj je n1 v H1 q1 S1 r1 f1=>?_;refine a2 C G σ H1 je n1 _ _ hK hT S1 q1 λy jf n2 u H2 q2 S2 r2 f2=>?_
 split at q2
 ·rename_i xs j' ex;obtain⟨a',us,ev',g1,g2,g3,g4,r'⟩:=S2.slots i _ ex;rw[ev] at ev';cases ev';subst hK;obtain⟨S3,f3⟩:=S2.put ex ev ((r'.take j'.toNat).append (xs:=xs.take j'.toNat) (ys:=y::xs.drop j'.toNat) (us:=u::us.drop j'.toNat) ⟨u,_,rfl,r2,r'.drop j'.toNat⟩);exact⟨a,us,j',u,rfl,by rw[show v=.int j' from r1],g4,q2.1.1,q2.1.2.1,by rw[<- r'.length];exact mil' (by omega),k _ _ _ _ _ q2.2 S3 rfl ((f1.trans f2).trans f3)⟩
 ·exact q2.elim
end
end Pu
end
section
namespace Pu
open PySem PySem.Spec L2
section
variable {T:PotK}{np:Bool}{ι:Type}{K:A7}{F:ι->Cx}{a b ea eb:Expr}{st:Stmt}{pos:Pos}{pa pb pi pj:pE}
theorem Hw (K:A7)(hc:X.calm=true)(h1:GW X x gx)(h2:GW X y gy)(hn:(P9 [x,y] X.env).length=2:=by rfl)(hst:(P9 [x,y] X.env).findIdx? (·.1)=none:=by rfl)
   (hs:(P9 [x,y] X.env).map (·.2)=assign x X.env::(P9 [y] X.env).map (·.2):=by rfl) (hs2:(P9 [y] X.env).map (·.2)=assign y X.env::(P9 [] X.env).map (·.2):=by rfl) (hK:X.K=K:=by rfl) :
   GW X (.Tuple [x,y] k pos) (gTup K 2 (Df gx (Df gy gNil))):=⟨hK▸Jf hc (Ge h1.h (Ge h2.h Je hs2) hs) hn hst⟩
def DB (i:Nat)(pa pb pi pj:pE):pS:=λD env n=>pa env n λx je n1=>pb je n1 λy jf n2=>(∃xs,jf[i]?=some (some (.ow .lst xs)))/\gAt i pi x jf n2 λjg n3=>gAt i pj y jg n3 D.nx
theorem Hx (i:Nat){tg:Expr}{k:Nat}{p:Pos}(h:∀z te g,EW (F z) (.Tuple [a,b] k p) te->GW (F z) tg g->SW (F z) st (tAsg te g))(hg:∀z ti tj,EW (F z) ea ti->EW (F z) eb tj->GW (F z) tg (gTup K 2 (Df (gSub (tVar i) ti Dj) (Df (gSub (tVar i) tj Dj) gNil))))(h1:QE T K F a pa)(h2:QE T K F b pb)(h3:QE T K F ea pi)(h4:QE T K F eb pj)(n1:D8 a=true:=by rfl)(n2:D8 b=true:=by rfl):QS T np K F st (DB i pa pb pi pj):=by
 obtain⟨t,a1,a2⟩:=h1;obtain⟨u,b1,b2⟩:=h2;obtain⟨ti,i1,i2⟩:=h3;obtain⟨tj,j1,j2⟩:=h4;refine⟨_,λz=>(h z _ _ ⟨Jm (D4 (a1 z) (D4 (b1 z) G0 (B9 n2)) (B9 n1))⟩ (hg z _ _ ⟨i1 z⟩ ⟨j1 z⟩)).h,λC G σ H env n PD D hK hT hn S hp L=>?_⟩;refine a2 C G σ H env n _ _ hK hT S hp λx je n1 v H1 q1 S1 r1 f1=>?_;refine b2 C G σ H1 je n1 _ _ hK hT S1 q1 λy jf n2 w H2 q2 S2 r2 f2=>?_;obtain⟨⟨xs0,e0⟩,q2⟩:=q2;refine⟨by show 2<=B8;decide,λp hn'=>⟨p,[v,w],rfl,SqT.of F9,rfl,v,[w],rfl,?_⟩⟩;have sm:Same H2 (upd H2 p (.tup [v,w])):=Same.lay1 hn';generalize upd H2 p (.tup [v,w])=H3 at sm ⊢;have S3:=S2.same sm;obtain⟨a,vs,ev,h1,h2,h3,h4,r⟩:=S3.slots i _ e0;refine⟨.ref a,ev,?_⟩;refine i2 C G σ H3 jf n2 _ _ hK hT S3 q2 λd jg n3 ud H4 q3 S4 r4 f4=>?_
 split at q3
 ·rename_i xs d ex
  split at q3
  ·rename_i jj ej;obtain⟨a',us,ev',g1,g2,g3,g4,r'⟩:=S4.slots i _ ex;rw[ev] at ev';cases ev';subst hK;obtain⟨S5,f5⟩:=S4.put ex ev (r'.set jj (((r1.fr f2).same sm).fr f4));refine⟨a,us,d,jj,rfl,r4,g4,by rw[<- r'.length];exact ej,?_⟩;refine⟨w,[],rfl,.ref a,ev,?_⟩;refine j2 C G σ _ _ n3 _ _ rfl hT S5 q3 λd2 env5 n5 ud2 H5 q5 S6 r6 f6=>?_
   split at q5
   ·rename_i xs2 d2 ex2
    split at q5
    ·rename_i jj2 ej2;obtain⟨a',us2,ev',k1,k2,k3,k4,r7⟩:=S6.slots i _ ex2;rw[ev] at ev';cases ev';obtain⟨S7,f7⟩:=S6.put ex2 ev (r7.set jj2 ((((r2.same sm).fr f4).fr f5).fr f6));exact⟨a,us2,d2,jj2,rfl,r6,k4,by rw[<- r7.length];exact ej2,rfl,L.nx _ _ _ _ _ q5 S7 (Ext.fr ((((((f1.trans f2).trans (Fr.of sm)).trans f4).trans f5).trans f6).trans f7))⟩
    ·grind
   ·grind
  ·grind
 grind
end
end Pu
end
section
namespace Pu
open PySem PySem.Spec L2
def lt (f t:Int)(k:Nat):Nat:=97+((f+(k:Int)*t)%26).toNat
def Cn:List Int:=[1,3,5,7,9,11,15,17,19,21,23,25]
theorem lt_ne (ht:t∈Cn)(f0:0<=f)(hjk:j<k)(hk:k<26):lt f t j≠lt f t k:=λh=>by
 have inv:∀t∈Cn,∃u∈Cn,t*u=26*(t*u/26)+1:=by decide
 obtain⟨u,_,hu⟩:=inv t ht;have e:(f+(j:Int)*t)%26=(f+(k:Int)*t)%26:=by unfold lt at h;omega
 have d:(26:Int) ∣ ((k:Int)-j)*t:=by
  have:=Int.dvd_of_emod_eq_zero (Int.emod_eq_emod_iff_emod_sub_eq_zero.mp e.symm);rw[show f+(k:Int)*t-(f+(j:Int)*t)=((k:Int)-j)*t by rw[Int.sub_mul];omega] at this;exact this
 have d2:(26:Int) ∣ ((k:Int)-j)*t*u:=Int.dvd_trans d (Int.dvd_mul_right _ _);rw[Int.mul_assoc,hu,Int.mul_add,Int.mul_one,<- Int.mul_assoc,Int.mul_comm _ 26,Int.mul_assoc] at d2;have d3:(26:Int) ∣ (k:Int)-j:=(Int.dvd_add_right (Int.dvd_mul_right _ _)).mp d2;omega
theorem lt_at {k:Nat}:atI LETS.cps.toList ((f+(k:Int)*t)%26)=some (lt f t k):=
 Kz (AR _ (by decide)) (BF _ (by decide))
theorem Rt (ht:t∈Cn):-(2 ^ 64)<t/\t<2 ^ 64:=by
 simp only[Cn,C8,T1,or_false] at ht;rcases ht with rfl|rfl|rfl|rfl|rfl|rfl|rfl|rfl|rfl|rfl|rfl|rfl <;> decide
theorem Hy {zs:List Str}:memP (.str z) (zs.map PV.str)=decide (z∈zs):=by
 unfold memP;rw[CV,z9,y4,decide_eq_true_iff];constructor
 ·rintro⟨y,hy,e⟩;have e':decide (y=z)=true:=by rw[<- Aw];exact e
  rw[<- jz e'];exact hy
 ·intro h;refine⟨z,h,?_⟩;show eqP (.str z) (.str z)=true;rw[Aw];exact ju rfl
theorem Bg (zs:List Str)(d:Nat):(zs.map PV.str).all (cmpb d)=true:=by
 rw[CU,J3];intro x _;cases d <;> rfl
theorem Ru {zs:List Str}(hP:zs.map PV.str=P)(h:R (.bl (decide (z∈zs)))):wIn 4 false (.str z) (.tup P) R:=by
 subst hP;exact⟨rfl,Bg zs 4,by rw[Hy];exact h⟩
theorem Hz {zs:List Str}(hP:zs.map PV.str=P)(h:R (.bl (!decide (z∈zs)))):wIn 4 true (.str z) (.tup P) R:=by
 subst hP;exact⟨rfl,Bg zs 4,by rw[Hy];exact h⟩
theorem Rv {zs:List Str}(hP:zs.map PV.str=P)(h:R (.bl (!decide (z∈zs)))):wIn 4 true (.str z) (.lst P) R:=by
 subst hP;exact⟨rfl,Bg zs 4,by rw[Hy];exact h⟩
def RowS (zs:List Str):Prop:=zs.Nodup/\∀z∈zs,w4 z
abbrev rowP (zs:List Str):PV:=.tup (zs.map PV.str)
inductive Ev where
 |d (x:Str)|t (x y:Str)
def evB:Ev->List Str
 |.d x=>[x]
 |.t x y=>[x,y]
theorem M1 {zs:List Str}(nd:zs.Nodup){i j:Nat}(h1:zs[i]?=some z)(h2:zs[j]?=some z):i=j:=by
 obtain⟨l1,e1⟩:=E6.mp h1;obtain⟨l2,e2⟩:=E6.mp h2;rcases Nat.lt_trichotomy i j with h|h|h
 ·exact absurd (e1.trans e2.symm) (Ea.mp nd i j l1 l2 h)
 ·exact h
 ·exact absurd (e2.trans e1.symm) (Ea.mp nd j i l2 l1 h)
def ixS (zs:List Str)(z:Str):Nat:=zs.findIdx λy=>decide (y=z)
theorem E1 (h:z∈zs):zs[ixS zs z]?=some z/\∀i,i<ixS zs z->zs[i]?≠some z:=by
 unfold ixS;have hl:zs.findIdx (λy=>decide (y=z))<zs.length:=List.findIdx_lt_length_of_exists ⟨z,h,by simp⟩;refine⟨?_,λi hi e=>?_⟩
 ·rw[D7 hl];have:=List.findIdx_getElem (w:=hl);rw[jz this]
 ·have:=List.not_of_lt_findIdx hi;obtain⟨l1,e1⟩:=E6.mp e;rw[e1] at this;simp at this
theorem Y0 (h:z∈zs):ixS zs z<zs.length:=(E6.mp (E1 h).1).1
theorem m_ix (hP:zs.map PV.str=P)(h:z∈zs)(hl:zs.length<=1000000)(q:R (.int (ixS zs z))):U8 (.tup P) (.str z) R:=by
 subst hP;unfold U8;dsimp only;rw[Kj];exact⟨hl,ixS zs z,(E1 h).1,(E1 h).2,q⟩
end Pu
end
section
namespace Pu
open PySem PySem.Spec L2
inductive Mk where
 |d|o|t|u
 deriving DecidableEq
def run (r:Int):Nat->List Nat->List Mk->Option (List Nat)
 |_,st,[]=>some st
 |k,st,.t::m=>run r (k+1) (k::st) m
 |k,st,.d::m=>run r (k+1) st m
 |k,[],.o::m=>run r (k+1) [] m
 |_,_::_,.o::_=>none
 |_,[],.u::_=>none
 |k,p::st,.u::m=>if(k:Int)-p-1<=r then run r (k+1) st m else none
def Cl (r:Int)(k:Nat)(m:List Mk):Prop:=∀st,run r k st m=some st
theorem Cl.d (h:Cl r (k+1) m):Cl r k (.d::m):=λst=>h st
inductive PE where
 |d (i:Nat)|t (i j:Nat)
def nm (zs:List Str)(i:Nat):Str:=zs.getD i (C7 "")
theorem F7 {zs:List Str}{i:Nat}(h:i<zs.length):zs[i]?=some (nm zs i):=by grind [nm]
theorem V7 (h:i<zs.length):nm zs i∈zs:=J9 (F7 h)
theorem Le (nd:zs.Nodup)(hi:i<zs.length)(hj:j<zs.length)(h:nm zs i=nm zs j):i=j:=M1 nd (F7 hi) (by rw[h];exact F7 hj)
structure Fair (zs:List Str)(es:List Ev):Prop where
 nd:(es.flatMap evB).Nodup
 sub:∀b∈es.flatMap evB,b∈zs
theorem HA {α β:Type}(f:α->β):∀{l:List α},l.Nodup->(∀a∈l,∀b∈l,f a=f b->a=b)->(l.map f).Nodup
 |[],_,_=>by simp
 | a :: l, h, hf => by
  obtain⟨h1,h2⟩:=P0.mp h;rw[J5,P0];refine⟨λz=>?_,HA f h2 λx hx y hy=>hf x (C9 _ hx) y (C9 _ hy)⟩;obtain⟨b,hb,e⟩:=J7.mp z;exact h1 (hf b (C9 _ hb) a C6 e▸hb)
def exch (f:List Str)(i j:Nat):List Str:=(f.set i (nm f j)).set j (nm f i)
theorem Co (hx:x∈zs)(hy:y∈zs)(h:ixS zs x=ixS zs y):x=y:=by
 have h1:=(E1 hx).1;rw[h,(E1 hy).1] at h1;exact(E9 h1).symm
theorem d7 (hi:i<f.length)(hj:j<f.length):(exch f i j).Perm f:=by
 unfold exch nm;rw[x9,x9,D7 hi,D7 hj];show((f.set i f[j]).set j f[i]).Perm f;exact List.set_set_perm hi hj
theorem V0 {α β:Type}{f:α->β}{l:List α}{i:Nat}{y:β}(h:(l.map f)[i]?=some y):∃x,l[i]?=some x/\y=f x:=by
 rw[K6] at h;cases e:l[i]? with
 |none=>rw[e] at h;cases h
 |some x=>rw[e] at h;exact⟨x,rfl,(E9 h).symm⟩
theorem O7 {α:Type}{l:List α}{i:Nat}{x:α}(h:l[i]?=some x):l.take (i+1)=l.take i++[x]:=by
 rw[List.take_add_one,h];rfl
theorem cut_hd {α:Type}(xs:List α)(b:Nat):cutP xs none (some (b:Int))=xs.take b:=by
 unfold cutP;rw[HT.sIx_none,HT.sIx_nat,List.drop_zero,Nat.sub_zero];rcases Nat.le_total b xs.length with h2|h2
 ·rw[Nat.min_eq_left h2]
 ·rw[Eh h2,T0 (B7 _),T0 h2]
theorem HB {α:Type}(xs:List α)(a:Nat):cutP xs (some (a:Int)) none=xs.drop a:=by
 unfold cutP;rw[HT.sIx_nat,HT.sIx_none];rcases Nat.le_total a xs.length with h2|h2
 ·rw[Nat.min_eq_left h2];exact T0 (by rw[U4];exact B7 _)
 ·rw[Eh h2,FO h2,FO (B7 _)];simp
theorem at2_0 {α:Type}{a b:α}:atI [a,b] 0=some a:=rfl
theorem at2_1 {α:Type}{a b:α}:atI [a,b] 1=some b:=rfl
theorem at3_0 {α:Type}{a b c:α}:atI [a,b,c] 0=some a:=rfl
theorem at3_1 {α:Type}{a b c:α}:atI [a,b,c] 1=some b:=rfl
theorem at3_2 {α:Type}{a b c:α}:atI [a,b,c] 2=some c:=rfl
end Pu
end
section
namespace Pu
open PySem PySem.Spec L2
theorem Lf {zs:List Str}(nd:zs.Nodup){i:Nat}(h:i<zs.length):ixS zs (nm zs i)=i:=M1 nd (E1 (V7 h)).1 (F7 h)
theorem Fair.tx {st:List Str}{es:List Ev}(h:Fair st es){x y:Str}(he:Ev.t x y∈es):x∈st/\y∈st:=
 ⟨h.sub x (Ee.mpr ⟨_,he,by simp[evB]⟩),h.sub y (Ee.mpr ⟨_,he,by simp[evB]⟩)⟩
end Pu
end
section
namespace L2
open PySem PySem.Spec PyProof.Rows
theorem Rw (hh:A.handled=none)(I a:A0)(hne:a≠I)(jh:Array A3) :
   Walks prog w A I [I,a] [I] jh.size (λi v=>jh[i]?=some v) (λi h=>h.IsListIter I a i/\h.IsList a jh) where
 sub:=λb hb=>by simp at hb;simp[hb]
 frame:=λ_ _ _ st hk=>⟨st.1.at λo e=>hk I (by simp) o e,let ⟨o,ho,x⟩:=st.2;⟨o,hk a (by simp) o ho,x⟩⟩
 item:=λi s Q E hi st hQ=>by
  have hx:jh[i]?=some jh[i]:=by simp[hi]
  refine wpAny_pyNext_list_item st.1 st.2 hx λh' hit' hs'=>?_;exact hQ jh[i] h' s.toks hx ⟨hit',let ⟨o,ho,x⟩:=st.2;⟨o,hs'.extBut a o hne ho,x⟩⟩ λb o hb e=>hs'.extBut b o (λh=>hb (by simp[h])) e
 done:=λs Q E st hQ=>wpAny_pyNext_list_end hh st.1 st.2 (by simp) λh' he'=>hQ h' s.toks λb o hb e=>he' b o (λh=>hb (by simp[h])) e
 self:=λ_ _ _ _ st hQ=>wpAny_pyIter_listiter st.1 hQ
theorem HC (is:List Int):∀n,n<=is.length->preSum (λj=>is.getD j 0) n=(is.take n).sum
 |0,_=>by rw[List.take_zero];rfl
 | n + 1, h => by
  show preSum (λj=>is.getD j 0) n+is.getD n 0=_;rw[HC is n (by omega),List.take_succ,x9,D7 (by omega),List.sum_append];simp
theorem Rx {is:List Int}(h:∀i∈is,0<=i/\i<=1000000):0<=is.sum/\is.sum<=1000000*is.length:=by
 induction is with
 |nil=>exact⟨by decide,by decide⟩
 | cons x is ih =>
  obtain⟨h1,h2⟩:=ih λi hi=>h i (C9 _ hi);obtain⟨x1,x2⟩:=h x C6;rw[List.sum_cons,L8];omega
section
variable {X:Cx}
theorem Ry (hc:X.calm=true):M6 X (.builtin "sum") (λxs H Q=>∃(a:A0) (is:List Int),xs=[.ref a]/\H a=some (.lst (is.map V.int))/\is.length<=1000/\(∀i∈is,0<=i/\i<=1000000)/\Q (.int is.sum) H):=by
 intro jd s σ H xs us Q I r h;obtain⟨a,is,rfl,ea,hl,hi,q⟩:=h;obtain⟨u,rfl,rx⟩:=u5 r;cases rx;obtain⟨_,jh,n,rv,e⟩:=(show J4 X.prog X.w H s.heap a (.lst (is.map V.int)) from I.hok a _ ea);have isL:s.heap.IsList a jh.toArray:=⟨_,e,rfl,_,rfl⟩;have hlen:jh.length=is.length:=by rw[<- rv.length,B1]
 refine call_sum_walk ?_;refine DV isL ?_;have lt:a<s.heap.objs.size:=C4 e;have hh:X.A.in1.handled=none:=I.ok.hd hc;refine⟨s.heap.objs.size,[s.heap.objs.size,a],[s.heap.objs.size],jh.toArray.size,(λi v=>jh.toArray[i]?=some v),(λi h=>h.IsListIter s.heap.objs.size a i/\h.IsList a jh.toArray),(λj=>is.getD j 0),rfl,Rw hh s.heap.objs.size a (F3 lt) jh.toArray,⟨⟨_,F4 _ rfl,rfl,rfl⟩,⟨_,C1 _ e,rfl,_,rfl⟩⟩,λb hb=>?_,λi v hv=>?_,λj hj=>?_,λh' tk t' hk=>?_⟩
 ·have sz:s.heap.objs.size<(s.heap.push { cls:=.type "list_iterator",data:=.fields #[.ref a,.int 0 0] }).objs.size:=by simp[Heap.push]
  rcases C8.mp hb with z|z
  ·rw[z];exact sz
  ·rw[E3.mp z];exact Nat.lt_trans lt sz
 ·have hv':jh[i]?=some v:=by simpa using hv
  have hi':=(E6.mp hv').1;have hi2:i<is.length:=by rw[<- hlen];exact hi'
  obtain⟨x,ex,rx⟩:=rv.getE hi';rw[K6,D7 hi2] at ex;have ex:V.int is[i]=x:=E9 ex;subst ex;obtain⟨t,et⟩:=rx;refine⟨t,?_⟩;rw[D7 hi'] at hv';rw[<- E9 hv',et];show BG is[i] t=BG (is.getD i 0) t;rw[x9,D7 hi2]
  rfl
 ·have hj':j<is.length:=by rw[<- hlen];simpa using hj
  have m1:is.getD j 0∈is:=by rw[x9,D7 hj'];exact i4 _
  have h1:=hi _ m1;have h2:=Rx (is:=is.take (j+1)) λi h=>hi i (Y4 h);show InLong (is.getD j 0)/\InLong (preSum (λj=>is.getD j 0) (j+1));rw[HC is (j+1) hj'];rw[Y6] at h2;refine⟨⟨?_,?_⟩,⟨?_,?_⟩⟩ <;> (have e63:(2:Int) ^ 63=9223372036854775808:=by decide) <;> rw[e63] <;> omega
 ·have es:preSum (λj=>is.getD j 0) jh.toArray.size=is.sum:=by
   rw[HC is _ (by rw[F5,hlen];exact B7 _),F5,hlen,Y7]
  rw[es];exact⟨.int is.sum,H,I.kept (t':=tk) λb o eb=>hk b o (λz=>W8 _ (by rw[E3.mp z] at eb;exact C4 eb)) (C1 _ eb),⟨_,rfl⟩,q⟩
end
end L2
namespace Pu
open PySem PySem.Spec L2
section
variable {T:PotK}{np:Bool}{ι:Type}{K:A7}{F:ι->Cx}{e a b:Expr}{st:Stmt}{pe pa pb:pE}{pos:Pos}
def Ay:List PV->Option (List Int)
 |[]=>some []
 |.int i::xs=>(Ay xs).map (i::·)
 |_=>none
theorem Rz:∀{vs:List V} {is:List Int},Reps K G H xs vs->Ay xs=some is->vs=is.map V.int:=by
 induction xs with
 |nil=>intro vs is r h;cases h;exact r
 | cons x xs ih =>
  intro vs is r h;obtain⟨v,t,rfl,rv,rt⟩:=r;cases x with
  | int i =>
   have h:(Ay xs).map (i::·)=some is:=h;cases e:Ay xs with
   |none=>rw[e] at h;cases h
   | some js =>
    rw[e] at h;cases h;rw[ih rt e,show v=.int i from rv]
    rfl
  |_=>cases h
def wSum:w1:=λx R=>match x with|.lst xs=>(match Ay xs with|some is=>is.length<=1000/\(∀i∈is,0<=i/\i<=1000000)/\R (.int is.sum)|none=>False)|_=>False
theorem qe_sum (hc:∀z,(F z).calm=true)(hg:∀z,Gl (F z) "sum")(hm:∀z,(F z).mg "sum"=none)(ha:QE T K F a pa)(hs:D8 a=true:=by rfl):QE T K F (.Call (.Name "sum" p) [a] [] pos) (qUn wSum pa):=by
 obtain⟨t,h1,h2⟩:=ha;refine⟨_,λz=>Aj (Ry (hc z)) (hg z) (hm z) bt_sum (D4 (h1 z) G0 (B9 hs)) (by decide) (by decide) (B9 hs),λC G σ H env n' R Q hK hT S hp k=>?_⟩;refine h2 C G σ H env n' _ _ hK hT S hp λx je n1 v H1 p1 S1 r1 f1=>?_;dsimp only[wSum] at p1;cases x with
 | lst xs =>
  cases ei:Ay xs with
  |none=>dsimp only at p1;rw[ei] at p1;exact p1.elim
  | some is =>
   dsimp only at p1;rw[ei] at p1;obtain⟨l1,l2,q⟩:=p1;obtain⟨a,vs,rfl,t,r⟩:=r1;have ev:=Rz r ei;exact⟨a,is,rfl,by rw[<- ev];exact t.2,l1,l2,k _ _ _ _ _ q S1 rfl f1⟩
 |_=>exact p1.elim
end
end Pu
end
section
namespace L2
open PySem PySem.Spec PyProof.Rows
def Cp (i n:Int):Obj:={ cls:=.type "range_iterator",data:=.fields #[rawInt (i+(n-i-1)*1),rawInt (n-i),rawInt (-1)] }
section
variable {prog:D3}{w:C3}{A:E8}{E:A3->A5->Prop}{s:A5}
theorem RA {r:A0}{i n:Int}{t u v:Tok}{Q:A3->A5->Prop}(h0:i<=n)(h1:n<=1000000)(hi:-1000000<=i)(hr:s.heap.get? r=some { cls:=.type "range",data:=.fields #[.int i t,.int n u,.int 1 v] })
   (h:Q (.ref s.heap.objs.size) { s with heap:=s.heap.push (Cp i n) }):A6 (A8 prog w) A (call (.builtin "range.__reversed__") [.ref r]) Q E s:=by
 have hT:s.TypeIs (.ref r) "range":=⟨_,hr,rfl⟩;refine P6 F.slot_range_reversed hT F.entry_range_reversed ?_ (F.args_range_reversed_1 _);unfold O4.«range.__reversed__»;refine A2 (U1 (a:=K8 r) rfl ?_);refine A2 ?_;unfold Builtin.Range.rangeFields;refine A2 (G7 hr rfl (x:=.int i t) rfl ?_);refine A2 (U1 (a:=some i) rfl ?_);refine A2 (G7 hr rfl (x:=.int n u) rfl ?_);refine A2 (U1 (a:=some n) rfl ?_);refine A2 (G7 hr rfl (x:=.int 1 v) rfl ?_);refine A2 (U1 (a:=some (1:Int)) rfl ?_);refine A9 ?_
 have hs:F_ i n 1=n-i:=by
  unfold F_;rw[jw (by decide),Int.ediv_one]
  split <;> omega
 dsimp only;rw[hs]
 have sm:(AT i&&AT n&&AT 1&&AT (-1)&&AT (i-1)&&AT (n-i))=true:=by
  simp only[AT,R0,decide_eq_true_eq];omega
 rw[sm];simp only[Bool.not_true,Y9,if_false,if_true];exact A2 (R8 (A9 ⟨_,rfl,h⟩))
theorem RB {r:A0}{i n:Int}{t u v:Tok}{Q:A3->A5->Prop}(h0:i<=n)(h1:n<=1000000)(hi:-1000000<=i)(hr:s.heap.get? r=some { cls:=.type "range",data:=.fields #[.int i t,.int n u,.int 1 v] })
   (h:Q (.ref s.heap.objs.size) { s with heap:=s.heap.push (Cp i n) }):A6 (A8 prog w) A (call (.type "reversed") [.ref r]) Q E s:=by
 have hT:s.TypeIs (.ref r) "range":=⟨_,hr,rfl⟩;refine callType_other (U:="range_iterator") (Q₁:=λobj s₁=>obj=.ref s.heap.objs.size/\s₁={ s with heap:=s.heap.push (Cp i n) }) (by decide +kernel) F.create_reversed ⟨_,_,F.mro_reversed⟩ F.made_reversed QY (F.typeCall_reversed_1 _) ?_ ?_
 ·refine codeAny_of_tree ?_;show A6 _ A.in1.in1 (do checkBuiltinCall "reversed.__new__" ⟨[.type "reversed",.ref r],[]⟩;again (.builtin "reversed.__new__" ⟨[.type "reversed",.ref r],[]⟩)) _ _ s;refine A2 (U1 (F.newCall_reversed_1 _) (A9 ⟨plainId_quiet F.plain_reversed_new _,CC F.entry_reversed_new ?_⟩));rw[Gb F.plain_reversed_new _];unfold O4.«reversed.__new__»;refine A2 (U1 (newClass_reversed _) ?_)
  try dsimp only
  refine A2 (U1 (a:=()) (by first|rfl|kernel_rfl) ?_);refine A2 (U1 (a:=()) (by first|rfl|kernel_rfl) ?_)
  try dsimp only
  refine A2 (wpAny_specialOf hT F.slot_range_reversed.lookup ?_)
  try dsimp only
  refine A2 (U1 (F.slot_range_reversed.bind _) ?_)
  try dsimp only
  first
  |rw[jy (show ¬((Em "range.__reversed__" == X0)=true) from Q9)]
  |(show A6 _ _ (if(Em "range.__reversed__" == X0)=true then _ else _) _ _ _;rw[jy (show ¬((Em "range.__reversed__" == X0)=true) from Q9)])
  refine A2 (V4 ?_);refine A2 (m:=runValue (.call (.builtin "range.__reversed__") ⟨[.ref r],[]⟩)) (show A6 _ _ (call (.builtin "range.__reversed__") [.ref r]) _ _ _ from RA h0 h1 hi hr ?_)
  first
  |exact A9 ⟨rfl,rfl⟩
  |exact A2 (A9 (A9 ⟨rfl,rfl⟩))
 ·rintro obj s₁ ⟨rfl,rfl⟩;exact⟨⟨_,F4 _ rfl,rfl⟩,h⟩
end
section
variable {X:Cx}{tg:Expr}
def tRng2 (ta:TA):TE:=λσ H Q=>ta σ H λvs H1=>∃i j:Int,vs=[.int i,.int j]/\∀p,H1 p=none->Q (.ref p) (upd H1 p (.rng i j))
theorem RC {a b:Expr}{ta:TA}{p pos:Pos}(hg:Gl X "range")(hm:X.mg "range"=none)(ha:PA X [a,b] ta)(hs:E2 [a,b] X.env=[(false,eval a X.env),(false,eval b X.env)])(hs2:E2 [b] X.env=[(false,eval b X.env)]):PE X (.Call (.Name "range" p) [a,b] [] pos) (tRng2 ta):=by
 intro jd s σ H Q I h;refine Call_ (U5 I hg hm boot_range (Y8 (thn (ha pos jd s σ H _ I h) λus s1 ⟨vs,H1,I1,r1,q1⟩=>?_) (by rw[hs,hs2]) (by rw[hs2];rfl)));obtain⟨i,j,e,q⟩:=q1;subst e;cases r1 with
 | cons r rr =>
  cases rr with
  | cons r' rr =>
   cases rr;obtain⟨t,rfl⟩:=r;obtain⟨t',rfl⟩:=r';refine call_range_2 ?_;exact⟨.ref s1.heap.objs.size,_,I1.laid (a:=s1.heap.objs.size) (o:=.rng i j) (λb o e=>C1 _ e) (B7 _) ⟨_,_,_,F4 _ rfl⟩,rfl,q _ (I1.hok.fresh (B7 _))⟩
def iRevS (ta:TA):TI:=λσ H R=>ta σ H λvs H1=>∃(r:A0) (i n:Int),vs=[.ref r]/\H1 r=some (.rng i n)/\i<=n/\n<=1000000/\-1000000<=i/\R (Itd (n-1) (n-i).toNat) H1
theorem RD {e:Expr}{ta:TA}{p pos:Pos}(hg:Gl X "reversed")(hm:X.mg "reversed"=none)(ha:PA X [e] ta)(hs:E2 [e] X.env=[(false,eval e X.env)]:=by rfl):PI X tg (.Call (.Name "reversed" p) [e] [] pos) (iRevS ta):=by
 intro jd s σ H R I h;refine Call_ (U5 I hg hm QX (Y8 (thn (ha pos jd s σ H _ I h) λus s1 ⟨vs,H1,I1,r1,q1⟩=>?_) hs rfl));obtain⟨r,i,n,e,hr,h0,h2,hi,q⟩:=q1;subst e;cases r1 with
 | cons rr0 rr =>
  cases rr;cases rr0;obtain⟨t,u,v,ho⟩:=(show J4 X.prog X.w H1 s1.heap r (.rng i n) from I1.hok r _ hr);refine RB h0 h2 hi ho ?_;have I2:Inv X jd σ H1 { s1 with heap:=s1.heap.push (Cp i n) }:=I1.kept (t':=s1.toks) λb o e=>C1 _ e
  have st:IsRangeIter (s1.heap.push (Cp i n)) s1.heap.objs.size (n-1+((0:Nat):Int) * -1) (((n-i).toNat:Int)-((0:Nat):Int)) (-1):=by
   have e1:n-1+((0:Nat):Int) * -1=i+(n-i-1)*1:=by omega
   have e2:((n-i).toNat:Int)-((0:Nat):Int)=n-i:=by omega
   rw[e1,e2];exact F4 _ rfl
  refine FK (s:={ s1 with heap:=s1.heap.push (Cp i n) }) st ?_;refine⟨s1.heap.objs.size,[s1.heap.objs.size],_,_,H1,rfl,I2,PZ _ (n-1) (n-i).toNat,st,λb hb=>?_,q⟩;have e:b=s1.heap.objs.size:=by simpa using hb
  subst e;exact I1.fpOk (B7 _) (I1.hok.fresh (B7 _))
end
end L2
namespace Pu
open PySem PySem.Spec L2
section
variable {T:PotK}{ι:Type}{K:A7}{F:ι->Cx}{tg a b:Expr}{pa pb:pE}{pos:Pos}
def HD (pa pb:pE):pA:=λenv n R=>pa env n λx je n1=>pb je n1 λy jf n2=>match x,y with|.int i,.int j=>(i<=j/\j<=1000000/\-1000000<=i)/\R ((D1 (j-i).toNat).map λ(k:Nat)=>PV.int (j-1-k)) jf n2|_,_=>False
theorem RE {p p2 pos2:Pos}(hg:∀z,Gl (F z) "reversed")(hm:∀z,(F z).mg "reversed"=none)(hg2:∀z,Gl (F z) "range")(hm2:∀z,(F z).mg "range"=none)(ha:QE T K F a pa)(hb:QE T K F b pb)(hs:D8 a=true:=by rfl)(hs2:D8 b=true:=by rfl):QI T K F tg (.Call (.Name "reversed" p) [.Call (.Name "range" p2) [a,b] [] pos2] [] pos) (HD pa pb):=by
 obtain⟨t,h1,h2⟩:=ha;obtain⟨u,h3,h4⟩:=hb;refine⟨_,λz=>RD (hg z) (hm z) (D4 (RC (hg2 z) (hm2 z) (D4 (h1 z) (D4 (h3 z) G0 (B9 hs2)) (B9 hs)) (by rw[B9 hs,B9 hs2];rfl) (B9 hs2)) G0 (B9 rfl)) (B9 rfl),λC G σ H env n R Q hK hT S hp k=>?_⟩;refine h2 C G σ H env n _ _ hK hT S hp λx je n1 v H1 p1 S1 r1 f1=>?_;refine h4 C G σ H1 je n1 _ _ hK hT S1 p1 λy jf n2 v2 H2 p2 S2 r2 f2=>?_;cases x with
 | int i =>
  cases y with
  | int j =>
   refine⟨i,j,by rw[show v=.int i from r1,show v2=.int j from r2],λp hn=>⟨p,i,j,rfl,F9,p2.1.1,p2.1.2.1,p2.1.2.2,?_⟩⟩;exact k _ _ _ _ _ p2.2 (S2.same (Same.lay1 hn)) ((f1.trans f2).trans (Fr.of (Same.lay1 hn))) (P_ (j-1) _)
  |_=>exact p2.elim
 |_=>exact p2.elim
end
end Pu
end
section
namespace L2
open PySem PySem.Spec PyProof.Rows
variable {X:Cx}
theorem RF:OpR X (L6 .IsNot) (λx y H Q=>∃a b,x=.bl a/\y=.bl b/\Q (.bl (!(a == b))) H):=by
 intro jd s σ H x y v u Q I rx ry h;obtain⟨a,b,rfl,rfl,q⟩:=h;cases rx;cases ry;exact wpAny_isNot_plain rfl (Gk I q (by cases a <;> cases b <;> rfl))
end L2
namespace Pu
open PySem PySem.Spec L2
variable {T:PotK}{ι:Type}{K:A7}{F:ι->Cx}
def DC:w2:=λx y R=>match x,y with|.bl a,.bl b=>R (.bl (!(a == b)))|_,_=>False
theorem cNotB:Cmp K F .IsNot DC:=⟨_,λ_=>RF,by
 intro G H x y v u R Q hf rx ry hw k;unfold DC at hw
 split at hw
 ·exact⟨_,_,rx.bl,ry.bl,k _ _ _ hw (Same.refl _) rfl⟩
 ·exact hw.elim⟩
end Pu
end
section
namespace L2
open PySem PySem.Spec PyProof.Rows
theorem HE:∀(names:List (Str×NameKind)) (n:Nat) (a b:List (Str×A0)),Q6 n names (a++b)=Q6 n names a++b
 |[],_,_,_=>rfl
 | (x, k) :: r, n, a, b => by
  unfold Q6
  split
  ·exact HE r (n+1) ((x,n)::a) b
  ·exact HE r n a b
section
variable {M:Model}{A:E8}{E:A3->A5->Prop}{s:A5}
theorem RG {scope:F8}{globals:A0}{cl:List (Str×A0)}{qual:Str}{outer:Env}{Q:Env->A5->Prop}
   (hQ:Q (newEnv scope s.heap.objs.size globals (Q6 (s.heap.objs.size+1) scope.names cl) qual none .none (some outer) builtinsNs) { s with heap:=pushCells (s.heap.push { cls:=.type "dict",data:=.dict #[] }) scope.names }) :
   A6 M A (newFunctionEnv scope globals cl [] qual none .none (some outer)) Q E s:=by
 simp only[newFunctionEnv,Option.isSome_some,if_true];refine A2 (wpAny_alloc ?_);refine A2 (wpAny_layCells _ (λname kind cells=>by cases hkc:kind == NameKind.cell <;> simp[hkc]) _ _ _ _ ?_)
 rw[show({ s with heap:=s.heap.push { cls:=.type "dict",data:=.dict #[] } }:A5).heap.objs.size=s.heap.objs.size+1 from T3 ..];rw[y8];exact A2 (A9 (A9 hQ))
end
def ownC (scope:F8)(C:A0):List (Str×A0):=Q6 (C+1) scope.names []
def d8 (X:Cx)(scope:F8)(cl:List (Str×A0))(N:List Str)(fp:List A0)(C:A0)(s:A5)(H:Hp):Cx:=
 { E4 X scope (Q6 (C+1) scope.names cl) N fp C s H with fn:=λx=>((ownC scope C).lookup x).isSome }
structure Ff (X:Cx)(scope:F8)(cl:List (Str×A0))(N:List Str)(cs:List (Option Nat)):Prop where
 clos:closureFor scope X.env=pure cl
 kind:scope.kind=.function
 names:∀y∈scope.names,y.2=.local->scope.names.lookup y.1=some .local
 sub:∀x c,cl.lookup x=some c->X.env.cells.lookup x=some c
 has:∀(C:A0) x,((U3 scope X.env).names.lookup x=some .cell\/(U3 scope X.env).names.lookup x=some .free)->∃c,(Q6 (C+1) scope.names cl).lookup x=some c
 len:cs.length=N.length
 cap:∀(k j:Nat) (x:Str),cs[k]?=some (some j)->N[k]?=some x->X.N[j]?=some x/\Vis X.env.scope x/\X.env.kindOf x≠some .local/\(∃c,cl.lookup x=some c)/\((U3 scope X.env).names.lookup x=some .cell\/(U3 scope X.env).names.lookup x=some .free)/\∀C,(ownC scope C).lookup x=none
theorem RH {X:Cx}{scope:F8}{cl:List (Str×A0)}{N:List Str}{cs:List (Option Nat)}(clos:closureFor scope X.env=pure cl)(kind:scope.kind=.function)
   (names:(scope.names.all λy=>!(y.2 == .local)||scope.names.lookup y.1 == some .local)=true) (sub:BQ cl X.env.cells)
   (has:∀C:A0,((U3 scope X.env).names.all λy=>!(y.2 == .cell||y.2 == .free)||((Q6 (C+1) scope.names cl).lookup y.1).isSome)=true) (len:cs.length=N.length)
   (cap:∀C:A0,((cs.zip N).all λy=>match y.1 with|none=>true|some j=>X.N[j]? == some y.2&&(X.env.scope.names.lookup y.2 == some .cell||X.env.scope.names.lookup y.2 == some .free)&&(cl.lookup y.2).isSome &&
     ((U3 scope X.env).names.lookup y.2 == some .cell||(U3 scope X.env).names.lookup y.2 == some .free)&&((ownC scope C).lookup y.2).isNone)=true):Ff X scope cl N cs:=by
 refine⟨clos,kind,λy hy e=>?_,sub.get,λC x hx=>?_,len,λk j x hk hN=>?_⟩
 ·have:=J3.mp names y hy;rw[e] at this
  simpa using this
 ·rcases hx with hx|hx
  ·have:=J3.mp (has C) _ (V9 hx);exact Ae.mp (by simpa using this)
  ·have:=J3.mp (has C) _ (V9 hx);exact Ae.mp (by simpa using this)
 ·have hz:(cs.zip N)[k]?=some (some j,x):=by rw[D_];exact⟨hk,hN⟩
  have all:=λC=>by
   have:=J3.mp (cap C) _ (J9 hz);simp only[R0,Bool.or_eq_true,beq_iff_eq] at this;exact this
  obtain⟨⟨⟨⟨h1,h2⟩,h3⟩,h4⟩,_⟩:=all 0;refine⟨h1,?_,?_,Ae.mp h3,h4,λC=>Option.isNone_iff_eq_none.mp (all C).2⟩
  ·rcases h2 with h2|h2
   ·exact .inr (.inl h2)
   ·exact .inr (.inr h2)
  ·intro z;have z':X.env.scope.names.lookup x=some .local:=z;rw[z'] at h2;rcases h2 with h2|h2 <;> cases h2
theorem lkA {scope:F8}{cl:List (Str×A0)}{C:A0}{x:Str}:(Q6 (C+1) scope.names cl).lookup x=((ownC scope C).lookup x).or (cl.lookup x):=by
 have:=HE scope.names (C+1) [] cl;rw[List.nil_append] at this;rw[this,List.lookup_append];rfl
theorem lkK {scope:F8}{cl:List (Str×A0)}{C c:A0}{x:Str}(h:(Q6 (C+1) scope.names cl).lookup x=some c):(ownC scope C).lookup x=some c\/cl.lookup x=some c:=by
 rw[lkA] at h;cases e:(ownC scope C).lookup x with
 |some d=>rw[e] at h;exact .inl h
 |none=>rw[e] at h;exact .inr h
theorem RI {X:Cx}{scope:F8}{cl:List (Str×A0)}{N:List Str}{cs:List (Option Nat)}(S:Ff X scope cl N cs){jd:List (A0×Obj)}{σ:St}{H:Hp}{s:A5}{fp:List A0}{h₁:B5}{tk:Nat}
   (I:Inv X jd σ H s) (f2:∀b∈fp,FpOk X jd H b) (ho:∀b∈fp,∃o,s.heap.get? b=some o)
   (old:∀b o,s.heap.get? b=some o->h₁.get? b=some o) (hns:h₁.Ns (s.heap.objs.size+1) (λx=>([]:List (Str×A3)).reverse.lookup x))
   (hD:h₁.get? s.heap.objs.size=some { cls:=.type "list",data:=.seq ([]:List A3).toArray }) (okC:CellsOk h₁ (s.heap.objs.size+1+1) (ownC scope (s.heap.objs.size+1))) :
   Inv (d8 X scope cl N fp (s.heap.objs.size+1) s H) jd (k9 cs σ) (upd H s.heap.objs.size (.lst [])) { s with heap:=h₁,toks:=tk }:=by
 have lt:∀b o,s.heap.get? b=some o->b<s.heap.objs.size:=λb o e=>C4 e;have neC:∀b o,s.heap.get? b=some o->b≠s.heap.objs.size+1:=λb o e=>F3 (y9 (lt b o e));have neD:∀b o,s.heap.get? b=some o->b≠s.heap.objs.size:=λb o e=>F3 (lt b o e);have nstk:∀b,b≠X.env.locals->b∉X.fs->b∉frs X.stack:=λb h1 h2 hb=>(C8.mp (I.stkSub b hb)).elim h1 h2
 have cellO:∀x c,cl.lookup x=some c->∃v o,s.heap.get? c=some o/\s.heap.IsCell c v:=λx c e=>by
  obtain⟨v,q⟩:=I.cell x c (S.sub x c e);obtain⟨o,h1,_⟩:=id q;exact⟨v,o,h1,q⟩
 have ownO:∀x c,(ownC scope (s.heap.objs.size+1)).lookup x=some c->h₁.IsCell c none/\s.heap.objs.size+1+1<=c:=λx c e=>okC.empty x c (V9 e);have cls:∀x c,(d8 X scope cl N fp (s.heap.objs.size+1) s H).env.cells.lookup x=some c->(ownC scope (s.heap.objs.size+1)).lookup x=some c\/cl.lookup x=some c:=λx c e=>lkK e
 have clt:∀x c,cl.lookup x=some c->c<s.heap.objs.size:=λx c e=>by
  obtain⟨v,o,h1,_⟩:=cellO x c e;exact lt c o h1
 have apt:∀{x y:Str} {c:A0},(ownC scope (s.heap.objs.size+1)).lookup x=some c->cl.lookup y=some c->False:=λ{x y c} h1 h2=>
  absurd (L0 (clt y c h2) (G8 (G8 (P2 _) (P2 _)) (ownO x c h1).2)) (W8 _)
 refine⟨⟨I.ok.mod,S.kind,I.ok.glob,I.ok.blt,P2 _,λx y c h1 h2=>?_,λx hx=>S.has _ x hx,λx c hf hx=>?_,I.ok.hd,I.ok.frames,.inl rfl,λb hb=>?_,I.bs,G8 I.ok.bsz I.sz,λb o e hb=>?_,λb hb=>?_,I.stack,I.stkFree,I.nos⟩,
  rfl,I.bare,Un.laid old (B7 _) I.fresh I.bigS,⟨_,hns,λi x v e1 e2 e3=>?_⟩,λx c e=>?_,?_,λx c e=>?_,λp hp=>?_,I.hok.laid old (B7 _) ⟨M5 _,[],0,.nil,hD⟩,?_⟩
 ·rcases cls x c h1 with h1|h1 <;> rcases cls y c h2 with h2|h2
  ·exact name_of_addr okC.apart (V9 h1) (V9 h2)
  ·exact(apt h1 h2).elim
  ·exact(apt h2 h1).elim
  ·exact I.ok.inj x y c (S.sub x c h1) (S.sub y c h2)
 ·obtain⟨d,hd⟩:=Ae.mp hf;rcases cls x c hx with h1|h1
  ·exact G8 (G8 (P2 _) (P2 _)) (ownO x c h1).2
  ·have e:(Q6 (s.heap.objs.size+1+1) scope.names cl).lookup x=some c:=hx;rw[lkA,hd] at e;cases e;exact G8 (G8 (P2 _) (P2 _)) (ownO x c hd).2
 ·obtain⟨o,e⟩:=ho b hb;refine⟨neC b o e,λx c ec z=>?_⟩;rcases cls x c ec with h1|h1
  ·exact absurd (L0 (lt b o e) (G8 (G8 (P2 _) (P2 _)) (z▸(ownO x c h1).2))) (W8 _)
  ·exact(f2 b hb).2.2.2.2.1 x c (S.sub x c h1) z
 ·rcases(f2 b hb).2.2.2.1 with z|z
  ·exact I.ok.noex b o e z
  ·exact absurd (L0 (C4 e) (G8 I.ok.bsz z)) (W8 _)
 ·exact nstk b (f2 b hb).2.1 (f2 b hb).2.2.1
 ·have e2':(cs.map λo=>o.bind λj=>(σ[j]?).bind id)[i]?=some (some v):=e2;rw[K6] at e2';cases ec:cs[i]? with
  |none=>rw[ec] at e2';cases e2'
  | some o =>
   rw[ec] at e2';cases o with
   |none=>cases e2'
   | some j =>
    have e2'':(σ[j]?).bind id=some v:=by simpa using e2'
    cases es:σ[j]? with
    |none=>rw[es] at e2'';cases e2''
    | some ov =>
     rw[es] at e2'';have e4:ov=some v:=by simpa using e2''
     subst e4;obtain⟨hN,hv,hnl,⟨c,hc⟩,hk,hno⟩:=S.cap i j x ec e1;obtain⟨m,hn,hl⟩:=I.loc;obtain⟨u,r,l⟩:=hl j x v hN es hv;refine⟨u,r,?_⟩;rcases l with⟨hk',_⟩|⟨_,c',hc',z⟩
     ·exact absurd hk' hnl
     ·have ecc:c'=c:=by
       have:=S.sub x c hc;rw[hc'] at this;exact E9 this
      subst ecc;obtain⟨o,h1,h2⟩:=z;exact .inr ⟨hk,c',(by show(Q6 (s.heap.objs.size+1+1) scope.names cl).lookup x=some c';rw[lkA,hno];exact hc),⟨o,old _ o h1,h2⟩⟩
 ·rcases cls x c e with e|e
  ·exact⟨none,(ownO x c e).1⟩
  ·obtain⟨v,o,h1,o',h2,h3⟩:=cellO x c e;exact⟨v,o',old _ o' h2,h3⟩
 ·show upd H s.heap.objs.size (.lst []) (s.heap.objs.size+1)=none;rw[C0 (Eg _)];exact I.hok.fresh (P2 _)
 ·rcases cls x c e with e|e
  ·have ge:=G8 (P2 _) (ownO x c e).2;rw[C0 (i7 ge)];exact I.hok.fresh (BA ge)
  ·obtain⟨v,o,h1,_⟩:=cellO x c e;rw[C0 (neD c o h1)];exact I.freeC x c (S.sub x c e)
 ·obtain⟨e,n,ne,nf,d⟩:=I.pin p hp;exact⟨old _ _ e,by rw[C0 (neD _ _ e)];exact n,neC _ _ e,nstk _ ne nf,d⟩
 ·show(cs.map _).length=N.length;rw[B1];exact S.len
theorem Inv.uncompK {X:Cx}{scope:F8}{cl:List (Str×A0)}{N:List Str}{jd:List (A0×Obj)}{σ σ':St}{H H':Hp}{s s':A5}{fp:List A0}{h':B5}
   (I:Inv X jd σ H s) (f2:∀b∈fp,FpOk X jd H b)
   (J:Inv (d8 X scope cl N fp (s.heap.objs.size+1) s H) jd σ' H' s') (hs:∀b,b≠s.heap.objs.size+1->h'.get? b=s'.heap.get? b) :
   Inv X jd σ H' { s' with heap:=h' }:=by
 obtain⟨hh,g,d,t,os'⟩:=s';obtain rfl:os'=s.os:=J.os;have U:Un (frs X.stack) fp H H' s.heap hh:=J.base;have old:∀b o,s.heap.get? b=some o->b≠s.heap.objs.size+1:=λb o e=>F3 (y9 (C4 e));have hs':∀b,b≠s.heap.objs.size+1->h'.get? b=hh.get? b:=hs
 have trC:∀b u,H' b=some u->b≠s.heap.objs.size+1:=λb u e z=>by
  have q:H' (s.heap.objs.size+1)=none:=J.free;rw[z,q] at e;cases e
 show Inv X jd σ H' { s with heap:=h',gens:=g,drawn:=d,toks:=t };refine I.call (h':=h') (g':=g) (d':=d) (t':=t) (ch:=fp) ⟨λb o e n hb hx=>?_,λb o e n hb hx=>?_,U.free,λb o e hx=>?_,U.tups,U.frzs,U.tbls,U.sys⟩ (λb u e=>?_) J.bare λb hb=>?_
 ·rw[hs' b (old b o e)];exact U.keep b o e n hb hx
 ·rw[hs' b (old b o e)];exact U.slot b o e n hb hx
 ·rw[hs' b (old b o e)];exact U.there b o e hx
 ·refine(J.hok b u e).stay (λc v hc q=>?_) (λ_ q=>q) λ_ _ q=>q
  have ne:c≠s.heap.objs.size+1:=by
   rcases hc with z|z
   ·rw[z];exact trC b u e
   ·exact trC c _ z
  rw[hs' c ne];exact q
 ·exact⟨(f2 b hb).2.2.2.1,(f2 b hb).2.1,(f2 b hb).2.2.2.2.1,(f2 b hb).2.2.2.2.2⟩
theorem RJ {X:Cx}{scope:F8}{cl:List (Str×A0)}{N:List Str}{cs:List (Option Nat)}{jm tg iter:Expr}{jn:List Expr}{pos:Pos}{wi:TI}{g:TG}{tt:TT}{te:TE}(S:Ff X scope cl N cs)(hc:X.calm=true)(hi:PI X tg iter wi)
   (hb:∀(fp:List A0) (C:A0) (s:A5) (H:Hp),PG (d8 X scope cl N fp C s H) tg g/\PIf (d8 X scope cl N fp C s H) jn tt/\PE (d8 X scope cl N fp C s H) jm te)
   (hs:∀x,N6 iter X.env x=pure x:=by intro _;rfl) :
   PE X (.ListComp jm [⟨tg,iter,jn,0⟩] scope pos) (Gx cs wi g tt te):=by
 intro jd s σ H Q I h;rw[eval_ListComp];refine wpAny_comprehension_free (use:=none) rfl hs S.clos S.kind S.names (thn (hi jd s σ H _ I h) λv s1 h1=>thn h1 λitv s2 h2=>?_);obtain⟨it,fp,tn,J,H2,rfl,I2,T,st2,f2,q⟩:=h2
 have ho:∀b∈fp,∃o,s2.heap.get? b=some o:=λb hb=>by
  obtain⟨o,e,_⟩:=T.obj 0 _ st2 b hb;exact⟨o,e⟩
 refine R8 (RG ?_);dsimp only;have hC:(s2.heap.push { cls:=.type "list",dict:=none,data:=.seq ([]:List A3).toArray }).objs.size=s2.heap.objs.size+1:=by rw[T3]
 generalize hH2:s2.heap.push { cls:=.type "list",dict:=none,data:=.seq ([]:List A3).toArray }=hp2 at hC ⊢;have okC:=cellsFrom_ok scope.names (hp2.push { cls:=.type "dict",data:=.dict #[] }) (s2.heap.objs.size+1+1) [] ⟨λ_ _ hm=>(nomatch hm),List.Pairwise.nil⟩ (by rw[T3,hC];exact B7 _);rw[T3,hC] at okC;have hns₁:=(Heap.Ns.new hp2 (.type "dict")).keeps (pushCells_keeps scope.names _);have old:∀b o,s2.heap.get? b=some o->(pushCells (hp2.push { cls:=.type "dict",data:=.dict #[] }) scope.names).get? b=some o:=λb o e=>pushCells_keeps _ _ b o (C1 _ (hH2▸C1 _ e));have hD:(pushCells (hp2.push { cls:=.type "dict",data:=.dict #[] }) scope.names).get? s2.heap.objs.size=some { cls:=.type "list",data:=.seq ([]:List A3).toArray }:=pushCells_keeps _ _ _ _ (C1 _ (hH2▸F4 _ rfl));generalize pushCells (hp2.push { cls:=.type "dict",data:=.dict #[] }) scope.names=h₁ at *;rw[hC] at hns₁ ⊢;obtain⟨W,⟨m0,w0⟩,turn⟩:=q s2.heap.objs.size I2.fresh;have Ic:=RI S (tk:=s2.toks) I2 f2 ho old hns₁ hD okC;have nstk:∀b,b≠X.env.locals->b∉X.fs->b∉frs X.stack:=λb h1 h2 hb=>(C8.mp (I2.stkSub b hb)).elim h1 h2
 have stat:∀{H':Hp},(∀b∈fp,H' b=none)->∀b∈fp,FpOk (d8 X scope cl N fp (s2.heap.objs.size+1) s2 H2) jd H' b:=λhn b hb=>by
  obtain⟨o,e⟩:=ho b hb;exact⟨hn b hb,F3 (y9 (C4 e)),nstk b (f2 b hb).2.1 (f2 b hb).2.2.1,.inl hb,λx c ec=>(Ic.ok.exf b hb).2 x c ec,(f2 b hb).2.2.2.2.2⟩
 obtain⟨hg,hf,he⟩:=hb fp (s2.heap.objs.size+1) s2 H2;have st1:tn 0 h₁:=T.keep _ _ _ st2 λb hb o e=>old b o e
 have fr1:∀b∈fp,upd H2 s2.heap.objs.size (.lst []) b=none:=λb hb=>by
  obtain⟨o,e⟩:=ho b hb;rw[C0 (F3 (C4 e))];exact(f2 b hb).1
 have loop:∀s₃:A5,s₃={ s2 with heap:=h₁ }->
     Q7 (A8 X.prog X.w) X.A (.compLoop (.ListComp jm [⟨tg,iter,jn,0⟩] scope pos) 0 (.ref it) (.ref s2.heap.objs.size) (compEnvC scope (Q6 (s2.heap.objs.size+1+1) scope.names cl) (s2.heap.objs.size+1) X.env))
       (compPost (A8 X.prog X.w) X.A X.xe none (EP X jd σ Q) (.ref s2.heap.objs.size) (s2.heap.objs.size+1)) s₃:=by
   rintro s₃ rfl;refine Gw _ (Ew (Y:=d8 X scope cl N fp (s2.heap.objs.size+1) s2 H2) T hc stat hg hf he (λs4 σ3 H3 I4 qn=>?_) turn) m0 ⟨0,_,_,Ic,st1,fr1,w0⟩;obtain⟨m4,hn4,_⟩:=I4.loc;exact⟨m4,hn4,λh' hs'=>⟨.ref s2.heap.objs.size,H3,Inv.uncompK I2 f2 I4 λb hb=>hs'.2 b hb,rfl,qn⟩⟩
 exact codeAny_compStart_list (loop _ rfl) (T.self _ 0 _ _ _ st1 (loop _ rfl))
end L2
namespace Pu
open PySem PySem.Spec L2
section
variable {T:PotK}{ι:Type}{K:A7}{F:ι->Cx}{e a b c:Expr}{es rest:List Expr}{pe pa pb pc:pE}{pos:Pos}{pl pr:pA}{pg:pG}{pgs:pGs}{pt:pT}
theorem RK {scope:F8}{cl:ι->List (Str×A0)}{N:List Str}{cs:List (Option Nat)}{jm tg iter:Expr}{jn:List Expr}{pi:pA}{ptt:pT}{pte:pE}(S:∀z,Ff (F z) scope (cl z) N cs)(hc:∀z,(F z).calm=true)(hi:QI T K F tg iter pi)
   (hg:QG K (λy:ι×List A0×A0×A5×Hp=>d8 (F y.1) scope (cl y.1) N y.2.1 y.2.2.1 y.2.2.2.1 y.2.2.2.2) tg pg) (ht:QIf T K (λy:ι×List A0×A0×A5×Hp=>d8 (F y.1) scope (cl y.1) N y.2.1 y.2.2.1 y.2.2.2.1 y.2.2.2.2) jn ptt)
   (he:QE T K (λy:ι×List A0×A0×A5×Hp=>d8 (F y.1) scope (cl y.1) N y.2.1 y.2.2.1 y.2.2.2.1 y.2.2.2.2) jm pte)
   (hs:∀z x,N6 iter (F z).env x=pure x:=by intro _ _;rfl):QN T K F (.ListComp jm [⟨tg,iter,jn,0⟩] scope pos) (O2 cs pi pg ptt pte):=by
 obtain⟨wi,i1,i2⟩:=hi;obtain⟨g,hg0,hg⟩:=hg;obtain⟨tt,ht0,ht⟩:=ht;obtain⟨te,he0,he⟩:=he;refine⟨_,λz=>RJ (S z) (hc z) (i1 z) (λfp C s H=>⟨hg0 (z,fp,C,s,H),ht0 (z,fp,C,s,H),he0 (z,fp,C,s,H)⟩) (hs z),λC G σ H env n R Q hK hT S hp k=>?_⟩;refine i2 C G σ H env n _ _ hK hT S hp λxs je n1 J H1 p1 S1 f1 hJ=>?_;intro D hD;have hDM:=S1.fresh hD;refine GQ (G:=G) hg ht he hJ p1.1 hD (hT▸hK▸Dr S1 cs) p1.2 λys n2 us H' rr hpots hk eD ry=>?_
 -- the heap without D
 have nD:∀b o,H1 b=some o->b≠D:=λb o e z=>by rw[z,hD] at e;cases e
 have hD0:C.H0 D=none:=by
  cases z:C.H0 D with
  |none=>rfl
  | some o =>
   by_cases hp:D∈C.pots0
   ·exact absurd (S1.sup D (S1.p0.1 D hp)) hDM
   ·have:=S1.frame D o hp z;rw[hD] at this;cases this
 have hk2:∀b o,b∉G.pots->H1 b=some o->cutH H' D b=some o:=λb o hb e=>by rw[N4 (nD b o e)];exact hk b o hb e
 have nc:∀b,b∉D::G.M->b≠D:=λb hb z=>hb (by rw[z];exact C6);have np:∀p∈G.pots,p≠D:=λp hp z=>hDM (z▸(S1.pots p hp).1)
 have Sb:SR C G σ (cutH H' D) je n2:=S1.call hk2 λp hp=>by
  subst hT;have h2:=C.T.keep (hpots p hp) (H':=cutH H' D) (N4 (np p hp)) λb o hb e=>by rw[N4 (nc b hb)];exact e
  exact C.T.more h2 λa ha=>.inl (C9 _ ha)
 have:=k ys je n2 D us (cutH H' D) rr Sb (f1.trans λb o hb e=>hk2 b o (λz=>hb (S1.pots b z).1) e) (by unfold cutH;rw[jw rfl]) ?_
 ·rw[Ds eD] at this;exact this
 ·exact Reps.mono (G:=⟨D::G.M,G.pots⟩) (λb o hb e=>by rw[N4 (nc b hb)];exact e) (λa ha=>.inl (C9 _ ha)) (λ_ _ e=>e) _ _ ry
end
end Pu
end
section
namespace L2
open PySem PySem.Spec PyProof.Rows
def HF:R2:=λy x H Q=>∃a o,x=.ref a/\DGet H a y o/\Q (.bl (!o.isSome)) H
theorem HG {X:Cx}(hu:X.A.units+1<cLine):OpR X (L6 .NotIn) HF:=by
 intro jd s σ H x y v u Q I rx ry h;obtain⟨a,o,rfl,g,q⟩:=h;cases ry;exact Qw hu I g rx λs3 I3=>⟨.bl (!o.isSome),H,I3,rfl,q⟩
end L2
namespace Pu
open PySem PySem.Spec L2
section
variable {T:PotK}{np:Bool}{ι:Type}{K:A7}{F:ι->Cx}{a b:Expr}{st:Stmt}{pa pb:pE}{pos:Pos}
def w6 (i:Nat)(pa:pE):pE:=λenv n R=>pa env n λx je n1=>match je[i]?,keyV x with
 |some (some (.ow (.dk ks) xs)),some k=>ks.length=xs.length/\R (.bl (!memK ks k)) je n1
 |_,_=>False
theorem Lg {t:TE}(i:Nat)(h2:EOk K T t pa):EOk K T (tOp HF t (tVar i)) (w6 i pa):=λC G σ H env n R Q hK hT S hp k=>by
 refine h2 C G σ H env n _ _ hK hT S hp λx je n1 v H1 q1 S1 r1 f1=>?_
 split at q1
 ·rename_i ks xs kk ex ek;obtain⟨a,vs,ev,g1,g2,g3,g4,r'⟩:=S1.slots i _ ex;obtain⟨hl,q1⟩:=q1
  have e:(valV (ks.zip vs) kk).isSome=memK ks kk:=by
   rw[Rc,CQ (by rw[hl,r'.length];exact B7 _)]
  refine⟨.ref a,ev,a,valV (ks.zip vs) kk,rfl,Fc r1 ek▸DGet.k g4,?_⟩;rw[e];exact k _ _ _ _ _ q1 S1 rfl f1
 ·exact q1.elim
theorem RL (i:Nat){x:Str}{p:Pos}{k:Nat}(hr:∀z,Room k (F z).A)(hv:∀z,EW (F z) (.Name x p) (tVar i))(ha:QE T K F a pa):QE T K F (.Compare a [.NotIn] [.Name x p] pos) (w6 i pa):=by
 obtain⟨t,h1,h2⟩:=ha;exact⟨_,λz=>Gm (HG (k8 (hr z))) (h1 z) (hv z).h rfl,Lg i h2⟩
theorem RM (i:Nat){x:Str}{p:Pos}{k:Nat}(hr:∀z,Room k (F z).A)(hv:∀z,EW (F z) (.Name x p) (tVar i))(ha:QE T K F a pa):QT T K F (.Compare a [.NotIn] [.Name x p] pos) (qB (w6 i pa)):=by
 obtain⟨t,h1,h2⟩:=ha;exact⟨_,λz=>AY (HG (k8 (hr z))) (h1 z) (hv z).h rfl,BV (Lg i h2)⟩
def HH (i j:Nat)(m:Int):pS:=λD env n=>D.nx ((env.set i (some (.ow (.dk []) []))).set j (some (.v (.int m)))) n
theorem RN (i j:Nat){m:Int}{q:Nat}{p2:Pos}(h:∀z ta,AW (F z) [.Dict [] [] pos,.Constant (.int m) q p2] ta->SW (F z) st (tPar i j ta)):QS T np K F st (HH i j m):=by
 refine⟨_,λz=>(h z _ ⟨D4 Pm (D4 F6 G0 (B9 rfl)) (B9 rfl)⟩).h,λC G σ H env n PD D hK hT hn S hp L=>?_⟩;intro p hn1;refine⟨.ref p,.int m,rfl,?_⟩;exact L.nx _ _ _ _ _ hp ((S.ow i (.dk []) (xs:=[]) (vs:=[]) hn1 rfl).set j rfl) (l9 hn1)
end
end Pu
end
section
namespace L2
open PySem PySem.Spec PyProof.Rows
section
variable {prog:D3}{w:C3}{A:E8}{E:A3->A5->Prop}{s:A5}
abbrev ZipK (h:B5)(z TI TO a:A0)(f:Bool):Prop:=h.get? z=some { cls:=.type "zip",data:=.fields #[rawInt a,.bool f,.bool false,.ref TI,.ref TO] }
theorem aliveK {a:A0}{Q:Option Obj->A5->Prop}(h:Q (s.heap.get? a) s):A6 (A8 prog w) A (loadIfAlive a) Q E s:=λ_ _ _=>h
theorem Lh {z TI TO a:A0}{f:Bool}{oa:Obj}{Q:Bool->A5->Prop}(hz:ZipK s.heap z TI TO a f)(ha:s.heap.get? a=some oa)
   (hQ:∀h',ZipK h' z TI TO a true->AO z s.heap h'->Q false { s with heap:=h' }):A6 (A8 prog w) A (W9 (.ref z)) Q E s:=by
 unfold W9;refine A2 (G7 hz rfl (x:=rawInt a) rfl ?_);show A6 _ _ (loadIfAlive ((a:Int).toNat)>>=_) _ _ _;refine A2 ?_;rw[R1];refine aliveK ?_;rw[ha];simp only[Option.isNone_some,Y9,if_false];refine A2 (G7 hz rfl (x:=.bool f) rfl ?_);cases f with
 |true=>exact A9 (hQ s.heap hz (Heap.SameBut.refl _ _))
 | false =>
  show A6 _ _ (setField (.ref z) 1 (.bool true)>>=_) _ _ _;exact A2 (W0 hz (by simp) λh' z' sb=>A9 (hQ h' z' sb))
theorem RO {b1 b2 f:Bool}{z TI TO i1 i2 l1 l2 p:A0}{op:Obj}{k:Nat}{xs ys:Array A3}{x y:A3}{Q:A3->A5->Prop}(D:ZAp z TI TO i1 i2)(m1:l1≠z)(m2:l2≠z)(m5:l1≠i1)(m6:l2≠i1)
   (hz:ZipK s.heap z TI TO p f) (hp:s.heap.get? p=some op) (hTI:IsPair s.heap TI (.ref i1) (.ref i2)) (h1:ItB b1 s.heap i1 l1 k) (h2:ItB b2 s.heap i2 l2 k) (hl1:SeB b1 s.heap l1 xs) (hl2:SeB b2 s.heap l2 ys) (hx:xs[k]?=some x) (hy:ys[k]?=some y)
   (hQ:∀h',ZipK h' z TI TO p true->ItB b1 h' i1 l1 (k+1)->ItB b2 h' i2 l2 (k+1)->IsPair h' s.heap.objs.size x y->
     (∀c o,c≠z->c≠i1->c≠i2->s.heap.get? c=some o->h'.get? c=some o)->Q (.ref s.heap.objs.size) { s with heap:=h' }) :
   A6 (A8 prog w) A (O4.«zip.__next__» ⟨[.ref z],[]⟩) (λfin s'=>∃v,fin=.done (.ret v)/\Q v s') E s:=by
 show A6 _ _ (field (.ref z) 2>>=_) _ _ _;refine A2 (G7 hz rfl (x:=.bool false) rfl ?_);show A6 _ _ (field (.ref z) 3>>=_) _ _ _;refine A2 (G7 hz rfl (x:=.ref TI) rfl (A2 (P7 hTI rfl ?_)));show A6 _ _ (W9 (.ref z)>>=_) _ _ _;refine A2 (Lh hz hp λg1 z1 s1=>?_);simp only[Y9,if_false];refine A2 ?_;rw[<- Array.forIn_toList];simp only[AM,y8];refine A2 (A2 (P8 ?_));show A6 _ _ (Q1 (.ref i1)>>=_) _ _ _;refine A2 (w5 (s:={ s with heap:=g1 }) (h1.at λo e=>s1.extBut _ o D.a3 e) (hl1.at λo e=>s1.extBut _ o m1 e) hx λg2 j2 s2=>A9 ?_);refine A9 ?_;refine A2 (A2 (P8 ?_));show A6 _ _ (Q1 (.ref i2)>>=_) _ _ _;have up2:∀c o,c≠z->c≠i1->s.heap.get? c=some o->g2.get? c=some o:=λc o c1 c2 e=>s2.extBut _ o c2 (s1.extBut _ o c1 e);refine A2 (w5 (s:={ s with heap:=g2 }) (h2.at λo e=>up2 _ o D.a4 D.a10.symm e) (hl2.at λo e=>up2 _ o m2 m6 e) hy λg3 j3 s3=>A9 ?_);refine A9 (A9 ?_);show A6 _ _ (newTuple [x,y]>>=_) _ _ _;refine A2 (wpAny_newTuple (A9 ⟨_,rfl,?_⟩));have hsz:g3.objs.size=s.heap.objs.size:=by rw[s3.1,s2.1,s1.1]
 have z3:ZipK g3 z TI TO p true:=s3.extBut _ _ D.a4.symm (s2.extBut _ _ D.a3.symm z1);have j1:ItB b1 g3 i1 l1 (k+1):=j2.at λo e=>s3.extBut _ o D.a10 e;show Q (.ref g3.objs.size) _;have t4:IsPair (g3.push { cls:=.type "tuple",data:=.seq #[x,y] }) g3.objs.size x y:=F4 _ rfl;rw[hsz] at t4 ⊢;exact hQ _ (C1 _ z3) (j1.at λo e=>C1 _ e) (j3.at λo e=>C1 _ e) t4 λc o c1 c2 c3 e=>C1 _ (s3.extBut _ o c3 (up2 c o c1 c2 e))
theorem RP {b1 b2 f:Bool}{z TI TO i1 i2 l1 l2 p:A0}{op:Obj}{k:Nat}{xs ys:Array A3}{Q:Fin->A5->Prop}(hh:A.handled=none)(D:ZAp z TI TO i1 i2)(m1:l1≠z)(m2:l2≠z)(m5:l1≠i1)(m6:l2≠i1)
   (hz:ZipK s.heap z TI TO p f) (hp:s.heap.get? p=some op) (hTI:IsPair s.heap TI (.ref i1) (.ref i2)) (h1:ItB b1 s.heap i1 l1 k) (h2:ItB b2 s.heap i2 l2 k) (hl1:SeB b1 s.heap l1 xs) (hl2:SeB b2 s.heap l2 ys) (hend:xs[k]?=none)
   (hE:∀h' e,(∀c o,c≠z->c≠i1->c≠i2->s.heap.get? c=some o->h'.get? c=some o)->(∃o,h'.get? e=some o/\o.cls=.type "StopIteration")->E (.ref e) { s with heap:=h' }) :
   A6 (A8 prog w) A (O4.«zip.__next__» ⟨[.ref z],[]⟩) Q E s:=by
 show A6 _ _ (field (.ref z) 2>>=_) _ _ _;refine A2 (G7 hz rfl (x:=.bool false) rfl ?_);show A6 _ _ (field (.ref z) 3>>=_) _ _ _;refine A2 (G7 hz rfl (x:=.ref TI) rfl (A2 (P7 hTI rfl ?_)));show A6 _ _ (W9 (.ref z)>>=_) _ _ _;refine A2 (Lh hz hp λg1 z1 s1=>?_);simp only[Y9,if_false];refine A2 ?_;rw[<- Array.forIn_toList];simp only[AM,y8];refine A2 (A2 (P8 ?_));show A6 _ _ (Q1 (.ref i1)>>=_) _ _ _;exact A2 (Cc (s:={ s with heap:=g1 }) hh (h1.at λo e=>s1.extBut _ o D.a3 e) (hl1.at λo e=>s1.extBut _ o m1 e) hend λg2 e s2 ex=>hE g2 e (λc o c1 c2 _ q=>s2 _ _ c2 (s1.extBut _ _ c1 q)) ex)
structure ZSt (b1 b2:Bool)(z TI TO i1 i2 l1 l2:A0)(xs ys:Array A3)(h:B5)(ps:List A0):Prop where
 zip:(ps=[]/\IsZip h z TI TO .none/\∃a b,IsPair h TO a b)\/∃p f,p∈ps/\ZipK h z TI TO p f
 ti:IsPair h TI (.ref i1) (.ref i2)
 it1:ItB b1 h i1 l1 ps.length
 it2:ItB b2 h i2 l2 ps.length
 s1:SeB b1 h l1 xs
 s2:SeB b2 h l2 ys
 prs:∀(j:Nat) (p:A0),ps[j]?=some p->∃x y,xs[j]?=some x/\ys[j]?=some y/\IsPair h p x y
section
variable {b1 b2:Bool}{z TI TO i1 i2 l1 l2:A0}{xs ys:Array A3}{ps:List A0}
theorem DE {h:B5}{p c:A0}{x y:A3}{o:Obj}{n:String}(hp:IsPair h p x y)(ho:h.get? c=some o)(hc:o.cls=.type n)(hn:n≠"tuple"):p≠c:=λe=>by
 have hp':h.get? p=_:=hp;rw[e,ho] at hp';cases hp';exact hn (Value.type.inj hc).symm
theorem ZSt.isZip {h:B5}(st:ZSt b1 b2 z TI TO i1 i2 l1 l2 xs ys h ps):∃o,h.get? z=some o/\o.cls=.type "zip":=by
 rcases st.zip with⟨_,hz,_⟩|⟨p,f,_,hz⟩ <;> exact⟨_,hz,rfl⟩
theorem ZSt.pair {h:B5}(st:ZSt b1 b2 z TI TO i1 i2 l1 l2 xs ys h ps){p:A0}(hp:p∈ps):∃x y,IsPair h p x y:=by
 obtain⟨j,hj⟩:=List.getElem?_of_mem hp;obtain⟨x,y,_,_,q⟩:=st.prs j p hj;exact⟨x,y,q⟩
theorem Fg {b:Bool}{h:B5}{it l p:A0}{k:Nat}{x y:A3}(hi:ItB b h it l k)(hp:IsPair h p x y):p≠it:=by
 obtain⟨o,e,hc,_⟩:=hi.obj;rcases hc with hc|hc
 ·exact DE hp e hc (by decide)
 ·exact DE hp e hc (by decide)
theorem ZSt.at {h h':B5}(st:ZSt b1 b2 z TI TO i1 i2 l1 l2 xs ys h ps){S:A0}(hS:∀c∈[z,TI,TO,i1,i2,l1,l2],c≠S)(hp:∀p∈ps,p≠S)(k:∀c o,c≠S->h.get? c=some o->h'.get? c=some o):ZSt b1 b2 z TI TO i1 i2 l1 l2 xs ys h' ps:=by
 simp only[C8,T1,or_false,forall_eq_or_imp,forall_eq] at hS;obtain⟨a1,a2,a3,a4,a5,a6,a7⟩:=hS;refine⟨?_,k _ _ a2 st.ti,st.it1.at λo e=>k _ o a4 e,st.it2.at λo e=>k _ o a5 e,st.s1.at λo e=>k _ o a6 e,st.s2.at λo e=>k _ o a7 e,λj p hj=>?_⟩
 ·rcases st.zip with⟨e,hz,a,b,ht⟩|⟨p,f,hp,hz⟩
  ·exact .inl ⟨e,k _ _ a1 hz,a,b,k _ _ a3 ht⟩
  ·exact .inr ⟨p,f,hp,k _ _ a1 hz⟩
 ·obtain⟨x,y,e1,e2,q⟩:=st.prs j p hj;exact⟨x,y,e1,e2,k _ _ (hp p (J9 hj)) q⟩
theorem RQ {x y:A3}{Q:Option A3->A5->Prop}(D:ZAp z TI TO i1 i2)(m3:l1≠TO)(m4:l2≠TO)(st:ZSt b1 b2 z TI TO i1 i2 l1 l2 xs ys s.heap ps)(hx:xs[ps.length]?=some x)(hy:ys[ps.length]?=some y)
   (hQ:∀h',ZSt b1 b2 z TI TO i1 i2 l1 l2 xs ys h' (ps++[s.heap.objs.size])->(∀c o,c≠z->c≠TO->c≠i1->c≠i2->s.heap.get? c=some o->h'.get? c=some o)->Q (some (.ref s.heap.objs.size)) { s with heap:=h' }) :
   A6 (A8 prog w) A (pyNext (.ref z)) Q E s:=by
 obtain⟨oz,ez,cz⟩:=st.isZip;have ty:s.TypeIs (.ref z) "zip":=⟨_,ez,cz⟩;have m1:l1≠z:=o8 st.s1 ez cz (by decide) (by decide);have m2:l2≠z:=o8 st.s2 ez cz (by decide) (by decide);have m5:l1≠i1:=st.it1.ne st.s1;have m6:l2≠i1:=st.it1.ne st.s2;have m7:l1≠i2:=st.it2.ne st.s1;have m8:l2≠i2:=st.it2.ne st.s2;have pl:(ps++[s.heap.objs.size]).length=ps.length+1:=by simp
 have mk:∀h',(∃f,∃p∈ps++[s.heap.objs.size],ZipK h' z TI TO p f)->ItB b1 h' i1 l1 (ps.length+1)->ItB b2 h' i2 l2 (ps.length+1)->IsPair h' s.heap.objs.size x y->(∀c o,c≠z->c≠TO->c≠i1->c≠i2->s.heap.get? c=some o->h'.get? c=some o)->(∀p∈ps,∀x y,IsPair s.heap p x y->IsPair h' p x y)->ZSt b1 b2 z TI TO i1 i2 l1 l2 xs ys h' (ps++[s.heap.objs.size]):=λh' ⟨f,p,hp,q1⟩ q2 q3 q4 k kp=>by
  refine⟨.inr ⟨p,f,hp,q1⟩,k _ _ D.a1 D.a5 D.a6 D.a7 st.ti,by rw[pl];exact q2,by rw[pl];exact q3,st.s1.at λo e=>k _ o m1 m3 m5 m7 e,st.s2.at λo e=>k _ o m2 m4 m6 m8 e,λj p hj=>?_⟩
  by_cases c:j<ps.length
  ·rw[r0 c] at hj;obtain⟨x,y,e1,e2,q⟩:=st.prs j p hj;exact⟨x,y,e1,e2,kp p (J9 hj) x y q⟩
  ·rw[q8 (by omega)] at hj
   have ej:j=ps.length:=by
    rcases Nat.lt_or_ge (j-ps.length) 1 with h|h
    ·omega
    ·rw[Q0 (by simpa using h)] at hj;cases hj
   subst ej;rw[CZ] at hj;have:p=s.heap.objs.size:=(E9 hj).symm;rw[this];exact⟨x,y,hx,hy,q4⟩
 unfold pyNext;rcases st.zip with⟨e,hz,a,b,ht⟩|⟨p,f,hp,hz⟩
 ·have e0:ps.length=0:=by rw[e];rfl
  refine A2 (p8 (T9 (name:=C7 "__next__") ty R3 (P6 R3 ty Ac (KA D m1 m2 m3 m4 m5 m6 hz st.ti ht st.it1 st.it2 st.s1 st.s2 hx hy λh' a1 a2 a3 a4 a5 k=>A9 ?_) (Ab _))));exact hQ h' (mk h' ⟨false,_,by simp,a1⟩ a3 a4 a5 k λp hp=>by rw[e] at hp;cases hp) k
 ·obtain⟨px,py,pq⟩:=st.pair hp;refine A2 (p8 (T9 (name:=C7 "__next__") ty R3 (P6 R3 ty Ac (RO D m1 m2 m5 m6 hz pq st.ti st.it1 st.it2 st.s1 st.s2 hx hy λh' a1 a3 a4 a5 k=>A9 ?_) (Ab _))));have k':∀c o,c≠z->c≠TO->c≠i1->c≠i2->s.heap.get? c=some o->h'.get? c=some o:=λc o c1 _ c3 c4 e=>k c o c1 c3 c4 e;exact hQ h' (mk h' ⟨true,p,by simp[hp],a1⟩ a3 a4 a5 k' λp' hp' x y q=>k _ _ (DE q ez cz (by decide)) (Fg st.it1 q) (Fg st.it2 q) q) k'
theorem RS {Q:Option A3->A5->Prop}(hh:A.handled=none)(D:ZAp z TI TO i1 i2)(m3:l1≠TO)(m4:l2≠TO)(st:ZSt b1 b2 z TI TO i1 i2 l1 l2 xs ys s.heap ps)(hx:xs[ps.length]?=none)
   (hQ:∀h',(∀c o,c≠z->c≠TO->c≠i1->c≠i2->s.heap.get? c=some o->h'.get? c=some o)->(∀p∈ps,∀x y,IsPair s.heap p x y->IsPair h' p x y)->Q none { s with heap:=h' }) :
   A6 (A8 prog w) A (pyNext (.ref z)) Q E s:=by
 obtain⟨oz,ez,cz⟩:=st.isZip;have ty:s.TypeIs (.ref z) "zip":=⟨_,ez,cz⟩;have m1:l1≠z:=o8 st.s1 ez cz (by decide) (by decide);have m2:l2≠z:=o8 st.s2 ez cz (by decide) (by decide);have m5:l1≠i1:=st.it1.ne st.s1;have m6:l2≠i1:=st.it1.ne st.s2;unfold pyNext;rcases st.zip with⟨e,hz,a,b,ht⟩|⟨p,f,hp,hz⟩
 ·have e':=e;refine A2 (p8 (T9 (name:=C7 "__next__") ty R3 (P6 R3 ty Ac (KB (A:=A.in1) hh D m1 m2 m3 m4 m5 m6 hz st.ti ht st.it1 st.it2 st.s1 st.s2 (.inl hx) λh' e k he=>?_) (Ab _))));obtain⟨o,ho,hce⟩:=he;exact A2 (CA (T:="StopIteration") (b:=true) ⟨o,ho,hce⟩ CF (A9 (hQ h' k λp hp=>by rw[e'] at hp;cases hp)))
 ·obtain⟨px,py,pq⟩:=st.pair hp;refine A2 (p8 (T9 (name:=C7 "__next__") ty R3 (P6 R3 ty Ac (RP (A:=A.in1) hh D m1 m2 m5 m6 hz pq st.ti st.it1 st.it2 st.s1 st.s2 hx λh' e k he=>?_) (Ab _))));obtain⟨o,ho,hce⟩:=he;exact A2 (CA (T:="StopIteration") (b:=true) ⟨o,ho,hce⟩ CF (A9 (hQ h' (λc o c1 _ c3 c4 e=>k c o c1 c3 c4 e) λp' hp' x y q=>k _ _ (DE q ez cz (by decide)) (Fg st.it1 q) (Fg st.it2 q) q)))
end
end
end L2
end
section
namespace L2
open PySem PySem.Spec PyProof.Rows
section
variable {prog:D3}{w:C3}{A:E8}{E:A3->A5->Prop}{s:A5}
theorem Li:entryFor table "dict.update.loop"=some O4.«dict.update.loop»:=entryFor_of_tree (by kernel_rfl)
theorem Fh:plainId "dict.update.loop"=true:=by decide +kernel
end
end L2
end
section
namespace L2
open PySem PySem.Spec PyProof.Rows
section
variable {prog:D3}{w:C3}{A:E8}{E:A3->A5->Prop}{s:A5}
theorem DF {κ:Type}[DecidableEq κ]{knd:KeyKind prog w κ}{h h':B5}{k:List κ}{a:A0}(q:(O8 knd).is h k a)(kp:∀o,o.cls=.type "tuple"->h.get? a=some o->h'.get? a=some o):(O8 knd).is h' k a:=by
 obtain⟨o,jh,n,e,c,d⟩:=q;exact⟨o,jh,n,kp o c e,c,d⟩
section
variable {κ:Type}[DecidableEq κ]{knd:KeyKind prog w κ}{ps:List A0}{qs:List (List κ×A0×A3)}
def V1 (qs:List (List κ×A0×A3)):List (List κ×A0×A3):=qs.foldl (λxs q=>W6 xs q.1 q.2.1 q.2.2) []
theorem RT (xs:List (List κ×A0×A3))(k:List κ)(a:A0)(v:A3):(W6 xs k a v).length<=xs.length+1:=by
 unfold W6
 split
 ·rw[B1];omega
 ·rw[D6];simp
theorem Lj (qs:List (List κ×A0×A3)):(V1 qs).length<=qs.length:=by
 have:∀(qs xs:List (List κ×A0×A3)),(qs.foldl (λxs q=>W6 xs q.1 q.2.1 q.2.2) xs).length<=xs.length+qs.length:=by
  intro qs
  induction qs with
  |nil=>intro xs;simp
  | cons q qs ih =>
   intro xs;have h1:=ih (W6 xs q.1 q.2.1 q.2.2);have h2:=RT xs q.1 q.2.1 q.2.2;rw[CT,L8];omega
 have h:=this qs []
 simpa[V1] using h
theorem RU {i:Nat}{q:List κ×A0×A3}(h:qs[i]?=some q):V1 (qs.take (i+1))=W6 (V1 (qs.take i)) q.1 q.2.1 q.2.2:=by
 unfold V1;rw[List.take_succ,h,List.foldl_append]
 rfl
end
end
theorem Lk {A:E8}{k:Nat}(hr:Room k A):A.units+2<cLine:=By (Nat.add_le_add_left (by decide:2<=64) _) hr.units
abbrev PQ (H:Hp)(p:List Key×V)(q:List Key×A0×A3):Prop:=p.1=q.1/\H q.2.1=some (.tup (p.1.map kV))/\RelV p.2 q.2.2
def DG (qs:List (List Key×V)):List (List Key×V):=qs.foldl (λd q=>putK d q.1 q.2) []
theorem RV {H:Hp}{qs:List (List Key×V)}{qh:List (List Key×A0×A3)}(r:Paired (PQ H) qs qh):∀{ji:List (List Key×V)} {xs:List (List Key×A0×A3)},KT H ji xs->
   KT H (qs.foldl (λd q=>putK d q.1 q.2) ji) (qh.foldl (λxs q=>W6 xs q.1 q.2.1 q.2.2) xs):=by
 induction r with
 |nil=>intro ji xs h;exact h
 | @cons p q ps qs' h _ ih =>
  intro ji xs hk;rw[CT,CT];obtain⟨e1,e2,e3⟩:=h;rw[<- e1];exact ih (hk.put p.1 e2 e3)
end L2
namespace Pu
open PySem PySem.Spec L2
section
variable {T:PotK}{np:Bool}{ι:Type}{K:A7}{F:ι->Cx}{e:Expr}{pe:pE}{st:Stmt}{pos:Pos}
def putD {α:Type}(d:List (List Key)×List α)(q:List Key×α):List (List Key)×List α:=(P4 d.1 q.1,O3 d.1 d.2 q.1 q.2)
def dtF {α:Type}(qs:List (List Key×α)):List (List Key)×List α:=qs.foldl putD ([],[])
theorem Lm {G:Gh}{H:Hp}:∀{qs:List (List Key×PV)} {us:List V} {ks:List (List Key)} {xs:List PV} {vs:List V},us.length=qs.length->Reps K G H (qs.map (·.2)) us->ks.length=xs.length->Reps K G H xs vs->
   ∃ws,(qs.foldl putD (ks,xs)).1.length=(qs.foldl putD (ks,xs)).2.length/\Reps K G H (qs.foldl putD (ks,xs)).2 ws/\((qs.map (·.1)).zip us).foldl (λd q=>putK d q.1 q.2) (ks.zip vs)=(qs.foldl putD (ks,xs)).1.zip ws
 | [], us, ks, xs, vs, l, r, hl, rx => by
  have:us=[]:=AI l;subst this;exact⟨vs,hl,rx,rfl⟩
 | q :: qs, us, ks, xs, vs, l, r, hl, rx => by
  obtain⟨u,us',rfl,ru,rr⟩:=r;have l':us'.length=qs.length:=by simpa using l
  have hv:ks.length=vs.length:=hl.trans rx.length;obtain⟨ws,w1,w2,w3⟩:=Lm (ks:=P4 ks q.1) (xs:=O3 ks xs q.1 q.2) (vs:=O3 ks vs q.1 u) l' rr (QV hl q.1 q.2) (Ho rx hl q.1 ru);refine⟨ws,w1,w2,?_⟩;show((qs.map (·.1)).zip us').foldl _ (putK (ks.zip vs) q.1 u)=_;rw[Hn hv];exact w3
end
end Pu
end
section
namespace L2
open PySem PySem.W PySem.Spec PyProof.Rows
section
variable {X:Cx}
def RW (tk tv:TE):TE:=λσ H Q=>∀p,H p=none->Hi [(tk,tv)] σ (upd H p (.dT [])) λps H2=>H2 p=some (.dT [])/\∃b k y,ps=[(.ref b,y)]/\H2 b=some (.tup (k.map kV))/\Q (.ref p) (upd H2 p (.dT [(k,y)]))
theorem Ln {k v:Expr}{tk tv:TE}{pos:Pos}(hu:X.A.units<cLine)(hk:PE X k tk)(hv:PE X v tv):PE X (.Dict [some k] [v] pos) (RW tk tv):=by
 intro jd s σ H Q I q;have hn:=I.hok.fresh (B7 s.heap.objs.size);have I1:=I.laid (a:=s.heap.objs.size) (o:=.dT []) (h':=s.heap.push { cls:=.type "dict",data:=.dict #[] }) (t':=s.toks) (λ_ _ q=>C1 _ q) (B7 _) (QC s.heap I.big);have hl:=pairTrees_length [some k] [v] X.env pos rfl rfl;rw[arm_eval_Dict,zip_pairTrees [some k] [v] X.env pos rfl rfl,dictDisplay_pairs _ (λz=>by rw[z] at hl;cases hl) (by rw[hl];show 1<17;omega)];refine A2 (W3 (A2 ?_));unfold subDict;refine A2 (wpAny_alloc ?_);refine A2 (P8 ?_);rw[jw (by rw[hl];show 1<=15;omega)];refine A2 (thn (QF hk hv QD jd _ σ _ _ I1 (q _ hn)) λws s2 ⟨ps,H2,I2,rel,e,b,key,y,ep,eb,q2⟩=>?_);subst ep;cases rel with
 | @cons p1 p2 _ _ h1 t =>
  cases t;obtain⟨u,r⟩:=p2;obtain⟨ru,rr⟩:=h1;cases(show u=K8 b from ru);obtain⟨z,hd,xs,rl,dd⟩:=dt_of I2.hok e;cases rl;refine P8 ?_;rw[AM];refine A2 (A2 (A2 (wpAny_dictSet_heap (hsz:=by decide) (show(O8 (N1 X.prog X.w)).room X.A from hu) (Ce I2.hok eb) dd λh' dd' hs=>A9 ?_)));dsimp only;rw[y8];refine A9 (A9 (A9 (A9 ?_)));obtain⟨q',es,ep',hq,h2,h3,h4,_,h5⟩:=dd';refine⟨.ref s.heap.objs.size,upd H2 s.heap.objs.size (.dT [(key,y)]),EZ I2 (by rw[e];exact Z0) hs ⟨q',hq⟩ (show J4 X.prog X.w _ h' _ (.dT [(key,y)]) from⟨by show 1<=B8;decide,hd,_,?_,q',es,ep',hq,h2,h3,h4,h5⟩),rfl,q2⟩;exact .cons ⟨rfl,by rw[C0 (ne_of eb e (λz=>nomatch z))];exact eb,rr⟩ .nil
end
end L2
end
section
namespace Pu
open PySem PySem.Spec L2
theorem SR.takeV {C:Ct}{G:Gh}{σ:St}{H:Hp}{env:Env}{n:Nat}(S:SR C G σ H env n){i:Nat}{ks:List (List Key)}{xs:List PV}{a:A0}{vs:List V}(ex:env[i]?=some (some (.ow (.dt ks) xs)))(hl:ks.length=xs.length)(ev:σ[i]?=some (some (.ref a)))(r:Reps C.K G H xs vs){ob:HO}(hob:ob=.dT (ks.zip vs)\/∃o,ob=.frz o (.dT (ks.zip vs))) :
   ∃G',SR C G' σ (upd H a ob) (env.set i (some (.v (.fdt ks xs)))) n/\Ext G H G' (upd H a ob)/\a∉G'.M:=by
 have hlv:ks.length=vs.length:=by rw[hl];exact r.length
 obtain⟨G',S1,x1,aM,_,_⟩:=S.take ex ev ob;have r1:Reps C.K G' (upd H a ob) xs vs:=Reps.mono x1.keep x1.new x1.pot _ _ r;have rd:Rd (upd H a ob) a (.dT (ks.zip vs)):=hob.elim (λe=>.inl (by rw[F9,e])) λ⟨o,e⟩=>.inr ⟨o,by rw[F9,e]⟩;have rp:Rep C.K G' (upd H a ob) (.fdt ks xs) (.ref a):=⟨a,_,rfl,aM,rd,CQ (AQ hlv),by rw[Ed (AQ hlv.symm)];exact r1⟩;have S2:=S1.set i rp
 have eσ:σ.set i (some (.ref a))=σ:=by
  obtain⟨hi,e⟩:=E6.mp ev;rw[<- e];exact List.set_getElem_self hi
 rw[List.set_set,eσ] at S2;exact⟨G',S2,x1,aM⟩
section
variable {T:PotK}{np:Bool}{ι:Type}{K:A7}{F:ι->Cx}{e ek c f:Expr}{st:Stmt}{pe pk pv pc pf:pE}{pos:Pos}{pg:pG}{p1:pS}
def Cq (i:Nat)(p:pS):pS:=λD env n=>match env[i]? with|some (some (.ow (.dt ks) xs))=>ks.length=xs.length/\p D (env.set i (some (.v (.fdt ks xs)))) n|some (some (.v _))=>p D env n|_=>False
theorem HI (i:Nat)(h:QS T np K F st p1):QS T np K F st (Cq i p1):=by
 obtain⟨t,a1,a2⟩:=h;refine⟨t,a1,λC G σ H env n PD D hK hT hn S hp L=>?_⟩;unfold Cq at hp
 split at hp
 ·rename_i ks xs ex;obtain⟨a,vs,ev,h1,h2,h3,h4,r⟩:=S.slots i _ ex;obtain⟨G',S',x',_⟩:=S.takeV ex hp.1 ev r (.inl rfl)
  have eH:upd H a (.dT (ks.zip vs))=H:=by
   funext b
   by_cases hb:b=a
   ·rw[hb,F9];exact h4.symm
   ·rw[C0 hb]
  rw[eH] at S' x';exact a2 C G' σ H _ n PD D hK hT hn S' hp.2 (L.ext x')
 ·exact a2 C G σ H env n PD D hK hT hn S hp L
 ·exact hp.elim
def HJ (i:Nat)(pk pv:pE):pS:=λD env n=>pk env n λy je n1=>pv je n1 λx jf n2=>match y with|.tup ys=>(match M4 ys with|some k=>D.nx (jf.set i (some (.ow (.dt [k]) [x]))) n2|none=>False)|_=>False
theorem RX (i:Nat){k0:Nat}(hr:∀z,Room k0 (F z).A)(h:∀z te,EW (F z) (.Dict [some ek] [e] pos) te->SW (F z) st (tAsg te (R5 i)))(hk:QE T K F ek pk)(hv:QE T K F e pv):QS T np K F st (HJ i pk pv):=by
 obtain⟨tk,k1,k2⟩:=hk;obtain⟨tv,v1,v2⟩:=hv;refine⟨_,λz=>(h z _ ⟨Ln (Nat.lt_of_succ_lt (k8 (hr z))) (k1 z) (v1 z)⟩).h,λC G σ H env n PD D hK hT hn S hp L=>?_⟩;intro p hn1;have S1:=S.hide (ob:=.dT []) trivial hn1;have pM:p∉C.M0:=λz=>S.fresh hn1 (S.sup p z);have p0:p∉C.pots0:=λz=>pM (S.p0.1 p z);refine k2 (C.hid p (.dT [])) _ σ _ env n _ _ hK hT S1 hp λy je n1 v H1 q1 S1 r1 f1=>?_;refine v2 (C.hid p (.dT [])) _ σ _ je n1 _ _ hK hT S1 q1 λx jf n2 u H2 q2 S2 r2 f2=>?_;refine⟨S2.hid_at p0,?_⟩
 split at q2
 ·rename_i ys
  split at q2
  ·rename_i k ek;obtain⟨b,ws,rfl,atb,rb⟩:=r1.fr f2;rw[Ch ek] at rb;have eb:H2 b=some (.tup (k.map kV)):=by rw[<- Cg k rb];exact atb.2
   subst hK;obtain⟨S3,f3⟩:=S2.unhide (S.old hn1) pM p0 i (.dt [k]) (xs:=[x]) (vs:=[u]) (.one r2);refine⟨b,k,u,rfl,eb,?_⟩;exact L.nx _ _ _ _ _ q2 S3 ((l9 hn1).trans (Ext.fr ((f1.trans f2).trans f3)))
  ·exact q2.elim
 ·exact q2.elim
def getT:List (List Key)->List PV->List Key->Option PV
 |k'::ks,x::xs,k=>if k'=k then some x else getT ks xs k
 |_,_,_=>none
theorem HK {G:Gh}{H:Hp}(k:List Key):∀(ji:List (List Key×V)) (xs:List PV),Reps K G H xs (ji.map (·.2))->(getT (ji.map (·.1)) xs k=none/\valV ji k=none)\/∃x v,getT (ji.map (·.1)) xs k=some x/\valV ji k=some v/\Rep K G H x v
 |[],xs,_=>.inl ⟨by cases xs <;> rfl,rfl⟩
 |(k',v')::ji,[],h=>by cases h
 | (k', v') :: ji, x :: xs, h => by
  obtain⟨v,t,e,h1,h2⟩:=h;rw[J5] at e;injection e with e1 e2;subst e1;subst e2
  by_cases c:k'=k
  ·refine .inr ⟨x,v',?_,?_,h1⟩
   ·show(if k'=k then some x else _)=_;rw[jw c]
   ·show(((k',v')::ji).find? λkv=>decide (kv.1=k)).map (·.2)=_;rw[List.find?_cons_of_pos (by exact ju c)];rfl
  ·have e1:getT (((k',v')::ji).map (·.1)) (x::xs) k=getT (ji.map (·.1)) xs k:=by
    show(if k'=k then some x else getT (ji.map (·.1)) xs k)=_;rw[jy c]
   have e2:valV ((k',v')::ji) k=valV ji k:=by
    show(((k',v')::ji).find? λkv=>decide (kv.1=k)).map (·.2)=_;rw[List.find?_cons_of_neg (by simpa using c)];rfl
   rw[e1,e2];exact HK k ji xs h2
theorem DGet.tR {H:Hp}{a b:A0}{ji:List (List Key×V)}{k:List Key}(e:Rd H a (.dT ji))(eb:H b=some (.tup (k.map kV))):DGet H a (.ref b) (valV ji k):=.inr ⟨ji,k,b,e,rfl,eb,rfl⟩
theorem Fi {G:Gh}{H:Hp}{ys:List PV}{v:V}{k:List Key}(r:Rep K G H (.tup ys) v)(ek:M4 ys=some k):∃b,v=.ref b/\H b=some (.tup (k.map kV)):=by
 obtain⟨b,ws,rfl,atb,rb⟩:=r;rw[Ch ek] at rb;exact⟨b,rfl,by rw[<- Cg k rb];exact atb.2⟩
def qIxT (pd pk:pE):pE:=λenv n R=>pd env n λd je n1=>pk je n1 λk jf n2=>match d,k with|.fdt ks xs,.tup ys=>(match M4 ys with|some key=>(match getT ks xs key with|some x=>R x jf n2|none=>False)|none=>False)|_,_=>False
theorem Az {k0:Nat}(hr:∀z,Room k0 (F z).A)(he:QE T K F e pe)(hc:QE T K F c pc)(hs:NoSl c:=by exact λ_ _=>rfl):QE T K F (.Subscript e c pos) (qIxT pe pc):=by
 obtain⟨t,a1,a2⟩:=he;obtain⟨u,b1,b2⟩:=hc;refine⟨Hh t u,λz=>KI (k8 (hr z)) (a1 z) (b1 z) hs,λC G σ H env n R Q hK hT S hp k=>?_⟩;refine a2 C G σ H env n _ _ hK hT S hp λx je n1 v H1 q1 S1 r1 f1=>?_;refine b2 C G σ H1 je n1 _ _ hK hT S1 q1 λy jf n2 v2 H2 q2 S2 r2 f2=>?_
 split at q2
 ·rename_i ks xs ys
  split at q2
  ·rename_i key e2;obtain⟨a,ji,rfl,hM,ha,ek,rx⟩:=r1;have ha2:Rd H2 a (.dT ji):=Rd.keep (u:=.dT ji) ha λo e=>f2 a o hM e;have rx2:Reps K G H2 xs (ji.map (·.2)):=rx.fr f2;obtain⟨b,rfl,eb⟩:=Fi r2 e2;rw[<- ek] at q2;rcases HK key ji xs rx2 with⟨g1,g2⟩|⟨x,v,g1,g2,g3⟩
   ·rw[g1] at q2;exact q2.elim
   ·rw[g1] at q2;have dg:DGet H2 a (.ref b) (valV ji key):=DGet.tR ha2 eb;rw[g2] at dg;exact⟨a,v,rfl,dg,k _ _ _ _ _ q2 S2 g3 (f1.trans f2)⟩
  ·exact q2.elim
 ·exact q2.elim
def memT (ks:List (List Key))(k:List Key):Bool:=ks.any λz=>decide (z=k)
theorem RY {ks:List (List Key)}{k:List Key}:memT ks k=true↔k∈ks:=by
 unfold memT;rw[y4];exact⟨λ⟨x,h,e⟩=>by rw[<- jz e];exact h,λh=>⟨k,h,ju rfl⟩⟩
theorem RZ {ji:List (List Key×V)}{k:List Key}:(valV ji k).isSome=memT (ji.map (·.1)) k:=by
 rw[<- EV];unfold memT;rw[CV];rfl
end
end Pu
end
section
namespace Pu
open PySem PySem.Spec L2
section
variable {T:PotK}{np:Bool}{ι:Type}{K:A7}{F:ι->Cx}{a c e:Expr}{pa pc:pE}{pos:Pos}
def Bh (i:Nat)(pa:pE):pE:=λenv n R=>pa env n λx je n1=>match je[i]?,x with
 |some (some (.ow (.dt ks) xs)),.tup ys=>(match M4 ys with|some k=>ks.length=xs.length/\R (.bl (!memT ks k)) je n1|none=>False)
 |_,_=>False
theorem R_ {t:TE}(i:Nat)(h2:EOk K T t pa):EOk K T (tOp HF t (tVar i)) (Bh i pa):=λC G σ H env n R Q hK hT S hp k=>by
 refine h2 C G σ H env n _ _ hK hT S hp λx je n1 v H1 q1 S1 r1 f1=>?_
 split at q1
 ·rename_i ks xs ys ex
  split at q1
  ·rename_i key ek;obtain⟨a,vs,ev,g1,g2,g3,g4,r'⟩:=S1.slots i _ ex;obtain⟨hl,q1⟩:=q1;obtain⟨b,rfl,eb⟩:=Fi r1 ek
   have e:(valV (ks.zip vs) key).isSome=memT ks key:=by
    rw[RZ,CQ (by rw[hl,r'.length];exact B7 _)]
   refine⟨.ref a,ev,a,valV (ks.zip vs) key,rfl,DGet.tR (.inl g4) eb,?_⟩;rw[e];exact k _ _ _ _ _ q1 S1 rfl f1
  ·exact q1.elim
 ·exact q1.elim
theorem Lp (i:Nat){x:Str}{p:Pos}{k:Nat}(hr:∀z,Room k (F z).A)(hv:∀z,EW (F z) (.Name x p) (tVar i))(ha:QE T K F a pa):QT T K F (.Compare a [.NotIn] [.Name x p] pos) (qB (Bh i pa)):=by
 obtain⟨t,h1,h2⟩:=ha;exact⟨_,λz=>AY (HG (k8 (hr z))) (h1 z) (hv z).h rfl,BV (R_ i h2)⟩
def Y1 (i:Nat)(pk:pE):pE:=λenv n R=>(∃ks xs,env[i]?=some (some (.ow (.dt ks) xs)))/\pk env n λy je n1=>match je[i]?,y with
 |some (some (.ow (.dt ks) xs)),.tup ys=>(match M4 ys with|some k=>ks.length=xs.length/\(match getT ks xs k with|some x=>R x je n1|none=>False)|none=>False)
 |_,_=>False
theorem AB (i:Nat){k0:Nat}(hr:∀z,Room k0 (F z).A)(hv:∀z,EW (F z) e (tVar i))(hc:QE T K F c pc)(hs:NoSl c:=by exact λ_ _=>rfl):QE T K F (.Subscript e c pos) (Y1 i pc):=by
 obtain⟨u,b1,b2⟩:=hc;refine⟨Hh (tVar i) u,λz=>KI (k8 (hr z)) (hv z).h (b1 z) hs,λC G σ H env n R Q hK hT S hp k=>?_⟩;obtain⟨⟨ks0,xs0,e0⟩,hp⟩:=hp;obtain⟨a,vs0,ev,h1,h2,h3,h4,r⟩:=S.slots i _ e0;refine⟨.ref a,ev,?_⟩;refine b2 C G σ H env n _ _ hK hT S hp λy jf n2 v2 H2 q2 S2 r2 f2=>?_
 split at q2
 ·rename_i ks xs ys ex
  split at q2
  ·rename_i key e2;obtain⟨hl,q2⟩:=q2;obtain⟨a',vs,ev',g1,g2,g3,g4,rr⟩:=S2.slots i _ ex;rw[ev] at ev';cases ev';have hlv:ks.length=vs.length:=by rw[hl];exact rr.length
   obtain⟨b,rfl,eb⟩:=Fi r2 e2;have g4':Rd H2 a (.dT (ks.zip vs)):=.inl g4;have dg:=DGet.tR (k:=key) g4' eb;have em:(ks.zip vs).map (·.1)=ks:=CQ (AQ hlv);have em2:(ks.zip vs).map (·.2)=vs:=Ed (AQ hlv.symm);have rr':Reps K G H2 xs ((ks.zip vs).map (·.2)):=by rw[em2,<- hK];exact rr
   rcases HK key (ks.zip vs) xs rr' with⟨k1,k2⟩|⟨x,v,k1,k2,k3⟩
   ·rw[em] at k1;rw[k1] at q2;exact q2.elim
   ·rw[em] at k1;rw[k1] at q2;rw[k2] at dg;exact⟨a,v,rfl,dg,k _ _ _ _ _ q2 S2 k3 f2⟩
  ·exact q2.elim
 ·exact q2.elim
end
end Pu
end
section
namespace Pu
open PySem PySem.Spec L2
theorem SR.unhid {C:Ct}{G:Gh}{σ:St}{H:Hp}{env:Env}{n:Nat}{a:A0}{ob:HO}(S:SR (C.hid a ob) G σ H env n)(ha:a∉C.M0)(hp0:∀p∈C.pots0,p∈C.M0)(h0:C.H0 a=none):SR C G σ H env n/\H a=some ob/\¬Ca σ env a:=by
 have hap:a∉C.pots0:=λz=>ha (hp0 a z)
 refine⟨{
  frame:=λb o hb e=>S.frame b o hb (by
   show upd C.H0 a ob b=some o
   rw[C0 (λz=>by rw[z,h0] at e;cases e)];exact e)
  sub:=fun b hb=>by
   by_cases hba:b=a
   ·exact .inr (hba▸h0)
   ·rcases S.sub b hb with z|z
    ·rcases C8.mp (show b∈a::C.M0 from z) with z|z
     ·exact absurd z hba
     ·exact .inl z
    ·have z':upd C.H0 a ob b=none:=z;rw[C0 hba] at z';exact .inr z'
  sup:=λb hb=>S.sup b (C9 _ hb)
  pots:=S.pots
  pre:=S.pre
  mu:=S.mu
  slots:=λi s e=>by
   cases s with
   | v x =>
    obtain⟨v,ev,r⟩:=S.slots i _ e;exact⟨v,ev,r⟩
   | ow kk xs =>
    obtain⟨b,us,ev,h1,h2,h3,h4,r⟩:=S.slots i _ e;exact⟨b,us,ev,h1,λz=>h2 (C9 _ z),h3,h4,r⟩
  inj:=S.inj
  p0:=⟨hp0,S.p0.2⟩
  len:=S.len
  newp:=λp hp hn hM=>S.newp p hp hn (C9 _ hM) },S.frame a _ hap F9,?_⟩
 rintro⟨j,ys,e1,e2⟩;obtain⟨b,us,ev,h1,h2,_⟩:=S.slots j _ e1;rw[e2] at ev;cases ev;exact h2 C6
theorem SR.rehide {C:Ct}{G:Gh}{σ:St}{H:Hp}{env:Env}{n:Nat}{p:A0}{ob ob':HO}(S:SR (C.hid p ob) G σ H env n)(mo:MutO ob')(h2:p∉C.pots0):SR (C.hid p ob') G σ (upd H p ob') env n/\Fr G H (upd H p ob'):=by
 have pM:p∈G.M:=S.sup p C6;have pp:p∉G.pots:=λz=>S.newp p z h2 C6;have f:Fr G H (upd H p ob'):=λb o hb he=>by rw[C0 (λz=>hb (by rw[z];exact pM))];exact he
 refine⟨{
  frame:=λb o hb e=>?_
  sub:=λb hb=>?_
  sup:=S.sup
  pots:=λq hq=>⟨(S.pots q hq).1,C.T.keep (S.pots q hq).2 (C0 λz=>pp (by rw[<- z];exact hq)) f⟩
  pre:=S.pre
  mu:=λb hb=>?_
  slots:=λj s es=>?_
  inj:=S.inj
  p0:=S.p0
  len:=S.len
  newp:=S.newp },f⟩
 ·have e':upd C.H0 p ob' b=some o:=e
  by_cases h:b=p
  ·subst h;rw[F9] at e' ⊢;exact e'
  ·rw[C0 h] at e' ⊢;exact S.frame b o hb (by show upd C.H0 p ob b=some o;rw[C0 h];exact e')
 ·by_cases h:b=p
  ·exact .inl (by rw[h];exact C6)
  ·rcases S.sub b hb with z|z
   ·exact .inl z
   ·refine .inr ?_;have z':upd C.H0 p ob b=none:=z;show upd C.H0 p ob' b=none;rw[C0 h] at z' ⊢;exact z'
 ·by_cases h:b=p
  ·subst h;exact⟨ob',F9,mo⟩
  ·obtain⟨o,e,m⟩:=S.mu b hb;exact⟨o,by rw[C0 h];exact e,m⟩
 ·have r:=S.slots j s es;cases s with
  |v x=>obtain⟨v,e,r⟩:=r;exact⟨v,e,Rep.mono f (λ_ h=>.inl h) (λ_ _ e=>e) _ _ r⟩
  | ow kk xs =>
   obtain⟨b,us,e,h1,h2,h3,h4,r⟩:=r;have bp:b≠p:=λz=>h2 (by rw[z];exact C6);exact⟨b,us,e,h1,h2,h3,by rw[C0 bp];exact h4,Reps.mono f (λ_ h=>.inl h) (λ_ _ e=>e) _ _ r⟩
theorem Gots.unhid {C:Ct}{G:Gh}{H:Hp}{σ:St}{env:Env}{a:A0}{ob:HO}:∀{ss:List Slot} {vs:List V},Gots (C.hid a ob) G H σ env ss vs->Gots C G H σ env ss vs/\∀(ys:OK×List PV) w,(Slot.ow ys.1 ys.2,w)∈ss.zip vs->w≠.ref a
 |[],_,h=>⟨h,λ_ _ z=>by simp at z⟩
 | s :: ss, vs, h => by
  obtain⟨v,r,rfl,g,ne,h⟩:=h;obtain⟨h1,h2⟩:=Gots.unhid h
  have gy:Got C G H σ env s v:=by
   refine⟨?_,g.2⟩;cases s with
   |v x=>exact g.1
   | ow kk ys =>
    obtain⟨b,us,ev,g1,g2,g3,g4,r⟩:=g.1;exact⟨b,us,ev,g1,λz=>g2 (C9 _ z),g3,g4,r⟩
  refine⟨⟨v,r,rfl,gy,ne,h1⟩,λys w hw ew=>?_⟩;rw[AK] at hw;rcases C8.mp hw with e|hw
  ·cases e;obtain⟨b,us,ev,g1,g2,_⟩:=g.1;rw[ew] at ev;cases ev;exact g2 C6
  ·exact h2 ys w hw ew
section
variable {T:PotK}{np:Bool}{ι:Type}{K:A7}{F:ι->Cx}{e ek:Expr}{es:List Expr}{pk pv:pE}{sl:pSlN}{pos:Pos}
def slT1 (pk pv:pE)(r:pSlN):pSlN:=λenv n R=>pk env n λy je n1=>pv je n1 λx jf n2=>match y with
 |.tup ys=>(match M4 ys with|some k=>r jf n2 λss jg n3=>R (.ow (.dt [k]) [x]::ss) jg n3|none=>False)
 |_=>False
theorem qls_t1 {k0:Nat}(hr:∀z,Room k0 (F z).A)(hk:QE T K F ek pk)(hv:QE T K F e pv)(hs:QLs T K F es sl):QLs T K F (.Dict [some ek] [e] pos::es) (slT1 pk pv sl):=by
 obtain⟨tk,k1,k2⟩:=hk;obtain⟨tv,v1,v2⟩:=hv;obtain⟨u,b1,b2⟩:=hs;refine⟨_,λz=>D4 (Ln (Nat.lt_of_succ_lt (k8 (hr z))) (k1 z) (v1 z)) (b1 z) (B9 rfl),λC G σ H env n R Q hK hT S hp kk=>?_⟩;intro p hn1;have S1:=S.hide (ob:=.dT []) trivial hn1;have pM:p∉C.M0:=λz=>S.fresh hn1 (S.sup p z);have p0:p∉C.pots0:=λz=>pM (S.p0.1 p z);refine k2 (C.hid p (.dT [])) _ σ _ env n _ _ hK hT S1 hp λy je n1 v H1 q1 S1 r1 f1=>?_;refine v2 (C.hid p (.dT [])) _ σ _ je n1 _ _ hK hT S1 q1 λx jf n2 w H2 q2 S2 r2 f2=>?_;refine⟨S2.hid_at p0,?_⟩
 split at q2
 ·rename_i ys
  split at q2
  ·rename_i key ek;obtain⟨b,ws,rfl,atb,rb⟩:=r1.fr f2;rw[Ch ek] at rb;have eb:H2 b=some (.tup (key.map kV)):=by rw[<- Cg key rb];exact atb.2
   refine⟨b,key,w,rfl,eb,?_⟩;obtain⟨S3,f3⟩:=S2.rehide (ob':=.dT [(key,w)]) trivial p0;have x1:Ext G H ⟨p::G.M,G.pots⟩ (upd H2 p (.dT [(key,w)])):=(l9 hn1).trans (Ext.fr ((f1.trans f2).trans f3))
   have r3:Reps C.K ⟨p::G.M,G.pots⟩ (upd H2 p (.dT [(key,w)])) [x] [w]:=by
    rw[hK];exact .one (r2.fr f3)
   refine b2 (C.hid p (.dT [(key,w)])) ⟨p::G.M,G.pots⟩ σ _ jf n2 _ _ hK hT S3 q2 λss jg n3 us G3 H3 q3 S4 x3 g3=>?_;obtain⟨S5,e5,no⟩:=S4.unhid pM S.p0.1 (S.old hn1);have aM:p∈G3.M:=S4.sup p C6;have ap:p∉G3.pots:=λz=>S4.newp p z p0 C6;obtain⟨g4,g5⟩:=g3.unhid;refine kk _ _ _ _ _ _ q3 S5 (x1.trans x3) ⟨.ref p,us,rfl,⟨⟨p,[w],rfl,aM,pM,ap,e5,Reps.mono x3.keep x3.new x3.pot _ _ r3⟩,λ_ _ _ e=>by cases e;exact no⟩,λxs' b ex ev ys w hw=>?_,g4⟩;cases ev;exact g5 ys w hw
  ·exact q2.elim
 ·exact q2.elim
end
end Pu
end
section
namespace L2
open PySem PySem.Spec PyProof.Rows
theorem Sa:typeLookup (.type "zip") "__getattr__"=pure none:=by rw[typeLookup_type,builtinLookup_eq_fast];kernel_rfl
theorem Sc:typeLookup (.type "zip") "keys"=pure none:=by rw[typeLookup_type,builtinLookup_eq_fast];kernel_rfl
theorem Sd:entryFor table "zip.__getattribute__"=some O4.«object.__getattribute__»:=entryFor_alias (id':="object.__getattribute__") (by kernel_rfl) (by decide +kernel) (by decide +kernel) (by kernel_rfl)
theorem Se (z:A0)(fs:Array A3)(u:Tok):Meets (O4.«object.__getattribute__» ⟨[.ref z,.str "keys" u],[]⟩) (λA R s=>s.heap.get? z=some { cls:=.type "zip",data:=.fields fs }/\raisesAttr (.ref z) "keys" A R s):=
 Meets.of_wp λprog w A R s h0=>by
  obtain⟨hp,g,d,tk,os⟩:=s;obtain⟨hz,h0⟩:=h0;have tz:(⟨hp,g,d,tk,os⟩:A5).TypeIs (.ref z) "zip":=⟨_,hz,rfl⟩;have no:=Sc;unfold O4.«object.__getattribute__»
  repeat (any_goals (first|assumption|wp_step))
  exact wpAny_raiseAttrError h0.1 h0.2 (attrMsg_fits (by decide +kernel) (by size_fits))
section
variable {prog:D3}{w:C3}{A:E8}{E:A3->A5->Prop}{s:A5}
theorem Sf {z:A0}{fs:Array A3}{Q:Option A3->A5->Prop}(hx:s.heap.get? z=some { cls:=.type "zip",data:=.fields fs })(hA:A.handled=none)
   (h:∀h' tk,(∀c o,s.heap.get? c=some o->h'.get? c=some o)->Q none { s with heap:=h',toks:=tk }) :
   A6 (A8 prog w) A (getAttr? (.ref z) "keys") Q E s:=by
 obtain⟨hp,g,d,tk,os⟩:=s;have hT:∀tk',(⟨hp,g,d,tk',os⟩:A5).TypeIs (.ref z) "zip":=λ_=>⟨_,hx,rfl⟩;have f1:=sub_AttributeError;have f3:=F.slot_zip_getattribute.lookup;have f4:=F.slot_zip_getattribute.bind (.ref z);have f5:=Sa;unfold getAttr? getAttrBy? getAttrBy
 repeat (any_goals (first|assumption|exact hT _|((with_reducible show A6 _ _ (call (Em "zip.__getattribute__") _ _) _ _ _);refine call_meets F.slot_zip_getattribute (hT _) Sd (F.args_zip_getattribute_2 _ _) (Se z fs _) ⟨hx,hA,λh' tk' e hx'=>?_⟩)|wp_step))
 obtain⟨t',u',he⟩:=hx'.there;show A6 _ _ (getattributeRaised _ _ _ _ _ _ _) _ _ _;unfold getattributeRaised
 repeat (any_goals (first|assumption|wp_step))
 exact h _ _ hx'.keeps
end
end L2
end
section
namespace L2
open PySem PySem.Spec PyProof.Rows
section
variable {prog:D3}{w:C3}{A:E8}{E:A3->A5->Prop}{s:A5}
section
variable {κ:Type}[DecidableEq κ]{knd:KeyKind prog w κ}{qs:List (List κ×A0×A3)}{b1 b2:Bool}{z TI TO i1 i2 l1 l2:A0}{xs ys:Array A3}
theorem Sh (xs:List (List κ×A0×A3))(k:List κ)(a:A0)(v:A3)(P:A0->Prop)(h:∀x∈xs,P x.2.1)(ha:P a):∀x∈W6 xs k a v,P x.2.1:=by
 intro x hx;unfold W6 at hx
 split at hx
 ·obtain⟨y,hy,rfl⟩:=J7.mp hx;have:(putAt k v y).2.1=y.2.1:=by unfold putAt;split <;> rfl
  rw[this];exact h y hy
 ·rcases E5.mp hx with hx|hx
  ·exact h x hx
  ·rw[E3.mp hx];exact ha
theorem Si (P:A0->Prop)(h:∀q∈qs,P q.2.1):∀x∈V1 qs,P x.2.1:=by
 have:∀(qs xs:List (List κ×A0×A3)),(∀q∈qs,P q.2.1)->(∀x∈xs,P x.2.1)->∀x∈qs.foldl (λxs q=>W6 xs q.1 q.2.1 q.2.2) xs,P x.2.1:=by
  intro qs
  induction qs with
  |nil=>intro xs _ h;exact h
  | cons q qs ih =>
   intro xs h1 h2;rw[CT];exact ih _ (λq' hq=>h1 q' (C9 _ hq)) (Sh xs _ _ _ P h2 (h1 q C6))
 exact this qs [] h (λx hx=>absurd hx T1)
theorem Sj {R:Result->A5->Prop}(hh:A.handled=none)(hu:A.units+1<cLine)(Z:ZAp z TI TO i1 i2)(m3:l1≠TO)(m4:l2≠TO){D:A0}(hS:∀c∈[z,TI,TO,i1,i2,l1,l2],c≠D)(hn:xs.size=ys.size)(hl:xs.size<=1000)(lq:qs.length=xs.size)
   (hq:∀(j:Nat) (q:List κ×A0×A3),qs[j]?=some q->xs[j]?=some (.ref q.2.1)/\ys[j]?=some q.2.2) (hd:∀q∈qs,q.2.1≠z/\q.2.1≠TO/\q.2.1≠i1/\q.2.1≠i2/\q.2.1≠D) :
   ∀(m:Nat) (s:A5) (ps:List A0),xs.size-ps.length=m->ps.length<=xs.size->ZSt b1 b2 z TI TO i1 i2 l1 l2 xs ys s.heap ps->(∀q∈qs,(O8 knd).is s.heap q.1 q.2.1)->s.heap.DictOfH (O8 knd) D (V1 (qs.take ps.length))->
   (∀h' tk,h'.DictOfH (O8 knd) D (V1 qs)->(∀c o,c≠D->c≠z->c≠TO->c≠i1->c≠i2->s.heap.get? c=some o->h'.get? c=some o)->R (.ok (.ret .none)) { s with heap:=h',toks:=tk })->
   Q7 (A8 prog w) A (.builtin "dict.update.loop" ⟨[.ref D,.ref z,rawInt ps.length,.none],[]⟩) R s:=by
 have sl:(1000:Nat)<=B8:=by decide
 have hS':=hS;simp only[C8,T1,or_false,forall_eq_or_imp,forall_eq] at hS';obtain⟨a1,a2,a3,a4,a5,a6,a7⟩:=hS'
 have dkeep:∀{h h':B5} {i:Nat},h.DictOfH (O8 knd) D (V1 (qs.take i))->(∀c o,c≠z->c≠TO->c≠i1->c≠i2->h.get? c=some o->h'.get? c=some o)->h'.DictOfH (O8 knd) D (V1 (qs.take i)):=by
  intro h h' i dd k1;obtain⟨o,es,ep,e1,e2,e3,e4,e5,e6⟩:=dd;have at_:=Si (qs:=qs.take i) (λa=>a≠z/\a≠TO/\a≠i1/\a≠i2/\a≠D) λq hq=>hd q (Y4 hq);exact⟨o,es,ep,k1 _ _ a1.symm a3.symm a4.symm a5.symm e1,e2,e3,e4,λx hx=>DF (e5 x hx) λo _ e=>k1 _ _ (at_ x hx).1 (at_ x hx).2.1 (at_ x hx).2.2.1 (at_ x hx).2.2.2.1 e,e6⟩
 intro m
 induction m with
 | zero =>
  intro s ps hm hi st hk hD hR;refine CC Li ?_;rw[Gb Fh _];show A6 _ A.in1 (pyNext (.ref z)>>=_) _ _ s;refine A2 (RS (A:=A.in1) hh Z m3 m4 st (Da (by omega)) λh' k kp=>?_);show A6 _ A.in1 (Builtin.Dict.addKeywords D []>>=_) _ _ _;refine A2 (A9 (A9 ?_));have hD':=dkeep hD k;rw[T0 (by omega)] at hD';exact hR h' s.toks hD' λc o _ c1 c2 c3 c4 e=>k c o c1 c2 c3 c4 e
 | succ m ih =>
  intro s ps hm hi st hk hD hR;have hlt:ps.length<xs.size:=by omega
  have hlq:ps.length<qs.length:=by omega
  obtain⟨q,eq⟩:∃q,qs[ps.length]?=some q:=⟨_,D7 hlq⟩;have mq:q∈qs:=J9 eq;obtain⟨ex,ey⟩:=hq _ _ eq;refine CC Li ?_;rw[Gb Fh _];show A6 _ A.in1 (pyNext (.ref z)>>=_) _ _ s;refine A2 (RQ (A:=A.in1) Z m3 m4 st ex ey λh1 st1 k1=>?_);obtain⟨x',y',ex',ey',pq⟩:=st1.prs ps.length s.heap.objs.size (by simp);rw[ex] at ex';rw[ey] at ey';cases ex';cases ey';have kk1:∀q∈qs,(O8 knd).is h1 q.1 q.2.1:=λq hq=>DF (hk q hq) λo _ e=>k1 _ _ (hd q hq).1 (hd q hq).2.1 (hd q hq).2.2.1 (hd q hq).2.2.2.1 e;have hD1:=dkeep hD k1;refine A2 (P8 ?_);refine A2 (wpAny_tryCatch ?_);unfold Builtin.Dict.pairItems;refine A2 (x5 (T:="tuple") (s:={ s with heap:=h1 }) ⟨_,pq,rfl⟩ ?_);rw[jw (by decide)];refine A2 (P7 (s:={ s with heap:=h1 }) pq rfl (A9 ?_));show A6 _ A.in1 (W4 [.ref q.2.1,q.2.2] (dictSet D (.ref q.2.1) q.2.2)) _ _ _;have ml:=Lj (qs.take ps.length);refine P8 (wpAny_dictSet_heap (s:={ s with heap:=h1 }) (hsz:=by rw[Y6] at ml;omega) (DU hu) (kk1 q mq) hD1 λh2 hD2 s2=>?_);rw[<- RU eq] at hD2;have k2:∀c o,c≠D->h1.get? c=some o->h2.get? c=some o:=λc o hc e=>s2.extBut c o hc e
  have pn:∀p∈ps++[s.heap.objs.size],p≠D:=by
   intro p hp e;obtain⟨x,y,q'⟩:=st1.pair hp;obtain⟨o',es,ep,e1,e2,_⟩:=hD1;exact DE q' e1 e2.1 (by decide) e
  refine A9 ⟨plainId_quiet Fh _,?_⟩;have pl:(ps++[s.heap.objs.size]).length=ps.length+1:=by simp
  rw[show((ps.length:Int)+1)=(((ps++[s.heap.objs.size]).length:Nat):Int) by rw[pl];omega];refine ih { s with heap:=h2,toks:=s.toks+_ } (ps++[s.heap.objs.size]) (by omega) (by omega) (st1.at hS pn k2) (λq hq=>DF (kk1 q hq) λo _ e=>k2 _ _ (hd q hq).2.2.2.2 e) (by rw[pl];exact hD2) λh' tk q1 q2=>hR h' tk q1 λc o c0 c1 c2 c3 c4 e=>q2 c o c0 c1 c2 c3 c4 (k2 c o c0 (k1 c o c1 c2 c3 c4 e))
end
end
end L2
end
section
namespace L2
open PySem PySem.Spec PyProof.Rows
section
variable {prog:D3}{w:C3}{A:E8}{E:A3->A5->Prop}{s:A5}
section
variable {κ:Type}[DecidableEq κ]{knd:KeyKind prog w κ}{qs:List (List κ×A0×A3)}{b1 b2:Bool}{z TI TO i1 i2 l1 l2:A0}{xs ys:Array A3}
theorem ZSt.keep {h h':B5}(st:ZSt b1 b2 z TI TO i1 i2 l1 l2 xs ys h [])(k:∀c o,h.get? c=some o->h'.get? c=some o):ZSt b1 b2 z TI TO i1 i2 l1 l2 xs ys h' []:=by
 refine⟨?_,k _ _ st.ti,st.it1.at λo e=>k _ o e,st.it2.at λo e=>k _ o e,st.s1.at λo e=>k _ o e,st.s2.at λo e=>k _ o e,λj p hj=>by cases hj⟩;rcases st.zip with⟨e,hz,a,b,ht⟩|⟨p,f,hp,hz⟩
 ·exact .inl ⟨e,k _ _ hz,a,b,k _ _ ht⟩
 ·cases hp
theorem Sk {Q:A3->A5->Prop}(hh:A.handled=none)(hu:A.units+2<cLine)(Z:ZAp z TI TO i1 i2)(m3:l1≠TO)(m4:l2≠TO)(hn:xs.size=ys.size)(hl:xs.size<=1000)(lq:qs.length=xs.size)
   (hq:∀(j:Nat) (q:List κ×A0×A3),qs[j]?=some q->xs[j]?=some (.ref q.2.1)/\ys[j]?=some q.2.2) (hd:∀q∈qs,q.2.1≠z/\q.2.1≠TO/\q.2.1≠i1/\q.2.1≠i2)
   (st:ZSt b1 b2 z TI TO i1 i2 l1 l2 xs ys s.heap []) (hlt:∀c∈[z,TI,TO,i1,i2,l1,l2],c<s.heap.objs.size) (hk:∀q∈qs,(O8 knd).is s.heap q.1 q.2.1)
   (hQ:∀h' tk,h'.DictOfH (O8 knd) s.heap.objs.size (V1 qs)->(∀c o,c≠z->c≠TO->c≠i1->c≠i2->s.heap.get? c=some o->h'.get? c=some o)->Q (.ref s.heap.objs.size) { s with heap:=h',toks:=tk }) :
   A6 (A8 prog w) A (call (.type "dict") [.ref z]) Q E s:=by
 refine callType_codes (Q₁:=λobj s₁=>obj=.ref s.heap.objs.size/\s₁={ s with heap:=s.heap.push { cls:=.type "dict",data:=.dict #[] } }) F.kt_called_dict (F.kt_typeCall_dict_1 _) F.entry_dict_init (kt_code_dict_new _ ⟨rfl,rfl⟩) ?_;rintro obj s₁ ⟨rfl,rfl⟩;have hnew:(s.heap.push { cls:=.type "dict",data:=.dict #[] }).DictOfH (O8 knd) s.heap.objs.size []:=Heap.DictOfH.new s.heap;have old:∀c o,s.heap.get? c=some o->c≠s.heap.objs.size:=λc o e=>F3 (C4 e);have nS:∀c∈[z,TI,TO,i1,i2,l1,l2],c≠s.heap.objs.size:=λc hc=>F3 (hlt c hc);have up:∀c o,s.heap.get? c=some o->(s.heap.push { cls:=.type "dict",data:=.dict #[] }).get? c=some o:=λc o e=>C1 _ e
 have hdD:∀q∈qs,q.2.1≠s.heap.objs.size:=λq hq'=>by
  obtain⟨o,jh,n,e,_⟩:=hk q hq';exact old _ _ e
 have D0:=hnew;refine⟨hnew.typeIs,F.args_dict_init_2 _ _,?_⟩;generalize hg:s.heap.push { cls:=.type "dict",data:=.dict #[] }=g at *;generalize hD:s.heap.objs.size=D at *;unfold O4.«dict.__init__»;refine A2 ?_;unfold Builtin.Dict.selfAndRest;refine A2 (wpAny_notOrdered_dict (s:={ s with heap:=g }) hnew.typeIs ?_);show A6 _ _ (pure (D,[K8 z])) _ _ _;refine A9 ?_;show A6 _ _ (Builtin.Dict.updateFrom "dict.__init__" D (.ref z) [] .none) _ _ _;unfold Builtin.Dict.updateFrom;have st1:=st.keep up
 have hz1:IsZip g z TI TO .none:=by
  rcases st1.zip with⟨_,hz,_⟩|⟨p,f,hp,_⟩
  ·exact hz
  ·cases hp
 refine A2 (x5 (T:="zip") (s:={ s with heap:=g }) ⟨_,hz1,rfl⟩ ?_);rw[jw (by decide)];refine A2 (Sf (s:={ s with heap:=g }) hz1 hh λg2 tk k2=>?_);show A6 _ _ (rule _>>=_) _ _ _;refine A2 (V4 ?_);have st2:=st1.keep k2;refine A2 (CB (s:={ s with heap:=g2,toks:=tk }) (k2 _ _ hz1) ?_);obtain⟨od,es,ep,ed0,rd1,rd2,rd3,_,rd5⟩:=D0;have ed:=k2 _ _ ed0;refine A9 ⟨plainId_quiet Fh _,Sj (A:=A.in1) (knd:=knd) (qs:=qs) hh hu Z m3 m4 nS hn hl lq hq (λq hq'=>⟨(hd q hq').1,(hd q hq').2.1,(hd q hq').2.2.1,(hd q hq').2.2.2,hdD q hq'⟩) _ _ [] rfl (M5 _) st2 (λq hq'=>DF (hk q hq') λo _ e=>k2 _ _ (up _ _ e)) ?_ λh' tk' q1 q2=>⟨rfl,hQ h' tk' q1 λc o c1 c2 c3 c4 e=>q2 c o (old c o e) c1 c2 c3 c4 (k2 _ _ (up _ _ e))⟩⟩;exact⟨od,es,ep,ed,rd1,rd2,rd3,λx (hx:x∈[])=>absurd hx (T1),rd5⟩
end
end
end L2
end
section
namespace L2
open PySem PySem.Spec PyProof.Rows
def KAt (H:Hp):List (List Key)->List A0->Prop
 |[],[]=>True
 |k::ks,b::bs=>H b=some (.tup (k.map kV))/\KAt H ks bs
 |_,_=>False
theorem Lq:∀{bs:List A0} {us:List A3},Vals (bs.map V.ref) us->us=bs.map K8
 |[],_,r=>by cases r;rfl
 | b :: bs, _, .cons r rr => by
  cases(show _=K8 b from r);rw[Lq rr];rfl
theorem Lr {H:Hp}:∀{ks:List (List Key)} {bs:List A0} {ys:List V} {us:List A3},KAt H ks bs->Vals ys us->ks.length=ys.length->
   ∃qh:List (List Key×A0×A3),qh.length=ks.length/\bs.length=ks.length/\(∀(j:Nat) q,qh[j]?=some q->bs[j]?=some q.2.1/\us[j]?=some q.2.2)/\(∀q∈qh,H q.2.1=some (.tup (q.1.map kV)))/\Paired (PQ H) (ks.zip ys) qh
 |[],[],_,_,_,_,_=>⟨[],rfl,rfl,λj q h=>by simp at h,λq h=>absurd h T1,.nil⟩
 |k::ks,b::bs,[],_,_,_,h=>by simp at h
 | k :: ks, b :: bs, y :: ys, _, ⟨e, h⟩, .cons (b := u) r rr, hl => by
  obtain⟨qh,l1,l2,l3,l4,l5⟩:=Lr h rr (by simpa using hl);refine⟨(k,b,u)::qh,by simp[l1],by simp[l2],λj q hj=>?_,λq hq=>?_,.cons ⟨rfl,e,r⟩ l5⟩
  ·cases j with
   |zero=>cases hj;exact⟨rfl,rfl⟩
   |succ j=>exact l3 j q hj
  ·rcases C8.mp hq with rfl|hq
   ·exact e
   ·exact l4 q hq
 |[],_::_,_,_,h,_,_=>h.elim
 |_::_,[],_,_,h,_,_=>h.elim
section
variable {X:Cx}
def tDZT (b1 b2:Bool)(K:A7)(ta:TA):TE:=λσ H Q=>ta σ H λvs H1=>∃(a c:A0) (bs:List A0) (ks:List (List Key)) (ys:List V),vs=[.ref a,.ref c]/\SqB b1 K H1 a (bs.map V.ref)/\SqB b2 K H1 c ys/\KAt H1 ks bs/\ks.length=ys.length/\ks.length<=1000/\∀D,H1 D=none->Q (.ref D) (upd H1 D (.dT (DG (ks.zip ys))))
theorem pe_dzT (b1 b2:Bool){a b:Expr}{ta:TA}{p1 p3 pos1 pos3:Pos}(hc:X.calm=true)(hu:X.A.units+2<cLine)(g1:Gl X "dict")(m1:X.mg "dict"=none)(g3:Gl X "zip")(m3:X.mg "zip"=none)(ha:PA X [a,b] ta)(hs:E2 [a,b] X.env=[(false,eval a X.env),(false,eval b X.env)]:=by rfl)(hs2:E2 [b] X.env=[(false,eval b X.env)]:=by rfl) :
   PE X (.Call (.Name "dict" p1) [.Call (.Name "zip" p3) [a,b] [] pos3] [] pos1) (tDZT b1 b2 X.K ta):=by
 intro jd s σ H Q I h;refine Bo (U5 I g1 m1 Pc (Y8 (Calls.spliced_cons ?_) rfl rfl));refine Bo (U5 I g3 m3 boot_zip (Y8 (thn (ha pos3 jd s σ H _ I h) λus s1 ⟨vs,H1,I1,r1,q1⟩=>?_) (by rw[hs,hs2]) (by rw[hs2];rfl)));obtain⟨a,c,bs,ks,ys,e,h1,h2,ka,lk,ll,q⟩:=q1;subst e;cases r1 with
 | cons r rr =>
  cases rr with
  | cons r' rr =>
   cases rr;cases r;cases r';obtain⟨is1,rv1,p1,hz1⟩:=I1.seqB h1;obtain⟨is2,rv2,p2,hz2⟩:=I1.seqB h2;have hh:X.A.handled=none:=I1.ok.hd hc;have v2:=rv2.length;have ei:=Lq rv1;subst ei;obtain⟨qh,l1,l2,l3,l4,l5⟩:=Lr ka rv2 lk;have kk0:∀q∈qh,(O8 (N1 X.prog X.w)).is s1.heap q.1 q.2.1:=λq hq=>Ce I1.hok (l4 q hq)
   have lt0:∀q∈qh,q.2.1<s1.heap.objs.size:=λq hq=>by
    obtain⟨o,jh,n,e,_⟩:=kk0 q hq;exact C4 e
   obtain⟨o1,eo1,_⟩:=p1.obj;obtain⟨o2,eo2,_⟩:=p2.obj;have la:=C4 eo1;have lc:=C4 eo2;refine zipB p1 p2 λh' e1 e2 e3 e4 e5 hk=>?_;refine A9 ?_;obtain⟨o4,eo4,_⟩:=e4.obj;obtain⟨o5,eo5,_⟩:=e5.obj
   have st:ZSt b1 b2 (s1.heap.objs.size+4) (s1.heap.objs.size+2) (s1.heap.objs.size+3) s1.heap.objs.size (s1.heap.objs.size+1) a c (bs.map K8).toArray is2.toArray h' []:=
    ⟨.inl ⟨rfl,e1,_,_,e3⟩,e2,e4,e5,p1.at λo e=>hk _ o e,p2.at λo e=>hk _ o e,λj p hj=>by cases hj⟩
   have lz:s1.heap.objs.size+4<h'.objs.size:=C4 e1;have ne:∀{b n:Nat},b<s1.heap.objs.size->s1.heap.objs.size<=n->b≠n:=λhb hn=>F3 (L0 hb hn);refine Sk (s:={ s1 with heap:=h' }) (knd:=N1 X.prog X.w) (qs:=qh) hh hu ⟨by simp,by simp,by simp,by simp,by simp,by simp,by simp,by simp,by simp,by simp⟩ (ne la (i6 _ 3)) (ne lc (i6 _ 3)) (by simp;omega) (by simp;omega) (by simp;omega) (λj q hj=>?_) (λq hq=>⟨ne (lt0 q hq) (i6 _ 4),ne (lt0 q hq) (i6 _ 3),ne (lt0 q hq) (B7 _),ne (lt0 q hq) (i6 _ 1)⟩) st (λd hd=>?_) (λq hq=>DF (kk0 q hq) λo _ e=>hk _ o e) λh3 tk dd k3=>?_
   ·obtain⟨x1,x2⟩:=l3 j q hj;refine⟨?_,by simpa using x2⟩;rw[List.getElem?_toArray,K6,x1];rfl
   ·simp only[C8,T1,or_false] at hd;show d<h'.objs.size;have l4:s1.heap.objs.size<=h'.objs.size:=by omega
    rcases hd with rfl|rfl|rfl|rfl|rfl|rfl|rfl
    ·exact lz
    ·exact C4 e2
    ·exact C4 e3
    ·exact C4 eo4
    ·exact C4 eo5
    ·exact L0 la l4
    ·exact L0 lc l4
   ·have kk:∀b u,s1.heap.get? b=some u->h3.get? b=some u:=λb u e=>by
     have lb:=C4 e;exact k3 b u (ne lb (i6 _ 4)) (ne lb (i6 _ 3)) (ne lb (B7 _)) (ne lb (i6 _ 1)) (hk b u e)
    have hle:s1.heap.objs.size<=h'.objs.size:=by omega
    have hf:H1 h'.objs.size=none:=I1.hok.fresh hle;have kt:=(RV l5 (KT.keeps (H:=H1) .nil λ_ _ e=>e):KT H1 (DG (ks.zip ys)) (V1 qh));have fl:=Lj qh;obtain⟨o,es,ep,d1,d2,d3,d4,_,d6⟩:=dd;refine⟨.ref h'.objs.size,upd H1 h'.objs.size (.dT (DG (ks.zip ys))),I1.laid (t':=tk) kk hle ⟨?_,beq_eq_false_iff_ne.mpr (Ne.symm (F3 (L0 I1.big hle))),V1 qh,kt.keeps λb ys eb=>?_,o,es,ep,d1,d2,d3,d4,d6⟩,rfl,q _ hf⟩
    ·have:(DG (ks.zip ys)).length=(V1 qh).length:=Dc kt;have sl:(1000:Nat)<=B8:=by decide
     omega
    ·rw[C0 (λz=>by rw[z,hf] at eb;cases eb)];exact eb
end
end L2
end
section
namespace Pu
open PySem PySem.Spec L2
section
variable {T:PotK}{np:Bool}{ι:Type}{K:A7}{F:ι->Cx}{e a b:Expr}{pa pb:pE}{st:Stmt}
def Cr:List PV->Option (List (List Key))
 |[]=>some []
 |.tup ys::xs=>(match M4 ys,Cr xs with|some k,some ks=>some (k::ks)|_,_=>none)
 |_=>none
theorem Ls {G:Gh}{H:Hp}:∀{xs:List PV} {vs:List V} {ks:List (List Key)},Reps K G H xs vs->Cr xs=some ks->∃bs:List A0,vs=bs.map V.ref/\KAt H ks bs
 | [], vs, ks, r, h => by
  cases h;have:vs=[]:=AI r.length.symm;subst this;exact⟨[],rfl,trivial⟩
 | x :: xs, vs, ks, r, h => by
  unfold Cr at h
  split at h
  ·rename_i heq;cases heq
  ·rename_i ys xs' heq;cases heq
   split at h
   ·rename_i k ks' e1 e2;cases h;obtain⟨v,t,rfl,r1,r2⟩:=r;obtain⟨bs,rfl,hb⟩:=Ls r2 e2;obtain⟨b,rfl,eb⟩:=Fi r1 e1;exact⟨b::bs,rfl,eb,hb⟩
   ·cases h
  ·cases h
def Fj (i:Nat)(b1 b2:Bool)(pa pb:pE):pS:=λD env n=>pa env n λx je n1=>pb je n1 λy jf n2=>match Z9 b1 x,Z9 b2 y with
 | some xs, some ys => (match Cr xs with
  |some ks=>ks.length=ys.length/\ks.length<=1000/\D.nx (jf.set i (some (.ow (.dt (dtF (ks.zip ys)).1) (dtF (ks.zip ys)).2))) n2
  |none=>False)
 |_,_=>False
theorem Lu (i:Nat)(b1 b2:Bool){p1 p3 pos1 pos3:Pos}(hc:∀z,(F z).calm=true)(hu:∀z,(F z).A.units+2<cLine)(g1:∀z,Gl (F z) "dict")(m1:∀z,(F z).mg "dict"=none)(g3:∀z,Gl (F z) "zip")(m3:∀z,(F z).mg "zip"=none)
   (h:∀z te,EW (F z) (.Call (.Name "dict" p1) [.Call (.Name "zip" p3) [a,b] [] pos3] [] pos1) te->SW (F z) st (tAsg te (R5 i))) (ha:QE T K F a pa) (hb:QE T K F b pb) (hs:D8 a=true:=by rfl) (hs2:D8 b=true:=by rfl) (hK:∀z,(F z).K=K:=by intro _;rfl):QS T np K F st (Fj i b1 b2 pa pb):=by
 obtain⟨t,h1,h2⟩:=ha;obtain⟨u,h3,h4⟩:=hb;refine⟨_,λz=>(h z _ ⟨hK z▸pe_dzT b1 b2 (hc z) (hu z) (g1 z) (m1 z) (g3 z) (m3 z) (D4 (h1 z) (D4 (h3 z) G0 (B9 hs2)) (B9 hs)) (by rw[B9 hs,B9 hs2];rfl) (by rw[B9 hs2];rfl)⟩).h,λC G σ H env n PD D hK hT hn S hp L=>?_⟩;refine h2 C G σ H env n _ _ hK hT S hp λx je n1 v H1 q1 S1 r1 f1=>?_;refine h4 C G σ H1 je n1 _ _ hK hT S1 q1 λy jf n2 w H2 q2 S2 r2 f2=>?_
 split at q2
 ·rename_i xs ys ex ey
  split at q2
  ·rename_i ks ek;obtain⟨lk,ll,q⟩:=q2;obtain⟨a,vs,rfl,na,ra,sa⟩:=Be ex (r1.fr f2);obtain⟨c,us,rfl,nc,rc,scq⟩:=Be ey r2;obtain⟨bs,rfl,kb⟩:=Ls ra ek;have lu:us.length=(ks.zip ys).length:=by rw[CS,<- rc.length];omega
   have e2:(ks.zip ys).map (·.2)=ys:=Ed (AQ lk.symm);have e1:(ks.zip ys).map (·.1)=ks:=CQ (AQ lk);obtain⟨ws,w1,w2,w3⟩:=Lm (qs:=ks.zip ys) (ks:=[]) (xs:=[]) (vs:=[]) lu (by rw[e2];exact rc) rfl rfl;refine⟨a,c,bs,ks,us,rfl,sa H2 λ_ _ _ e=>e,scq H2 λ_ _ _ e=>e,kb,by rw[lk];exact rc.length,ll,λD hD=>?_⟩
   have ef:DG (ks.zip us)=(dtF (ks.zip ys)).1.zip ws:=by
    rw[e1] at w3;exact w3
   rw[ef];exact L.nx _ _ _ _ _ q (S2.ow i (.dt (dtF (ks.zip ys)).1) hD (hK▸w2)) ((Ext.fr (f1.trans f2)).trans (l9 hD))
  ·exact q2.elim
 ·exact q2.elim
end
end Pu
end
section
namespace L2
open PySem PySem.Spec PyProof.Rows
theorem Sl (a b c:A3):checkTypeCall "zip" ⟨[a,b,c],[]⟩=pure ():=by kernel_rfl
theorem Sm (a b c:A3):checkBuiltinCall "zip.__new__" ⟨[.type "zip",a,b,c],[]⟩=pure ():=by kernel_rfl
theorem Sn (a b c d:A3):argsOk "object.__init__" ⟨[a,b,c,d],[]⟩:=by
 unfold argsOk;rw[signature?_of (id:="object.__init__") (n:=['_','_','t','i','n','i','_','_']) (o:=['t','c','e','j','b','o']) (by kernel_rfl) F.owner_object];kernel_rfl
abbrev Trip (h:B5)(T:A0)(a b c:A3):Prop:=h.get? T=some { cls:=.type "tuple",data:=.seq #[a,b,c] }
structure ZA3 (z TI TO i1 i2 i3:A0):Prop where
 a1:TI≠z
 a2:TO≠z
 a3:i1≠z
 a4:i2≠z
 a5:TI≠TO
 a6:TI≠i1
 a7:TI≠i2
 a8:TO≠i1
 a9:TO≠i2
 a10:i1≠i2
 b1:i3≠z
 b2:TI≠i3
 b3:TO≠i3
 b4:i1≠i3
 b5:i2≠i3
abbrev LI (h:B5)(i l:A0)(k:Nat):Prop:=ItB true h i l k
abbrev LS (h:B5)(l:A0)(xs:Array A3):Prop:=SeB true h l xs
section
variable {prog:D3}{w:C3}{A:E8}{E:A3->A5->Prop}{s:A5}
theorem HL {T:A0}{a b c x:A3}{k:Nat}{Q:Unit->A5->Prop}(hT:Trip s.heap T a b c)
   (h:∀h',h'.get? T=some { cls:=.type "tuple",data:=.seq ((#[a,b,c]:Array A3).setIfInBounds k x) }->AO T s.heap h'->Q () { s with heap:=h' }) :
   A6 (A8 prog w) A (updateSeq T (·.setIfInBounds k x)) Q E s:=by
 refine wpAny_updateSeq hT rfl (h _ ?_ (Db ..));rw[FT _ hT rfl];simp[R4]
theorem So {z TI TO i1 i2 i3 l1 l2 l3:A0}{k:Nat}{xs ys zs:Array A3}{x y v a b c:A3}{Q:A3->A5->Prop}(D:ZA3 z TI TO i1 i2 i3)(m1:l1≠z)(m2:l2≠z)(n1:l3≠z)(m3:l1≠TO)(m4:l2≠TO)(n2:l3≠TO)(m6:l2≠i1)(n3:l3≠i1)(n4:l3≠i2)
   (hz:IsZip s.heap z TI TO .none) (hTI:Trip s.heap TI (.ref i1) (.ref i2) (.ref i3)) (hTO:Trip s.heap TO a b c) (h1:LI s.heap i1 l1 k) (h2:LI s.heap i2 l2 k) (h3:LI s.heap i3 l3 k) (hl1:LS s.heap l1 xs) (hl2:LS s.heap l2 ys) (hl3:LS s.heap l3 zs) (hx:xs[k]?=some x) (hy:ys[k]?=some y) (hv:zs[k]?=some v)
   (hQ:∀h',IsZip h' z TI TO (rawInt s.heap.objs.size)->Trip h' TO x y v->LI h' i1 l1 (k+1)->LI h' i2 l2 (k+1)->LI h' i3 l3 (k+1)->Trip h' s.heap.objs.size x y v->
     (∀c o,c≠z->c≠TO->c≠i1->c≠i2->c≠i3->s.heap.get? c=some o->h'.get? c=some o)->Q (.ref s.heap.objs.size) { s with heap:=h' }) :
   A6 (A8 prog w) A (O4.«zip.__next__» ⟨[.ref z],[]⟩) (λfin s'=>∃v,fin=.done (.ret v)/\Q v s') E s:=by
 show A6 _ _ (field (.ref z) 2>>=_) _ _ _;refine A2 (G7 hz rfl (x:=.bool false) rfl ?_);show A6 _ _ (field (.ref z) 3>>=_) _ _ _;refine A2 (G7 hz rfl (x:=.ref TI) rfl (A2 (P7 hTI rfl ?_)));show A6 _ _ (W9 (.ref z)>>=_) _ _ _;refine A2 ?_;unfold W9;refine A2 (G7 hz rfl (x:=.none) rfl (A9 ?_));simp only[if_true];refine A2 (V4 (A2 (G7 hz rfl (x:=.ref TO) rfl (A2 (W0 hz (by simp) λg1 z1 s1=>?_)))))
 replace z1:IsZip g1 z TI TO .ellipsis:=z1
 refine A2 ?_;simp only[CP,Ef,AM,y8];refine A2 (A2 (x4 ?_));show A6 _ _ (Q1 (.ref i1)>>=_) _ _ _;refine A2 (w5 (s:={ s with heap:=g1 }) (h1.at λo e=>s1.extBut _ o D.a3 e) (hl1.at λo e=>s1.extBut _ o m1 e) hx λg2 j2 s2=>A9 ?_);have t2:Trip g2 TO a b c:=s2.extBut _ _ D.a8 (s1.extBut _ _ D.a2 hTO);refine A2 (P7 t2 rfl (A2 (HL (s:={ s with heap:=g2 }) t2 λg3 t3 s3=>A2 (Br (A9 ?_)))))
 replace t3:Trip g3 TO x b c:=t3
 refine A2 (A2 (x4 ?_));show A6 _ _ (Q1 (.ref i2)>>=_) _ _ _;have up3:∀c o,c≠z->c≠i1->c≠TO->s.heap.get? c=some o->g3.get? c=some o:=λc o c1 c2 c3 e=>s3.extBut _ o c3 (s2.extBut _ o c2 (s1.extBut _ o c1 e));refine A2 (w5 (s:={ s with heap:=g3 }) (h2.at λo e=>up3 _ o D.a4 D.a10.symm D.a9.symm e) (hl2.at λo e=>up3 _ o m2 m6 m4 e) hy λg4 j4 s4=>A9 ?_);have t4:Trip g4 TO x b c:=s4.extBut _ _ D.a9 t3;refine A2 (P7 t4 rfl (A2 (HL (s:={ s with heap:=g4 }) t4 λg5 t5 s5=>A2 (Br (A9 ?_)))))
 replace t5:Trip g5 TO x y c:=t5
 refine A2 (A2 (x4 ?_));show A6 _ _ (Q1 (.ref i3)>>=_) _ _ _;have up5:∀c o,c≠z->c≠TO->c≠i1->c≠i2->s.heap.get? c=some o->g5.get? c=some o:=λc o c1 c2 c3 c4 e=>s5.extBut _ _ c2 (s4.extBut _ _ c4 (up3 c o c1 c3 c2 e));refine A2 (w5 (s:={ s with heap:=g5 }) (h3.at λo e=>up5 _ o D.b1 D.b3.symm D.b4.symm D.b5.symm e) (hl3.at λo e=>up5 _ o n1 n2 n3 n4 e) hv λg6 j6 s6=>A9 ?_);have t6:Trip g6 TO x y c:=s6.extBut _ _ D.b3 t5;refine A2 (P7 t6 rfl (A2 (HL (s:={ s with heap:=g6 }) t6 λg7 t7 s7=>A2 (Br (A9 (A9 ?_))))))
 replace t7:Trip g7 TO x y v:=t7
 refine A2 (P7 t7 rfl (A2 (wpAny_newTuple ?_)));have hsz:g7.objs.size=s.heap.objs.size:=by rw[s7.1,s6.1,s5.1,s4.1,s3.1,s2.1,s1.1]
 have z5:IsZip g7 z TI TO .ellipsis:=s7.extBut _ _ D.a2.symm (s6.extBut _ _ D.b1.symm (s5.extBut _ _ D.a2.symm (s4.extBut _ _ D.a4.symm (s3.extBut _ _ D.a2.symm (s2.extBut _ _ D.a3.symm z1)))));have up7:∀c o,c≠z->c≠TO->c≠i1->c≠i2->c≠i3->s.heap.get? c=some o->g7.get? c=some o:=λc o c1 c2 c3 c4 c5 e=>s7.extBut _ _ c2 (s6.extBut _ _ c5 (up5 c o c1 c2 c3 c4 e));have j1:LI g7 i1 l1 (k+1):=j2.at λo e=>s7.extBut _ o D.a8.symm (s6.extBut _ o D.b4 (s5.extBut _ o D.a8.symm (s4.extBut _ o D.a10 (s3.extBut _ o D.a8.symm e))));have j5:LI g7 i2 l2 (k+1):=j4.at λo e=>s7.extBut _ o D.a9.symm (s6.extBut _ o D.b5 (s5.extBut _ o D.a9.symm e));have j7:LI g7 i3 l3 (k+1):=j6.at λo e=>s7.extBut _ o D.b3.symm e;have zlt:z<g7.objs.size:=C4 z5;show A6 _ _ (Ei (.ref z) (.ref g7.objs.size)>>=_) _ _ _;refine A2 ?_;unfold Ei;have z6:IsZip (g7.push { cls:=.type "tuple",data:=.seq #[x,y,v] }) z TI TO .ellipsis:=C1 _ z5;refine A2 (W0 z6 (by simp) λg8 z7 s8=>?_)
 replace z7:IsZip g8 z TI TO (rawInt g7.objs.size):=z7
 refine W0 z7 (by simp) λg9 z8 s9=>?_
 replace z8:IsZip g9 z TI TO (rawInt g7.objs.size):=z8
 have up8:∀c o,c≠z->g7.get? c=some o->g9.get? c=some o:=λc o c1 e=>s9.extBut _ _ c1 (s8.extBut _ _ c1 (C1 _ e));have t8:Trip g9 g7.objs.size x y v:=s9.extBut _ _ (i7 zlt) (s8.extBut _ _ (i7 zlt) (F4 _ rfl));rw[hsz] at z8 t8;refine A9 ⟨_,rfl,?_⟩;show Q (.ref g7.objs.size) _;rw[hsz];exact hQ g9 z8 (up8 _ _ D.a2 t7) (j1.at λo e=>up8 _ o D.a3 e) (j5.at λo e=>up8 _ o D.a4 e) (j7.at λo e=>up8 _ o D.b1 e) t8 λc o c1 c2 c3 c4 c5 e=>up8 c o c1 (up7 c o c1 c2 c3 c4 c5 e)
theorem Sq {z TI TO i1 i2 i3 l1:A0}{k:Nat}{xs:Array A3}{Q:Fin->A5->Prop}(hh:A.handled=none)(D:ZA3 z TI TO i1 i2 i3)(m1:l1≠z)
   (hz:IsZip s.heap z TI TO .none) (hTI:Trip s.heap TI (.ref i1) (.ref i2) (.ref i3)) (h1:LI s.heap i1 l1 k) (hl1:LS s.heap l1 xs) (hx:xs[k]?=none)
   (hE:∀h' e,(∀c o,c≠z->c≠i1->s.heap.get? c=some o->h'.get? c=some o)->(∃o,h'.get? e=some o/\o.cls=.type "StopIteration")->E (.ref e) { s with heap:=h' }) :
   A6 (A8 prog w) A (O4.«zip.__next__» ⟨[.ref z],[]⟩) Q E s:=by
 show A6 _ _ (field (.ref z) 2>>=_) _ _ _;refine A2 (G7 hz rfl (x:=.bool false) rfl ?_);show A6 _ _ (field (.ref z) 3>>=_) _ _ _;refine A2 (G7 hz rfl (x:=.ref TI) rfl (A2 (P7 hTI rfl ?_)));show A6 _ _ (W9 (.ref z)>>=_) _ _ _;refine A2 ?_;unfold W9;refine A2 (G7 hz rfl (x:=.none) rfl (A9 ?_));simp only[if_true];refine A2 (V4 (A2 (G7 hz rfl (x:=.ref TO) rfl (A2 (W0 hz (by simp) λg1 z1 s1=>?_)))))
 replace z1:IsZip g1 z TI TO .ellipsis:=z1
 refine A2 ?_;simp only[CP,Ef,AM,y8];refine A2 (A2 (x4 ?_));show A6 _ _ (Q1 (.ref i1)>>=_) _ _ _;have h1':LI g1 i1 l1 k:=h1.at λo e=>s1.extBut _ o D.a3 e;have hl1':LS g1 l1 xs:=hl1.at λo e=>s1.extBut _ o m1 e
 have nz:∀{g:B5} {e:A0} {o:Obj},IsZip g z TI TO .ellipsis->g.get? e=some o->o.cls=.type "StopIteration"->e≠z:=λ{g e o} hz ho hc x=>by
  subst x;rw[hz] at ho;cases ho;exact absurd (show N0 "zip"=N0 "StopIteration" from hc) (by decide)
 refine A2 (Cc (s:={ s with heap:=g1 }) hh h1' hl1' hx λg2 e s2 ⟨oe,hoe,hce⟩=>?_);have z2:IsZip g2 z TI TO .ellipsis:=s2 _ _ D.a3.symm z1;exact W0 z2 (by simp) λg3 _ s3=>hE g3 e (λc o c1 c3 x=>s3.extBut _ _ c1 (s2 _ _ c3 (s1.extBut _ _ c1 x))) ⟨oe,s3.extBut _ _ (nz z2 hoe hce) hoe,hce⟩
end
abbrev zt1 (h:B5)(l1:A0):B5:=h.push (itO true l1)
abbrev zt2 (h:B5)(l1 l2:A0):B5:=(zt1 h l1).push (itO true l2)
abbrev zt3 (h:B5)(l1 l2 l3:A0):B5:=(zt2 h l1 l2).push (itO true l3)
abbrev zt4 (h:B5)(l1 l2 l3:A0):B5:=(zt3 h l1 l2 l3).push { cls:=.type "tuple",data:=.seq #[.ref h.objs.size,.ref (zt1 h l1).objs.size,.ref (zt2 h l1 l2).objs.size] }
abbrev zt5 (h:B5)(l1 l2 l3:A0):B5:=(zt4 h l1 l2 l3).push { cls:=.type "tuple",data:=.seq #[.none,.none,.none] }
abbrev zt6 (h:B5)(l1 l2 l3:A0):B5:=(zt5 h l1 l2 l3).push { cls:=.type "zip",data:=.fields #[.none,.bool false,.bool false,.ref (zt3 h l1 l2 l3).objs.size,.ref (zt4 h l1 l2 l3).objs.size] }
theorem Sr (l1 l2 l3:A0)(xs ys zs:Array A3) :
   Meets (O4.«zip.__new__» ⟨[.type "zip",.ref l1,.ref l2,.ref l3],[]⟩) (λ_ R s=>LS s.heap l1 xs/\LS s.heap l2 ys/\LS s.heap l3 zs/\R (.ok (.ret (.ref (zt5 s.heap l1 l2 l3).objs.size))) { s with heap:=zt6 s.heap l1 l2 l3 }):=
 .of_wp λprog w A R s hyp=>by
  obtain⟨hp,g,d,tk,os⟩:=s;obtain⟨k1,k2,k3,fin⟩:=hyp;have hsub:=sub_zip;have L1:SeB true (BL ⟨hp,g,d,tk,os⟩) l1 xs:=k1;have L2:SeB true (BL ⟨hp.push (itO true l1),g,d,tk,os⟩) l2 ys:=k2.at λo e=>C1 _ e;have L3:SeB true (BL ⟨(hp.push (itO true l1)).push (itO true l2),g,d,tk,os⟩) l3 zs:=k3.at λo e=>C1 _ (C1 _ e)
  wp_walk using DA L1,DA L2,DA L3
  exact⟨_,rfl,fin⟩
section
variable {prog:D3}{w:C3}{A:E8}{E:A3->A5->Prop}{s:A5}
theorem zip3B {l1 l2 l3:A0}{xs ys zs:Array A3}{Q:A3->A5->Prop}(hl1:LS s.heap l1 xs)(hl2:LS s.heap l2 ys)(hl3:LS s.heap l3 zs)
   (h:∀h',IsZip h' (s.heap.objs.size+5) (s.heap.objs.size+3) (s.heap.objs.size+4) .none->Trip h' (s.heap.objs.size+3) (.ref s.heap.objs.size) (.ref (s.heap.objs.size+1)) (.ref (s.heap.objs.size+2))->
     Trip h' (s.heap.objs.size+4) .none .none .none->LI h' s.heap.objs.size l1 0->LI h' (s.heap.objs.size+1) l2 0->LI h' (s.heap.objs.size+2) l3 0->(∀c o,s.heap.get? c=some o->h'.get? c=some o)->Q (.ref (s.heap.objs.size+5)) { s with heap:=h' }) :
   A6 (A8 prog w) A (call (.type "zip") [.ref l1,.ref l2,.ref l3]) Q E s:=by
 refine callType_new F.called_zip (by decide) (Sl _ _ _) (Sm _ _ _) (λobj=>Sn obj _ _ _) F.entry_zip_new (Sr l1 l2 l3 xs ys zs) ⟨hl1,hl2,hl3,?_⟩;have z1:(zt1 s.heap l1).objs.size=s.heap.objs.size+1:=T3 ..;have z2:(zt2 s.heap l1 l2).objs.size=s.heap.objs.size+2:=by rw[T3,z1]
 have z3:(zt3 s.heap l1 l2 l3).objs.size=s.heap.objs.size+3:=by rw[T3,z2]
 have z4:(zt4 s.heap l1 l2 l3).objs.size=s.heap.objs.size+4:=by rw[T3,z3]
 have z5:(zt5 s.heap l1 l2 l3).objs.size=s.heap.objs.size+5:=by rw[T3,z4]
 have up:∀{h:B5} {o o':Obj} {c:A0},h.get? c=some o->(h.push o').get? c=some o:=λe=>C1 _ e;have g6:(zt6 s.heap l1 l2 l3).get? (zt5 s.heap l1 l2 l3).objs.size=some _:=F4 _ rfl;have g5:(zt6 s.heap l1 l2 l3).get? (zt4 s.heap l1 l2 l3).objs.size=some _:=up (F4 _ rfl);have g4:(zt6 s.heap l1 l2 l3).get? (zt3 s.heap l1 l2 l3).objs.size=some _:=up (up (F4 _ rfl));have g3:(zt6 s.heap l1 l2 l3).get? (zt2 s.heap l1 l2).objs.size=some _:=up (up (up (F4 _ (Dy true l3))));have g2:(zt6 s.heap l1 l2 l3).get? (zt1 s.heap l1).objs.size=some _:=up (up (up (up (F4 _ (Dy true l2)))));have g1:(zt6 s.heap l1 l2 l3).get? s.heap.objs.size=some _:=up (up (up (up (up (F4 _ (Dy true l1))))));show _/\_;rw[z3,z4,z5] at g6;rw[z1,z2,z3] at g4;rw[z4] at g5;rw[z1] at g2;rw[z2] at g3;rw[z5];exact⟨⟨_,g6,rfl⟩,h _ g6 g4 g5 (Dz g1) (Dz g2) (Dz g3) λc o x=>up (up (up (up (up (up x)))))⟩
end
section
variable {X:Cx}
def It3 (K:A7)(a b c:A0):It:=
 ⟨λi H=>∃xs ys zs x y v,SqB true K H a xs/\SqB true K H b ys/\SqB true K H c zs/\xs[i]?=some x/\ys[i]?=some y/\zs[i]?=some v,
  λi H x H'=>∃p u v t,H p=none/\x=.ref p/\H'=upd H p (.tup [u,v,t])/\(∀xs,SqB true K H a xs->xs[i]?=some u)/\(∀ys,SqB true K H b ys->ys[i]?=some v)/\∀zs,SqB true K H c zs->zs[i]?=some t,
  λi H=>∃xs,SqB true K H a xs/\xs.length<=i⟩
theorem HM {l z TI TO i1 i2 i3:A0}{xs:List V}{jd:List (A0×Obj)}{σ:St}{H:Hp}{s:A5}{p q r:A3}(I:Inv X jd σ H s)(hTO:Trip s.heap TO p q r)(hq:SqB true X.K H l xs):l≠TO:=λzz=>by
 subst zz;obtain⟨jh,_,pl,_⟩:=I.list hq;obtain⟨o,e,c1,_⟩:=pl.isList;rw[hTO] at e;cases e;exact absurd (show N0 "tuple"=N0 "list" from c1) (by decide)
theorem Ss {P:D3}{w:C3}{K:A7}{elts:List Expr}{x1}{pos:Pos}(a b c z TI TO i1 i2 i3:A0)(D:ZA3 z TI TO i1 i2 i3) :
   Turn P w K (.Tuple elts x1 pos) (It3 K a b c) [z,TI,TO,i1,i2,i3] z (λi h=>IsZip h z TI TO .none/\Trip h TI (.ref i1) (.ref i2) (.ref i3)/\(∃p q r,Trip h TO p q r)/\LI h i1 a i/\LI h i2 b i/\LI h i3 c i) where
 mem:=by simp
 obj:=λi h st e he=>by
  obtain⟨hz,h1,⟨p,q,r,h2⟩,h3,h4,h5⟩:=st;obtain⟨o3,e3,_,d3⟩:=ItB.obj h3;obtain⟨o4,e4,_,d4⟩:=ItB.obj h4;obtain⟨o5,e5,_,d5⟩:=ItB.obj h5;have he':e=z\/e=TI\/e=TO\/e=i1\/e=i2\/e=i3:=by simpa using he
  rcases he' with rfl|rfl|rfl|rfl|rfl|rfl
  ·exact⟨_,hz,λv z=>by cases z⟩
  ·exact⟨_,h1,λv z=>by cases z⟩
  ·exact⟨_,h2,λv z=>by cases z⟩
  ·exact⟨_,e3,d3⟩
  ·exact⟨_,e4,d4⟩
  ·exact⟨_,e5,d5⟩
 keep:=λi h h' st k=>by
  obtain⟨hz,h1,⟨p,q,r,h2⟩,h3,h4,h5⟩:=st;exact⟨k z (by simp) _ hz,k TI (by simp) _ h1,⟨p,q,r,k TO (by simp) _ h2⟩,ItB.at h3 λo e=>k i1 (by simp) o e,ItB.at h4 λo e=>k i2 (by simp) o e,ItB.at h5 λo e=>k i3 (by simp) o e⟩
 item:=by
  intro X hP hw hK hc i jd s σ H E I hf st hg;subst hP hw hK;obtain⟨hz,hTI,⟨p,q,r,hTO⟩,h3,h4,h5⟩:=st;obtain⟨xs,ys,zs,x,y,t,hq1,hq2,hq3,hx,hy,ht⟩:=hg;obtain⟨is1,rv1,p1,hz1⟩:=I.seqB hq1;obtain⟨is2,rv2,p2,hz2⟩:=I.seqB hq2;obtain⟨is3,rv3,p3,hz3⟩:=I.seqB hq3;obtain⟨u,hu,ru⟩:=rv1.get hx;obtain⟨v,hv,rv⟩:=rv2.get hy;obtain⟨m,hm,rm⟩:=rv3.get ht;have ty:s.TypeIs (.ref z) "zip":=⟨_,hz,rfl⟩;have nl:∀{l:A0} {jh:Array A3},SeB true s.heap l jh->l≠z:=λp=>o8 p hz rfl (by decide) (by decide);unfold pyNext;refine A2 (p8 (T9 (name:=C7 "__next__") ty R3 (P6 R3 ty Ac (So D (nl p1) (nl p2) (nl p3) (HM (z:=z) (TI:=TI) (i1:=i1) (i2:=i2) (i3:=i3) I hTO hq1) (HM (z:=z) (TI:=TI) (i1:=i1) (i2:=i2) (i3:=i3) I hTO hq2) (HM (z:=z) (TI:=TI) (i1:=i1) (i2:=i2) (i3:=i3) I hTO hq3) (ItB.ne h3 p2) (ItB.ne h3 p3) (ItB.ne h4 p3) hz hTI hTO h3 h4 h5 p1 p2 p3 (by simpa using hu) (by simpa using hv) (by simpa using hm) λh' a1 a2 a3 a4 a6 a5 k=>A9 ?_) (Ab _))));refine⟨_,rfl,wpAny_letOwnedTupleGo_zip (s:={ s with heap:=h' }) a1 λh'' z'' sb=>?_⟩;have lt:∀{d:A0} {o:Obj},s.heap.get? d=some o->s.heap.objs.size≠d:=λe=>i7 (C4 e);have ht'':h''.get? s.heap.objs.size=some { cls:=.type "tuple",data:=.seq #[u,v,m] }:=(sb.2 _ (lt hz)).trans a5
  have k':∀d o,d∉[z,TI,TO,i1,i2,i3]->s.heap.get? d=some o->h''.get? d=some o:=λd o hb q=>by
   have hb1:d≠z:=λe=>hb (by simp[e]);exact(sb.2 d hb1).trans (k d o hb1 (λe=>hb (by simp[e])) (λe=>hb (by simp[e])) (λe=>hb (by simp[e])) (λe=>hb (by simp[e])) q)
  have I1:Inv X jd σ (upd H s.heap.objs.size (.tup [x,y,t])) { s with heap:=h'' }:=
   I.turnedNew (t':=s.toks) k' hf ⟨by show 3<=B8;decide,[u,v,m],.cons ru (.cons rv (.cons rm .nil)),⟨_,ht'',rfl,_,rfl⟩⟩
  obtain⟨o3,e3,_,_⟩:=ItB.obj h3;obtain⟨o4,e4,_,_⟩:=ItB.obj h4;obtain⟨o5,e5,_,_⟩:=ItB.obj h5
  refine⟨.ref s.heap.objs.size,_,I1,rfl,⟨_,x,y,t,I.fresh,rfl,rfl,λzs hzs=>by rw[I.seqB_inj hzs hq1];exact hx,λzs hzs=>by rw[I.seqB_inj hzs hq2];exact hy,λzs hzs=>by rw[I.seqB_inj hzs hq3];exact ht⟩,
   ⟨z'',sb.extBut _ _ D.a1 (k _ _ D.a1 D.a5 D.a6 D.a7 D.b2 hTI),⟨u,v,m,sb.extBut _ _ D.a2 a2⟩,ItB.at a3 λo e=>sb.extBut _ o D.a3 e,ItB.at a4 λo e=>sb.extBut _ o D.a4 e,ItB.at a6 λo e=>sb.extBut _ o D.b1 e⟩,λd hd=>?_⟩
  have hd':d=z\/d=TI\/d=TO\/d=i1\/d=i2\/d=i3:=by simpa using hd
  have hds:d≠s.heap.objs.size:=by
   rcases hd' with rfl|rfl|rfl|rfl|rfl|rfl
   ·exact(lt hz).symm
   ·exact(lt hTI).symm
   ·exact(lt hTO).symm
   ·exact(lt e3).symm
   ·exact(lt e4).symm
   ·exact(lt e5).symm
  rw[C0 hds];exact(hf d hd).1
 done:=by
  intro X hP hw hK hc i jd s σ H E I hf st hg;subst hP hw hK;obtain⟨hz,hTI,⟨p,q,r,hTO⟩,h3,h4,h5⟩:=st;obtain⟨xs,hq1,hmin⟩:=hg;obtain⟨is1,rv1,p1,hz1⟩:=I.seqB hq1;have l1:=rv1.length;have ty:s.TypeIs (.ref z) "zip":=⟨_,hz,rfl⟩;have hend:is1.toArray[i]?=none:=Da (by rw[F5];omega);unfold pyNext;refine A2 (p8 (T9 (name:=C7 "__next__") ty R3 (P6 R3 ty Ac (Sq (A:=X.A.in1) (I.ok.hd hc) D (o8 p1 hz rfl (by decide) (by decide)) hz hTI h3 p1 hend λh' e k he=>?_) (Ab _))));obtain⟨o,ho,hce⟩:=he;refine A2 (CA (T:="StopIteration") (b:=true) ⟨o,ho,hce⟩ CF (A9 ⟨rfl,?_⟩));exact I.turnedAll (t':=s.toks) (ch:=[z,TI,TO,i1,i2,i3]) (λd o hd e=>k d o (λz=>hd (by simp[z])) (λz=>hd (by simp[z])) e) hf
 self:=λ_ _ _ _ _ st h=>CB st.1 h
def iZip3 (K:A7)(ta:TA):TI:=λσ H R=>ta σ H λvs H1=>∃a b c,vs=[.ref a,.ref b,.ref c]/\(∃xs,SqB true K H1 a xs)/\(∃ys,SqB true K H1 b ys)/\(∃zs,SqB true K H1 c zs)/\R (It3 K a b c) H1
theorem Su {a b c:Expr}{ta:TA}{p pos:Pos}{elts:List Expr}{x1}{tpos:Pos}(hg:Gl X "zip")(hm:X.mg "zip"=none)(ha:PA X [a,b,c] ta)(hs:E2 [a,b,c] X.env=(false,eval a X.env)::E2 [b,c] X.env)(hs2:E2 [b,c] X.env=[(false,eval b X.env),(false,eval c X.env)]) :
   PI X (.Tuple elts x1 tpos) (.Call (.Name "zip" p) [a,b,c] [] pos) (iZip3 X.K ta):=by
 intro jd s σ H R I h;refine Call_ (U5 I hg hm boot_zip (Y8 (thn (ha pos jd s σ H _ I h) λus s1 ⟨vs,H1,I1,r1,q1⟩=>?_) (by rw[hs,hs2]) (by rw[hs2];rfl)));obtain⟨a,b,c,e,⟨xs,h1⟩,⟨ys,h2⟩,⟨zs,h3⟩,q⟩:=q1;subst e;cases r1 with
 | cons r rr =>
  cases rr with
  | cons r' rr =>
   cases rr with
   | cons r'' rr =>
    cases rr;cases r;cases r';cases r'';obtain⟨is1,rv1,p1,hz1⟩:=I1.seqB h1;obtain⟨is2,rv2,p2,hz2⟩:=I1.seqB h2;obtain⟨is3,rv3,p3,hz3⟩:=I1.seqB h3;refine zip3B p1 p2 p3 λh' e1 e2 e3 e4 e5 e6 hk=>?_;refine CB e1 ?_;have I2:Inv X jd σ H1 { s1 with heap:=h' }:=I1.kept (t':=s1.toks) hk;refine⟨s1.heap.objs.size+5,[s1.heap.objs.size+5,s1.heap.objs.size+3,s1.heap.objs.size+4,s1.heap.objs.size,s1.heap.objs.size+1,s1.heap.objs.size+2],_,_,H1,rfl,I2,Ss a b c _ _ _ _ _ _ ⟨by simp,by simp,by simp,by simp,by simp,by simp,by simp,by simp,by simp,by simp,by simp,by simp,by simp,by simp,by simp⟩,⟨e1,e2,⟨_,_,_,e3⟩,e4,e5,e6⟩,λd hd=>?_,q⟩
    have hd':s1.heap.objs.size<=d:=by
     simp only[C8,T1,or_false] at hd;rcases hd with rfl|rfl|rfl|rfl|rfl|rfl <;> omega
    exact I1.fpOk hd' (I1.hok.fresh hd')
end
end L2
namespace Pu
open PySem PySem.Spec L2
section
variable {T:PotK}{ι:Type}{K:A7}{F:ι->Cx}{a b c:Expr}{pa pb pc:pE}{pos:Pos}
def DH (xs ys zs:List PV):List PV:=((xs.zip ys).zip zs).map λy=>.tup [y.1.1,y.1.2,y.2]
theorem Lw {xs ys zs:List PV}{i:Nat}{x:PV}(h:(DH xs ys zs)[i]?=some x):∃u v t,xs[i]?=some u/\ys[i]?=some v/\zs[i]?=some t/\x=.tup [u,v,t]:=by
 unfold DH at h;rw[K6] at h;cases e:((xs.zip ys).zip zs)[i]? with
 |none=>rw[e] at h;cases h
 | some y =>
  rw[e] at h;obtain⟨h1,h2⟩:=D_.mp e;obtain⟨h3,h4⟩:=D_.mp h1;exact⟨y.1.1,y.1.2,y.2,h3,h4,h2,(E9 h).symm⟩
def HN (pa pb pc:pE):pA:=λenv n R=>pa env n λx je n1=>pb je n1 λy jf n2=>pc jf n2 λv jg n3=>match x,y,v with|.lst xs,.lst ys,.lst zs=>(xs.length<=ys.length/\xs.length<=zs.length)/\R (DH xs ys zs) jg n3|_,_,_=>False
theorem Sv {p:Pos}{elts:List Expr}{x1:Nat}{tpos:Pos}(hg:∀z,Gl (F z) "zip")(hm:∀z,(F z).mg "zip"=none)(ha:QE T K F a pa)(hb:QE T K F b pb)(hc:QE T K F c pc)(hs:D8 a=true:=by rfl)(hs2:D8 b=true:=by rfl)(hs3:D8 c=true:=by rfl)(hK:∀z,(F z).K=K:=by intro _;rfl):QI T K F (.Tuple elts x1 tpos) (.Call (.Name "zip" p) [a,b,c] [] pos) (HN pa pb pc):=by
 obtain⟨t,h1,h2⟩:=ha;obtain⟨u,h3,h4⟩:=hb;obtain⟨w,h5,h6⟩:=hc;refine⟨_,λz=>hK z▸Su (hg z) (hm z) (D4 (h1 z) (D4 (h3 z) (D4 (h5 z) G0 (B9 hs3)) (B9 hs2)) (B9 hs)) (B9 hs) (by rw[B9 hs2,B9 hs3];rfl),λC G σ H env n R Q hK hT S hp k=>?_⟩;refine h2 C G σ H env n _ _ hK hT S hp λx je n1 v H1 p1 S1 r1 f1=>?_;refine h4 C G σ H1 je n1 _ _ hK hT S1 p1 λy jf n2 w H2 p2 S2 r2 f2=>?_;refine h6 C G σ H2 jf n2 _ _ hK hT S2 p2 λy3 jg n3 w3 H3 p3 S3 r3 f3=>?_
 split at p3
 ·rename_i xs ys zs;obtain⟨⟨l1,l2⟩,p3⟩:=p3;obtain⟨a,vs,rfl,na,ra,sa⟩:=Be (b:=true) (xs:=xs) rfl (r1.fr (f2.trans f3));obtain⟨b,us,rfl,nb,rb,sb⟩:=Be (b:=true) (xs:=ys) rfl (r2.fr f3);obtain⟨c,ws,rfl,nc,rc,scq⟩:=Be (b:=true) (xs:=zs) rfl r3;refine⟨a,b,c,rfl,⟨vs,sa H3 λ_ _ _ e=>e⟩,⟨us,sb H3 λ_ _ _ e=>e⟩,⟨ws,scq H3 λ_ _ _ e=>e⟩,k _ _ _ _ _ p3 S3 ((f1.trans f2).trans f3) ?_⟩;intro G2 H4 hk hM hp hf;have ra':Reps K G2 H4 xs vs:=Reps.mono hk hM hp _ _ ra;have rb':Reps K G2 H4 ys us:=Reps.mono hk hM hp _ _ rb;have rc':Reps K G2 H4 zs ws:=Reps.mono hk hM hp _ _ rc;have zl:(DH xs ys zs).length=xs.length:=by unfold DH;simp only[B1,CS];omega
  refine⟨λi x e=>?_,λi hi=>⟨vs,sa H4 hk,by rw[<- ra.length,<- zl];exact hi⟩⟩;obtain⟨u,v,t,eu,ev,et,rfl⟩:=Lw e;obtain⟨u',eu',ru⟩:=ra'.get' eu;obtain⟨v',ev',rv⟩:=rb'.get' ev;obtain⟨t',et',rt⟩:=rc'.get' et;refine⟨⟨vs,us,ws,u',v',t',sa H4 hk,sb H4 hk,scq H4 hk,eu',ev',et'⟩,λx' H5 y=>?_⟩;obtain⟨p,u2,v2,t2,hn,rfl,rfl,y1,y2,y3⟩:=y;have q1:=y1 vs (sa H4 hk);have q2:=y2 us (sb H4 hk);have q3:=y3 ws (scq H4 hk);rw[eu'] at q1;rw[ev'] at q2;rw[et'] at q3;cases q1;cases q2;cases q3;exact⟨Same.lay1 hn,u7 (hf p hn) hn (.cons ru (.cons rv (.one rt)))⟩
 ·exact p3.elim
end
end Pu
end
section
namespace Pu
open PySem PySem.Spec L2
section
variable {ι:Type}{K:A7}{F:ι->Cx}{a b c d:Expr}{pos p1 p2 q1 q2 p3:Pos}{pa pb pc pd:pE}{st:Stmt}
def HP (i j:Nat)(pa pb pc pd:pE):pS:=λD env n=>pa env n λx je n1=>pb je n1 λy jf n2=>match x,y with
 | .scr ns, .int k => (ns.length <= 63 /\ 0 <= k /\ k <= 1000) /\ (pc jf n2 fun x jg n3 => pd jg n3 fun y env4 n4 => match x, y with
  |.scr ns,.int k=>(ns.length<=63/\0<=k/\k<=1000)/\∀q q',D.nx ((env4.set i (some (.own []))).set j (some (.v (.lst [.pot q,.pot q'])))) n4
  |_,_=>False)
 |_,_=>False
theorem Lx {G:Gh}{H:Hp}{p:A0}{o:HO}(h:H p=none):Ext G H ⟨p::G.M,G.pots++[p]⟩ (upd H p o):=⟨λb o _ e=>Same.lay1 h b o e,λc hc=>(C8.mp (show c∈p::G.M from hc)).elim (λz=>.inr (z▸h)) .inl,λk q e=>by
   obtain⟨hk,_⟩:=E6.mp e;show(G.pots++[p])[k]?=_
   rw[r0 hk];exact e⟩
theorem Sw (i j:Nat){x:Str}{k m:Nat}{ps:List Str}(h:∀z ta,AW (F z) [.List [] p3,.List [.Call (.Name x p1) [a,b] [] q1,.Call (.Name x p2) [c,d] [] q2] pos] ta->SW (F z) st (tPar i j ta))(hG:∀z,Kn (F z).prog (F z).w (F z).K (F z).mg (F z).base x k ps (Hd K))(hr:∀z,Room m (F z).A)(hk:k<=m)(hg:∀z,Gl (F z) x)
   (ha:QE potL K F a pa) (hb:QE potL K F b pb) (hc:QE potL K F c pc) (hd:QE potL K F d pd) (n1:D8 a=true:=by rfl) (n2:D8 b=true:=by rfl) (n3:D8 c=true:=by rfl) (n4:D8 d=true:=by rfl) (hdb:(x == ("__debug__":Str))=false:=by decide):QS potL true K F st (HP i j pa pb pc pd):=by
 obtain⟨t1,a1,a2⟩:=ha;obtain⟨t2,b1,b2⟩:=hb;obtain⟨t3,c1,c2⟩:=hc;obtain⟨t4,d1,d2⟩:=hd;refine⟨_,λz=>(h z _ ⟨D4 (Eu G0) (D4 (Eu (D4 (GC (hG z) (hr z) hk (hg z) (D4 (a1 z) (D4 (b1 z) G0 (B9 n2)) (B9 n1)) hdb (B9 n1) (by rw[B9 n2];rfl)) (D4 (GC (hG z) (hr z) hk (hg z) (D4 (c1 z) (D4 (d1 z) G0 (B9 n4)) (B9 n3)) hdb (B9 n3) (by rw[B9 n4];rfl)) G0))) G0)⟩).h,λC G σ H env n PD D hK hT hn S hp L=>?_⟩;refine⟨by show 0<=B8;decide,λa0 h0=>?_⟩;have aM:=S.fresh h0;have S0:=S.guard [] h0;have HQ:a0∉C.M0:=λz=>aM (S.sup a0 z);have aH:=S.old h0;have x0:Ext G H ⟨a0::G.M,G.pots⟩ (upd H a0 (.lst [])):=l9 h0;refine a2 (C.guard a0 []) _ σ _ env n _ _ hK hT S0 hp λx je n1 v H1 q1 S1 r1 f1=>?_;refine b2 (C.guard a0 []) _ σ H1 je n1 _ _ hK hT S1 q1 λy jf n2 w H2 q2 S2 r2 f2=>?_
 split at q2
 ·rename_i ns kk;obtain⟨ad,ev,hq⟩:=BW (.inl (r1.fr f2));refine⟨ad,ns,kk,by rw[ev,show w=.int kk from r2];rfl,hq,q2.1.1,q2.1.2.1,q2.1.2.2,λH3 sm p own seed hn' ok=>?_⟩;have S3:=(S2.same sm).pot hn hT hn' ok;have x3:=(x0.trans (Ext.fr ((f1.trans f2).trans (Fr.of sm)))).trans (Lx (o:=.lst [.int own,.int seed,.int 0]) hn');refine c2 (C.guard a0 []) _ σ _ jf n2 _ _ hK hT S3 q2.2 λx jg n3 v H4 q4 S4 r4 f4=>?_;refine d2 (C.guard a0 []) _ σ H4 jg n3 _ _ hK hT S4 q4 λy env4 n4 w H5 q5 S5 r5 f5=>?_
  split at q5
  ·rename_i ns' kk';obtain⟨ad',ev',hq'⟩:=BW (.inl (r4.fr f5));refine⟨ad',ns',kk',by rw[ev',show w=.int kk' from r5];rfl,hq',q5.1.1,q5.1.2.1,q5.1.2.2,λH6 sm' p' own' seed' hn'' ok'=>?_⟩;have S6:=(S5.same sm').pot hn hT hn'' ok';have x6:=(x3.trans (Ext.fr ((f4.trans f5).trans (Fr.of sm')))).trans (Lx (o:=.lst [.int own',.int seed',.int 0]) hn'');refine⟨by show 2<=B8;decide,λl hl=>⟨_,_,rfl,?_⟩⟩;have lM:=S6.fresh hl;have S7:=S6.same (Same.lay1 (o:=.lst [.ref p,.ref p']) hl);obtain⟨S8,e8,no⟩:=S7.unguard HQ S.p0.1 aH;have am:=S7.sup a0 C6
   have ap:a0∉((G.pots++[p])++[p']):=λz=>by
    by_cases hz:a0∈C.pots0
    ·exact HQ (S.p0.1 a0 hz)
    ·exact S7.newp a0 z hz C6
   refine L.nx _ _ _ _ _ (q5.2 G.pots.length (G.pots.length+1)) ((S8.slot i (s:=.own []) (v:=.ref a0) ⟨a0,[],rfl,am,HQ,ap,e8,rfl⟩ λ_ _ _ e=>by cases e;exact no).set j (x:=.lst [.pot G.pots.length,.pot (G.pots.length+1)]) (v:=.ref l) ?_) (x6.trans (Ext.fr (Fr.of (Same.lay1 hl))));refine⟨l,_,rfl,⟨lM,F9⟩,⟨_,_,rfl,⟨p,?_,rfl⟩,⟨_,_,rfl,⟨p',?_,rfl⟩,rfl⟩⟩⟩
   ·show((G.pots++[p])++[p'])[G.pots.length]?=some p;simp
   ·show((G.pots++[p])++[p'])[G.pots.length+1]?=some p';simp
  ·exact q5.elim
 ·exact q2.elim
end
end Pu
end
section
namespace L2
open PySem PySem.W PySem.Spec PyProof.Rows
section
variable {prog:D3}{w:C3}{A:E8}{E:A3->A5->Prop}{s:A5}
theorem Sx {l:A0}{vs:List A3}{Q:List A3->A5->Prop}(hl:IsTup s.heap l vs.toArray)
   (h:Q vs { s with heap:=(s.heap.push (seqObj "list" #[] 0)).update s.heap.objs.size (R4 (·++vs.toArray)) }) (hsz:vs.length<=B8) :
   A6 (A8 prog w) A (collect (.ref l)) Q E s:=by
 obtain⟨o,ho,hc,n,hd⟩:=hl;unfold collect;refine A2 (wpAny_runValue (CC entry_proto_collect' ?_));show A6 _ _ (newList []>>=λa=>again (.builtin "list.__iadd__" ⟨[a,.ref l],[]⟩)) _ _ s;refine A2 (wpAny_newList (A9 ⟨Code.quiet_builtin _ (by decide +kernel),CC entry_list_iadd' ?_⟩));show A6 _ _ (IX (.ref s.heap.objs.size) (.ref l) (.ref s.heap.objs.size)) _ _ { s with heap:=s.heap.push (seqObj "list" #[] 0) };unfold IX;have ho':(s.heap.push (seqObj "list" #[] 0)).get? l=some o:=C1 _ ho;refine A2 (x5 (T:="tuple") ⟨o,ho',hc⟩ ?_);rw[jw (by rw[show(N0 "tuple" == N0 "tuple")=true by rfl];simp)];refine A2 (listItems_at ho' hd (A2 (listItems_at (xs:=#[]) (n:=0) (F4 _ rfl) rfl ?_)));rw[jy (by simp)];refine A2 (listUpdate_at (xs:=#[]) (n:=0) (F4 _ rfl) rfl ?_ (M5 _) (by show(#[]++vs.toArray).size<=B8+1;simp only[Array.size_append,F5,List.length_nil];omega));refine A9 ?_;show A6 (A8 prog w) A (load s.heap.objs.size>>=_) Q E { s with heap:=(s.heap.push (seqObj "list" #[] 0)).update s.heap.objs.size (R4 (·++vs.toArray)) };refine A2 (wpAny_load (get?_update_seq (F4 _ rfl) _) ?_);show A6 _ _ (pure ((#[]:Array A3)++vs.toArray).toList) Q E _
 rw[show((#[]:Array A3)++vs.toArray).toList=vs by simp];exact A9 h
end
end L2
end
section
namespace L2
open PySem PySem.W PySem.Spec PyProof.Rows
def nthS (zs:List Str)(i:Nat):Str:=zs.getD i (C7 "")
def ltS (zs:List Str)(i j:Nat):Bool:=Hl (.inr (nthS zs i)) (.inr (nthS zs j))
def outS (zs:List Str):List Str:=if zs.length<2 then zs else(Kr.run (ltS zs) (p9 zs.length)).toList.map (nthS zs)
theorem Ly (zs:List Str):(outS zs).Perm zs:=by
 unfold outS
 by_cases c:zs.length<2
 ·rw[jw c]
 ·rw[jy c];refine((Array.perm_iff_toList_perm.mp (Kr.sort_perm (by omega))).map (nthS zs)).trans (List.Perm.of_eq ?_)
  apply List.ext_getElem (by simp)
  intro i h2 h3;simp[nthS,h3]
section
variable {X:Cx}
theorem Sy:M6 X (.builtin "sorted") (λxs H Q=>∃p zs,xs=[.ref p]/\SqT X.K H p (zs.map V.str)/\zs.length<64/\∀l,H l=none->Q (.ref l) (upd H l (.lst ((outS zs).map V.str)))):=by
 intro jd s σ H xs us Q I r h;obtain⟨p,zs,rfl,hq,h64,q⟩:=h;obtain⟨u,rfl,rx⟩:=u5 r;cases rx;obtain⟨jh,r',pl,hz⟩:=I.tuple hq;have hlen:=r'.length;rw[B1] at hlen hz
 have nth:∀i,i<jh.length->∃t,jh.getD i .none=.str (nthS zs i) t:=λi hi=>by
  have:=QU r' .non .none i (by rw[B1];omega);rw[x9,K6,D7 (show i<zs.length by omega)] at this;have e:nthS zs i=zs[i]:=by unfold nthS;rw[x9,D7 (show i<zs.length by omega)];rfl
  rw[e];exact this
 refine QM (vs:=jh) (lt:=ltS zs) (by omega) (λR hR=>?_) (λh2 A E h1 tk k=>?_) λh2 tk D e k hD ho=>?_
 ·refine Sx pl (hR _ s.toks (λb o e=>?_) ?_) (by omega)
  ·rw[Heap.get?_update_ne _ _ _ _ (F3 (C4 e))];exact C1 _ e
  ·rw[Heap.size_update,size_push'];omega
 ·refine⟨oneType',λQ q=>kas_kind (T:=.type "str") h2 (λv hv=>?_) rfl rfl q,λi j C hi hj c=>?_⟩
  ·obtain⟨i,hi,rfl⟩:=Bs hv;obtain⟨t,e⟩:=nth i hi;rw[x9,D7 hi] at e;have e:jh[i]=.str (nthS zs i) t:=e;rw[e];exact Looks.of_pure rfl
  ·obtain⟨t,e1⟩:=nth i hi;obtain⟨t',e3⟩:=nth j hj;unfold kas_ask;rw[e1,e3,keyLt'_oneType];exact QP (x:=.inr (nthS zs i)) (y:=.inr (nthS zs j)) (xs:=[]) (ys:=[]) ⟨t,rfl⟩ ⟨t',rfl⟩ trivial c
 ·have ol:=(Ly zs).length_eq
  have vo:Vals ((outS zs).map V.str) (V6 (ltS zs) jh):=by
   unfold outS V6;rw[<- hlen]
   by_cases c:zs.length<2
   ·rw[jw c,jw c];exact r'
   ·rw[jy c,jy c,i5]
    have hm:∀i∈(Kr.run (ltS zs) (p9 zs.length)).toList,i<jh.length:=λi hi=>by
     have:=(Array.perm_iff_toList_perm.mp (Kr.sort_perm (by omega))).mem_iff.mp hi;rw[<- hlen];simpa using this
    generalize (Kr.run (ltS zs) (p9 zs.length)).toList=is at hm
    induction is with
    |nil=>exact .nil
    |cons i is ih=>exact .cons (nth i (hm i C6)) (ih λj hj=>hm j (C9 _ hj))
  exact⟨.ref D,_,I.laid (t':=tk) k hD (show J4 X.prog X.w _ h2 _ (.lst ((outS zs).map V.str)) from⟨by rw[B1];omega,_,e,vo,ho⟩),rfl,q _ (I.hok.fresh hD)⟩
end
end L2
namespace Pu
open PySem PySem.Spec L2
section
variable {T:PotK}{ι:Type}{K:A7}{F:ι->Cx}{e:Expr}{pe:pE}{pos:Pos}
theorem Lz {G:Gh}{H:Hp}:∀zs:List Str,Reps K G H (zs.map PV.str) (zs.map V.str)
 |[]=>rfl
 |z::zs=>⟨_,_,rfl,rfl,Lz zs⟩
theorem LA {G:Gh}{H:Hp}:∀(zs:List Str) {us:List V},Reps K G H (zs.map PV.str) us->us=zs.map V.str
 |[],_,h=>h
 | z :: zs, _, h => by
  obtain⟨v,t,rfl,h1,h2⟩:=h;rw[LA zs h2,show v=.str z from h1];rfl
def DI (pe:pE):pA:=λenv n R=>pe env n λx je n1=>match x with|.tup xs=>∃zs:List Str,xs=zs.map PV.str/\zs.length<64/\R ((outS zs).map PV.str) je n1|_=>False
theorem HR {p:Pos}(hg:∀z,Gl (F z) "sorted")(hm:∀z,(F z).mg "sorted"=none)(ha:QR T K F e pe)(hs:D8 e=true:=by rfl)(hK:∀z,(F z).K=K:=by intro _;rfl):QN T K F (.Call (.Name "sorted" p) [e] [] pos) (DI pe):=by
 obtain⟨t,h1,h2⟩:=ha;refine⟨_,λz=>Aj (hK z▸Sy) (hg z) (hm z) Pa (D4 (h1 z) G0 (B9 hs)) (by decide) (by decide) (B9 hs),λC G σ H env n R Q hK hT S hp k=>?_⟩;refine EG h2 hK hT S hp λx je n1 v H1 p1 S1 r1 f1=>?_;have rd:RdV K G H1 x v:=hK▸r1.rd S1;cases x with
 | tup xs =>
  obtain⟨zs,rfl,h64,q⟩:=p1;obtain⟨a,us,rfl,hq,r⟩:=rd.tup;rw[LA zs r] at hq;exact⟨a,zs,rfl,hq,h64,λl hl=>k _ _ _ _ _ _ q S1 f1 hl (Lz _)⟩
 |_=>exact p1.elim
end
end Pu
end
section
namespace L2
open PySem PySem.Spec PyProof.Rows
theorem Sz {X:Cx}{scope:F8}{cl:List (Str×A0)}{N:List Str}{cs:List (Option Nat)}{jm t1 i1 t2 i2:Expr}{jn:List Expr}{pos spos py:Pos}{wi1 wi2:TI}{g1 g2:TG}{tt:TT}{te:TE}{i:Nat}{y:Str}(hN:X.N.Nodup)(hiy:X.N[i]?=some y)(hy:Loc X.env.scope y)(S:Z5 X scope cl N cs)(hc:X.calm=true)(hi:PI X t1 i1 wi1)
   (hb:∀(fp:List A0) (C:A0) (s:A5) (H:Hp),PG (E4 X scope cl N fp C s H) t1 g1/\PI (E4 X scope cl N fp C s H) t2 i2 wi2/\PG (E4 X scope cl N fp C s H) t2 g2/\PIf (E4 X scope cl N fp C s H) jn tt/\PE (E4 X scope cl N fp C s H) jm te)
   (hs2:∀fp C s H x,N6 i2 (E4 X scope cl N fp C s H).env x=pure x)
   (hsw:Y2 (LC2 jm t1 i1 t2 i2 jn scope pos) (some (.Name y py)) spos.line X.env=pure true:=by rfl)
   (hs:∀x,N6 i1 X.env x=pure x:=by intro _;rfl) (hff:X.fn y=true\/X.env.scope.names.lookup y=some .local:=by first|exact .inl rfl|exact .inr rfl|assumption) :
   PS X (.Assign [.Name y py] (LC2 jm t1 i1 t2 i2 jn scope pos) spos) (tAsg (KZ cs wi1 g1 wi2 g2 tt te) (R5 i)):=by
 intro jd s σ H DD I h;rw[exec_Assign_Name_used _ _ _ _ hsw];exact A2 (W3 (A2 (A2 (K4 (Q:=λ_ s'=>SP X jd DD .next s') (Ex S hc hi hs I h λfp it tn J s2 H2 s₃ T stat I2 f2 q Ic st1 fr1=>loop2 (Y:=E4 X scope cl N fp (s2.heap.objs.size+1) s2 H2) rfl hc (hb _ _ _ _) (hs2 _ _ _ _) T stat q (λs4 σ3 H3 I4 qn=>Kw hN hiy hy hff I2 f2 I4 qn) Ic st1 fr1) (λ_ s' hq=>A9 (A9 hq)) λ_ _ e=>e))))
end L2
end
section
namespace Pu
open PySem PySem.Spec L2
section
variable {T:PotK}{ι:Type}{K:A7}{F:ι->Cx}{pg1 pg2:pG}{pos:Pos}
theorem SA {scope:F8}{cl:ι->List (Str×A0)}{N:List Str}{cs:List (Option Nat)}{jm t1 i1 t2 i2:Expr}{jn:List Expr}{pi1 pi2:pA}{ptt:pT}{pte:pE}(S:∀z,Z5 (F z) scope (cl z) N cs)(hc:∀z,(F z).calm=true)(hi:QI T K F t1 i1 pi1)
   (hg:QG K (λy:ι×List A0×A0×A5×Hp=>E4 (F y.1) scope (cl y.1) N y.2.1 y.2.2.1 y.2.2.2.1 y.2.2.2.2) t1 pg1)
   (hi2:QI T K (λy:ι×List A0×A0×A5×Hp=>E4 (F y.1) scope (cl y.1) N y.2.1 y.2.2.1 y.2.2.2.1 y.2.2.2.2) t2 i2 pi2)
   (hg2:QG K (λy:ι×List A0×A0×A5×Hp=>E4 (F y.1) scope (cl y.1) N y.2.1 y.2.2.1 y.2.2.2.1 y.2.2.2.2) t2 pg2)
   (ht:QIf T K (λy:ι×List A0×A0×A5×Hp=>E4 (F y.1) scope (cl y.1) N y.2.1 y.2.2.1 y.2.2.2.1 y.2.2.2.2) jn ptt)
   (he:QE T K (λy:ι×List A0×A0×A5×Hp=>E4 (F y.1) scope (cl y.1) N y.2.1 y.2.2.1 y.2.2.2.1 y.2.2.2.2) jm pte)
   (hs:∀z x,N6 i1 (F z).env x=pure x:=by intro _ _;rfl) (hs2:∀z fp C s H x,N6 i2 (E4 (F z) scope (cl z) N fp C s H).env x=pure x:=by intro _ _ _ _ _ _;rfl):QNC T K F (LC2 jm t1 i1 t2 i2 jn scope pos) (Cm cs pi1 pg1 pi2 pg2 ptt pte):=by
 obtain⟨wi,i1',i2'⟩:=hi;obtain⟨g,hg0,hg⟩:=hg;obtain⟨wj,j1,j2⟩:=hi2;obtain⟨g2,hg20,hg2⟩:=hg2;obtain⟨tt,ht0,ht⟩:=ht;obtain⟨te,he0,he⟩:=he;refine⟨_,λz=>K_ (S z) (hc z) (i1' z) (λfp C s H=>⟨hg0 (z,fp,C,s,H),j1 (z,fp,C,s,H),hg20 (z,fp,C,s,H),ht0 (z,fp,C,s,H),he0 (z,fp,C,s,H)⟩) (hs2 z) (hs z),λz i y py spos hN hi hy hsw hf=>Sz hN hi hy (S z) (hc z) (i1' z) (λfp C s H=>⟨hg0 (z,fp,C,s,H),j1 (z,fp,C,s,H),hg20 (z,fp,C,s,H),ht0 (z,fp,C,s,H),he0 (z,fp,C,s,H)⟩) (hs2 z) hsw (hs z) hf,λC G σ H env n R Q hK hT S hp k=>?_⟩;refine i2' C G σ H env n _ _ hK hT S hp λxs je n1 J H1 p1 S1 f1 hJ=>?_;intro D hD;have hDM:=S1.fresh hD;refine La (G:=G) hg j2 hg2 ht he hJ p1.1 hD (hT▸hK▸Dr S1 cs) p1.2 λys n2 us H' rr hpots hk eD ry=>?_;have nD:∀b o,H1 b=some o->b≠D:=λb o e z=>by rw[z,hD] at e;cases e
 have hk2:∀b o,b∉G.pots->H1 b=some o->cutH H' D b=some o:=λb o hb e=>by rw[N4 (nD b o e)];exact hk b o hb e
 have nc:∀b,b∉D::G.M->b≠D:=λb hb z=>hb (by rw[z];exact C6);have np:∀p∈G.pots,p≠D:=λp hp z=>hDM (z▸(S1.pots p hp).1)
 have Sb:SR C G σ (cutH H' D) je n2:=S1.call hk2 λp hp=>by
  subst hT;have h2:=C.T.keep (hpots p hp) (H':=cutH H' D) (N4 (np p hp)) λb o hb e=>by rw[N4 (nc b hb)];exact e
  exact C.T.more h2 λa ha=>.inl (C9 _ ha)
 have:=k ys je n2 D us (cutH H' D) rr Sb (f1.trans λb o hb e=>hk2 b o (λz=>hb (S1.pots b z).1) e) (by unfold cutH;rw[jw rfl]) ?_
 ·rw[Ds eD] at this;exact this
 ·exact Reps.mono (G:=⟨D::G.M,G.pots⟩) (λb o hb e=>by rw[N4 (nc b hb)];exact e) (λa ha=>.inl (C9 _ ha)) (λ_ _ e=>e) _ _ ry
end
end Pu
end
section
namespace Pu
open PySem PySem.Spec L2
section
variable {T:PotK}{np:Bool}{ι:Type}{K:A7}{F:ι->Cx}{a b c:Expr}{st:Stmt}{sl:pSlN}
theorem SC (i j k:Nat)(h:∀z ta,AW (F z) [a,b,c] ta->SW (F z) st (GD i j k ta))(h1:QLs T K F [a,b,c] sl):QS T np K F st (Hs [i,j,k] sl):=by
 obtain⟨t,a1,a2⟩:=h1;refine⟨_,λz=>(h z _ ⟨a1 z⟩).h,λC G σ H env n PD D hK hT hn S hp L=>?_⟩;refine a2 C G σ H env n _ _ hK hT S hp λss jf n2 vs G2 H2 q S2 x2 g=>?_;have lv:vs.length=3:=g.len.symm.trans q.1
 match vs,lv,g with
 |[u,v,w],_,g=>exact⟨u,v,w,rfl,L.nx _ _ _ _ _ q.2 (SR.setAll [i,j,k] ss [u,v,w] S2 g) x2⟩
end
end Pu
end
section
namespace Tb
open PySem L2 Pu
abbrev M7:pF:=Cb
def LB:pS:=(qRet (qOp (wEq 4) (qOp wIx (qV 0) (qC (.int 1))) (qC (.int 0))))
def Fk:pF:=fnP ["meeting"] ["meeting"] LB
def LC:pS:=(qRet (O0 (qOp wLe (qV 1) (qOp wIx (qV 0) (qC (.int 0)))) (qOp wLe (qV 1) (qOp wAdd (qOp wIx (qV 0) (qC (.int 1))) (qC (.int 2))))))
def Fm:pF:=fnP ["meeting","n"] ["meeting","n"] LC
def LD:pS:=(qSeq (qSet 2 (qOp wIx (qV 0) (qC (.int 0))))
   (qRet (qOp EA (qOp wSub (qOp wAdd (qV 1) (qV 2)) (qC (.int 1))) (qV 2))))
def HS:pF:=fnP ["meeting","n","size"] ["meeting","n"] LD
def LE:pS:=(qSeq (qSet 3 (qOp wIx (qV 0) (qC (.int 0))))
   (qSeq (qSet 4 (qOp wMul (qV 2) (qV 3)))
   (qRet (qTup (A1 (qV 4) (A1 (qOp wMin (qOp wAdd (qV 4) (qV 3)) (qOp wSub (qV 1) (qC (.int 1)))) qNil))))))
def HU:pF:=fnP ["meeting","n","k","size","first"] ["meeting","n","k"] LE
def LF:pS:=(qSeq (qOwn 2 (qLst qNil))
   (qSeq (qFor (l8 (B6 HS (A1 (qV 0) (A1 (qV 1) qNil)))) (gN 3) (qSeq (qAsg (B6 HU (A1 (qV 0) (A1 (qV 1) (A1 (qV 3) qNil)))) (gTp 2 (gCn (gN 4) (gCn (gN 5) gNl))))
   (qFor (BY (qV 4) (qV 5)) (gN 6) (qSeq (qSet 7 (qOp wMin (qOp wAdd (qOp wAdd (qV 6) (qC (.int 1))) (qOp wIx (qV 0) (qC (.int 1)))) (qV 5)))
   (Ha 2 (qL (O2 [none,some 6] (BY (qOp wAdd (qV 6) (qC (.int 1))) (qOp wAdd (qV 7) (qC (.int 1)))) (gN 0) qTru (qTup (A1 (qV 1) (A1 (qV 0) qNil))))))))))
   (qRet (qUn V5 (qO 2)))))
def p5:pF:=fnP ["meeting","n","pairs","k","first","last","p","furthest"] ["meeting","n"] LF
def LG:pS:=(qSeq (qOwn 3 (Dp (qV 0)))
   (qSeq (DB 3 (qOp wIx (qV 0) (qV 2)) (qOp wIx (qV 0) (qV 1)) (qV 1) (qV 2))
   (qRet (qUn V5 (qO 3)))))
def T7:pF:=fnP ["row","one","other","boats"] ["row","one","other"] LG
def LH:pS:=(qSeq (qSet 2 (B6 p5 (A1 (qV 0) (A1 (qUn wLen (qV 1)) qNil))))
   (qSeq (HJ 3 (qV 1) (qC (.int 0)))
   (qSeq (qSet 4 (qL (qLst (A1 (qV 1) qNil))))
   (qSeq (u9 (EQ (qV 4)) (qSeq (qOwn 5 (qLst qNil))
   (qSeq (qFor (qIl (qV 4)) (gN 6) (qFor (qIt (qV 2)) (gTp 2 (gCn (gN 7) (gCn (gN 8) gNl))) (qSeq (qSet 9 (B6 T7 (A1 (qV 6) (A1 (qV 7) (A1 (qV 8) qNil)))))
   (qIfS (qB (Bh 3 (qV 9))) (qSeq (Ci 3 (qV 9) (qOp wAdd (Y1 3 (qV 6)) (qC (.int 1))))
   (O6 (n6 5 (qV 9)))) qNx))))
   (v5 5 (qSet 4 (qV 5))))))
   (Cq 3 (qRet (qV 3)))))))
def HV:pF:=fnP ["meeting","other","places","numbers","fresh","grown","row","p","q","ahead"] ["meeting","other"] LH
def LJ:pS:=(qSeq (qSet 3 (B6 p5 (A1 (qV 0) (A1 (qUn wLen (qV 1)) qNil))))
   (qSeq (qSet 4 (qV 1))
   (qSeq (qOwn 5 (qLst qNil))
   (qSeq (u9 (qB (qOp wGt (qIxT (qV 2) (qV 4)) (qC (.int 0)))) (qSeq (qSet 6 (qL (O2 [none,some 2,some 4] (qIt (qV 3)) (gN 0) (qB (qOp wLt (qIxT (qV 1) (B6 T7 (A1 (qV 2) (A1 (qOp wIx (qV 0) (qC (.int 0))) (A1 (qOp wIx (qV 0) (qC (.int 1))) qNil))))) (qIxT (qV 1) (qV 2)))) (qV 0))))
   (qSeq (qAsg (qOp wIx (qV 6) (qC (.int 0))) (gTp 2 (gCn (gN 7) (gCn (gN 8) gNl))))
   (qSeq (O6 (n6 5 (qTup (A1 (qOp wIx (qV 4) (qV 8)) (A1 (qOp wIx (qV 4) (qV 7)) qNil)))))
   (qSet 4 (B6 T7 (A1 (qV 4) (A1 (qV 7) (A1 (qV 8) qNil)))))))))
   (qRet (qUn V5 (qO 5)))))))
def HW:pF:=fnP ["meeting","row","numbers","places","stands","touches","nearer","p","q"] ["meeting","row","numbers"] LJ
def LK:pS:=(qSeq (qSet 2 (qL (O2 [none,some 1] (qIt (qV 0)) (gN 0) qTru (P5 (qV 1) (qV 0)))))
   (qRet (qUn wLen (qL (Cm [none,none,none,some 2] (EK (qV 2)) (gTp 2 (gCn (gN 0) (gCn (gN 1) gNl))) (qIl (qSl (qV 3) (Z6 (qOp wAdd (qV 0) (qC (.int 1)))) qNo)) (gN 2) (qB (qOp wLt (qV 2) (qV 1))) (qC (.int 1)))))))
def Fn:pF:=fnP ["row","other","goals"] ["row","other"] LK
def LM:pS:=(qSeq (qSet 2 (qV 0))
   (qSeq (qOwn 3 (qLst qNil))
   (qSeq (qFor (EU (qV 1)) (gTp 2 (gCn (gN 4) (gCn (gN 5) gNl))) (qFor (HD (qV 4) (P5 (qV 2) (qV 5))) (gN 6) (qSeq (O6 (n6 3 (qTup (A1 (qV 5) (A1 (qOp wIx (qV 2) (qV 6)) qNil)))))
   (qSet 2 (B6 T7 (A1 (qV 2) (A1 (qV 6) (A1 (qOp wAdd (qV 6) (qC (.int 1))) qNil))))))))
   (qRet (qUn V5 (qO 3))))))
def HX:pF:=fnP ["row","other","stands","touches","place","boat","q"] ["row","other"] LM
def LN:pS:=(qSeq (qSet 2 (qV 0))
   (qSeq (qOwn 3 (qLst qNil))
   (qSeq (qFor (EU (qV 1)) (gTp 2 (gCn (gN 4) (gCn (gN 5) gNl))) (qIfS (qB (qOp (wNe 4) (qOp wIx (qV 2) (qV 4)) (qV 5))) (qSeq (O6 (n6 3 (qTup (A1 (qV 5) (A1 (qOp wIx (qV 2) (qV 4)) qNil)))))
   (qSet 2 (B6 T7 (A1 (qV 2) (A1 (qV 4) (A1 (P5 (qV 2) (qV 5)) qNil)))))) qNx))
   (qRet (qUn V5 (qO 3))))))
def HY:pF:=fnP ["row","other","stands","touches","place","boat"] ["row","other"] LN
def LO:pS:=(qSeq (Ht 2)
   (qSeq (qSet 3 (qC (.int 0)))
   (qSeq (qFor (qIt (qV 0)) (gN 4) (qSeq (qIfS (qB (qInS true 2 (qV 4))) (qAug 3 Hc (qC (.int 1))) qNx)
   (qSeq (qSet 5 (qV 4))
   (u9 (qB (qInS true 2 (qV 5))) (qSeq (O6 (Ck 2 (qV 5)))
   (qSet 5 (qOp wIx (qV 1) (P5 (qV 0) (qV 5)))))))))
   (qRet (qV 3)))))
def DJ:pF:=fnP ["row","other","seen","many","boat","at"] ["row","other"] LO
def LP:pS:=(qSeq (qSet 1 (qL (qLst (A1 (qTup qNil) qNil))))
   (qSeq (qFor (l8 (qUn wLen (qV 0))) (gN 2) (qSet 1 (qL (Cm [none,none,some 0] (qIl (qV 1)) (gN 0) (qIl (qV 2)) (gN 1) (qB (qOp (wIn 4 true) (qV 1) (qV 0))) (qOp wAdd (qV 0) (qTup (A1 (qV 1) qNil)))))))
   (qRet (qV 1))))
def Fo:pF:=fnP ["boats","rows","many"] ["boats"] LP
def LQ:pS:=(qSeq (qIfS (qB (B6 Fk (A1 (qV 0) qNil))) (qRet (qTup (A1 (B6 Fn (A1 (qV 1) (A1 (qV 2) qNil))) (A1 (B6 HX (A1 (qV 1) (A1 (qV 2) qNil))) (A1 (qTup (A1 (qC (.str (C7 "pairs"))) qNil)) qNil))))) qNx)
   (qSeq (qIfS (qB (B6 Fm (A1 (qV 0) (A1 (qUn wLen (qV 1)) qNil)))) (qRet (qTup (A1 (qOp wSub (qUn wLen (qV 1)) (B6 DJ (A1 (qV 1) (A1 (qV 2) qNil)))) (A1 (B6 HY (A1 (qV 1) (A1 (qV 2) qNil))) (A1 (qTup (A1 (qC (.str (C7 "rounds"))) qNil)) qNil))))) qNx)
   (qSeq (qSet 3 (B6 HV (A1 (qV 0) (A1 (qV 2) qNil))))
   (qSeq (qSet 4 (qUn V5 (qL (O2 [none,some 3] (qIl (B6 Fo (A1 (qL (DI (qV 1))) qNil))) (gN 0) qTru (qIxT (qV 1) (qV 0))))))
   (qRet (qTup (A1 (qIxT (qV 3) (qV 1)) (A1 (B6 HW (A1 (qV 0) (A1 (qV 1) (A1 (qV 3) qNil)))) (A1 (qTup (A1 (qC (.str (C7 "table"))) (A1 (qV 4) qNil))) qNil)))))))))
def DK:pF:=fnP ["meeting","row","other","numbers","table"] ["meeting","row","other"] LQ
def LR:pS:=(qSeq (qAsg (qV 1) (gTp 3 (gCn (gN 2) (gCn (gN 3) (gCn (gN 4) gNl)))))
   (qSeq (qIfS (qAnd (qB (qOp (wEq 4) (qUn wLen (qV 4)) (qC (.int 2)))) (qB (qOp (wEq 4) (B6 M7 (A1 (qV 0) (A1 (qC (.int 2)) qNil))) (qC (.int 0))))) (qSeq (qSet 5 (B6 M7 (A1 (qV 0) (A1 (qUn wLen (qOp wIx (qV 4) (qC (.int 1)))) qNil))))
   (qRet (qTup (A1 (qV 2) (A1 (qV 3) (A1 (qTup (A1 (qOp wIx (qV 4) (qC (.int 0))) (A1 (qOp wAdd (qOp wAdd (qSl (qOp wIx (qV 4) (qC (.int 1))) qNo (Z6 (qV 5))) (qTup (A1 (qOp wAdd (qOp wIx (qOp wIx (qV 4) (qC (.int 1))) (qV 5)) (qC (.int 2))) qNil))) (qSl (qOp wIx (qV 4) (qC (.int 1))) (Z6 (qOp wAdd (qV 5) (qC (.int 1)))) qNo)) qNil))) qNil)))))) qNx)
   (qRet (qTup (A1 (qOp wAdd (qV 2) (qC (.int 1))) (A1 (qOp wAdd (qV 3) (qSl (qV 3) (Z6 (qUn wNeg (qC (.int 1)))) qNo)) (A1 (qV 4) qNil)))))))
def HZ:pF:=fnP ["_law_pot","_law_thing","_law_many","_law_touches","_law_paper","_law_spot"] ["_law_pot","_law_thing"] LR
def LT:pS:=(qSeq (qSet 2 (qC (.str (C7 "abcdefghijklmnopqrstuvwxyz"))))
   (qSeq (qPar 3 4 (sV (B6 M7 (A1 (qV 0) (A1 (qC (.int 26)) qNil)))) (sV (qOp wIx (qL (qLst (A1 (qC (.int 1)) (A1 (qC (.int 3)) (A1 (qC (.int 5)) (A1 (qC (.int 7)) (A1 (qC (.int 9)) (A1 (qC (.int 11)) (A1 (qC (.int 15)) (A1 (qC (.int 17)) qNil)))))))))) (B6 M7 (A1 (qV 0) (A1 (qC (.int 8)) qNil))))))
   (qSeq (qPar 5 6 (sV (B6 M7 (A1 (qV 0) (A1 (qC (.int 2)) qNil)))) (sV (qC (.str (C7 "")))))
   (qSeq (qFor (l8 (B6 M7 (A1 (qV 0) (A1 (qC (.int 8)) qNil)))) (gN 7) (qSet 6 (qOp wAdd (qV 6) (qOp wIx (qV 2) (B6 M7 (A1 (qV 0) (A1 (qC (.int 26)) qNil)))))))
   (qSeq (qOwn 8 (qLst qNil))
   (qSeq (qFor (l8 (qV 1)) (gN 7) (qSeq (qSet 9 (qOp wIx (qV 2) (qOp wMod (qOp wAdd (qV 3) (qOp wMul (qV 4) (qV 7))) (qC (.int 26)))))
   (qSeq (qSet 10 (qSl (qV 6) qNo (Z6 (qOp wMod (qOp wAdd (qOp wMul (qV 7) (qV 4)) (qV 3)) (qOp wAdd (qUn wLen (qV 6)) (qC (.int 1)))))))
   (O6 (Fe 8 (B6 M7 (A1 (qV 0) (A1 (qOp wAdd (qV 7) (qC (.int 1))) qNil))) (qOp wIx (qL (qLst (A1 (qOp wAdd (qV 10) (qV 9)) (A1 (qOp wAdd (qV 9) (qV 10)) qNil)))) (qV 5)))))))
   (qSeq (qFor (l8 (qOp wIx (qL (qLst (A1 (qC (.int 0)) (A1 (qC (.int 0)) (A1 (qC (.int 0)) (A1 (qC (.int 1)) (A1 (qC (.int 2)) qNil))))))) (B6 M7 (A1 (qV 0) (A1 (qC (.int 5)) qNil))))) (gN 7) (qSeq (qSet 11 (qOp wIx (qL (qLst (A1 (qC (.str (C7 "drop"))) (A1 (qC (.str (C7 "touch"))) (A1 (qC (.str (C7 "none"))) (A1 (qC (.str (C7 "d"))) (A1 (qC (.str (C7 "u"))) (A1 (qC (.str (C7 "t"))) (A1 (qC (.str (C7 "o"))) qNil))))))))) (B6 M7 (A1 (qV 0) (A1 (qC (.int 7)) qNil)))))
   (qIfS (qB (qOp (wIn 4 true) (qV 11) (qO 8))) (qPut 8 (qV 11) (B6 M7 (A1 (qV 0) (A1 (qV 1) qNil)))) qNx)))
   (qRet (qUn V5 (qO 8))))))))))
def Fp:pF:=fnP ["_law_pot","_law_many","_law_letters","_law_first","_law_step","_law_ahead","_law_stem","_law_k","_law_boats_here","_law_sign","_law_part","_law_word"] ["_law_pot","_law_many"] LT
def LU:pS:=(qSeq (qPar 2 3 (sV (B6 M7 (A1 (qV 0) (A1 (qC (.int 6)) qNil)))) (sV (qUn wLen (qV 1))))
   (qSeq (qIfS (qB (qOp wLt (qV 2) (qC (.int 3)))) (qSeq (qOwn 4 (qLst qNil))
   (qSeq (qFor (qIt (qV 1)) (gN 5) (O6 (Fe 4 (B6 M7 (A1 (qV 0) (A1 (qOp wAdd (qUn wLen (qO 4)) (qC (.int 1))) qNil))) (qV 5))))
   (qRet (qUn V5 (qO 4))))) qNx)
   (qSeq (qPar 6 7 (sV (B6 M7 (A1 (qV 0) (A1 (qV 3) qNil)))) (sV (B6 M7 (A1 (qV 0) (A1 (qV 3) qNil)))))
   (qSeq (qOwn 4 (Dp (qV 1)))
   (qSeq (DB 4 (qOp wIx (qV 1) (qV 7)) (qOp wIx (qV 1) (qV 6)) (qV 6) (qV 7))
   (qRet (qOp wIx (qL (qLst (A1 (qUn wRev (qV 1)) (A1 (qOp wAdd (qSl (qV 1) (Z6 (qUn wNeg (qC (.int 1)))) qNo) (qSl (qV 1) qNo (Z6 (qUn wNeg (qC (.int 1)))))) (A1 (qUn V5 (qO 4)) qNil))))) (qOp wSub (qV 2) (qC (.int 3))))))))))
def Fq:pF:=fnP ["_law_pot","_law_row","_law_way","_law_n","_law_boats_here","_law_boat","_law_p","_law_q"] ["_law_pot","_law_row"] LU
def LV:pS:=(qSeq (qSet 2 (qOp wIx (qL (qLst (A1 (qC (.int 1)) (A1 (qC (.int 2)) (A1 (qC (.int 3)) (A1 (qC (.int 4)) (A1 (qV 1) (A1 (qC (.int 4)) (A1 (qC (.int 3)) (A1 (qV 1) qNil)))))))))) (B6 M7 (A1 (qV 0) (A1 (qC (.int 8)) qNil)))))
   (qSeq (qSet 3 (qTup (A1 (qOp wAdd (qC (.int 1)) (B6 M7 (A1 (qV 0) (A1 (qC (.int 8)) qNil)))) (A1 (B6 M7 (A1 (qV 0) (A1 (qC (.int 8)) qNil))) qNil))))
   (qSeq (qIfS (qB (qOp (wEq 4) (B6 M7 (A1 (qV 0) (A1 (qC (.int 2)) qNil))) (qC (.int 0)))) (qSet 3 (qTup (A1 (qOp wAdd (qC (.int 1)) (B6 M7 (A1 (qV 0) (A1 (qC (.int 4)) qNil)))) (A1 (qOp wAdd (qC (.int 1)) (B6 M7 (A1 (qV 0) (A1 (qC (.int 2)) qNil)))) qNil)))) qNx)
   (qSeq (qSet 4 (B6 Fp (A1 (qV 0) (A1 (qV 2) qNil))))
   (qRet (qTup (A1 (qV 3) (A1 (qV 4) (A1 (B6 Fq (A1 (qV 0) (A1 (qV 4) qNil))) qNil)))))))))
def H_:pF:=fnP ["_law_pot","_law_most","_law_n","_law_meeting","_law_row"] ["_law_pot","_law_most"] LV
def LW:pS:=(qRet (O0 (qUn (wIsi "str") (qV 0)) (qOp (wEq 4) (qV 0) (qV 1))))
def DL:pF:=fnP ["thing","text"] ["thing","text"] LW
def LX:pS:=(qRet (qOp wLe (qV 0) (qC (.int 5))))
def Ia:pF:=fnP ["n"] ["n"] LX
def Ib:pS:=(qSeq (qIfS (qOr (qNot (qB (qUn (wIsi "int") (qV 0)))) (qB (qUn (wIsi "bool") (qV 0)))) (qRet (qC (.bl false))) qNx)
   (qRet (Ao wLe wLe (qV 1) (qV 0) (qV 2))))
def DM:pF:=fnP ["thing","low","high"] ["thing","low","high"] Ib
def LY:pS:=(qSeq (qSet 5 (B6 Fo (A1 (qL (DI (qV 1))) qNil)))
   (qSeq (qIfS (qOr (qNot (qB (qUn (wIsi "tuple") (qV 4)))) (qB (qOp (wNe 4) (qUn wLen (qV 4)) (qUn wLen (qV 5))))) (qRet (qC (.bl false))) qNx)
   (qSeq (qIfS (qNot (qB (qUn wAll (qL (O2 [none,some 5] (qIt (qV 4)) (gN 0) qTru (B6 DM (A1 (qV 0) (A1 (qC (.int 0)) (A1 (qUn wLen (qV 1)) qNil))))))))) (qRet (qC (.bl false))) qNx)
   (qSeq (Fj 6 true false (qV 5) (qV 4))
   (qSeq (qIfS (qOr (qB (qOp (wNe 4) (Y1 6 (qV 1)) (qV 3))) (qB (qOp (wNe 4) (Y1 6 (qV 2)) (qC (.int 0))))) (qRet (qC (.bl false))) qNx)
   (qSeq (qSet 7 (B6 p5 (A1 (qV 0) (A1 (qUn wLen (qV 1)) qNil))))
   (Cq 6 (qRet (qUn wAll (qL (Cm [none,none,none,some 6,some 7] (qIl (qV 5)) (gN 0) (qIt (qV 4)) (gTp 2 (gCn (gN 1) (gCn (gN 2) gNl))) qTru (qOp wLe (qUn wAbs (qOp wSub (qIxT (qV 3) (qV 0)) (qIxT (qV 3) (B6 T7 (A1 (qV 0) (A1 (qV 1) (A1 (qV 2) qNil))))))) (qC (.int 1))))))))))))))
def Fs:pF:=fnP ["meeting","row","other","many","thing","rows","numbers","places"] ["meeting","row","other","many","thing"] LY
def Ft:pS:=(qSeq (qIfS (qOr (qNot (qB (qUn (wIsi "tuple") (qV 4)))) (qNot (qB (Ao wLe wLe (qC (.int 1)) (qUn wLen (qV 4)) (qC (.int 2)))))) (qRet (qC (.bl false))) qNx)
   (qSeq (qSet 5 (qUn wLen (qV 1)))
   (qSeq (qIfS (qB (qOp (wEq 4) (qUn wLen (qV 4)) (qC (.int 2)))) (qRet (O0 (B6 DL (A1 (qOp wIx (qV 4) (qC (.int 0))) (A1 (qC (.str (C7 "table"))) qNil))) (O0 (B6 Ia (A1 (qV 5) qNil)) (B6 Fs (A1 (qV 0) (A1 (qV 1) (A1 (qV 2) (A1 (qV 3) (A1 (qOp wIx (qV 4) (qC (.int 1))) qNil))))))))) qNx)
   (qSeq (qIfS (qB (B6 DL (A1 (qOp wIx (qV 4) (qC (.int 0))) (A1 (qC (.str (C7 "pairs"))) qNil)))) (qRet (O0 (B6 Fk (A1 (qV 0) qNil)) (qOp (wEq 4) (qV 3) (B6 Fn (A1 (qV 1) (A1 (qV 2) qNil)))))) qNx)
   (qRet (O0 (B6 DL (A1 (qOp wIx (qV 4) (qC (.int 0))) (A1 (qC (.str (C7 "rounds"))) qNil))) (O0 (B6 Fm (A1 (qV 0) (A1 (qV 5) qNil))) (qOp (wEq 4) (qV 3) (qOp wSub (qV 5) (B6 DJ (A1 (qV 1) (A1 (qV 2) qNil))))))))))))
def DN:pF:=fnP ["meeting","row","other","many","thing","n"] ["meeting","row","other","many","thing"] Ft
def LZ:pS:=(qSeq (qSet 4 (B6 p5 (A1 (qV 0) (A1 (qUn wLen (qV 1)) qNil))))
   (qSeq (qSet 5 (qV 1))
   (qSeq (qFor (qIt (qV 3)) (gTp 2 (gCn (gN 6) (gCn (gN 7) gNl))) (qSeq (qPar 8 9 (sV (P5 (qV 5) (qV 7))) (sV (P5 (qV 5) (qV 6))))
   (qSeq (qIfS (qB (qOp (wIn 4 true) (qTup (A1 (qV 8) (A1 (qV 9) qNil))) (qV 4))) (qRet (qC (.bl false))) qNx)
   (qSet 5 (B6 T7 (A1 (qV 5) (A1 (qV 8) (A1 (qV 9) qNil))))))))
   (qRet (qOp (wEq 4) (qV 5) (qV 2))))))
def Ie:pF:=fnP ["meeting","row","other","pairs","places","stands","x","y","ahead","behind"] ["meeting","row","other","pairs"] LZ
def L_:pS:=(qSeq (qIfS (qOr (qNot (qB (qUn (wIsi "str") (qV 0)))) (qNot (qB (Ao wLe wLe (qC (.int 1)) (qUn wLen (qV 0)) (qC (.int 8)))))) (qRet (qC (.bl false))) qNx)
   (qRet (qUn wAll (qL (O2 [none] (qIs (qV 0)) (gN 0) qTru (Ao wLe wLe (qC (.str (C7 "a"))) (qV 0) (qC (.str (C7 "z")))))))))
def Ih:pF:=fnP ["thing"] ["thing"] L_
def Ma:pS:=(qSeq (qIfS (qOr (qNot (qB (qUn (wIsi "tuple") (qV 1)))) (qB (qOp (wNe 4) (qUn wLen (qV 1)) (qC (.int 2))))) (qRet (qC (.bl false))) qNx)
   (qRet (qUn wAll (qL (O2 [none,some 0] (qIt (qV 1)) (gN 0) qTru (O0 (B6 Ih (A1 (qV 0) qNil)) (qOp (wIn 4 false) (qV 0) (qV 1))))))))
def Ii:pF:=fnP ["row","thing"] ["row","thing"] Ma
def Mb:pS:=(qSeq (qIfS (qOr (qNot (qB (qUn (wIsi "tuple") (qV 3)))) (qNot (qB (qUn wAll (qL (O2 [none,some 1] (qIt (qV 3)) (gN 0) qTru (B6 Ii (A1 (qV 1) (A1 (qV 0) qNil))))))))) (qRet (qC (.bl false))) qNx)
   (qRet (B6 Ie (A1 (qV 0) (A1 (qV 1) (A1 (qV 2) (A1 (qV 3) qNil)))))))
def Ij:pF:=fnP ["meeting","row","other","thing"] ["meeting","row","other","thing"] Mb
def Mc:pS:=(qSeq (qIfS (qOr (qNot (qB (qUn (wIsi "tuple") (qV 3)))) (qB (qOp (wNe 4) (qUn wLen (qV 3)) (qC (.int 3))))) (qRet (qC (.bl false))) qNx)
   (qSeq (qAsg (qV 3) (gTp 3 (gCn (gN 4) (gCn (gN 5) (gCn (gN 6) gNl)))))
   (qSeq (qIfS (qOr (qNot (qB (B6 Ij (A1 (qV 0) (A1 (qV 1) (A1 (qV 2) (A1 (qV 5) qNil))))))) (qNot (qB (B6 DM (A1 (qV 4) (A1 (qUn wLen (qV 5)) (A1 (qUn wLen (qV 5)) qNil))))))) (qRet (qC (.bl false))) qNx)
   (qRet (B6 DN (A1 (qV 0) (A1 (qV 1) (A1 (qV 2) (A1 (qV 4) (A1 (qV 6) qNil))))))))))
def Bi:pF:=fnP ["meeting","row","other","thing","many","touches","paper"] ["meeting","row","other","thing"] Mc
def Md:pS:=(qSeq (qSet 1 (qL (qLst (A1 (qTup qNil) qNil))))
   (qSeq (qFor (l8 (qUn wLen (qV 0))) (gN 2) (qSeq (qOwn 3 (qLst qNil))
   (qSeq (qFor (qIl (qV 1)) (gN 4) (O6 (ES 3 (qL (O2 [none,some 4] (qIl (qV 0)) (gN 0) (qB (qOp (wIn 4 true) (qV 0) (qV 1))) (qOp wAdd (qV 1) (qTup (A1 (qV 0) qNil))))))))
   (v5 3 (qSet 1 (qV 3))))))
   (qRet (qV 1))))
def Ik:pF:=fnP ["_law_some","_law_found","_law_k","_law_longer","_law_one"] ["_law_some"] Md
def Me:pS:=(qRet (O0 (qOp wLt (qV 1) (qV 2)) (O0 (qOp wLe (qOp wSub (qOp wSub (qV 2) (qV 1)) (qC (.int 1))) (qOp wIx (qV 0) (qC (.int 1)))) (qOp wLe (qV 2) (qOp wAdd (qOp wMul (qOp EA (qV 1) (qOp wIx (qV 0) (qC (.int 0)))) (qOp wIx (qV 0) (qC (.int 0)))) (qOp wIx (qV 0) (qC (.int 0))))))))
def Cs:pF:=fnP ["_law_meeting","_law_p","_law_q"] ["_law_meeting","_law_p","_law_q"] Me
def Mf:pS:=(qSeq (qOwn 3 (Dp (qV 0)))
   (qSeq (DB 3 (qOp wIx (qV 0) (qV 2)) (qOp wIx (qV 0) (qV 1)) (qV 1) (qV 2))
   (qRet (qUn V5 (qO 3)))))
def Cu:pF:=fnP ["_law_row","_law_p","_law_q","_law_boats_here"] ["_law_row","_law_p","_law_q"] Mf
def Mg:pS:=(qSeq (qPar 5 6 (sV (B6 Ik (A1 (qL (DI (qV 1))) qNil))) (sV (qUn wLen (qV 1))))
   (qSeq (qIfS (qOr (qNot (qB (qUn (wIsi "tuple") (qV 4)))) (qB (qOp (wNe 4) (qUn wLen (qV 4)) (qUn wLen (qV 5))))) (qRet (qC (.bl false))) qNx)
   (qSeq (qIfS (qNot (qB (qUn wAll (qL (O2 [none] (qIt (qV 4)) (gN 0) qTru (O0 (qUn (wIsi "int") (qV 0)) (O0 (GL (qUn (wIsi "bool") (qV 0))) (qOp wGe (qV 0) (qC (.int 0)))))))))) (qRet (qC (.bl false))) qNx)
   (qSeq (Fj 7 true false (qV 5) (qV 4))
   (qSeq (qFor (qIl (qV 5)) (gN 8) (qFor (l8 (qV 6)) (gN 9) (qFor (BY (qOp wAdd (qV 9) (qC (.int 1))) (qV 6)) (gN 10) (qIfS (qAnd (qB (B6 Cs (A1 (qV 0) (A1 (qV 9) (A1 (qV 10) qNil))))) (qB (qOp wGt (qUn wAbs (qOp wSub (Y1 7 (qV 8)) (Y1 7 (B6 Cu (A1 (qV 8) (A1 (qV 9) (A1 (qV 10) qNil))))))) (qC (.int 1))))) (qRet (qC (.bl false))) qNx))))
   (qRet (O0 (qOp (wEq 4) (Y1 7 (qV 1)) (qV 3)) (qOp (wEq 4) (Y1 7 (qV 2)) (qC (.int 0))))))))))
def Fu:pF:=fnP ["_law_meeting","_law_row","_law_other","_law_many","_law_numbers_here","_law_rows","_law_n","_law_told","_law_here","_law_p","_law_q"] ["_law_meeting","_law_row","_law_other","_law_many","_law_numbers_here"] Mg
def Mh:pS:=(qSeq (qSet 2 (qL (O2 [none,some 1] (qIt (qV 0)) (gN 0) qTru (P5 (qV 1) (qV 0)))))
   (qRet (qUn wSum (qL (O2 [none,none,some 2] (EK (qV 2)) (gTp 2 (gCn (gN 0) (gCn (gN 1) gNl))) qTru (qUn wLen (qL (O2 [none,some 1] (qIl (qSl (qV 2) (Z6 (qV 0)) qNo)) (gN 0) (qB (qOp wLt (qV 0) (qV 1))) (qC (.int 1))))))))))
def Il:pF:=fnP ["_law_row","_law_other","_law_places"] ["_law_row","_law_other"] Mh
def Mi:pS:=(qSeq (HH 2 3 0)
   (qSeq (qFor (qIt (qV 0)) (gN 4) (qSeq (qSet 3 (qOp wAdd (qV 3) (qUn wInt (w6 2 (qV 4)))))
   (qSeq (qSet 5 (qV 4))
   (u9 (qB (w6 2 (qV 5))) (qSeq (Cj 2 (qV 5) (qC (.bl true)))
   (qSet 5 (qOp wIx (qV 1) (P5 (qV 0) (qV 5)))))))))
   (qRet (qV 3))))
def Fv:pF:=fnP ["_law_row","_law_other","_law_met","_law_many","_law_start","_law_boat"] ["_law_row","_law_other"] Mi
def Fw:pS:=(qSeq (qSet 5 (qUn wLen (qV 1)))
   (qSeq (qIfS (qOr (qNot (qB (qUn (wIsi "tuple") (qV 4)))) (qOr (qB (qOp (wIn 4 true) (qUn wLen (qV 4)) (qTup (A1 (qC (.int 1)) (A1 (qC (.int 2)) qNil))))) (qNot (qB (qUn (wIsi "str") (qOp wIx (qV 4) (qC (.int 0)))))))) (qRet (qC (.bl false))) qNx)
   (qSeq (qIfS (qB (qOp (wEq 4) (qUn wLen (qV 4)) (qC (.int 2)))) (qRet (O0 (qOp (wEq 4) (qOp wIx (qV 4) (qC (.int 0))) (qC (.str (C7 "table")))) (O0 (qOp wLe (qV 5) (qC (.int 5))) (B6 Fu (A1 (qV 0) (A1 (qV 1) (A1 (qV 2) (A1 (qV 3) (A1 (qOp wIx (qV 4) (qC (.int 1))) qNil))))))))) qNx)
   (qSeq (qIfS (qB (qOp (wEq 4) (qOp wIx (qV 4) (qC (.int 0))) (qC (.str (C7 "pairs"))))) (qRet (O0 (qOp (wEq 4) (qOp wIx (qV 0) (qC (.int 1))) (qC (.int 0))) (qOp (wEq 4) (qV 3) (B6 Il (A1 (qV 1) (A1 (qV 2) qNil)))))) qNx)
   (qRet (O0 (qOp (wEq 4) (qOp wIx (qV 4) (qC (.int 0))) (qC (.str (C7 "rounds")))) (O0 (qOp wLe (qV 5) (qOp wMin (qOp wIx (qV 0) (qC (.int 0))) (qOp wAdd (qOp wIx (qV 0) (qC (.int 1))) (qC (.int 2))))) (qOp (wEq 4) (qV 3) (qOp wSub (qV 5) (B6 Fv (A1 (qV 1) (A1 (qV 2) qNil))))))))))))
def DO:pF:=fnP ["_law_meeting","_law_row","_law_other","_law_many","_law_paper","_law_n"] ["_law_meeting","_law_row","_law_other","_law_many","_law_paper"] Fw
def Mj:pS:=(qSeq (qIfS (qNot (qB (qUn (wIsi "tuple") (qV 2)))) (qRet (qC .non)) qNx)
   (qSeq (qFor (qIt (qV 2)) (gN 3) (qSeq (qIfS (qOr (qNot (qB (qUn (wIsi "tuple") (qV 3)))) (qOr (qB (qOp (wNe 4) (qUn wLen (qV 3)) (qC (.int 2)))) (qOr (qB (qOp (wIn 4 true) (qOp wIx (qV 3) (qC (.int 0))) (qV 1))) (qB (qOp (wIn 4 true) (qOp wIx (qV 3) (qC (.int 1))) (qV 1)))))) (qRet (qC .non)) qNx)
   (qSeq (qPar 4 5 (sV (P5 (qV 1) (qOp wIx (qV 3) (qC (.int 1))))) (sV (P5 (qV 1) (qOp wIx (qV 3) (qC (.int 0))))))
   (qSeq (qIfS (qNot (qB (B6 Cs (A1 (qV 0) (A1 (qV 4) (A1 (qV 5) qNil)))))) (qRet (qC .non)) qNx)
   (qSet 1 (B6 Cu (A1 (qV 1) (A1 (qV 4) (A1 (qV 5) qNil)))))))))
   (qRet (qV 1))))
def Im:pF:=fnP ["_law_meeting","_law_row","_law_touches","_law_pair","_law_p","_law_q"] ["_law_meeting","_law_row","_law_touches"] Mj
def Mm:pS:=(qSeq (qIfS (qOr (qNot (qB (qUn (wIsi "tuple") (qV 3)))) (qOr (qB (qOp (wNe 4) (qUn wLen (qV 3)) (qC (.int 3)))) (qOr (qNot (qB (qUn (wIsi "int") (qOp wIx (qV 3) (qC (.int 0)))))) (qB (qUn (wIsi "bool") (qOp wIx (qV 3) (qC (.int 0)))))))) (qRet (qC (.bl false))) qNx)
   (qSeq (qIfS (qOr (qNot (qB (qUn (wIsi "tuple") (qOp wIx (qV 3) (qC (.int 1)))))) (qOr (qB (qOp (wNe 4) (qUn wLen (qOp wIx (qV 3) (qC (.int 1)))) (qOp wIx (qV 3) (qC (.int 0))))) (qB (qOp (wNe 4) (B6 Im (A1 (qV 0) (A1 (qV 1) (A1 (qOp wIx (qV 3) (qC (.int 1))) qNil)))) (qV 2))))) (qRet (qC (.bl false))) qNx)
   (qRet (B6 DO (A1 (qV 0) (A1 (qV 1) (A1 (qV 2) (A1 (qOp wIx (qV 3) (qC (.int 0))) (A1 (qOp wIx (qV 3) (qC (.int 2))) qNil)))))))))
def Cv:pF:=fnP ["_law_meeting","_law_row","_law_other","_law_thing"] ["_law_meeting","_law_row","_law_other","_law_thing"] Mm
def Mn:pS:=(qSeq (Hs [2,3,4] (slT1 (qV 1) (qC (.int 0)) (Fd (sO (qLst (A1 (qV 1) qNil))) (Fd (sV (qUn wLen (qV 1))) Hr))))
   (qSeq (qOwn 5 (qLst qNil))
   (qSeq (qFor (l8 (qV 4)) (gN 6) (O6 (ES 5 (qL (O2 [none,some 6,some 0] (BY (qOp wAdd (qV 6) (qC (.int 1))) (qV 4)) (gN 0) (qB (B6 Cs (A1 (qV 2) (A1 (qV 1) (A1 (qV 0) qNil))))) (qTup (A1 (qV 1) (A1 (qV 0) qNil))))))))
   (qSeq (u9 (qB (qOpR (wNe 4) (qO 3) (qL (qLst qNil)))) (qSeq (qSet 7 (GX 3 (qC (.int 0))))
   (v5 5 (qFor (qIl (qV 5)) (gTp 2 (gCn (gN 6) (gCn (gN 8) gNl))) (qSeq (qSet 9 (B6 Cu (A1 (qV 7) (A1 (qV 6) (A1 (qV 8) qNil)))))
   (qIfS (qB (Bh 2 (qV 9))) (qSeq (Ci 2 (qV 9) (qOp wAdd (Y1 2 (qV 7)) (qC (.int 1))))
   (O6 (n6 3 (qV 9)))) qNx))))))
   (Cq 2 (qRet (qV 2)))))))
def Io:pF:=fnP ["_law_meeting","_law_other","_law_found","_law_waiting","_law_n","_law_pairs","_law_p","_law_here","_law_q","_law_further"] ["_law_meeting","_law_other"] Mn
def Ip:pS:=(qSeq (HP 1 2 (qV 0) (qC (.int 0)) (qV 0) (qC (.int 1)))
   (qSeq (qFor (qZip true true (qV 2) (qL (qLst (A1 (qC (.int 5)) (A1 (qC (.int 4)) qNil))))) (gTp 2 (gCn (gN 3) (gCn (gN 4) gNl))) (O6 (n6 1 (B6 H_ (A1 (qV 3) (A1 (qV 4) qNil))))))
   (qSeq (v5 1 (qSet 5 (qL (O2 [none,none,none] (qIl (qV 1)) (gTp 3 (gCn (gN 0) (gCn (gN 1) (gCn (gN 2) gNl)))) qTru (B6 DK (A1 (qV 0) (A1 (qV 1) (A1 (qV 2) qNil))))))))
   (qSeq (qFor (HN (qV 2) (qV 1) (qV 5)) (gTp 3 (gCn (gN 3) (gCn (gTp 3 (gCn (gN 6) (gCn (gN 7) (gCn (gN 8) gNl)))) (gCn (gN 9) gNl)))) (qSeq (qIfS (qOr (qNot (qB (B6 Cv (A1 (qV 6) (A1 (qV 7) (A1 (qV 8) (A1 (qV 9) qNil))))))) (qB (qOp (wNe 4) (qOp wIx (qV 9) (qC (.int 0))) (qIxT (B6 Io (A1 (qV 6) (A1 (qV 8) qNil))) (qV 7))))) (qRet (qC (.bl false))) qNx)
   (qSeq (qSet 10 (B6 HZ (A1 (qV 3) (A1 (qV 9) qNil))))
   (qSeq (qIfS (qB (qOp DC (B6 Bi (A1 (qV 6) (A1 (qV 7) (A1 (qV 8) (A1 (qV 9) qNil))))) (qC (.bl true)))) (qRet (qC (.bl false))) qNx)
   (qIfS (qB (qOp (wNe 4) (qUn Bd (B6 Bi (A1 (qV 6) (A1 (qV 7) (A1 (qV 8) (A1 (qV 10) qNil)))))) (qUn Bd (B6 Cv (A1 (qV 6) (A1 (qV 7) (A1 (qV 8) (A1 (qV 10) qNil)))))))) (qRet (qC (.bl false))) qNx)))))
   (qRet (qC (.bl true)))))))
end Tb
end
section
namespace Tb
open PySem L2 Pu
def top (i:Nat):Stmt:=PySem.Challenge.pw_touchboats_k47_fewest_by_tables.main.body.getD i (.Pass ⟨0,0,0,0⟩)
end Tb
end
section
namespace Tb
open PySem L2 Pu
theorem Mo (a b:Int):eqP (.int a) (.int b)=decide (a=b):=by
 show(a == b)=_;rw[FV]
theorem Mp (a b:Str):eqP (.str a) (.str b)=decide (a=b):=by
 show(a == b)=_;rw[FV]
theorem Mq (a b:Bool):eqP (.bl a) (.bl b)=decide (a=b):=by
 show(a == b)=_;rw[FV]
set_option compiler.extract_closed false in
set_option hygiene false in
local macro_rules | `(tactic| walk_at "pd")=>`(tactic| dsimp only [dreduceIte,true_and,and_true,Y9,beq_self_eq_true,Nat.reduceLeDiff,Nat.reduceLT,Int.reduceLT,Int.reduceLE,M5,Mo,Mp,Mq,qSeq,qNx,qSet,qOwn,qAsg,O6,qRet,qRetO,qIfS,qPar,sV,sO,qPut,gAt,v5,EN,qV,qO,qC,qOp,qOpR,qUn,wI,wI0,wAdd,wSub,wMul,EA,wMod,wEq,wNe,wLt,wLe,wGt,wGe,qB,Ao,qAnd,qOr,qNot,O0,GL,qNil,A1,qTup,qLst,qL,wIx,qNo,Z6,qSl,wSl,wLen,wAbs,wInt,wAll,V5,Dp,wIsi,wMin,B6,gN,gNl,gCn,gTp,qIl,qIt,l8,BY,qIs,EK,capV,capS,qTru,O2,EQ,wNeg,n6,GR,GX,GS,Av,tyP,isT,List.map,List.set,L8,List.length_nil,FN,Eb,List.cons_append,List.nil_append,Bw,Nat.reduceSub,Nat.reduceAdd,Option.bind,Bool.not_true,Bool.not_false,Bool.true_or,Bool.false_or,Bool.or_false,Bool.true_and,BE,String.reduceBEq,cmpb,An,eqP_ll,eqP_tt,Kl,PM,decide_true,decide_false,Cb,GU,ES,wRev,Ha,qAug,Hc,EU,qZip,qFor,Ci,M4,Cj,keyV,Fe,P5,DB,at2_0,at2_1,at3_0,at3_1,at3_2,grd_t,Hs,Fd,Hr,setAll,Ht,qInS,Ck,Cm,M7,HD,DC,wSum,w6,HH,Bh,Y1,qIxT,Cq,HJ,slT1,Fj,DI,HN,HP])
set_option hygiene false in
local macro_rules | `(tactic| walk_at "pu")=>`(tactic| (try walk_at "pd") <;> (try simp only [Mo,Mp,Mq,decide_true,decide_false,true_and,and_true,reduceIte,Nat.reduceLeDiff,Nat.reduceLT,Int.reduceLT,Int.reduceLE,M5,beq_self_eq_true,Y9]))
def inv:List Nat->Nat
 |[]=>0
 |a::l=>(l.filter λb=>decide (b<a)).length+inv l
def cntP (l1 l2:List Str)(f:Str->Str->Bool):Nat:=(l1.map λx=>(l2.filter (f x)).length).sum
theorem Ms {α:Type}:∀l:List α,(l.map λ_=>0).sum=0
 |[]=>rfl
 |a::l=>by rw[J5,List.sum_cons,Ms l]
def cr (row jc:List Str)(x y:Str):Bool:=decide (ixS row x<ixS row y)&&decide (ixS jc y<ixS jc x)
theorem Mu {jc row:List Str}(nd:row.Nodup):∀(jr pre:List Str),row=pre++jr->inv (jr.map (ixS jc))=(jr.map λx=>(row.filter (cr row jc x)).length).sum
 |[],_,_=>rfl
 | x :: jr, pre, e => by
  have ih:=Mu (jc:=jc) nd jr (pre++[x]) (by rw[e,O9];rfl);rw[J5,J5,List.sum_cons];show((jr.map (ixS jc)).filter λb=>decide (b<ixS jc x)).length+inv (jr.map (ixS jc))=_;rw[ih]
  congr 1
  have hx:ixS row x=pre.length:=M1 nd (E1 (show x∈row by rw[e];simp)).1 (by rw[e,q8 (B7 _),CZ];rfl)
  have hp:∀y∈pre,ixS row y<pre.length:=λy hy=>by
   obtain⟨j,hj,ej⟩:=Bs hy;have:=M1 nd (E1 (show y∈row by rw[e];simp[hy])).1 (show row[j]?=some y by rw[e,r0 hj,D7 hj,ej]);omega
  have hs:∀y∈jr,pre.length<ixS row y:=λy hy=>by
   obtain⟨j,hj,ej⟩:=Bs hy
   have:=M1 nd (E1 (show y∈row by rw[e];simp[hy])).1 (show row[pre.length+1+j]?=some y by
    rw[e,q8 (by omega),show pre.length+1+j-pre.length=j+1 by omega,Eb,D7 hj,ej])
   omega
  have f0:row.filter (cr row jc x)=jr.filter λy=>decide (ixS jc y<ixS jc x):=by
   have f1:pre.filter (cr row jc x)=[]:=FP.mpr λy hy z=>by
    unfold cr at z;rw[hx,jv (by have:=hp y hy;omega),BE] at z;cases z
   have f2:cr row jc x x=false:=by unfold cr;rw[jv (by omega),BE]
   have f3:jr.filter (cr row jc x)=jr.filter λy=>decide (ixS jc y<ixS jc x):=List.filter_congr λy hy=>by
    unfold cr;rw[hx,ju (hs y hy),Bool.true_and]
   have:(pre++x::jr).filter (cr row jc x)=jr.filter λy=>decide (ixS jc y<ixS jc x):=by
    rw[List.filter_append,f1,List.filter_cons_of_neg (by rw[f2];exact Q9),f3];rfl
   rw[<- this,<- e]
  rw[f0,List.filter_map,B1]
  rfl
theorem SD {jc row:List Str}(nd:row.Nodup):inv (row.map (ixS jc))=cntP row row (cr row jc):=Mu nd row [] rfl
theorem Mv {row:List Str}(nd:row.Nodup):inv (row.map (ixS row))=0:=by
 rw[SD nd];unfold cntP;rw[<- Ms row];refine congrArg List.sum (Ec λx _=>?_);rw[List.length_eq_zero_iff,FP];intro y _ z;unfold cr at z;simp only[R0,decide_eq_true_eq] at z;omega
def itr (f:Str->Str):Nat->Str->Str
 |0,x=>x
 |k+1,x=>f (itr f k x)
theorem DP (f:Str->Str)(x:Str)(b:Nat):∀a:Nat,itr f (a+b) x=itr f a (itr f b x)
 |0=>by rw[F2];rfl
 | a + 1 => by
  rw[show a+1+b=(a+b)+1 by omega];show f (itr f (a+b) x)=f (itr f a (itr f b x));rw[DP f x b a]
theorem Ir (f:Str->Str)(x:Str):∀k,itr f k (f x)=itr f (k+1) x:=λk=>(DP f x 1 k).symm
structure Prm (f:Str->Str)(row:List Str):Prop where
 st:∀x∈row,f x∈row
 inj:∀x∈row,∀y∈row,f x=f y->x=y
def Rch (f:Str->Str)(x y:Str):Prop:=∃k,itr f k x=y
section
variable {f:Str->Str}{row:List Str}
theorem Prm.mem (P:Prm f row){x:Str}(hx:x∈row):∀k,itr f k x∈row
 |0=>hx
 |k+1=>P.st _ (P.mem hx k)
theorem Prm.injk (P:Prm f row){x y:Str}(hx:x∈row)(hy:y∈row):∀k,itr f k x=itr f k y->x=y
 |0,h=>h
 |k+1,h=>P.injk hx hy k (P.inj _ (P.mem hx k) _ (P.mem hy k) h)
theorem Prm.per (P:Prm f row){x:Str}(hx:x∈row):∃k,1<=k/\k<=row.length/\itr f k x=x:=by
 apply i8
 intro no;have no':∀k,1<=k->k<=row.length->itr f k x≠x:=λk h1 h2 h3=>no ⟨k,h1,h2,h3⟩
 have key:∀a b,a<b->b<=row.length->itr f a x≠itr f b x:=λa b hab hb e=>by
  rw[show b=a+(b-a) by omega,DP] at e;exact no' (b-a) (by omega) (by omega) (P.injk (P.mem hx _) hx a e.symm)
 have nd:((D1 (row.length+1)).map λk=>itr f k x).Nodup:=HA _ List.nodup_range λa ha b hb e=>by
  have ha:=P1.mp ha;have hb:=P1.mp hb;rcases Nat.lt_trichotomy a b with c|c|c
  ·exact absurd e (key a b c (by omega))
  ·exact c
  ·exact absurd e.symm (key b a c (by omega))
 have:=nd.length_le_of_subset λz hz=>by
  obtain⟨k,_,rfl⟩:=J7.mp hz;exact P.mem hx k
 rw[B1,AL] at this;omega
theorem Rch.small (P:Prm f row){x y:Str}(hx:x∈row):∀k,itr f k x=y->∃j,j<=row.length/\itr f j x=y:=by
 intro k
 induction k using Nat.strongRecOn with
 | _ k ih =>
  intro h
  by_cases c:k<=row.length
  ·exact⟨k,c,h⟩
  ·obtain⟨p,p1,p2,p3⟩:=P.per hx;refine ih (k-p) (by omega) ?_;rw[<- h,show k=(k-p)+p by omega,DP,p3]
   congr 1
   omega
theorem Rch.trans {x y z:Str}(h1:Rch f x y)(h2:Rch f y z):Rch f x z:=by
 obtain⟨a,rfl⟩:=h1;obtain⟨b,rfl⟩:=h2;exact⟨b+a,DP f x a b⟩
theorem Rch.symm (P:Prm f row){x y:Str}(hx:x∈row)(h:Rch f x y):Rch f y x:=by
 obtain⟨k,rfl⟩:=h
 induction k with
 |zero=>exact⟨0,rfl⟩
 | succ k ih =>
  obtain⟨q,q1,_,q3⟩:=P.per (P.mem hx k);refine Rch.trans ⟨q-1,?_⟩ ih;show itr f (q-1) (f (itr f k x))=itr f k x;rw[Ir,show q-1+1=q by omega,q3]
def mnR (f:Str->Str)(row:List Str)(x:Str):Nat->Nat
 |0=>ixS row x
 |k+1=>min (mnR f row x k) (ixS row (itr f (k+1) x))
theorem mn_le (x:Str):∀k j,j<=k->mnR f row x k<=ixS row (itr f j x)
 | 0, j, h => by
  have:j=0:=by omega
  subst this;exact B7 _
 | k + 1, j, h => by
  show min _ _<=_
  by_cases c:j<=k
  ·have:=mn_le x k j c;omega
  ·have:j=k+1:=by omega
   subst this;omega
theorem Is (x:Str):∀k,∃j,j<=k/\mnR f row x k=ixS row (itr f j x)
 |0=>⟨0,B7 _,rfl⟩
 | k + 1 => by
  obtain⟨j,h1,h2⟩:=Is x k
  by_cases c:mnR f row x k<=ixS row (itr f (k+1) x)
  ·exact⟨j,by omega,by rw[<- h2];show min _ _=_;omega⟩
  ·exact⟨k+1,B7 _,by show min _ _=_;omega⟩
def cOf (f:Str->Str)(row:List Str)(x:Str):Nat:=mnR f row x row.length
theorem c_le (P:Prm f row){x y:Str}(hx:x∈row)(h:Rch f x y):cOf f row x<=ixS row y:=by
 obtain⟨k,hk⟩:=h;obtain⟨j,hj,rfl⟩:=Rch.small P hx k hk;exact mn_le x _ j hj
theorem AC (P:Prm f row){x y:Str}(hx:x∈row)(hy:y∈row):Rch f x y↔cOf f row x=cOf f row y:=by
 obtain⟨i,_,ei⟩:=Is (f:=f) (row:=row) x row.length;obtain⟨j,_,ej⟩:=Is (f:=f) (row:=row) y row.length;constructor
 ·intro h;have h':=h.symm P hx
  have a:cOf f row x<=cOf f row y:=by
   show _<=mnR f row y row.length;rw[ej];exact c_le P hx (h.trans ⟨j,rfl⟩)
  have b:cOf f row y<=cOf f row x:=by
   show _<=mnR f row x row.length;rw[ei];exact c_le P hy (h'.trans ⟨i,rfl⟩)
  omega
 ·intro h;have e:ixS row (itr f i x)=ixS row (itr f j y):=by rw[<- ei,<- ej];exact h
  have e2:=Co (P.mem hx i) (P.mem hy j) e;exact Rch.trans ⟨i,e2⟩ (Rch.symm P hy ⟨j,rfl⟩)
end
def ddN (l:List Nat):List Nat:=l.foldl (λjo v=>if v∈jo then jo else jo++[v]) []
theorem AD (l:List Nat)(v:Nat):ddN (l++[v])=if v∈ddN l then ddN l else ddN l++[v]:=by unfold ddN;rw[List.foldl_append];rfl
theorem V2 (l:List Nat):(ddN l).Nodup/\∀v,v∈ddN l↔v∈l:=by
 have h:∀m,∀l:List Nat,l.length=m->(ddN l).Nodup/\∀v,v∈ddN l↔v∈l:=by
  intro m
  induction m with
  | zero =>
   intro l hl;have:=AI hl;subst this;exact⟨Bx,λv=>Iff.rfl⟩
  | succ m ih =>
   intro l hl;have hne:l≠[]:=λz=>by rw[z] at hl;cases hl
   obtain⟨h1,h2⟩:=ih l.dropLast (by rw[List.length_dropLast];omega);have e:=List.dropLast_concat_getLast hne;rw[<- e];rw[AD]
   split
   ·rename_i c;refine⟨h1,λv=>?_⟩;rw[h2 v,E5,E3];exact⟨.inl,λz=>z.elim id λz=>by rw[z];exact(h2 _).mp c⟩
   ·rename_i c;refine⟨Y5.mpr ⟨h1,by simp,λa ha b hb z=>?_⟩,λv=>?_⟩
    ·rw[E3.mp hb] at z;rw[z] at ha;exact c ha
    ·rw[E5,E5,h2 v]
 exact h _ l rfl
theorem dd_len {l l':List Nat}(h:∀v,v∈l↔v∈l'):(ddN l).length=(ddN l').length:=by
 obtain⟨a1,a2⟩:=V2 l;obtain⟨b1,b2⟩:=V2 l';exact Bz (a1.length_le_of_subset λv hv=>(b2 v).mpr ((h v).mp ((a2 v).mp hv))) (b1.length_le_of_subset λv hv=>(a2 v).mpr ((h v).mpr ((b2 v).mp hv)))
theorem SE {l:List Nat}(h:l.Nodup):(ddN l).length=l.length:=by
 obtain⟨a1,a2⟩:=V2 l;exact Bz (a1.length_le_of_subset λv hv=>(a2 v).mp hv) (h.length_le_of_subset λv hv=>(a2 v).mpr hv)
def nxB (row jc:List Str)(b:Str):Str:=nm jc (ixS row b)
theorem w8 {row jc:List Str}(nd:row.Nodup)(p:jc.Perm row):Prm (nxB row jc) row:=by
 have l:=p.length_eq;refine⟨λx hx=>p.mem_iff.mp (V7 (by rw[l];exact Y0 hx)),λx hx y hy h=>?_⟩;exact Co hx hy (Le (p.nodup_iff.mpr nd) (by rw[l];exact Y0 hx) (by rw[l];exact Y0 hy) h)
theorem Mw {α:Type}{x:α}:∀{l:List α} (i:Nat),l.Nodup->x∉l->(l.set i x).Nodup
 |[],_,h,_=>h
 | y :: l, 0, h, hx => by
  rw[List.set_cons_zero,P0];exact⟨λz=>hx (C9 _ z),(P0.mp h).2⟩
 | y :: l, i + 1, h, hx => by
  rw[List.set_cons_succ,P0];refine⟨λz=>?_,Mw i (P0.mp h).2 λz=>hx (C9 _ z)⟩;rcases List.mem_or_eq_of_mem_set z with z|z
  ·exact(P0.mp h).1 z
  ·exact hx (by rw[<- z];exact C6)
theorem Mx {α:Type}(x:α):∀(xs:List α) (j:Nat),(insL xs j x).Perm (x::xs):=by
 intro xs j;unfold insL;have:=(List.perm_middle (a:=x) (l₁:=xs.take j) (l₂:=xs.drop j));rw[CK] at this;exact this
theorem My {α β:Type}(f:α->β)(xs:List α)(j:Nat)(x:α):insL (xs.map f) j (f x)=(insL xs j x).map f:=by
 unfold insL;rw[J8,J5,List.map_take,List.map_drop]
def Sg (ah:Int)(c:Nat)(z:Str):Prop:=(ah=0->∃l,z.cps.toList=l++[c])/\(ah=1->∃l,z.cps.toList=c::l)
theorem Sg.inj {ah:Int}{c d:Nat}{z:Str}(h:ah=0\/ah=1)(h1:Sg ah c z)(h2:Sg ah d z):c=d:=by
 rcases h with h|h
 ·obtain⟨l,e1⟩:=h1.1 h;obtain⟨l',e2⟩:=h2.1 h;rw[e1] at e2;have:=congrArg List.getLast? e2
  simpa using this
 ·obtain⟨l,e1⟩:=h1.2 h;obtain⟨l',e2⟩:=h2.2 h;rw[e1] at e2;exact(List.cons.inj e2).1
theorem SF {q n:Nat}{many:Int}{R:PV->Nat->Prop}(h0:1<=many)(h1:many<=24)(hn:n<=999900000)(h:∀(zs:List Str) n',(zs.length:Int)=many->RowS zs->n'<=n+1000->R (rowP zs) n'):Fp [.pot q,.int many] n R:=by
 refine⟨rfl,?_⟩;unfold LT;have l26:LETS.length=26:=Ky;have ll:LETS.length<=1000000:=by rw[l26];decide
 walk_at "pu";refine⟨by omega,λfi f0 f1=>⟨by omega,λd1 d10 d11=>?_⟩⟩;obtain⟨x,hx,ex⟩:=ER (xs:=[PV.int 1,PV.int 3,PV.int 5,PV.int 7,PV.int 9,PV.int 11,PV.int 15,PV.int 17]) d10 d11
 have hx':∃t:Int,x=.int t/\t∈Cn/\0<=t/\t<=17:=by
  simp only[C8,T1,or_false] at hx;rcases hx with rfl|rfl|rfl|rfl|rfl|rfl|rfl|rfl <;> exact⟨_,rfl,by decide,by decide,by decide⟩
 obtain⟨t,rfl,ht,t0,t1⟩:=hx';rw[ex];refine⟨by omega,λah a0 a1=>⟨by omega,λln l0 l1=>⟨by omega,?_⟩⟩⟩;have ha:ah=0\/ah=1:=by omega
 refine K9 (λi env m=>∃s7,∃z:Str,env=[some (.v (.pot q)),some (.v (.int many)),some (.v (.str LETS)),some (.v (.int fi)),some (.v (.int t)),some (.v (.int ah)),some (.v (.str z)),s7,none,none,none,none]/\z.length<=i/\(∀c∈z.cps.toList,Ltr c)/\m<=n+4+i) _ 0 _ _ ⟨none,_,rfl,B7 _,(λc z=>by cases z),by omega⟩ (λi x env m N ex hI hN=>?_) (λenv m hI=>?_)
 ·obtain⟨hi,rfl⟩:=o6 ex;obtain⟨s7,z,rfl,hz,lz,hm⟩:=hI;walk_at "pu";refine⟨by omega,λd d0 d1=>⟨ll,?_⟩⟩;rw[Kz d0 d1];dsimp only;have e1:∀c:Nat,(⟨#[c]⟩:Str).length=1:=λ_=>rfl;refine⟨by rw[e1];omega,hN _ _ ⟨some (.v (.int (0+i))),_,rfl,?_,?_,by omega⟩⟩
  ·rw[Dl,BR,D6,<- Dl];show _+1<=_;omega
  ·rw[BR];intro c hc;rcases E5.mp hc with hc|hc
   ·exact lz c hc
   ·rw[E3.mp hc];exact⟨by omega,by omega⟩
 ·obtain⟨s7,jq,rfl,hz,lz,hm⟩:=hI;rw[o7] at hz hm;walk_at "pu";refine⟨by omega,?_⟩;refine K9 (λi env m'=>∃s7 s9 s10,∃zs:List Str,env=[some (.v (.pot q)),some (.v (.int many)),some (.v (.str LETS)),some (.v (.int fi)),some (.v (.int t)),some (.v (.int ah)),some (.v (.str jq)),s7,some (.own (zs.map PV.str)),s9,s10,none]/\zs.length=i/\RowS zs/\(∀z∈zs,∃j,j<i/\Sg ah (lt fi t j) z)/\m'<=n+20+i) _ 0 _ _ ⟨s7,none,none,[],rfl,rfl,⟨Bx,(λ_ z=>by cases z)⟩,(λ_ z=>by cases z),by omega⟩ (λi x env m' N ex hI hN=>?_) (λenv m' hI=>?_)
  ·obtain⟨hi,rfl⟩:=o6 ex;obtain⟨s7,s9,s10,zs,rfl,hl,nd,hg,hm'⟩:=hI;generalize hF:zs.map PV.str=FF;have Fl:FF.length=zs.length:=by rw[<- hF,B1]
   walk_at "pu";have e1:∀c:Nat,(⟨#[c]⟩:Str).length=1:=λ_=>rfl;refine⟨.inl (Rt ht),ll,?_⟩;rw[show fi+t*(0+(i:Int))=fi+(i:Int)*t by rw[Int.zero_add,Int.mul_comm],lt_at]
   have lp:∀c∈(AX jq none (some (((0+(i:Int))*t+fi)%((jq.length:Int)+1)))).cps.toList,Ltr c:=λc hc=>by
    obtain⟨p,hp⟩:=Aa (AR ((0+(i:Int))*t+fi) (show(jq.length:Int)+1≠0 by omega));have:=BF ((0+(i:Int))*t+fi) (show(0:Int)<(jq.length:Int)+1 by omega);rw[hp] at hc this;rw[Qj jq (p:=p) (by omega)] at hc;exact lz c (Y4 hc)
   have pl:(AX jq none (some (((0+(i:Int))*t+fi)%((jq.length:Int)+1)))).length<=jq.length:=Dd jq _ _;generalize AX jq none (some (((0+(i:Int))*t+fi)%((jq.length:Int)+1)))=part at pl lp ⊢;refine⟨.inl ⟨by omega,by omega⟩,by omega,by omega,by omega,⟨_,rfl⟩,⟨by omega,by omega,by omega⟩,λd d0 d1=>⟨by rw[e1];omega,by rw[e1];omega,?_⟩⟩
   have pick:∃z:Str,atI [PV.str (part++(⟨#[lt fi t i]⟩:Str)),PV.str ((⟨#[lt fi t i]⟩:Str)++part)] ah=some (.str z)/\Sg ah (lt fi t i) z/\w4 z:=by
    have p7:part.cps.toList.length<=7:=by rw[<- Dl];omega
    have ll:Ltr (lt fi t i):=by unfold lt;exact⟨by omega,by omega⟩
    have bo:∀l:List Nat,(∀c∈l,c∈part.cps.toList\/c=lt fi t i)->l.length=part.cps.toList.length+1->1<=l.length/\l.length<=8/\∀c∈l,Ltr c:=λl h e=>⟨by omega,by omega,λc hc=>(h c hc).elim (lp c) λe=>by rw[e];exact ll⟩;rcases ha with rfl|rfl
    ·refine⟨_,rfl,⟨λ_=>⟨part.cps.toList,BR _ _⟩,λz=>by cases z⟩,?_⟩;unfold w4;rw[BR];exact bo _ (λc hc=>(E5.mp hc).imp id E3.mp) (D6 ..)
    ·refine⟨_,rfl,⟨(λz=>by cases z),λ_=>⟨part.cps.toList,BR _ _⟩⟩,?_⟩;unfold w4;rw[BR];exact bo _ (λc hc=>(E5.mp hc).elim (λh=>.inr (E3.mp h)) .inl) (by rw[D6];exact Nat.add_comm ..)
   obtain⟨z,ez,sz,bz⟩:=pick;rw[ez]
   have nz:z∉zs:=λc=>by
    obtain⟨j,hj,sj⟩:=hg z c;exact lt_ne ht f0 (show j<i by omega) (by omega) (Sg.inj ha sj sz)
   have pm:=Mx z zs d.toNat;refine⟨⟨by omega,by omega,by omega⟩,hN _ _ ⟨some (.v (.int (0+i))),some (.v (.str ⟨#[lt fi t i]⟩)),some (.v (.str part)),insL zs d.toNat z,?_,by rw[Hv];omega,⟨pm.nodup_iff.mpr (P0.mpr ⟨nz,nd.1⟩),λa ha=>(C8.mp (pm.mem_iff.mp ha)).elim (λe=>by rw[e];exact bz) (nd.2 a)⟩,λy hy=>?_,by omega⟩⟩
   ·rw[<- hF,My]
   ·rcases C8.mp (pm.mem_iff.mp hy) with e|hy
    ·rw[e];exact⟨i,by omega,sz⟩
    ·obtain⟨j,hj,sj⟩:=hg y hy;exact⟨j,by omega,sj⟩
  ·obtain⟨s7,s9,s10,zs,rfl,hl,nd,hg,hm'⟩:=hI;rw[o7] at hl hm';clear hg;generalize hF:zs.map PV.str=FF;walk_at "pu";refine⟨by omega,λd d0 d1=>?_⟩;obtain⟨x,hx,ex⟩:=ER (xs:=[PV.int 0,PV.int 0,PV.int 0,PV.int 1,PV.int 2]) d0 d1
   have hx':∃k:Int,x=.int k/\0<=k/\k<=2:=by
    simp only[C8,T1,or_false] at hx;rcases hx with rfl|rfl|rfl|rfl|rfl <;> exact⟨_,rfl,by decide,by decide⟩
   obtain⟨k,rfl,k0,k2⟩:=hx';rw[ex];refine⟨by omega,?_⟩;subst hF;refine K9 (λi env m2=>∃s7 s11,∃ys:List Str,env=[some (.v (.pot q)),some (.v (.int many)),some (.v (.str LETS)),some (.v (.int fi)),some (.v (.int t)),some (.v (.int ah)),some (.v (.str jq)),s7,some (.own (ys.map PV.str)),s9,s10,s11]/\ys.length=zs.length/\RowS ys/\m2<=m'+1+2*i) _ 0 _ _ ⟨s7,none,zs,rfl,rfl,nd,by omega⟩ (λi x env m2 N ex hI hN=>?_) (λenv m2 hI=>?_)
   ·obtain⟨hi,rfl⟩:=o6 ex;obtain⟨s7,s11,ys,rfl,ly,ndy,hm2⟩:=hI;generalize hF:ys.map PV.str=FF;have Fl:FF.length=ys.length:=by rw[<- hF,B1]
    walk_at "pu";refine⟨by omega,λe e0 e1=>?_⟩;obtain⟨x,hx,ex⟩:=ER (xs:=[PV.str (C7 "drop"),PV.str (C7 "touch"),PV.str (C7 "none"),PV.str (C7 "d"),PV.str (C7 "u"),PV.str (C7 "t"),PV.str (C7 "o")]) e0 e1;rw[ex]
    have bx:∃z:Str,x=.str z/\w4 z:=by
     simp only[C8,T1,or_false] at hx;rcases hx with rfl|rfl|rfl|rfl|rfl|rfl|rfl <;> exact⟨_,rfl,by decide,by decide,by unfold Ltr;decide⟩
    obtain⟨z,rfl,bz⟩:=bx;rw[<- hF];refine Rv rfl ?_;dsimp only
    by_cases cz:z∈ys
    ·refine if_f (by rw[ju cz];rfl) (hN _ _ ⟨some (.v (.int (0+i))),some (.v (.str z)),ys,rfl,ly,ndy,by omega⟩)
    ·refine if_t (by rw[jv cz];rfl) ⟨⟨_,rfl⟩,⟨by omega,by omega,by omega⟩,λj j0 j1=>?_⟩;rw[u6 j0 (by rw[B1];omega)];refine hN _ _ ⟨some (.v (.int (0+i))),some (.v (.str z)),ys.set j.toNat z,?_,by rw[K1];exact ly,⟨Mw j.toNat ndy.1 cz,λa ha=>(List.mem_or_eq_of_mem_set ha).elim (ndy.2 a) λe=>by rw[e];exact bz⟩,by omega⟩;rw[AN]
   ·obtain⟨s7,s11,ys,rfl,ly,ndy,hm2⟩:=hI;rw[o7] at hm2;walk_at "pu";exact h ys _ (by omega) ndy (by omega)
theorem Bj {Z:List PV}(hZ:zs.map PV.str=Z){i:Nat}(h:i<zs.length):atI Z (i:Int)=some (.str (nm zs i)):=by
 obtain⟨x,e1,e2⟩:=GE (xs:=Z) (d:=(i:Int)) (by omega) (by grind);rw[e2];rw[R1,<- hZ,K6,F7 h] at e1
 grind
theorem Iu {n d:Nat}(h:1<=n):HT.sIx n d (some (-1))=n-1:=by
 show(if(-1:Int)<0 then((-1:Int)+(n:Int)).toNat else min (-1:Int).toNat n)=n-1;rw[jw (by decide)];omega
theorem m_goal {q n:Nat}{zs:List Str}{R:PV->Nat->Prop}(h1:1<=zs.length)(h2:zs.length<=24)(hn:n<=999900000)(h:∀(ys:List Str) n',ys.Perm zs->n'<=n+100->R (rowP ys) n'):Fq [.pot q,rowP zs] n R:=by
 refine⟨rfl,?_⟩;unfold LU;have hr0:rowP zs=.tup (zs.map PV.str):=rfl;have hat:∀i:Nat,i<zs.length->atI (zs.map PV.str) (i:Int)=some (.str (nm zs i)):=λi hi=>Bj rfl hi;generalize hZ:zs.map PV.str=Z at *;have Zl:Z.length=zs.length:=by rw[<- hZ,B1]
 rw[hr0];walk_at "pu";refine⟨by omega,λw w0 w1=>?_⟩
 by_cases c:w<3
 ·refine if_t (ju c) ?_;refine K9 (λi env m=>∃s5,∃ys:List Str,env=[some (.v (.pot q)),some (.v (.tup Z)),some (.v (.int w)),some (.v (.int (Z.length:Int))),some (.own (ys.map PV.str)),s5,none,none]/\ys.Perm (zs.take i)/\ys.length=i/\m<=n+1+i) _ 0 _ _ ⟨none,[],rfl,by rw[List.take_zero],rfl,by omega⟩ (λi x env m N ex hI hN=>?_) (λenv m hI=>?_)
  ·rw[<- hZ] at ex;obtain⟨z,ez,rfl⟩:=V0 ex;obtain⟨s5,ys,rfl,pm,hl,hm⟩:=hI;have hi:=(E6.mp ez).1;generalize hF:ys.map PV.str=FF;have Fl:FF.length=ys.length:=by rw[<- hF,B1]
   walk_at "pu";refine⟨⟨_,rfl⟩,by omega,λd d0 d1=>⟨by omega,hN _ _ ⟨some (.v (.str z)),insL ys d.toNat z,?_,?_,by rw[Hv];omega,by omega⟩⟩⟩
   ·rw[<- hF,My]
   ·rw[F2] at pm ⊢;rw[O7 ez];exact(Mx z ys d.toNat).trans ((pm.cons z).trans (List.perm_append_singleton z _).symm)
  ·obtain⟨s5,ys,rfl,pm,hl,hm⟩:=hI;rw[F2,Zl,Y7] at pm;walk_at "pu";exact h ys _ pm (by omega)
 ·refine if_f (jv c) ⟨by omega,λa a0 a1=>⟨by omega,λb b0 b1=>?_⟩⟩;obtain⟨an,rfl⟩:=Aa a0;obtain⟨bn,rfl⟩:=Aa b0;rw[hat bn (by omega),hat an (by omega)];dsimp only;refine⟨⟨_,rfl⟩,?_⟩;rw[u6 (by omega) (by omega)];dsimp only;rw[u6 (by omega) (by rw[K1];omega)];dsimp only;rw[R1,R1]
  have c1:cutP Z (some (-1)) none=Z.drop (Z.length-1):=by
   unfold cutP;rw[Iu (by omega)];show(Z.drop (Z.length-1)).take (Z.length-(Z.length-1))=_;rw[T0 (by rw[U4];omega)]
  have c2:cutP Z none (some (-1))=Z.take (Z.length-1):=by
   unfold cutP;rw[Iu (by omega)]
   rfl
  rw[c1,c2];refine⟨by rw[U4,Y6];omega,?_⟩
  have pick:∃ys:List Str,atI [PV.tup Z.reverse,PV.tup (Z.drop (Z.length-1)++Z.take (Z.length-1)),PV.tup ((Z.set an (.str (nm zs bn))).set bn (.str (nm zs an)))] (w-3)=some (rowP ys)/\ys.Perm zs:=by
   rw[<- hZ]
   by_cases d1:w=3
   ·subst d1;refine⟨zs.reverse,?_,List.reverse_perm zs⟩;rw[<- List.map_reverse];rfl
   ·by_cases d2:w=4
    ·subst d2;refine⟨zs.drop (zs.length-1)++zs.take (zs.length-1),?_,?_⟩
     ·rw[B1,<- List.map_drop,<- List.map_take,<- J8];rfl
     ·have:=(List.perm_append_comm (l₁:=zs.drop (zs.length-1)) (l₂:=zs.take (zs.length-1)));rw[CK] at this;exact this
    ·have d3:w=5:=by omega
     subst d3;refine⟨exch zs an bn,?_,d7 (by omega) (by omega)⟩;unfold exch;rw[<- AN,<- AN];rfl
  obtain⟨ys,ey,py⟩:=pick;rw[ey];exact h ys _ py (by omega)
def pinN (k:Nat):PV:=.int (k:Int)
theorem Iv {a:Nat}{s0:Option Pu.Slot}{rest:Pu.Env}{n:Nat}{R:List PV->Pu.Env->Nat->Prop}:∀(l:List Nat) (s2:Option Pu.Slot),(∀s2,R (Bw (l.filter λb=>decide (b<a)).length (.int 1)) (s0::some (.v (.int (a:Int)))::s2::rest) n)->
   U9 (gN 2) (qB (qOp wLt (qV 2) (qV 1))) (qC (.int 1)) (l.map pinN) (s0::some (.v (.int (a:Int)))::s2::rest) n R
 |[],s2,h=>h s2
 | b :: l, s2, h => by
  show(if decide ((b:Int)<(a:Int))=true then U9 (gN 2) (qB (qOp wLt (qV 2) (qV 1))) (qC (.int 1)) (l.map pinN) (s0::some (.v (.int (a:Int)))::some (.v (.int (b:Int)))::rest) n λys e m=>R (.int 1::ys) e m else U9 (gN 2) (qB (qOp wLt (qV 2) (qV 1))) (qC (.int 1)) (l.map pinN) (s0::some (.v (.int (a:Int)))::some (.v (.int (b:Int)))::rest) n R)
  by_cases c:b<a
  ·refine if_t (ju (by omega)) (Iv l _ λs2=>?_);have:=h s2;rw[List.filter_cons_of_pos (by simpa using c),L8,List.replicate_succ] at this;exact this
  ·refine if_f (jv (by omega)) (Iv l _ λs2=>?_);have:=h s2;rw[List.filter_cons_of_neg (by simpa using c)] at this;exact this
theorem Mz {g:List Nat}(hl:g.length<=1000){n:Nat}{R:List PV->Nat->Prop}:∀(jr:List Nat) (i:Nat) (s0 s1 s2:Option Pu.Slot),g.drop i=jr->R (Bw (inv jr) (.int 1)) n->
   Bf (gTp 2 (gCn (gN 0) (gCn (gN 1) gNl))) (qIl (qSl (qV 3) (Z6 (qOp wAdd (qV 0) (qC (PV.int 1)))) qNo)) (gN 2) (qB (qOp wLt (qV 2) (qV 1))) (qC (.int 1)) (((jr.map pinN).zipIdx i).map λy=>PV.tup [.int (y.2:Nat),y.1]) [s0,s1,s2,some (.v (.lst (g.map pinN)))] n R
 |[],i,s0,s1,s2,_,h=>h
 | a :: jr, i, s0, s1, s2, e, h => by
  have e':g.drop (i+1)=jr:=by
   have:=congrArg (List.drop 1) e;rw[List.drop_drop] at this;rw[show i+1=i+1 from rfl];simpa[Nat.add_comm] using this
  refine⟨rfl,?_⟩;show(cutP (g.map pinN) (some ((i:Int)+1)) none).length<=1000/\U9 (gN 2) (qB (qOp wLt (qV 2) (qV 1))) (qC (.int 1)) (cutP (g.map pinN) (some ((i:Int)+1)) none) [some (.v (.int (i:Int))),some (.v (.int (a:Int))),s2,some (.v (.lst (g.map pinN)))] n _;rw[show cutP (g.map pinN) (some ((i:Int)+1)) none=jr.map pinN by rw[<- e',List.map_drop,<- HB];rfl];refine⟨by rw[B1,<- e',U4];omega,Iv jr _ λs2'=>?_⟩;refine Mz hl jr (i+1) _ _ _ e' ?_;rw[List.replicate_append_replicate];exact h
theorem MA {zs ys:List Str}{n:Nat}{R:PV->Nat->Prop}(h2:zs.length<=24)(pm:ys.Perm zs)(h:R (.int (inv (zs.map (ixS ys)):Nat)) n):Fn [rowP zs,rowP ys] n R:=by
 refine⟨rfl,?_⟩;unfold LK;have ly:=pm.length_eq;have hix:∀z∈zs,∀{R:PV->Prop},R (.int (ixS ys z))->U8 (.tup (ys.map PV.str)) (.str z) R:=λz hz {R} q=>m_ix rfl (pm.mem_iff.mpr hz) (by omega) q;have hr0:rowP zs=.tup (zs.map PV.str):=rfl;have hr1:rowP ys=.tup (ys.map PV.str):=rfl;generalize hY:ys.map PV.str=Y at *;have Zl:(zs.map PV.str).length=zs.length:=B1 ..;rw[hr0,hr1];generalize hZ:zs.map PV.str=Z at *;walk_at "pu";refine⟨by omega,?_⟩;rw[<- hZ];refine Ax PV.str (λz=>pinN (ixS ys z)) zs _ _ _ (λz hz m Q hQ=>?_) ?_
 ·walk_at "pu";exact⟨⟨_,rfl⟩,hix z hz hQ⟩
 ·have eg:(zs.map λz=>pinN (ixS ys z))=(zs.map (ixS ys)).map pinN:=by rw[i5];rfl
  have gl:(zs.map (ixS ys)).length=zs.length:=B1 ..;rw[eg];generalize zs.map (ixS ys)=g at *;refine⟨by rw[Dq,B1];omega,?_⟩;refine Mz (g:=g) (by omega) g 0 none none none rfl ?_;rw[FQ];exact h
abbrev pr (a b:Nat):PV:=.tup [.int a,.int b]
def TPp (s r n k i:Nat):List PV:=(D1 (min (k*s+i+1+r) (min (k*s+s) (n-1))-(k*s+i))).map λj=>pr (k*s+i) (k*s+i+1+j)
def TPk (s r n k:Nat):List PV:=(D1 (min (k*s+s) (n-1)-k*s)).flatMap (TPp s r n k)
def TP (s r n:Nat):List PV:=(D1 ((n+s-1)/s)).flatMap (TPk s r n)
theorem SG {s r n m:Nat}{R:PV->Nat->Prop}(h1:1<=s)(h2:s<=8)(hn:1<=n)(h:R (.int (((n+s-1)/s:Nat):Int)) m):HS [.tup [.int s,.int r],.int n] m R:=by
 refine⟨rfl,?_⟩;unfold LD;walk_at "pu";refine⟨⟨by omega,by omega⟩,?_⟩
 have e:((n:Int)+s-1)/s=(((n+s-1)/s:Nat):Int):=by
  rw[show(n:Int)+s-1=((n+s-1:Nat):Int) by omega]
  rfl
 rw[show((n:Int)+s-1)/s=(((n+s-1)/s:Nat):Int) from e];exact h
theorem m_span {s r n k m:Nat}{R:PV->Nat->Prop}(h1:1<=s)(h2:s<=8)(hn:1<=n)(hk:k<=1000)(h:R (.tup [.int ((k*s:Nat):Int),.int ((min (k*s+s) (n-1):Nat):Int)]) m):HU [.tup [.int s,.int r],.int n,.int k] m R:=by
 refine⟨rfl,?_⟩;unfold LE;walk_at "pu";refine⟨.inr ⟨by omega,by omega⟩,?_⟩
 have e:(if(n:Int)-1<(k:Int)*s+s then(n:Int)-1 else(k:Int)*s+s)=((min (k*s+s) (n-1):Nat):Int):=by
  have:((k*s:Nat):Int)=(k:Int)*s:=Int.natCast_mul k s
  split <;> omega
 have e2:(k:Int)*s=((k*s:Nat):Int):=(Int.natCast_mul k s).symm
 try dsimp only
 rw[e,e2];exact h
theorem Fx {s r n m:Nat}{R:PV->Nat->Prop}(h1:1<=s)(h2:s<=8)(hr:r<=7)(hn:1<=n)(hn2:n<=24)(h:R (.tup (TP s r n)) m):p5 [.tup [.int s,.int r],.int n] m R:=by
 refine⟨rfl,?_⟩;unfold LF;walk_at "pu";refine SG h1 h2 hn ?_
 have hk8:(n+s-1)/s<=24:=by
  refine Nat.div_le_of_le_mul ?_;have:24*s>=24+(s-1)*24:=by omega
  rw[Nat.mul_comm];omega
 refine⟨⟨Int.le_trans (by decide) (Int.natCast_nonneg _),by have:(((n+s-1)/s:Nat):Int)<=24:=Int.ofNat_le.mpr hk8;omega⟩,?_⟩;rw[R1];refine K9 (λk env m'=>∃s3 s4 s5 s6 s7,env=[some (.v (.tup [.int s,.int r])),some (.v (.int n)),some (.own ((D1 k).flatMap (TPk s r n))),s3,s4,s5,s6,s7]/\((D1 k).flatMap (TPk s r n)).length<=72*k/\m'=m) _ 0 _ _ ⟨_,_,_,_,_,rfl,by simp,rfl⟩ (λk x env m' N ex hI hN=>?_) (λenv m' hI=>?_)
 ·obtain⟨hk,rfl⟩:=o6 ex;obtain⟨s3,s4,s5,s6,s7,rfl,hl,rfl⟩:=hI;simp only[F2] at hl hN ⊢;walk_at "pu";rw[show(0:Int)+(k:Int)=((k:Nat):Int) by omega];refine m_span h1 h2 hn (by omega) ?_;walk_at "pu";have hks:k*s<=200:=G8 (Nat.mul_le_mul (show k<=24 by omega) h2) (by decide);refine⟨⟨by omega,by omega,by omega,by omega⟩,?_⟩;rw[show((((min (k*s+s) (n-1):Nat):Int))-((k*s:Nat):Int)).toNat=min (k*s+s) (n-1)-k*s by omega];refine K9 (λi env m''=>∃s6 s7,env=[some (.v (.tup [.int s,.int r])),some (.v (.int n)),some (.own ((D1 k).flatMap (TPk s r n)++(D1 i).flatMap (TPp s r n k))),some (.v (.int k)),some (.v (.int ((k*s:Nat):Int))),some (.v (.int ((min (k*s+s) (n-1):Nat):Int))),s6,s7]/\((D1 i).flatMap (TPp s r n k)).length<=9*i/\m''=m') _ 0 _ _ ⟨s6,s7,by simp,by simp,rfl⟩ (λi x env m'' N' ex hI hN'=>?_) (λenv m'' hI=>?_)
  ·obtain⟨hi,rfl⟩:=o6 ex;obtain⟨s6,s7,rfl,hl2,rfl⟩:=hI;simp only[F2] at hl2 hN' ⊢;walk_at "pu";have hi8:i<8:=by omega
   refine⟨⟨_,rfl⟩,?_⟩
   have e1:(if((min (k*s+s) (n-1):Nat):Int)<((k*s:Nat):Int)+i+1+r then((min (k*s+s) (n-1):Nat):Int) else((k*s:Nat):Int)+i+1+r)=((min (k*s+i+1+r) (min (k*s+s) (n-1)):Nat):Int):=by
    split <;> omega
   simp only[e1];refine⟨⟨by omega,by omega,by omega,by omega⟩,by rw[o7];omega,?_⟩;rw[show(((min (k*s+i+1+r) (min (k*s+s) (n-1)):Nat):Int)+1-(((k*s:Nat):Int)+i+1)).toNat=min (k*s+i+1+r) (min (k*s+s) (n-1))-(k*s+i) by omega];refine GY (λy=>.tup [.int (((k*s:Nat):Int)+i),y]) _ _ _ _ (λy hy m Q hQ=>?_) ?_
   ·walk_at "pu";exact hQ
   ·have e2:List.map (λy=>PV.tup [.int (((k*s:Nat):Int)+i),y]) (List.map (λ(j:Nat)=>PV.int (((k*s:Nat):Int)+i+1+j)) (D1 (min (k*s+i+1+r) (min (k*s+s) (n-1))-(k*s+i))))=TPp s r n k i:=by
     rw[i5];unfold TPp;refine Ec λj hj=>?_;simp only[Function.comp,pr]
     congr 3
    rw[e2]
    have hlp:(TPp s r n k i).length<=9:=by
     unfold TPp;rw[B1,AL];omega
    refine⟨by rw[D6];omega,?_⟩;refine hN' _ _ ?_;rw[Qh,Dx];exact⟨_,_,rfl,by rw[D6];omega,rfl⟩
  ·obtain⟨s6,s7,rfl,hl2,rfl⟩:=hI;rw[o7] at *;refine hN _ _ ?_;rw[Dx];rw[F2] at hl2 ⊢;have hT:(TPk s r n k).length<=72:=by unfold TPk;omega
   exact⟨_,_,_,_,_,rfl,by rw[D6];omega,rfl⟩
 ·obtain⟨s3,s4,s5,s6,s7,rfl,hl,rfl⟩:=hI;rw[o7];walk_at "pu";simp only[F2];exact h
def TPn (s r n:Nat):List (Nat×Nat):=(D1 ((n+s-1)/s)).flatMap λk=>(D1 (min (k*s+s) (n-1)-k*s)).flatMap λi=>(D1 (min (k*s+i+1+r) (min (k*s+s) (n-1))-(k*s+i))).map λj=>(k*s+i,k*s+i+1+j)
theorem TP_n (s r n:Nat):TP s r n=(TPn s r n).map λy=>pr y.1 y.2:=by
 unfold TP TPn TPk TPp;simp only[List.map_flatMap,i5]
 rfl
def okP (s r p q:Nat):Bool:=decide (p<q)&&(decide (q-p-1<=r)&&decide (q<=p/s*s+s))
theorem TPn_b:∀s<8,∀r<8,∀n<5,(decide ((TPn (s+1) r (n+1)).length<=10)&&(((TPn (s+1) r (n+1)).all λy=>okP (s+1) r y.1 y.2&&decide (y.2<n+1))&&((D1 (n+1)).all λp=>(D1 (n+1)).all λq=>!okP (s+1) r p q||decide ((p,q)∈TPn (s+1) r (n+1)))))=true:=by decide +kernel
structure Mt (s r n:Nat):Prop where
 s1:1<=s
 s8:s<=8
 r7:r<=7
 n1:1<=n
 n5:n<=5
theorem Bk {s r n:Nat}(h:Mt s r n):(TPn s r n).length<=10/\∀p q,(p,q)∈TPn s r n↔okP s r p q=true/\q<n:=by
 obtain⟨s1,s8,r7,n1,n5⟩:=h;have b:=TPn_b (s-1) (by omega) r (by omega) (n-1) (by omega);rw[show s-1+1=s by omega,show n-1+1=n by omega,R0,R0,J3,J3] at b;obtain⟨b1,b2,b3⟩:=b;refine⟨jz b1,λp q=>⟨λh=>?_,λ⟨h1,h2⟩=>?_⟩⟩
 ·have:=b2 _ h;rw[R0] at this;exact⟨this.1,jz this.2⟩
 ·have pq:p<q:=by
   unfold okP at h1;rw[R0] at h1;exact jz h1.1
  have:=J3.mp (b3 p (P1.mpr (by omega))) q (P1.mpr h2);rw[h1] at this;exact jz this
theorem Iw {s r j:Nat}(h:1<=s):okP s r j (j+1)=true:=by
 unfold okP;have e:=Nat.div_add_mod j s;have:=Nat.mod_lt j (show 0<s by omega);rw[Nat.mul_comm s] at e;rw[ju (by omega),ju (by omega),ju (by omega)];rfl
theorem V8 {s r p q:Nat}(h:okP s r p q=true):p<q:=by
 unfold okP at h;rw[R0] at h;exact jz h.1
theorem MB {s r n p q:Nat}(hs:n<=s)(hr:n<=r+2)(hq:q<n)(h:p<q):okP s r p q=true:=by
 unfold okP;rw[ju h,ju (by omega),Nat.div_eq_of_lt (by omega),ju (by omega)];rfl
theorem Fy {a b:Nat}(h:b<a)(B:List Nat):∀A:List Nat,inv (A++a::b::B)=inv (A++b::a::B)+1
 | [] => by
  show((b::B).filter λx=>decide (x<a)).length+((B.filter λx=>decide (x<b)).length+inv B)=((a::B).filter λx=>decide (x<b)).length+((B.filter λx=>decide (x<a)).length+inv B)+1;rw[y7,y7,jw (ju h),jy (by simp;omega),L8];omega
 | x :: A => by
  have ih:=Fy h B A;show((A++a::b::B).filter λy=>decide (y<x)).length+inv (A++a::b::B)=((A++b::a::B).filter λy=>decide (y<x)).length+inv (A++b::a::B)+1;rw[ih,((List.Perm.swap b a B).append_left A).filter _ |>.length_eq];omega
theorem Ix {st A B:List Str}{y b:Str}(e:st=A++y::b::B):exch st A.length (A.length+1)=A++b::y::B/\nm st A.length=y/\nm st (A.length+1)=b:=by
 subst e
 have n1:nm (A++y::b::B) A.length=y:=by
  have:=F7 (zs:=A++y::b::B) (i:=A.length) (by simp);rw[q8 (B7 _),CZ] at this;exact(E9 this).symm
 have n2:nm (A++y::b::B) (A.length+1)=b:=by
  have:=F7 (zs:=A++y::b::B) (i:=A.length+1) (by simp);rw[q8 (by omega),show A.length+1-A.length=1 by omega] at this;exact(E9 this).symm
 refine⟨?_,n1,n2⟩;unfold exch;rw[n1,n2,List.set_append_right _ _ (B7 _),CZ,List.set_append_right _ _ (by omega),show A.length+1-A.length=1 by omega]
 rfl
def led (s r:Nat):List Str->List (Str×Str)->Option (List Str)
 |st,[]=>some st
 |st,p::ps=>if okP s r (ixS st p.2) (ixS st p.1)=true then led s r (exch st (ixS st p.2) (ixS st p.1)) ps else none
theorem DQ {s r:Nat}:∀(ps:List (Str×Str)) (st st':List Str) (p:Str×Str),led s r st ps=some st'->led s r st (ps++[p])=if okP s r (ixS st' p.2) (ixS st' p.1)=true then some (exch st' (ixS st' p.2) (ixS st' p.1)) else none
 | [], st, st', p, h => by
  cases h
  rfl
 | a :: ps, st, st', p, h => by
  have h':(if okP s r (ixS st a.2) (ixS st a.1)=true then led s r (exch st (ixS st a.2) (ixS st a.1)) ps else none)=some st':=h;show(if _ then _ else _)=_
  by_cases d:okP s r (ixS st a.2) (ixS st a.1)=true
  ·rw[jw d] at h' ⊢;exact DQ ps _ _ p h'
  ·rw[jy d] at h';cases h'
theorem MC {A B:List Str}{x:Str}(h:(A++x::B).Nodup):ixS (A++x::B) x=A.length:=
 M1 h (E1 (by simp)).1 (by rw[q8 (B7 _),CZ];rfl)
structure Way (s r:Nat)(row jc:List Str)(i:Nat)(st:List Str)(ps:List (Str×Str)):Prop where
 pm:st.Perm jc
 hd:st.take i=jc.take i
 ld:led s r row ps=some st
 nu:ps.length+inv (st.map (ixS jc))=inv (row.map (ixS jc))
 mm:∀p∈ps,p.1∈jc/\p.2∈jc
theorem MD {s r:Nat}(s1:1<=s){row jc st:List Str}{i j:Nat}{b:Str}{ps:List (Str×Str)}(nd:jc.Nodup)(w:Way s r row jc i st ps)(hb:ixS jc b=i)(hm:b∈jc)(hj:ixS st b=j+1)(ij:i<=j):Way s r row jc i (exch st j (j+1)) (ps++[(b,nm st j)])/\ixS (exch st j (j+1)) b=j:=by
 have jt:=w.pm.nodup_iff.mpr nd;have bs:=w.pm.mem_iff.mpr hm;have jl:j+1<st.length:=by rw[<- hj];exact(E6.mp (E1 bs).1).1
 have eb:nm st (j+1)=b:=by
  have:=(E1 bs).1;rw[hj,F7 jl] at this;exact E9 this
 have e:st=st.take j++nm st j::b::st.drop (j+1+1):=by
  have e1:=F7 (zs:=st) (i:=j) (by omega);have e2:=F7 jl;rw[eb] at e2
  have d1:st.drop j=nm st j::st.drop (j+1):=by
   rw[AJ (by omega)];rw[D7 (by omega)] at e1;rw[E9 e1]
  have d2:st.drop (j+1)=b::st.drop (j+1+1):=by
   rw[AJ jl];rw[D7 jl] at e2;rw[E9 e2]
  rw[<- d2,<- d1,CK]
 have al:(st.take j).length=j:=by rw[Y6];omega
 generalize hA:st.take j=A at *;generalize hB:st.drop (j+1+1)=B at *;generalize hy:nm st j=y at *;obtain⟨x1,x2,x3⟩:=Ix e;rw[al] at x1 x2 x3;rw[x1];have pm':(A++b::y::B).Perm st:=by rw[e];exact(List.Perm.swap y b B).append_left A
 have nd':=pm'.nodup_iff.mpr jt;have ym:y∈jc:=w.pm.mem_iff.mp (by rw[e];simp)
 have yb:y≠b:=λz=>by
  rw[e] at jt;have:=(Y5.mp jt).2.1;rw[P0] at this;exact this.1 (by rw[z];simp)
 have iy:ixS st y=j:=by
  have:=MC (A:=A) (B:=b::B) (x:=y) (by rw[<- e];exact jt);rw[<- e,al] at this;exact this
 have yi:i<ixS jc y:=by
  have h1:¬ixS jc y<i:=λz=>by
   have a1:=(E1 ym).1;have a2:(jc.take i)[ixS jc y]?=some y:=by rw[y0,jw z];exact a1
   rw[<- w.hd,y0,jw z] at a2;have:=M1 jt a2 (E1 (w.pm.mem_iff.mpr ym)).1;omega
  have h2:ixS jc y≠i:=λz=>yb (Co ym hm (z.trans hb.symm));omega
 refine⟨⟨pm'.trans w.pm,?_,?_,?_,λp hp=>?_⟩,?_⟩
 ·have:=w.hd;rw[e,List.take_append_of_le_length (by omega)] at this;rw[List.take_append_of_le_length (by omega)];exact this
 ·rw[DQ ps row st (b,y) w.ld];show(if okP s r (ixS st y) (ixS st b)=true then some (exch st (ixS st y) (ixS st b)) else none)=_;rw[iy,hj,jw (Iw s1),x1]
 ·have h1:=w.nu;rw[e,J8,J5,J5,Fy (show ixS jc b<ixS jc y by omega)] at h1;rw[D6,t9,J8,J5,J5];omega
 ·rcases E5.mp hp with hp|hp
  ·exact w.mm p hp
  ·rw[E3.mp hp];exact⟨hm,ym⟩
 ·have:=MC (A:=A) (B:=y::B) (x:=b) nd';rw[al] at this;exact this
theorem Bl {R:PV->Nat->Prop}(hi:i<f.length)(hj:j<f.length)(h:R (rowP (exch f i j)) n):T7 [rowP f,.int (i:Int),.int (j:Int)] n R:=by
 refine⟨rfl,?_⟩;unfold LG;unfold rowP at *;have ai:∀{k:Nat},k<f.length->atI (f.map PV.str) (k:Int)=some (.str (nm f k)):=λ{k} hk=>Di (by rw[K6,F7 hk];rfl);have e:((f.map PV.str).set i (.str (nm f j))).set j (.str (nm f i))=(exch f i j).map PV.str:=by unfold exch;rw[AN,AN]
 generalize hF:f.map PV.str=F at *;have Fl:F.length=f.length:=by rw[<- hF,B1]
 walk_at "pu";rw[ai hj];dsimp only;rw[ai hi];dsimp only;refine⟨⟨_,rfl⟩,?_⟩;rw[u6 (by omega) (by omega)];dsimp only;rw[u6 (by omega) (by rw[K1];omega)];dsimp only;rw[R1,R1,e];exact h
theorem Iy {f:List Str}{i j n:Nat}{R:PV->Nat->Prop}(hi:i<f.length)(hj:j<f.length)(h:R (rowP (exch f i j)) n):Cu [rowP f,.int (i:Int),.int (j:Int)] n R:=by
 refine⟨rfl,?_⟩;unfold Mf;unfold rowP at *;have ai:∀{k:Nat},k<f.length->atI (f.map PV.str) (k:Int)=some (.str (nm f k)):=λ{k} hk=>Di (by rw[K6,F7 hk];rfl);have e:((f.map PV.str).set i (.str (nm f j))).set j (.str (nm f i))=(exch f i j).map PV.str:=by unfold exch;rw[AN,AN]
 generalize hF:f.map PV.str=F at *;have Fl:F.length=f.length:=by rw[<- hF,B1]
 walk_at "pu";rw[ai hj];dsimp only;rw[ai hi];dsimp only;refine⟨⟨_,rfl⟩,?_⟩;rw[u6 (by omega) (by omega)];dsimp only;rw[u6 (by omega) (by rw[K1];omega)];dsimp only;rw[R1,R1,e];exact h
theorem SH {J:Int}{k:Nat}{x:PV}{N:Nat}(h:((D1 N).map λ(k:Nat)=>PV.int (J-1-k))[k]?=some x):k<N/\x=.int (J-1-k):=by
 rw[K6] at h
 by_cases c:k<N
 ·rw[List.getElem?_range c] at h;exact⟨c,(E9 h).symm⟩
 ·rw[Q0 (by rw[AL];omega)] at h;cases h
theorem ME (m:Nat):∀l:List Nat,l.length<=m->inv l<=m*l.length
 |[],_=>M5 _
 | a :: l, h => by
  have ih:=ME m l (by rw[L8] at h;omega);have:=CL (λb=>decide (b<a)) l;rw[L8] at h ⊢;show(l.filter λb=>decide (b<a)).length+inv l<=m*(l.length+1);rw[Nat.mul_succ];omega
def prS (p:Str×Str):PV:=.tup [.str p.1,.str p.2]
theorem SI {s r:Nat}(s1:1<=s){row jc:List Str}{n:Nat}{R:PV->Nat->Prop}(nd:jc.Nodup)(pm:row.Perm jc)(h1:1<=jc.length)(h2:jc.length<=24)(h:∀ps,Way s r row jc jc.length jc ps->R (.tup (ps.map prS)) n):HX [rowP row,rowP jc] n R:=by
 refine⟨rfl,?_⟩;unfold LM;have hr1:rowP jc=.tup (jc.map PV.str):=rfl;have hix:∀{st:List Str} {z:Str},st.Perm jc->z∈jc->∀{R:PV->Prop},R (.int (ixS st z))->U8 (rowP st) (.str z) R:=λ{st z} p hz {R} q=>m_ix rfl (p.mem_iff.mpr hz) (by rw[p.length_eq];omega) q
 have hat:∀{st:List Str} {i:Nat} {R:PV->Prop},i<st.length->R (.str (nm st i))->wIx (rowP st) (.int (i:Int)) R:=λ{st i R} hi q=>by
  show match atI (st.map PV.str) (i:Int) with|some z=>R z|none=>False
  rw[Bj rfl hi];exact q
 rw[hr1];have Ol:(jc.map PV.str).length=jc.length:=B1 ..;generalize hO:jc.map PV.str=O at *;generalize hW:rowP row=W;walk_at "pu";refine K9 (λi env m=>∃(st:List Str) (ps:List (Str×Str)) (s4 s5 s6:Option Pu.Slot),env=[some (.v W),some (.v (.tup O)),some (.v (rowP st)),some (.own (ps.map prS)),s4,s5,s6]/\Way s r row jc i st ps/\m=n) _ 0 _ _ ⟨row,[],none,none,none,by rw[hW];rfl,⟨pm,rfl,rfl,(by show 0+_=_;omega),(λ_ z=>nomatch z)⟩,rfl⟩ (λi x env m N ex hI hN=>?_) (λenv m hI=>?_)
 ·obtain⟨st,ps,s4,s5,s6,rfl,w,rfl⟩:=hI;rw[F2] at w hN;obtain⟨y,ey,rfl⟩:=EL ex;rw[<- hO] at ey;obtain⟨b,eb,rfl⟩:=V0 ey;have il:i<jc.length:=(E6.mp eb).1;have hm:=J9 eb;have hb:ixS jc b=i:=M1 nd (E1 hm).1 eb;have hx:=λ(R:PV->Prop) q=>hix (R:=R) w.pm hm q
  have hj:i<=ixS st b:=by
   by_cases c:ixS st b<i
   ·exfalso
    have a1:=(E1 (w.pm.mem_iff.mpr hm)).1;have a2:(st.take i)[ixS st b]?=some b:=by rw[y0,jw c];exact a1
    rw[w.hd,y0,jw c] at a2;have:=M1 nd a2 eb;omega
   ·omega
  have jl:ixS st b<st.length:=(E6.mp (E1 (w.pm.mem_iff.mpr hm)).1).1;have sl:=w.pm.length_eq;generalize hS:rowP st=S at *;generalize hP:ps.map prS=PP at *;walk_at "pu";refine⟨⟨_,hS.symm⟩,hx _ ⟨⟨by omega,by omega,by omega⟩,?_⟩⟩;clear hx;generalize hJ:ixS st b=J at *;refine K9 (λk env m'=>∃(st:List Str) (ps:List (Str×Str)) (s6:Option Pu.Slot),env=[some (.v W),some (.v (.tup O)),some (.v (rowP st)),some (.own (ps.map prS)),some (.v (.int (i:Int))),some (.v (.str b)),s6]/\Way s r row jc i st ps/\ixS st b=J-k/\m'=m) _ 0 _ _ ⟨st,ps,s6,by rw[hS,hP],w,hJ,rfl⟩ (λk x env m' N' ex' hI hN'=>?_) (λenv m' hI=>?_)
  ·obtain⟨st,ps,s6,rfl,w,hk,rfl⟩:=hI;obtain⟨hk2,rfl⟩:=SH ex';rw[F2] at hk hN';obtain⟨w',hb'⟩:=MD s1 nd w hb hm (show ixS st b=(J-1-k)+1 by omega) (by omega);have sl:=w.pm.length_eq
   have lp:ps.length<=576:=by
    have:=w.nu;have:=ME 24 (row.map (ixS jc)) (by rw[B1,pm.length_eq];exact h2);rw[B1,pm.length_eq] at this;omega
   have mx:=λ(R:PV->Nat->Prop) q=>Bl (f:=st) (i:=J-1-k) (j:=J-1-k+1) (n:=m') (R:=R) (by omega) (by omega) q;have ha:=λ(R:PV->Prop) q=>hat (st:=st) (i:=J-1-k) (R:=R) (by omega) q;have Pl:(ps.map prS).length=ps.length:=B1 ..;have e1:ps.map prS++[.tup [.str b,.str (nm st (J-1-k))]]=(ps++[(b,nm st (J-1-k))]).map prS:=by rw[J8];rfl
   rw[show((J:Nat):Int)-1-(k:Int)=((J-1-k:Nat):Int) by omega];generalize hS:rowP st=S at *;generalize ps.map prS=PP at *;walk_at "pu";rw[show((J-1-k:Nat):Int)+1=((J-1-k+1:Nat):Int) by omega];refine⟨⟨_,rfl⟩,ha _ ⟨by omega,mx _ ?_⟩⟩;rw[e1];exact hN' _ _ ⟨_,_,_,rfl,w',by omega,rfl⟩
  ·obtain⟨st,ps,s6,rfl,w,hk,rfl⟩:=hI;rw[F2,B1,AL] at hk;refine hN _ _ ⟨st,ps,_,_,_,rfl,⟨w.pm,?_,w.ld,w.nu,w.mm⟩,rfl⟩;have a1:=(E1 (w.pm.mem_iff.mpr hm)).1;rw[hk,show J-((J:Int)-i).toNat=i by omega] at a1;rw[O7 a1,O7 eb,w.hd]
 ·obtain⟨st,ps,s4,s5,s6,rfl,w,rfl⟩:=hI;rw[Dq,Ol] at w;rw[F2] at w
  have e:st=jc:=by
   have:=w.hd;rw[T0 (by rw[w.pm.length_eq];exact B7 _),T0 (B7 _)] at this;exact this
  subst e;generalize hP:ps.map prS=PP;walk_at "pu";rw[<- hP];exact h ps w
theorem MF (g:List Nat):∀(jr:List Nat) (k:Nat),g.drop k=jr->((jr.zipIdx k).map λy=>(((g.drop y.2).filter λb=>decide (b<y.1)).length:Int)).sum=(inv jr:Int)
 |[],_,_=>rfl
 | a :: jr, k, h => by
  have ih:=MF g jr (k+1) (by have:=congrArg List.tail h;rw[List.tail_drop] at this;exact this);rw[CP,J5,List.sum_cons,ih,h];show(((a::jr).filter λb=>decide (b<a)).length:Int)+_=(((jr.filter λb=>decide (b<a)).length+inv jr:Nat):Int);rw[y7,jy (by simp)];omega
theorem MG {α:Type}(f:α->Int):∀l:List α,Ay (l.map λy=>PV.int (f y))=some (l.map f)
 |[]=>rfl
 | a :: l => by
  show(Ay (l.map λy=>PV.int (f y))).map _=_;rw[MG f l];rfl
theorem Iz {a:Nat}{rest:Pu.Env}:∀(l:List Nat) (s0:Option Pu.Slot) (n:Nat) (R:List PV->Nat->Prop),R (Bw (l.filter λb=>decide (b<a)).length (.int 1)) n->Q3 (gN 0) (qB (qOp wLt (qV 0) (qV 1))) (qC (.int 1)) (l.map pinN) (s0::some (.v (pinN a))::rest) n R
 |[],_,_,_,h=>h
 | b :: l, s0, n, R, h => by
  rw[y7] at h;show(if decide ((b:Int)<(a:Int))=true then _ else _)
  by_cases c:b<a
  ·rw[jw (ju c)] at h;exact if_t (ju (by omega)) (Iz l _ _ _ h)
  ·rw[jy (by simpa using c)] at h;exact if_f (jv (by omega)) (Iz l _ _ _ h)
theorem SJ {zs ys:List Str}{n:Nat}{R:PV->Nat->Prop}(h2:zs.length<=24)(pm:ys.Perm zs)(h:R (.int (inv (zs.map (ixS ys)):Nat)) n):Il [rowP zs,rowP ys] n R:=by
 refine⟨rfl,?_⟩;unfold Mh;have ly:=pm.length_eq;have hix:∀z∈zs,∀{R:PV->Prop},R (.int (ixS ys z))->U8 (.tup (ys.map PV.str)) (.str z) R:=λz hz {R} q=>m_ix rfl (pm.mem_iff.mpr hz) (by omega) q;have hr0:rowP zs=.tup (zs.map PV.str):=rfl;have hr1:rowP ys=.tup (ys.map PV.str):=rfl;generalize hY:ys.map PV.str=Y at *;have Zl:(zs.map PV.str).length=zs.length:=B1 ..;rw[hr0,hr1];generalize hZ:zs.map PV.str=Z at *;walk_at "pu";refine⟨by omega,?_⟩;rw[<- hZ];refine Ax PV.str (λz=>pinN (ixS ys z)) zs _ _ _ (λz hz m Q hQ=>?_) ?_
 ·walk_at "pu";exact⟨⟨_,rfl⟩,hix z hz hQ⟩
 ·have eg:(zs.map λz=>pinN (ixS ys z))=(zs.map (ixS ys)).map pinN:=by rw[i5];rfl
  have gl:(zs.map (ixS ys)).length=zs.length:=B1 ..;rw[eg];generalize zs.map (ixS ys)=g at *
  have ee:At (g.map pinN)=g.zipIdx.map λy=>PV.tup [.int (y.2:Nat),pinN y.1]:=by
   unfold At;rw[List.zipIdx_map,i5];rfl
  rw[ee];refine⟨by rw[B1,List.length_zipIdx];omega,?_⟩;refine KJ (λy:Nat×Nat=>.int (y.2:Nat)) (λy=>pinN y.1) (λy=>.int (((g.drop y.2).filter λb=>decide (b<y.1)).length:Int)) g.zipIdx _ _ _ _ (λy hy m Q hQ=>?_) ?_
  ·have ec:cutP (g.map pinN) (some ((y.2:Nat):Int)) none=(g.drop y.2).map pinN:=by rw[EH,HB]
   have Gl:(g.map pinN).length=zs.length:=by rw[B1,gl]
   generalize hG:g.map pinN=G at *;walk_at "pu";rw[ec];refine⟨by rw[B1,U4];omega,Iz _ _ _ _ ?_⟩;rw[FQ];exact hQ
  ·rw[MG];have es:=MF g g 0 rfl;refine⟨by rw[B1,List.length_zipIdx];omega,λi hi=>?_,by rw[es];exact h⟩;obtain⟨y,_,rfl⟩:=J7.mp hi;have:=CL (λb=>decide (b<y.1)) (g.drop y.2);rw[U4] at this;exact⟨by omega,by omega⟩
theorem D2 (h:∀U:pS,U=q->p { D with nx:=λe m=>U D e m } env n):qSeq p q D env n:=h q rfl
theorem pr_mem {s r a b n:Nat}(M:Mt s r n)(hb:b<n):memP (pr a b) ((TPn s r n).map λy=>pr y.1 y.2)=okP s r a b:=by
 unfold memP;rw[CV,z9,y4];constructor
 ·rintro⟨⟨p,q⟩,hp,e⟩;have e:(decide ((p:Int)=(a:Int))&&(decide ((q:Int)=(b:Int))&&true))=true:=e;simp only[Bool.and_true,R0,decide_eq_true_eq] at e;have:=((Bk M).2 p q).mp hp;rw[show p=a by omega,show q=b by omega] at this;exact this.1
 ·intro e;refine⟨(a,b),((Bk M).2 a b).mpr ⟨e,hb⟩,?_⟩;show(decide ((a:Int)=(a:Int))&&(decide ((b:Int)=(b:Int))&&true))=true;rw[ju rfl,ju rfl];rfl
theorem IA:∀a b:List Str,eqPs (a.map PV.str) (b.map PV.str)=decide (a=b)
 |[],[]=>rfl
 |[],_::_=>rfl
 |_::_,[]=>rfl
 | x :: a, y :: b => by
  rw[J5,J5,Kl,IA a b,Aw]
  by_cases c:x=y <;> by_cases d:a=b <;> simp[c,d]
theorem IB {s r:Nat}{p q n:Nat}{R:PV->Nat->Prop}(s1:1<=s)(h2:s<=8)(hr:r<=7)(hp:p<30)(hq:q<30)(h:R (.bl (okP s r p q)) n):Cs [.tup [.int s,.int r],.int p,.int q] n R:=by
 refine⟨rfl,?_⟩;unfold Me;walk_at "pu";unfold okP at h
 by_cases c:p<q
 ·rw[ju c,Bool.true_and] at h;have e3:(p:Int)/(s:Int)*(s:Int)=((p/s*s:Nat):Int):=by rw[Int.natCast_mul,Int.natCast_ediv]
  refine if_t (ju (by omega)) ?_
  by_cases d:q-p-1<=r
  ·rw[ju d,Bool.true_and] at h;have dl:p/s<=30:=G8 (Nat.div_le_self p s) (by omega);have e4:(p:Int)/(s:Int)=((p/s:Nat):Int):=(Int.natCast_ediv p s).symm;refine if_t (ju (by omega)) ⟨⟨by omega,by omega⟩,.inr ⟨by omega,by omega⟩,?_⟩;rw[e3,show decide ((q:Int)<=((p/s*s:Nat):Int)+(s:Int))=decide (q<=p/s*s+s) from decide_eq_decide.mpr (by omega)];exact h
  ·rw[jv d,BE] at h;exact if_f (jv (by omega)) h
 ·rw[jv c,BE] at h;exact if_f (jv (by omega)) h
theorem IC {s r:Nat}{st:List Str}{p:Str×Str}{ps:List (Str×Str)}:led s r st (p::ps)=if okP s r (ixS st p.2) (ixS st p.1)=true then led s r (exch st (ixS st p.2) (ixS st p.1)) ps else none:=rfl
theorem Fz {α:Type}{l:List α}{i:Nat}{x:α}(h:l[i]?=some x):l.drop i=x::l.drop (i+1):=by
 obtain⟨hi,e⟩:=E6.mp h;rw[AJ hi,e]
theorem SK {s r n:Nat}{row jc:List Str}{ps:List (Str×Str)}{R:PV->Nat->Prop}(M:Mt s r row.length)(hp:∀p∈ps,p.1∈row/\p.2∈row)(h:R (.bl (decide (led s r row ps=some jc))) n):Ie [.tup [.int s,.int r],rowP row,rowP jc,.tup (ps.map prS)] n R:=by
 refine⟨rfl,?_⟩;unfold LZ;have n5:=M.n5;have hr1:rowP jc=.tup (jc.map PV.str):=rfl;have hr0:rowP row=.tup (row.map PV.str):=rfl;have hix:∀{st:List Str} {z:Str},st.Perm row->z∈row->∀{R:PV->Prop},R (.int (ixS st z))->U8 (rowP st) (.str z) R:=λ{st z} p hz {R} q=>m_ix rfl (p.mem_iff.mpr hz) (by rw[p.length_eq];omega) q;have mt:∀{R:PV->Nat->Prop},R (.tup (TP s r row.length)) n->p5 [.tup [.int s,.int r],.int (row.length:Nat)] n R:=λq=>Fx M.s1 M.s8 M.r7 M.n1 (by omega) q;rw[TP_n] at mt
 have ct:(((TPn s r row.length).map λy=>pr y.1 y.2):List PV).all (cmpb 4)=true:=J3.mpr λy hy=>by
  obtain⟨p,_,rfl⟩:=J7.mp hy
  rfl
 have mp:=λ(a b:Nat) (hb:b<row.length)=>pr_mem (a:=a) (b:=b) M hb;generalize hT:(TPn s r row.length).map (λy=>pr y.1 y.2)=T at *;have Rl:(row.map PV.str).length=row.length:=B1 ..;refine D2 λU hU=>?_;rw[hr0];walk_at "pu";rw[Rl];refine mt ?_;subst hU;rw[<- hr0];refine D2 λU hU=>?_;generalize hW:rowP row=W at *;generalize hO:rowP jc=O at *;walk_at "pu";subst hU;refine D2 λU hU=>?_;walk_at "pu";refine K9 (λi env m=>∃(st:List Str) (s6 s7 s8 s9:Option Pu.Slot),env=[some (.v (.tup [.int s,.int r])),some (.v W),some (.v O),some (.v (.tup (ps.map prS))),some (.v (.tup T)),some (.v (rowP st)),s6,s7,s8,s9]/\st.Perm row/\led s r st (ps.drop i)=led s r row ps/\m=n) _ 0 _ _ ⟨row,none,none,none,none,by rw[hW],List.Perm.refl _,rfl,rfl⟩ (λi x env m N ex hI hN=>?_) (λenv m hI=>?_)
 ·obtain⟨st,s6,s7,s8,s9,rfl,pm,hd,rfl⟩:=hI;rw[F2] at hd hN;obtain⟨p,ep,rfl⟩:=V0 ex;obtain⟨p1,p2⟩:=hp p (J9 ep);rw[Fz ep,IC] at hd;have x1:=λ(R:PV->Prop) q=>hix (R:=R) pm p1 q;have x2:=λ(R:PV->Prop) q=>hix (R:=R) pm p2 q;have i1:ixS st p.1<row.length:=by rw[<- pm.length_eq];exact(E6.mp (E1 (pm.mem_iff.mpr p1)).1).1
  have i2:ixS st p.2<row.length:=by rw[<- pm.length_eq];exact(E6.mp (E1 (pm.mem_iff.mpr p2)).1).1
  have mx:=λ(R:PV->Nat->Prop) q=>Bl (f:=st) (i:=ixS st p.2) (j:=ixS st p.1) (n:=m) (R:=R) (by rw[pm.length_eq];exact i2) (by rw[pm.length_eq];exact i1) q;have pm':=(d7 (f:=st) (i:=ixS st p.2) (j:=ixS st p.1) (by rw[pm.length_eq];exact i2) (by rw[pm.length_eq];exact i1)).trans pm;have ip:=mp (ixS st p.2) (ixS st p.1) i1;have eS:rowP st=.tup (st.map PV.str):=rfl;generalize hS:rowP st=S at *;generalize hPP:ps.map prS=PP at *;unfold prS;walk_at "pu";refine⟨⟨_,eS⟩,x2 _ ⟨⟨_,eS⟩,x1 _ ⟨rfl,ct,?_⟩⟩⟩;rw[ip]
  by_cases c:okP s r (ixS st p.2) (ixS st p.1)=true
  ·rw[jw c] at hd;rw[c];exact if_f rfl (mx _ (hN _ _ ⟨_,_,_,_,_,rfl,pm',hd,rfl⟩))
  ·rw[jy c] at hd;rw[eq_false_of_ne_true c];rw[<- hd] at h;exact if_t rfl (by simpa using h)
 ·obtain⟨st,s6,s7,s8,s9,rfl,pm,hd,rfl⟩:=hI;rw[F2,B1,Bu] at hd;have hd:some st=led s r row ps:=hd;rw[<- hd] at h;have e:=IA st jc;have hO':O=.tup (jc.map PV.str):=hO.symm;have c1:=Bg st 3;have c2:=Bg jc 3;rw[show rowP st=.tup (st.map PV.str) from rfl,hO'];generalize st.map PV.str=S at *;generalize jc.map PV.str=Q at *;generalize ps.map prS=PP at *;subst hU;walk_at "pu";rw[show decide (some st=some jc)=decide (st=jc) by simp,<- e] at h;exact gd2 c1 c2 h
theorem m_lled {s r n:Nat}{row:List Str}{ps:List (Str×Str)}{R:PV->Nat->Prop}(M:Mt s r row.length)(hp:∀p∈ps,p.1∈row/\p.2∈row)(h:R (match led s r row ps with|some st=>rowP st|none=>.non) n):Im [.tup [.int s,.int r],rowP row,.tup (ps.map prS)] n R:=by
 refine⟨rfl,?_⟩;unfold Mj;have n5:=M.n5;have hix:∀{st:List Str} {z:Str},st.Perm row->z∈row->∀{R:PV->Prop},R (.int (ixS st z))->U8 (rowP st) (.str z) R:=λ{st z} p hz {R} q=>m_ix rfl (p.mem_iff.mpr hz) (by rw[p.length_eq];omega) q;have hin:∀{st:List Str} {z:Str},st.Perm row->z∈row->∀{R:PV->Prop},R (.bl false)->wIn 4 true (.str z) (rowP st) R:=λ{st z} p hz {R} q=>Hz rfl (by rw[ju (p.mem_iff.mpr hz)];exact q);generalize hPP:ps.map prS=PP at *;refine D2 λU hU=>?_;generalize hW:rowP row=W at *;walk_at "pu";subst hU;refine D2 λU hU=>?_;walk_at "pu";refine K9 (λi env m=>∃(st:List Str) (s3 s4 s5:Option Pu.Slot),env=[some (.v (.tup [.int s,.int r])),some (.v (rowP st)),some (.v (.tup PP)),s3,s4,s5]/\st.Perm row/\led s r st (ps.drop i)=led s r row ps/\m=n) _ 0 _ _ ⟨row,none,none,none,by rw[hW],List.Perm.refl _,rfl,rfl⟩ (λi x env m N ex hI hN=>?_) (λenv m hI=>?_)
 ·obtain⟨st,s3,s4,s5,rfl,pm,hd,rfl⟩:=hI;rw[F2] at hd hN;rw[<- hPP] at ex;obtain⟨p,ep,rfl⟩:=V0 ex;obtain⟨p1,p2⟩:=hp p (J9 ep);rw[Fz ep,IC] at hd;have x1:=λ(R:PV->Prop) q=>hix (R:=R) pm p1 q;have x2:=λ(R:PV->Prop) q=>hix (R:=R) pm p2 q;have y1:=λ(R:PV->Prop) q=>hin (R:=R) pm p1 q;have y2:=λ(R:PV->Prop) q=>hin (R:=R) pm p2 q;have i1:ixS st p.1<row.length:=by rw[<- pm.length_eq];exact(E6.mp (E1 (pm.mem_iff.mpr p1)).1).1
  have i2:ixS st p.2<row.length:=by rw[<- pm.length_eq];exact(E6.mp (E1 (pm.mem_iff.mpr p2)).1).1
  have mx:=λ(R:PV->Nat->Prop) q=>Iy (f:=st) (i:=ixS st p.2) (j:=ixS st p.1) (n:=m) (R:=R) (by rw[pm.length_eq];exact i2) (by rw[pm.length_eq];exact i1) q;have mp:=λ(R:PV->Nat->Prop) q=>IB (s:=s) (r:=r) (p:=ixS st p.2) (q:=ixS st p.1) (n:=m) (R:=R) M.s1 M.s8 M.r7 (by omega) (by omega) q;have pm':=(d7 (f:=st) (i:=ixS st p.2) (j:=ixS st p.1) (by rw[pm.length_eq];exact i2) (by rw[pm.length_eq];exact i1)).trans pm;have eS:rowP st=.tup (st.map PV.str):=rfl;generalize hS:rowP st=S at *;unfold prS;walk_at "pu";refine if_f (by decide) (y1 _ (if_f rfl (y2 _ (if_f rfl ⟨⟨_,eS⟩,x2 _ ⟨⟨_,eS⟩,x1 _ (mp _ ?_)⟩⟩))))
  by_cases c:okP s r (ixS st p.2) (ixS st p.1)=true
  ·rw[jw c] at hd;rw[c];exact if_f rfl (mx _ (hN _ _ ⟨_,_,_,_,rfl,pm',hd,rfl⟩))
  ·rw[jy c] at hd;rw[eq_false_of_ne_true c];rw[<- hd] at h;exact if_t rfl h
 ·obtain⟨st,s3,s4,s5,rfl,pm,hd,rfl⟩:=hI;rw[<- hPP,F2,B1,Bu] at hd;have hd:some st=led s r row ps:=hd;rw[<- hd] at h;have h:R (rowP st) m:=h;subst hU;generalize hS:rowP st=S at *;walk_at "pu";exact h
abbrev bk (zs:List Str):List Key:=zs.map X1
theorem FA {z:Str}{zs:List Str}:memS (bk zs) (.inr z)=decide (z∈zs):=by
 unfold memS bk;rw[z9,y4,decide_eq_true_iff];constructor
 ·rintro⟨k,hk,e⟩;obtain⟨y,hy,rfl⟩:=J7.mp hk;have:y=z:=by simpa using e
  rw[<- this];exact hy
 ·intro h;exact⟨.inr z,J7.mpr ⟨z,h,rfl⟩,by simp⟩
theorem SL {zs ys:List Str}{f:Str->Str}{n:Nat}{D:Q4}{a3 a4:Option Pu.Slot}(P:Prm f zs)(hl:zs.length<=24)
   (hstep:∀z∈zs,∀{R:PV->Prop},R (.str (f z))->U8 (.tup (zs.map PV.str)) (.str z) λw=>wIx (.tup (ys.map PV.str)) w R):∀(u:Nat) (se:List Str) (at_:Str),se.Nodup->(∀z∈se,z∈zs)->at_∈zs->zs.length-se.length<=u->
   (∀(se':List Str) (at':Str),se'.Nodup->(∀z∈se',z∈zs)->(∀z∈se,z∈se')->(∀z∈se',z∈se\/(z∈se'/\Rch f at_ z/\f z∈se'))->at_∈se'->D.nx [some (.v (.tup (zs.map PV.str))),some (.v (.tup (ys.map PV.str))),some (.ow (.st (bk se')) []),a3,a4,some (.v (.str at'))] n)->
   N5 (qB (qInS true 2 (qV 5))) (qSeq (O6 (Ck 2 (qV 5))) (qSet 5 (qOp wIx (qV 1) (P5 (qV 0) (qV 5))))) D (u+1) [some (.v (.tup (zs.map PV.str))),some (.v (.tup (ys.map PV.str))),some (.ow (.st (bk se)) []),a3,a4,some (.v (.str at_))] n:=by
 intro u
 induction u with
 | zero =>
  intro se at_ nd sub ha hu h
  have full:at_∈se:=by
   have h1:=nd.length_le_of_subset sub;have h2:zs.length<=se.length:=by omega
   apply i8
   intro no;have:=(P0.mpr ⟨no,nd⟩).length_le_of_subset λz hz=>(C8.mp hz).elim (λe=>e▸ha) (sub z);rw[L8] at this;omega
  have:=h se at_ nd sub (λz hz=>hz) (λz hz=>.inl hz) full;generalize hZ:zs.map PV.str=Z at *;generalize hY:ys.map PV.str=Y at *;have eb:memS (bk se) (.inr at_)=true:=by rw[FA];exact ju full
  generalize bk se=B at *;simp only[N5];walk_at "pu";rw[eb];exact this
 | succ u ih =>
  intro se at_ nd sub ha hu h
  by_cases c:at_∈se
  ·have:=h se at_ nd sub (λz hz=>hz) (λz hz=>.inl hz) c;generalize hZ:zs.map PV.str=Z at *;generalize hY:ys.map PV.str=Y at *;have eb:memS (bk se) (.inr at_)=true:=by rw[FA];exact ju c
   generalize bk se=B at *;rw[N5];walk_at "pu";rw[eb];exact this
  ·have eb:memS (bk se) (.inr at_)=false:=by rw[FA];exact jv c
   have sl:=nd.length_le_of_subset sub;have bl:(bk se).length=se.length:=B1 ..;have nx:=ih (se++[at_]) (f at_) (Y5.mpr ⟨nd,by simp,λa h1 b h2 e=>c (by rw[<- E3.mp h2,<- e];exact h1)⟩) (λz hz=>(E5.mp hz).elim (sub z) λz'=>by rw[E3.mp z'];exact ha) (P.st _ ha) (by rw[D6,t9];omega) λse' at' s1 s2 s3 s4 s5=>h se' at' s1 s2 (λz hz=>s3 z (N8 _ hz)) (λz hz=>?_) (s3 at_ (by simp))
   ·have e2:bk (se++[at_])=bk se++[.inr at_]:=J8;rw[e2] at nx;have hst:=λ{R:PV->Prop}=>@hstep at_ ha R;generalize hZ:zs.map PV.str=Z at *;generalize hY:ys.map PV.str=Y at *;generalize bk se=B at *;rw[N5];walk_at "pu";rw[eb];simp only[Y9,if_false,Bool.not_false,if_true];have q:=hst (R:=λv=>N5 (qB (qInS true 2 (qV 5))) (qSeq (O6 (Ck 2 (qV 5))) (qSet 5 (qOp wIx (qV 1) (P5 (qV 0) (qV 5))))) D (u+1) [some (.v (.tup Z)),some (.v (.tup Y)),some (.ow (.st (B++[X1 at_])) []),a3,a4,some (.v v)] n) nx;simp only[wIx] at q;exact⟨⟨_,_,rfl⟩,by omega,⟨_,rfl⟩,q⟩
   ·rcases s4 z hz with s|⟨_,s6,s7⟩
    ·rcases E5.mp s with s|s
     ·exact .inl s
     ·rw[E3.mp s];exact .inr ⟨s3 at_ (by simp),⟨0,rfl⟩,s5⟩
    ·exact .inr ⟨hz,Rch.trans ⟨1,rfl⟩ s6,s7⟩
theorem SM {zs ys:List Str}{n:Nat}{R:PV->Nat->Prop}(nd:zs.Nodup)(h2:zs.length<=24)(pm:ys.Perm zs)(c:Str->Nat)(hc:∀x∈zs,∀y∈zs,Rch (nxB zs ys) x y↔c x=c y)(h:R (.int ((ddN (zs.map c)).length:Nat)) n):DJ [rowP zs,rowP ys] n R:=by
 refine⟨rfl,?_⟩;unfold LO;have ly:=pm.length_eq;have P:=w8 nd pm
 have hstep:∀z∈zs,∀{R:PV->Prop},R (.str (nxB zs ys z))->U8 (.tup (zs.map PV.str)) (.str z) λw=>wIx (.tup (ys.map PV.str)) w R:=λz hz {R} q=>m_ix rfl hz (by omega) (by
  show match atI (ys.map PV.str) ((ixS zs z:Nat):Int) with|some z=>R z|none=>False
  rw[Bj rfl (show ixS zs z<ys.length by rw[ly];exact Y0 hz)]
  exact q)
 have hr0:rowP zs=.tup (zs.map PV.str):=rfl;have hr1:rowP ys=.tup (ys.map PV.str):=rfl;have mw:=λ(D:Q4) (a3 a4:Option Pu.Slot)=>@SL zs ys (nxB zs ys) n D a3 a4 P h2 hstep;have hmem:∀i z,(zs.map PV.str)[i]?=some z->∃b,zs[i]?=some b/\z=PV.str b:=λi z hz=>V0 (f:=PV.str) hz;have Zl:(zs.map PV.str).length=zs.length:=B1 ..;rw[hr0,hr1];generalize hZ:zs.map PV.str=Z at *;generalize hY:ys.map PV.str=Y at *;walk_at "pu";refine K9 (λi env m=>∃s4 s5,∃se:List Str,env=[some (.v (.tup Z)),some (.v (.tup Y)),some (.ow (.st (bk se)) []),some (.v (.int ((ddN ((zs.take i).map c)).length:Nat))),s4,s5]/\se.Nodup/\(∀z∈se,z∈zs)/\(∀z∈se,nxB zs ys z∈se)/\(∀z∈se,∃x∈zs.take i,Rch (nxB zs ys) x z)/\(∀x∈zs.take i,x∈se)/\m=n) _ 0 _ _ ⟨none,none,[],rfl,Bx,(λ_ z=>by cases z),(λ_ z=>by cases z),(λ_ z=>by cases z),(λ_ z=>by simp at z),rfl⟩ (λi x env m N ex hI hN=>?_) (λenv m hI=>?_)
 ·obtain⟨b,eb,rfl⟩:=hmem i x ex;obtain⟨s4,s5,se,rfl,s1,s2,s3,s6,s7,rfl⟩:=hI;rw[F2] at s6 s7 hN ⊢;have hb:=J9 eb;have tk:=O7 eb
  have cl:∀x∈se,∀k,itr (nxB zs ys) k x∈se:=λx hx k=>by
   induction k with
   |zero=>exact hx
   |succ k ih=>exact s3 _ ih
  have seen:b∈se↔c b∈ddN ((zs.take i).map c):=by
   rw[(V2 _).2,J7];constructor
   ·intro hb';obtain⟨x,hx,r⟩:=s6 b hb';exact⟨x,hx,(hc x (Y4 hx) b hb).mp r⟩
   ·rintro⟨x,hx,e⟩;obtain⟨k,rfl⟩:=(hc x (Y4 hx) b hb).mpr e;exact cl x (s7 x hx) k
  have cnt:(ddN ((zs.take (i+1)).map c)).length=(ddN ((zs.take i).map c)).length+if b∈se then 0 else 1:=by
   rw[tk,J8];show(ddN ((zs.take i).map c++[c b])).length=_;rw[AD]
   by_cases cb:b∈se
   ·rw[jw (seen.mp cb),jw cb];rfl
   ·rw[jy (λz=>cb (seen.mpr z)),jy cb,D6];rfl
  have goal:∀(D:Q4),D.nx=N->∀(many:Nat),many=(ddN ((zs.take (i+1)).map c)).length->u9 (qB (qInS true 2 (qV 5))) (qSeq (O6 (Ck 2 (qV 5))) (qSet 5 (qOp wIx (qV 1) (P5 (qV 0) (qV 5))))) D [some (.v (.tup Z)),some (.v (.tup Y)),some (.ow (.st (bk se)) []),some (.v (.int (many:Int))),some (.v (.str b)),some (.v (.str b))] m:=λD hD many em=>by
   subst hD;refine⟨_,mw _ _ _ (zs.length-se.length) se b s1 s2 hb (B7 _) λse' at' t1 t2 t3 t4 t5=>hN _ _ ⟨some (.v (.str b)),some (.v (.str at')),se',by rw[em],t1,t2,λz hz=>?_,λz hz=>?_,λx hx=>?_,rfl⟩⟩
   ·rcases t4 z hz with z'|⟨_,_,z'⟩
    ·exact t3 _ (s3 z z')
    ·exact z'
   ·rw[tk];rcases t4 z hz with z'|⟨_,z',_⟩
    ·obtain⟨x,hx,r⟩:=s6 z z';exact⟨x,N8 _ hx,r⟩
    ·exact⟨b,by simp,z'⟩
   ·rw[tk] at hx;rcases E5.mp hx with hx|hx
    ·exact t3 x (s7 x hx)
    ·rw[E3.mp hx];exact t5
  have em:memS (bk se) (.inr b)=decide (b∈se):=FA;generalize hD:ddN ((zs.take i).map c)=dd at *;generalize hB:bk se=B at *;walk_at "pu";rw[em]
  by_cases cb:b∈se
  ·rw[jw cb] at cnt;exact if_f (by rw[ju cb];rfl) (goal _ rfl dd.length (by omega))
  ·rw[jy cb] at cnt;refine if_t (by rw[jv cb];rfl) ?_;have:=goal { nx:=N,rt:=R,bk:=λe m=>match e[3]? with|some (some (Slot.v x))=>R x m|x=>False,ct:=N } rfl (dd.length+1) (by omega);rw[show((dd.length+1:Nat):Int)=(dd.length:Int)+1 by omega] at this;exact this
 ·obtain⟨s4,s5,se,rfl,s1,s2,s3,s6,s7,rfl⟩:=hI;rw[Zl,F2,Y7];generalize bk se=B;walk_at "pu";exact h
def tr (_:Str):PV:=.bl true
theorem FB {z:Str}{zs:List Str}:memK (bk zs) (.inr z)=decide (z∈zs):=by
 unfold memK bk;rw[z9,y4,decide_eq_true_iff];constructor
 ·rintro⟨k,hk,e⟩;obtain⟨y,hy,rfl⟩:=J7.mp hk;have:y=z:=by simpa using e
  rw[<- this];exact hy
 ·intro h;exact⟨.inr z,J7.mpr ⟨z,h,rfl⟩,by simp⟩
theorem SN {zs ys:List Str}{f:Str->Str}{n:Nat}{D:Q4}{a3 a4:Option Pu.Slot}(P:Prm f zs)(hl:zs.length<=24)
   (hstep:∀z∈zs,∀{R:PV->Prop},R (.str (f z))->U8 (.tup (zs.map PV.str)) (.str z) λw=>wIx (.tup (ys.map PV.str)) w R):∀(u:Nat) (se:List Str) (at_:Str),se.Nodup->(∀z∈se,z∈zs)->at_∈zs->zs.length-se.length<=u->
   (∀(se':List Str) (at':Str),se'.Nodup->(∀z∈se',z∈zs)->(∀z∈se,z∈se')->(∀z∈se',z∈se\/(z∈se'/\Rch f at_ z/\f z∈se'))->at_∈se'->D.nx [some (.v (.tup (zs.map PV.str))),some (.v (.tup (ys.map PV.str))),some (.ow (.dk (bk se')) (se'.map tr)),a3,a4,some (.v (.str at'))] n)->
   N5 (qB (w6 2 (qV 5))) (qSeq (Cj 2 (qV 5) (qC (.bl true))) (qSet 5 (qOp wIx (qV 1) (P5 (qV 0) (qV 5))))) D (u+1) [some (.v (.tup (zs.map PV.str))),some (.v (.tup (ys.map PV.str))),some (.ow (.dk (bk se)) (se.map tr)),a3,a4,some (.v (.str at_))] n:=by
 intro u
 induction u with
 | zero =>
  intro se at_ nd sub ha hu h
  have full:at_∈se:=by
   have h1:=nd.length_le_of_subset sub;have h2:zs.length<=se.length:=by omega
   apply i8
   intro no;have:=(P0.mpr ⟨no,nd⟩).length_le_of_subset λz hz=>(C8.mp hz).elim (λe=>e▸ha) (sub z);rw[L8] at this;omega
  have:=h se at_ nd sub (λz hz=>hz) (λz hz=>.inl hz) full;generalize hZ:zs.map PV.str=Z at *;generalize hY:ys.map PV.str=Y at *;have eb:memK (bk se) (.inr at_)=true:=by rw[FB];exact ju full
  have tl:(bk se).length=(se.map tr).length:=by rw[B1,B1]
  generalize bk se=B at *;generalize se.map tr=X at *;simp only[N5];walk_at "pu";rw[eb];exact⟨tl,this⟩
 | succ u ih =>
  intro se at_ nd sub ha hu h
  by_cases c:at_∈se
  ·have:=h se at_ nd sub (λz hz=>hz) (λz hz=>.inl hz) c;generalize hZ:zs.map PV.str=Z at *;generalize hY:ys.map PV.str=Y at *;have eb:memK (bk se) (.inr at_)=true:=by rw[FB];exact ju c
   have tl:(bk se).length=(se.map tr).length:=by rw[B1,B1]
   generalize bk se=B at *;generalize se.map tr=X at *;rw[N5];walk_at "pu";rw[eb];exact⟨tl,this⟩
  ·have eb:memK (bk se) (.inr at_)=false:=by rw[FB];exact jv c
   have sl:=nd.length_le_of_subset sub;have bl:(bk se).length=se.length:=B1 ..;have nx:=ih (se++[at_]) (f at_) (Y5.mpr ⟨nd,by simp,λa h1 b h2 e=>c (by rw[<- E3.mp h2,<- e];exact h1)⟩) (λz hz=>(E5.mp hz).elim (sub z) λz'=>by rw[E3.mp z'];exact ha) (P.st _ ha) (by rw[D6,t9];omega) λse' at' s1 s2 s3 s4 s5=>h se' at' s1 s2 (λz hz=>s3 z (N8 _ hz)) (λz hz=>?_) (s3 at_ (by simp))
   ·have e2:bk (se++[at_])=bk se++[.inr at_]:=J8;have e3:(se++[at_]).map tr=se.map tr++[.bl true]:=J8;rw[e2,e3] at nx;have ni:X1 at_∉bk se:=λz=>by rw[<- Rb,eb] at z;cases z
    have tl:(bk se).length=(se.map tr).length:=by rw[B1,B1]
    have xl:(se.map tr).length=se.length:=B1 ..;have hst:=λ{R:PV->Prop}=>@hstep at_ ha R;generalize hZ:zs.map PV.str=Z at *;generalize hY:ys.map PV.str=Y at *;generalize bk se=B at *;generalize se.map tr=X at *;rw[N5];walk_at "pu";rw[eb];refine⟨tl,?_⟩;simp only[Y9,if_false,Bool.not_false,if_true];have q:=hst (R:=λv=>N5 (qB (w6 2 (qV 5))) (qSeq (Cj 2 (qV 5) (qC (.bl true))) (qSet 5 (qOp wIx (qV 1) (P5 (qV 0) (qV 5))))) D (u+1) [some (.v (.tup Z)),some (.v (.tup Y)),some (.ow (.dk (B++[X1 at_])) (X++[.bl true])),a3,a4,some (.v v)] n) nx;simp only[wIx] at q;rw[show P4 B (X1 at_)=B++[X1 at_] from jy ni,show O3 B X (X1 at_) (PV.bl true)=X++[.bl true] from jy ni];exact⟨⟨_,_,rfl⟩,tl,by omega,⟨_,rfl⟩,q⟩
   ·rcases s4 z hz with s|⟨_,s6,s7⟩
    ·rcases E5.mp s with s|s
     ·exact .inl s
     ·rw[E3.mp s];exact .inr ⟨s3 at_ (by simp),⟨0,rfl⟩,s5⟩
    ·exact .inr ⟨hz,Rch.trans ⟨1,rfl⟩ s6,s7⟩
theorem SO {zs ys:List Str}{n:Nat}{R:PV->Nat->Prop}(nd:zs.Nodup)(h2:zs.length<=24)(pm:ys.Perm zs)(c:Str->Nat)(hc:∀x∈zs,∀y∈zs,Rch (nxB zs ys) x y↔c x=c y)(h:R (.int ((ddN (zs.map c)).length:Nat)) n):Fv [rowP zs,rowP ys] n R:=by
 refine⟨rfl,?_⟩;unfold Mi;have ly:=pm.length_eq;have P:=w8 nd pm
 have hstep:∀z∈zs,∀{R:PV->Prop},R (.str (nxB zs ys z))->U8 (.tup (zs.map PV.str)) (.str z) λw=>wIx (.tup (ys.map PV.str)) w R:=λz hz {R} q=>m_ix rfl hz (by omega) (by
  show match atI (ys.map PV.str) ((ixS zs z:Nat):Int) with|some z=>R z|none=>False
  rw[Bj rfl (show ixS zs z<ys.length by rw[ly];exact Y0 hz)]
  exact q)
 have hr0:rowP zs=.tup (zs.map PV.str):=rfl;have hr1:rowP ys=.tup (ys.map PV.str):=rfl;have mw:=λ(D:Q4) (a3 a4:Option Pu.Slot)=>@SN zs ys (nxB zs ys) n D a3 a4 P h2 hstep;have hmem:∀i z,(zs.map PV.str)[i]?=some z->∃b,zs[i]?=some b/\z=PV.str b:=λi z hz=>V0 (f:=PV.str) hz;have Zl:(zs.map PV.str).length=zs.length:=B1 ..;rw[hr0,hr1];generalize hZ:zs.map PV.str=Z at *;generalize hY:ys.map PV.str=Y at *;walk_at "pu";refine K9 (λi env m=>∃s4 s5,∃se:List Str,env=[some (.v (.tup Z)),some (.v (.tup Y)),some (.ow (.dk (bk se)) (se.map tr)),some (.v (.int ((ddN ((zs.take i).map c)).length:Nat))),s4,s5]/\se.Nodup/\(∀z∈se,z∈zs)/\(∀z∈se,nxB zs ys z∈se)/\(∀z∈se,∃x∈zs.take i,Rch (nxB zs ys) x z)/\(∀x∈zs.take i,x∈se)/\m=n) _ 0 _ _ ⟨none,none,[],rfl,Bx,(λ_ z=>by cases z),(λ_ z=>by cases z),(λ_ z=>by cases z),(λ_ z=>by simp at z),rfl⟩ (λi x env m N ex hI hN=>?_) (λenv m hI=>?_)
 ·obtain⟨b,eb,rfl⟩:=hmem i x ex;obtain⟨s4,s5,se,rfl,s1,s2,s3,s6,s7,rfl⟩:=hI;rw[F2] at s6 s7 hN ⊢;have hb:=J9 eb;have tk:=O7 eb
  have cl:∀x∈se,∀k,itr (nxB zs ys) k x∈se:=λx hx k=>by
   induction k with
   |zero=>exact hx
   |succ k ih=>exact s3 _ ih
  have seen:b∈se↔c b∈ddN ((zs.take i).map c):=by
   rw[(V2 _).2,J7];constructor
   ·intro hb';obtain⟨x,hx,r⟩:=s6 b hb';exact⟨x,hx,(hc x (Y4 hx) b hb).mp r⟩
   ·rintro⟨x,hx,e⟩;obtain⟨k,rfl⟩:=(hc x (Y4 hx) b hb).mpr e;exact cl x (s7 x hx) k
  have cnt:(ddN ((zs.take (i+1)).map c)).length=(ddN ((zs.take i).map c)).length+if b∈se then 0 else 1:=by
   rw[tk,J8];show(ddN ((zs.take i).map c++[c b])).length=_;rw[AD]
   by_cases cb:b∈se
   ·rw[jw (seen.mp cb),jw cb];rfl
   ·rw[jy (λz=>cb (seen.mpr z)),jy cb,D6];rfl
  have goal:∀(D:Q4),D.nx=N->∀(many:Nat),many=(ddN ((zs.take (i+1)).map c)).length->u9 (qB (w6 2 (qV 5))) (qSeq (Cj 2 (qV 5) (qC (.bl true))) (qSet 5 (qOp wIx (qV 1) (P5 (qV 0) (qV 5))))) D [some (.v (.tup Z)),some (.v (.tup Y)),some (.ow (.dk (bk se)) (se.map tr)),some (.v (.int (many:Int))),some (.v (.str b)),some (.v (.str b))] m:=λD hD many em=>by
   subst hD;refine⟨_,mw _ _ _ (zs.length-se.length) se b s1 s2 hb (B7 _) λse' at' t1 t2 t3 t4 t5=>hN _ _ ⟨some (.v (.str b)),some (.v (.str at')),se',by rw[em],t1,t2,λz hz=>?_,λz hz=>?_,λx hx=>?_,rfl⟩⟩
   ·rcases t4 z hz with z'|⟨_,_,z'⟩
    ·exact t3 _ (s3 z z')
    ·exact z'
   ·rw[tk];rcases t4 z hz with z'|⟨_,z',_⟩
    ·obtain⟨x,hx,r⟩:=s6 z z';exact⟨x,N8 _ hx,r⟩
    ·exact⟨b,by simp,z'⟩
   ·rw[tk] at hx;rcases E5.mp hx with hx|hx
    ·exact t3 x (s7 x hx)
    ·rw[E3.mp hx];exact t5
  have em:memK (bk se) (.inr b)=decide (b∈se):=FB;have tl:(bk se).length=(se.map tr).length:=by rw[B1,B1]
  generalize hD:ddN ((zs.take i).map c)=dd at *;generalize hB:bk se=B at *;generalize hX:se.map tr=X at *;walk_at "pu";rw[em];refine⟨tl,?_⟩
  by_cases cb:b∈se
  ·rw[jw cb] at cnt;have:=goal { nx:=N,rt:=R,bk:=λe m=>match e[3]? with|some (some (Slot.v x))=>R x m|x=>False,ct:=N } rfl dd.length (by omega);rw[ju cb];show u9 _ _ _ [_,_,_,some (.v (.int ((dd.length:Int)+0))),_,_] _;rw[Int.add_zero];exact this
  ·rw[jy cb] at cnt;have:=goal { nx:=N,rt:=R,bk:=λe m=>match e[3]? with|some (some (Slot.v x))=>R x m|x=>False,ct:=N } rfl (dd.length+1) (by omega);rw[show((dd.length+1:Nat):Int)=(dd.length:Int)+1 by omega] at this;rw[jv cb];exact this
 ·obtain⟨s4,s5,se,rfl,s1,s2,s3,s6,s7,rfl⟩:=hI;rw[Zl,F2,Y7];generalize bk se=B;generalize se.map tr=X;walk_at "pu";exact h
theorem SQ {ys:List Str}(nd:ys.Nodup){x y:Str}(hx:x∈ys)(hy:y∈ys):Rch (nxB ys ys) x y↔ixS ys x=ixS ys y:=by
 have one:nxB ys ys x=x:=by
  have h1:=(E1 hx).1;rw[F7 (Y0 hx)] at h1;exact E9 h1
 have all:∀k,itr (nxB ys ys) k x=x:=λk=>by
  induction k with
  |zero=>rfl
  | succ k ih =>
   show nxB ys ys (itr (nxB ys ys) k x)=x;rw[ih,one]
 constructor
 ·rintro⟨k,rfl⟩;rw[all]
 ·intro e;exact⟨0,Co hx hy e⟩
theorem MH {c d:Str->Nat}{l:List Str}(h:∀x∈l,∀y∈l,c x=c y↔d x=d y):∀i,i<=l.length->(ddN ((l.take i).map c)).length=(ddN ((l.take i).map d)).length
 |0,_=>rfl
 | i + 1, hi => by
  have ih:=MH h i (by omega);have e:=D7 (show i<l.length by omega);have hx:l[i]∈l:=i4 _;generalize l[i]=x at *;rw[O7 e,J8,J8];show(ddN (_++[c x])).length=(ddN (_++[d x])).length;rw[AD,AD]
  have iff:c x∈ddN ((l.take i).map c)↔d x∈ddN ((l.take i).map d):=by
   rw[(V2 _).2,(V2 _).2,J7,J7];exact⟨λ⟨y,hy,e⟩=>⟨y,hy,(h y (Y4 hy) x hx).mp e⟩,λ⟨y,hy,e⟩=>⟨y,hy,(h y (Y4 hy) x hx).mpr e⟩⟩
  by_cases k:c x∈ddN ((l.take i).map c)
  ·rw[jw k,jw (iff.mp k)];exact ih
  ·rw[jy k,jy λz=>k (iff.mpr z),D6,D6,ih];rfl
theorem MI {c d:Str->Nat}{l:List Str}(h:∀x∈l,∀y∈l,c x=c y↔d x=d y):(ddN (l.map c)).length=(ddN (l.map d)).length:=by
 have:=MH h l.length (B7 _);rw[Y7] at this;exact this
def rN (st jc:List Str):Nat:=(ddN (st.map (cOf (nxB st jc) st))).length
theorem MJ {jc:List Str}(nd:jc.Nodup):rN jc jc=jc.length:=by
 have P:=w8 nd (List.Perm.refl jc);have e:∀x∈jc,∀y∈jc,cOf (nxB jc jc) jc x=cOf (nxB jc jc) jc y↔ixS jc x=ixS jc y:=λx hx y hy=>(AC P hx hy).symm.trans (SQ nd hx hy);unfold rN;rw[MI e,SE,B1];refine Ea.mpr λi j hi hj hij e=>?_;rw[B1] at hi hj;rw[List.getElem_map,List.getElem_map] at e;have:=Co (i4 hi) (i4 hj) e;have:=M1 nd (D7 hi) (by rw[this];exact D7 hj);omega
theorem MK {st jc:List Str}{i:Nat}{b:Str}(nd:jc.Nodup)(pm:st.Perm jc)(eb:jc[i]?=some b)(ne:nm st i≠b):rN (exch st i (ixS st b)) jc=rN st jc + 1:=by
 have jt:=pm.nodup_iff.mpr nd;have bm:b∈st:=pm.mem_iff.mpr (J9 eb);have il:i<st.length:=by rw[pm.length_eq];exact(E6.mp eb).1
 have jl:ixS st b<st.length:=(E6.mp (E1 bm).1).1;have jb:=(E1 bm).1;have nb:nm st (ixS st b)=b:=E9 ((F7 jl).symm.trans jb);have ij:i≠ixS st b:=λz=>ne (by rw[z];exact nb);have yi:=F7 il;have ym:nm st i∈st:=V7 il;have iy:ixS st (nm st i)=i:=M1 jt (E1 ym).1 yi;have pm':=d7 il jl;have nd':=pm'.nodup_iff.mpr jt;have sl':(exch st i (ixS st b)).length=st.length:=pm'.length_eq;generalize hj:ixS st b=j at *;generalize hy:nm st i=y at *
 have g:∀k,(exch st i j)[k]?=if j=k then some y else if i=k then some b else st[k]?:=λk=>by
  unfold exch;rw[hy,nb,Bt,Bt,K1]
  by_cases c1:j=k
  ·rw[jw c1,jw c1,jw (by omega)]
  ·rw[jy c1,jy c1]
   by_cases c2:i=k
   ·rw[jw c2,jw c2,jw (by omega)]
   ·rw[jy c2,jy c2]
 generalize hs:exch st i j=st' at *;have ib':ixS st' b=i:=M1 nd' (E1 (pm'.mem_iff.mpr bm)).1 (by rw[g,jy (λz=>ij z.symm),jw rfl]);have iy':ixS st' y=j:=M1 nd' (E1 (pm'.mem_iff.mpr ym)).1 (by rw[g,jw rfl])
 have ix':∀x∈st,x≠b->x≠y->ixS st' x=ixS st x:=λx hx h1 h2=>M1 nd' (E1 (pm'.mem_iff.mpr hx)).1 (by
  have a:=(E1 hx).1;rw[g,jy,jy,a]
  ·intro z;rw[<- z,yi] at a;exact h2 (E9 a).symm
  ·intro z;rw[<- z,jb] at a;exact h1 (E9 a).symm)
 have P:=w8 jt pm.symm;have P':=w8 nd' (pm.symm.trans pm'.symm);have nmi:nm jc i=b:=E9 ((F7 (by rw[<- pm.length_eq];exact il)).symm.trans eb);have fy:nxB st jc y=b:=by unfold nxB;rw[iy,nmi]
 have fb':nxB st' jc b=b:=by unfold nxB;rw[ib',nmi]
 have fy':nxB st' jc y=nxB st jc b:=by unfold nxB;rw[iy',hj]
 have fx':∀x∈st,x≠b->x≠y->nxB st' jc x=nxB st jc x:=λx hx h1 h2=>by unfold nxB;rw[ix' x hx h1 h2]
 have fbn:nxB st jc b≠b:=λz=>ne (P.inj y ym b bm (fy.trans z.symm));have fxn:∀x∈st,x≠y->nxB st jc x≠b:=λx hx h z=>h (P.inj x hx y ym (z.trans fy.symm));show(ddN (st'.map (cOf (nxB st' jc) st'))).length=(ddN (st.map (cOf (nxB st jc) st))).length+1;generalize nxB st jc=f at *;generalize nxB st' jc=f' at *
 have A:∀x∈st,x≠b->∀k,itr f' k x∈st/\itr f' k x≠b/\Rch f x (itr f' k x):=λx hx hb k=>by
  induction k with
  |zero=>exact⟨hx,hb,0,rfl⟩
  | succ k ih =>
   obtain⟨h1,h2,h3⟩:=ih;show f' (itr f' k x)∈st/\f' (itr f' k x)≠b/\Rch f x (f' (itr f' k x));generalize itr f' k x=w at *
   by_cases c:w=y
   ·subst c;rw[fy'];exact⟨P.st _ bm,fbn,Rch.trans h3 ⟨2,by show f (f w)=f b;rw[fy]⟩⟩
   ·rw[fx' w h1 h2 c];exact⟨P.st _ h1,fxn w h1 c,Rch.trans h3 ⟨1,rfl⟩⟩
 have B:∀k,∀m,m<=k->∀x∈st,x≠b->∀z,z≠b->itr f m x=z->Rch f' x z:=fun k=>by
  induction k with
  | zero =>
   intro m hm x hx hb z hz e;have:m=0:=by omega
   subst this;exact⟨0,e⟩
  | succ k ih =>
   intro m hm x hx hb z hz e;cases m with
   |zero=>exact⟨0,e⟩
   | succ m =>
    rw[<- Ir] at e
    by_cases c:x=y
    ·subst c;rw[fy] at e;cases m with
     |zero=>exact absurd e.symm hz
     | succ m =>
      rw[<- Ir] at e;exact Rch.trans ⟨1,fy'⟩ (ih m (by omega) _ (P.st _ bm) fbn z hz e)
    ·exact Rch.trans ⟨1,fx' x hx hb c⟩ (ih m (by omega) _ (P.st _ hx) (fxn x hx c) z hz e)
 have cl:∀x∈st,cOf f st x<st.length:=λx hx=>By (c_le P hx ⟨0,rfl⟩) (E6.mp (E1 hx).1).1
 have D:∀x∈st',∀z∈st',cOf f' st' x=cOf f' st' z↔(if x=b then st.length else cOf f st x)=(if z=b then st.length else cOf f st z):=λx hx' z hz'=>by
  have hx:=pm'.mem_iff.mp hx';have hz:=pm'.mem_iff.mp hz';rw[<- AC P' hx' hz']
  by_cases c1:x=b
  ·have st_b:∀k,itr f' k b=b:=λk=>by
    induction k with
    |zero=>rfl
    |succ k ih=>show f' (itr f' k b)=b;rw[ih,fb']
   rw[jw c1]
   by_cases c2:z=b
   ·rw[jw c2,c1,c2];exact⟨λ_=>rfl,λ_=>⟨0,rfl⟩⟩
   ·rw[jy c2];refine⟨λ⟨k,e⟩=>absurd (by rw[<- e,c1,st_b]) c2,λe=>?_⟩;have:=cl z hz;omega
  ·rw[jy c1]
   by_cases c2:z=b
   ·rw[jw c2];refine⟨λ⟨k,e⟩=>absurd (e.trans c2) (A x hx c1 k).2.1,λe=>?_⟩;have:=cl x hx;omega
   ·rw[jy c2,<- AC P hx hz];exact⟨λ⟨k,e⟩=>by rw[<- e];exact(A x hx c1 k).2.2,λ⟨k,e⟩=>B k k (B7 _) x hx c1 z c2 e⟩
 have cb:cOf f st b=cOf f st y:=((AC P ym bm).mp ⟨1,fy⟩).symm;rw[MI D,dd_len (l':=st.map (cOf f st)++[st.length])]
 ·rw[AD,jy,D6]
  ·rfl
  ·rw[(V2 _).2,J7];rintro⟨x,hx,e⟩;have:=cl x hx;omega
 ·intro v;rw[J7,E5,J7,E3];constructor
  ·rintro⟨x,hx,e⟩
   by_cases c:x=b
   ·rw[jw c] at e;exact .inr e.symm
   ·rw[jy c] at e;exact .inl ⟨x,pm'.mem_iff.mp hx,e⟩
  ·rintro(⟨x,hx,e⟩|e)
   ·by_cases c:x=b
    ·exact⟨y,pm'.mem_iff.mpr ym,by rw[jy ne,<- cb,<- c];exact e⟩
    ·exact⟨x,pm'.mem_iff.mpr hx,by rw[jy c];exact e⟩
   ·exact⟨b,pm'.mem_iff.mpr bm,by rw[jw rfl];exact e.symm⟩
structure WayR (s r:Nat)(row jc:List Str)(i:Nat)(st:List Str)(ps:List (Str×Str)):Prop where
 pm:st.Perm jc
 hd:st.take i=jc.take i
 ld:led s r row ps=some st
 nu:ps.length+rN row jc=rN st jc
 mm:∀p∈ps,p.1∈jc/\p.2∈jc
theorem ID {st jc:List Str}{i:Nat}{b:Str}(nd:jc.Nodup)(pm:st.Perm jc)(hd:st.take i=jc.take i)(eb:jc[i]?=some b):i<=ixS st b:=by
 by_cases c:ixS st b<i
 ·exfalso
  have a1:=(E1 (pm.mem_iff.mpr (J9 eb))).1;have a2:(st.take i)[ixS st b]?=some b:=by rw[y0,jw c];exact a1
  rw[hd,y0,jw c] at a2;have:=M1 nd a2 eb;omega
 ·omega
theorem SS {s r:Nat}{row jc st:List Str}{i:Nat}{b:Str}{ps:List (Str×Str)}(hs:jc.length<=s)(hr:jc.length<=r+2)(nd:jc.Nodup)(w:WayR s r row jc i st ps)(eb:jc[i]?=some b)(ne:nm st i≠b):WayR s r row jc (i+1) (exch st i (ixS st b)) (ps++[(b,nm st i)]):=by
 have jt:=w.pm.nodup_iff.mpr nd;have hm:=J9 eb;have bm:b∈st:=w.pm.mem_iff.mpr hm;have il:i<st.length:=by rw[w.pm.length_eq];exact(E6.mp eb).1
 have jl:ixS st b<st.length:=(E6.mp (E1 bm).1).1;have nb:nm st (ixS st b)=b:=E9 ((F7 jl).symm.trans (E1 bm).1);have ij:i≠ixS st b:=λz=>ne (by rw[z];exact nb);have ge:=ID nd w.pm w.hd eb;have iy:ixS st (nm st i)=i:=M1 jt (E1 (V7 il)).1 (F7 il);have nu:=MK nd w.pm eb ne;refine⟨(d7 il jl).trans w.pm,?_,?_,?_,λp hp=>?_⟩
 ·have e:(exch st i (ixS st b))[i]?=some b:=by
   unfold exch;rw[nb,Bt,jy (λz=>ij z.symm),Bt,jw rfl,jw il]
  rw[O7 e,O7 eb,<- w.hd];unfold exch;rw[List.take_set_of_le (by omega),List.take_set_of_le (B7 _)]
 ·rw[DQ ps row st (b,nm st i) w.ld];show(if okP s r (ixS st (nm st i)) (ixS st b)=true then some (exch st (ixS st (nm st i)) (ixS st b)) else none)=_;rw[iy,jw (MB hs hr (by rw[<- w.pm.length_eq];exact jl) (by omega))]
 ·rw[D6,t9,nu];have:=w.nu;omega
 ·rcases E5.mp hp with hp|hp
  ·exact w.mm p hp
  ·rw[E3.mp hp];exact⟨hm,w.pm.mem_iff.mp (V7 il)⟩
theorem FC {row jc:List Str}:rN row jc<=row.length:=by
 unfold rN;have h:=(V2 (row.map (cOf (nxB row jc) row)));have:=h.1.length_le_of_subset λv hv=>(h.2 v).mp hv;rw[B1] at this;exact this
theorem ST {s r:Nat}{row jc:List Str}{n:Nat}{R:PV->Nat->Prop}(hs:jc.length<=s)(hr:jc.length<=r+2)(nd:jc.Nodup)(pm:row.Perm jc)(h1:1<=jc.length)(h2:jc.length<=24)(h:∀ps,WayR s r row jc jc.length jc ps->R (.tup (ps.map prS)) n):HY [rowP row,rowP jc] n R:=by
 refine⟨rfl,?_⟩;unfold LN;have hr1:rowP jc=.tup (jc.map PV.str):=rfl;have hix:∀{st:List Str} {z:Str},st.Perm jc->z∈jc->∀{R:PV->Prop},R (.int (ixS st z))->U8 (rowP st) (.str z) R:=λ{st z} p hz {R} q=>m_ix rfl (p.mem_iff.mpr hz) (by rw[p.length_eq];omega) q
 have hat:∀{st:List Str} {i:Nat} {R:PV->Prop},i<st.length->R (.str (nm st i))->wIx (rowP st) (.int (i:Int)) R:=λ{st i R} hi q=>by
  show match atI (st.map PV.str) (i:Int) with|some z=>R z|none=>False
  rw[Bj rfl hi];exact q
 rw[hr1];have Ol:(jc.map PV.str).length=jc.length:=B1 ..;generalize hO:jc.map PV.str=O at *;generalize hW:rowP row=W;walk_at "pu";refine K9 (λi env m=>∃(st:List Str) (ps:List (Str×Str)) (s4 s5:Option Pu.Slot),env=[some (.v W),some (.v (.tup O)),some (.v (rowP st)),some (.own (ps.map prS)),s4,s5]/\WayR s r row jc i st ps/\m=n) _ 0 _ _ ⟨row,[],none,none,by rw[hW];rfl,⟨pm,rfl,rfl,(by show 0+_=_;omega),(λ_ z=>nomatch z)⟩,rfl⟩ (λi x env m N ex hI hN=>?_) (λenv m hI=>?_)
 ·obtain⟨st,ps,s4,s5,rfl,w,rfl⟩:=hI;rw[F2] at w hN;obtain⟨y,ey,rfl⟩:=EL ex;rw[<- hO] at ey;obtain⟨b,eb,rfl⟩:=V0 ey;have il:i<jc.length:=(E6.mp eb).1;have hm:=J9 eb;have sl:=w.pm.length_eq;have bm:b∈st:=w.pm.mem_iff.mpr hm;have jl:ixS st b<st.length:=(E6.mp (E1 bm).1).1
  have lp:ps.length<=24:=by
   have:=w.nu;have:=FC (row:=st) (jc:=jc);omega
  have hx:=λ(R:PV->Prop) q=>hix (R:=R) w.pm hm q;have ha:=λ(R:PV->Prop) q=>hat (st:=st) (i:=i) (R:=R) (by omega) q;have mx:=λ(R:PV->Nat->Prop) q=>Bl (f:=st) (i:=i) (j:=ixS st b) (n:=m) (R:=R) (by omega) jl q;have Pl:(ps.map prS).length=ps.length:=B1 ..;have e1:ps.map prS++[.tup [.str b,.str (nm st i)]]=(ps++[(b,nm st i)]).map prS:=by rw[J8];rfl
  have eS:rowP st=.tup (st.map PV.str):=rfl;have same:nm st i=b->WayR s r row jc (i+1) st ps:=λe=>⟨w.pm,by rw[O7 (show st[i]?=some b by rw[<- e];exact F7 (by omega)),O7 eb,w.hd],w.ld,w.nu,w.mm⟩;have st2:=λne=>SS hs hr nd w eb ne;generalize hS:rowP st=S at *;generalize hP:ps.map prS=PP at *;walk_at "pu";refine ha _ ?_;show(if(!eqP (.str (nm st i)) (.str b))=true then _ else _);rw[Aw]
  by_cases c:nm st i=b
  ·exact if_f (by rw[ju c];rfl) (hN _ _ ⟨st,ps,_,_,by rw[hS,hP],same c,rfl⟩)
  ·refine if_t (by rw[jv c];rfl) ⟨⟨_,rfl⟩,ha _ ⟨by omega,⟨_,eS⟩,hx _ (mx _ ?_)⟩⟩;rw[e1];exact hN _ _ ⟨_,_,_,_,rfl,st2 c,rfl⟩
 ·obtain⟨st,ps,s4,s5,rfl,w,rfl⟩:=hI;rw[Dq,Ol,F2] at w
  have e:st=jc:=by
   have:=w.hd;rw[T0 (by rw[w.pm.length_eq];exact B7 _),T0 (B7 _)] at this;exact this
  subst e;generalize hP:ps.map prS=PP;walk_at "pu";rw[<- hP];exact h ps w
theorem Cw {st:List Str}{p q:Nat}(hp:p<st.length)(hq:q<st.length)(k:Nat):(exch st p q)[k]?=if q=k then some (nm st p) else if p=k then some (nm st q) else st[k]?:=by
 unfold exch;rw[Bt,Bt,K1]
 by_cases c1:q=k
 ·rw[jw c1,jw c1,jw (by omega)]
 ·rw[jy c1,jy c1]
  by_cases c2:p=k
  ·rw[jw c2,jw c2,jw (by omega)]
  ·rw[jy c2,jy c2]
theorem SU {st:List Str}{p q:Nat}(hp:p<st.length)(hq:q<st.length):exch (exch st p q) p q=st:=by
 have l:(exch st p q).length=st.length:=(d7 hp hq).length_eq
 have e1:nm (exch st p q) p=nm st q:=E9 ((F7 (by omega)).symm.trans (by
  rw[Cw hp hq]
  by_cases c:q=p
  ·rw[jw c,c]
  ·rw[jy c,jw rfl]))
 have e2:nm (exch st p q) q=nm st p:=E9 ((F7 (by omega)).symm.trans (by rw[Cw hp hq,jw rfl]));refine List.ext_getElem? λk=>?_;rw[Cw (by omega) (by omega),e1,e2]
 by_cases c1:q=k
 ·rw[jw c1,<- c1,F7 hq]
 ·rw[jy c1]
  by_cases c2:p=k
  ·rw[jw c2,<- c2,F7 hp]
  ·rw[jy c2,Cw hp hq,jy c1,jy c2]
structure Dst (s r:Nat)(jc:List Str)(f:List Str->Nat):Prop where
 zero:f jc=0
 step:∀st,st.Perm jc->∀p q,okP s r p q=true->q<jc.length->f (exch st p q)<=f st+1
 down:∀st,st.Perm jc->st≠jc->∃p q,okP s r p q=true/\q<jc.length/\f (exch st p q)+1=f st
theorem T8 {s r p q:Nat}{st jc:List Str}(pm:st.Perm jc)(h:okP s r p q=true)(hq:q<jc.length):(exch st p q).Perm jc/\exch (exch st p q) p q=st:=by
 have:=V8 h;have l:=pm.length_eq;exact⟨(d7 (by omega) (by omega)).trans pm,SU (by omega) (by omega)⟩
section
variable {s r:Nat}{jc:List Str}{f g:List Str->Nat}
theorem Dst.back (F:Dst s r jc f){st:List Str}(pm:st.Perm jc){p q:Nat}(h:okP s r p q=true)(hq:q<jc.length):f st<=f (exch st p q)+1:=by
 obtain⟨a,b⟩:=T8 pm h hq;have:=F.step _ a p q h hq;rw[b] at this;exact this
theorem Dst.eq0 (F:Dst s r jc f){st:List Str}(pm:st.Perm jc)(h:f st=0):st=jc:=by
 apply i8
 intro no;obtain⟨p,q,_,_,e⟩:=F.down st pm no;omega
theorem Dst.le (F:Dst s r jc f)(G:Dst s r jc g):∀k st,st.Perm jc->g st=k->f st<=k:=by
 intro k
 induction k with
 | zero =>
  intro st pm e;rw[G.eq0 pm e,F.zero];exact B7 _
 | succ k ih =>
  intro st pm e;obtain⟨p,q,h1,h2,h3⟩:=G.down st pm λz=>by rw[z,G.zero] at e;cases e
  have:=ih _ (T8 pm h1 h2).1 (by omega);have:=F.back pm h1 h2;omega
theorem Dst.uniq (F:Dst s r jc f)(G:Dst s r jc g){st:List Str}(pm:st.Perm jc):f st=g st:=Bz (F.le G _ st pm rfl) (G.le F _ st pm rfl)
def Pth (s r:Nat)(jc:List Str):Nat->List Str->Prop
 |0,st=>st=jc
 |k+1,st=>∃p q,okP s r p q=true/\q<jc.length/\Pth s r jc k (exch st p q)
inductive Nbs:List Str->List Str->Prop
 |refl (st:List Str):Nbs st st
 |step {A B:List Str} {y b:Str} {st:List Str}:Nbs (A++b::y::B) st->Nbs (A++y::b::B) st
theorem Nbs.trans {a b c:List Str}(h:Nbs a b)(h':Nbs b c):Nbs a c:=by
 induction h with
 |refl=>exact h'
 |step _ ih=>exact .step (ih h')
theorem Nbs.cons (x:Str){a b:List Str}(h:Nbs a b):Nbs (x::a) (x::b):=by
 induction h with
 |refl=>exact .refl _
 |@step A B y b st _ ih=>exact Nbs.step (A:=x::A) ih
theorem SV {a b:List Str}(h:a.Perm b):Nbs a b:=by
 induction h with
 |nil=>exact .refl _
 |cons x _ ih=>exact ih.cons x
 |swap x y l=>exact Nbs.step (A:=[]) (.refl _)
 |trans _ _ h1 h2=>exact h1.trans h2
theorem SX (s1:1<=s){st:List Str}(h:Nbs st jc):st.length=jc.length/\∃k,Pth s r jc k st:=by
 generalize e:jc=o at *
 induction h with
 |refl=>exact⟨rfl,0,rfl⟩
 | @step A B y b st _ ih =>
  obtain⟨l,k,hk⟩:=ih e;have l2:(A++y::b::B).length=(A++b::y::B).length:=by rw[D6,D6];rfl
  have l3:A.length+1<(A++b::y::B).length:=by rw[D6,L8,L8];omega
  refine⟨l2.trans l,k+1,A.length,A.length+1,Iw s1,by omega,?_⟩;rw[(Ix rfl).1];exact hk
theorem least {P:Nat->Prop}(k:Nat):P k->∃m,P m/\∀j,P j->m<=j:=by
 induction k using Nat.strongRecOn with
 | _ k ih =>
  intro h
  by_cases c:∃j,j<k/\P j
  ·obtain⟨j,hj,pj⟩:=c;exact ih j hj pj
  ·exact⟨k,h,λj pj=>CY λz=>c ⟨j,z,pj⟩⟩
theorem dst_ex (s1:1<=s):∃f,Dst s r jc f:=by
 have ex:∀st,∃m,st.Perm jc->Pth s r jc m st/\∀j,Pth s r jc j st->m<=j:=λst=>by
  by_cases c:st.Perm jc
  ·obtain⟨_,k,hk⟩:=SX (r:=r) s1 (SV c);obtain⟨m,h⟩:=least (P:=λk=>Pth s r jc k st) k hk;exact⟨m,λ_=>h⟩
  ·exact⟨0,λz=>absurd z c⟩
 obtain⟨f,hf⟩:=Classical.axiomOfChoice ex
 have st:∀st,st.Perm jc->∀p q,okP s r p q=true->q<jc.length->f (exch st p q)<=f st+1:=λst pm p q h hq=>by
  obtain⟨a,b⟩:=T8 pm h hq;exact(hf _ a).2 _ ⟨p,q,h,hq,by rw[b];exact(hf _ pm).1⟩
 refine⟨f,Nat.le_zero.mp ((hf jc (.refl _)).2 0 rfl),st,λx pm ne=>?_⟩;have h:=(hf x pm).1;cases e:f x with
 |zero=>rw[e] at h;exact absurd h ne
 | succ k =>
  rw[e] at h;obtain⟨p,q,h1,h2,h3⟩:=h;obtain⟨a,b⟩:=T8 pm h1 h2;have u:=(hf _ a).2 _ h3;have v:=st _ a p q h1 h2;rw[b,e] at v;exact⟨p,q,h1,h2,by omega⟩
end
theorem split2 {st:List Str}{j:Nat}(h:j+1<st.length):st=st.take j++nm st j::nm st (j+1)::st.drop (j+1+1):=by
 have d:∀{i:Nat},i<st.length->st.drop i=nm st i::st.drop (i+1):=λ{i} hi=>Fz (F7 hi);rw[<- d h,<- d (by omega),CK]
theorem ML {st jc:List Str}(l:st.length=jc.length)(ne:st≠jc):∃i,i<jc.length/\st.take i=jc.take i/\nm st i≠nm jc i:=by
 have ex:∃i,i<jc.length/\nm st i≠nm jc i:=by
  apply i8
  intro no;refine ne (List.ext_getElem? λi=>?_)
  by_cases c:i<jc.length
  ·rw[F7 c,F7 (by omega)];exact congrArg some (i8 λz=>no ⟨i,c,z⟩)
  ·rw[Q0 (by omega),Q0 (by omega)]
 obtain⟨k,hk⟩:=ex;obtain⟨i,⟨h1,h2⟩,h3⟩:=least (P:=λk=>k<jc.length/\nm st k≠nm jc k) k hk;refine⟨i,h1,List.ext_getElem? λj=>?_,h2⟩;rw[y0,y0]
 by_cases c:j<i
 ·rw[jw c,jw c,F7 (by omega),F7 (by omega)];exact congrArg some (i8 λz=>by have:=h3 j ⟨by omega,z⟩;omega)
 ·rw[jy c,jy c]
theorem IE {s:Nat}{jc:List Str}(s1:1<=s)(nd:jc.Nodup):Dst s 0 jc λst=>inv (st.map (ixS jc)):=by
 refine⟨Mv nd,λst pm p q h hq=>?_,λst pm ne=>?_⟩
 ·have pq:q=p+1:=by
   have:=V8 h;unfold okP at h;rw[R0,R0] at h;have:=jz h.2.1;omega
  subst pq;have l:=pm.length_eq;have jt:=pm.nodup_iff.mpr nd;have e:=split2 (st:=st) (j:=p) (by omega);have al:(st.take p).length=p:=by rw[Y6];omega
  have x:=(Ix e).1;rw[al] at x;have m1:nm st p∈jc:=pm.mem_iff.mp (V7 (by omega));have m2:nm st (p+1)∈jc:=pm.mem_iff.mp (V7 (by omega))
  have ne:ixS jc (nm st p)≠ixS jc (nm st (p+1)):=λz=>by
   have:=Le jt (by omega) (by omega) (Co m1 m2 z);omega
  show inv ((exch st p (p+1)).map (ixS jc))<=inv (st.map (ixS jc))+1;rw[x];generalize nm st p=y at *;generalize nm st (p+1)=b at *;rw[show st.map (ixS jc)=(st.take p++y::b::st.drop (p+1+1)).map (ixS jc) by rw[<- e],J8,J8,J5,J5,J5,J5]
  by_cases c:ixS jc y<ixS jc b
  ·rw[Fy c];exact B7 _
  ·have:=Fy (show ixS jc b<ixS jc y by omega) ((st.drop (p+1+1)).map (ixS jc)) ((st.take p).map (ixS jc));omega
 ·have l:=pm.length_eq;obtain⟨i,hi,hd,hn⟩:=ML l ne;have eb:=F7 hi;have bm:=V7 hi;have bs:=pm.mem_iff.mpr bm;have ge:=ID nd pm hd eb
  have ni:ixS st (nm jc i)≠i:=λz=>by
   have:=(E1 bs).1;rw[z,F7 (by omega)] at this;exact hn (E9 this)
  obtain⟨j,hj⟩:∃j,ixS st (nm jc i)=j+1:=⟨ixS st (nm jc i)-1,by omega⟩;have w:=(MD (r:=0) s1 nd (show Way s 0 st jc i st [] from⟨pm,hd,rfl,(by show 0+_=_;omega),nofun⟩) (M1 nd (E1 bm).1 eb) bm hj (by omega)).1.nu;have jl:=Y0 bs;refine⟨j,j+1,Iw s1,by omega,?_⟩;have w:1+inv ((exch st j (j+1)).map (ixS jc))=inv (st.map (ixS jc)):=w;show inv ((exch st j (j+1)).map (ixS jc))+1=inv (st.map (ixS jc));omega
theorem MM {c d:Str->Nat}{l:List Str}(h:∀x∈l,∀y∈l,c x=c y->d x=d y):∀i,i<=l.length->(ddN ((l.take i).map d)).length<=(ddN ((l.take i).map c)).length
 |0,_=>B7 _
 | i + 1, hi => by
  have ih:=MM h i (by omega);have e:=D7 (show i<l.length by omega);have hx:l[i]∈l:=i4 _;generalize l[i]=x at *;rw[O7 e,J8,J8];show(ddN (_++[d x])).length<=(ddN (_++[c x])).length;rw[AD,AD]
  have imp:c x∈ddN ((l.take i).map c)->d x∈ddN ((l.take i).map d):=by
   rw[(V2 _).2,(V2 _).2,J7,J7];exact λ⟨y,hy,e⟩=>⟨y,hy,h y (Y4 hy) x hx e⟩
  by_cases k:c x∈ddN ((l.take i).map c)
  ·rw[jw k,jw (imp k)];exact ih
  ·rw[jy k,D6]
   split
   ·omega
   ·rw[D6];exact Nat.add_le_add_right ih _
theorem rN_lip {st jc:List Str}{p q:Nat}(nd:jc.Nodup)(pm:st.Perm jc)(hp:p<jc.length)(hq:q<jc.length):rN st jc<=rN (exch st p q) jc+1:=by
 have l:=pm.length_eq;have jt:=pm.nodup_iff.mpr nd;have pm':=d7 (f:=st) (i:=p) (j:=q) (by omega) (by omega);have nd':=pm'.nodup_iff.mpr jt;have g:=Cw (st:=st) (p:=p) (q:=q) (by omega) (by omega);have am:nm st p∈st:=V7 (by omega);have bm:nm st q∈st:=V7 (by omega);have ia:ixS st (nm st p)=p:=M1 jt (E1 am).1 (F7 (by omega));have ib:ixS st (nm st q)=q:=M1 jt (E1 bm).1 (F7 (by omega));have ja:ixS (exch st p q) (nm st p)=q:=M1 nd' (E1 (pm'.mem_iff.mpr am)).1 (by rw[g,jw rfl])
 have jb:ixS (exch st p q) (nm st q)=p:=M1 nd' (E1 (pm'.mem_iff.mpr bm)).1 (by
  rw[g]
  by_cases c:q=p
  ·rw[jw c,c]
  ·rw[jy c,jw rfl])
 have jx:∀x∈st,x≠nm st p->x≠nm st q->ixS (exch st p q) x=ixS st x:=λx hx h1 h2=>M1 nd' (E1 (pm'.mem_iff.mpr hx)).1 (by
  have a:=(E1 hx).1;rw[g,jy,jy,a]
  ·intro z;rw[<- z,F7 (by omega)] at a;exact h1 (E9 a).symm
  ·intro z;rw[<- z,F7 (by omega)] at a;exact h2 (E9 a).symm)
 have P:=w8 jt pm.symm;have P':=w8 nd' (pm.symm.trans pm'.symm);have fa:nxB (exch st p q) jc (nm st p)=nxB st jc (nm st q):=by unfold nxB;rw[ja,ib]
 have fb:nxB (exch st p q) jc (nm st q)=nxB st jc (nm st p):=by unfold nxB;rw[jb,ia]
 have fx:∀x∈st,x≠nm st p->x≠nm st q->nxB (exch st p q) jc x=nxB st jc x:=λx hx h1 h2=>by unfold nxB;rw[jx x hx h1 h2]
 unfold rN;generalize nm st p=a at *;generalize nm st q=b at *;generalize exch st p q=st' at *;generalize nxB st jc=f at *;generalize nxB st' jc=f' at *;have cs:∀x∈st,cOf f st (f x)=cOf f st x:=λx hx=>((AC P hx (P.st x hx)).mp ⟨1,rfl⟩).symm
 let m:Nat->Nat:=λv=>if v=cOf f st b then cOf f st a else v
 have mb:m (cOf f st b)=cOf f st a:=jw rfl
 have ma:m (cOf f st a)=cOf f st a:=by
  show(if _ then _ else _)=_
  split <;> rfl
 have one:∀x∈st,m (cOf f st (f' x))=m (cOf f st x):=λx hx=>by
  by_cases c1:x=a
  ·rw[c1,fa,cs b bm,mb,ma]
  ·by_cases c2:x=b
   ·rw[c2,fb,cs a am,mb,ma]
   ·rw[fx x hx c1 c2,cs x hx]
 have all:∀x∈st,∀k,itr f' k x∈st/\m (cOf f st (itr f' k x))=m (cOf f st x):=λx hx k=>by
  induction k with
  |zero=>exact⟨hx,rfl⟩
  | succ k ih =>
   refine⟨pm'.mem_iff.mp (P'.st _ (pm'.mem_iff.mpr ih.1)),?_⟩;rw[<- ih.2];exact one _ ih.1
 have A:=MM (c:=cOf f' st') (d:=λx=>m (cOf f st x)) (l:=st') (λx hx y hy e=>by
  obtain⟨k,rfl⟩:=(AC P' hx hy).mpr e
  exact(all x (pm'.mem_iff.mp hx) k).2.symm) st'.length (B7 _)
 rw[Y7] at A
 have B:=(V2 (st.map (cOf f st))).1.length_le_of_subset (l₂:=cOf f st b::ddN (st'.map λx=>m (cOf f st x))) λv hv=>by
  rw[(V2 _).2,J7] at hv;obtain⟨x,hx,rfl⟩:=hv
  by_cases c:cOf f st x=cOf f st b
  ·rw[c];exact C6
  ·refine C9 _ ?_;rw[(V2 _).2,J7];exact⟨x,pm'.mem_iff.mpr hx,jy c⟩
 rw[L8] at B;omega
theorem IF {s r:Nat}{jc:List Str}(nd:jc.Nodup)(hs:jc.length<=s)(hr:jc.length<=r+2):Dst s r jc λst=>jc.length-rN st jc:=by
 refine⟨by rw[MJ nd];omega,λst pm p q h hq=>?_,λst pm ne=>?_⟩
 ·have:=V8 h;have:=rN_lip nd pm (p:=p) (q:=q) (by omega) hq;omega
 ·have l:=pm.length_eq;obtain⟨i,hi,hd,hn⟩:=ML l ne;have eb:=F7 hi;have bs:=pm.mem_iff.mpr (V7 hi);have ge:=ID nd pm hd eb
  have ni:ixS st (nm jc i)≠i:=λz=>by
   have:=(E1 bs).1;rw[z,F7 (by omega)] at this;exact hn (E9 this)
  have jl:=Y0 bs;have st1:=MK nd pm eb hn;have le:=FC (row:=exch st i (ixS st (nm jc i))) (jc:=jc);rw[(d7 (by omega) jl).length_eq] at le;refine⟨i,ixS st (nm jc i),MB hs hr (by omega) (by omega),by omega,?_⟩;omega
theorem M8 (r:List Str):M4 (r.map PV.str)=some (bk r):=by
 have:=Hm (bk r);rw[i5] at this;exact this
theorem IG {a b:List Str}(h:bk a=bk b):a=b:=(List.map_inj_right λx y e=>Sum.inr.inj e).mp h
theorem MN {r:List Str}{L:List (List Str)}:memT (L.map bk) (bk r)=decide (r∈L):=by
 rw[z9,RY,decide_eq_true_iff,J7];exact⟨λ⟨x,h,e⟩=>by rw[<- IG e];exact h,λh=>⟨r,h,rfl⟩⟩
def vI (f:List Str->Nat)(x:List Str):PV:=.int (f x:Nat)
theorem Q5 {f:List Str->Nat}{r:List Str}:∀{L:List (List Str)},r∈L->getT (L.map bk) (L.map (vI f)) (bk r)=some (vI f r)
 | x :: L, h => by
  show(if bk x=bk r then some (vI f x) else getT (L.map bk) (L.map (vI f)) (bk r))=_
  by_cases c:x=r
  ·rw[c,jw rfl]
  ·rw[jy λz=>c (IG z)];exact Q5 ((C8.mp h).elim (λz=>absurd z.symm c) id)
theorem MP {r:List Str}{L:List (List Str)}(h:r∉L):bk r∉L.map bk:=λz=>by
 obtain⟨x,hx,e⟩:=J7.mp z;exact h (by rw[<- IG e];exact hx)
theorem IH {r:List Str}{L:List (List Str)}(h:r∉L):P4 (L.map bk) (bk r)=(L++[r]).map bk:=by
 unfold P4;rw[jy (MP h),J8];rfl
theorem II {f:List Str->Nat}{r:List Str}{L:List (List Str)}{x:PV}(h:r∉L)(e:x=vI f r):O3 (L.map bk) (L.map (vI f)) (bk r) x=(L++[r]).map (vI f):=by
 unfold O3;rw[jy (MP h),J8,e];rfl
structure Ord (jc:List Str)(O:List (List Str)):Prop where
 nd:O.Nodup
 mem:∀st,st∈O↔st.Perm jc
 len:O.length<=120
theorem Ord.le {jc:List Str}{O L:List (List Str)}(o:Ord jc O)(nd:L.Nodup)(h:∀st∈L,st.Perm jc):L.length<=120:=G8 (nd.length_le_of_subset λst hs=>(o.mem st).mpr (h st hs)) o.len
theorem Dst.lt {s r:Nat}{jc:List Str}{f:List Str->Nat}{O:List (List Str)}(F:Dst s r jc f)(o:Ord jc O){st:List Str}(pm:st.Perm jc):f st<O.length:=by
 have key:∀k st,st.Perm jc->f st=k->∃l:List (List Str),l.length=k+1/\l.Nodup/\∀x∈l,x.Perm jc/\f x<=k:=by
  intro k
  induction k with
  |zero=>exact λst pm e=>⟨[st],rfl,by simp,λx hx=>by rw[E3.mp hx];exact⟨pm,by omega⟩⟩
  | succ k ih =>
   intro st pm e;obtain⟨p,q,h1,h2,h3⟩:=F.down st pm λz=>by rw[z,F.zero] at e;cases e
   obtain⟨l,l1,l2,l3⟩:=ih _ (T8 pm h1 h2).1 (by omega);refine⟨st::l,by rw[L8,l1],P0.mpr ⟨λz=>?_,l2⟩,λx hx=>?_⟩
   ·have:=(l3 _ z).2;omega
   ·rcases C8.mp hx with z|z
    ·rw[z];exact⟨pm,by omega⟩
    ·exact⟨(l3 x z).1,by have:=(l3 x z).2;omega⟩
 obtain⟨l,l1,l2,l3⟩:=key _ st pm rfl;have:=l2.length_le_of_subset λx hx=>(o.mem x).mpr (l3 x hx).1;omega
structure Lv (jc:List Str)(f:List Str->Nat)(k:Nat)(L W:List (List Str)):Prop where
 nd:L.Nodup
 pm:∀st∈L,st.Perm jc/\f st<=k
 kn:∀st,st.Perm jc->f st<=k->st∈L
 fr:∀st∈W,st.Perm jc/\f st=k
 fa:∀st,st.Perm jc->f st=k->st∈W
theorem Lv.all {s r:Nat}{jc:List Str}{f:List Str->Nat}{k:Nat}{L:List (List Str)}(F:Dst s r jc f)(v:Lv jc f k L []):∀st,st∈L↔st.Perm jc:=by
 have key:∀m st,st.Perm jc->f st=m->m<k:=by
  intro m
  induction m with
  | zero =>
   intro st pm e
   apply i8
   intro no;have:=v.fa st pm (by omega);cases this
  | succ m ih =>
   intro st pm e;obtain⟨p,q,h1,h2,h3⟩:=F.down st pm λz=>by rw[z,F.zero] at e;cases e
   have:=ih _ (T8 pm h1 h2).1 (by omega)
   apply i8
   intro no;have:=v.fa st pm (by omega);cases this
 exact λst=>⟨λh=>(v.pm st h).1,λpm=>v.kn st pm (BA (key _ st pm rfl))⟩
structure Ig (jc:List Str)(f:List Str->Nat)(k:Nat)(P:List (Nat×Nat))(L fr:List (List Str))(i j:Nat)(row:List Str)(gr:List (List Str)):Prop where
 nd:(L++gr).Nodup
 pm:∀st∈gr,st.Perm jc/\f st=k+1
 dn:∀x∈fr.take i,∀y∈P,exch x y.1 y.2∈L++gr
 dj:∀y∈P.take j,exch row y.1 y.2∈L++gr
section
variable {s r:Nat}{jc:List Str}{f:List Str->Nat}{k:Nat}{L fr:List (List Str)}{P:List (Nat×Nat)}
theorem Ig.next {i:Nat}{row:List Str}{gr:List (List Str)}(h:Ig jc f k P L fr i P.length row gr)(er:fr[i]?=some row){row':List Str}:Ig jc f k P L fr (i+1) 0 row' gr:=
 ⟨h.nd,h.pm,λx hx y hy=>by
  rw[O7 er] at hx;rcases E5.mp hx with hx|hx
  ·exact h.dn x hx y hy
  ·rw[E3.mp hx]
   exact h.dj y (by rw[Y7];exact hy),nofun⟩
theorem Ig.put (F:Dst s r jc f)(v:Lv jc f k L fr){i j:Nat}{row:List Str}{gr:List (List Str)}{y:Nat×Nat}(h:Ig jc f k P L fr i j row gr)(hr:row∈fr)(ey:P[j]?=some y)(ok:okP s r y.1 y.2=true)(hq:y.2<jc.length)(ni:exch row y.1 y.2∉L++gr):f (exch row y.1 y.2)=k+1/\Ig jc f k P L fr i (j+1) row (gr++[exch row y.1 y.2]):=by
 obtain⟨pr,fk⟩:=v.fr row hr;have pm:=(T8 pr ok hq).1
 have e:f (exch row y.1 y.2)=k+1:=by
  have h1:=F.step row pr y.1 y.2 ok hq;have h2:¬f (exch row y.1 y.2)<=k:=λz=>ni (N8 _ (v.kn _ pm z));omega
 refine⟨e,?_,λst hs=>?_,λx hx y hy=>?_,λz hz=>?_⟩
 ·rw[<- O9];exact Y5.mpr ⟨h.nd,by simp,λa ha b hb z=>ni (by rw[<- E3.mp hb,<- z];exact ha)⟩
 ·rcases E5.mp hs with hs|hs
  ·exact h.pm st hs
  ·rw[E3.mp hs];exact⟨pm,e⟩
 ·rw[<- O9];exact N8 _ (h.dn x hx y hy)
 ·rw[<- O9];rw[O7 ey] at hz;rcases E5.mp hz with hz|hz
  ·exact N8 _ (h.dj z hz)
  ·rw[E3.mp hz];simp
theorem Ig.skip {i j:Nat}{row:List Str}{gr:List (List Str)}{y:Nat×Nat}(h:Ig jc f k P L fr i j row gr)(ey:P[j]?=some y)(ni:exch row y.1 y.2∈L++gr):Ig jc f k P L fr i (j+1) row gr:=
 ⟨h.nd,h.pm,h.dn,λz hz=>by
  rw[O7 ey] at hz;rcases E5.mp hz with hz|hz
  ·exact h.dj z hz
  ·rw[E3.mp hz];exact ni⟩
theorem Ig.lv (F:Dst s r jc f)(v:Lv jc f k L fr){row:List Str}{gr:List (List Str)}{j:Nat}(hP:∀p q,(p,q)∈P↔okP s r p q=true/\q<jc.length)(h:Ig jc f k P L fr fr.length j row gr):Lv jc f (k+1) (L++gr) gr:=by
 have kn:∀st,st.Perm jc->f st<=k+1->st∈L++gr:=λst pm le=>by
  by_cases c:f st<=k
  ·exact N8 _ (v.kn st pm c)
  ·obtain⟨p,q,h1,h2,h3⟩:=F.down st pm λz=>by rw[z,F.zero] at c;exact c (M5 _)
   obtain⟨a,b⟩:=T8 pm h1 h2;have:=h.dn _ (by rw[Y7];exact v.fa _ a (by omega)) (p,q) ((hP p q).mpr ⟨h1,h2⟩);dsimp only at this;rw[b] at this;exact this
 refine⟨h.nd,λst hs=>?_,kn,h.pm,λst pm e=>?_⟩
 ·rcases E5.mp hs with hs|hs
  ·exact⟨(v.pm st hs).1,by have:=(v.pm st hs).2;omega⟩
  ·exact⟨(h.pm st hs).1,by have:=(h.pm st hs).2;omega⟩
 ·rcases E5.mp (kn st pm (by omega)) with z|z
  ·have:=(v.pm st z).2;omega
  ·exact z
end
abbrev mtP (s r:Nat):PV:=.tup [.int s,.int r]
abbrev plP (P:List (Nat×Nat)):List PV:=P.map λy=>pr y.1 y.2
abbrev bodyN:pS:=(qSeq (qOwn 5 (qLst qNil))
   (qSeq (qFor (qIl (qV 4)) (gN 6) (qFor (qIt (qV 2)) (gTp 2 (gCn (gN 7) (gCn (gN 8) gNl))) (qSeq (qSet 9 (B6 T7 (A1 (qV 6) (A1 (qV 7) (A1 (qV 8) qNil)))))
   (qIfS (qB (Bh 3 (qV 9))) (qSeq (Ci 3 (qV 9) (qOp wAdd (Y1 3 (qV 6)) (qC (.int 1))))
   (O6 (n6 5 (qV 9)))) qNx))))
   (v5 5 (qSet 4 (qV 5)))))
theorem m_numW {s r n:Nat}{jc:List Str}{f:List Str->Nat}{O:List (List Str)}(M:Mt s r jc.length)(F:Dst s r jc f)(o:Ord jc O){D:Q4}{s0:Option Pu.Slot}(hD:∀(L:List (List Str)) a4 a5 a6 a7 a8 a9,L.Nodup->(∀st,st∈L↔st.Perm jc)->D.nx [s0,some (.v (rowP jc)),some (.v (.tup (plP (TPn s r jc.length)))),some (.ow (.dt (L.map bk)) (L.map (vI f))),a4,a5,a6,a7,a8,a9] n):∀(u k:Nat) (L fr:List (List Str)) (a5 a6 a7 a8 a9:Option Pu.Slot),Lv jc f k L fr->120<=k+u->
   N5 (EQ (qV 4)) bodyN D (u+1) [s0,some (.v (rowP jc)),some (.v (.tup (plP (TPn s r jc.length)))),some (.ow (.dt (L.map bk)) (L.map (vI f))),some (.v (.lst (fr.map rowP))),a5,a6,a7,a8,a9] n:=by
 intro u
 induction u with
 | zero =>
  intro k L fr a5 a6 a7 a8 a9 v hu
  have:fr=[]:=by
   cases fr with
   |nil=>rfl
   | cons x fr =>
    obtain⟨pm,e⟩:=v.fr x C6;have:=F.lt o pm;have:=o.len;omega
  subst this;exact hD L _ _ _ _ _ _ v.nd (v.all F)
 | succ u ih =>
  intro k L fr a5 a6 a7 a8 a9 v hu
  by_cases c:fr=[]
  ·subst c;exact hD L _ _ _ _ _ _ v.nd (v.all F)
  ·have tp:=(Bk M).2;have nx:=λ(L' fr':List (List Str)) (b5 b6 b7 b8 b9:Option Pu.Slot) (v':Lv jc f (k+1) L' fr')=>ih (k+1) L' fr' b5 b6 b7 b8 b9 v' (by omega);clear ih;generalize hP:TPn s r jc.length=P at *;rw[N5]
   have ne:(fr.map rowP).isEmpty=false:=by
    cases fr with
    |nil=>exact absurd rfl c
    |cons _ _=>rfl
   show(if(!(fr.map rowP).isEmpty)=true then _ else _);rw[ne];show bodyN _ _ _;have er:∀i x,(fr.map rowP)[i]?=some x->∃row,fr[i]?=some row/\x=rowP row:=λi x h=>V0 (f:=rowP) h;have Fl:(fr.map rowP).length=fr.length:=B1 ..;generalize hF:fr.map rowP=FF at *;generalize hW:rowP jc=W at *;refine D2 λU hU=>?_;walk_at "pu";subst hU;refine D2 λU hU=>?_;walk_at "pu";refine K9 (λi env m=>∃(gr:List (List Str)) (a6 a7 a8 a9:Option Pu.Slot),env=[s0,some (.v W),some (.v (.tup (plP P))),some (.ow (.dt ((L++gr).map bk)) ((L++gr).map (vI f))),some (.v (.lst FF)),some (.own (gr.map rowP)),a6,a7,a8,a9]/\Ig jc f k P L fr i 0 [] gr/\m=n) _ 0 _ _ ⟨[],a6,a7,a8,a9,by rw[Q8];rfl,⟨by rw[Q8];exact v.nd,nofun,nofun,nofun⟩,rfl⟩ (λi x env m N ex hI hN=>?_) (λenv m hI=>?_)
   ·obtain⟨row,ei,rfl⟩:=er i x ex;obtain⟨gr,b6,b7,b8,b9,rfl,ig,rfl⟩:=hI;rw[F2] at ig hN;have hr:=J9 ei;have pr':=(v.fr row hr).1;have rl:=pr'.length_eq;clear hD nx hU;generalize hX:plP P=PP;walk_at "pu";rw[<- hX];refine K9 (λj env m'=>∃(gr:List (List Str)) (a7 a8 a9:Option Pu.Slot),env=[s0,some (.v W),some (.v (.tup (plP P))),some (.ow (.dt ((L++gr).map bk)) ((L++gr).map (vI f))),some (.v (.lst FF)),some (.own (gr.map rowP)),some (.v (rowP row)),a7,a8,a9]/\Ig jc f k P L fr i j row gr/\m'=m) _ 0 _ _ ⟨gr,b7,b8,b9,rfl,⟨ig.nd,ig.pm,ig.dn,nofun⟩,rfl⟩ (λj x env m' N' ex' hI hN'=>?_) (λenv m' hI=>?_)
    ·obtain⟨y,ey,rfl⟩:=V0 (f:=λy:Nat×Nat=>pr y.1 y.2) ex';obtain⟨gr,c7,c8,c9,rfl,ig,rfl⟩:=hI;rw[F2] at ig hN';obtain⟨ok,hq⟩:=(tp y.1 y.2).mp (J9 ey);have lt:=V8 ok;have mx:=λ(R:PV->Nat->Prop) q=>Bl (f:=row) (i:=y.1) (j:=y.2) (n:=m') (R:=R) (by omega) (by omega) q;have fk:=(v.fr row hr).2;have kr:=M8 row;have ka:=M8 (exch row y.1 y.2);have gv:=Q5 (f:=f) (show row∈L++gr from N8 _ (v.kn row pr' (by omega)));have md:=MN (r:=exch row y.1 y.2) (L:=L++gr);have al:=o.le ig.nd λst hs=>(E5.mp hs).elim (λz=>(v.pm st z).1) λz=>(ig.pm st z).1;rw[D6] at al;have l1:((L++gr).map bk).length=((L++gr).map (vI f)).length:=by rw[B1,B1]
     have l2:((L++gr).map (vI f)).length<1000000:=by rw[B1,D6];omega
     have l3:(gr.map rowP).length<1000000:=by rw[B1];omega
     by_cases ci:exch row y.1 y.2∈L++gr
     ·have ig':=ig.skip ey ci;rw[ju ci] at md;generalize hK:(L++gr).map bk=KK at *;generalize hV:(L++gr).map (vI f)=VV at *;generalize hG:gr.map rowP=GG at *;generalize hX:plP P=PP at *;generalize hR:rowP row=RR at *;refine⟨rfl,?_⟩;dsimp only[gCn,gN,gNl,List.set];refine D2 λV hV=>?_;walk_at "pu";refine mx _ ?_;subst hV;walk_at "pu";rw[ka];dsimp only;rw[md];exact⟨l1,if_f rfl (hN' _ _ ⟨gr,_,_,_,by rw[hK,hV,hG],ig',rfl⟩)⟩
     ·obtain⟨fa,ig'⟩:=ig.put F v hr ey ok hq ci;rw[jv ci] at md;have pk:=IH ci;have px:=II (f:=f) (x:=.int ((f row:Nat)+1)) ci (by unfold vI;rw[fa,fk];rfl);rw[O9] at pk px;have eg:gr.map rowP++[rowP (exch row y.1 y.2)]=(gr++[exch row y.1 y.2]).map rowP:=by rw[J8];rfl
      generalize hK:(L++gr).map bk=KK at *;generalize hV:(L++gr).map (vI f)=VV at *;generalize hG:gr.map rowP=GG at *;generalize plP P=PP at *;refine⟨rfl,?_⟩;dsimp only[gCn,gN,gNl,List.set];refine D2 λV hV=>?_;walk_at "pu";refine mx _ ?_;subst hV;walk_at "pu";rw[ka];dsimp only;rw[md];refine⟨l1,if_t rfl ⟨⟨_,_,rfl⟩,?_⟩⟩;rw[kr];dsimp only;refine⟨l1,?_⟩;rw[gv];dsimp only[vI];refine⟨⟨_,_,rfl⟩,l1,l2,⟨_,rfl⟩,l3,?_⟩;rw[pk,px,eg];exact hN' _ _ ⟨_,_,_,_,rfl,ig',rfl⟩
    ·obtain⟨gr,c7,c8,c9,rfl,ig,rfl⟩:=hI;rw[F2,B1] at ig;exact hN _ _ ⟨gr,_,_,_,_,rfl,ig.next ei,rfl⟩
   ·obtain⟨gr,b6,b7,b8,b9,rfl,ig,rfl⟩:=hI;rw[F2,Fl] at ig;have v':=ig.lv F v tp;have:=nx _ _ (some (.v (.lst (gr.map rowP)))) b6 b7 b8 b9 v';subst hU;generalize (L++gr).map bk=KK at *;generalize (L++gr).map (vI f)=VV at *;generalize gr.map rowP=GG at *;generalize plP P=PP at *;walk_at "pu";exact this
theorem SY {s r n:Nat}{jc:List Str}{f:List Str->Nat}{O:List (List Str)}{R:PV->Nat->Prop}(M:Mt s r jc.length)(F:Dst s r jc f)(o:Ord jc O)(h:∀L:List (List Str),L.Nodup->(∀st,st∈L↔st.Perm jc)->R (.fdt (L.map bk) (L.map (vI f))) n):HV [mtP s r,rowP jc] n R:=by
 refine⟨rfl,?_⟩;unfold LH;have mt:∀{R:PV->Nat->Prop},R (.tup (TP s r jc.length)) n->p5 [.tup [.int s,.int r],.int (jc.length:Nat)] n R:=λq=>Fx M.s1 M.s8 M.r7 M.n1 (by have:=M.n5;omega) q;rw[TP_n] at mt;have Ol:(jc.map PV.str).length=jc.length:=B1 ..;have ko:=M8 jc;have z0:Lv jc f 0 [jc] [jc]:=⟨by simp,λst hs=>by rw[E3.mp hs,F.zero];exact⟨.refl _,B7 _⟩,λst pm e=>by rw[F.eq0 pm (by omega)];simp,λst hs=>by rw[E3.mp hs];exact⟨.refl _,F.zero⟩,λst pm e=>by rw[F.eq0 pm e];simp⟩;have mw:=λD s0 hD=>m_numW (n:=n) (D:=D) (s0:=s0) M F o hD 120 0 [jc] [jc] none none none none none z0 (by omega)
 have e0:([PV.int 0]:List PV)=[jc].map (vI f):=by
  show _=[PV.int (f jc:Nat)];rw[F.zero];rfl
 refine D2 λU hU=>?_;walk_at "pu";rw[Ol];refine mt ?_;subst hU;refine D2 λU hU=>?_;walk_at "pu";rw[ko];dsimp only;subst hU;refine D2 λU hU=>?_;walk_at "pu";subst hU;rw[e0];refine D2 λU hU=>⟨_,mw _ _ λL a4 a5 a6 a7 a8 a9 nd all=>?_⟩;have l1:(L.map bk).length=(L.map (vI f)).length:=by rw[B1,B1]
 have:=h L nd all;subst hU;generalize L.map bk=KK at *;generalize L.map (vI f)=VV at *;generalize plP (TPn s r jc.length)=PP at *;walk_at "pu";exact⟨l1,this⟩
structure Qv (jc:List Str)(f:List Str->Nat)(P:List (Nat×Nat))(L W:List (List Str)):Prop where
 nd:L.Nodup
 pm:∀st∈L,st.Perm jc
 wl:∀st∈W,st∈L
 so:W.Pairwise λa b=>f a<=f b
 sp:∀a∈W,∀b∈W,f a<=f b+1
 dn:∀st∈L,st∉W->∀y∈P,exch st y.1 y.2∈L
 ot:jc∈L
structure Iq (jc:List Str)(f:List Str->Nat)(P:List (Nat×Nat))(L:List (List Str))(h:List Str)(j:Nat)(gr:List (List Str)):Prop where
 nd:(L++gr).Nodup
 pm:∀st∈gr,st.Perm jc/\f st=f h+1
 dj:∀y∈P.take j,exch h y.1 y.2∈L++gr
section
variable {s r:Nat}{jc:List Str}{f:List Str->Nat}{L W:List (List Str)}{P:List (Nat×Nat)}
theorem Qv.all (F:Dst s r jc f)(hP:∀p q,(p,q)∈P↔okP s r p q=true/\q<jc.length)(v:Qv jc f P L []):∀st,st∈L↔st.Perm jc:=by
 have key:∀m st,st.Perm jc->f st=m->st∈L:=by
  intro m
  induction m with
  |zero=>intro st pm e;rw[F.eq0 pm e];exact v.ot
  | succ m ih =>
   intro st pm e;obtain⟨p,q,h1,h2,h3⟩:=F.down st pm λz=>by rw[z,F.zero] at e;cases e
   obtain⟨a,b⟩:=T8 pm h1 h2;have:=v.dn _ (ih _ a (by omega)) nofun (p,q) ((hP p q).mpr ⟨h1,h2⟩);dsimp only at this;rw[b] at this;exact this
 exact λst=>⟨v.pm st,λpm=>key _ st pm rfl⟩
theorem Qv.min (F:Dst s r jc f)(hP:∀p q,(p,q)∈P↔okP s r p q=true/\q<jc.length){h:List Str}{T:List (List Str)}(v:Qv jc f P L (h::T)):∀m st,st.Perm jc->st∉L->f st=m->f h+1<=m:=by
 intro m
 induction m with
 |zero=>intro st pm ni e;exact absurd (by rw[F.eq0 pm e];exact v.ot) ni
 | succ m ih =>
  intro st pm ni e;obtain⟨p,q,h1,h2,h3⟩:=F.down st pm λz=>by rw[z,F.zero] at e;cases e
  obtain⟨a,b⟩:=T8 pm h1 h2
  by_cases c:exch st p q∈L
  ·by_cases d:exch st p q∈h::T
   ·have:f h<=f (exch st p q):=(C8.mp d).elim (λz=>by rw[z];exact B7 _) λz=>(List.pairwise_cons.mp v.so).1 _ z;omega
   ·have:=v.dn _ c d (p,q) ((hP p q).mpr ⟨h1,h2⟩);dsimp only at this;rw[b] at this;exact absurd this ni
  ·have:=ih _ a c (by omega);omega
theorem Iq.put (F:Dst s r jc f)(hP:∀p q,(p,q)∈P↔okP s r p q=true/\q<jc.length){h:List Str}{T:List (List Str)}(v:Qv jc f P L (h::T)){j:Nat}{gr:List (List Str)}{y:Nat×Nat}(g:Iq jc f P L h j gr)(ey:P[j]?=some y)(ni:exch h y.1 y.2∉L++gr):f (exch h y.1 y.2)=f h+1/\Iq jc f P L h (j+1) (gr++[exch h y.1 y.2]):=by
 obtain⟨ok,hq⟩:=(hP y.1 y.2).mp (J9 ey);have ph:=v.pm h (v.wl h C6);have pm:=(T8 ph ok hq).1
 have e:f (exch h y.1 y.2)=f h+1:=by
  have h1:=F.step h ph y.1 y.2 ok hq;have h2:=v.min F hP _ _ pm (λz=>ni (N8 _ z)) rfl;omega
 refine⟨e,?_,λst hs=>?_,λz hz=>?_⟩
 ·rw[<- O9];exact Y5.mpr ⟨g.nd,by simp,λa ha b hb z=>ni (by rw[<- E3.mp hb,<- z];exact ha)⟩
 ·rcases E5.mp hs with hs|hs
  ·exact g.pm st hs
  ·rw[E3.mp hs];exact⟨pm,e⟩
 ·rw[<- O9];rw[O7 ey] at hz;rcases E5.mp hz with hz|hz
  ·exact N8 _ (g.dj z hz)
  ·rw[E3.mp hz];simp
theorem Iq.skip {h:List Str}{j:Nat}{gr:List (List Str)}{y:Nat×Nat}(g:Iq jc f P L h j gr)(ey:P[j]?=some y)(ni:exch h y.1 y.2∈L++gr):Iq jc f P L h (j+1) gr:=
 ⟨g.nd,g.pm,λz hz=>by
  rw[O7 ey] at hz;rcases E5.mp hz with hz|hz
  ·exact g.dj z hz
  ·rw[E3.mp hz];exact ni⟩
theorem Iq.qv {h:List Str}{T:List (List Str)}(v:Qv jc f P L (h::T)){gr:List (List Str)}(g:Iq jc f P L h P.length gr):Qv jc f P (L++gr) (T++gr):=by
 obtain⟨s1,s2⟩:=List.pairwise_cons.mp v.so
 have bd:∀a∈T++gr,f h<=f a/\f a<=f h+1:=λa ha=>by
  rcases E5.mp ha with ha|ha
  ·exact⟨s1 a ha,v.sp a (C9 _ ha) h C6⟩
  ·have:=(g.pm a ha).2;omega
 refine⟨g.nd,λst hs=>(E5.mp hs).elim (v.pm st) λz=>(g.pm st z).1,λst hs=>?_,?_,λa ha b hb=>?_,λst hs no y hy=>?_,N8 _ v.ot⟩
 ·rcases E5.mp hs with hs|hs
  ·exact N8 _ (v.wl st (C9 _ hs))
  ·exact h9 _ hs
 ·refine List.pairwise_append.mpr ⟨s2,Ea.mpr λi j hi hj _=>?_,λa ha b hb=>?_⟩
  ·rw[(g.pm _ (i4 hi)).2,(g.pm _ (i4 hj)).2];exact B7 _
  ·rw[(g.pm b hb).2];exact(bd a (N8 _ ha)).2
 ·have:=bd a ha;have:=bd b hb;omega
 ·have hs:st∈L:=(E5.mp hs).elim id λz=>absurd (h9 _ z) no
  by_cases c:st=h
  ·rw[c];exact g.dj y (by rw[Y7];exact hy)
  ·exact N8 _ (v.dn st hs (λz=>(C8.mp z).elim c λz=>no (N8 _ z)) y hy)
end
def LPp (s r n p:Nat):List (Nat×Nat):=(((D1 (n-(p+1))).map λj=>p+1+j).filter λq=>okP s r p q).map λq=>(p,q)
def LPn (s r n:Nat):List (Nat×Nat):=(D1 n).flatMap (LPp s r n)
theorem lp_mem {s r n:Nat}(p q:Nat):(p,q)∈LPn s r n↔okP s r p q=true/\q<n:=by
 unfold LPn LPp;rw[Ee];constructor
 ·rintro⟨a,ha,h⟩;obtain⟨b,hb,e⟩:=J7.mp h;cases e;obtain⟨hb,ok⟩:=O5.mp hb;obtain⟨j,hj,rfl⟩:=J7.mp hb;have:=P1.mp hj;exact⟨ok,by omega⟩
 ·intro⟨ok,hq⟩;have:=V8 ok;exact⟨p,P1.mpr (by omega),J7.mpr ⟨q,O5.mpr ⟨J7.mpr ⟨q-(p+1),P1.mpr (by omega),by omega⟩,ok⟩,rfl⟩⟩
theorem SZ {s r p:Nat}(s1:1<=s)(s8:s<=8)(r7:r<=7)(hp:p<30){n:Nat}{R:List PV->Nat->Prop}:∀(js:List Nat) (s0:Option Pu.Slot),(∀j∈js,j<30)->R (((js.filter λq=>okP s r p q).map λq=>(p,q)).map λy=>pr y.1 y.2) n->
   Q3 (gN 0) (qB (B6 Cs (A1 (qV 2) (A1 (qV 1) (A1 (qV 0) qNil))))) (qTup (A1 (qV 1) (A1 (qV 0) qNil))) (js.map pinN) [s0,some (.v (.int (p:Int))),some (.v (mtP s r))] n R:=by
 intro js
 induction js generalizing R with
 |nil=>intro s0 _ h;exact h
 | cons j js ih =>
  intro s0 hj h;rw[y7] at h;refine IB s1 s8 r7 hp (hj j C6) ?_
  by_cases c:okP s r p j=true
  ·rw[jw c] at h;exact if_t c ⟨by show 2<=_;decide,ih (R:=λys m=>R (pr p j::ys) m) (some (.v (pinN j))) (λa ha=>hj a (C9 _ ha)) h⟩
  ·rw[jy c] at h;exact if_f (eq_false_of_ne_true c) (ih _ (λa ha=>hj a (C9 _ ha)) h)
theorem S_ (L:List (List Str))(d:Nat):(L.map rowP).all (cmpb (d+1))=true:=by
 rw[CU,J3];exact λx _=>Bg x d
abbrev bodyQ:pS:=(qSeq (qSet 7 (GX 3 (qC (.int 0))))
   (v5 5 (qFor (qIl (qV 5)) (gTp 2 (gCn (gN 6) (gCn (gN 8) gNl))) (qSeq (qSet 9 (B6 Cu (A1 (qV 7) (A1 (qV 6) (A1 (qV 8) qNil)))))
   (qIfS (qB (Bh 2 (qV 9))) (qSeq (Ci 2 (qV 9) (qOp wAdd (Y1 2 (qV 7)) (qC (.int 1))))
   (O6 (n6 3 (qV 9)))) qNx)))))
theorem Ta {s r n:Nat}{jc:List Str}{f:List Str->Nat}{O:List (List Str)}{P:List (Nat×Nat)}(F:Dst s r jc f)(o:Ord jc O)(hP:∀p q,(p,q)∈P↔okP s r p q=true/\q<jc.length){D:Q4}{s0 a4:Option Pu.Slot}(hD:∀(L:List (List Str)) a3 a5 a6 a7 a8 a9,L.Nodup->(∀st,st∈L↔st.Perm jc)->D.nx [s0,some (.v (rowP jc)),some (.ow (.dt (L.map bk)) (L.map (vI f))),a3,a4,a5,a6,a7,a8,a9] n):∀(u c:Nat) (L W:List (List Str)) (a5 a6 a7 a8 a9:Option Pu.Slot),a5=some (.own (plP P))\/a5=some (.v (.lst (plP P)))->Qv jc f P L W->c+W.length=L.length->120<=c+u->
   N5 (qB (qOpR (wNe 4) (qO 3) (qL (qLst qNil)))) bodyQ D (u+1) [s0,some (.v (rowP jc)),some (.ow (.dt (L.map bk)) (L.map (vI f))),some (.own (W.map rowP)),a4,a5,a6,a7,a8,a9] n:=by
 intro u
 induction u with
 | zero =>
  intro c L W a5 a6 a7 a8 a9 h5 v hc hu;have:=o.le v.nd v.pm;have:W=[]:=AI (by omega);subst this;exact⟨by decide,rfl,hD L _ _ _ _ _ _ v.nd (v.all F hP)⟩
 | succ u ih =>
  intro c L W a5 a6 a7 a8 a9 h5 v hc hu;cases W with
  |nil=>exact⟨by decide,rfl,hD L _ _ _ _ _ _ v.nd (v.all F hP)⟩
  | cons h T =>
   have nx:=λ(L' W':List (List Str)) (b6 b7 b8 b9:Option Pu.Slot) v' hc'=>ih (c+1) L' W' (some (.v (.lst (plP P)))) b6 b7 b8 b9 (.inr rfl) v' hc' (by omega);clear ih hD;have cw:cmpb 4 (.lst ((h::T).map rowP))=true:=S_ (h::T) 2;refine⟨by decide,rfl,gd2 cw rfl (if_t rfl ?_)⟩;have hL:=v.wl h C6;have ph:=v.pm h hL;have hl:=ph.length_eq
   have wl:((h::T).map rowP).length<=1000000:=by
    have:=o.le v.nd v.pm;rw[B1];omega
   refine D2 λU hU=>?_;refine⟨⟨_,rfl⟩,wl,?_⟩;have e:ixN ((h::T).map rowP).length 0=some 0:=u6 (by omega) (by rw[B1,L8];omega);show match ixN ((h::T).map rowP).length 0 with|some j=>_|none=>False
   rw[e];show U _ [s0,some (.v (rowP jc)),some (.ow (.dt (L.map bk)) (L.map (vI f))),some (.own (T.map rowP)),a4,a5,a6,some (.v (rowP h)),a8,a9] n;subst hU;clear wl e cw
   have fz:∀(p:pS) (D:Q4),p D [s0,some (.v (rowP jc)),some (.ow (.dt (L.map bk)) (L.map (vI f))),some (.own (T.map rowP)),a4,some (.v (.lst (plP P))),a6,some (.v (rowP h)),a8,a9] n->v5 5 p D [s0,some (.v (rowP jc)),some (.ow (.dt (L.map bk)) (L.map (vI f))),some (.own (T.map rowP)),a4,a5,a6,some (.v (rowP h)),a8,a9] n:=λp D q=>by
    rcases h5 with rfl|rfl <;> exact q
   refine fz _ _ ?_;clear fz h5;generalize hW:rowP jc=W at *;show forL _ _ _ (plP P) _ _;refine K9 (λj env m=>∃(gr:List (List Str)) (a6 a8 a9:Option Pu.Slot),env=[s0,some (.v W),some (.ow (.dt ((L++gr).map bk)) ((L++gr).map (vI f))),some (.own ((T++gr).map rowP)),a4,some (.v (.lst (plP P))),a6,some (.v (rowP h)),a8,a9]/\Iq jc f P L h j gr/\m=n) _ 0 _ _ ⟨[],a6,a8,a9,by rw[Q8,Q8],⟨by rw[Q8];exact v.nd,nofun,nofun⟩,rfl⟩ (λj x env m N ex hI hN=>?_) (λenv m hI=>?_)
   ·obtain⟨y,ey,rfl⟩:=V0 (f:=λy:Nat×Nat=>pr y.1 y.2) ex;obtain⟨gr,c6,c8,c9,rfl,ig,rfl⟩:=hI;rw[F2] at ig hN;obtain⟨ok,hq⟩:=(hP y.1 y.2).mp (J9 ey);have lt:=V8 ok;have mx:=λ(R:PV->Nat->Prop) q=>Iy (f:=h) (i:=y.1) (j:=y.2) (n:=m) (R:=R) (by omega) (by omega) q;have kr:=M8 h;have ka:=M8 (exch h y.1 y.2);have gv:=Q5 (f:=f) (show h∈L++gr from N8 _ hL);have md:=MN (r:=exch h y.1 y.2) (L:=L++gr);have al:=o.le ig.nd λst hs=>(E5.mp hs).elim (λz=>v.pm st z) λz=>(ig.pm st z).1;rw[D6] at al;rw[L8] at hc;have l1:((L++gr).map bk).length=((L++gr).map (vI f)).length:=by rw[B1,B1]
    have l2:((L++gr).map (vI f)).length<1000000:=by rw[B1,D6];omega
    have l3:((T++gr).map rowP).length<1000000:=by rw[B1,D6];omega
    clear nx ex
    by_cases ci:exch h y.1 y.2∈L++gr
    ·have ig':=ig.skip ey ci;rw[ju ci] at md;generalize hK:(L++gr).map bk=KK at *;generalize hV:(L++gr).map (vI f)=VV at *;generalize hG:(T++gr).map rowP=GG at *;generalize plP P=PP at *;refine⟨rfl,?_⟩;dsimp only[gCn,gN,gNl,List.set];refine D2 λV hV=>?_;walk_at "pu";refine mx _ ?_;subst hV;walk_at "pu";rw[ka];dsimp only;rw[md];exact⟨l1,if_f rfl (hN _ _ ⟨gr,_,_,_,by rw[hK,hV,hG],ig',rfl⟩)⟩
    ·obtain⟨fa,ig'⟩:=ig.put F hP v ey ci;rw[jv ci] at md;have pk:=IH ci;have px:=II (f:=f) (x:=.int ((f h:Nat)+1)) ci (by unfold vI;rw[fa];rfl);rw[O9] at pk px;have eg:(T++gr).map rowP++[rowP (exch h y.1 y.2)]=(T++(gr++[exch h y.1 y.2])).map rowP:=by simp only[J8,O9];rfl
     generalize hK:(L++gr).map bk=KK at *;generalize hV:(L++gr).map (vI f)=VV at *;generalize hG:(T++gr).map rowP=GG at *;generalize plP P=PP at *;refine⟨rfl,?_⟩;dsimp only[gCn,gN,gNl,List.set];refine D2 λV hV=>?_;walk_at "pu";refine mx _ ?_;subst hV;walk_at "pu";rw[ka];dsimp only;rw[md];refine⟨l1,if_t rfl ⟨⟨_,_,rfl⟩,?_⟩⟩;rw[kr];dsimp only;refine⟨l1,?_⟩;rw[gv];dsimp only[vI];refine⟨⟨_,_,rfl⟩,l1,l2,⟨_,rfl⟩,l3,?_⟩;rw[pk,px,eg];exact hN _ _ ⟨_,_,_,_,rfl,ig',rfl⟩
   ·obtain⟨gr,c6,c8,c9,rfl,ig,rfl⟩:=hI;rw[F2,B1] at ig;exact nx _ _ _ _ _ _ (ig.qv v) (by rw[D6,D6];rw[L8] at hc;omega)
theorem Tc {s r n:Nat}{jc:List Str}{f:List Str->Nat}{O:List (List Str)}{R:PV->Nat->Prop}(M:Mt s r jc.length)(F:Dst s r jc f)(o:Ord jc O)(h:∀L:List (List Str),L.Nodup->(∀st,st∈L↔st.Perm jc)->R (.fdt (L.map bk) (L.map (vI f))) n):Io [mtP s r,rowP jc] n R:=by
 refine⟨rfl,?_⟩;unfold Mn;have n5:=M.n5;have Ol:(jc.map PV.str).length=jc.length:=B1 ..;have ko:=M8 jc;have z0:Qv jc f (LPn s r jc.length) [jc] [jc]:=⟨by simp,λst hs=>by rw[E3.mp hs],λst hs=>hs,by simp,λa ha b hb=>by have:=E3.mp ha;have:=E3.mp hb;subst a b;exact P2 _,λst hs no=>absurd hs no,by simp⟩;have mw:=λD s0 a4 a6 a7 a8 a9 hD=>Ta (n:=n) (D:=D) (s0:=s0) (a4:=a4) F o lp_mem hD 120 0 [jc] [jc] _ a6 a7 a8 a9 (.inl rfl) z0 rfl (by omega)
 have e0:([PV.int 0]:List PV)=[jc].map (vI f):=by
  show _=[PV.int (f jc:Nat)];rw[F.zero];rfl
 refine D2 λU hU=>?_;walk_at "pu";rw[ko,e0,Ol];dsimp only;generalize hV:[jc].map (vI f)=VV at *;subst hU;refine D2 λU hU=>?_;walk_at "pu";subst hU;refine D2 λU hU=>?_;walk_at "pu";refine⟨⟨by omega,by omega⟩,?_⟩;rw[R1];refine K9 (λi env m=>∃a6,env=[some (.v (mtP s r)),some (.v (rowP jc)),some (.ow (.dt [bk jc]) VV),some (.own [rowP jc]),some (.v (.int (jc.length:Nat))),some (.own (plP ((D1 i).flatMap (LPp s r jc.length)))),a6,none,none,none]/\((D1 i).flatMap (LPp s r jc.length)).length<=30*i/\m=n) _ 0 _ _ ⟨none,rfl,B7 _,rfl⟩ (λi x env m N ex hI hN=>?_) (λenv m hI=>?_)
 ·obtain⟨hi,rfl⟩:=o6 ex;obtain⟨a6,rfl,hl,rfl⟩:=hI;rw[F2] at hl hN ⊢;rw[Int.zero_add]
  have lp:(LPp s r jc.length i).length<=30:=by
   unfold LPp;rw[B1];refine G8 (CL ..) ?_;rw[B1,AL];omega
  have ej:(D1 (jc.length-(i+1))).map (λj:Nat=>PV.int ((i:Int)+1+j))=((D1 (jc.length-(i+1))).map λj=>i+1+j).map pinN:=by
   rw[i5]
   rfl
  have Fl:(plP ((D1 i).flatMap (LPp s r jc.length))).length=((D1 i).flatMap (LPp s r jc.length)).length:=B1 ..;have ea:plP ((D1 i).flatMap (LPp s r jc.length))++plP (LPp s r jc.length i)=plP ((D1 (i+1)).flatMap (LPp s r jc.length)):=by rw[Dx,plP,plP,<- J8]
  generalize hF:plP ((D1 i).flatMap (LPp s r jc.length))=FF at *;walk_at "pu";refine⟨⟨_,rfl⟩,⟨by omega,by omega,by omega,by omega⟩,by rw[o7];omega,?_⟩;rw[show((jc.length:Int)-((i:Int)+1)).toNat=jc.length-(i+1) by omega,ej];refine SZ M.s1 M.s8 M.r7 (by omega) _ _ (λj hj=>?_) ?_
  ·obtain⟨a,ha,rfl⟩:=J7.mp hj;have:=P1.mp ha;omega
  ·show FF.length+(plP (LPp s r jc.length i)).length<=1000000/\N [_,_,_,_,_,some (.own (FF++plP (LPp s r jc.length i))),_,_,_,_] _;rw[ea];exact⟨by rw[B1];omega,hN _ _ ⟨_,rfl,by rw[Dx,D6];omega,rfl⟩⟩
 ·obtain⟨a6,rfl,hl,rfl⟩:=hI;rw[o7,F2];dsimp only;subst hU;refine D2 λU hU=>⟨_,mw _ _ _ _ _ _ _ λL a3 a5 a6 a7 a8 a9 nd all=>?_⟩;have l1:(L.map bk).length=(L.map (vI f)).length:=by rw[B1,B1]
  have:=h L nd all;subst hU;generalize L.map bk=KK at *;generalize L.map (vI f)=VV at *;walk_at "pu";exact⟨l1,this⟩
def ordF (L:List Str):Nat->List (List Str)
 |0=>[[]]
 |k+1=>(ordF L k).flatMap λx=>(L.filter λb=>decide (b∉x)).map λb=>x++[b]
theorem DR {L:List Str}(nd:L.Nodup):∀k,(ordF L k).Nodup/\(∀x,x∈ordF L k↔x.Nodup/\x.length=k/\∀b∈x,b∈L)
 | 0 => ⟨by unfold ordF; simp, fun x => by
  unfold ordF;rw[E3]
  exact⟨λe=>by rw[e];exact⟨Bx,rfl,nofun⟩,λh=>AI h.2.1⟩⟩
 | k + 1 => by
  obtain⟨h1,h2⟩:=DR nd k;refine⟨?_,λx=>?_⟩
  ·unfold ordF;refine List.pairwise_flatMap.mpr ⟨λx hx=>HA _ (nd.sublist List.filter_sublist) λa _ b _ e=>by simpa using e,?_⟩;refine List.Pairwise.imp ?_ h1;intro a b ne x ha y hb e;obtain⟨u,_,rfl⟩:=J7.mp ha;obtain⟨v,_,rfl⟩:=J7.mp hb;exact ne (List.append_inj_left' e rfl)
  ·unfold ordF;rw[Ee];constructor
   ·rintro⟨y,hy,h⟩;obtain⟨b,hb,rfl⟩:=J7.mp h;obtain⟨y1,y2,y3⟩:=(h2 y).mp hy;obtain⟨b1,b2⟩:=O5.mp hb;refine⟨Y5.mpr ⟨y1,by simp,λa h c hc e=>jz b2 (by rw[<- E3.mp hc,<- e];exact h)⟩,by rw[D6,y2];rfl,λc hc=>(E5.mp hc).elim (y3 c) λz=>by rw[E3.mp z];exact b1⟩
   ·rintro⟨x1,x2,x3⟩;have ne:x≠[]:=λz=>by rw[z] at x2;cases x2
    have e:=List.dropLast_concat_getLast ne;rw[<- e] at x1;obtain⟨n1,_,n3⟩:=Y5.mp x1;refine⟨x.dropLast,(h2 _).mpr ⟨n1,by rw[List.length_dropLast];omega,λb hb=>x3 b (List.dropLast_subset x hb)⟩,J7.mpr ⟨x.getLast ne,O5.mpr ⟨x3 _ (List.getLast_mem ne),ju λz=>n3 _ z _ (by simp) rfl⟩,e⟩⟩
theorem MQ {L:List Str}(nd:L.Nodup)(h5:L.length<=5):∀k,k<=5->(ordF L k).length<=[1,5,20,60,120,120].getD k 0
 |0,_=>B7 _
 | k + 1, hk => by
  have ih:=MQ nd h5 k (by omega)
  have one:∀x∈ordF L k,((L.filter λb=>decide (b∉x)).map λb=>x++[b]).length<=5-k:=λx hx=>by
   obtain⟨x1,x2,x3⟩:=((DR nd k).2 x).mp hx;rw[B1]
   have:(x++L.filter λb=>decide (b∉x)).Nodup:=Y5.mpr ⟨x1,nd.sublist List.filter_sublist,λa ha b hb e=>by
    have:=jz (O5.mp hb).2;rw[<- e] at this
    exact this ha⟩
   have:=this.length_le_of_subset (l₂:=L) λb hb=>(E5.mp hb).elim (x3 b) λz=>(O5.mp z).1;rw[D6,x2] at this;omega
  have sum:∀M:List (List Str),(∀x∈M,x∈ordF L k)->(M.flatMap λx=>(L.filter λb=>decide (b∉x)).map λb=>x++[b]).length<=M.length*(5-k):=λM=>by
   induction M with
   |nil=>exact λ_=>M5 _
   | cons x M ih =>
    intro h;have a:=one x (h x C6);have b:=ih λy hy=>h y (C9 _ hy);rw[CO,D6,L8,Nat.succ_mul];omega
  have s:=sum (ordF L k) λ_ h=>h;have m:=Nat.mul_le_mul_right (5-k) ih;unfold ordF;refine G8 (G8 s m) ?_;rcases(show k=0\/k=1\/k=2\/k=3\/k=4 by omega) with rfl|rfl|rfl|rfl|rfl <;> decide
theorem IJ {L:List Str}(nd:L.Nodup)(h5:L.length<=5)(k:Nat)(hk:k<=5):(ordF L k).length<=120:=by
 refine G8 (MQ nd h5 k hk) ?_;rcases(show k=0\/k=1\/k=2\/k=3\/k=4\/k=5 by omega) with rfl|rfl|rfl|rfl|rfl|rfl <;> decide
theorem IK {L jc:List Str}(pm:L.Perm jc)(nd:jc.Nodup)(h5:jc.length<=5):Ord jc (ordF L L.length):=by
 have ndL:=pm.nodup_iff.mpr nd;have l:=pm.length_eq;obtain⟨h1,h2⟩:=DR ndL L.length;refine⟨h1,λst=>?_,IJ ndL (by omega) _ (by omega)⟩;rw[h2];constructor
 ·rintro⟨s1,s2,s3⟩;refine List.Perm.trans ((List.perm_ext_iff_of_nodup s1 ndL).mpr λa=>⟨s3 a,λha=>?_⟩) pm
  apply i8
  intro no;have:=(P0.mpr ⟨no,s1⟩).length_le_of_subset (l₂:=L) λz hz=>(C8.mp hz).elim (λe=>by rw[e];exact ha) (s3 z);rw[L8] at this;omega
 ·intro p;exact⟨p.nodup_iff.mpr nd,by rw[p.length_eq,l],λb hb=>pm.mem_iff.mpr (p.mem_iff.mp hb)⟩
theorem Td {x:List Str}{s2:Option Pu.Slot}{n:Nat}{R:List PV->Pu.Env->Nat->Prop}(hx:x.length<=1000):∀(bs:List Str) (s1:Option Pu.Slot),(∀s1,R (((bs.filter λb=>decide (b∉x)).map λb=>x++[b]).map rowP) [some (.v (rowP x)),s1,s2] n)->
   U9 (gN 1) (qB (qOp (wIn 4 true) (qV 1) (qV 0))) (qOp wAdd (qV 0) (qTup (A1 (qV 1) qNil))) (bs.map PV.str) [some (.v (rowP x)),s1,s2] n R:=by
 intro bs
 induction bs generalizing R with
 |nil=>exact λs1 h=>h s1
 | cons b bs ih =>
  intro s1 h;rw[y7] at h;have ih':=λR s1 q=>ih (R:=R) s1 q;clear ih;rw[J5,U9];generalize bs.map PV.str=BS at *;walk_at "pu";refine Hz rfl ?_;dsimp only
  by_cases c:b∈x
  ·rw[jy (by simpa using c)] at h;exact if_f (by rw[ju c];rfl) (ih' _ _ h)
  ·rw[jw (ju c)] at h;refine if_t (by rw[jv c];rfl) ⟨by rw[B1];omega,?_⟩;have e:x.map PV.str++[PV.str b]=(x++[b]).map PV.str:=by rw[J8];rfl
   rw[e];exact ih' (λys env m=>R (rowP (x++[b])::ys) env m) _ h
theorem Te {L:List Str}(hL:L.length<=1000){n:Nat}{R:List PV->Nat->Prop}:∀(M:List (List Str)) (s0 s1:Option Pu.Slot),(∀x∈M,x.length<=1000)->R ((M.flatMap λx=>(L.filter λb=>decide (b∉x)).map λb=>x++[b]).map rowP) n->
   Bf (gN 0) (qIl (qV 2)) (gN 1) (qB (qOp (wIn 4 true) (qV 1) (qV 0))) (qOp wAdd (qV 0) (qTup (A1 (qV 1) qNil))) (M.map rowP) [s0,s1,some (.v (.lst (L.map PV.str)))] n R:=by
 intro M
 induction M generalizing R with
 |nil=>exact λs0 s1 _ h=>h
 | cons x M ih =>
  intro s0 s1 hM h;rw[CO,J8] at h;refine⟨by rw[B1];exact hL,Td (hM x C6) L _ λs1=>?_⟩;exact ih (R:=λys m=>R (_++ys) m) _ _ (λy hy=>hM y (C9 _ hy)) h
theorem MR {L:List Str}{n:Nat}{R:PV->Nat->Prop}(nd:L.Nodup)(h5:L.length<=5)(h:R (.lst ((ordF L L.length).map rowP)) n):Fo [.lst (L.map PV.str)] n R:=by
 refine⟨rfl,?_⟩;unfold LP;have Ll:(L.map PV.str).length=L.length:=B1 ..;have cl:=λ(M:List (List Str)) (R:List PV->Nat->Prop) s0 s1 hM q=>Te (L:=L) (n:=n) (R:=R) (by omega) M s0 s1 hM q;generalize hZ:L.map PV.str=Z at *;refine D2 λU hU=>?_;walk_at "pu";subst hU;refine D2 λU hU=>?_;walk_at "pu";refine⟨⟨by omega,by omega⟩,?_⟩;rw[R1,Ll];refine K9 (λi env m=>∃a2,env=[some (.v (.lst Z)),some (.v (.lst ((ordF L i).map rowP))),a2]/\m=n) _ 0 _ _ ⟨none,rfl,rfl⟩ (λi x env m N ex hI hN=>?_) (λenv m hI=>?_)
 ·obtain⟨hi,rfl⟩:=o6 ex;obtain⟨a2,rfl,rfl⟩:=hI;rw[F2] at hN ⊢;have ml:=IJ nd h5 i (by omega);have Ml:((ordF L i).map rowP).length=(ordF L i).length:=B1 ..;have cc:=λR s0 s1 q=>cl (ordF L i) R s0 s1 (λx hx=>by rw[(((DR nd i).2 x).mp hx).2.1];omega) q;generalize hX:(ordF L i).map rowP=X at *;walk_at "pu";exact⟨by omega,cc _ _ _ (hN _ _ ⟨_,rfl,rfl⟩)⟩
 ·obtain⟨a2,rfl,rfl⟩:=hI;rw[o7,F2];dsimp only;subst hU;generalize (ordF L L.length).map rowP=X at *;walk_at "pu";exact h
theorem Tf {x:List Str}{n:Nat}{R:List PV->Nat->Prop}(hx:x.length<=1000):∀(bs:List Str) (s1:Option Pu.Slot),R (((bs.filter λb=>decide (b∉x)).map λb=>x++[b]).map rowP) n->
   Q3 (gN 0) (qB (qOp (wIn 4 true) (qV 0) (qV 1))) (qOp wAdd (qV 1) (qTup (A1 (qV 0) qNil))) (bs.map PV.str) [s1,some (.v (rowP x))] n R:=by
 intro bs
 induction bs generalizing R with
 |nil=>exact λs1 h=>h
 | cons b bs ih =>
  intro s1 h;rw[y7] at h;have ih':=λR s1 q=>ih (R:=R) s1 q;clear ih;rw[J5,Q3];generalize bs.map PV.str=BS at *;walk_at "pu";refine Hz rfl ?_;dsimp only
  by_cases c:b∈x
  ·rw[jy (by simpa using c)] at h;exact if_f (by rw[ju c];rfl) (ih' _ _ h)
  ·rw[jw (ju c)] at h;refine if_t (by rw[jv c];rfl) ⟨by rw[B1];omega,?_⟩;have e:x.map PV.str++[PV.str b]=(x++[b]).map PV.str:=by rw[J8];rfl
   rw[e];exact ih' (λys m=>R (rowP (x++[b])::ys) m) _ h
theorem Tg {L:List Str}{n:Nat}{R:PV->Nat->Prop}(nd:L.Nodup)(h5:L.length<=5)(h:R (.lst ((ordF L L.length).map rowP)) n):Ik [.lst (L.map PV.str)] n R:=by
 refine⟨rfl,?_⟩;unfold Md;have Ll:(L.map PV.str).length=L.length:=B1 ..;have cl:=λ(x:List Str) (R:List PV->Nat->Prop) s1 hx q=>Tf (x:=x) (n:=n) (R:=R) hx L s1 q;generalize hZ:L.map PV.str=Z at *;refine D2 λU hU=>?_;walk_at "pu";subst hU;refine D2 λU hU=>?_;walk_at "pu";refine⟨⟨by omega,by omega⟩,?_⟩;rw[R1,Ll];refine K9 (λi env m=>∃a2 a3 a4,env=[some (.v (.lst Z)),some (.v (.lst ((ordF L i).map rowP))),a2,a3,a4]/\m=n) _ 0 _ _ ⟨none,none,none,rfl,rfl⟩ (λi x env m N ex hI hN=>?_) (λenv m hI=>?_)
 ·obtain⟨hi,rfl⟩:=o6 ex;obtain⟨a2,a3,a4,rfl,rfl⟩:=hI;rw[F2] at hN ⊢;have ml:=IJ nd h5 i (by omega);have xl:∀x∈ordF L i,x.length<=1000:=λx hx=>by rw[(((DR nd i).2 x).mp hx).2.1];omega
  have hn:((ordF L i).flatMap λx=>(L.filter λb=>decide (b∉x)).map λb=>x++[b])=ordF L (i+1):=rfl;refine D2 λV hV=>?_;generalize hX:(ordF L i).map rowP=X at *;walk_at "pu";subst hV;refine D2 λV hV=>?_;walk_at "pu";rw[<- hX];refine K9 (λj env m'=>∃a4,env=[some (.v (.lst Z)),some (.v (.lst X)),some (.v (.int (0+i))),some (.own ((((ordF L i).take j).flatMap λx=>(L.filter λb=>decide (b∉x)).map λb=>x++[b]).map rowP)),a4]/\m'=m) _ 0 _ _ ⟨a4,by rw[hX];rfl,rfl⟩ (λj x env m' N' ex' hI hN'=>?_) (λenv m' hI=>?_)
  ·obtain⟨y,ey,rfl⟩:=V0 (f:=rowP) ex';obtain⟨a4,rfl,rfl⟩:=hI;rw[F2] at hN' ⊢;have yl:=xl y (J9 ey)
   have bl:∀k,(((ordF L i).take k).flatMap λx=>(L.filter λb=>decide (b∉x)).map λb=>x++[b]).length<=5*k:=λk=>by
    induction k with
    |zero=>exact B7 _
    | succ k ih =>
     by_cases c:k<(ordF L i).length
     ·rw[O7 (D7 c),FS,D6,CO,List.flatMap_nil,Q8,B1];have:=CL (λb=>decide (b∉(ordF L i)[k])) L;omega
     ·rw[T0 (by omega)];rw[T0 (by omega)] at ih;omega
   have b1:=bl j;have jl:j<(ordF L i).length:=(E6.mp ey).1;have b2:=CL (λb=>decide (b∉y)) L
   have en:(((ordF L i).take j).flatMap λx=>(L.filter λb=>decide (b∉x)).map λb=>x++[b]).map rowP++((L.filter λb=>decide (b∉y)).map λb=>y++[b]).map rowP=(((ordF L i).take (j+1)).flatMap λx=>(L.filter λb=>decide (b∉x)).map λb=>x++[b]).map rowP:=by
    rw[O7 ey,FS,J8,CO,List.flatMap_nil,Q8]
   have l1:((((ordF L i).take j).flatMap λx=>(L.filter λb=>decide (b∉x)).map λb=>x++[b]).map rowP).length<=600:=by rw[B1];omega
   generalize (((ordF L i).take j).flatMap λx=>(L.filter λb=>decide (b∉x)).map λb=>x++[b]).map rowP=Y at *;clear hX bl hn;generalize hR:rowP y=RR at *;walk_at "pu";rw[<- hR];refine⟨⟨_,rfl⟩,by omega,cl y _ _ yl ⟨by rw[B1,B1];omega,?_⟩⟩;rw[en];exact hN' _ _ ⟨_,by rw[hR],rfl⟩
  ·obtain⟨a4,rfl,rfl⟩:=hI;rw[F2,B1,Y7,hn];subst hV;have:=hN [some (.v (.lst Z)),some (.v (.lst ((ordF L (i+1)).map rowP))),some (.v (.int (0+i))),some (.v (.lst ((ordF L (i+1)).map rowP))),a4] m' ⟨_,_,_,rfl,rfl⟩;generalize (ordF L (i+1)).map rowP=Y at *;walk_at "pu";exact this
 ·obtain⟨a2,a3,a4,rfl,rfl⟩:=hI;rw[o7,F2];dsimp only;subst hU;generalize (ordF L L.length).map rowP=X at *;walk_at "pu";exact h
abbrev fdP (f:List Str->Nat)(L:List (List Str)):PV:=.fdt (L.map bk) (L.map (vI f))
theorem Th {s r n:Nat}{jc st:List Str}{f:List Str->Nat}{L:List (List Str)}(hL:∀st,st∈L↔st.Perm jc)(pm:st.Perm jc){R:List PV->Nat->Prop}:∀(Q:List (Nat×Nat)) (s0:Option Pu.Slot),(∀y∈Q,okP s r y.1 y.2=true/\y.2<jc.length)->R (plP (Q.filter λy=>decide (f (exch st y.1 y.2)<f st))) n->
   Q3 (gN 0) (qB (qOp wLt (qIxT (qV 1) (B6 T7 (A1 (qV 2) (A1 (qOp wIx (qV 0) (qC (.int 0))) (A1 (qOp wIx (qV 0) (qC (.int 1))) qNil))))) (qIxT (qV 1) (qV 2)))) (qV 0) (plP Q) [s0,some (.v (fdP f L)),some (.v (rowP st))] n R:=by
 intro Q
 induction Q generalizing R with
 |nil=>exact λs0 _ h=>h
 | cons y Q ih =>
  intro s0 hq h;rw[y7] at h;have ih':=λR s1 q=>ih (R:=R) s1 (λz hz=>hq z (C9 _ hz)) q;clear ih;obtain⟨ok,ql⟩:=hq y C6;have lt:=V8 ok;have sl:=pm.length_eq;have mx:=λ(R:PV->Nat->Prop) q=>Bl (f:=st) (i:=y.1) (j:=y.2) (n:=n) (R:=R) (by omega) (by omega) q;have ka:=M8 (exch st y.1 y.2);have ks:=M8 st;have g1:=Q5 (f:=f) ((hL _).mpr (T8 pm ok ql).1);have g2:=Q5 (f:=f) ((hL st).mpr pm);rw[plP,J5,Q3]
  change ∀R s1 q,Q3 _ _ _ (Q.map λy=>pr y.1 y.2) _ _ _ at ih'
  generalize hX:(Q.map λy=>pr y.1 y.2)=X at *;walk_at "pu";refine mx _ ?_;dsimp only;rw[ka];dsimp only;rw[g1];dsimp only;rw[ks];dsimp only;rw[g2];dsimp only[vI];rw[show decide (((f (exch st y.1 y.2):Nat):Int)<((f st:Nat):Int))=decide (f (exch st y.1 y.2)<f st) from decide_eq_decide.mpr (by omega)]
  by_cases c:f (exch st y.1 y.2)<f st
  ·rw[ju c] at h ⊢;exact if_t rfl (ih' (λys m=>R (pr y.1 y.2::ys) m) _ h)
  ·rw[jv c] at h ⊢;exact if_f rfl (ih' _ _ h)
abbrev bodyT:pS:=(qSeq (qSet 6 (qL (O2 [none,some 2,some 4] (qIt (qV 3)) (gN 0) (qB (qOp wLt (qIxT (qV 1) (B6 T7 (A1 (qV 2) (A1 (qOp wIx (qV 0) (qC (.int 0))) (A1 (qOp wIx (qV 0) (qC (.int 1))) qNil))))) (qIxT (qV 1) (qV 2)))) (qV 0))))
   (qSeq (qAsg (qOp wIx (qV 6) (qC (.int 0))) (gTp 2 (gCn (gN 7) (gCn (gN 8) gNl))))
   (qSeq (O6 (n6 5 (qTup (A1 (qOp wIx (qV 4) (qV 8)) (A1 (qOp wIx (qV 4) (qV 7)) qNil)))))
   (qSet 4 (B6 T7 (A1 (qV 4) (A1 (qV 7) (A1 (qV 8) qNil))))))))
structure Wy (s r:Nat)(row jc st:List Str)(f:List Str->Nat)(ps:List (Str×Str)):Prop where
 pm:st.Perm jc
 ld:led s r row ps=some st
 nu:ps.length+f st=f row
 mm:∀p∈ps,p.1∈jc/\p.2∈jc
theorem Ti {s r n:Nat}{row jc:List Str}{f:List Str->Nat}{L O:List (List Str)}(M:Mt s r jc.length)(nd:jc.Nodup)(F:Dst s r jc f)(o:Ord jc O)(pr':row.Perm jc)(hL:∀st,st∈L↔st.Perm jc){D:Q4}{s0 s1:Option Pu.Slot}(hD:∀a6 a7 a8 ps,Wy s r row jc jc f ps->D.nx [s0,s1,some (.v (fdP f L)),some (.v (.tup (plP (TPn s r jc.length)))),some (.v (rowP jc)),some (.own (ps.map prS)),a6,a7,a8] n):∀(k:Nat) (st:List Str) (ps:List (Str×Str)) (a6 a7 a8:Option Pu.Slot),f st=k->Wy s r row jc st f ps->
   N5 (qB (qOp wGt (qIxT (qV 2) (qV 4)) (qC (.int 0)))) bodyT D (k+1) [s0,s1,some (.v (fdP f L)),some (.v (.tup (plP (TPn s r jc.length)))),some (.v (rowP st)),some (.own (ps.map prS)),a6,a7,a8] n:=by
 intro k
 induction k with
 | zero =>
  intro st ps a6 a7 a8 e w;have z:=F.eq0 w.pm e;subst z;have ks:=M8 st;have g2:=Q5 (f:=f) ((hL st).mpr w.pm);have hd:=hD a6 a7 a8 ps w;rw[N5];generalize plP (TPn s r st.length)=PP at *;generalize ps.map prS=QQ at *;walk_at "pu";rw[ks];dsimp only;rw[g2];dsimp only[vI];rw[e];exact if_f rfl hd
 | succ k ih =>
  intro st ps a6 a7 a8 e w;have sl:=w.pm.length_eq;have jt:=w.pm.nodup_iff.mpr nd;obtain⟨p0,q0,o1,o2,o3⟩:=F.down st w.pm λz=>by rw[z,F.zero] at e;cases e
  have tp:=(Bk M).2;have cn:=λR s0 q=>Th (f:=f) (n:=n) hL w.pm (R:=R) (TPn s r jc.length) s0 (λy hy=>(tp y.1 y.2).mp hy) q;have tl:=(Bk M).1
  have ne:(TPn s r jc.length).filter (λy=>decide (f (exch st y.1 y.2)<f st))≠[]:=λz=>by
   have:=FP.mp z (p0,q0) ((tp p0 q0).mpr ⟨o1,o2⟩);simp at this;omega
  obtain⟨y,Y,hY⟩:∃y Y,(TPn s r jc.length).filter (λy=>decide (f (exch st y.1 y.2)<f st))=y::Y:=by
   cases h:(TPn s r jc.length).filter (λy=>decide (f (exch st y.1 y.2)<f st)) with
   |nil=>exact absurd h ne
   |cons y Y=>exact⟨y,Y,rfl⟩
  have ym:y∈(TPn s r jc.length).filter (λy=>decide (f (exch st y.1 y.2)<f st)):=by rw[hY];exact C6
  obtain⟨ym,yl⟩:=O5.mp ym;have yl:f (exch st y.1 y.2)<f st:=jz yl;obtain⟨ok,hq⟩:=(tp y.1 y.2).mp ym;have lt:=V8 ok
  have fe:f (exch st y.1 y.2)=k:=by
   have:=F.back w.pm ok hq;omega
  have w':Wy s r row jc (exch st y.1 y.2) f (ps++[(nm st y.2,nm st y.1)]):=by
   refine⟨(T8 w.pm ok hq).1,?_,?_,λp hp=>?_⟩
   ·rw[DQ ps row st _ w.ld];dsimp only;rw[Lf jt (by omega),Lf jt (by omega),jw ok]
   ·have:=w.nu;rw[D6,t9];omega
   ·rcases E5.mp hp with hp|hp
    ·exact w.mm p hp
    ·rw[E3.mp hp];exact⟨w.pm.mem_iff.mp (V7 (by omega)),w.pm.mem_iff.mp (V7 (by omega))⟩
  have nx:=λa6 a7 a8=>ih (exch st y.1 y.2) _ a6 a7 a8 fe w';clear ih
  have pl:ps.length<=1000:=by
   have:=w.nu;have:=F.lt o pr';have:=o.len;omega
  have Pl:(ps.map prS).length=ps.length:=B1 ..;have ep:ps.map prS++[.tup [.str (nm st y.2),.str (nm st y.1)]]=(ps++[(nm st y.2,nm st y.1)]).map prS:=by rw[J8];rfl
  have ks:=M8 st;have g2:=Q5 (f:=f) ((hL st).mpr w.pm);have mx:=λ(R:PV->Nat->Prop) q=>Bl (f:=st) (i:=y.1) (j:=y.2) (n:=n) (R:=R) (by omega) (by omega) q;have a1:atI (st.map PV.str) (y.1:Int)=some (.str (nm st y.1)):=Bj rfl (by omega);have a2:atI (st.map PV.str) (y.2:Int)=some (.str (nm st y.2)):=Bj rfl (by omega);rw[N5];rw[hY] at cn;have tl2:(plP (TPn s r jc.length)).length<=10:=by rw[B1];exact tl
  generalize hT:plP (TPn s r jc.length)=PP at *;generalize ps.map prS=QQ at *;walk_at "pu";rw[ks];dsimp only;rw[g2];dsimp only[vI];refine if_t (ju (by omega)) ?_;refine D2 λU hU=>?_;walk_at "pu";refine⟨by omega,cn _ _ ?_⟩;generalize hYY:plP (y::Y)=YY at *;subst hU;refine D2 λU hU=>?_;walk_at "pu";have a0:atI YY 0=some (pr y.1 y.2):=by rw[<- hYY];exact Di (j:=0) rfl
  rw[a0];dsimp only;refine⟨rfl,?_⟩;subst hU;refine D2 λU hU=>?_;walk_at "pu";rw[a2];dsimp only;rw[a1];dsimp only;refine⟨⟨_,rfl⟩,by omega,?_⟩;rw[ep];subst hU;generalize (ps++[(nm st y.2,nm st y.1)]).map prS=QQ2 at *;walk_at "pu";exact mx _ (nx _ _ _)
theorem m_tnum {s r n:Nat}{row jc:List Str}{f:List Str->Nat}{L O:List (List Str)}{R:PV->Nat->Prop}(M:Mt s r jc.length)(nd:jc.Nodup)(F:Dst s r jc f)(o:Ord jc O)(pm:row.Perm jc)(hL:∀st,st∈L↔st.Perm jc)(h:∀ps,Wy s r row jc jc f ps->R (.tup (ps.map prS)) n):HW [mtP s r,rowP row,fdP f L] n R:=by
 refine⟨rfl,?_⟩;unfold LJ;have rl:=pm.length_eq;have mt:∀{R:PV->Nat->Prop},R (.tup (TP s r jc.length)) n->p5 [.tup [.int s,.int r],.int (jc.length:Nat)] n R:=λq=>Fx M.s1 M.s8 M.r7 M.n1 (by have:=M.n5;omega) q;rw[TP_n] at mt;have Ol:(row.map PV.str).length=jc.length:=by rw[B1,rl]
 have mw:=λD s0 s1 hD=>Ti (n:=n) (D:=D) (s0:=s0) (s1:=s1) M nd F o pm hL hD (f row) row [] none none none rfl ⟨pm,rfl,(by show 0+_=_;omega),nofun⟩;refine D2 λU hU=>?_;walk_at "pu";rw[Ol];refine mt ?_;subst hU;refine D2 λU hU=>?_;walk_at "pu";subst hU;refine D2 λU hU=>?_;walk_at "pu";subst hU;refine D2 λU hU=>⟨_,mw _ _ _ λa6 a7 a8 ps w=>?_⟩;have:=h ps w;subst hU;generalize ps.map prS=QQ at *;generalize plP (TPn s r jc.length)=PP at *;walk_at "pu";exact this
theorem FD {α:Type}(xs:List α)(f:α->Bool):u8 (xs.map λx=>PV.bl (f x))=some (xs.map f):=by
 rw[<- GN (xs.map f),i5];rfl
theorem FE {α:Type}(xs:List α)(f:α->Bool):(xs.map f).all id=xs.all f:=by rw[CU];rfl
theorem IL:∀M:List (List Str),Cr (M.map rowP)=some (M.map bk)
 |[]=>rfl
 | x :: M => by
  show(match M4 (x.map PV.str),Cr (M.map rowP) with|some k,some ks=>some (k::ks)|_,_=>none)=_;rw[M8,IL M];rfl
theorem MS {g:List Str->Nat}:∀(M pre:List (List Str)),(pre++M).Nodup->((M.map bk).zip (M.map (vI g))).foldl putD (pre.map bk,pre.map (vI g))=((pre++M).map bk,(pre++M).map (vI g))
 |[],pre,_=>by rw[Q8];rfl
 | x :: M, pre, nd => by
  have ni:x∉pre:=λz=>(Y5.mp nd).2.2 x z x C6 rfl;have ih:=MS (g:=g) M (pre++[x]) (by rw[O9];exact nd);rw[O9] at ih;rw[J5,J5,AK,CT];show List.foldl putD (P4 (pre.map bk) (bk x),O3 (pre.map bk) (pre.map (vI g)) (bk x) (vI g x)) _=_;rw[IH ni,II ni rfl];exact ih
theorem MT {g:List Str->Nat}{M:List (List Str)}(nd:M.Nodup):dtF ((M.map bk).zip (M.map (vI g)))=(M.map bk,M.map (vI g)):=MS M [] nd
def Near (s r:Nat)(jc:List Str)(g:List Str->Nat)(x:List Str):Prop:=∀p q,okP s r p q=true->q<jc.length->g x<=g (exch x p q)+1/\g (exch x p q)<=g x+1
def Bm (g:List Str->Nat)(x:List Str)(y:Nat×Nat):Bool:=decide (g x<=g (exch x y.1 y.2)+1/\g (exch x y.1 y.2)<=g x+1)
theorem MU {a b:Nat}:decide ((if(a:Int)-b<0 then -((a:Int)-b) else(a:Int)-b)<=1)=decide (a<=b+1/\b<=a+1):=decide_eq_decide.mpr (by split <;> omega)
theorem Tj {s r n:Nat}{jc x:List Str}{g:List Str->Nat}{O:List (List Str)}{s4:Option Pu.Slot}(hO:∀st,st∈O↔st.Perm jc)(pm:x.Perm jc){R:List PV->Pu.Env->Nat->Prop}:∀(Q:List (Nat×Nat)) (s1 s2:Option Pu.Slot),(∀y∈Q,okP s r y.1 y.2=true/\y.2<jc.length)->(∀s1 s2,R ((Q.map (Bm g x)).map PV.bl) [some (.v (rowP x)),s1,s2,some (.v (fdP g O)),s4] n)->
   U9 (gTp 2 (gCn (gN 1) (gCn (gN 2) gNl))) qTru (qOp wLe (qUn wAbs (qOp wSub (qIxT (qV 3) (qV 0)) (qIxT (qV 3) (B6 T7 (A1 (qV 0) (A1 (qV 1) (A1 (qV 2) qNil))))))) (qC (.int 1))) (plP Q) [some (.v (rowP x)),s1,s2,some (.v (fdP g O)),s4] n R:=by
 intro Q
 induction Q generalizing R with
 |nil=>exact λs1 s2 _ h=>h s1 s2
 | cons y Q ih =>
  intro s1 s2 hq h;have ih':=λR s1 s2 q=>ih (R:=R) s1 s2 (λz hz=>hq z (C9 _ hz)) q;clear ih;obtain⟨ok,ql⟩:=hq y C6;have lt:=V8 ok;have sl:=pm.length_eq;have mx:=λ(R:PV->Nat->Prop) q=>Bl (f:=x) (i:=y.1) (j:=y.2) (n:=n) (R:=R) (by omega) (by omega) q;have ka:=M8 (exch x y.1 y.2);have ks:=M8 x;have g1:=Q5 (f:=g) ((hO _).mpr (T8 pm ok ql).1);have g2:=Q5 (f:=g) ((hO x).mpr pm);rw[plP,J5,U9]
  change ∀R s1 s2 q,U9 _ _ _ (Q.map λy=>pr y.1 y.2) _ _ _ at ih'
  generalize hX:(Q.map λy=>pr y.1 y.2)=X at *;refine⟨rfl,?_⟩;walk_at "pu";rw[ks];dsimp only;rw[g2];refine mx _ ?_;dsimp only;rw[ka];dsimp only;rw[g1];dsimp only[vI];rw[MU];exact ih' (λys e m=>R (PV.bl (Bm g x y)::ys) e m) _ _ h
theorem Tm {s r n:Nat}{jc:List Str}{g:List Str->Nat}{O:List (List Str)}{P:List (Nat×Nat)}(hP:∀y∈P,okP s r y.1 y.2=true/\y.2<jc.length)(pl:P.length<=10)(hO:∀st,st∈O↔st.Perm jc){R:List PV->Nat->Prop}:∀(M:List (List Str)) (s0 s1 s2:Option Pu.Slot),(∀x∈M,x∈O)->R ((M.flatMap λx=>P.map (Bm g x)).map PV.bl) n->
   Bf (gN 0) (qIt (qV 4)) (gTp 2 (gCn (gN 1) (gCn (gN 2) gNl))) qTru (qOp wLe (qUn wAbs (qOp wSub (qIxT (qV 3) (qV 0)) (qIxT (qV 3) (B6 T7 (A1 (qV 0) (A1 (qV 1) (A1 (qV 2) qNil))))))) (qC (.int 1))) (M.map rowP) [s0,s1,s2,some (.v (fdP g O)),some (.v (.tup (plP P)))] n R:=by
 intro M
 induction M generalizing R with
 |nil=>exact λs0 s1 s2 _ h=>h
 | cons x M ih =>
  intro s0 s1 s2 hM h;rw[CO,J8] at h;refine⟨by rw[B1];omega,Tj hO ((hO x).mp (hM x C6)) P _ _ hP λs1 s2=>?_⟩;exact ih (R:=λys m=>R (_++ys) m) _ _ _ (λy hy=>hM y (C9 _ hy)) h
def Good (s r:Nat)(row jc:List Str)(O:List (List Str))(k:Nat)(g:List Str->Nat):Prop:=g row=k/\g jc=0/\∀x∈O,Near s r jc g x
theorem Tn {k l n:Nat}{R:PV->Nat->Prop}(h:R (.bl (decide (k<=l))) n):DM [.int (k:Int),.int 0,.int (l:Int)] n R:=by
 refine⟨rfl,?_⟩;unfold Ib;walk_at "pu";refine if_t (ju (by omega)) ?_;rw[show decide ((k:Int)<=(l:Int))=decide (k<=l) from decide_eq_decide.mpr (by omega)];exact h
theorem gd1' {c:Bool}{P:Prop}(h:c=true)(p:P):grd c P:=by subst h;exact p
theorem Cy {k m:Nat}:decide ((k:Int)=(m:Int))=decide (k=m):=decide_eq_decide.mpr (by omega)
theorem ne_ii {a b:Nat}:(!eqP (.int (a:Int)) (.int (b:Int)))=!decide (a=b):=by rw[Bc,show decide ((a:Int)=(b:Int))=decide (a=b) from decide_eq_decide.mpr (by omega)]
theorem MV {s r k n:Nat}{row jc L:List Str}{g:List Str->Nat}{R:PV->Nat->Prop}(M:Mt s r jc.length)(nd:jc.Nodup)(pm:row.Perm jc)(hS:outS row=L)(pl:L.Perm row)(hT:(∀x∈ordF L L.length,g x<=(ordF L L.length).length)->Good s r row jc (ordF L L.length) k g->R (.bl true) n)(hF:¬((∀x∈ordF L L.length,g x<=(ordF L L.length).length)/\Good s r row jc (ordF L L.length) k g)->R (.bl false) n):Fs [mtP s r,rowP row,rowP jc,.int (k:Int),.tup ((ordF L L.length).map (vI g))] n R:=by
 refine⟨rfl,?_⟩;unfold LY;have n5:=M.n5;have rl:=pm.length_eq;have ll:=pl.length_eq;have o:=IK (pl.trans pm) nd n5;have ar:=λ(R:PV->Nat->Prop) q=>MR (n:=n) (R:=R) ((pl.trans pm).nodup_iff.mpr nd) (by omega) q;have Rl:(row.map PV.str).length=row.length:=B1 ..;have kr:=M8 row;have ko:=M8 jc;have mt:∀{R:PV->Nat->Prop},R (.tup (TP s r jc.length)) n->p5 [.tup [.int s,.int r],.int (jc.length:Nat)] n R:=λq=>Fx M.s1 M.s8 M.r7 M.n1 (by omega) q;rw[TP_n] at mt;have hr0:rowP row=.tup (row.map PV.str):=rfl;have hr1:rowP jc=.tup (jc.map PV.str):=rfl;generalize hO:ordF L L.length=O at *;have gr:=Q5 (f:=g) ((o.mem row).mpr pm);have go:=Q5 (f:=g) ((o.mem jc).mpr (.refl _));have dr:=MT (g:=g) o.nd;have kt:=IL O;have ol:=o.len;have l1:(O.map rowP).length=O.length:=B1 ..;have l2:(O.map (vI g)).length=O.length:=B1 ..;have l3:(O.map bk).length=O.length:=B1 ..;have tp:=(Bk M).2;have tl:=(Bk M).1;have ct:=λR s0 s1 s2 q=>Tm (n:=n) (g:=g) (R:=R) (P:=TPn s r jc.length) (λy hy=>(tp y.1 y.2).mp hy) tl o.mem O s0 s1 s2 (λ_ h=>h) q;refine D2 λU hU=>?_;rw[hr0,hr1];walk_at "pu";refine⟨row,rfl,by omega,?_⟩;rw[hS];refine ar _ ?_;subst hU;refine D2 λU hU=>?_;generalize hX:O.map rowP=X at *
 generalize hV:O.map (vI g)=VV at *;walk_at "pu";refine if_f (by rw[l1,l2];simp) ?_;subst hU;refine D2 λU hU=>?_;walk_at "pu";refine⟨by omega,?_⟩;rw[<- hV];refine Ax (vI g) (λx=>PV.bl (decide (g x<=O.length))) O _ _ _ (λx hx m Q hQ=>?_) ?_
 ·generalize hZ:vI g x=Z;walk_at "pu";rw[<- hZ,l1];exact Tn hQ
 ·rw[FD,hV];dsimp only;rw[FE]
  by_cases ca:∀x∈O,g x<=O.length
  ·refine if_f (by rw[J3.mpr λx hx=>ju (ca x hx)];rfl) ?_;subst hU;refine D2 λU hU=>?_;walk_at "pu";rw[show Z9 true (PV.lst X)=some X from rfl,show Z9 false (PV.tup VV)=some VV from rfl];dsimp only;rw[kt];dsimp only;refine⟨by omega,by omega,?_⟩;rw[dr];dsimp only;subst hU;refine D2 λU hU=>?_;generalize hK:O.map bk=KK at *;walk_at "pu";refine⟨⟨_,_,rfl⟩,?_⟩;rw[kr];dsimp only;refine⟨by omega,?_⟩;rw[gr];dsimp only[vI];refine gd1' rfl ?_;rw[ne_ii]
   by_cases c1:g row=k
   ·refine if_f (by rw[ju c1];rfl) ⟨⟨_,_,rfl⟩,?_⟩;rw[ko];dsimp only;refine⟨by omega,?_⟩;rw[go];dsimp only[vI];refine gd1' rfl ?_;rw[show(0:Int)=((0:Nat):Int) from rfl,ne_ii]
    by_cases c2:g jc=0
    ·refine if_f (by rw[ju c2];rfl) ?_;subst hU;refine D2 λU hU=>?_;walk_at "pu";rw[Rl,rl];refine mt ?_;subst hU;rw[<- hK,<- hV]
     have all:((O.flatMap λx=>(TPn s r jc.length).map (Bm g x)).all id)=O.all λx=>(TPn s r jc.length).all (Bm g x):=by
      rw[List.all_flatMap];refine congrArg (List.all O) (funext λx=>?_);rw[CU];rfl
     walk_at "pu";refine⟨by rw[B1,B1],by omega,ct _ _ _ _ ?_⟩;rw[GN];dsimp only;rw[all]
     by_cases c3:∀x∈O,Near s r jc g x
     ·have e:(O.all λx=>(TPn s r jc.length).all (Bm g x))=true:=J3.mpr λx hx=>J3.mpr λy hy=>ju (c3 x hx y.1 y.2 ((tp y.1 y.2).mp hy).1 ((tp y.1 y.2).mp hy).2);rw[e];exact hT ca ⟨c1,c2,c3⟩
     ·have e:(O.all λx=>(TPn s r jc.length).all (Bm g x))=false:=Bool.eq_false_iff.mpr λz=>c3 λx hx p q h1 h2=>jz (J3.mp (J3.mp z x hx) (p,q) ((tp p q).mpr ⟨h1,h2⟩));rw[e];exact hF λz=>c3 z.2.2.2
    ·exact if_t (by rw[jv c2];rfl) (hF λz=>c2 z.2.2.1)
   ·exact if_t (by rw[jv c1];rfl) (hF λz=>c1 z.2.1)
  ·refine if_t ?_ (hF λz=>ca z.1);rw[Bool.not_eq_true',Bool.eq_false_iff];intro z;exact ca λx hx=>jz (J3.mp z x hx)
theorem abs_gt {a b:Nat}:decide ((if(a:Int)-b<0 then -((a:Int)-b) else(a:Int)-b)>1)=!decide (a<=b+1/\b<=a+1):=by
 rw[<- MU];generalize (if(a:Int)-b<0 then -((a:Int)-b) else(a:Int)-b)=x
 by_cases c:x<=1
 ·rw[ju c,jv (by omega)];rfl
 ·rw[jv c,ju (by omega)];rfl
theorem MW {s r k n:Nat}{row jc L:List Str}{g:List Str->Nat}{R:PV->Nat->Prop}(M:Mt s r jc.length)(nd:jc.Nodup)(pm:row.Perm jc)(hS:outS row=L)(pl:L.Perm row)(hT:Good s r row jc (ordF L L.length) k g->R (.bl true) n)(hF:¬Good s r row jc (ordF L L.length) k g->R (.bl false) n):Fu [mtP s r,rowP row,rowP jc,.int (k:Int),.tup ((ordF L L.length).map (vI g))] n R:=by
 refine⟨rfl,?_⟩;unfold Mg;have n5:=M.n5;have rl:=pm.length_eq;have ll:=pl.length_eq;have o:=IK (pl.trans pm) nd n5;have ar:=λ(R:PV->Nat->Prop) q=>Tg (n:=n) (R:=R) ((pl.trans pm).nodup_iff.mpr nd) (by omega) q;have Rl:(row.map PV.str).length=row.length:=B1 ..;have kr:=M8 row;have ko:=M8 jc;have hr0:rowP row=.tup (row.map PV.str):=rfl;have hr1:rowP jc=.tup (jc.map PV.str):=rfl;generalize hO:ordF L L.length=O at *;have gr:=Q5 (f:=g) ((o.mem row).mpr pm);have go:=Q5 (f:=g) ((o.mem jc).mpr (.refl _));have dr:=MT (g:=g) o.nd;have kt:=IL O;have ol:=o.len;have l1:(O.map rowP).length=O.length:=B1 ..;have l2:(O.map (vI g)).length=O.length:=B1 ..;have l3:(O.map bk).length=O.length:=B1 ..;have gt:∀x∈O,getT (O.map bk) (O.map (vI g)) (bk x)=some (vI g x):=λx hx=>Q5 hx;have er:∀i x,(O.map rowP)[i]?=some x->∃y,O[i]?=some y/\x=rowP y:=λi x h=>V0 (f:=rowP) h;refine D2 λU hU=>?_;rw[hr0,hr1];walk_at "pu";refine⟨row,rfl,by omega,?_⟩;rw[hS];refine ar _ ?_;subst hU;refine D2 λU hU=>?_;generalize hX:O.map rowP=X at *;generalize hV:O.map (vI g)=VV at *;walk_at "pu";refine if_f (by rw[l1,l2];simp) ?_;subst hU;refine D2 λU hU=>?_;walk_at "pu";refine⟨by omega,?_⟩;rw[<- hV];refine Ax (vI g) (λ_=>PV.bl true) O _ _ _ (λx hx m Q hQ=>?_) ?_
 ·unfold vI at hQ ⊢;walk_at "pu";rw[ju (by omega)];exact hQ
 ·rw[FD O λ_=>true,hV];dsimp only;rw[FE,J3.mpr λ_ _=>rfl];refine if_f rfl ?_;subst hU;refine D2 λU hU=>?_;walk_at "pu";rw[show Z9 true (PV.lst X)=some X from rfl,show Z9 false (PV.tup VV)=some VV from rfl];dsimp only;rw[kt];dsimp only;refine⟨by omega,by omega,?_⟩;rw[dr];dsimp only;generalize hK:O.map bk=KK at *;subst hU;refine D2 λU hU=>?_;walk_at "pu";rw[Rl,rl];refine K9 (λi env m=>∃a8 a9 a10,env=[some (.v (mtP s r)),some (.v (.tup (row.map PV.str))),some (.v (.tup (jc.map PV.str))),some (.v (.int (k:Int))),some (.v (.tup VV)),some (.v (.lst X)),some (.v (.int (jc.length:Nat))),some (.ow (.dt KK) VV),a8,a9,a10]/\(∀x∈O.take i,Near s r jc g x)/\m=n) _ 0 _ _ ⟨none,none,none,rfl,nofun,rfl⟩ (λi x env m N ex hI hN=>?_) (λenv m hI=>?_)
  ·obtain⟨x,ei,rfl⟩:=er i x ex;obtain⟨a8,a9,a10,rfl,hn,rfl⟩:=hI;rw[F2] at hn hN;have xm:=J9 ei;have xp:=(o.mem x).mp xm;have xl:=xp.length_eq;have kx:=M8 x;have gx:=gt x xm;walk_at "pu";refine⟨⟨by omega,by omega⟩,?_⟩;rw[R1];refine K9 (λi env m'=>∃a9 a10,env=[some (.v (mtP s r)),some (.v (.tup (row.map PV.str))),some (.v (.tup (jc.map PV.str))),some (.v (.int (k:Int))),some (.v (.tup VV)),some (.v (.lst X)),some (.v (.int (jc.length:Nat))),some (.ow (.dt KK) VV),some (.v (rowP x)),a9,a10]/\(∀p,p<i->∀q,okP s r p q=true->q<jc.length->g x<=g (exch x p q)+1/\g (exch x p q)<=g x+1)/\m'=m) _ 0 _ _ ⟨a9,a10,rfl,nofun,rfl⟩ (λp y env m' N' ex' hI hN'=>?_) (λenv m' hI=>?_)
   ·obtain⟨hp,rfl⟩:=o6 ex';obtain⟨a9,a10,rfl,hp2,rfl⟩:=hI;rw[F2] at hp2 hN';rw[Int.zero_add];walk_at "pu";refine⟨⟨by omega,by omega,by omega,by omega⟩,?_⟩;rw[show((jc.length:Int)-((p:Int)+1)).toNat=jc.length-(p+1) by omega];refine K9 (λi env m''=>∃a10,env=[some (.v (mtP s r)),some (.v (.tup (row.map PV.str))),some (.v (.tup (jc.map PV.str))),some (.v (.int (k:Int))),some (.v (.tup VV)),some (.v (.lst X)),some (.v (.int (jc.length:Nat))),some (.ow (.dt KK) VV),some (.v (rowP x)),some (.v (.int (p:Int))),a10]/\(∀q,q<p+1+i->okP s r p q=true->q<jc.length->g x<=g (exch x p q)+1/\g (exch x p q)<=g x+1)/\m''=m') _ 0 _ _ ⟨a10,rfl,λq hq ok=>by have:=V8 ok;omega,rfl⟩ (λj y env m'' N'' ex'' hI hN''=>?_) (λenv m'' hI=>?_)
    ·obtain⟨hj,rfl⟩:=o6 ex'';obtain⟨a10,rfl,hq,rfl⟩:=hI;rw[F2] at hq hN'';rw[show(p:Int)+1+(j:Int)=((p+1+j:Nat):Int) by omega]
     have nx:(okP s r p (p+1+j)=true->g x<=g (exch x p (p+1+j))+1/\g (exch x p (p+1+j))<=g x+1)->∀q,q<p+1+(j+1)->okP s r p q=true->q<jc.length->g x<=g (exch x p q)+1/\g (exch x p q)<=g x+1:=λh q h1 h2 h3=>by
      by_cases c:q=p+1+j
      ·subst c;exact h h2
      ·exact hq q (by omega) h2 h3
     have ql:p+1+j<jc.length:=by omega
     generalize p+1+j=q at *;have mp:=λ(R:PV->Nat->Prop) h=>IB (s:=s) (r:=r) (p:=p) (q:=q) (n:=m'') (R:=R) M.s1 M.s8 M.r7 (by omega) (by omega) h;have mx:=λ(R:PV->Nat->Prop) h=>Iy (f:=x) (i:=p) (j:=q) (n:=m'') (R:=R) (by omega) (by omega) h;have ka:=M8 (exch x p q);walk_at "pu";refine mp _ ?_;dsimp only
     by_cases ok:okP s r p q=true
     ·have xm':exch x p q∈O:=(o.mem _).mpr (T8 xp ok ql).1;have ga:=gt _ xm';refine if_t ok ⟨⟨_,_,rfl⟩,?_⟩;rw[kx];dsimp only;refine⟨by omega,?_⟩;rw[gx];refine⟨⟨_,_,rfl⟩,mx _ ?_⟩;dsimp only;rw[ka];dsimp only;refine⟨by omega,?_⟩;rw[ga];dsimp only[vI];rw[show decide (1<(if(g x:Int)-(g (exch x p q):Nat)<0 then -((g x:Int)-(g (exch x p q):Nat)) else(g x:Int)-(g (exch x p q):Nat)))=!decide (g x<=g (exch x p q)+1/\g (exch x p q)<=g x+1) from abs_gt]
      by_cases c:g x<=g (exch x p q)+1/\g (exch x p q)<=g x+1
      ·exact if_f (by rw[ju c];rfl) (hN'' _ _ ⟨_,rfl,nx λ_=>c,rfl⟩)
      ·exact if_t (by rw[jv c];rfl) (hF λz=>c (z.2.2 x xm p q ok ql))
     ·exact if_f (eq_false_of_ne_true ok) (hN'' _ _ ⟨_,rfl,nx λz=>absurd z ok,rfl⟩)
    ·obtain⟨a10,rfl,hq,rfl⟩:=hI;refine hN' _ _ ⟨_,_,rfl,λp' hp'=>?_,rfl⟩
     by_cases c:p'=p
     ·subst c;exact λq h1 h2=>hq q (by rw[B1,AL];omega) h1 h2
     ·exact hp2 p' (by omega)
   ·obtain⟨a9,a10,rfl,hp,rfl⟩:=hI;refine hN _ _ ⟨_,_,_,rfl,λy hy=>?_,rfl⟩;rw[O7 ei] at hy;rcases E5.mp hy with hy|hy
    ·exact hn y hy
    ·rw[E3.mp hy];exact λp q h1 h2=>hp p (by rw[B1,AL];have:=V8 h1;omega) q h1 h2
  ·obtain⟨a8,a9,a10,rfl,hn,rfl⟩:=hI;rw[F2,l1,Y7] at hn;dsimp only;subst hU;walk_at "pu";refine⟨⟨_,_,rfl⟩,?_⟩;rw[kr];dsimp only;refine⟨by omega,?_⟩;rw[gr];dsimp only[vI];refine gd1' rfl ?_;rw[Bc,Cy]
   by_cases c1:g row=k
   ·refine if_t (ju c1) ⟨⟨_,_,rfl⟩,?_⟩;rw[ko];dsimp only;refine⟨by omega,?_⟩;rw[go];dsimp only[vI];refine gd1' rfl ?_;rw[show(0:Int)=((0:Nat):Int) from rfl,Bc,Cy]
    by_cases c2:g jc=0
    ·rw[ju c2];exact hT ⟨c1,c2,hn⟩
    ·rw[jv c2];exact hF λz=>c2 z.2.1
   ·exact if_f (jv c1) (hF λz=>c1 z.1)
theorem ltr_le:∀k:Nat,k<26->(!decide ((⟨#[97+k]⟩:Str).cps.toList<(C7 "a").cps.toList))=true/\(!decide ((C7 "z").cps.toList<(⟨#[97+k]⟩:Str).cps.toList))=true:=by decide +kernel
theorem m_isb {z:Str}{n:Nat}{R:PV->Nat->Prop}(hz:w4 z)(h:R (.bl true) n):Ih [.str z] n R:=by
 refine⟨rfl,?_⟩;unfold L_;obtain⟨h1,h2,h3⟩:=hz;have lx:z.length=z.cps.toList.length:=Dl z;have d1:decide ((1:Int)<=(z.length:Int))=true:=ju (by omega);have d2:decide ((z.length:Int)<=8)=true:=ju (by omega);have hlen:z.length<=1000000:=by omega
 walk_at "pu";simp only[hlen,d1,d2,true_and,reduceIte,Bool.not_true,Y9];refine⟨?_,by rw[B1];omega,?_⟩
 ·rw[<- Array.all_toList];exact J3.mpr λc hc=>ju (By (h3 c hc).2 (by decide))
 ·refine GY (λ_=>.bl true) _ _ _ _ (λy hy m Q hQ=>?_) ?_
  ·obtain⟨c,hc,rfl⟩:=J7.mp hy;have hc:=h3 c hc;unfold Ltr at hc;have:=ltr_le (c-97) (by omega);rw[show 97+(c-97)=c by omega] at this;obtain⟨l1,l2⟩:=this;walk_at "pu";simp only[l1,l2];exact hQ
  ·have e:=FD (z.cps.toList.map λc=>PV.str ⟨#[c]⟩) λ_=>true;rw[e];dsimp only;rw[FE,J3.mpr λ_ _=>rfl];exact h
theorem m_ipo {row:List Str}{p:Str×Str}{n:Nat}{R:PV->Nat->Prop}(hb:∀z∈row,w4 z)(p1:p.1∈row)(p2:p.2∈row)(h:R (.bl true) n):Ii [rowP row,prS p] n R:=by
 refine⟨rfl,?_⟩;unfold Ma;have hr0:rowP row=.tup (row.map PV.str):=rfl;generalize hZ:row.map PV.str=Z at *;unfold prS;rw[hr0];walk_at "pu";refine if_f (by decide) ?_;show Q3 _ _ _ ([p.1,p.2].map PV.str) _ _ _;refine Ax PV.str (λ_=>.bl true) [p.1,p.2] _ _ _ (λz hz m Q hQ=>?_) h
 have zr:z∈row:=by
  rcases C8.mp hz with e|hz
  ·rw[e];exact p1
  ·rw[E3.mp hz];exact p2
 walk_at "pu";refine m_isb (hb z zr) (if_t rfl (Ru hZ ?_));rw[ju zr];exact hQ
theorem m_stou {s r n:Nat}{row jc:List Str}{ps:List (Str×Str)}{R:PV->Nat->Prop}(M:Mt s r row.length)(hb:∀z∈row,w4 z)(pl:ps.length<=1000)(hp:∀p∈ps,p.1∈row/\p.2∈row)(h:R (.bl (decide (led s r row ps=some jc))) n):Ij [.tup [.int s,.int r],rowP row,rowP jc,.tup (ps.map prS)] n R:=by
 refine⟨rfl,?_⟩;unfold Mb;have ml:=λ(R:PV->Nat->Prop) q=>SK (jc:=jc) (n:=n) (R:=R) M hp q;have mi:=λp (hp':p∈ps) (m:Nat) (R:PV->Nat->Prop) q=>m_ipo (p:=p) (n:=m) (R:=R) hb (hp p hp').1 (hp p hp').2 q;have Pl:(ps.map prS).length=ps.length:=B1 ..;generalize hW:rowP row=W at *;generalize hO:rowP jc=O at *;generalize hP:ps.map prS=PP at *;walk_at "pu";refine⟨by omega,?_⟩;rw[<- hP];refine Ax prS (λ_=>.bl true) ps _ _ _ (λp hp' m Q hQ=>?_) ?_
 ·generalize hX:prS p=X at *;walk_at "pu";rw[<- hX];refine mi p hp' _ _ ?_;rw[hX];exact hQ
 ·rw[FD ps λ_=>true];dsimp only;rw[FE,J3.mpr λ_ _=>rfl,hP];exact if_f rfl (ml _ h)
theorem m_mcp {s r n:Nat}{R:PV->Nat->Prop}(h:R (.bl (decide (r=0))) n):Fk [.tup [.int s,.int r]] n R:=by
 refine⟨rfl,?_⟩;unfold LB;walk_at "pu";rw[show decide ((r:Int)=0)=decide (r=0) from decide_eq_decide.mpr (by omega)];exact h
theorem m_mcr {s r l n:Nat}{R:PV->Nat->Prop}(h:R (.bl (decide (l<=s/\l<=r+2))) n):Fm [.tup [.int s,.int r],.int (l:Int)] n R:=by
 refine⟨rfl,?_⟩;unfold LC;walk_at "pu"
 by_cases c:l<=s
 ·refine if_t (ju (by omega)) ?_;rw[show decide ((l:Int)<=(r:Int)+2)=decide (l<=s/\l<=r+2) from decide_eq_decide.mpr (by omega)];exact h
 ·rw[jv (show ¬(l<=s/\l<=r+2) by omega)] at h;exact if_f (jv (by omega)) h
theorem m_rof {row jc:List Str}{n:Nat}{R:PV->Nat->Prop}(nd:row.Nodup)(h2:row.length<=24)(pm:jc.Perm row)(h:R (.int (rN row jc:Nat)) n):DJ [rowP row,rowP jc] n R:=SM nd h2 pm (cOf (nxB row jc) row) (λx hx y hy=>AC (w8 nd pm) hx hy) h
theorem m_lrof {row jc:List Str}{n:Nat}{R:PV->Nat->Prop}(nd:row.Nodup)(h2:row.length<=24)(pm:jc.Perm row)(h:R (.int (rN row jc:Nat)) n):Fv [rowP row,rowP jc] n R:=SO nd h2 pm (cOf (nxB row jc) row) (λx hx y hy=>AC (w8 nd pm) hx hy) h
theorem IM {row jc:List Str}:((row.length:Nat):Int)-((rN row jc:Nat):Int)=((row.length-rN row jc:Nat):Int):=by
 have:=FC (row:=row) (jc:=jc);omega
theorem FG {z w:Str}{n:Nat}{R:PV->Nat->Prop}(h:R (.bl (decide (z=w))) n):DL [.str z,.str w] n R:=by
 refine⟨rfl,?_⟩;unfold LW;walk_at "pu";exact h
theorem To {k l n:Nat}{R:PV->Nat->Prop}(h:R (.bl (decide (l=k))) n):DM [.int (k:Int),.int (l:Int),.int (l:Int)] n R:=by
 refine⟨rfl,?_⟩;unfold Ib;walk_at "pu"
 by_cases c:l<=k
 ·refine if_t (ju (by omega)) ?_;rw[show decide ((k:Int)<=(l:Int))=decide (l=k) from decide_eq_decide.mpr (by omega)];exact h
 ·rw[jv (show ¬l=k by omega)] at h;exact if_f (jv (by omega)) h
theorem pr_ne:decide (C7 "rounds"=C7 "pairs")=false:=by decide +kernel
abbrev thX (k:Nat)(ps:List (Str×Str))(X:PV):PV:=.tup [.int (k:Int),.tup (ps.map prS),X]
abbrev tbX (g:List Str->Nat)(O:List (List Str)):PV:=.tup [.str (C7 "table"),.tup (O.map (vI g))]
def papX (s r n:Nat)(f:List Str->Nat)(O:List (List Str)):PV:=if r=0 then .tup [.str (C7 "pairs")] else if n<=s/\n<=r+2 then .tup [.str (C7 "rounds")] else tbX f O
structure Lt (s r:Nat)(row jc L:List Str)(f:List Str->Nat):Prop where
 M:Mt s r jc.length
 nd:jc.Nodup
 pm:row.Perm jc
 F:Dst s r jc f
 hS:outS row=L
 pl:L.Perm row
section
variable {s r n:Nat}{row jc L:List Str}{f:List Str->Nat}{R:PV->Nat->Prop}
theorem Lt.o (l:Lt s r row jc L f):Ord jc (ordF L L.length):=IK (l.pl.trans l.pm) l.nd l.M.n5
theorem m_few (l:Lt s r row jc L f)(h:∀ps,Wy s r row jc jc f ps->R (thX (f row) ps (papX s r jc.length f (ordF L L.length))) n):DK [mtP s r,rowP row,rowP jc] n R:=by
 refine⟨rfl,?_⟩;unfold LQ;obtain⟨M,nd,pm,F,hS,pl⟩:=id l;have n5:=M.n5;have n1:=M.n1;have rl:=pm.length_eq;have ll:=pl.length_eq;have o:=l.o;have Rl:(row.map PV.str).length=row.length:=B1 ..;have hr0:rowP row=.tup (row.map PV.str):=rfl;refine D2 λU hU=>?_;walk_at "pu";refine m_mcp ?_;unfold papX at h
 by_cases c:r=0
 ·rw[jw c] at h;rw[ju c];subst c;have e:=F.uniq (IE M.s1 nd) pm;rw[e] at h;refine if_t rfl (MA (by omega) pm.symm (SI M.s1 nd pm (by omega) (by omega) λps w=>h ps ⟨.refl _,w.ld,?_,w.mm⟩));have:=w.nu;rw[Mv nd] at this;rw[F.zero,e];exact this
 ·rw[jy c] at h;rw[jv c];refine if_f rfl ?_;subst hU;refine D2 λU hU=>?_;walk_at "pu";rw[Rl,rl];refine m_mcr ?_
  by_cases d:jc.length<=s/\jc.length<=r+2
  ·rw[jw d] at h;rw[ju d];have e:=F.uniq (IF nd d.1 d.2) pm;rw[e] at h;refine if_t rfl (m_rof (pm.nodup_iff.mpr nd) (by omega) pm.symm ?_);dsimp only;have sb:=IM (row:=row) (jc:=jc);rw[rl] at sb;rw[sb];refine ST d.1 d.2 nd pm (by omega) (by omega) λps w=>h ps ⟨.refl _,w.ld,?_,w.mm⟩;have:=w.nu;rw[MJ nd] at this;have:=FC (row:=row) (jc:=jc);rw[F.zero,e];omega
  ·rw[jy d] at h;rw[jv d];refine if_f rfl ?_;subst hU;refine D2 λU hU=>?_;walk_at "pu";refine SY M F o λL' nd' all=>?_;subst hU;refine D2 λU hU=>?_;walk_at "pu";refine⟨row,rfl,by omega,?_⟩;rw[hS];refine MR ((pl.trans pm).nodup_iff.mpr nd) (by omega) ?_;dsimp only;refine⟨by rw[B1];exact G8 o.len (by decide),?_⟩;refine Ax rowP (vI f) (ordF L L.length) _ _ _ (λx hx m Q hQ=>?_) ?_
   ·have kx:=M8 x;have gx:=Q5 (f:=f) ((all x).mpr ((o.mem x).mp hx));walk_at "pu";rw[kx];dsimp only;rw[gx];exact hQ
   ·subst hU;have kx:=M8 row;have gx:=Q5 (f:=f) ((all row).mpr pm);have mt:=λ(R:PV->Nat->Prop) q=>m_tnum (n:=n) (R:=R) M nd F o pm all q;have h':∀ps,Wy s r row jc jc f ps->R (.tup [.int (f row:Nat),.tup (ps.map prS),.tup [.str (C7 "table"),.tup ((ordF L L.length).map (vI f))]]) n:=h;generalize (ordF L L.length).map (vI f)=TT at *;walk_at "pu";rw[kx];dsimp only;rw[gx];dsimp only;exact mt _ λps w=>h' ps w
theorem Lt.near (l:Lt s r row jc L f):Good s r row jc (ordF L L.length) (f row) f:=⟨rfl,l.F.zero,λx hx p q h1 h2=>⟨l.F.back ((l.o.mem x).mp hx) h1 h2,l.F.step x ((l.o.mem x).mp hx) p q h1 h2⟩⟩
def bump (f:List Str->Nat)(x:List Str)(y:List Str):Nat:=if y=x then f y+2 else f y
theorem Lt.far (l:Lt s r row jc L f){x:List Str}(hx:x∈ordF L L.length):¬Good s r row jc (ordF L L.length) (f row) (bump f x):=λ⟨_,g2,g3⟩=>by
 by_cases c:x=jc
 ·rw[c] at g2;unfold bump at g2;rw[jw rfl] at g2;omega
 ·obtain⟨p,q,h1,h2,h3⟩:=l.F.down x ((l.o.mem x).mp hx) c;have:=(g3 x hx p q h1 h2).1;unfold bump at this;rw[jw rfl,jy (λz=>by rw[z] at h3;omega)] at this;omega
theorem m_mht {l:Nat}(h5:l<=5)(h:R (.bl true) n):Ia [.int (l:Int)] n R:=by
 refine⟨rfl,?_⟩;unfold LX;walk_at "pu";rw[ju (by omega)];exact h
theorem MX {k:Nat}{T:PV}(h5:row.length<=5)(h:Fs [mtP s r,rowP row,rowP jc,.int (k:Int),T] n R):DN [mtP s r,rowP row,rowP jc,.int (k:Int),.tup [.str (C7 "table"),T]] n R:=by
 refine⟨rfl,?_⟩;unfold Ft;have Rl:(row.map PV.str).length=row.length:=B1 ..;walk_at "pu";refine if_t rfl (if_f rfl (if_t rfl (FG ?_)));rw[ju rfl,Rl];exact if_t rfl (m_mht h5 (if_t rfl h))
theorem Tp (l:Lt s r row jc L f)(h:R (.bl true) n):DN [mtP s r,rowP row,rowP jc,.int (f row:Nat),papX s r jc.length f (ordF L L.length)] n R:=by
 obtain⟨M,nd,pm,F,hS,pl⟩:=id l;have n5:=M.n5;have rl:=pm.length_eq;have Rl:(row.map PV.str).length=row.length:=B1 ..;unfold papX
 by_cases c:r=0
 ·rw[jw c];refine⟨rfl,?_⟩;unfold Ft;walk_at "pu";refine if_t rfl (if_f rfl (if_f rfl (FG ?_)));rw[ju rfl];refine if_t rfl (m_mcp ?_);rw[ju c];subst c;refine if_t rfl (MA (by omega) pm.symm ?_);show R (.bl (eqP (.int (f row:Nat)) (.int (inv (row.map (ixS jc)):Nat)))) n;rw[Bc,Cy,ju (F.uniq (IE M.s1 nd) pm)];exact h
 ·rw[jy c]
  by_cases d:jc.length<=s/\jc.length<=r+2
  ·rw[jw d];refine⟨rfl,?_⟩;unfold Ft;walk_at "pu";refine if_t rfl (if_f rfl (if_f rfl (FG ?_)));rw[pr_ne];refine if_f rfl (FG ?_);rw[ju rfl,Rl,rl];refine if_t rfl (m_mcr ?_);rw[ju d];refine if_t rfl (m_rof (pm.nodup_iff.mpr nd) (by omega) pm.symm ?_);have sb:=IM (row:=row) (jc:=jc);rw[rl] at sb;show R (.bl (eqP (.int (f row:Nat)) (.int ((jc.length:Int)-(rN row jc:Nat))))) n;rw[sb,Bc,Cy,ju (F.uniq (IF nd d.1 d.2) pm)];exact h
  ·rw[jy d];exact MX (by omega) (MV M nd pm hS pl (λ_ _=>h) λz=>absurd ⟨λx hx=>BA (F.lt l.o ((l.o.mem x).mp hx)),l.near⟩ z)
theorem MY {k:Nat}{T:PV}(h5:row.length<=5)(h:Fu [mtP s r,rowP row,rowP jc,.int (k:Int),T] n R):DO [mtP s r,rowP row,rowP jc,.int (k:Int),.tup [.str (C7 "table"),T]] n R:=by
 refine⟨rfl,?_⟩;unfold Fw;have Rl:(row.map PV.str).length=row.length:=B1 ..;walk_at "pu";exact⟨rfl,rfl,if_f rfl (if_t rfl (if_t (ju (by rw[Rl];omega)) h))⟩
theorem Tq (l:Lt s r row jc L f)(h:R (.bl true) n):DO [mtP s r,rowP row,rowP jc,.int (f row:Nat),papX s r jc.length f (ordF L L.length)] n R:=by
 obtain⟨M,nd,pm,F,hS,pl⟩:=id l;have n5:=M.n5;have rl:=pm.length_eq;have Rl:(row.map PV.str).length=row.length:=B1 ..;unfold papX
 by_cases c:r=0
 ·rw[jw c];refine⟨rfl,?_⟩;unfold Fw;walk_at "pu";refine⟨rfl,rfl,if_f rfl ?_⟩;rw[show atI [PV.str (C7 "pairs")] 0=some (.str (C7 "pairs")) from rfl];refine if_f (by decide) (if_f (by decide) ?_);dsimp only;rw[Aw,ju rfl];refine gd1' rfl (if_t rfl (if_t (ju (by omega)) (SJ (by omega) pm.symm ?_)));show R (.bl (eqP (.int (f row:Nat)) (.int (inv (row.map (ixS jc)):Nat)))) n;subst c;rw[Bc,Cy,ju (F.uniq (IE M.s1 nd) pm)];exact h
 ·rw[jy c]
  by_cases d:jc.length<=s/\jc.length<=r+2
  ·rw[jw d];refine⟨rfl,?_⟩;unfold Fw;walk_at "pu";refine⟨rfl,rfl,if_f rfl ?_⟩;rw[show atI [PV.str (C7 "rounds")] 0=some (.str (C7 "rounds")) from rfl];refine if_f (by decide) (if_f (by decide) ?_);dsimp only;rw[Aw,pr_ne,Aw,ju rfl];refine gd1' rfl (if_f rfl (gd1' rfl (if_t rfl (if_t (ju (by rw[Rl];split <;> omega)) (m_lrof (pm.nodup_iff.mpr nd) (by omega) pm.symm ?_)))))
   have sb:=IM (row:=row) (jc:=jc);rw[rl] at sb;dsimp only;rw[Rl,rl,sb,Cy,ju (F.uniq (IF nd d.1 d.2) pm)];exact h
  ·rw[jy d];exact MY (by omega) (MW M nd pm hS pl (λ_=>h) λz=>absurd l.near z)
theorem IN {k:Nat}{X:PV}{ps:List (Str×Str)}(M:Mt s r row.length)(hb:∀z∈row,w4 z)(pl:ps.length<=1000)(hp:∀p∈ps,p.1∈row/\p.2∈row)(h0:¬(led s r row ps=some jc/\ps.length=k)->R (.bl false) n)(h1:led s r row ps=some jc->ps.length=k->DN [mtP s r,rowP row,rowP jc,.int (k:Int),X] n R):Bi [mtP s r,rowP row,rowP jc,thX k ps X] n R:=by
 refine⟨rfl,?_⟩;unfold Mc;have mt:=λ(R:PV->Nat->Prop) q=>m_stou (jc:=jc) (n:=n) (R:=R) M hb pl hp q;have Pl:(ps.map prS).length=ps.length:=B1 ..;generalize hW:rowP row=W at *;generalize hO:rowP jc=O at *;unfold thX;generalize hP:ps.map prS=PP at *;walk_at "pu";refine if_f (by simp) (mt _ ?_);dsimp only
 by_cases c1:led s r row ps=some jc
 ·refine if_f (by rw[ju c1];rfl) ?_;rw[Pl];refine To ?_
  by_cases c2:ps.length=k
  ·exact if_f (by rw[ju c2];rfl) (h1 c1 c2)
  ·exact if_t (by rw[jv c2];rfl) (h0 λz=>c2 z.2)
 ·exact if_t (by rw[jv c1];rfl) (h0 λz=>c1 z.1)
theorem IP {k:Nat}{X:PV}{ps:List (Str×Str)}(M:Mt s r row.length)(hp:∀p∈ps,p.1∈row/\p.2∈row)(h0:¬(led s r row ps=some jc/\ps.length=k)->R (.bl false) n)(h1:led s r row ps=some jc->ps.length=k->DO [mtP s r,rowP row,rowP jc,.int (k:Int),X] n R):Cv [mtP s r,rowP row,rowP jc,thX k ps X] n R:=by
 refine⟨rfl,?_⟩;unfold Mm;have ml:=λ(R:PV->Nat->Prop) q=>m_lled (s:=s) (r:=r) (n:=n) (R:=R) M hp q;have Pl:(ps.map prS).length=ps.length:=B1 ..;have hO:rowP jc=.tup (jc.map PV.str):=rfl;have er:=λst=>IA st jc;have cs:=λst:List Str=>Bg st 3;unfold thX;rw[hO] at h1 ⊢;generalize hW:rowP row=W at *;generalize hP:ps.map prS=PP at *;have co:=cs jc;generalize jc.map PV.str=OO at *;walk_at "pu";refine if_f (by simp) ?_;rw[Pl]
 by_cases c2:ps.length=k
 ·refine if_f (by rw[ju (by omega)];rfl) (ml _ ?_);cases hl:led s r row ps with
  |none=>exact gd2 rfl co (if_t rfl (h0 λz=>by rw[hl] at z;exact nomatch z.1))
  | some st =>
   refine gd2 (cs st) co ?_;rw[show eqP (rowP st) (.tup OO)=eqPs (st.map PV.str) OO from rfl,er st]
   by_cases e:st=jc
   ·exact if_f (by rw[ju e];rfl) (h1 (by rw[hl,e]) c2)
   ·exact if_t (by rw[jv e];rfl) (h0 λz=>e (by have:=z.1;rw[hl] at this;exact E9 this))
 ·exact if_t (by rw[jv (by omega)];rfl) (h0 λz=>c2 z.2)
theorem Tr {α:Type}(l:List α):cutP l (some (-1)) none=l.drop (l.length-1):=by
 cases l with
 |nil=>rfl
 | cons a l =>
  unfold cutP;rw[Iu (by rw[L8];omega)];show((a::l).drop ((a::l).length-1)).take ((a::l).length-((a::l).length-1))=_;rw[T0 (by rw[U4];omega)]
theorem Ts {f:List Str->Nat}{x:List Str}:∀{O:List (List Str)} {d:Nat},O.Nodup->O[d]?=some x->(O.take d).map (vI f)++[PV.int ((f x:Nat)+2)]++(O.drop (d+1)).map (vI f)=O.map (vI (bump f x)):=λ{O d} nd e=>by
 have hd:=Fz e;have eo:O=O.take d++x::O.drop (d+1):=by rw[<- hd,CK]
 have ni:∀y∈O,y≠x->vI f y=vI (bump f x) y:=λy _ ne=>by unfold vI bump;rw[jy ne]
 have n2:(O.take d++x::O.drop (d+1)).Nodup:=by rw[<- eo];exact nd
 obtain⟨n3,n4,n5⟩:=Y5.mp n2;have e1:(O.take d).map (vI f)=(O.take d).map (vI (bump f x)):=Ec λy hy=>ni y (Y4 hy) λz=>n5 y hy x C6 z;have e2:(O.drop (d+1)).map (vI f)=(O.drop (d+1)).map (vI (bump f x)):=Ec λy hy=>ni y (List.mem_of_mem_drop hy) λz=>(P0.mp n4).1 (by rw[<- z];exact hy);have e3:PV.int ((f x:Nat)+2)=vI (bump f x) x:=by unfold vI bump;rw[jw rfl];rfl
 have e4:O.map (vI (bump f x))=(O.take d++x::O.drop (d+1)).map (vI (bump f x)):=by rw[<- eo]
 rw[e1,e2,e3,e4,J8,J5,O9]
 rfl
theorem m_more {q k:Nat}{X:PV}{ps:List (Str×Str)}{O:List (List Str)}(pl:ps.length<=1000)(hn:n<=999990000)(nd:O.Nodup)(o1:1<=O.length)(o2:O.length<=120)(hX:X=.tup [.str (C7 "pairs")]\/X=.tup [.str (C7 "rounds")]\/X=tbX f O)
   (h1:∀n',n'<=n+2->R (thX (k+1) (ps++ps.drop (ps.length-1)) X) n') (h2:X=tbX f O->∀x∈O,∀n',n'<=n+2->R (thX k ps (tbX (bump f x) O)) n'):HZ [.pot q,thX k ps X] n R:=by
 refine⟨rfl,?_⟩;unfold LR;have cl:cutP (ps.map prS) (some (-1)) none=(ps.drop (ps.length-1)).map prS:=by rw[Tr,B1,List.map_drop]
 have cp:((ps.map prS).length+(cutP (ps.map prS) (some (-1)) none).length<=1000000):=by rw[cl,B1,B1,U4];omega
 have e1:ps.map prS++cutP (ps.map prS) (some (-1)) none=(ps++ps.drop (ps.length-1)).map prS:=by rw[cl,J8]
 have hh:∀n',n'<=n+2->R (.tup [.int ((k:Int)+1),.tup ((ps++ps.drop (ps.length-1)).map prS),X]) n':=h1;rw[<- e1] at hh;rcases hX with hX|hX|hX
 ·rw[hX] at hh ⊢;unfold thX;generalize ps.map prS=PP at *;walk_at "pu";exact⟨cp,hh _ (i6 _ _)⟩
 ·rw[hX] at hh ⊢;unfold thX;generalize ps.map prS=PP at *;walk_at "pu";exact⟨cp,hh _ (i6 _ _)⟩
 ·have h2':=h2 hX;rw[hX] at hh ⊢;have Ol:(O.map (vI f)).length=O.length:=B1 ..
  have pick:∀d:Int,0<=d->d<O.length->∃x,x∈O/\atI (O.map (vI f)) d=some (.int (f x:Nat))/\cutP (O.map (vI f)) none (some d)++[PV.int ((f x:Nat)+2)]++cutP (O.map (vI f)) (some (d+1)) none=O.map (vI (bump f x))/\(cutP (O.map (vI f)) none (some d)).length+1<=1000/\(cutP (O.map (vI f)) none (some d)).length+1+(cutP (O.map (vI f)) (some (d+1)) none).length<=1000:=λd d0 d1=>by
   obtain⟨e,rfl⟩:=Aa d0;have he:e<O.length:=by omega
   have ee:=D7 he;have c1:cutP (O.map (vI f)) none (some (e:Int))=(O.take e).map (vI f):=by rw[EH,cut_hd]
   have c2:cutP (O.map (vI f)) (some ((e:Int)+1)) none=(O.drop (e+1)).map (vI f):=by rw[EH,show((e:Int)+1)=((e+1:Nat):Int) by omega,HB]
   refine⟨O[e],i4 _,?_,?_,?_,?_⟩
   ·exact Di (j:=e) (by rw[K6,ee];rfl)
   ·rw[c1,c2];exact Ts nd ee
   ·rw[c1,B1,Y6];omega
   ·rw[c1,c2,B1,B1,Y6,U4];omega
  have h3:∀x∈O,∀n',n'<=n+2->R (.tup [.int (k:Int),.tup (ps.map prS),.tup [.str (C7 "table"),.tup (O.map (vI (bump f x)))]]) n':=h2';unfold thX tbX at *;generalize hP:ps.map prS=PP at *;generalize hT:O.map (vI f)=TT at *;walk_at "pu";refine if_t rfl ⟨by omega,λc c0 c1=>?_⟩
  by_cases cz:c=0
  ·refine if_t (ju cz) ⟨⟨by omega,by omega,by omega⟩,λd d0 d1=>?_⟩;obtain⟨x,hx,p1,p2,p3,p4⟩:=pick d d0 (by omega);rw[p1];dsimp only;rw[p2];exact⟨by omega,by rw[D6,t9];omega,h3 x hx _ (by omega)⟩
  ·exact if_f (jv cz) ⟨cp,hh _ (by omega)⟩
end
theorem m_lot {q n:Nat}{most:Int}{R:PV->Nat->Prop}(h1:1<=most)(h5:most<=5)(hn:n<=999800000)(h:∀(s r:Nat) (row jc:List Str) n',Mt s r jc.length->RowS row->jc.Perm row->n'<=n+2000->R (.tup [mtP s r,rowP row,rowP jc]) n'):H_ [.pot q,.int most] n R:=by
 refine⟨rfl,?_⟩;unfold LV;refine D2 λU hU=>?_;walk_at "pu";refine⟨by omega,λd d0 d1=>?_⟩;obtain⟨x,hx,ex⟩:=ER (xs:=[PV.int 1,PV.int 2,PV.int 3,PV.int 4,PV.int most,PV.int 4,PV.int 3,PV.int most]) d0 d1
 have hx':∃k:Int,x=.int k/\1<=k/\k<=5:=by
  simp only[C8,T1,or_false] at hx;rcases hx with rfl|rfl|rfl|rfl|rfl|rfl|rfl|rfl <;> exact⟨_,rfl,by omega,by omega⟩
 obtain⟨k,rfl,k1,k5⟩:=hx';rw[ex];dsimp only;subst hU
 have fin:∀(U:pS),U=qSeq (qSet 4 (B6 Fp (A1 (qV 0) (A1 (qV 2) qNil)))) (qRet (qTup (A1 (qV 3) (A1 (qV 4) (A1 (B6 Fq (A1 (qV 0) (A1 (qV 4) qNil))) qNil)))))->∀(s r m:Nat),1<=s->s<=8->r<=7->m<=n+10->U { nx:=λ_ m=>R PV.non m,rt:=R,bk:=λ_ _=>False,ct:=λ_ _=>False } [some (.v (.pot q)),some (.v (.int most)),some (.v (.int k)),some (.v (mtP s r)),none] m:=λU hU s r m s1 s8 r7 hm=>by
  subst hU;refine D2 λU hU=>?_;walk_at "pu";refine SF (by omega) (by omega) (by omega) λzs n1 hz rz hn1=>?_;subst hU;generalize hZ:rowP zs=Z at *;walk_at "pu";rw[<- hZ];refine m_goal (by omega) (by omega) (by omega) λys n2 pm hn2=>?_;exact h s r zs ys n2 ⟨s1,s8,r7,by rw[pm.length_eq];omega,by rw[pm.length_eq];omega⟩ rz pm (by omega)
 refine D2 λU hU=>?_;walk_at "pu";refine⟨by omega,λa a0 a1=>⟨by omega,λb b0 b1=>?_⟩⟩;obtain⟨s,hs⟩:=Aa (show 0<=1+a by omega);obtain⟨r,rfl⟩:=Aa b0;rw[hs];subst hU;refine D2 λU hU=>?_;walk_at "pu";refine⟨by omega,λc c0 c1=>?_⟩
 by_cases cz:c=0
 ·refine if_t (ju cz) ⟨by omega,λa a0 a1=>⟨by omega,λb b0 b1=>?_⟩⟩;obtain⟨s,hs⟩:=Aa (show 0<=1+a by omega);obtain⟨r,hr⟩:=Aa (show 0<=1+b by omega);rw[hs,hr];exact fin U hU s r _ (by omega) (by omega) (by omega) (by omega)
 ·exact if_f (jv cz) (fin U hU s r _ (by omega) (by omega) (by omega) (by omega))
structure Lo where
 s:Nat
 r:Nat
 ro:List Str
 ot:List Str
def Lo.ok (l:Lo):Prop:=Mt l.s l.r l.ot.length/\RowS l.ro/\l.ot.Perm l.ro
def loP (l:Lo):PV:=.tup [mtP l.s l.r,rowP l.ro,rowP l.ot]
structure Tl where
 l:Lo
 ps:List (Str×Str)
 f:List Str->Nat
 L:List Str
def thP (t:Tl):PV:=thX (t.f t.l.ro) t.ps (papX t.l.s t.l.r t.l.ot.length t.f (ordF t.L t.L.length))
def Tl.ok (t:Tl):Prop:=Lt t.l.s t.l.r t.l.ro t.l.ot t.L t.f/\Wy t.l.s t.l.r t.l.ro t.l.ot t.l.ot t.f t.ps
theorem Lo.few {l:Lo}(h:l.ok){n:Nat}{R:PV->Nat->Prop}(q:∀t:Tl,t.l=l->t.ok->R (thP t) n):DK [mtP l.s l.r,rowP l.ro,rowP l.ot] n R:=by
 obtain⟨M,rr,pm⟩:=h;obtain⟨f,F⟩:=dst_ex (r:=l.r) (jc:=l.ot) M.s1;have lt:Lt l.s l.r l.ro l.ot (outS l.ro) f:=⟨M,pm.nodup_iff.mpr rr.1,pm.symm,F,rfl,Ly _⟩;exact m_few lt λps w=>q ⟨l,ps,f,_⟩ rfl ⟨lt,w⟩
theorem MZ:∀(A:List Lo) (s0 s1 s2:Option Pu.Slot) (n:Nat) (R:List PV->Nat->Prop),(∀l∈A,l.ok)->(∀M:List Tl,M.map Tl.l=A->(∀t∈M,t.ok)->R (M.map thP) n)->
   Q3 (gTp 3 (gCn (gN 0) (gCn (gN 1) (gCn (gN 2) gNl)))) qTru (B6 DK (A1 (qV 0) (A1 (qV 1) (A1 (qV 2) qNil)))) (A.map loP) [s0,s1,s2] n R
 |[],_,_,_,_,_,_,h=>h [] rfl nofun
 | l :: A, s0, s1, s2, n, R, ho, h => by
  refine⟨rfl,?_⟩;refine Lo.few (ho l C6) λt e w=>?_;refine MZ A _ _ _ _ _ (λa ha=>ho a (C9 _ ha)) λM hM hw=>?_;exact h (t::M) (by rw[J5,hM,e]) λa ha=>(C8.mp ha).elim (λe=>by rw[e];exact w) (hw a)
theorem rep_bl (b:Bool):∃z:Str,∀R:PV->Prop,R (.str z)->Bd (.bl b) R:=by
 cases b <;> exact⟨_,λR h=>⟨rfl,by decide,by decide,h⟩⟩
theorem pap_or {s r n:Nat}{f:List Str->Nat}{O:List (List Str)}:papX s r n f O=.tup [.str (C7 "pairs")]\/papX s r n f O=.tup [.str (C7 "rounds")]\/papX s r n f O=tbX f O:=by
 unfold papX
 by_cases c:r=0
 ·exact .inl (jw c)
 ·rw[jy c]
  by_cases d:n<=s/\n<=r+2
  ·exact .inr (.inl (jw d))
  ·exact .inr (.inr (jy d))
theorem M_ {s r:Nat}:∀(ps:List (Str×Str)) (st o:List Str) (p:Str×Str),led s r st (ps++[p])=some o->∃x,led s r st ps=some x/\okP s r (ixS x p.2) (ixS x p.1)=true/\o=exch x (ixS x p.2) (ixS x p.1)
 | [], st, o, p, h => by
  have h':(if okP s r (ixS st p.2) (ixS st p.1)=true then some (exch st (ixS st p.2) (ixS st p.1)) else none)=some o:=h
  by_cases d:okP s r (ixS st p.2) (ixS st p.1)=true
  ·rw[jw d] at h';exact⟨st,rfl,d,(E9 h').symm⟩
  ·rw[jy d] at h';cases h'
 | a :: ps, st, o, p, h => by
  have h':(if okP s r (ixS st a.2) (ixS st a.1)=true then led s r (exch st (ixS st a.2) (ixS st a.1)) (ps++[p]) else none)=some o:=h
  by_cases d:okP s r (ixS st a.2) (ixS st a.1)=true
  ·rw[jw d] at h';obtain⟨x,h1,h2⟩:=M_ ps _ o p h';refine⟨x,?_,h2⟩;rw[IC,jw d];exact h1
  ·rw[jy d] at h';cases h'
theorem Na {s r:Nat}{row:List Str}:∀(ps:List (Str×Str)) (st x:List Str),st.Perm row->(∀p∈ps,p.1∈row/\p.2∈row)->led s r st ps=some x->x.Perm row
 |[],st,x,pm,_,h=>by cases h;exact pm
 | a :: ps, st, x, pm, hp, h => by
  have h':(if okP s r (ixS st a.2) (ixS st a.1)=true then led s r (exch st (ixS st a.2) (ixS st a.1)) ps else none)=some x:=h
  by_cases d:okP s r (ixS st a.2) (ixS st a.1)=true
  ·rw[jw d] at h';obtain⟨h1,h2⟩:=hp a C6;exact Na ps _ x ((d7 (Y0 (pm.mem_iff.mpr h2)) (Y0 (pm.mem_iff.mpr h1))).trans pm) (λp h=>hp p (C9 _ h)) h'
  ·rw[jy d] at h';cases h'
theorem Tt {s r:Nat}{row jc:List Str}{ps:List (Str×Str)}(nd:row.Nodup)(hl:led s r row ps=some jc)(hp:∀p∈ps,p.1∈row/\p.2∈row)(k:Nat)(hk:ps.length=k):¬(led s r row (ps++ps.drop (ps.length-1))=some jc/\(ps++ps.drop (ps.length-1)).length=k+1):=by
 rintro⟨h1,h2⟩;cases hr:ps.reverse with
 | nil =>
  have:ps=[]:=List.reverse_eq_nil_iff.mp hr;subst this;rw[<- hk] at h2;cases h2
 | cons p qs =>
  have e:ps=qs.reverse++[p]:=by rw[<- List.reverse_reverse ps,hr,CN]
  have ed:ps.drop (ps.length-1)=[p]:=by
   rw[e,D6,t9,Nat.add_sub_cancel,List.drop_left]
  have pm:=hp p (by rw[e];simp);rw[ed,DQ ps row jc p hl] at h1;rw[e] at hl;obtain⟨x,x1,x2,x3⟩:=M_ _ _ _ _ hl;have xp:=Na _ row x (.refl _) (λp h=>hp p (by rw[e];exact N8 _ h)) x1;have ndx:=xp.nodup_iff.mpr nd;have m1:=xp.mem_iff.mpr pm.1;have m2:=xp.mem_iff.mpr pm.2;have l1:=Y0 m1;have l2:=Y0 m2;have xo:=d7 l2 l1;have ndo:=xo.nodup_iff.mpr ndx;have g:=Cw l2 l1;have nm1:nm x (ixS x p.1)=p.1:=E9 ((F7 l1).symm.trans (E1 m1).1);have nm2:nm x (ixS x p.2)=p.2:=E9 ((F7 l2).symm.trans (E1 m2).1);have lt:=V8 x2
  have j2:ixS jc p.2=ixS x p.1:=by
   rw[x3];exact M1 ndo (E1 (xo.mem_iff.mpr m2)).1 (by rw[g,jw rfl,nm2])
  have j1:ixS jc p.1=ixS x p.2:=by
   rw[x3];exact M1 ndo (E1 (xo.mem_iff.mpr m1)).1 (by rw[g,jy (by omega),jw rfl,nm1])
  rw[j1,j2,jy (λz=>by have:=V8 z;omega)] at h1;cases h1
theorem m_law (ns:List Int)(hl:ns.length<=63):Ip ⟨λ_ _=>False,λr _=>r=.bl true,λ_ _=>False,λ_ _=>False⟩ (Av ["_law_script","_law_lots","_law_pots","_law_pot","_law_most","_law_told","_law_meeting","_law_row","_law_other","_law_thing","_law_odd"] [.scr ns]) 0:=by
 unfold Ip;refine D2 λU hU=>?_;walk_at "pu";refine⟨hl,hl,λq q'=>?_⟩
 have hpo:∀i x,([PV.pot q,PV.pot q']:List PV)[i]?=some x->∃q,x=PV.pot q:=λi x h=>by
  have:=J9 h;simp only[C8,T1,or_false] at this;rcases this with rfl|rfl <;> exact⟨_,rfl⟩
 have hpl:([PV.pot q,PV.pot q']:List PV).length=2:=rfl;generalize ([PV.pot q,PV.pot q']:List PV)=PO at *;subst hU;refine D2 λU hU=>?_;walk_at "pu"
 have hmo:∀i x,([PV.int 5,PV.int 4]:List PV)[i]?=some x->∃m:Int,x=PV.int m/\1<=m/\m<=5:=λi x h=>by
  have:=J9 h;simp only[C8,T1,or_false] at this;rcases this with rfl|rfl <;> exact⟨_,rfl,by decide,by decide⟩
 show forL _ _ _ (zipP PO [.int 5,.int 4]) _ _;have zl:(zipP PO [.int 5,.int 4]).length=2:=by rw[KD,hpl];rfl
 generalize hMO:([PV.int 5,PV.int 4]:List PV)=MO at *;refine K9 (λi env m=>∃s3 s4,∃A:List Lo,env=[some (.v (.scr ns)),some (.own (A.map loP)),some (.v (.lst PO)),s3,s4,none,none,none,none,none,none]/\A.length=i/\(∀l∈A,l.ok)/\m<=2000*i) _ 0 _ _ ⟨none,none,[],rfl,rfl,nofun,by omega⟩ (λi x env m N ex hI hN=>?_) (λenv m hI=>?_)
 ·obtain⟨s3,s4,A,rfl,hi,hy,hm⟩:=hI;rw[F2] at hi hm hN;have il:i<2:=by rw[<- zl];exact(E6.mp ex).1
  obtain⟨u,v,eu,ev,rfl⟩:=KF ex;obtain⟨q1,rfl⟩:=hpo i u eu;obtain⟨mo,rfl,m1,m5⟩:=hmo i v ev;generalize hF:A.map loP=FF;have Fl:FF.length=A.length:=by rw[<- hF,B1]
  walk_at "pu";refine⟨⟨_,rfl⟩,m_lot m1 m5 (by omega) λs r row jc n' M rr pm hn'=>⟨by omega,hN _ _ ⟨some (.v (.pot q1)),some (.v (.int mo)),A++[⟨s,r,row,jc⟩],?_,by rw[D6,hi];rfl,λp hp=>?_,by omega⟩⟩⟩
  ·rw[J8,hF];rfl
  ·rcases E5.mp hp with hp|hp
   ·exact hy p hp
   ·rw[E3.mp hp];exact⟨M,rr,pm⟩
 ·obtain⟨s3,s4,A,rfl,hi,hy,hm⟩:=hI;rw[F2,zl] at hi hm;dsimp only;subst hU;refine D2 λU hU=>?_;generalize hF:A.map loP=FF;have Fl:FF.length=A.length:=by rw[<- hF,B1]
  walk_at "pu";refine⟨by omega,?_⟩;rw[<- hF];refine MZ A _ _ _ _ _ hy λM hM hw=>?_;have Ml:M.length=2:=by rw[<- hi,<- hM,B1]
  rw[<- hM,i5];have hw':∀t∈M,t.l.ok:=λt ht=>hy t.l (by rw[<- hM];exact List.mem_map_of_mem ht);subst hU;refine D2 λU hU=>?_;generalize hA:M.map (loP∘Tl.l)=AA;generalize hB:M.map thP=BB;have la:AA.length=2:=by rw[<- hA,B1,Ml]
  have lb:BB.length=2:=by rw[<- hB,B1,Ml]
  walk_at "pu";refine⟨by omega,?_⟩;refine K9 (λi env m'=>∃s3 s6 s7 s8 s9 s10,env=[some (.v (.scr ns)),some (.v (.lst AA)),some (.v (.lst PO)),s3,s4,some (.v (.lst BB)),s6,s7,s8,s9,s10]/\m'<=m+2*i) _ 0 _ _ ⟨s3,none,none,none,none,none,rfl,by omega⟩ (λi x env m' N ex hI hN=>?_) (λenv m' hI=>?_)
  ·obtain⟨s3,s6,s7,s8,s9,s10,rfl,hm'⟩:=hI;rw[F2] at hm' hN;obtain⟨u,v,w,eu,ev,ew,rfl⟩:=Lw ex;obtain⟨q1,rfl⟩:=hpo i u eu;rw[<- hA] at ev;rw[<- hB] at ew;obtain⟨t,et,rfl⟩:=V0 ev;obtain⟨t',et',rfl⟩:=V0 ew;have e:t'=t:=E9 (et'.symm.trans et);subst e;have il:i<M.length:=(E6.mp et).1;have tm:=J9 et;obtain⟨lt,wy⟩:=hw _ tm;have ok:=hw' _ tm;obtain⟨⟨s,r,row,jc⟩,ps,f,L⟩:=t';obtain⟨_,rr,_⟩:=ok;dsimp only at lt wy rr;clear hU hy hM hw hw' hA hB ev ew et et';obtain⟨M',nd,pm,F,hS,pl⟩:=id lt;have rl:=pm.length_eq;have Mr:Mt s r row.length:=by rw[rl];exact M'
   have hp:∀p∈ps,p.1∈row/\p.2∈row:=λp h=>⟨pm.mem_iff.mpr (wy.mm p h).1,pm.mem_iff.mpr (wy.mm p h).2⟩;have ln:ps.length=f row:=by have:=wy.nu;rw[F.zero] at this;omega
   have fl:=F.lt lt.o pm;have ol:=lt.o.len;have mr:=λ(m:Nat) (R:PV->Nat->Prop) (q:R (.bl true) m)=>IP (n:=m) (R:=R) (jc:=jc) (k:=f row) (X:=papX s r jc.length f (ordF L L.length)) Mr hp (λz=>absurd ⟨wy.ld,ln⟩ z) λ_ _=>Tq lt q;have ms:=λ(m:Nat) (R:PV->Nat->Prop) (q:R (.bl true) m)=>IN (n:=m) (R:=R) (jc:=jc) (k:=f row) (X:=papX s r jc.length f (ordF L L.length)) Mr rr.2 (by omega) hp (λz=>absurd ⟨wy.ld,ln⟩ z) λ_ _=>Tp lt q;have mn:=λ(m:Nat) (R:PV->Nat->Prop) q=>Tc (n:=m) (R:=R) M' F lt.o q;have tw:=Tt (pm.nodup_iff.mpr nd) wy.ld hp (f row) ln;have hp2:∀p∈ps++ps.drop (ps.length-1),p.1∈row/\p.2∈row:=λp h=>hp p ((E5.mp h).elim id List.mem_of_mem_drop);have od1r:=λ(m:Nat) (R:PV->Nat->Prop) (q:R (.bl false) m)=>IP (n:=m) (R:=R) (jc:=jc) (k:=f row+1) (X:=papX s r jc.length f (ordF L L.length)) Mr hp2 (λ_=>q) λa b=>absurd ⟨a,b⟩ tw;have od1s:=λ(m:Nat) (R:PV->Nat->Prop) (q:R (.bl false) m)=>IN (n:=m) (R:=R) (jc:=jc) (k:=f row+1) (X:=papX s r jc.length f (ordF L L.length)) Mr rr.2 (by rw[D6,U4];omega) hp2 (λ_=>q) λa b=>absurd ⟨a,b⟩ tw;have od2r:=λ(x:List Str) (hx:x∈ordF L L.length) (m:Nat) (R:PV->Nat->Prop) (q:R (.bl false) m)=>IP (n:=m) (R:=R) (jc:=jc) (k:=f row) (X:=tbX (bump f x) (ordF L L.length)) Mr hp (λ_=>q) λ_ _=>MY Mr.n5 (MW M' nd pm hS pl (λz=>absurd z (lt.far hx)) λ_=>q)
   have od2s:=λ(x:List Str) (hx:x∈ordF L L.length) (m:Nat) (R:PV->Nat->Prop) (q:R (.bl false) m)=>IN (n:=m) (R:=R) (jc:=jc) (k:=f row) (X:=tbX (bump f x) (ordF L L.length)) Mr rr.2 (by omega) hp (λ_=>q) λ_ _=>MX Mr.n5 (MV M' nd pm hS pl (λ_ z=>absurd z (lt.far hx)) λ_=>q);have mo:=λ(m:Nat) (R:PV->Nat->Prop) hn h1 h2=>m_more (f:=f) (q:=q1) (n:=m) (R:=R) (k:=f row) (ps:=ps) (O:=ordF L L.length) (X:=papX s r jc.length f (ordF L L.length)) (by omega) hn lt.o.nd (by omega) ol pap_or h1 h2;rw[show(loP∘Tl.l) (⟨⟨s,r,row,jc⟩,ps,f,L⟩:Tl)=.tup [mtP s r,rowP row,rowP jc] from rfl,show thP (⟨⟨s,r,row,jc⟩,ps,f,L⟩:Tl)=thX (f row) ps (papX s r jc.length f (ordF L L.length)) from rfl];generalize papX s r jc.length f (ordF L L.length)=X at *;have kr:=M8 row;have ix0:∀(R:PV->Prop),R (.int (f row:Nat))->wIx (thX (f row) ps X) (.int 0) R:=λR q=>q;generalize hTH:thX (f row) ps X=TH at *;refine⟨rfl,rfl,?_⟩;dsimp only[gCn,gN,gNl,List.set];refine D2 λV hV=>?_;walk_at "pu";refine mr _ _ (if_f rfl (ix0 _ (mn _ _ λLL nd' all=>?_)));have gx:=Q5 (f:=f) ((all row).mpr pm);dsimp only;rw[kr];dsimp only;rw[gx];dsimp only[vI];refine gd2 rfl rfl (if_f (by rw[Bc,ju rfl];rfl) ?_);clear gx all nd' mn ix0;obtain⟨z,hz⟩:=rep_bl false
   have fin:∀(W:pS),W=qSeq (qIfS (qB (qOp DC (B6 Bi (A1 (qV 6) (A1 (qV 7) (A1 (qV 8) (A1 (qV 9) qNil))))) (qC (.bl true)))) (qRet (qC (.bl false))) qNx)
       (qIfS (qB (qOp (wNe 4) (qUn Bd (B6 Bi (A1 (qV 6) (A1 (qV 7) (A1 (qV 8) (A1 (qV 10) qNil)))))) (qUn Bd (B6 Cv (A1 (qV 6) (A1 (qV 7) (A1 (qV 8) (A1 (qV 10) qNil)))))))) (qRet (qC (.bl false))) qNx)->∀(D:Q4) (OD:PV) (n':Nat),D.nx=N->n'<=m'+2->(∀(R:PV->Nat->Prop),R (.bl false) n'->Bi [mtP s r,rowP row,rowP jc,OD] n' R)->(∀(R:PV->Nat->Prop),R (.bl false) n'->Cv [mtP s r,rowP row,rowP jc,OD] n' R)->W D [some (.v (.scr ns)),some (.v (.lst AA)),some (.v (.lst PO)),some (.v (.pot q1)),s4,some (.v (.lst BB)),some (.v (mtP s r)),some (.v (rowP row)),some (.v (rowP jc)),some (.v TH),some (.v OD)] n':=λW hW D OD n' hD hn' o1 o2=>by
     subst hW hD;walk_at "pu";refine ms _ _ (if_f rfl (o1 _ (hz _ (o2 _ (hz _ ?_)))));show(if(!eqP (.str z) (.str z))=true then _ else _);exact if_f (by rw[Aw,ju rfl];rfl) (hN _ _ ⟨_,_,_,_,_,_,rfl,by omega⟩)
   subst hV;refine D2 λV hV=>?_;walk_at "pu";refine mo _ _ (by omega) (λn' hn'=>?_) (λ_ x hx n' hn'=>?_)
   ·exact fin V hV _ _ n' rfl hn' (od1s n') (od1r n')
   ·exact fin V hV _ _ n' rfl hn' (od2s x hx n') (od2r x hx n')
  ·obtain⟨s3,s6,s7,s8,s9,s10,rfl,hm'⟩:=hI;subst hU
   rfl
end Tb
end
section
namespace L2
open PySem PySem.Spec PyProof.Rows
theorem Nb {X:Cx}:OpR X (U2 .Mult) (rI IntMulOk λi j=>.int (i*j)):=opI λ_ _ _ _ _ _ _ hc q=>mul_int q hc
end L2
namespace Tb
open PySem L2 Pu
section
variable {P:D3}{w:C3}{K:A7}{mg:Str->Option A3}{base:B5}
theorem Tu (F:Fn0 K mg "_law_begin" (top 31))(m_len:mg "len"=none)(m_abs:mg "abs"=none)(m_int:mg "int"=none):Kn P w K mg base "_law_begin" 1 ["_law_script","_law_k"] (Pu.Hd K):=by
 have sc:Z4 ["_law_script","_law_k","_law_cell","_law_seed","_law_one"] ["_law_script","_law_k"] (K2 (top 31)):=⟨rfl,rfl,rfl,by decide +kernel,rfl,by decide +kernel,by decide +kernel⟩;refine F.ok sc (λvs H Q E h=>?_) (λ_ _ _ _ _ _=>bd2 λ_ _=>rfl) (λf jp A outer s H vs Q E hr h=>?_)
 ·obtain⟨a,ns,k,rfl,_⟩:=h
  rfl
 obtain⟨a,ns,k,rfl,hS,hl63,h0,h1,q⟩:=h
 refine⟨_,(Z3 (Ai (i:=2) sc.nd rfl (Or.inl rfl) (NR (AY op_lt (pv 1) (Aj JB rfl m_len JK (D4 (pv 0) G0)) (D5 _)) (Ak Am (pv 0) (pv 1) (λ_ _=>rfl)) F6))
     (Z3 (Ai (i:=3) sc.nd rfl (Or.inl rfl) (J1 k6 F6 (J1 u0 F6 (pv 1))))
     (Z3 (Ji PassesOwn.never rfl (Jg (Jw Jz (pv 0) Ju (Jv F6))) (Jd (i:=4) sc.nd rfl (Or.inl rfl)) (De (Ai (i:=3) sc.nd rfl (Or.inl rfl) (J1 u4 (J1 k6 (J1 k6 (J1 u0 (pv 3) F6) (J1 u4 (pv 4) F6)) F6) F6))))
     (De (Es (Eu (D4 (J1 Nb (J1 u4 (Aj Gp rfl m_abs Gz (D4 (pv 2) G0)) (J1 Nb (J1 Gj F6 F6) (J1 Gj F6 F6))) (Gr Jl rfl m_int Dk (D4 (Gm op_ge (Aj Gp rfl m_abs Gz (D4 (pv 2) G0)) (J1 Gj F6 F6) (D5 _)) G0))) (D4 (pv 3) (D4 F6 G0))))))))),?_⟩
 refine Pd (λv=>∃c:Int,v=.int c) (λkey=>?_) ?_
 ·refine⟨_,rfl,_,rfl,a,_,rfl,.inl hS,_,_,rfl,rfl,_,rfl,?_⟩;refine ite2 (λc=>?_) (λc=>?_)
  ·have c':k<(((ns.map V.int).length:Nat):Int):=jz c;rw[B1] at c';obtain⟨v,qa⟩:=at_map (ns:=ns) h0 c';exact⟨_,rfl,_,rfl,a,_,_,_,rfl,rfl,hS,qa,key _ ⟨_,rfl⟩⟩
  ·exact key _ ⟨0,rfl⟩
 rintro v ⟨c,rfl⟩;refine⟨_,rfl,_,_,rfl,rfl,.inl ⟨by decide,by decide⟩,_,_,rfl,rfl,?_⟩;dsimp only[R5];have hk':0<=7919+104729*k/\7919+104729*k<2305843009213693951:=by omega
 generalize 7919+104729*k=sd0 at hk' ⊢;refine⟨_,rfl,63,rfl,a,_,rfl,hS,λp0 hp0=>?_⟩;have sm0:Same H (upd H p0 (.lst (cutV (ns.map V.int) none (some 63)))):=Same.lay1 hp0
 have cut:cutV (ns.map V.int) none (some 63)=ns.map V.int:=by
  unfold cutV;rw[HT.sIx_none,show(some (63:Int))=some ((63:Nat):Int) from rfl,HT.sIx_nat,List.drop_zero,B1,Eh hl63];exact T0 (by rw[B1];omega)
 rw[cut] at sm0 ⊢;refine⟨p0,rfl,⟨_,SqL.of F9⟩,?_⟩;refine Oa (xs:=ns.map V.int) (λi σ H'=>∃sd s4,σ=[some (.ref a),some (.int k),some (.int c),some (.int sd),s4]/\(0<=sd/\sd<2305843009213693951)/\H'=upd H p0 (.lst (ns.map V.int))) ⟨sd0,none,rfl,hk',rfl⟩ (λi σ H' _ h=>?_) (λi x σ H' ex h=>?_) (λσ H' h=>?_)
 ·obtain⟨sd,s4,rfl,_,rfl⟩:=h;exact SqL.of F9
 ·obtain⟨sd,s4,rfl,hsd,rfl⟩:=h
  obtain⟨y,ey,rfl⟩:∃y:Int,ns[i]?=some y/\V.int y=x:=by
   rw[K6] at ex;cases en:ns[i]? with
   |none=>rw[en] at ex;cases ex
   |some y=>rw[en] at ex;cases ex;exact⟨y,rfl,rfl⟩
  refine⟨_,rfl,_,_,rfl,rfl,.inl ⟨by omega,by omega⟩,_,rfl,_,_,rfl,rfl,(by show(0:Int)<2147483647;decide),_,_,rfl,rfl,_,_,rfl,rfl,_,_,rfl,rfl,(by show(0:Int)<2305843009213693951;decide),?_⟩;exact⟨_,_,rfl,⟨AR _ (by decide),BF _ (by decide)⟩,rfl⟩
 ·obtain⟨sd,s4,rfl,hsd,rfl⟩:=h;refine⟨_,rfl,_,rfl,_,_,rfl,rfl,⟨by decide,by decide,by decide⟩,_,_,rfl,rfl,⟨by decide,by decide,by decide⟩,_,_,rfl,rfl,(by show IntMulOk (10 ^ AS 60) (10 ^ AS 60);unfold IntMulOk;decide +kernel),_,_,rfl,rfl,(by show(0:Int)<10 ^ AS 60*10 ^ AS 60;decide +kernel),?_⟩;have m0:0<=(if c<0 then -c else c)%(10 ^ AS 60*10 ^ AS 60):=AR _ (by decide +kernel);refine⟨_,rfl,_,rfl,_,_,rfl,rfl,⟨by decide,by decide,by decide⟩,_,_,rfl,rfl,?_⟩;refine .inr ⟨_,rfl,?_⟩;generalize hb:(decide ((10:Int) ^ AS 18<=(if c<0 then -c else c)))=b;have hz:0<=(if b=true then(1:Int) else 0)/\(if b=true then(1:Int) else 0)<2 ^ 64:=by cases b <;> decide
  refine⟨_,_,rfl,rfl,?_⟩;generalize (if b=true then(1:Int) else 0)=z at hz ⊢;refine⟨(show CMul _ z from .inr ⟨by omega,hz.2⟩).ok,_,rfl,(by show 3<=B8;decide),λp hp=>?_⟩;exact q _ sm0 p _ _ hp ⟨Int.mul_nonneg m0 hz.1,by omega,by omega,by decide,by decide⟩
theorem Tv (F:Fn0 K mg "_law_take" (top 32)):Kn P w K mg base "_law_take" 1 ["_law_pot","_law_many"] (E7 K potL Cb):=by
 refine PJ ?_;have sc:Z4 ["_law_pot","_law_many","_law_digit","_law_turn","_law_mixed"] ["_law_pot","_law_many"] (K2 (top 32)):=⟨rfl,rfl,rfl,by decide +kernel,rfl,by decide +kernel,by decide +kernel⟩;refine F.ok sc (λvs H Q E h=>?_) (λ_ _ _ _ _ _=>bd2 λ_ _=>rfl) (λf jp A outer s H vs Q E hr h=>?_)
 ·obtain⟨p,own,seed,go,many,rfl,_⟩:=h
  rfl
 obtain⟨p,own,seed,go,many,rfl,hp,⟨o0,s0,s1,g0,g1⟩,g2,n0,n1,q⟩:=h
 refine⟨_,(Z3 (ps_if (AY op_gt (Ak Am (pv 0) F6 (λ_ _=>rfl)) F6 (D5 _)) (Z3 (Ai (i:=2) sc.nd rfl (Or.inl rfl) (J1 u4 (Ak Am (pv 0) F6 (λ_ _=>rfl)) (pv 1)))
     (Z3 (Gg (J1 Et (Ak Am (pv 0) F6 (λ_ _=>rfl)) (pv 1)) (Gf (pv 0) F6 Gv))
     (De (Es (pv 2))))) Jc)
     (Z3 (Gg (J1 k6 (Ak Am (pv 0) F6 (λ_ _=>rfl)) F6) (Gf (pv 0) F6 Gv))
     (Z3 (Ai (i:=3) sc.nd rfl (Or.inl rfl) (Ak Am (pv 0) F6 (λ_ _=>rfl)))
     (Z3 (Ai (i:=4) sc.nd rfl (Or.inl rfl) (J1 u4 (J1 u0 (J1 k6 (J1 k6 (Ak Am (pv 0) F6 (λ_ _=>rfl)) (J1 u0 (J1 u0 F6 (pv 3)) (pv 3))) (J1 u0 F6 (pv 3))) F6) F6))
     (Z3 (Ai (i:=4) sc.nd rfl (Or.inl rfl) (J1 u4 (J1 u0 (pv 4) (J1 k6 (J1 k6 (J1 u4 (pv 4) F6) (J1 u0 F6 (pv 3))) F6)) F6))
     (De (Es (J1 u4 (J1 k6 (J1 Et (pv 4) F6) (J1 Et (pv 4) F6)) (pv 1))))))))),?_⟩
 refine⟨_,rfl,p,_,0,_,rfl,rfl,SqL.of hp,rfl,_,_,rfl,rfl,_,rfl,?_⟩;refine ite2 (λc=>?_) (λc=>?_)
 ·refine⟨_,rfl,p,_,0,_,rfl,rfl,SqL.of hp,rfl,_,rfl,_,_,rfl,rfl,n0,?_⟩;refine⟨_,rfl,p,_,0,_,rfl,rfl,SqL.of hp,rfl,_,rfl,_,_,rfl,rfl,⟨n0,by omega⟩,?_⟩;refine⟨_,rfl,p,_,0,0,rfl,rfl,hp,rfl,?_⟩;refine⟨_,rfl,?_⟩;exact q _ _ _ _ (AR _ (by omega)) (BF _ n0) ⟨Int.ediv_nonneg o0 (by omega),s0,s1,g0,g1⟩ (by omega)
 ·refine⟨_,rfl,p,_,2,_,rfl,rfl,SqL.of hp,rfl,_,_,rfl,rfl,?_⟩;refine⟨_,rfl,p,_,2,2,rfl,rfl,hp,rfl,?_⟩;refine⟨_,rfl,p,_,2,_,rfl,rfl,SqL.of F9,rfl,?_⟩;refine⟨_,rfl,p,_,1,_,rfl,rfl,SqL.of F9,rfl,_,rfl,_,_,rfl,rfl,.inl ⟨by decide,by decide⟩,_,rfl,_,_,rfl,rfl,.inr ⟨by omega,by omega⟩,_,_,rfl,rfl,?_⟩;refine⟨_,rfl,_,_,rfl,rfl,.inl ⟨by decide,by decide⟩,_,_,rfl,rfl,_,_,rfl,rfl,.inr ⟨by decide,by decide⟩,_,_,rfl,rfl,(by show(0:Int)<2305843009213693921;decide),?_⟩;dsimp only[R5];generalize (seed+65537*(go+1)*(go+1)+15485863*(go+1))*48271=y;have m0:=AR y (show(2305843009213693921:Int)≠0 by decide);have m1:=BF y (show(0:Int)<2305843009213693921 by decide);generalize y%2305843009213693921=z at m0 m1 ⊢;refine⟨_,rfl,_,rfl,_,_,rfl,rfl,(by show(0:Int)<1000003;decide),_,rfl,_,_,rfl,rfl,.inl ⟨by decide,by decide⟩,_,_,rfl,rfl,_,_,rfl,rfl,_,_,rfl,rfl,.inl ⟨by omega,by omega⟩,_,_,rfl,rfl,(by show(0:Int)<2305843009213693907;decide),?_⟩;refine⟨_,rfl,_,_,rfl,rfl,⟨by decide,by decide⟩,_,rfl,_,_,rfl,rfl,⟨by decide,by decide⟩,_,_,rfl,rfl,_,rfl,_,_,rfl,rfl,n0,?_⟩;exact q _ _ _ _ (AR _ (by omega)) (BF _ n0) ⟨o0,s0,s1,by omega,by omega⟩ (by omega)
end
end Tb
end
section
namespace Pu
open PySem PySem.Spec L2
section
variable {T:PotK}{ι:Type}{K:A7}{F:ι->Cx}{e:Expr}{es:List Expr}{st:Stmt}{pe:pE}{pl:pA}{pos:Pos}{np:Bool}{x:Str}
theorem qv (i:Nat)(h:∀z,EW (F z) (.Name x pos) (tVar i):=by exact λ_=>vw _):QE T K F (.Name x pos) (qV i):=qe_var i h
theorem qf {p:Pos}{f:pF}{ps:List Str}{k j:Nat}{P:D3}{w:C3}{K0:A7}{mg:Str->Option A3}{base:B5}{A:E8}(hG:Kn P w K0 mg base x k ps (E7 K T f))(hr:Room j A)(ha:QA T K F (e::es) pl)(hF:∀z,(F z).prog=P/\(F z).w=w/\(F z).K=K0/\(F z).mg=mg/\(F z).base=base/\(F z).A=A:=by exact λ_=>⟨rfl,rfl,rfl,rfl,rfl,rfl⟩)(hk:k<=j:=by decide)(hg:∀z,Gl (F z) x:=by intro _;rfl)(hdb:(x == ("__debug__":Str))=false:=by decide)(hs:D8 e=true:=by rfl)(hpl:∀z,(backTo pos (E2 es (F z).env)).any (·.1)=false:=by intro _;rfl):QE T K F (.Call (.Name x p) (e::es) [] pos) (B6 f pl):=qe_fn (λz=>by obtain⟨h1,h2,h3,h4,h5,_⟩:=hF z;rw[h1,h2,h3,h4,h5];exact hG) (λz=>by rw[(hF z).2.2.2.2.2];exact hr) hk hg ha hdb hs hpl
theorem gn (i:Nat){N:List Str}(hN:N.Nodup)(hNF:∀z,(F z).N=N:=by exact λ_=>rfl)(hi:∀z,(F z).N[i]?=some x:=by intro _;rfl)(hx:∀z,Loc (F z).env.scope x:=by intro _;first|exact Or.inl rfl|exact Or.inr rfl)(hf:∀z,(F z).fn x=true\/(F z).env.scope.names.lookup x=some .local:=by intro _;first|exact .inl rfl|exact .inr rfl|assumption):QG K F (.Name x pos) (gN i):=Px λz=>Pw i (hNF z▸hN) (hi z) (hx z) (hf z)
theorem sws (i:Nat){pos':Pos}{N:List Str}(hN:N.Nodup)(hNF:∀z,(F z).N=N:=by exact λ_=>rfl)(hi:∀z,(F z).N[i]?=some x:=by intro _;rfl)(hx:∀z,Loc (F z).env.scope x:=by intro _;first|exact Or.inl rfl|exact Or.inr rfl)(hs:∀z,Y2 e (some (.Name x pos')) pos.line (F z).env=pure false:=by intro _;rfl)(hf:∀z,(F z).fn x=true\/(F z).env.scope.names.lookup x=some .local:=by intro _;first|exact .inl rfl|exact .inr rfl|assumption)(z:ι)(te:TE)(h:EW (F z) e te):SW (F z) (.Assign [.Name x pos'] e pos) (tAsg te (R5 i)):=Dt (hNF z▸hN) (hi z) (hx z) (hs z) (hf z) te h
end
section
variable {P:D3}{w:C3}{K:A7}{mg:Str->Option A3}{base:B5}{T:PotK}{x:Str}{st:Stmt}{N ps:List Str}{k:Nat}{body:pS}
theorem fnk (F0:Fn0 K mg x st)(h:Z4 N ps (K2 st)->∀(f:A0) (jp:A3) (A:E8) (outer:List PySem.Env) (s:A5) (H:Hp) (E:XK),Room k (A.deeper (FU x (K2 st) s.heap.objs.size f jp))->
     QSs T false K (λ_:Unit=>(cxOf CX0 P w K mg base N x (K2 st) f jp A outer s H E).nox) (T5 st) body) (sc:Z4 N ps (K2 st):=by exact⟨rfl,rfl,rfl,by decide +kernel,rfl,by decide +kernel,by decide +kernel⟩)
   (bd:∀(kV doc pm:A3) (an:Option A0) (jp ct:A3) (us:List A3),us.length=ps.length->bindArgs (W7 x x (k7 st) (T5 st) (K2 st) .none kV doc pm an jp ct) ⟨us,[]⟩=pure (ps.zip us):=by intro _ _ _ _ _ _;first|exact bd1 λ_=>rfl|exact bd2 λ_ _=>rfl|exact bd3 λ_ _ _=>rfl|exact bd4 λ_ _ _ _=>rfl|exact bd5 λ_ _ _ _ _=>rfl) :
   Kn P w K mg base x (k+1) ps (E7 K T (fnP N ps body)):=fn_ok F0 sc bd (h sc)
end
end Pu
end
section
namespace Tb
open PySem L2 Pu
section
variable (P:D3)(w:C3)(K:A7)(mg:Str->Option A3)(base:B5)(Pt:A0)
abbrev IQ:Prop:=Kn P w K mg base "may_count_pairs" 1 ["meeting"] (E7 K potL Fk)
abbrev IR:Prop:=Kn P w K mg base "may_count_rounds" 1 ["meeting","n"] (E7 K potL Fm)
abbrev Nc:Prop:=Kn P w K mg base "races_of" 1 ["meeting","n"] (E7 K potL HS)
abbrev Nd:Prop:=Kn P w K mg base "span" 1 ["meeting","n","k"] (E7 K potL HU)
abbrev DS:Prop:=Kn P w K mg base "touch_places" 2 ["meeting","n"] (E7 K potL p5)
abbrev Bn:Prop:=Kn P w K mg base "exchanged" 1 ["row","one","other"] (E7 K potL T7)
abbrev Nf:Prop:=Kn P w K mg base "numbers_to" 3 ["meeting","other"] (E7 K potL HV)
abbrev Ng:Prop:=Kn P w K mg base "touches_by_numbers" 3 ["meeting","row","numbers"] (E7 K potL HW)
abbrev IS:Prop:=Kn P w K mg base "apart_by" 1 ["row","other"] (E7 K potL Fn)
abbrev Nh:Prop:=Kn P w K mg base "touches_by_pairs" 2 ["row","other"] (E7 K potL HX)
abbrev Ni:Prop:=Kn P w K mg base "touches_by_rounds" 2 ["row","other"] (E7 K potL HY)
abbrev IT:Prop:=Kn P w K mg base "rounds_of" 1 ["row","other"] (E7 K potL DJ)
abbrev IU:Prop:=Kn P w K mg base "all_rows" 1 ["boats"] (E7 K potL Fo)
abbrev Nj:Prop:=Kn P w K mg base "fewest" 4 ["meeting","row","other"] (E7 K potL DK)
abbrev FH:Prop:=Kn P w K mg base "_law_take" 1 ["_law_pot","_law_many"] (E7 K potL Cb)
abbrev Nk:Prop:=Kn P w K mg base "_law_more" 2 ["_law_pot","_law_thing"] (E7 K potL HZ)
abbrev Tw:Prop:=Kn P w K mg base "_law_begin" 1 ["_law_script","_law_k"] (Hd K)
abbrev Nl:Prop:=Kn P w K mg base "_law_boats" 2 ["_law_pot","_law_many"] (E7 K potL Fp)
abbrev Nm:Prop:=Kn P w K mg base "_law_goal" 2 ["_law_pot","_law_row"] (E7 K potL Fq)
abbrev Nn:Prop:=Kn P w K mg base "_law_lot" 3 ["_law_pot","_law_most"] (E7 K potL H_)
abbrev No:Prop:=Kn P w K mg base "is_text" 1 ["thing","text"] (E7 K potL DL)
abbrev Np:Prop:=Kn P w K mg base "may_have_table" 1 ["n"] (E7 K potL Ia)
abbrev IV:Prop:=Kn P w K mg base "is_whole" 1 ["thing","low","high"] (E7 K potL DM)
abbrev Nq:Prop:=Kn P w K mg base "shows_table" 3 ["meeting","row","other","many","thing"] (E7 K potL Fs)
abbrev Nr:Prop:=Kn P w K mg base "shows_paper" 4 ["meeting","row","other","many","thing"] (E7 K potL DN)
abbrev Nt:Prop:=Kn P w K mg base "leads_there" 3 ["meeting","row","other","pairs"] (E7 K potL Ie)
abbrev Nu:Prop:=Kn P w K mg base "is_boat" 1 ["thing"] (E7 K potL Ih)
abbrev Nv:Prop:=Kn P w K mg base "is_pair_of" 2 ["row","thing"] (E7 K potL Ii)
abbrev Nw:Prop:=Kn P w K mg base "shows_touches" 4 ["meeting","row","other","thing"] (E7 K potL Ij)
abbrev Nx:Prop:=Kn P w K mg base "shows_fewest" 5 ["meeting","row","other","thing"] (E7 K potL Bi)
abbrev Ny:Prop:=Kn P w K mg base "_law_orders" 1 ["_law_some"] (E7 K potL Ik)
abbrev FI:Prop:=Kn P w K mg base "_law_is_pair" 1 ["_law_meeting","_law_p","_law_q"] (E7 K potL Cs)
abbrev FJ:Prop:=Kn P w K mg base "_law_exchanged" 1 ["_law_row","_law_p","_law_q"] (E7 K potL Cu)
abbrev Nz:Prop:=Kn P w K mg base "_law_table_right" 2 ["_law_meeting","_law_row","_law_other","_law_many","_law_numbers_here"] (E7 K potL Fu)
abbrev NA:Prop:=Kn P w K mg base "_law_apart" 1 ["_law_row","_law_other"] (E7 K potL Il)
abbrev NB:Prop:=Kn P w K mg base "_law_rounds" 1 ["_law_row","_law_other"] (E7 K potL Fv)
abbrev NC:Prop:=Kn P w K mg base "_law_paper_right" 3 ["_law_meeting","_law_row","_law_other","_law_many","_law_paper"] (E7 K potL DO)
abbrev ND:Prop:=Kn P w K mg base "_law_led" 2 ["_law_meeting","_law_row","_law_touches"] (E7 K potL Im)
abbrev NE:Prop:=Kn P w K mg base "_law_right" 4 ["_law_meeting","_law_row","_law_other","_law_thing"] (E7 K potL Cv)
abbrev NF:Prop:=Kn P w K mg base "_law_numbers" 2 ["_law_meeting","_law_other"] (E7 K potL Io)
end
section
variable {P:D3}{w:C3}{K:A7}{mg:Str->Option A3}{base:B5}{Pt cd:A0}
theorem Tx (F0:Fn0 K mg "may_count_pairs" (top 15)):IQ P w K mg base:=fnk F0 λsc _ _ _ _ _ _ _ hr=>(B4 (C2 (M3 (cEq 4 λ_=>hr) (C5 (qv 0) B0) (QE.r B0) (D5 _))))
theorem Ty (F0:Fn0 K mg "may_count_rounds" (top 16)):IR P w K mg base:=fnk F0 λsc _ _ _ _ _ _ _ hr=>(B4 (C2 (P3 (M3 cLe (qv 1) (QE.r (C5 (qv 0) B0)) (D5 _)) (X5 (M3 cLe (qv 1) (QE.r (G9 (C5 (qv 0) B0) B0)) (D5 _))))))
theorem Tz (F0:Fn0 K mg "races_of" (top 5)):Nc P w K mg base:=fnk F0 λsc _ _ _ _ _ _ _ hr=>(B2 (D9 2 (sws 2 sc.nd) (C5 (qv 0) B0))
   (B4 (C2 (JN (l6 (G9 (qv 1) (qv 2)) B0) (qv 2)))))
theorem k_span (F0:Fn0 K mg "span" (top 6))(m9:mg "min"=none):Nd P w K mg base:=fnk F0 λsc _ _ _ _ _ _ _ hr=>(B2 (D9 3 (sws 3 sc.nd) (C5 (qv 0) B0))
   (B2 (D9 4 (sws 4 sc.nd) (EB (qv 2) (qv 3)))
   (B4 (C2 (L4 (A4 (qv 4) (A4 (GP (λ_=>rfl) (λ_=>rfl) (λ_=>m9) (G9 (qv 4) (qv 3)) (l6 (qv 1) B0)) B3)))))))
theorem TB (F0:Fn0 K mg "touch_places" (top 12))(g2:Nc P w K mg base)(g3:Nd P w K mg base)(m9:mg "min"=none)(m10:mg "range"=none)(m17:mg "tuple"=none):DS P w K mg base:=fnk F0 λsc _ _ _ _ _ _ _ hr=>(B2 (X9 2 (sws 2 sc.nd) (N3 B3))
   (B2 (L5 (λ_=>rfl) (As (λ_=>rfl) (λ_=>m10) (qf g2 hr (A4 (qv 0) (A4 (qv 1) B3)))) (gn 3 sc.nd) (B2 (EM (λ_=>Au) (qf g3 hr (A4 (qv 0) (A4 (qv 1) (A4 (qv 3) B3)))) (R7 (λ_=>rfl) (G4 (gn 4 sc.nd) (G4 (gn 5 sc.nd) R6))))
   (B4 (L5 (λ_=>rfl) (EJ (λ_=>rfl) (λ_=>m10) (qv 4) (qv 5)) (gn 6 sc.nd) (B2 (D9 7 (sws 7 sc.nd) (GP (λ_=>rfl) (λ_=>rfl) (λ_=>m9) (G9 (G9 (qv 6) B0) (C5 (qv 0) B0)) (qv 5)))
   (B4 (Qd 2 (λ_=>Kv (i:=2) sc.nd rfl (Or.inl rfl) Qc) (QN.ee (X8 (N:=["q","p"]) (cs:=[none,some 6]) (λ_=>Q2 rfl rfl rfl rfl ⟨rfl,trivial⟩ rfl rfl rfl) (λ_=>rfl) (EJ (λ_=>rfl) (λ_=>m10) (G9 (qv 6) B0) (G9 (qv 7) B0)) (gn 0 (show K7 (["q","p"]:List Str) by decide +kernel)) X7 (L4 (A4 (qv 1) (A4 (qv 0) B3))))))))))))
   (B4 (C2 (l7 (λ_=>rfl) (λ_=>m17) (X3 2 λ_=>vw 2))))))
theorem TC (F0:Fn0 K mg "exchanged" (top 7))(m8:mg "list"=none)(m17:mg "tuple"=none):Bn P w K mg base:=fnk F0 λsc _ _ _ _ _ _ _ hr=>(B2 (X9 3 (sws 3 sc.nd) (GO (λ_=>rfl) (λ_=>m8) (QE.r (qv 0))))
   (B2 (Hx 3 (λ_=>Au) (λ_ _ _ h1 h2=>Hw K rfl (Bb (vw 3) (by intro _;rfl) _ h1) (Bb (vw 3) (by intro _;rfl) _ h2)) (C5 (qv 0) (qv 2)) (C5 (qv 0) (qv 1)) (qv 1) (qv 2))
   (B4 (C2 (l7 (λ_=>rfl) (λ_=>m17) (X3 3 λ_=>vw 3))))))
theorem TD (F0:Fn0 K mg "numbers_to" (top 20))(g4:DS P w K mg base)(g5:Bn P w K mg base)(m7:mg "len"=none):Nf P w K mg base:=fnk F0 λsc _ _ _ _ _ _ _ hr=>(B2 (D9 2 (sws 2 sc.nd) (qf g4 hr (A4 (qv 0) (A4 (J0 (λ_=>rfl) (λ_=>m7) (QE.r (qv 1))) B3))))
   (B2 (RX 3 (λ_=>hr) (λ_=>Dt (i:=3) sc.nd rfl (Or.inl rfl)) (qv 1) B0)
   (B2 (D9 4 (sws 4 sc.nd) (QN.ee (N3 (A4 (qv 1) B3))))
   (B2 (Du (PL (QE.r (qv 4))) (B2 (X9 5 (sws 5 sc.nd) (N3 B3))
   (B2 (L5 (λ_=>rfl) (X6 (qv 4)) (gn 6 sc.nd) (B4 (L5 (λ_=>rfl) (U7 (qv 2)) (R7 (λ_=>rfl) (G4 (gn 7 sc.nd) (G4 (gn 8 sc.nd) R6))) (B2 (D9 9 (sws 9 sc.nd) (qf g5 hr (A4 (qv 6) (A4 (qv 7) (A4 (qv 8) B3)))))
   (B4 (G6 (Lp 3 (λ_=>hr) (λ_=>vw 3) (qv 9)) (B2 (KP 3 (λ_=>Hq (k8 hr) (vw 3)) (G9 (AB 3 (λ_=>hr) (λ_=>vw 3) (qv 6)) B0) (qv 9))
   (B4 (Z8 (λ_=>Z7) (B_ 5 (λ_=>vw 5) (qv 9))))) G5))))))
   (B4 (EO 5 (D9 4 (sws 4 sc.nd) (qv 5)))))))
   (B4 (HI 3 (C2 (qv 3))))))))
theorem TF (F0:Fn0 K mg "touches_by_numbers" (top 21))(g4:DS P w K mg base)(g5:Bn P w K mg base)(m7:mg "len"=none)(m17:mg "tuple"=none):Ng P w K mg base:=fnk F0 λsc _ _ _ _ _ _ _ hr=>(B2 (D9 3 (sws 3 sc.nd) (qf g4 hr (A4 (qv 0) (A4 (J0 (λ_=>rfl) (λ_=>m7) (QE.r (qv 1))) B3))))
   (B2 (D9 4 (sws 4 sc.nd) (qv 1))
   (B2 (X9 5 (sws 5 sc.nd) (N3 B3))
   (B2 (Du (J6 cGt (Az (λ_=>hr) (qv 2) (qv 4)) (QE.r B0) (D5 _)) (B2 (He 6 (Kx (N:=["pair","numbers","stands"]) (cs:=[none,some 2,some 4]) (λ_=>Q2 rfl rfl rfl rfl ⟨rfl,⟨rfl,trivial⟩⟩ rfl rfl rfl) (λ_=>rfl) (U7 (qv 3)) (gn 0 (show K7 (["pair","numbers","stands"]:List Str) by decide +kernel)) (BZ (J6 cLt (Az (λ_=>hr) (qv 1) (qf g5 hr (A4 (qv 2) (A4 (C5 (qv 0) B0) (A4 (C5 (qv 0) B0) B3))))) (QE.r (Az (λ_=>hr) (qv 1) (qv 2))) (D5 _))) (qv 0)) (λ_=>sc.nd) (λ_=>rfl) (λ_=>Or.inl rfl))
   (B2 (EM (λ_=>Au) (C5 (qv 6) B0) (R7 (λ_=>rfl) (G4 (gn 7 sc.nd) (G4 (gn 8 sc.nd) R6))))
   (B2 (Z8 (λ_=>Z7) (B_ 5 (λ_=>vw 5) (L4 (A4 (C5 (qv 4) (qv 8)) (A4 (C5 (qv 4) (qv 7)) B3)))))
   (B4 (D9 4 (sws 4 sc.nd) (qf g5 hr (A4 (qv 4) (A4 (qv 7) (A4 (qv 8) B3))))))))))
   (B4 (C2 (l7 (λ_=>rfl) (λ_=>m17) (X3 5 λ_=>vw 5))))))))
theorem TJ (F0:Fn0 K mg "apart_by" (top 13))(m4:mg "enumerate"=none)(m7:mg "len"=none):IS P w K mg base:=fnk F0 λsc _ _ _ _ _ _ _ hr=>(B2 (D9 2 (sws 2 sc.nd) (QN.ee (X8 (N:=["boat","other"]) (cs:=[none,some 1]) (λ_=>Q2 rfl rfl rfl rfl ⟨rfl,trivial⟩ rfl rfl rfl) (λ_=>rfl) (U7 (qv 0)) (gn 0 (show K7 (["boat","other"]:List Str) by decide +kernel)) X7 (o9 (qv 1) (qv 0)))))
   (B4 (C2 (J0 (λ_=>rfl) (λ_=>m7) (QE.r (QN.ee (Lb (N:=["at","goal","later","goals"]) (cs:=[none,none,none,some 2]) (λ_=>Q2 rfl rfl rfl rfl ⟨rfl,trivial⟩ rfl rfl rfl) (λ_=>rfl) (Ke (λ_=>rfl) (λ_=>m4) (qv 2)) (R7 (λ_=>rfl) (G4 (gn 0 (show K7 (["at","goal","later","goals"]:List Str) by decide +kernel)) (G4 (gn 1 (show K7 (["at","goal","later","goals"]:List Str) by decide +kernel)) R6))) (X6 (Ar (qv 3) (Aq (G9 (qv 0) B0)) Ap)) (gn 2 (show K7 (["at","goal","later","goals"]:List Str) by decide +kernel)) (BZ (J6 cLt (qv 2) (QE.r (qv 1)) (D5 _))) B0)))))))
theorem TK (F0:Fn0 K mg "touches_by_pairs" (top 18))(g5:Bn P w K mg base)(m4:mg "enumerate"=none)(m10:mg "range"=none)(m12:mg "reversed"=none)(m17:mg "tuple"=none):Nh P w K mg base:=fnk F0 λsc _ _ _ _ _ _ _ hr=>(B2 (D9 2 (sws 2 sc.nd) (qv 0))
   (B2 (X9 3 (sws 3 sc.nd) (N3 B3))
   (B2 (L5 (λ_=>rfl) (KC (λ_=>rfl) (λ_=>m4) (qv 1)) (R7 (λ_=>rfl) (G4 (gn 4 sc.nd) (G4 (gn 5 sc.nd) R6))) (B4 (L5 (λ_=>rfl) (RE (λ_=>rfl) (λ_=>m12) (λ_=>rfl) (λ_=>m10) (qv 4) (o9 (qv 2) (qv 5))) (gn 6 sc.nd) (B2 (Z8 (λ_=>Z7) (B_ 3 (λ_=>vw 3) (L4 (A4 (qv 5) (A4 (C5 (qv 2) (qv 6)) B3)))))
   (B4 (D9 2 (sws 2 sc.nd) (qf g5 hr (A4 (qv 2) (A4 (qv 6) (A4 (G9 (qv 6) B0) B3))))))))))
   (B4 (C2 (l7 (λ_=>rfl) (λ_=>m17) (X3 3 λ_=>vw 3)))))))
theorem TL (F0:Fn0 K mg "touches_by_rounds" (top 19))(g5:Bn P w K mg base)(m4:mg "enumerate"=none)(m17:mg "tuple"=none):Ni P w K mg base:=fnk F0 λsc _ _ _ _ _ _ _ hr=>(B2 (D9 2 (sws 2 sc.nd) (qv 0))
   (B2 (X9 3 (sws 3 sc.nd) (N3 B3))
   (B2 (L5 (λ_=>rfl) (KC (λ_=>rfl) (λ_=>m4) (qv 1)) (R7 (λ_=>rfl) (G4 (gn 4 sc.nd) (G4 (gn 5 sc.nd) R6))) (B4 (G6 (J6 (cNe 4 λ_=>hr) (C5 (qv 2) (qv 4)) (QE.r (qv 5)) (D5 _)) (B2 (Z8 (λ_=>Z7) (B_ 3 (λ_=>vw 3) (L4 (A4 (qv 5) (A4 (C5 (qv 2) (qv 4)) B3)))))
   (B4 (D9 2 (sws 2 sc.nd) (qf g5 hr (A4 (qv 2) (A4 (qv 4) (A4 (o9 (qv 2) (qv 5)) B3))))))) G5)))
   (B4 (C2 (l7 (λ_=>rfl) (λ_=>m17) (X3 3 λ_=>vw 3)))))))
theorem TM (F0:Fn0 K mg "rounds_of" (top 14))(m13:mg "set"=none):IT P w K mg base:=fnk F0 λsc _ _ _ _ _ _ _ hr=>(B2 (Rj 2 (λ_=>rfl) (λ_=>m13) (λ_=>Dt (i:=2) sc.nd rfl (Or.inl rfl)))
   (B2 (D9 3 (sws 3 sc.nd) B0)
   (B2 (L5 (λ_=>rfl) (U7 (qv 0)) (gn 4 sc.nd) (B2 (G6 (KW 2 (λ_=>vw 2) (qv 4)) (B4 (Qe 3 (λ_=>Kv (i:=3) sc.nd rfl (Or.inl rfl) Ob) B0)) G5)
   (B2 (D9 5 (sws 5 sc.nd) (qv 4))
   (B4 (Du (KW 2 (λ_=>vw 2) (qv 5)) (B2 (Z8 (λ_=>Z7) (Rm 2 (λ_=>vw 2) (qv 5)))
   (B4 (D9 5 (sws 5 sc.nd) (C5 (qv 1) (o9 (qv 0) (qv 5)))))))))))
   (B4 (C2 (qv 3))))))
theorem TN (F0:Fn0 K mg "all_rows" (top 9))(m7:mg "len"=none)(m10:mg "range"=none):IU P w K mg base:=fnk F0 λsc _ _ _ _ _ _ _ hr=>(B2 (D9 1 (sws 1 sc.nd) (QN.ee (N3 (A4 (L4 B3) B3))))
   (B2 (L5 (λ_=>rfl) (As (λ_=>rfl) (λ_=>m10) (J0 (λ_=>rfl) (λ_=>m7) (QE.r (qv 0)))) (gn 2 sc.nd) (B4 (He 1 (SA (N:=["row","boat","boats"]) (cs:=[none,none,some 0]) (λ_=>Q2 rfl rfl rfl rfl ⟨rfl,trivial⟩ rfl rfl rfl) (λ_=>rfl) (X6 (qv 1)) (gn 0 (show K7 (["row","boat","boats"]:List Str) by decide +kernel)) (X6 (qv 2)) (gn 1 (show K7 (["row","boat","boats"]:List Str) by decide +kernel)) (BZ (J6 (A_ 4 λ_=>hr) (qv 1) (QE.r (qv 0)) rfl)) (G9 (qv 0) (L4 (A4 (qv 1) B3)))) (λ_=>sc.nd) (λ_=>rfl) (λ_=>Or.inl rfl))))
   (B4 (C2 (qv 1)))))
theorem TQ (F0:Fn0 K mg "fewest" (top 22))(g0:IQ P w K mg base)(g9:Nh P w K mg base)(g8:IS P w K mg base)(g1:IR P w K mg base)(g10:Ni P w K mg base)(g11:IT P w K mg base)(g6:Nf P w K mg base)(g12:IU P w K mg base)(g7:Ng P w K mg base)(m7:mg "len"=none)(m14:mg "sorted"=none)(m17:mg "tuple"=none):Nj P w K mg base:=fnk F0 λsc _ _ _ _ _ _ _ hr=>(B2 (G6 (K3 (qf g0 hr (A4 (qv 0) B3))) (B4 (C2 (L4 (A4 (qf g8 hr (A4 (qv 1) (A4 (qv 2) B3))) (A4 (qf g9 hr (A4 (qv 1) (A4 (qv 2) B3))) (A4 (L4 (A4 N9 B3)) B3)))))) G5)
   (B2 (G6 (K3 (qf g1 hr (A4 (qv 0) (A4 (J0 (λ_=>rfl) (λ_=>m7) (QE.r (qv 1))) B3)))) (B4 (C2 (L4 (A4 (l6 (J0 (λ_=>rfl) (λ_=>m7) (QE.r (qv 1))) (qf g11 hr (A4 (qv 1) (A4 (qv 2) B3)))) (A4 (qf g10 hr (A4 (qv 1) (A4 (qv 2) B3))) (A4 (L4 (A4 N9 B3)) B3)))))) G5)
   (B2 (D9 3 (sws 3 sc.nd) (qf g6 hr (A4 (qv 0) (A4 (qv 2) B3))))
   (B2 (D9 4 (sws 4 sc.nd) (l7 (λ_=>rfl) (λ_=>m17) (QE.r (QN.ee (X8 (N:=["one","numbers"]) (cs:=[none,some 3]) (λ_=>Q2 rfl rfl rfl rfl ⟨rfl,trivial⟩ rfl rfl rfl) (λ_=>rfl) (X6 (qf g12 hr (A4 (QN.ee (HR (λ_=>rfl) (λ_=>m14) (QE.r (qv 1)))) B3))) (gn 0 (show K7 (["one","numbers"]:List Str) by decide +kernel)) X7 (Az (λ_=>hr) (qv 1) (qv 0)))))))
   (B4 (C2 (L4 (A4 (Az (λ_=>hr) (qv 3) (qv 1)) (A4 (qf g7 hr (A4 (qv 0) (A4 (qv 1) (A4 (qv 3) B3)))) (A4 (L4 (A4 N9 (A4 (qv 4) B3))) B3))))))))))
theorem TR (F0:Fn0 K mg "_law_more" (top 46))(g14:FH P w K mg base)(m7:mg "len"=none):Nk P w K mg base:=fnk F0 λsc _ _ _ _ _ _ _ hr=>(B2 (EM (λ_=>Au) (qv 1) (R7 (λ_=>rfl) (G4 (gn 2 sc.nd) (G4 (gn 3 sc.nd) (G4 (gn 4 sc.nd) R6)))))
   (B2 (G6 (QW.qt (JY (J6 (cEq 4 λ_=>hr) (J0 (λ_=>rfl) (λ_=>m7) (QE.r (qv 4))) (QE.r B0) (D5 _)) (JX (J6 (cEq 4 λ_=>hr) (qf g14 hr (A4 (qv 0) (A4 B0 B3))) (QE.r B0) (D5 _))))) (B2 (D9 5 (sws 5 sc.nd) (qf g14 hr (A4 (qv 0) (A4 (J0 (λ_=>rfl) (λ_=>m7) (QE.r (C5 (qv 4) B0))) B3))))
   (B4 (C2 (L4 (A4 (qv 2) (A4 (qv 3) (A4 (L4 (A4 (C5 (qv 4) B0) (A4 (G9 (G9 (Ar (C5 (qv 4) B0) Ap (Aq (qv 5))) (L4 (A4 (G9 (C5 (C5 (qv 4) B0) (qv 5)) B0) B3))) (Ar (C5 (qv 4) B0) (Aq (G9 (qv 5) B0)) Ap)) B3))) B3))))))) G5)
   (B4 (C2 (L4 (A4 (G9 (qv 2) B0) (A4 (G9 (qv 3) (Ar (qv 3) (Aq (GV B0)) Ap)) (A4 (qv 4) B3))))))))
theorem TU (F0:Fn0 K mg "_law_boats" (top 33))(g14:FH P w K mg base)(m7:mg "len"=none)(m10:mg "range"=none)(m17:mg "tuple"=none):Nl P w K mg base:=fnk F0 λsc _ _ _ _ _ _ _ hr=>(B2 (D9 2 (sws 2 sc.nd) N9)
   (B2 (Ba 3 4 (λ_=>v4 (i:=3) (j:=4) rfl sc.nd rfl rfl (by decide) rfl rfl rfl) (ql_v (qf g14 hr (A4 (qv 0) (A4 B0 B3)))) (ql_v (C5 (QN.ee (N3 (A4 B0 (A4 B0 (A4 B0 (A4 B0 (A4 B0 (A4 B0 (A4 B0 (A4 B0 B3)))))))))) (qf g14 hr (A4 (qv 0) (A4 B0 B3))))))
   (B2 (Ba 5 6 (λ_=>v4 (i:=5) (j:=6) rfl sc.nd rfl rfl (by decide) rfl rfl rfl) (ql_v (qf g14 hr (A4 (qv 0) (A4 B0 B3)))) (ql_v N9))
   (B2 (L5 (λ_=>rfl) (As (λ_=>rfl) (λ_=>m10) (qf g14 hr (A4 (qv 0) (A4 B0 B3)))) (gn 7 sc.nd) (B4 (D9 6 (sws 6 sc.nd) (G9 (qv 6) (C5 (qv 2) (qf g14 hr (A4 (qv 0) (A4 B0 B3))))))))
   (B2 (X9 8 (sws 8 sc.nd) (N3 B3))
   (B2 (L5 (λ_=>rfl) (As (λ_=>rfl) (λ_=>m10) (qv 1)) (gn 7 sc.nd) (B2 (D9 9 (sws 9 sc.nd) (C5 (qv 2) (JO (G9 (qv 3) (EB (qv 4) (qv 7))) B0)))
   (B2 (D9 10 (sws 10 sc.nd) (Ar (qv 6) Ap (Aq (JO (G9 (EB (qv 7) (qv 4)) (qv 3)) (G9 (J0 (λ_=>rfl) (λ_=>m7) (QE.r (qv 6))) B0)))))
   (B4 (Z8 (λ_=>Z7) (Ld 8 (λ_=>vw 8) (qf g14 hr (A4 (qv 0) (A4 (G9 (qv 7) B0) B3))) (C5 (QN.ee (N3 (A4 (G9 (qv 10) (qv 9)) (A4 (G9 (qv 9) (qv 10)) B3)))) (qv 5))))))))
   (B2 (L5 (λ_=>rfl) (As (λ_=>rfl) (λ_=>m10) (C5 (QN.ee (N3 (A4 B0 (A4 B0 (A4 B0 (A4 B0 (A4 B0 B3))))))) (qf g14 hr (A4 (qv 0) (A4 B0 B3))))) (gn 7 sc.nd) (B2 (D9 11 (sws 11 sc.nd) (C5 (QN.ee (N3 (A4 N9 (A4 N9 (A4 N9 (A4 N9 (A4 N9 (A4 N9 (A4 N9 B3))))))))) (qf g14 hr (A4 (qv 0) (A4 B0 B3)))))
   (B4 (G6 (J6 (A_ 4 λ_=>hr) (qv 11) (X3 8 λ_=>vw 8) rfl) (B4 (qs_put 8 (λ_=>Au) (qv 11) (λ_=>Bb (vw 8)) (qf g14 hr (A4 (qv 0) (A4 (qv 1) B3))))) G5))))
   (B4 (C2 (l7 (λ_=>rfl) (λ_=>m17) (X3 8 λ_=>vw 8)))))))))))
theorem TV (F0:Fn0 K mg "_law_goal" (top 34))(g14:FH P w K mg base)(m7:mg "len"=none)(m8:mg "list"=none)(m17:mg "tuple"=none):Nm P w K mg base:=fnk F0 λsc _ _ _ _ _ _ _ hr=>(B2 (Ba 2 3 (λ_=>v4 (i:=2) (j:=3) rfl sc.nd rfl rfl (by decide) rfl rfl rfl) (ql_v (qf g14 hr (A4 (qv 0) (A4 B0 B3)))) (ql_v (J0 (λ_=>rfl) (λ_=>m7) (QE.r (qv 1)))))
   (B2 (G6 (J6 cLt (qv 2) (QE.r B0) (D5 _)) (B2 (X9 4 (sws 4 sc.nd) (N3 B3))
   (B2 (L5 (λ_=>rfl) (U7 (qv 1)) (gn 5 sc.nd) (B4 (Z8 (λ_=>Z7) (Ld 4 (λ_=>vw 4) (qf g14 hr (A4 (qv 0) (A4 (G9 (J0 (λ_=>rfl) (λ_=>m7) (X3 4 λ_=>vw 4)) B0) B3))) (qv 5)))))
   (B4 (C2 (l7 (λ_=>rfl) (λ_=>m17) (X3 4 λ_=>vw 4)))))) G5)
   (B2 (Ba 6 7 (λ_=>v4 (i:=6) (j:=7) rfl sc.nd rfl rfl (by decide) rfl rfl rfl) (ql_v (qf g14 hr (A4 (qv 0) (A4 (qv 3) B3)))) (ql_v (qf g14 hr (A4 (qv 0) (A4 (qv 3) B3)))))
   (B2 (X9 4 (sws 4 sc.nd) (GO (λ_=>rfl) (λ_=>m8) (QE.r (qv 1))))
   (B2 (Hx 4 (λ_=>Au) (λ_ _ _ h1 h2=>Hw K rfl (Bb (vw 4) (by intro _;rfl) _ h1) (Bb (vw 4) (by intro _;rfl) _ h2)) (C5 (qv 1) (qv 7)) (C5 (qv 1) (qv 6)) (qv 6) (qv 7))
   (B4 (C2 (C5 (QN.ee (N3 (A4 (qe_rev (QE.r (qv 1))) (A4 (G9 (Ar (qv 1) (Aq (GV B0)) Ap) (Ar (qv 1) Ap (Aq (GV B0)))) (A4 (l7 (λ_=>rfl) (λ_=>m17) (X3 4 λ_=>vw 4)) B3))))) (l6 (qv 2) B0)))))))))
theorem TW (F0:Fn0 K mg "_law_lot" (top 45))(g14:FH P w K mg base)(g17:Nl P w K mg base)(g18:Nm P w K mg base):Nn P w K mg base:=fnk F0 λsc _ _ _ _ _ _ _ hr=>(B2 (D9 2 (sws 2 sc.nd) (C5 (QN.ee (N3 (A4 B0 (A4 B0 (A4 B0 (A4 B0 (A4 (qv 1) (A4 B0 (A4 B0 (A4 (qv 1) B3)))))))))) (qf g14 hr (A4 (qv 0) (A4 B0 B3)))))
   (B2 (D9 3 (sws 3 sc.nd) (L4 (A4 (G9 B0 (qf g14 hr (A4 (qv 0) (A4 B0 B3)))) (A4 (qf g14 hr (A4 (qv 0) (A4 B0 B3))) B3))))
   (B2 (G6 (J6 (cEq 4 λ_=>hr) (qf g14 hr (A4 (qv 0) (A4 B0 B3))) (QE.r B0) (D5 _)) (B4 (D9 3 (sws 3 sc.nd) (L4 (A4 (G9 B0 (qf g14 hr (A4 (qv 0) (A4 B0 B3)))) (A4 (G9 B0 (qf g14 hr (A4 (qv 0) (A4 B0 B3)))) B3))))) G5)
   (B2 (D9 4 (sws 4 sc.nd) (qf g17 hr (A4 (qv 0) (A4 (qv 2) B3))))
   (B4 (C2 (L4 (A4 (qv 3) (A4 (qv 4) (A4 (qf g18 hr (A4 (qv 0) (A4 (qv 4) B3))) B3))))))))))
theorem TX (F0:Fn0 K mg "is_text" (top 3))(m6:mg "isinstance"=none)(m15:mg "str"=none):No P w K mg base:=fnk F0 λsc _ _ _ _ _ _ _ hr=>(B4 (C2 (P3 (O1 (n:="str") (by decide) (λ_=>rfl) (λ_=>m6) (qv 0) (λ_=>tyw rfl m15 GA)) (X5 (M3 (cEq 4 λ_=>hr) (qv 0) (QE.r (qv 1)) (D5 _))))))
theorem TY (F0:Fn0 K mg "may_have_table" (top 17))(c0:Num0 mg "MOST_IN_TABLE" 5):Np P w K mg base:=fnk F0 λsc _ _ _ _ _ _ _ hr=>(B4 (C2 (M3 cLe (qv 0) (QE.r (JM (λ_=>c0) λ_=>rfl)) (D5 _))))
theorem TZ (F0:Fn0 K mg "is_whole" (top 2))(m2:mg "bool"=none)(m5:mg "int"=none)(m6:mg "isinstance"=none):IV P w K mg base:=fnk F0 λsc _ _ _ _ _ _ _ hr=>(B2 (G6 (QW.qt (N2 (L9 (K3 (O1 (n:="int") (by decide) (λ_=>rfl) (λ_=>m6) (qv 0) (λ_=>tyw rfl m5 Dk)))) (T6 (K3 (O1 (n:="bool") (by decide) (λ_=>rfl) (λ_=>m6) (qv 0) (λ_=>tyw rfl m2 GB)))))) (B4 (C2 M2)) G5)
   (B4 (C2 (JV cLe cLe (qv 1) (qv 0) (qv 2)))))
theorem T_ (F0:Fn0 K mg "shows_table" (top 27))(g12:IU P w K mg base)(g22:IV P w K mg base)(g4:DS P w K mg base)(g5:Bn P w K mg base)(m0:mg "abs"=none)(m1:mg "all"=none)(m3:mg "dict"=none)(m6:mg "isinstance"=none)(m7:mg "len"=none)(m14:mg "sorted"=none)(m17:mg "tuple"=none)(m18:mg "zip"=none):Nq P w K mg base:=fnk F0 λsc _ _ _ _ _ _ _ hr=>(B2 (D9 5 (sws 5 sc.nd) (qf g12 hr (A4 (QN.ee (HR (λ_=>rfl) (λ_=>m14) (QE.r (qv 1)))) B3)))
   (B2 (G6 (QW.qt (N2 (L9 (K3 (O1 (n:="tuple") (by decide) (λ_=>rfl) (λ_=>m6) (qv 4) (λ_=>tyw rfl m17 X2)))) (T6 (J6 (cNe 4 λ_=>hr) (J0 (λ_=>rfl) (λ_=>m7) (QE.r (qv 4))) (QE.r (J0 (λ_=>rfl) (λ_=>m7) (QE.r (qv 5)))) (D5 _))))) (B4 (C2 M2)) G5)
   (B2 (G6 (L9 (K3 (BX (λ_=>rfl) (λ_=>rfl) (λ_=>m1) (QE.r (QN.ee (X8 (N:=["part","rows"]) (cs:=[none,some 5]) (λ_=>Q2 rfl rfl rfl rfl ⟨rfl,trivial⟩ rfl rfl rfl) (λ_=>rfl) (U7 (qv 4)) (gn 0 (show K7 (["part","rows"]:List Str) by decide +kernel)) X7 (qf g22 hr (A4 (qv 0) (A4 B0 (A4 (J0 (λ_=>rfl) (λ_=>m7) (QE.r (qv 1))) B3)))))))))) (B4 (C2 M2)) G5)
   (B2 (Lu 6 true false (λ_=>rfl) (λ_=>Lk hr) (λ_=>rfl) (λ_=>m3) (λ_=>rfl) (λ_=>m18) (λ_=>Dt (i:=6) sc.nd rfl (Or.inr rfl)) (qv 5) (qv 4))
   (B2 (G6 (QW.qt (N2 (J6 (cNe 4 λ_=>hr) (AB 6 (λ_=>hr) (λ_=>vw 6) (qv 1)) (QE.r (qv 3)) (D5 _)) (T6 (J6 (cNe 4 λ_=>hr) (AB 6 (λ_=>hr) (λ_=>vw 6) (qv 2)) (QE.r B0) (D5 _))))) (B4 (C2 M2)) G5)
   (B2 (D9 7 (sws 7 sc.nd) (qf g4 hr (A4 (qv 0) (A4 (J0 (λ_=>rfl) (λ_=>m7) (QE.r (qv 1))) B3))))
   (B4 (HI 6 (C2 (BX (λ_=>rfl) (λ_=>rfl) (λ_=>m1) (QE.r (QN.ee (Lb (N:=["one","p","q","numbers","places"]) (cs:=[none,none,none,some 6,some 7]) (λ_=>Q2 rfl rfl rfl rfl ⟨rfl,⟨rfl,trivial⟩⟩ rfl rfl rfl) (λ_=>rfl) (X6 (qv 5)) (gn 0 (show K7 (["one","p","q","numbers","places"]:List Str) by decide +kernel)) (U7 (qv 4)) (R7 (λ_=>rfl) (G4 (gn 1 (show K7 (["one","p","q","numbers","places"]:List Str) by decide +kernel)) (G4 (gn 2 (show K7 (["one","p","q","numbers","places"]:List Str) by decide +kernel)) R6))) X7 (M3 cLe (Kb (λ_=>rfl) (λ_=>m0) (QE.r (l6 (Az (λ_=>hr) (qv 3) (qv 0)) (Az (λ_=>hr) (qv 3) (qf g5 hr (A4 (qv 0) (A4 (qv 1) (A4 (qv 2) B3)))))))) (QE.r B0) (D5 _)))))))))))))))
theorem Ua (F0:Fn0 K mg "shows_paper" (top 28))(g23:Nq P w K mg base)(g21:Np P w K mg base)(g20:No P w K mg base)(g8:IS P w K mg base)(g0:IQ P w K mg base)(g11:IT P w K mg base)(g1:IR P w K mg base)(m6:mg "isinstance"=none)(m7:mg "len"=none)(m17:mg "tuple"=none):Nr P w K mg base:=fnk F0 λsc _ _ _ _ _ _ _ hr=>(B2 (G6 (QW.qt (N2 (L9 (K3 (O1 (n:="tuple") (by decide) (λ_=>rfl) (λ_=>m6) (qv 4) (λ_=>tyw rfl m17 X2)))) (T6 (L9 (JW cLe cLe B0 (J0 (λ_=>rfl) (λ_=>m7) (QE.r (qv 4))) B0))))) (B4 (C2 M2)) G5)
   (B2 (D9 5 (sws 5 sc.nd) (J0 (λ_=>rfl) (λ_=>m7) (QE.r (qv 1))))
   (B2 (G6 (J6 (cEq 4 λ_=>hr) (J0 (λ_=>rfl) (λ_=>m7) (QE.r (qv 4))) (QE.r B0) (D5 _)) (B4 (C2 (P3 (qf g20 hr (A4 (C5 (qv 4) B0) (A4 N9 B3))) (P3 (qf g21 hr (A4 (qv 5) B3)) (X5 (qf g23 hr (A4 (qv 0) (A4 (qv 1) (A4 (qv 2) (A4 (qv 3) (A4 (C5 (qv 4) B0) B3))))))))))) G5)
   (B2 (G6 (K3 (qf g20 hr (A4 (C5 (qv 4) B0) (A4 N9 B3)))) (B4 (C2 (P3 (qf g0 hr (A4 (qv 0) B3)) (X5 (M3 (cEq 4 λ_=>hr) (qv 3) (QE.r (qf g8 hr (A4 (qv 1) (A4 (qv 2) B3)))) (D5 _)))))) G5)
   (B4 (C2 (P3 (qf g20 hr (A4 (C5 (qv 4) B0) (A4 N9 B3))) (P3 (qf g1 hr (A4 (qv 0) (A4 (qv 5) B3))) (X5 (M3 (cEq 4 λ_=>hr) (qv 3) (QE.r (l6 (qv 5) (qf g11 hr (A4 (qv 1) (A4 (qv 2) B3))))) (D5 _)))))))))))
theorem Ub (F0:Fn0 K mg "leads_there" (top 25))(g4:DS P w K mg base)(g5:Bn P w K mg base)(m7:mg "len"=none):Nt P w K mg base:=fnk F0 λsc _ _ _ _ _ _ _ hr=>(B2 (D9 4 (sws 4 sc.nd) (qf g4 hr (A4 (qv 0) (A4 (J0 (λ_=>rfl) (λ_=>m7) (QE.r (qv 1))) B3))))
   (B2 (D9 5 (sws 5 sc.nd) (qv 1))
   (B2 (L5 (λ_=>rfl) (U7 (qv 3)) (R7 (λ_=>rfl) (G4 (gn 6 sc.nd) (G4 (gn 7 sc.nd) R6))) (B2 (Ba 8 9 (λ_=>v4 (i:=8) (j:=9) rfl sc.nd rfl rfl (by decide) rfl rfl rfl) (ql_v (o9 (qv 5) (qv 7))) (ql_v (o9 (qv 5) (qv 6))))
   (B2 (G6 (J6 (A_ 4 λ_=>hr) (L4 (A4 (qv 8) (A4 (qv 9) B3))) (QE.r (qv 4)) rfl) (B4 (C2 M2)) G5)
   (B4 (D9 5 (sws 5 sc.nd) (qf g5 hr (A4 (qv 5) (A4 (qv 8) (A4 (qv 9) B3)))))))))
   (B4 (C2 (M3 (cEq 4 λ_=>hr) (qv 5) (QE.r (qv 2)) (D5 _)))))))
theorem Uc (F0:Fn0 K mg "is_boat" (top 4))(m1:mg "all"=none)(m6:mg "isinstance"=none)(m7:mg "len"=none)(m15:mg "str"=none)(c1:Num0 mg "MOST_LETTERS" 8):Nu P w K mg base:=fnk F0 λsc _ _ _ _ _ _ _ hr=>(B2 (G6 (QW.qt (N2 (L9 (K3 (O1 (n:="str") (by decide) (λ_=>rfl) (λ_=>m6) (qv 0) (λ_=>tyw rfl m15 GA)))) (T6 (L9 (JW cLe cLe B0 (J0 (λ_=>rfl) (λ_=>m7) (QE.r (qv 0))) (JM (λ_=>c1) λ_=>rfl)))))) (B4 (C2 M2)) G5)
   (B4 (C2 (BX (λ_=>rfl) (λ_=>rfl) (λ_=>m1) (QE.r (QN.ee (X8 (N:=["sign"]) (cs:=[none]) (λ_=>Q2 rfl rfl rfl rfl trivial rfl rfl rfl) (λ_=>rfl) (qi_str (qv 0)) (gn 0 (show K7 (["sign"]:List Str) by decide +kernel)) X7 (JV cLe cLe N9 (qv 0) N9))))))))
theorem Ud (F0:Fn0 K mg "is_pair_of" (top 24))(g26:Nu P w K mg base)(m1:mg "all"=none)(m6:mg "isinstance"=none)(m7:mg "len"=none)(m17:mg "tuple"=none):Nv P w K mg base:=fnk F0 λsc _ _ _ _ _ _ _ hr=>(B2 (G6 (QW.qt (N2 (L9 (K3 (O1 (n:="tuple") (by decide) (λ_=>rfl) (λ_=>m6) (qv 1) (λ_=>tyw rfl m17 X2)))) (T6 (J6 (cNe 4 λ_=>hr) (J0 (λ_=>rfl) (λ_=>m7) (QE.r (qv 1))) (QE.r B0) (D5 _))))) (B4 (C2 M2)) G5)
   (B4 (C2 (BX (λ_=>rfl) (λ_=>rfl) (λ_=>m1) (QE.r (QN.ee (X8 (N:=["part","row"]) (cs:=[none,some 0]) (λ_=>Q2 rfl rfl rfl rfl ⟨rfl,trivial⟩ rfl rfl rfl) (λ_=>rfl) (U7 (qv 1)) (gn 0 (show K7 (["part","row"]:List Str) by decide +kernel)) X7 (P3 (qf g26 hr (A4 (qv 0) B3)) (X5 (M3 (cIn 4 λ_=>hr) (qv 0) (QE.r (qv 1)) rfl))))))))))
theorem Ue (F0:Fn0 K mg "shows_touches" (top 26))(g27:Nv P w K mg base)(g25:Nt P w K mg base)(m1:mg "all"=none)(m6:mg "isinstance"=none)(m17:mg "tuple"=none):Nw P w K mg base:=fnk F0 λsc _ _ _ _ _ _ _ hr=>(B2 (G6 (QW.qt (N2 (L9 (K3 (O1 (n:="tuple") (by decide) (λ_=>rfl) (λ_=>m6) (qv 3) (λ_=>tyw rfl m17 X2)))) (T6 (L9 (K3 (BX (λ_=>rfl) (λ_=>rfl) (λ_=>m1) (QE.r (QN.ee (X8 (N:=["part","row"]) (cs:=[none,some 1]) (λ_=>Q2 rfl rfl rfl rfl ⟨rfl,trivial⟩ rfl rfl rfl) (λ_=>rfl) (U7 (qv 3)) (gn 0 (show K7 (["part","row"]:List Str) by decide +kernel)) X7 (qf g27 hr (A4 (qv 1) (A4 (qv 0) B3)))))))))))) (B4 (C2 M2)) G5)
   (B4 (C2 (qf g25 hr (A4 (qv 0) (A4 (qv 1) (A4 (qv 2) (A4 (qv 3) B3))))))))
theorem Uf (F0:Fn0 K mg "shows_fewest" (top 29))(g22:IV P w K mg base)(g28:Nw P w K mg base)(g24:Nr P w K mg base)(m6:mg "isinstance"=none)(m7:mg "len"=none)(m17:mg "tuple"=none):Nx P w K mg base:=fnk F0 λsc _ _ _ _ _ _ _ hr=>(B2 (G6 (QW.qt (N2 (L9 (K3 (O1 (n:="tuple") (by decide) (λ_=>rfl) (λ_=>m6) (qv 3) (λ_=>tyw rfl m17 X2)))) (T6 (J6 (cNe 4 λ_=>hr) (J0 (λ_=>rfl) (λ_=>m7) (QE.r (qv 3))) (QE.r B0) (D5 _))))) (B4 (C2 M2)) G5)
   (B2 (EM (λ_=>Au) (qv 3) (R7 (λ_=>rfl) (G4 (gn 4 sc.nd) (G4 (gn 5 sc.nd) (G4 (gn 6 sc.nd) R6)))))
   (B2 (G6 (QW.qt (N2 (L9 (K3 (qf g28 hr (A4 (qv 0) (A4 (qv 1) (A4 (qv 2) (A4 (qv 5) B3))))))) (T6 (L9 (K3 (qf g22 hr (A4 (qv 4) (A4 (J0 (λ_=>rfl) (λ_=>m7) (QE.r (qv 5))) (A4 (J0 (λ_=>rfl) (λ_=>m7) (QE.r (qv 5))) B3))))))))) (B4 (C2 M2)) G5)
   (B4 (C2 (qf g24 hr (A4 (qv 0) (A4 (qv 1) (A4 (qv 2) (A4 (qv 4) (A4 (qv 6) B3)))))))))))
theorem Ug (F0:Fn0 K mg "_law_orders" (top 40))(m7:mg "len"=none)(m10:mg "range"=none):Ny P w K mg base:=fnk F0 λsc _ _ _ _ _ _ _ hr=>(B2 (D9 1 (sws 1 sc.nd) (QN.ee (N3 (A4 (L4 B3) B3))))
   (B2 (L5 (λ_=>rfl) (As (λ_=>rfl) (λ_=>m10) (J0 (λ_=>rfl) (λ_=>m7) (QE.r (qv 0)))) (gn 2 sc.nd) (B2 (X9 3 (sws 3 sc.nd) (N3 B3))
   (B2 (L5 (λ_=>rfl) (X6 (qv 1)) (gn 4 sc.nd) (B4 (Z8 (λ_=>Z7) (Ks 3 (λ_=>vw 3) (QN.ee (X8 (N:=["_law_boat","_law_one"]) (cs:=[none,some 4]) (λ_=>Q2 rfl rfl rfl rfl ⟨rfl,trivial⟩ rfl rfl rfl) (λ_=>rfl) (X6 (qv 0)) (gn 0 (show K7 (["_law_boat","_law_one"]:List Str) by decide +kernel)) (BZ (J6 (A_ 4 λ_=>hr) (qv 0) (QE.r (qv 1)) rfl)) (G9 (qv 1) (L4 (A4 (qv 0) B3)))))))))
   (B4 (EO 3 (D9 1 (sws 1 sc.nd) (qv 3)))))))
   (B4 (C2 (qv 1)))))
theorem Uh (F0:Fn0 K mg "_law_is_pair" (top 35)):FI P w K mg base:=fnk F0 λsc _ _ _ _ _ _ _ hr=>(B4 (C2 (P3 (M3 cLt (qv 1) (QE.r (qv 2)) (D5 _)) (P3 (M3 cLe (l6 (l6 (qv 2) (qv 1)) B0) (QE.r (C5 (qv 0) B0)) (D5 _)) (X5 (M3 cLe (qv 2) (QE.r (G9 (EB (JN (qv 1) (C5 (qv 0) B0)) (C5 (qv 0) B0)) (C5 (qv 0) B0))) (D5 _)))))))
theorem Ui (F0:Fn0 K mg "_law_exchanged" (top 36))(m8:mg "list"=none)(m17:mg "tuple"=none):FJ P w K mg base:=fnk F0 λsc _ _ _ _ _ _ _ hr=>(B2 (X9 3 (sws 3 sc.nd) (GO (λ_=>rfl) (λ_=>m8) (QE.r (qv 0))))
   (B2 (Hx 3 (λ_=>Au) (λ_ _ _ h1 h2=>Hw K rfl (Bb (vw 3) (by intro _;rfl) _ h1) (Bb (vw 3) (by intro _;rfl) _ h2)) (C5 (qv 0) (qv 2)) (C5 (qv 0) (qv 1)) (qv 1) (qv 2))
   (B4 (C2 (l7 (λ_=>rfl) (λ_=>m17) (X3 3 λ_=>vw 3))))))
theorem Uj (F0:Fn0 K mg "_law_table_right" (top 41))(g30:Ny P w K mg base)(g32:FJ P w K mg base)(g31:FI P w K mg base)(m0:mg "abs"=none)(m1:mg "all"=none)(m2:mg "bool"=none)(m3:mg "dict"=none)(m5:mg "int"=none)(m6:mg "isinstance"=none)(m7:mg "len"=none)(m10:mg "range"=none)(m14:mg "sorted"=none)(m17:mg "tuple"=none)(m18:mg "zip"=none):Nz P w K mg base:=fnk F0 λsc _ _ _ _ _ _ _ hr=>(B2 (Ba 5 6 (λ_=>v4 (i:=5) (j:=6) rfl sc.nd rfl rfl (by decide) rfl rfl rfl) (ql_v (qf g30 hr (A4 (QN.ee (HR (λ_=>rfl) (λ_=>m14) (QE.r (qv 1)))) B3))) (ql_v (J0 (λ_=>rfl) (λ_=>m7) (QE.r (qv 1)))))
   (B2 (G6 (QW.qt (N2 (L9 (K3 (O1 (n:="tuple") (by decide) (λ_=>rfl) (λ_=>m6) (qv 4) (λ_=>tyw rfl m17 X2)))) (T6 (J6 (cNe 4 λ_=>hr) (J0 (λ_=>rfl) (λ_=>m7) (QE.r (qv 4))) (QE.r (J0 (λ_=>rfl) (λ_=>m7) (QE.r (qv 5)))) (D5 _))))) (B4 (C2 M2)) G5)
   (B2 (G6 (L9 (K3 (BX (λ_=>rfl) (λ_=>rfl) (λ_=>m1) (QE.r (QN.ee (X8 (N:=["_law_one"]) (cs:=[none]) (λ_=>Q2 rfl rfl rfl rfl trivial rfl rfl rfl) (λ_=>rfl) (U7 (qv 4)) (gn 0 (show K7 (["_law_one"]:List Str) by decide +kernel)) X7 (P3 (O1 (n:="int") (by decide) (λ_=>rfl) (λ_=>m6) (qv 0) (λ_=>tyw rfl m5 Dk)) (P3 (qe_not (O1 (n:="bool") (by decide) (λ_=>rfl) (λ_=>m6) (qv 0) (λ_=>tyw rfl m2 GB))) (X5 (M3 cGe (qv 0) (QE.r B0) (D5 _))))))))))) (B4 (C2 M2)) G5)
   (B2 (Lu 7 true false (λ_=>rfl) (λ_=>Lk hr) (λ_=>rfl) (λ_=>m3) (λ_=>rfl) (λ_=>m18) (λ_=>Dt (i:=7) sc.nd rfl (Or.inl rfl)) (qv 5) (qv 4))
   (B2 (L5 (λ_=>rfl) (X6 (qv 5)) (gn 8 sc.nd) (B4 (L5 (λ_=>rfl) (As (λ_=>rfl) (λ_=>m10) (qv 6)) (gn 9 sc.nd) (B4 (L5 (λ_=>rfl) (EJ (λ_=>rfl) (λ_=>m10) (G9 (qv 9) B0) (qv 6)) (gn 10 sc.nd) (B4 (G6 (QW.qt (JY (K3 (qf g31 hr (A4 (qv 0) (A4 (qv 9) (A4 (qv 10) B3))))) (JX (J6 cGt (Kb (λ_=>rfl) (λ_=>m0) (QE.r (l6 (AB 7 (λ_=>hr) (λ_=>vw 7) (qv 8)) (AB 7 (λ_=>hr) (λ_=>vw 7) (qf g32 hr (A4 (qv 8) (A4 (qv 9) (A4 (qv 10) B3)))))))) (QE.r B0) (D5 _))))) (B4 (C2 M2)) G5)))))))
   (B4 (C2 (P3 (M3 (cEq 4 λ_=>hr) (AB 7 (λ_=>hr) (λ_=>vw 7) (qv 1)) (QE.r (qv 3)) (D5 _)) (X5 (M3 (cEq 4 λ_=>hr) (AB 7 (λ_=>hr) (λ_=>vw 7) (qv 2)) (QE.r B0) (D5 _)))))))))))
theorem Uk (F0:Fn0 K mg "_law_apart" (top 38))(m4:mg "enumerate"=none)(m7:mg "len"=none)(m16:mg "sum"=none):NA P w K mg base:=fnk F0 λsc _ _ _ _ _ _ _ hr=>(B2 (D9 2 (sws 2 sc.nd) (QN.ee (X8 (N:=["_law_boat","_law_other"]) (cs:=[none,some 1]) (λ_=>Q2 rfl rfl rfl rfl ⟨rfl,trivial⟩ rfl rfl rfl) (λ_=>rfl) (U7 (qv 0)) (gn 0 (show K7 (["_law_boat","_law_other"]:List Str) by decide +kernel)) X7 (o9 (qv 1) (qv 0)))))
   (B4 (C2 (qe_sum (λ_=>rfl) (λ_=>rfl) (λ_=>m16) (QN.ee (RK (N:=["_law_k","_law_place","_law_places"]) (cs:=[none,none,some 2]) (λ_=>RH rfl rfl rfl ⟨rfl,trivial⟩ (λ_=>rfl) rfl (λ_=>rfl)) (λ_=>rfl) (Ke (λ_=>rfl) (λ_=>m4) (qv 2)) (R7 (λ_=>rfl) (G4 (gn 0 (show K7 (["_law_k","_law_place","_law_places"]:List Str) by decide +kernel)) (G4 (gn 1 (show K7 (["_law_k","_law_place","_law_places"]:List Str) by decide +kernel)) R6))) X7 (J0 (λ_=>rfl) (λ_=>m7) (QE.r (QN.ee (X8 (N:=["_law_later","_law_place"]) (cs:=[none,some 1]) (λ_=>Q2 rfl rfl rfl rfl ⟨rfl,trivial⟩ rfl rfl rfl) (λ_=>rfl) (X6 (Ar (qv 2) (Aq (qv 0)) Ap)) (gn 0 (show K7 (["_law_later","_law_place"]:List Str) by decide +kernel)) (BZ (J6 cLt (qv 0) (QE.r (qv 1)) (D5 _))) B0))))))))))
theorem Ul (F0:Fn0 K mg "_law_rounds" (top 39))(m5:mg "int"=none):NB P w K mg base:=fnk F0 λsc _ _ _ _ _ _ _ hr=>(B2 (RN 2 3 (λ_=>v4 (i:=2) (j:=3) rfl sc.nd rfl rfl (by decide) rfl rfl rfl))
   (B2 (L5 (λ_=>rfl) (U7 (qv 0)) (gn 4 sc.nd) (B2 (D9 3 (sws 3 sc.nd) (G9 (qv 3) (Pr (λ_=>rfl) (λ_=>m5) (QE.r (RL 2 (λ_=>hr) (λ_=>vw 2) (qv 4))))))
   (B2 (D9 5 (sws 5 sc.nd) (qv 4))
   (B4 (Du (RM 2 (λ_=>hr) (λ_=>vw 2) (qv 5)) (B2 (QZ 2 (λ_=>Hq (k8 hr) (vw 2)) M2 (qv 5))
   (B4 (D9 5 (sws 5 sc.nd) (C5 (qv 1) (o9 (qv 0) (qv 5)))))))))))
   (B4 (C2 (qv 3)))))
theorem Um (F0:Fn0 K mg "_law_paper_right" (top 42))(g33:Nz P w K mg base)(g34:NA P w K mg base)(g35:NB P w K mg base)(m6:mg "isinstance"=none)(m7:mg "len"=none)(m9:mg "min"=none)(m15:mg "str"=none)(m17:mg "tuple"=none):NC P w K mg base:=fnk F0 λsc _ _ _ _ _ _ _ hr=>(B2 (D9 5 (sws 5 sc.nd) (J0 (λ_=>rfl) (λ_=>m7) (QE.r (qv 1))))
   (B2 (G6 (QW.qt (N2 (L9 (K3 (O1 (n:="tuple") (by decide) (λ_=>rfl) (λ_=>m6) (qv 4) (λ_=>tyw rfl m17 X2)))) (N2 (J6 (A_ 4 λ_=>hr) (J0 (λ_=>rfl) (λ_=>m7) (QE.r (qv 4))) (QE.r (L4 (A4 B0 (A4 B0 B3)))) rfl) (T6 (L9 (K3 (O1 (n:="str") (by decide) (λ_=>rfl) (λ_=>m6) (C5 (qv 4) B0) (λ_=>tyw rfl m15 GA)))))))) (B4 (C2 M2)) G5)
   (B2 (G6 (J6 (cEq 4 λ_=>hr) (J0 (λ_=>rfl) (λ_=>m7) (QE.r (qv 4))) (QE.r B0) (D5 _)) (B4 (C2 (P3 (M3 (cEq 4 λ_=>hr) (C5 (qv 4) B0) (QE.r N9) (D5 _)) (P3 (M3 cLe (qv 5) (QE.r B0) (D5 _)) (X5 (qf g33 hr (A4 (qv 0) (A4 (qv 1) (A4 (qv 2) (A4 (qv 3) (A4 (C5 (qv 4) B0) B3))))))))))) G5)
   (B2 (G6 (J6 (cEq 4 λ_=>hr) (C5 (qv 4) B0) (QE.r N9) (D5 _)) (B4 (C2 (P3 (M3 (cEq 4 λ_=>hr) (C5 (qv 0) B0) (QE.r B0) (D5 _)) (X5 (M3 (cEq 4 λ_=>hr) (qv 3) (QE.r (qf g34 hr (A4 (qv 1) (A4 (qv 2) B3)))) (D5 _)))))) G5)
   (B4 (C2 (P3 (M3 (cEq 4 λ_=>hr) (C5 (qv 4) B0) (QE.r N9) (D5 _)) (P3 (M3 cLe (qv 5) (QE.r (GP (λ_=>rfl) (λ_=>rfl) (λ_=>m9) (C5 (qv 0) B0) (G9 (C5 (qv 0) B0) B0))) (D5 _)) (X5 (M3 (cEq 4 λ_=>hr) (qv 3) (QE.r (l6 (qv 5) (qf g35 hr (A4 (qv 1) (A4 (qv 2) B3))))) (D5 _)))))))))))
theorem Uo (F0:Fn0 K mg "_law_led" (top 37))(g31:FI P w K mg base)(g32:FJ P w K mg base)(m6:mg "isinstance"=none)(m7:mg "len"=none)(m17:mg "tuple"=none):ND P w K mg base:=fnk F0 λsc _ _ _ _ _ _ _ hr=>(B2 (G6 (L9 (K3 (O1 (n:="tuple") (by decide) (λ_=>rfl) (λ_=>m6) (qv 2) (λ_=>tyw rfl m17 X2)))) (B4 (C2 GI)) G5)
   (B2 (L5 (λ_=>rfl) (U7 (qv 2)) (gn 3 sc.nd) (B2 (G6 (QW.qt (N2 (L9 (K3 (O1 (n:="tuple") (by decide) (λ_=>rfl) (λ_=>m6) (qv 3) (λ_=>tyw rfl m17 X2)))) (N2 (J6 (cNe 4 λ_=>hr) (J0 (λ_=>rfl) (λ_=>m7) (QE.r (qv 3))) (QE.r B0) (D5 _)) (N2 (J6 (A_ 4 λ_=>hr) (C5 (qv 3) B0) (QE.r (qv 1)) rfl) (T6 (J6 (A_ 4 λ_=>hr) (C5 (qv 3) B0) (QE.r (qv 1)) rfl)))))) (B4 (C2 GI)) G5)
   (B2 (Ba 4 5 (λ_=>v4 (i:=4) (j:=5) rfl sc.nd rfl rfl (by decide) rfl rfl rfl) (ql_v (o9 (qv 1) (C5 (qv 3) B0))) (ql_v (o9 (qv 1) (C5 (qv 3) B0))))
   (B2 (G6 (L9 (K3 (qf g31 hr (A4 (qv 0) (A4 (qv 4) (A4 (qv 5) B3)))))) (B4 (C2 GI)) G5)
   (B4 (D9 1 (sws 1 sc.nd) (qf g32 hr (A4 (qv 1) (A4 (qv 4) (A4 (qv 5) B3))))))))))
   (B4 (C2 (qv 1)))))
theorem Up (F0:Fn0 K mg "_law_right" (top 43))(g37:ND P w K mg base)(g36:NC P w K mg base)(m2:mg "bool"=none)(m5:mg "int"=none)(m6:mg "isinstance"=none)(m7:mg "len"=none)(m17:mg "tuple"=none):NE P w K mg base:=fnk F0 λsc _ _ _ _ _ _ _ hr=>(B2 (G6 (QW.qt (N2 (L9 (K3 (O1 (n:="tuple") (by decide) (λ_=>rfl) (λ_=>m6) (qv 3) (λ_=>tyw rfl m17 X2)))) (N2 (J6 (cNe 4 λ_=>hr) (J0 (λ_=>rfl) (λ_=>m7) (QE.r (qv 3))) (QE.r B0) (D5 _)) (N2 (L9 (K3 (O1 (n:="int") (by decide) (λ_=>rfl) (λ_=>m6) (C5 (qv 3) B0) (λ_=>tyw rfl m5 Dk)))) (T6 (K3 (O1 (n:="bool") (by decide) (λ_=>rfl) (λ_=>m6) (C5 (qv 3) B0) (λ_=>tyw rfl m2 GB)))))))) (B4 (C2 M2)) G5)
   (B2 (G6 (QW.qt (N2 (L9 (K3 (O1 (n:="tuple") (by decide) (λ_=>rfl) (λ_=>m6) (C5 (qv 3) B0) (λ_=>tyw rfl m17 X2)))) (N2 (J6 (cNe 4 λ_=>hr) (J0 (λ_=>rfl) (λ_=>m7) (QE.r (C5 (qv 3) B0))) (QE.r (C5 (qv 3) B0)) (D5 _)) (T6 (J6 (cNe 4 λ_=>hr) (qf g37 hr (A4 (qv 0) (A4 (qv 1) (A4 (C5 (qv 3) B0) B3)))) (QE.r (qv 2)) (D5 _)))))) (B4 (C2 M2)) G5)
   (B4 (C2 (qf g36 hr (A4 (qv 0) (A4 (qv 1) (A4 (qv 2) (A4 (C5 (qv 3) B0) (A4 (C5 (qv 3) B0) B3))))))))))
theorem Uq (F0:Fn0 K mg "_law_numbers" (top 44))(g31:FI P w K mg base)(g32:FJ P w K mg base)(m7:mg "len"=none)(m10:mg "range"=none):NF P w K mg base:=fnk F0 λsc _ _ _ _ _ _ _ hr=>(B2 (SC 2 3 4 (λ_=>PH (i:=2) (j:=3) (k:=4) rfl sc.nd rfl rfl rfl (by decide) (by decide) (by decide) rfl rfl rfl rfl) (qls_t1 (λ_=>hr) (qv 1) B0 (KS (ql_o (N3 (A4 (qv 1) B3))) (KS (ql_v (J0 (λ_=>rfl) (λ_=>m7) (QE.r (qv 1)))) Re))))
   (B2 (X9 5 (sws 5 sc.nd) (N3 B3))
   (B2 (L5 (λ_=>rfl) (As (λ_=>rfl) (λ_=>m10) (qv 4)) (gn 6 sc.nd) (B4 (Z8 (λ_=>Z7) (Ks 5 (λ_=>vw 5) (QN.ee (X8 (N:=["_law_q","_law_p","_law_meeting"]) (cs:=[none,some 6,some 0]) (λ_=>Q2 rfl rfl rfl rfl ⟨rfl,⟨rfl,trivial⟩⟩ rfl rfl rfl) (λ_=>rfl) (EJ (λ_=>rfl) (λ_=>m10) (G9 (qv 6) B0) (qv 4)) (gn 0 (show K7 (["_law_q","_law_p","_law_meeting"]:List Str) by decide +kernel)) (BZ (K3 (qf g31 hr (A4 (qv 2) (A4 (qv 1) (A4 (qv 0) B3)))))) (L4 (A4 (qv 1) (A4 (qv 0) B3)))))))))
   (B2 (Du (Po (cNe 4 λ_=>hr) (X3 3 λ_=>vw 3) (QE.r (QN.ee (N3 B3))) (D5 _)) (B2 (D9 7 (sws 7 sc.nd) (PC 3 (λ_=>vw 3) B0))
   (B4 (EO 5 (L5 (λ_=>rfl) (X6 (qv 5)) (R7 (λ_=>rfl) (G4 (gn 6 sc.nd) (G4 (gn 8 sc.nd) R6))) (B2 (D9 9 (sws 9 sc.nd) (qf g32 hr (A4 (qv 7) (A4 (qv 6) (A4 (qv 8) B3)))))
   (B4 (G6 (Lp 2 (λ_=>hr) (λ_=>vw 2) (qv 9)) (B2 (KP 2 (λ_=>Hq (k8 hr) (vw 2)) (G9 (AB 2 (λ_=>hr) (λ_=>vw 2) (qv 7)) B0) (qv 9))
   (B4 (Z8 (λ_=>Z7) (B_ 3 (λ_=>vw 3) (qv 9))))) G5))))))))
   (B4 (HI 2 (C2 (qv 2))))))))
theorem k_law (F0:Fn0 K mg "law" (top 47))(g16:Tw P w K mg base)(g19:Nn P w K mg base)(g13:Nj P w K mg base)(g39:NF P w K mg base)(g38:NE P w K mg base)(g15:Nk P w K mg base)(g29:Nx P w K mg base)(m11:mg "repr"=none)(m18:mg "zip"=none):Kn P w K mg base "law" 6 ["_law_script"] (Ey K):=by
 have sc:Z4 ["_law_script","_law_lots","_law_pots","_law_pot","_law_most","_law_told","_law_meeting","_law_row","_law_other","_law_thing","_law_odd"] ["_law_script"] (K2 (top 47)):=⟨rfl,rfl,rfl,by decide +kernel,rfl,by decide +kernel,by decide +kernel⟩
 exact law_ok (T:=potL) F0 sc (λ_ _ _ _ _ _=>bd1 λ_=>rfl) (k:=5) (body:=Ip) (λ_ _ _ _ _ _ _ hr=>(B2 (Sw 1 2 (λ_=>v4 (i:=1) (j:=2) rfl sc.nd rfl rfl (by decide) rfl rfl rfl) (λ_=>g16) (λ_=>hr) (by decide) (λ_=>rfl) (qv 0) B0 (qv 0) B0)
   (B2 (L5 (λ_=>rfl) (qi_zip true true (λ_=>rfl) (λ_=>m18) (qv 2) (QN.ee (N3 (A4 B0 (A4 B0 B3))))) (R7 (λ_=>rfl) (G4 (gn 3 sc.nd) (G4 (gn 4 sc.nd) R6))) (B4 (Z8 (λ_=>Z7) (B_ 1 (λ_=>vw 1) (qf g19 hr (A4 (qv 3) (A4 (qv 4) B3)))))))
   (B2 (EO 1 (He 5 (Kx (N:=["_law_meeting","_law_row","_law_other"]) (cs:=[none,none,none]) (λ_=>Q2 rfl rfl rfl rfl trivial rfl rfl rfl) (λ_=>rfl) (X6 (qv 1)) (R7 (λ_=>rfl) (G4 (gn 0 (show K7 (["_law_meeting","_law_row","_law_other"]:List Str) by decide +kernel)) (G4 (gn 1 (show K7 (["_law_meeting","_law_row","_law_other"]:List Str) by decide +kernel)) (G4 (gn 2 (show K7 (["_law_meeting","_law_row","_law_other"]:List Str) by decide +kernel)) R6)))) X7 (qf g13 hr (A4 (qv 0) (A4 (qv 1) (A4 (qv 2) B3))))) (λ_=>sc.nd) (λ_=>rfl) (λ_=>Or.inl rfl)))
   (B2 (L5 (λ_=>rfl) (Sv (λ_=>rfl) (λ_=>m18) (qv 2) (qv 1) (qv 5)) (R7 (λ_=>rfl) (G4 (gn 3 sc.nd) (G4 (R7 (λ_=>rfl) (G4 (gn 6 sc.nd) (G4 (gn 7 sc.nd) (G4 (gn 8 sc.nd) R6)))) (G4 (gn 9 sc.nd) R6)))) (B2 (G6 (QW.qt (N2 (L9 (K3 (qf g38 hr (A4 (qv 6) (A4 (qv 7) (A4 (qv 8) (A4 (qv 9) B3))))))) (T6 (J6 (cNe 4 λ_=>hr) (C5 (qv 9) B0) (QE.r (Az (λ_=>hr) (qf g39 hr (A4 (qv 6) (A4 (qv 8) B3))) (qv 7))) (D5 _))))) (B4 (C2 M2)) G5)
   (B2 (D9 10 (sws 10 sc.nd) (qf g15 hr (A4 (qv 3) (A4 (qv 9) B3))))
   (B2 (G6 (J6 cNotB (qf g29 hr (A4 (qv 6) (A4 (qv 7) (A4 (qv 8) (A4 (qv 9) B3))))) (QE.r M2) (D5 _)) (B4 (C2 M2)) G5)
   (B4 (G6 (J6 (cNe 4 λ_=>hr) (Kp (λ_=>hr) (λ_=>rfl) (λ_=>m11) (QE.r (qf g29 hr (A4 (qv 6) (A4 (qv 7) (A4 (qv 8) (A4 (qv 10) B3))))))) (QE.r (Kp (λ_=>hr) (λ_=>rfl) (λ_=>m11) (QE.r (qf g38 hr (A4 (qv 6) (A4 (qv 7) (A4 (qv 8) (A4 (qv 10) B3)))))))) (D5 _)) (B4 (C2 M2)) G5))))))
   (B4 (C2 M2))))))) m_law
end
end Tb
open PySem PySem.W PyProof.Rows L2 Tb
set_option hygiene false in
local macro_rules | `(tactic| walk_at "F")=>`(tactic| (dsimp only [KOf];refine' fn0_mk KX G ?a ?l ?c ?k;(case a=>k_is);(case l=>k_is);(case c=>k_is);(case k=>k_is)))
set_option hygiene false in
local macro_rules | `(tactic| walk_at "Z")=>`(tactic| (refine PySem.W.mg_none_of (K:=KOf KX) KX G ?_;dsimp only [KOf];k_is))
abbrev Tb.rwp:=PySem.Challenge.rw_touchboats_k47_fewest_by_tables.prog
set_option maxRecDepth 100000 in
set_option maxHeartbeats 0 in
theorem PySem.Challenge.cw_touchboats_k47_fewest_by_tables_holds : PySem.Challenge.rw_touchboats_k47_fewest_by_tables.Holds := by
 w_on;o_law;k_head;(case hw=>w_witness2)
 k_fill
 refine Pe (l:=PySem.Challenge.rw_touchboats_k47_fewest_by_tables) (x:="_law_script") (k:=6) rfl rfl ⟨rfl,by decide,by decide,rfl⟩ (λw h Y=>PySem.W.kIn_of Y) ?F
 case F=>
  intro w mg h KX G;have f0:Fn0 (KOf KX) mg "may_count_pairs" (top 15):=by walk_at "F"
  have f1:Fn0 (KOf KX) mg "may_count_rounds" (top 16):=by walk_at "F"
  have f2:Fn0 (KOf KX) mg "races_of" (top 5):=by walk_at "F"
  have f3:Fn0 (KOf KX) mg "span" (top 6):=by walk_at "F"
  have f4:Fn0 (KOf KX) mg "touch_places" (top 12):=by walk_at "F"
  have f5:Fn0 (KOf KX) mg "exchanged" (top 7):=by walk_at "F"
  have f6:Fn0 (KOf KX) mg "numbers_to" (top 20):=by walk_at "F"
  have f7:Fn0 (KOf KX) mg "touches_by_numbers" (top 21):=by walk_at "F"
  have f8:Fn0 (KOf KX) mg "apart_by" (top 13):=by walk_at "F"
  have f9:Fn0 (KOf KX) mg "touches_by_pairs" (top 18):=by walk_at "F"
  have f10:Fn0 (KOf KX) mg "touches_by_rounds" (top 19):=by walk_at "F"
  have f11:Fn0 (KOf KX) mg "rounds_of" (top 14):=by walk_at "F"
  have f12:Fn0 (KOf KX) mg "all_rows" (top 9):=by walk_at "F"
  have f13:Fn0 (KOf KX) mg "fewest" (top 22):=by walk_at "F"
  have f14:Fn0 (KOf KX) mg "_law_take" (top 32):=by walk_at "F"
  have f15:Fn0 (KOf KX) mg "_law_more" (top 46):=by walk_at "F"
  have f16:Fn0 (KOf KX) mg "_law_begin" (top 31):=by walk_at "F"
  have f17:Fn0 (KOf KX) mg "_law_boats" (top 33):=by walk_at "F"
  have f18:Fn0 (KOf KX) mg "_law_goal" (top 34):=by walk_at "F"
  have f19:Fn0 (KOf KX) mg "_law_lot" (top 45):=by walk_at "F"
  have f20:Fn0 (KOf KX) mg "is_text" (top 3):=by walk_at "F"
  have f21:Fn0 (KOf KX) mg "may_have_table" (top 17):=by walk_at "F"
  have f22:Fn0 (KOf KX) mg "is_whole" (top 2):=by walk_at "F"
  have f23:Fn0 (KOf KX) mg "shows_table" (top 27):=by walk_at "F"
  have f24:Fn0 (KOf KX) mg "shows_paper" (top 28):=by walk_at "F"
  have f25:Fn0 (KOf KX) mg "leads_there" (top 25):=by walk_at "F"
  have f26:Fn0 (KOf KX) mg "is_boat" (top 4):=by walk_at "F"
  have f27:Fn0 (KOf KX) mg "is_pair_of" (top 24):=by walk_at "F"
  have f28:Fn0 (KOf KX) mg "shows_touches" (top 26):=by walk_at "F"
  have f29:Fn0 (KOf KX) mg "shows_fewest" (top 29):=by walk_at "F"
  have f30:Fn0 (KOf KX) mg "_law_orders" (top 40):=by walk_at "F"
  have f31:Fn0 (KOf KX) mg "_law_is_pair" (top 35):=by walk_at "F"
  have f32:Fn0 (KOf KX) mg "_law_exchanged" (top 36):=by walk_at "F"
  have f33:Fn0 (KOf KX) mg "_law_table_right" (top 41):=by walk_at "F"
  have f34:Fn0 (KOf KX) mg "_law_apart" (top 38):=by walk_at "F"
  have f35:Fn0 (KOf KX) mg "_law_rounds" (top 39):=by walk_at "F"
  have f36:Fn0 (KOf KX) mg "_law_paper_right" (top 42):=by walk_at "F"
  have f37:Fn0 (KOf KX) mg "_law_led" (top 37):=by walk_at "F"
  have f38:Fn0 (KOf KX) mg "_law_right" (top 43):=by walk_at "F"
  have f39:Fn0 (KOf KX) mg "_law_numbers" (top 44):=by walk_at "F"
  have f40:Fn0 (KOf KX) mg "law" (top 47):=by walk_at "F"
  have m0:mg "abs"=none:=by walk_at "Z"
  have m1:mg "all"=none:=by walk_at "Z"
  have m2:mg "bool"=none:=by walk_at "Z"
  have m3:mg "dict"=none:=by walk_at "Z"
  have m4:mg "enumerate"=none:=by walk_at "Z"
  have m5:mg "int"=none:=by walk_at "Z"
  have m6:mg "isinstance"=none:=by walk_at "Z"
  have m7:mg "len"=none:=by walk_at "Z"
  have m8:mg "list"=none:=by walk_at "Z"
  have m9:mg "min"=none:=by walk_at "Z"
  have m10:mg "range"=none:=by walk_at "Z"
  have m11:mg "repr"=none:=by walk_at "Z"
  have m12:mg "reversed"=none:=by walk_at "Z"
  have m13:mg "set"=none:=by walk_at "Z"
  have m14:mg "sorted"=none:=by walk_at "Z"
  have m15:mg "str"=none:=by walk_at "Z"
  have m16:mg "sum"=none:=by walk_at "Z"
  have m17:mg "tuple"=none:=by walk_at "Z"
  have m18:mg "zip"=none:=by walk_at "Z"
  have c0:Num0 mg "MOST_IN_TABLE" 5:=by
   refine' JL (K:=KOf KX) KX G ?a
   (case a=>(dsimp only[KOf];k_is))
  have c1:Num0 mg "MOST_LETTERS" 8:=by
   refine' JL (K:=KOf KX) KX G ?a
   (case a=>(dsimp only[KOf];k_is))
  refine⟨top 47,f40,λ_ _ _ _ _ _ s u=>.of_eq rfl,λbase kb nb=>?_⟩;have g0:=Tx (P:=rwp) (w:=w) (base:=base) f0;have g1:=Ty (P:=rwp) (w:=w) (base:=base) f1;have g2:=Tz (P:=rwp) (w:=w) (base:=base) f2;have g3:=k_span (P:=rwp) (w:=w) (base:=base) f3 m9;have g4:=TB (P:=rwp) (w:=w) (base:=base) f4 g2 g3 m9 m10 m17;have g5:=TC (P:=rwp) (w:=w) (base:=base) f5 m8 m17;have g6:=TD (P:=rwp) (w:=w) (base:=base) f6 g4 g5 m7;have g7:=TF (P:=rwp) (w:=w) (base:=base) f7 g4 g5 m7 m17;have g8:=TJ (P:=rwp) (w:=w) (base:=base) f8 m4 m7;have g9:=TK (P:=rwp) (w:=w) (base:=base) f9 g5 m4 m10 m12 m17;have g10:=TL (P:=rwp) (w:=w) (base:=base) f10 g5 m4 m17;have g11:=TM (P:=rwp) (w:=w) (base:=base) f11 m13;have g12:=TN (P:=rwp) (w:=w) (base:=base) f12 m7 m10;have g13:=TQ (P:=rwp) (w:=w) (base:=base) f13 g0 g9 g8 g1 g10 g11 g6 g12 g7 m7 m14 m17;have g14:=Tv (P:=rwp) (w:=w) (base:=base) f14;have g15:=TR (P:=rwp) (w:=w) (base:=base) f15 g14 m7;have g16:=Tu (P:=rwp) (w:=w) (base:=base) f16 m7 m0 m5;have g17:=TU (P:=rwp) (w:=w) (base:=base) f17 g14 m7 m10 m17;have g18:=TV (P:=rwp) (w:=w) (base:=base) f18 g14 m7 m8 m17;have g19:=TW (P:=rwp) (w:=w) (base:=base) f19 g14 g17 g18
  have g20:=TX (P:=rwp) (w:=w) (base:=base) f20 m6 m15;have g21:=TY (P:=rwp) (w:=w) (base:=base) f21 c0;have g22:=TZ (P:=rwp) (w:=w) (base:=base) f22 m2 m5 m6;have g23:=T_ (P:=rwp) (w:=w) (base:=base) f23 g12 g22 g4 g5 m0 m1 m3 m6 m7 m14 m17 m18;have g24:=Ua (P:=rwp) (w:=w) (base:=base) f24 g23 g21 g20 g8 g0 g11 g1 m6 m7 m17;have g25:=Ub (P:=rwp) (w:=w) (base:=base) f25 g4 g5 m7;have g26:=Uc (P:=rwp) (w:=w) (base:=base) f26 m1 m6 m7 m15 c1;have g27:=Ud (P:=rwp) (w:=w) (base:=base) f27 g26 m1 m6 m7 m17;have g28:=Ue (P:=rwp) (w:=w) (base:=base) f28 g27 g25 m1 m6 m17;have g29:=Uf (P:=rwp) (w:=w) (base:=base) f29 g22 g28 g24 m6 m7 m17;have g30:=Ug (P:=rwp) (w:=w) (base:=base) f30 m7 m10;have g31:=Uh (P:=rwp) (w:=w) (base:=base) f31;have g32:=Ui (P:=rwp) (w:=w) (base:=base) f32 m8 m17;have g33:=Uj (P:=rwp) (w:=w) (base:=base) f33 g30 g32 g31 m0 m1 m2 m3 m5 m6 m7 m10 m14 m17 m18;have g34:=Uk (P:=rwp) (w:=w) (base:=base) f34 m4 m7 m16;have g35:=Ul (P:=rwp) (w:=w) (base:=base) f35 m5;have g36:=Um (P:=rwp) (w:=w) (base:=base) f36 g33 g34 g35 m6 m7 m9 m15 m17;have g37:=Uo (P:=rwp) (w:=w) (base:=base) f37 g31 g32 m6 m7 m17;have g38:=Up (P:=rwp) (w:=w) (base:=base) f38 g37 g36 m2 m5 m6 m7 m17
  have g39:=Uq (P:=rwp) (w:=w) (base:=base) f39 g31 g32 m7 m10;exact k_law (P:=rwp) (w:=w) (base:=base) f40 g16 g19 g13 g39 g38 g15 g29 m11 m18
end
