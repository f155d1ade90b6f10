import PyProof.Rows.All
import Wide.All
import OpenK.AllK
import Wide.FinOn
import PyProof.EqAt
import PyProof.EqKinds
import PyProof.TupleCall
import PyProof.NeKinds
import PyProof.EnumMake
import PyProof.ConsumeWalk
import KE.LcSums
import PyProof.ReprLen
import PyProof.StrLawsRepr
import PyProof.Rows.StrNews2
import PyProof.Rows.SetFrom
import PyProof.WalksMore
import PyProof.StrLawsChain
import PyProof.StrLawsTight
import PyProof.StrLawsIdx
import PyProof.ZipIter
import PyProof.Draws
import PyProof.Rows.FactsT2
import PyProof.ListStr
import PyProof.Rows.StrPartPair
import KE.KSortTup
import KE.KDictSum
import KE.KRevIter
import PyProof.DictItems
import KE.KPairComp
import PyProof.AutoSeq1
import PyProof.SumWalk
import PyProof.IsRules
import PyProof.Cells
import PyProof.AttrMissHeap
import KE.KDictOf
import PyProof.FactsAll.zip
import PyProof.CallStr
import PyProof.Ascii
import PyProof.StrBlock
import PyProof.Rows.StrCase
import PyProof.Rows.StrLen
import Lean
import PySem.Challenge.RW_touchboats_k48_fewest_looked_at
set_option Elab.async false
set_option linter.all false
set_option maxRecDepth 100000
set_option maxHeartbeats 4000000
namespace PySem.W.Fast
def tw845375202902528122:=0
def tw6064921494058677128:=0
def tw7694755550090419807:=0
def tw1205582701293230098:=0
def tw15890962579698086683:=0
def tw17381013192693314328:=0
def tw8621154740126099701:=0
def tw8051377903642047563:=0
def tw1355917189387929732:=0
def tw12782499907755357515:=0
def tw9135130572277680483:=0
def tw18418492752867419593:=0
def tw13326331375213505592:=0
def tw9040463947038543811:=0
def tw15810096120981833659:=0
def tw9470735673495043345:=0
def tw1838297032700115950:=0
def tw4573690584199018352:=0
def tw6663960567917487613:=0
def tw8904905604111456779:=0
def tw20596743009419620:=0
def tw4308280351373458212:=0
def tw14069799936189554405:=0
def tw3963268629415977763:=0
def tw16391074854201505556:=0
def tw15028343563879326967:=0
def tw10521918934317557155:=0
def tw10152027528259893963:=0
def tw12666789499588661977:=0
def tw15820638979333111599:=0
def tw13804835236591151942:=0
def tw12634822814150350863:=0
def tw17186173880530148286:=0
def tw1664819950575236704:=0
def tw2143668107602223863:=0
def tw18357887287549861315:=0
def tw2533077124644368458:=0
def tw1758736050759756206:=0
def tw6611924216678768274:=0
def tw6236400085319198722:=0
def tw1377952709041992530:=0
def tw128045806107298287:=0
def tw16600163951350372606:=0
def tw18189674839038204849:=0
def tw9718571196348984249:=0
def tw13225278251589090034:=0
def tw17950546314564315159:=0
def tw17009875595813984957:=0
def tw9568584934441448533:=0
def tw11435574968106336381:=0
def tw13370454925790465039:=0
def tw13217110856802030665:=0
def tw9671315492582477424:=0
end PySem.W.Fast
open PySem renaming wpAny_bind->A3,wpAny_pure->A9,Value->A2,Shared->A4,sizeLine->B5,Addr->A1,wpAny->A5,foldedSetIterable->M4,model->A7,bootBuiltins->K7,Program->D4,wpAny_newObj_type->Z6,mem_of_lookup->j8,wpAny_field->L8,starEach->F5,wpAny_mono->K8,wpAny_holding->R3,wpAny_callSpecial?_slot->Ag,compareOp->L0,wpAny_call_entry->j9,Around->D9,sysModules->P8,wpAny_truthy_bool->Ah,World->C0,wpAny_seqItems->o9,assignEach->V1,wpAny_standAt->p5,tupleKind->R4,wpAny_setField_rec->Bu,mainGlobals->i3,letOwnedTupleGo->AM,cellsFrom->V9,wpAny_Call_Name_kw->B_,attributeBase->Ai,Heap->B4,wpAny_passesOwn->Bv,wpAny_getItem_str_slice->Et,wpAny_rule->p6,binaryOp->Y7,Scope->F9,sizeLine_eq->Aj,wpAny_typeOf->AO,behindInMarks->Bw,call_meets->v4,codeAny->W0,keywordEach->AQ,typeIs_str->Ak,swapsWith->v5,swapsWithSole->Ca,swappedStores->Cb,Keyword->Y8,tupleKind_room_in1->Eu,wpAny_pyIter_list->Ew,sliceBounds->Bx,relabel->Z7,Builtin->Z8,wpAny_bindName->Di,assignInOrder->Dj,bindName->w6,wpAny_execs_nil->Ex,getItem->k6,post_val_or_str->Ey,wpAny_of_eq->Cc,storedH->k7,codeAny_builtin->Ez,holding->w8
open PySem.W renaming Frag->A6,kia_one->p8,fnOf->k8,kitOne->Dk,keepIn->Dl,kas_sort->Am,codeIn->EA,methodObj->Gb
open List renaming length_map->B0,getElem?_eq_getElem->D1,mem_cons_of_mem->C1,all_eq_true->B7,getElem?_eq_some_iff->E5,mem_cons_self->D2,length_append->D3,mem_singleton->E2,mem_cons->B9,mem_of_getElem?->G4,mem_append->D6,length_cons->F2,range->B8,size_toArray->G9,getElem?_cons_succ->O6,getElem?_set_self->O7,getElem?_cons_zero->P9,mem_map->E4,getElem?_map->L4,map_cons->G7,map_append->L3,getElem?_set_ne->V2,length_set->L9,mem_range->M5,length_singleton->Z9,nil_append->N7,length_nil->O8,mem_append_left->b5,getElem?_eq_none->i4,not_mem_nil->R5,cons_append->R6,replicate->N8,take_of_length_le->k9,length_drop->V3,mem_of_mem_take->i5,mem_filter->R7,nodup_cons->R8,getElem?_append_right->An,getElem?_append_left->Ao,getD_eq_getElem?_getD->AR,eq_nil_of_length_eq_zero->By,append_assoc->i6,mem_append_right->w9,drop_eq_getElem_cons->AS,append_nil->c7,length_take->l6,take_append_drop->AT,any_eq_true->p9,zip_cons_cons->Ap,getElem_mem->x0,filter_cons->x4,take_length->x5,getElem_of_mem->AU,nodup_append->Aq,getElem?_take->AV,length_range->AX,set->O9,map->R9,length_filter_le->Dm,pairwise_iff_getElem->EB,getElem?_set->Cd,map_map->Ar,filterMap_cons->Dn,length_reverse->Do,find?_cons->Ce,reverse_cons->Dp,flatMap_cons->Dq,mem_of_mem_drop->EC,getElem?_zip_eq_some->Gc,forIn_nil->Cf,nodup_nil->Cg,drop_length->Dr,map_fst_zip->Ds,map_set->Bz,getElem?_replicate->Gd,sum_cons->Ch,forIn_cons->Dt,foldl_cons->Du,map_inj_right->ED,drop_of_length_le->Ge,filter_eq_nil_iff->Gf,length_replicate->Gg,map_snd_zip->EE,mem_flatMap->EF,flatMap_append->Gi,length_zip->EG,map_congr_left->Gj,all_map->Dv,any_map->Dw
open PySem.Heap renaming get?_push_of_some->C3,lt_size->C7,get?_push_size->K4,size_push->As,SameBut->Ci
open Nat renaming le_refl->B3,zero_le->C8,reduceLeDiff->J4,lt_of_lt_of_le->M1,le_trans->E6,ne_of_lt->F3,zero_add->G0,reduceLT->J5,reduceSub->W3,reduceAdd->W4,lt_of_le_of_lt->At,le_succ->W5,lt_succ_of_lt->AY,lt_irrefl->q8,le_add_right->AZ,sub_succ_lt_self->Dx,le_antisymm->Cj,le_of_not_lt->Dy,le_of_eq->BA,min_eq_right->EH,lt_trans->Dz,le_of_lt->DA,ne_of_gt->DB,sub_self->DC
open Bool renaming false_eq_true->F4,and_eq_true->M2,false_and->N9,false_ne_true->d5,not_false->Q0,or_false->P1,true_and->P2,false_or->V4,not_true->W6,true_or->V5,eq_iff_iff->t7,eq_false_iff->Ck,and_true->Cm,not_eq_true'->EI,beq_eq_decide_eq->Gk
open PySem.Str renaming ofString->B1
open Option.some renaming inj->E7
open Int renaming reduceLT->J6,reduceLE->J7,toNat_natCast->Q1,eq_ofNat_of_zero_le->A_,emod_lt_of_pos->Cn,emod_nonneg->BB,zero_add->BC,toNat->x6
open PySem.Builtin.SmallTypes renaming nextOf->i7,ownedTupleIsFree->Ba,ownedTupleHandOut->Jv
open Classical renaming byContradiction->x8
open String renaming reduceBEq->W7
open PySem.Builtin.Slice renaming slicePlaces->Bb,sliceAdjust->DE,sliceApplied->EJ,sliceFields->Jw
open Option renaming isSome_iff_exists->Bc,bind->W8
open PyProof.Rows renaming slot_tuple_getitem->Co,callWith_type1->Cp,assignInOrder_cons->Cq,envOfC->Gm
open PySem.Builtin.Tuple renaming tupleExact->Bd,tupleItemsOf->Gn
open PySem.Value renaming ref->L5,type->x9,none->Au,int->Cr,str->Cs
open PySem.Builtin.Str renaming occurrences->Cu
open PySem.PyData renaming showable->y0,showableAll->Cv,shownAll->BD,depth->Av,shown->Aw,shownKv->Cw,depthAll->DF,showableKv->EK,depthKv->EL
open Array renaming length_toList->BE,getElem?_toList->Go,all_toList->EM
open PySem.Obj renaming mapSeq->Y9
open PySem.StrLaws renaming sliceText->BF
open ForInStep renaming yield->Be
open PySem.F renaming slot_zip_next->Bf,slot_tuple_iterator_next->EN,plainAttrs_list->EO,args_tuple_add_2->Gp,entry_tuple_add->Gq,slot_tuple_add->Gr,args_zip_next_1->EQ,entry_zip_next->ER
open List.cons renaming inj->Ax
open PySem.Builtin.List renaming listTooLong->ES,listExtendWith->Jx,listFitsIndex->Jy
open True renaming intro->t9
open PySem.SeqAt renaming EqAt->u0,RcNeAt->Cy,RcAt->BG
open False renaming elim->y4
open PySem.Heap.SameBut renaming update->ET
open PySem.Txt renaming slice->Ay,slice_le->DG
open Sum renaming inr->l7
open Prod.mk renaming inj->Cz
open PySem.PassesOwn renaming never->EU
open PySem.Heap.IsSliceOf renaming new->Gs
open PySem.Paired renaming length->EV
def ju{p:Prop}[Decidable p](h:p):decide p=true:=decide_eq_true h
def jv{p:Prop}[Decidable p](h:¬p):decide p=false:=decide_eq_false h
def jw{c:Prop}{h:Decidable c}(i:c){α:Type}{t e:α}:ite c t e=t:=if_pos i
def jy{c:Prop}{h:Decidable c}(i:¬c){α:Type}{t e:α}:ite c t e=e:=if_neg i
def jz{p:Prop}[Decidable p](h:decide p=true):p:=of_decide_eq_true h
local macro_rules|`(tactic|omega)=>`(tactic|lia)
local macro_rules|`(0x0)=>`(by omega)|`(0b0)=>`(by decide)|`(0o0)=>`(by simp)
local macro_rules|`(tactic|ext)=>`(tactic|omega)
set_option hygiene false
local macro_rules|`(tactic|right)=>`(tactic|walk_at "pu")
local macro_rules|`(tactic|symm)=>`(tactic|refine B2 fun U hU=>?_)
local macro_rules|`(tactic|mleft)=>`(tactic|refine⟨rfl,?_⟩)
local macro_rules|`(⇑?_)=>`(fun C G σ H env n R Q hK hT S hp k=>?_)|`(⇑_)=>`(fun C G σ H env n PD D hK hT hn S hp L=>?_)
local macro_rules|`(↥$f)=>`($f C G σ H env n _ _ hK hT S hp)
set_option compiler.extract_closed false in
set_option hygiene false in
local macro_rules | `(tactic| walk_at "p0")=>`(tactic| dsimp only [dreduceIte,true_and,and_true,F4,beq_self_eq_true,J4,J5,J6,J7,C8,J8,J9,K1,qSeq,qNx,qSet,qOwn,qAsg,G6,qRet,O0,qIfS,qPar,sV,sO,qPut,gAt,O1,Q5,qV,qO,qC,qOp,qOpR,qUn,wI,wI0,wAdd,wSub,wMul,Q2,wMod,wPow,wEq,wNe,wLt,wLe,wGt,wGe,qB,M7,qAnd,qOr,qNot,G8,T4,qIf,qNil,A0,qTup,qLst,qL,wIx,qNo,D5,qSl,wSl,wLen,wAbs,wInt,wAll,K3,N3,wIsi,Q3,wMin,A8,gN,gNl,gCn,gTp,qIl,qIt,K2,N4,qIs,Q4,capV,capS,qTru,F7,qCat,wNeg,K9,T5,T7,T6,M9,tyP,isT,R9,O9,F2,O8,P9,O6,R6,N7,N8,W3,W4,W8,W6,Q0,V5,V4,P1,P2,N9,W7,cmpb,L6,X5,X6,V8,X7,decide_true,decide_false,O2,Q6,wRev,T8,qAug,T9,U1,qFor,Q7,F8,O3,keyV,Q9,J3,P5,X8,X9,Y0,Y3,Y4,X1,U4,Q8,U3,setAll,U5,qInS,O4,N2,D8,U6,R0,wIsB,wSum,M3,V0,P7,L7,qIxT,P6,Y5,slT1,R1,N6])
set_option hygiene false in
local macro_rules | `(tactic| walk_at "p1")=>`(tactic| (try walk_at "p0") <;> (try simp only [J8,J9,K1,decide_true,decide_false,true_and,and_true,reduceIte,J4,J5,J6,J7,C8,beq_self_eq_true,F4]))
section
namespace L2
open PySem PySem.Spec PyProof.Rows
abbrev Key:=Sum Int Str
def CA:Key->A2->Bool
 |.inl k,v=>Value.isInt k v
 |.inr x,v=>Value.isStrOf x v
def keyH (w:C0):Key->Int
 |.inl k=>hashInt k
 |.inr x=>hashStr w x
def y7:∀{k:Key} {v:A2},CA k v=true->(∃i t,k=Sum.inl i/\v=Cr i t)\/(∃x t,k=l7 x/\v=Cs x t)
 | .inl i, v, h => by
  obtain⟨t,e⟩:=Value.isInt_shape (k:=i) (v:=v) h;exact .inl ⟨i,t,rfl,e⟩
 | .inr x, v, h => by
  obtain⟨t,e⟩:=Value.isStrOf_shape (x:=x) (v:=v) h;exact .inr ⟨x,t,rfl,e⟩
def MQ (i:Int)(t:Tok):CA (.inl i) (.int i t)=true:=by simp[CA,Value.isInt]
def MR (x:Str)(t:Tok):CA (.inr x) (.str x t)=true:=by simp[CA,Value.isStrOf]
def key_ll (a b:Int):decide ((Sum.inl a:Key)=Sum.inl b)=(a == b):=by grind
def key_rr (a b:Str):decide ((l7 a:Key)=l7 b)=decide (a=b):=0o0
def key_lr (a:Int)(b:Str):decide ((Sum.inl a:Key)=l7 b)=false:=rfl
def key_rl (a:Str)(b:Int):decide ((l7 a:Key)=Sum.inl b)=false:=rfl
def P3 (prog:D4)(w:C0):PySem.KeyKind prog w Key where
 is:=CA
 hash:=keyH w
 inj:=fun v a b ha hb=>by
  rcases y7 ha with⟨i,t,rfl,rfl⟩|⟨x,t,rfl,rfl⟩
  ·rcases y7 hb with⟨j,u,rfl,e⟩|⟨y,u,rfl,e⟩
   ·injection e with e1 _;rw[e1]
   ·exact nomatch e
  ·rcases y7 hb with⟨j,u,rfl,e⟩|⟨y,u,rfl,e⟩
   ·exact nomatch e
   ·injection e with e1 _;rw[e1]
 byValue:=λk v h=>by
  rcases y7 h with⟨i,t,rfl,rfl⟩|⟨x,t,rfl,rfl⟩ <;> rfl
 pyHash:=λhv h=>by
  rcases y7 hv with⟨i,t,rfl,rfl⟩|⟨x,t,rfl,rfl⟩
  ·exact wpAny_pyHash_int h
  ·exact wpAny_pyHash_str h
 eqBool:=λhu hv h=>by
  rcases y7 hu with⟨i,t,rfl,rfl⟩|⟨x,t,rfl,rfl⟩
  ·rcases y7 hv with⟨j,u,rfl,rfl⟩|⟨y,u,rfl,rfl⟩
   ·rw[key_ll] at h;exact wpAny_eqBool_int h
   ·rw[key_lr] at h;exact SeqAt.EqAt.int_str i t y u _ _ _ _ h
  ·rcases y7 hv with⟨j,u,rfl,rfl⟩|⟨y,u,rfl,rfl⟩
   ·rw[key_rl] at h;exact SeqAt.EqAt.str_int x t j u _ _ _ _ h
   ·rw[key_rr] at h;exact wpAny_eqBool_str h
 «strs»:=λk x t v h=>by
  rcases y7 h with⟨i,u,rfl,e⟩|⟨y,u,rfl,e⟩
  ·exact nomatch e
  ·injection e with e1 _;subst e1;cases v <;> rfl
def MS (prog:D4)(w:C0)(i:Int)(t:Tok):(P3 prog w).is (.inl i) (.int i t)=true:=MQ i t
def MT (prog:D4)(w:C0)(x:Str)(t:Tok):(P3 prog w).is (.inr x) (.str x t)=true:=MR x t
inductive V where
 |non|bl (b:Bool)|int (i:Int)|str (x:Str)|byt (b:Array UInt8)|flt (b:UInt64)|ref (a:A1)|ty (n:String)
 deriving DecidableEq
def RelV:V->A2->Prop
 |.non,u=>u=Au
 |.bl b,u=>u=Value.bool b
 |.int i,u=>∃t,u=Cr i t
 |.str x,u=>∃t,u=Cs x t
 |.byt b,u=>∃t,u=Value.bytes b t
 |.flt b,u=>∃t,u=Value.float b t
 |.ref a,u=>u=L5 a
 |.ty n,u=>u=x9 n
abbrev Vals:List V->List A2->Prop:=Paired RelV
theorem Vals.length (r:Vals xs us):xs.length=us.length:=EV r
theorem Vals.get:∀{xs:List V} {us:List A2} {i:Nat} {x:V},Vals xs us->xs[i]?=some x->∃u,us[i]?=some u/\RelV x u
 |_,_,_,_,.nil,e=>by simp at e
 |_,_,0,_,.cons r _,e=>by simp at e;subst e;exact⟨_,rfl,r⟩
 | _, _, i + 1, x, .cons _ t, e => by
  obtain⟨u,h1,h2⟩:=Vals.get (i:=i) (x:=x) t (by grind);exact⟨u,by simpa using h1,h2⟩
theorem Vals.set (r:RelV x u):∀{xs:List V} {us:List A2} (i:Nat),Vals xs us->Vals (xs.set i x) (us.set i u)
 |_,_,_,.nil=>.nil
 |_,_,0,.cons _ t=>.cons r t
 |_,_,i+1,.cons q t=>.cons q (Vals.set r i t)
def Vals.append (h:Vals xs us)(s:Vals ys ws):Vals (xs++ys) (us++ws):=by
 induction h with
 |nil=>exact s
 |cons r _ ih=>exact .cons r ih
theorem Vals.take:∀{xs:List V} {us:List A2} (n:Nat),Vals xs us->Vals (xs.take n) (us.take n)
 |_,_,0,_=>.nil
 |_,_,_+1,.nil=>.nil
 |_,_,n+1,.cons r t=>.cons r (Vals.take n t)
theorem Vals.drop:∀{xs:List V} {us:List A2} (n:Nat),Vals xs us->Vals (xs.drop n) (us.drop n)
 |_,_,0,r=>r
 |_,_,_+1,.nil=>.nil
 |_,_,n+1,.cons _ t=>Vals.drop n t
def RelO:Option V->Option A2->Prop
 |some v,some u=>RelV v u
 |none,none=>True
 |_,_=>False
def KV {κ:Type}:List (κ×V)->List (κ×A2)->Prop:=Paired λ(p:κ×V) (q:κ×A2)=>p.1=q.1/\RelV p.2 q.2
def kV:Key->V
 |.inl i=>.int i
 |.inr x=>.str x
inductive HO where
 /-- a list -/
 |lst (xs:List V)
 /-- a tuple (never changes) -/
 |tup (xs:List V)
 /-- a dict whose keys are ints and y8; one whose keys are tuples of ints and y8 (the empty one is both) -/
 |dK (ji:List (Key×V))|dT (ji:List (List Key×V))
 /-- a set of ints: jh members, jh size -/
 |set (S:Key->Bool) (n:Nat)
 /-- an instance of the class at C, jh dict at dx, jh attributes -/
 |ins (C dx:A1) (fs:List (Str×V))
 /-- the dict of the instance at x -/
 |own (x:A1)
 /-- the dict of an exception -/
 |xd (fs:List (Str×V))
 /-- a bound method, f of x -/
 |met (f x:A1)
 /-- a range object lo, lo + 1, .. below hi -/
 |rng (lo hi:Int)
 /-- a thing that is known to the object (the script; a dict while a loop walks it): read, never written while it is so -/
 |frz (o:Obj) (u:HO)
 /-- a code object's table -/
 |tbl (ps:Array A2)
 /-- any jc thing, by what is true of jh one object (a def of one's own: SetO a S n := HO.ext fun h => ..) -/
 |ext (φ:B4->Prop)
abbrev Hp:=A1->Option HO
def upd (H:Hp)(a:A1)(o:HO):Hp:=λb=>if b=a then some o else H b
def J0:upd H a o a=some o:=by unfold upd;rw[jw rfl]
def B6 (h:b≠a):upd H a o b=H b:=by unfold upd;rw[jy h]
def ne_of {H:Hp}(h:H a=some o)(h':H b=some u)(d:o≠u):a≠b:=by
 intro e;subst e;rw[h] at h';exact d (E7 h')
def u4 {H:Hp}(h:H a=some o)(h':H b=none):a≠b:=by
 intro e;subst e;rw[h] at h';cases h'
def u5 (h:B4)(a:A1)(items:Array A2):Prop:=∃o,h.get? a=some o/\(o.cls,o.dict)=(x9 "tuple",none)/\∃n,o.data=.seq items n
def u5.is (x:u5 h a items):IsTup h a items:=let ⟨o,e,c,r⟩:=x;⟨o,e,(Cz c).1,r⟩
def u5.lt (x:u5 h a items):a<h.objs.size:=let ⟨_,e,_⟩:=x;C7 e
def u5.new (h:B4)(items:Array A2):u5 (h.push { cls:=.type "tuple",data:=.seq items }) h.objs.size items:=⟨_,K4 _ rfl,rfl,_,rfl⟩
section
variable (P:D4)(w:C0)
def J1 (H:Hp)(h:B4)(a:A1):HO->Prop
 |.lst xs=>xs.length<=B5/\∃(jh:List A2) (n:Nat),Vals xs jh/\h.get? a=some { cls:=.type "list",data:=.seq jh.toArray n }
 |.tup xs=>xs.length<=B5/\∃jh:List A2,Vals xs jh/\u5 h a jh.toArray
 |.dK ji=>ji.length<=B5/\(a == P8)=false/\∃vs,KV ji vs/\h.DictOf (P3 P w) a vs
 |.dT ji=>ji.length<=B5/\(a == P8)=false/\∃xs:List (List Key×A1×A2),
     Paired (λ(p:List Key×V) (q:List Key×A1×A2)=>p.1=q.1/\H q.2.1=some (.tup (p.1.map kV))/\RelV p.2 q.2.2) ji xs/\
     ∃o es ep,h.get? a=some o/\o.ExactDict/\o.data=.dict es ep/\es.toList=xs.map (entryOfKey (R4 (P3 P w)))/\(xs.map (·.1)).Nodup
 |.set S n=>h.SetOf (P3 P w) a S n
 |.ins C dx fs=>H dx=some (.own a)/\fs.length<=1000/\dx≠a/\h.get? a=some (PySem.W.instObj C dx)/\
     ∃mA,h.Ns1 dx mA/\(∀f,RelO (fs.lookup f) (mA f))/\PySem.Within mA (fs.map (·.1))
 |.own _=>∃o,h.get? a=some o
 |.xd fs=>∃mA,h.Ns1 a mA/\∀f,RelO (fs.lookup f) (mA f)
 |.rng lo hi=>∃t u v,h.get? a=some { cls:=.type "range",data:=.fields #[.int lo t,.int hi u,.int 1 v] }
 |.frz o u=>h.get? a=some o/\J1 H h a u
 |.tbl ps=>h.get? a=some { cls:=.none,data:=.fields ps }
 |.met f x=>h.get? a=some (Gb (.ref f) (.ref x))
 |.ext φ=>φ h/\(∃o,h.get? a=some o)/\∀h1 h2:B4,φ h1->(∀o,h1.get? a=some o->h2.get? a=some o)->φ h2
def HOk (H:Hp)(h:B4):Prop:=∀a o,H a=some o->J1 P w H h a o
end
section
variable {P:D4}{w:C0}{H H':Hp}{h h':B4}{a:A1}{o:HO}
theorem J1.lt (x:J1 P w H h a o):a<h.objs.size:=by
 cases o with
 |lst xs=>obtain⟨_,_,_,_,e⟩:=x;exact C7 e
 |tup xs=>obtain⟨_,_,_,p⟩:=x;exact p.lt
 |dK ji=>obtain⟨_,_,_,_,o,_,_,e,_⟩:=x;exact C7 e
 |dT ji=>obtain⟨_,_,_,_,o,_,_,e,_⟩:=x;exact C7 e
 |set S n=>obtain⟨o,_,_,_,e,_⟩:=x;exact C7 e
 |ins C dx fs=>obtain⟨_,_,_,e,_⟩:=x;exact C7 e
 |own y=>obtain⟨_,e⟩:=x;exact C7 e
 |xd fs=>obtain⟨_,⟨_,_,_,e,_⟩,_⟩:=x;exact C7 e
 |rng lo hi=>obtain⟨_,_,_,e⟩:=x;exact C7 e
 |frz ob u=>obtain⟨e,_⟩:=x;exact C7 e
 |tbl ps=>exact C7 (show h.get? a=some _ from x)
 |met f y=>exact C7 (show h.get? a=some _ from x)
 |ext φ=>obtain⟨_,⟨_,e⟩,_⟩:=x;exact C7 e
def Paired.mapP {α β:Type}{F G:α->β->Prop}{l₁:List α}{l₂:List β}(h:Paired F l₁ l₂)(f:∀a b,F a b->G a b):Paired G l₁ l₂:=by
 induction h with
 |nil=>exact .nil
 |cons r _ ih=>exact .cons (f _ _ r) ih
def J1.stay (x:J1 P w H h a o)(k:∀b u,(b=a\/H b=some (.own a))->h.get? b=some u->h'.get? b=some u)
   (ho:∀b,H b=some (.own a)->H' b=some (.own a)) (ht:∀b xs,H b=some (.tup xs)->H' b=some (.tup xs)):J1 P w H' h' a o:=by
 induction o with
 |lst xs=>obtain⟨z,jh,n,r,e⟩:=x;exact⟨z,jh,n,r,k _ _ (.inl rfl) e⟩
 |tup xs=>obtain⟨z,jh,r,ob,e,c⟩:=x;exact⟨z,jh,r,ob,k _ _ (.inl rfl) e,c⟩
 |dK ji=>obtain⟨z,y,vs,r,ob,es,ep,e,c⟩:=x;exact⟨z,y,vs,r,ob,es,ep,k _ _ (.inl rfl) e,c⟩
 | dT ji =>
  obtain⟨z,y,xs,r,ob,es,ep,e,c⟩:=x;exact⟨z,y,xs,Paired.mapP r λp q z=>⟨z.1,ht _ _ z.2.1,z.2.2⟩,ob,es,ep,k _ _ (.inl rfl) e,c⟩
 |set S n=>obtain⟨ob,es,ep,t,e,c⟩:=x;exact⟨ob,es,ep,t,k _ _ (.inl rfl) e,c⟩
 | ins C dx fs =>
  obtain⟨d,z,ne,e,mA,⟨od,es,ep,e2,c⟩,r⟩:=x;exact⟨ho _ d,z,ne,k _ _ (.inl rfl) e,mA,⟨od,es,ep,k _ _ (.inr d) e2,c⟩,r⟩
 |own y=>obtain⟨ob,e⟩:=x;exact⟨ob,k _ _ (.inl rfl) e⟩
 |xd fs=>obtain⟨mA,⟨od,es,ep,e,c⟩,r⟩:=x;exact⟨mA,⟨od,es,ep,k _ _ (.inl rfl) e,c⟩,r⟩
 |rng lo hi=>obtain⟨t,u,v,e⟩:=x;exact⟨t,u,v,k _ _ (.inl rfl) e⟩
 |frz ob u ih=>obtain⟨e,q⟩:=x;exact⟨k _ _ (.inl rfl) e,ih q⟩
 | tbl ps =>
  have e:h.get? a=some { cls:=.none,data:=.fields ps }:=x;show h'.get? a=some { cls:=.none,data:=.fields ps };exact k a _ (.inl rfl) e
 | met f y =>
  have e:h.get? a=some (Gb (.ref f) (.ref y)):=x;show h'.get? a=some (Gb (.ref f) (.ref y));exact k a _ (.inl rfl) e
 |ext φ=>obtain⟨p,⟨o,e⟩,st⟩:=x;exact⟨st _ _ p λo q=>k _ _ (.inl rfl) q,⟨o,k _ _ (.inl rfl) e⟩,st⟩
theorem HOk.lt (x:HOk P w H h)(e:H a=some o):a<h.objs.size:=(x a o e).lt
def HOk.fresh (x:HOk P w H h)(e:h.objs.size<=a):H a=none:=by
 cases q:H a with
 |none=>rfl
 |some u=>exact absurd (M1 (x.lt q) e) (q8 _)
def HOk.kept (x:HOk P w H h)(k:∀b u,h.get? b=some u->h'.get? b=some u):HOk P w H h':=λa o e=>
 (x a o e).stay (λb u _ q=>k b u q) (λ_ q=>q) λ_ _ q=>q
def HOk.laid (x:HOk P w H h)(k:∀b u,h.get? b=some u->h'.get? b=some u)(hp:h.objs.size<=a)(new:J1 P w (upd H a o) h' a o):HOk P w (upd H a o) h':=λb u e=>by
 have hn:=x.fresh hp
 by_cases hb:b=a
 ·subst hb;rw[J0] at e;cases e;exact new
 ·rw[B6 hb] at e;exact(x b u e).stay (λc v _ q=>k c v q) (λc q=>by rw[B6 (u4 q hn)];exact q) λc xs q=>by rw[B6 (u4 q hn)];exact q
end
def Rd (H:Hp)(a:A1)(u:HO):Prop:=H a=some u\/∃o,H a=some (.frz o u)
def Rd.ok (r:Rd H a u)(x:HOk P w H h):J1 P w H h a u:=by
 rcases r with r|⟨o,r⟩
 ·exact x a u r
 ·obtain⟨_,q⟩:=x a _ r;exact q
def Mut:Option HO->Prop
 |some (.lst _)=>True
 |some (.dK _)=>True
 |some (.dT _)=>True
 |some (.set _ _)=>True
 |some (.ins _ _ _)=>True
 |some (.ext _)=>True
 |_=>False
section
variable {P:D4}{w:C0}{H:Hp}{h h':B4}{x e:A1}{o':HO}
def HOk.write (ok:HOk P w H h)(mu:Mut (H x))(he:e=x\/H e=some (.own x))(k:∀b u,b≠e->h.get? b=some u->h'.get? b=some u)(heo:∃u,h'.get? e=some u)
   (new:J1 P w (upd H x o') h' x o'):HOk P w (upd H x o') h':=λb u q=>by
 have nown:∀c y,H c=some (.own y)->c≠x:=λc y r z=>by subst z;rw[r] at mu;exact mu
 have ntup:∀c xs,H c=some (.tup xs)->c≠x:=λc xs r z=>by subst z;rw[r] at mu;exact mu
 by_cases hb:b=x
 ·subst hb;rw[J0] at q;cases q;exact new
 ·rw[B6 hb] at q
  by_cases hbe:b=e
  ·have q':H b=some (.own x):=by
    rcases he with z|z
    ·exact absurd (hbe.trans z) hb
    ·rw[hbe];exact z
   rw[q] at q';cases q';obtain⟨v,hv⟩:=heo;exact⟨v,by rw[hbe];exact hv⟩
  ·refine(ok b u q).stay (λc v hc r=>k c v ?_ r) (λc r=>by rw[B6 (nown c b r)];exact r) λc xs r=>by rw[B6 (ntup c xs r)];exact r
   rcases hc with rfl|hc
   ·exact hbe
   ·rintro rfl;rcases he with z|z
    ·exact nown c b hc z
    ·rw[hc] at z;cases z;exact hb rfl
end
def NS (H:Hp):Prop:=H P8=none\/∃o u,H P8=some (.frz o u)
structure Un (fs ex:List A1)(H H':Hp)(h h':B4):Prop where
 keep:∀b o,h.get? b=some o->H b=none->b∉fs->b∉ex->h'.get? b=some o
 slot:∀b o,h.get? b=some o->H b=none->b∈fs->b∉ex->∃sl,h'.get? b=some { o with slots:=sl }
 free:∀b o,h.get? b=some o->H b=none->b∉ex->H' b=none
 there:∀b o,h.get? b=some o->b∉ex->∃o',h'.get? b=some o'
 tups:∀b xs,H b=some (.tup xs)->H' b=some (.tup xs)
 frzs:∀b o u,H b=some (.frz o u)->H' b=some (.frz o u)
 tbls:∀b ps,H b=some (.tbl ps)->∃more,H' b=some (.tbl (ps++more))
 sys:NS H->NS H'
section
variable {fs fs' ex ex':List A1}{H H1 H2:Hp}{h h1 h2 h':B4}{a x e:A1}{o:HO}
def Un.any (u:Un fs ex H H1 h h1)(q:h.get? b=some ob)(n:H b=none)(hx:b∉ex):∃sl,h1.get? b=some { ob with slots:=sl }:=by
 by_cases hb:b∈fs
 ·exact u.slot b ob q n hb hx
 ·exact⟨ob.slots,u.keep b ob q n hb hx⟩
def Un.kept (k:∀b u,h.get? b=some u->h'.get? b=some u):Un fs ex H H h h':=
 ⟨λb ob q _ _ _=>k b ob q,λb ob q _ _ _=>⟨ob.slots,k b ob q⟩,λ_ _ _ n _=>n,λb ob q _=>⟨ob,k b ob q⟩,λ_ _ q=>q,λ_ _ _ q=>q,λ_ ps q=>⟨#[],by rw[q];simp⟩,λz=>z⟩
def Un.refl:Un fs ex H H h h:=Un.kept λ_ _ q=>q
def Un.laid (k:∀b u,h.get? b=some u->h'.get? b=some u)(hp:h.objs.size<=a)(hn:H a=none)(hy:P8<h.objs.size):Un fs ex H (upd H a o) h h' where
 keep:=λb u q _ _ _=>k b u q
 slot:=λb u q _ _ _=>⟨u.slots,k b u q⟩
 free:=λb u q n _=>by rw[B6 (F3 (M1 (C7 q) hp))];exact n
 there:=λb u q _=>⟨u,k b u q⟩
 tups:=λb xs q=>by rw[B6 (u4 q hn)];exact q
 frzs:=λb u xs q=>by rw[B6 (u4 q hn)];exact q
 tbls:=λb ps q=>⟨#[],by rw[B6 (u4 q hn),q];simp⟩
 sys:=λz=>by unfold NS;rw[B6 (F3 (M1 hy hp))];exact z
def Un.write (mu:Mut (H x))(he:e=x\/H e=some (.own x))(k:∀b u,b≠e->h.get? b=some u->h'.get? b=some u)(heo:∃u,h'.get? e=some u):Un fs ex H (upd H x o) h h':=by
 have hx:∀b,H b=none->b≠x:=λb n z=>by subst z;rw[n] at mu;exact mu
 have hb:∀b,H b=none->b≠e:=λb n z=>by
  subst z;rcases he with r|r
  ·exact hx b n r
  ·rw[n] at r;cases r
 have hm:∀b u,H b=some u->¬Mut (some u)->b≠x:=λb u q nm z=>by subst z;rw[q] at mu;exact nm mu
 refine⟨λb u q n _ _=>k b u (hb b n) q,λb u q n _ _=>⟨u.slots,k b u (hb b n) q⟩,λb u q n _=>by rw[B6 (hx b n)];exact n,λb u q _=>?_,
  λb xs q=>by rw[B6 (hm b _ q λz=>z)];exact q,λb u xs q=>by rw[B6 (hm b _ q λz=>z)];exact q,λb ps q=>⟨#[],by rw[B6 (hm b _ q λz=>z),q];simp⟩,λz=>by
   rcases z with z|⟨ob,u,z⟩
   ·exact .inl (by rw[B6 (hx _ z)];exact z)
   ·exact .inr ⟨ob,u,by rw[B6 (hm _ _ z λz=>z)];exact z⟩⟩
 by_cases hbe:b=e
 ·subst hbe;exact heo
 ·exact⟨u,k b u hbe q⟩
end
def trk (h:B4)(H:Hp):List A1:=(B8 h.objs.size).filter λa=>(H a).isSome
def hidT (h:B4)(H:Hp):B4:=PySem.W.hideAll h (trk h H)
def MU (h:B4)(H:Hp):(hidT h H).objs.size=h.objs.size:=PySem.W.hideAll_size _ _
def MV (e:h.get? b=some o)(n:H b=none):(hidT h H).get? b=some o:=
 PySem.W.hideAll_get _ e λhm=>by
  have q:(H b).isSome=true:=(R7.mp hm).2;rw[n] at q;simp at q
def MW (e:(hidT h H).get? b=some o):h.get? b=some o/\H b=none:=by
 have e':h.get? b=some o:=PySem.W.of_hideAll (trk h H) e;refine⟨e',?_⟩;cases q:H b with
 |none=>rfl
 | some x =>
  have hm:b∈trk h H:=R7.mpr ⟨M5.mpr (C7 e'),by simp[q]⟩;have z:(hidT h H).get? b=none:=PySem.W.hideAll_none (trk h H) hm;rw[z] at e;cases e
def MX (g h:B4)(L:A1):List (A1×Obj):=(B8 h.objs.size).filterMap λa=>if a=L\/(g.get? a).isSome=true then none else(h.get? a).map λo=>(a,o)
def rest (g h:B4)(L d:A1):List (A1×Obj):=(MX g h L).filter λp=>decide (p.1≠d)
structure Mod (K:A6)(mg:Str->Option A2)(base:B4):Prop where
 kin:K.In base
 glob:base.Ns i3 mg
 blt:∃mb,base.Ns builtinsNs mb/\∀x:Str,x≠"__name__"->mb x=K7 x
 nolimit:base.NoLimit
structure Cx where
 prog:D4
 w:C0
 K:A6
 mg:Str->Option A2
 base:B4
 A:D9
 N:List Str
 s₀:A4
 H₀:Hp
 env:Env
 outer:List Env
 stack:List Env
 ex:List A1
 fn:Str->Bool
 calm:Bool
 pn:List (A1×Obj)
 xe:A2->A4->Prop
def frs (l:List Env):List A1:=l.filterMap (·.frame)
abbrev Cx.fs (X:Cx):List A1:=frs X.outer
def Vis (sc:F9)(x:Str):Prop:=sc.names.lookup x=some .local\/sc.names.lookup x=some .cell\/sc.names.lookup x=some .free
def Loc (sc:F9)(x:Str):Prop:=sc.names.lookup x=some .local\/sc.names.lookup x=some .cell
def Look (env:Env)(h:B4)(m:Str->Option A2)(x:Str)(u:A2):Prop:=
 (env.kindOf x=some .local/\m x=some u)\/((env.kindOf x=some .cell\/env.kindOf x=some .free)/\∃c,env.cells.lookup x=some c/\h.IsCell c (some u))
structure Cx.Ok (X:Cx):Prop where
 mod:Mod X.K X.mg X.base
 kind:X.env.scope.kind=.function
 glob:X.env.globals=i3
 blt:X.env.builtins=builtinsNs
 above:X.s₀.heap.objs.size<=X.env.locals
 inj:∀x y c,X.env.cells.lookup x=some c->X.env.cells.lookup y=some c->x=y
 has:∀x,(X.env.kindOf x=some .cell\/X.env.kindOf x=some .free)->∃c,X.env.cells.lookup x=some c
 cab:∀x c,X.fn x=true->X.env.cells.lookup x=some c->X.s₀.heap.objs.size<=c
 hd:X.calm=true->X.A.handled=none
 frames:X.A.frames=some X.stack
 stk:X.stack=X.outer\/(X.stack=X.env::X.outer/\X.env.frame=some X.env.locals)
 exf:∀b∈X.ex,b≠X.env.locals/\∀x c,X.env.cells.lookup x=some c->c≠b
 bs:∀b o,X.base.get? b=some o->X.s₀.heap.get? b=some o/\X.H₀ b=none
 bsz:X.base.objs.size<=X.s₀.heap.objs.size
 noex:∀b o,X.base.get? b=some o->b∉X.ex
 exfs:∀b∈X.ex,b∉X.fs
 funs:X.s₀.heap.FunFrames X.base X.outer
 frf:∀b∈X.fs,X.H₀ b=none
 nos:NS X.H₀
structure Inv (X:Cx)(jd:List (A1×Obj))(σ:List (Option V))(H:Hp)(s:A4):Prop where
 ok:X.Ok
 os:s.os=X.s₀.os
 bare:AllBare s.gens
 base:Un X.fs X.ex X.H₀ H X.s₀.heap s.heap
 loc:∃m,s.heap.Ns X.env.locals m/\∀(i:Nat) (x:Str) (v:V),X.N[i]?=some x->σ[i]?=some (some v)->Vis X.env.scope x->∃u,RelV v u/\Look X.env s.heap m x u
 cell:∀x c,X.env.cells.lookup x=some c->∃v,s.heap.IsCell c v
 free:H X.env.locals=none
 freeC:∀x c,X.env.cells.lookup x=some c->H c=none
 pin:∀p∈X.pn++jd,s.heap.get? p.1=some p.2/\H p.1=none/\p.1≠X.env.locals/\p.1∉X.fs/\∀v,p.2.data≠.cell v
 hok:HOk X.prog X.w H s.heap
 len:σ.length=X.N.length
section
variable {X:Cx}{jd:List (A1×Obj)}{σ:List (Option V)}{H H':Hp}{s:A4}{h':B4}
def Cx.Ok.nofr (ok:X.Ok)(e:X.base.get? b=some o):b∉X.fs:=λhb=>by
 have:=(ok.funs.mem hb).1;rw[e] at this;cases this
theorem Inv.bs (I:Inv X jd σ H s):∀b o,X.base.get? b=some o->s.heap.get? b=some o/\H b=none:=λb o e=>
 ⟨I.base.keep b o (I.ok.bs b o e).1 (I.ok.bs b o e).2 (I.ok.nofr e) (I.ok.noex b o e),I.base.free b o (I.ok.bs b o e).1 (I.ok.bs b o e).2 (I.ok.noex b o e)⟩
def Inv.bk (I:Inv X jd σ H s):∀b o,X.base.get? b=some o->s.heap.get? b=some o:=λb o e=>(I.bs b o e).1
theorem Inv.mod (I:Inv X jd σ H s):Mod X.K X.mg X.base:=I.ok.mod
theorem Inv.nos (I:Inv X jd σ H s):NS H:=I.base.sys I.ok.nos
def Inv.bigS (I:Inv X jd σ H s):P8<s.heap.objs.size:=Dz 0b0 (I.mod.glob.keeps I.bk).lt
def Inv.kIn (I:Inv X jd σ H s):X.K.In s.heap:=I.ok.mod.kin.keeps I.bk
def Inv.fr (I:Inv X jd σ H s):∃m,Fr X.base X.env.locals s.heap m:=
 let ⟨m,hn,_⟩:=I.loc
 ⟨m,hn,I.bk,E6 I.ok.bsz I.ok.above⟩
theorem Inv.lt (I:Inv X jd σ H s):X.env.locals<s.heap.objs.size:=let ⟨_,hn,_⟩:=I.loc;hn.lt
def Inv.sz (I:Inv X jd σ H s):X.s₀.heap.objs.size<=s.heap.objs.size:=E6 I.ok.above (DA I.lt)
def Inv.nofs (I:Inv X jd σ H s)(h:s.heap.objs.size<=a):a∉X.fs:=λhb=>by
 obtain⟨_,o,ho,_⟩:=I.ok.funs.mem hb;exact absurd (M1 (C7 ho) (E6 I.sz h)) (q8 _)
def Inv.cne (I:Inv X jd σ H s):∀x c,X.env.cells.lookup x=some c->c≠X.env.locals:=λx c e z=>by
 obtain⟨v,o,ho,hd⟩:=I.cell x c e;obtain⟨m,⟨o',es,ep,ho',hd',_⟩,_⟩:=I.loc;rw[z,ho'] at ho;cases ho;rw[hd'] at hd;cases hd
theorem Inv.funs (I:Inv X jd σ H s):s.heap.FunFrames X.base X.outer:=by
 have all:∀(l:List Env),(∀b∈frs l,b∈X.fs)->X.s₀.heap.FunFrames X.base l->s.heap.FunFrames X.base l:=by
  intro l
  induction l with
  |nil=>intro _ _;trivial
  | cons env r ih =>
   intro hs hl;obtain⟨hk,⟨L,o,hf,hn,ho,hd⟩,hr⟩:=hl;have hL:L∈X.fs:=hs L (by unfold frs;rw[Dn,hf];exact D2);obtain⟨sl,e⟩:=I.base.slot L o ho (I.ok.frf L hL) hL λz=>I.ok.exfs L z hL;exact⟨hk,⟨L,_,hf,hn,e,hd⟩,ih (λb hb=>hs b (by unfold frs;rw[Dn,hf];exact C1 _ hb)) hr⟩
 exact all X.outer (λ_ hb=>hb) I.ok.funs
theorem Inv.stack (I:Inv X jd σ H s):s.heap.FunFrames X.base X.stack:=by
 rcases I.ok.stk with e|⟨e,hf⟩
 ·rw[e];exact I.funs
 ·rw[e];obtain⟨m,hn,_⟩:=I.loc;refine .cons (by rw[I.ok.kind];decide) hf hn ?_ I.funs;exact Heap.get?_none_of_le (E6 I.ok.bsz I.ok.above)
def Inv.stkSub (I:Inv X jd σ H s):∀b∈frs X.stack,b∈X.env.locals::X.fs:=λb hb=>by
 rcases I.ok.stk with e|⟨e,hf⟩
 ·rw[e] at hb;exact C1 _ hb
 ·rw[e] at hb;unfold frs at hb;rw[Dn,hf] at hb;exact hb
def Inv.stkFree (I:Inv X jd σ H s):∀b∈frs X.stack,H b=none:=λb hb=>by
 rcases B9.mp (I.stkSub b hb) with e|hb
 ·rw[e];exact I.free
 ·obtain⟨_,o,ho,_⟩:=I.ok.funs.mem hb;exact I.base.free b o ho (I.ok.frf b hb) λz=>I.ok.exfs b z hb
def Inv.step {ch:List A1}(I:Inv X jd σ H s)
   (hch:∀b∈ch,(b∈X.ex\/X.s₀.heap.objs.size<=b)/\b≠X.env.locals/\(∀x c,X.env.cells.lookup x=some c->c≠b)/\∀p∈X.pn++jd,p.1≠b)
   (keep:∀b o,b≠X.env.locals->b∉X.fs->b∉ch->s.heap.get? b=some o->H b=none->h'.get? b=some o)
   (slot:∀b o,b≠X.env.locals->b∈X.fs->b∉ch->s.heap.get? b=some o->H b=none->∃sl,h'.get? b=some { o with slots:=sl }) (free:∀b o,b∉ch->s.heap.get? b=some o->H b=none->H' b=none)
   (there:∀b o,b∉ch->s.heap.get? b=some o->∃o',h'.get? b=some o')
   (tups:∀b xs,H b=some (.tup xs)->H' b=some (.tup xs)) (frzs:∀b o u,H b=some (.frz o u)->H' b=some (.frz o u)) (tbls:∀b ps,H b=some (.tbl ps)->∃more,H' b=some (.tbl (ps++more))) (sys:NS H->NS H')
   (ns:∀m,s.heap.Ns X.env.locals m->h'.Ns X.env.locals m) (hok:HOk X.prog X.w H' h') (hg:AllBare g') :
   Inv X jd σ H' { s with heap:=h',gens:=g',drawn:=d',toks:=t' }:=by
 have neL:∀b o,X.s₀.heap.get? b=some o->b≠X.env.locals:=λb o e=>F3 (M1 (C7 e) I.ok.above)
 have neC:∀b o,X.s₀.heap.get? b=some o->b∉X.ex->b∉ch:=λb o e hx hb=>by
  rcases(hch b hb).1 with z|z
  ·exact hx z
  ·exact absurd (M1 (C7 e) z) (q8 _)
 have cellK:∀x c,X.env.cells.lookup x=some c->∀v,s.heap.IsCell c v->h'.IsCell c v:=λx c e v ⟨o,ho,hd⟩=>by
  have nch:c∉ch:=λz=>(hch c z).2.2.1 x c e rfl
  by_cases hc:c∈X.fs
  ·obtain⟨sl,q⟩:=slot c o (I.cne x c e) hc nch ho (I.freeC x c e);exact⟨_,q,hd⟩
  ·exact⟨o,keep c o (I.cne x c e) hc nch ho (I.freeC x c e),hd⟩
 refine⟨I.ok,I.os,hg,⟨λb o e n hb hx=>?_,λb o e n hb hx=>?_,λb o e n hx=>?_,λb o e hx=>?_,λb xs e=>tups b xs (I.base.tups b xs e),λb o xs e=>frzs b o xs (I.base.frzs b o xs e),λb ps e=>?_,λz=>sys (I.base.sys z)⟩,?_,λx c e=>?_,?_,λx c e=>?_,λp hp=>?_,hok,I.len⟩
 ·exact keep b o (neL b o e) hb (neC b o e hx) (I.base.keep b o e n hb hx) (I.base.free b o e n hx)
 ·obtain⟨sl,e1⟩:=I.base.slot b o e n hb hx;obtain⟨sl',e2⟩:=slot b _ (neL b o e) hb (neC b o e hx) e1 (I.base.free b o e n hx);exact⟨sl',e2⟩
 ·obtain⟨o',e1⟩:=I.base.there b o e hx;exact free b o' (neC b o e hx) e1 (I.base.free b o e n hx)
 ·obtain⟨o',e1⟩:=I.base.there b o e hx;exact there b o' (neC b o e hx) e1
 ·obtain⟨m1,e1⟩:=I.base.tbls b ps e;obtain⟨m2,e2⟩:=tbls b _ e1;exact⟨m1++m2,by rw[e2,Array.append_assoc]⟩
 ·obtain⟨m,hn,hl⟩:=I.loc;refine⟨m,ns m hn,λi x v e1 e2 e3=>?_⟩;obtain⟨u,r,l⟩:=hl i x v e1 e2 e3;refine⟨u,r,?_⟩;rcases l with l|⟨k,c,e,z⟩
  ·exact .inl l
  ·exact .inr ⟨k,c,e,cellK x c e _ z⟩
 ·obtain⟨v,z⟩:=I.cell x c e;exact⟨v,cellK x c e v z⟩
 ·obtain⟨m,⟨o,_,_,ho,_⟩,_⟩:=I.loc;exact free _ o (λz=>(hch _ z).2.1 rfl) ho I.free
 ·obtain⟨v,o,ho,hd⟩:=I.cell x c e;exact free c o (λz=>(hch c z).2.2.1 x c e rfl) ho (I.freeC x c e)
 ·obtain⟨e,n,ne,nf,d⟩:=I.pin p hp;have nch:p.1∉ch:=λz=>(hch p.1 z).2.2.2 p hp rfl;exact⟨keep p.1 p.2 ne nf nch e n,free p.1 p.2 nch e n,ne,nf,d⟩
def Inv.un (I:Inv X jd σ H s)(u:Un X.fs [] H H' s.heap h')(hok:HOk X.prog X.w H' h'):Inv X jd σ H' { s with heap:=h',toks:=t' }:=by
 obtain⟨m,⟨o,es,ep,ho,r⟩,_⟩:=id I.loc;obtain⟨sl,hL⟩:=u.any ho I.free 0o0
 exact I.step (g':=s.gens) (d':=s.drawn) (ch:=[]) (λ_ z=>nomatch z) (λb o _ hb _ e n=>u.keep b o e n hb 0o0) (λb o _ hb _ e n=>u.slot b o e n hb 0o0) (λb o _ e n=>u.free b o e n 0o0) (λb o _ e=>u.there b o e 0o0) u.tups u.frzs u.tbls u.sys (λm' hm=>by
  obtain⟨o',es',ep',ho',r'⟩:=hm;rw[ho] at ho';cases ho'
  exact⟨_,es',ep',hL,r'⟩) hok I.bare
def Inv.call (I:Inv X jd σ H s)(u:Un (frs X.stack) ch H H' s.heap h')(hok:HOk X.prog X.w H' h')(hg:AllBare g')
   (hch:∀b∈ch,(b∈X.ex\/X.s₀.heap.objs.size<=b)/\b≠X.env.locals/\(∀x c,X.env.cells.lookup x=some c->c≠b)/\∀p∈X.pn++jd,p.1≠b) :
   Inv X jd σ H' { s with heap:=h',gens:=g',drawn:=d',toks:=t' }:=by
 obtain⟨m,⟨o,es,ep,ho,r⟩,_⟩:=id I.loc;obtain⟨sl,hL⟩:=u.any ho I.free λz=>(hch _ z).2.1 rfl
 exact I.step (ch:=ch) hch (λb o hL hb hc e n=>u.keep b o e n (λz=>(B9.mp (I.stkSub b z)).elim hL hb) hc) (λb o _ _ hc e n=>u.any e n hc) (λb o hc e n=>u.free b o e n hc) (λb o hc e=>u.there b o e hc) u.tups u.frzs u.tbls u.sys (λm' hm=>by
  obtain⟨o',es',ep',ho',r'⟩:=hm;rw[ho] at ho';cases ho'
  exact⟨_,es',ep',hL,r'⟩) hok hg
def Inv.turned {t':Nat}{it:A1}(I:Inv X jd σ H s)(k:∀b o,b≠it->s.heap.get? b=some o->h'.get? b=some o)(hn:H it=none)(hL:it≠X.env.locals)
   (h1:it∈X.ex\/X.s₀.heap.objs.size<=it) (h2:∀x c,X.env.cells.lookup x=some c->c≠it) (h3:∀p∈X.pn++jd,p.1≠it):Inv X jd σ H { s with heap:=h',toks:=t' }:=by
 have nit:∀b u,H b=some u->b≠it:=λb u e z=>by rw[z,hn] at e;cases e
 refine I.step (g':=s.gens) (d':=s.drawn) (ch:=[it]) (λb hb=>?_) (λb o _ _ hc e _=>k b o (λz=>hc (by simp[z])) e) (λb o _ _ hc e _=>⟨o.slots,k b o (λz=>hc (by simp[z])) e⟩) (λ_ _ _ _ n=>n)
   (λb o hc e=>⟨o,k b o (λz=>hc (by simp[z])) e⟩) (λ_ _ e=>e) (λ_ _ _ e=>e) (λb ps e=>⟨#[],by rw[e];simp⟩) (λz=>z) (λm hm=>?_) (λb u e=>?_) I.bare
 ·grind
 ·obtain⟨o,es,ep,ho,r⟩:=hm;exact⟨o,es,ep,k _ o (Ne.symm hL) ho,r⟩
 ·refine(I.hok b u e).stay (λc v hc q=>k c v ?_ q) (λ_ q=>q) λ_ _ q=>q;rcases hc with z|z
  ·grind
  ·grind
def Inv.tok (I:Inv X jd σ H s)(t:Nat):Inv X jd σ H { s with toks:=t }:=I.un (h':=s.heap) (t':=t) Un.refl I.hok
theorem Inv.kept (I:Inv X jd σ H s)(k:∀b u,s.heap.get? b=some u->h'.get? b=some u):Inv X jd σ H { s with heap:=h',toks:=t' }:=I.un (Un.kept k) (I.hok.kept k)
theorem Inv.laid (I:Inv X jd σ H s)(k:∀b u,s.heap.get? b=some u->h'.get? b=some u)(hp:s.heap.objs.size<=a)(new:J1 X.prog X.w (upd H a o) h' a o) :
   Inv X jd σ (upd H a o) { s with heap:=h',toks:=t' }:=I.un (Un.laid k hp (I.hok.fresh hp) I.bigS) (I.hok.laid k hp new)
theorem Inv.write (I:Inv X jd σ H s)(mu:Mut (H x))(he:e=x\/H e=some (.own x))(k:∀b u,b≠e->s.heap.get? b=some u->h'.get? b=some u)(heo:∃u,h'.get? e=some u)
   (new:J1 X.prog X.w (upd H x o) h' x o):Inv X jd σ (upd H x o) { s with heap:=h',toks:=t' }:=I.un (Un.write mu he k heo) (I.hok.write mu he k heo new)
def Inv.pins_of (I:Inv X jd σ H s)(h:∀p∈pins',s.heap.get? p.1=some p.2/\H p.1=none/\p.1≠X.env.locals/\p.1∉X.fs/\∀v,p.2.data≠.cell v):Inv X pins' σ H s:=
 ⟨I.ok,I.os,I.bare,I.base,I.loc,I.cell,I.free,I.freeC,λp hp=>(D6.mp hp).elim (λz=>I.pin p (b5 _ z)) (h p),I.hok,I.len⟩
def Jz {N:List Str}(hN:N.Nodup){i j:Nat}{x:Str}(a:N[i]?=some x)(b:N[j]?=some x):i=j:=by
 obtain⟨h1,e1⟩:=E5.mp a;obtain⟨h2,e2⟩:=E5.mp b;exact(List.getElem_inj hN).mp (e1.trans e2.symm)
def JA (I:Inv X jd σ H s)(hN:X.N.Nodup)(hi:X.N[i]?=some x)(hx:Loc X.env.scope x)(r:RelV v u)
   (h:∀s',Inv X jd (σ.set i (some v)) H s'->(∃a,Ci a s.heap s'.heap/\(a=X.env.locals\/X.env.cells.lookup x=some a))->Q () s') (hf:X.fn x=true\/X.env.scope.names.lookup x=some .local:=by first|exact .inl rfl|exact .inr rfl|assumption):A5 M A (storeName X.env x u) Q E s:=by
 obtain⟨m,hn,hl⟩:=id I.loc;have hcls:(X.env.scope.kind == .class||(X.env.scope.kind == .module&&X.env.locals != X.env.globals))=false:=by rw[I.ok.kind];rfl
 have hiσ:i<σ.length:=by rw[I.len];exact(E5.mp hi).1
 have cne:=I.cne
 have tracked:∀{a:A1} {h':B4},(∃o,s.heap.get? a=some o/\H a=none)->Ci a s.heap h'->HOk X.prog X.w H h':=λ{a h'} ha hs b ob e=>by
  obtain⟨_,_,hfree⟩:=ha;refine(I.hok b ob e).stay (λc w' hc q=>(hs.2 c ?_).trans q) (λ_ q=>q) λ_ _ q=>q;rintro rfl;rcases hc with rfl|hc
  ·rw[hfree] at e;cases e
  ·rw[hfree] at hc;cases hc
 rcases hx with hk|hk
 ·refine wpAny_storeName_local hk hn (λh' hn' hs=>?_) hcls;obtain⟨oL,_,_,hoL,_⟩:=id hn;refine h _ ⟨I.ok,I.os,I.bare,⟨λb o e n hb hx=>?_,λb o e n hb hx=>?_,I.base.free,λb o e hx=>?_,I.base.tups,I.base.frzs,I.base.tbls,I.base.sys⟩,⟨_,hn',λj y v' e1 e2 e3=>?_⟩,λy c e=>?_,I.free,I.freeC,λp hp=>?_,tracked ⟨oL,hoL,I.free⟩ hs,by simpa using I.len⟩ ⟨_,hs,.inl rfl⟩
  ·exact(hs.2 b (F3 (M1 (C7 e) I.ok.above))).trans (I.base.keep b o e n hb hx)
  ·obtain⟨sl,e1⟩:=I.base.slot b o e n hb hx;exact⟨sl,(hs.2 b (F3 (M1 (C7 e) I.ok.above))).trans e1⟩
  ·obtain⟨o',e1⟩:=I.base.there b o e hx;exact⟨o',(hs.2 b (F3 (M1 (C7 e) I.ok.above))).trans e1⟩
  ·by_cases hj:j=i
   ·subst hj;rw[hi] at e1;cases e1;rw[O7 hiσ] at e2;cases e2;exact⟨u,r,.inl ⟨hk,0o0⟩⟩
   ·rw[V2 (Ne.symm hj)] at e2;obtain⟨u',r',q⟩:=hl j y v' e1 e2 e3;refine⟨u',r',?_⟩;rcases q with⟨k,e⟩|⟨k,c,e,z⟩
    ·refine .inl ⟨k,?_⟩;have:y≠x:=λe=>hj (Jz hN e1 (e▸hi));simp[this,e]
    ·exact .inr ⟨k,c,e,z.sameBut hs (cne y c e)⟩
  ·obtain⟨w',z⟩:=I.cell y c e;exact⟨w',z.sameBut hs (cne y c e)⟩
  ·obtain⟨e,n,ne,nf,d⟩:=I.pin p hp;exact⟨(hs.2 p.1 ne).trans e,n,ne,nf,d⟩
 ·have hfn:X.fn x=true:=by
   rcases hf with z|z
   ·exact z
   ·rw[z] at hk;cases hk
  obtain⟨c,hc⟩:=I.ok.has x (.inl hk);obtain⟨w',z⟩:=I.cell x c hc;refine wpAny_storeName_cell I.ok.kind hk hc z (λh' hc' hs=>?_);obtain⟨oc,hoc,hocd⟩:=id z;refine h { s with heap:=h' } ⟨I.ok,I.os,I.bare,⟨λb o e n hb hx=>?_,λb o e n hb hx=>?_,I.base.free,λb o e hx=>?_,I.base.tups,I.base.frzs,I.base.tbls,I.base.sys⟩,⟨m,hn.sameBut hs (Ne.symm (cne x c hc)),λj y v' e1 e2 e3=>?_⟩,λy c' e=>?_,I.free,I.freeC,λp hp=>?_,tracked ⟨oc,hoc,I.freeC x c hc⟩ hs,by simpa using I.len⟩ ⟨c,hs,.inr hc⟩
  ·exact(hs.2 b (F3 (M1 (C7 e) (I.ok.cab x c hfn hc)))).trans (I.base.keep b o e n hb hx)
  ·obtain⟨sl,e1⟩:=I.base.slot b o e n hb hx;exact⟨sl,(hs.2 b (F3 (M1 (C7 e) (I.ok.cab x c hfn hc)))).trans e1⟩
  ·obtain⟨o',e1⟩:=I.base.there b o e hx;exact⟨o',(hs.2 b (F3 (M1 (C7 e) (I.ok.cab x c hfn hc)))).trans e1⟩
  ·by_cases hj:j=i
   ·subst hj;rw[hi] at e1;cases e1;rw[O7 hiσ] at e2;cases e2;exact⟨u,r,.inr ⟨.inl hk,c,hc,hc'⟩⟩
   ·rw[V2 (Ne.symm hj)] at e2;obtain⟨u',r',q⟩:=hl j y v' e1 e2 e3;refine⟨u',r',?_⟩;rcases q with q|⟨k,c',e,z'⟩
    ·exact .inl q
    ·refine .inr ⟨k,c',e,z'.sameBut hs ?_⟩;rintro rfl;exact hj (Jz hN e1 (I.ok.inj _ _ _ e hc▸hi))
  ·by_cases hcc:c'=c
   ·subst hcc;exact⟨_,hc'⟩
   ·obtain⟨w2,z2⟩:=I.cell y c' e;exact⟨w2,z2.sameBut hs hcc⟩
  ·obtain⟨e,n,ne,nf,d⟩:=I.pin p hp;refine⟨(hs.2 p.1 ?_).trans e,n,ne,nf,d⟩;intro q;rw[q,hoc] at e;have q':oc=p.2:=E7 e;exact d w' (by rw[<- q'];exact hocd)
def Bg (I:Inv X jd σ H s)(hN:X.N.Nodup)(hi:X.N[i]?=some x)(hx:Loc X.env.scope x)(r:RelV v u)
   (h:∀s',Inv X jd (σ.set i (some v)) H s'->Q () s') (hf:X.fn x=true\/X.env.scope.names.lookup x=some .local:=by first|exact .inl rfl|exact .inr rfl|assumption):A5 M A (storeName X.env x u) Q E s:=
 JA I hN hi hx r (λs' I' _=>h s' I') hf
end
abbrev XK:=A2->Option A1->Hp->Prop
abbrev St:=List (Option V)
abbrev VK:=V->Hp->Prop
abbrev TE:=St->Hp->VK->Prop
abbrev TT:=St->Hp->(Bool->Hp->Prop)->Prop
abbrev TA:=St->Hp->(List V->Hp->Prop)->Prop
structure Ends where
 nx:St->Hp->Prop
 rt:VK
 bk:St->Hp->Prop:=λ_ _=>False
 ct:St->Hp->Prop:=λ_ _=>False
abbrev TS:=Ends->St->Hp->Prop
def EP (X:Cx)(jd:List (A1×Obj))(σ:St)(Q:VK)(u:A2)(s':A4):Prop:=∃v H',Inv X jd σ H' s'/\RelV v u/\Q v H'
def TP (X:Cx)(jd:List (A1×Obj))(σ:St)(Q:Bool->Hp->Prop)(b:Bool)(s':A4):Prop:=∃H',Inv X jd σ H' s'/\Q b H'
def AP (X:Cx)(jd:List (A1×Obj))(σ:St)(Q:List V->Hp->Prop)(us:List A2)(s':A4):Prop:=∃vs H',Inv X jd σ H' s'/\Vals vs us/\Q vs H'
def SP (X:Cx)(jd:List (A1×Obj))(D:Ends)(f:Flow)(s':A4):Prop:=
 match f with
 |.next=>∃σ' H',Inv X jd σ' H' s'/\D.nx σ' H'
 |.brk=>∃σ' H',Inv X jd σ' H' s'/\D.bk σ' H'
 |.cont=>∃σ' H',Inv X jd σ' H' s'/\D.ct σ' H'
 |.ret u=>∃v σ' H',Inv X jd σ' H' s'/\RelV v u/\D.rt v H'
def PE (X:Cx)(e:Expr)(t:TE):Prop:=
 ∀(jd:List (A1×Obj)) (s:A4) (σ:St) (H:Hp) (Q:VK),Inv X jd σ H s->t σ H Q->A5 (A7 X.prog X.w) X.A (eval e X.env) (EP X jd σ Q) X.xe s
def PT (X:Cx)(e:Expr)(t:TT):Prop:=
 ∀(jd:List (A1×Obj)) (s:A4) (σ:St) (H:Hp) (Q:Bool->Hp->Prop),Inv X jd σ H s->t σ H Q->A5 (A7 X.prog X.w) X.A (isTrue e X.env (eval e X.env)) (TP X jd σ Q) X.xe s
def PW (X:Cx)(e:Expr)(t:TT):Prop:=
 ∀(whole:Sem A2) (jd:List (A1×Obj)) (s:A4) (σ:St) (H:Hp) (Q:Bool->Hp->Prop),Inv X jd σ H s->t σ H Q->A5 (A7 X.prog X.w) X.A (isTrue e X.env whole) (TP X jd σ Q) X.xe s
def PW.pt (h:PW X e t):PT X e t:=h _
def PA (X:Cx)(es:List Expr)(t:TA):Prop:=
 ∀(pos:Pos) (jd:List (A1×Obj)) (s:A4) (σ:St) (H:Hp) (Q:List V->Hp->Prop),Inv X jd σ H s->t σ H Q->A5 (A7 X.prog X.w) X.A (spliced (backTo pos (F5 es X.env))) (AP X jd σ Q) X.xe s
def PS (X:Cx)(st:Stmt)(t:TS):Prop:=
 ∀(jd:List (A1×Obj)) (s:A4) (σ:St) (H:Hp) (D:Ends),Inv X jd σ H s->t D σ H->A5 (A7 X.prog X.w) X.A (exec st X.env) (SP X jd D) X.xe s
def PSs (X:Cx)(st:List Stmt)(t:TS):Prop:=
 ∀(jd:List (A1×Obj)) (s:A4) (σ:St) (H:Hp) (D:Ends),Inv X jd σ H s->t D σ H->A5 (A7 X.prog X.w) X.A (execs st X.env) (SP X jd D) X.xe s
def thn {α:Type}{t:Sem α}{Q Q':α->A4->Prop}{M:Model}{A:D9}{E:A2->A4->Prop}{s:A4}(h:A5 M A t Q E s)(hQ:∀a s,Q a s->Q' a s):A5 M A t Q' E s:=K8 h hQ λ_ _ x=>x
section
variable {X:Cx}
def tVar (i:Nat):TE:=λσ H Q=>∃v,σ[i]?=some (some v)/\Q v H
def tC (v:V):TE:=λ_ H Q=>Q v H
def JB (hN:X.N[i]?=some x)(hv:Vis X.env.scope x)(hd:(x == ("__debug__":Str))=false:=by decide)(hcd:(x == ("__classdict__":Str))=false:=by decide):PE X (.Name x pos) (tVar i):=by
 intro jd s σ H Q I h;obtain⟨v,e,h⟩:=h;obtain⟨m,hn,hl⟩:=I.loc;obtain⟨u,r,l⟩:=hl i x v hN e hv;have fin:EP X jd σ Q u s:=⟨v,H,I,r,h⟩;rcases l with⟨hk,hm⟩|⟨hk,c,hc,hcell⟩
 ·exact wpAny_Name (wpAny_loadName_local I.ok.kind hk hn hm fin) hd
 ·rcases hk with hk|hk
  ·exact wpAny_Name (wpAny_loadName_cell I.ok.kind hk hc hcell fin) hd
  ·exact wpAny_Name (wpAny_loadName_free I.ok.kind hk hc hcell fin hcd) hd
def F6 {i j pos}:PE X (.Constant (.int i) j pos) (tC (.int i)):=λ_ _ _ H _ I h=>wpAny_Constant_int ⟨.int i,H,I.tok _,⟨_,rfl⟩,h⟩
def pe_bl {b j pos}:PE X (.Constant (.bool b) j pos) (tC (.bl b)):=λ_ _ _ H _ I h=>Constant_bool ⟨.bl b,H,I,rfl,h⟩
def pe_non {j pos}:PE X (.Constant .none j pos) (tC .non):=λ_ _ _ H _ I h=>Constant_none ⟨.non,H,I,rfl,h⟩
def pe_str {x j pos}:PE X (.Constant (.str x) j pos) (tC (.str x)):=λ_ _ _ H _ I h=>Calls.Constant_str ⟨.str x,H,I.tok _,⟨_,rfl⟩,h⟩
def Gl (X:Cx)(x:Str):Prop:=X.env.kindOf x=some .globalImplicit
def JC (I:Inv X jd σ H s)(hg:Gl X x)(hm:X.mg x=some u)(h:Q u s)
   (hd:(x == ("__debug__":Str))=false:=by decide):A5 (A7 X.prog X.w) X.A (eval (.Name x pos) X.env) Q E s:=
 Calls.Name_function_global I.ok.kind hg (Calls.loadGlobal_global (by rw[I.ok.glob];exact I.mod.glob.keeps I.bk) hm h) hd
def Az (I:Inv X jd σ H s)(hg:Gl X x)(hm:X.mg x=none)(hv:K7 x=some u)(h:Q u s)
   (hn:x≠"__name__":=by decide) (hd:(x == ("__debug__":Str))=false:=by decide):A5 (A7 X.prog X.w) X.A (eval (.Name x pos) X.env) Q E s:=by
 obtain⟨mb,h1,h2⟩:=I.mod.blt;exact Calls.Name_function_global I.ok.kind hg (Calls.loadGlobal_builtin (by rw[I.ok.glob];exact I.mod.glob.keeps I.bk) hm (by rw[I.ok.blt];exact h1.keeps I.bk) ((h2 x hn).trans hv) h) hd
def MY {x:Str}{v:V}{u:A2}{pos:Pos}(hg:Gl X x)(hm:X.mg x=some u)(r:RelV v u)(hd:(x == ("__debug__":Str))=false:=by decide):PE X (.Name x pos) (tC v):=
 λ_ _ _ H _ I h=>JC I hg hm ⟨v,H,I,r,h⟩ hd
def MZ (hg:Gl X x)(hm:X.mg x=none)(hv:K7 x=some u)(r:RelV v u)(hn:x≠"__name__":=by decide)(hd:(x == ("__debug__":Str))=false:=by decide):PE X (.Name x pos) (tC v):=
 λ_ _ _ H _ I h=>Az I hg hm hv ⟨v,H,I,r,h⟩ hn hd
variable {a b:Expr}{ta tb:TE}{pos:Pos}
def tB (t:TE):TT:=λσ H Q=>t σ H λx H1=>∃c,x=.bl c/\Q c H1
def pt_val (h:PE X e t)(he:∀whole,isTrue e X.env whole=(do let v ← whole;standAt e.pos;w8 [v] (truthy v)):=by intro _;rfl):PT X e (tB t):=by
 intro jd s σ H Q I hw;refine isTrue_plain (thn (h jd s σ H _ I hw) λv s1 ⟨x,H1,I1,r1,q1⟩=>?_) (he _);obtain⟨d,rfl,q⟩:=q1;cases r1;exact Ah ⟨H1,I1,q⟩
variable {tA tB':TT}{rest:List Expr}
def tAnd (t u:TT):TT:=λσ H Q=>t σ H λc H1=>if c=true then u σ H1 Q else Q false H1
def tOr (t u:TT):TT:=λσ H Q=>t σ H λc H1=>if c=true then Q true H1 else u σ H1 Q
def tNot (t:TT):TT:=λσ H Q=>t σ H λc H1=>Q (!c) H1
def M_ (ha:PT X a tA):PW X (.BoolOp .And [a] pos) tA:=by
 intro wh jd s σ H Q I h;refine isTrue_and (thn (ha jd s σ H Q I h) λc s1 e=>?_);cases c with
 |true=>exact isTrue_and_nil e
 |false=>exact e
def pw_or1 (ha:PT X a tA):PW X (.BoolOp .Or [a] pos) tA:=by
 intro wh jd s σ H Q I h;refine isTrue_or (thn (ha jd s σ H Q I h) λc s1 e=>?_);cases c with
 |false=>exact isTrue_or_nil e
 |true=>exact e
def pw_and (ha:PT X a tA)(hb:PW X (.BoolOp .And (b::rest) pos) tB'):PW X (.BoolOp .And (a::b::rest) pos) (tAnd tA tB'):=by
 intro wh jd s σ H Q I h;refine isTrue_and (thn (ha jd s σ H _ I h) λc s1 ⟨H1,I1,q1⟩=>?_);cases c with
 |true=>exact hb wh jd s1 σ H1 Q I1 q1
 |false=>exact⟨H1,I1,q1⟩
def pw_or (ha:PT X a tA)(hb:PW X (.BoolOp .Or (b::rest) pos) tB'):PW X (.BoolOp .Or (a::b::rest) pos) (tOr tA tB'):=by
 intro wh jd s σ H Q I h;refine isTrue_or (thn (ha jd s σ H _ I h) λc s1 ⟨H1,I1,q1⟩=>?_);cases c with
 |true=>exact⟨H1,I1,q1⟩
 |false=>exact hb wh jd s1 σ H1 Q I1 q1
def pt_not (ha:PT X a tA):PT X (.UnaryOp .Not a pos) (tNot tA):=by
 intro jd s σ H Q I h;exact isTrue_not (ha jd s σ H (λc H1=>Q (!c) H1) I h)
def tAndV (ta tb:TE):TE:=λσ H Q=>ta σ H λx H1=>∃c,x=.bl c/\if c=true then tb σ H1 Q else Q (.bl false) H1
def tNotV (ta:TE):TE:=λσ H Q=>ta σ H λx H1=>∃c,x=.bl c/\Q (.bl (!c)) H1
def pe_one {op}{t:TE}(h:PE X a t):PE X (.BoolOp op [a] pos) t:=λjd s σ H Q I hw=>BoolOp_one (h jd s σ H Q I hw)
def pe_and (ha:PE X a ta)(hb:PE X (.BoolOp .And (b::rest) pos) tb):PE X (.BoolOp .And (a::b::rest) pos) (tAndV ta tb):=by
 intro jd s σ H Q I h;refine BoolOp_and (thn (ha jd s σ H _ I h) λv s1 ⟨x,H1,I1,r1,q1⟩=>?_);obtain⟨c,rfl,q1⟩:=q1;cases r1;refine Ah ?_;cases c with
 |true=>exact hb jd s1 σ H1 Q I1 q1
 |false=>exact⟨.bl false,H1,I1,rfl,q1⟩
def pe_not (ha:PE X a ta):PE X (.UnaryOp .Not a pos) (tNotV ta):=by
 intro jd s σ H Q I h;refine UnaryOp_ (thn (ha jd s σ H _ I h) λv s1 ⟨x,H1,I1,r1,q1⟩=>?_);obtain⟨c,rfl,q1⟩:=q1;cases r1;exact not_of (Ah ⟨.bl (!c),H1,I1,rfl,q1⟩)
def tIf (t:TT)(ta tb:TE):TE:=λσ H Q=>t σ H λc H1=>if c=true then ta σ H1 Q else tb σ H1 Q
def JD (hc:PT X c tA)(ha:PE X a ta)(hb:PE X b tb):PE X (.IfExp c a b pos) (tIf tA ta tb):=by
 intro jd s σ H Q I h;refine wpAny_IfExp (thn (hc jd s σ H _ I h) λd s1 ⟨H1,I1,q1⟩=>?_);cases d with
 |true=>exact ha jd s1 σ H1 Q I1 q1
 |false=>exact hb jd s1 σ H1 Q I1 q1
end
def SqL (K:A6)(H:Hp)(a:A1)(xs:List V):Prop:=
 Rd H a (.lst xs)\/
   ∃(o:Obj) (jh:Array A2) (n:Nat),K.lookup a=some o/\o.cls=.type "list"/\o.dict=none/\o.data=.seq jh n/\jh.size<=B5/\Vals xs jh.toList
def SqT (K:A6)(H:Hp)(a:A1)(xs:List V):Prop:=
 Rd H a (.tup xs)\/
   ∃(o:Obj) (jh:Array A2) (n:Nat),K.lookup a=some o/\o.cls=.type "tuple"/\o.data=.seq jh n/\jh.size<=B5/\Vals xs jh.toList
def absV:A2->Option V
 |.none=>some .non
 |.bool b=>some (.bl b)
 |.int i _=>some (.int i)
 |.str x _=>some (.str x)
 |.bytes b _=>some (.byt b)
 |.float b _=>some (.flt b)
 |.ref a=>some (.ref a)
 |.type n=>some (.ty n)
 |_=>none
def RelV.abs {x:V}{u:A2}(r:RelV x u):absV u=some x:=by grind [RelV,V,absV]
def RelV.inj {x y:V}{u:A2}(r:RelV x u)(q:RelV y u):x=y:=by grind [RelV,V]
theorem Vals.inj (h:Vals xs us)(h':Vals ys us):xs=ys:=by
 induction h generalizing ys with
 |nil=>cases h';rfl
 |cons r t ih=>cases h' with|cons r' t'=>rw[r.inj r',ih t']
section
variable {X:Cx}{jd:List (A1×Obj)}{σ:St}{H:Hp}{s:A4}{a:A1}{xs ys:List V}
def SqL.of {K:A6}(h:H a=some (.lst xs)):SqL K H a xs:=.inl (.inl h)
def SqT.of {K:A6}(h:H a=some (.tup xs)):SqT K H a xs:=.inl (.inl h)
def Inv.list (I:Inv X jd σ H s)(h:SqL X.K H a xs):∃jh:List A2,Vals xs jh/\PlainL s.heap a jh.toArray/\xs.length<=B5:=by
 rcases h with h|⟨o,jh,n,hk,hc,hd,hs,hz,r⟩
 ·obtain⟨z,jh,n,r,e⟩:=h.ok I.hok;exact⟨jh,r,⟨_,n,e,rfl,rfl,rfl⟩,z⟩
 ·refine⟨jh.toList,r,⟨o,n,I.kIn a o hk,hc,hd,by simpa using hs⟩,?_⟩;have e:=r.length;simp only[BE] at e;omega
def Inv.tuple (I:Inv X jd σ H s)(h:SqT X.K H a xs):∃jh:List A2,Vals xs jh/\IsTup s.heap a jh.toArray/\xs.length<=B5:=by
 rcases h with h|⟨o,jh,n,hk,hc,hs,hz,r⟩
 ·obtain⟨z,jh,r,p⟩:=h.ok I.hok;exact⟨jh,r,p.is,z⟩
 ·refine⟨jh.toList,r,⟨o,I.kIn a o hk,hc,n,by simpa using hs⟩,?_⟩;have e:=r.length;simp only[BE] at e;omega
def Inv.list_inj (I:Inv X jd σ H s)(h:SqL X.K H a xs)(h':SqL X.K H a ys):xs=ys:=by
 obtain⟨jh,r,⟨o,n,e,_,_,d⟩,_⟩:=I.list h;obtain⟨its',r',⟨o',n',e',_,_,d'⟩,_⟩:=I.list h';rw[e] at e';cases e';rw[d] at d';injection d' with d1 _;have:jh=its':=by simpa using congrArg Array.toList d1
 subst this;exact r.inj r'
def Inv.tuple_inj (I:Inv X jd σ H s)(h:SqT X.K H a xs)(h':SqT X.K H a ys):xs=ys:=by
 obtain⟨jh,r,⟨o,e,_,n,d⟩,_⟩:=I.tuple h;obtain⟨its',r',⟨o',e',_,n',d'⟩,_⟩:=I.tuple h';rw[e] at e';cases e';rw[d] at d';injection d' with d1 _;have:jh=its':=by simpa using congrArg Array.toList d1
 subst this;exact r.inj r'
end
abbrev Cx.wish (X:Cx)(E:A2->A4->Prop):Cx:={ X with xe:=E }
abbrev Cx.nox (X:Cx):Cx:=X.wish λ_ _=>False
theorem Cx.Ok.wish {X:Cx}(ok:X.Ok)(E:A2->A4->Prop):(X.wish E).Ok:=
 ⟨ok.mod,ok.kind,ok.glob,ok.blt,ok.above,ok.inj,ok.has,ok.cab,ok.hd,ok.frames,ok.stk,ok.exf,ok.bs,ok.bsz,ok.noex,ok.exfs,ok.funs,ok.frf,ok.nos⟩
def Cx.Ok.unwish {X:Cx}(ok:(X.wish E).Ok):X.Ok:=
 ⟨ok.mod,ok.kind,ok.glob,ok.blt,ok.above,ok.inj,ok.has,ok.cab,ok.hd,ok.frames,ok.stk,ok.exf,ok.bs,ok.bsz,ok.noex,ok.exfs,ok.funs,ok.frf,ok.nos⟩
section
variable {X:Cx}{jd:List (A1×Obj)}{σ:St}{H:Hp}{s:A4}{E:A2->A4->Prop}
theorem Inv.wish (I:Inv X jd σ H s)(E:A2->A4->Prop):Inv (X.wish E) jd σ H s:=⟨I.ok.wish E,I.os,I.bare,I.base,I.loc,I.cell,I.free,I.freeC,I.pin,I.hok,I.len⟩
theorem Inv.unwish (I:Inv (X.wish E) jd σ H s):Inv X jd σ H s:=⟨I.ok.unwish,I.os,I.bare,I.base,I.loc,I.cell,I.free,I.freeC,I.pin,I.hok,I.len⟩
theorem SP.unwish (h:SP (X.wish E) jd D f s'):SP X jd D f s':=by
 cases f with
 |next=>obtain⟨σ',H',I,q⟩:=h;exact⟨σ',H',I.unwish,q⟩
 |brk=>obtain⟨σ',H',I,q⟩:=h;exact⟨σ',H',I.unwish,q⟩
 |cont=>obtain⟨σ',H',I,q⟩:=h;exact⟨σ',H',I.unwish,q⟩
 |ret u=>obtain⟨v,σ',H',I,r,q⟩:=h;exact⟨v,σ',H',I.unwish,r,q⟩
theorem PSs.nox {st:List Stmt}(h:PSs X.nox st t):PSs X st t:=λjd s σ H D I hw=>
 K8 (h jd s σ H D (I.wish _) hw) (λ_ _ q=>q.unwish) λ_ _ z=>y4 z
end
section
variable {X:Cx}{st:Stmt}{rest:List Stmt}{t u:TS}{e:Expr}{te:TE}{pos:Pos}
def tNext:TS:=λD σ H=>D.nx σ H
def tSeq (t u:TS):TS:=λD σ H=>t { D with nx:=u D } σ H
def JE:PSs X [] tNext:=λ_ _ σ H _ I h=>Ex ⟨σ,H,I,h⟩
def u6 (h1:PS X st t)(h2:PSs X rest u):PSs X (st::rest) (tSeq t u):=by
 intro jd s σ H D I h;refine wpAny_execs_cons (thn (h1 jd s σ H { D with nx:=u D } I h) λf s1 q=>?_);cases f with
 | next =>
  obtain⟨σ',H',I',q⟩:=q;exact h2 jd s1 σ' H' D I' q
 |ret v=>exact q
 |brk=>exact q
 |cont=>exact q
def DH (h1:PS X st t):PSs X [st] t:=by
 intro jd s σ H D I h;refine wpAny_execs_cons (thn (h1 jd s σ H D I h) λf s1 q=>?_);cases f with
 |next=>exact Ex q
 |ret v=>exact q
 |brk=>exact q
 |cont=>exact q
def Inv.quiet (I:Inv X jd σ H s):interactive X.env=false:=by simp[interactive,I.ok.kind]
def Gu (te:TE):TS:=λD σ H=>te σ H λ_ H1=>D.nx σ H1
def Na (he:PE X e te)(hs:v5 e none pos.line X.env=pure false:=by rfl):PS X (.Expr e pos) (Gu te):=by
 intro jd s σ H D I h;exact wpAny_Expr_any (thn (he jd s σ H _ I h) λv s1 ⟨x,H1,I1,r1,q1⟩=>⟨σ,H1,I1,q1⟩) I.quiet hs
def tRet (te:TE):TS:=λD σ H=>te σ H D.rt
def DI (he:PE X e te):PS X (.Return (some e) pos) (tRet te):=by
 intro jd s σ H D I h;exact wpAny_Return_some (thn (he jd s σ H _ I h) λv s1 ⟨x,H1,I1,r1,q1⟩=>⟨x,σ,H1,I1,r1,q1⟩)
def tIfS (c:TT)(t u:TS):TS:=λD σ H=>c σ H λb H1=>if b=true then t D σ H1 else u D σ H1
def ps_if (hc:PT X c tc)(ha:PSs X a t)(hb:PSs X b u):PS X (.If c a b pos) (tIfS tc t u):=by
 intro jd s σ H D I h;refine wpAny_If (thn (hc jd s σ H _ I h) λd s1 ⟨H1,I1,q1⟩=>?_);cases d with
 |true=>exact ha jd s1 σ H1 D I1 q1
 |false=>exact hb jd s1 σ H1 D I1 q1
end
abbrev TG:=V->St->Hp->(St->Hp->Prop)->Prop
abbrev TGs:=List V->St->Hp->(St->Hp->Prop)->Prop
def PG (X:Cx)(target:Expr)(t:TG):Prop:=
 ∀ (jd : List (A1 × Obj)) (s : A4) (σ : St) (H : Hp) (v : V) (u : A2) (Q : St -> Hp -> Prop), Inv X jd σ H s -> RelV v u -> t v σ H Q ->
   A5 (A7 X.prog X.w) X.A (assign target X.env u) (λ_ s'=>∃σ' H',Inv X jd σ' H' s'/\Q σ' H') X.xe s
def PGs (X:Cx)(ts:List Expr)(t:TGs):Prop:=
 ∀ (jd : List (A1 × Obj)) (s : A4) (σ : St) (H : Hp) (vs : List V) (us : List A2) (Q : St -> Hp -> Prop), Inv X jd σ H s -> Vals vs us -> t vs σ H Q ->
   A5 (A7 X.prog X.w) X.A (Dj ((V1 ts X.env).map (·.2)) us) (λ_ s'=>∃σ' H',Inv X jd σ' H' s'/\Q σ' H') X.xe s
abbrev TSet:=V->V->V->Hp->(Hp->Prop)->Prop
def PSet (X:Cx)(t:TSet):Prop:=
 ∀ (jd : List (A1 × Obj)) (s : A4) (σ : St) (H : Hp) (o i v : V) (ov iv u : A2) (Q : Hp -> Prop), Inv X jd σ H s -> RelV o ov -> RelV i iv -> RelV v u -> t o i v H Q ->
   A5 (A7 X.prog X.w) X.A (setItem ov iv u) (λ_ s'=>∃H',Inv X jd σ H' s'/\Q H') X.xe s
abbrev TIp:=V->V->Hp->VK->Prop
def PIp (X:Cx)(op:Operator)(t:TIp):Prop:=
 ∀ (jd : List (A1 × Obj)) (s : A4) (σ : St) (H : Hp) (x y : V) (v u : A2) (Q : VK), Inv X jd σ H s -> RelV x v -> RelV y u -> t x y H Q ->
   A5 (A7 X.prog X.w) X.A (inplaceOp op v u) (EP X jd σ Q) X.xe s
section
variable {X:Cx}{pos:Pos}
def W9 (i:Nat):TG:=λv σ H Q=>Q (σ.set i (some v)) H
def JF (hN:X.N.Nodup)(hi:X.N[i]?=some x)(hx:Loc X.env.scope x)(hf:X.fn x=true\/X.env.scope.names.lookup x=some .local:=by first|exact .inl rfl|exact .inr rfl|assumption):PG X (.Name x pos) (W9 i):=by
 intro jd s σ H v u Q I r h;exact wpAny_assign_Name (Bg I hN hi hx r (λs' I'=>⟨_,H,I',h⟩) hf)
def gNil:TGs:=λvs σ H Q=>vs=[]/\Q σ H
def DJ (t:TG)(u:TGs):TGs:=λvs σ H Q=>∃v r,vs=v::r/\t v σ H λσ' H'=>u r σ' H' Q
def JG:PGs X [] gNil:=by
 intro jd s σ H vs us Q I r h;obtain⟨e,h⟩:=h;subst e;cases r;exact assignInOrder_nil ⟨σ,H,I,h⟩
def Gv (h1:PG X e t)(h2:PGs X es u)
   (hs:(V1 (e::es) X.env).map (·.2)=assign e X.env::(V1 es X.env).map (·.2):=by rfl):PGs X (e::es) (DJ t u):=by
 intro jd s σ H vs us Q I r h;obtain⟨v,vr,e1,h⟩:=h;subst e1;cases r with
 | cons r rr =>
  rw[hs];refine Cq (thn (h1 jd s σ H _ _ _ I r h) λ_ s1 ⟨σ1,H1,I1,q1⟩=>?_);exact h2 jd s1 σ1 H1 _ _ Q I1 rr q1
def gTup (K:A6)(n:Nat)(t:TGs):TG:=λv σ H Q=>∃a xs,v=.ref a/\SqT K H a xs/\xs.length=n/\t xs σ H Q
def JH (hc:X.calm=true)(h:PGs X es t)
   (hn:(V1 es X.env).length=n:=by rfl) (hst:(V1 es X.env).findIdx? (·.1)=none:=by rfl):PG X (.Tuple es k pos) (gTup X.K n t):=by
 intro jd s σ H v u Q I r hw;obtain⟨a,xs,e1,hq,hl,hw⟩:=hw;subst e1;cases r;obtain⟨jh,rv,ht,hz⟩:=I.tuple hq;refine assign_Tuple_tuple (I.ok.hd hc) ht (by simp[hn,<- hl,rv.length]) hst λh' hx=>?_;have I1:Inv X jd σ H { s with heap:=h' }:=I.kept (t':=s.toks) λb o e=>hx b o (F3 (C7 e)) e;exact h jd _ σ H xs _ Q I1 (by simpa using rv) hw
def gSub (to ti:TE)(t:TSet):TG:=λv σ H Q=>to σ H λo H1=>ti σ H1 λi H2=>t o i v H2 λH3=>Q σ H3
def Gw (ho:PE X o to)(hi:PE X i ti)(hs:PSet X t)
   (ha:∀v,assign (.Subscript o i pos) X.env v=(do
    let ov ← w8 [v] (eval o X.env)
    let iv ← w8 [v,ov] (eval i X.env)
    standAt pos
    w8 [v,ov,iv] (setItem ov iv v)
    release [v,ov,iv] []):=by intro _;rfl):PG X (.Subscript o i pos) (gSub to ti t):=by
 intro jd s σ H v u Q I r h;rw[ha];refine A3 (R3 (thn (ho jd s σ H _ I h) λov s1 ⟨x,H1,I1,r1,q1⟩=>?_));refine A3 (R3 (thn (hi jd s1 σ H1 _ I1 q1) λiv s2 ⟨y,H2,I2,r2,q2⟩=>?_));refine A3 (p5 (A3 (R3 (thn (hs jd s2 σ H2 x y v ov iv u _ I2 r1 r2 r q2) λ_ s3 ⟨H3,I3,q3⟩=>?_))));exact wpAny_release ⟨σ,H3,I3,q3⟩
def tAsg (te:TE)(g:TG):TS:=λD σ H=>te σ H λx H1=>g x σ H1 D.nx
def Gx (he:PE X e te)(hg:PG X tg g)(hs:Ca [tg] e pos.line X.env=pure false:=by rfl)(hw:Cb [tg] e X.env=pure none:=by rfl)
   (h1:(V1 [tg] X.env).map (·.2)=[assign tg X.env]:=by rfl):PS X (.Assign [tg] e pos) (tAsg te g):=by
 intro jd s σ H D I h;refine wpAny_Assign_stores (thn (he jd s σ H _ I h) λv s1 ⟨x,H1,I1,r1,q1⟩=>?_) hs hw;rw[h1];exact thn (hg jd s1 σ H1 x v _ I1 r1 q1) λ_ s2 q=>q
def Bh (hN:X.N.Nodup)(hi:X.N[i]?=some x)(hx:Loc X.env.scope x)(he:PE X e te)(hs:v5 e (some (.Name x pos')) pos.line X.env=pure false:=by rfl)(hf:X.fn x=true\/X.env.scope.names.lookup x=some .local:=by first|exact .inl rfl|exact .inr rfl|assumption) :
   PS X (.Assign [.Name x pos'] e pos) (tAsg te (W9 i)):=by
 intro jd s σ H D I h;refine wpAny_Assign_Name (thn (he jd s σ H _ I h) λv s1 ⟨y,H1,I1,r1,q1⟩=>?_) hs;exact Bg I1 hN hi hx r1 (λs2 I2=>⟨_,H1,I2,q1⟩) hf
def tPar (i j:Nat)(ta:TA):TS:=λD σ H=>ta σ H λvs H1=>∃v w,vs=[v,w]/\D.nx ((σ.set i (some v)).set j (some w)) H1
def ps_par {i j:Nat}{x y:Str}{a b:Expr}{ta:TA}{px py pt:Pos}{kt k2 pt2}(hc:X.calm=true)(hN:X.N.Nodup)(hi:X.N[i]?=some x)(hj:X.N[j]?=some y)(hij:i≠j)
   (hx:X.env.scope.names.lookup x=some .local) (hy:X.env.scope.names.lookup y=some .local) (ha:PA X [a,b] ta)
   (hw:Cb [.Tuple [.Name x px,.Name y py] kt pt] (.Tuple [a,b] k2 pt2) X.env=pure (some [x,y]))
   (hs:Ca [.Tuple [.Name x px,.Name y py] kt pt] (.Tuple [a,b] k2 pt2) pos.line X.env=pure false:=by rfl) :
   PS X (.Assign [.Tuple [.Name x px,.Name y py] kt pt] (.Tuple [a,b] k2 pt2) pos) (tPar i j ta):=by
 intro jd s σ H D I h;rw[exec_Assign_arm];refine A3 (p5 ?_);rw[hs];refine A3 (A9 ?_);rw[jy 0b0];refine A3 (Tuple_ (thn (ha _ jd s σ H _ I h) λus s1 ⟨vs,H1,I1,r1,q1⟩=>?_));obtain⟨v,w,e1,q1⟩:=q1;subst e1
 obtain⟨u1,u2,rfl,rv,rw'⟩:∃u1 u2,us=[u1,u2]/\RelV v u1/\RelV w u2:=by
  cases r1 with
  | cons p q =>
   cases q with
   | cons p' q' =>
    cases q';exact⟨_,_,rfl,p,p'⟩
 refine Z6 ?_ (by show 2<=B5;decide);have I2:Inv X jd σ H1 { s1 with heap:=s1.heap.push { cls:=.type "tuple",data:=.seq [u1,u2].toArray } }:=I1.kept (t':=s1.toks) λb o e=>C3 _ e;rw[hw];refine A3 (A9 ?_);show A5 (A7 X.prog X.w) X.A (do rule "assign.swapped-stores";let items ← unpackItems (.ref s1.heap.objs.size) 2 none;Dj [λv=>w6 X.env y v,λv=>w6 X.env x v] items.reverse;pure Flow.next) _ _ _;refine A3 (p6 (A3 (unpackItems_tuple (items:=#[u1,u2]) (I.ok.hd hc) (IsTup.new s1.heap _) λh' hx'=>?_)));have I3:=I2.kept (h':=h') (t':=s1.toks) λb o e=>hx' b o (F3 (C7 e)) e;show A5 _ _ (Dj [λv=>w6 X.env y v,λv=>w6 X.env x v] [u2,u1]>>=λ_=>pure Flow.next) _ _ _;refine A3 (Cq (Di (Bg I3 hN hj (.inl hy) rw' (λs2 I4=>?_) (.inr hy))));refine Cq (Di (Bg I4 hN hi (.inl hx) rv (λs3 I5=>assignInOrder_nil (A9 ?_)) (.inr hx)));rw[List.set_comm _ _ (Ne.symm hij)] at I5;exact⟨_,H1,I5,q1⟩
def tAug (i:Nat)(te:TE)(ti:TIp):TS:=λD σ H=>∃x,σ[i]?=some (some x)/\te σ H λy H1=>ti x y H1 λz H2=>D.nx (σ.set i (some z)) H2
def ps_aug (hN:X.N.Nodup)(hi:X.N[i]?=some x)(hx:Loc X.env.scope x)(he:PE X e te)(ho:PIp X op ti)(hf:X.fn x=true\/X.env.scope.names.lookup x=some .local:=by first|exact .inl rfl|exact .inr rfl|assumption) :
   PS X (.AugAssign (.Name x pos') op e pos) (tAug i te ti):=by
 intro jd s σ H D I h;obtain⟨v,e1,h⟩:=h;obtain⟨m,hn,hl⟩:=I.loc;have vis:Vis X.env.scope x:=by rcases hx with k|k;exact .inl k;exact .inr (.inl k)
 obtain⟨u,r,l⟩:=hl i x v hi e1 vis;refine wpAny_AugAssign_Name ?_
 have go:A5 (A7 X.prog X.w) X.A (eval e X.env) (λw s₂=>A5 (A7 X.prog X.w) X.A (inplaceOp op u w) (λr s₃=>A5 (A7 X.prog X.w) X.A (storeName X.env x r) (λ_=>SP X jd D .next) X.xe s₃) X.xe s₂) X.xe s:=by
  refine thn (he jd s σ H _ I h) λw s1 ⟨y,H1,I1,r1,q1⟩=>?_;refine thn (ho jd s1 σ H1 v y u w _ I1 r r1 q1) λz s2 ⟨zv,H2,I2,r2,q2⟩=>?_;exact Bg I2 hN hi hx r2 (λs3 I3=>⟨_,H2,I3,q2⟩) hf
 rcases l with⟨hk,hm⟩|⟨hk,c,hc,hcell⟩
 ·exact wpAny_loadName_local I.ok.kind hk hn hm go
 ·rcases hk with hk|hk
  ·exact wpAny_loadName_cell I.ok.kind hk hc hcell go
  ·rcases hx with k|k
   ·have:X.env.scope.names.lookup x=some .free:=hk;rw[k] at this;cases this
   ·have:X.env.scope.names.lookup x=some .free:=hk;rw[k] at this;cases this
end
section
variable {X:Cx}{pos:Pos}
def tWhile (c:TT)(tb:TS):TS:=λD σ H=>∃W:Nat->St->Hp->Prop,(∃m,W m σ H)/\∀m σ H,W m σ H->
 c σ H λb H1=>if b=true then ∃N:St->Hp->Prop,(∀σ' H',N σ' H'->∃m',m'<m/\W m' σ' H')/\tb { D with nx:=N,ct:=N,bk:=D.nx } σ H1 else D.nx σ H1
def Nb (hp:PassesOwn (A7 X.prog X.w) X.A X.env X.xe)(hc:PT X c tc)(hb:PSs X body tb):PS X (.While c body [] pos) (tWhile tc tb):=by
 intro jd s σ H D I h;obtain⟨W,⟨m0,w0⟩,turn⟩:=h;refine wpAny_While (codeAny_whileLoop (λn s'=>∃σ' H',Inv X jd σ' H' s'/\W n σ' H') ?_ m0 ⟨σ,H,I,w0⟩);rintro n s1 ⟨σ1,H1,I1,w1⟩;refine Bv hp (thn (hc jd s1 σ1 H1 _ I1 (turn n σ1 H1 w1)) λb s2 ⟨H2,I2,q2⟩=>?_);cases b with
 | true =>
  obtain⟨N,hN,q2⟩:=q2;rw[jw rfl];refine Bv hp (thn (hb jd s2 σ1 H2 _ I2 q2) λf s3 q3=>?_);cases f with
  | next =>
   obtain⟨σ3,H3,I3,n3⟩:=q3;obtain⟨m',hm,w3⟩:=hN σ3 H3 n3;exact⟨m',hm,σ3,H3,I3,w3⟩
  | cont =>
   obtain⟨σ3,H3,I3,n3⟩:=q3;obtain⟨m',hm,w3⟩:=hN σ3 H3 n3;exact⟨m',hm,σ3,H3,I3,w3⟩
  |brk=>exact q3
  |ret v=>exact q3
 | false =>
  rw[jy d5];exact Ex ⟨σ1,H2,I2,q2⟩
end
structure It where
 go:Nat->Hp->Prop
 yld:Nat->Hp->V->Hp->Prop
 stop:Nat->Hp->Prop
def FpOk (X:Cx)(jd:List (A1×Obj))(H:Hp)(b:A1):Prop:=
 H b=none/\b≠X.env.locals/\b∉X.fs/\(b∈X.ex\/X.s₀.heap.objs.size<=b)/\(∀x c,X.env.cells.lookup x=some c->c≠b)/\∀p∈X.pn++jd,p.1≠b
def Inv.fpOk (I:Inv X jd σ H s)(hb:s.heap.objs.size<=b)(hn:H' b=none):FpOk X jd H' b:=by
 refine⟨hn,DB (M1 I.lt hb),I.nofs hb,.inr (E6 I.sz hb),λx c e z=>?_,λp hp z=>?_⟩
 ·obtain⟨v,q⟩:=I.cell x c e;exact absurd (M1 q.lt (by rw[z];exact hb)) (q8 _)
 ·exact absurd (M1 (C7 (I.pin p hp).1) (by rw[z];exact hb)) (q8 _)
structure Turn (P:D4)(w:C0)(K:A6)(tg:Expr)(J:It)(fp:List A1)(it:A1)(tn:Nat->B4->Prop):Prop where
 mem:it∈fp
 obj:∀i h,tn i h->∀b∈fp,∃o,h.get? b=some o/\∀v,o.data≠.cell v
 keep:∀i h h',tn i h->(∀b∈fp,∀o,h.get? b=some o->h'.get? b=some o)->tn i h'
 item:∀(X:Cx),X.prog=P->X.w=w->X.K=K->X.calm=true->∀(i:Nat) (jd:List (A1×Obj)) (s:A4) (σ:St) (H:Hp) (E:A2->A4->Prop),Inv X jd σ H s->(∀b∈fp,FpOk X jd H b)->tn i s.heap->J.go i H->
   A5 (A7 P w) X.A (pyNext (.ref it)) (λr s1=>∃u,r=some u/\
     A5 (A7 P w) X.A (AM tg (.ref it) u) (λ_ s2=>∃x H',Inv X jd σ H' s2/\RelV x u/\J.yld i H x H'/\tn (i+1) s2.heap/\∀b∈fp,H' b=none) E s1) E s
 done:∀(X:Cx),X.prog=P->X.w=w->X.K=K->X.calm=true->∀(i:Nat) (jd:List (A1×Obj)) (s:A4) (σ:St) (H:Hp) (E:A2->A4->Prop),Inv X jd σ H s->(∀b∈fp,FpOk X jd H b)->tn i s.heap->J.stop i H->
   A5 (A7 P w) X.A (pyNext (.ref it)) (λr s1=>r=none/\Inv X jd σ H s1) E s
 self:∀(A:D9) (i:Nat) (s:A4) (Q:A2->A4->Prop) (E:A2->A4->Prop),tn i s.heap->Q (.ref it) s->A5 (A7 P w) A (pyIter (.ref it)) Q E s
abbrev TI:=St->Hp->(It->Hp->Prop)->Prop
def PIE (X:Cx)(jd:List (A1×Obj))(σ:St)(tg:Expr)(R:It->Hp->Prop)(itv:A2)(s2:A4):Prop:=
 ∃(it:A1) (fp:List A1) (tn:Nat->B4->Prop) (J:It) (H':Hp),itv=.ref it/\Inv X jd σ H' s2/\Turn X.prog X.w X.K tg J fp it tn/\tn 0 s2.heap/\(∀b∈fp,FpOk X jd H' b)/\R J H'
def PI (X:Cx)(tg iter:Expr)(wi:TI):Prop:=
 ∀ (jd : List (A1 × Obj)) (s : A4) (σ : St) (H : Hp) (R : It -> Hp -> Prop), Inv X jd σ H s -> wi σ H R ->
   A5 (A7 X.prog X.w) X.A (eval iter X.env) (λv s1=>A5 (A7 X.prog X.w) X.A (pyIter v) (PIE X jd σ tg R) X.xe s1) X.xe s
def EX (ho:s.heap.get? it=some o)(hc:o.cls=.type n)(hd:o.data=.fields vs)
   (hn:["enumerate","zip","dict_itemiterator","dict_reverseitemiterator","odict_iterator","itertools.zip_longest","itertools.pairwise"].contains n=false) (hQ:Q () s):A5 M A (AM tg (.ref it) u) Q E s:=by
 unfold AM
 cases tg <;> first
   |exact A9 hQ
   |(cases u <;> first
       |exact A9 hQ
       | (refine A3 (wpAny_load ho ?_)
          rw[hc,hd];show A5 M A (if(["enumerate","zip","dict_itemiterator","dict_reverseitemiterator","odict_iterator","itertools.zip_longest","itertools.pairwise"].contains n&&vs[0]? == some (rawInt _))=true then _ else _) Q E s;rw[jy (by intro h;rw[hn,N9] at h;cases h)]
          exact A9 hQ))
def Itl (K:A6)(a:A1):It:=
 ⟨λi H=>∃xs x,SqL K H a xs/\xs[i]?=some x,λi H x H'=>H'=H/\∀xs,SqL K H a xs->xs[i]?=some x,λi H=>∃xs,SqL K H a xs/\xs.length<=i⟩
def Itt (K:A6)(a:A1):It:=
 ⟨λi H=>∃xs x,SqT K H a xs/\xs[i]?=some x,λi H x H'=>H'=H/\∀xs,SqT K H a xs->xs[i]?=some x,λi H=>∃xs,SqT K H a xs/\xs.length<=i⟩
def Itr (lo:Int)(n:Nat):It:=⟨λi _=>i<n,λi H x H'=>H'=H/\x=.int (lo+i),λi _=>n<=i⟩
def Nc {K:A6}(a it:A1):Turn P w K tg (Itl K a) [it] it (λi h=>h.IsListIter it a i) where
 mem:=0o0
 obj:=λi h st b hb=>by
  have e:b=it:=by simpa using hb
  subst e;obtain⟨o,e,c,d⟩:=st;exact⟨o,e,λv z=>by rw[d] at z;cases z⟩
 keep:=λi h h' st k=>st.at λo e=>k it 0o0 o e
 item:=by
  intro X hP hw hK hc i jd s σ H E I hf st hg;subst hP hw hK;obtain⟨xs,x,hq,hx⟩:=hg;obtain⟨jh,rv,p,hz⟩:=I.list hq;obtain⟨u,hu,ru⟩:=rv.get hx;obtain⟨f0,f1,f2,f3,f4,f5⟩:=hf it 0o0;refine wpAny_pyNext_list_item st p.isList (x:=u) (by simpa using hu) λh' st' sb=>?_;have I1:Inv X jd σ H { s with heap:=h' }:=I.turned (t':=s.toks) (λb o hb e=>(sb.2 b hb).trans e) f0 f1 f3 f4 f5;obtain⟨o,e,c,d⟩:=id st';exact⟨u,rfl,EX (s:={ s with heap:=h' }) e c d 0b0 ⟨x,H,I1,ru,⟨rfl,λys hy=>by rw[I.list_inj hy hq];exact hx⟩,st',λb hb=>(hf b hb).1⟩⟩
 done:=by
  intro X hP hw hK hc i jd s σ H E I hf st hg;subst hP hw hK;obtain⟨xs,hq,hx⟩:=hg;obtain⟨jh,rv,p,hz⟩:=I.list hq;obtain⟨f0,f1,f2,f3,f4,f5⟩:=hf it 0o0;have hl:=rv.length;exact wpAny_pyNext_list_end (I.ok.hd hc) st p.isList (by simp;ext) λh' eb=>⟨rfl,I.turned (t':=s.toks) (λb o hb e=>eb b o hb e) f0 f1 f3 f4 f5⟩
 self:=λ_ _ _ _ _ st h=>wpAny_pyIter_listiter st h
def Nd {K:A6}(a it:A1):Turn P w K tg (Itt K a) [it] it (λi h=>h.IsTupleIter it a i) where
 mem:=0o0
 obj:=λi h st b hb=>by
  have e:b=it:=by simpa using hb
  subst e;obtain⟨o,e,c,d⟩:=st;exact⟨o,e,λv z=>by rw[d] at z;cases z⟩
 keep:=λi h h' st k=>st.at λo e=>k it 0o0 o e
 item:=by
  intro X hP hw hK hc i jd s σ H E I hf st hg;subst hP hw hK;obtain⟨xs,x,hq,hx⟩:=hg;obtain⟨jh,rv,p,hz⟩:=I.tuple hq;obtain⟨u,hu,ru⟩:=rv.get hx;obtain⟨f0,f1,f2,f3,f4,f5⟩:=hf it 0o0;refine wpAny_pyNext_tuple_item st (show s.heap.IsTuple a jh.toArray from p) (x:=u) (by simpa using hu) λh' st' sb=>?_;have I1:Inv X jd σ H { s with heap:=h' }:=I.turned (t':=s.toks) (λb o hb e=>(sb.2 b hb).trans e) f0 f1 f3 f4 f5;obtain⟨o,e,c,d⟩:=id st';exact⟨u,rfl,EX (s:={ s with heap:=h' }) e c d 0b0 ⟨x,H,I1,ru,⟨rfl,λys hy=>by rw[I.tuple_inj hy hq];exact hx⟩,st',λb hb=>(hf b hb).1⟩⟩
 done:=by
  intro X hP hw hK hc i jd s σ H E I hf st hg;subst hP hw hK;obtain⟨xs,hq,hx⟩:=hg;obtain⟨jh,rv,p,hz⟩:=I.tuple hq;obtain⟨f0,f1,f2,f3,f4,f5⟩:=hf it 0o0;have hl:=rv.length;exact wpAny_pyNext_tuple_end (I.ok.hd hc) st (show s.heap.IsTuple a jh.toArray from p) (by simp;ext) λh' eb=>⟨rfl,I.turned (t':=s.toks) (λb o hb e=>eb b o hb e) f0 f1 f3 f4 f5⟩
 self:=λ_ _ _ _ _ st h=>wpAny_pyIter_tupleiter st h
def Nf {K:A6}(it:A1)(lo:Int)(n:Nat):Turn P w K tg (Itr lo n) [it] it (λi h=>IsRangeIter h it (lo+(i:Nat)*1) ((n:Int)-(i:Nat)) 1) where
 mem:=0o0
 obj:=fun i h st b hb=>by
  have e:b=it:=by simpa using hb
  subst e
  exact⟨_,st,λv z=>by
   have z':Data.fields _=Data.cell v:=z
   cases z'⟩
 keep:=λi h h' st k=>k it 0o0 _ st
 item:=by
  intro X hP hw hK hc i jd s σ H E I hf st hg;subst hP hw hK;obtain⟨f0,f1,f2,f3,f4,f5⟩:=hf it 0o0;have W:=Walks.range (prog:=X.prog) (w:=X.w) (I.ok.hd hc) it lo 1 n;refine W.item i s _ _ hg st λv h' tk hv st' kk=>?_;obtain⟨t,rfl⟩:=hv;have I1:Inv X jd σ H { s with heap:=h',toks:=tk }:=I.turned (λb o hb e=>kk b o (by simpa using hb) e) f0 f1 f3 f4 f5;refine⟨_,rfl,EX (s:={ s with heap:=h',toks:=tk }) (n:="range_iterator") st' rfl rfl 0b0 ⟨.int (lo+i),H,I1,⟨t,?_⟩,⟨rfl,rfl⟩,st',λb hb=>(hf b hb).1⟩⟩;rw[Int.mul_one]
 done:=by
  intro X hP hw hK hc i jd s σ H E I hf st hg;subst hP hw hK;obtain⟨f0,f1,f2,f3,f4,f5⟩:=hf it 0o0;exact wpAny_pyNext_range_end (I.ok.hd hc) st (by have:n<=i:=hg;ext) λh' eb=>⟨rfl,I.turned (t':=s.toks) (λb o hb e=>eb b o hb e) f0 f1 f3 f4 f5⟩
 self:=λ_ _ _ _ _ st h=>wpAny_pyIter_rangeiter st h
section
variable {X:Cx}{tg:Expr}
def iList (K:A6)(tl:TE):TI:=λσ H R=>tl σ H λx H1=>∃a,x=.ref a/\(∃xs,SqL K H1 a xs)/\R (Itl K a) H1
def iTup (K:A6)(tl:TE):TI:=λσ H R=>tl σ H λx H1=>∃a,x=.ref a/\(∃xs,SqT K H1 a xs)/\R (Itt K a) H1
def JI (hl:PE X l tl):PI X tg l (iList X.K tl):=by
 intro jd s σ H R I h;refine thn (hl jd s σ H _ I h) λv s1 ⟨x,H1,I1,r1,q1⟩=>?_;obtain⟨a,e,⟨xs,hq⟩,q⟩:=q1;subst e;cases r1;obtain⟨jh,rv,p,hz⟩:=I1.list hq;refine Ew p.isList ?_;refine⟨s1.heap.objs.size,[s1.heap.objs.size],_,_,H1,rfl,I1.kept (t':=s1.toks) λb o e=>C3 _ e,Nc a _,⟨_,K4 _ rfl,rfl,rfl⟩,λb hb=>?_,q⟩;have e:b=s1.heap.objs.size:=by simpa using hb
 subst e;exact I1.fpOk (B3 _) (I1.hok.fresh (B3 _))
def pi_tup (hl:PE X l tl):PI X tg l (iTup X.K tl):=by
 intro jd s σ H R I h;refine thn (hl jd s σ H _ I h) λv s1 ⟨x,H1,I1,r1,q1⟩=>?_;obtain⟨a,e,⟨xs,hq⟩,q⟩:=q1;subst e;cases r1;obtain⟨jh,rv,p,hz⟩:=I1.tuple hq;refine wpAny_pyIter_tuple (show s1.heap.IsTuple a jh.toArray from p) ?_;refine⟨s1.heap.objs.size,[s1.heap.objs.size],_,_,H1,rfl,I1.kept (t':=s1.toks) λb o e=>C3 _ e,Nd a _,⟨_,K4 _ rfl,rfl,rfl⟩,λb hb=>?_,q⟩;have e:b=s1.heap.objs.size:=by simpa using hb
 subst e;exact I1.fpOk (B3 _) (I1.hok.fresh (B3 _))
def JJ {lo hi:Int}(I:Inv X jd σ H s)(h1:-(2 ^ 62)<=lo)(h2:lo<2 ^ 62)(h3:-(2 ^ 62)<=hi)(h4:hi<2 ^ 62)
   (q:R (Itr lo (hi-lo).toNat) H):A5 (A7 X.prog X.w) X.A (pyIter (.ref s.heap.objs.size)) (PIE X jd σ tg R) E { s with heap:=s.heap.push { cls:=.type "range",data:=.fields #[.int lo t,.int hi u,.int 1 v] },toks:=tk }:=by
 refine wpAny_pyIter_range (IsRange.new ..) (small_one h1 h2 h3 h4) ?_;have I1:Inv X jd σ H { s with heap:=s.heap.push { cls:=.type "range",data:=.fields #[.int lo t,.int hi u,.int 1 v] },toks:=tk }:=I.kept λb o e=>C3 _ e
 refine⟨(s.heap.push { cls:=.type "range",data:=.fields #[.int lo t,.int hi u,.int 1 v] }).objs.size,[(s.heap.push { cls:=.type "range",data:=.fields #[.int lo t,.int hi u,.int 1 v] }).objs.size],_,_,H,rfl,
  I1.kept (t':=tk) λb o e=>C3 _ e,Nf _ lo (hi-lo).toNat,?_,λb hb=>?_,q⟩
 ·have e1:lo+((0:Nat):Int)*1=lo:=0o0
  have e2:(((hi-lo).toNat:Nat):Int)-((0:Nat):Int)=Builtin.Range.rangeSize lo hi 1:=by rw[rangeSize_one];split <;> ext
  show IsRangeIter _ _ (lo+((0:Nat):Int)*1) ((((hi-lo).toNat:Nat):Int)-((0:Nat):Int)) 1;rw[e1,e2];exact K4 _ rfl
 ·have e:b=(s.heap.push { cls:=.type "range",data:=.fields #[.int lo t,.int hi u,.int 1 v] }).objs.size:=by simpa using hb
  subst e;exact I1.fpOk (B3 _) (I1.hok.fresh (B3 _))
def iRng1 (ta:TA):TI:=λσ H R=>ta σ H λvs H1=>∃j:Int,vs=[.int j]/\-(2 ^ 62)<=j/\j<2 ^ 62/\R (Itr 0 j.toNat) H1
def iRng2 (ta:TA):TI:=λσ H R=>ta σ H λvs H1=>∃i j:Int,vs=[.int i,.int j]/\(-(2 ^ 62)<=i/\i<2 ^ 62/\-(2 ^ 62)<=j/\j<2 ^ 62)/\R (Itr i (j-i).toNat) H1
def Ng (hg:Gl X "range")(hm:X.mg "range"=none)(ha:PA X [a] ta)(hs:F5 [a] X.env=[(false,eval a X.env)]:=by rfl):PI X tg (.Call (.Name "range" p) [a] [] pos) (iRng1 ta):=by
 intro jd s σ H R I h;refine Call_ (Az I hg hm boot_range (Cp (thn (ha pos jd s σ H _ I h) λus s1 ⟨vs,H1,I1,r1,q1⟩=>?_) hs rfl));obtain⟨j,e,q1,q2,q⟩:=q1;subst e;cases r1 with
 | cons r rr =>
  cases rr;obtain⟨t,rfl⟩:=r;exact call_range_1 (JJ I1 0x0 0x0 q1 q2 (by simpa using q))
def Nh {a b:Expr}{ta:TA}{p pos:Pos}(hg:Gl X "range")(hm:X.mg "range"=none)(ha:PA X [a,b] ta)(hs:F5 [a,b] X.env=[(false,eval a X.env),(false,eval b X.env)]:=by rfl)(hs2:F5 [b] X.env=[(false,eval b X.env)]:=by rfl) :
   PI X tg (.Call (.Name "range" p) [a,b] [] pos) (iRng2 ta):=by
 intro jd s σ H R I h;refine Call_ (Az I hg hm boot_range (Cp (thn (ha pos jd s σ H _ I h) λus s1 ⟨vs,H1,I1,r1,q1⟩=>?_) (by rw[hs,hs2]) (by rw[hs2];rfl)));obtain⟨i,j,e,⟨q1,q2,q3,q4⟩,q⟩:=q1;subst e;cases r1 with
 | cons r rr =>
  cases rr with
  | cons r' rr =>
   cases rr;obtain⟨t,rfl⟩:=r;obtain⟨t',rfl⟩:=r';exact call_range_2 (JJ I1 q1 q2 q3 q4 q)
def tFor (wi:TI)(g:TG)(tb:TS):TS:=λD σ H=>wi σ H λJ H1=>∃W:Nat->Nat->St->Hp->Prop,(∃m,W 0 m σ H1)/\∀i m σ H,W i m σ H->
 (J.stop i H/\D.nx σ H)\/(J.go i H/\∃N:St->Hp->Prop,(∀σ' H',N σ' H'->∃m',m'<m/\W (i+1) m' σ' H')/\∀x H',J.yld i H x H'->g x σ H' λσ2 H2=>tb { D with nx:=N,ct:=N,bk:=D.nx } σ2 H2)
def CB (fp:List A1)(h:B4):List (A1×Obj):=fp.filterMap λb=>(h.get? b).map λo=>(b,o)
def Gy (hb:b∈fp)(e:h.get? b=some o):(b,o)∈CB fp h:=List.mem_filterMap.mpr ⟨b,hb,by rw[e];rfl⟩
def Ni (hp:p∈CB fp h):p.1∈fp/\h.get? p.1=some p.2:=by
 obtain⟨b,hb,e⟩:=List.mem_filterMap.mp hp;cases q:h.get? b with
 |none=>rw[q] at e;cases e
 | some o =>
  rw[q] at e;have e':(b,o)=p:=E7 e;subst e';exact⟨hb,q⟩
def Inv.pinned (I:Inv X jd σ H s)(hf:∀b∈fp,FpOk X jd H b)(ho:∀b∈fp,∃o,s.heap.get? b=some o/\∀v,o.data≠.cell v):Inv X (jd++CB fp s.heap) σ H s:=
 I.pins_of fun p hp=>(D6.mp hp).elim (fun z=>I.pin p (w9 _ z)) fun z=>by
  obtain⟨hb,e⟩:=Ni z;obtain⟨f0,f1,f2,_⟩:=hf p.1 hb;obtain⟨o,e',d⟩:=ho p.1 hb;rw[e] at e';cases e';exact⟨e,f0,f1,f2,d⟩
def Inv.unpinned (I:Inv X (jd++pl) σ H s):Inv X jd σ H s:=I.pins_of λp hp=>I.pin p (w9 _ (b5 _ hp))
def JK (hp:PassesOwn (A7 X.prog X.w) X.A X.env X.xe)(hc:X.calm=true)(hi:PI X tg iter wi)(hg:PG X tg g)(hb:PSs X body tb)
   (hs:∀x,M4 iter X.env x=pure x:=by intro _;rfl):PS X (.For tg iter body [] pos) (tFor wi g tb):=by
 intro jd s σ H D I h;refine wpAny_For (thn (hi jd s σ H _ I h) λv s1 h1=>thn h1 λitv s2 h2=>?_) hs;obtain⟨it,fp,tn,J,H2,e,I2,T,st2,f2,W,⟨m0,w0⟩,turn⟩:=h2;subst e
 -- what stays true of the iterator's objects through the loop
 have stat:∀{H':Hp},(∀b∈fp,H' b=none)->∀b∈fp,FpOk X jd H' b:=λhn b hb=>⟨hn b hb,(f2 b hb).2⟩;refine codeAny_forLoop_any (λn s'=>∃i σ' H',Inv X jd σ' H' s'/\tn i s'.heap/\(∀b∈fp,H' b=none)/\W i n σ' H') ?_ m0 ⟨0,σ,H2,I2,st2,λb hb=>(f2 b hb).1,w0⟩;rintro n s3 ⟨i,σ3,H3,I3,st3,fr3,w3⟩;rcases turn i n σ3 H3 w3 with⟨stop,qn⟩|⟨go,N,hN,step⟩
 ·refine Bv hp (thn (T.done X rfl rfl rfl hc i jd s3 σ3 H3 X.xe I3 (stat fr3) st3 stop) λr s4 ⟨hr,I4⟩=>?_);subst hr;exact Ex ⟨σ3,H3,I4,qn⟩
 ·refine Bv hp (thn (T.item X rfl rfl rfl hc i jd s3 σ3 H3 X.xe I3 (stat fr3) st3 go) λr s4 ⟨u,hr,h4⟩=>?_);subst hr;refine Bv hp (thn h4 λ_ s5 ⟨x,H5,I5,r5,y5,st5,fr5⟩=>?_);have I5':=I5.pinned (stat fr5) (T.obj _ _ st5);refine Bv hp (thn (hg _ s5 σ3 H5 x u _ I5' r5 (step x H5 y5)) λ_ s6 ⟨σ6,H6,I6,q6⟩=>?_);refine Bv hp (thn (hb _ s6 σ6 H6 _ I6 q6) λf s7 q7=>?_)
  have again:∀{σ7:St} {H7:Hp},Inv X (jd++CB fp s5.heap) σ7 H7 s7->N σ7 H7->∃m,m<n/\∃i σ' H',Inv X jd σ' H' s7/\tn i s7.heap/\(∀b∈fp,H' b=none)/\W i m σ' H':=λ{σ7 H7} I7 n7=>by
   obtain⟨m',hm,w7⟩:=hN σ7 H7 n7;refine⟨m',hm,i+1,σ7,H7,I7.unpinned,T.keep _ _ _ st5 λb hb o e=>(I7.pin (b,o) (w9 _ (w9 _ (Gy hb e)))).1,λb hb=>?_,w7⟩;obtain⟨o,e,d⟩:=T.obj _ _ st5 b hb;exact(I7.pin (b,o) (w9 _ (w9 _ (Gy hb e)))).2.1
  cases f with
  |next=>obtain⟨σ7,H7,I7,n7⟩:=q7;exact again I7 n7
  |cont=>obtain⟨σ7,H7,I7,n7⟩:=q7;exact again I7 n7
  |brk=>obtain⟨σ7,H7,I7,q7⟩:=q7;exact⟨σ7,H7,I7.unpinned,q7⟩
  |ret v=>obtain⟨x7,σ7,H7,I7,r7,q7⟩:=q7;exact⟨x7,σ7,H7,I7.unpinned,r7,q7⟩
end
def Nj {K:A6}{a:A1}{xs:List V}{g:TG}{tb:TS}{D:Ends}{σ:St}{H:Hp}(Pv:Nat->St->Hp->Prop)(h0:Pv 0 σ H)(hl:∀i σ H,i<=xs.length->Pv i σ H->SqL K H a xs)
   (hs:∀i x σ H,xs[i]?=some x->Pv i σ H->g x σ H λσ2 H2=>tb { D with nx:=Pv (i+1),ct:=Pv (i+1),bk:=D.nx } σ2 H2) (hd:∀σ H,Pv xs.length σ H->D.nx σ H) :
   ∃ W : Nat -> Nat -> St -> Hp -> Prop, (∃ m, W 0 m σ H) /\ ∀ i m σ H, W i m σ H ->
     ((Itl K a).stop i H/\D.nx σ H)\/((Itl K a).go i H/\∃N:St->Hp->Prop,(∀σ' H',N σ' H'->∃m',m'<m/\W (i+1) m' σ' H')/\∀x H',(Itl K a).yld i H x H'->g x σ H' λσ2 H2=>tb { D with nx:=N,ct:=N,bk:=D.nx } σ2 H2):=by
 refine⟨λi m σ H=>m=xs.length-i/\i<=xs.length/\Pv i σ H,⟨xs.length,0o0,C8 _,h0⟩,?_⟩;rintro i m σ H ⟨rfl,hi,p⟩;have q:=hl i σ H hi p
 by_cases hlt:i<xs.length
 ·refine .inr ⟨⟨xs,xs[i],q,by simp[hlt]⟩,Pv (i+1),λσ' H' p'=>⟨xs.length-(i+1),0x0,rfl,hlt,p'⟩,λx H' y=>?_⟩;obtain⟨e,y⟩:=y;subst e;exact hs i x σ _ (y xs q) p
 ·have e:i=xs.length:=0x0
  subst e;exact .inl ⟨⟨xs,q,B3 _⟩,hd σ H p⟩
abbrev R2:=V->V->Hp->VK->Prop
def OpR (X:Cx)(f:A2->A2->Sem A2)(r:R2):Prop:=
 ∀ (jd : List (A1 × Obj)) (s : A4) (σ : St) (H : Hp) (x y : V) (v u : A2) (Q : VK), Inv X jd σ H s -> RelV x v -> RelV y u -> r x y H Q ->
   A5 (A7 X.prog X.w) X.A (f v u) (EP X jd σ Q) X.xe s
def UnR (X:Cx)(f:A2->Sem A2)(r:V->Hp->VK->Prop):Prop:=
 ∀ (jd : List (A1 × Obj)) (s : A4) (σ : St) (H : Hp) (x : V) (v : A2) (Q : VK), Inv X jd σ H s -> RelV x v -> r x H Q ->
   A5 (A7 X.prog X.w) X.A (f v) (EP X jd σ Q) X.xe s
def M6 (X:Cx)(f:A2)(r:List V->Hp->VK->Prop):Prop:=
 ∀ (jd : List (A1 × Obj)) (s : A4) (σ : St) (H : Hp) (xs : List V) (us : List A2) (Q : VK), Inv X jd σ H s -> Vals xs us -> r xs H Q ->
   A5 (A7 X.prog X.w) X.A (call f us) (EP X jd σ Q) X.xe s
def tOp (r:R2)(ta tb:TE):TE:=λσ H Q=>ta σ H λx H1=>tb σ H1 λy H2=>r x y H2 Q
def tUn (r:V->Hp->VK->Prop)(ta:TE):TE:=λσ H Q=>ta σ H λx H1=>r x H1 Q
def rI (C:Int->Int->Prop)(g:Int->Int->V):R2:=λx y H Q=>∃i j,x=.int i/\y=.int j/\C i j/\Q (g i j) H
def rI0 (g:Int->Int->V):R2:=λx y H Q=>∃i j,x=.int i/\y=.int j/\Q (g i j) H
def rU (g:Int->V):V->Hp->VK->Prop:=λx H Q=>∃i,x=.int i/\Q (g i) H
section
variable {X:Cx}{a b c:Expr}{ta tb tc:TE}{pos:Pos}
def binT (ha:PE X a ta)(hb:PE X b tb){R:V->V->Hp->Prop}(I:Inv X jd σ H s)
   (h:ta σ H λx H1=>tb σ H1 λy H2=>R x y H2) {f:A2->A2->Sem A2}
   (hf:∀v u s2 x y H2,Inv X jd σ H2 s2->RelV x v->RelV y u->R x y H2->A5 (A7 X.prog X.w) X.A (f v u) Q X.xe s2) :
   A5 (A7 X.prog X.w) X.A (eval a X.env) (λv s₁=>A5 (A7 X.prog X.w) X.A (eval b X.env) (λu s₂=>A5 (A7 X.prog X.w) X.A (f v u) Q X.xe s₂) X.xe s₁) X.xe s:=by
 refine thn (ha jd s σ H _ I h) λv s1 ⟨x,H1,I1,r1,q1⟩=>?_;refine thn (hb jd s1 σ H1 _ I1 q1) λu s2 ⟨y,H2,I2,r2,q2⟩=>?_;exact hf v u s2 x y H2 I2 r1 r2 q2
def G5 (ho:OpR X (Y7 op) r)(ha:PE X a ta)(hb:PE X b tb):PE X (.BinOp a op b pos) (tOp r ta tb):=by
 intro jd s σ H Q I h;exact wpAny_BinOp (binT ha hb I h λv u s2 x y H2 I2 rx ry q=>ho jd s2 σ H2 x y v u Q I2 rx ry q)
def pe_un (ho:UnR X (unaryOp op) r)(ha:PE X a ta):PE X (.UnaryOp op a pos) (tUn r ta):=by
 intro jd s σ H Q I h;exact UnaryOp_ (thn (ha jd s σ H _ I h) λv s1 ⟨x,H1,I1,r1,q1⟩=>ho jd s1 σ H1 x v Q I1 r1 q1)
def opI {g:Int->Int->Int}
   (rule:∀(i j:Int) (t u:Tok) (s:A4) (Q:A2->A4->Prop) (E:A2->A4->Prop),C i j->Q (.int (g i j) s.toks) { s with toks:=s.toks+1 }->A5 (A7 X.prog X.w) X.A (f (.int i t) (.int j u)) Q E s) :
   OpR X f (rI C λi j=>.int (g i j)):=by
 intro jd s σ H x y v u Q I rx ry h;obtain⟨i,j,rfl,rfl,hc,q⟩:=h;obtain⟨t,rfl⟩:=rx;obtain⟨t',rfl⟩:=ry;exact rule i j t t' s _ _ hc ⟨.int (g i j),H,I.tok _,⟨_,rfl⟩,q⟩
def opI0 {g:Int->Int->Int}
   (rule:∀(i j:Int) (t u:Tok) (s:A4) (Q:A2->A4->Prop) (E:A2->A4->Prop),Q (.int (g i j) s.toks) { s with toks:=s.toks+1 }->A5 (A7 X.prog X.w) X.A (f (.int i t) (.int j u)) Q E s) :
   OpR X f (rI0 λi j=>.int (g i j)):=by
 intro jd s σ H x y v u Q I rx ry h;obtain⟨i,j,rfl,rfl,q⟩:=h;obtain⟨t,rfl⟩:=rx;obtain⟨t',rfl⟩:=ry;exact rule i j t t' s _ _ ⟨.int (g i j),H,I.tok _,⟨_,rfl⟩,q⟩
def opB0 {g:Int->Int->Bool}
   (rule:∀(i j:Int) (t u:Tok) (s:A4) (Q:A2->A4->Prop) (E:A2->A4->Prop),Q (.bool (g i j)) s->A5 (A7 X.prog X.w) X.A (f (.int i t) (.int j u)) Q E s) :
   OpR X f (rI0 λi j=>.bl (g i j)):=by
 intro jd s σ H x y v u Q I rx ry h;obtain⟨i,j,rfl,rfl,q⟩:=h;obtain⟨t,rfl⟩:=rx;obtain⟨t',rfl⟩:=ry;exact rule i j t t' s _ _ ⟨.bl (g i j),H,I,rfl,q⟩
def CDiv (i j:Int):Prop:=0<j/\j<1073741824
def CPow (i j:Int):Prop:=0<=j/\j<=1000000/\i.natAbs<2 ^ 64
def CMul (i j:Int):Prop:=(-(2 ^ 64)<i/\i<2 ^ 64)\/(-(2 ^ 64)<j/\j<2 ^ 64)
def CMul.ok (h:CMul i j):IntMulOk i j:=by
 rcases h with⟨h1,h2⟩|⟨h1,h2⟩
 ·exact .of_left (intBits_le_64 h1 h2)
 ·exact .of_right (intBits_le_64 h1 h2)
def y9:OpR X (Y7 .Add) (rI0 λi j=>.int (i+j)):=opI0 λ_ _ _ _ _ _ _ q=>add_int q
def op_sub:OpR X (Y7 .Sub) (rI0 λi j=>.int (i-j)):=opI0 λ_ _ _ _ _ _ _ q=>sub_int q
def AA:OpR X (Y7 .Mult) (rI CMul λi j=>.int (i*j)):=opI λ_ _ _ _ _ _ _ hc q=>mul_int q hc.ok
def EY:OpR X (Y7 .FloorDiv) (rI CDiv λi j=>.int (i/j)):=opI λi j _ _ _ _ _ hc q=>by
 have h1:(0:Int)<j:=hc.1;have h2:j<1073741824:=hc.2;exact floordiv_int 0x0 (by rw[Int.fdiv_eq_ediv_of_nonneg i 0x0];exact q) (.inl (PyProof.noPylong_small 0x0))
def AB:OpR X (Y7 .Mod) (rI (λ_ j=>0<j) λi j=>.int (i%j)):=opI λi j _ _ _ _ _ hc q=>by
 have h1:(0:Int)<j:=hc;exact mod_int' 0x0 (by rw[Int.fmod_eq_emod_of_nonneg i 0x0];exact q)
def EZ:OpR X (Y7 .Pow) (rI CPow λi j=>.int (i ^ j.toNat)):=opI λ_ _ _ _ _ _ _ hc q=>pow_int_small hc.1 hc.2.1 hc.2.2 q
def Nk:OpR X (inplaceOp .Add) (rI0 λi j=>.int (i+j)):=opI0 λ_ _ _ _ _ _ _ q=>iadd_int q
def unI {g:Int->Int}
   (rule:∀(i:Int) (t:Tok) (s:A4) (Q:A2->A4->Prop) (E:A2->A4->Prop),Q (.int (g i) s.toks) { s with toks:=s.toks+1 }->A5 (A7 X.prog X.w) X.A (f (.int i t)) Q E s) :
   UnR X f (rU λi=>.int (g i)):=by
 intro jd s σ H x v Q I rx h;obtain⟨i,rfl,q⟩:=h;obtain⟨t,rfl⟩:=rx;exact rule i t s _ _ ⟨.int (g i),H,I.tok _,⟨_,rfl⟩,q⟩
def JL:UnR X (unaryOp .USub) (rU λi=>.int (-i)):=unI λ_ _ _ _ _ q=>neg_int q
end
section
variable {X:Cx}{a b c:Expr}{ta tb tc:TE}{pos:Pos}
def E_ (I:Inv X jd σ H s)(q:Q (.bl k) H)(e:k=k'):EP X jd σ Q (.bool k') s:=by
 subst e;exact⟨.bl k,H,I,rfl,q⟩
def op_lt:OpR X (L0 .Lt) (rI0 λi j=>.bl (decide (i<j))):=opB0 λ_ _ _ _ _ _ _ q=>lt_int q
def op_le:OpR X (L0 .LtE) (rI0 λi j=>.bl (decide (i<=j))):=opB0 λ_ _ _ _ _ _ _ q=>le_int q
def op_gt:OpR X (L0 .Gt) (rI0 λi j=>.bl (decide (j<i))):=opB0 λ_ _ _ _ _ _ _ q=>gt_int q
def op_ge:OpR X (L0 .GtE) (rI0 λi j=>.bl (decide (j<=i))):=opB0 λ_ _ _ _ _ _ _ q=>ge_int q
def Nl:OpR X (L0 .Lt) (λx y H Q=>∃i j,x=.str i/\y=.str j/\Q (.bl (decide (i.cps.toList<j.cps.toList))) H):=by
 intro jd s σ H x y v u Q I rx ry h;obtain⟨i,j,rfl,rfl,q⟩:=h;obtain⟨t,rfl⟩:=rx;obtain⟨t',rfl⟩:=ry;exact lt_str (E_ I q rfl)
def Nm:OpR X (L0 .In) (λx y H Q=>∃i j,x=.str i/\y=.str j/\Q (.bl (!(Cu j i 0 j.length 1).isEmpty)) H):=by
 intro jd s σ H x y v u Q I rx ry h;obtain⟨i,j,rfl,rfl,q⟩:=h;obtain⟨t,rfl⟩:=rx;obtain⟨t',rfl⟩:=ry;exact in_str (E_ I q rfl)
def OpR.or (h:OpR X f r)(h':OpR X f r'):OpR X f (λx y H Q=>r x y H Q\/r' x y H Q):=by
 intro jd s σ H x y v u Q I rx ry q;rcases q with q|q
 ·exact h jd s σ H x y v u Q I rx ry q
 ·exact h' jd s σ H x y v u Q I rx ry q
def AC (b:Expr)(h:op≠.In:=by decide)(h2:op≠.NotIn:=by decide):Bw op b=false:=by
 have e1:(op == CmpOp.In)=false:=by cases op <;> first|rfl|exact absurd rfl h
 have e2:(op == CmpOp.NotIn)=false:=by cases op <;> first|rfl|exact absurd rfl h2
 cases b <;> simp[Bw,e1,e2]
def Gz (ho:OpR X (L0 op) r)(ha:PE X a ta)(hb:PE X b tb)(hm:Bw op b=false):PE X (.Compare a [op] [b] pos) (tOp r ta tb):=by
 intro jd s σ H Q I h;exact wpAny_Compare1 (binT ha hb I h λv u s2 x y H2 I2 rx ry q=>ho jd s2 σ H2 x y v u Q I2 rx ry q) hm
def GA (t:TE):TT:=λσ H Q=>t σ H λx H'=>∃k,x=.bl k/\Q k H'
def BH (ho:OpR X (L0 op) r)(ha:PE X a ta)(hb:PE X b tb)(hm:Bw op b=false):PT X (.Compare a [op] [b] pos) (GA (tOp r ta tb)):=by
 intro jd s σ H Q I h
 refine wpAny_isTrue_Compare1 (thn (ha jd s σ H _ I h) λv s1 ⟨x,H1,I1,r1,q1⟩=>thn (hb jd s1 σ H1 _ I1 q1) λu s2 ⟨y,H2,I2,r2,q2⟩=>
  thn (ho jd s2 σ H2 x y v u _ I2 r1 r2 q2) λc s3 ⟨z,H3,I3,r3,k,e,q3⟩=>?_) hm
 subst e;cases r3;exact Ah ⟨H3,I3,q3⟩
def GB (r r':R2)(ta tb tc:TE):TE:=λσ H Q=>ta σ H λx H1=>tb σ H1 λy H2=>r x y H2 λz H3=>∃k,z=.bl k/\
 (if k=true then tc σ H3 λw' H4=>r' y w' H4 Q else Q (.bl false) H3)
def Nn (ho:OpR X (L0 op) r)(ho':OpR X (L0 op') r')(ha:PE X a ta)(hb:PE X b tb)(hc:PE X c tc)
   (hm:lastMarks [op,op'] [b,c]=false:=by with_unfolding_all rfl):PE X (.Compare a [op,op'] [b,c] pos) (GB r r' ta tb tc):=by
 intro jd s σ H Q I h
 refine Compare_chain (thn (ha jd s σ H _ I h) λv s1 ⟨x,H1,I1,r1,q1⟩=>chain_link (thn (hb jd s1 σ H1 _ I1 q1) λu s2 ⟨y,H2,I2,r2,q2⟩=>
  thn (ho jd s2 σ H2 x y v u _ I2 r1 r2 q2) λd s3 ⟨z,H3,I3,r3,k,e,q3⟩=>?_)) hm
 subst e;cases r3;refine Ah ?_;cases k with
 |false=>exact ite_ff ⟨.bl false,H3,I3,rfl,q3⟩
 |true=>exact ite_tt (chain_last (thn (hc jd s3 σ H3 _ I3 q3) λw' s4 ⟨z',H4,I4,r4,q4⟩=>ho' jd s4 σ H4 y z' u w' Q I4 r2 r4 q4))
def No (ho:OpR X (L0 op) r)(ho':OpR X (L0 op') r')(ha:PE X a ta)(hb:PE X b tb)(hc:PE X c tc)
   (hm:lastMarks [op,op'] [b,c]=false:=by with_unfolding_all rfl):PT X (.Compare a [op,op'] [b,c] pos) (GA (GB r r' ta tb tc)):=by
 intro jd s σ H Q I h
 refine isTrue_chain (thn (ha jd s σ H _ I h) λv s1 ⟨x,H1,I1,r1,q1⟩=>test_link (thn (hb jd s1 σ H1 _ I1 q1) λu s2 ⟨y,H2,I2,r2,q2⟩=>
  thn (ho jd s2 σ H2 x y v u _ I2 r1 r2 q2) λd s3 ⟨z,H3,I3,r3,k,e,q3⟩=>?_)) hm
 subst e;cases r3;refine Ah ?_;cases k with
 | false =>
  obtain⟨k',e',q'⟩:=q3;cases e';exact ite_ff ⟨H3,I3,q'⟩
 | true =>
  refine ite_tt (test_last (thn (hc jd s3 σ H3 _ I3 q3) λw' s4 ⟨z',H4,I4,r4,q4⟩=>thn (ho' jd s4 σ H4 y z' u w' _ I4 r2 r4 q4) λd' s5 ⟨z2,H5,I5,r5,k2,e2,q5⟩=>?_));subst e2;cases r5;exact Ah ⟨H5,I5,q5⟩
def CC:(B5:Nat)<2 ^ 63:=by rw[Aj];decide
def Np:OpR X (Y7 .Add) (λx y H Q=>∃i j,x=.str i/\y=.str j/\i.length+j.length<=B5/\Q (.str (i++j)) H):=by
 intro jd s σ H x y v u Q I rx ry h;obtain⟨i,j,rfl,rfl,hz,q⟩:=h;obtain⟨t,rfl⟩:=rx;obtain⟨t',rfl⟩:=ry;exact add_str (λt' tk=>⟨.str (i++j),H,I.tok _,⟨_,rfl⟩,q⟩) hz
def z9 (r:Vals [x] us):∃u,us=[u]/\RelV x u:=by
 cases r with
 |cons r1 r2=>cases r2;exact⟨_,rfl,r1⟩
def vals2 (r:Vals [x,y] us):∃u w',us=[u,w']/\RelV x u/\RelV y w':=by
 cases r with
 | cons r1 r2 =>
  cases r2 with
  |cons r3 r4=>cases r4;exact⟨_,_,rfl,r1,r3⟩
def GC:M6 X (.builtin "abs") (λxs H Q=>∃i,xs=[.int i]/\Q (.int (if i<0 then -i else i)) H):=by
 intro jd s σ H xs us Q I r h;obtain⟨i,rfl,q⟩:=h;obtain⟨u,rfl,t,rfl⟩:=z9 r;exact call_abs_int λu tk=>⟨.int (if i<0 then -i else i),H,I.tok _,⟨_,rfl⟩,q⟩
def Nq (hc:X.calm=true):M6 X (.builtin "min") (λxs H Q=>∃i j,xs=[.int i,.int j]/\Q (.int (if j<i then j else i)) H):=by
 intro jd s σ H xs us Q I r h;obtain⟨i,j,rfl,q⟩:=h;obtain⟨u,w',rfl,⟨t,rfl⟩,⟨t',rfl⟩⟩:=vals2 r;refine min_two_ints (I.ok.hd hc) λh' tk k=>⟨_,H,I.kept k,?_,q⟩
 by_cases hj:j<i
 ·rw[jw hj,jw hj];exact⟨_,rfl⟩
 ·rw[jy hj,jy hj];exact⟨_,rfl⟩
def JM:M6 X (.type "int") (λxs H Q=>(∃i,xs=[.int i]/\Q (.int i) H)\/∃k,xs=[.bl k]/\Q (.int (if k then 1 else 0)) H):=by
 intro jd s σ H xs us Q I r h;rcases h with⟨i,rfl,q⟩|⟨k,rfl,q⟩
 ·obtain⟨u,rfl,t,rfl⟩:=z9 r;exact call_int_int ⟨.int i,H,I,⟨_,rfl⟩,q⟩
 ·obtain⟨u,rfl,r1⟩:=z9 r;cases r1;exact call_int_bool ⟨.int (if k then 1 else 0),H,I.tok _,⟨_,rfl⟩,q⟩
end
structure ObjM (h:B4)(x dx C:A1)(mA:Str->Option A2):Prop where
 obj:h.get? x=some (PySem.W.instObj C dx)
 ns:h.Ns1 dx mA
 ne:dx≠x
def Nr {h:B4}(n:h.Ns1 dx mA):∃od,h.get? dx=some od/\∀name,PySem.W.lookIn name od=some (mA name):=by
 obtain⟨o,es,ep,ho,hd,hk,_,hm⟩:=n;refine⟨o,ho,λname=>?_⟩;have e:=hm name;unfold nsFind findBy at e;rw[<- Array.find?_toList] at e;unfold PySem.W.lookIn;rw[hd];dsimp only
 split
 ·grind
 ·rename_i q;rw[q] at e
  have a:es.toList.any (·.refKey)=false:=by
   rw[List.any_eq_false];intro y hy;obtain⟨z,t,hkey⟩:=hk y (Array.mem_toList_iff.mp hy);simp[DictEntry.refKey,hkey]
  have a':¬es.toList.any (·.refKey)=true:=by rw[a];exact d5
  rw[jy a'];exact congrArg some e
def ObjM.look (I:ObjM h x dx C mA):∃od,PySem.W.InstAt h x (PySem.W.instObj C dx) C (some od)/\∀name,PySem.W.lookIn name od=some (mA name):=
 let ⟨od,ho,hl⟩:=Nr I.ns
 ⟨od,⟨I.obj,rfl,rfl,ho⟩,hl⟩
def RelO.some_of (r:RelO (some v) o):∃u,o=some u/\RelV v u:=by
 cases o with
 |none=>exact(show False from r).elim
 |some u=>exact⟨u,rfl,r⟩
section
variable {P:D4}{w:C0}{H H':Hp}{h h':B4}{a C dx:A1}{fs fs':List (Str×V)}
def Nt (hok:HOk P w H h)(e:H a=some (.ins C dx fs)):∃mA,ObjM h a dx C mA/\(∀f,RelO (fs.lookup f) (mA f))/\PySem.Within mA (fs.map (·.1))/\fs.length<=1000/\H dx=some (.own a):=by
 obtain⟨d,z,ne,ob,mA,n,r,q⟩:=(show J1 P w H h a (.ins C dx fs) from hok a _ e);exact⟨mA,⟨ob,n,ne⟩,r,q,z,d⟩
end
structure Cls (K:A6)(C:A1):Prop where
 pg:PySem.W.plainGet K C Str.empty=true
 hd:PySem.W.hasDictIn K C=true
 po:PySem.W.plainOver K C=true
 sa:PySem.W.findIn K (.ref C) "__setattr__"=some (some (.builtin "object.__setattr__"))
def Cls.get {K:A6}(c:Cls K C)(f:Str):PySem.W.plainGet K C f=true:=c.pg
section
variable {X:Cx}{jd:List (A1×Obj)}{σ:St}{H:Hp}{s:A4}{A:D9}{E:A2->A4->Prop}{Q:A2->A4->Prop}{c:A2}{b:Bool}
inductive TyOf (K:A6)(H:Hp):V->A2->Prop where
 |non:TyOf K H .non (.type "NoneType")
 |bl (x:Bool):TyOf K H (.bl x) (.type "bool")
 |int (i:Int):TyOf K H (.int i) (.type "int")
 |str (x:Str):TyOf K H (.str x) (.type "str")
 |flt (x:UInt64):TyOf K H (.flt x) (.type "float")
 |lst {a:A1} {xs:List V} (e:H a=some (.lst xs)):TyOf K H (.ref a) (.type "list")
 |frz {a:A1} {o:Obj} {xs:List V} (e:H a=some (.frz o (.lst xs))):TyOf K H (.ref a) (.type "list")
 |tup {a:A1} {xs:List V} (e:H a=some (.tup xs)):TyOf K H (.ref a) (.type "tuple")
 |dK {a:A1} {ji:List (Key×V)} (e:H a=some (.dK ji)):TyOf K H (.ref a) (.type "dict")
 |dT {a:A1} {ji:List (List Key×V)} (e:H a=some (.dT ji)):TyOf K H (.ref a) (.type "dict")
 |ins {a C dx:A1} {fs:List (Str×V)} (e:H a=some (.ins C dx fs)) (cl:Cls K C) (ha:PySem.W.findIn K (.ref C) "__class__"=some (some (.builtin "object.__class__")))
     (hn:PySem.W.specialIn K (.builtin "object.__class__") "__get__"=some (some (.builtin "getset_descriptor.__get__"))) (htk:PySem.W.takesIn K (.builtin "object.__class__")=some true)
     (hm:PySem.W.mroIn K C (.type "object")=some true):TyOf K H (.ref a) (.ref C)
def Nu (I:Inv X jd σ H s)(rx:RelV x u)(ty:TyOf X.K H x t)(e:Dk X.K t c=some b)(h:∀tk,Q (.bool b) { s with toks:=tk }) :
   A5 (A7 X.prog X.w) A (call (.builtin "isinstance") [u,c]) Q E s:=by
 cases ty with
 |non=>cases(show u=Au from rx);exact p8 PySem.W.kitx_none I.kIn t9 e (λz=>nomatch z) h
 |bl y=>cases(show u=Value.bool y from rx);exact p8 PySem.W.kitx_bool I.kIn t9 e (λz=>nomatch z) h
 |int i=>obtain⟨t,q⟩:=(show ∃t,u=Cr i t from rx);cases q;exact p8 PySem.W.kitx_int I.kIn t9 e (λz=>nomatch z) h
 |str y=>obtain⟨t,q⟩:=(show ∃t,u=Cs y t from rx);cases q;exact p8 PySem.W.kitx_str I.kIn t9 e (λz=>nomatch z) h
 |flt y=>obtain⟨t,q⟩:=(show ∃t,u=Value.float y t from rx);cases q;exact p8 PySem.W.kitx_float I.kIn t9 e (λz=>nomatch z) h
 | @lst a xs ea =>
  cases(show u=L5 a from rx);obtain⟨_,_,n,_,h1⟩:=(show J1 X.prog X.w H s.heap a (.lst xs) from I.hok a _ ea);exact p8 PySem.W.kitx_list I.kIn ⟨_,h1,rfl⟩ e (λz=>nomatch z) h
 | @frz a ob xs ea =>
  cases(show u=L5 a from rx);obtain⟨_,_,_,n,_,h1⟩:=(show J1 X.prog X.w H s.heap a (.frz ob (.lst xs)) from I.hok a _ ea);exact p8 PySem.W.kitx_list I.kIn ⟨_,h1,rfl⟩ e (λz=>nomatch z) h
 | @tup a xs ea =>
  cases(show u=L5 a from rx);obtain⟨_,_,_,p⟩:=(show J1 X.prog X.w H s.heap a (.tup xs) from I.hok a _ ea);obtain⟨o,h1,h2,_⟩:=p;exact p8 PySem.W.kitx_tuple I.kIn ⟨o,h1,(Cz h2).1⟩ e (λz=>nomatch z) h
 | @dK a ji ea =>
  cases(show u=L5 a from rx);obtain⟨_,_,vs,_,p⟩:=(show J1 X.prog X.w H s.heap a (.dK ji) from I.hok a _ ea);obtain⟨o,es,ep,h1,h2,_⟩:=p;exact p8 PySem.W.kitx_dict I.kIn ⟨o,h1,h2.1⟩ e (λz=>nomatch z) h
 | @dT a ji ea =>
  cases(show u=L5 a from rx);obtain⟨_,_,xs,_,o,es,ep,h1,h2,_⟩:=(show J1 X.prog X.w H s.heap a (.dT ji) from I.hok a _ ea);exact p8 PySem.W.kitx_dict I.kIn ⟨o,h1,h2.1⟩ e (λz=>nomatch z) h
 | @ins a C dx fs ea cl ha hn htk hm =>
  cases(show u=L5 a from rx);obtain⟨mA,O,_⟩:=Nt I.hok ea;obtain⟨od,J,_⟩:=O.look;exact p8 (PySem.W.kitx_own (cl.get _) cl.hd ha hn htk hm) I.kIn J e (λz=>nomatch z) h
end
structure Room (k:Nat)(A:D9):Prop where
 hd:A.handled=none
 dp:A.depth+3*k+5<recursionLimit
 un:A.units+16*k+200<cLine
 gd:A.guards=some []
def Room.mono (r:Room k A)(h:j<=k):Room j A:=⟨r.hd,by have:=r.dp;omega,by have:=r.un;omega,r.gd⟩
theorem Room.deeper (r:Room (k+1) A)(env:Env):Room k (A.deeper env):=
 ⟨r.hd,by have:=r.dp;show A.depth+1+3*k+5<_;omega,by have:=r.un;show A.units+3+16*k+200<_;omega,r.gd⟩
theorem Room.depth (r:Room k A):A.depth<recursionLimit:=by have:=r.dp;ext
theorem Room.units (r:Room k A):A.units+64<cLine:=by have:=r.un;ext
def tNil:TA:=λ_ H Q=>Q [] H
def d7 (ta:TE)(tr:TA):TA:=λσ H Q=>ta σ H λx H1=>tr σ H1 λxs H2=>Q (x::xs) H2
section
variable {X:Cx}{e:Expr}{es:List Expr}{te:TE}{t:TA}{pos:Pos}
def K5:PA X [] tNil:=λ_ _ _ _ H Q I h=>Calls.spliced_nil ⟨[],H,I,.nil,h⟩
def E8 (ha:PE X e te)(hr:PA X es t)(hs:F5 (e::es) X.env=(false,eval e X.env)::F5 es X.env:=by rfl):PA X (e::es) (d7 te t):=by
 intro pos jd s σ H Q I h;rw[hs];show A5 _ _ (spliced ((false,eval e X.env)::backTo pos (F5 es X.env))) _ _ s;refine Calls.spliced_cons (thn (ha jd s σ H _ I h) λu s1 ⟨x,H1,I1,r1,q1⟩=>?_);exact thn (hr pos jd s1 σ H1 _ I1 q1) λus s2 ⟨xs,H2,I2,r2,q2⟩=>⟨x::xs,H2,I2,.cons r1 r2,q2⟩
def tTup (t:TA):TE:=λσ H Q=>t σ H λxs H1=>xs.length<=B5/\∀p,H1 p=none->Q (.ref p) (upd H1 p (.tup xs))
def tLst (t:TA):TE:=λσ H Q=>t σ H λxs H1=>xs.length<=B5/\∀p,H1 p=none->Q (.ref p) (upd H1 p (.lst xs))
def JN {x1}(h:PA X es t):PE X (.Tuple es x1 pos) (tTup t):=by
 intro jd s σ H Q I hq;refine wpAny_Tuple_spliced (thn (h pos jd s σ H _ I hq) λus s1 ⟨xs,H1,I1,r,z,q⟩=>⟨by rw[<- r.length];exact z,?_⟩);have hf:H1 s1.heap.objs.size=none:=I1.hok.fresh (B3 _);refine⟨.ref s1.heap.objs.size,upd H1 s1.heap.objs.size (.tup xs),I1.laid (t':=s1.toks) (λb u e=>C3 _ e) (B3 _) ?_,rfl,q _ hf⟩;exact⟨z,us,r,⟨_,K4 _ rfl,rfl,_,rfl⟩⟩
def JO (h:PA X es t):PE X (.List es pos) (tLst t):=by
 intro jd s σ H Q I hq;refine wpAny_List_spliced (thn (h pos jd s σ H _ I hq) λus s1 ⟨xs,H1,I1,r,z,q⟩=>⟨by rw[<- r.length];exact z,?_⟩);have hf:H1 s1.heap.objs.size=none:=I1.hok.fresh (B3 _);refine⟨.ref s1.heap.objs.size,upd H1 s1.heap.objs.size (.lst xs),I1.laid (t':=s1.toks) (λb u e=>C3 _ e) (B3 _) ?_,rfl,q _ hf⟩;exact⟨z,us,0,r,K4 _ rfl⟩
end
abbrev Sp:=List V->Hp->VK->XK->Prop
abbrev CXT:=List Env->Hp->A4->XK->A2->A4->Prop
structure Env0 (P:D4)(w:C0)(K:A6)(mg:Str->Option A2)(base:B4)(A:D9)(outer:List Env)(s:A4)(H:Hp):Prop where
 frames:A.frames=some outer
 mod:Mod K mg base
 bs:∀b o,base.get? b=some o->s.heap.get? b=some o/\H b=none
 bsz:base.objs.size<=s.heap.objs.size
 funs:s.heap.FunFrames base outer
 frf:∀b∈frs outer,H b=none
 hok:HOk P w H s.heap
 bare:AllBare s.gens
 nos:NS H
def CE (outer:List Env)(P:D4)(w:C0)(H:Hp)(s:A4)(Q:VK)(u:A2)(s':A4):Prop:=
 ∃v H',s'.os=s.os/\AllBare s'.gens/\Un (frs outer) [] H H' s.heap s'.heap/\HOk P w H' s'.heap/\RelV v u/\Q v H'
def CR (CX:CXT)(outer:List Env)(P:D4)(w:C0)(H:Hp)(s:A4)(Q:VK)(E:XK)(r:Result)(s':A4):Prop:=
 match r with
 |.ok (.ret u)=>CE outer P w H s Q u s'
 |.ok _=>False
 |.error e=>CX outer H s E e s'
structure FnOk (P:D4)(w:C0)(K:A6)(mg:Str->Option A2)(base:B4)(CX:CXT)(k:Nat)(f:A1)(fd:FuncData)(ps:List Str)(sp:Sp):Prop where
 len:∀vs H Q E,sp vs H Q E->vs.length=ps.length
 run:∀(A:D9) (outer:List Env) (s:A4) (H:Hp) (args:Args) (us:List A2) (vs:List V) (Q:VK) (E:XK),Room k A->Env0 P w K mg base A outer s H->BindsTo s fd args (ps.zip us)->Vals vs us->sp vs H Q E->
   W0 (A7 P w) A (.call (.ref f) args) (CR CX outer P w H s Q E) s
def FnOk.imp {K:A6}(F:FnOk P w K mg base CX k f fd ps sp)
   (h:∀vs H Q E,sp' vs H Q E->sp vs H Q E):FnOk P w K mg base CX k f fd ps sp':=
 ⟨λvs H Q E q=>F.len vs H Q E (h _ _ _ _ q),λA outer s H args us vs Q E hr he hb hv hs=>F.run A outer s H args us vs Q E hr he hb hv (h _ _ _ _ hs)⟩
section
variable {X:Cx}{jd:List (A1×Obj)}{σ:St}{H:Hp}{s s':A4}
def Inv.env0 (I:Inv X jd σ H s):Env0 X.prog X.w X.K X.mg X.base X.A X.stack s H:=
 ⟨I.ok.frames,I.ok.mod,I.bs,E6 I.ok.bsz I.sz,I.stack,I.stkFree,I.hok,I.bare,I.nos⟩
def Inv.after (I:Inv X jd σ H s)(h:CE X.stack X.prog X.w H s Q u s'):EP X jd σ Q u s':=by
 obtain⟨v,H',os,bare,un,hok,r,q⟩:=h;obtain⟨hh,g,d,t,os'⟩:=s';obtain rfl:os'=s.os:=os;exact⟨v,H',I.call (h':=hh) (g':=g) (d':=d) (t':=t) (ch:=[]) un hok bare (λb z=>absurd z 0o0),r,q⟩
end
def tCall (sp:Sp)(dvs:List V)(E:XK)(t:TA):TE:=λσ H Q=>t σ H λvs H1=>sp (vs++dvs) H1 Q E
def CD (K:A6)(fd:FuncData)(ps:List Str)(ds:List A2):Prop:=
 ∀(s:A4) (us:List A2),K.In s.heap->(us++ds).length=ps.length->BindsTo s fd ⟨us,[]⟩ (ps.zip (us++ds))
def CD.all {K:A6}(h:∀us:List A2,us.length=ps.length->bindArgs fd ⟨us,[]⟩=pure (ps.zip us)):CD K fd ps []:=λs us _ hl=>by
 rw[c7] at hl ⊢;exact .of_eq (h us hl)
def GD (CX:CXT)(X:Cx)(E:XK):Prop:=∀(jd:List (A1×Obj)) (σ:St) (H:Hp) (s:A4) (e:A2) (s':A4),Inv X jd σ H s->CX X.stack H s E e s'->X.xe e s'
section
variable {X:Cx}{CX:CXT}{k:Nat}{f C:A1}{fd:FuncData}{ps:List Str}{sp:Sp}{dvs:List V}{ds:List A2}{E:XK}{x m:Str}{p pos apos:Pos}{e o:Expr}{es:List Expr}{ta:TE}{t:TA}
def run_fn (F:FnOk X.prog X.w X.K X.mg X.base CX k f fd ps sp)(hr:Room k X.A)(hb:CD X.K fd ps ds)(hd:Vals dvs ds)(hx:GD CX X E)
   (I:Inv X jd σ H s) (r:Vals vs us) (h:sp (vs++dvs) H Q E):A5 (A7 X.prog X.w) X.A (call (.ref f) us) (EP X jd σ Q) X.xe s:=by
 have r2:Vals (vs++dvs) (us++ds):=r.append hd;have hl:(us++ds).length=ps.length:=by rw[<- r2.length];exact F.len _ _ _ _ h
 refine wpAny_call (codeAny_mono (F.run X.A X.stack s H ⟨us,[]⟩ (us++ds) (vs++dvs) Q E hr I.env0 (hb s us I.kIn hl) r2 h) λr s' hq=>?_);cases r with
 |error e=>exact hx jd σ H s e s' I hq
 | ok fl =>
  cases fl with
  |ret u=>exact I.after hq
  |next=>exact y4 hq
  |brk=>exact y4 hq
  |cont=>exact y4 hq
def Nv (F:FnOk X.prog X.w X.K X.mg X.base CX k f fd ps sp)(hr:Room k X.A)(hg:Gl X x)(hm:X.mg x=some (.ref f))(hk:Dl X.K (.ref f)=true)(hb:CD X.K fd ps ds)(hd:Vals dvs ds)(hx:GD CX X E)
   (ha:PA X (e::es) t) (hdb:(x == ("__debug__":Str))=false:=by decide) (he:F5 (e::es) X.env=(false,eval e X.env)::F5 es X.env:=by rfl) (hpl:(backTo pos (F5 es X.env)).any (·.1)=false:=by rfl) :
   PE X (.Call (.Name x p) (e::es) [] pos) (tCall sp dvs E t):=by
 intro jd s σ H Q I h;refine B_ (JC I hg hm ?_ hdb);refine PySem.W.callWith_K (h₀:=X.base) I.ok.mod.kin hk (thn (ha pos jd s σ H _ I h) λus s1 ⟨vs,H1,I1,r,q⟩=>⟨I1.kIn,?_⟩) he hpl;exact run_fn F hr hb hd hx I1 r q
end
def PK (X:Cx)(kws:List Y8)(t:TA):Prop:=
 ∀(pos:Pos) (jd:List (A1×Obj)) (s:A4) (σ:St) (H:Hp) (Q:List V->Hp->Prop),Inv X jd σ H s->t σ H Q->A5 (A7 X.prog X.w) X.A (evalAll ((backToKw pos (AQ kws X.env)).map (·.2))) (AP X jd σ Q) X.xe s
structure Aa (N P:List Str)(sc:F9):Prop where
 kind:sc.kind=.function
 co:sc.isCoroutine=false
 gen:sc.isGenerator=false
 nd:N.Nodup
 pre:N.take P.length=P
 par:∀x∈P,sc.names.lookup x=some .local\/sc.names.lookup x=some .cell
 nofree:∀y∈sc.names,y.2≠.free
theorem JP {kindOf:Str->Option NameKind}:∀{binds:List (Str×A2)} {m:Str->Option A2},(∀v,(x,v)∉binds)->bindL kindOf binds m x=m x
 |[],_,_=>rfl
 | (n, v) :: r, m, h => by
  unfold bindL;rw[JP λw hw=>h w (C1 _ hw)]
  split
  ·have:x≠n:=by rintro rfl;exact h v D2
   simp[this]
  ·rfl
theorem JQ {kindOf:Str->Option NameKind}:∀{binds:List (Str×A2)} {m:Str->Option A2},(∀v,(x,v)∉binds)->bindC kindOf binds m x=m x
 |[],_,_=>rfl
 | (n, v) :: r, m, h => by
  unfold bindC;rw[JQ λw hw=>h w (C1 _ hw)]
  split
  ·rfl
  ·have:x≠n:=by rintro rfl;exact h v D2
   simp[this]
theorem JR {kindOf:Str->Option NameKind}:∀{P:List Str} {vs:List A2} {i:Nat} {m:Str->Option A2},P.Nodup->P[i]?=some x->vs[i]?=some v->kindOf x=some .local->
   bindL kindOf (P.zip vs) m x=some v
 |[],_,_,_,_,h,_,_=>by simp at h
 |_::_,[],_,_,_,_,h,_=>by simp at h
 | p :: P, w :: vs, 0, m, nd, h1, h2, hk => by
  simp at h1 h2;subst h1;subst h2;show bindL kindOf ((p,w)::P.zip vs) m p=_;unfold bindL;rw[JP λv hv=>(R8.mp nd).1 (List.of_mem_zip hv).1,jw hk];simp
 | p :: P, w :: vs, i + 1, m, nd, h1, h2, hk => by
  show bindL kindOf ((p,w)::P.zip vs) m x=_;unfold bindL;exact JR (i:=i) (R8.mp nd).2 (by simpa using h1) (by simpa using h2) hk
theorem JS {kindOf:Str->Option NameKind}:∀{P:List Str} {vs:List A2} {i:Nat} {m:Str->Option A2},P.Nodup->P[i]?=some x->vs[i]?=some v->kindOf x≠some .local->
   bindC kindOf (P.zip vs) m x=some v
 |[],_,_,_,_,h,_,_=>by simp at h
 |_::_,[],_,_,_,_,h,_=>by simp at h
 | p :: P, w :: vs, 0, m, nd, h1, h2, hk => by
  simp at h1 h2;subst h1;subst h2;show bindC kindOf ((p,w)::P.zip vs) m p=_;unfold bindC;rw[JQ λv hv=>(R8.mp nd).1 (List.of_mem_zip hv).1,jy hk];simp
 | p :: P, w :: vs, i + 1, m, nd, h1, h2, hk => by
  show bindC kindOf ((p,w)::P.zip vs) m x=_;unfold bindC;exact JS (i:=i) (R8.mp nd).2 (by simpa using h1) (by simpa using h2) hk
def start (N:List Str)(vs:List V):St:=vs.map some++N8 (N.length-vs.length) none
def cxOf (CX:CXT)(P:D4)(w:C0)(K:A6)(mg:Str->Option A2)(base:B4)(N:List Str)(qual:Str)(scope:F9)(f:A1)(cd:A2)(A:D9)(outer:List Env)(s:A4)(H:Hp)(E:XK):Cx where
 prog:=P
 w:=w
 K:=K
 mg:=mg
 base:=base
 A:=A.deeper (envOfC qual scope s.heap.objs.size f cd)
 N:=N
 s₀:=s
 H₀:=H
 env:=envOfC qual scope s.heap.objs.size f cd
 outer:=outer
 stack:=envOfC qual scope s.heap.objs.size f cd::outer
 ex:=[]
 calm:=true
 fn:=λ_=>true
 pn:=[]
 xe:=λe s'=>A5 (A7 P w) (A.deeper (envOfC qual scope s.heap.objs.size f cd)) (leaving (envOfC qual scope s.heap.objs.size f cd) e) (λ_ s''=>CX outer H s E e s'') (λe' s''=>CX outer H s E e' s'') s'
def JT {sc:F9}(h:sc.names.lookup x=some .cell):∃c,(V9 n sc.names []).lookup x=some c:=by
 have q:=PySem.W.cellsFrom_some sc.names n [] (.inl h);exact Bc.mp q
def Nw {K:A6}
   (S:Aa N ps scope) (hd:A.handled=none) (e0:Env0 P w K mg base A outer s H) (hl:vs.length=ps.length) (r:Vals vs us)
   (x:InCallC s s.heap.objs.size (bindL (envOfC qual scope s.heap.objs.size f cd).kindOf (ps.zip us) λ_=>none) (V9 (s.heap.objs.size+1) scope.names []) (bindC (envOfC qual scope s.heap.objs.size f cd).kindOf (ps.zip us) λ_=>none) s1) :
   Inv (cxOf CX P w K mg base N qual scope f cd A outer s H E) [] (start N vs) H s1:=by
 have hpl:ps.length<=N.length:=by have:=congrArg List.length S.pre;rw[l6] at this;omega
 obtain⟨h1,tk,rfl,hk⟩:=x.done;have noA:∀b:A1,b∉(cxOf CX P w K mg base N qual scope f cd A outer s H E).ex:=λb z=>absurd (show b∈([]:List A1) from z) 0o0
 refine⟨⟨e0.mod,S.kind,rfl,rfl,B3 _,λy z c h1 h2=>?_,λy hy=>?_,λy c _ h=>?_,λ_=>hd,Around.frames_deeper e0.frames,.inr ⟨rfl,rfl⟩,λb z=>absurd z (noA b),e0.bs,e0.bsz,λb _ _=>noA b,λb z=>absurd z (noA b),e0.funs,e0.frf,e0.nos⟩,
  rfl,e0.bare,Un.kept hk,⟨_,x.toInCall.ns,λi y v h1 h2 h3=>?_⟩,λy c h=>⟨_,x.cell y c h⟩,e0.hok.fresh (B3 _),λy c h=>?_,λp hp=>absurd (show p∈([]:List (A1×Obj)) from hp) 0o0,e0.hok.kept hk,?_⟩
 ·exact name_of_addr x.apart (j8 h1) (j8 h2)
 ·have hy:scope.names.lookup y=some .cell\/scope.names.lookup y=some .free:=hy;rcases hy with hy|hy
  ·exact JT hy
  ·exact absurd rfl (S.nofree _ (j8 hy))
 ·exact DA (x.above y c (j8 h))
 ·have hi:i<vs.length:=by
   unfold start at h2
   by_cases hi:i<vs.length
   ·exact hi
   ·rw[An (by simpa using hi)] at h2;rw[Gd] at h2
    split at h2 <;> cases h2
  have ha:vs[i]?=some v:=by
   unfold start at h2;rw[Ao (by simpa using hi),L4] at h2;cases e:vs[i]? with
   |none=>rw[e] at h2;cases h2
   |some a=>rw[e] at h2;cases h2;rfl
  obtain⟨u,hu,rv⟩:=r.get ha
  have hp:ps[i]?=some y:=by
   rw[<- S.pre,List.getElem?_take_of_lt 0x0];exact h1
  have ndP:ps.Nodup:=by rw[<- S.pre];exact S.nd.sublist (List.take_sublist _ _)
  refine⟨u,rv,?_⟩;rcases S.par y (G4 hp) with k|k
  ·exact .inl ⟨k,JR ndP hp hu k⟩
  ·obtain⟨c,e⟩:=JT (n:=s.heap.objs.size+1) k;refine .inr ⟨.inl k,c,e,?_⟩;have q:=x.cell y c e;rw[JS ndP hp hu (by show scope.names.lookup y≠_;rw[k];decide)] at q;exact q
 ·exact e0.hok.fresh (DA (x.above y c (j8 h)))
 ·unfold start;show _=N.length;rw[D3,B0,Gg];ext
def fn_of {K:A6}{dV kV doc pm jp ct oc:A2}
 (lk:K.lookup f=some ⟨oc,od,.func (k8 name qual params body scope dV kV doc pm an jp ct),osl⟩) (hcd:EA K jp qual=true) (S:Aa N ps scope)
   (len:∀vs H Q E,sp vs H Q E->vs.length=ps.length)
   (hbody:∀(A:D9) (outer:List Env) (s:A4) (H:Hp) (vs:List V) (Q:VK) (E:XK),Room k (A.deeper (envOfC qual scope s.heap.objs.size f jp))->sp vs H Q E->
     ∃t,PSs (cxOf CX P w K mg base N qual scope f jp A outer s H E) body t/\t { nx:=λ_ H'=>Q .non H',rt:=Q } (start N vs) H) :
   FnOk P w K mg base CX (k+1) f (k8 name qual params body scope dV kV doc pm an jp ct) ps sp:=by
 refine⟨len,λA outer s H args us vs Q E hr e0 hb r hsp=>?_⟩;have hl:=len _ _ _ _ hsp;have KX:K.In s.heap:=e0.mod.kin.keeps λb o e=>(e0.bs b o e).1;have lim:s.heap.NoLimit:=e0.mod.nolimit.keeps λb o e=>(e0.bs b o e).1
 have hkind:∀y∈ps.zip us,scope.names.lookup y.1=some .local\/(scope.names.lookup y.1=some .cell/\((V9 (s.heap.objs.size+1) scope.names []).lookup y.1).isSome=true):=λ⟨n,v⟩ hy=>by
  rcases S.par n (List.of_mem_zip hy).1 with q|q
  ·exact .inl q
  ·exact .inr ⟨q,PySem.W.cellsFrom_some _ _ _ (.inl q)⟩
 refine codeAny_call_function hr.depth (KX _ _ lk) rfl S.co S.gen rfl (PySem.W.codeRec_of KX hcd) (hb _ _ _ _ ?_);refine wpAny_newFunctionEnv_cells S.kind hkind λenv he s1 x=>?_;subst he;refine⟨lim.keeps x.toInCall.keep,codeAny_func ?_⟩;obtain⟨t,ht,hq⟩:=hbody A outer s H vs Q E (hr.deeper _) hsp;have I:Inv (cxOf CX P w K mg base N qual scope f jp A outer s H E) [] (start N vs) H s1:=Nw S hr.hd e0 hl r x;refine K8 (ht [] s1 (start N vs) H _ I hq) (λfl s' hs=>?_) λe s' hs=>hs
 have fin:∀{σ':St} {H':Hp} {v:V} {u:A2},Inv (cxOf CX P w K mg base N qual scope f jp A outer s H E) [] σ' H' s'->RelV v u->Q v H'->CE outer P w H s Q u s':=
  λ{σ' H' v u} J rv q=>⟨v,H',J.os,J.bare,J.base,J.hok,rv,q⟩
 cases fl with
 | ret u =>
  obtain⟨v,σ',H',J,rv,q⟩:=hs;exact fin J rv q
 | next =>
  obtain⟨σ',H',J,q⟩:=hs;exact fin (v:=V.non) (u:=Au) J rfl q
 | brk =>
  obtain⟨_,_,_,q⟩:=hs;exact y4 q
 | cont =>
  obtain⟨_,_,_,q⟩:=hs;exact y4 q
section
variable {X:Cx}{x:Str}{p pos:Pos}{e:Expr}{es:List Expr}{t:TA}{id T:String}{r:List V->Hp->VK->Prop}
def tCB (r:List V->Hp->VK->Prop)(t:TA):TE:=λσ H Q=>t σ H λvs H1=>r vs H1 Q
def Bi (hc:M6 X (.builtin id) r)(hg:Gl X x)(hm:X.mg x=none)(hv:K7 x=some (.builtin id))(ha:PA X (e::es) t)(hn:x≠"__name__":=by decide)(hdb:(x == ("__debug__":Str))=false:=by decide)
   (he:F5 (e::es) X.env=(false,eval e X.env)::F5 es X.env:=by rfl) (hpl:(backTo pos (F5 es X.env)).any (·.1)=false:=by rfl):PE X (.Call (.Name x p) (e::es) [] pos) (tCB r t):=by
 intro jd s σ H Q I h;refine B_ (Az I hg hm hv ?_ hn hdb);exact PyProof.Rows.callWith_builtin1 (thn (ha pos jd s σ H _ I h) λus s1 ⟨vs,H1,I1,r1,q1⟩=>hc jd s1 σ H1 vs us Q I1 r1 q1) he hpl
def GE (hc:M6 X (.type T) r)(hg:Gl X x)(hm:X.mg x=none)(hv:K7 x=some (.type T))(ha:PA X (e::es) t)(hn:x≠"__name__":=by decide)(hdb:(x == ("__debug__":Str))=false:=by decide)
   (he:F5 (e::es) X.env=(false,eval e X.env)::F5 es X.env:=by rfl) (hpl:(backTo pos (F5 es X.env)).any (·.1)=false:=by rfl):PE X (.Call (.Name x p) (e::es) [] pos) (tCB r t):=by
 intro jd s σ H Q I h;refine B_ (Az I hg hm hv ?_ hn hdb);exact Cp (thn (ha pos jd s σ H _ I h) λus s1 ⟨vs,H1,I1,r1,q1⟩=>hc jd s1 σ H1 vs us Q I1 r1 q1) he hpl
def Nx (hc:M6 X (.type T) r)(hg:Gl X x)(hm:X.mg x=none)(hv:K7 x=some (.type T))(hn:x≠"__name__":=by decide)(hdb:(x == ("__debug__":Str))=false:=by decide) :
   PE X (.Call (.Name x p) [] [] pos) (tCB r tNil):=by
 intro jd s σ H Q I h;refine B_ (Az I hg hm hv ?_ hn hdb);exact PyProof.Rows.callWith_type0 (hc jd s σ H [] [] Q I .nil h)
end
end L2
namespace HT
open PySem PyProof.Rows
section
variable {prog:D4}{w:C0}{A:D9}{E:A2->A4->Prop}{s:A4}
def cat_tup (ht:IsTup s.heap t vs.toArray)(hb:IsTup s.heap b ws.toArray)(hv:vs≠[])
   (h1:ws=[]->Q (.ref t) s) (h2:ws≠[]->Q (.ref s.heap.objs.size) { s with heap:=s.heap.push { cls:=.type "tuple",data:=.seq (vs++ws).toArray } })
   (hsz:vs.length+ws.length<=B5):A5 (A7 prog w) A (Y7 .Add (.ref t) (.ref b)) Q E s:=by
 obtain⟨⟨cls,dd,data,sl⟩,ho,hc,n,hd⟩:=id ht;obtain⟨⟨cls2,dd2,data2,sl2⟩,ho2,hc2,n2,hd2⟩:=id hb;simp only at hc hd hc2 hd2;subst hc hd hc2 hd2;have e:vs.toArray++ws.toArray=(vs++ws).toArray:=0o0
 by_cases hw:ws=[]
 ·exact concat_meets ⟨_,ho,rfl⟩ ⟨_,ho2,rfl⟩ noFill_tuple_add seq_tuple_add Gr Gq (Gp _ _)
    (tuple_addW1 t b vs.toArray ws.toArray n n2 dd dd2 sl sl2 (by simpa using hv) (by simp[hw])) ⟨ho,ho2,h1 hw⟩
 ·refine concat_meets ⟨_,ho,rfl⟩ ⟨_,ho2,rfl⟩ noFill_tuple_add seq_tuple_add Gr Gq (Gp _ _)
    (tuple_addW2 t b vs.toArray ws.toArray n n2 dd dd2 sl sl2 (by simpa using hv) (by simpa using hw) (by rw[G9,G9];exact hsz)) ⟨ho,ho2,?_⟩
  rw[e];exact h2 hw
def sIx (n d:Nat):Option Int->Nat
 |none=>d
 |some v=>if v<0 then(v+(n:Int)).toNat else min v.toNat n
def sIx_none (n d:Nat):sIx n d none=d:=rfl
def sIx_nat (n d k:Nat):sIx n d (some (k:Int))=min k n:=by
 show(if(k:Int)<0 then((k:Int)+(n:Int)).toNat else min (k:Int).toNat n)=min k n;rw[jy 0x0,Q1]
def sIx_le (n d:Nat)(hd:d<=n)(o:Option Int):sIx n d o<=n:=by
 cases o with
 |none=>exact hd
 | some v =>
  show(if v<0 then(v+(n:Int)).toNat else min v.toNat n)<=n
  by_cases hv:v<0
  ·rw[jw hv];ext
  ·rw[jy hv];exact Nat.min_le_right _ _
def JU (v:Int)(n d:Nat):(if v<0 then max (v+(n:Int)) 0 else min v (n:Int))=((sIx n d (some v):Nat):Int):=by
 show(if v<0 then max (v+(n:Int)) 0 else min v (n:Int))=(((if v<0 then(v+(n:Int)).toNat else min v.toNat n):Nat):Int)
 by_cases hv:v<0
 ·simp only[jw hv];ext
 ·simp only[jy hv];ext
def Ny (lo hi:Option Int)(n:Nat):DE lo hi 1 (n:Int)=(((sIx n 0 lo:Nat):Int),((sIx n n hi:Nat):Int)):=by
 have h1:¬((1:Int)<0):=0x0
 unfold DE;simp only[h1,if_false];refine Prod.ext ?_ ?_
 ·cases lo with
  |none=>rfl
  |some v=>exact JU v n 0
 ·cases hi with
  |none=>rfl
  |some v=>exact JU v n n
def Nz (i j:Nat):Bb (i:Int) (j:Int) 1=j-i:=by
 unfold Bb;have h1:(1:Int)>0:=0x0
 simp only[h1,if_true,Int.ediv_one]
 split <;> ext
def DK (p:IsPart v o)(h:Q o s):A5 (A7 prog w) A (Builtin.Slice.slicePartIndex v) Q E s:=by
 cases p with
 |none=>exact slicePart_none h
 |int i t=>exact slicePart_int h
def JV {lo hi:Option Int}{n:Nat}{Q:Int×Int×Nat->A4->Prop}(hs:s.heap.IsSliceOf sl vl vu .none)(pl:IsPart vl lo)(pu:IsPart vu hi)
   (h:Q (((sIx n 0 lo:Nat):Int),1,sIx n n hi-sIx n 0 lo) s):A5 (A7 prog w) A (EJ (.ref sl) (pure (n:Int))) Q E s:=by
 obtain⟨os,hos,hcs,hds⟩:=id hs;unfold EJ Jw;refine A3 (A3 (L8 hos hds (x:=vl) rfl (A3 (L8 hos hds (x:=vu) rfl (A3 (L8 hos hds (x:=.none) rfl (A9 ?_)))))));refine A3 (slicePart_none ?_);show A5 _ _ (if((1:Int) == 0)=true then _ else _) _ _ s;rw[jy 0b0];refine A3 (DK pl (A3 (DK pu (A3 (A9 ?_)))));show A5 _ _ (match DE lo hi 1 (n:Int) with|(lo,hi)=>pure (lo,(1:Int),Bb lo hi 1)) _ _ s;rw[Ny lo hi n];show A5 _ _ (pure (((sIx n 0 lo:Nat):Int),(1:Int),Bb ((sIx n 0 lo:Nat):Int) ((sIx n n hi:Nat):Int) 1)) _ _ s;rw[Nz];exact A9 h
def NA (xs:Array A2)(i k:Nat):((B8 k).filterMap λ(m:Nat)=>xs[((i:Int)+(m:Int)*1).toNat]?).toArray=((xs.toList.drop i).take k).toArray:=by
 have e:(λ(m:Nat)=>xs[((i:Int)+(m:Int)*1).toNat]?)=λm=>xs[i+m]?:=by
  funext m
  have:((i:Int)+(m:Int)*1).toNat=i+m:=0x0
  rw[this]
 rw[e];have:=pick_run xs i k;rw[List.filterMap_map] at this;have e2:((λx=>xs[x]?)∘λx=>i+x)=λm=>xs[i+m]?:=rfl
 grind
def getItem_tuple_cut {lo hi:Option Int}(ht:IsTup s.heap t items)(hs:s.heap.IsSliceOf sl vl vu .none)(pl:IsPart vl lo)(pu:IsPart vu hi)
   (hw:¬(sIx items.size 0 lo=0/\sIx items.size items.size hi=items.size))
   (h:Q (.ref s.heap.objs.size) { s with heap:=s.heap.push { cls:=.type "tuple",data:=.seq ((items.toList.drop (sIx items.size 0 lo)).take (sIx items.size items.size hi-sIx items.size 0 lo)).toArray } })
   (hsz:items.size<=B5):A5 (A7 prog w) A (k6 (.ref t) (.ref sl)) Q E s:=by
 have htake:sizeOk (.seq ((items.toList.drop (sIx items.size 0 lo)).take (sIx items.size items.size hi-sIx items.size 0 lo)).toArray):=by
  show((items.toList.drop (sIx items.size 0 lo)).take (sIx items.size items.size hi-sIx items.size 0 lo)).toArray.size<=B5;rw[G9,l6,V3,BE];ext
 have hj:sIx items.size items.size hi<=items.size:=sIx_le _ _ (B3 _) hi;obtain⟨os,hos,hcs,hds⟩:=id hs;have hTs:s.TypeIs (.ref sl) "slice":=⟨os,hos,hcs⟩;unfold k6
 try with_reducible refine R3 ?_
 first|refine A3 (A9 ?_)|skip
 refine A3 (wpAny_sequenceKey ht.typeIs 0b0 ?_)
 refine A3 (Ag (name:=B1 "__getitem__") ht.typeIs Co
   (j9 Co ht.typeIs entry_tuple_getitem ?_ (args_tuple_getitem _ _)))
 show A5 _ _ (Gn (.ref t)>>=_) _ _ s;refine A3 (tupleItemsOf_ ht ?_);refine A3 (AO hTs ?_);rw[jw 0b0];refine A3 (JV hs pl pu ?_)
 have hno:¬((((sIx items.size 0 lo:Nat):Int) == 0&&(1:Int) == 1&&(sIx items.size items.size hi-sIx items.size 0 lo) == items.size)=true):=by
  intro q;rw[M2,M2] at q;have q1:((sIx items.size 0 lo:Nat):Int)=0:=eq_of_beq q.1.1;have q2:sIx items.size items.size hi-sIx items.size 0 lo=items.size:=eq_of_beq q.2;exact hw ⟨0x0,0x0⟩
 show A5 _ _ (if(((sIx items.size 0 lo:Nat):Int) == 0&&(1:Int) == 1&&(sIx items.size items.size hi-sIx items.size 0 lo) == items.size)=true then _ else _) _ _ s;rw[jy hno,NA]
 first
   |exact A3 (m:=Bd _) (Z6 (A9 ⟨_,rfl,A9 h⟩) htake)
   |exact A3 (m:=Bd _) (Z6 (A3 (A9 (A9 ⟨_,rfl,A9 h⟩))) htake)
   |exact A3 (A3 (m:=Bd _) (Z6 (A9 (A9 ⟨_,rfl,A9 h⟩)) htake))
   |exact A3 (A3 (m:=Bd _) (Z6 (A9 ⟨_,rfl,A9 h⟩) htake))
end
end HT
namespace L2
open PySem PySem.Spec PyProof.Rows
abbrev TO:=St->Hp->(Option Int->Hp->Prop)->Prop
def PO (X:Cx)(e:Option Expr)(t:TO):Prop:=
 ∀ (jd : List (A1 × Obj)) (s : A4) (σ : St) (H : Hp) (Q : Option Int -> Hp -> Prop), Inv X jd σ H s -> t σ H Q ->
   A5 (A7 X.prog X.w) X.A (evalPart e X.env) (λu s'=>∃o H',Inv X jd σ H' s'/\IsPart u o/\Q o H') X.xe s
def NB:TO:=λ_ H Q=>Q none H
def tPart (t:TE):TO:=λσ H Q=>t σ H λx H1=>∃i,x=.int i/\Q (some i) H1
section
variable {X:Cx}{e:Expr}{te:TE}{lo hi:Option Expr}{tl th:TO}{pos p2:Pos}
def JW:PO X none NB:=by
 intro jd s σ H Q I h;rw[evalPart_none];exact A9 ⟨none,H,I,.none,h⟩
def JX (h:PE X e te):PO X (some e) (tPart te):=by
 intro jd s σ H Q I hw;rw[evalPart_some];refine thn (h jd s σ H _ I hw) λu s1 ⟨x,H1,I1,r1,q1⟩=>?_;obtain⟨i,rfl,q⟩:=q1;obtain⟨t,rfl⟩:=r1;exact⟨some i,H1,I1,.int i t,q⟩
def SlR (X:Cx)(r:V->Option Int->Option Int->Hp->VK->Prop):Prop:=
 ∀ (jd : List (A1 × Obj)) (s : A4) (σ : St) (H : Hp) (x : V) (v vl vu : A2) (lo hi : Option Int) (sl : A1) (Q : VK), Inv X jd σ H s -> RelV x v -> s.heap.IsSliceOf sl vl vu .none -> IsPart vl lo -> IsPart vu hi -> r x lo hi H Q ->
   ∃T id,typeLookup (.type T) "__getitem__"=pure (some (.builtin id))/\s.TypeIs v T/\A5 (A7 X.prog X.w) X.A (k6 v (.ref sl)) (EP X jd σ Q) X.xe s
def SlR.or (h:SlR X r)(h':SlR X r'):SlR X (λx lo hi H Q=>r x lo hi H Q\/r' x lo hi H Q):=by
 intro jd s σ H x v vl vu lo hi sl Q I rx hs pl pu q;rcases q with q|q
 ·exact h jd s σ H x v vl vu lo hi sl Q I rx hs pl pu q
 ·exact h' jd s σ H x v vl vu lo hi sl Q I rx hs pl pu q
def tSl (r:V->Option Int->Option Int->Hp->VK->Prop)(te:TE)(tl th:TO):TE:=λσ H Q=>te σ H λx H1=>tl σ H1 λl H2=>th σ H2 λu H3=>r x l u H3 Q
def JY (hr:SlR X r)(he:PE X e te)(hl:PO X lo tl)(hu:PO X hi th):PE X (.Subscript e (.Slice lo hi none p2) pos) (tSl r te tl th):=by
 intro jd s σ H Q I h;refine Subscript_ (thn (he jd s σ H _ I h) λv s1 ⟨x,H1,I1,r1,q1⟩=>?_);refine wpAny_Slice (thn (hl jd s1 σ H1 _ I1 q1) λvl s2 ⟨l,H2,I2,pl,q2⟩=>thn (hu jd s2 σ H2 _ I2 q2) λvu s3 ⟨u,H3,I3,pu,q3⟩=>?_);rw[evalPart_none];refine A9 ?_;have I4:Inv X jd σ H3 { s3 with heap:=s3.heap.push { cls:=.type "slice",data:=.fields #[vl,vu,.none] } }:=I3.kept (t':=s3.toks) λb ob q=>C3 _ q;obtain⟨T,id,hT,ht,hg⟩:=hr jd { s3 with heap:=s3.heap.push { cls:=.type "slice",data:=.fields #[vl,vu,.none] } } σ H3 x v vl vu l u s3.heap.objs.size Q I4 r1 (Gs ..) pl pu q3;show A5 (A7 X.prog X.w) X.A (subscriptTail e (.Slice lo hi none p2) v (.ref s3.heap.objs.size)) (EP X jd σ Q) X.xe { s3 with heap:=s3.heap.push { cls:=.type "slice",data:=.fields #[vl,vu,.none] } };exact tail_any (ops:=[.ref s3.heap.objs.size,v]) ht hT hg (by with_unfolding_all rfl)
def cutV (xs:List V)(lo hi:Option Int):List V:=(xs.drop (HT.sIx xs.length 0 lo)).take (HT.sIx xs.length xs.length hi-HT.sIx xs.length 0 lo)
def JZ (xs:List V)(lo hi:Option Int):(cutV xs lo hi).length<=xs.length:=by
 unfold cutV;rw[l6,V3];ext
def rSlT (K:A6):V->Option Int->Option Int->Hp->VK->Prop:=λx lo hi H Q=>∃a xs,x=.ref a/\SqT K H a xs/\
 ¬(HT.sIx xs.length 0 lo=0/\HT.sIx xs.length xs.length hi=xs.length)/\∀p,H p=none->Q (.ref p) (upd H p (.tup (cutV xs lo hi)))
def sl_tup:SlR X (rSlT X.K):=by
 intro jd s σ H x v vl vu lo hi sl Q I rx hs pl pu h;obtain⟨a,xs,rfl,hx,hw,q⟩:=h;cases rx;obtain⟨jh,r,ht,hz⟩:=I.tuple hx;have hlen:jh.toArray.size=xs.length:=by rw[G9];exact r.length.symm
 refine⟨"tuple",_,PyProof.Rows.slot_tuple_getitem.lookup,ht.typeIs,?_⟩;refine HT.getItem_tuple_cut ht hs pl pu (by rw[hlen];exact hw) ?_ (by rw[hlen];exact hz);rw[hlen];refine⟨.ref s.heap.objs.size,_,I.laid (t':=s.toks) (o:=.tup (cutV xs lo hi)) (λb ob q=>C3 _ q) (B3 _) ?_,rfl,q _ (I.hok.fresh (B3 _))⟩;exact⟨E6 (JZ xs lo hi) hz,_,(r.drop (HT.sIx xs.length 0 lo)).take (HT.sIx xs.length xs.length hi-HT.sIx xs.length 0 lo),u5.new _ _⟩
def rCatT (K:A6):R2:=λx y H Q=>∃a b xs ys,x=.ref a/\y=.ref b/\SqT K H a xs/\SqT K H b ys/\xs≠[]/\xs.length+ys.length<=B5/\
 (ys=[]->Q (.ref a) H)/\(ys≠[]->∀p,H p=none->Q (.ref p) (upd H p (.tup (xs++ys))))
def Vals.nil_iff (r:Vals xs us):us=[]↔xs=[]:=by
 cases r with
 |nil=>simp
 |cons _ _=>simp
def NC:OpR X (Y7 .Add) (rCatT X.K):=by
 intro jd s σ H x y v u Q I rx ry h;obtain⟨a,b,xs,ys,rfl,rfl,ha,hb,hx,hz,q1,q2⟩:=h;cases rx;cases ry;obtain⟨jh,r1,p1,_⟩:=I.tuple ha;obtain⟨its2,r2,p2,_⟩:=I.tuple hb;refine HT.cat_tup p1 p2 (λz=>hx (r1.nil_iff.mp z)) (λz=>⟨.ref a,H,I,rfl,q1 (r2.nil_iff.mp z)⟩) (λz=>?_) (by rw[<- r1.length,<- r2.length];exact hz);refine⟨.ref s.heap.objs.size,_,I.laid (t':=s.toks) (o:=.tup (xs++ys)) (λb ob q=>C3 _ q) (B3 _) ?_,rfl,q2 (λw=>z (r2.nil_iff.mpr w)) _ (I.hok.fresh (B3 _))⟩;exact⟨by rw[D3];exact hz,_,r1.append r2,u5.new _ _⟩
end
def ixN (n:Nat)(i:Int):Option Nat:=if 0<=i then(if i<n then some i.toNat else none) else if -(n:Int)<=i then some (i+n).toNat else none
def atI {α:Type}(xs:List α)(i:Int):Option α:=(ixN xs.length i).bind λj=>xs[j]?
def GF (h:ixN n i=some j):seqIndex? i n=some j/\j<n/\-(n:Int)<=i/\i<n:=by
 unfold ixN at h
 by_cases h0:0<=i
 ·rw[jw h0] at h
  by_cases h1:i<n
  ·rw[jw h1] at h;have e:i.toNat=j:=E7 h;exact⟨by rw[seqIndex_of h0 h1,e],0x0,0x0,h1⟩
  ·rw[jy h1] at h;cases h
 ·rw[jy h0] at h
  by_cases h1:-(n:Int)<=i
  ·rw[jw h1] at h;have e:(i+n).toNat=j:=E7 h;exact⟨by rw[seqIndex_neg 0x0 h1,e],0x0,h1,0x0⟩
  ·rw[jy h1] at h;cases h
def GH {α:Type}{xs:List α}{i:Int}{v:α}(h:atI xs i=some v):∃j,seqIndex? i xs.length=some j/\xs[j]?=some v/\j<xs.length/\-(xs.length:Int)<=i/\i<xs.length:=by
 unfold atI at h;cases e:ixN xs.length i with
 |none=>rw[e] at h;cases h
 | some j =>
  rw[e] at h;obtain⟨h1,h2,h3,h4⟩:=GF e;exact⟨j,h1,h,h2,h3,h4⟩
def Bj {α:Type}{xs:List α}{j:Nat}{v:α}(h:xs[j]?=some v):atI xs (j:Int)=some v:=by
 have hj:j<xs.length:=(E5.mp h).1
 have e:ixN xs.length (j:Int)=some j:=by
  unfold ixN;rw[jw 0x0,jw 0x0];simp
 unfold atI;rw[e];exact h
def J_ (b:Expr):Prop:=∀o i,subscripted b false o i=operate [o,i] (k6 o i)
def IxR (X:Cx)(r:R2):Prop:=
 ∀ (value slice : Expr) (jd : List (A1 × Obj)) (s : A4) (σ : St) (H : Hp) (x y : V) (v u : A2) (Q : VK), Inv X jd σ H s -> RelV x v -> RelV y u -> r x y H Q ->
   subscripted slice false v u=operate [v,u] (k6 v u)->A5 (A7 X.prog X.w) X.A (subscriptTail value slice v u) (EP X jd σ Q) X.xe s
def MtR (X:Cx)(id:String)(r:V->List V->Hp->VK->Prop):Prop:=
 ∀ (jd : List (A1 × Obj)) (s : A4) (σ : St) (H : Hp) (x : V) (xs : List V) (v : A2) (us : List A2) (Q : VK), Inv X jd σ H s -> RelV x v -> Vals xs us -> r x xs H Q ->
   A5 (A7 X.prog X.w) X.A (call (.builtin id) (v::us)) (EP X jd σ Q) X.xe s
section
variable {X:Cx}{a b:Expr}{ta tb:TE}{pos:Pos}
def IxR.or (h:IxR X r)(h':IxR X r'):IxR X (λx y H Q=>r x y H Q\/r' x y H Q):=by
 intro value slice jd s σ H x y v u Q I rx ry q hs;rcases q with q|q
 ·exact h value slice jd s σ H x y v u Q I rx ry q hs
 ·exact h' value slice jd s σ H x y v u Q I rx ry q hs
def Bk (hr:IxR X r)(ha:PE X a ta)(hb:PE X b tb)(hs:J_ b):PE X (.Subscript a b pos) (tOp r ta tb):=by
 intro jd s σ H Q I h;exact Subscript_ (binT ha hb I h λv u s2 x y H2 I2 rx ry q=>hr a b jd s2 σ H2 x y v u Q I2 rx ry q (hs _ _))
def rIxL (K:A6):R2:=λx y H Q=>∃p xs i v,x=.ref p/\y=.int i/\SqL K H p xs/\atI xs i=some v/\Q v H
def rIxT (K:A6):R2:=λx y H Q=>∃p xs i v,x=.ref p/\y=.int i/\SqT K H p xs/\atI xs i=some v/\Q v H
def rIxS:R2:=λx y H Q=>∃z i c,x=.str z/\y=.int i/\z.length<=B5/\atI z.cps.toList i=some c/\Q (.str ⟨#[c]⟩) H
def Bl:IxR X (rIxL X.K):=by
 intro value slice jd s σ H x y v u Q I rx ry h hs;obtain⟨p,xs,i,z,rfl,rfl,hq,he,q⟩:=h;cases rx;obtain⟨t,rfl⟩:=ry;obtain⟨jh,r,pl,hz⟩:=I.list hq;obtain⟨j,h1,h2,h3,h4,h5⟩:=GH he;obtain⟨w,ew,rw'⟩:=r.get h2;have hl:=r.length;have hn:=CC;have fin:EP X jd σ Q w s:=⟨z,H,I,rw',q⟩
 by_cases h0:0<=i
 ·have hj:i.toNat=j:=by
   rw[seqIndex_of h0 h5] at h1;exact E7 h1
  exact item_listR pl.isList h0 0x0 (by rw[hj];simpa using ew) fin hs
 ·have hj:(i+(jh.toArray.size:Int)).toNat=j:=by
   rw[seqIndex_neg 0x0 h4] at h1;rw[G9,<- hl];exact E7 h1
  exact subscriptTail_builtinR (x:=w) pl.isList.typeIs slot_list_getitem.lookup
    (wpAny_getItem_list_neg (Q:=λr s'=>r=w/\EP X jd σ Q r s') pl.isList 0x0 (by rw[G9] <;> ext) 0x0 (by rw[hj];simpa using ew) ⟨rfl,fin⟩) hs
def ix_tup:IxR X (rIxT X.K):=by
 intro value slice jd s σ H x y v u Q I rx ry h hs;obtain⟨p,xs,i,z,rfl,rfl,hq,he,q⟩:=h;cases rx;obtain⟨t,rfl⟩:=ry;obtain⟨jh,r,pl,hz⟩:=I.tuple hq;obtain⟨j,h1,h2,h3,h4,h5⟩:=GH he;obtain⟨w,ew,rw'⟩:=r.get h2;have hl:=r.length;have hn:=CC;have fin:EP X jd σ Q w s:=⟨z,H,I,rw',q⟩
 exact subscriptTail_builtinR (x:=w) pl.typeIs slot_tuple_getitem.lookup
   (getItem_tuple (j:=j) (Q:=λr s'=>r=w/\EP X jd σ Q r s') pl 0x0 0x0 (by grind) (by grind) ⟨rfl,fin⟩) hs
def ix_str:IxR X rIxS:=by
 intro value slice jd s σ H x y v u Q I rx ry h hs;obtain⟨z,i,c,rfl,rfl,hz,he,q⟩:=h;obtain⟨t,rfl⟩:=rx;obtain⟨t',rfl⟩:=ry;obtain⟨j,h1,h2,h3,h4,h5⟩:=GH he;have hl:z.cps.toList.length=z.length:=by simp[Str.length]
 rw[hl] at h1 h4 h5;have hn:=CC
 exact tail_any (Ak s z t) slot_str_getitem.lookup (getItem_str (c:=c) (by
  have e1:decide (i < -(2 ^ 63:Int))=false:=jv 0x0;have e2:decide (i>=2 ^ 63)=false:=jv 0x0
  rw[e1,e2,P1]) (by grind) ⟨.str ⟨#[c]⟩,H,I.tok _,⟨_,rfl⟩,q⟩) hs
def rIx (K:A6):R2:=λx y H Q=>rIxL K x y H Q\/rIxT K x y H Q\/rIxS x y H Q
def ix_seq:IxR X (rIx X.K):=Bl.or (ix_tup.or ix_str)
def ND (jh:List A2)(n j:Nat)(u:A2):Y9 (·.setIfInBounds j u) { cls:=.type "list",data:=.seq jh.toArray n }={ cls:=.type "list",data:=.seq (jh.set j u).toArray n }:=by
 simp[Y9]
theorem Inv.lst (I:Inv X jd σ H s)(h:H p=some (.lst xs)) :
   ∃(jh:List A2) (n:Nat),Vals xs jh/\s.heap.get? p=some { cls:=.type "list",data:=.seq jh.toArray n }/\xs.length<=B5:=by
 obtain⟨z,jh,n,r,e⟩:=I.hok p _ h;exact⟨jh,n,r,e,z⟩
def Inv.lstUpd {jh its':List A2}(I:Inv X jd σ H s)(h:H p=some (.lst xs))
   (ho:s.heap.get? p=some { cls:=.type "list",data:=.seq jh.toArray n }) (hf:f { cls:=.type "list",data:=.seq jh.toArray n }={ cls:=.type "list",data:=.seq its'.toArray n' }) (r:Vals ys its') (hz:ys.length<=B5) (t:Nat) :
   Inv X jd σ (upd H p (.lst ys)) { s with heap:=s.heap.update p f,toks:=t }:=by
 have e:(s.heap.update p f).get? p=some { cls:=.type "list",data:=.seq its'.toArray n' }:=by
  rw[Heap.get?_update_self f ho (by rw[hf] <;> rfl),hf]
 refine I.write (x:=p) (e:=p) (by rw[h];trivial) (.inl rfl) (λb u hb q=>(Heap.get?_update_other _ _ (Ne.symm hb)).trans q) ⟨_,e⟩ ?_;exact⟨hz,its',n',r,e⟩
def DL:V->V->V->Hp->(Hp->Prop)->Prop:=λo i v H Q=>∃p xs k j,o=.ref p/\i=.int k/\H p=some (.lst xs)/\ixN xs.length k=some j/\Q (upd H p (.lst (xs.set j v)))
def GI:PSet X DL:=by
 intro jd s σ H o i v ov iv u Q I ro ri rv h;obtain⟨p,xs,k,j,rfl,rfl,hp,hj,q⟩:=h;cases ro;obtain⟨t,rfl⟩:=ri;obtain⟨jh,n,r,ho,hz⟩:=I.lst hp;obtain⟨h1,h2,h3,h4⟩:=GF hj;have hl:=r.length;have hn:=CC
 have I':Inv X jd σ (upd H p (.lst (xs.set j v))) { s with heap:=s.heap.update p (Y9 (·.setIfInBounds j u)) }:=
  I.lstUpd hp ho (ND jh n j u) (r.set rv j) (by grind) s.toks
 by_cases h0:0<=k
 ·have hk:k.toNat=j:=by
   rw[seqIndex_of h0 h4] at h1;exact E7 h1
  exact PySem.W.ki_setAt ho h0 0x0 (by grind) (by grind)
 ·have hk:(k+(jh.toArray.size:Int)).toNat=j:=by
   rw[seqIndex_neg 0x0 h3] at h1;rw[G9,<- hl];exact E7 h1
  exact PySem.W.ki_setBack ho 0x0 (by rw[G9,<- hl];exact h3) 0x0 (by rw[hk];exact⟨_,I',q⟩)
def NE (lo hi:Option Int)(n:Nat):(Bx lo hi none n).1=((HT.sIx n 0 lo:Nat):Int)/\(Bx lo hi none n).2.1=((HT.sIx n n hi:Nat):Int)/\(Bx lo hi none n).2.2=1:=by
 refine⟨?_,?_,rfl⟩
 ·cases lo with
  |none=>simp[Bx,HT.sIx]
  | some i =>
   simp only[Bx,HT.sIx,Option.getD_none,show(1:Int)>0 by decide,if_true]
   by_cases h:i<0
   ·simp only[h,if_true] <;> ext
   ·simp only[h,if_false] <;> ext
 ·cases hi with
  |none=>simp[Bx,HT.sIx]
  | some i =>
   simp only[Bx,HT.sIx,Option.getD_none,show(1:Int)>0 by decide,if_true]
   by_cases h:i<0
   ·simp only[h,if_true] <;> ext
   ·simp only[h,if_false] <;> ext
def NF (jh:List A2)(lo hi:Option Int):slicePick jh.toArray lo hi none=((jh.drop (HT.sIx jh.length 0 lo)).take (HT.sIx jh.length jh.length hi-HT.sIx jh.length 0 lo)).toArray:=by
 obtain⟨h1,h2,h3⟩:=NE lo hi jh.toArray.size;unfold slicePick;rw[h1,h2,h3];simp only[sliceRange_one,pick_run,G9] <;> rfl
def rSlL (K:A6):V->Option Int->Option Int->Hp->VK->Prop:=λx lo hi H Q=>∃a xs,x=.ref a/\SqL K H a xs/\∀p,H p=none->Q (.ref p) (upd H p (.lst (cutV xs lo hi)))
def Ka:SlR X (rSlL X.K):=by
 intro jd s σ H x v vl vu lo hi sl Q I rx hs pl pu h;obtain⟨a,xs,rfl,hx,q⟩:=h;cases rx;obtain⟨jh,r,ht,hz⟩:=I.list hx;have hlen:=r.length;refine⟨"list",_,slot_list_getitem.lookup,ht.isList.typeIs,?_⟩;refine wpAny_getItem_list_slice ht.isList hs pl pu .none 0o0 ?_ (by rw[G9] <;> ext)
 rw[NF,<- hlen];refine⟨.ref s.heap.objs.size,_,I.laid (t':=s.toks) (o:=.lst (cutV xs lo hi)) (λb ob q=>C3 _ q) (B3 _) ?_,rfl,q _ (I.hok.fresh (B3 _))⟩;exact⟨E6 (JZ xs lo hi) hz,_,0,(r.drop (HT.sIx xs.length 0 lo)).take (HT.sIx xs.length xs.length hi-HT.sIx xs.length 0 lo),K4 _ rfl⟩
def V6:V->Bool
 |.non=>true
 |.bl _=>true
 |.int _=>true
 |.str _=>true
 |_=>false
def eqV:V->V->Bool
 |.non,.non=>true
 |.bl a,.bl b=>a == b
 |.bl a,.int b=>(if a then 1 else 0) == b
 |.int a,.bl b=>a == (if b then 1 else 0)
 |.int a,.int b=>a == b
 |.str a,.str b=>a == b
 |_,_=>false
def GJ (ry:RelV y u)(rx:RelV x v)(fy:V6 y=true)(fx:V6 x=true):u0 A s u v (eqV y x):=by
 cases y with
 | non =>
  cases ry;cases x with
  |non=>cases rx;exact SeqAt.EqAt.same _
  |bl b=>cases rx;exact SeqAt.EqAt.none_bool b
  |int b=>obtain⟨t,rfl⟩:=rx;exact SeqAt.EqAt.none_int b t
  |str b=>obtain⟨t,rfl⟩:=rx;exact SeqAt.EqAt.none_str b t
  |_=>exact absurd (show false=true from fx) d5
 | bl a =>
  cases ry;cases x with
  |non=>cases rx;exact SeqAt.EqAt.bool_none a
  |bl b=>cases rx;exact SeqAt.EqAt.bool_bool a b
  |int b=>obtain⟨t,rfl⟩:=rx;exact SeqAt.EqAt.bool_int a b t
  |str b=>obtain⟨t,rfl⟩:=rx;exact SeqAt.EqAt.bool_str a b t
  |_=>exact absurd (show false=true from fx) d5
 | int a =>
  obtain⟨t',rfl⟩:=ry;cases x with
  |non=>cases rx;exact SeqAt.EqAt.int_none a t'
  |bl b=>cases rx;exact SeqAt.EqAt.int_bool a t' b
  |int b=>obtain⟨t,rfl⟩:=rx;exact SeqAt.EqAt.int_int a t' b t
  |str b=>obtain⟨t,rfl⟩:=rx;exact SeqAt.EqAt.int_str a t' b t
  |_=>exact absurd (show false=true from fx) d5
 | str a =>
  obtain⟨t',rfl⟩:=ry;cases x with
  |non=>cases rx;exact SeqAt.EqAt.str_none a t'
  |bl b=>cases rx;exact SeqAt.EqAt.str_bool a t' b
  |int b=>obtain⟨t,rfl⟩:=rx;exact SeqAt.EqAt.str_int a t' b t
  |str b=>obtain⟨t,rfl⟩:=rx;exact SeqAt.EqAt.str_str a t' b t
  |_=>exact absurd (show false=true from fx) d5
 |_=>exact absurd (show false=true from fy) d5
def NG:OpR X (L0 .NotIn) (λx y H Q=>∃i j,x=.str i/\y=.str j/\Q (.bl (!(!(Cu j i 0 j.length 1).isEmpty))) H):=by
 intro jd s σ H x y v u Q I rx ry h;obtain⟨i,j,rfl,rfl,q⟩:=h;obtain⟨t,rfl⟩:=rx;obtain⟨t',rfl⟩:=ry;exact notIn_str ⟨.bl _,H,I,rfl,q⟩
def Kb:M6 X (.builtin "len") (λxs H Q=>∃p ys,xs=[.ref p]/\(SqL X.K H p ys\/SqT X.K H p ys)/\Q (.int ys.length) H):=by
 intro jd s σ H xs us Q I r h;obtain⟨p,ys,rfl,hq,q⟩:=h;obtain⟨u,rfl,rx⟩:=z9 r;cases rx;have hn:=CC;rcases hq with hq|hq
 ·obtain⟨jh,r',pl,hz⟩:=I.list hq;have hlen:=r'.length;exact Calls.call_len_list pl.isList (by simp only[G9] <;> ext) ⟨.int ys.length,H,I.tok _,⟨s.toks+1,by rw[G9,hlen]⟩,q⟩
 ·obtain⟨jh,r',pl,hz⟩:=I.tuple hq;have hlen:=r'.length;exact len_tuple pl (by simp only[G9] <;> ext) ⟨.int ys.length,H,I.tok _,⟨s.toks+1,by rw[G9,hlen]⟩,q⟩
def NH:M6 X (.builtin "len") (λxs H Q=>∃z,xs=[.str z]/\z.length<=B5/\Q (.int z.length) H):=by
 intro jd s σ H xs us Q I r h;obtain⟨z,rfl,hz,q⟩:=h;obtain⟨u,rfl,t,rfl⟩:=z9 r;have hn:=CC;exact len_str 0x0 ⟨.int z.length,H,I.tok _,⟨_,rfl⟩,q⟩
def M6.or (h:M6 X f r)(h':M6 X f r'):M6 X f (λxs H Q=>r xs H Q\/r' xs H Q):=by
 intro jd s σ H xs us Q I rs q;rcases q with q|q
 ·exact h jd s σ H xs us Q I rs q
 ·exact h' jd s σ H xs us Q I rs q
def NI:M6 X (.type "list") (λxs H Q=>∃p ys,xs=[.ref p]/\(SqL X.K H p ys\/SqT X.K H p ys)/\∀l,H l=none->Q (.ref l) (upd H l (.lst ys))):=by
 intro jd s σ H xs us Q I r h;obtain⟨p,ys,rfl,hq,q⟩:=h;obtain⟨u,rfl,rx⟩:=z9 r;cases rx
 have fin:∀(jh:List A2),Vals ys jh->ys.length<=B5->∀(h':B4) (c':Nat),(∀b o',s.heap.get? b=some o'->h'.get? b=some o')->
     h'.get? s.heap.objs.size=some { cls:=.type "list",dict:=none,data:=.seq jh.toArray c',slots:=#[] }->EP X jd σ Q (.ref s.heap.objs.size) { s with heap:=h' }:=λjh r' hz h' c' kp e=>
   ⟨.ref s.heap.objs.size,_,I.laid (t':=s.toks) kp (B3 _) (show J1 X.prog X.w _ h' _ (.lst ys) from⟨hz,jh,c',r',e⟩),rfl,q _ (I.hok.fresh (B3 _))⟩
 rcases hq with hq|hq
 ·obtain⟨jh,r',pl,hz⟩:=I.list hq;have hlen:=r'.length;obtain⟨o,ho,hc,n,hd⟩:=pl.isList;exact call_list_seq p (.inl rfl) ho hc hd (λh' c' kp e=>fin jh r' hz h' c' kp e) (by simp only[G9] <;> ext)
 ·obtain⟨jh,r',pl,hz⟩:=I.tuple hq;have hlen:=r'.length;obtain⟨o,ho,hc,n,hd⟩:=pl;exact call_list_seq p (.inr rfl) ho hc hd (λh' c' kp e=>fin jh r' hz h' c' kp e) (by simp only[G9] <;> ext)
def NJ:M6 X (.type "tuple") (λxs H Q=>∃p ys,xs=[.ref p]/\((SqL X.K H p ys/\∀l,H l=none->Q (.ref l) (upd H l (.tup ys)))\/(SqT X.K H p ys/\Q (.ref p) H))):=by
 intro jd s σ H xs us Q I r h;obtain⟨p,ys,rfl,h⟩:=h;obtain⟨u,rfl,rx⟩:=z9 r;cases rx;rcases h with⟨hq,q⟩|⟨hq,q⟩
 ·obtain⟨jh,r',pl,hz⟩:=I.list hq;have hlen:=r'.length;refine call_tuple_list pl.isList (λh' kp=>?_) (by simp only[G9] <;> ext)
  have I1:Inv X jd σ H { s with heap:=h' }:=I.kept (t':=s.toks) kp
  have I2:Inv X jd σ (upd H h'.objs.size (.tup ys)) { s with heap:=h'.push { cls:=.type "tuple",data:=.seq jh.toArray } }:=
   I1.laid (t':=s.toks) (λb o e=>C3 _ e) (B3 _) (show J1 X.prog X.w _ _ _ (.tup ys) from⟨hz,jh,r',u5.new _ _⟩)
  exact⟨.ref h'.objs.size,_,I2,rfl,q _ (I1.hok.fresh (B3 _))⟩
 ·obtain⟨jh,r',pl,hz⟩:=I.tuple hq;exact call_tuple_same pl ⟨.ref p,H,I,rfl,q⟩
def tyV (K:A6)(T:String)(x:V)(H:Hp):Prop:=match x with
 |.str _=>T="str"
 |.int _=>T="int"
 |.ref p=>(T="list"/\∃xs,SqL K H p xs)\/(T="tuple"/\((∃o,K.lookup p=some o/\o.cls=.type "tuple"/\o.dict=none)\/∃xs,H p=some (.tup xs)))\/
     (T="dict"/\((∃ji,H p=some (.dK ji))\/∃ji,H p=some (.dT ji)))\/(T="set"/\∃S n,H p=some (.set S n))
 |_=>False
def Kc (I:Inv X jd σ H s)(r:RelV x v)(ty:tyV X.K T x H) :
   s.TypeIs v T/\∀a,v=.ref a->∃ob,s.heap.get? a=some ob/\ob.dict=none:=by
 cases x with
 | str z =>
  obtain⟨t,rfl⟩:=r;cases(show T="str" from ty);exact⟨Ak s z t,λ_ e=>nomatch e⟩
 | int i =>
  obtain⟨t,rfl⟩:=r;cases(show T="int" from ty);exact⟨typeIs_int s i t,λ_ e=>nomatch e⟩
 | ref p =>
  cases r;rcases ty with⟨rfl,xs,hq⟩|⟨rfl,hk⟩|⟨rfl,hk⟩|⟨rfl,S,n,hk⟩
  ·obtain⟨jh,_,pl,_⟩:=I.list hq;refine⟨pl.isList.typeIs,λa e=>?_⟩;cases e;obtain⟨o,n,e,c,hd,_⟩:=pl;exact⟨o,e,hd⟩
  ·rcases hk with⟨o,hk,hc,hd⟩|⟨xs,hk⟩
   ·refine⟨⟨o,I.kIn p o hk,hc⟩,λa e=>?_⟩;cases e;exact⟨o,I.kIn _ o hk,hd⟩
   ·obtain⟨_,_,_,o,e,c,_⟩:=(show J1 X.prog X.w H s.heap p (.tup xs) from I.hok p _ hk);refine⟨⟨o,e,(Cz c).1⟩,λa e2=>?_⟩;cases e2;exact⟨o,e,(Cz c).2⟩
  ·have z:∃o,s.heap.get? p=some o/\o.ExactDict:=by
    rcases hk with⟨ji,hk⟩|⟨ji,hk⟩
    ·obtain⟨_,_,_,_,o,_,_,e,ex,_⟩:=I.hok p _ hk;exact⟨o,e,ex⟩
    ·obtain⟨_,_,_,_,o,_,_,e,ex,_⟩:=I.hok p _ hk;exact⟨o,e,ex⟩
   obtain⟨o,e,ex⟩:=z;refine⟨⟨o,e,ex.1⟩,λa e2=>?_⟩;cases e2;exact⟨o,e,ex.2.1⟩
  ·obtain⟨o,_,_,_,e,ex,_⟩:=I.hok p _ hk;refine⟨⟨o,e,ex.1⟩,λa e2=>?_⟩;cases e2;exact⟨o,e,ex.2.1⟩
 |_=>exact y4 ty
def tBM0 (K:A6)(T:String)(r:V->List V->Hp->VK->Prop)(to:TE):TE:=λσ H Q=>to σ H λx H1=>tyV K T x H1/\r x [] H1 Q
def tBM (K:A6)(T:String)(r:V->List V->Hp->VK->Prop)(to:TE)(t:TA):TE:=λσ H Q=>to σ H λx H1=>tyV K T x H1/\t σ H1 λxs H2=>r x xs H2 Q
variable {o e:Expr}{es:List Expr}{to:TE}{t:TA}{name:Str}{apos cpos:Pos}{T id:String}{r:V->List V->Hp->VK->Prop}
def pe_bm0 (pa:PlainAttrs T)(slot:Slot T name id)(hty:typeOf (.builtin id)=pure (.type "method_descriptor"))(hm:MtR X id r)(ho:PE X o to)
   (hbase:Ai o name X.env (eval o X.env)=eval o X.env:=by rfl) (hline:(apos.endLine == cpos.line)=true:=by rfl):PE X (.Call (.Attribute o name apos) [] [] cpos) (tBM0 X.K T r to):=by
 intro jd s σ H Q I h;refine wpAny_Call_method0_late hbase hline (thn (ho jd s σ H _ I h) λv s1 ⟨x,H1,I1,r1,ty,q1⟩=>?_);obtain⟨h1,h2⟩:=Kc I1 r1 ty;exact⟨T,id,pa,slot,hty,h1,h2,Calls.callWith_builtin rfl (PySem.evalArgs_none (hm jd s1 σ H1 x [] v [] Q I1 r1 .nil q1))⟩
def CF (pa:PlainAttrs T)(slot:Slot T name id)(hty:typeOf (.builtin id)=pure (.type "method_descriptor"))(hm:MtR X id r)(ho:PE X o to)(ha:PA X (e::es) t)
   (hbase:Ai o name X.env (eval o X.env)=eval o X.env:=by rfl)
   (hfew:((backTo cpos (F5 (e::es) X.env)).all (λx=>!x.1)&&(backToKw cpos (AQ [] X.env)).all (λx=>x.1.isSome)
     && decide ((e::es).length+([]:List Y8).length+(if([]:List Y8).isEmpty then 0 else 1)<30))=true:=by rfl)
   (hline:(apos.endLine == cpos.line)=true:=by rfl) (hs:F5 (e::es) X.env=(false,eval e X.env)::F5 es X.env:=by rfl) (hplain:(backTo cpos (F5 es X.env)).any (·.1)=false:=by rfl) :
   PE X (.Call (.Attribute o name apos) (e::es) [] cpos) (tBM X.K T r to t):=by
 intro jd s σ H Q I h;refine wpAny_Call_method_late hbase hfew hline rfl (thn (ho jd s σ H _ I h) λv s1 ⟨x,H1,I1,r1,ty,q1⟩=>?_);obtain⟨h1,h2⟩:=Kc I1 r1 ty;refine⟨T,id,pa,slot,hty,h1,h2,?_⟩;have hA:=ha cpos jd s1 σ H1 _ I1 q1;rw[hs] at hA ⊢;refine Calls.callWith_builtin (by show(false||(backTo cpos (F5 es X.env)).any (·.1))=false;rw[hplain] <;> rfl) (Calls.evalArgs_plain ?_)
 exact thn hA λus s2 ⟨vs,H2,I2,r2,q2⟩=>hm jd s2 σ H2 x vs v us Q I2 r1 r2 q2
end
def MtM (X:Cx)(id:String)(r:V->List V->Hp->VK->Prop):Prop:=
 ∀ (jd : List (A1 × Obj)) (s : A4) (σ : St) (H : Hp) (x : V) (xs : List V) (v : A2) (us : List A2) (Q : VK), Inv X jd σ H s -> RelV x v -> Vals xs us -> r x xs H Q ->
   A5 (A7 X.prog X.w) X.A (call (.builtin id) (v::us)) (EP X jd σ Q) X.xe s
def Vals.one (h:Vals [x] us):∃u,us=[u]/\RelV x u:=by
 cases h with|cons r h=>cases h;exact⟨_,rfl,r⟩
def Vals.two (h:Vals [x,y] us):∃u v,us=[u,v]/\RelV x u/\RelV y v:=by
 cases h with|cons r h=>cases h with|cons q h=>cases h;exact⟨_,_,rfl,r,q⟩
theorem Vals.eraseIdx:∀{xs:List V} {us:List A2} (i:Nat),Vals xs us->Vals (xs.eraseIdx i) (us.eraseIdx i)
 |_,_,_,.nil=>.nil
 |_,_,0,.cons _ t=>t
 |_,_,i+1,.cons r t=>.cons r (Vals.eraseIdx i t)
def len_erase {α:Type}:∀(l:List α) (i:Nat),(l.eraseIdx i).length<=l.length:=by grind
section
variable {X:Cx}{jd:List (A1×Obj)}{σ:St}{H:Hp}{s:A4}{l b:A1}{xs ys zs:List V}
def Inv.lset {jh its':List A2}(I:Inv X jd σ H s)(hH:H l=some (.lst xs))
   (e:s.heap.get? l=some { cls:=.type "list",data:=.seq jh.toArray n }) (hf:f jh.toArray=its'.toArray) (hv:Vals ys its') (hz:ys.length<=B5) :
   Inv X jd σ (upd H l (.lst ys)) { s with heap:=s.heap.update l (Y9 f),toks:=t' }:=by
 have q:=PySem.IsL.update e f;rw[hf] at q;refine I.write (x:=l) (e:=l) (by rw[hH];exact trivial) (.inl rfl) (λb' u hb hu=>(Heap.get?_update_other s.heap (Y9 f) (Ne.symm hb)).trans hu) ⟨_,q⟩ ?_;exact⟨hz,its',_,hv,q⟩
def Inv.lnew {jh:List A2}{t':Nat}(I:Inv X jd σ H s)(hv:Vals ys jh)(hz:ys.length<=B5) :
   Inv X jd σ (upd H s.heap.objs.size (.lst ys)) { s with heap:=s.heap.push { cls:=.type "list",data:=.seq jh.toArray },toks:=t' }:=
 I.laid (λ_ _ q=>C3 _ q) (B3 _) ⟨hz,jh,0,hv,K4 _ rfl⟩
theorem Inv.fresh (I:Inv X jd σ H s):H s.heap.objs.size=none:=I.hok.fresh (B3 _)
def Inv.lstM (I:Inv X jd σ H s)(hH:H l=some (.lst xs)):xs.length<=B5/\∃(jh:List A2) (n:Nat),Vals xs jh/\xs.length=jh.length/\s.heap.get? l=some { cls:=.type "list",data:=.seq jh.toArray n }:=by
 obtain⟨z,jh,n,r,e⟩:=I.hok l _ hH;exact⟨z,jh,n,r,r.length,e⟩
def Kd (h:n<=B5):ES n=false:=by
 unfold ES;exact jv 0x0
end
section
variable {X:Cx}
def Ke:V->List V->Hp->VK->Prop:=λx vs H Q=>∃l xs y,x=.ref l/\vs=[y]/\H l=some (.lst xs)/\xs.length<B5/\Q .non (upd H l (.lst (xs++[y])))
def Kf:MtM X "list.append" Ke:=by
 intro jd s σ H x vs v us Q I rx rv h;obtain⟨l,xs,y,rfl,rfl,hH,hz,q⟩:=h;cases rx;obtain⟨u,rfl,ru⟩:=rv.one;obtain⟨z,jh,n,r,hl,e⟩:=I.lstM hH;refine v4 F.slot_list_append ⟨_,e,rfl⟩ F.entry_list_append (F.args_list_append_2 _ _) (PySem.list_append l jh.toArray n u (by rw[G9];ext)) ⟨e,?_⟩;refine⟨.non,_,I.lset (its':=jh++[u]) hH e 0o0 (r.append (.cons ru .nil)) ?_,rfl,q⟩;rw[D3,Z9];ext
def Kg:V->List V->Hp->VK->Prop:=λx vs H Q=>∃l b xs zs,x=.ref l/\vs=[.ref b]/\H l=some (.lst xs)/\H b=some (.lst zs)/\xs.length+zs.length<=B5/\Q .non (upd H l (.lst (xs++zs)))
def NK:MtM X "list.extend" Kg:=by
 intro jd s σ H x vs v us Q I rx rv h;obtain⟨l,b,xs,zs,rfl,rfl,hH,hB,hz,q⟩:=h;cases rx;obtain⟨u,rfl,ru⟩:=rv.one;cases ru;obtain⟨z,jh,n,r,hl,e⟩:=I.lstM hH;obtain⟨z2,its2,n2,r2,hl2,e2⟩:=I.lstM hB;have hsz:jh.toArray.size+its2.toArray.size<=B5:=by rw[G9,G9];ext
 have hlong:¬(!jh.toArray.isEmpty&&ES (jh.toArray.size+its2.toArray.size))=true:=by
  rw[Kd hsz,Bool.and_false];exact d5
 refine v4 F.slot_list_extend ⟨_,e,rfl⟩ F.entry_list_extend (F.args_list_extend_2 _ _)
   (AutoSeq1.list_extend_list_list_0 l jh.toArray n b its2.toArray n2 hlong (by grind) 0x0) ⟨e,e2,?_⟩
 refine⟨.non,_,I.lset (its':=jh++its2) hH e 0o0 (r.append r2) ?_,rfl,q⟩
 grind
def Kh:V->List V->Hp->VK->Prop:=λx vs H Q=>∃l xs i k y,x=.ref l/\vs=[.int i]/\H l=some (.lst xs)/\-(2 ^ 63)<=i/\i<2 ^ 63/\seqIndex? i xs.length=some k/\xs[k]?=some y/\Q y (upd H l (.lst (xs.eraseIdx k)))
def NL:MtM X "list.pop" Kh:=by
 intro jd s σ H x vs v us Q I rx rv h;obtain⟨l,xs,i,k,y,rfl,rfl,hH,h1,h2,hk,hy,q⟩:=h;cases rx;obtain⟨u,rfl,ru⟩:=rv.one;obtain⟨t,rfl⟩:=ru;obtain⟨z,jh,n,r,hl,e⟩:=I.lstM hH;obtain⟨w,hw,rw'⟩:=r.get hy
 refine v4 F.slot_list_pop ⟨_,e,rfl⟩ F.entry_list_pop (F.args_list_pop_2 _ _)
   (MeetsSeq.list_pop_at l jh.toArray n i t k w (fitsIndex_both h1 h2) (by grind) (by grind) (by grind)) ⟨e,?_⟩
 refine⟨y,_,I.lset (its':=jh.eraseIdx k) hH e ?_ (r.eraseIdx k) ?_,rw',q⟩
 ·grind
 grind
def rCat:R2:=λx y H Q=>∃l b xs zs,x=.ref l/\y=.ref b/\H l=some (.lst xs)/\H b=some (.lst zs)/\xs.length+zs.length<=B5/\∀p,H p=none->Q (.ref p) (upd H p (.lst (xs++zs)))
def op_cat:OpR X (Y7 .Add) rCat:=by
 intro jd s σ H x y v u Q I rx ry h;obtain⟨l,b,xs,zs,rfl,rfl,hH,hB,hz,q⟩:=h;cases rx;cases ry;obtain⟨z,jh,n,r,hl,e⟩:=I.lstM hH;obtain⟨z2,its2,n2,r2,hl2,e2⟩:=I.lstM hB;refine PySem.P.add_list e e2 ?_ (by rw[G9,G9];ext);have ea:jh.toArray++its2.toArray=(jh++its2).toArray:=0o0
 rw[ea];exact⟨.ref _,_,I.lnew (t':=s.toks) (r.append r2) (by rw[D3];ext),rfl,q _ I.fresh⟩
end
end L2
namespace Att
open PySem PySem.W PySem.Calls PyProof.Rows
def NM:∀(ns:List Int) (vs:List A2),WellAll P h vs (ns.map WData.int)->IntsAre vs ns:=by
 intro ns
 induction ns with
 | nil =>
  intro vs w;rw[List.map_nil] at w;cases w;exact .nil
 | cons n ns ih =>
  intro vs w;rw[G7] at w;cases w with
  | cons a b =>
   cases a;exact .cons _ _ (ih _ b)
def NN {l:OpenLaw}(hn:l.most=some n)
   (hpre:l.row.toRowW.claim.pre args=true) (hwl:WellAll P h vals args) :
   ∃a vs ns,vals=[L5 a]/\args=[WData.list (ns.map WData.int)]/\h.get? a=some { cls:=.type "list",data:=.seq vs.toArray }/\IntsAre vs ns/\ns.length<=n:=by
 have hsh:WShape.hasAll [] args [.list .int]=true:=(pre_splitW hpre).1;have hc:l.pre.holds [] { args:=args }=true:=(pre_splitW hpre).2;obtain⟨d,r,rfl,h1,h2⟩:=hasAllW_cons hsh;obtain rfl:=hasAllW_nil h2;obtain⟨xs,rfl,h3⟩:=hasW_list h1;obtain⟨ns,rfl⟩:=items_int h3
 have hlen:ns.length<=n:=by
  unfold OpenLaw.pre at hc
  have h4:(WTm.not (.lt (.lit (.int (n:Int))) (.len (.arg 0)))).holds [] { args:=[.list (ns.map .int)] }=true:=by
   have h4:=(holds_andW hc).1;rw[hn] at h4;exact h4
  have h5:=condW_of h4 (w_not (w_lt w_lit (w_len_list (w_arg rfl))));rw[B0] at h5;refine Dy λq=>?_;have q':(n:Int)<((ns.length:Nat):Int):=0x0
  first
    |(rw[ju q'] at h5;exact absurd h5 0b0)
    |(simp at h5;omega)
 cases hwl with
 | cons w1 w2 =>
  cases w2;cases w1 with
  |list ho hall=>exact⟨_,_,ns,rfl,rfl,ho,NM ns _ hall,hlen⟩
def NO (l:OpenLaw)(args:List WData):l.row.toRowW.claim.post args (.bool true) args=true:=
 postW_of (r:=l.row.toRowW) (X:=(true == true))
   (show WShape.has [] (.bool true) .bool=true by first|rfl|decide|simp[WShape.has,WShape.arms,WShape.armsAll])
   (show(WTm.eq .res (.lit (.bool true))).value [] { args:=args,res:=some (.bool true),after:=args }=some (.bool (true == true)) from w_eq_bool (w_res rfl) w_lit) rfl
def attach_call {l:OpenLaw}
   (hn:l.most=some n) (hdf:d.params.defaults=[])
   (call:∀(w:C0) (s₀ s₁:A4) (mg mb:Str->Option A2) (fa:A1) (o:Obj) (pm cd doc:A2) (a:A1) (vs:List A2) (ns:List Int),
    Ground q loose [] XP w s₀ mg mb s₁.heap->YP w s₁.heap->
    s₁.heap.get? fa=some o->o.data=.func (docDef d.name d.params d.body d.scope pm cd doc)->s₁.heap.CodeRec cd d.name->mg d.name=some (.ref fa)->
    s₁.heap.get? a=some { cls:=.type "list",data:=.seq vs.toArray }->IntsAre vs ns->ns.length<=n->s₁.gens=#[]->
    W0 (A7 l.prog w) callerA (.call (.ref fa) ⟨[.ref a],[]⟩) (λr s'=>r=.ok (.ret (.bool true))/\OldK s₁.heap s'.heap/\s'.os=s₁.os/\AllBare s'.gens) s₁) :
   WalkO q loose XP YP l.row.toRowW d [] (λf vs=>PySem.call f vs):=by
 intro w s₀ s₁ mg mb G Y fa o pm cd doc dV kV ho hd hcd hD hmg hg args vals as hpre hlay hrd hwl hlo;obtain rfl:dV=.none:=Dflts.none hD hdf;obtain rfl:kV=.none:=Dflts.noKw hD;obtain⟨a,vs,ns,rfl,rfl,hobj,hints,hlen⟩:=NN hn hpre hwl;refine enter_call (codeAny_mono (call w s₀ s₁ mg mb fa o pm cd doc a vs ns G Y ho (fd_plain hd) hcd hmg hobj hints hlen hg) λr s' hq=>?_);obtain⟨rfl,h2,h3,h4⟩:=hq;exact⟨.inl ⟨.bool true,.bool true,[],rfl,λ_=>rfl,.bool true,NO l _,λ_=>⟨List.Pairwise.nil,λ_ hm=>(nomatch hm)⟩⟩,h2,h3,h4⟩
end Att
namespace L2
open PySem PySem.Spec PyProof.Rows
def NP (h:IntsAre vs ns):Vals (ns.map V.int) vs:=by
 induction h with
 |nil=>exact .nil
 |cons n t _ ih=>exact .cons ⟨t,rfl⟩ ih
def Only (H:Hp):Prop:=∀b,H b=none\/∃o xs,H b=some (.frz o (.lst xs))
def NQ {K:A6}
   (KX:K.In s₁.heap) (hns:s₁.heap.Ns i3 mg) (hb:s₁.heap.Ns builtinsNs mb) (hbb:∀x:Str,x≠"__name__"->mb x=K7 x) (hlim:s₁.heap.NoLimit) (hg:s₁.gens=#[])
   (ha:s₁.heap.get? a=some { cls:=.type "list",data:=.seq vs.toArray }) (hi:IntsAre vs ns) (hl:ns.length<=B5) (hr:Room k callerA)
   (F:∀base:B4,K.In base->base.Ns i3 mg->FnOk P w K mg base CX k fa fd [x] sp) (hbind:∀(s:A4) (u:A2),BindsTo s fd ⟨[u],[]⟩ [(x,u)])
   (hsp:∀H:Hp,Only H->SqL K H a (ns.map V.int)->sp [.ref a] H (λv _=>v=.bl true) λ_ _ _=>False)
   (hCX:∀H e s',CX [] H s₁ (λ_ _ _=>False) e s'->False) :
   W0 (A7 P w) callerA (.call (.ref fa) ⟨[.ref a],[]⟩) (λr s'=>r=.ok (.ret (.bool true))/\OldK s₁.heap s'.heap/\s'.os=s₁.os/\AllBare s'.gens) s₁:=by
 have rv:=NP hi;have lenV:=hi.length
 -- from an abstract heap in which nothing but the script may be tracked
 have core:∀H:Hp,Only H->SqL K H a (ns.map V.int)->HOk P w H s₁.heap->(∀b,H b≠none->b=a)->(H a≠none->K.lookup a=none)->
     W0 (A7 P w) callerA (.call (.ref fa) ⟨[.ref a],[]⟩) (λr s'=>r=.ok (.ret (.bool true))/\OldK s₁.heap s'.heap/\s'.os=s₁.os/\AllBare s'.gens) s₁:=by
   intro H hO hS hok hA hK;have base_of:∀{b:A1} {o:Obj},s₁.heap.get? b=some o->H b=none->(hidT s₁.heap H).get? b=some o:=λe n=>MV e n
   have noA:∀{b:A1} {o:Obj} {es:Array DictEntry} {ep:Nat},s₁.heap.get? b=some o->o.data=.dict es ep->H b=none:=λ{b o es ep} e d=>by
    cases q:H b with
    |none=>rfl
    | some u =>
     have e':b=a:=hA b (by rw[q];simp);subst e';rw[ha] at e;cases e;have d':Data.seq vs.toArray _=Data.dict es ep:=d;cases d'
   have nsK:∀{b:A1} {m:Str->Option A2},s₁.heap.Ns b m->(hidT s₁.heap H).Ns b m:=λ{b m} ⟨o,es,ep,e,d,r⟩=>⟨o,es,ep,base_of e (noA e d),d,r⟩
   have hKb:K.In (hidT s₁.heap H):=λb o e=>base_of (KX b o e) (by
    cases q:H b with
    |none=>rfl
    | some u =>
     have e':b=a:=hA b (by rw[q];simp);subst e'
     rw[hK (by rw[q];simp)] at e;cases e)
   have hM:Mod K mg (hidT s₁.heap H):=⟨hKb,nsK hns,⟨mb,nsK hb,hbb⟩,let ⟨mc,h1,h2⟩:=hlim;⟨mc,nsK h1,h2⟩⟩;have e0:Env0 P w K mg (hidT s₁.heap H) callerA [] s₁ H:=⟨rfl,hM,λb o e=>MW e,BA (MU _ _),trivial,λb hb=>absurd (show b∈([]:List A1) from hb) 0o0,hok,.of_eq hg,(hO P8).imp id λ⟨o,xs,e⟩=>⟨o,_,e⟩⟩;refine codeAny_mono ((F _ hKb (nsK hns)).run callerA [] s₁ H ⟨[.ref a],[]⟩ [.ref a] [.ref a] _ _ hr e0 (hbind s₁ (.ref a)) (.cons rfl .nil) (hsp H hO hS)) λr s' h=>?_;cases r with
   |error e=>exact(hCX H e s' h).elim
   | ok fl =>
    cases fl with
    |next=>exact y4 h
    |brk=>exact y4 h
    |cont=>exact y4 h
    | ret u =>
     obtain⟨v,H',os,bare,un,hok',r',q⟩:=h;have q':v=.bl true:=q;subst q';obtain rfl:u=Value.bool true:=r';refine⟨rfl,OldK.of_keep λb o e=>?_,os,bare⟩;cases q:H b with
     |none=>exact un.keep b o e q (by intro z;exact absurd (show b∈([]:List A1) from z) 0o0) 0o0
     | some u =>
      rcases hO b with z|⟨ob,xs,z⟩
      ·rw[q] at z;cases z
      ·have z2:=un.frzs b ob _ z;obtain⟨e1,_⟩:=hok b _ z;obtain⟨e2,_⟩:=hok' b _ z2;rw[e] at e1;cases e1;exact e2
 cases hk:K.lookup a with
 | some o =>
  -- the script is one of the module's own objects
  have e:=KX a o hk;rw[ha] at e;cases e;refine core (λ_=>none) (λ_=>.inl rfl) (.inr ⟨_,vs.toArray,_,hk,rfl,rfl,rfl,by rw[G9,lenV];exact hl,by simpa using rv⟩) (λb u z=>by have z':(none:Option HO)=some u:=z;cases z') (λb z=>absurd rfl z) λz=>absurd rfl z
 | none =>
  refine core (λb=>if b=a then some (.frz { cls:=.type "list",data:=.seq vs.toArray } (.lst (ns.map V.int))) else none) (λb=>?_) (.inl (.inr ⟨{ cls:=.type "list",data:=.seq vs.toArray },jw rfl⟩)) (λb u z=>?_) (λb z=>?_) λ_=>hk
  ·by_cases hb:b=a
   ·exact .inr ⟨_,_,jw hb⟩
   ·exact .inl (jy hb)
  ·by_cases hb:b=a
   ·have z':=(jw hb).symm.trans z;cases z';subst hb;exact⟨ha,by rw[B0];exact hl,vs,_,rv,ha⟩
   ·have z':=(jy hb).symm.trans z;cases z'
  ·by_cases hb:b=a
   ·exact hb
   ·exact absurd (jy hb) z
abbrev KOf {K:A6}{h:B4}(_:K.In h):A6:=K
def NR {l:PySem.W.OpenLaw}{K:Params->A6}{CX:C0->CXT}{sp:C0->Sp}
   (hn:l.most=some n) (hn2:n<=B5) (hdf:d.params.defaults=[]) (hr:Room k callerA)
   (hY:∀(w:C0) (h:B4),YP w h->(K w.params).In h)
   (F:∀(w:C0) (mg:Str->Option A2) (fa:A1) (h:B4),(K w.params).In h->h.Ns i3 mg->mg d.name=some (.ref fa)->
     ∃ fd : FuncData, (∀ (s : A4) (u : A2), BindsTo s fd ⟨[u], []⟩ [(x, u)]) /\
       ∀base:B4,(K w.params).In base->base.Ns i3 mg->FnOk l.prog w (K w.params) mg base (CX w) k fa fd [x] (sp w))
   (hsp:∀(w:C0) (H:Hp) (a:A1) (ns:List Int),ns.length<=n->Only H->SqL (K w.params) H a (ns.map V.int)->sp w [.ref a] H (λv _=>v=.bl true) λ_ _ _=>False)
   (hCX:∀(w:C0) (H:Hp) (s:A4) (e:A2) (s':A4),CX w [] H s (λ_ _ _=>False) e s'->False) :
   PySem.W.WalkO q loose XP YP l.row.toRowW d [] (λf vs=>PySem.call f vs):=by
 refine Att.attach_call hn hdf λw s₀ s₁ mg mb fa o pm cd doc a vs ns G Y ho hd hcd hmg hobj hints hlen hg=>?_;have KX:=hY w _ Y;obtain⟨fd,hb,hF⟩:=F w mg fa _ KX G.T.g hmg;exact NQ KX G.T.g G.T.b G.T.builtins G.T.nolimit hg hobj hints (E6 hlen hn2) hr hF hb (λH hO hS=>hsp w H a ns hlen hO hS) λH e s'=>hCX w H s₁ e s'
def Ab (s:Stmt):Arguments:=match s with
 |.FunctionDef _ a _ _ _ _ _ _ _ _=>a
 |_=>{ posonlyargs:=[],args:=[],vararg:=none,kwonlyargs:=[],kw_defaults:=[],kwarg:=none,defaults:=[] }
def Z0 (s:Stmt):List Stmt:=match s with
 |.FunctionDef _ _ b _ _ _ _ _ _ _=>b
 |_=>[]
def K6 (s:Stmt):F9:=match s with
 |.FunctionDef _ _ _ _ _ _ sc _ _ _=>sc
 |_=>{ kind:=.function,names:=[],isGenerator:=false,isCoroutine:=false }
abbrev CX0:CXT:=λ_ _ _ _ _ _=>False
abbrev E0:XK:=λ_ _ _=>False
def pass0:GD CX0 X E0:=λ_ _ _ _ _ _ _ h=>h.elim
structure Fun (K:A6)(x qual:Str)(st:Stmt)(f:A1)(fd:FuncData):Prop where
 ex:∃(oc:A2) (od:Option A1) (kV doc pm:A2) (an:Option A1) (jp ct:A2) (osl:Array (Option A2)),
  fd=k8 x qual (Ab st) (Z0 st) (K6 st) .none kV doc pm an jp ct/\K.lookup f=some ⟨oc,od,.func fd,osl⟩/\EA K jp qual=true
 kp:Dl K (.ref f)=true
section
variable {P:D4}{w:C0}{K:A6}{mg:Str->Option A2}{base:B4}
def Fun.ok {st:Stmt}(F:Fun K x qual st f fd)(S:Aa N ps (K6 st))(len:∀vs H Q E,sp vs H Q E->vs.length=ps.length)
   (hbody:∀(jp:A2) (A:D9) (outer:List Env) (s:A4) (H:Hp) (vs:List V) (Q:VK) (E:XK),Room k (A.deeper (envOfC qual (K6 st) s.heap.objs.size f jp))->sp vs H Q E->
     ∃t,PSs (cxOf CX0 P w K mg base N qual (K6 st) f jp A outer s H E).nox (Z0 st) t/\t { nx:=λ_ H'=>Q .non H',rt:=Q } (start N vs) H):FnOk P w K mg base CX0 (k+1) f fd ps sp:=by
 obtain⟨oc,od,kV,doc,pm,an,jp,ct,osl,rfl,lk,hcd⟩:=F.ex;refine fn_of lk hcd S len λA outer s H vs Q E hr hsp=>?_;obtain⟨t,h,q⟩:=hbody jp A outer s H vs Q E hr hsp;exact⟨t,h.nox,q⟩
def Fun.binds {st:Stmt}{f:A1}{fd:FuncData}{ps:List Str}(F:Fun K x qual st f fd)
   (h:∀(kV doc pm:A2) (an:Option A1) (jp ct:A2) (us:List A2),us.length=ps.length->bindArgs (k8 x qual (Ab st) (Z0 st) (K6 st) .none kV doc pm an jp ct) ⟨us,[]⟩=pure (ps.zip us)):CD K fd ps []:=by
 obtain⟨oc,od,kV,doc,pm,an,jp,ct,osl,rfl,lk,hcd⟩:=F.ex;exact .all (h kV doc pm an jp ct)
def fun_mk {x qual:Str}{st:Stmt}{f:A1}{oc:A2}{od an:Option A1}{osl:Array (Option A2)}{kV doc pm jp ct:A2}(l:K.lookup f=some ⟨oc,od,.func (k8 x qual (Ab st) (Z0 st) (K6 st) .none kV doc pm an jp ct),osl⟩)
   (c:EA K jp qual=true) (k:Dl K (.ref f)=true):Fun K x qual st f (k8 x qual (Ab st) (Z0 st) (K6 st) .none kV doc pm an jp ct):=⟨⟨oc,od,kV,doc,pm,an,jp,ct,osl,rfl,l,c⟩,k⟩
end
def BI {A:D9}{k:Nat}(hr:Room k A):A.units+1<cLine:=At (Nat.add_le_add_left (by decide:1<=64) _) hr.units
section
variable {X:Cx}
def pv (i:Nat){x:Str}{pos:Pos}(hN:X.N[i]?=some x:=by rfl)(hv:Vis X.env.scope x:=by first|exact Or.inl rfl|exact Or.inr (Or.inl rfl)|exact Or.inr (Or.inr rfl))(hd:(x == ("__debug__":Str))=false:=by decide)
   (hcd:(x == ("__classdict__":Str))=false:=by decide):PE X (.Name x pos) (tVar i):=JB hN hv hd hcd
end
def iteF {A B:Prop}(h:B):if false=true then A else B:=by grind
def iteT {A B:Prop}(h:A):if true=true then A else B:=by grind
def ite2 {c A B:Prop}[Decidable c](h1:c->A)(h2:¬c->B):if c then A else B:=by grind
def Same (H H':Hp):Prop:=∀b o,H b=some o->H' b=some o
def Same.refl (H:Hp):Same H H:=λ_ _ h=>h
def Ki {prog:D4}{w:C0}{A:D9}{R:Result->A4->Prop}{s:A4}{jm target iter:Expr}{jn:List Expr}{scope:F9}{pos:Pos}{it jo:A2}{env:Env}(I:Nat->A4->Prop)
   (turn:∀n s,I n s->A5 (A7 prog w) A (pyNext it) (fun r s₁=>match r with
    |none=>R (.ok .next) s₁
    |some v=>A5 (A7 prog w) A (AM target it v) (λ_ s₁'=>A5 (A7 prog w) A (assign target env v) (λ_ s₂=>
        A5 (A7 prog w) A (forIn jn true fun c r=>if r=true then do let ok ← isTrue c env (eval c env);pure (Be ok) else pure (Be r)) (fun ok s₃=>
         if ok=true then A5 (A7 prog w) A (eval jm env) (λx s₄=>
          A5 (A7 prog w) A (call (.builtin "list.append") [jo,x]) (λ_ s₅=>∃m,m<n/\I m s₅) (λ_ _=>False) s₄) (λ_ _=>False) s₃
         else ∃m,m<n/\I m s₃) (λ_ _=>False) s₂) (λ_ _=>False) s₁') (λ_ _=>False) s₁) (λ_ _=>False) s)
   (n:Nat) (h:I n s) :
   W0 (A7 prog w) A (.compLoop (.ListComp jm [⟨target,iter,jn,0⟩] scope pos) 0 it jo env) R s:=by
 refine codeAny_loop rfl I (λn s hI=>?_) n h;show A5 _ A ((compTurn (.ListComp jm [⟨target,iter,jn,0⟩] scope pos) 0 it jo env).onRaise (λx=>do noteFrame x env;theTreesLotGoes x)) _ _ s;refine wpAny_noted ?_;rw[compTurn_list];refine A3 (p5 (A3 (K8 (turn n s hI) (λr s₁ h₁=>?_) λ_ _ h'=>h'.elim)));cases r with
 |none=>exact A9 h₁
 | some v =>
  refine A3 (K8 h₁ (λ_ s₁' h₁'=>?_) λ_ _ h'=>h'.elim);refine A3 (K8 h₁' (λ_ s₂ h₂=>A3 (K8 h₂ (λok s₃ h₃=>?_) λ_ _ h'=>h'.elim)) λ_ _ h'=>h'.elim);cases ok with
  |false=>exact A9 ⟨rfl,h₃⟩
  | true =>
   exact A3 (A3 (K8 h₃ (λx s₄ h₄=>A3 (K8 h₄ (λ_ s₅ h₅=>A9 (A9 ⟨rfl,h₅⟩)) λ_ _ h'=>h'.elim)) λ_ _ h'=>h'.elim))
def E3 (X:Cx)(scope:F9)(cl:List (Str×A1))(N:List Str)(fp:List A1)(C:A1)(s:A4)(H:Hp):Cx where
 prog:=X.prog
 w:=X.w
 K:=X.K
 mg:=X.mg
 base:=X.base
 A:=X.A
 N:=N
 s₀:=s
 H₀:=H
 env:=compEnvC scope cl C X.env
 outer:=X.stack
 stack:=X.stack
 ex:=fp
 fn:=λ_=>false
 calm:=X.calm
 pn:=X.pn
 xe:=λ_ _=>False
structure l8 (X:Cx)(scope:F9)(cl:List (Str×A1))(N:List Str)(cs:List (Option Nat)):Prop where
 clos:closureFor scope X.env=pure cl
 kind:scope.kind=.function
 nocell:∀y∈scope.names,y.2≠.cell
 names:∀y∈scope.names,y.2=.local->scope.names.lookup y.1=some .local
 sub:∀x c,cl.lookup x=some c->X.env.cells.lookup x=some c
 has:∀x,((Z7 scope X.env).names.lookup x=some .cell\/(Z7 scope X.env).names.lookup x=some .free)->∃c,cl.lookup x=some c
 len:cs.length=N.length
 cap:∀(k j:Nat) (x:Str),cs[k]?=some (some j)->N[k]?=some x->X.N[j]?=some x/\Vis X.env.scope x/\X.env.kindOf x≠some .local/\(∃c,cl.lookup x=some c)/\((Z7 scope X.env).names.lookup x=some .cell\/(Z7 scope X.env).names.lookup x=some .free)
def CG:List (Str×A1)->List (Str×A1)->Prop
 |[],_=>True
 |y::r,cells=>cells.lookup y.1=some y.2/\CG r cells
def CG.get:∀{cl cells:List (Str×A1)},CG cl cells->∀x c,cl.lookup x=some c->cells.lookup x=some c:=by intro a;induction a <;> intros <;> grind [CG]
def GK {X:Cx}{scope:F9}{cl:List (Str×A1)}{N:List Str}{cs:List (Option Nat)}(clos:closureFor scope X.env=pure cl)(kind:scope.kind=.function)(nocell:(scope.names.all λy=>!(y.2 == .cell))=true)
   (names:(scope.names.all λy=>!(y.2 == .local)||scope.names.lookup y.1 == some .local)=true) (sub:CG cl X.env.cells)
   (has:((Z7 scope X.env).names.all λy=>!(y.2 == .cell||y.2 == .free)||(cl.lookup y.1).isSome)=true) (len:cs.length=N.length)
   (cap:((cs.zip N).all λy=>match y.1 with|none=>true|some j=>X.N[j]? == some y.2&&(X.env.scope.names.lookup y.2 == some .cell||X.env.scope.names.lookup y.2 == some .free)&&(cl.lookup y.2).isSome &&
     ((Z7 scope X.env).names.lookup y.2 == some .cell||(Z7 scope X.env).names.lookup y.2 == some .free))=true):l8 X scope cl N cs:=by
 refine⟨clos,kind,λy hy=>?_,λy hy e=>?_,sub.get,λx hx=>?_,len,λk j x hk hN=>?_⟩
 ·have:=B7.mp nocell y hy;intro z;rw[z] at this;cases this
 ·have:=B7.mp names y hy;rw[e] at this
  simpa using this
 ·rcases hx with hx|hx
  ·have:=B7.mp has _ (j8 hx);exact Bc.mp (by simpa using this)
  ·have:=B7.mp has _ (j8 hx);exact Bc.mp (by simpa using this)
 ·have hz:(cs.zip N)[k]?=some (some j,x):=by rw[Gc];exact⟨hk,hN⟩
  have:=B7.mp cap _ (G4 hz);simp only[M2,Bool.or_eq_true,beq_iff_eq] at this;obtain⟨⟨⟨h1,h2⟩,h3⟩,h4⟩:=this;refine⟨h1,?_,?_,Bc.mp h3,h4⟩
  ·rcases h2 with h2|h2
   ·exact .inr (.inl h2)
   ·exact .inr (.inr h2)
  ·intro z;have z':X.env.scope.names.lookup x=some .local:=z;rw[z'] at h2;rcases h2 with h2|h2 <;> cases h2
def Ac (cs:List (Option Nat))(σ:St):St:=cs.map λo=>o.bind λj=>(σ[j]?).bind id
def PIf (X:Cx)(jn:List Expr)(t:TT):Prop:=
 ∀ (jd : List (A1 × Obj)) (s : A4) (σ : St) (H : Hp) (Q : Bool -> Hp -> Prop), Inv X jd σ H s -> t σ H Q ->
   A5 (A7 X.prog X.w) X.A (forIn jn true λc r=>if r=true then do let ok ← isTrue c X.env (eval c X.env);pure (Be ok) else pure (Be r)) (TP X jd σ Q) X.xe s
def tTru:TT:=λ_ H Q=>Q true H
def NT {X:Cx}:PIf X [] tTru:=λjd s σ H Q I h=>wpAny_tests_nil ⟨H,I,h⟩
def NU {X:Cx}{c:Expr}{t:TT}(h:PT X c t):PIf X [c] t:=λjd s σ H Q I hq=>wpAny_tests_one (h jd s σ H Q I hq)
def CompW (J:It)(g:TG)(tt:TT)(te:TE)(Q:VK)(D:A1)(σc:St)(H1:Hp):Prop:=∃W:Nat->Nat->St->Hp->Prop,(∃m,W 0 m σc H1)/\
 ∀i m σ' H',W i m σ' H'->(J.stop i H'/\Q (.ref D) H')\/(J.go i H'/\∀x H2,J.yld i H' x H2->g x σ' H2 fun σ3 H3=>tt σ3 H3 fun b H4=>
    if b=true then te σ3 H4 λv H5=>∃ys,H5 D=some (.lst ys)/\ys.length<B5/\∃m',m'<m/\W (i+1) m' σ3 (upd H5 D (.lst (ys++[v])))
    else ∃m',m'<m/\W (i+1) m' σ3 H4)
def tComp (cs:List (Option Nat))(wi:TI)(g:TG)(tt:TT)(te:TE):TE:=λσ H Q=>wi σ H λJ H1=>∀D,H1 D=none->CompW J g tt te Q D (Ac cs σ) (upd H1 D (.lst []))
def NV {X:Cx}{scope:F9}{cl:List (Str×A1)}{N:List Str}{cs:List (Option Nat)}(S:l8 X scope cl N cs){jd:List (A1×Obj)}{σ:St}{H:Hp}{s:A4}{fp:List A1}{h₁:B4}{tk:Nat}
   (I:Inv X jd σ H s) (f2:∀b∈fp,FpOk X jd H b) (ho:∀b∈fp,∃o,s.heap.get? b=some o)
   (old:∀b o,s.heap.get? b=some o->h₁.get? b=some o) (hns:h₁.Ns (s.heap.objs.size+1) (λx=>([]:List (Str×A2)).reverse.lookup x))
   (hD:h₁.get? s.heap.objs.size=some { cls:=.type "list",data:=.seq ([]:List A2).toArray }) :
   Inv (E3 X scope cl N fp (s.heap.objs.size+1) s H) jd (Ac cs σ) (upd H s.heap.objs.size (.lst [])) { s with heap:=h₁,toks:=tk }:=by
 have lt:∀b o,s.heap.get? b=some o->b<s.heap.objs.size:=λb o e=>C7 e;have neC:∀b o,s.heap.get? b=some o->b≠s.heap.objs.size+1:=λb o e=>F3 (AY (lt b o e));have neD:∀b o,s.heap.get? b=some o->b≠s.heap.objs.size:=λb o e=>F3 (lt b o e);have nstk:∀b,b≠X.env.locals->b∉X.fs->b∉frs X.stack:=λb h1 h2 hb=>(B9.mp (I.stkSub b hb)).elim h1 h2
 have cellO:∀x c,cl.lookup x=some c->∃v o,s.heap.get? c=some o/\s.heap.IsCell c v:=λx c e=>by
  obtain⟨v,q⟩:=I.cell x c (S.sub x c e);obtain⟨o,h1,_⟩:=id q;exact⟨v,o,h1,q⟩
 refine⟨⟨I.ok.mod,S.kind,I.ok.glob,I.ok.blt,W5 _,λx y c h1 h2=>I.ok.inj x y c (S.sub x c h1) (S.sub y c h2),λx hx=>S.has x hx,λx c hx=>(by cases hx),I.ok.hd,I.ok.frames,.inl rfl,λb hb=>?_,I.bs,E6 I.ok.bsz I.sz,λb o e hb=>?_,λb hb=>?_,I.stack,I.stkFree,I.nos⟩,
  rfl,I.bare,Un.laid old (B3 _) I.fresh I.bigS,⟨_,hns,λi x v e1 e2 e3=>?_⟩,λx c e=>?_,?_,λx c e=>?_,λp hp=>?_,I.hok.laid old (B3 _) ⟨C8 _,[],0,.nil,hD⟩,?_⟩
 ·obtain⟨o,e⟩:=ho b hb;exact⟨neC b o e,λx c ec=>(f2 b hb).2.2.2.2.1 x c (S.sub x c ec)⟩
 ·rcases(f2 b hb).2.2.2.1 with z|z
  ·exact I.ok.noex b o e z
  ·exact absurd (M1 (C7 e) (E6 I.ok.bsz z)) (q8 _)
 ·exact nstk b (f2 b hb).2.1 (f2 b hb).2.2.1
 ·have e2':(cs.map λo=>o.bind λj=>(σ[j]?).bind id)[i]?=some (some v):=e2;rw[L4] at e2';cases ec:cs[i]? with
  |none=>rw[ec] at e2';cases e2'
  | some o =>
   rw[ec] at e2';cases o with
   |none=>cases e2'
   | some j =>
    have e2'':(σ[j]?).bind id=some v:=by simpa using e2'
    cases es:σ[j]? with
    |none=>rw[es] at e2'';cases e2''
    | some ov =>
     rw[es] at e2'';have e4:ov=some v:=by simpa using e2''
     subst e4;obtain⟨hN,hv,hnl,⟨c,hc⟩,hk⟩:=S.cap i j x ec e1;obtain⟨m,hn,hl⟩:=I.loc;obtain⟨u,r,l⟩:=hl j x v hN es hv;refine⟨u,r,?_⟩;rcases l with⟨hk',_⟩|⟨_,c',hc',z⟩
     ·grind
     ·have ecc:c'=c:=by
       have:=S.sub x c hc;rw[hc'] at this;exact E7 this
      subst ecc;obtain⟨o,h1,h2⟩:=z;exact .inr ⟨hk,c',hc,⟨o,old _ o h1,h2⟩⟩
 ·obtain⟨v,o,h1,o',h2,h3⟩:=cellO x c e;exact⟨v,o',old _ o' h2,h3⟩
 ·show upd H s.heap.objs.size (.lst []) (s.heap.objs.size+1)=none;rw[B6 (Nat.succ_ne_self _)];exact I.hok.fresh (W5 _)
 ·obtain⟨v,o,h1,_⟩:=cellO x c e;rw[B6 (neD c o h1)];exact I.freeC x c (S.sub x c e)
 ·obtain⟨e,n,ne,nf,d⟩:=I.pin p hp;exact⟨old _ _ e,by rw[B6 (neD _ _ e)];exact n,neC _ _ e,nstk _ ne nf,d⟩
 ·show(cs.map _).length=N.length;rw[B0];exact S.len
def Inv.uncomp
   (I:Inv X jd σ H s) (f2:∀b∈fp,FpOk X jd H b)
   (J:Inv (E3 X scope cl N fp (s.heap.objs.size+1) s H) jd σ' H' s') (hs:∀b,b≠s.heap.objs.size+1->h'.get? b=s'.heap.get? b) :
   Inv X jd σ H' { s' with heap:=h' }:=by
 obtain⟨hh,g,d,t,os'⟩:=s';obtain rfl:os'=s.os:=J.os;have U:Un (frs X.stack) fp H H' s.heap hh:=J.base;have old:∀b o,s.heap.get? b=some o->b≠s.heap.objs.size+1:=λb o e=>F3 (AY (C7 e));have hs':∀b,b≠s.heap.objs.size+1->h'.get? b=hh.get? b:=hs
 have trC:∀b u,H' b=some u->b≠s.heap.objs.size+1:=λb u e z=>by
  have q:H' (s.heap.objs.size+1)=none:=J.free;rw[z,q] at e;cases e
 show Inv X jd σ H' { s with heap:=h',gens:=g,drawn:=d,toks:=t };refine I.call (h':=h') (g':=g) (d':=d) (t':=t) (ch:=fp) ⟨λb o e n hb hx=>?_,λb o e n hb hx=>?_,U.free,λb o e hx=>?_,U.tups,U.frzs,U.tbls,U.sys⟩ (λb u e=>?_) J.bare λb hb=>?_
 ·rw[hs' b (old b o e)];exact U.keep b o e n hb hx
 ·rw[hs' b (old b o e)];exact U.slot b o e n hb hx
 ·rw[hs' b (old b o e)];exact U.there b o e hx
 ·refine(J.hok b u e).stay (λc v hc q=>?_) (λ_ q=>q) λ_ _ q=>q
  have ne:c≠s.heap.objs.size+1:=by
   rcases hc with z|z
   ·rw[z];exact trC b u e
   ·exact trC c _ z
  rw[hs' c ne];exact q
 ·exact⟨(f2 b hb).2.2.2.1,(f2 b hb).2.1,(f2 b hb).2.2.2.2.1,(f2 b hb).2.2.2.2.2⟩
def GL {K:A6}{W:Nat->Nat->St->Hp->Prop}{s5 s7:A4}(T:Turn P w K tg J fp it tn)(st5:tn (i+1) s5.heap)(I7:Inv Y (jd++CB fp s5.heap) σ7 H7 s7)(n7:∃m',m'<n/\W (i+1) m' σ7 H7):∃m,m<n/\∃i σ' H',Inv Y jd σ' H' s7/\tn i s7.heap/\(∀b∈fp,H' b=none)/\W i m σ' H':=by
 obtain⟨m',hm,w7⟩:=n7;have pn:∀b∈fp,∀o,s5.heap.get? b=some o->_:=λb hb o e=>I7.pin (b,o) (w9 _ (w9 _ (Gy hb e)));refine⟨m',hm,i+1,σ7,H7,I7.unpinned,T.keep _ _ _ st5 λb hb o e=>(pn b hb o e).1,λb hb=>?_,w7⟩;obtain⟨o,e,d⟩:=T.obj _ _ st5 b hb;exact(pn b hb o e).2.1
def GM {Y:Cx}{jd:List (A1×Obj)}{tg jm:Expr}{jn:List Expr}{g:TG}{tt:TT}{te:TE}{J:It}{fp:List A1}{it D:A1}{tn:Nat->B4->Prop}{W:Nat->Nat->St->Hp->Prop}{N:St->Hp->Prop}{Rn:A4->Prop}(T:Turn Y.prog Y.w Y.K tg J fp it tn)(hc:Y.calm=true)(stat:∀{H':Hp},(∀b∈fp,H' b=none)->∀b∈fp,FpOk Y jd H' b)(hg:PG Y tg g)(hf:PIf Y jn tt)(he:PE Y jm te)(fin:∀s σ H,Inv Y jd σ H s->N σ H->Rn s)
   (turn:∀i m σ' H',W i m σ' H'->(J.stop i H'/\N σ' H')\/(J.go i H'/\∀x H2,J.yld i H' x H2->g x σ' H2 λσ3 H3=>tt σ3 H3 λb H4=>
    if b=true then te σ3 H4 λv H5=>∃ys,H5 D=some (.lst ys)/\ys.length<B5/\∃m',m'<m/\W (i+1) m' σ3 (upd H5 D (.lst (ys++[v])))
    else ∃m',m'<m/\W (i+1) m' σ3 H4)) (n:Nat) (s:A4) (hI:∃i σ' H',Inv Y jd σ' H' s/\tn i s.heap/\(∀b∈fp,H' b=none)/\W i n σ' H') :
   A5 (A7 Y.prog Y.w) Y.A (pyNext (.ref it)) (λr s₁=>match r with
    |none=>Rn s₁
    |some v=>A5 (A7 Y.prog Y.w) Y.A (AM tg (.ref it) v) (λ_ s₁'=>A5 (A7 Y.prog Y.w) Y.A (assign tg Y.env v) (λ_ s₂=>
        A5 (A7 Y.prog Y.w) Y.A (forIn jn true fun c r=>if r=true then do let ok ← isTrue c Y.env (eval c Y.env);pure (Be ok) else pure (Be r)) (fun ok s₃=>
         if ok=true then A5 (A7 Y.prog Y.w) Y.A (eval jm Y.env) (λx s₄=>
          A5 (A7 Y.prog Y.w) Y.A (call (.builtin "list.append") [.ref D,x]) (λ_ s₅=>∃m,m<n/\∃i σ' H',Inv Y jd σ' H' s₅/\tn i s₅.heap/\(∀b∈fp,H' b=none)/\W i m σ' H') Y.xe s₄) Y.xe s₃
         else ∃m,m<n/\∃i σ' H',Inv Y jd σ' H' s₃/\tn i s₃.heap/\(∀b∈fp,H' b=none)/\W i m σ' H') Y.xe s₂) Y.xe s₁') Y.xe s₁) Y.xe s:=by
 obtain⟨i,σ3,H3,I3,st3,fr3,w3⟩:=hI;rcases turn i n σ3 H3 w3 with⟨stop,qn⟩|⟨go,step⟩
 ·refine thn (T.done Y rfl rfl rfl hc i jd s σ3 H3 Y.xe I3 (stat fr3) st3 stop) λr s4 ⟨hr,I4⟩=>?_;subst hr;exact fin s4 σ3 H3 I4 qn
 ·refine thn (T.item Y rfl rfl rfl hc i jd s σ3 H3 Y.xe I3 (stat fr3) st3 go) λr s4 ⟨u,hr,h4⟩=>?_;subst hr;refine thn h4 λ_ s5 ⟨x,H5,I5,r5,y5,st5,fr5⟩=>?_;refine thn (hg _ s5 σ3 H5 x u _ (I5.pinned (stat fr5) (T.obj _ _ st5)) r5 (step x H5 y5)) λ_ s6 ⟨σ6,H6,I6,q6⟩=>?_;refine thn (hf _ s6 σ6 H6 _ I6 q6) λok s7 ⟨H7,I7,q7⟩=>?_;cases ok with
  |false=>exact GL T st5 I7 q7
  | true =>
   refine thn (he _ s7 σ6 H7 _ I7 q7) λy s8 ⟨v8,H8,I8,r8,ys,e8,z8,n8⟩=>?_;have ma:=Kf (X:=Y) _ s8 σ6 H8 (.ref D) [v8] (.ref D) [y] (λv H9=>∃m',m'<n/\W (i+1) m' σ6 H9) I8 rfl (.cons r8 .nil) ⟨_,ys,v8,rfl,rfl,e8,z8,n8⟩;exact thn ma λ_ s9 ⟨v9,H9,I9,_,q9⟩=>GL T st5 I9 q9
def GN {X:Cx}{scope:F9}{cl:List (Str×A1)}{N:List Str}{cs:List (Option Nat)}{jm tg iter:Expr}{jn:List Expr}{gs:List Comprehension}{pos p0:Pos}{wi:TI}{use:Option (A2->Sem Unit)}{Qf:A2->A4->Prop}{QQ:It->A1->St->Hp->Prop}(S:l8 X scope cl N cs)(hc:X.calm=true)(hi:PI X tg iter wi)
   (hs:∀x,M4 iter X.env x=pure x) {jd:List (A1×Obj)} {s:A4} {σ:St} {H:Hp} (I:Inv X jd σ H s) (h:wi σ H λJ H1=>∀D,H1 D=none->QQ J D (Ac cs σ) (upd H1 D (.lst [])))
   (loop:∀(fp:List A1) (it:A1) (tn:Nat->B4->Prop) (J:It) (s2:A4) (H2:Hp) (s₃:A4),Turn X.prog X.w X.K tg J fp it tn->(∀{H':Hp},(∀b∈fp,H' b=none)->∀b∈fp,FpOk (E3 X scope cl N fp (s2.heap.objs.size+1) s2 H2) jd H' b)->Inv X jd σ H2 s2->(∀b∈fp,FpOk X jd H2 b)->QQ J s2.heap.objs.size (Ac cs σ) (upd H2 s2.heap.objs.size (.lst []))->
     Inv (E3 X scope cl N fp (s2.heap.objs.size+1) s2 H2) jd (Ac cs σ) (upd H2 s2.heap.objs.size (.lst [])) s₃->tn 0 s₃.heap->(∀b∈fp,upd H2 s2.heap.objs.size (.lst []) b=none)->
     W0 (A7 X.prog X.w) X.A (.compLoop (.ListComp jm (⟨tg,iter,jn,0⟩::gs) scope pos) 0 (.ref it) (.ref s2.heap.objs.size) (compEnvC scope cl (s2.heap.objs.size+1) X.env)) (compPost (A7 X.prog X.w) X.A X.xe use Qf (.ref s2.heap.objs.size) (s2.heap.objs.size+1)) s₃) :
   A5 (A7 X.prog X.w) X.A (comprehension (.ListComp jm (⟨tg,iter,jn,0⟩::gs) scope pos) scope X.env p0 (newList []) false (eval iter X.env) use) Qf X.xe s:=by
 refine wpAny_comprehension_free rfl hs S.clos S.kind S.names (thn (hi jd s σ H _ I h) λv s1 h1=>thn h1 λitv s2 h2=>?_);obtain⟨it,fp,tn,J,H2,rfl,I2,T,st2,f2,q⟩:=h2
 have ho:∀b∈fp,∃o,s2.heap.get? b=some o:=λb hb=>by
  obtain⟨o,e,_⟩:=T.obj 0 _ st2 b hb;exact⟨o,e⟩
 refine Z6 (wpAny_newFunctionEnv S.nocell (by intro y hy;simp at hy) (λh₁ hns₁ hsb₁=>?_) S.kind);dsimp only at hns₁ hsb₁ ⊢;have hC:(s2.heap.push { cls:=.type "list",dict:=none,data:=.seq ([]:List A2).toArray }).objs.size=s2.heap.objs.size+1:=by rw[As]
 generalize hH2:s2.heap.push { cls:=.type "list",dict:=none,data:=.seq ([]:List A2).toArray }=hp2 at hns₁ hsb₁ hC ⊢;have lt:∀{b o},s2.heap.get? b=some o->b<s2.heap.objs.size+1:=λe=>AY (C7 e);have old:∀b o,s2.heap.get? b=some o->h₁.get? b=some o:=λb o e=>hsb₁.extBut b o (by rw[hC];exact F3 (lt e)) (C3 _ (hH2▸C3 _ e));have hD:h₁.get? s2.heap.objs.size=some { cls:=.type "list",data:=.seq ([]:List A2).toArray }:=hsb₁.extBut _ _ (by rw[hC];exact F3 (Nat.lt_succ_self _)) (C3 _ (hH2▸K4 _ rfl));rw[hC] at hns₁ ⊢;have st1:tn 0 h₁:=T.keep _ _ _ st2 λb hb o e=>old b o e
 have L:=loop fp it tn J s2 H2 _ T (λhn b hb=>by
  obtain⟨o,e⟩:=ho b hb
  exact⟨hn b hb,F3 (lt e),λz=>(B9.mp (I2.stkSub b z)).elim (f2 b hb).2.1 (f2 b hb).2.2.1,.inl hb,λx c ec=>(f2 b hb).2.2.2.2.1 x c (S.sub x c ec),(f2 b hb).2.2.2.2.2⟩) I2 f2 (q _ I2.fresh) (NV S (tk:=s2.toks+([]:List (Str×A2)).length) I2 f2 ho old hns₁ hD) st1 λb hb=>by
  obtain⟨o,e⟩:=ho b hb;rw[B6 (F3 (C7 e))];exact(f2 b hb).1
 exact codeAny_compStart_list L (T.self _ 0 _ _ _ st1 L)
def Kj {X:Cx}{scope:F9}{cl:List (Str×A1)}{N:List Str}{jd:List (A1×Obj)}{σ σ3:St}{H2 H3:Hp}{s2 s4:A4}{fp:List A1}{Q:VK}(I2:Inv X jd σ H2 s2)(f2:∀b∈fp,FpOk X jd H2 b)(I4:Inv (E3 X scope cl N fp (s2.heap.objs.size+1) s2 H2) jd σ3 H3 s4)(qn:Q (.ref s2.heap.objs.size) H3) :
   compPost (A7 X.prog X.w) X.A X.xe none (EP X jd σ Q) (.ref s2.heap.objs.size) (s2.heap.objs.size+1) (.ok .next) s4:=by
 obtain⟨m4,hn4,_⟩:=I4.loc;exact⟨m4,hn4,λh' hs'=>⟨.ref s2.heap.objs.size,H3,Inv.uncomp I2 f2 I4 λb hb=>hs'.2 b hb,rfl,qn⟩⟩
def NW {X:Cx}{scope:F9}{cl:List (Str×A1)}{N:List Str}{cs:List (Option Nat)}{jm tg iter:Expr}{jn:List Expr}{pos:Pos}{wi:TI}{g:TG}{tt:TT}{te:TE}(S:l8 X scope cl N cs)(hc:X.calm=true)(hi:PI X tg iter wi)
   (hb:∀(fp:List A1) (C:A1) (s:A4) (H:Hp),PG (E3 X scope cl N fp C s H) tg g/\PIf (E3 X scope cl N fp C s H) jn tt/\PE (E3 X scope cl N fp C s H) jm te)
   (hs:∀x,M4 iter X.env x=pure x:=by intro _;rfl) :
   PE X (.ListComp jm [⟨tg,iter,jn,0⟩] scope pos) (tComp cs wi g tt te):=by
 intro jd s σ H Q I h;rw[eval_ListComp];refine GN S hc hi hs I h λfp it tn J s2 H2 s₃ T stat I2 f2 q Ic st1 fr1=>?_;obtain⟨W,⟨m0,w0⟩,turn⟩:=q;obtain⟨hg,hf,he⟩:=hb fp (s2.heap.objs.size+1) s2 H2;exact Ki _ (GM (Y:=E3 X scope cl N fp (s2.heap.objs.size+1) s2 H2) T hc stat hg hf he (λs4 σ3 H3 I4 qn=>Kj I2 f2 I4 qn) turn) m0 ⟨0,_,_,Ic,st1,fr1,w0⟩
section
variable {X:Cx}
def Vals.getE (r:Vals xs us)(h:j<us.length):∃x,xs[j]?=some x/\RelV x us[j]:=by
 have hl:=r.length;have h':j<xs.length:=0x0
 obtain⟨u,e,q⟩:=r.get (i:=j) (x:=xs[j]) (by simp[h']);refine⟨xs[j],by simp[h'],?_⟩;have e':us[j]?=some us[j]:=by simp[h]
 rw[e'] at e;cases e;exact q
def GO (h:V6 x=true):eqV x x=true:=by
 cases x <;> simp_all [V6,eqV]
def NX:M6 X (.builtin "isinstance") (λvs H Q=>∃x n t b,vs=[x,.ty n]/\TyOf X.K H x t/\Dk X.K t (.type n)=some b/\Q (.bl b) H):=by
 intro jd s σ H vs us Q I rv h;obtain⟨x,n,t,b,rfl,ty,e,q⟩:=h;obtain⟨u,v,rfl,r1,r2⟩:=rv.two;cases r2;exact Nu I r1 ty e λtk=>⟨.bl b,H,I.tok tk,rfl,q⟩
def NY:∀{bs:List Bool} {us:List A2} {j:Nat} {u:A2},Vals (bs.map V.bl) us->us[j]?=some u->∃b,bs[j]?=some b/\u=Value.bool b:=by
 intro bs us j u r e
 have hj:j<us.length:=by
  obtain⟨h,_⟩:=E5.mp e;exact h
 obtain⟨x,e1,q1⟩:=r.getE hj;rw[L4] at e1;cases eb:bs[j]? with
 |none=>rw[eb] at e1;cases e1
 | some b =>
  rw[eb] at e1;cases e1;have e2:us[j]?=some us[j]:=by simp[hj]
  rw[e2] at e;cases e;exact⟨b,rfl,q1⟩
def NZ (bs:List Bool):((B8 bs.length).all λi=>(bs[i]?).getD true)=bs.all id:=by
 rw[t7,B7,B7];constructor
 ·intro h b hb;obtain⟨i,hi,rfl⟩:=AU hb;have:=h i (M5.mpr hi)
  simpa[D1 hi] using this
 ·intro h i hi;have hi':=M5.mp hi;simp only[D1 hi',Option.getD_some];exact h _ (x0 hi')
def N_ {s:A4}{h':B4}{o:Obj}(hk:∀b x,b∉[s.heap.objs.size]->(s.heap.push o).get? b=some x->h'.get? b=some x):∀b x,s.heap.get? b=some x->h'.get? b=some x:=
 λb x e=>hk b x (λhm=>by rw[E2.mp hm] at e;exact q8 _ (C7 e)) (C3 _ e)
def rAll (K:A6):List V->Hp->VK->Prop:=λvs H Q=>∃(p:A1) (bs:List Bool),vs=[.ref p]/\SqL K H p (bs.map V.bl)/\Q (.bl (bs.all id)) H
def Oa (hc:X.calm=true):M6 X (.builtin "all") (rAll X.K):=by
 intro jd s σ H vs us Q I rv h;obtain⟨p,bs,rfl,hq,q⟩:=h;obtain⟨u,rfl,r1⟩:=rv.one;cases r1;obtain⟨jh,r,pl,hz⟩:=I.list hq;have hl:=pl.isList;have hlt:p<s.heap.objs.size:=by obtain⟨_,e,_⟩:=hl;exact C7 e
 have len:jh.toArray.size=bs.length:=by simpa using r.length.symm
 refine call_all_walk (Ew hl ?_)
 refine⟨s.heap.objs.size,[s.heap.objs.size,p],[s.heap.objs.size],jh.toArray.size,_,_,λi=>(bs[i]?).getD true,rfl,Walks.list (A:=X.A.in1) (I.ok.hd hc) _ p (F3 hlt) jh.toArray,
  ⟨⟨_,K4 _ rfl,rfl,rfl⟩,hl.push _⟩,λi v s' Q' E' hP hQ=>?_,λh' tk hk=>?_⟩
 ·obtain⟨b,e,rfl⟩:=NY r (j:=i) (u:=v) (by grind);simp only[e,Option.getD_some] at hQ;exact Ah hQ
 ·rw[len,NZ];exact⟨.bl _,H,I.kept (N_ hk),rfl,q⟩
def Ite (K:A6)(a:A1):It:=
 ⟨λi H=>∃xs x,SqL K H a xs/\xs[i]?=some x,λi H x H'=>∃p v,H p=none/\x=.ref p/\H'=upd H p (.tup [.int i,v])/\∀xs,SqL K H a xs->xs[i]?=some v,λi H=>∃xs,SqL K H a xs/\xs.length<=i⟩
def Inv.turnedNew {ch:List A1}(I:Inv X jd σ H s)(k:∀b o,b∉ch->s.heap.get? b=some o->h'.get? b=some o)
   (hf:∀b∈ch,FpOk X jd H b) (new:J1 X.prog X.w (upd H s.heap.objs.size (.tup xs)) h' s.heap.objs.size (.tup xs)):Inv X jd σ (upd H s.heap.objs.size (.tup xs)) { s with heap:=h',toks:=t' }:=by
 have nch:∀b u,H b=some u->b∉ch:=λb u e z=>by rw[(hf b z).1] at e;cases e
 have nD:∀b o,s.heap.get? b=some o->b≠s.heap.objs.size:=λb o e=>F3 (C7 e)
 refine I.step (g':=s.gens) (d':=s.drawn) (ch:=ch) (λb hb=>⟨(hf b hb).2.2.2.1,(hf b hb).2.1,(hf b hb).2.2.2.2.1,(hf b hb).2.2.2.2.2⟩) (λb o _ _ hc e _=>k b o hc e) (λb o _ _ hc e _=>⟨o.slots,k b o hc e⟩) (λb o _ e n=>by rw[B6 (nD b o e)];exact n)
   (λb o hc e=>⟨o,k b o hc e⟩) (λb ys e=>by rw[B6 (u4 e I.fresh)];exact e) (λb o u e=>by rw[B6 (u4 e I.fresh)];exact e) (λb ps e=>⟨#[],by rw[B6 (u4 e I.fresh),e];simp⟩) (λz=>by unfold NS;rw[B6 (F3 I.bigS)];exact z) (λm hm=>?_) (λb u e=>?_) I.bare
 ·obtain⟨o,es,ep,ho,r⟩:=hm;exact⟨o,es,ep,k _ o (λz=>(hf _ z).2.1 rfl) ho,r⟩
 ·by_cases hb:b=s.heap.objs.size
  ·subst hb;rw[J0] at e;cases e;exact new
  ·rw[B6 hb] at e;refine(I.hok b u e).stay (λc v hc q=>k c v ?_ q) (λc q=>by rw[B6 (u4 q I.fresh)];exact q) λc ys q=>by rw[B6 (u4 q I.fresh)];exact q
   rcases hc with z|z
   ·rw[z];exact nch b u e
   ·exact nch c _ z
def Ob {P:D4}{w:C0}{K:A6}{elts:List Expr}{x1}{pos:Pos}(a e it:A1)(hne:e≠it) :
   Turn P w K (.Tuple elts x1 pos) (Ite K a) [e,it] e (λi h=>(∃old,IsEnum h e it i old)/\h.IsListIter it a i) where
 mem:=0o0
 obj:=λi h st b hb=>by
  obtain⟨⟨old,he⟩,o,e1,c,d⟩:=st;have hb':b=e\/b=it:=by simpa using hb
  rcases hb' with rfl|rfl
  ·exact⟨_,he,λv z=>by cases z⟩
  ·exact⟨o,e1,λv z=>by rw[d] at z;cases z⟩
 keep:=λi h h' st k=>by
  obtain⟨⟨old,he⟩,st⟩:=st;exact⟨⟨old,k e 0o0 _ he⟩,st.at λo e=>k it 0o0 o e⟩
 item:=by
  intro X hP hw hK hc i jd s σ H E I hf st hg;subst hP hw hK;obtain⟨⟨old,he⟩,st⟩:=st;obtain⟨xs,x,hq,hx⟩:=hg;obtain⟨jh,rv,p,hz⟩:=I.list hq;obtain⟨u,hu,ru⟩:=rv.get hx;refine wpAny_pyNext_enum_item he st p.isList (x:=u) (by simpa using hu) hne λh' he' st' ht hz' k=>?_;refine⟨_,rfl,wpAny_letOwnedTupleGo_enum (s:={ s with heap:=h',toks:=s.toks+1 }) he' λh'' he'' sb=>?_⟩;have hpe:s.heap.objs.size≠e:=DB (C7 he);have ht'':h''.get? s.heap.objs.size=some { cls:=.type "tuple",data:=.seq #[.int i s.toks,u] }:=(sb.2 _ hpe).trans ht
  have k':∀b o,b∉[e,it]->s.heap.get? b=some o->h''.get? b=some o:=λb o hb q=>by
   have hb1:b≠e:=λz=>hb (by simp[z]);have hb2:b≠it:=λz=>hb (by simp[z]);exact(sb.2 b hb1).trans (k b o hb1 hb2 q)
  have I1:Inv X jd σ (upd H s.heap.objs.size (.tup [.int i,x])) { s with heap:=h'',toks:=s.toks+1 }:=
   I.turnedNew k' hf ⟨by show 2<=B5;decide,[.int i s.toks,u],.cons ⟨_,rfl⟩ (.cons ru .nil),⟨_,ht'',rfl,_,rfl⟩⟩
  refine⟨.ref s.heap.objs.size,_,I1,rfl,⟨_,x,I.fresh,rfl,rfl,λys hy=>by rw[I.list_inj hy hq];exact hx⟩,⟨⟨u,he''⟩,?_⟩,λb hb=>?_⟩
  ·obtain⟨o,e1,c,d⟩:=st';exact⟨o,(sb.2 it (Ne.symm hne)).trans e1,c,d⟩
  ·have hb':b=e\/b=it:=by simpa using hb
   have hbs:b≠s.heap.objs.size:=by
    rcases hb' with rfl|rfl
    ·exact Ne.symm hpe
    ·obtain⟨o,e1,_⟩:=st;exact F3 (C7 e1)
   rw[B6 hbs];exact(hf b hb).1
 done:=by
  intro X hP hw hK hc i jd s σ H E I hf st hg;subst hP hw hK;obtain⟨⟨old,he⟩,st⟩:=st;obtain⟨xs,hq,hx⟩:=hg;obtain⟨jh,rv,p,hz⟩:=I.list hq;obtain⟨f0,f1,f2,f3,f4,f5⟩:=hf it 0o0;have hl:=rv.length;exact wpAny_pyNext_enum_end (I.ok.hd hc) he st p.isList (by simp;ext) λh' eb=>⟨rfl,I.turned (t':=s.toks) (λb o hb e=>eb b o hb e) f0 f1 f3 f4 f5⟩
 self:=λ_ _ _ _ _ st h=>by
  obtain⟨⟨old,he⟩,_⟩:=st;exact wpAny_pyIter_enum he h
def iEnum (K:A6)(ta:TA):TI:=λσ H R=>ta σ H λvs H1=>∃a,vs=[.ref a]/\(∃xs,SqL K H1 a xs)/\R (Ite K a) H1
def Oc {l:Expr}{ta:TA}{p pos:Pos}{elts:List Expr}{x1}{tpos:Pos}(hg:Gl X "enumerate")(hm:X.mg "enumerate"=none)(ha:PA X [l] ta)(hs:F5 [l] X.env=[(false,eval l X.env)]:=by rfl) :
   PI X (.Tuple elts x1 tpos) (.Call (.Name "enumerate" p) [l] [] pos) (iEnum X.K ta):=by
 intro jd s σ H R I h;refine Call_ (Az I hg hm boot_enumerate (Cp (thn (ha pos jd s σ H _ I h) λus s1 ⟨vs,H1,I1,r1,q1⟩=>?_) hs rfl));obtain⟨a,e,⟨xs,hq⟩,q⟩:=q1;subst e;obtain⟨u,rfl,ru⟩:=r1.one;obtain rfl:u=L5 a:=ru;obtain⟨jh,rv,pl,hz⟩:=I1.list hq;refine call_enumerate_list pl.isList λh' hE hI hsz hk=>?_;refine wpAny_pyIter_enum hE ?_;have I2:Inv X jd σ H1 { s1 with heap:=h' }:=I1.kept (t':=s1.toks) hk;refine⟨s1.heap.objs.size+1,[s1.heap.objs.size+1,s1.heap.objs.size],_,_,H1,rfl,I2,Ob a _ _ (Nat.succ_ne_self _),⟨⟨_,hE⟩,hI⟩,λb hb=>?_,q⟩;have hb':b=s1.heap.objs.size+1\/b=s1.heap.objs.size:=by simpa using hb
 rcases hb' with rfl|rfl
 ·exact I1.fpOk (W5 _) (I1.hok.fresh (W5 _))
 ·exact I1.fpOk (B3 _) (I1.hok.fresh (B3 _))
end
def Kk:K7 "len"=some (.builtin "len"):=by decide +kernel
def GP:K7 "abs"=some (.builtin "abs"):=by decide +kernel
def bt_min:K7 "min"=some (.builtin "min"):=by decide +kernel
def bt_all:K7 "all"=some (.builtin "all"):=by decide +kernel
def Od:K7 "isinstance"=some (.builtin "isinstance"):=by decide +kernel
def Oe:K7 "sorted"=some (.builtin "sorted"):=by decide +kernel
def bt_sum:K7 "sum"=some (.builtin "sum"):=by decide +kernel
def bt_repr:K7 "repr"=some (.builtin "repr"):=by decide +kernel
def GQ:K7 "int"=some (.type "int"):=by decide +kernel
def bt_str:K7 "str"=some (.type "str"):=by decide +kernel
def Of:K7 "bool"=some (.type "bool"):=by decide +kernel
def Og:K7 "list"=some (.type "list"):=by decide +kernel
def GR:K7 "tuple"=some (.type "tuple"):=by decide +kernel
def Oh:K7 "dict"=some (.type "dict"):=by decide +kernel
def bt_set:K7 "set"=some (.type "set"):=by decide +kernel
def Oi (p:V->Prop)(h:(∀v,p v->R v H)->tIf tA ta tb σ H R)(hp:∀v,p v->R v H):tIf tA ta tb σ H R:=h hp
def at_map {ns:List Int}(h0:0<=k)(h:k<(ns.length:Int)):∃v,atI (ns.map V.int) k=some (.int v):=by
 have hk:k.toNat<ns.length:=0x0
 have q:atI (ns.map V.int) ((k.toNat:Nat):Int)=some (.int ns[k.toNat]):=Bj (by rw[L4,D1 hk] <;> rfl)
 rw[show((k.toNat:Nat):Int)=k by omega] at q;exact⟨_,q⟩
def kit_of {K:A6}(h:(if(x9 T == x9 S)=true then some true else if PySem.W.kitMeta S=true then(fastBuiltinMro T).map (·.contains (.type S)) else none)=some b):Dk K (.type T) (.type S)=some b:=h
structure Kn (P:D4)(w:C0)(K:A6)(mg:Str->Option A2)(base:B4)(x:Str)(k:Nat)(ps:List Str)(sp:Sp):Prop where
 ex:∃(f:A1) (fd:FuncData),FnOk P w K mg base CX0 k f fd ps sp/\CD K fd ps []/\Dl K (.ref f)=true/\mg x=some (.ref f)/\∃oc od osl,K.lookup f=some ⟨oc,od,.func fd,osl⟩
structure Fn0 (K:A6)(mg:Str->Option A2)(x:Str)(st:Stmt):Prop where
 ex:∃(f:A1) (fd:FuncData),Fun K x x st f fd/\mg x=some (.ref f)
def fn0_mk {K:A6}{st:Stmt}(X:K.In h)(G:h.Ns i3 mg){kV doc pm jp ct:A2}
   (a:PySem.W.nsIn K i3 x=some (some (.ref f))) (l:K.lookup f=some ⟨oc,od,.func (k8 x x (Ab st) (Z0 st) (K6 st) .none kV doc pm an jp ct),osl⟩)
   (c:EA K jp x=true) (k:Dl K (.ref f)=true):Fn0 K mg x st:=⟨f,_,fun_mk l c k,PySem.W.mg_of X G a⟩
section
variable {P:D4}{w:C0}{K:A6}{mg:Str->Option A2}{base:B4}
theorem Fn0.ok {st:Stmt}{N ps:List Str}{k:Nat}{sp:Sp}(F:Fn0 K mg x st)(S:Aa N ps (K6 st))(len:∀vs H Q E,sp vs H Q E->vs.length=ps.length)
   (bd:∀(kV doc pm:A2) (an:Option A1) (jp ct:A2) (us:List A2),us.length=ps.length->bindArgs (k8 x x (Ab st) (Z0 st) (K6 st) .none kV doc pm an jp ct) ⟨us,[]⟩=pure (ps.zip us))
   (hbody:∀(f:A1) (jp:A2) (A:D9) (outer:List Env) (s:A4) (H:Hp) (vs:List V) (Q:VK) (E:XK),Room k (A.deeper (envOfC x (K6 st) s.heap.objs.size f jp))->sp vs H Q E->
     ∃t,PSs (cxOf CX0 P w K mg base N x (K6 st) f jp A outer s H E).nox (Z0 st) t/\t { nx:=λ_ H'=>Q .non H',rt:=Q } (start N vs) H):Kn P w K mg base x (k+1) ps sp:=by
 obtain⟨f,fd,F1,m⟩:=F.ex
 have lk:∃oc od osl,K.lookup f=some ⟨oc,od,.func fd,osl⟩:=by
  obtain⟨oc,od,kV,doc,pm,an,jp,ct,osl,_,lk,hcd⟩:=F1.ex;exact⟨oc,od,osl,lk⟩
 exact⟨f,fd,F1.ok S len λjp A outer s H vs Q E hr h=>hbody f jp A outer s H vs Q E hr h,F1.binds bd,F1.kp,m,lk⟩
theorem Kn.imp {x:Str}{k:Nat}{ps:List Str}{sp sp':Sp}(G:Kn P w K mg base x k ps sp)(h:∀vs H Q E,sp' vs H Q E->sp vs H Q E):Kn P w K mg base x k ps sp':=by
 obtain⟨f,fd,a,b,c,d⟩:=G.ex;exact⟨f,fd,a.imp h,b,c,d⟩
end
section
variable {X:Cx}{x:Str}{p pos:Pos}{e:Expr}{es:List Expr}{t:TA}{ps:List Str}{sp:Sp}{j k:Nat}
def pe_fn (G:Kn X.prog X.w X.K X.mg X.base x k ps sp)(hr:Room j X.A)(hk:k<=j)(hg:Gl X x)(ha:PA X (e::es) t)(hdb:(x == ("__debug__":Str))=false:=by decide)
   (he:F5 (e::es) X.env=(false,eval e X.env)::F5 es X.env:=by rfl) (hpl:(backTo pos (F5 es X.env)).any (·.1)=false:=by rfl) :
   PE X (.Call (.Name x p) (e::es) [] pos) (tCall sp [] E0 t):=by
 intro jd s σ H Q I h;obtain⟨f,fd,F,hb,hkp,hm,_⟩:=G.ex;exact Nv F (hr.mono hk) hg hm hkp hb .nil pass0 ha hdb he hpl jd s σ H Q I h
end
def Fa (K:A6):Sp:=λvs H Q _=>∃(a:A1) (ns:List Int),vs=[.ref a]/\SqL K H a (ns.map V.int)/\ns.length<=63/\Only H/\∀H',Q (.bl true) H'
def Oj {l:PySem.W.OpenLaw}{q:D4}{loose:List Str}{XP:(Str->Option A2)->B4->Prop}{YP:C0->B4->Prop}{d:DefRec}{K:Params->A6}{x:Str}{k:Nat}(hn:l.most=some 63)(hdf:d.params.defaults=[])(hk:Room k callerA)
   (hY:∀(w:C0) (h:B4),YP w h->(K w.params).In h)
   (F:∀(w:C0) (mg:Str->Option A2) (h:B4),(K w.params).In h->h.Ns i3 mg->∃st,Fn0 (K w.params) mg d.name st/\
     (∀(kV doc pm:A2) (an:Option A1) (jp ct:A2) (s:A4) (u:A2),BindsTo s (k8 d.name d.name (Ab st) (Z0 st) (K6 st) .none kV doc pm an jp ct) ⟨[u],[]⟩ [(x,u)])/\
     ∀base:B4,(K w.params).In base->base.Ns i3 mg->Kn l.prog w (K w.params) mg base d.name k [x] (Fa (K w.params))) :
   PySem.W.WalkO q loose XP YP l.row.toRowW d [] (λf vs=>PySem.call f vs):=by
 refine L2.NR (n:=63) (k:=k) (x:=x) (CX:=λ_=>CX0) (sp:=λw=>Fa (K w.params)) hn 0b0 hdf hk hY (λw mg fa h KX G hmg=>?_) (λ_ _ a ns hl hO hS=>⟨a,ns,rfl,hS,hl,hO,λ_=>rfl⟩) λ_ _ _ _ _ z=>z;obtain⟨st,F0,hb,hF⟩:=F w mg h KX G;obtain⟨f,fd,F1,m⟩:=F0.ex;have e:=hmg.symm.trans m;cases e;refine⟨fd,λs u=>?_,λbase kb nb=>?_⟩
 ·obtain⟨oc,od,kV,doc,pm,an,jp,ct,osl,rfl,lk,hcd⟩:=F1.ex;exact hb kV doc pm an jp ct s u
 ·obtain⟨f',fd',a,b,c,m',oc',od',osl',lk'⟩:=(hF base kb nb).ex;have e:=m.symm.trans m';cases e;obtain⟨oc,od,kV,doc,pm,an,jp,ct,osl,_,lk,hcd⟩:=F1.ex;have e2:=lk.symm.trans lk';cases e2;exact a
section
variable {X:Cx}
def Om:OpR X (Y7 .Mult) (λx y H Q=>∃i n,x=.str i/\y=.int n/\i.length<=100/\0<=n/\n<=1000/\Q (.str (Txt.mul i n)) H):=by
 intro jd s σ H x y v u Q I rx ry h;obtain⟨i,n,rfl,rfl,h1,h2,h3,q⟩:=h;obtain⟨t,rfl⟩:=rx;obtain⟨t',rfl⟩:=ry;exact SB.mul (mulOk_of 100 1000 h1 h3 0x0 0b0 0b0) λt' tk=>⟨.str _,H,I.tok _,⟨_,rfl⟩,q⟩
def BJ (x y:Str):(x++y).cps.toList=x.cps.toList++y.cps.toList:=by
 show(x.cps++y.cps).toList=_;simp
def l9 (x:Str):x.length=x.cps.toList.length:=by
 show x.cps.size=_;simp
end
section
variable {X:Cx}{pos:Pos}
def GS (i j k:Nat)(ta:TA):TS:=λD σ H=>ta σ H λvs H1=>∃u v w,vs=[u,v,w]/\D.nx (((σ.set i (some u)).set j (some v)).set k (some w)) H1
def On (hc:X.calm=true)(hN:X.N.Nodup)(hi:X.N[i]?=some x)(hj:X.N[j]?=some y)(hk:X.N[k]?=some z)(hij:i≠j)(hik:i≠k)(hjk:j≠k)
   (hx:X.env.scope.names.lookup x=some .local) (hy:X.env.scope.names.lookup y=some .local) (hz:X.env.scope.names.lookup z=some .local) (ha:PA X [a,b,c] ta)
   (hw:Cb [.Tuple [.Name x px,.Name y py,.Name z pz] kt pt] (.Tuple [a,b,c] k2 pt2) X.env=pure (some [x,y,z]))
   (hs:Ca [.Tuple [.Name x px,.Name y py,.Name z pz] kt pt] (.Tuple [a,b,c] k2 pt2) pos.line X.env=pure false:=by rfl) :
   PS X (.Assign [.Tuple [.Name x px,.Name y py,.Name z pz] kt pt] (.Tuple [a,b,c] k2 pt2) pos) (GS i j k ta):=by
 intro jd s σ H D I h;rw[exec_Assign_arm];refine A3 (p5 ?_);rw[hs];refine A3 (A9 ?_);rw[jy 0b0];refine A3 (Tuple_ (thn (ha _ jd s σ H _ I h) λus s1 ⟨vs,H1,I1,r1,q1⟩=>?_));obtain⟨v,w,w2,e1,q1⟩:=q1;subst e1
 obtain⟨u1,u2,u3,rfl,rv,rw',rw2⟩:∃u1 u2 u3,us=[u1,u2,u3]/\RelV v u1/\RelV w u2/\RelV w2 u3:=by
  cases r1 with
  | cons p q =>
   cases q with
   | cons p' q' =>
    cases q' with
    | cons p2 q2 =>
     cases q2;exact⟨_,_,_,rfl,p,p',p2⟩
 refine Z6 ?_ (by show 3<=B5;decide);have I2:Inv X jd σ H1 { s1 with heap:=s1.heap.push { cls:=.type "tuple",data:=.seq [u1,u2,u3].toArray } }:=I1.kept (t':=s1.toks) λb o e=>C3 _ e;rw[hw];refine A3 (A9 ?_);show A5 (A7 X.prog X.w) X.A (do rule "assign.swapped-stores";let items ← unpackItems (.ref s1.heap.objs.size) 3 none;Dj [λv=>w6 X.env z v,λv=>w6 X.env y v,λv=>w6 X.env x v] items.reverse;pure Flow.next) _ _ _;refine A3 (p6 (A3 (unpackItems_tuple (items:=#[u1,u2,u3]) (I.ok.hd hc) (IsTup.new s1.heap _) λh' hx'=>?_)));have I3:=I2.kept (h':=h') (t':=s1.toks) λb o e=>hx' b o (F3 (C7 e)) e;show A5 _ _ (Dj [λv=>w6 X.env z v,λv=>w6 X.env y v,λv=>w6 X.env x v] [u3,u2,u1]>>=λ_=>pure Flow.next) _ _ _;refine A3 (Cq (Di (Bg I3 hN hk (.inl hz) rw2 (λs2 I4=>?_) (.inr hz))));refine Cq (Di (Bg I4 hN hj (.inl hy) rw' (λs3 I5=>?_) (.inr hy)));refine Cq (Di (Bg I5 hN hi (.inl hx) rv (λs4 I6=>assignInOrder_nil (A9 ?_)) (.inr hx)));rw[List.set_comm _ _ (Ne.symm hjk),List.set_comm _ _ (Ne.symm hik),List.set_comm _ _ (Ne.symm hij)] at I6;exact⟨_,H1,I6,q1⟩
end
def Same.lay {H H':Hp}{p:A1}{o:HO}(s:Same H H')(h:H' p=none):Same H (upd H' p o):=λb u e=>by
 rw[B6 (u4 (s b u e) h)];exact s b u e
def AD {n:Nat}{d:Int}(h0:0<=d)(h1:d<n):ixN n d=some d.toNat:=by grind [ixN]
def GT {α:Type}{xs:List α}{d:Int}(h0:0<=d)(h1:d<xs.length):∃x,xs[d.toNat]?=some x/\atI xs d=some x:=by
 have hk:d.toNat<xs.length:=0x0
 refine⟨xs[d.toNat],D1 hk,?_⟩;unfold atI;rw[AD h0 h1];simp
section
variable {X:Cx}
def Oo:OpR X (L0 .LtE) (λx y H Q=>∃i j,x=.str i/\y=.str j/\Q (.bl (!decide (j.cps.toList<i.cps.toList))) H):=by
 intro jd s σ H x y v u Q I rx ry h;obtain⟨i,j,rfl,rfl,q⟩:=h;obtain⟨t,rfl⟩:=rx;obtain⟨t',rfl⟩:=ry;exact PySem.P.le_str ⟨.bl _,H,I,rfl,q⟩
def rSlS:V->Option Int->Option Int->Hp->VK->Prop:=λx lo hi H Q=>∃z,x=.str z/\z.length<=B5/\Q (.str (Ay z lo hi)) H
def sl_str:SlR X rSlS:=by
 intro jd s σ H x v vl vu lo hi sl Q I rx hs pl pu h;obtain⟨z,rfl,hz,q⟩:=h;obtain⟨t,rfl⟩:=rx;refine⟨"str",_,F.slot_str_getitem.lookup,Ak _ _ _,?_⟩;cases pl with
 | none =>
  cases pu with
  |none=>exact Et (l:=none) (u:=none) (st:=none) hs rfl (Ey ⟨E6 (DG z _ _) hz,λt' k=>⟨.str _,H,I.tok _,⟨_,rfl⟩,q⟩⟩)
  |int j tj=>exact Et (l:=none) (u:=some (j,tj)) (st:=none) hs rfl (Ey ⟨E6 (DG z _ _) hz,λt' k=>⟨.str _,H,I.tok _,⟨_,rfl⟩,q⟩⟩)
 | int i ti =>
  cases pu with
  |none=>exact Et (l:=some (i,ti)) (u:=none) (st:=none) hs rfl (Ey ⟨E6 (DG z _ _) hz,λt' k=>⟨.str _,H,I.tok _,⟨_,rfl⟩,q⟩⟩)
  |int j tj=>exact Et (l:=some (i,ti)) (u:=some (j,tj)) (st:=none) hs rfl (Ey ⟨E6 (DG z _ _) hz,λt' k=>⟨.str _,H,I.tok _,⟨_,rfl⟩,q⟩⟩)
def Its (x:Str):It:=⟨λi _=>i<x.cps.toList.length,λi H v H'=>H'=H/\∃c,x.cps.toList[i]?=some c/\v=.str ⟨#[c]⟩,λi _=>x.cps.toList.length<=i⟩
def Op {P:D4}{w:C0}{K:A6}{tg:Expr}(x:Str)(t:Tok)(it:A1):Turn P w K tg (Its x) [it] it (λi h=>h.IsStrIter it "str_ascii_iterator" x t i) where
 mem:=0o0
 obj:=λi h st b hb=>by
  have e:b=it:=by simpa using hb
  subst e;obtain⟨o,e,c,d⟩:=st;exact⟨o,e,λv z=>by rw[d] at z;cases z⟩
 keep:=λi h h' st k=>by
  obtain⟨o,e,c,d⟩:=st;exact⟨o,k it 0o0 o e,c,d⟩
 item:=by
  intro X hP hw hK hc i jd s σ H E I hf st hg;subst hP hw hK;have hg':i<x.cps.toList.length:=hg;have hx:x.cps[i]?=some x.cps.toList[i]:=by rw[<- Go];exact D1 hg'
  obtain⟨f0,f1,f2,f3,f4,f5⟩:=hf it 0o0;refine wpAny_pyNext_ascii_item st hx λh' st' sb=>?_;have I1:Inv X jd σ H { s with heap:=h',toks:=s.toks+1 }:=I.turned (t':=s.toks+1) (λb o hb e=>(sb.2 b hb).trans e) f0 f1 f3 f4 f5;obtain⟨o,e,c,d⟩:=id st';exact⟨_,rfl,EX (s:={ s with heap:=h',toks:=s.toks+1 }) e c d 0b0 ⟨.str ⟨#[x.cps.toList[i]]⟩,H,I1,⟨_,rfl⟩,⟨rfl,_,D1 hg',rfl⟩,st',λb hb=>(hf b hb).1⟩⟩
 done:=by
  intro X hP hw hK hc i jd s σ H E I hf st hg;subst hP hw hK;have hg':x.cps.toList.length<=i:=hg;have hx:x.cps[i]?=none:=by rw[<- Go];exact i4 hg'
  obtain⟨f0,f1,f2,f3,f4,f5⟩:=hf it 0o0;exact wpAny_pyNext_ascii_end (I.ok.hd hc) st hx λh' eb=>⟨rfl,I.turned (t':=s.toks) (λb o hb e=>eb b o hb e) f0 f1 f3 f4 f5⟩
 self:=λ_ _ _ _ _ st h=>wpAny_pyIter_striter_ascii st h
def iStr (te:TE):TI:=λσ H R=>te σ H λv H1=>∃x,v=.str x/\x.cps.all (· < 128)=true/\R (Its x) H1
def pi_str {tg l:Expr}{tl:TE}(hl:PE X l tl):PI X tg l (iStr tl):=by
 intro jd s σ H R I h;refine thn (hl jd s σ H _ I h) λv s1 ⟨x,H1,I1,r1,q1⟩=>?_;obtain⟨x,rfl,ha,q⟩:=q1;obtain⟨t,rfl⟩:=r1;refine wpAny_pyIter_ascii ha ?_;refine⟨s1.heap.objs.size,[s1.heap.objs.size],_,_,H1,rfl,I1.kept (t':=s1.toks) λb o e=>C3 _ e,Op x t _,⟨_,K4 _ rfl,rfl,rfl⟩,λb hb=>?_,q⟩;have e:b=s1.heap.objs.size:=by simpa using hb
 subst e;exact I1.fpOk (B3 _) (I1.hok.fresh (B3 _))
def rCatA (K:A6):R2:=λx y H Q=>∃a b xs ys,x=.ref a/\y=.ref b/\SqT K H a xs/\SqT K H b ys/\xs.length+ys.length<=B5/\
 (xs=[]->Q (.ref b) H)/\(xs≠[]->ys=[]->Q (.ref a) H)/\(xs≠[]->ys≠[]->∀p,H p=none->Q (.ref p) (upd H p (.tup (xs++ys))))
def Oq:OpR X (Y7 .Add) (rCatA X.K):=by
 intro jd s σ H x y v u Q I rx ry h;obtain⟨a,b,xs,ys,rfl,rfl,ha,hb,hz,q0,q1,q2⟩:=h
 by_cases hx:xs=[]
 ·cases rx;cases ry;obtain⟨jh,r1,p1,_⟩:=I.tuple ha;obtain⟨its2,r2,p2,_⟩:=I.tuple hb;obtain⟨⟨cls,dd,data,sl⟩,ho,hc,n,hd⟩:=id p1;obtain⟨⟨cls2,dd2,data2,sl2⟩,ho2,hc2,n2,hd2⟩:=id p2;simp only at hc hd hc2 hd2;subst hc hd hc2 hd2;have he:jh=[]:=r1.nil_iff.mpr hx
  exact concat_meets ⟨_,ho,rfl⟩ ⟨_,ho2,rfl⟩ noFill_tuple_add seq_tuple_add Gr Gq (Gp _ _)
    (tuple_addW0 a b jh.toArray its2.toArray n n2 dd dd2 sl sl2 (by simp[he])) ⟨ho,ho2,⟨.ref b,H,I,rfl,q0 hx⟩⟩
 ·exact NC jd s σ H _ _ v u Q I rx ry ⟨a,b,xs,ys,rfl,rfl,ha,hb,hx,hz,q1 hx,q2 hx⟩
def Inv.big {jd:List (A1×Obj)}{σ:St}{H:Hp}{s:A4}(I:Inv X jd σ H s):P8<s.heap.objs.size:=by
 have h:i3<s.heap.objs.size:=(I.mod.glob.keeps I.bk).lt;exact Dz 0b0 h
def Os {P:D4}{w:C0}{H:Hp}(h:B4)(hb:P8<h.objs.size):J1 P w H (h.push { cls:=.type "dict",data:=.dict #[] }) h.objs.size (.dK []):=
 ⟨C8 _,beq_eq_false_iff_ne.mpr (Ne.symm (F3 hb)),[],.nil,Heap.DictOf.new h⟩
def tDNewK:TE:=λ_ H Q=>∀p,H p=none->Q (.ref p) (upd H p (.dK []))
def Kl {pos:Pos}:PE X (.Dict [] [] pos) tDNewK:=λjd s σ H Q I h=>
 wpAny_Dict_empty ⟨.ref s.heap.objs.size,_,I.laid (a:=s.heap.objs.size) (o:=.dK []) (t':=s.toks) (λ_ _ q=>C3 _ q) (B3 _) (Os s.heap I.big),rfl,h _ (I.hok.fresh (B3 _))⟩
end
structure Num0 (mg:Str->Option A2)(x:Str)(i:Int):Prop where
 ex:∃t,mg x=some (.int i t)
def Ot {K:A6}{h:B4}{mg:Str->Option A2}{x:Str}{i:Int}{t:Tok}(X:K.In h)(G:h.Ns i3 mg)(a:PySem.W.nsIn K i3 x=some (some (.int i t))):Num0 mg x i:=⟨t,PySem.W.mg_of X G a⟩
def pe_num {X:Cx}{x:Str}{i:Int}{pos:Pos}(n:Num0 X.mg x i)(hg:Gl X x)(hd:(x == ("__debug__":Str))=false:=by decide):PE X (.Name x pos) (tC (.int i)):=λjd s σ H Q I h=>by
 obtain⟨t,e⟩:=n.ex;exact MY (v:=.int i) hg e ⟨t,rfl⟩ hd jd s σ H Q I h
end L2
end
section
namespace Pu
open PySem PySem.Spec L2
inductive PV where
 |non|bl (b:Bool)|int (i:Int)|str (x:Str)|ty (n:String)|pot (k:Nat)
 |tup (xs:List PV)|lst (xs:List PV)|dct (ks:List Key) (xs:List PV)
 /-- the script -/
 |scr (ns:List Int)
 /-- a dict by tuples that nothing changes any more -/
 |fdt (ks:List (List Key)) (xs:List PV)
structure Gh where
 M:List A1
 pots:List A1
def KLst (K:A6)(a:A1)(xs:List V):Prop:=∃(o:Obj) (jh:Array A2) (n:Nat),K.lookup a=some o/\o.cls=.type "list"/\o.dict=none/\o.data=.seq jh n/\jh.size<=B5/\Vals xs jh.toList
def AtL (M:List A1)(H:Hp)(a:A1)(xs:List V):Prop:=a∉M/\H a=some (.lst xs)
def AtT (M:List A1)(H:Hp)(a:A1)(xs:List V):Prop:=a∉M/\H a=some (.tup xs)
def AtL.sq {K:A6}{M:List A1}{H:Hp}{a:A1}{xs:List V}(h:AtL M H a xs):SqL K H a xs:=SqL.of h.2
def AtT.sq {K:A6}{M:List A1}{H:Hp}{a:A1}{xs:List V}(h:AtT M H a xs):SqT K H a xs:=SqT.of h.2
mutual
def Rep (K:A6)(G:Gh)(H:Hp):PV->V->Prop
 |.non,v=>v=.non
 |.bl b,v=>v=.bl b
 |.int i,v=>v=.int i
 |.str x,v=>v=.str x
 |.ty n,v=>v=.ty n
 |.pot k,v=>∃p,G.pots[k]?=some p/\v=.ref p
 |.tup xs,v=>∃a vs,v=.ref a/\AtT G.M H a vs/\Reps K G H xs vs
 |.lst xs,v=>∃a vs,v=.ref a/\AtL G.M H a vs/\Reps K G H xs vs
 |.scr ns,v=>∃a,v=.ref a/\((a∉G.M/\∃o,H a=some (.frz o (.lst (ns.map V.int))))\/KLst K a (ns.map V.int))
 |.dct ks xs,v=>∃a ji,v=.ref a/\a∉G.M/\H a=some (.dK ji)/\ji.map (·.1)=ks/\Reps K G H xs (ji.map (·.2))
 |.fdt ks xs,v=>∃a ji,v=.ref a/\a∉G.M/\Rd H a (.dT ji)/\ji.map (·.1)=ks/\Reps K G H xs (ji.map (·.2))
def Reps (K:A6)(G:Gh)(H:Hp):List PV->List V->Prop
 |[],vs=>vs=[]
 |x::xs,vs=>∃v r,vs=v::r/\Rep K G H x v/\Reps K G H xs r
end
section
variable {K:A6}{G G':Gh}{H H':Hp}
def Rd.keep {a:A1}{u:HO}(h:Rd H a u)(k:∀o,H a=some o->H' a=some o):Rd H' a u:=by grind [HO,Rd]
def Rd.ne {a:A1}{u:HO}(h:Rd H a u):H a≠none:=by grind [HO,Rd]
mutual
theorem Rep.mono (hk:∀b o,b∉G.M->H b=some o->H' b=some o)(hM:∀a∈G'.M,a∈G.M\/H a=none)(hp:∀(k:Nat) (p:A1),G.pots[k]?=some p->G'.pots[k]?=some p):∀(x:PV) (v:V),Rep K G H x v->Rep K G' H' x v
 |.non,v,h=>h
 |.bl b,v,h=>h
 |.int i,v,h=>h
 |.str x,v,h=>h
 |.ty n,v,h=>h
 | .pot k, v, h => by
  obtain⟨p,e,r⟩:=h;exact⟨p,hp k p e,r⟩
 | .tup xs, v, h => by
  obtain⟨a,vs,e,t,r⟩:=h;refine⟨a,vs,e,?_,Reps.mono hk hM hp xs vs r⟩;obtain⟨n,t⟩:=t;exact⟨λz=>(hM a z).elim n (λz=>by rw[z] at t;cases t),hk a _ n t⟩
 | .lst xs, v, h => by
  obtain⟨a,vs,e,t,r⟩:=h;refine⟨a,vs,e,?_,Reps.mono hk hM hp xs vs r⟩;obtain⟨n,t⟩:=t;exact⟨λz=>(hM a z).elim n (λz=>by rw[z] at t;cases t),hk a _ n t⟩
 | .scr ns, v, h => by
  obtain⟨a,e,h⟩:=h;refine⟨a,e,?_⟩;rcases h with⟨n,o,t⟩|h
  ·exact .inl ⟨λz=>(hM a z).elim n (λz=>by rw[z] at t;cases t),o,hk a _ n t⟩
  ·exact .inr h
 | .dct ks xs, v, h => by
  obtain⟨a,ji,e,n,t,ek,r⟩:=h;exact⟨a,ji,e,λz=>(hM a z).elim n (λz=>by rw[z] at t;cases t),hk a _ n t,ek,Reps.mono hk hM hp xs _ r⟩
 | .fdt ks xs, v, h => by
  obtain⟨a,ji,e,n,t,ek,r⟩:=h;exact⟨a,ji,e,λz=>(hM a z).elim n (λz=>Rd.ne (u:=.dT ji) t z),Rd.keep (u:=.dT ji) t (λo e=>hk a o n e),ek,Reps.mono hk hM hp xs _ r⟩
theorem Reps.mono (hk:∀b o,b∉G.M->H b=some o->H' b=some o)(hM:∀a∈G'.M,a∈G.M\/H a=none)(hp:∀(k:Nat) (p:A1),G.pots[k]?=some p->G'.pots[k]?=some p):∀(xs:List PV) (vs:List V),Reps K G H xs vs->Reps K G' H' xs vs
 |[],vs,h=>h
 | x :: xs, vs, h => by
  obtain⟨v,r,e,hx,hr⟩:=h;exact⟨v,r,e,Rep.mono hk hM hp x v hx,Reps.mono hk hM hp xs r hr⟩
end
def Rep.same (h:Rep K G H x v)(s:Same H H'):Rep K G H' x v:=Rep.mono (λb o _ e=>s b o e) (λa z=>.inl z) (λ_ _ e=>e) x v h
def Reps.same (h:Reps K G H x v)(s:Same H H'):Reps K G H' x v:=Reps.mono (λb o _ e=>s b o e) (λa z=>.inl z) (λ_ _ e=>e) x v h
def Fr (G:Gh)(H H':Hp):Prop:=∀b o,b∉G.M->H b=some o->H' b=some o
def Fr.refl:Fr G H H:=λ_ _ _ e=>e
def Fr.trans (a:Fr G H H')(b:Fr G H' H2):Fr G H H2:=λc o n e=>b c o n (a c o n e)
def Fr.of (s:Same H H'):Fr G H H':=λb o _ e=>s b o e
def Rep.fr (h:Rep K G H x v)(s:Fr G H H'):Rep K G H' x v:=Rep.mono s (λa z=>.inl z) (λ_ _ e=>e) x v h
def Reps.fr (h:Reps K G H x v)(s:Fr G H H'):Reps K G H' x v:=Reps.mono s (λa z=>.inl z) (λ_ _ e=>e) x v h
theorem Reps.length:∀{xs:List PV} {vs:List V},Reps K G H xs vs->xs.length=vs.length
 |[],vs,h=>by cases(show vs=[] from h);rfl
 | x :: xs, vs, h => by
  obtain⟨v,r,e,hx,hr⟩:=h;subst e;simp[Reps.length hr]
theorem Reps.get:∀{xs:List PV} {vs:List V} {i:Nat} {v:V},Reps K G H xs vs->vs[i]?=some v->∃x,xs[i]?=some x/\Rep K G H x v
 |[],vs,i,v,h,e=>by cases(show vs=[] from h);simp at e
 | x :: xs, vs, i, v, h, e => by
  obtain⟨w,r,e1,hx,hr⟩:=h;subst e1;cases i with
  |zero=>simp at e;subst e;exact⟨x,rfl,hx⟩
  |succ i=>simpa using Reps.get (i:=i) hr (by grind)
def Reps.get':∀{xs:List PV} {vs:List V} {i:Nat} {x:PV},Reps K G H xs vs->xs[i]?=some x->∃v,vs[i]?=some v/\Rep K G H x v:=λ{xs vs i x} h e=>by
 obtain⟨hi,_⟩:=E5.mp e;have hl:=h.length;have e2:vs[i]?=some (vs[i]' 0x0):=D1 0x0;obtain⟨y,ey,r⟩:=h.get e2;rw[e] at ey;cases ey;exact⟨_,e2,r⟩
theorem Reps.append:∀{xs ys:List PV} {vs us:List V},Reps K G H xs vs->Reps K G H ys us->Reps K G H (xs++ys) (vs++us)
 |[],ys,vs,us,h,h'=>by cases(show vs=[] from h);exact h'
 | x :: xs, ys, vs, us, h, h' => by
  obtain⟨w,r,e1,hx,hr⟩:=h;subst e1;exact⟨w,r++us,rfl,hx,Reps.append hr h'⟩
theorem Reps.take:∀{xs:List PV} {vs:List V} (n:Nat),Reps K G H xs vs->Reps K G H (xs.take n) (vs.take n)
 |xs,vs,0,h=>by simp[Reps]
 |[],vs,n+1,h=>by cases(show vs=[] from h);exact rfl
 | x :: xs, vs, n + 1, h => by
  obtain⟨w,r,e1,hx,hr⟩:=h;subst e1;exact⟨w,r.take n,rfl,hx,Reps.take n hr⟩
theorem Reps.drop:∀{xs:List PV} {vs:List V} (n:Nat),Reps K G H xs vs->Reps K G H (xs.drop n) (vs.drop n)
 |xs,vs,0,h=>by simpa using h
 |[],vs,n+1,h=>by cases(show vs=[] from h);exact rfl
 | x :: xs, vs, n + 1, h => by
  obtain⟨w,r,e1,hx,hr⟩:=h;subst e1;exact Reps.drop n hr
def Reps.one (h:Rep K G H x v):Reps K G H [x] [v]:=⟨v,[],rfl,h,rfl⟩
theorem Reps.set:∀{xs:List PV} {vs:List V} (n:Nat) {x:PV} {v:V},Reps K G H xs vs->Rep K G H x v->Reps K G H (xs.set n x) (vs.set n v)
 |[],vs,n,x,v,h,_=>by cases(show vs=[] from h);exact rfl
 | y :: xs, vs, 0, x, v, h, h' => by
  obtain⟨w,r,e1,hx,hr⟩:=h;subst e1;exact⟨v,r,rfl,h',hr⟩
 | y :: xs, vs, n + 1, x, v, h, h' => by
  obtain⟨w,r,e1,hx,hr⟩:=h;subst e1;exact⟨w,r.set n v,rfl,hx,Reps.set n hr h'⟩
theorem Reps.eraseIdx:∀{xs:List PV} {vs:List V} (n:Nat),Reps K G H xs vs->Reps K G H (xs.eraseIdx n) (vs.eraseIdx n)
 |[],vs,n,h=>by cases(show vs=[] from h);exact rfl
 | y :: xs, vs, 0, h => by
  obtain⟨w,r,e1,hx,hr⟩:=h;subst e1;exact hr
 | y :: xs, vs, n + 1, h => by
  obtain⟨w,r,e1,hx,hr⟩:=h;subst e1;exact⟨w,r.eraseIdx n,rfl,hx,Reps.eraseIdx n hr⟩
def MutO:HO->Prop
 |.lst _=>True
 |.dK _=>True
 |.dT _=>True
 |.set _ _=>True
 |.tbl _=>True
 |_=>False
end
inductive OK where
 |lst|dk (ks:List Key)|dt (ks:List (List Key))|st (zs:List Key)
def memS (zs:List Key)(k:Key):Bool:=zs.any λz=>decide (z=k)
def mkO:OK->List V->HO
 |.lst,vs=>.lst vs
 |.dk ks,vs=>.dK (ks.zip vs)
 |.dt ks,vs=>.dT (ks.zip vs)
 |.st zs,_=>.set (memS zs) zs.length
def Km (k:OK)(vs:List V):MutO (mkO k vs):=by cases k <;> trivial
inductive Slot where
 |v (x:PV)
 |ow (k:OK) (xs:List PV)
abbrev Slot.own (xs:List PV):Slot:=.ow .lst xs
abbrev Env:=List (Option Slot)
structure PotK where
 at_:List A1->Hp->A1->Nat->Prop
 mono:∀{M H p n m},at_ M H p n->n<=m->at_ M H p m
 keep:∀{M H H' p n},at_ M H p n->H' p=H p->(∀b o,b∉M->H b=some o->H' b=some o)->at_ M H' p n
 more:∀{M M' H p n},at_ M H p n->(∀a∈M',a∈M\/H a=none)->at_ M' H p n
 mu:∀{M H p n},at_ M H p n->∃o,H p=some o/\MutO o
 /-- what is known of all pots together -/
 has:List A1->Prop:=λ_=>True
 hasM:∀{l:List A1} {p:A1},has l->p∉l->has (l++[p]):=by intro _ _ _ _;trivial
structure Ct where
 K:A6
 T:PotK
 M0:List A1
 pots0:List A1
 H0:Hp
 np:Bool
def GU (C:Ct)(G:Gh)(H:Hp)(o:Option (Option V)):Slot->Prop
 |.v x=>∃v,o=some (some v)/\Rep C.K G H x v
 |.ow k xs=>∃a vs,o=some (some (.ref a))/\a∈G.M/\a∉C.M0/\a∉G.pots/\H a=some (mkO k vs)/\Reps C.K G H xs vs
structure SR (C:Ct)(G:Gh)(σ:St)(H:Hp)(env:Env)(n:Nat):Prop where
 frame:∀b o,b∉C.pots0->C.H0 b=some o->H b=some o
 sub:∀a∈G.M,a∈C.M0\/C.H0 a=none
 sup:∀a∈C.M0,a∈G.M
 pots:∀p∈G.pots,p∈G.M/\C.T.at_ G.M H p n
 pre:∃l,G.pots=C.pots0++l/\(l=[]\/C.np=true)
 mu:∀a∈G.M,∃o,H a=some o/\MutO o
 slots:∀(i:Nat) (s:Slot),env[i]?=some (some s)->GU C G H (σ[i]?) s
 inj:∀(i j:Nat) (xs ys:OK×List PV) (a:A1),env[i]?=some (some (.ow xs.1 xs.2))->env[j]?=some (some (.ow ys.1 ys.2))->σ[i]?=some (some (.ref a))->σ[j]?=some (some (.ref a))->i=j
 p0:(∀p∈C.pots0,p∈C.M0)/\C.T.has G.pots
 len:env.length=σ.length
 newp:∀p∈G.pots,p∉C.pots0->p∈C.M0->False
section
variable {C:Ct}{G G':Gh}{σ:St}{H H':Hp}{env:Env}{n:Nat}
def SR.hasG (S:SR C G σ H env n):C.T.has G.pots:=S.p0.2
def SR.fresh (S:SR C G σ H env n)(h:H p=none):p∉G.M:=λz=>by
 obtain⟨o,e,_⟩:=S.mu p z;rw[h] at e;cases e
theorem SR.same (S:SR C G σ H env n)(s:Same H H'):SR C G σ H' env n where
 frame b o hb e:=s b o (S.frame b o hb e)
 sub:=S.sub
 sup:=S.sup
 pots p hp:=⟨(S.pots p hp).1,C.T.keep (S.pots p hp).2 (by
  obtain⟨o,e,_⟩:=C.T.mu (S.pots p hp).2
  rw[e,s p o e]) λb o _ e=>s b o e⟩
 pre:=S.pre
 mu a ha:=by
  obtain⟨o,e,m⟩:=S.mu a ha;exact⟨o,s a o e,m⟩
 slots i x e:=by
  have:=S.slots i x e;cases x with
  | v x =>
   obtain⟨v,e1,r⟩:=this;exact⟨v,e1,r.same s⟩
  | ow kk xs =>
   obtain⟨a,vs,e1,h1,h2,h3,h4,r⟩:=this;exact⟨a,vs,e1,h1,h2,h3,s _ _ h4,r.same s⟩
 inj:=S.inj
 p0:=S.p0
 len:=S.len
 newp:=S.newp
def Same.lay1 (h:H p=none):Same H (upd H p o):=(Same.refl H).lay h
end
abbrev PK:=PV->Env->Nat->Prop
abbrev pE:=Env->Nat->PK->Prop
abbrev pT:=Env->Nat->(Bool->Env->Nat->Prop)->Prop
abbrev pA:=Env->Nat->(List PV->Env->Nat->Prop)->Prop
abbrev pF:=List PV->Nat->(PV->Nat->Prop)->Prop
def RdV (K:A6)(G:Gh)(H:Hp)(x:PV)(v:V):Prop:=Rep K G H x v\/∃a vs xs,x=.lst xs/\v=.ref a/\H a=some (.lst vs)/\Reps K G H xs vs
def RdS (C:Ct)(G:Gh)(σ:St)(H:Hp)(env:Env)(x:PV)(v:V):Prop:=Rep C.K G H x v\/∃(i:Nat) (a:A1) (xs:List PV),env[i]?=some (some (.ow .lst xs))/\σ[i]?=some (some (.ref a))/\x=.lst xs/\v=.ref a
def EOk (K:A6)(T:PotK)(t:TE)(pe:pE):Prop:=∀(C:Ct) (G:Gh) (σ:St) (H:Hp) (env:Env) (n:Nat) (R:PK) (Q:VK),C.K=K->C.T=T->SR C G σ H env n->pe env n R->
 (∀x jk n' v H',R x jk n'->SR C G σ H' jk n'->Rep K G H' x v->Fr G H H'->Q v H')->t σ H Q
def ROk (K:A6)(T:PotK)(t:TE)(pe:pE):Prop:=∀(C:Ct) (G:Gh) (σ:St) (H:Hp) (env:Env) (n:Nat) (R:PK) (Q:VK),C.K=K->C.T=T->SR C G σ H env n->pe env n R->
 (∀x jk n' v H',R x jk n'->SR C G σ H' jk n'->RdS C G σ H' jk x v->Fr G H H'->Q v H')->t σ H Q
def NOk (K:A6)(T:PotK)(t:TE)(pn:pA):Prop:=∀(C:Ct) (G:Gh) (σ:St) (H:Hp) (env:Env) (n:Nat) (R:List PV->Env->Nat->Prop) (Q:VK),C.K=K->C.T=T->SR C G σ H env n->pn env n R->
 (∀xs jk n' a vs Hb,R xs jk n'->SR C G σ Hb jk n'->Fr G H Hb->Hb a=none->Reps K G Hb xs vs->Q (.ref a) (upd Hb a (.lst vs)))->t σ H Q
def TOk (K:A6)(T:PotK)(t:TT)(pt:pT):Prop:=∀(C:Ct) (G:Gh) (σ:St) (H:Hp) (env:Env) (n:Nat) (R:Bool->Env->Nat->Prop) (Q:Bool->Hp->Prop),C.K=K->C.T=T->SR C G σ H env n->pt env n R->
 (∀b jk n' H',R b jk n'->SR C G σ H' jk n'->Fr G H H'->Q b H')->t σ H Q
def AOk (K:A6)(T:PotK)(t:TA)(pa:pA):Prop:=∀(C:Ct) (G:Gh) (σ:St) (H:Hp) (env:Env) (n:Nat) (R:List PV->Env->Nat->Prop) (Q:List V->Hp->Prop),C.K=K->C.T=T->SR C G σ H env n->pa env n R->
 (∀xs jk n' vs H',R xs jk n'->SR C G σ H' jk n'->Reps K G H' xs vs->Fr G H H'->Q vs H')->t σ H Q
structure EW (X:Cx)(e:Expr)(t:TE):Prop where
 h:PE X e t
structure SW (X:Cx)(st:Stmt)(t:TS):Prop where
 h:PS X st t
structure GW (X:Cx)(e:Expr)(g:TG):Prop where
 h:PG X e g
def vw (i:Nat)(hN:X.N[i]?=some x:=by rfl)(hv:Vis X.env.scope x:=by first|exact Or.inl rfl|exact Or.inr (Or.inl rfl)|exact Or.inr (Or.inr rfl))(hd:(x == ("__debug__":Str))=false:=by decide)(hcd:(x == ("__classdict__":Str))=false:=by decide):EW X (.Name x pos) (tVar i):=⟨JB hN hv hd hcd⟩
inductive QE {ι:Type}(T:PotK)(K:A6)(F:ι->Cx)(e:Expr)(pe:pE):Prop
 |mk t (a:(∀z,PE (F z) e t)) (b:EOk K T t pe):QE T K F e pe
inductive QR {ι:Type}(T:PotK)(K:A6)(F:ι->Cx)(e:Expr)(pe:pE):Prop
 |mk t (a:(∀z,PE (F z) e t)) (b:ROk K T t pe):QR T K F e pe
inductive QN {ι:Type}(T:PotK)(K:A6)(F:ι->Cx)(e:Expr)(pn:pA):Prop
 |mk t (a:(∀z,PE (F z) e t)) (b:NOk K T t pn):QN T K F e pn
inductive QT {ι:Type}(T:PotK)(K:A6)(F:ι->Cx)(e:Expr)(pt:pT):Prop
 |mk t (a:(∀z,PT (F z) e t)) (b:TOk K T t pt):QT T K F e pt
inductive QW {ι:Type}(T:PotK)(K:A6)(F:ι->Cx)(e:Expr)(pt:pT):Prop
 |mk t (a:(∀z,PW (F z) e t)) (b:TOk K T t pt):QW T K F e pt
inductive QA {ι:Type}(T:PotK)(K:A6)(F:ι->Cx)(es:List Expr)(pa:pA):Prop
 |mk t (a:(∀z,PA (F z) es t)) (b:AOk K T t pa):QA T K F es pa
section
variable {T:PotK}{ι:Type}{K:A6}{F:ι->Cx}{e a b:Expr}{es:List Expr}{pe pa pb:pE}
def Reps.nil:Reps K G H [] []:=rfl
def Reps.cons (h:Rep K G H x v)(h':Reps K G H xs vs):Reps K G H (x::xs) (v::vs):=⟨v,vs,rfl,h,h'⟩
def RdS.rd (S:SR C G σ H env n)(h:RdS C G σ H env x v):RdV C.K G H x v:=by
 rcases h with h|⟨i,a,xs,e1,e2,ex,ev⟩
 ·exact .inl h
 ·obtain⟨a',vs,e3,_,_,_,h4,r⟩:=S.slots i _ e1;rw[e2] at e3;cases e3;exact .inr ⟨a,vs,xs,ex,ev,h4,r⟩
theorem RdS.fr (h:RdS C G σ H env x v)(f:Fr G H H'):RdS C G σ H' env x v:=by
 rcases h with h|h
 ·exact .inl (h.fr f)
 ·exact .inr h
theorem RdV.lst (h:RdV K G H (.lst xs) v):∃a vs,v=.ref a/\SqL K H a vs/\Reps K G H xs vs:=by
 rcases h with⟨a,vs,e,t,r⟩|⟨a,vs,ys,ex,ev,h4,r⟩
 ·exact⟨a,vs,e,t.sq,r⟩
 ·cases ex;exact⟨a,vs,ev,SqL.of h4,r⟩
def RdV.rep {K:A6}{G:Gh}{H:Hp}{x:PV}{v:V}(h:RdV K G H x v)(hx:∀xs,x≠.lst xs):Rep K G H x v:=by simp_all [Gh,Hp,PV,RdV,V]
theorem RdV.tup (h:RdV K G H (.tup xs) v):∃a vs,v=.ref a/\SqT K H a vs/\Reps K G H xs vs:=by
 obtain⟨a,vs,e,t,r⟩:=h.rep (λ_ z=>nomatch z);exact⟨a,vs,e,t.sq,r⟩
theorem RdV.int (h:RdV K G H (.int i) v):v=.int i:=h.rep (λ_ z=>nomatch z)
theorem RdV.str (h:RdV K G H (.str i) v):v=.str i:=h.rep (λ_ z=>nomatch z)
theorem RdV.bl (h:RdV K G H (.bl i) v):v=.bl i:=h.rep (λ_ z=>nomatch z)
theorem RdV.non (h:RdV K G H .non v):v=.non:=h.rep (λ_ z=>nomatch z)
def qV (i:Nat):pE:=λenv n R=>match env[i]? with|some (some (.v x))=>R x env n|_=>False
def qO (i:Nat):pE:=λenv n R=>match env[i]? with|some (some (.ow .lst xs))=>R (.lst xs) env n|_=>False
def qC (c:PV):pE:=λenv n R=>R c env n
def qV_ex (h:qV i env n R):∃x,env[i]?=some (some (.v x))/\R x env n:=by
 unfold qV at h
 split at h
 ·exact⟨_,by assumption,h⟩
 ·exact h.elim
def qO_ex (h:qO i env n R):∃xs,env[i]?=some (some (.ow .lst xs))/\R (.lst xs) env n:=by
 unfold qO at h
 split at h
 ·exact⟨_,by assumption,h⟩
 ·exact h.elim
def qe_var (i:Nat)(h:∀z,EW (F z) (.Name x pos) (tVar i)):QE T K F (.Name x pos) (qV i):=by
 refine⟨_,λz=>(h z).h,⇑?_⟩;obtain⟨x,e,r⟩:=qV_ex hp;obtain⟨v,ev,rv⟩:=S.slots i _ e;exact⟨v,ev,k _ _ _ _ _ r S (hK▸rv) Fr.refl⟩
def qr_own (i:Nat)(h:∀z,EW (F z) (.Name x pos) (tVar i)):QR T K F (.Name x pos) (qO i):=by
 refine⟨_,λz=>(h z).h,⇑?_⟩;obtain⟨xs,e,r⟩:=qO_ex hp;obtain⟨a,vs,ev,_,_,_,_,rv⟩:=S.slots i _ e;exact⟨.ref a,ev,k _ _ _ _ _ r S (.inr ⟨i,a,xs,e,ev,rfl,rfl⟩) Fr.refl⟩
theorem QE.r (h:QE T K F e pe):QR T K F e pe:=by
 obtain⟨t,h1,h2⟩:=h;exact⟨t,h1,λC G σ H env n R Q hK hT S hp k=>h2 C G σ H env n R Q hK hT S hp λx jk n' v H' r S' rp f=>k x jk n' v H' r S' (.inl (by rw[hK];exact rp)) f⟩
def ok_c (h:∀G H,Rep K G H c v):EOk K T (tC v) (qC c):=λC G σ H env n R Q hK hT S hp k=>k _ _ _ _ _ hp S (h G H) Fr.refl
def Z1 {i j pos}:QE T K F (.Constant (.int i) j pos) (qC (.int i)):=⟨_,λz=>F6,ok_c λ_ _=>rfl⟩
def qe_bl {i j pos}:QE T K F (.Constant (.bool i) j pos) (qC (.bl i)):=⟨_,λz=>pe_bl,ok_c λ_ _=>rfl⟩
def qe_str {i j pos}:QE T K F (.Constant (.str i) j pos) (qC (.str i)):=⟨_,λz=>pe_str,ok_c λ_ _=>rfl⟩
def qe_non {j pos}:QE T K F (.Constant .none j pos) (qC .non):=⟨_,λz=>pe_non,ok_c λ_ _=>rfl⟩
def qe_num {x:Str}{i:Int}{pos:Pos}(n:∀z,Num0 (F z).mg x i)(hg:∀z,Gl (F z) x)(hd:(x == ("__debug__":Str))=false):QE T K F (.Name x pos) (qC (.int i)):=⟨_,λz=>pe_num (n z) (hg z) hd,ok_c λ_ _=>rfl⟩
abbrev w1:=PV->(PV->Prop)->Prop
abbrev w2:=PV->PV->(PV->Prop)->Prop
def W2 (K:A6)(r:R2)(w:w2):Prop:=∀(G:Gh) (H:Hp) (x y:PV) (v u:V) (R:PV->Prop) (Q:VK),(∀p,H p=none->p∉G.M)->RdV K G H x v->RdV K G H y u->w x y R->
 (∀z v' H',R z->Same H H'->Rep K G H' z v'->Q v' H')->r v u H Q
def W1 (K:A6)(r:V->Hp->VK->Prop)(w:w1):Prop:=∀(G:Gh) (H:Hp) (x:PV) (v:V) (R:PV->Prop) (Q:VK),(∀p,H p=none->p∉G.M)->RdV K G H x v->w x R->
 (∀z v' H',R z->Same H H'->Rep K G H' z v'->Q v' H')->r v H Q
def qOp (w:w2)(pa pb:pE):pE:=λenv n R=>pa env n λx je n1=>pb je n1 λy jf n2=>w x y λz=>R z jf n2
def qOpR (w:w2)(pa pb:pE):pE:=λenv n R=>pa env n λx je n1=>pb je n1 λy jf n2=>jf=je/\w x y λz=>R z jf n2
def qUn (w:w1)(pa:pE):pE:=λenv n R=>pa env n λx je n1=>w x λz=>R z je n1
def DM (hw:W2 K r w)(ha:EOk K T ta pa)(hb:ROk K T tb pb):EOk K T (tOp r ta tb) (qOp w pa pb):=λC G σ H env n R Q hK hT S hp k=>by
 refine ↥ha λx je n1 v H1 p1 S1 r1 f1=>?_;refine hb C G σ H1 je n1 _ _ hK hT S1 p1 λy jf n2 u H2 p2 S2 r2 f2=>?_;subst hK;exact hw G H2 x y v u _ _ (λp hp=>S2.fresh hp) (.inl (r1.fr f2)) (r2.rd S2) p2 λz v' H' rz s rv=>k _ _ _ _ _ rz (S2.same s) rv ((f1.trans f2).trans (Fr.of s))
def ok_opR (hw:W2 K r w)(ha:ROk K T ta pa)(hb:ROk K T tb pb):EOk K T (tOp r ta tb) (qOpR w pa pb):=λC G σ H env n R Q hK hT S hp k=>by
 refine ↥ha λx je n1 v H1 p1 S1 r1 f1=>?_;refine hb C G σ H1 je n1 _ _ hK hT S1 p1 λy jf n2 u H2 p2 S2 r2 f2=>?_;subst hK;obtain⟨e,p2⟩:=p2;subst e;exact hw G H2 x y v u _ _ (λp hp=>S2.fresh hp) ((r1.fr f2).rd S2) (r2.rd S2) p2 λz v' H' rz s rv=>k _ _ _ _ _ rz (S2.same s) rv ((f1.trans f2).trans (Fr.of s))
def ok_un (hw:W1 K r w)(ha:ROk K T ta pa):EOk K T (tUn r ta) (qUn w pa):=λC G σ H env n R Q hK hT S hp k=>by
 refine ↥ha λx je n1 v H1 p1 S1 r1 f1=>?_;subst hK;exact hw G H1 x v _ _ (λp hp=>S1.fresh hp) (r1.rd S1) p1 λz v' H' rz s rv=>k _ _ _ _ _ rz (S1.same s) rv (f1.trans (Fr.of s))
def wI (C:Int->Int->Prop)(g:Int->Int->PV):w2:=λx y R=>match x,y with|.int i,.int j=>C i j/\R (g i j)|_,_=>False
def W2.I (hg:∀i j G H,Rep K G H (g' i j) (g i j)):W2 K (rI C g) (wI C g'):=by
 intro G H x y v u R Q hf rx ry hw k;unfold wI at hw
 split at hw
 ·exact⟨_,_,rx.int,ry.int,hw.1,k _ _ _ hw.2 (Same.refl _) (hg _ _ _ _)⟩
 ·exact hw.elim
def wI0 (g:Int->Int->PV):w2:=λx y R=>match x,y with|.int i,.int j=>R (g i j)|_,_=>False
def W2.I0 (hg:∀i j G H,Rep K G H (g' i j) (g i j)):W2 K (rI0 g) (wI0 g'):=by
 intro G H x y v u R Q hf rx ry hw k;unfold wI0 at hw
 split at hw
 ·exact⟨_,_,rx.int,ry.int,k _ _ _ hw (Same.refl _) (hg _ _ _ _)⟩
 ·exact hw.elim
def wAdd:w2:=λx y R=>match x,y with
 |.int i,.int j=>R (.int (i+j))
 |.str i,.str j=>i.length+j.length<=1000000/\R (.str (i++j))
 |.tup xs,.tup ys=>xs.length+ys.length<=1000000/\R (.tup (xs++ys))
 |_,_=>False
def mil (h:n<=1000000):n<=B5:=E6 h (by rw[Aj];decide)
def mil' (h:n<=1000000):n<B5:=At h (by rw[Aj];decide)
def CH (hf:p∉G.M)(hn:H p=none)(r:Reps K G H xs vs):Rep K G (upd H p (.tup vs)) (.tup xs) (.ref p):=
 ⟨p,vs,rfl,⟨hf,J0⟩,r.same (Same.lay1 hn)⟩
def DN (hf:p∉G.M)(hn:H p=none)(r:Reps K G H xs vs):Rep K G (upd H p (.lst vs)) (.lst xs) (.ref p):=
 ⟨p,vs,rfl,⟨hf,J0⟩,r.same (Same.lay1 hn)⟩
def W2.add:W2 K (λx y H Q=>(rI0 λi j=>.int (i+j)) x y H Q\/(∃i j,x=.str i/\y=.str j/\i.length+j.length<=B5/\Q (.str (i++j)) H)\/rCatA K x y H Q) wAdd:=by
 intro G H x y v u R Q hf rx ry hw k;unfold wAdd at hw
 split at hw
 ·exact .inl ⟨_,_,rx.int,ry.int,k _ _ _ hw (Same.refl _) rfl⟩
 ·exact .inr (.inl ⟨_,_,rx.str,ry.str,mil hw.1,k _ _ _ hw.2 (Same.refl _) rfl⟩)
 ·rename_i xs ys;obtain⟨a,vs,ea,ta,ra⟩:=rx.rep (λ_ z=>nomatch z);obtain⟨b,us,eb,tb,rb⟩:=ry.rep (λ_ z=>nomatch z);refine .inr (.inr ⟨a,b,vs,us,ea,eb,ta.sq,tb.sq,?_,λz=>?_,λz1 z2=>?_,λz1 z2 p hp=>?_⟩)
  ·rw[<- ra.length,<- rb.length];exact mil hw.1
  ·subst z;have:xs=[]:=By ra.length;subst this;exact k _ _ _ hw.2 (Same.refl _) ⟨b,us,rfl,tb,rb⟩
  ·subst z2;have:ys=[]:=By rb.length;subst this;exact k _ _ _ hw.2 (Same.refl _) (by rw[c7];exact⟨a,vs,rfl,ta,ra⟩)
  ·exact k _ _ _ hw.2 (Same.lay1 hp) (CH (hf p hp) hp (ra.append rb))
 ·exact hw.elim
def X0 (ha:QE T K F a pa)(hb:QE T K F b pb)(hK:∀z,(F z).K=K:=by intro _;rfl):QE T K F (.BinOp a .Add b pos) (qOp wAdd pa pb):=by
 obtain⟨ta,h1,h2⟩:=ha;obtain⟨tb,h3,h4⟩:=hb.r;exact⟨_,λz=>G5 (y9.or (Np.or (hK z▸Oq))) (h1 z) (h3 z),DM W2.add h2 h4⟩
def DO (ho:∀z,OpR (F z) (Y7 op) r)(hw:W2 K r w)(ha:QE T K F a pa)(hb:QE T K F b pb):QE T K F (.BinOp a op b pos) (qOp w pa pb):=by
 obtain⟨ta,h1,h2⟩:=ha;obtain⟨tb,h3,h4⟩:=hb.r;exact⟨_,λz=>G5 (ho z) (h1 z) (h3 z),DM hw h2 h4⟩
def wSub:w2:=wI0 λi j=>.int (i-j)
def wMul:w2:=λx y R=>match x,y with
 |.int i,.int j=>CMul i j/\R (.int (i*j))
 |.str i,.int n=>i.length<=100/\0<=n/\n<=1000/\R (.str (Txt.mul i n))
 |_,_=>False
def Q2:w2:=wI CDiv λi j=>.int (i/j)
def wMod:w2:=wI (λ_ j=>0<j) λi j=>.int (i%j)
def wPow:w2:=wI CPow λi j=>.int (i ^ j.toNat)
theorem W2.mul:W2 K (λx y H Q=>(rI CMul λi j=>.int (i*j)) x y H Q\/(∃i n,x=.str i/\y=.int n/\i.length<=100/\0<=n/\n<=1000/\Q (.str (Txt.mul i n)) H)) wMul:=by
 intro G H x y v u R Q hf rx ry hw k;unfold wMul at hw
 split at hw
 ·exact .inl ⟨_,_,rx.int,ry.int,hw.1,k _ _ _ hw.2 (Same.refl _) rfl⟩
 ·exact .inr ⟨_,_,rx.str,ry.int,hw.1,hw.2.1,hw.2.2.1,k _ _ _ hw.2.2.2 (Same.refl _) rfl⟩
 ·exact hw.elim
def GV (ha:QE T K F a pa)(hb:QE T K F b pb):QE T K F (.BinOp a .Sub b pos) (qOp wSub pa pb):=DO (λ_=>op_sub) (W2.I0 λ_ _ _ _=>rfl) ha hb
def qe_mul (ha:QE T K F a pa)(hb:QE T K F b pb):QE T K F (.BinOp a .Mult b pos) (qOp wMul pa pb):=DO (λ_=>AA.or Om) W2.mul ha hb
def Ou (ha:QE T K F a pa)(hb:QE T K F b pb):QE T K F (.BinOp a .FloorDiv b pos) (qOp Q2 pa pb):=DO (λ_=>EY) (W2.I λ_ _ _ _=>rfl) ha hb
def qe_mod (ha:QE T K F a pa)(hb:QE T K F b pb):QE T K F (.BinOp a .Mod b pos) (qOp wMod pa pb):=DO (λ_=>AB) (W2.I λ_ _ _ _=>rfl) ha hb
def qe_pow {pos:Pos}(ha:QE T K F a pa)(hb:QE T K F b pb):QE T K F (.BinOp a .Pow b pos) (qOp wPow pa pb):=DO (λ_=>EZ) (W2.I λ_ _ _ _=>rfl) ha hb
end
end Pu
end
section
namespace L2
open PySem PySem.Spec PyProof.Rows
def EqD (K:A6)(H:Hp):Nat->V->V->Bool->Prop
 |0,x,y,b=>V6 x=true/\V6 y=true/\b=eqV x y
 | d + 1, x, y, b => (V6 x = true /\ V6 y = true /\ b = eqV x y) \/
   (∃p q xs ys,∃f:Nat->Bool,x=.ref p/\y=.ref q/\SqT K H p xs/\SqT K H q ys/\(∀(j:Nat) x' y',xs[j]?=some x'->ys[j]?=some y'->EqD K H d x' y' (f j))/\b=((B8 (min xs.length ys.length)).all f&&xs.length == ys.length))\/
   (∃p q xs ys,∃f:Nat->Bool,x=.ref p/\y=.ref q/\SqL K H p xs/\SqL K H q ys/\(∀(j:Nat) x' y',xs[j]?=some x'->ys[j]?=some y'->EqD K H d x' y' (f j))/\b=((B8 (min xs.length ys.length)).all f&&xs.length == ys.length))\/
   (b=false/\((∃p xs,x=.ref p/\(SqT K H p xs\/SqL K H p xs)/\V6 y=true)\/(∃p xs,y=.ref p/\(SqT K H p xs\/SqL K H p xs)/\V6 x=true)\/
     (∃p q xs ys,x=.ref p/\y=.ref q/\SqT K H p xs/\SqL K H q ys)\/(∃p q xs ys,x=.ref p/\y=.ref q/\SqL K H p xs/\SqT K H q ys)))
section
variable {X:Cx}{jd:List (A1×Obj)}{σ:St}{H:Hp}{s:A4}
def Z2 (I:Inv X jd σ H s)(h:SqT X.K H p xs)(h':SqL X.K H p ys):False:=by
 obtain⟨jh,r,⟨o,e,c,n,d⟩,_⟩:=I.tuple h;obtain⟨its',r',⟨o',n',e',c',_,d'⟩,_⟩:=I.list h';rw[e] at e';cases e';rw[c] at c';injection c' with c';exact absurd c' 0b0
def EqD.refl (I:Inv X jd σ H s):∀(d:Nat) (x:V) (b:Bool),EqD X.K H d x x b->b=true:=by
 intro d
 induction d with
 | zero =>
  intro x b h;obtain⟨h1,_,rfl⟩:=h;exact GO h1
 | succ d ih =>
  intro x b h;rcases h with⟨h1,_,rfl⟩|⟨p,q,xs,ys,f,e1,e2,s1,s2,hf,rfl⟩|⟨p,q,xs,ys,f,e1,e2,s1,s2,hf,rfl⟩|⟨rfl,h⟩
  ·exact GO h1
  ·subst e1;cases e2;have:=I.tuple_inj s1 s2;subst this;simp only[Nat.min_self,beq_self_eq_true,Cm,B7,M5];intro j hj;exact ih _ _ (hf j xs[j] xs[j] (by simp[hj]) (by simp[hj]))
  ·subst e1;cases e2;have:=I.list_inj s1 s2;subst this;simp only[Nat.min_self,beq_self_eq_true,Cm,B7,M5];intro j hj;exact ih _ _ (hf j xs[j] xs[j] (by simp[hj]) (by simp[hj]))
  ·rcases h with⟨p,xs,rfl,_,h⟩|⟨p,xs,rfl,_,h⟩|⟨p,q,xs,ys,e1,e2,s1,s2⟩|⟨p,q,xs,ys,e1,e2,s1,s2⟩
   ·cases h
   ·cases h
   ·subst e1;cases e2;exact(Z2 I s1 s2).elim
   ·subst e1;cases e2;exact(Z2 I s2 s1).elim
def Inv.sqL (I:Inv X jd σ H s)(h:SqL X.K H p xs):∃jh:List A2,Vals xs jh/\s.heap.IsList p jh.toArray:=by
 obtain⟨jh,r,pl,_⟩:=I.list h;exact⟨jh,r,pl.isList⟩
def Inv.sqT (I:Inv X jd σ H s)(h:SqT X.K H p xs):∃jh:List A2,Vals xs jh/\s.heap.IsTuple p jh.toArray:=by
 obtain⟨jh,r,pl,_⟩:=I.tuple h;exact⟨jh,r,pl⟩
def Fb (I:Inv X jd σ H s)(hu:A.units<cLine)(hq:SqT X.K H p xs\/SqL X.K H p xs)(ry:RelV y w)(fy:V6 y=true) :
   BG A s (.ref p) w false/\Cy A s (.ref p) w true/\BG A s w (.ref p) false/\Cy A s w (.ref p) true/\u0 A s (.ref p) w false/\u0 A s w (.ref p) false:=by
 rcases hq with hq|hq
 ·obtain⟨jh,r,il⟩:=I.sqT hq;cases y with
  |non=>cases ry;exact⟨.tuple_none il hu,.tuple_none il hu,.none_tuple il hu,.none_tuple il hu,.tuple_none il hu,.none_tuple il hu⟩
  |bl b=>cases ry;exact⟨.tuple_bool b il hu,.tuple_bool b il hu,.bool_tuple b il hu,.bool_tuple b il hu,.tuple_bool b il hu,.bool_tuple b il hu⟩
  |int i=>obtain⟨t,rfl⟩:=ry;exact⟨.tuple_int i t il hu,.tuple_int i t il hu,.int_tuple i t il hu,.int_tuple i t il hu,.tuple_int i t il hu,.int_tuple i t il hu⟩
  |str i=>obtain⟨t,rfl⟩:=ry;exact⟨.tuple_str i t il hu,.tuple_str i t il hu,.str_tuple i t il hu,.str_tuple i t il hu,.tuple_str i t il hu,.str_tuple i t il hu⟩
  |_=>cases fy
 ·obtain⟨jh,r,il⟩:=I.sqL hq;cases y with
  |non=>cases ry;exact⟨.list_none il hu,.list_none il hu,.none_list il hu,.none_list il hu,.list_none il hu,.none_list il hu⟩
  |bl b=>cases ry;exact⟨.list_bool b il hu,.list_bool b il hu,.bool_list b il hu,.bool_list b il hu,.list_bool b il hu,.bool_list b il hu⟩
  |int i=>obtain⟨t,rfl⟩:=ry;exact⟨.list_int i t il hu,.list_int i t il hu,.int_list i t il hu,.int_list i t il hu,.list_int i t il hu,.int_list i t il hu⟩
  |str i=>obtain⟨t,rfl⟩:=ry;exact⟨.list_str i t il hu,.list_str i t il hu,.str_list i t il hu,.str_list i t il hu,.list_str i t il hu,.str_list i t il hu⟩
  |_=>cases fy
def Ko (rx:RelV x u)(ry:RelV y w)(fx:V6 x=true)(fy:V6 y=true):BG A s u w (eqV x y)/\Cy A s u w (!eqV x y):=by
 cases x with
 | non =>
  cases rx;cases y with
  |non=>cases ry;exact⟨.none_none,.none_none⟩
  |bl j=>cases ry;exact⟨.none_bool j,.none_bool j⟩
  |int j=>obtain⟨t,rfl⟩:=ry;exact⟨.none_int j t,.none_int j t⟩
  |str j=>obtain⟨t,rfl⟩:=ry;exact⟨.none_str j t,.none_str j t⟩
  |_=>cases fy
 | bl i =>
  cases rx;cases y with
  |non=>cases ry;exact⟨.bool_none i,.bool_none i⟩
  |bl j=>cases ry;exact⟨.bool_bool i j,.bool_bool i j⟩
  |int j=>obtain⟨t,rfl⟩:=ry;exact⟨.bool_int i j t,.bool_int i j t⟩
  |str j=>obtain⟨t,rfl⟩:=ry;exact⟨.bool_str i j t,.bool_str i j t⟩
  |_=>cases fy
 | int i =>
  obtain⟨ti,rfl⟩:=rx;cases y with
  |non=>cases ry;exact⟨.int_none i ti,.int_none i ti⟩
  |bl j=>cases ry;exact⟨.int_bool i ti j,.int_bool i ti j⟩
  |int j=>obtain⟨t,rfl⟩:=ry;exact⟨.int_int i ti j t,.int_int i ti j t⟩
  |str j=>obtain⟨t,rfl⟩:=ry;exact⟨.int_str i ti j t,.int_str i ti j t⟩
  |_=>cases fy
 | str i =>
  obtain⟨ti,rfl⟩:=rx;cases y with
  |non=>cases ry;exact⟨.str_none i ti,.str_none i ti⟩
  |bl j=>cases ry;exact⟨.str_bool i ti j,.str_bool i ti j⟩
  |int j=>obtain⟨t,rfl⟩:=ry;exact⟨.str_int i ti j t,.str_int i ti j t⟩
  |str j=>obtain⟨t,rfl⟩:=ry;exact⟨.str_str i ti j t,.str_str i ti j t⟩
  |_=>cases fy
 |_=>cases fx
def Bm (A:D9):A.in1.units=A.units+1:=rfl
def EqD.at (I:Inv X jd σ H s):∀(d:Nat) (A:D9) (x y:V) (u w:A2) (b:Bool),A.units+d<cLine->RelV x u->RelV y w->EqD X.K H d x y b->u0 A s u w b/\BG A s u w b/\Cy A s u w (!b):=by
 intro d
 induction d with
 | zero =>
  intro A x y u w b hu rx ry h;obtain⟨h1,h2,rfl⟩:=h;exact⟨GJ rx ry h1 h2,Ko rx ry h1 h2⟩
 | succ d ih =>
  intro A x y u w b hu rx ry h;have hu0:A.units<cLine:=0x0
  have hu1:A.in1.units+d<cLine:=by rw[Bm];ext
  have hrefl:=EqD.refl I (d+1) x b;rcases h with⟨h1,h2,rfl⟩|⟨p,q,xs,ys,f,e1,e2,s1,s2,hf,eb⟩|⟨p,q,xs,ys,f,e1,e2,s1,s2,hf,eb⟩|⟨rfl,h⟩
  ·exact⟨GJ rx ry h1 h2,Ko rx ry h1 h2⟩
  ·subst e1 e2;cases rx;cases ry;obtain⟨jh,r1,t1⟩:=I.sqT s1;obtain⟨its2,r2,t2⟩:=I.sqT s2;have z1:jh.toArray.size=xs.length:=by simpa using r1.length.symm
   have z2:its2.toArray.size=ys.length:=by simpa using r2.length.symm
   have he:∀j (h1:j<jh.toArray.size) (h2:j<its2.toArray.size),u0 A.in1 s jh.toArray[j] its2.toArray[j] (f j):=by
    intro j h1 h2;obtain⟨x',e1,q1⟩:=r1.getE (j:=j) 0x0;obtain⟨y',e2,q2⟩:=r2.getE (j:=j) (by grind);exact(ih A.in1 x' y' _ _ (f j) hu1 (by grind) (by grind) (hf j x' y' e1 e2)).1
   have rc:BG A s (.ref p) (.ref q) b:=by
    rw[eb,<- z1,<- z2];exact SeqAt.RcAt.tuples t1 t2 hu0 he
   have rn:Cy A s (.ref p) (.ref q) (!b):=by
    rw[eb,<- z1,<- z2];exact SeqAt.RcNeAt.tuples t1 t2 hu0 he
   refine⟨?_,rc,rn⟩
   by_cases hpq:p=q
   ·subst hpq;rw[hrefl (.inr (.inl ⟨p,p,xs,ys,f,rfl,rfl,s1,s2,hf,eb⟩))];exact .same _
   ·exact .of_refs hpq rc
  ·subst e1 e2;cases rx;cases ry;obtain⟨jh,r1,t1⟩:=I.sqL s1;obtain⟨its2,r2,t2⟩:=I.sqL s2;have z1:jh.toArray.size=xs.length:=by simpa using r1.length.symm
   have z2:its2.toArray.size=ys.length:=by simpa using r2.length.symm
   have he:∀j (h1:j<jh.toArray.size) (h2:j<its2.toArray.size),u0 A.in1 s jh.toArray[j] its2.toArray[j] (f j):=by
    intro j h1 h2;obtain⟨x',e1,q1⟩:=r1.getE (j:=j) 0x0;obtain⟨y',e2,q2⟩:=r2.getE (j:=j) (by grind);exact(ih A.in1 x' y' _ _ (f j) hu1 (by grind) (by grind) (hf j x' y' e1 e2)).1
   have rr:BG A s (.ref p) (.ref q) b/\Cy A s (.ref p) (.ref q) (!b):=by
    by_cases hl:xs.length=ys.length
    ·have e3:b=(B8 jh.toArray.size).all f:=by rw[eb,hl,Nat.min_self,beq_self_eq_true,Cm,z1,hl]
     rw[e3];exact⟨SeqAt.RcAt.lists t1 t2 (by grind) hu0 he,SeqAt.RcNeAt.lists t1 t2 (by grind) hu0 he⟩
    ·have e3:b=false:=by
      rw[eb];have:(xs.length == ys.length)=false:=by simpa using hl
      rw[this,Bool.and_false]
     rw[e3];have e4:(jh.toArray.size != its2.toArray.size)=true:=by rw[z1,z2];simpa using hl
     exact⟨SeqAt.RcAt.lists_lengths t1 t2 e4 hu0,SeqAt.RcNeAt.lists_lengths t1 t2 e4 hu0⟩
   refine⟨?_,rr⟩
   by_cases hpq:p=q
   ·subst hpq;rw[hrefl (.inr (.inr (.inl ⟨p,p,xs,ys,f,rfl,rfl,s1,s2,hf,eb⟩)))];exact .same _
   ·exact .of_refs hpq rr.1
  ·rcases h with⟨p,xs,rfl,hq,fy⟩|⟨p,xs,rfl,hq,fx⟩|⟨p,q,xs,ys,e1,e2,s1,s2⟩|⟨p,q,xs,ys,e1,e2,s1,s2⟩
   ·cases rx;obtain⟨a1,a2,a3,a4,a5,a6⟩:=Fb I hu0 hq ry fy;exact⟨a5,a1,a2⟩
   ·cases ry;obtain⟨a1,a2,a3,a4,a5,a6⟩:=Fb I hu0 hq rx fx;exact⟨a6,a3,a4⟩
   ·subst e1 e2;cases rx;cases ry;obtain⟨jh,r1,t1⟩:=I.sqT s1;obtain⟨its2,r2,t2⟩:=I.sqL s2;exact⟨.tuple_list t1 t2 hu0,.tuple_list t1 t2 hu0,.tuple_list t1 t2 hu0⟩
   ·subst e1 e2;cases rx;cases ry;obtain⟨jh,r1,t1⟩:=I.sqL s1;obtain⟨its2,r2,t2⟩:=I.sqT s2;exact⟨.list_tuple t1 t2 hu0,.list_tuple t1 t2 hu0,.list_tuple t1 t2 hu0⟩
end
section
variable {X:Cx}
def rEqD (K:A6)(d:Nat)(neg:Bool):R2:=λx y H Q=>∃b,EqD K H d x y b/\Q (.bl (if neg then !b else b)) H
def op_eqD (d:Nat)(hu:X.A.units+d<cLine):OpR X (L0 .Eq) (rEqD X.K d false):=by
 intro jd s σ H x y v u Q I rx ry h;obtain⟨b,hb,q⟩:=h;exact(hb.at I d X.A x y v u b hu rx ry).2.1 X.prog X.w X.xe _ ⟨.bl _,H,I,rfl,q⟩
def op_neD (d:Nat)(hu:X.A.units+d<cLine):OpR X (L0 .NotEq) (rEqD X.K d true):=by
 intro jd s σ H x y v u Q I rx ry h;obtain⟨b,hb,q⟩:=h;exact(hb.at I d X.A x y v u b hu rx ry).2.2 X.prog X.w X.xe _ ⟨.bl _,H,I,rfl,q⟩
def rInD (K:A6)(d:Nat)(neg:Bool):R2:=λx y H Q=>∃p ys,∃f:Nat->Bool,y=.ref p/\(SqL K H p ys\/SqT K H p ys)/\(∀(j:Nat) z,ys[j]?=some z->EqD K H d z x (f j))/\Q (.bl (if neg then !((B8 ys.length).any f) else(B8 ys.length).any f)) H
def GX (h:∀j,j<n->f j=g j):(B8 n).all f=(B8 n).all g:=by
 rw[t7,B7,B7];constructor
 ·intro k j hj;rw[<- h j (M5.mp hj)];exact k j hj
 ·intro k j hj;rw[h j (M5.mp hj)];exact k j hj
def EqD.det (I:Inv X jd σ H s):∀(d:Nat) (x y:V) (b b':Bool),EqD X.K H d x y b->EqD X.K H d x y b'->b=b':=by
 intro d
 induction d with
 | zero =>
  intro x y b b' h h';rw[h.2.2,h'.2.2]
 | succ d ih =>
  intro x y b b' h h';rcases h with⟨h1,h2,rfl⟩|⟨p,q,xs,ys,f,rfl,rfl,s1,s2,hf,rfl⟩|⟨p,q,xs,ys,f,rfl,rfl,s1,s2,hf,rfl⟩|⟨rfl,h⟩
  ·rcases h' with⟨h1',h2',rfl⟩|⟨p,q,xs,ys,f,rfl,rfl,s1,s2,hf,rfl⟩|⟨p,q,xs,ys,f,rfl,rfl,s1,s2,hf,rfl⟩|⟨rfl,h⟩
   ·rfl
   ·cases h1
   ·cases h1
   ·rcases h with⟨p,xs,rfl,_,h⟩|⟨p,xs,rfl,_,h⟩|⟨p,q,xs,ys,rfl,rfl,s1,s2⟩|⟨p,q,xs,ys,rfl,rfl,s1,s2⟩
    ·cases h1
    ·cases h2
    ·cases h1
    ·cases h1
  ·rcases h' with⟨h1',h2',rfl⟩|⟨p',q',xs',ys',f',e1,e2,s1',s2',hf',rfl⟩|⟨p',q',xs',ys',f',e1,e2,s1',s2',hf',rfl⟩|⟨rfl,h⟩
   ·cases h1'
   ·cases e1;cases e2;have:=I.tuple_inj s1 s1';subst this;have:=I.tuple_inj s2 s2';subst this;rw[GX λj hj=>ih _ _ _ _ (hf j (xs[j]' 0x0) (ys[j]' 0x0) (D1 _) (D1 _)) (hf' j (xs[j]' 0x0) (ys[j]' 0x0) (D1 _) (D1 _))]
   ·cases e1;exact(Z2 I s1 s1').elim
   ·rcases h with⟨p',xs',e1,_,h⟩|⟨p',xs',e1,_,h⟩|⟨p',q',xs',ys',e1,e2,s1',s2'⟩|⟨p',q',xs',ys',e1,e2,s1',s2'⟩
    ·cases h
    ·cases h
    ·cases e2;exact(Z2 I s2 s2').elim
    ·cases e1;exact(Z2 I s1 s1').elim
  ·rcases h' with⟨h1',h2',rfl⟩|⟨p',q',xs',ys',f',e1,e2,s1',s2',hf',rfl⟩|⟨p',q',xs',ys',f',e1,e2,s1',s2',hf',rfl⟩|⟨rfl,h⟩
   ·cases h1'
   ·cases e1;exact(Z2 I s1' s1).elim
   ·cases e1;cases e2;have:=I.list_inj s1 s1';subst this;have:=I.list_inj s2 s2';subst this;rw[GX λj hj=>ih _ _ _ _ (hf j (xs[j]' 0x0) (ys[j]' 0x0) (D1 _) (D1 _)) (hf' j (xs[j]' 0x0) (ys[j]' 0x0) (D1 _) (D1 _))]
   ·rcases h with⟨p',xs',e1,_,h⟩|⟨p',xs',e1,_,h⟩|⟨p',q',xs',ys',e1,e2,s1',s2'⟩|⟨p',q',xs',ys',e1,e2,s1',s2'⟩
    ·cases h
    ·cases h
    ·cases e1;exact(Z2 I s1' s1).elim
    ·cases e2;exact(Z2 I s2' s2).elim
  ·rcases h' with⟨h1',h2',rfl⟩|⟨p',q',xs',ys',f',rfl,rfl,s1',s2',hf',rfl⟩|⟨p',q',xs',ys',f',rfl,rfl,s1',s2',hf',rfl⟩|⟨rfl,h'⟩
   ·rcases h with⟨p,xs,rfl,_,h⟩|⟨p,xs,rfl,_,h⟩|⟨p,q,xs,ys,rfl,rfl,s1,s2⟩|⟨p,q,xs,ys,rfl,rfl,s1,s2⟩
    ·cases h1'
    ·cases h2'
    ·cases h1'
    ·cases h1'
   ·rcases h with⟨p,xs,e1,_,h⟩|⟨p,xs,e1,_,h⟩|⟨p,q,xs,ys,e1,e2,s1,s2⟩|⟨p,q,xs,ys,e1,e2,s1,s2⟩
    ·cases h
    ·cases h
    ·cases e2;exact(Z2 I s2' s2).elim
    ·cases e1;exact(Z2 I s1' s1).elim
   ·rcases h with⟨p,xs,e1,_,h⟩|⟨p,xs,e1,_,h⟩|⟨p,q,xs,ys,e1,e2,s1,s2⟩|⟨p,q,xs,ys,e1,e2,s1,s2⟩
    ·cases h
    ·cases h
    ·cases e1;exact(Z2 I s1 s1').elim
    ·cases e2;exact(Z2 I s2 s2').elim
   ·rfl
open Classical in
def Fc (I:Inv X jd σ H s)(hu:A.units+d<cLine)(r:Vals ys jh)(rx:RelV x v)(hf:∀(j:Nat) z,ys[j]?=some z->EqD X.K H d z x (f j)) :
   ∃e:A2->Bool,(∀y,y∈jh->u0 A s y v (e y))/\jh.any e=(B8 ys.length).any f:=by
 have key:∀(j j':Nat) (z:A2),jh[j]?=some z->jh[j']?=some z->f j=f j':=by
  intro j j' z h h';obtain⟨hj,_⟩:=E5.mp h;obtain⟨hj',_⟩:=E5.mp h';obtain⟨w1,a1,b1⟩:=r.getE hj;obtain⟨w2,a2,b2⟩:=r.getE hj';rw[D1 hj] at h;rw[D1 hj'] at h';cases h;rw[E7 h'] at b2;have:=b1.inj b2;subst this;exact EqD.det I d _ _ _ _ (hf j _ a1) (hf j' _ a2)
 let e:A2->Bool:=λy=>decide (∃j,jh[j]?=some y/\f j=true)
 have he:∀(j:Nat) (y:A2),jh[j]?=some y->e y=f j:=by
  intro j y h;show decide _=_;cases hb:f j with
  |true=>exact ju ⟨j,h,hb⟩
  |false=>exact jv λ⟨j',h1,h2⟩=>by rw[key j j' y h h1,h2] at hb;cases hb
 refine⟨e,λy hy=>?_,?_⟩
 ·obtain⟨j,hj,rfl⟩:=AU hy;obtain⟨w1,a1,b1⟩:=r.getE hj;rw[he j _ (D1 hj)];exact((hf j w1 a1).at I d A w1 x _ v (f j) hu b1 rx).1
 ·have hl:=r.length;rw[t7,p9,p9];constructor
  ·rintro⟨y,hy,h⟩;obtain⟨j,hj,rfl⟩:=AU hy;exact⟨j,M5.mpr 0x0,by rw[<- he j _ (D1 hj)];exact h⟩
  ·rintro⟨j,hj,h⟩;have hj':j<jh.length:=by have:=M5.mp hj;ext
   exact⟨jh[j],x0 hj',by rw[he j _ (D1 hj')];exact h⟩
def op_inD (d:Nat)(hu:X.A.units+(d+1)<cLine):OpR X (L0 .In) (rInD X.K d false):=by
 intro jd s σ H x y v u Q I rx ry h;obtain⟨p,ys,f,rfl,hq,hf,q⟩:=h;cases ry;rcases hq with hq|hq
 ·obtain⟨jh,r,il⟩:=I.sqL hq;obtain⟨e,h1,h2⟩:=Fc I (A:=X.A.in1) (by rw[Bm];ext) r rx hf;refine SeqAt.in_listAt e il (λy hy=>h1 y (by simpa using hy)) ⟨.bl _,H,I,rfl,?_⟩;rw[show jh.toArray.any e=jh.any e by simp,h2];exact q
 ·obtain⟨jh,r,il⟩:=I.sqT hq;obtain⟨e,h1,h2⟩:=Fc I (A:=X.A.in1) (by rw[Bm];ext) r rx hf;refine SeqAt.in_tupleAt e il (λy hy=>h1 y (by simpa using hy)) ⟨.bl _,H,I,rfl,?_⟩;rw[show jh.toArray.any e=jh.any e by simp,h2];exact q
def Ov (d:Nat)(hu:X.A.units+(d+1)<cLine):OpR X (L0 .NotIn) (rInD X.K d true):=by
 intro jd s σ H x y v u Q I rx ry h;obtain⟨p,ys,f,rfl,hq,hf,q⟩:=h;cases ry;rcases hq with hq|hq
 ·obtain⟨jh,r,il⟩:=I.sqL hq;obtain⟨e,h1,h2⟩:=Fc I (A:=X.A.in1) (by rw[Bm];ext) r rx hf;refine SeqAt.notIn_listAt e il (λy hy=>h1 y (by simpa using hy)) ⟨.bl _,H,I,rfl,?_⟩;rw[show jh.toArray.any e=jh.any e by simp,h2];exact q
 ·obtain⟨jh,r,il⟩:=I.sqT hq;obtain⟨e,h1,h2⟩:=Fc I (A:=X.A.in1) (by rw[Bm];ext) r rx hf;refine SeqAt.notIn_tupleAt e il (λy hy=>h1 y (by simpa using hy)) ⟨.bl _,H,I,rfl,?_⟩;rw[show jh.toArray.any e=jh.any e by simp,h2];exact q
end
end L2
namespace Pu
open PySem PySem.Spec L2
def L6:PV->Bool
 |.non=>true
 |.bl _=>true
 |.int _=>true
 |.str _=>true
 |_=>false
def cmpb:Nat->PV->Bool
 |0,x=>L6 x
 |d+1,.tup xs=>xs.all (cmpb d)
 |d+1,.lst xs=>xs.all (cmpb d)
 |_+1,x=>L6 x
mutual
def eqP:PV->PV->Bool
 |.non,.non=>true
 |.bl a,.bl b=>a == b
 |.bl a,.int b=>(if a then 1 else 0) == b
 |.int a,.bl b=>a == (if b then 1 else 0)
 |.int a,.int b=>a == b
 |.str a,.str b=>a == b
 |.tup xs,.tup ys=>eqPs xs ys
 |.lst xs,.lst ys=>eqPs xs ys
 |_,_=>false
def eqPs:List PV->List PV->Bool
 |[],[]=>true
 |x::xs,y::ys=>eqP x y&&eqPs xs ys
 |_,_=>false
end
theorem Fd:∀(xs ys:List PV),((B8 (min xs.length ys.length)).all (λj=>match xs[j]?,ys[j]? with|some x,some y=>eqP x y|_,_=>false)&&xs.length == ys.length)=eqPs xs ys
 |[],[]=>rfl
 |[],_::_=>rfl
 |_::_,[]=>rfl
 | x :: xs, y :: ys => by
  have ih:=Fd xs ys;show _=(eqP x y&&eqPs xs ys);rw[<- ih];simp only[F2,Nat.succ_min_succ,List.range_succ_eq_map,List.all_cons,Dv,Function.comp_def,P9,O6];rw[Bool.and_assoc]
  congr 1
  simp
section
variable {K:A6}{G:Gh}{H:Hp}
inductive Sort3 (K:A6)(G:Gh)(H:Hp)(d:Nat)(x:PV)(v:V):Prop where
 |fl (h:V6 v=true) (s:L6 x=true)
 |tp (p:A1) (xs:List PV) (vs:List V) (e:x=.tup xs) (ev:v=.ref p) (h:SqT K H p vs) (r:Reps K G H xs vs) (c:xs.all (cmpb d)=true)
 |ls (p:A1) (xs:List PV) (vs:List V) (e:x=.lst xs) (ev:v=.ref p) (h:SqL K H p vs) (r:Reps K G H xs vs) (c:xs.all (cmpb d)=true)
def d8 (s:L6 x=true)(h:RdV K G H x v):V6 v=true:=by
 cases x with
 |non=>rw[h.non];rfl
 |bl b=>rw[h.bl];rfl
 |int b=>rw[h.int];rfl
 |str b=>rw[h.str];rfl
 |_=>cases s
def Fe (c:cmpb (d+1) x=true)(h:RdV K G H x v):Sort3 K G H d x v:=by
 cases x with
 | tup xs =>
  obtain⟨a,vs,e,t,r⟩:=h.tup;exact .tp a xs vs rfl e t r c
 | lst xs =>
  obtain⟨a,vs,e,t,r⟩:=h.lst;exact .ls a xs vs rfl e t r c
 |non=>exact .fl (d8 c h) c
 |bl _=>exact .fl (d8 c h) c
 |int _=>exact .fl (d8 c h) c
 |str _=>exact .fl (d8 c h) c
 |ty _=>cases c
 |pot _=>cases c
 |scr _=>cases c
 |dct _ _=>cases c
 |fdt _ _=>cases c
def CJ (sx:L6 x=true)(sy:L6 y=true)(hx:RdV K G H x v)(hy:RdV K G H y u):eqP x y=eqV v u:=by
 cases x with
 | non =>
  cases hx.non;cases y with
  |non=>cases hy.non;rfl
  |bl j=>cases hy.bl;rfl
  |int j=>cases hy.int;rfl
  |str j=>cases hy.str;rfl
  |_=>cases sy
 | bl i =>
  cases hx.bl;cases y with
  |non=>cases hy.non;rfl
  |bl j=>cases hy.bl;rfl
  |int j=>cases hy.int;rfl
  |str j=>cases hy.str;rfl
  |_=>cases sy
 | int i =>
  cases hx.int;cases y with
  |non=>cases hy.non;rfl
  |bl j=>cases hy.bl;rfl
  |int j=>cases hy.int;rfl
  |str j=>cases hy.str;rfl
  |_=>cases sy
 | str i =>
  cases hx.str;cases y with
  |non=>cases hy.non;rfl
  |bl j=>cases hy.bl;rfl
  |int j=>cases hy.int;rfl
  |str j=>cases hy.str;rfl
  |_=>cases sy
 |_=>cases sx
def Ff (sy:L6 y=true):eqP (.tup xs) y=false/\eqP (.lst xs) y=false/\eqP y (.tup xs)=false/\eqP y (.lst xs)=false:=by
 cases y <;> first|exact⟨rfl,rfl,rfl,rfl⟩|cases sy
def GY:∀(d:Nat) (x y:PV) (v u:V),cmpb d x=true->cmpb d y=true->RdV K G H x v->RdV K G H y u->EqD K H d v u (eqP x y):=by
 intro d
 induction d with
 |zero=>intro x y v u cx cy hx hy;exact⟨d8 cx hx,d8 cy hy,CJ cx cy hx hy⟩
 | succ d ih =>
  intro x y v u cx cy hx hy
  have el:∀(xs ys:List PV) (vs us:List V),Reps K G H xs vs->Reps K G H ys us->xs.all (cmpb d)=true->ys.all (cmpb d)=true->∀(j:Nat) x' y',vs[j]?=some x'->us[j]?=some y'->EqD K H d x' y' (match xs[j]?,ys[j]? with|some x,some y=>eqP x y|_,_=>false):=by
   intro xs ys vs us r1 r2 c1 c2 j x' y' e1 e2;obtain⟨x1,ex,rx⟩:=r1.get e1;obtain⟨y1,ey,ry⟩:=r2.get e2;rw[ex,ey];exact ih x1 y1 x' y' (B7.mp c1 x1 (G4 ex)) (B7.mp c2 y1 (G4 ey)) (.inl rx) (.inl ry)
  cases Fe cx hx with
  | fl fx sx =>
   cases Fe cy hy with
   |fl fy sy=>exact .inl ⟨fx,fy,CJ sx sy hx hy⟩
   |tp q ys us e ev h r c=>subst e;exact .inr (.inr (.inr ⟨(Ff sx).2.2.1,.inr (.inl ⟨q,us,ev,.inl h,fx⟩)⟩))
   |ls q ys us e ev h r c=>subst e;exact .inr (.inr (.inr ⟨(Ff sx).2.2.2,.inr (.inl ⟨q,us,ev,.inr h,fx⟩)⟩))
  | tp p xs vs e ev h r c =>
   subst e;cases Fe cy hy with
   |fl fy sy=>exact .inr (.inr (.inr ⟨(Ff sy).1,.inl ⟨p,vs,ev,.inl h,fy⟩⟩))
   | tp q ys us e2 ev2 h2 r2 c2 =>
    subst e2;refine .inr (.inl ⟨p,q,vs,us,_,ev,ev2,h,h2,el xs ys vs us r r2 c c2,?_⟩);rw[<- r.length,<- r2.length];exact(Fd xs ys).symm
   |ls q ys us e2 ev2 h2 r2 c2=>subst e2;exact .inr (.inr (.inr ⟨rfl,.inr (.inr (.inl ⟨p,q,vs,us,ev,ev2,h,h2⟩))⟩))
  | ls p xs vs e ev h r c =>
   subst e;cases Fe cy hy with
   |fl fy sy=>exact .inr (.inr (.inr ⟨(Ff sy).2.1,.inl ⟨p,vs,ev,.inr h,fy⟩⟩))
   |tp q ys us e2 ev2 h2 r2 c2=>subst e2;exact .inr (.inr (.inr ⟨rfl,.inr (.inr (.inr ⟨p,q,vs,us,ev,ev2,h,h2⟩))⟩))
   | ls q ys us e2 ev2 h2 r2 c2 =>
    subst e2;refine .inr (.inr (.inl ⟨p,q,vs,us,_,ev,ev2,h,h2,el xs ys vs us r r2 c c2,?_⟩));rw[<- r.length,<- r2.length];exact(Fd xs ys).symm
end
section
variable {T:PotK}{ι:Type}{K:A6}{F:ι->Cx}{e a b c:Expr}{es rest:List Expr}{pe pa pb pc:pE}{pos:Pos}
def grd (b:Bool)(P:Prop):Prop:=match b with|true=>P|false=>False
def X1 {P:Prop}:grd true P=P:=rfl
def grd_i {b:Bool}{P:Prop}(h:b=true)(p:P):grd b P:=by subst h;exact p
def Fg {b:Bool}{P:Prop}(h:grd b P):b=true:=by grind [grd]
def CK {b:Bool}{P:Prop}(h:grd b P):P:=by cases b;exact h.elim;exact h
def gd2 {a b:Bool}{P:Prop}(h1:a=true)(h2:b=true)(p:P):grd a (grd b P):=grd_i h1 (grd_i h2 p)
def wEq (d:Nat):w2:=λx y R=>grd (cmpb d x) (grd (cmpb d y) (R (.bl (eqP x y))))
def wNe (d:Nat):w2:=λx y R=>grd (cmpb d x) (grd (cmpb d y) (R (.bl (!eqP x y))))
def W2.eq (d:Nat):W2 K (rEqD K d false) (wEq d):=λG H x y v u R Q hf rx ry hw k=>⟨_,GY d x y v u (Fg hw) (Fg (CK hw)) rx ry,k _ _ _ (CK (CK hw)) (Same.refl _) rfl⟩
def W2.ne (d:Nat):W2 K (rEqD K d true) (wNe d):=λG H x y v u R Q hf rx ry hw k=>⟨_,GY d x y v u (Fg hw) (Fg (CK hw)) rx ry,k _ _ _ (CK (CK hw)) (Same.refl _) rfl⟩
def memP (x:PV)(ys:List PV):Bool:=ys.any λy=>eqP y x
def wIn (d:Nat)(neg:Bool):w2:=λx y R=>match x,y with
 |.str i,.str j=>R (.bl (if neg then !(!(Cu j i 0 j.length 1).isEmpty) else !(Cu j i 0 j.length 1).isEmpty))
 |x,.lst ys=>cmpb d x=true/\ys.all (cmpb d)=true/\R (.bl (if neg then !memP x ys else memP x ys))
 |x,.tup ys=>cmpb d x=true/\ys.all (cmpb d)=true/\R (.bl (if neg then !memP x ys else memP x ys))
 |_,_=>False
theorem GZ {x:PV}:∀ys:List PV,((B8 ys.length).any λj=>match ys[j]? with|some y=>eqP y x|none=>false)=memP x ys
 |[]=>rfl
 | y :: ys => by
  have ih:=GZ (x:=x) ys;show _=(eqP y x||memP x ys);rw[<- ih];simp only[F2,List.range_succ_eq_map,List.any_cons,Dw,Function.comp_def,P9,O6]
def W2.in_ {K:A6}(d:Nat)(neg:Bool){r:R2}(hr:∀x y H Q,(∃i j,x=.str i/\y=.str j/\Q (.bl (if neg then !(!(Cu j i 0 j.length 1).isEmpty) else !(Cu j i 0 j.length 1).isEmpty)) H)\/rInD K d neg x y H Q->r x y H Q):W2 K r (wIn d neg):=by
 intro G H x y v u R Q hf rx ry hw k;refine hr _ _ _ _ ?_
 have seq:∀(ys:List PV) (p:A1) (us:List V),u=.ref p->(SqL K H p us\/SqT K H p us)->Reps K G H ys us->cmpb d x=true/\ys.all (cmpb d)=true/\R (.bl (if neg then !memP x ys else memP x ys))->rInD K d neg v u H Q:=by
  intro ys p us eu hq r h;refine⟨p,us,λj=>match ys[j]? with|some y=>eqP y x|none=>false,eu,hq,λj z ez=>?_,?_⟩
  ·obtain⟨y1,ey,ry⟩:=r.get ez;dsimp only;rw[ey];exact GY d y1 x z v (B7.mp h.2.1 y1 (G4 ey)) h.1 (.inl ry) rx
  ·rw[<- r.length,GZ];exact k _ _ _ h.2.2 (Same.refl _) rfl
 unfold wIn at hw
 split at hw
 ·exact .inl ⟨_,_,rx.str,ry.str,k _ _ _ hw (Same.refl _) rfl⟩
 ·obtain⟨p,us,eu,hq,r⟩:=ry.lst;exact .inr (seq _ p us eu (.inl hq) r hw)
 ·obtain⟨p,us,eu,hq,r⟩:=ry.tup;exact .inr (seq _ p us eu (.inr hq) r hw)
 ·exact hw.elim
def wLt:w2:=λx y R=>match x,y with|.int i,.int j=>R (.bl (decide (i<j)))|.str i,.str j=>R (.bl (decide (i.cps.toList<j.cps.toList)))|_,_=>False
def wLe:w2:=λx y R=>match x,y with|.int i,.int j=>R (.bl (decide (i<=j)))|.str i,.str j=>R (.bl (!decide (j.cps.toList<i.cps.toList)))|_,_=>False
def wGt:w2:=wI0 λi j=>.bl (decide (j<i))
def wGe:w2:=wI0 λi j=>.bl (decide (j<=i))
def W2.lt:W2 K (λx y H Q=>(rI0 λi j=>.bl (decide (i<j))) x y H Q\/∃i j,x=.str i/\y=.str j/\Q (.bl (decide (i.cps.toList<j.cps.toList))) H) wLt:=by
 intro G H x y v u R Q hf rx ry hw k;unfold wLt at hw
 split at hw
 ·exact .inl ⟨_,_,rx.int,ry.int,k _ _ _ hw (Same.refl _) rfl⟩
 ·exact .inr ⟨_,_,rx.str,ry.str,k _ _ _ hw (Same.refl _) rfl⟩
 ·exact hw.elim
def W2.le:W2 K (λx y H Q=>(rI0 λi j=>.bl (decide (i<=j))) x y H Q\/∃i j,x=.str i/\y=.str j/\Q (.bl (!decide (j.cps.toList<i.cps.toList))) H) wLe:=by
 intro G H x y v u R Q hf rx ry hw k;unfold wLe at hw
 split at hw
 ·exact .inl ⟨_,_,rx.int,ry.int,k _ _ _ hw (Same.refl _) rfl⟩
 ·exact .inr ⟨_,_,rx.str,ry.str,k _ _ _ hw (Same.refl _) rfl⟩
 grind
structure Cmp {ι:Type}(K:A6)(F:ι->Cx)(op:CmpOp)(w:w2):Prop where
 ex:∃r,(∀z,OpR (F z) (L0 op) r)/\W2 K r w
def cEq (d:Nat)(hr:∀z,Room k (F z).A)(hd:d<=30:=by decide)(hK:∀z,(F z).K=K:=by intro _;rfl):Cmp K F .Eq (wEq d):=⟨_,λz=>hK z▸op_eqD d (by have:=(hr z).units;ext),W2.eq d⟩
def cNe (d:Nat)(hr:∀z,Room k (F z).A)(hd:d<=30:=by decide)(hK:∀z,(F z).K=K:=by intro _;rfl):Cmp K F .NotEq (wNe d):=⟨_,λz=>hK z▸op_neD d (by have:=(hr z).units;ext),W2.ne d⟩
def cIn (d:Nat)(hr:∀z,Room k (F z).A)(hd:d<=30:=by decide)(hK:∀z,(F z).K=K:=by intro _;rfl):Cmp K F .In (wIn d false):=⟨_,λz=>Nm.or (hK z▸op_inD d (by have:=(hr z).units;ext)),W2.in_ d false λ_ _ _ _ h=>h⟩
def cNotIn (d:Nat)(hr:∀z,Room k (F z).A)(hd:d<=30:=by decide)(hK:∀z,(F z).K=K:=by intro _;rfl):Cmp K F .NotIn (wIn d true):=⟨_,λz=>NG.or (hK z▸Ov d (by have:=(hr z).units;ext)),W2.in_ d true λ_ _ _ _ h=>h⟩
def cLt:Cmp K F .Lt wLt:=⟨_,λ_=>op_lt.or Nl,W2.lt⟩
def cLe:Cmp K F .LtE wLe:=⟨_,λ_=>op_le.or Oo,W2.le⟩
def cGt:Cmp K F .Gt wGt:=⟨_,λ_=>op_gt,W2.I0 λ_ _ _ _=>rfl⟩
def cGe:Cmp K F .GtE wGe:=⟨_,λ_=>op_ge,W2.I0 λ_ _ _ _=>rfl⟩
def qe_cmp (hc:Cmp K F op w)(ha:QE T K F a pa)(hb:QR T K F b pb)(hm:Bw op b=false):QE T K F (.Compare a [op] [b] pos) (qOp w pa pb):=by
 obtain⟨r,ho,hw⟩:=hc.ex;obtain⟨ta,h1,h2⟩:=ha;obtain⟨tb,h3,h4⟩:=hb;exact⟨_,λz=>Gz (ho z) (h1 z) (h3 z) hm,DM hw h2 h4⟩
def qB (pe:pE):pT:=λenv n R=>pe env n λx jk n'=>match x with|.bl b=>R b jk n'|_=>False
def ok_b (h:EOk K T t pe):TOk K T (tB t) (qB pe):=λC G σ H env n R Q hK hT S hp k=>by
 refine ↥h λx jk n' v H' r S' rp f=>?_;cases x with
 |bl b=>exact⟨b,rp,k _ _ _ _ r S' f⟩
 |_=>exact r.elim
def CL (h:EOk K T t pe):TOk K T (GA t) (qB pe):=λC G σ H env n R Q hK hT S hp k=>by
 refine ↥h λx jk n' v H' r S' rp f=>?_;cases x with
 |bl b=>exact⟨b,rp,k _ _ _ _ r S' f⟩
 |_=>exact r.elim
def Kp (h:QE T K F e pe)(he:∀z whole,isTrue e (F z).env whole=(do let v ← whole;standAt e.pos;w8 [v] (truthy v)):=by intro _ _;rfl):QT T K F e (qB pe):=by
 obtain⟨t,h1,h2⟩:=h;exact⟨_,λz=>pt_val (h1 z) (he z),ok_b h2⟩
def CM (hc:Cmp K F op w)(ha:QE T K F a pa)(hb:QR T K F b pb)(hm:Bw op b=false):QT T K F (.Compare a [op] [b] pos) (qB (qOp w pa pb)):=by
 obtain⟨r,ho,hw⟩:=hc.ex;obtain⟨ta,h1,h2⟩:=ha;obtain⟨tb,h3,h4⟩:=hb;exact⟨_,λz=>BH (ho z) (h1 z) (h3 z) hm,CL (DM hw h2 h4)⟩
def Ow (hc:Cmp K F op w)(ha:QR T K F a pa)(hb:QR T K F b pb)(hm:Bw op b=false):QT T K F (.Compare a [op] [b] pos) (qB (qOpR w pa pb)):=by
 obtain⟨r,ho,hw⟩:=hc.ex;obtain⟨ta,h1,h2⟩:=ha;obtain⟨tb,h3,h4⟩:=hb;exact⟨_,λz=>BH (ho z) (h1 z) (h3 z) hm,CL (ok_opR hw h2 h4)⟩
def M7 (w w':w2)(pa pb pc:pE):pE:=λenv n R=>pa env n λx je n1=>pb je n1 λy jf n2=>w x y λz=>match z with|.bl k=>if k=true then pc jf n2 λu jg n3=>w' y u λz=>R z jg n3 else R (.bl false) jf n2|_=>False
def Kq (hw:W2 K r w)(hw':W2 K r' w')(ha:EOk K T ta pa)(hb:EOk K T tb pb)(hc:EOk K T tc pc):EOk K T (GB r r' ta tb tc) (M7 w w' pa pb pc):=λC G σ H env n R Q hK hT S hp k=>by
 refine ↥ha λx je n1 v H1 p1 S1 r1 f1=>?_;refine hb C G σ H1 je n1 _ _ hK hT S1 p1 λy jf n2 u H2 p2 S2 r2 f2=>?_;subst hK;refine hw G H2 x y v u _ _ (λp hp=>S2.fresh hp) (.inl (r1.fr f2)) (.inl r2) p2 λz v' H' rz s rv=>?_;cases z with
 | bl kk =>
  refine⟨kk,rv,?_⟩;cases kk with
  |false=>exact k _ _ _ _ _ rz (S2.same s) rfl ((f1.trans f2).trans (Fr.of s))
  | true =>
   refine hc C G σ H' jf n2 _ _ rfl hT (S2.same s) rz λc3 jg n3 v3 H3 p3 S3 r3 f3=>?_;exact hw' G H3 y c3 u v3 _ _ (λp hp=>S3.fresh hp) (.inl ((r2.same s).fr f3)) (.inl r3) p3 λz v' H4 rz s4 rv=>k _ _ _ _ _ rz (S3.same s4) rv ((((f1.trans f2).trans (Fr.of s)).trans f3).trans (Fr.of s4))
 |_=>exact rz.elim
def Ox (hc:Cmp K F op w)(hc':Cmp K F op' w')(ha:QE T K F a pa)(hb:QE T K F b pb)(hcc:QE T K F c pc)(hm:lastMarks [op,op'] [b,c]=false):QE T K F (.Compare a [op,op'] [b,c] pos) (M7 w w' pa pb pc):=by
 obtain⟨r,ho,hw⟩:=hc.ex;obtain⟨r',ho',hw'⟩:=hc'.ex;obtain⟨ta,a1,a2⟩:=ha;obtain⟨tb,b1,b2⟩:=hb;obtain⟨tc,c1,c2⟩:=hcc;exact⟨_,λz=>Nn (ho z) (ho' z) (a1 z) (b1 z) (c1 z) hm,Kq hw hw' a2 b2 c2⟩
def Oy (hc:Cmp K F op w)(hc':Cmp K F op' w')(ha:QE T K F a pa)(hb:QE T K F b pb)(hcc:QE T K F c pc)(hm:lastMarks [op,op'] [b,c]=false):QT T K F (.Compare a [op,op'] [b,c] pos) (qB (M7 w w' pa pb pc)):=by
 obtain⟨r,ho,hw⟩:=hc.ex;obtain⟨r',ho',hw'⟩:=hc'.ex;obtain⟨ta,a1,a2⟩:=ha;obtain⟨tb,b1,b2⟩:=hb;obtain⟨tc,c1,c2⟩:=hcc;exact⟨_,λz=>No (ho z) (ho' z) (a1 z) (b1 z) (c1 z) hm,CL (Kq hw hw' a2 b2 c2)⟩
variable {pt pu:pT}
def qAnd (t u:pT):pT:=λenv n R=>t env n λb je n1=>if b=true then u je n1 R else R false je n1
def qOr (t u:pT):pT:=λenv n R=>t env n λb je n1=>if b=true then R true je n1 else u je n1 R
def qNot (t:pT):pT:=λenv n R=>t env n λb je n1=>R (!b) je n1
def ok_and (h:TOk K T t pt)(h':TOk K T u pu):TOk K T (tAnd t u) (qAnd pt pu):=λC G σ H env n R Q hK hT S hp k=>by
 refine ↥h λb je n1 H1 p1 S1 f1=>?_;cases b with
 |true=>exact h' C G σ H1 je n1 _ _ hK hT S1 p1 λb jf n2 H2 p2 S2 f2=>k _ _ _ _ p2 S2 (f1.trans f2)
 |false=>exact k _ _ _ _ p1 S1 f1
def ok_or (h:TOk K T t pt)(h':TOk K T u pu):TOk K T (tOr t u) (qOr pt pu):=λC G σ H env n R Q hK hT S hp k=>by
 refine ↥h λb je n1 H1 p1 S1 f1=>?_;cases b with
 |false=>exact h' C G σ H1 je n1 _ _ hK hT S1 p1 λb jf n2 H2 p2 S2 f2=>k _ _ _ _ p2 S2 (f1.trans f2)
 |true=>exact k _ _ _ _ p1 S1 f1
def ok_not {K:A6}{t:TT}(h:TOk K T t pt):TOk K T (tNot t) (qNot pt):=λC G σ H env n R Q hK hT S hp k=>↥h λb je n1 H1 p1 S1 f1=>k _ _ _ _ p1 S1 f1
def Ks (ha:QT T K F a pt):QW T K F (.BoolOp .And [a] pos) pt:=let ⟨t,h1,h2⟩:=ha;⟨t,λz=>M_ (h1 z),h2⟩
def qw_or1 (ha:QT T K F a pt):QW T K F (.BoolOp .Or [a] pos) pt:=let ⟨t,h1,h2⟩:=ha;⟨t,λz=>pw_or1 (h1 z),h2⟩
def Kt (ha:QT T K F a pt)(hb:QW T K F (.BoolOp .And (b::rest) pos) pu):QW T K F (.BoolOp .And (a::b::rest) pos) (qAnd pt pu):=let ⟨t,h1,h2⟩:=ha;let ⟨u,h3,h4⟩:=hb;⟨_,λz=>pw_and (h1 z) (h3 z),ok_and h2 h4⟩
def qw_or (ha:QT T K F a pt)(hb:QW T K F (.BoolOp .Or (b::rest) pos) pu):QW T K F (.BoolOp .Or (a::b::rest) pos) (qOr pt pu):=let ⟨t,h1,h2⟩:=ha;let ⟨u,h3,h4⟩:=hb;⟨_,λz=>pw_or (h1 z) (h3 z),ok_or h2 h4⟩
def QW.qt (h:QW T K F e pt):QT T K F e pt:=let ⟨t,h1,h2⟩:=h;⟨t,λz=>(h1 z).pt,h2⟩
def Ku (ha:QT T K F a pt):QT T K F (.UnaryOp .Not a pos) (qNot pt):=let ⟨t,h1,h2⟩:=ha;⟨_,λz=>pt_not (h1 z),ok_not h2⟩
def G8 (pa pb:pE):pE:=λenv n R=>pa env n λx je n1=>match x with|.bl b=>if b=true then pb je n1 R else R (.bl false) je n1|_=>False
def T4 (pa:pE):pE:=λenv n R=>pa env n λx je n1=>match x with|.bl b=>R (.bl (!b)) je n1|_=>False
def qe_one {op}(h:QE T K F a pa):QE T K F (.BoolOp op [a] pos) pa:=let ⟨t,h1,h2⟩:=h;⟨t,λz=>pe_one (h1 z),h2⟩
def qe_and (ha:QE T K F a pa)(hb:QE T K F (.BoolOp .And (b::rest) pos) pb):QE T K F (.BoolOp .And (a::b::rest) pos) (G8 pa pb):=by
 obtain⟨t,h1,h2⟩:=ha;obtain⟨u,h3,h4⟩:=hb;refine⟨_,λz=>pe_and (h1 z) (h3 z),⇑?_⟩;refine ↥h2 λx je n1 v H1 p1 S1 r1 f1=>?_;cases x with
 | bl c =>
  refine⟨c,r1,?_⟩;cases c with
  |true=>exact h4 C G σ H1 je n1 _ _ hK hT S1 p1 λx jf n2 v H2 p2 S2 r2 f2=>k _ _ _ _ _ p2 S2 r2 (f1.trans f2)
  |false=>exact k _ _ _ _ _ p1 S1 rfl f1
 |_=>exact p1.elim
def qe_not (ha:QE T K F a pa):QE T K F (.UnaryOp .Not a pos) (T4 pa):=by
 obtain⟨t,h1,h2⟩:=ha;refine⟨_,λz=>pe_not (h1 z),⇑?_⟩;refine ↥h2 λx je n1 v H1 p1 S1 r1 f1=>?_;cases x with
 |bl c=>exact⟨c,r1,k _ _ _ _ _ p1 S1 rfl f1⟩
 |_=>exact p1.elim
def qIf (t:pT)(pa pb:pE):pE:=λenv n R=>t env n λb je n1=>if b=true then pa je n1 R else pb je n1 R
def qe_if (hc:QT T K F c pt)(ha:QE T K F a pa)(hb:QE T K F b pb):QE T K F (.IfExp c a b pos) (qIf pt pa pb):=by
 obtain⟨tc,c1,c2⟩:=hc;obtain⟨t,h1,h2⟩:=ha;obtain⟨u,h3,h4⟩:=hb;refine⟨_,λz=>JD (c1 z) (h1 z) (h3 z),⇑?_⟩;refine ↥c2 λd je n1 H1 p1 S1 f1=>?_;cases d with
 |true=>exact h2 C G σ H1 je n1 _ _ hK hT S1 p1 λx jf n2 v H2 p2 S2 r2 f2=>k _ _ _ _ _ p2 S2 r2 (f1.trans f2)
 |false=>exact h4 C G σ H1 je n1 _ _ hK hT S1 p1 λx jf n2 v H2 p2 S2 r2 f2=>k _ _ _ _ _ p2 S2 r2 (f1.trans f2)
variable {pl pr:pA}
def qNil:pA:=λenv n R=>R [] env n
def A0 (pe:pE)(pr:pA):pA:=λenv n R=>pe env n λx je n1=>pr je n1 λxs jf n2=>R (x::xs) jf n2
def Z3:QA T K F [] qNil:=⟨_,λ_=>K5,λC G σ H env n R Q hK hT S hp k=>k _ _ _ _ _ hp S Reps.nil Fr.refl⟩
def Oz (h:EOk K T t pe)(h':AOk K T u pr):AOk K T (d7 t u) (A0 pe pr):=λC G σ H env n R Q hK hT S hp k=>by
 refine ↥h λx je n1 v H1 p1 S1 r1 f1=>?_;exact h' C G σ H1 je n1 _ _ hK hT S1 p1 λxs jf n2 vs H2 p2 S2 r2 f2=>k _ _ _ _ _ p2 S2 (.cons (r1.fr f2) r2) (f1.trans f2)
def E9:Expr->Bool
 |.Starred ..=>false
 |_=>true
def C9 (h:E9 e=true):F5 (e::es) env=(false,eval e env)::F5 es env:=by
 cases e <;> first|rfl|cases h
def M8 (ha:QE T K F e pe)(hr:QA T K F es pr)(h:E9 e=true:=by rfl):QA T K F (e::es) (A0 pe pr):=by
 obtain⟨t,h1,h2⟩:=ha;obtain⟨u,h3,h4⟩:=hr;exact⟨_,λz=>E8 (h1 z) (h3 z) (C9 h),Oz h2 h4⟩
def qTup (pa:pA):pE:=λenv n R=>pa env n λxs je n1=>xs.length<=1000000/\R (.tup xs) je n1
def qLst (pa:pA):pA:=λenv n R=>pa env n λxs je n1=>xs.length<=1000000/\R xs je n1
def qL (pn:pA):pE:=λenv n R=>pn env n λxs je n1=>R (.lst xs) je n1
def Fh {x1}(h:QA T K F es pl):QE T K F (.Tuple es x1 pos) (qTup pl):=by
 obtain⟨t,h1,h2⟩:=h;refine⟨_,λz=>JN (h1 z),⇑?_⟩;refine ↥h2 λxs je n1 vs H1 p1 S1 r1 f1=>⟨by rw[<- r1.length];exact mil p1.1,λp hp=>?_⟩;exact k _ _ _ _ _ p1.2 (S1.same (Same.lay1 hp)) (CH (S1.fresh hp) hp r1) (f1.trans (Fr.of (Same.lay1 hp)))
def Fi (h:QA T K F es pl):QN T K F (.List es pos) (qLst pl):=by
 obtain⟨t,h1,h2⟩:=h;refine⟨_,λz=>JO (h1 z),⇑?_⟩;exact ↥h2 λxs je n1 vs H1 p1 S1 r1 f1=>⟨by rw[<- r1.length];exact mil p1.1,λp hp=>k _ _ _ _ _ _ p1.2 S1 f1 hp r1⟩
def QN.ee (h:QN T K F e pl):QE T K F e (qL pl):=by
 obtain⟨t,h1,h2⟩:=h;refine⟨t,h1,⇑?_⟩;refine ↥h2 λxs je n1 a vs Hb p1 S1 f1 hn r1=>?_;exact k _ _ _ _ _ p1 (S1.same (Same.lay1 hn)) (DN (S1.fresh hn) hn r1) (f1.trans (Fr.of (Same.lay1 hn)))
def Fj (h:ROk K T t pe)(hK:C.K=K)(hT:C.T=T)(S:SR C G σ H env n)(hp:pe env n R)
   (k:∀x jk n' v H',R x jk n'->SR C G σ H' jk n'->RdS C G σ H' jk x v->Fr G H H'->Q [v] H'):d7 t tNil σ H Q:=
 ↥h λx je n1 v H1 p1 S1 r1 f1=>k _ _ _ _ _ p1 S1 r1 f1
end
end Pu
end
section
namespace HT
open PySem PySem.Spec PyProof.Rows
section
variable {prog:D4}{w:C0}{A:D9}{E:A2->A4->Prop}{s:A4}
def getItem_tuple_whole {lo hi:Option Int}(ht:IsTup s.heap t items)(hs:s.heap.IsSliceOf sl vl vu .none)(pl:IsPart vl lo)(pu:IsPart vu hi)
   (hw:sIx items.size 0 lo=0/\sIx items.size items.size hi=items.size) (h:Q (.ref t) s):A5 (A7 prog w) A (k6 (.ref t) (.ref sl)) Q E s:=by
 obtain⟨os,hos,hcs,hds⟩:=id hs;have hTs:s.TypeIs (.ref sl) "slice":=⟨os,hos,hcs⟩;have hTt:s.TypeIs (.ref t) "tuple":=ht.typeIs;unfold k6
 try with_reducible refine R3 ?_
 first|refine A3 (A9 ?_)|skip
 refine A3 (wpAny_sequenceKey ht.typeIs 0b0 ?_)
 refine A3 (Ag (name:=B1 "__getitem__") ht.typeIs Co
   (j9 Co ht.typeIs entry_tuple_getitem ?_ (args_tuple_getitem _ _)))
 show A5 _ _ (Gn (.ref t)>>=_) _ _ s;refine A3 (tupleItemsOf_ ht ?_);refine A3 (AO hTs ?_);rw[jw 0b0];refine A3 (JV hs pl pu ?_)
 have hyes:(((sIx items.size 0 lo:Nat):Int) == 0&&(1:Int) == 1&&(sIx items.size items.size hi-sIx items.size 0 lo) == items.size)=true:=by
  rw[hw.1,hw.2];simp
 show A5 _ _ (if(((sIx items.size 0 lo:Nat):Int) == 0&&(1:Int) == 1&&(sIx items.size items.size hi-sIx items.size 0 lo) == items.size)=true then _ else _) _ _ s;rw[jw hyes];unfold Builtin.Tuple.tupleIsExact;refine A3 (A3 (AO hTt (A9 ?_)));rw[jw (by rfl)];exact A3 (p6 (A9 ⟨_,rfl,A9 h⟩))
end
end HT
namespace L2
open PySem PySem.Spec PyProof.Rows
section
variable {X:Cx}
def rSlTA (K:A6):V->Option Int->Option Int->Hp->VK->Prop:=λx lo hi H Q=>∃a xs,x=.ref a/\SqT K H a xs/\
 (cutV xs lo hi=xs->Q (.ref a) H)/\∀p,H p=none->Q (.ref p) (upd H p (.tup (cutV xs lo hi)))
def OA:SlR X (rSlTA X.K):=by
 intro jd s σ H x v vl vu lo hi sl Q I rx hs pl pu h;obtain⟨a,xs,rfl,hx,h1,h2⟩:=h
 by_cases hw:HT.sIx xs.length 0 lo=0/\HT.sIx xs.length xs.length hi=xs.length
 ·cases rx;obtain⟨jh,r,ht,hz⟩:=I.tuple hx;have hlen:jh.toArray.size=xs.length:=by rw[G9];exact r.length.symm
  refine⟨"tuple",_,PyProof.Rows.slot_tuple_getitem.lookup,ht.typeIs,?_⟩;refine HT.getItem_tuple_whole ht hs pl pu (by rw[hlen];exact hw) ⟨.ref a,H,I,rfl,h1 ?_⟩;unfold cutV;rw[hw.1,hw.2];simp
 ·exact sl_tup jd s σ H (.ref a) v vl vu lo hi sl Q I rx hs pl pu ⟨a,xs,rfl,hx,hw,h2⟩
end
end L2
namespace Pu
open PySem PySem.Spec L2
section
variable {T:PotK}{ι:Type}{K:A6}{F:ι->Cx}{e a b c:Expr}{es rest:List Expr}{pe pa pb pc:pE}{pos:Pos}{pl pr:pA}
def wIx:w2:=λx y R=>match x,y with
 |.lst xs,.int i=>match atI xs i with|some z=>R z|none=>False
 |.tup xs,.int i=>match atI xs i with|some z=>R z|none=>False
 |.scr ns,.int i=>match atI ns i with|some z=>R (.int z)|none=>False
 |.str z,.int i=>z.length<=1000000/\match atI z.cps.toList i with|some c=>R (.str ⟨#[c]⟩)|none=>False
 |_,_=>False
def Kv (r:Reps K G H xs vs)(h:atI xs i=some z):∃v,atI vs i=some v/\Rep K G H z v:=by
 unfold atI at h ⊢;rw[<- r.length];cases e:ixN xs.length i with
 |none=>rw[e] at h;cases h
 | some j =>
  rw[e] at h;exact r.get' h
def DP (h:RdV K G H (.scr ns) v):∃a,v=.ref a/\SqL K H a (ns.map V.int):=by
 obtain⟨a,e,h⟩:=h.rep (λ_ z=>nomatch z);refine⟨a,e,?_⟩;rcases h with⟨_,o,h⟩|h
 ·exact .inl (.inr ⟨o,h⟩)
 ·exact .inr h
def W2.ix:W2 K (rIx K) wIx:=by
 intro G H x y v u R Q hf rx ry hw k;unfold wIx at hw
 split at hw
 ·rename_i xs i;obtain⟨a,vs,ev,hq,r⟩:=rx.lst;cases ez:atI xs i with
  |none=>rw[ez] at hw;exact hw.elim
  | some z =>
   rw[ez] at hw;obtain⟨v',e1,r1⟩:=Kv r ez;exact .inl ⟨a,vs,i,v',ev,ry.int,hq,e1,k _ _ _ hw (Same.refl _) r1⟩
 ·rename_i xs i;obtain⟨a,vs,ev,hq,r⟩:=rx.tup;cases ez:atI xs i with
  |none=>rw[ez] at hw;exact hw.elim
  | some z =>
   rw[ez] at hw;obtain⟨v',e1,r1⟩:=Kv r ez;exact .inr (.inl ⟨a,vs,i,v',ev,ry.int,hq,e1,k _ _ _ hw (Same.refl _) r1⟩)
 ·rename_i ns i;obtain⟨a,ev,hq⟩:=DP rx;cases ez:atI ns i with
  |none=>rw[ez] at hw;exact hw.elim
  | some z =>
   rw[ez] at hw;refine .inl ⟨a,_,i,.int z,ev,ry.int,hq,?_,k _ _ _ hw (Same.refl _) rfl⟩;unfold atI at ez ⊢;rw[B0];cases e:ixN ns.length i with
   |none=>rw[e] at ez;cases ez
   | some j =>
    rw[e] at ez;show(ns.map V.int)[j]?=_;rw[L4,show ns[j]?=some z from ez]
    rfl
 ·rename_i z i;obtain⟨hz,hw⟩:=hw;cases ez:atI z.cps.toList i with
  |none=>rw[ez] at hw;exact hw.elim
  | some c =>
   rw[ez] at hw;exact .inr (.inr ⟨z,i,c,rx.str,ry.int,mil hz,ez,k _ _ _ hw (Same.refl _) rfl⟩)
 ·exact hw.elim
def Fk (ha:QE T K F a pa)(hb:QE T K F b pb)(hs:J_ b:=by exact λ_ _=>rfl)(hK:∀z,(F z).K=K:=by intro _;rfl):QE T K F (.Subscript a b pos) (qOp wIx pa pb):=by
 obtain⟨ta,h1,h2⟩:=ha;obtain⟨tb,h3,h4⟩:=hb.r;exact⟨_,λz=>Bk (hK z▸ix_seq) (h1 z) (h3 z) hs,DM W2.ix h2 h4⟩
abbrev pO:=Env->Nat->(Option Int->Env->Nat->Prop)->Prop
def qNo:pO:=λenv n R=>R none env n
def D5 (pe:pE):pO:=λenv n R=>pe env n λx je n1=>match x with|.int i=>R (some i) je n1|_=>False
def OOk (K:A6)(T:PotK)(t:TO)(po:pO):Prop:=∀(C:Ct) (G:Gh) (σ:St) (H:Hp) (env:Env) (n:Nat) (R:Option Int->Env->Nat->Prop) (Q:Option Int->Hp->Prop),C.K=K->C.T=T->SR C G σ H env n->po env n R->
 (∀x jk n' H',R x jk n'->SR C G σ H' jk n'->Fr G H H'->Q x H')->t σ H Q
inductive QO {ι:Type}(T:PotK)(K:A6)(F:ι->Cx)(e:Option Expr)(po:pO):Prop
 |mk t (a:(∀z,PO (F z) e t)) (b:OOk K T t po):QO T K F e po
def n6:QO T K F none qNo:=⟨_,λ_=>JW,λC G σ H env n R Q hK hT S hp k=>k _ _ _ _ hp S Fr.refl⟩
def X2 (h:QE T K F e pe):QO T K F (some e) (D5 pe):=by
 obtain⟨t,h1,h2⟩:=h;refine⟨_,λz=>JX (h1 z),⇑?_⟩;refine ↥h2 λx je n1 v H1 p1 S1 r1 f1=>?_;cases x with
 |int i=>exact⟨i,r1,k _ _ _ _ p1 S1 f1⟩
 |_=>exact p1.elim
def cutP {α:Type}(xs:List α)(lo hi:Option Int):List α:=(xs.drop (HT.sIx xs.length 0 lo)).take (HT.sIx xs.length xs.length hi-HT.sIx xs.length 0 lo)
def Reps.cut (r:Reps K G H xs vs)(lo hi:Option Int):Reps K G H (cutP xs lo hi) (cutV vs lo hi):=by
 unfold cutP cutV;rw[<- r.length];exact(r.drop _).take _
def wSl (x:PV)(lo hi:Option Int)(R:PV->Prop):Prop:=match x with
 |.lst xs=>R (.lst (cutP xs lo hi))
 |.scr ns=>R (.lst ((cutP ns lo hi).map PV.int))
 |.tup xs=>R (.tup (cutP xs lo hi))
 |.str z=>z.length<=1000000/\R (.str (Ay z lo hi))
 |_=>False
def qSl (pe:pE)(pl ph:pO):pE:=λenv n R=>pe env n λx je n1=>pl je n1 λlo jf n2=>ph jf n2 λhi jg n3=>wSl x lo hi λz=>R z jg n3
theorem G_ {K:A6}{G:Gh}{H:Hp}:∀ns:List Int,Reps K G H (ns.map PV.int) (ns.map V.int)
 |[]=>rfl
 |i::ns=>⟨.int i,ns.map V.int,rfl,rfl,G_ ns⟩
def Kw {α β:Type}(f:α->β)(xs:List α)(lo hi:Option Int):cutP (xs.map f) lo hi=(cutP xs lo hi).map f:=by simp[cutP]
def sl_ok (hf:∀p,H p=none->p∉G.M)(rx:RdV K G H x v)(hw:wSl x lo hi R)(k:∀z v' H',R z->Same H H'->Rep K G H' z v'->Q v' H') :
   rSlL K v lo hi H Q\/rSlTA K v lo hi H Q\/rSlS v lo hi H Q:=by
 unfold wSl at hw
 split at hw
 ·obtain⟨a,vs,ev,hq,r⟩:=rx.lst;exact .inl ⟨a,vs,ev,hq,λp hp=>k _ _ _ hw (Same.lay1 hp) (DN (hf p hp) hp (r.cut lo hi))⟩
 ·rename_i ns;obtain⟨a,ev,hq⟩:=DP rx;refine .inl ⟨a,_,ev,hq,λp hp=>k _ _ _ hw (Same.lay1 hp) (DN (hf p hp) hp ?_)⟩;have:=(G_ (K:=K) (G:=G) (H:=H) ns).cut lo hi;rw[Kw] at this;exact this
 ·obtain⟨a,vs,ev,t,r⟩:=rx.rep (λ_ z=>nomatch z);refine .inr (.inl ⟨a,vs,ev,t.sq,λz=>k _ _ _ hw (Same.refl _) ?_,λp hp=>k _ _ _ hw (Same.lay1 hp) (CH (hf p hp) hp (r.cut lo hi))⟩);have rc:=r.cut lo hi;rw[z] at rc;exact⟨a,vs,rfl,t,rc⟩
 ·exact .inr (.inr ⟨_,rx.str,mil hw.1,k _ _ _ hw.2 (Same.refl _) rfl⟩)
 ·exact hw.elim
def d9 (he:QE T K F e pe)(hl:QO T K F lo ql)(hh:QO T K F hi qh)(hK:∀z,(F z).K=K:=by intro _;rfl):QE T K F (.Subscript e (.Slice lo hi none p2) pos) (qSl pe ql qh):=by
 obtain⟨t,h1,h2⟩:=he;obtain⟨tl,l1,l2⟩:=hl;obtain⟨th,u1,u2⟩:=hh;refine⟨_,λz=>JY ((hK z▸Ka).or ((hK z▸OA).or sl_str)) (h1 z) (l1 z) (u1 z),⇑?_⟩;refine ↥h2 λx je n1 v H1 p1 S1 r1 f1=>?_;refine l2 C G σ H1 je n1 _ _ hK hT S1 p1 λlo jf n2 H2 p2 S2 f2=>?_;refine u2 C G σ H2 jf n2 _ _ hK hT S2 p2 λhi jg n3 H3 p3 S3 f3=>?_;exact sl_ok (λp hp=>S3.fresh hp) (.inl ((r1.fr f2).fr f3)) p3 λz v' H' rz s rv=>k _ _ _ _ _ rz (S3.same s) rv (((f1.trans f2).trans f3).trans (Fr.of s))
def WA1 (K:A6)(r:List V->Hp->VK->Prop)(w:w1):Prop:=∀(G:Gh) (H:Hp) (x:PV) (v:V) (R:PV->Prop) (Q:VK),(∀p,H p=none->p∉G.M)->RdV K G H x v->w x R->
 (∀z v' H',R z->Same H H'->Rep K G H' z v'->Q v' H')->r [v] H Q
def Kx (hw:WA1 K r w)(h:ROk K T t pe):EOk K T (tCB r (d7 t tNil)) (qUn w pe):=λC G σ H env n R Q hK hT S hp k=>by
 refine Fj h hK hT S hp λx je n1 v H1 p1 S1 r1 f1=>?_;subst hK;exact hw G H1 x v _ _ (λp hp=>S1.fresh hp) (r1.rd S1) p1 λz v' H' rz s rv=>k _ _ _ _ _ rz (S1.same s) rv (f1.trans (Fr.of s))
def Fm {id:String}(hc:∀z,M6 (F z) (.builtin id) r)(hw:WA1 K r w)(hg:∀z,Gl (F z) x)(hm:∀z,(F z).mg x=none)(hv:K7 x=some (.builtin id))(ha:QR T K F e pe)(hs:E9 e=true:=by rfl)(hn:x≠"__name__":=by decide)(hdb:(x == ("__debug__":Str))=false:=by decide) :
   QE T K F (.Call (.Name x p) [e] [] pos) (qUn w pe):=by
 obtain⟨t,h1,h2⟩:=ha;exact⟨_,λz=>Bi (hc z) (hg z) (hm z) hv (E8 (h1 z) K5 (C9 hs)) hn hdb (C9 hs),Kx hw h2⟩
def Ha {id:String}(hc:∀z,M6 (F z) (.type id) r)(hw:WA1 K r w)(hg:∀z,Gl (F z) x)(hm:∀z,(F z).mg x=none)(hv:K7 x=some (.type id))(ha:QR T K F e pe)(hs:E9 e=true:=by rfl)(hn:x≠"__name__":=by decide)(hdb:(x == ("__debug__":Str))=false:=by decide) :
   QE T K F (.Call (.Name x p) [e] [] pos) (qUn w pe):=by
 obtain⟨t,h1,h2⟩:=ha;exact⟨_,λz=>GE (hc z) (hg z) (hm z) hv (E8 (h1 z) K5 (C9 hs)) hn hdb (C9 hs),Kx hw h2⟩
def wLen:w1:=λx R=>match x with
 |.lst xs=>R (.int xs.length)
 |.tup xs=>R (.int xs.length)
 |.scr xs=>R (.int xs.length)
 |.str z=>z.length<=1000000/\R (.int z.length)
 |_=>False
def WA1.len:WA1 K (λxs H Q=>(∃p ys,xs=[.ref p]/\(SqL K H p ys\/SqT K H p ys)/\Q (.int ys.length) H)\/∃z,xs=[.str z]/\z.length<=B5/\Q (.int z.length) H) wLen:=by
 intro G H x v R Q hf rx hw k;unfold wLen at hw
 split at hw
 ·obtain⟨a,vs,ev,hq,r⟩:=rx.lst;exact .inl ⟨a,vs,by rw[ev],.inl hq,k _ _ _ hw (Same.refl _) (by rw[r.length];rfl)⟩
 ·obtain⟨a,vs,ev,hq,r⟩:=rx.tup;exact .inl ⟨a,vs,by rw[ev],.inr hq,k _ _ _ hw (Same.refl _) (by rw[r.length];rfl)⟩
 ·obtain⟨a,ev,hq⟩:=DP rx;exact .inl ⟨a,_,by rw[ev],.inl hq,k _ _ _ hw (Same.refl _) (by rw[B0];rfl)⟩
 ·exact .inr ⟨_,by rw[rx.str],mil hw.1,k _ _ _ hw.2 (Same.refl _) rfl⟩
 ·exact hw.elim
def Fn (hg:∀z,Gl (F z) "len")(hm:∀z,(F z).mg "len"=none)(ha:QR T K F e pe)(hs:E9 e=true:=by rfl)(hK:∀z,(F z).K=K:=by intro _;rfl):QE T K F (.Call (.Name "len" p) [e] [] pos) (qUn wLen pe):=Fm (λz=>(hK z▸Kb).or NH) WA1.len hg hm Kk ha hs
def wAbs:w1:=λx R=>match x with|.int i=>R (.int (if i<0 then -i else i))|_=>False
def qe_abs {p:Pos}(hg:∀z,Gl (F z) "abs")(hm:∀z,(F z).mg "abs"=none)(ha:QR T K F e pe)(hs:E9 e=true):QE T K F (.Call (.Name "abs" p) [e] [] pos) (qUn wAbs pe):=Fm (λ_=>GC) (λG H x v R Q hf rx hw k=>by
 unfold wAbs at hw
 split at hw
 ·exact⟨_,by rw[rx.int],k _ _ _ hw (Same.refl _) rfl⟩
 ·exact hw.elim) hg hm GP ha hs
def wInt:w1:=λx R=>match x with|.int i=>R (.int i)|.bl b=>R (.int (if b then 1 else 0))|_=>False
def OB {p:Pos}(hg:∀z,Gl (F z) "int")(hm:∀z,(F z).mg "int"=none)(ha:QR T K F e pe)(hs:E9 e=true):QE T K F (.Call (.Name "int" p) [e] [] pos) (qUn wInt pe):=Ha (λ_=>JM) (λG H x v R Q hf rx hw k=>by
 unfold wInt at hw
 split at hw
 ·exact .inl ⟨_,by rw[rx.int],k _ _ _ hw (Same.refl _) rfl⟩
 ·exact .inr ⟨_,by rw[rx.bl],k _ _ _ hw (Same.refl _) rfl⟩
 ·exact hw.elim) hg hm GQ ha hs
def AE:List PV->Option (List Bool)
 |[]=>some []
 |.bl b::xs=>(AE xs).map (b::·)
 |_=>none
theorem Ky {K:A6}{G:Gh}{H:Hp}:∀{xs:List PV} {vs:List V} {bs:List Bool},AE xs=some bs->Reps K G H xs vs->vs=bs.map V.bl
 |[],vs,bs,h,r=>by cases h;exact r
 | .bl b :: xs, vs, bs, h, r => by
  obtain⟨v,t,e,rv,rt⟩:=r;cases e1:AE xs with
  |none=>simp[AE,e1] at h
  | some cs =>
   have:b::cs=bs:=by simpa[AE,e1] using h
   subst this;rw[e,show v=.bl b from rv,Ky e1 rt]
   rfl
 |.non::_,_,_,h,_=>by cases h
 |.int _::_,_,_,h,_=>by cases h
 |.str _::_,_,_,h,_=>by cases h
 |.ty _::_,_,_,h,_=>by cases h
 |.pot _::_,_,_,h,_=>by cases h
 |.tup _::_,_,_,h,_=>by cases h
 |.lst _::_,_,_,h,_=>by cases h
 |.dct _ _::_,_,_,h,_=>by cases h
 |.fdt _ _::_,_,_,h,_=>by cases h
 |.scr _::_,_,_,h,_=>by cases h
theorem Hc:∀bs:List Bool,AE (bs.map PV.bl)=some bs
 |[]=>rfl
 |b::bs=>by simp[AE,Hc bs]
def wAll:w1:=λx R=>match x with|.lst xs=>(match AE xs with|some bs=>R (.bl (bs.all id))|none=>False)|_=>False
def qe_all (hc:∀z,(F z).calm=true)(hg:∀z,Gl (F z) "all")(hm:∀z,(F z).mg "all"=none)(ha:QR T K F e pe)(hs:E9 e=true)(hK:∀z,(F z).K=K):QE T K F (.Call (.Name "all" p) [e] [] pos) (qUn wAll pe):=Fm (λz=>hK z▸Oa (hc z)) (λG H x v R Q hf rx hw k=>by
 unfold wAll at hw
 split at hw
 ·rename_i xs;obtain⟨a,vs,ev,hq,r⟩:=rx.lst
  split at hw
  ·rename_i bs eb;exact⟨a,bs,by rw[ev],Ky eb r▸hq,k _ _ _ hw (Same.refl _) rfl⟩
  ·exact hw.elim
 ·exact hw.elim) hg hm bt_all ha hs
def K3:w1:=λx R=>match x with|.lst xs=>R (.tup xs)|.tup xs=>R (.tup xs)|_=>False
def OC (hg:∀z,Gl (F z) "tuple")(hm:∀z,(F z).mg "tuple"=none)(ha:QR T K F e pe)(hs:E9 e=true)(hK:∀z,(F z).K=K):QE T K F (.Call (.Name "tuple" p) [e] [] pos) (qUn K3 pe):=Ha (λz=>hK z▸NJ) (λG H x v R Q hf rx hw k=>by
 unfold K3 at hw
 split at hw
 ·obtain⟨a,vs,ev,hq,r⟩:=rx.lst;exact⟨a,vs,by rw[ev],.inl ⟨hq,λl hl=>k _ _ _ hw (Same.lay1 hl) (CH (hf l hl) hl r)⟩⟩
 ·obtain⟨a,vs,ev,t,r⟩:=rx.rep (λ_ z=>nomatch z);exact⟨a,vs,by rw[ev],.inr ⟨t.sq,k _ _ _ hw (Same.refl _) ⟨a,vs,rfl,t,r⟩⟩⟩
 ·exact hw.elim) hg hm GR ha hs
def N3 (pe:pE):pA:=λenv n R=>pe env n λx je n1=>match x with|.lst xs=>R xs je n1|.tup xs=>R xs je n1|.scr ns=>R (ns.map PV.int) je n1|_=>False
def Kz (hg:∀z,Gl (F z) "list")(hm:∀z,(F z).mg "list"=none)(ha:QR T K F e pe)(hs:E9 e=true:=by rfl)(hK:∀z,(F z).K=K:=by intro _;rfl):QN T K F (.Call (.Name "list" p) [e] [] pos) (N3 pe):=by
 obtain⟨t,h1,h2⟩:=ha;refine⟨_,λz=>GE (hK z▸NI) (hg z) (hm z) Og (E8 (h1 z) K5 (C9 hs)) 0b0 0b0 (C9 hs),⇑?_⟩;refine Fj h2 hK hT S hp λx je n1 v H1 p1 S1 r1 f1=>?_;have rd:RdV K G H1 x v:=hK▸r1.rd S1;cases x with
 | lst xs =>
  obtain⟨a,vs,ev,hq,r⟩:=rd.lst;exact⟨a,vs,by rw[ev],.inl hq,λl hl=>k _ _ _ _ _ _ p1 S1 f1 hl r⟩
 | tup xs =>
  obtain⟨a,vs,ev,hq,r⟩:=rd.tup;exact⟨a,vs,by rw[ev],.inr hq,λl hl=>k _ _ _ _ _ _ p1 S1 f1 hl r⟩
 | scr ns =>
  obtain⟨a,ev,hq⟩:=DP rd;exact⟨a,_,by rw[ev],.inl hq,λl hl=>k _ _ _ _ _ _ p1 S1 f1 hl (G_ ns)⟩
 |_=>exact p1.elim
def tyw (hg:Gl X x)(hm:X.mg x=none)(hv:K7 x=some (.type m))(hn:x≠"__name__":=by decide)(hd:(x == ("__debug__":Str))=false:=by decide):EW X (.Name x pos) (tC (.ty m)):=⟨MZ (v:=.ty m) hg hm hv rfl hn hd⟩
def tyP:PV->Option String
 |.non=>some "NoneType"
 |.bl _=>some "bool"
 |.int _=>some "int"
 |.str _=>some "str"
 |.tup _=>some "tuple"
 |.lst _=>some "list"
 |.dct _ _=>some "dict"
 |_=>none
def isT (t n:String):Bool:=t == n||(t == "bool" && n == "int")
def wIsi (n:String):w1:=λx R=>match tyP x with|some t=>R (.bl (isT t n))|none=>False
def OD (ht:t∈["NoneType","bool","int","str","tuple","list","dict"])(hn:n∈["bool","int","str","tuple","list"]):Dk K (.type t) (.type n)=some (isT t n):=by
 refine kit_of ?_;have:∀t∈["NoneType","bool","int","str","tuple","list","dict"],∀n∈["bool","int","str","tuple","list"],(if(x9 t == x9 n)=true then some true else if PySem.W.kitMeta n=true then(fastBuiltinMro t).map (·.contains (.type n)) else none)=some (isT t n):=by decide +kernel
 exact this t ht n hn
def KA (hn:n∈["bool","int","str","tuple","list"])(hg:∀z,Gl (F z) "isinstance")(hm:∀z,(F z).mg "isinstance"=none)(ha:QE T K F a pa)(hb:∀z,EW (F z) b (tC (.ty n)))(hs:E9 a=true:=by rfl)(hs2:E9 b=true:=by rfl)(hK:∀z,(F z).K=K:=by intro _;rfl):QE T K F (.Call (.Name "isinstance" p) [a,b] [] pos) (qUn (wIsi n) pa):=by
 obtain⟨t,h1,h2⟩:=ha;refine⟨_,λz=>Bi (hK z▸NX) (hg z) (hm z) Od (E8 (h1 z) (E8 (hb z).h K5 (C9 hs2)) (C9 hs)) 0b0 0b0 (C9 hs) (by rw[C9 hs2];rfl),λC G σ H env n' R Q hK hT S hp k=>?_⟩;refine h2 C G σ H env n' _ _ hK hT S hp λx je n1 v H1 p1 S1 r1 f1=>?_;unfold wIsi at p1
 have fin:∀t,TyOf K H1 v (.type t)->tyP x=some t->t∈["NoneType","bool","int","str","tuple","list","dict"]->∃x' n'' t' b',[v,V.ty n]=[x',.ty n'']/\TyOf K H1 x' t'/\Dk K t' (.type n'')=some b'/\Q (.bl b') H1:=by
  intro t ty e m;rw[e] at p1;exact⟨v,n,_,_,rfl,ty,OD m hn,k _ _ _ _ _ p1 S1 rfl f1⟩
 cases x with
 |non=>cases(show v=.non from r1);exact fin _ .non rfl 0b0
 |bl b=>cases(show v=.bl b from r1);exact fin _ (.bl b) rfl 0b0
 |int b=>cases(show v=.int b from r1);exact fin _ (.int b) rfl 0b0
 |str b=>cases(show v=.str b from r1);exact fin _ (.str b) rfl 0b0
 |tup xs=>obtain⟨a,vs,rfl,t,r⟩:=r1;exact fin _ (.tup t.2) rfl 0b0
 |lst xs=>obtain⟨a,vs,rfl,t,r⟩:=r1;exact fin _ (.lst t.2) rfl 0b0
 |dct ks xs=>obtain⟨a,ji,rfl,_,t,r⟩:=r1;exact fin _ (.dK t) rfl 0b0
 |ty n=>exact p1.elim
 |pot k=>exact p1.elim
 |fdt ks xs=>exact p1.elim
 |scr ns=>exact p1.elim
def Q3:pE:=λenv n R=>R (.dct [] []) env n
def OE:QE T K F (.Dict [] [] pos) Q3:=⟨_,λ_=>Kl,λC G σ H env n R Q hK hT S hp k p hn=>k _ _ _ _ _ hp (S.same (Same.lay1 hn)) ⟨p,[],rfl,S.fresh hn,J0,rfl,rfl⟩ (Fr.of (Same.lay1 hn))⟩
def wMin:w2:=λx y R=>match x,y with|.int i,.int j=>R (.int (if j<i then j else i))|_,_=>False
def ok_cb2 (hw:W2 K (λx y H Q=>r [x,y] H Q) w)(h:EOk K T t pa)(h':EOk K T u pb):EOk K T (tCB r (d7 t (d7 u tNil))) (qOp w pa pb):=λC G σ H env n R Q hK hT S hp k=>by
 refine ↥h λx je n1 v H1 p1 S1 r1 f1=>?_;refine h' C G σ H1 je n1 _ _ hK hT S1 p1 λy jf n2 u H2 p2 S2 r2 f2=>?_;exact hw G H2 x y v u _ _ (λp hp=>S2.fresh hp) (.inl (r1.fr f2)) (.inl r2) p2 λz v' H' rz s rv=>k _ _ _ _ _ rz (S2.same s) rv ((f1.trans f2).trans (Fr.of s))
def qe_min (hc:∀z,(F z).calm=true)(hg:∀z,Gl (F z) "min")(hm:∀z,(F z).mg "min"=none)(ha:QE T K F a pa)(hb:QE T K F b pb)(hs:E9 a=true)(hs2:E9 b=true):QE T K F (.Call (.Name "min" p) [a,b] [] pos) (qOp wMin pa pb):=by
 obtain⟨t,h1,h2⟩:=ha;obtain⟨u,h3,h4⟩:=hb;refine⟨_,λz=>Bi (Nq (hc z)) (hg z) (hm z) bt_min (E8 (h1 z) (E8 (h3 z) K5 (C9 hs2)) (C9 hs)) 0b0 0b0 (C9 hs) (by rw[C9 hs2];rfl),ok_cb2 (λG H x y v u R Q hf rx ry hw k=>?_) h2 h4⟩;unfold wMin at hw
 split at hw
 ·exact⟨_,_,by rw[rx.int,ry.int],k _ _ _ hw (Same.refl _) rfl⟩
 ·exact hw.elim
def CN (K:A6)(T:PotK)(f:pF):Sp:=λvs H Q _=>∃(G:Gh) (xs:List PV) (n:Nat) (R:PV->Nat->Prop),(∀p∈G.pots,p∈G.M/\T.at_ G.M H p n)/\(∀a∈G.M,∃o,H a=some o/\MutO o)/\T.has G.pots/\Reps K G H xs vs/\f xs n R/\
 ∀r n' v H',R r n'->Rep K G H' r v->(∀p∈G.pots,T.at_ G.M H' p n')->(∀b o,b∉G.pots->H b=some o->H' b=some o)->Q v H'
def A8 (f:pF)(pa:pA):pE:=λenv n R=>pa env n λxs je n1=>f xs n1 λr n2=>R r je n2
def SR.call (S:SR C G σ H env n)(hk:∀b o,b∉G.pots->H b=some o->H' b=some o)(hp:∀p∈G.pots,C.T.at_ G.M H' p n'):SR C G σ H' env n' where
 frame b o hb e:=by
  by_cases hp:b∈G.pots
  ·-- a pot that is new since the entry has no old object
   obtain⟨l,el,_⟩:=S.pre;rw[el] at hp;rcases D6.mp hp with z|z
   ·exact absurd z hb
   ·have hM:=(S.pots b (by rw[el];exact hp)).1;rcases S.sub b hM with z2|z2
    ·exact(S.newp b (by rw[el];exact hp) hb z2).elim
    ·rw[z2] at e;cases e
  ·exact hk b o hp (S.frame b o hb e)
 sub:=S.sub
 sup:=S.sup
 pots p h:=⟨(S.pots p h).1,hp p h⟩
 pre:=S.pre
 mu a ha:=by
  by_cases h:a∈G.pots
  ·exact C.T.mu (hp a h)
  ·obtain⟨o,e,m⟩:=S.mu a ha;exact⟨o,hk a o h e,m⟩
 slots i x e:=by
  have f:Fr G H H':=λb o hb he=>hk b o (λz=>hb (S.pots b z).1) he;have:=S.slots i x e;cases x with
  | v x =>
   obtain⟨v,e1,r⟩:=this;exact⟨v,e1,r.fr f⟩
  | ow kk xs =>
   obtain⟨a,vs,e1,h1,h2,h3,h4,r⟩:=this;exact⟨a,vs,e1,h1,h2,h3,hk _ _ h3 h4,r.fr f⟩
 inj:=S.inj
 p0:=S.p0
 len:=S.len
 newp:=S.newp
def AF (hG:∀z,Kn (F z).prog (F z).w (F z).K (F z).mg (F z).base x k ps (CN K T f))(hr:∀z,Room j (F z).A)(hk:k<=j)(hg:∀z,Gl (F z) x)(ha:QA T K F (e::es) pl)(hdb:(x == ("__debug__":Str))=false:=by decide)
   (hs:E9 e=true:=by rfl) (hpl:∀z,(backTo pos (F5 es (F z).env)).any (·.1)=false:=by intro _;rfl):QE T K F (.Call (.Name x p) (e::es) [] pos) (A8 f pl):=by
 obtain⟨t,h1,h2⟩:=ha;refine⟨_,λz=>pe_fn (hG z) (hr z) hk (hg z) (h1 z) hdb (C9 hs) (hpl z),⇑?_⟩;refine ↥h2 λxs je n1 vs H1 p1 S1 r1 f1=>?_;subst hT;rw[c7];refine⟨G,xs,n1,_,λp hp=>S1.pots p hp,S1.mu,S1.hasG,r1,p1,λr n' v H' rr rv hp hk'=>?_⟩;exact k _ _ _ _ _ rr (S1.call hk' hp) rv (f1.trans λb o hb e=>hk' b o (λz=>hb (S1.pots b z).1) e)
end
abbrev pG:=PV->Env->(Env->Prop)->Prop
abbrev pGs:=List PV->Env->(Env->Prop)->Prop
def GOk (K:A6)(g:TG)(pg:pG):Prop:=∀(C:Ct) (G:Gh) (σ:St) (H:Hp) (env:Env) (n:Nat) (x:PV) (v:V) (R:Env->Prop) (Q:St->Hp->Prop),C.K=K->SR C G σ H env n->Rep K G H x v->pg x env R->
 (∀jk σ',R jk->SR C G σ' H jk n->Q σ' H)->g v σ H Q
def GsOk (K:A6)(g:TGs)(pg:pGs):Prop:=∀(C:Ct) (G:Gh) (σ:St) (H:Hp) (env:Env) (n:Nat) (x:List PV) (v:List V) (R:Env->Prop) (Q:St->Hp->Prop),C.K=K->SR C G σ H env n->Reps K G H x v->pg x env R->
 (∀jk σ',R jk->SR C G σ' H jk n->Q σ' H)->g v σ H Q
inductive QG {ι:Type}(K:A6)(F:ι->Cx)(e:Expr)(pg:pG):Prop
 |mk g (a:(∀z,PG (F z) e g)) (b:GOk K g pg):QG K F e pg
inductive QGs {ι:Type}(K:A6)(F:ι->Cx)(e:List Expr)(pg:pGs):Prop
 |mk g (a:(∀z,PGs (F z) e g)) (b:GsOk K g pg):QGs K F e pg
def gN (i:Nat):pG:=λx env R=>R (env.set i (some (.v x)))
def gNl:pGs:=λxs env R=>match xs with|[]=>R env|_=>False
def gCn (g:pG)(r:pGs):pGs:=λxs env R=>match xs with|x::xs=>g x env λje=>r xs je R|[]=>False
def gTp (k:Nat)(g:pGs):pG:=λx env R=>match x with|.tup xs=>xs.length=k/\g xs env R|_=>False
theorem SR.set (S:SR C G σ H env n)(i:Nat)(r:Rep C.K G H x v):SR C G (σ.set i (some v)) H (env.set i (some (.v x))) n where
 frame:=S.frame
 sub:=S.sub
 sup:=S.sup
 pots:=S.pots
 pre:=S.pre
 mu:=S.mu
 slots j s e:=by
  by_cases h:i=j
  ·subst h
   by_cases hl:i<env.length
   ·rw[O7 hl] at e;cases e;exact⟨v,by rw[O7 (by rw[<- S.len];exact hl)],r⟩
   ·rw[i4 (by rw[L9];omega)] at e;cases e
  ·rw[V2 h] at e ⊢;exact S.slots j s e
 inj j k xs ys a e1 e2 e3 e4:=by
  have nj:∀(j:Nat) (xs:OK×List PV),(env.set i (some (.v x)))[j]?=some (some (Slot.ow xs.1 xs.2))->i≠j:=by
   intro j xs e h;subst h
   by_cases hl:i<env.length
   ·rw[O7 hl] at e;cases e
   ·rw[i4 (by rw[L9];omega)] at e;cases e
  have n1:=nj j xs e1;have n2:=nj k ys e2;rw[V2 n1] at e1 e3;rw[V2 n2] at e2 e4;exact S.inj j k xs ys a e1 e2 e3 e4
 p0:=S.p0
 len:=by rw[L9,L9];exact S.len
 newp:=S.newp
section
variable {T:PotK}{ι:Type}{K:A6}{F:ι->Cx}{e a b c:Expr}{es rest:List Expr}{pe pa pb pc:pE}{pos:Pos}{pl pr:pA}{pg:pG}{pgs:pGs}{pt:pT}
def OF (i:Nat)(hN:X.N.Nodup)(hi:X.N[i]?=some x)(hx:Loc X.env.scope x)(hf:X.fn x=true\/X.env.scope.names.lookup x=some .local:=by first|exact .inl rfl|exact .inr rfl|assumption):GW X (.Name x pos) (W9 i):=⟨JF hN hi hx hf⟩
def OG (h:∀z,GW (F z) (.Name x pos) (W9 i)):QG K F (.Name x pos) (gN i):=⟨_,λz=>(h z).h,λC G σ H env n x v R Q hK S r hp k=>k _ _ hp (S.set i (hK▸r))⟩
def KB:QGs K F [] gNl:=⟨_,λ_=>JG,λC G σ H env n x v R Q hK S r hp k=>by
 cases x with
 |nil=>exact⟨r,k _ _ hp S⟩
 |cons _ _=>exact hp.elim⟩
def Hd (h1:QG K F e pg)(h2:QGs K F es pgs)(hs:∀z,(V1 (e::es) (F z).env).map (·.2)=assign e (F z).env::(V1 es (F z).env).map (·.2):=by intro _;rfl):QGs K F (e::es) (gCn pg pgs):=by
 obtain⟨g,a1,a2⟩:=h1;obtain⟨gs,b1,b2⟩:=h2;refine⟨_,λz=>Gv (a1 z) (b1 z) (hs z),λC G σ H env n x v R Q hK S r hp k=>?_⟩;cases x with
 |nil=>exact hp.elim
 | cons x xs =>
  obtain⟨u,us,rfl,ru,rs⟩:=r;exact⟨u,us,rfl,a2 C G σ H env n x u _ _ hK S ru hp λjk σ' re S'=>b2 C G σ' H jk n xs us _ _ hK S' rs re k⟩
def KC (hc:∀z,(F z).calm=true)(h:QGs K F es pgs)(hn:∀z,(V1 es (F z).env).length=m:=by intro _;rfl)(hst:∀z,(V1 es (F z).env).findIdx? (·.1)=none:=by intro _;rfl)(hK:∀z,(F z).K=K:=by intro _;rfl):QG K F (.Tuple es k pos) (gTp m pgs):=by
 obtain⟨g,a1,a2⟩:=h;refine⟨_,λz=>hK z▸JH (hc z) (a1 z) (hn z) (hst z),λC G σ H env n x v R Q hK S r hp k=>?_⟩;cases x with
 | tup xs =>
  obtain⟨a,vs,rfl,t,rs⟩:=r;exact⟨a,vs,rfl,t.sq,by rw[<- rs.length];exact hp.1,a2 C G σ H env n xs vs _ _ hK S rs hp.2 k⟩
 |_=>exact hp.elim
def ItR (K:A6)(G:Gh)(H:Hp)(J:It)(xs:List PV):Prop:=∀(G2:Gh) (H2:Hp),(∀b o,b∉G.M->H b=some o->H2 b=some o)->(∀a∈G2.M,a∈G.M\/H a=none)->(∀(k:Nat) (p:A1),G.pots[k]?=some p->G2.pots[k]?=some p)->(∀p,H2 p=none->p∉G2.M)->
 (∀(i:Nat) x,xs[i]?=some x->J.go i H2/\∀v H3,J.yld i H2 v H3->Same H2 H3/\Rep K G2 H3 x v)/\∀i,xs.length<=i->J.stop i H2
def IOk (K:A6)(T:PotK)(wi:TI)(pi:pA):Prop:=∀(C:Ct) (G:Gh) (σ:St) (H:Hp) (env:Env) (n:Nat) (R:List PV->Env->Nat->Prop) (Q:It->Hp->Prop),C.K=K->C.T=T->SR C G σ H env n->pi env n R->
 (∀xs jk n' J H',R xs jk n'->SR C G σ H' jk n'->Fr G H H'->ItR K G H' J xs->Q J H')->wi σ H Q
inductive QI {ι:Type}(T:PotK)(K:A6)(F:ι->Cx)(tg iter:Expr)(pi:pA):Prop
 |mk wi (a:(∀z,PI (F z) tg iter wi)) (b:IOk K T wi pi):QI T K F tg iter pi
variable {tg:Expr}
def OH {a:A1}(t:AtL G.M H a vs)(r:Reps K G H xs vs):ItR K G H (Itl K a) xs:=by
 intro G2 H2 hk hM hp hf;have hq:SqL K H2 a vs:=SqL.of (hk a _ t.1 t.2);have r2:Reps K G2 H2 xs vs:=Reps.mono hk hM hp _ _ r;refine⟨λi x e=>?_,λi hi=>⟨vs,hq,by rw[<- r.length];exact hi⟩⟩;obtain⟨v,ev,rv⟩:=r2.get' e;refine⟨⟨vs,v,hq,ev⟩,λv' H3 y=>?_⟩;obtain⟨e3,y⟩:=y;subst e3;have:=y vs hq;rw[ev] at this;cases this;exact⟨Same.refl _,rv⟩
def OI {a:A1}(t:AtT G.M H a vs)(r:Reps K G H xs vs):ItR K G H (Itt K a) xs:=by
 intro G2 H2 hk hM hp hf;have hq:SqT K H2 a vs:=SqT.of (hk a _ t.1 t.2);have r2:Reps K G2 H2 xs vs:=Reps.mono hk hM hp _ _ r;refine⟨λi x e=>?_,λi hi=>⟨vs,hq,by rw[<- r.length];exact hi⟩⟩;obtain⟨v,ev,rv⟩:=r2.get' e;refine⟨⟨vs,v,hq,ev⟩,λv' H3 y=>?_⟩;obtain⟨e3,y⟩:=y;subst e3;have:=y vs hq;rw[ev] at this;cases this;exact⟨Same.refl _,rv⟩
def qIl (pe:pE):pA:=λenv n R=>pe env n λx je n1=>match x with|.lst xs=>R xs je n1|_=>False
def qIt (pe:pE):pA:=λenv n R=>pe env n λx je n1=>match x with|.tup xs=>R xs je n1|_=>False
def KD (h:QE T K F e pe)(hK:∀z,(F z).K=K:=by intro _;rfl):QI T K F tg e (qIl pe):=by
 obtain⟨t,h1,h2⟩:=h;refine⟨_,λz=>hK z▸JI (h1 z),⇑?_⟩;refine ↥h2 λx je n1 v H1 p1 S1 r1 f1=>?_;cases x with
 | lst xs =>
  obtain⟨a,vs,rfl,t,r⟩:=r1;exact⟨a,rfl,⟨vs,t.sq⟩,k _ _ _ _ _ p1 S1 f1 (OH t r)⟩
 |_=>exact p1.elim
def KF (h:QE T K F e pe)(hK:∀z,(F z).K=K:=by intro _;rfl):QI T K F tg e (qIt pe):=by
 obtain⟨t,h1,h2⟩:=h;refine⟨_,λz=>hK z▸pi_tup (h1 z),⇑?_⟩;refine ↥h2 λx je n1 v H1 p1 S1 r1 f1=>?_;cases x with
 | tup xs =>
  obtain⟨a,vs,rfl,t,r⟩:=r1;exact⟨a,rfl,⟨vs,t.sq⟩,k _ _ _ _ _ p1 S1 f1 (OI t r)⟩
 |_=>exact p1.elim
def KG (lo:Int)(m:Nat):ItR K G H (Itr lo m) ((B8 m).map λ(k:Nat)=>PV.int (lo+k)):=by
 intro G2 H2 hk hM hp hf;refine⟨λi x e=>?_,λi hi=>(show m<=i by simpa using hi)⟩;rw[L4] at e;cases e1:(B8 m)[i]? with
 |none=>rw[e1] at e;cases e
 | some j =>
  rw[e1] at e;cases e;obtain⟨hi,e2⟩:=E5.mp e1;rw[List.getElem_range] at e2;subst e2;refine⟨(show i<m by simpa using hi),λv H3 y=>?_⟩;obtain⟨e3,y⟩:=y;subst e3 y;exact⟨Same.refl _,rfl⟩
def K2 (pe:pE):pA:=λenv n R=>pe env n λx je n1=>match x with|.int j=>(-1000000<=j/\j<=1000000)/\R ((B8 j.toNat).map λ(k:Nat)=>PV.int (0+k)) je n1|_=>False
def OJ (hg:∀z,Gl (F z) "range")(hm:∀z,(F z).mg "range"=none)(h:QE T K F e pe)(hs:E9 e=true):QI T K F tg (.Call (.Name "range" p) [e] [] pos) (K2 pe):=by
 obtain⟨t,h1,h2⟩:=h;refine⟨_,λz=>Ng (hg z) (hm z) (E8 (h1 z) K5 (C9 hs)) (by rw[C9 hs];rfl),⇑?_⟩;refine Fj (pe:=pe) (λC G σ H env n R Q hK hT S hp k=>h2 C G σ H env n R Q hK hT S hp λx jk n' v H' r S' rp f=>k x jk n' v H' r S' (.inl (hK▸rp)) f) hK hT S hp λx je n1 v H1 p1 S1 r1 f1=>?_;cases x with
 |int j=>exact⟨j,by rw[(r1.rd S1).int],0x0,0x0,k _ _ _ _ _ p1.2 S1 f1 (KG 0 _)⟩
 |_=>exact p1.elim
def N4 (pa pb:pE):pA:=λenv n R=>pa env n λx je n1=>pb je n1 λy jf n2=>match x,y with|.int i,.int j=>(-1000000<=i/\i<=1000000/\-1000000<=j/\j<=1000000)/\R ((B8 (j-i).toNat).map λ(k:Nat)=>PV.int (i+k)) jf n2|_,_=>False
def OL {p:Pos}(hg:∀z,Gl (F z) "range")(hm:∀z,(F z).mg "range"=none)(ha:QE T K F a pa)(hb:QE T K F b pb)(hs:E9 a=true)(hs2:E9 b=true):QI T K F tg (.Call (.Name "range" p) [a,b] [] pos) (N4 pa pb):=by
 obtain⟨t,h1,h2⟩:=ha;obtain⟨u,h3,h4⟩:=hb;refine⟨_,λz=>Nh (hg z) (hm z) (E8 (h1 z) (E8 (h3 z) K5 (C9 hs2)) (C9 hs)) (by rw[C9 hs,C9 hs2];rfl) (by rw[C9 hs2];rfl),⇑?_⟩;refine ↥h2 λx je n1 v H1 p1 S1 r1 f1=>?_;refine h4 C G σ H1 je n1 _ _ hK hT S1 p1 λy jf n2 w H2 p2 S2 r2 f2=>?_;cases x with
 | int i =>
  cases y with
  |int j=>exact⟨i,j,by rw[show v=.int i from r1,show w=.int j from r2],⟨0x0,0x0,0x0,0x0⟩,k _ _ _ _ _ p2.2 S2 (f1.trans f2) (KG i _)⟩
  |_=>exact p2.elim
 |_=>exact p2.elim
def qIs (pe:pE):pA:=λenv n R=>pe env n λx je n1=>match x with|.str z=>z.cps.all (· < 128)=true/\R (z.cps.toList.map λc=>.str ⟨#[c]⟩) je n1|_=>False
def qi_str (h:QE T K F e pe):QI T K F tg e (qIs pe):=by
 obtain⟨t,h1,h2⟩:=h;refine⟨_,λz=>pi_str (h1 z),⇑?_⟩;refine ↥h2 λx je n1 v H1 p1 S1 r1 f1=>?_;cases x with
 | str z =>
  refine⟨z,r1,p1.1,k _ _ _ _ _ p1.2 S1 f1 ?_⟩;intro G2 H2 hk hM hp hf;refine⟨λi x e=>?_,λi hi=>(show z.cps.toList.length<=i by simpa using hi)⟩;rw[L4] at e;cases e1:z.cps.toList[i]? with
  |none=>rw[e1] at e;cases e
  | some c =>
   rw[e1] at e;cases e;obtain⟨hi,_⟩:=E5.mp e1;refine⟨hi,λv H3 y=>?_⟩;obtain⟨e3,c',ec,ev⟩:=y;subst e3 ev;rw[e1] at ec;cases ec;exact⟨Same.refl _,rfl⟩
 |_=>exact p1.elim
def BK (xs:List PV):List PV:=xs.zipIdx.map λy=>.tup [.int (y.2:Nat),y.1]
def Q4 (pe:pE):pA:=λenv n R=>pe env n λx je n1=>match x with|.lst xs=>R (BK xs) je n1|_=>False
def OM {xs:List PV}{i:Nat}{x:PV}(h:(BK xs)[i]?=some x):∃y,xs[i]?=some y/\x=.tup [.int (i:Nat),y]:=by
 unfold BK at h;rw[L4,List.getElem?_zipIdx] at h;cases e:xs[i]? with
 |none=>rw[e] at h;cases h
 | some y =>
  rw[e] at h;cases h;exact⟨y,rfl,0o0⟩
def KH (xs:List PV):(BK xs).length=xs.length:=by unfold BK;simp
def KI {p:Pos}{elts:List Expr}{x1:Nat}{tpos:Pos}(hg:∀z,Gl (F z) "enumerate")(hm:∀z,(F z).mg "enumerate"=none)(h:QE T K F e pe)(hs:E9 e=true:=by rfl)(hK:∀z,(F z).K=K:=by intro _;rfl):QI T K F (.Tuple elts x1 tpos) (.Call (.Name "enumerate" p) [e] [] pos) (Q4 pe):=by
 obtain⟨t,h1,h2⟩:=h;refine⟨_,λz=>hK z▸Oc (hg z) (hm z) (E8 (h1 z) K5 (C9 hs)) (by rw[C9 hs];rfl),⇑?_⟩;refine ↥h2 λx je n1 v H1 p1 S1 r1 f1=>?_;cases x with
 | lst xs =>
  obtain⟨a,vs,rfl,t,r⟩:=r1;refine⟨a,rfl,⟨vs,t.sq⟩,k _ _ _ _ _ p1 S1 f1 ?_⟩;intro G2 H2 hk hM hp hf;have hq:SqL K H2 a vs:=SqL.of (hk a _ t.1 t.2);have r2:Reps K G2 H2 xs vs:=Reps.mono hk hM hp _ _ r;refine⟨λi x e=>?_,λi hi=>⟨vs,hq,by rw[<- r.length,<- KH];exact hi⟩⟩;obtain⟨y,ey,rfl⟩:=OM e;obtain⟨v,ev,rv⟩:=r2.get' ey;refine⟨⟨vs,v,hq,ev⟩,λv' H3 y=>?_⟩;obtain⟨p,w,hn,rfl,rfl,y⟩:=y;have:=y vs hq;rw[ev] at this;cases this;exact⟨Same.lay1 hn,CH (hf p hn) hn (.cons rfl (.one rv))⟩
 |_=>exact p1.elim
def capS:Option (Option Slot)->Option Slot
 |some (some (.v x))=>some (.v x)
 |_=>none
def capV (cs:List (Option Nat))(env:Env):Env:=cs.map λo=>o.bind λj=>capS (env[j]?)
def Z4 (g:pG)(tt:pT)(te:pE):List PV->Env->Nat->(List PV->Nat->Prop)->Prop
 |[],_,n,R=>R [] n
 |x::xs,env,n,R=>g x env λje=>tt je n λb jf n2=>if b=true then te jf n2 λy jg n3=>Z4 g tt te xs jg n3 λys n4=>R (y::ys) n4 else Z4 g tt te xs jf n2 R
def qTru:pT:=λenv n R=>R true env n
def F7 (cs:List (Option Nat))(pi:pA)(g:pG)(tt:pT)(te:pE):pA:=λenv n R=>pi env n λxs je n1=>xs.length<=1000000/\Z4 g tt te xs (capV cs je) n1 λys n2=>R ys je n2
structure Inn (K:A6)(T:PotK)(G:Gh)(σ:St)(H:Hp)(env:Env)(n:Nat):Prop where
 pots:∀p∈G.pots,p∈G.M/\T.at_ G.M H p n
 has:T.has G.pots
 mu:∀a∈G.M,∃o,H a=some o/\MutO o
 slots:∀(i:Nat) (s:Slot),env[i]?=some (some s)->∃x v,s=.v x/\σ[i]?=some (some v)/\Rep K G H x v
 len:env.length=σ.length
def Inn.sr (I:Inn K T G σ H env n):SR ⟨K,T,G.M,G.pots,H,false⟩ G σ H env n where
 frame b o _ e:=e
 sub a ha:=.inl ha
 sup a ha:=ha
 pots:=I.pots
 pre:=⟨[],0o0,.inl rfl⟩
 mu:=I.mu
 slots i s e:=by
  obtain⟨x,v,rfl,ev,r⟩:=I.slots i s e;exact⟨v,ev,r⟩
 inj i j xs ys a e1:=by
  obtain⟨x,v,z,_⟩:=I.slots i _ e1;cases z
 p0:=⟨λp hp=>(I.pots p hp).1,I.has⟩
 len:=I.len
 newp p hp hn:=absurd hp hn
def SR.inn (S:SR ⟨K,T,G.M,G.pots,H0,false⟩ G σ H env n):Inn K T G σ H env n where
 pots:=S.pots
 has:=S.hasG
 mu:=S.mu
 slots i s e:=by
  cases s with
  | v x =>
   obtain⟨v,ev,r⟩:=S.slots i _ e;exact⟨x,v,rfl,ev,r⟩
  | ow kk xs =>
   obtain⟨a,vs,ev,h1,h2,_⟩:=S.slots i _ e;exact absurd h1 h2
 len:=S.len
def ON:TOk K T tTru qTru:=λC G σ H env n R Q hK hT S hp k=>k _ _ _ _ hp S Fr.refl
structure CI (K:A6)(T:PotK)(G:Gh)(H1:Hp)(D:A1)(σ:St)(H:Hp)(env:Env)(n:Nat)(jo:List PV)(us:List V):Prop where
 inn:Inn K T ⟨D::G.M,G.pots⟩ σ H env n
 kp:∀b o,b∉G.pots->H1 b=some o->H b=some o
 eD:H D=some (.lst us)
 ra:Reps K ⟨D::G.M,G.pots⟩ H jo us
def CI.start {K:A6}{T:PotK}{G:Gh}{H1:Hp}{D:A1}{σ:St}{env:Env}{n:Nat}(hD:H1 D=none)(I0:Inn K T G σ H1 env n):CI K T G H1 D σ (upd H1 D (.lst [])) env n [] []:=by
 have lay:∀b o,H1 b=some o->upd H1 D (.lst []) b=some o:=λb o e=>Same.lay1 hD b o e;have new:∀a,a∈D::G.M->a∈G.M\/H1 a=none:=λa ha=>(B9.mp ha).elim (λz=>.inr (z▸hD)) .inl;refine⟨⟨λp hp=>⟨C1 _ (I0.pots p hp).1,?_⟩,I0.has,λa ha=>?_,λi s e=>?_,I0.len⟩,λb o _ e=>lay b o e,J0,rfl⟩
 ·have h1:=T.more (M':=D::G.M) (I0.pots p hp).2 new;obtain⟨o,e,_⟩:=T.mu h1;exact T.keep h1 (by rw[e,lay p o e]) λb o _ e=>lay b o e
 ·rcases B9.mp ha with rfl|ha
  ·exact⟨_,J0,trivial⟩
  ·obtain⟨o,e,m⟩:=I0.mu a ha;exact⟨o,lay a o e,m⟩
 ·obtain⟨x,v,rfl,ev,r⟩:=I0.slots i s e;exact⟨x,v,rfl,ev,Rep.mono (G':=⟨D::G.M,G.pots⟩) (λb o _ e=>lay b o e) new (λ_ _ e=>e) _ _ r⟩
def CI.go {K:A6}{T:PotK}{G:Gh}{H1:Hp}{D:A1}{σ σ':St}{H H':Hp}{env jk:Env}{n n':Nat}{jo:List PV}{us:List V}(c:CI K T G H1 D σ H env n jo us)(nD:D∉G.pots)(S:SR ⟨K,T,D::G.M,G.pots,H,false⟩ ⟨D::G.M,G.pots⟩ σ' H' jk n'):CI K T G H1 D σ' H' jk n' jo us:=
 ⟨S.inn,λb o hb e=>S.frame b o hb (c.kp b o hb e),S.frame D _ nD c.eD,Reps.mono (λb o hb e=>S.frame b o (λz=>hb (c.inn.pots b z).1) e) (λa ha=>.inl ha) (λ_ _ e=>e) _ _ c.ra⟩
def CI.fD {G:Gh}(o:HO):Fr ⟨D::G.M,G.pots⟩ H (upd H D o):=λb u hb e=>by
 rw[B6 (λz=>hb (by rw[z];exact D2))];exact e
def CI.add {K:A6}{T:PotK}{G:Gh}{H1:Hp}{D:A1}{σ:St}{H:Hp}{env:Env}{n:Nat}{jo:List PV}{us:List V}{y:PV}{u:V}(c:CI K T G H1 D σ H env n jo us)(nD:D∉G.pots)(hD:H1 D=none)(r:Rep K ⟨D::G.M,G.pots⟩ H y u):CI K T G H1 D σ (upd H D (.lst (us++[u]))) env n (jo++[y]) (us++[u]):=by
 refine⟨⟨λp hp=>⟨(c.inn.pots p hp).1,T.keep (c.inn.pots p hp).2 (B6 λz=>nD (by rw[<- z];exact hp)) (CI.fD _)⟩,c.inn.has,λa ha=>?_,λq s e=>?_,c.inn.len⟩,λb o hb e=>?_,J0,(c.ra.append (.one r)).fr (CI.fD _)⟩
 ·by_cases haD:a=D
  ·subst haD;exact⟨_,J0,trivial⟩
  ·rw[B6 haD];exact c.inn.mu a ha
 ·obtain⟨x,v,rfl,ev,r⟩:=c.inn.slots q s e;exact⟨x,v,rfl,ev,r.fr (CI.fD _)⟩
 ·rw[B6 (λz=>by rw[z,hD] at e;cases e)];exact c.kp b o hb e
def CI.it {K:A6}{T:PotK}{G:Gh}{H1:Hp}{D:A1}{σ:St}{H:Hp}{env:Env}{n:Nat}{jo:List PV}{us:List V}{J:It}{xs:List PV}(c:CI K T G H1 D σ H env n jo us)(hD:H1 D=none)(hJ:ItR K G H1 J xs):(∀(i:Nat) x,xs[i]?=some x->J.go i H/\∀v H3,J.yld i H v H3->Same H H3/\Rep K ⟨D::G.M,G.pots⟩ H3 x v)/\∀i,xs.length<=i->J.stop i H:=
 hJ ⟨D::G.M,G.pots⟩ H (fun b o hb e=>by
  by_cases z:b∈G.pots
  ·obtain⟨h1,_⟩:=c.inn.pots b z;rcases B9.mp h1 with rfl|h1
   ·rw[hD] at e;cases e
   ·exact absurd h1 hb
  ·exact c.kp b o z e) (λa ha=>(B9.mp (show a∈D::G.M from ha)).elim (λz=>.inr (z▸hD)) .inl) (λ_ _ e=>e) λp hp=>c.inn.sr.fresh hp
def KJ {K:A6}{T:PotK}{J:It}{g:TG}{tt:TT}{te:TE}{pg:pG}{ptt:pT}{pte:pE}(hg:GOk K g pg)(ht:TOk K T tt ptt)(he:EOk K T te pte){G:Gh}{H1:Hp}{xs:List PV}(hJ:ItR K G H1 J xs)(hl:xs.length<=1000000)
   {σc:St} {env:Env} {n:Nat} {R:List PV->Nat->Prop} {Q:VK} {D:A1} (hD:H1 D=none) (I0:Inn K T G σc H1 env n) (hp:Z4 pg ptt pte xs env n R)
   (hQ:∀ys n' us H',R ys n'->(∀p∈G.pots,T.at_ (D::G.M) H' p n')->(∀b o,b∉G.pots->H1 b=some o->H' b=some o)->H' D=some (.lst us)->Reps K ⟨D::G.M,G.pots⟩ H' ys us->Q (.ref D) H') :
   CompW J g tt te Q D σc (upd H1 D (.lst [])):=by
 have nD:D∉G.pots:=λz=>I0.sr.fresh hD (I0.pots D z).1;refine⟨λi m σ H=>m=xs.length-i/\i<=xs.length/\∃env n jo us,CI K T G H1 D σ H env n jo us/\jo.length<=i/\Z4 pg ptt pte (xs.drop i) env n λys n'=>R (jo++ys) n',⟨xs.length,rfl,C8 _,env,n,[],[],.start hD I0,B3 _,hp⟩,?_⟩;rintro i m σ H ⟨rfl,hi,env,n,jo,us,c,la,hc⟩;obtain⟨hgo,hstop⟩:=c.it hD hJ
 by_cases hlt:i<xs.length
 ·obtain⟨g1,g2⟩:=hgo i _ (D1 hlt);refine .inr ⟨g1,λv H2 y=>?_⟩;obtain⟨s2,rv⟩:=g2 v H2 y;rw[AS hlt] at hc;refine hg _ _ σ H2 env n xs[i] v _ _ rfl (c.inn.sr.same s2) rv hc λje σ1 hc1 S2=>?_;refine ht _ _ σ1 H2 je n _ _ rfl rfl S2 hc1 λb jf n2 H4 hc2 S4 f4=>?_;cases b with
  |false=>exact⟨xs.length-(i+1),Dx _ _ hlt,rfl,hlt,jf,n2,jo,us,c.go nD S4,Nat.le_succ_of_le la,hc2⟩
  | true =>
   refine he _ _ σ1 H4 jf n2 _ _ rfl rfl S4 hc2 λy jg n3 u H5 hc3 S5 r5 f5=>?_;have c5:=c.go nD S5;refine⟨us,c5.eD,by rw[<- c.ra.length];exact mil' 0x0,xs.length-(i+1),Dx _ _ hlt,rfl,hlt,jg,n3,jo++[y],us++[u],c5.add nD hD r5,by rw[D3,Z9];omega,?_⟩;simp only[i6];exact hc3
 ·obtain rfl:i=xs.length:=Cj hi (Dy hlt);refine .inl ⟨hstop _ (B3 _),?_⟩;rw[Dr] at hc;have hc':R (jo++[]) n:=hc;rw[c7] at hc';exact hQ _ n us H hc' (λp hp=>(c.inn.pots p hp).2) c.kp c.eD c.ra
end
section
variable {T:PotK}{ι:Type}{K:A6}{F:ι->Cx}{e a b c:Expr}{es rest:List Expr}{pe pa pb pc:pE}{pos:Pos}{pl pr:pA}{pg:pG}{pgs:pGs}{pt:pT}
inductive QIf {ι:Type}(T:PotK)(K:A6)(F:ι->Cx)(jn:List Expr)(pt:pT):Prop
 |mk t (a:(∀z,PIf (F z) jn t)) (b:TOk K T t pt):QIf T K F jn pt
def He:QIf T K F [] qTru:=⟨_,λ_=>NT,ON⟩
def KL (h:QT T K F c pt):QIf T K F [c] pt:=let ⟨t,h1,h2⟩:=h;⟨t,λz=>NU (h1 z),h2⟩
def Fo {C:Ct}{G:Gh}{σ:St}{H:Hp}{env:Env}{n:Nat}(S:SR C G σ H env n)(cs:List (Option Nat)):Inn C.K C.T G (Ac cs σ) H (capV cs env) n where
 pots:=S.pots
 has:=S.hasG
 mu:=S.mu
 len:=by simp[capV,Ac]
 slots i s e:=by
  unfold capV at e;rw[L4] at e;cases ec:cs[i]? with
  |none=>rw[ec] at e;cases e
  | some o =>
   rw[ec] at e;cases o with
   |none=>cases e
   | some j =>
    have e':capS (env[j]?)=some s:=by simpa using e
    unfold capS at e'
    split at e'
    ·rename_i x ex;cases e';obtain⟨v,ev,r⟩:=S.slots j _ ex;refine⟨x,v,rfl,?_,r⟩;unfold Ac;rw[L4,ec];simp[ev]
    ·cases e'
def cutH (H:Hp)(D:A1):Hp:=λb=>if b=D then none else H b
def V7 {H:Hp}{D b:A1}(h:b≠D):cutH H D b=H b:=jy h
def Fp {H:Hp}{D:A1}{o:HO}(h:H D=some o):upd (cutH H D) D o=H:=by
 funext b
 by_cases hb:b=D
 ·subst hb;rw[J0,h]
 ·rw[B6 hb,V7 hb]
def Hf {scope:F9}{cl:ι->List (Str×A1)}{N:List Str}{cs:List (Option Nat)}{jm tg iter:Expr}{jn:List Expr}{pi:pA}{ptt:pT}{pte:pE}(S:∀z,l8 (F z) scope (cl z) N cs)(hc:∀z,(F z).calm=true)(hi:QI T K F tg iter pi)
   (hg:QG K (λy:ι×List A1×A1×A4×Hp=>E3 (F y.1) scope (cl y.1) N y.2.1 y.2.2.1 y.2.2.2.1 y.2.2.2.2) tg pg) (ht:QIf T K (λy:ι×List A1×A1×A4×Hp=>E3 (F y.1) scope (cl y.1) N y.2.1 y.2.2.1 y.2.2.2.1 y.2.2.2.2) jn ptt)
   (he:QE T K (λy:ι×List A1×A1×A4×Hp=>E3 (F y.1) scope (cl y.1) N y.2.1 y.2.2.1 y.2.2.2.1 y.2.2.2.2) jm pte)
   (hs:∀z x,M4 iter (F z).env x=pure x:=by intro _ _;rfl):QN T K F (.ListComp jm [⟨tg,iter,jn,0⟩] scope pos) (F7 cs pi pg ptt pte):=by
 obtain⟨wi,i1,i2⟩:=hi;obtain⟨g,hg0,hg⟩:=hg;obtain⟨tt,ht0,ht⟩:=ht;obtain⟨te,he0,he⟩:=he;refine⟨_,λz=>NW (S z) (hc z) (i1 z) (λfp C s H=>⟨hg0 (z,fp,C,s,H),ht0 (z,fp,C,s,H),he0 (z,fp,C,s,H)⟩) (hs z),⇑?_⟩;refine ↥i2 λxs je n1 J H1 p1 S1 f1 hJ=>?_;intro D hD;have hDM:=S1.fresh hD;refine KJ (G:=G) hg ht he hJ p1.1 hD (hT▸hK▸Fo S1 cs) p1.2 λys n2 us H' rr hpots hk eD ry=>?_
 -- the heap without D
 have nD:∀b o,H1 b=some o->b≠D:=λb o e z=>by rw[z,hD] at e;cases e
 have hD0:C.H0 D=none:=by
  cases z:C.H0 D with
  |none=>rfl
  | some o =>
   by_cases hp:D∈C.pots0
   ·exact absurd (S1.sup D (S1.p0.1 D hp)) hDM
   ·have:=S1.frame D o hp z;rw[hD] at this;cases this
 have hk2:∀b o,b∉G.pots->H1 b=some o->cutH H' D b=some o:=λb o hb e=>by rw[V7 (nD b o e)];exact hk b o hb e
 have nc:∀b,b∉D::G.M->b≠D:=λb hb z=>hb (by rw[z];exact D2);have np:∀p∈G.pots,p≠D:=λp hp z=>hDM (z▸(S1.pots p hp).1)
 have Sb:SR C G σ (cutH H' D) je n2:=S1.call hk2 λp hp=>by
  subst hT;have h2:=C.T.keep (hpots p hp) (H':=cutH H' D) (V7 (np p hp)) λb o hb e=>by rw[V7 (nc b hb)];exact e
  exact C.T.more h2 λa ha=>.inl (C1 _ ha)
 have:=k ys je n2 D us (cutH H' D) rr Sb (f1.trans λb o hb e=>hk2 b o (λz=>hb (S1.pots b z).1) e) (by unfold cutH;rw[jw rfl]) ?_
 ·rw[Fp eD] at this;exact this
 ·exact Reps.mono (G:=⟨D::G.M,G.pots⟩) (λb o hb e=>by rw[V7 (nc b hb)];exact e) (λa ha=>.inl (C1 _ ha)) (λ_ _ e=>e) _ _ ry
end
structure X3 where
 nx:Env->Nat->Prop
 rt:PV->Nat->Prop
 bk:Env->Nat->Prop:=λ_ _=>False
 ct:Env->Nat->Prop:=λ_ _=>False
abbrev pS:=X3->Env->Nat->Prop
structure Ext (G:Gh)(H:Hp)(G':Gh)(H':Hp):Prop where
 keep:∀b o,b∉G.M->H b=some o->H' b=some o
 new:∀a∈G'.M,a∈G.M\/H a=none
 pot:∀(k:Nat) (p:A1),G.pots[k]?=some p->G'.pots[k]?=some p
def Ext.refl:Ext G H G H:=⟨λ_ _ _ e=>e,λ_ h=>.inl h,λ_ _ e=>e⟩
def Ext.fr (f:Fr G H H'):Ext G H G H':=⟨f,λ_ h=>.inl h,λ_ _ e=>e⟩
def Ext.trans (a:Ext G H G1 H1)(b:Ext G1 H1 G2 H2):Ext G H G2 H2 where
 keep c o hc e:=b.keep c o (λz=>(a.new c z).elim hc λz=>by rw[z] at e;cases e) (a.keep c o hc e)
 new c hc:=(b.new c hc).elim (fun z=>a.new c z) fun z=>by
  by_cases hM:c∈G.M
  ·exact .inl hM
  ·refine .inr ?_;cases e:H c with
   |none=>rfl
   |some o=>rw[a.keep c o hM e] at z;cases z
 pot k p e:=b.pot k p (a.pot k p e)
structure Link (C:Ct)(G:Gh)(H:Hp)(PD:X3)(D:Ends):Prop where
 nx:∀env n G' σ H',PD.nx env n->SR C G' σ H' env n->Ext G H G' H'->D.nx σ H'
 rt:∀x n v G' σ H' env,PD.rt x n->SR C G' σ H' env n->Rep C.K ⟨C.M0,G'.pots⟩ H' x v->Ext G H G' H'->D.rt v H'
 bk:∀env n G' σ H',PD.bk env n->SR C G' σ H' env n->Ext G H G' H'->D.bk σ H'
 ct:∀env n G' σ H',PD.ct env n->SR C G' σ H' env n->Ext G H G' H'->D.ct σ H'
def Link.ext (L:Link C G H PD D)(x:Ext G H G' H'):Link C G' H' PD D:=
 ⟨λenv n G2 σ H2 p S e=>L.nx env n G2 σ H2 p S (x.trans e),λy n v G2 σ H2 env p S r e=>L.rt y n v G2 σ H2 env p S r (x.trans e),λenv n G2 σ H2 p S e=>L.bk env n G2 σ H2 p S (x.trans e),λenv n G2 σ H2 p S e=>L.ct env n G2 σ H2 p S (x.trans e)⟩
def SOk (K:A6)(T:PotK)(np:Bool)(t:TS)(ps:pS):Prop:=∀(C:Ct) (G:Gh) (σ:St) (H:Hp) (env:Env) (n:Nat) (PD:X3) (D:Ends),C.K=K->C.T=T->C.np=np->SR C G σ H env n->ps PD env n->Link C G H PD D->t D σ H
inductive QS {ι:Type}(T:PotK)(np:Bool)(K:A6)(F:ι->Cx)(st:Stmt)(ps:pS):Prop
 |mk t (a:(∀z,PS (F z) st t)) (b:SOk K T np t ps):QS T np K F st ps
inductive QSs {ι:Type}(T:PotK)(np:Bool)(K:A6)(F:ι->Cx)(st:List Stmt)(ps:pS):Prop
 |mk t (a:(∀z,PSs (F z) st t)) (b:SOk K T np t ps):QSs T np K F st ps
def SR.out (S:SR C G σ H env n)(r:Rep C.K G H x v):Rep C.K ⟨C.M0,G.pots⟩ H x v:=
 Rep.mono (G':=⟨C.M0,G.pots⟩) (λ_ _ _ e=>e) (λa ha=>.inl (S.sup a ha)) (λ_ _ e=>e) _ _ r
def SR.old (S:SR C G σ H env n)(h:H a=none):C.H0 a=none:=by
 cases z:C.H0 a with
 |none=>rfl
 | some o =>
  by_cases hp:a∈C.pots0
  ·exact absurd (S.sup a (S.p0.1 a hp)) (S.fresh h)
  ·have:=S.frame a o hp z;rw[h] at this;cases this
def SR.moreO (S:SR C G σ H env n)(mo:MutO ob)(h:H a=none):SR C ⟨a::G.M,G.pots⟩ σ (upd H a ob) env n where
 frame b o hb e:=Same.lay1 h b o (S.frame b o hb e)
 sub b hb:=(B9.mp hb).elim (λz=>.inr (z▸S.old h)) (S.sub b)
 sup b hb:=C1 _ (S.sup b hb)
 pots p hp:=⟨C1 _ (S.pots p hp).1,by
  have h1:=C.T.more (M':=a::G.M) (S.pots p hp).2 (λc hc=>(B9.mp hc).elim (λz=>.inr (z▸h)) .inl);obtain⟨o,e,_⟩:=C.T.mu h1
  exact C.T.keep h1 (by rw[e,Same.lay1 h p o e]) λb o _ e=>Same.lay1 h b o e⟩
 pre:=S.pre
 mu b hb:=by
  rcases B9.mp hb with rfl|hb
  ·exact⟨_,J0,mo⟩
  ·obtain⟨o,e,m⟩:=S.mu b hb;exact⟨o,Same.lay1 h b o e,m⟩
 slots i s e:=by
  have mm:∀{x:PV} {v:V},Rep C.K G H x v->Rep C.K ⟨a::G.M,G.pots⟩ (upd H a ob) x v:=λr=>Rep.mono (G':=⟨a::G.M,G.pots⟩) (H':=upd H a ob) (λb o _ e=>Same.lay1 h b o e) (λc hc=>(B9.mp (show c∈a::G.M from hc)).elim (λz=>.inr (z▸h)) .inl) (λ_ _ e=>e) _ _ r;have:=S.slots i s e;cases s with
  | v x =>
   obtain⟨v,e1,r⟩:=this;exact⟨v,e1,mm r⟩
  | ow kk xs =>
   obtain⟨b,us,e1,h1,h2,h3,h4,r⟩:=this;exact⟨b,us,e1,C1 _ h1,h2,h3,Same.lay1 h _ _ h4,Reps.mono (G':=⟨a::G.M,G.pots⟩) (H':=upd H a ob) (λb o _ e=>Same.lay1 h b o e) (λc hc=>(B9.mp (show c∈a::G.M from hc)).elim (λz=>.inr (z▸h)) .inl) (λ_ _ e=>e) _ _ r⟩
 inj:=S.inj
 p0:=S.p0
 len:=S.len
 newp:=S.newp
def SR.more (S:SR C G σ H env n)(h:H a=none):SR C ⟨a::G.M,G.pots⟩ σ (upd H a (.lst vs)) env n:=S.moreO (ob:=.lst vs) trivial h
theorem SR.ow (S:SR C G σ H env n)(i:Nat)(kk:OK)(h:H a=none)(r:Reps C.K G H xs vs) :
   SR C ⟨a::G.M,G.pots⟩ (σ.set i (some (.ref a))) (upd H a (mkO kk vs)) (env.set i (some (.ow kk xs))) n:=by
 have S1:=S.moreO (Km kk vs) h;have aM:a∉G.M:=S.fresh h;have r1:Reps C.K ⟨a::G.M,G.pots⟩ (upd H a (mkO kk vs)) xs vs:=Reps.mono (G':=⟨a::G.M,G.pots⟩) (H':=upd H a (mkO kk vs)) (λb o _ e=>Same.lay1 h b o e) (λc hc=>(B9.mp (show c∈a::G.M from hc)).elim (λz=>.inr (z▸h)) .inl) (λ_ _ e=>e) _ _ r
 have jc:∀(j:Nat) (ys:OK×List PV),env[j]?=some (some (Slot.ow ys.1 ys.2))->σ[j]?≠some (some (.ref a)):=by
  intro j ys e z;obtain⟨b,us,e1,h1,_⟩:=S.slots j _ e;rw[z] at e1;cases e1;exact aM h1
 exact {
  frame:=S1.frame
  sub:=S1.sub
  sup:=S1.sup
  pots:=S1.pots
  pre:=S1.pre
  mu:=S1.mu
  slots:=λj s e=>by
   by_cases hj:i=j
   ·subst hj
    by_cases hl:i<env.length
    ·rw[O7 hl] at e;cases e;exact⟨a,vs,by rw[O7 (by rw[<- S.len];exact hl)],D2,λz=>aM (S.sup a z),λz=>aM (S.pots a z).1,J0,r1⟩
    ·rw[i4 (by rw[L9];omega)] at e;cases e
   ·rw[V2 hj] at e ⊢;exact S1.slots j s e
  inj:=fun j k xs' ys b e1 e2 e3 e4=>by
   by_cases hj:i=j
   ·by_cases hk:i=k
    ·ext
    ·subst hj;rw[V2 hk] at e2 e4
     by_cases hl:i<σ.length
     ·rw[O7 hl] at e3;cases e3;exact absurd e4 (jc k ys e2)
     ·rw[i4 (by rw[L9];omega)] at e3;cases e3
   ·rw[V2 hj] at e1 e3
    by_cases hk:i=k
    ·subst hk
     by_cases hl:i<σ.length
     ·rw[O7 hl] at e4;cases e4;exact absurd e3 (jc j xs' e1)
     ·rw[i4 (by rw[L9];omega)] at e4;cases e4
    ·rw[V2 hk] at e2 e4;exact S.inj j k xs' ys b e1 e2 e3 e4
  p0:=S.p0
  len:=by rw[L9,L9];exact S.len
  newp:=S.newp }
def SR.own (S:SR C G σ H env n)(i:Nat)(h:H a=none)(r:Reps C.K G H xs vs) :
   SR C ⟨a::G.M,G.pots⟩ (σ.set i (some (.ref a))) (upd H a (.lst vs)) (env.set i (some (.ow .lst xs))) n:=S.ow i .lst h r
def SR.putO {C:Ct}{G:Gh}{σ:St}{H:Hp}{env:Env}{n:Nat}(S:SR C G σ H env n){i:Nat}{kk:OK}(k':OK){a:A1}{xs ys:List PV}{vs:List V}(e:env[i]?=some (some (.ow kk xs)))(ea:σ[i]?=some (some (.ref a)))(r:Reps C.K G H ys vs) :
   SR C G σ (upd H a (mkO k' vs)) (env.set i (some (.ow k' ys))) n/\Fr G H (upd H a (mkO k' vs)):=by
 obtain⟨a',us,ea',aM,a0,ap,eH,_⟩:=S.slots i _ e;rw[ea] at ea';cases ea';have f:Fr G H (upd H a (mkO k' vs)):=λb o hb he=>by rw[B6 (λz=>hb (by grind))];exact he
 refine⟨{
  frame:=λb o hb he=>?_
  sub:=S.sub
  sup:=S.sup
  pots:=λp hp=>⟨(S.pots p hp).1,C.T.keep (S.pots p hp).2 (B6 λz=>ap (by grind)) f⟩
  pre:=S.pre
  mu:=λb hb=>?_
  slots:=λj s es=>?_
  inj:=λj k xs' ys' b e1 e2 e3 e4=>?_
  p0:=S.p0
  len:=by rw[L9];exact S.len
  newp:=S.newp },f⟩
 ·have hb2:b≠a:=λz=>by
   rcases S.sub a aM with z2|z2
   ·grind
   ·grind
  rw[B6 hb2];exact S.frame b o hb he
 ·by_cases hba:b=a
  ·subst hba;exact⟨_,J0,Km k' vs⟩
  ·obtain⟨o,he,m⟩:=S.mu b hb;exact⟨o,by rw[B6 hba];exact he,m⟩
 ·by_cases hj:i=j
  ·subst hj;have hl:i<env.length:=(E5.mp e).1;rw[O7 hl] at es;cases es;exact⟨a,vs,ea,aM,a0,ap,J0,r.fr f⟩
  ·rw[V2 hj] at es;have:=S.slots j s es;cases s with
   | v x =>
    obtain⟨v,e1,r⟩:=this;exact⟨v,e1,r.fr f⟩
   | ow kz zs =>
    obtain⟨b,us',e1,h1,h2,h3,h4,r⟩:=this;have hba:b≠a:=λz=>hj (S.inj i j (kk,xs) (kz,zs) a e es ea (by rw[e1,z]));exact⟨b,us',e1,h1,h2,h3,by rw[B6 hba];exact h4,r.fr f⟩
 ·have back:∀(j:Nat) (zs:OK×List PV),(env.set i (some (.ow k' ys)))[j]?=some (some (Slot.ow zs.1 zs.2))->∃zs':OK×List PV,env[j]?=some (some (.ow zs'.1 zs'.2)):=by
   intro j zs h
   by_cases hj:i=j
   ·simp_all
   ·grind
  obtain⟨z1,e1'⟩:=back j xs' e1;obtain⟨z2,e2'⟩:=back k ys' e2;exact S.inj j k z1 z2 b e1' e2' e3 e4
def SR.put (S:SR C G σ H env n)(e:env[i]?=some (some (.ow .lst xs)))(ea:σ[i]?=some (some (.ref a)))(r:Reps C.K G H ys vs) :
   SR C G σ (upd H a (.lst vs)) (env.set i (some (.ow .lst ys))) n/\Fr G H (upd H a (.lst vs)):=S.putO .lst e ea r
section
variable {T:PotK}{np:Bool}{ι:Type}{K:A6}{F:ι->Cx}{e a b c:Expr}{es:List Expr}{st:Stmt}{rest:List Stmt}{pe pa pb pc:pE}{pos:Pos}{pl pr:pA}{pg:pG}{pt:pT}{p1 p2:pS}
def qNx:pS:=λD env n=>D.nx env n
def qSeq (p q:pS):pS:=λD env n=>p { D with nx:=λe m=>q D e m } env n
def DQ:QSs T np K F [] qNx:=⟨_,λ_=>JE,λC G σ H env n PD D hK hT hn S hp L=>L.nx _ _ _ _ _ hp S Ext.refl⟩
def BL (h:QS T np K F st p1):QSs T np K F [st] p1:=let ⟨t,h1,h2⟩:=h;⟨t,λz=>DH (h1 z),h2⟩
def Ad (h:QS T np K F st p1)(h':QSs T np K F rest p2):QSs T np K F (st::rest) (qSeq p1 p2):=by
 obtain⟨t,a1,a2⟩:=h;obtain⟨u,b1,b2⟩:=h';refine⟨_,λz=>u6 (a1 z) (b1 z),⇑_⟩;refine a2 C G σ H env n _ _ hK hT hn S hp ⟨λje n1 G1 σ1 H1 q1 S1 x1=>?_,L.rt,L.bk,L.ct⟩;exact b2 C G1 σ1 H1 je n1 PD D hK hT hn S1 q1 (L.ext x1)
def Hg (hN:X.N.Nodup)(hi:X.N[i]?=some x)(hx:Loc X.env.scope x)(hs:v5 e (some (.Name x pos')) pos.line X.env=pure false:=by rfl)(hf:X.fn x=true\/X.env.scope.names.lookup x=some .local:=by first|exact .inl rfl|exact .inr rfl|assumption)(te:TE)(h:EW X e te):SW X (.Assign [.Name x pos'] e pos) (tAsg te (W9 i)):=⟨Bh hN hi hx h.h hs hf⟩
def sw_asg (hs:Ca [tg] e pos.line X.env=pure false:=by rfl)(hw:Cb [tg] e X.env=pure none:=by rfl)(h1:(V1 [tg] X.env).map (·.2)=[assign tg X.env]:=by rfl)(te:TE)(g:TG)(h:EW X e te)(hg:GW X tg g):SW X (.Assign [tg] e pos) (tAsg te g):=⟨Gx h.h hg.h hs hw h1⟩
def OP (hs:v5 e none pos.line X.env=pure false:=by rfl)(te:TE)(h:EW X e te):SW X (.Expr e pos) (Gu te):=⟨Na h.h hs⟩
def qSet (i:Nat)(pe:pE):pS:=λD env n=>pe env n λx je n1=>D.nx (je.set i (some (.v x))) n1
def DR (i:Nat)(h:∀z te,EW (F z) e te->SW (F z) st (tAsg te (W9 i)))(he:QE T K F e pe):QS T np K F st (qSet i pe):=by
 obtain⟨t,a1,a2⟩:=he;refine⟨_,λz=>(h z _ ⟨a1 z⟩).h,⇑_⟩;refine ↥a2 λx je n1 v H1 q1 S1 r1 f1=>?_;exact L.nx _ _ _ _ _ q1 (S1.set i (hK▸r1)) (Ext.fr f1)
def qOwn (i:Nat)(pn:pA):pS:=λD env n=>pn env n λxs je n1=>D.nx (je.set i (some (.ow .lst xs))) n1
def Bn {a:A1}(h:H a=none):Ext G H ⟨a::G.M,G.pots⟩ (upd H a o):=⟨λb u _ e=>Same.lay1 h b u e,λc hc=>(B9.mp (show c∈a::G.M from hc)).elim (λz=>.inr (z▸h)) .inl,λ_ _ e=>e⟩
def qs_own (i:Nat)(h:∀z te,EW (F z) e te->SW (F z) st (tAsg te (W9 i)))(he:QN T K F e pl):QS T np K F st (qOwn i pl):=by
 obtain⟨t,a1,a2⟩:=he;refine⟨_,λz=>(h z _ ⟨a1 z⟩).h,⇑_⟩;refine ↥a2 λxs je n1 a vs Hb q1 S1 f1 hn1 r1=>?_;exact L.nx _ _ _ _ _ q1 (S1.own i hn1 (hK▸r1)) ((Ext.fr f1).trans (Bn hn1))
def qAsg (pe:pE)(g:pG):pS:=λD env n=>pe env n λx je n1=>g x je λjf=>D.nx jf n1
def qs_asg (h:∀z te g,EW (F z) e te->GW (F z) tg g->SW (F z) st (tAsg te g))(he:QE T K F e pe)(hg:QG K F tg pg):QS T np K F st (qAsg pe pg):=by
 obtain⟨t,a1,a2⟩:=he;obtain⟨g,b1,b2⟩:=hg;refine⟨_,λz=>(h z _ _ ⟨a1 z⟩ ⟨b1 z⟩).h,⇑_⟩;refine ↥a2 λx je n1 v H1 q1 S1 r1 f1=>?_;exact b2 C G σ H1 je n1 x v _ _ hK S1 r1 q1 λjk σ' re S'=>L.nx _ _ _ _ _ re S' (Ext.fr f1)
def G6 (pe:pE):pS:=λD env n=>pe env n λ_ je n1=>D.nx je n1
def OQ (h:∀z te,EW (F z) e te->SW (F z) st (Gu te))(he:QE T K F e pe):QS T np K F st (G6 pe):=by
 obtain⟨t,a1,a2⟩:=he;refine⟨_,λz=>(h z _ ⟨a1 z⟩).h,⇑_⟩;exact ↥a2 λx je n1 v H1 q1 S1 r1 f1=>L.nx _ _ _ _ _ q1 S1 (Ext.fr f1)
def qRet (pe:pE):pS:=λD env n=>pe env n λx _ n1=>D.rt x n1
def BM (he:QE T K F e pe):QS T np K F (.Return (some e) pos) (qRet pe):=by
 obtain⟨t,a1,a2⟩:=he;refine⟨_,λz=>DI (a1 z),⇑_⟩;exact ↥a2 λx je n1 v H1 q1 S1 r1 f1=>L.rt _ _ _ _ _ _ _ q1 S1 (S1.out (hK▸r1)) (Ext.fr f1)
def O0 (i:Nat):pS:=λD env n=>match env[i]? with|some (some (.ow .lst xs))=>D.rt (.lst xs) n|_=>False
def OR (i:Nat)(h:∀z,EW (F z) (.Name x p) (tVar i)):QS T np K F (.Return (some (.Name x p)) pos) (O0 i):=by
 refine⟨_,λz=>DI (h z).h,⇑_⟩;unfold O0 at hp
 split at hp
 ·rename_i xs ex;obtain⟨a,vs,ev,h1,h2,h3,h4,r⟩:=S.slots i _ ex;refine⟨.ref a,ev,L.rt _ _ _ _ _ _ _ hp S ⟨a,vs,rfl,⟨h2,h4⟩,?_⟩ Ext.refl⟩;exact Reps.mono (G':=⟨C.M0,G.pots⟩) (λ_ _ _ e=>e) (λa ha=>.inl (S.sup a ha)) (λ_ _ e=>e) _ _ r
 ·exact hp.elim
def qIfS (t:pT)(p q:pS):pS:=λD env n=>t env n λb je n1=>if b=true then p D je n1 else q D je n1
def DS (hc:QT T K F c pt)(h1:QSs T np K F x p1)(h2:QSs T np K F y p2):QS T np K F (.If c x y pos) (qIfS pt p1 p2):=by
 obtain⟨tc,c1,c2⟩:=hc;obtain⟨t,a1,a2⟩:=h1;obtain⟨u,b1,b2⟩:=h2;refine⟨_,λz=>ps_if (c1 z) (a1 z) (b1 z),⇑_⟩;refine ↥c2 λd je n1 H1 q1 S1 f1=>?_;cases d with
 |true=>exact a2 C G σ H1 je n1 PD D hK hT hn S1 q1 (L.ext (Ext.fr f1))
 |false=>exact b2 C G σ H1 je n1 PD D hK hT hn S1 q1 (L.ext (Ext.fr f1))
def forL (g:pG)(b:pS)(D:X3):List PV->Env->Nat->Prop
 |[],env,n=>D.nx env n
 |x::xs,env,n=>g x env λje=>b { D with nx:=λe m=>forL g b D xs e m,ct:=λe m=>forL g b D xs e m,bk:=D.nx } je n
def qFor (pi:pA)(g:pG)(b:pS):pS:=λD env n=>pi env n λxs je n1=>forL g b D xs je n1
def qs_for (hc:∀z,(F z).calm=true)(hi:QI T K F tg iter pl)(hg:QG K F tg pg)(hb:QSs T np K F body p1)(hp:∀z,PassesOwn (A7 (F z).prog (F z).w) (F z).A (F z).env (F z).xe)(hs:∀z x,M4 iter (F z).env x=pure x):QS T np K F (.For tg iter body [] pos) (qFor pl pg p1):=by
 obtain⟨wi,i1,i2⟩:=hi;obtain⟨g,g1,g2⟩:=hg;obtain⟨t,b1,b2⟩:=hb;refine⟨_,λz=>JK (hp z) (hc z) (i1 z) (g1 z) (b1 z) (hs z),⇑_⟩;refine ↥i2 λxs je n1 J H1 q1 S1 f1 hJ=>?_;have L1:=L.ext (Ext.fr f1);refine⟨λi m σ H=>m=xs.length-i/\i<=xs.length/\∃G' env n,SR C G' σ H env n/\Ext G H1 G' H/\forL pg p1 PD (xs.drop i) env n,⟨xs.length,0o0,C8 _,G,je,n1,S1,Ext.refl,by simpa using q1⟩,?_⟩;rintro i m σ' H' ⟨rfl,hi,G',jk,n',S',x',q'⟩;have hf:∀p,H' p=none->p∉G'.M:=λp hp=>S'.fresh hp;obtain⟨hgo,hstop⟩:=hJ G' H' x'.keep x'.new x'.pot hf
 by_cases hlt:i<xs.length
 ·obtain⟨go1,go2⟩:=hgo i _ (D1 hlt);rw[AS hlt] at q';refine .inr ⟨go1,λσ H=>∃G' env n,SR C G' σ H env n/\Ext G H1 G' H/\forL pg p1 PD (xs.drop (i+1)) env n,λσ2 H2 h2=>⟨xs.length-(i+1),0x0,rfl,hlt,h2⟩,λv H2 y=>?_⟩;obtain⟨s2,rv⟩:=go2 v H2 y;have x2:Ext G' H' G' H2:=Ext.fr (Fr.of s2);refine g2 C G' σ' H2 jk n' _ v _ _ hK (S'.same s2) rv q' λjf σ2 q2 S2=>?_;refine b2 C G' σ2 H2 jf n' _ _ hK hT hn S2 q2 ⟨λe3 n3 G3 σ3 H3 q3 S3 x3=>?_,λy n3 v G3 σ3 H3 e3 q3 S3 r3 x3=>?_,λe3 n3 G3 σ3 H3 q3 S3 x3=>?_,λe3 n3 G3 σ3 H3 q3 S3 x3=>?_⟩
  ·exact⟨G3,e3,n3,S3,(x'.trans x2).trans x3,q3⟩
  ·exact L1.rt _ _ _ _ _ _ _ q3 S3 r3 ((x'.trans x2).trans x3)
  ·exact L1.nx _ _ _ _ _ q3 S3 ((x'.trans x2).trans x3)
  ·exact⟨G3,e3,n3,S3,(x'.trans x2).trans x3,q3⟩
 ·have ei:i=xs.length:=0x0
  subst ei;rw[Dr] at q';exact .inl ⟨hstop _ (B3 _),L1.nx _ _ _ _ _ q' S' x'⟩
def X4 (t:pT)(b:pS)(D:X3):Nat->Env->Nat->Prop
 |0,_,_=>False
 |k+1,env,n=>t env n λc je n1=>if c=true then b { D with nx:=λe m=>X4 t b D k e m,ct:=λe m=>X4 t b D k e m,bk:=D.nx } je n1 else D.nx je n1
def BN (t:pT)(b:pS):pS:=λD env n=>∃k,X4 t b D k env n
def OS (hc:QT T K F c pt)(hb:QSs T np K F body p1)(hp:∀z,PassesOwn (A7 (F z).prog (F z).w) (F z).A (F z).env (F z).xe):QS T np K F (.While c body [] pos) (BN pt p1):=by
 obtain⟨tc,c1,c2⟩:=hc;obtain⟨t,b1,b2⟩:=hb;refine⟨_,λz=>Nb (hp z) (c1 z) (b1 z),⇑_⟩;obtain⟨k,hp⟩:=hp;refine⟨λm σ H'=>∃G' env n,SR C G' σ H' env n/\Ext G H G' H'/\X4 pt p1 PD m env n,⟨k,G,env,n,S,Ext.refl,hp⟩,?_⟩;rintro m σ1 H1 ⟨G1,je,n1,S1,x1,q1⟩;cases m with
 |zero=>exact q1.elim
 | succ m =>
  refine c2 C G1 σ1 H1 je n1 _ _ hK hT S1 q1 λd jf n2 H2 q2 S2 f2=>?_;have x2:=x1.trans (Ext.fr f2);cases d with
  |false=>exact iteF (L.nx _ _ _ _ _ q2 S2 x2)
  | true =>
   refine iteT ⟨λσ H'=>∃G' env n,SR C G' σ H' env n/\Ext G H G' H'/\X4 pt p1 PD m env n,λσ' H' h=>⟨m,0x0,h⟩,?_⟩;exact b2 C G1 σ1 H2 jf n2 _ _ hK hT hn S2 q2 ⟨λe3 n3 G3 σ3 H3 q3 S3 x3=>⟨G3,e3,n3,S3,x2.trans x3,q3⟩,λy n3 v G3 σ3 H3 e3 q3 S3 r3 x3=>L.rt _ _ _ _ _ _ _ q3 S3 r3 (x2.trans x3),λe3 n3 G3 σ3 H3 q3 S3 x3=>L.nx _ _ _ _ _ q3 S3 (x2.trans x3),λe3 n3 G3 σ3 H3 q3 S3 x3=>⟨G3,e3,n3,S3,x2.trans x3,q3⟩⟩
def T5 (i:Nat)(pe:pE):pE:=λenv n R=>pe env n λy je n1=>match je[i]? with|some (some (.ow .lst xs))=>xs.length<1000000/\R .non (je.set i (some (.ow .lst (xs++[y])))) n1|_=>False
def OU (i:Nat)(hv:∀z,EW (F z) (.Name x p) (tVar i))(he:QE T K F e pe)(hs:E9 e=true)(hbase:∀z,Ai (.Name x p) "append" (F z).env (eval (.Name x p) (F z).env)=eval (.Name x p) (F z).env)(hline:(ap.endLine == pos.line)=true)
   (hfew:∀z,((backTo pos (F5 [e] (F z).env)).all (λx=>!x.1)&&(backToKw pos (AQ [] (F z).env)).all (λx=>x.1.isSome)&&decide (([e]:List Expr).length+([]:List Y8).length+(if([]:List Y8).isEmpty then 0 else 1)<30))=true) (hK:∀z,(F z).K=K):QE T K F (.Call (.Attribute (.Name x p) "append" ap) [e] [] pos) (λenv n R=>(∃xs,env[i]?=some (some (.ow .lst xs)))/\T5 i pe env n R):=by
 obtain⟨t,a1,a2⟩:=he;refine⟨tBM K "list" Ke (tVar i) (d7 t tNil),λz=>hK z▸CF EO PySem.F.slot_list_append PySem.F.type_list_append Kf (hv z).h (E8 (a1 z) K5 (C9 hs)) (hbase z) (hfew z) hline (C9 hs),⇑?_⟩;obtain⟨⟨xs0,e0⟩,hp⟩:=hp;obtain⟨a,vs,ev,h1,h2,h3,h4,r⟩:=S.slots i _ e0;refine⟨.ref a,ev,.inl ⟨rfl,vs,SqL.of h4⟩,?_⟩;refine ↥a2 λy je n1 v H1 q1 S1 r1 f1=>?_
 split at q1
 ·rename_i xs ex;obtain⟨a',us,ev',g1,g2,g3,g4,r'⟩:=S1.slots i _ ex;rw[ev] at ev';cases ev';subst hK;obtain⟨S2,f2⟩:=S1.put ex ev (r'.append (.one r1));exact⟨a,us,v,rfl,rfl,g4,by rw[<- r'.length];exact mil' 0x0,k _ _ _ _ _ q1.2 S2 rfl (f1.trans f2)⟩
 ·exact q1.elim
def T6 (i:Nat)(pe:pE):pE:=λenv n R=>pe env n λy je n1=>match je[i]?,y with|some (some (.ow .lst xs)),.int d=>xs.length<=1000000/\(match ixN xs.length d with|some j=>(match xs[j]? with|some z=>R z (je.set i (some (.ow .lst (xs.eraseIdx j)))) n1|none=>False)|none=>False)|_,_=>False
def OV (i:Nat)(hv:∀z,EW (F z) (.Name x p) (tVar i))(he:QE T K F e pe)(hs:E9 e=true)(hbase:∀z,Ai (.Name x p) "pop" (F z).env (eval (.Name x p) (F z).env)=eval (.Name x p) (F z).env)(hline:(ap.endLine == pos.line)=true)
   (hfew:∀z,((backTo pos (F5 [e] (F z).env)).all (λx=>!x.1)&&(backToKw pos (AQ [] (F z).env)).all (λx=>x.1.isSome)&&decide (([e]:List Expr).length+([]:List Y8).length+(if([]:List Y8).isEmpty then 0 else 1)<30))=true) (hK:∀z,(F z).K=K) :
   QE T K F (.Call (.Attribute (.Name x p) "pop" ap) [e] [] pos) (λenv n R=>(∃xs,env[i]?=some (some (.ow .lst xs)))/\T6 i pe env n R):=by
 obtain⟨t,a1,a2⟩:=he;refine⟨tBM K "list" Kh (tVar i) (d7 t tNil),λz=>hK z▸CF EO PySem.F.slot_list_pop PySem.F.type_list_pop NL (hv z).h (E8 (a1 z) K5 (C9 hs)) (hbase z) (hfew z) hline (C9 hs),⇑?_⟩;obtain⟨⟨xs0,e0⟩,hp⟩:=hp;obtain⟨a,vs,ev,h1,h2,h3,h4,r⟩:=S.slots i _ e0;refine⟨.ref a,ev,.inl ⟨rfl,vs,SqL.of h4⟩,?_⟩;refine ↥a2 λy je n1 v H1 q1 S1 r1 f1=>?_
 split at q1
 ·rename_i xs d ex;obtain⟨hlen,q1⟩:=q1
  split at q1
  ·rename_i j ej
   split at q1
   ·rename_i z ez;obtain⟨a',us,ev',g1,g2,g3,g4,r'⟩:=S1.slots i _ ex;rw[ev] at ev';cases ev';subst hK;obtain⟨S2,f2⟩:=S1.put ex ev (r'.eraseIdx j);obtain⟨w,e1,rw'⟩:=r'.get' ez;obtain⟨q1',q2',q3',q4'⟩:=GF ej;refine⟨a,us,d,j,w,rfl,by rw[show v=.int d from r1],g4,?_,?_,by rw[<- r'.length];exact q1',e1,k _ _ _ _ _ q1 S2 (rw'.fr f2) (f1.trans f2)⟩
    ·ext
    ·ext
   ·exact q1.elim
  ·exact q1.elim
 ·exact q1.elim
end
abbrev pSl:=Env->Nat->(Slot->Env->Nat->Prop)->Prop
def CO (σ:St)(env:Env)(a:A1):Prop:=∃(j:Nat) (ys:OK×List PV),env[j]?=some (some (.ow ys.1 ys.2))/\σ[j]?=some (some (.ref a))
def SR.slot (S:SR C G σ H env n)(i:Nat)(r:GU C G H (some (some v)) s)(h:∀(xs:OK×List PV) a,s=.ow xs.1 xs.2->v=.ref a->¬CO σ env a):SR C G (σ.set i (some v)) H (env.set i (some s)) n where
 frame:=S.frame
 sub:=S.sub
 sup:=S.sup
 pots:=S.pots
 pre:=S.pre
 mu:=S.mu
 slots j t e:=by
  by_cases hj:i=j
  ·subst hj
   by_cases hl:i<env.length
   ·rw[O7 hl] at e;cases e;rw[O7 (by rw[<- S.len];exact hl)];exact r
   ·rw[i4 (by rw[L9];omega)] at e;cases e
  ·rw[V2 hj] at e ⊢;exact S.slots j t e
 inj j k xs ys b e1 e2 e3 e4:=by
  by_cases hj:i=j
  ·by_cases hk:i=k
   ·ext
   ·subst hj;rw[V2 hk] at e2 e4
    by_cases hl:i<env.length
    ·rw[O7 hl] at e1;rw[O7 (by rw[<- S.len];exact hl)] at e3;cases e1;cases e3;exact absurd ⟨k,ys,e2,e4⟩ (h xs b rfl rfl)
    ·rw[i4 (by rw[L9];omega)] at e1;cases e1
  ·rw[V2 hj] at e1 e3
   by_cases hk:i=k
   ·subst hk
    by_cases hl:i<env.length
    ·rw[O7 hl] at e2;rw[O7 (by rw[<- S.len];exact hl)] at e4;cases e2;cases e4;exact absurd ⟨j,xs,e1,e3⟩ (h ys b rfl rfl)
    ·rw[i4 (by rw[L9];omega)] at e2;cases e2
   ·rw[V2 hk] at e2 e4;exact S.inj j k xs ys b e1 e2 e3 e4
 p0:=S.p0
 len:=by rw[L9,L9];exact S.len
 newp:=S.newp
def Ct.guard (C:Ct)(a:A1)(vs:List V):Ct:={ C with M0:=a::C.M0,H0:=upd C.H0 a (.lst vs) }
theorem SR.guard (S:SR C G σ H env n)(vs:List V)(h:H a=none):SR (C.guard a vs) ⟨a::G.M,G.pots⟩ σ (upd H a (.lst vs)) env n:=by
 have S1:=S.more (vs:=vs) h;have aM:=S.fresh h
 exact {
  frame:=λb o hb e=>by
   by_cases hba:b=a
   ·subst hba;have e':upd C.H0 b (.lst vs) b=some o:=e;rw[J0] at e' ⊢;exact e'
   ·have e':upd C.H0 a (.lst vs) b=some o:=e;rw[B6 hba] at e';exact S1.frame b o hb e'
  sub:=fun b hb=>by
   by_cases hba:b=a
   ·exact .inl (by rw[hba];exact D2)
   ·rcases S1.sub b hb with z|z
    ·exact .inl (C1 _ z)
    ·refine .inr ?_;show upd C.H0 a (.lst vs) b=none;rw[B6 hba];exact z
  sup:=λb hb=>by
   rcases B9.mp (show b∈a::C.M0 from hb) with rfl|z
   ·exact D2
   ·exact S1.sup b z
  pots:=S1.pots
  pre:=S1.pre
  mu:=S1.mu
  slots:=λi s e=>by
   cases s with
   | v x =>
    obtain⟨v,ev,r⟩:=S1.slots i _ e;exact⟨v,ev,r⟩
   | ow kk xs =>
    obtain⟨b,us,ev,h1,h2,h3,h4,r⟩:=S1.slots i _ e;obtain⟨b',us',ev',g1,_⟩:=S.slots i _ e;rw[ev] at ev';cases ev';refine⟨b,us,ev,h1,λz=>?_,h3,h4,r⟩;rcases B9.mp (show b∈a::C.M0 from z) with rfl|z
    ·exact aM g1
    ·exact h2 z
  inj:=S1.inj
  p0:=⟨λp hp=>C1 _ (S1.p0.1 p hp),S1.p0.2⟩
  len:=S1.len
  newp:=λp hp hn hM=>by
   rcases B9.mp (show p∈a::C.M0 from hM) with rfl|z
   ·exact aM (S.pots p hp).1
   ·exact S1.newp p hp hn z }
def SR.unguard (S:SR (C.guard a vs) G σ H env n)(ha:a∉C.M0)(hp0:∀p∈C.pots0,p∈C.M0)(h0:C.H0 a=none):SR C G σ H env n/\H a=some (.lst vs)/\¬CO σ env a:=by
 have hap:a∉C.pots0:=λz=>ha (hp0 a z)
 refine⟨{
  frame:=λb o hb e=>S.frame b o hb (by
   show upd C.H0 a (.lst vs) b=some o
   rw[B6 (λz=>by rw[z,h0] at e;cases e)];exact e)
  sub:=fun b hb=>by
   by_cases hba:b=a
   ·exact .inr (hba▸h0)
   ·rcases S.sub b hb with z|z
    ·rcases B9.mp (show b∈a::C.M0 from z) with z|z
     ·exact absurd z hba
     ·exact .inl z
    ·have z':upd C.H0 a (.lst vs) b=none:=z;rw[B6 hba] at z';exact .inr z'
  sup:=λb hb=>S.sup b (C1 _ hb)
  pots:=S.pots
  pre:=S.pre
  mu:=S.mu
  slots:=λi s e=>by
   cases s with
   | v x =>
    obtain⟨v,ev,r⟩:=S.slots i _ e;exact⟨v,ev,r⟩
   | ow kk xs =>
    obtain⟨b,us,ev,h1,h2,h3,h4,r⟩:=S.slots i _ e;exact⟨b,us,ev,h1,λz=>h2 (C1 _ z),h3,h4,r⟩
  inj:=S.inj
  p0:=⟨hp0,S.p0.2⟩
  len:=S.len
  newp:=λp hp hn hM=>S.newp p hp hn (C1 _ hM) },S.frame a _ hap J0,?_⟩
 rintro⟨j,ys,e1,e2⟩;obtain⟨b,us,ev,h1,h2,_⟩:=S.slots j _ e1;rw[e2] at ev;cases ev;exact h2 D2
def LOk (K:A6)(T:PotK)(t:TE)(pl:pSl):Prop:=∀(C:Ct) (G:Gh) (σ:St) (H:Hp) (env:Env) (n:Nat) (R:Slot->Env->Nat->Prop) (Q:VK),C.K=K->C.T=T->SR C G σ H env n->pl env n R->
 (∀x jk n' v H',R (.v x) jk n'->SR C G σ H' jk n'->Rep K G H' x v->Fr G H H'->Q v H')->
 (∀xs jk n' a vs Hb,R (.ow .lst xs) jk n'->SR C G σ Hb jk n'->Fr G H Hb->Hb a=none->Reps K G Hb xs vs->Q (.ref a) (upd Hb a (.lst vs)))->t σ H Q
inductive QL {ι:Type}(T:PotK)(K:A6)(F:ι->Cx)(e:Expr)(pl:pSl):Prop
 |mk t (a:(∀z,PE (F z) e t)) (b:LOk K T t pl):QL T K F e pl
def sV (pe:pE):pSl:=λenv n R=>pe env n λx je n1=>R (.v x) je n1
def sO (pn:pA):pSl:=λenv n R=>pn env n λxs je n1=>R (.ow .lst xs) je n1
section
variable {T:PotK}{np:Bool}{ι:Type}{K:A6}{F:ι->Cx}{e a b c:Expr}{es:List Expr}{st:Stmt}{rest:List Stmt}{pe pa pb pc:pE}{pos:Pos}{pl pr:pA}{pg:pG}{pt:pT}{p1 p2:pS}{s1 s2 s3:pSl}
def ql_v (h:QE T K F e pe):QL T K F e (sV pe):=let ⟨t,h1,h2⟩:=h;⟨t,h1,λC G σ H env n R Q hK hT S hp k _=>↥h2 λx jk n' v H' r S' rp f=>k x jk n' v H' r S' rp f⟩
def ql_o (h:QN T K F e pl):QL T K F e (sO pl):=let ⟨t,h1,h2⟩:=h;⟨t,h1,λC G σ H env n R Q hK hT S hp _ k=>↥h2 λxs jk n' a vs Hb r S' f hn rs=>k xs jk n' a vs Hb r S' f hn rs⟩
def Got (C:Ct)(G:Gh)(H:Hp)(σ:St)(env:Env)(s:Slot)(v:V):Prop:=GU C G H (some (some v)) s/\∀(xs:OK×List PV) a,s=.ow xs.1 xs.2->v=.ref a->¬CO σ env a
def KM (h:LOk K T t s1)(hK:C.K=K)(hT:C.T=T)(S:SR C G σ H env n)(hp:s1 env n R)
   (k:∀s jk n' v G' H',R s jk n'->SR C G' σ H' jk n'->Ext G H G' H'->Got C G' H' σ jk s v->Q v H'):t σ H Q:=by
 refine ↥h (λx jk n' v H' r S' rp f=>?_) λxs jk n' a vs Hb r S' f hn rs=>?_
 ·exact k _ _ _ _ _ _ r S' (Ext.fr f) ⟨⟨v,rfl,hK▸rp⟩,λ_ _ z=>nomatch z⟩
 ·have aM:=S'.fresh hn;have S1:=S'.more (vs:=vs) hn;refine k _ _ _ _ _ _ r S1 ((Ext.fr f).trans (Bn hn)) ⟨⟨a,vs,rfl,D2,λz=>aM (S'.sup a z),λz=>aM (S'.pots a z).1,J0,?_⟩,λys b e1 e2=>?_⟩
  ·exact Reps.mono (G':=⟨a::G.M,G.pots⟩) (H':=upd Hb a (.lst vs)) (λb o _ e=>Same.lay1 hn b o e) (λc hc=>(B9.mp (show c∈a::G.M from hc)).elim (λz=>.inr (z▸hn)) .inl) (λ_ _ e=>e) _ _ (hK▸rs)
  ·cases e2;rintro⟨j,zs,z1,z2⟩;obtain⟨b,us,ev,g1,_⟩:=S'.slots j _ z1;rw[z2] at ev;cases ev;exact aM g1
def OW {R:Slot->Slot->Env->Nat->Prop}{Q:V->V->Hp->Prop}(h:LOk K T t s1)(h':LOk K T u s2)(hK:C.K=K)(hT:C.T=T)(S:SR C G σ H env n)(hp:s1 env n λx je n1=>s2 je n1 λy jf n2=>R x y jf n2)
   (k:∀x y jk n' v w G' H',R x y jk n'->SR C G' σ H' jk n'->Ext G H G' H'->Got C G' H' σ jk x v->Got C G' H' σ jk y w->(∀(xs ys:OK×List PV) a,x=.ow xs.1 xs.2->y=.ow ys.1 ys.2->v=.ref a->w≠.ref a)->Q v w H'):t σ H λv H1=>u σ H1 λw H2=>Q v w H2:=by
 refine ↥h (λx je n1 v H1 q1 S1 r1 f1=>?_) λxs je n1 a vs Hb q1 S1 f1 hn rs=>?_
 ·refine KM h' hK hT S1 q1 λy jf n2 w G2 H2 q2 S2 x2 g2=>?_;exact k _ _ _ _ _ _ _ _ q2 S2 ((Ext.fr f1).trans x2) ⟨⟨v,rfl,Rep.mono x2.keep x2.new x2.pot _ _ (hK▸r1)⟩,λ_ _ z=>nomatch z⟩ g2 (λ_ _ _ z=>nomatch z)
 ·have aM:=S1.fresh hn;have Hh:=S1.guard vs hn;have a0:a∉C.M0:=λz=>aM (S1.sup a z);have aH:=S1.old hn;have x1:Ext G H ⟨a::G.M,G.pots⟩ (upd Hb a (.lst vs)):=(Ext.fr f1).trans (Bn hn);have r1:Reps C.K ⟨a::G.M,G.pots⟩ (upd Hb a (.lst vs)) xs vs:=Reps.mono (G':=⟨a::G.M,G.pots⟩) (H':=upd Hb a (.lst vs)) (λb o _ e=>Same.lay1 hn b o e) (λc hc=>(B9.mp (show c∈a::G.M from hc)).elim (λz=>.inr (z▸hn)) .inl) (λ_ _ e=>e) _ _ (hK▸rs);refine KM (C:=C.guard a vs) h' hK hT Hh q1 λy jf n2 w G2 H2 q2 S2 x2 g2=>?_;obtain⟨S3,e3,no⟩:=S2.unguard a0 S1.p0.1 aH;have aM2:a∈G2.M:=S2.sup a D2
  have ap2:a∉G2.pots:=λz=>by
   by_cases hz:a∈C.pots0
   ·exact a0 (S1.p0.1 a hz)
   ·exact S2.newp a z hz D2
  have gy:Got C G2 H2 σ jf y w:=by
   refine⟨?_,g2.2⟩;cases y with
   |v x=>exact g2.1
   | ow kk ys =>
    obtain⟨b,us,ev,h1,h2,h3,h4,r⟩:=g2.1;exact⟨b,us,ev,h1,λz=>h2 (C1 _ z),h3,h4,r⟩
  refine k _ _ _ _ _ _ _ _ q2 S3 (x1.trans x2) ⟨⟨a,vs,rfl,aM2,a0,ap2,e3,Reps.mono x2.keep x2.new x2.pot _ _ r1⟩,λ_ _ _ e=>by cases e;exact no⟩ gy λxs' ys b ex ey ev ew=>?_;subst ey;cases ev;obtain⟨b,us,ev,h1,h2,_⟩:=g2.1;rw[ew] at ev;cases ev;exact h2 D2
structure AW (X:Cx)(es:List Expr)(t:TA):Prop where
 h:PA X es t
def Hi {X:Cx}{i j:Nat}{x y:Str}{a b:Expr}{px py pt:Pos}{kt k2 pt2}{pos:Pos}(hc:X.calm=true)(hN:X.N.Nodup)(hi:X.N[i]?=some x)(hj:X.N[j]?=some y)(hij:i≠j)
   (hx:X.env.scope.names.lookup x=some .local) (hy:X.env.scope.names.lookup y=some .local) (hw:Cb [.Tuple [.Name x px,.Name y py] kt pt] (.Tuple [a,b] k2 pt2) X.env=pure (some [x,y]))
   (hs:Ca [.Tuple [.Name x px,.Name y py] kt pt] (.Tuple [a,b] k2 pt2) pos.line X.env=pure false:=by rfl) (ta:TA) (h:AW X [a,b] ta) :
   SW X (.Assign [.Tuple [.Name x px,.Name y py] kt pt] (.Tuple [a,b] k2 pt2) pos) (tPar i j ta):=⟨ps_par hc hN hi hj hij hx hy h.h hw hs⟩
def OX {px py pz pt:Pos}(hc:X.calm=true)(hN:X.N.Nodup)(hi:X.N[i]?=some x)(hj:X.N[j]?=some y)(hk:X.N[k]?=some z)(hij:i≠j)(hik:i≠k)(hjk:j≠k)
   (hx:X.env.scope.names.lookup x=some .local) (hy:X.env.scope.names.lookup y=some .local) (hz:X.env.scope.names.lookup z=some .local) (hw:Cb [.Tuple [.Name x px,.Name y py,.Name z pz] kt pt] (.Tuple [a,b,c] k2 pt2) X.env=pure (some [x,y,z]))
   (hs:Ca [.Tuple [.Name x px,.Name y py,.Name z pz] kt pt] (.Tuple [a,b,c] k2 pt2) pos.line X.env=pure false:=by rfl) (ta:TA) (h:AW X [a,b,c] ta) :
   SW X (.Assign [.Tuple [.Name x px,.Name y py,.Name z pz] kt pt] (.Tuple [a,b,c] k2 pt2) pos) (GS i j k ta):=⟨On hc hN hi hj hk hij hik hjk hx hy hz h.h hw hs⟩
def qPar (i j:Nat)(s1 s2:pSl):pS:=λD env n=>s1 env n λa je n1=>s2 je n1 λb jf n2=>D.nx ((jf.set i (some a)).set j (some b)) n2
def KN {a:A1}(hl:env.length=σ.length)(h:CO (σ.set i (some v)) (env.set i (some s)) a):CO σ env a\/((∃xs:OK×List PV,s=.ow xs.1 xs.2)/\v=.ref a):=by
 obtain⟨j,ys,e1,e2⟩:=h
 by_cases hj:i=j
 ·subst hj
  by_cases hl':i<env.length
  ·rw[O7 hl'] at e1;rw[O7 0x0] at e2;cases e1;cases e2;exact .inr ⟨⟨_,rfl⟩,rfl⟩
  ·rw[i4 (by rw[L9];omega)] at e1;cases e1
 ·rw[V2 hj] at e1 e2;exact .inl ⟨j,ys,e1,e2⟩
def KO (i j:Nat)(h:∀z ta,AW (F z) [a,b] ta->SW (F z) st (tPar i j ta))(h1:QL T K F a s1)(h2:QL T K F b s2)(n1:E9 a=true:=by rfl)(n2:E9 b=true:=by rfl):QS T np K F st (qPar i j s1 s2):=by
 obtain⟨t,a1,a2⟩:=h1;obtain⟨u,b1,b2⟩:=h2;refine⟨_,λz=>(h z _ ⟨E8 (a1 z) (E8 (b1 z) K5 (C9 n2)) (C9 n1)⟩).h,⇑_⟩;refine OW (Q:=λv w H2=>∃v' w',[v,w]=[v',w']/\D.nx ((σ.set i (some v')).set j (some w')) H2) a2 b2 hK hT S hp λx y jf n2 v w G2 H2 q S2 x2 gx gy ne=>?_;refine⟨v,w,rfl,L.nx _ _ _ _ _ q ((S2.slot i gx.1 gx.2).slot j gy.1 λys b e1 e2 z=>?_) x2⟩;rcases KN S2.len z with z|⟨⟨xs,ex⟩,ev⟩
 ·exact gy.2 ys b e1 e2 z
 ·exact ne xs ys b ex e1 ev e2
def Hj (ho:EW X o (tVar i))(ha:∀v,assign (.Subscript o ix pos) X.env v=(do
     let ov ← w8 [v] (eval o X.env)
     let iv ← w8 [v,ov] (eval ix X.env)
     standAt pos
     w8 [v,ov,iv] (setItem ov iv v)
     release [v,ov,iv] []):=by intro _;rfl) (ti:TE) (hi:EW X ix ti):GW X (.Subscript o ix pos) (gSub (tVar i) ti DL):=⟨Gw ho.h hi.h GI ha⟩
def gAt (i:Nat)(pe:pE):PV->Env->Nat->(Env->Nat->Prop)->Prop:=λx env n R=>pe env n λy je n1=>match je[i]?,y with|some (some (.ow .lst xs)),.int d=>(match ixN xs.length d with|some j=>R (je.set i (some (.ow .lst (xs.set j x)))) n1|none=>False)|_,_=>False
def qPut (i:Nat)(pv:pE)(pe:pE):pS:=λD env n=>pv env n λx je n1=>(∃xs,je[i]?=some (some (.ow .lst xs)))/\gAt i pe x je n1 D.nx
def qs_put (i:Nat){pv:pE}(h:∀z te g,EW (F z) v te->GW (F z) (.Subscript o ix pos) g->SW (F z) st (tAsg te g))(hv:QE T K F v pv)(hg:∀z ti,EW (F z) ix ti->GW (F z) (.Subscript o ix pos) (gSub (tVar i) ti DL))(he:QE T K F ix pe):QS T np K F st (qPut i pv pe):=by
 obtain⟨tv,v1,v2⟩:=hv;obtain⟨ti,i1,i2⟩:=he;refine⟨_,λz=>(h z _ _ ⟨v1 z⟩ (hg z _ ⟨i1 z⟩)).h,⇑_⟩;refine ↥v2 λx je n1 v H1 q1 S1 r1 f1=>?_;obtain⟨⟨xs0,e0⟩,q1⟩:=q1;obtain⟨a,vs,ev,h1,h2,h3,h4,r⟩:=S1.slots i _ e0;refine⟨.ref a,ev,?_⟩;refine i2 C G σ H1 je n1 _ _ hK hT S1 q1 λy jf n2 w H2 q2 S2 r2 f2=>?_
 split at q2
 ·rename_i xs d ex
  split at q2
  ·rename_i j ej;obtain⟨a',us,ev',g1,g2,g3,g4,r'⟩:=S2.slots i _ ex;rw[ev] at ev';cases ev';subst hK;obtain⟨S3,f3⟩:=S2.put ex ev (r'.set j (r1.fr f2));exact⟨a,us,d,j,rfl,r2,g4,by rw[<- r'.length];exact ej,L.nx _ _ _ _ _ q2 S3 (Ext.fr ((f1.trans f2).trans f3))⟩
  ·exact q2.elim
 ·exact q2.elim
def Q5 (i:Nat)(env:Env):Env:=match env[i]? with|some (some (.ow .lst xs))=>env.set i (some (.v (.lst xs)))|_=>env
def SR.freeze (S:SR C G σ H env n)(i:Nat):∃G',SR C G' σ H (Q5 i env) n/\Ext G H G' H:=by
 unfold Q5
 split
 ·rename_i xs ex;obtain⟨a,vs,ev,h1,h2,h3,h4,r⟩:=S.slots i _ ex
  let G':Gh:=⟨G.M.filter (·≠a),G.pots⟩
  have sub:∀b∈G'.M,b∈G.M:=λb hb=>(R7.mp hb).1;have mm:∀{x:PV} {v:V},Rep C.K G H x v->Rep C.K G' H x v:=λr=>Rep.mono (G':=G') (λ_ _ _ e=>e) (λb hb=>.inl (sub b hb)) (λ_ _ e=>e) _ _ r;have mms:∀{x:List PV} {v:List V},Reps C.K G H x v->Reps C.K G' H x v:=λr=>Reps.mono (G':=G') (λ_ _ _ e=>e) (λb hb=>.inl (sub b hb)) (λ_ _ e=>e) _ _ r
  refine⟨G',{
   frame:=S.frame
   sub:=λb hb=>S.sub b (sub b hb)
   sup:=λb hb=>R7.mpr ⟨S.sup b hb,ju (show b≠a from λz=>h2 (by grind))⟩
   pots:=λp hp=>⟨R7.mpr ⟨(S.pots p hp).1,ju (show p≠a from λz=>h3 (by grind))⟩,C.T.more (S.pots p hp).2 λb hb=>.inl (sub b hb)⟩
   pre:=S.pre
   mu:=λb hb=>S.mu b (sub b hb)
   slots:=λj s es=>?_
   inj:=λj k xs' ys b e1 e2 e3 e4=>?_
   p0:=S.p0
   len:=by rw[L9];exact S.len
   newp:=S.newp },⟨λ_ _ _ e=>e,λb hb=>.inl (sub b hb),λ_ _ e=>e⟩⟩
  ·by_cases hj:i=j
   ·subst hj;rw[O7 (E5.mp ex).1] at es;cases es;exact⟨.ref a,ev,a,vs,rfl,⟨λz=>by simpa using(R7.mp z).2,h4⟩,mms r⟩
   ·rw[V2 hj] at es;have:=S.slots j s es;cases s with
    | v x =>
     obtain⟨v,e1,r⟩:=this;exact⟨v,e1,mm r⟩
    | ow kz zs =>
     obtain⟨b,us,e1,g1,g2,g3,g4,r⟩:=this;have hba:b≠a:=λz=>hj (S.inj i j (.lst,xs) (kz,zs) a ex es ev (by rw[e1,z]));exact⟨b,us,e1,R7.mpr ⟨g1,by simpa using hba⟩,g2,g3,g4,mms r⟩
  ·have back:∀(j:Nat) (zs:OK×List PV),(env.set i (some (.v (.lst xs))))[j]?=some (some (Slot.ow zs.1 zs.2))->env[j]?=some (some (.ow zs.1 zs.2)):=by
    intro j zs h
    by_cases hj:i=j
    ·grind
    ·grind
   exact S.inj j k xs' ys b (back j _ e1) (back k _ e2) e3 e4
 ·exact⟨G,S,Ext.refl⟩
def O1 (i:Nat)(p:pS):pS:=λD env n=>p D (Q5 i env) n
def OY (i:Nat)(h:QS T np K F st p1):QS T np K F st (O1 i p1):=by
 obtain⟨t,a1,a2⟩:=h;refine⟨t,a1,⇑_⟩;obtain⟨G',S',x'⟩:=S.freeze i;exact a2 C G' σ H _ n PD D hK hT hn S' hp (L.ext x')
end
def M9 (N:List Str)(xs:List PV):Env:=xs.map (λx=>some (.v x))++N8 (N.length-xs.length) none
def fnP (N ps:List Str)(body:pS):pF:=λxs n R=>xs.length=ps.length/\body ⟨λ_ m=>R .non m,R,λ_ _=>False,λ_ _=>False⟩ (M9 N xs) n
def KP (hp:∀p∈G.pots,p∈G.M/\T.at_ G.M H p n)(hm:∀a∈G.M,∃o,H a=some o/\MutO o)(hh:T.has G.pots)(r:Reps K G H xs vs) :
   SR ⟨K,T,G.M,G.pots,H,np⟩ G (L2.start N vs) H (M9 N xs) n where
 frame b o _ e:=e
 sub a ha:=.inl ha
 sup a ha:=ha
 pots:=hp
 pre:=⟨[],0o0,.inl rfl⟩
 mu:=hm
 slots i s e:=by
  unfold M9 at e
  by_cases hi:i<xs.length
  ·rw[Ao (by simpa using hi),L4] at e;cases ex:xs[i]? with
   |none=>rw[ex] at e;cases e
   | some x =>
    rw[ex] at e;cases e;obtain⟨v,ev,rv⟩:=r.get' ex;refine⟨v,?_,rv⟩;unfold L2.start;rw[Ao (by rw[B0,<- r.length];exact hi),L4,ev]
    rfl
  ·rw[An (by simpa using hi),Gd] at e
   split at e <;> cases e
 inj i j xs' ys a e1:=by
  exfalso
  unfold M9 at e1
  by_cases hi:i<xs.length
  ·rw[Ao (by simpa using hi),L4] at e1;cases ex:xs[i]? with
   |none=>rw[ex] at e1;cases e1
   |some x=>rw[ex] at e1;cases e1
  ·rw[An (by simpa using hi),Gd] at e1
   split at e1 <;> cases e1
 p0:=⟨λp h=>(hp p h).1,hh⟩
 len:=by unfold M9 L2.start;simp[r.length]
 newp p h hn:=absurd h hn
section
variable {P:D4}{w:C0}{K:A6}{mg:Str->Option A2}{base:B4}{T:PotK}
def bd1 {P:List A2->Prop}(h:∀a,P [a])(us:List A2)(e:us.length=1):P us:=by
 obtain⟨a,rfl⟩:=List.length_eq_one_iff.mp e;exact h a
def bdS {P:List A2->Prop}(h:∀a us,us.length=n->P (a::us))(us:List A2)(e:us.length=n+1):P us:=by
 obtain⟨a,us,rfl⟩:=List.exists_cons_of_length_eq_add_one e;exact h a us (Nat.succ.inj e)
def bd2 {P:List A2->Prop}(h:∀a b,P [a,b])(us:List A2)(e:us.length=2):P us:=bdS (λa us e=>bd1 (P:=λus=>P (a::us)) (h a) us e) us e
def bd3 {P:List A2->Prop}(h:∀a b c,P [a,b,c])(us:List A2)(e:us.length=3):P us:=bdS (λa us e=>bd2 (P:=λus=>P (a::us)) (h a) us e) us e
def bd4 {P:List A2->Prop}(h:∀a b c d,P [a,b,c,d])(us:List A2)(e:us.length=4):P us:=bdS (λa us e=>bd3 (P:=λus=>P (a::us)) (h a) us e) us e
def bd5 {P:List A2->Prop}(h:∀a b c d e,P [a,b,c,d,e])(us:List A2)(e:us.length=5):P us:=bdS (λa us e=>bd4 (P:=λus=>P (a::us)) (h a) us e) us e
def fn_ok (F0:Fn0 K mg x st)(sc:Aa N ps (K6 st))
   (bd:∀(kV doc pm:A2) (an:Option A1) (jp ct:A2) (us:List A2),us.length=ps.length->bindArgs (k8 x x (Ab st) (Z0 st) (K6 st) .none kV doc pm an jp ct) ⟨us,[]⟩=pure (ps.zip us))
   (h:∀(f:A1) (jp:A2) (A:D9) (outer:List PySem.Env) (s:A4) (H:Hp) (E:XK),Room k (A.deeper (Gm x (K6 st) s.heap.objs.size f jp))->
     QSs T false K (λ_:Unit=>(cxOf CX0 P w K mg base N x (K6 st) f jp A outer s H E).nox) (Z0 st) body) :
   Kn P w K mg base x (k+1) ps (CN K T (fnP N ps body)):=by
 refine F0.ok sc (λvs H Q E h=>?_) bd (λf jp A outer s H vs Q E hr hsp=>?_)
 ·obtain⟨G,xs,n,R,_,_,_,r,hf,_⟩:=h;rw[<- r.length];exact hf.1
 ·obtain⟨t,h1,h2⟩:=h f jp A outer s H E hr;obtain⟨G,xs,n,R,hp,hm,hh,r,hf,k'⟩:=hsp;refine⟨t,h1 (),?_⟩;have S0:=KP (N:=N) (np:=false) hp hm hh r
  have fin:∀(x:PV) (n':Nat) (v:V) (G':Gh) (σ:St) (H':Hp) (env:Env),R x n'->SR ⟨K,T,G.M,G.pots,H,false⟩ G' σ H' env n'->Rep K ⟨G.M,G'.pots⟩ H' x v->Q v H':=by
   intro x n' v G' σ H' env rr S' rv
   have ep:G'.pots=G.pots:=by
    obtain⟨l,el,hl⟩:=S'.pre;rcases hl with hl|hl
    ·rw[el,hl,c7]
    ·cases hl
   rw[ep] at rv;exact k' _ _ _ _ rr rv (λp hp'=>T.more (S'.pots p (by rw[ep];exact hp')).2 λa ha=>.inl (S'.sup a ha)) S'.frame
  refine h2 _ G _ H _ n _ _ rfl rfl rfl S0 hf.2 ⟨λenv n' G' σ H' q S' _=>?_,λx n' v G' σ H' env q S' rv _=>fin x n' v G' σ H' env q S' rv,λ_ _ _ _ _ q=>q.elim,λ_ _ _ _ _ q=>q.elim⟩;exact fin .non n' .non G' σ H' env q S' rfl
def law_ok (F0:Fn0 K mg x st)(sc:Aa N [y] (K6 st))
   (bd:∀(kV doc pm:A2) (an:Option A1) (jp ct:A2) (us:List A2),us.length=[y].length->bindArgs (k8 x x (Ab st) (Z0 st) (K6 st) .none kV doc pm an jp ct) ⟨us,[]⟩=pure ([y].zip us))
   (h:∀(f:A1) (jp:A2) (A:D9) (outer:List PySem.Env) (s:A4) (H:Hp) (E:XK),Room k (A.deeper (Gm x (K6 st) s.heap.objs.size f jp))->
     QSs T true K (λ_:Unit=>(cxOf CX0 P w K mg base N x (K6 st) f jp A outer s H E).nox) (Z0 st) body)
   (hlaw:∀ns:List Int,ns.length<=63->body ⟨λ_ _=>False,λr _=>r=.bl true,λ_ _=>False,λ_ _=>False⟩ (M9 N [.scr ns]) 0) (h0:T.has []:=by trivial) :
   Kn P w K mg base x (k+1) [y] (Fa K):=by
 refine F0.ok sc (λvs H Q E h=>?_) bd (λf jp A outer s H vs Q E hr hsp=>?_)
 ·obtain⟨a,ns,rfl,_⟩:=h
  rfl
 ·obtain⟨t,h1,h2⟩:=h f jp A outer s H E hr;obtain⟨a,ns,rfl,hS,hl,hO,q⟩:=hsp;refine⟨t,h1 (),?_⟩
  let G:Gh:=⟨[],[]⟩
  have r:Reps K G H [.scr ns] [.ref a]:=by
   refine .one ⟨a,rfl,?_⟩;rcases hS with(hS|⟨o,hS⟩)|hS
   ·rcases hO a with z|⟨o,xs,z⟩
    ·rw[z] at hS;cases hS
    ·rw[z] at hS;cases hS
   ·exact .inl ⟨by simp[G],o,hS⟩
   ·exact .inr hS
  have S0:=KP (T:=T) (N:=N) (np:=true) (n:=0) (G:=G) (λp hp=>nomatch hp) (λa ha=>nomatch ha) h0 r;refine h2 _ G _ H _ 0 _ _ rfl rfl rfl S0 (hlaw ns hl) ⟨λ_ _ _ _ _ q=>q.elim,λx n' v G' σ H' env qq S' rv _=>?_,λ_ _ _ _ _ q=>q.elim,λ_ _ _ _ _ q=>q.elim⟩;subst qq;obtain rfl:v=.bl true:=rv;exact q H'
end
structure DT (own seed go:Int):Prop where
 o0:0<=own
 s0:0<=seed
 s1:seed<2 ^ 62
 g0:0<=go
 g1:go<=2 ^ 40
def PotAt (H:Hp)(p:A1)(n:Nat):Prop:=∃own seed go,H p=some (.lst [.int own,.int seed,.int go])/\DT own seed go/\go<=(n:Int)
def potL:PotK where
 at_:=λ_ H p n=>PotAt H p n
 mono:=λ⟨own,seed,go,a,b,c⟩ h=>⟨own,seed,go,a,b,0x0⟩
 keep:=λ⟨own,seed,go,a,b,c⟩ e _=>⟨own,seed,go,e.trans a,b,c⟩
 more:=λh _=>h
 mu:=λ⟨own,seed,go,a,b,c⟩=>⟨_,a,trivial⟩
def O2:pF:=λxs n R=>match xs with|[.pot _,.int m]=>(0<m/\m<1000000/\n<1000000000)/\∀d:Int,0<=d->d<m->R (.int d) (n+1)|_=>False
section
variable {P:D4}{w:C0}{K:A6}{mg:Str->Option A2}{base:B4}
def spDraw:Sp:=λvs H Q _=>∃(p:A1) (own seed go many:Int),vs=[.ref p,.int many]/\H p=some (.lst [.int own,.int seed,.int go])/\DT own seed go/\go<2 ^ 40/\0<many/\many<1000000/\
 ∀d own' seed' go',0<=d->d<many->DT own' seed' go'->go'<=go+1->Q (.int d) (upd H p (.lst [.int own',.int seed',.int go']))
def OZ (G:Kn P w K mg base x k ps spDraw):Kn P w K mg base x k ps (CN K potL O2):=G.imp λvs H Q E h=>by
 obtain⟨G,xs,n,R,hp,hm,_,r,hf,k⟩:=h;unfold O2 at hf
 split at hf
 ·rename_i kk m;obtain⟨v,rr,rfl,rv,u,r2,rfl,ru,rfl⟩:=r;obtain⟨p,ep,rfl⟩:=rv;obtain rfl:u=.int m:=ru;have pin:p∈G.pots:=G4 ep;obtain⟨pM,own,seed,go,e,ok,hg⟩:=hp p pin;refine⟨p,own,seed,go,m,rfl,e,ok,0x0,hf.1.1,hf.1.2.1,λd own' seed' go' d0 d1 ok' g'=>?_⟩;refine k _ _ _ _ (hf.2 d d0 d1) rfl (λq hq=>?_) λb o hb eb=>?_
  ·by_cases hqp:q=p
   ·subst hqp;exact⟨own',seed',go',J0,ok',0x0⟩
   ·obtain⟨_,o2,s2,g2,e2,ok2,hg2⟩:=hp q hq;exact⟨o2,s2,g2,by rw[B6 hqp];exact e2,ok2,0x0⟩
  ·rw[B6 (λz=>hb (by grind))];exact eb
 ·grind
end
section
variable {ι:Type}{K:A6}{F:ι->Cx}{e:Expr}{es:List Expr}{st:Stmt}{pos:Pos}{pl:pA}{pe pa pb:pE}
def SR.pot {C:Ct}{G:Gh}{σ:St}{H:Hp}{env:Env}{n:Nat}(S:SR C G σ H env n)(hn:C.np=true)(hT:C.T=potL){p:A1}{own seed:Int}(h:H p=none)(ok:DT own seed 0) :
   SR C ⟨p::G.M,G.pots++[p]⟩ σ (upd H p (.lst [.int own,.int seed,.int 0])) env n:=by
 have S1:=S.more (vs:=[.int own,.int seed,.int 0]) h
 have mm:∀{x:PV} {v:V} {H:Hp},Rep C.K ⟨p::G.M,G.pots⟩ H x v->Rep C.K ⟨p::G.M,G.pots++[p]⟩ H x v:=λr=>Rep.mono (G:=⟨p::G.M,G.pots⟩) (G':=⟨p::G.M,G.pots++[p]⟩) (λ_ _ _ e=>e) (λ_ ha=>.inl ha) (λk q e=>by
  obtain⟨hk,_⟩:=E5.mp e;show(G.pots++[p])[k]?=_
  rw[Ao hk];exact e) _ _ r
 have mms:∀{x:List PV} {v:List V} {H:Hp},Reps C.K ⟨p::G.M,G.pots⟩ H x v->Reps C.K ⟨p::G.M,G.pots++[p]⟩ H x v:=λr=>Reps.mono (G:=⟨p::G.M,G.pots⟩) (G':=⟨p::G.M,G.pots++[p]⟩) (λ_ _ _ e=>e) (λ_ ha=>.inl ha) (λk q e=>by
  obtain⟨hk,_⟩:=E5.mp e;show(G.pots++[p])[k]?=_
  rw[Ao hk];exact e) _ _ r
 have pM:=S.fresh h
 exact {
  frame:=S1.frame
  sub:=S1.sub
  sup:=S1.sup
  pots:=λq hq=>by
   rcases D6.mp hq with z|z
   ·exact S1.pots q z
   ·rw[E2.mp z];refine⟨D2,?_⟩;rw[hT];exact⟨own,seed,0,J0,ok,0x0⟩
  pre:=by
   obtain⟨l,el,_⟩:=S1.pre;have el':G.pots=C.pots0++l:=el;exact⟨l++[p],by rw[el',i6],.inr hn⟩
  mu:=S1.mu
  slots:=λi s e=>by
   cases s with
   | v x =>
    obtain⟨v,ev,r⟩:=S1.slots i _ e;exact⟨v,ev,mm r⟩
   | ow kk xs =>
    obtain⟨b,us,ev,h1,h2,h3,h4,r⟩:=S1.slots i _ e;obtain⟨b',us',ev',g1,_⟩:=S.slots i _ e;rw[ev] at ev';cases ev';refine⟨b,us,ev,h1,h2,λz=>?_,h4,mms r⟩;rcases D6.mp z with z|z
    ·exact h3 z
    ·rw[E2.mp z] at g1;exact pM g1
  inj:=S1.inj
  p0:=⟨S1.p0.1,C.T.hasM S1.p0.2 λz=>pM (S.pots p z).1⟩
  len:=S1.len
  newp:=λq hq hn' hM=>by
   rcases D6.mp hq with z|z
   ·exact S1.newp q z hn' hM
   ·rw[E2.mp z] at hM
    exact pM (S.sup p hM) }
end
section
variable {T:PotK}{np:Bool}{ι:Type}{K:A6}{F:ι->Cx}{e a b c:Expr}{es:List Expr}{pe pa pb pc:pE}{pos:Pos}{pl pr:pA}
def RdV.lst' {G:Gh}{H:Hp}{xs:List PV}{v:V}(h:RdV K G H (.lst xs) v):∃a vs,v=.ref a/\H a=some (.lst vs)/\Reps K G H xs vs:=by
 rcases h with⟨a,vs,e,t,r⟩|⟨a,vs,ys,ex,ev,h4,r⟩
 ·exact⟨a,vs,e,t.2,r⟩
 ·cases ex;exact⟨a,vs,ev,h4,r⟩
def qCat (pa pb:pE):pA:=λenv n R=>pa env n λx je n1=>pb je n1 λy jf n2=>match x,y with|.lst xs,.lst ys=>jf=je/\xs.length+ys.length<=1000000/\R (xs++ys) jf n2|_,_=>False
def KQ (ha:QR T K F a pa)(hb:QR T K F b pb):QN T K F (.BinOp a .Add b pos) (qCat pa pb):=by
 obtain⟨t,a1,a2⟩:=ha;obtain⟨u,b1,b2⟩:=hb;refine⟨_,λz=>G5 op_cat (a1 z) (b1 z),⇑?_⟩;refine ↥a2 λx je n1 v H1 q1 S1 r1 f1=>?_;refine b2 C G σ H1 je n1 _ _ hK hT S1 q1 λy jf n2 w H2 q2 S2 r2 f2=>?_
 split at q2
 ·rename_i xs ys;obtain⟨e1,hl,q2⟩:=q2;subst e1;obtain⟨l,vs,ev,e1,rx⟩:=RdV.lst' ((r1.fr f2).rd S2);obtain⟨m,us,ew,e2,ry⟩:=RdV.lst' (r2.rd S2);exact⟨l,m,vs,us,ev,ew,e1,e2,by rw[<- rx.length,<- ry.length];exact mil hl,λp hn=>k _ _ _ _ _ _ q2 S2 (f1.trans f2) hn (hK▸rx.append ry)⟩
 ·exact q2.elim
def y8:List PV->Option (List Str)
 |[]=>some []
 |.str b::xs=>(y8 xs).map (b::·)
 |_=>none
theorem KR:∀{xs:List PV} {vs:List V} {bs:List Str},y8 xs=some bs->Reps K G H xs vs->vs=bs.map V.str
 |[],vs,bs,h,r=>by cases h;exact r
 | .str b :: xs, vs, bs, h, r => by
  obtain⟨v,t,e,rv,rt⟩:=r;cases e1:y8 xs with
  |none=>simp[y8,e1] at h
  | some cs =>
   have:b::cs=bs:=by simpa[y8,e1] using h
   subst this;rw[e,show v=.str b from rv,KR e1 rt]
   rfl
 |.non::_,_,_,h,_=>by cases h
 |.int _::_,_,_,h,_=>by cases h
 |.bl _::_,_,_,h,_=>by cases h
 |.ty _::_,_,_,h,_=>by cases h
 |.pot _::_,_,_,h,_=>by cases h
 |.tup _::_,_,_,h,_=>by cases h
 |.lst _::_,_,_,h,_=>by cases h
 |.dct _ _::_,_,_,h,_=>by cases h
 |.fdt _ _::_,_,_,h,_=>by cases h
 |.scr _::_,_,_,h,_=>by cases h
theorem KS:∀bs:List Str,y8 (bs.map PV.str)=some bs
 |[]=>rfl
 |b::bs=>by simp[y8,KS bs]
def wNeg:w1:=λx R=>match x with|.int i=>R (.int (-i))|_=>False
def qe_neg (h:QE T K F a pa):QE T K F (.UnaryOp .USub a pos) (qUn wNeg pa):=by
 obtain⟨t,a1,a2⟩:=h.r;refine⟨_,λz=>pe_un JL (a1 z),ok_un (λG H x v R Q hf rx hw k=>?_) a2⟩;unfold wNeg at hw
 split at hw
 ·exact⟨_,rx.int,k _ _ _ hw (Same.refl _) rfl⟩
 ·exact hw.elim
end
def K9 (i:Nat)(pe:pE):pE:=λenv n R=>(∃xs,env[i]?=some (some (.ow .lst xs)))/\T5 i pe env n R
def T7 (i:Nat)(pe:pE):pE:=λenv n R=>(∃xs,env[i]?=some (some (.ow .lst xs)))/\T6 i pe env n R
theorem BO {te:pE}{rest:Env}(f:PV->PV):∀(xs:List PV) (s0:Option Slot) (n:Nat) (R:List PV->Nat->Prop),(∀x∈xs,∀m Q,Q (f x) (some (.v x)::rest) m->te (some (.v x)::rest) m Q)->R (xs.map f) n->Z4 (gN 0) qTru te xs (s0::rest) n R
 |[],_,_,_,_,h=>h
 | x :: xs, s0, n, R, ht, h => by
  show te (some (.v x)::rest) n _;refine ht x D2 n _ ?_;exact BO f xs _ n _ (λy hy=>ht y (C1 _ hy)) h
theorem KU {te:pE}{rest:Env}(P:PV->Prop)(c N:Nat):∀(xs:List PV) (s0:Option Slot) (n:Nat) (R:List PV->Nat->Prop),
   (∀x∈xs,∀m Q,m<=N->(∀y m',P y->m'<=m+c->Q y (some (.v x)::rest) m')->te (some (.v x)::rest) m Q)->n+c*xs.length<=N->(∀ys n',ys.length=xs.length->(∀y∈ys,P y)->n'<=n+c*xs.length->R ys n')->Z4 (gN 0) qTru te xs (s0::rest) n R
 |[],_,n,_,_,_,h=>h [] n rfl (λ_ z=>nomatch z) 0x0
 | x :: xs, s0, n, R, ht, hN, h => by
  have hl:c*(x::xs).length=c*xs.length+c:=by rw[F2,Nat.mul_succ]
  show te (some (.v x)::rest) n _;refine ht x D2 n _ 0x0 λy m' py hm=>?_;refine KU P c N xs _ m' _ (λy hy=>ht y (C1 _ hy)) 0x0 λys n' e p hn=>?_;exact h (y::ys) n' (by simp[e]) (λz hz=>(B9.mp hz).elim (λe=>e▸py) (p z)) 0x0
theorem N1 {g:pG}{b:pS}{D:X3}(I:Nat->Env->Nat->Prop):∀(xs:List PV) (k:Nat) (env:Env) (n:Nat),I k env n->
   (∀(i:Nat) x env n (N:Env->Nat->Prop),xs[i]?=some x->I (k+i) env n->(∀e m,I (k+i+1) e m->N e m)->g x env λje=>b { D with nx:=N,ct:=N,bk:=D.nx } je n)->(∀env n,I (k+xs.length) env n->D.nx env n)->forL g b D xs env n
 |[],k,env,n,h0,_,hd=>hd env n h0
 | x :: xs, k, env, n, h0, hs, hd => by
  show g x env λje=>b { D with nx:=λe m=>forL g b D xs e m,ct:=λe m=>forL g b D xs e m,bk:=D.nx } je n;refine hs 0 x env n _ rfl h0 λe m h1=>?_;refine N1 I xs (k+1) e m h1 (λi y env n N e1 h2 h3=>?_) λenv n h2=>hd env n (by rw[F2,show k+(xs.length+1)=k+1+xs.length by omega];exact h2);refine hs (i+1) y env n N (by simpa using e1) (by rw[show k+(i+1)=k+1+i by omega];exact h2) λe m h4=>h3 e m (by rw[show k+1+i+1=k+(i+1)+1 by omega];exact h4)
def i8 {j i:Nat}{lo:Int}{x:PV}(h:((B8 j).map λ(k:Nat)=>PV.int (lo+k))[i]?=some x):i<j/\x=.int (lo+i):=by grind
def e7:((B8 j).map λ(k:Nat)=>PV.int (lo+k)).length=j:=0o0
def Bo {α:Type}{xs:List α}{d:Int}(h0:0<=d)(h1:d<xs.length):∃x,x∈xs/\atI xs d=some x:=by
 obtain⟨x,e1,e2⟩:=GT h0 h1;exact⟨x,G4 e1,e2⟩
def O_ {α:Type}{xs:List α}{lo hi:Option Int}:∀x∈cutP xs lo hi,x∈xs:=λx hx=>EC (i5 hx)
def CP (a b:Int):eqP (.int a) (.int b)=decide (a=b):=rfl
def AG (a b:Str):eqP (.str a) (.str b)=decide (a=b):=rfl
def X5 (xs ys:List PV):eqP (.lst xs) (.lst ys)=eqPs xs ys:=rfl
def X6 (xs ys:List PV):eqP (.tup xs) (.tup ys)=eqPs xs ys:=rfl
def V8 (x y:PV)(xs ys:List PV):eqPs (x::xs) (y::ys)=(eqP x y&&eqPs xs ys):=rfl
def X7:eqPs [] []=true:=rfl
def if_t {A B:Prop}(h:b=true)(q:A):if b=true then A else B:=by rw[jw h];exact q
def if_f {A B:Prop}{b:Bool}(h:b=false)(q:B):if b=true then A else B:=by grind
end Pu
end
section
namespace L2
open PySem PySem.Spec PyProof.Rows
def keyD:Key->PyData
 |.inl i=>.int i
 |.inr x=>.str x
mutual
def RdD (H:Hp):PyData->V->Prop
 |.none,v=>v=.non
 |.bool b,v=>v=.bl b
 |.int i,v=>v=.int i
 |.str x,v=>v=.str x
 |.list xs,v=>∃a vs,v=.ref a/\H a=some (.lst vs)/\RdDs H xs vs
 |.tuple xs,v=>∃a vs,v=.ref a/\H a=some (.tup vs)/\RdDs H xs vs
 |.dict ji,v=>∃a ws,v=.ref a/\H a=some (.dK ws)/\RdKv H ji ws
def RdDs (H:Hp):List PyData->List V->Prop
 |[],vs=>vs=[]
 |d::ds,vs=>∃v r,vs=v::r/\RdD H d v/\RdDs H ds r
def RdKv (H:Hp):List (PyData×PyData)->List (Key×V)->Prop
 |[],ws=>ws=[]
 |(k,d)::r,ws=>∃q w ws',ws=(q,w)::ws'/\k=keyD q/\RdD H d w/\RdKv H r ws'
end
section
variable {P:D4}{w:C0}{H:Hp}{h:B4}
mutual
theorem Hk (hok:HOk P w H h)(sy:NS H):∀(d:PyData) (v:V) (u:A2),RdD H d v->RelV v u->∃as,Reads h u d as/\P8∉as
 | .none, v, u, r, e => by
  obtain rfl:v=.non:=r;obtain rfl:u=.none:=e;exact⟨[],.none,nofun⟩
 | .bool b, v, u, r, e => by
  obtain rfl:v=.bl b:=r;obtain rfl:u=.bool b:=e;exact⟨[],.bool b,nofun⟩
 | .int i, v, u, r, e => by
  obtain rfl:v=.int i:=r;obtain⟨t,rfl⟩:=e;exact⟨[],.int i t,nofun⟩
 | .str x, v, u, r, e => by
  obtain rfl:v=.str x:=r;obtain⟨t,rfl⟩:=e;exact⟨[],.str x t,nofun⟩
 | .list xs, v, u, r, e => by
  obtain⟨a,vs,rfl,ha,rs⟩:=r;obtain rfl:u=.ref a:=e;obtain⟨_,jh,n,rv,ho⟩:=hok a _ ha;obtain⟨as,rr,ns⟩:=Hl hok sy xs vs jh rs rv;refine⟨a::as,.list ho rfl rfl rr,λz=>?_⟩;rcases B9.mp z with z|z
  ·rw[<- z] at ha;rcases sy with sy|⟨o,u,sy⟩ <;> rw[sy] at ha <;> cases ha
  ·exact ns z
 | .tuple xs, v, u, r, e => by
  obtain⟨a,vs,rfl,ha,rs⟩:=r;obtain rfl:u=.ref a:=e;obtain⟨_,jh,rv,ho⟩:=hok a _ ha;obtain⟨as,rr,ns⟩:=Hl hok sy xs vs jh rs rv;obtain⟨o,e1,e2,n,e3⟩:=ho;exact⟨as,.tuple e1 (Cz e2).1 e3 rr,ns⟩
 | .dict ji, v, u, r, e => by
  obtain⟨a,ws,rfl,ha,rs⟩:=r;obtain rfl:u=.ref a:=e;obtain⟨_,hs,us,rv,o,es,ep,e1,e2,e3,_,e5,_⟩:=hok a _ ha;obtain⟨as,bs,r1,r2,n1,n2⟩:=KW hok sy ji ws us es.toList rs rv e5;refine⟨a::as++bs,.dict e1 e2.1 e3 r1 r2,λz=>?_⟩;rcases D6.mp z with z|z
  ·rcases B9.mp z with z|z
   ·rw[<- z] at hs;exact absurd hs 0b0
   ·exact n1 z
  ·exact n2 z
theorem Hl (hok:HOk P w H h)(sy:NS H):∀(ds:List PyData) (vs:List V) (us:List A2),RdDs H ds vs->Vals vs us->∃as,ReadsAll h us ds as/\P8∉as
 | [], vs, us, r, e => by
  obtain rfl:vs=[]:=r;cases e;exact⟨[],.nil,nofun⟩
 | d :: ds, vs, us, r, e => by
  obtain⟨v,r',rfl,r1,r2⟩:=r;cases e with
  | cons e1 e2 =>
   obtain⟨as,a1,a2⟩:=Hk hok sy d v _ r1 e1;obtain⟨bs,b1,b2⟩:=Hl hok sy ds r' _ r2 e2;exact⟨as++bs,.cons a1 b1,λz=>(D6.mp z).elim a2 b2⟩
theorem KW (hok:HOk P w H h)(sy:NS H):∀(ji:List (PyData×PyData)) (ws:List (Key×V)) (us:List (Key×A2)) (es:List DictEntry),RdKv H ji ws->KV ws us->Pairs (P3 P w) es us->
   ∃as bs,ReadsAll h (es.map (·.key)) (ji.map (·.1)) as/\ReadsAll h (es.map (·.val)) (ji.map (·.2)) bs/\P8∉as/\P8∉bs
 | [], ws, us, es, r, e, p => by
  obtain rfl:ws=[]:=r;cases e;cases p;exact⟨[],[],.nil,.nil,nofun,nofun⟩
 | (k, d) :: ji, ws, us, es, r, e, p => by
  obtain⟨q,w1,ws',rfl,rfl,r1,r2⟩:=r;cases e with
  | cons e1 e2 =>
   cases p with
   | cons p1 p2 p3 =>
    obtain⟨as,bs,a1,a2,a3,a4⟩:=KW hok sy ji ws' _ _ r2 e2 p3;obtain⟨e1,e1'⟩:=e1;dsimp only at e1 e1';obtain⟨cs,c1,c2⟩:=Hk hok sy d w1 _ r1 e1';rw[<- e1] at p1;refine⟨[]++as,cs++bs,.cons ?_ a1,.cons (by dsimp only;rw[p2];exact c1) a2,a3,λz=>(D6.mp z).elim c2 a4⟩;rcases y7 p1 with⟨i,t,rfl,e⟩|⟨x,t,rfl,e⟩
    ·dsimp only;rw[e];exact .int i t
    ·dsimp only;rw[e];exact .str x t
end
end
section
variable {X:Cx}{jd:List (A1×Obj)}{σ:St}{H:Hp}{s:A4}
def Pa (hr:Room k X.A):M6 X (.builtin "repr") (λvs H Q=>∃v d,vs=[v]/\RdD H d v/\d.showable=true/\d.depth<=40/\d.shown.length<=B5/\Q (.str d.shown) H):=by
 intro jd s σ H vs us Q I rv h;obtain⟨v,d,rfl,r,h1,h2,h3,q⟩:=h;obtain⟨u,rfl,ru⟩:=rv.one;obtain⟨as,rr,ns⟩:=Hk I.hok I.nos d v u r ru;have fin:∀(h':B4) (t:Tok) (tk:Tok),(∀b o,s.heap.get? b=some o->h'.get? b=some o)->∃v' H',Inv X jd σ H' { s with heap:=h',toks:=tk }/\RelV v' (.str d.shown t)/\Q v' H':=λh' t tk kp=>⟨.str d.shown,H,I.kept kp,⟨t,rfl⟩,q⟩;cases rr with
 |none=>exact P.repr_of_none (fin s.heap _ _ λ_ _ z=>z)
 |bool b=>exact P.repr_of_bool (by cases b <;> exact fin s.heap _ _ λ_ _ z=>z)
 |int i t=>exact P.repr_of_int (by simpa[y0] using h1) (fin s.heap _ _ λ_ _ z=>z)
 |str x t=>exact P.repr_of_str (fin s.heap _ _ λ_ _ z=>z) h3
 |list e1 e2 e3 e4=>exact repr_of_reads' (.list e1 e2 e3 e4) h1 (λ_=>ns) hr.gd (by have:=hr.units;ext) (λ_ _ z=>z) (λh' u tk kp=>fin h' u tk kp) h3
 |tuple e1 e2 e3 e4=>exact repr_of_reads' (.tuple e1 e2 e3 e4) h1 (λ_=>ns) hr.gd (by have:=hr.units;ext) (λ_ _ z=>z) (λh' u tk kp=>fin h' u tk kp) h3
 |dict e1 e2 e3 e4 e5=>exact repr_of_reads' (.dict e1 e2 e3 e4 e5) h1 (λ_=>ns) hr.gd (by have:=hr.units;ext) (λ_ _ z=>z) (λh' u tk kp=>fin h' u tk kp) h3
end
end L2
namespace Pu
open PySem PySem.Spec L2
mutual
/-- what a thing holds, for repr -/
def dat:PV->Option PyData
 |.non=>some .none
 |.bl b=>some (.bool b)
 |.int i=>some (.int i)
 |.str x=>some (.str x)
 |.tup xs=>match dats xs with|some ds=>some (.tuple ds)|none=>none
 |.lst xs=>match dats xs with|some ds=>some (.list ds)|none=>none
 |.dct ks xs=>match dats xs with|some ds=>some (.dict ((ks.map keyD).zip ds))|none=>none
 |_=>none
def dats:List PV->Option (List PyData)
 |[]=>some []
 |x::xs=>match dat x,dats xs with|some d,some ds=>some (d::ds)|_,_=>none
end
theorem kv_rd:∀(ji:List (Key×V)) (ds:List PyData),RdDs H ds (ji.map (·.2))->RdKv H (((ji.map (·.1)).map keyD).zip ds) ji
 | [], ds, r => by
  cases ds with
  |nil=>exact rfl
  |cons d ds=>obtain⟨v,r',e,_⟩:=r;cases e
 | (q, w) :: ji, ds, r => by
  cases ds with
  |nil=>exact(List.cons_ne_nil _ _ r).elim
  | cons d ds =>
   obtain⟨v,r',e,r1,r2⟩:=r;cases e;exact⟨q,w,ji,rfl,rfl,r1,kv_rd ji ds r2⟩
section
variable {K:A6}{G:Gh}{H:Hp}
mutual
theorem KY:∀(x:PV) (v:V) (d:PyData),Rep K G H x v->dat x=some d->RdD H d v
 |.non,v,d,r,e=>by cases e;exact r
 |.bl b,v,d,r,e=>by cases e;exact r
 |.int i,v,d,r,e=>by cases e;exact r
 |.str x,v,d,r,e=>by cases e;exact r
 | .tup xs, v, d, r, e => by
  obtain⟨a,vs,rfl,t,rs⟩:=r;rw[dat] at e;cases ed:dats xs with
  |none=>rw[ed] at e;cases e
  |some ds=>rw[ed] at e;cases e;exact⟨a,vs,rfl,t.2,DU xs vs ds rs ed⟩
 | .lst xs, v, d, r, e => by
  obtain⟨a,vs,rfl,t,rs⟩:=r;rw[dat] at e;cases ed:dats xs with
  |none=>rw[ed] at e;cases e
  |some ds=>rw[ed] at e;cases e;exact⟨a,vs,rfl,t.2,DU xs vs ds rs ed⟩
 |.ty _,v,d,r,e=>by cases e
 |.pot _,v,d,r,e=>by cases e
 |.scr _,v,d,r,e=>by cases e
 |.fdt _ _,v,d,r,e=>by cases e
 | .dct ks xs, v, d, r, e => by
  obtain⟨a,ji,rfl,_,ha,hk,rs⟩:=r;rw[dat] at e;cases ed:dats xs with
  |none=>rw[ed] at e;cases e
  |some ds=>rw[ed] at e;cases e;exact⟨a,ji,rfl,ha,hk▸kv_rd ji ds (DU xs _ ds rs ed)⟩
theorem DU:∀(xs:List PV) (vs:List V) (ds:List PyData),Reps K G H xs vs->dats xs=some ds->RdDs H ds vs
 |[],vs,ds,r,e=>by cases e;exact r
 | x :: xs, vs, ds, r, e => by
  obtain⟨v,r',rfl,r1,r2⟩:=r;rw[dats] at e;cases e1:dat x with
  |none=>rw[e1] at e;cases e
  | some d =>
   cases e2:dats xs with
   |none=>rw[e1,e2] at e;cases e
   |some ds'=>rw[e1,e2] at e;cases e;exact⟨v,r',rfl,KY x v d r1 e1,DU xs r' ds' r2 e2⟩
end
end
def AH:w1:=λx R=>match dat x with|some d=>d.showable=true/\d.depth<=40/\d.shown.length<=B5/\R (.str d.shown)|none=>False
def bt_repr:K7 "repr"=some (.builtin "repr"):=by decide +kernel
section
variable {T:PotK}{ι:Type}{K:A6}{F:ι->Cx}{e:Expr}{pe:pE}{pos:Pos}
def Pb (hr:∀z,Room k (F z).A)(hg:∀z,Gl (F z) "repr")(hm:∀z,(F z).mg "repr"=none)(ha:QR T K F e pe)(hs:E9 e=true):QE T K F (.Call (.Name "repr" p) [e] [] pos) (qUn AH pe):=Fm (λz=>Pa (hr z)) (λG H x v R Q hf rx hw k=>by
 unfold AH at hw;cases ed:dat x with
 |none=>rw[ed] at hw;exact hw.elim
 | some d =>
  rw[ed] at hw;obtain⟨h1,h2,h3,q⟩:=hw;refine⟨v,d,rfl,?_,h1,h2,h3,k _ _ _ q (Same.refl _) rfl⟩;rcases rx with rx|⟨a,vs,xs,rfl,rfl,hv,rs⟩
  ·exact KY x v d rx ed
  ·rw[dat] at ed;cases es:dats xs with
   |none=>rw[es] at ed;cases ed
   |some ds=>rw[es] at ed;cases ed;exact⟨a,vs,rfl,hv,DU xs vs ds rs es⟩) hg hm bt_repr ha hs
end
end Pu
end
section
namespace HT
open PySem PySem.Spec PyProof.Rows
section
variable {prog:D4}{w:C0}{A:D9}{E:A2->A4->Prop}{s:A4}
def Pc (n:Nat):DE none none (-1) (n:Int)=((n:Int)-1,-1):=rfl
def Pd (n:Nat):Bb ((n:Int)-1) (-1) (-1)=n:=by
 unfold Bb;rw[jy 0b0];have h1:(- -1:Int)=1:=0b0
 rw[h1]
 by_cases h:(n:Int)-1 > -1
 ·rw[jw h,Int.ediv_one];ext
 ·rw[jy h];ext
def Pe {n:Nat}(hs:s.heap.IsSliceOf sl .none .none vk)(pk:IsPart vk (some (-1)))
   (h:Q ((n:Int)-1,-1,n) s):A5 (A7 prog w) A (EJ (.ref sl) (pure (n:Int))) Q E s:=by
 obtain⟨os,hos,hcs,hds⟩:=id hs;unfold EJ Jw;refine A3 (A3 (L8 hos hds (x:=.none) rfl (A3 (L8 hos hds (x:=.none) rfl (A3 (L8 hos hds (x:=vk) rfl (A9 ?_)))))));refine A3 (DK pk ?_);show A5 _ _ (if((-1:Int) == 0)=true then _ else _) _ _ s;rw[jy 0b0];refine A3 (DK .none (A3 (DK .none (A3 (A9 ?_)))));show A5 _ _ (match DE none none (-1) (n:Int) with|(lo,hi)=>pure (lo,(-1:Int),Bb lo hi (-1))) _ _ s;rw[Pc];show A5 _ _ (pure ((n:Int)-1,(-1:Int),Bb ((n:Int)-1) (-1) (-1))) _ _ s;rw[Pd];exact A9 h
theorem KZ {α β:Type}{f g:α->Option β}:∀l:List α,(∀m∈l,f m=g m)->l.filterMap f=l.filterMap g
 |[],_=>rfl
 |x::l,h=>by rw[Dn,Dn,h x D2,KZ l λm hm=>h m (C1 _ hm)]
def Pf (xs:Array A2):((B8 xs.size).filterMap λ(m:Nat)=>xs[((xs.size:Int)-1+(m:Int) * -1).toNat]?).toArray=xs.toList.reverse.toArray:=by
 congr 1
 have e:(B8 xs.size).filterMap (λ(m:Nat)=>xs[((xs.size:Int)-1+(m:Int) * -1).toNat]?)=((B8 xs.size).map λk=>xs.size-1-k).filterMap (xs[·]?):=by
  rw[List.filterMap_map];refine KZ _ λm hm=>?_;have:=M5.mp hm;show _=xs[xs.size-1-m]?
  congr 1
  ext
 rw[e,PySem.W.krv_range,List.filterMap_reverse,PySem.W.krv_all]
def getItem_tuple_rev (ht:IsTup s.heap t items)(hs:s.heap.IsSliceOf sl .none .none vk)(pk:IsPart vk (some (-1)))
   (h:Q (.ref s.heap.objs.size) { s with heap:=s.heap.push { cls:=.type "tuple",data:=.seq items.toList.reverse.toArray } })
   (hsz:items.size<=B5):A5 (A7 prog w) A (k6 (.ref t) (.ref sl)) Q E s:=by
 have htake:sizeOk (.seq items.toList.reverse.toArray):=by
  show items.toList.reverse.toArray.size<=B5;rw[G9,Do,BE];ext
 obtain⟨os,hos,hcs,hds⟩:=id hs;have hTs:s.TypeIs (.ref sl) "slice":=⟨os,hos,hcs⟩;unfold k6
 try with_reducible refine R3 ?_
 first|refine A3 (A9 ?_)|skip
 refine A3 (wpAny_sequenceKey ht.typeIs 0b0 ?_)
 refine A3 (Ag (name:=B1 "__getitem__") ht.typeIs Co
   (j9 Co ht.typeIs entry_tuple_getitem ?_ (args_tuple_getitem _ _)))
 show A5 _ _ (Gn (.ref t)>>=_) _ _ s;refine A3 (tupleItemsOf_ ht ?_);refine A3 (AO hTs ?_);rw[jw 0b0];refine A3 (Pe hs pk ?_)
 have hno:¬((((items.size:Int)-1) == 0&&(-1:Int) == 1&&items.size == items.size)=true):=by
  intro q;rw[M2,M2] at q;exact absurd (eq_of_beq q.1.2) 0b0
 show A5 _ _ (if(((items.size:Int)-1) == 0&&(-1:Int) == 1&&items.size == items.size)=true then _ else _) _ _ s;rw[jy hno,Pf]
 first
   |exact A3 (m:=Bd _) (Z6 (A9 ⟨_,rfl,A9 h⟩) htake)
   |exact A3 (m:=Bd _) (Z6 (A3 (A9 (A9 ⟨_,rfl,A9 h⟩))) htake)
   |exact A3 (A3 (m:=Bd _) (Z6 (A9 (A9 ⟨_,rfl,A9 h⟩)) htake))
   |exact A3 (A3 (m:=Bd _) (Z6 (A9 ⟨_,rfl,A9 h⟩) htake))
end
end HT
namespace L2
open PySem PySem.Spec PyProof.Rows
section
variable {X:Cx}{e st:Expr}{te:TE}{ts:TE}{pos p2:Pos}
def rRev (K:A6):V->Hp->VK->Prop:=λx H Q=>∃a xs,x=.ref a/\((SqL K H a xs/\∀p,H p=none->Q (.ref p) (upd H p (.lst xs.reverse)))\/(SqT K H a xs/\∀p,H p=none->Q (.ref p) (upd H p (.tup xs.reverse))))
def tRev (K:A6)(te ts:TE):TE:=λσ H Q=>te σ H λx H1=>ts σ H1 λy H2=>y=.int (-1)/\rRev K x H2 Q
def Vals.rev (r:Vals xs us):Vals xs.reverse us.reverse:=by
 induction r with
 |nil=>exact .nil
 | cons r1 _ ih =>
  rw[Dp,Dp];exact ih.append (.cons r1 .nil)
def pe_rev (he:PE X e te)(hs:PE X st ts):PE X (.Subscript e (.Slice none none (some st) p2) pos) (tRev X.K te ts):=by
 intro jd s σ H Q I h;refine Subscript_ (thn (he jd s σ H _ I h) λv s1 ⟨x,H1,I1,r1,q1⟩=>?_);refine wpAny_Slice ?_;rw[evalPart_none];refine A9 (A9 ?_);rw[evalPart_some];refine thn (hs jd s1 σ H1 _ I1 q1) λvk s3 ⟨y,H3,I3,ry,q3⟩=>?_;obtain⟨rfl,a,xs,rfl,q⟩:=q3;obtain⟨t,rfl⟩:=ry;obtain rfl:v=.ref a:=r1;have I4:Inv X jd σ H3 { s3 with heap:=s3.heap.push { cls:=.type "slice",data:=.fields #[.none,.none,.int (-1) t] } }:=I3.kept (t':=s3.toks) λb ob q=>C3 _ q;show A5 (A7 X.prog X.w) X.A (subscriptTail e (.Slice none none (some st) p2) (.ref a) (.ref s3.heap.objs.size)) (EP X jd σ Q) X.xe { s3 with heap:=s3.heap.push { cls:=.type "slice",data:=.fields #[.none,.none,.int (-1) t] } };rcases q with⟨hq,q⟩|⟨hq,q⟩
 ·obtain⟨jh,r,ht,hz⟩:=I4.list hq;refine tail_any (ops:=[.ref a,.ref s3.heap.objs.size]) ht.isList.typeIs slot_list_getitem.lookup ?_ (by with_unfolding_all rfl);refine wpAny_getItem_list_slice ht.isList (Gs ..) .none .none (.int (-1) t) 0b0 ?_ (by rw[G9];have:=r.length;ext);rw[PySem.W.krv_pick];refine⟨.ref _,_,I4.laid (t':=s3.toks) (o:=.lst xs.reverse) (λb ob q=>C3 _ q) (B3 _) ?_,rfl,q _ (I4.hok.fresh (B3 _))⟩;exact⟨by rw[Do];exact hz,jh.reverse,0,r.rev,K4 _ rfl⟩
 ·obtain⟨jh,r,ht,hz⟩:=I4.tuple hq;refine tail_any (ops:=[.ref a,.ref s3.heap.objs.size]) ht.typeIs PyProof.Rows.slot_tuple_getitem.lookup ?_ (by with_unfolding_all rfl);refine HT.getItem_tuple_rev ht (Gs ..) (.int (-1) t) ?_ (by rw[G9];have:=r.length;ext);refine⟨.ref _,_,I4.laid (t':=s3.toks) (o:=.tup xs.reverse) (λb ob q=>C3 _ q) (B3 _) ?_,rfl,q _ (I4.hok.fresh (B3 _))⟩;exact⟨by rw[Do];exact hz,jh.reverse,r.rev,u5.new _ _⟩
end
end L2
namespace Pu
open PySem PySem.Spec L2
section
variable {T:PotK}{ι:Type}{K:A6}{F:ι->Cx}{e:Expr}{pe:pE}{pos p2 p3 p4:Pos}
theorem Reps.rev:∀{xs:List PV} {vs:List V},Reps K G H xs vs->Reps K G H xs.reverse vs.reverse
 |[],vs,r=>by obtain rfl:vs=[]:=r;exact rfl
 | x :: xs, vs, r => by
  obtain⟨v,r',rfl,r1,r2⟩:=r;rw[Dp,Dp];exact(Reps.rev r2).append ⟨v,[],rfl,r1,rfl⟩
def wRev:w1:=λx R=>match x with|.lst xs=>R (.lst xs.reverse)|.tup xs=>R (.tup xs.reverse)|_=>False
def Hm {i:Nat}(he:QR T K F e pe)(hK:∀z,(F z).K=K:=by intro _;rfl):QE T K F (.Subscript e (.Slice none none (some (.UnaryOp .USub (.Constant (.int 1) i p3) p4)) p2) pos) (qUn wRev pe):=by
 obtain⟨t,h1,h2⟩:=he;refine⟨_,λz=>hK z▸pe_rev (h1 z) (pe_un JL F6),⇑?_⟩;refine ↥h2 λx je n1 v H1 p1 S1 r1 f1=>?_;subst hK;have rx:=r1.rd S1;refine⟨1,rfl,rfl,?_⟩;unfold wRev at p1
 split at p1
 ·obtain⟨a,vs,ev,hq,r⟩:=rx.lst;exact⟨a,vs,ev,.inl ⟨hq,λp hn=>k _ _ _ _ _ p1 (S1.same (Same.lay1 hn)) (DN (S1.fresh hn) hn r.rev) (f1.trans (Fr.of (Same.lay1 hn)))⟩⟩
 ·obtain⟨a,vs,ev,hq,r⟩:=rx.tup;exact⟨a,vs,ev,.inr ⟨hq,λp hn=>k _ _ _ _ _ p1 (S1.same (Same.lay1 hn)) (CH (S1.fresh hn) hn r.rev) (f1.trans (Fr.of (Same.lay1 hn)))⟩⟩
 grind
end
section
variable {T:PotK}{ι:Type}{K:A6}{F:ι->Cx}{e:Expr}{pe:pE}{pos:Pos}
def Q6 (i:Nat)(pe:pE):pE:=λenv n R=>(∃xs,env[i]?=some (some (.ow .lst xs)))/\pe env n λy je n1=>match je[i]?,y with|some (some (.ow .lst xs)),.lst ys=>xs.length+ys.length<=1000000/\R .non (je.set i (some (.ow .lst (xs++ys)))) n1|_,_=>False
def Pg (i:Nat)(hv:∀z,EW (F z) (.Name x p) (tVar i))(he:QE T K F e pe)(hs:E9 e=true)(hbase:∀z,Ai (.Name x p) "extend" (F z).env (eval (.Name x p) (F z).env)=eval (.Name x p) (F z).env)(hline:(ap.endLine == pos.line)=true)
   (hfew:∀z,((backTo pos (F5 [e] (F z).env)).all (λx=>!x.1)&&(backToKw pos (AQ [] (F z).env)).all (λx=>x.1.isSome)&&decide (([e]:List Expr).length+([]:List Y8).length+(if([]:List Y8).isEmpty then 0 else 1)<30))=true) (hK:∀z,(F z).K=K):QE T K F (.Call (.Attribute (.Name x p) "extend" ap) [e] [] pos) (Q6 i pe):=by
 obtain⟨t,a1,a2⟩:=he;refine⟨tBM K "list" Kg (tVar i) (d7 t tNil),λz=>hK z▸CF EO PySem.F.slot_list_extend PySem.F.type_list_extend NK (hv z).h (E8 (a1 z) K5 (C9 hs)) (hbase z) (hfew z) hline (C9 hs),⇑?_⟩;obtain⟨⟨xs0,e0⟩,hp⟩:=hp;obtain⟨a,vs,ev,h1,h2,h3,h4,r⟩:=S.slots i _ e0;refine⟨.ref a,ev,.inl ⟨rfl,vs,SqL.of h4⟩,?_⟩;refine ↥a2 λy je n1 v H1 q1 S1 r1 f1=>?_
 split at q1
 ·rename_i xs ys ex;obtain⟨a',us,ev',g1,g2,g3,g4,r'⟩:=S1.slots i _ ex;rw[ev] at ev';cases ev';subst hK;obtain⟨b,ws,rfl,tb,rb⟩:=r1;obtain⟨S2,f2⟩:=S1.put ex ev (r'.append rb);exact⟨a,b,us,ws,rfl,rfl,g4,tb.2,by rw[<- r'.length,<- rb.length];exact mil q1.1,k _ _ _ _ _ q1.2 S2 rfl (f1.trans f2)⟩
 ·exact q1.elim
end
end Pu
end
section
namespace L2
open PySem PySem.Spec PyProof.Rows
theorem K_:∀{ys:List Str} {us:List A2},Vals (ys.map V.str) us->StrsAre us ys
 |[],us,r=>by rw[List.map_nil] at r;cases r;exact .nil
 | y :: ys, us, r => by
  rw[G7] at r;cases r with
  | cons r1 r2 =>
   obtain⟨t,e⟩:=r1;subst e;exact .cons y t (K_ r2)
section
variable {X:Cx}{pos:Pos}
def Ph:seqSlot? (.type "list") (dunderI "add")=pure (some (.builtin "list.__iadd__")):=rfl
def Pi:fillsInplaceSlot (.type "list") "add" (Operator.Add == .Add)=pure false:=rfl
def La:R2:=λx y H Q=>∃l b xs zs,x=.ref l/\y=.ref b/\H l=some (.lst xs)/\H b=some (.lst zs)/\xs.length+zs.length<=B5/\Q (.ref l) (upd H l (.lst (xs++zs)))
def Pj:OpR X (inplaceOp .Add) La:=by
 intro jd s σ H x y v u Q I rx ry h;obtain⟨l,b,xs,zs,rfl,rfl,hH,hB,hz,q⟩:=h;cases rx;cases ry;obtain⟨z,jh,n,r,hl,e⟩:=I.lstM hH;obtain⟨z2,its2,n2,r2,hl2,e2⟩:=I.lstM hB;have hsz:jh.toArray.size+its2.toArray.size<=B5:=by rw[G9,G9];ext
 have hlong:¬(!jh.toArray.isEmpty&&ES (jh.toArray.size+its2.toArray.size))=true:=by
  rw[Kd hsz,Bool.and_false];exact d5
 have ha:s.TypeIs (.ref l) "list":=⟨_,e,rfl⟩;have hb:s.TypeIs (.ref b) "list":=⟨_,e2,rfl⟩;unfold inplaceOp;refine R3 ?_;refine A3 (AO ha (A3 (Cc Pi ?_)));show A5 _ _ (if false=true then _ else _) _ _ s;rw[jy d5];refine A3 (binaryOp1_none (nm:="add") ha hb noFill_list_add ?_);refine A3 (Cc Ph ?_);refine A3 (p6 ?_)
 refine v4 F.slot_list_iadd ha F.entry_list_iadd (F.args_list_iadd_2 _ _)
   (AutoSeq1.list___iadd___list_list_0 l jh.toArray n b its2.toArray n2 hlong 0x0 0x0) ⟨e,e2,?_⟩
 refine⟨.ref l,_,I.lset (its':=jh++its2) hH e 0o0 (r.append r2) ?_,rfl,q⟩;rw[D3];ext
end
end L2
namespace Pu
open PySem PySem.Spec L2
section
variable {T:PotK}{np:Bool}{ι:Type}{K:A6}{F:ι->Cx}{e:Expr}{st:Stmt}{pe:pE}{pos:Pos}
def Lb {X:Cx}{i:Nat}{x:Str}{e:Expr}{op:Operator}{ti:TIp}{pos' pos:Pos}(hN:X.N.Nodup)(hi:X.N[i]?=some x)(hx:Loc X.env.scope x)(ho:OpR X (inplaceOp op) ti)(hf:X.fn x=true\/X.env.scope.names.lookup x=some .local:=by first|exact .inl rfl|exact .inr rfl|assumption)(te:TE)(h:EW X e te):SW X (.AugAssign (.Name x pos') op e pos) (tAug i te ti):=⟨ps_aug hN hi hx h.h ho hf⟩
def T8 (i:Nat)(pe:pE):pS:=λD env n=>(∃xs,env[i]?=some (some (.ow .lst xs)))/\pe env n λy je n1=>match je[i]?,y with|some (some (.ow .lst xs)),.lst ys=>xs.length+ys.length<=1000000/\D.nx (je.set i (some (.ow .lst (xs++ys)))) n1|_,_=>False
def Pk (i:Nat)(h:∀z te,EW (F z) e te->SW (F z) st (tAug i te La))(he:QE T K F e pe):QS T np K F st (T8 i pe):=by
 obtain⟨t,a1,a2⟩:=he;refine⟨_,λz=>(h z _ ⟨a1 z⟩).h,⇑_⟩;obtain⟨⟨xs0,e0⟩,hp⟩:=hp;obtain⟨a,vs,ev,h1,h2,h3,h4,r⟩:=S.slots i _ e0;refine⟨.ref a,ev,?_⟩;refine ↥a2 λy je n1 v H1 q1 S1 r1 f1=>?_
 split at q1
 ·rename_i xs ys ex;obtain⟨a',us,ev',g1,g2,g3,g4,r'⟩:=S1.slots i _ ex;rw[ev] at ev';cases ev';subst hK;obtain⟨b,ws,rfl,tb,rb⟩:=r1;obtain⟨S2,f2⟩:=S1.put ex ev (r'.append rb);refine⟨a,b,us,ws,rfl,rfl,g4,tb.2,by rw[<- r'.length,<- rb.length];exact mil q1.1,?_⟩
  have es:σ.set i (some (.ref a))=σ:=by
   obtain⟨hi,e⟩:=E5.mp ev;rw[<- e];exact List.set_getElem_self hi
  show D.nx (σ.set i (some (.ref a))) _;rw[es];exact L.nx _ _ _ _ _ q1.2 S2 (Ext.fr (f1.trans f2))
 ·exact q1.elim
def qAug (i:Nat)(w:w2)(pe:pE):pS:=λD env n=>match env[i]? with|some (some (.v x))=>(pe env n λy je n1=>w x y λz=>D.nx (je.set i (some (.v z))) n1)|_=>False
def qs_aug (i:Nat){ti:TIp}{w:w2}(hw:W2 K ti w)(h:∀z te,EW (F z) e te->SW (F z) st (tAug i te ti))(he:QE T K F e pe):QS T np K F st (qAug i w pe):=by
 obtain⟨t,a1,a2⟩:=he;refine⟨_,λz=>(h z _ ⟨a1 z⟩).h,⇑_⟩;unfold qAug at hp
 split at hp
 ·rename_i x ex;obtain⟨v,ev,rv⟩:=S.slots i _ ex;refine⟨v,ev,?_⟩;refine ↥a2 λy je n1 u H1 q1 S1 r1 f1=>?_;subst hK;refine hw G H1 x y v u _ _ (λp hp=>S1.fresh hp) (.inl (rv.fr f1)) (.inl r1) q1 λz v' H' rz s rv'=>?_;exact L.nx _ _ _ _ _ rz ((S1.same s).set i rv') (Ext.fr (f1.trans (Fr.of s)))
 ·exact hp.elim
def T9:w2:=wI0 λi j=>.int (i+j)
def Pm (i:Nat)(h:∀z te,EW (F z) e te->SW (F z) st (tAug i te (rI0 λi j=>.int (i+j))))(he:QE T K F e pe):QS T np K F st (qAug i T9 pe):=qs_aug i (W2.I0 λ_ _ _ _=>rfl) h he
end
section
variable {ι:Type}{K:A6}{F:ι->Cx}{a b:Expr}{pos pos':Pos}{pa pb:pE}
def Fq (K:A6):Sp:=λvs H Q _=>∃(a:A1) (ns:List Int) (k:Int),vs=[.ref a,.int k]/\SqL K H a (ns.map V.int)/\ns.length<=63/\0<=k/\k<=1000/\
 ∀H1,Same H H1->∀p own seed,H1 p=none->DT own seed 0->Q (.ref p) (upd H1 p (.lst [.int own,.int seed,.int 0]))
def U1 (i:Nat)(pa pb:pE):pS:=λD env n=>pa env n λx je n1=>pb je n1 λy jf n2=>match x,y with|.scr ns,.int k=>(ns.length<=63/\0<=k/\k<=1000)/\∀q:Nat,D.nx (jf.set i (some (.v (.pot q)))) n2|_,_=>False
def Pn (i:Nat){st:Stmt}{x:Str}{p:Pos}{k j:Nat}{ps:List Str}(h:∀z te,EW (F z) (.Call (.Name x p) [a,b] [] pos) te->SW (F z) st (tAsg te (W9 i)))(hG:∀z,Kn (F z).prog (F z).w (F z).K (F z).mg (F z).base x k ps (Fq K))(hr:∀z,Room j (F z).A)(hk:k<=j)(hg:∀z,Gl (F z) x)
   (ha:QE potL K F a pa) (hb:QE potL K F b pb) (n1:E9 a=true) (n2:E9 b=true) (hdb:(x == ("__debug__":Str))=false):QS potL true K F st (U1 i pa pb):=by
 obtain⟨t,a1,a2⟩:=ha;obtain⟨u,b1,b2⟩:=hb;refine⟨_,λz=>(h z _ ⟨pe_fn (hG z) (hr z) hk (hg z) (E8 (a1 z) (E8 (b1 z) K5 (C9 n2)) (C9 n1)) hdb (C9 n1) (by rw[C9 n2];rfl)⟩).h,⇑_⟩;refine ↥a2 λx je n1 v H1 q1 S1 r1 f1=>?_;refine b2 C G σ H1 je n1 _ _ hK hT S1 q1 λy jf n2 w H2 q2 S2 r2 f2=>?_
 split at q2
 ·rename_i ns kk;obtain⟨a,ev,hq⟩:=DP (.inl (r1.fr f2));refine(show Fq K [v,w] H2 (λx H1=>W9 i x σ H1 D.nx) E0 from ?_);refine⟨a,ns,kk,by rw[ev,show w=.int kk from r2],hq,q2.1.1,q2.1.2.1,q2.1.2.2,λH3 sm p own seed hn' ok=>?_⟩;have S3:=(S2.same sm).pot hn hT hn' ok;have S4:=S3.set i (x:=.pot G.pots.length) (v:=.ref p) ⟨p,0o0,rfl⟩;refine L.nx _ _ _ _ _ (q2.2 _) S4 ((Ext.fr ((f1.trans f2).trans (Fr.of sm))).trans ⟨λb o _ e=>Same.lay1 hn' b o e,λc hc=>(B9.mp (show c∈p::G.M from hc)).elim (λz=>.inr (z▸hn')) .inl,λk q e=>?_⟩);obtain⟨hk,_⟩:=E5.mp e;show(G.pots++[p])[k]?=_;rw[Ao hk];exact e
 ·exact q2.elim
end
def SwOk (X:Cx)(e:Expr)(t:TE):Prop:=∀(i:Nat) (y:Str) (py spos:Pos),X.N.Nodup->X.N[i]?=some y->Loc X.env.scope y->v5 e (some (.Name y py)) spos.line X.env=pure true->(X.fn y=true\/X.env.scope.names.lookup y=some .local)->PS X (.Assign [.Name y py] e spos) (tAsg t (W9 i))
inductive QNC {ι:Type}(T:PotK)(K:A6)(F:ι->Cx)(e:Expr)(pn:pA):Prop
 |mk t (a:(∀z,PE (F z) e t)) (b:(∀z,SwOk (F z) e t)) (c:NOk K T t pn):QNC T K F e pn
section
variable {T:PotK}{np:Bool}{ι:Type}{K:A6}{F:ι->Cx}{e:Expr}{pl:pA}{pg:pG}{pos:Pos}
def Po (i:Nat){y:Str}{py spos:Pos}(h:QNC T K F e pl)(hN:∀z,(F z).N.Nodup)(hi:∀z,(F z).N[i]?=some y)(hy:∀z,Loc (F z).env.scope y)(hsw:∀z,v5 e (some (.Name y py)) spos.line (F z).env=pure true)(hf:∀z,(F z).fn y=true\/(F z).env.scope.names.lookup y=some .local):QS T np K F (.Assign [.Name y py] e spos) (qSet i (qL pl)):=by
 obtain⟨t,a1,a3,a2⟩:=h
 have he:EOk K T t (qL pl):=λC G σ H env n R Q hK hT S hp k=>by
  refine ↥a2 λxs je n1 a vs Hb p1 S1 f1 hn r1=>?_;exact k _ _ _ _ _ p1 (S1.same (Same.lay1 hn)) (DN (S1.fresh hn) hn r1) (f1.trans (Fr.of (Same.lay1 hn)))
 refine⟨_,λz=>a3 z i y py spos (hN z) (hi z) (hy z) (hsw z) (hf z),⇑_⟩;refine ↥he λx je n1 v H1 q1 S1 r1 f1=>?_;exact L.nx _ _ _ _ _ q1 (S1.set i (hK▸r1)) (Ext.fr f1)
end
def shK:Key->Prop
 |.inl i=>i.natAbs<10 ^ 60
 |.inr x=>∀c∈x.cps.toList,c<16 ^ 8
def CQ:Key->Nat
 |.inl _=>61
 |.inr x=>10*x.length+2
mutual
def shw:PV->Prop
 |.non=>True
 |.bl _=>True
 |.int i=>i.natAbs<10 ^ 60
 |.str x=>∀c∈x.cps.toList,c<16 ^ 8
 |.tup xs=>shws xs
 |.lst xs=>shws xs
 |.dct ks xs=>(∀k∈ks,shK k)/\shws xs
 |_=>False
def shws:List PV->Prop
 |[]=>True
 |x::xs=>shw x/\shws xs
end
mutual
def cost:PV->Nat
 |.non=>4
 |.bl _=>5
 |.int _=>61
 |.str x=>10*x.length+2
 |.tup xs=>C2 xs+3
 |.lst xs=>C2 xs+3
 |.dct ks xs=>(ks.map λk=>CQ k+4).sum+C2 xs+3
 |_=>0
def C2:List PV->Nat
 |[]=>0
 |x::xs=>cost x+2+C2 xs
end
mutual
def dep:PV->Nat
 |.tup xs=>deps xs+1
 |.lst xs=>deps xs+1
 |.dct _ xs=>deps xs+1
 |_=>0
def deps:List PV->Nat
 |[]=>0
 |x::xs=>max (dep x) (deps xs)
end
def Hn {i:Int}(h:i.natAbs<10 ^ 60):(B1 (toString i)).length<=61:=by
 have e:=int_text_length_le10 (k:=60) 0b0 h;rw[ofString_length];ext
def Ho {i:Int}(h:i.natAbs<10 ^ 60):i.natAbs.log2<1920:=by
 by_cases h0:i.natAbs=0
 ·simp_all
 ·exact(Nat.log2_lt h0).mpr (Dz h (by grind))
def key_ok {k:Key}(h:shK k):(keyD k).showable=true/\(keyD k).depth=0/\(keyD k).shown.length<=CQ k:=by
 cases k with
 |inl i=>exact⟨by simpa[keyD,y0] using Ho h,by simp[keyD,Av],by simpa[keyD,Aw,CQ] using Hn h⟩
 |inr x=>exact⟨by simp[keyD,y0],by simp[keyD,Av],by simpa[keyD,Aw,CQ] using StrLaws.reprText_len x h⟩
theorem kv_ok:∀(ks:List Key) (ds:List PyData),(∀k∈ks,shK k)->Cv ds=true->EK ((ks.map keyD).zip ds)=true/\EL ((ks.map keyD).zip ds)<=DF ds/\((Cw ((ks.map keyD).zip ds)).map (·.length)).sum+2*(Cw ((ks.map keyD).zip ds)).length<=(ks.map λk=>CQ k+4).sum+((BD ds).map (·.length)).sum+2*ds.length
 |[],ds,_,_=>by simp[EK,EL,Cw]
 |k::ks,[],_,_=>by simp[EK,EL,Cw]
 | k :: ks, d :: ds, hk, hd => by
  have hd':d.showable=true/\Cv ds=true:=by simpa[Cv] using hd
  obtain⟨h1,h2,h3⟩:=kv_ok ks ds (λx hx=>hk x (C1 _ hx)) hd'.2;obtain⟨g1,g2,g3⟩:=key_ok (hk k D2);refine⟨?_,?_,?_⟩
  ·simp[EK,g1,hd'.1,h1]
  ·simp only[G7,Ap,EL,DF,g2];ext
  ·simp only[G7,Ap,Cw,BD,Ch,F2];rw[strLen_append,strLen_append];have:(B1 ": ").length=2:=rfl;ext
def Pp (ps:List Str):(dictText ps).length<=(ps.map (·.length)).sum+2*ps.length+3:=by
 have h:(Str.join ", " ps).length<=(ps.map (·.length)).sum+ps.length*2:=StrLaws.join_length_le ", " ps
 have e:(dictText ps).length=1+(Str.join ", " ps).length+1:=by
  unfold dictText;rw[strLen_append,strLen_append];rfl
 ext
mutual
theorem Lc:∀(x:PV),shw x->∃d,dat x=some d/\d.showable=true/\d.depth<=dep x/\d.shown.length<=cost x
 |.non,_=>⟨_,rfl,by simp[y0],by simp[Av],by simp only[Aw,cost];decide⟩
 |.bl b,_=>⟨_,rfl,by simp[y0],by simp[Av],by simp only[Aw,cost];cases b <;> decide⟩
 |.int i,h=>⟨_,rfl,by simpa[y0] using Ho h,by simp[Av],by simpa[Aw,cost] using Hn h⟩
 |.str x,h=>⟨_,rfl,by simp[y0],by simp[Av],by simpa[Aw,cost] using StrLaws.reprText_len x h⟩
 | .tup xs, h => by
  obtain⟨ds,e,h1,h2,h3,h4⟩:=Fs xs h;refine⟨.tuple ds,by rw[dat,e],by simpa[y0] using h1,by simp only[Av,dep];omega,?_⟩;have:=tupleText_len_le (BD ds);have e2:=PyData.shownAll_length ds;simp only[Aw,cost];ext
 | .lst xs, h => by
  obtain⟨ds,e,h1,h2,h3,h4⟩:=Fs xs h;refine⟨.list ds,by rw[dat,e],by simpa[y0] using h1,by simp only[Av,dep];omega,?_⟩;have:=listText_len_le (BD ds);have e2:=PyData.shownAll_length ds;simp only[Aw,cost];ext
 | .dct ks xs, h => by
  have h':(∀k∈ks,shK k)/\shws xs:=h;obtain⟨ds,e,h1,h2,h3,h4⟩:=Fs xs h'.2;obtain⟨g1,g2,g3⟩:=kv_ok ks ds h'.1 h1;refine⟨.dict ((ks.map keyD).zip ds),by rw[dat,e],by simpa[y0] using g1,by simp only[Av,dep];omega,?_⟩;have:=Pp (Cw ((ks.map keyD).zip ds));simp only[Aw,cost];ext
 |.ty _,h=>h.elim
 |.pot _,h=>h.elim
 |.scr _,h=>h.elim
 |.fdt _ _,h=>h.elim
theorem Fs:∀(xs:List PV),shws xs->∃ds,dats xs=some ds/\Cv ds=true/\DF ds<=deps xs/\ds.length=xs.length/\((BD ds).map (·.length)).sum+2*ds.length<=C2 xs
 |[],_=>⟨[],rfl,by simp[Cv],by simp[DF],rfl,by simp[BD,C2]⟩
 | x :: xs, h => by
  have h':shw x/\shws xs:=h;obtain⟨d,e,a1,a2,a3⟩:=Lc x h'.1;obtain⟨ds,e2,b1,b2,b3,b4⟩:=Fs xs h'.2;refine⟨d::ds,by rw[dats,e,e2],by simp[Cv,a1,b1],by simp only[DF,deps];omega,by simp[b3],?_⟩;simp only[BD,C2,G7,Ch,F2];ext
end
def Hq (x:PV):Str:=match dat x with|some d=>d.shown|none=>B1 ""
def Ld {x:PV}{R:PV->Prop}(h:shw x)(h1:dep x<=40)(h2:cost x<=10000000)(q:R (.str (Hq x))):AH x R:=by
 obtain⟨d,e,a1,a2,a3⟩:=Lc x h;unfold AH Hq at *;rw[e] at q ⊢;exact⟨a1,0x0,by unfold B5;omega,q⟩
theorem CS:∀(xs:List PV),(∀x∈xs,shw x)->shws xs
 |[],_=>trivial
 |x::xs,h=>⟨h x D2,CS xs λy hy=>h y (C1 _ hy)⟩
theorem CT (k:Nat):∀(xs:List PV),(∀x∈xs,dep x<=k)->deps xs<=k
 |[],_=>C8 _
 | x :: xs, h => by
  have:=h x D2;have:=CT k xs λy hy=>h y (C1 _ hy);simp only[deps];ext
def DV {α:Type}(f:Nat->List α)(i:Nat):(B8 (i+1)).flatMap f=(B8 i).flatMap f++f i:=by
 rw[List.range_succ,Gi];simp
def Pq {α:Type}(A:List α)(f:Nat->List α)(i:Nat):A++(B8 (i+1)).flatMap f=(A++(B8 i).flatMap f)++f i:=by
 rw[DV,i6]
end Pu
end
section
namespace L2
open PySem PySem.Spec PyProof.Rows PySem.Builtin PySem.Builtin.Str
section
variable {prog:D4}{w:C0}{A:D9}{E:A2->A4->Prop}{s:A4}{x:Str}{t:Tok}{Q:A2->A4->Prop}
def split_at {y:Str}{u:Tok}(hy:(y.length == 0)=false)
   (hq:∀l tk,l.map (·.1)=Txt.split x y->Q (.ref s.heap.objs.size) { s with toks:=tk,heap:=s.heap.push { cls:=.type "list",data:=.seq (strValues l).toArray } })
   (hsz:x.length<=B5) (hsz2:(partsBetween x (occurrences x y 0 x.length (x.length+1)) y.length).length<=B5) :
   A5 (A7 prog w) A (call (.builtin "str.split") [.str x t,.str y u]) Q E s:=by
 cases h1:(decide (x.length<y.length)||decide (strKind x<strKind y))
 ·cases hf:(occurrences x y 0 x.length (x.length+1)).isEmpty
  ·refine v4 F.slot_str_split (Ak _ _ _) F.entry_str_split (F.args_str_split_2 _ _) (meets_str_split_sep x y t u h1 hy hf hsz hsz2) ?_;show wants Q E _ { s with toks:=_,heap:=s.heap.push { cls:=.type "list",data:=.seq (strsFrom s.toks (partsBetween x (occurrences x y 0 x.length (x.length+1)) y.length)).toArray } };rw[strsFrom_eq];exact hq (numbered s.toks _) _ ((numbered_texts _ _).trans ((jy (ne_true_of_eq_false h1)).trans (jy (ne_true_of_eq_false hf))).symm)
  ·exact v4 F.slot_str_split (Ak _ _ _) F.entry_str_split (F.args_str_split_2 _ _) (meets_str_split_not_found x y t u h1 hy hf)
     (hq [(x,t)] _ ((jy (ne_true_of_eq_false h1)).trans (jw hf)).symm)
 ·exact v4 F.slot_str_split (Ak _ _ _) F.entry_str_split (F.args_str_split_2 _ _) (meets_str_split_cannot_occur x y t u h1)
    (hq [(x,t)] _ (jw h1).symm)
end
end L2
end
section
namespace L2
open PySem PySem.Spec PyProof.Rows
def met (val:Nat->Key):Nat->List Key
 |0=>[]
 |i+1=>if(met val i).any (λy=>decide (y=val i)) then met val i else met val i++[val i]
end L2
end
section
namespace Pu
open PySem PySem.Spec L2
def Le (x:Str)(l u:Option Int):Ay x l u=BF x l u:=rfl
def Pr (x:Str){p:Nat}(h:p<=x.length):(Ay x none (some (p:Int))).cps.toList=x.cps.toList.take p:=by
 rw[Le]
 have e:BF x none (some (p:Int))=BF x (some ((0:Nat):Int)) (some (p:Int)):=by
  unfold BF;rw[StrLaws.sliceIdx_none_lo];rfl
 rw[e,StrLaws.sliceText_nat x (C8 _) h];simp
def Pt (x:Str){p:Nat}(h:p<=x.length):(Ay x (some (p:Int)) none).cps.toList=x.cps.toList.drop p:=by
 rw[Le]
 have e:BF x (some (p:Int)) none=BF x (some (p:Int)) (some ((x.length:Nat):Int)):=by
  unfold BF;rw[StrLaws.sliceIdx_none_hi]
 rw[e,StrLaws.sliceText_nat x h (B3 _)];have:x.length=x.cps.toList.length:=l9 x;simp only;rw[k9 (by rw[V3];ext)]
def Ltr (c:Nat):Prop:=97<=c/\c<=122
def i9 (z:Str):Prop:=1<=z.cps.toList.length/\z.cps.toList.length<=8/\∀c∈z.cps.toList,Ltr c
abbrev LETS:Str:=B1 "abcdefghijklmnopqrstuvwxyz"
def Pw:LETS.cps.toList=(B8 26).map (97 + ·):=by decide +kernel
def Lf:LETS.length=26:=by decide +kernel
def Lg {d:Int}(d0:0<=d)(d1:d<26):atI LETS.cps.toList d=some (97+d.toNat):=by
 obtain⟨x,e1,e2⟩:=GT (xs:=LETS.cps.toList) d0 (by rw[<- l9,Lf];exact d1);rw[e2,<- e1,Pw,L4,List.getElem?_range 0x0]
 rfl
end Pu
end
section
namespace L2
open PySem PySem.Spec PyProof.Rows
def ItB (b:Bool)(h:B4)(it l:A1)(i:Nat):Prop:=match b with|true=>h.IsListIter it l i|false=>h.IsTupleIter it l i
def SeB (b:Bool)(h:B4)(l:A1)(items:Array A2):Prop:=match b with|true=>h.IsList l items|false=>h.IsTuple l items
theorem ItB.at {b:Bool}{h h':B4}{it l:A1}{i:Nat}(x:ItB b h it l i)(e:∀o,h.get? it=some o->h'.get? it=some o):ItB b h' it l i:=by
 cases b with
 |true=>exact(show h.IsListIter it l i from x).at e
 |false=>exact(show h.IsTupleIter it l i from x).at e
theorem SeB.at (x:SeB b h l items)(e:∀o,h.get? l=some o->h'.get? l=some o):SeB b h' l items:=by
 cases b with
 |true=>exact(show h.IsList l items from x).at e
 |false=>exact(show h.IsTuple l items from x).at e
def ItB.obj (x:ItB b h it l i):∃o,h.get? it=some o/\(o.cls=.type "list_iterator"\/o.cls=.type "tuple_iterator")/\∀v,o.data≠.cell v:=by
 cases b with
 |true=>obtain⟨o,e,c,d⟩:=(show h.IsListIter it l i from x);exact⟨o,e,.inl c,λv z=>by rw[d] at z;cases z⟩
 |false=>obtain⟨o,e,c,d⟩:=(show h.IsTupleIter it l i from x);exact⟨o,e,.inr c,λv z=>by rw[d] at z;cases z⟩
def SeB.obj (x:SeB b h l items):∃o,h.get? l=some o/\(o.cls=.type "list"\/o.cls=.type "tuple"):=by
 cases b with
 |true=>obtain⟨o,e,c,d⟩:=(show h.IsList l items from x);exact⟨o,e,.inl c⟩
 |false=>obtain⟨o,e,c,d⟩:=(show h.IsTuple l items from x);exact⟨o,e,.inr c⟩
def ItB.ne (x:ItB b h it l i)(y:SeB b' h a items):a≠it:=λz=>by
 obtain⟨o,e,c,_⟩:=x.obj;obtain⟨o',e',c'⟩:=y.obj;rw[z,e] at e';cases e';rcases c with c|c <;> rcases c' with c'|c' <;> (rw[c] at c';exact absurd c' 0b0)
section
variable {prog:D4}{w:C0}{A:D9}{E:A2->A4->Prop}{s:A4}
def Px (hit:s.heap.IsTupleIter it t i)(ht:s.heap.IsTuple t items)(hx:items[i]?=some x)
   (hQ:∀h',h'.IsTupleIter it t (i+1)->Ci it s.heap h'->Q x { s with heap:=h' }):A5 (A7 prog w) A (i7 (.ref it)) Q E s:=by
 obtain⟨oi,hoi,hci,hdi⟩:=id hit;obtain⟨ot,hot,_,nt,hdt⟩:=ht;have ty:=hit.typeIs;unfold i7
 refine A3 (Ag (name:=B1 "__next__") ty EN
   (j9 EN ty F.entry_tuple_iterator_next ?_ (F.args_tuple_iterator_next_1 _)))
 show A5 _ _ (field (.ref it) 0>>=_) _ _ s;refine A3 (L8 hoi hdi (x:=.ref t) rfl ?_);show A5 _ _ (if(L5 t == Au)=true then _ else _) _ _ s;rw[jy (show ¬((L5 t == Au)=true) from d5)];show A5 _ _ (field (.ref it) 1>>=_) _ _ s;refine A3 (L8 hoi hdi (x:=.int i 0) rfl ?_);show A5 _ _ (seqItems? (.ref t)>>=_) _ _ s;refine A3 (o9 hot hdt ?_);simp only[Q1,hx];refine A3 (wpAny_setField hoi hdi 0o0 (A9 ⟨x,rfl,A9 (hQ _ ?_ (ET ..))⟩));exact⟨_,Heap.get?_update_self _ hoi (Obj.isFreed_of_fields (Obj.data_mapFields hdi _)),(Obj.cls_mapFields ..).trans hci,by rw[Obj.data_mapFields hdi];simp[rawInt]⟩
def Py (hh:A.handled=none)(hit:s.heap.IsTupleIter it t i)(ht:s.heap.IsTuple t items)(hx:items[i]?=none)
   (hE:∀h' e,Heap.ExtBut it s.heap h'->(∃o,h'.get? e=some o/\o.cls=.type "StopIteration")->E (.ref e) { s with heap:=h' }):A5 (A7 prog w) A (i7 (.ref it)) Q E s:=by
 obtain⟨oi,hoi,hci,hdi⟩:=id hit;obtain⟨ot,hot,_,nt,hdt⟩:=ht;have ty:=hit.typeIs;unfold i7
 refine A3 (Ag (name:=B1 "__next__") ty EN
   (j9 EN ty F.entry_tuple_iterator_next ?_ (F.args_tuple_iterator_next_1 _)))
 show A5 _ _ (field (.ref it) 0>>=_) _ _ s;refine A3 (L8 hoi hdi (x:=.ref t) rfl ?_);show A5 _ _ (if(L5 t == Au)=true then _ else _) _ _ s;rw[jy (show ¬((L5 t == Au)=true) from d5)];show A5 _ _ (field (.ref it) 1>>=_) _ _ s;refine A3 (L8 hoi hdi (x:=.int i 0) rfl ?_);show A5 _ _ (seqItems? (.ref t)>>=_) _ _ s;refine A3 (o9 hot hdt ?_);simp only[Q1,hx];refine A3 (p6 (A3 (wpAny_setField hoi hdi 0o0 ?_)));show A5 _ _ (newExc (.type "StopIteration") []>>=_) _ _ _;refine A3 ?_;simp only[newExc,newTuple];refine A3 (Z6 ?_ (by size_fits));refine A3 (m:=firstArgMember _ _) (Cc (a:=Au) (by first|rfl|(simp only[firstArgMember];rfl)) ?_);refine Z6 ?_ (by size_fits);simp only[raiseNew];refine A3 (wpAny_handled ?_)
 first|rw[show A.in1.handled=none from hh]|rw[hh]
 refine A3 (A9 (wpAny_throw ?_));exact hE _ _ (((ET ..).extBut.push _).push _) ⟨_,K4 _ rfl,rfl⟩
def DW (hit:ItB b s.heap it t i)(ht:SeB b s.heap t items)(hx:items[i]?=some x)
   (hQ:∀h',ItB b h' it t (i+1)->Ci it s.heap h'->Q x { s with heap:=h' }):A5 (A7 prog w) A (i7 (.ref it)) Q E s:=by
 cases b with
 |true=>exact wpAny_nextOf_list_item hit ht hx hQ
 |false=>exact Px hit ht hx hQ
def Hr (hh:A.handled=none)(hit:ItB b s.heap it t i)(ht:SeB b s.heap t items)(hx:items[i]?=none)
   (hE:∀h' e,Heap.ExtBut it s.heap h'->(∃o,h'.get? e=some o/\o.cls=.type "StopIteration")->E (.ref e) { s with heap:=h' }):A5 (A7 prog w) A (i7 (.ref it)) Q E s:=by
 cases b with
 |true=>exact wpAny_nextOf_list_end hh hit ht hx hE
 |false=>exact Py hh hit ht hx hE
end
def SqB (b:Bool)(K:A6)(H:Hp)(a:A1)(xs:List V):Prop:=match b with|true=>SqL K H a xs|false=>SqT K H a xs
section
variable {X:Cx}
def Inv.seqB (I:Inv X jd σ H s)(h:SqB b X.K H a xs):∃jh:List A2,Vals xs jh/\SeB b s.heap a jh.toArray/\xs.length<=B5:=by
 cases b with
 |true=>obtain⟨jh,r,p,z⟩:=I.list h;exact⟨jh,r,p.isList,z⟩
 |false=>obtain⟨jh,r,p,z⟩:=I.tuple h;exact⟨jh,r,p,z⟩
end
section
variable {prog:D4}{w:C0}{A:D9}{E:A2->A4->Prop}{s:A4}
structure ZAp (z TI TO i1 i2:A1):Prop where
 a1:TI≠z
 a2:TO≠z
 a3:i1≠z
 a4:i2≠z
 a5:TI≠TO
 a6:TI≠i1
 a7:TI≠i2
 a8:TO≠i1
 a9:TO≠i2
 a10:i1≠i2
def Pz {z TI TO i1 i2 l1 l2:A1}{Q:A2->A4->Prop}(D:ZAp z TI TO i1 i2)(m1:l1≠z)(m2:l2≠z)(m3:l1≠TO)(m4:l2≠TO)(m5:l1≠i1)(m6:l2≠i1)
   (hz:IsZip s.heap z TI TO .none) (hTI:IsPair s.heap TI (.ref i1) (.ref i2)) (hTO:IsPair s.heap TO a b) (h1:ItB b1 s.heap i1 l1 k) (h2:ItB b2 s.heap i2 l2 k) (hl1:SeB b1 s.heap l1 xs) (hl2:SeB b2 s.heap l2 ys) (hx:xs[k]?=some x) (hy:ys[k]?=some y)
   (hQ:∀h',IsZip h' z TI TO (rawInt s.heap.objs.size)->IsPair h' TO x y->ItB b1 h' i1 l1 (k+1)->ItB b2 h' i2 l2 (k+1)->IsPair h' s.heap.objs.size x y->
     (∀c o,c≠z->c≠TO->c≠i1->c≠i2->s.heap.get? c=some o->h'.get? c=some o)->Q (.ref s.heap.objs.size) { s with heap:=h' }) :
   A5 (A7 prog w) A (Z8.«zip.__next__» ⟨[.ref z],[]⟩) (λfin s'=>∃v,fin=.done (.ret v)/\Q v s') E s:=by
 show A5 _ _ (field (.ref z) 2>>=_) _ _ _;refine A3 (L8 hz rfl (x:=.bool false) rfl ?_);show A5 _ _ (field (.ref z) 3>>=_) _ _ _;refine A3 (L8 hz rfl (x:=.ref TI) rfl (A3 (o9 hTI rfl ?_)));show A5 _ _ (Ba (.ref z)>>=_) _ _ _;refine A3 ?_;unfold Ba;refine A3 (L8 hz rfl (x:=.none) rfl (A9 ?_));simp only[if_true];refine A3 (p6 (A3 (L8 hz rfl (x:=.ref TO) rfl (A3 (Bu hz 0o0 λg1 z1 s1=>?_)))))
 replace z1:IsZip g1 z TI TO .ellipsis:=z1
 refine A3 ?_;simp only[List.zipIdx_cons,List.zipIdx_nil,Dt,Cf];refine A3 (A3 (wpAny_onRaise ?_));show A5 _ _ (i7 (.ref i1)>>=_) _ _ _;refine A3 (DW (s:={ s with heap:=g1 }) (h1.at λo e=>s1.extBut _ o D.a3 e) (hl1.at λo e=>s1.extBut _ o m1 e) hx λg2 j2 s2=>A9 ?_);have t2:IsPair g2 TO a b:=s2.extBut _ _ D.a8 (s1.extBut _ _ D.a2 hTO);refine A3 (o9 t2 rfl (A3 (wpAny_updateSeq_pair (s:={ s with heap:=g2 }) t2 λg3 t3 s3=>A3 (wpAny_letGo (A9 ?_)))))
 replace t3:IsPair g3 TO x b:=t3
 refine A3 (A3 (wpAny_onRaise ?_));show A5 _ _ (i7 (.ref i2)>>=_) _ _ _;have up3:∀c o,c≠z->c≠i1->c≠TO->s.heap.get? c=some o->g3.get? c=some o:=λc o c1 c2 c3 e=>s3.extBut _ o c3 (s2.extBut _ o c2 (s1.extBut _ o c1 e));refine A3 (DW (s:={ s with heap:=g3 }) (h2.at λo e=>up3 _ o D.a4 D.a10.symm D.a9.symm e) (hl2.at λo e=>up3 _ o m2 m6 m4 e) hy λg4 j4 s4=>A9 ?_);have t4:IsPair g4 TO x b:=s4.extBut _ _ D.a9 t3;refine A3 (o9 t4 rfl (A3 (wpAny_updateSeq_pair (s:={ s with heap:=g4 }) t4 λg5 t5 s5=>A3 (wpAny_letGo (A9 (A9 ?_))))))
 replace t5:IsPair g5 TO x y:=t5
 refine A3 (o9 t5 rfl (A3 (wpAny_newTuple ?_)));have hsz:g5.objs.size=s.heap.objs.size:=by rw[s5.1,s4.1,s3.1,s2.1,s1.1]
 have z5:IsZip g5 z TI TO .ellipsis:=s5.extBut _ _ D.a2.symm (s4.extBut _ _ D.a4.symm (s3.extBut _ _ D.a2.symm (s2.extBut _ _ D.a3.symm z1)));have up5:∀c o,c≠z->c≠TO->c≠i1->c≠i2->s.heap.get? c=some o->g5.get? c=some o:=λc o c1 c2 c3 c4 e=>s5.extBut _ _ c2 (s4.extBut _ _ c4 (up3 c o c1 c3 c2 e));have j1:ItB b1 g5 i1 l1 (k+1):=j2.at λo e=>s5.extBut _ o D.a8.symm (s4.extBut _ o D.a10 (s3.extBut _ o D.a8.symm e));have j5:ItB b2 g5 i2 l2 (k+1):=j4.at λo e=>s5.extBut _ o D.a9.symm e;have zlt:z<g5.objs.size:=C7 z5;show A5 _ _ (Jv (.ref z) (.ref g5.objs.size)>>=_) _ _ _;refine A3 ?_;unfold Jv;have z6:IsZip (g5.push { cls:=.type "tuple",data:=.seq #[x,y] }) z TI TO .ellipsis:=C3 _ z5;refine A3 (Bu z6 0o0 λg7 z7 s7=>?_)
 replace z7:IsZip g7 z TI TO (rawInt g5.objs.size):=z7
 refine Bu z7 0o0 λg8 z8 s8=>?_
 replace z8:IsZip g8 z TI TO (rawInt g5.objs.size):=z8
 have up8:∀c o,c≠z->g5.get? c=some o->g8.get? c=some o:=λc o c1 e=>s8.extBut _ _ c1 (s7.extBut _ _ c1 (C3 _ e));have t8:IsPair g8 g5.objs.size x y:=s8.extBut _ _ (DB zlt) (s7.extBut _ _ (DB zlt) (K4 _ rfl));rw[hsz] at z8 t8;refine A9 ⟨_,rfl,?_⟩;show Q (.ref g5.objs.size) _;rw[hsz];exact hQ g8 z8 (up8 _ _ D.a2 t5) (j1.at λo e=>up8 _ o D.a3 e) (j5.at λo e=>up8 _ o D.a4 e) t8 λc o c1 c2 c3 c4 e=>up8 c o c1 (up5 c o c1 c2 c3 c4 e)
def zipEnd {z TI TO i1 i2 l1 l2:A1}(hh:A.handled=none)(D:ZAp z TI TO i1 i2)(m1:l1≠z)(m2:l2≠z)(m3:l1≠TO)(m4:l2≠TO)(m5:l1≠i1)(m6:l2≠i1)
   (hz:IsZip s.heap z TI TO .none) (hTI:IsPair s.heap TI (.ref i1) (.ref i2)) (hTO:IsPair s.heap TO a b) (h1:ItB b1 s.heap i1 l1 k) (h2:ItB b2 s.heap i2 l2 k) (hl1:SeB b1 s.heap l1 xs) (hl2:SeB b2 s.heap l2 ys) (hend:xs[k]?=none\/ys[k]?=none)
   (hE:∀h' e,(∀c o,c≠z->c≠TO->c≠i1->c≠i2->s.heap.get? c=some o->h'.get? c=some o)->(∃o,h'.get? e=some o/\o.cls=.type "StopIteration")->E (.ref e) { s with heap:=h' }) :
   A5 (A7 prog w) A (Z8.«zip.__next__» ⟨[.ref z],[]⟩) Q E s:=by
 show A5 _ _ (field (.ref z) 2>>=_) _ _ _;refine A3 (L8 hz rfl (x:=.bool false) rfl ?_);show A5 _ _ (field (.ref z) 3>>=_) _ _ _;refine A3 (L8 hz rfl (x:=.ref TI) rfl (A3 (o9 hTI rfl ?_)));show A5 _ _ (Ba (.ref z)>>=_) _ _ _;refine A3 ?_;unfold Ba;refine A3 (L8 hz rfl (x:=.none) rfl (A9 ?_));simp only[if_true];refine A3 (p6 (A3 (L8 hz rfl (x:=.ref TO) rfl (A3 (Bu hz 0o0 λg1 z1 s1=>?_)))))
 replace z1:IsZip g1 z TI TO .ellipsis:=z1
 refine A3 ?_;simp only[List.zipIdx_cons,List.zipIdx_nil,Dt,Cf];refine A3 (A3 (wpAny_onRaise ?_));show A5 _ _ (i7 (.ref i1)>>=_) _ _ _;have h1':ItB b1 g1 i1 l1 k:=h1.at λo e=>s1.extBut _ o D.a3 e;have hl1':SeB b1 g1 l1 xs:=hl1.at λo e=>s1.extBut _ o m1 e
 have nz:∀{g:B4} {e:A1} {o:Obj},IsZip g z TI TO .ellipsis->g.get? e=some o->o.cls=.type "StopIteration"->e≠z:=λ{g e o} hz ho hc x=>by
  subst x;rw[hz] at ho;cases ho;exact absurd (show x9 "zip"=x9 "StopIteration" from hc) 0b0
 cases hx:xs[k]? with
 | none =>
  refine A3 (Hr (s:={ s with heap:=g1 }) hh h1' hl1' hx λg2 e s2 ⟨oe,hoe,hce⟩=>?_);have z2:IsZip g2 z TI TO .ellipsis:=s2 _ _ D.a3.symm z1;exact Bu z2 0o0 λg3 _ s3=>hE g3 e (λc o c1 _ c3 _ x=>s3.extBut _ _ c1 (s2 _ _ c3 (s1.extBut _ _ c1 x))) ⟨oe,s3.extBut _ _ (nz z2 hoe hce) hoe,hce⟩
 | some x =>
  have hy:ys[k]?=none:=hend.elim (λh=>by rw[hx] at h;cases h) id;refine A3 (DW (s:={ s with heap:=g1 }) h1' hl1' hx λg2 j2 s2=>A9 ?_);have t2:IsPair g2 TO a b:=s2.extBut _ _ D.a8 (s1.extBut _ _ D.a2 hTO);refine A3 (o9 t2 rfl (A3 (wpAny_updateSeq_pair (s:={ s with heap:=g2 }) t2 λg3 t3 s3=>A3 (wpAny_letGo (A9 ?_)))));refine A3 (A3 (wpAny_onRaise ?_));show A5 _ _ (i7 (.ref i2)>>=_) _ _ _;have up3:∀c o,c≠z->c≠i1->c≠TO->s.heap.get? c=some o->g3.get? c=some o:=λc o c1 c2 c3 e=>s3.extBut _ o c3 (s2.extBut _ o c2 (s1.extBut _ o c1 e));refine A3 (Hr (s:={ s with heap:=g3 }) hh (h2.at λo e=>up3 _ o D.a4 D.a10.symm D.a9.symm e) (hl2.at λo e=>up3 _ o m2 m6 m4 e) hy λg4 e s4 ⟨oe,hoe,hce⟩=>?_);have z4:IsZip g4 z TI TO .ellipsis:=s4 _ _ D.a4.symm (s3.extBut _ _ D.a2.symm (s2.extBut _ _ D.a3.symm z1));exact Bu z4 0o0 λg5 _ s5=>hE g5 e (λc o c1 c2 c3 c4 x=>s5.extBut _ _ c1 (s4 _ _ c4 (up3 c o c1 c3 c2 x))) ⟨oe,s5.extBut _ _ (nz z4 hoe hce) hoe,hce⟩
end
def itO (b:Bool)(l:A1):Obj:=match b with|true=>{ cls:=.type "list_iterator",data:=.fields #[.ref l,.int 0 0] }|false=>{ cls:=.type "tuple_iterator",data:=.fields #[.ref l,.int 0 0] }
def Lh (b:Bool)(l:A1):(itO b l).isFreed=false:=by cases b <;> rfl
def Li (e:h.get? a=some (itO b l)):ItB b h a l 0:=by
 cases b with
 |true=>exact⟨_,e,rfl,rfl⟩
 |false=>exact⟨_,e,rfl,rfl⟩
def iterO (ht:SeB b s.heap t items)(hQ:Q (.ref s.heap.objs.size) { s with heap:=s.heap.push (itO b t) }):A5 (A7 prog w) A (pyIter (.ref t)) Q E s:=by
 cases b with
 |true=>exact Ew ht hQ
 |false=>exact wpAny_pyIter_tuple ht hQ
abbrev zh2 (h:B4)(b1 b2:Bool)(l1 l2:A1):B4:=(h.push (itO b1 l1)).push (itO b2 l2)
abbrev zh3 (h:B4)(b1 b2:Bool)(l1 l2:A1):B4:=(zh2 h b1 b2 l1 l2).push { cls:=.type "tuple",data:=.seq #[.ref h.objs.size,.ref (h.push (itO b1 l1)).objs.size] }
abbrev zh4 (h:B4)(b1 b2:Bool)(l1 l2:A1):B4:=(zh3 h b1 b2 l1 l2).push { cls:=.type "tuple",data:=.seq #[.none,.none] }
abbrev zh5 (h:B4)(b1 b2:Bool)(l1 l2:A1):B4:=(zh4 h b1 b2 l1 l2).push { cls:=.type "zip",data:=.fields #[.none,.bool false,.bool false,.ref (zh2 h b1 b2 l1 l2).objs.size,.ref (zh3 h b1 b2 l1 l2).objs.size] }
def zipNew (b1 b2:Bool)(l1 l2:A1)(xs ys:Array A2) :
   Meets (Z8.«zip.__new__» ⟨[.type "zip",.ref l1,.ref l2],[]⟩) (λ_ R s=>SeB b1 s.heap l1 xs/\SeB b2 s.heap l2 ys/\R (.ok (.ret (.ref (zh4 s.heap b1 b2 l1 l2).objs.size))) { s with heap:=zh5 s.heap b1 b2 l1 l2 }):=
 .of_wp λprog w A R s hyp=>by
  obtain⟨hp,g,d,tk,os⟩:=s;obtain⟨k1,k2,fin⟩:=hyp;have hsub:=sub_zip;have L1:SeB b1 (Shared.heap ⟨hp,g,d,tk,os⟩) l1 xs:=k1;have L2:SeB b2 (Shared.heap ⟨hp.push (itO b1 l1),g,d,tk,os⟩) l2 ys:=k2.at λo e=>C3 _ e
  wp_walk using iterO L1,iterO L2
  exact⟨_,rfl,fin⟩
section
variable {prog:D4}{w:C0}{A:D9}{E:A2->A4->Prop}{s:A4}
def zipB (hl1:SeB b1 s.heap l1 xs)(hl2:SeB b2 s.heap l2 ys)
   (h:∀h',IsZip h' (s.heap.objs.size+4) (s.heap.objs.size+2) (s.heap.objs.size+3) .none->IsPair h' (s.heap.objs.size+2) (.ref s.heap.objs.size) (.ref (s.heap.objs.size+1))->
     IsPair h' (s.heap.objs.size+3) .none .none->ItB b1 h' s.heap.objs.size l1 0->ItB b2 h' (s.heap.objs.size+1) l2 0->(∀c o,s.heap.get? c=some o->h'.get? c=some o)->Q (.ref (s.heap.objs.size+4)) { s with heap:=h' }) :
   A5 (A7 prog w) A (call (.type "zip") [.ref l1,.ref l2]) Q E s:=by
 refine callType_new F.called_zip 0b0 (F.typeCall_zip_2 _ _) (F.newCall_zip_2 _ _) (λobj=>F.args_object_init_3 obj _ _) F.entry_zip_new (zipNew b1 b2 l1 l2 xs ys) ⟨hl1,hl2,?_⟩;have z1:(s.heap.push (itO b1 l1)).objs.size=s.heap.objs.size+1:=As ..;have z2:(zh2 s.heap b1 b2 l1 l2).objs.size=s.heap.objs.size+2:=by rw[As,z1]
 have z3:(zh3 s.heap b1 b2 l1 l2).objs.size=s.heap.objs.size+3:=by rw[As,z2]
 have z4:(zh4 s.heap b1 b2 l1 l2).objs.size=s.heap.objs.size+4:=by rw[As,z3]
 have g5:(zh5 s.heap b1 b2 l1 l2).get? (zh4 s.heap b1 b2 l1 l2).objs.size=some _:=K4 _ rfl;have g4:(zh5 s.heap b1 b2 l1 l2).get? (zh3 s.heap b1 b2 l1 l2).objs.size=some _:=C3 _ (K4 _ rfl);have g3:(zh5 s.heap b1 b2 l1 l2).get? (zh2 s.heap b1 b2 l1 l2).objs.size=some _:=C3 _ (C3 _ (K4 _ rfl));have g2:(zh5 s.heap b1 b2 l1 l2).get? (s.heap.push (itO b1 l1)).objs.size=some _:=C3 _ (C3 _ (C3 _ (K4 _ (Lh b2 l2))));have g1:(zh5 s.heap b1 b2 l1 l2).get? s.heap.objs.size=some _:=C3 _ (C3 _ (C3 _ (C3 _ (K4 _ (Lh b1 l1)))));show _/\_;rw[z2,z3,z4] at g5;rw[z1,z2] at g3;rw[z3] at g4;rw[z1] at g2;rw[z4];exact⟨⟨_,g5,rfl⟩,h _ g5 g3 g4 (Li g1) (Li g2) λc o x=>C3 _ (C3 _ (C3 _ (C3 _ (C3 _ x))))⟩
end
section
variable {X:Cx}
def Ft (p:SeB b h l items)(he:h.get? e=some o)(hc:o.cls=.type n)(h1:n≠"list")(h2:n≠"tuple"):l≠e:=λz=>by
 obtain⟨o',e1,c1⟩:=p.obj;rw[z,he] at e1;cases e1;rw[hc] at c1;rcases c1 with c1|c1
 ·exact h1 (Value.type.inj c1)
 ·exact h2 (Value.type.inj c1)
end
end L2
end
section
namespace Pu
open PySem PySem.Spec L2
section
variable {T:PotK}{ι:Type}{K:A6}{F:ι->Cx}{e a b tg:Expr}{pe pa pb:pE}{pos:Pos}
def AI (b:Bool):PV->Option (List PV)
 |.lst xs=>if b then some xs else none
 |.tup xs=>if b then none else some xs
 |_=>none
def PB {b:Bool}(h:AI b x=some xs):x=(match b with|true=>.lst xs|false=>.tup xs):=by
 cases x <;> cases b <;> simp[AI] at h <;> simp[h]
def Lj {b:Bool}(h:AI b x=some xs)(r:Rep K G H x v):∃a vs,v=.ref a/\a∉G.M/\Reps K G H xs vs/\∀H2,(∀c o,c∉G.M->H c=some o->H2 c=some o)->SqB b K H2 a vs:=by
 rw[PB h] at r;cases b with
 | true =>
  obtain⟨a,vs,e,t,r⟩:=r;exact⟨a,vs,e,t.1,r,λH2 hk=>SqL.of (hk a _ t.1 t.2)⟩
 | false =>
  obtain⟨a,vs,e,t,r⟩:=r;exact⟨a,vs,e,t.1,r,λH2 hk=>SqT.of (hk a _ t.1 t.2)⟩
end
end Pu
end
section
namespace L2
open PySem PySem.Spec PyProof.Rows
section
variable {κ:Type}[DecidableEq κ]
def valV (ji:List (κ×V))(k:κ):Option V:=(ji.find? λkv=>decide (kv.1=k)).map (·.2)
def putK (ji:List (κ×V))(k:κ)(v:V):List (κ×V):=
 if(ji.any λkv=>decide (kv.1=k))=true then ji.map (λkv=>if kv.1=k then(kv.1,v) else kv) else ji++[(k,v)]
def Hs {k:κ}(e:p.1=k):valV (p::r) k=some p.2:=by simp[valV,Ce,e]
def Ht {k:κ}(e:¬p.1=k):valV (p::r) k=valV r k:=by simp[valV,Ce,e]
theorem Fu (k:κ):∀ji:List (κ×V),(ji.any λkv=>decide (kv.1=k))=(valV ji k).isSome
 |[]=>rfl
 | p :: r => by
  rw[List.any_cons]
  by_cases e:p.1=k
  ·simp only[Hs e,ju e,V5,Option.isSome_some]
  ·rw[Ht e,jv e,V4];exact Fu k r
def Lk (ji:List (κ×V))(k:κ)(v:V):(putK ji k v).length<=ji.length+1:=by
 unfold putK
 split
 ·rw[B0];ext
 ·rw[D3,F2,O8];ext
def RelO.isSome_eq (r:RelO o u):o.isSome=u.isSome:=by
 cases o with
 | none => cases u with
  |none=>rfl
  |some _=>exact(show False from r).elim
 | some _ => cases u with
  |none=>exact(show False from r).elim
  |some _=>rfl
def KV.val (r:KV ji vs)(k:κ):RelO (valV ji k) (valueAt vs k):=by
 unfold KV at r
 induction r with
 |nil=>exact t9
 | @cons p q ps qs h t ih =>
  obtain⟨h1,h2⟩:=h
  by_cases e:p.1=k
  ·have e':q.1=k:=h1.symm.trans e;have b:valueAt (q::qs) k=some q.2:=by simp[valueAt,Ce,e']
   rw[Hs e,b];exact h2
  ·have e':¬q.1=k:=λz=>e (h1.trans z);have b:valueAt (q::qs) k=valueAt qs k:=by simp[valueAt,Ce,e']
   rw[Ht e,b];exact ih
theorem KV.any {ji:List (κ×V)}{vs:List (κ×A2)}(r:KV ji vs)(k:κ):(ji.any λkv=>decide (kv.1=k))=vs.any λkv=>decide (kv.1=k):=by induction r <;> grind
def KV.repl (r:KV ji vs)(k:κ)(ry:RelV y u) :
   KV (ji.map λkv=>if kv.1=k then(kv.1,y) else kv) (vs.map λkv=>if kv.1=k then(kv.1,u) else kv):=by
 unfold KV at r ⊢
 induction r with
 |nil=>exact .nil
 | @cons p q ps qs h t ih =>
  rw[G7,G7];refine .cons ?_ ih;obtain⟨h1,h2⟩:=h
  by_cases e:p.1=k
  ·rw[jw e,jw (h1.symm.trans e)];exact⟨h1,ry⟩
  ·rw[jy e,jy (λz=>e (h1.trans z))];exact⟨h1,h2⟩
def KV.put (r:KV ji vs)(k:κ)(ry:RelV y u):KV (putK ji k y) (stored vs k u):=by
 unfold putK stored;rw[r.any k]
 by_cases e:(vs.any λkv=>decide (kv.1=k))=true
 ·rw[jw e,jw e];exact r.repl k ry
 ·rw[jy e,jy e];exact Paired.snoc r ⟨rfl,ry⟩
theorem KV.length (r:KV ji vs):ji.length=vs.length:=EV r
end
def CU (r:RelV (kV k) u):(P3 P w).is k u=true:=by
 cases k with
 |inl i=>obtain⟨t,e⟩:=(show ∃t,u=Cr i t from r);subst e;exact MS P w i t
 |inr x=>obtain⟨t,e⟩:=(show ∃t,u=Cs x t from r);subst e;exact MT P w x t
theorem Lm {P:D4}{w:C0}:∀{ks:List Key} {us:List A2},Vals (ks.map kV) us->ItemsAre (P3 P w) ks us
 |[],_,r=>by rw[List.map_nil] at r;cases r;exact .nil
 | k :: ks, _, r => by
  rw[G7] at r;cases r with
  |cons h t=>exact .cons (CU h) (Lm t)
abbrev KT (H:Hp):List (List Key×V)->List (List Key×A1×A2)->Prop:=Paired λp q=>p.1=q.1/\H q.2.1=some (.tup (p.1.map kV))/\RelV p.2 q.2.2
def KT.val (r:KT H ji xs)(k:List Key):RelO (valV ji k) ((atKey xs k).map (·.2)):=by
 induction r with
 |nil=>exact t9
 | @cons p q ps qs h t ih =>
  obtain⟨h1,_,h2⟩:=h
  by_cases e:p.1=k
  ·have e':q.1=k:=h1.symm.trans e;have b:atKey (q::qs) k=some q.2:=by simp[atKey,Ce,e']
   rw[Hs e,b];exact h2
  ·have e':¬q.1=k:=λz=>e (h1.trans z);have b:atKey (q::qs) k=atKey qs k:=by simp[atKey,Ce,e']
   rw[Ht e,b];exact ih
def KT.repl {H:Hp}{ji:List (List Key×V)}{xs:List (List Key×A1×A2)}(r:KT H ji xs)(k:List Key){y:V}{u:A2}(ry:RelV y u) :
   KT H (ji.map λkv=>if kv.1=k then(kv.1,y) else kv) (xs.map (putAt k u)):=by
 induction r with
 |nil=>exact .nil
 | @cons p q ps qs h t ih =>
  rw[G7,G7];refine .cons ?_ ih;obtain⟨h1,h2,h3⟩:=h;unfold putAt
  by_cases e:p.1=k
  ·grind
  ·grind
def KT.put (r:KT H ji xs)(k:List Key)(hb:H b=some (.tup (k.map kV)))(ry:RelV y u) :
   KT H (putK ji k y) (k7 xs k b u):=by
 have e:(ji.any λkv=>decide (kv.1=k))=(atKey xs k).isSome:=by
  rw[Fu,(r.val k).isSome_eq,Option.isSome_map]
 unfold putK k7;rw[e]
 by_cases q:(atKey xs k).isSome=true
 ·rw[jw q,jw q];exact r.repl k ry
 ·rw[jy q,jy q];exact Paired.snoc r ⟨rfl,hb,ry⟩
def KT.keeps (r:KT H ji xs)(ht:∀b ys,H b=some (.tup ys)->H' b=some (.tup ys)):KT H' ji xs:=
 Paired.mapP r λ_ _ z=>⟨z.1,ht _ _ z.2.1,z.2.2⟩
section
variable {P:D4}{w:C0}{H:Hp}{h:B4}{a:A1}
def rd_of (ok:HOk P w H h)(e:Rd H a u):J1 P w H h a u:=e.ok ok
def Fv (ok:HOk P w H h)(e:Rd H a (.dK ji)):ji.length<=B5/\(a == P8)=false/\∃vs,KV ji vs/\h.DictOf (P3 P w) a vs:=
 show J1 P w H h a (.dK ji) from rd_of ok e
def dk_of (ok:HOk P w H h)(e:H a=some (.dK ji)):ji.length<=B5/\(a == P8)=false/\∃vs,KV ji vs/\h.DictOf (P3 P w) a vs:=Fv ok (.inl e)
def CV (ok:HOk P w H h)(e:H a=some (.tup (ks.map kV))):(R4 (P3 P w)).is h ks a:=by
 obtain⟨_,jh,r,o,h1,h2,n,h3⟩:=(show J1 P w H h a (.tup (ks.map kV)) from ok a _ e);exact⟨o,jh.toArray,n,h1,(Cz h2).1,h3,by simpa using Lm r⟩
def Fw {ji:List (List Key×V)}(ok:HOk P w H h)(e:Rd H a (.dT ji)):ji.length<=B5/\(a == P8)=false/\
   ∃xs,KT H ji xs/\h.DictOfH (R4 (P3 P w)) a xs:=by
 obtain⟨z,y,xs,r,o,es,ep,h1,h2,h3,h4,h5⟩:=(show J1 P w H h a (.dT ji) from rd_of ok e);refine⟨z,y,xs,r,o,es,ep,h1,h2,h3,h4,λx hx=>?_,h5⟩
 have all:∀{l:List (List Key×V)} {m:List (List Key×A1×A2)},KT H l m->∀x∈m,(R4 (P3 P w)).is h x.1 x.2.1:=by
  intro l m q
  induction q with
  |nil=>intro x hx;exact nomatch hx
  | @cons p q ps qs hq t ih =>
   intro x hx;rcases B9.mp hx with e|hx
   ·subst e;exact CV ok (by grind)
   ·grind
 grind
def dt_of (ok:HOk P w H h)(e:H a=some (.dT ji)):ji.length<=B5/\(a == P8)=false/\
   ∃xs,KT H ji xs/\h.DictOfH (R4 (P3 P w)) a xs:=Fw ok (.inl e)
end
def DGet (H:Hp)(a:A1)(y:V)(r:Option V):Prop:=
 (∃ji k,Rd H a (.dK ji)/\y=kV k/\r=valV ji k)\/∃ji k b,Rd H a (.dT ji)/\y=.ref b/\H b=some (.tup (k.map kV))/\r=valV ji k
def DPut (H:Hp)(a:A1)(y v:V)(H':Hp):Prop:=
 (∃ji k,H a=some (.dK ji)/\y=kV k/\ji.length<B5/\H'=upd H a (.dK (putK ji k v)))\/
 ∃ji k b,H a=some (.dT ji)/\y=.ref b/\H b=some (.tup (k.map kV))/\ji.length<B5/\H'=upd H a (.dT (putK ji k v))
theorem DGet.k {k:Key}(e:H a=some (.dK ji)):DGet H a (kV k) (valV ji k):=.inl ⟨ji,k,.inl e,rfl,rfl⟩
def DGet.t {k:List Key}(e:H a=some (.dT ji))(eb:H b=some (.tup (k.map kV))):DGet H a (.ref b) (valV ji k):=.inr ⟨ji,k,b,.inl e,rfl,eb,rfl⟩
theorem DPut.k {k:Key}(e:H a=some (.dK ji))(hl:ji.length<B5):DPut H a (kV k) v (upd H a (.dK (putK ji k v))):=.inl ⟨ji,k,e,rfl,hl,rfl⟩
def DPut.t {k:List Key}(e:H a=some (.dT ji))(eb:H b=some (.tup (k.map kV)))(hl:ji.length<B5) :
   DPut H a (.ref b) v (upd H a (.dT (putK ji k v))):=.inr ⟨ji,k,b,e,rfl,eb,hl,rfl⟩
section
variable {X:Cx}{jd:List (A1×Obj)}{σ:St}{H:Hp}{s:A4}{a:A1}{y v:V}{u r:A2}{o:Option V}{A:D9}{E:A2->A4->Prop}
def PC (hu:A.units+1<cLine)(I:Inv X jd σ H s)(g:DGet H a y (some v))(ry:RelV y u)(h:∀w' s',Inv X jd σ H s'->RelV v w'->Q w' s') :
   A5 (A7 X.prog X.w) A (k6 (.ref a) u) Q E s:=by
 rcases g with⟨ji,k,e,ey,l⟩|⟨ji,k,b,e,ey,eb,l⟩
 ·subst ey;obtain⟨z,hd,vs,rel,dd⟩:=Fv I.hok e;obtain⟨w',hw,rw'⟩:=RelO.some_of (v:=v) (o:=valueAt vs k) (by rw[l];exact rel.val k);exact wpAny_getItem_of (CU ry) dd.mapOf hw (h w' _ (I.tok _) rw')
 ·subst ey;cases(show u=L5 b from ry);obtain⟨z,hd,xs,rel,dd⟩:=Fw I.hok e;obtain⟨w',hw,rw'⟩:=RelO.some_of (v:=v) (o:=(atKey xs k).map (·.2)) (by rw[l];exact rel.val k);obtain⟨p,hp,hp2⟩:=Option.map_eq_some_iff.mp hw;refine wpAny_getItem_heap (Eu hu) (CV I.hok eb) dd hp ?_;rw[hp2];exact h w' _ (I.tok _) rw'
def PF {Q:A2->A4->Prop}(hu:A.units+1<cLine)(I:Inv X jd σ H s)(g:DGet H a y o)(ry:RelV y u)(h:∀s',Inv X jd σ H s'->Q (.bool (!o.isSome)) s') :
   A5 (A7 X.prog X.w) A (L0 .NotIn u (.ref a)) Q E s:=by
 rcases g with⟨ji,k,e,ey,l⟩|⟨ji,k,b,e,ey,eb,l⟩
 ·subst ey;obtain⟨z,hd,vs,rel,dd⟩:=Fv I.hok e;refine wpAny_notIn_of (CU ry) hd dd.mapOf ?_;rw[<- (rel.val k).isSome_eq,<- l];exact h _ (I.tok _)
 ·subst ey;cases(show u=L5 b from ry);obtain⟨z,hd,xs,rel,dd⟩:=Fw I.hok e;refine wpAny_notIn_heap (Eu hu) (CV I.hok eb) hd dd ?_;have q:=(rel.val k).isSome_eq;rw[Option.isSome_map] at q;rw[<- q,<- l];exact h _ (I.tok _)
def Fx (I:Inv X jd σ H s)(mu:Mut (H a))(hs:Ci a s.heap h')(he:∃q,h'.get? a=some q)(new:J1 X.prog X.w (upd H a ob) h' a ob) :
   Inv X jd σ (upd H a ob) { s with heap:=h',toks:=t' }:=
 I.write (x:=a) (e:=a) mu (.inl rfl) (λb q hb z=>(hs.2 b hb).trans z) he new
def dk_new (z:ji.length<=B5)(hd:(a == P8)=false)(rel:KV ji vs)(dd:h'.DictOf (P3 P w) a vs) :
   J1 P w H' h' a (.dK ji):=⟨z,hd,vs,rel,dd⟩
def PH (hu:A.units+1<cLine)(I:Inv X jd σ H s)(g:DPut H a y v H')(ry:RelV y u)(rv:RelV v r)(h:∀s',Inv X jd σ H' s'->Q () s') :
   A5 (A7 X.prog X.w) A (setItem (.ref a) u r) Q E s:=by
 rcases g with⟨ji,k,e,ey,l,eH⟩|⟨ji,k,b,e,ey,eb,l,eH⟩
 ·subst ey eH;obtain⟨z,hd,vs,rel,dd⟩:=dk_of I.hok e;have hz:vs.length<=B5:=by rw[<- rel.length];exact z
  have hl:(putK ji k v).length<=B5:=by have:=Lk ji k v;ext
  refine wpAny_setItem_pairs (hsz:=hz) (CU ry) dd λh' dd' hs=>h _ ?_;have he:∃q,h'.get? a=some q:=let ⟨q,_,_,hq,_⟩:=dd';⟨q,hq⟩;exact Fx I (by rw[e];exact t9) hs he (dk_new hl hd (rel.put k rv) dd')
 ·subst ey eH;cases(show u=L5 b from ry);obtain⟨z,hd,xs,rel,dd⟩:=dt_of I.hok e;have hz:xs.length<=B5:=by rw[<- EV rel];exact z
  have hl:(putK ji k v).length<=B5:=by have:=Lk ji k v;ext
  refine wpAny_setItem_heap (hsz:=hz) (Eu hu) (CV I.hok eb) dd λh' dd' hs=>h _ ?_;obtain⟨q,es,ep,hq,h2,h3,h4,_,h5⟩:=dd';refine Fx I (by rw[e];exact t9) hs ⟨q,hq⟩ ⟨hl,hd,_,(rel.put k eb rv).keeps λc ys ec=>?_,q,es,ep,hq,h2,h3,h4,h5⟩;rw[B6 (ne_of ec e (λz=>nomatch z))];exact ec
end
def NoSl (i:Expr):Prop:=∀ov iv,subscripted i false ov iv=operate [ov,iv] (k6 ov iv)
def PJ {T id:String}
   (hl:typeLookup (.type T) "__getitem__"=pure (some (.builtin id))) (hs:NoSl slice)
   (h:A5 (A7 prog w) A (eval value env) (λo s₁=>A5 (A7 prog w) A (eval slice env) (λi s₂=>s₂.TypeIs o T/\A5 (A7 prog w) A (k6 o i) Q E s₂) E s₁) E s) :
   A5 (A7 prog w) A (eval (.Subscript value slice pos) env) Q E s:=by
 refine Subscript_ (K8 h (λo s₁ h₁=>K8 h₁ (λi s₂ h₂=>?_) λ_ _ x=>x) λ_ _ x=>x);obtain⟨hT,h₂⟩:=h₂;unfold subscriptTail;refine A3 ?_;rw[getitemInPython_of_ne hT.not_modules];refine A3 (wpAny_specialOf hT hl ?_)
 have fin:A5 (A7 prog w) A (subscripted slice false o i) (λr s₃=>A5 (A7 prog w) A (letTemporaryGo value o r>>=λ_=>pure r) Q E s₃) E s₂:=by
  rw[hs o i];exact wpAny_operating (K8 h₂ (λr s₃ h₃=>A3 (wpAny_letTemporaryGo (A9 h₃))) λ_ _ x=>x)
 first
   |exact A9 (A3 fin)
   |exact A3 (A9 (A3 fin))
   |exact A3 fin
def PL (I:Inv X jd σ H s)(g:DGet H a y o):s.TypeIs (.ref a) "dict":=by
 rcases g with⟨ji,k,e,_,_⟩|⟨ji,k,b,e,_,_,_⟩
 ·obtain⟨_,_,vs,_,dd⟩:=Fv I.hok e;exact dd.typeIs
 ·obtain⟨_,_,xs,_,dd⟩:=Fw I.hok e;exact dd.typeIs
def Hu (td ty:TE):TE:=λσ H Q=>td σ H λx H1=>ty σ H1 λy H2=>∃a v,x=.ref a/\DGet H2 a y (some v)/\Q v H2
def Fy (td ty tv:TE):TS:=λD σ H=>tv σ H λv H1=>td σ H1 λx H2=>ty σ H2 λy H3=>∃a H4,x=.ref a/\DPut H3 a y v H4/\D.nx σ H4
section
variable {X:Cx}{o i e value:Expr}{pos pos' tpos:Pos}{td ty tv:TE}
def Ln (hu:X.A.units+1<cLine)(ho:PE X o td)(hi:PE X i ty)(hs:NoSl i):PE X (.Subscript o i pos) (Hu td ty):=by
 intro jd s σ H Q I h;refine PJ PySem.F.slot_dict_getitem.lookup hs (thn (ho jd s σ H _ I h) λu s1 ⟨x,H1,I1,rx,q1⟩=>thn (hi jd s1 σ H1 _ I1 q1) λiv s2 ⟨y,H2,I2,ry,a,v,ex,g,q2⟩=>?_);subst ex;obtain rfl:u=L5 a:=rx;exact⟨PL I2 g,PC hu I2 g ry λw' s3 I3 rw'=>⟨v,H2,I3,rw',q2⟩⟩
def PM (hu:X.A.units+1<cLine)(ho:PE X o td)(hi:PE X i ty)(hv:PE X value tv)(hs:v5 value (some (.Subscript o i pos')) pos.line X.env=pure false) :
   PS X (.Assign [.Subscript o i pos'] value pos) (Fy td ty tv):=by
 intro jd s σ H D I h;refine wpAny_Assign_Subscript (thn (hv jd s σ H _ I h) λr s1 ⟨v,H1,I1,rv,q1⟩=>thn (ho jd s1 σ H1 _ I1 q1) λu s2 ⟨x,H2,I2,rx,q2⟩=>thn (hi jd s2 σ H2 _ I2 q2) λiv s3 ⟨y,H3,I3,ry,a,H4,ex,g,q3⟩=>?_) hs;subst ex;obtain rfl:u=L5 a:=rx;exact PH hu I3 g ry rv λs4 I4=>⟨σ,H4,I4,q3⟩
end
def PN {P:D4}{w:C0}{H:Hp}(h:B4)(hb:P8<h.objs.size):J1 P w H (h.push { cls:=.type "dict",data:=.dict #[] }) h.objs.size (.dT []):=
 ⟨C8 _,beq_eq_false_iff_ne.mpr (Ne.symm (F3 hb)),[],.nil,_,#[],0,K4 _ rfl,⟨rfl,rfl,rfl⟩,rfl,rfl,Cg⟩
def Hv:List (TE×TE)->St->Hp->(List (V×V)->Hp->Prop)->Prop
 |[],_,H,Q=>Q [] H
 |(tk,tv)::r,σ,H,Q=>tk σ H λx H1=>tv σ H1 λy H2=>Hv r σ H2 λps H3=>Q ((x,y)::ps) H3
abbrev VV:List (V×V)->List (A2×A2)->Prop:=Paired λp q=>RelV p.1 q.1/\RelV p.2 q.2
def PPs (X:Cx)(pos:Pos)(keys:List (Option Expr))(values:List Expr)(trs:List (TE×TE)):Prop:=
 ∀ (jd : List (A1 × Obj)) (s : A4) (σ : St) (H : Hp) (Q : List (V × V) -> Hp -> Prop), Inv X jd σ H s -> Hv trs σ H Q ->
   A5 (A7 X.prog X.w) X.A (evalPairs (pairTrees keys values X.env pos)) (λvs s'=>∃ps H',Inv X jd σ H' s'/\VV ps vs/\Q ps H') X.xe s
def PR:PPs X pos [] [] []:=λjd s σ H Q I h=>pairTrees_nil_walk ⟨[],H,I,.nil,h⟩
def PU (hk:PE X k tk)(hv:PE X v tv)(hr:PPs X pos ks vs trs) :
   PPs X pos (some k::ks) (v::vs) ((tk,tv)::trs):=λjd s σ H Q I h=>
 pairTrees_cons_walk (thn (hk jd s σ H _ I h) λu s1 ⟨x,H1,I1,rx,q1⟩=>thn (hv jd s1 σ H1 _ I1 q1) λw2 s2 ⟨y,H2,I2,ry,q2⟩=>
  thn (hr jd s2 σ H2 _ I2 q2) λws s3 ⟨ps,H3,I3,rel,q3⟩=>⟨(x,y)::ps,H3,I3,.cons ⟨rx,ry⟩ rel,q3⟩)
end L2
end
section
namespace Pu
open PySem PySem.Spec L2
theorem BP {te:pE}{rest:Env}{α:Type}(f:α->PV)(g:α->PV):∀(xs:List α) (s0:Option Slot) (n:Nat) (R:List PV->Nat->Prop),(∀x∈xs,∀m Q,Q (g x) (some (.v (f x))::rest) m->te (some (.v (f x))::rest) m Q)->R (xs.map g) n->Z4 (gN 0) qTru te (xs.map f) (s0::rest) n R
 |[],_,_,_,_,h=>h
 | x :: xs, s0, n, R, ht, h => by
  show te (some (.v (f x))::rest) n _;refine ht x D2 n _ ?_;exact BP f g xs _ n _ (λy hy=>ht y (C1 _ hy)) h
theorem Lo {te:pE}{rest:Env}{α:Type}(u v g:α->PV):∀(xs:List α) (s0 s1:Option Slot) (n:Nat) (R:List PV->Nat->Prop),(∀x∈xs,∀m Q,Q (g x) (some (.v (u x))::some (.v (v x))::rest) m->te (some (.v (u x))::some (.v (v x))::rest) m Q)->R (xs.map g) n->Z4 (gTp 2 (gCn (gN 0) (gCn (gN 1) gNl))) qTru te (xs.map λx=>.tup [u x,v x]) (s0::s1::rest) n R
 |[],_,_,_,_,_,h=>h
 | x :: xs, s0, s1, n, R, ht, h => by
  mleft;show te (some (.v (u x))::some (.v (v x))::rest) n _;refine ht x D2 n _ ?_;exact Lo u v g xs _ _ n _ (λy hy=>ht y (C1 _ hy)) h
end Pu
end
section
namespace L2
open PySem PySem.W PyProof.Rows
namespace Kr
def run {α:Type}(lt:Nat->Nat->Bool):KasT α->α
 |.ret a=>a
 |.ask i j k=>run lt (k (lt i j))
structure Ord (lt:Nat->Nat->Bool):Prop where
 ir:∀a,lt a a=false
 tr:∀a b c,lt a b=true->lt b c=true->lt a c=true
 nt:∀a b c,lt a c=true->lt a b=true\/lt b c=true
variable {lt:Nat->Nat->Bool}(O:Ord lt)
include O
theorem Ord.le (h1:lt b a=false)(h2:lt c b=false):lt c a=false:=by
 cases e:lt c a with
 |false=>rfl
 |true=>rcases O.nt c b a e with h|h <;> simp_all
theorem Ord.l1 (h1:lt a b=true)(h2:lt c b=false):lt a c=true:=by
 rcases O.nt a c b h1 with h|h
 ·exact h
 ·rw[h2] at h;cases h
theorem Ord.l2 (h1:lt b a=false)(h2:lt b c=true):lt a c=true:=by
 rcases O.nt b a c h2 with h|h
 ·rw[h1] at h;cases h
 ·exact h
omit O
def g (p:Array Nat)(i:Nat):Nat:=p.getD i 0
theorem PX (p:Array Nat)(i j:Nat):(kas_rev p i j).Perm p:=mirror_perm _ _ _ _
include O
omit O
def InQ {α:Type}(n:Nat)(Q:α->Prop):KasT α->Prop
 |.ret a=>Q a
 |.ask i j k=>i<n/\j<n/\∀b,InQ n Q (k b)
theorem CW {α β:Type}{n:Nat}{Q:α->Prop}{R:β->Prop}{f:α->KasT β}(hf:∀a,Q a->InQ n R (f a)):∀t:KasT α,InQ n Q t->InQ n R (t.bind f)
 |.ret a,h=>hf a h
 |.ask _ _ k,h=>⟨h.1,h.2.1,λb=>CW hf (k b) (h.2.2 b)⟩
def En (n:Nat)(p:Array Nat):Prop:=0<n/\p.Perm (List.toArray (B8 n))
theorem En.g {n:Nat}{p:Array Nat}(h:En n p)(i:Nat):p.getD i 0<n:=by
 by_cases c:i<p.size
 ·rw[show p.getD i 0=p[i] by simp[Array.getD,c]]
  simpa using h.2.mem_iff.mp (Array.getElem_mem c)
 ·rw[show p.getD i 0=0 by simp[Array.getD,c]];exact h.1
theorem En.perm {n:Nat}{p q:Array Nat}(h:En n p)(hp:q.Perm p):En n q:=⟨h.1,hp.trans h.2⟩
theorem En.rev (h:En n p)(i j:Nat):En n (kas_rev p i j):=h.perm (PX _ _ _)
theorem Hw {n:Nat}{p:Array Nat}(h:En n p):∀f m,InQ n (λ_=>True) (kas_asc p f m)
 |0,_=>trivial
 | f + 1, m => ⟨h.g _, h.g _, fun b => by
  cases b with
  |true=>exact trivial
  |false=>exact Hw h f (m+1)⟩
theorem Fz {n:Nat}:∀f p m q,En n p->InQ n (λr=>En n r.1) (kas_desc f p m q)
 |0,_,_,_,h=>h
 | f + 1, p, m, q, h => ⟨h.g _, h.g _, fun b => by
  cases b with
  | true =>
   show InQ n _ (if q>0 then _ else _)
   by_cases c:q>0
   ·rw[jw c];exact Fz f _ _ _ (h.rev _ _)
   ·rw[jy c];exact Fz f _ _ _ h
  | false =>
   refine⟨h.g _,h.g _,λd=>?_⟩;cases d with
   |true=>exact h
   |false=>exact Fz f _ _ _ h⟩
theorem Lp (h:En n p):InQ n (λr=>En n r.2) (kas_tail3 m k p):=by
 unfold kas_tail3;refine CW (Q:=λ_=>True) (λa _=>?_) _ (Hw (h.rev _ _) _ _);exact(h.rev _ _:En n _)
theorem Lq (h:En n p):InQ n (λr=>En n r.2) (kas_descPart m k p):=CW (λr hr=>by
   by_cases c:r.2.2>0
   ·rw[jw c];exact Lp (hr.rev _ _)
   ·rw[jy c];exact Lp hr) _ (Fz _ _ _ _ h)
theorem PY (h:En n p):InQ n (λr=>En n r.2) (kas_count k p):=CW (λm _=>by
   by_cases c:(m == k)=true
   ·rw[jw c];exact h
   ·rw[jy c]
    by_cases c1:m>1
    ·rw[jw c1];refine⟨h.g _,h.g _,λb=>?_⟩;cases b with
     |true=>exact h
     |false=>exact Lq (h.rev _ _)
    ·rw[jy c1];exact Lq h) _ (Hw h _ _)
theorem Hx {n k:Nat}{p:Array Nat}(h:En n p):∀f l r,InQ n (λ_=>True) (kas_place p k f l r)
 |0,_,_=>trivial
 | f + 1, l, r => by
  unfold kas_place
  by_cases c:l>=r
  ·rw[jw c];exact trivial
  ·rw[jy c];refine⟨h.g _,h.g _,λb=>?_⟩;cases b with
   |true=>exact Hx h f _ _
   |false=>exact Hx h f _ _
theorem Lr {n:Nat}:∀f p k,En n p->InQ n (En n) (kas_bin f p k)
 |0,_,_,h=>h
 |f+1,p,k,h=>CW (λl _=>Lr f _ _ (h.perm (bubble_perm _ _ _))) _ (Hx h k 0 k)
theorem sort_in {n:Nat}(h1:1<=n):InQ n (En n) (Am n):=CW (λr hr=>by
   by_cases c:r.1<n
   ·rw[jw c];exact Lr _ _ _ hr
   ·rw[jy c];exact hr) _ (PY ⟨h1,Array.Perm.refl _⟩)
theorem Ls {α:Type}{lt:Nat->Nat->Bool}{n:Nat}{Q:α->Prop}:∀t:KasT α,InQ n Q t->Q (run lt t)
 |.ret a,h=>h
 |.ask i j k,h=>Ls (k (lt i j)) (h.2.2 _)
theorem sort_perm {lt:Nat->Nat->Bool}{n:Nat}(h1:1<=n):(run lt (Am n)).Perm (List.toArray (B8 n)):=(Ls _ (sort_in h1)).2
theorem wp_run {α:Type}{lt:Nat->Nat->Bool}{n:Nat}{P:α->Prop}{ask:Nat->Nat->(Bool->A4->Prop)->A4->Prop}{Q:α->A4->Prop}{s:A4}(h:∀i j C,i<n->j<n->C (lt i j) s->ask i j C s):∀t:KasT α,InQ n P t->Q (run lt t) s->t.kasWp ask Q s
 |.ret a,_,q=>q
 |.ask i j k,hi,q=>h i j _ hi.1 hi.2.1 (wp_run h (k (lt i j)) (hi.2.2 _) q)
end Kr
end L2
end
section
namespace L2
open PySem PySem.W PySem.Spec PyProof.Rows
def j6 (lt:Nat->Nat->Bool)(vs:List A2):List A2:=if vs.length<2 then vs else(Kr.run lt (Am vs.length)).toList.map λi=>vs.getD i Au
section
variable {prog:D4}{w:C0}{A:D9}{E:A2->A4->Prop}{s:A4}
def FA (h h1:B4)(a:A1):Prop:=∀b o,b≠a->h.get? b=some o->h1.get? b=some o
def PZ {a:A1}{vs:List A2}{n:Nat}{lt:Nat->Nat->Bool}{P:PySem.Fin->A4->Prop}(ho:s.heap.get? a=some (seqObj "list" vs.toArray n))(h64:vs.length<64)
   (hk:2<=vs.length->∀h1,FA s.heap h1 a->∃κ,(∀Q:SortKind->A4->Prop,Q κ { s with heap:=h1 }->A5 (A7 prog w) A (keyKind' vs.toArray) Q E { s with heap:=h1 })/\∀i j (C:Bool->A4->Prop),i<vs.length->j<vs.length->C (lt i j) { s with heap:=h1 }->kas_ask prog w A κ vs i j C { s with heap:=h1 })
   (h:∀h2 e,FA s.heap h2 a->h2.get? a=some (seqObj "list" (j6 lt vs).toArray e)->P (.done (.ret .none)) { s with heap:=h2 }):A5 (A7 prog w) A (Z8.«list.sort» ⟨[.ref a],[]⟩) P E s:=by
 have ha:a<s.heap.objs.size:=C7 ho;have hsz:vs.toArray.size=vs.length:=0o0
 rw[list_sort_plain];refine A3 (listItems_at ho rfl ?_);refine A3 (listUpdate_at ho rfl ?_ (by rw[hsz,Aj];ext) (C8 _));obtain⟨e1,ho1⟩:∃e1,(s.heap.update a (Y9 λ_=>(#[]:Array A2))).get? a=some (seqObj "list" #[] e1):=⟨_,get?_update_seq ho λ_=>#[]⟩;refine A3 (seqEpoch_at ho1 rfl ?_);refine A3 (wpAny_newTuple ?_ (by show vs.length<=_;rw[Aj];ext));refine A3 (wpAny_newList ?_ (C8 _));refine R3 ?_;show A5 (A7 prog w) A _ P E { s with heap:=((s.heap.update a (Y9 λ_=>(#[]:Array A2))).push (seqObj "tuple" vs.toArray 0)).push (seqObj "list" #[] 0) };have ho3:=C3 (seqObj "list" #[] 0) (C3 (seqObj "tuple" vs.toArray 0) ho1)
 have k3:FA s.heap (((s.heap.update a (Y9 λ_=>(#[]:Array A2))).push (seqObj "tuple" vs.toArray 0)).push (seqObj "list" #[] 0)) a:=λb o hb e=>
  C3 _ (C3 _ (((ET s.heap a (Y9 λ_=>(#[]:Array A2))).2 b hb).trans e))
 generalize ((s.heap.update a (Y9 λ_=>(#[]:Array A2))).push (seqObj "tuple" vs.toArray 0)).push (seqObj "list" #[] 0)=h3 at ho3 k3 ⊢;dsimp only
 have last:∀out:Array A2,out.size=vs.length->out=(j6 lt vs).toArray->∃e,(h3.update a (Y9 λ_=>out)).get? a=some (seqObj "list" (j6 lt vs).toArray e)/\FA s.heap (h3.update a (Y9 λ_=>out)) a:=λout _ eo=>
  ⟨_,by rw[<- eo];exact get?_update_seq ho3 λ_=>out,λb o hb e=>((ET h3 a (Y9 λ_=>out)).2 b hb).trans (k3 b o hb e)⟩
 by_cases h2:vs.toArray.size<2
 ·rw[jw h2,jw h2];refine A3 (A9 ?_);rw[StateT.run_pure];refine A3 (A9 ?_);dsimp only
  have eo:(arrOf (SortSt.mk' general' (vs.toArray.zip vs.toArray) #[] 7 none)).map (·.2)=(j6 lt vs).toArray:=by
   have e2:(arrOf (SortSt.mk' general' (vs.toArray.zip vs.toArray) #[] 7 none))=vs.toArray.zip vs.toArray:=rfl;rw[e2];unfold j6;rw[jw 0x0]
   apply Array.toList_inj.mp
   rw[Array.toList_map,Array.toList_zip];exact EE (B3 _)
  obtain⟨e,x1,x2⟩:=last _ (by rw[eo];unfold j6;rw[jw 0x0];simp) eo;refine A3 (seqEpoch_at ho3 rfl ?_);refine A3 (listUpdate_at ho3 rfl ?_ (C8 _) (by rw[eo];unfold j6;rw[jw 0x0,hsz,Aj];ext));simp only[bne_self_eq_false,F4,if_false];exact A9 (h _ e x2 x1)
 ·rw[jy h2,jy h2];have l2:2<=vs.length:=0x0
  obtain⟨κ,q1,q2⟩:=hk l2 h3 k3;refine A3 (q1 _ ?_);have wp:=Kr.wp_run (Q:=λp s'=>p=Kr.run lt (Am vs.length)/\s'={ s with heap:=h3 }) (P:=Kr.En vs.length) q2 (Am vs.length) (Kr.sort_in 0x0) ⟨rfl,rfl⟩;refine A3 (K8 (kat_run (E:=E) (Q:=λst' s'=>∃p:Array Nat,p.size=vs.length/\arrOf st'=p.map (kas_item (vs.toArray.zip vs.toArray))/\failedOf st'=none/\p=Kr.run lt (Am vs.length)/\s'={ s with heap:=h3 }) rfl l2 h64 (λp' st' s' a1 a2 a3 a4=>⟨p',a1,a2,a3,a4⟩) wp) ?_ λ_ _ e=>e);rintro⟨⟨⟩,st'⟩ s' ⟨p,hp,har,hf,ep,rfl⟩;dsimp only
  have eo:(arrOf st').map (·.2)=(j6 lt vs).toArray:=by
   rw[kat_snds rfl har,ep];unfold j6;rw[jy 0x0]
  have so:((arrOf st').map (·.2)).size=vs.length:=by rw[eo];unfold j6;rw[jy 0x0,G9,B0,BE,<- ep,hp]
  obtain⟨e,x1,x2⟩:=last _ so eo;refine A3 (seqEpoch_at ho3 rfl ?_);refine A3 (listUpdate_at ho3 rfl ?_ (C8 _) (by rw[so,Aj];ext));rw[hf];simp only[bne_self_eq_false,F4,if_false];exact A9 (h _ e x2 x1)
def P_ (h64:vs.length<64)
   (hcol:∀(R:List A2->A4->Prop),(∀h1 tk,(∀b o,s.heap.get? b=some o->h1.get? b=some o)->s.heap.objs.size<=h1.objs.size->R vs { s with heap:=h1,toks:=tk })->A5 (A7 prog w) A.in1 (collect v) R E s)
   (hk:2<=vs.length->∀(A:D9) (E:A2->A4->Prop) h1 tk,(∀b o,s.heap.get? b=some o->h1.get? b=some o)->∃κ,(∀Q:SortKind->A4->Prop,Q κ { s with heap:=h1,toks:=tk }->A5 (A7 prog w) A (keyKind' vs.toArray) Q E { s with heap:=h1,toks:=tk })/\∀i j (C:Bool->A4->Prop),i<vs.length->j<vs.length->C (lt i j) { s with heap:=h1,toks:=tk }->kas_ask prog w A κ vs i j C { s with heap:=h1,toks:=tk })
   (h:∀h2 tk D e,(∀b o,s.heap.get? b=some o->h2.get? b=some o)->s.heap.objs.size<=D->h2.get? D=some (seqObj "list" (j6 lt vs).toArray e)->Q (.ref D) { s with heap:=h2,toks:=tk }) :
   A5 (A7 prog w) A (call (.builtin "sorted") [v]) Q E s:=by
 refine Calls.call_function_entry kind_sorted plain_sorted entry_sorted (args_sorted1 _) ?_;unfold Z8.«sorted»;refine A3 (m:=checkCount "sorted" 1 1 _) (A9 ?_);refine A3 (hcol _ λh1 tk k1 z1=>?_);refine A3 (wpAny_newList ?_ (by rw[Aj];ext));have hoL:(h1.push (seqObj "list" vs.toArray 0)).get? h1.objs.size=some (seqObj "list" vs.toArray 0):=K4 _ rfl;have kL:∀b o,s.heap.get? b=some o->(h1.push (seqObj "list" vs.toArray 0)).get? b=some o:=λb o e=>C3 _ (k1 b o e);have ne:∀b o,s.heap.get? b=some o->b≠h1.objs.size:=λb o e=>F3 (M1 (C7 e) z1);refine A3 (R3 (j9 slot_list_sort ⟨_,hoL,rfl⟩ entry_list_sort ?body (args_list_sort _)))
 case body=>
  refine PZ (lt:=lt) (s:={ s with heap:=h1.push (seqObj "list" vs.toArray 0),toks:=tk }) hoL h64 (λl2 h3 k3=>?_) λh3 e k3 e3=>?_
  ·exact hk l2 _ _ h3 tk λb o x=>k3 b o (ne b o x) (kL b o x)
  ·exact⟨_,rfl,A9 ⟨_,rfl,h h3 tk _ e (λb o x=>k3 b o (ne b o x) (kL b o x)) z1 e3⟩⟩
end
def Hy:Key->Key->Bool
 |.inl a,.inl b=>decide (a<b)
 |.inr a,.inr b=>decide (a.cps.toList<b.cps.toList)
 |.inl _,.inr _=>true
 |.inr _,.inl _=>false
def Al:List Key->List Key->Prop
 |.inl _::xs,.inl _::ys=>Al xs ys
 |.inr _::xs,.inr _::ys=>Al xs ys
 |_::_,_::_=>False
 |_,_=>True
def KeyV:Key->A2->Prop
 |.inl i,v=>∃t,v=.int i t
 |.inr z,v=>∃t,v=.str z t
section
variable {prog:D4}{w:C0}{A:D9}{E:A2->A4->Prop}{s:A4}
def lt_key (hx:KeyV x u)(hy:KeyV y v)(al:Al (x::xs) (y::ys))(h:Q (.bool (Hy x y)) s):A5 (A7 prog w) A (L0 .Lt u v) Q E s:=by
 cases x with
 | inl a =>
  cases y with
  | inl b =>
   obtain⟨t,rfl⟩:=hx;obtain⟨t',rfl⟩:=hy;exact PyProof.Rows.lt_int h
  |inr b=>exact al.elim
 | inr a =>
  cases y with
  |inl b=>exact al.elim
  | inr b =>
   obtain⟨t,rfl⟩:=hx;obtain⟨t',rfl⟩:=hy;exact PyProof.Rows.lt_str h
def Qa (hx:KeyV x u)(hy:KeyV y v)(al:Al (x::xs) (y::ys))(h:Q (Hy x y) s):A5 (A7 prog w) A (oneLt' b u v) Q E s:=by
 cases b with
 |false=>exact kat_one u v (lt_key hx hy al h)
 | true =>
  cases x with
  | inl a =>
   cases y with
   | inl b =>
    obtain⟨t,rfl⟩:=hx;obtain⟨t',rfl⟩:=hy;exact oneLt_int h
   |inr b=>exact al.elim
  | inr a =>
   cases y with
   |inl b=>exact al.elim
   | inr b =>
    obtain⟨t,rfl⟩:=hx;obtain⟨t',rfl⟩:=hy;exact oneLt_str h
end
section
variable {X:Cx}
def Qb {α β:Type}{F:α->β->Prop}{xs:List α}{ys:List β}(h:Paired F xs ys)(d:α)(e:β):∀i,i<xs.length->F (xs.getD i d) (ys.getD i e):=by
 induction h with
 |nil=>intro i hi;exact absurd hi (Nat.not_lt_zero _)
 | cons h1 _ ih =>
  intro i hi;cases i with
  |zero=>exact h1
  |succ i=>exact ih i (Nat.lt_of_succ_lt_succ hi)
end
end L2
end
section
namespace Pu
open PySem PySem.Spec L2
def kP:Key->PV
 |.inl i=>.int i
 |.inr z=>.str z
def F8:List PV->Option (List Key)
 |[]=>some []
 |.int i::r=>(F8 r).map (.inl i::·)
 |.str z::r=>(F8 r).map (.inr z::·)
 |_=>none
theorem Hz:∀ks:List Key,F8 (ks.map kP)=some ks
 |[]=>rfl
 |.inl i::r=>by show(F8 (r.map kP)).map _=_;rw[Hz r];rfl
 |.inr i::r=>by show(F8 (r.map kP)).map _=_;rw[Hz r];rfl
theorem DX:∀(ks:List Key) {us:List V},Reps K G H (ks.map kP) us->us=ks.map kV
 |[],_,h=>h
 | .inl i :: r, _, h => by
  obtain⟨v,t,rfl,h1,h2⟩:=h;rw[DX r h2,show v=.int i from h1];rfl
 | .inr i :: r, _, h => by
  obtain⟨v,t,rfl,h1,h2⟩:=h;rw[DX r h2,show v=.str i from h1];rfl
theorem DY:∀{xs:List PV} {ks:List Key},F8 xs=some ks->xs=ks.map kP
 |[],ks,h=>by cases h;rfl
 | .int i :: r, ks, h => by
  cases e:F8 r with
  |none=>simp[F8,e] at h
  |some t=>simp[F8,e] at h;subst h;rw[DY e];rfl
 | .str i :: r, ks, h => by
  cases e:F8 r with
  |none=>simp[F8,e] at h
  |some t=>simp[F8,e] at h;subst h;rw[DY e];rfl
 |.non::_,_,h=>by cases h
 |.bl _::_,_,h=>by cases h
 |.ty _::_,_,h=>by cases h
 |.pot _::_,_,h=>by cases h
 |.tup _::_,_,h=>by cases h
 |.lst _::_,_,h=>by cases h
 |.scr _::_,_,h=>by cases h
 |.fdt _ _::_,_,h=>by cases h
 |.dct _ _::_,_,h=>by cases h
def U2 {κ:Type}[DecidableEq κ](ks:List κ)(k:κ):List κ:=if k∈ks then ks else ks++[k]
def P4 {κ α:Type}[DecidableEq κ](ks:List κ)(xs:List α)(k:κ)(x:α):List α:=if k∈ks then(ks.zip xs).map (λp=>if p.1=k then x else p.2) else xs++[x]
def HA {κ:Type}[DecidableEq κ]{ks:List κ}{vs:List V}(h:ks.length=vs.length)(k:κ)(v:V):putK (ks.zip vs) k v=(U2 ks k).zip (P4 ks vs k v):=by
 have any:((ks.zip vs).any λkv=>decide (kv.1=k))=decide (k∈ks):=by
  clear v
  induction ks generalizing vs with
  |nil=>simp
  | cons a ks ih =>
   cases vs with
   |nil=>cases h
   | cons b vs =>
    rw[Ap,List.any_cons,ih (by simpa using h)]
    by_cases c:a=k
    ·subst c;simp
    ·by_cases d:k∈ks
     ·simp[d]
     ·have:¬k=a:=λe=>c e.symm;simp[c,d,this]
 unfold putK U2 P4;rw[any]
 by_cases c:k∈ks
 ·rw[jw (ju c),jw c,jw c];clear any c
  induction ks generalizing vs with
  |nil=>simp
  | cons a ks ih =>
   cases vs with
   |nil=>cases h
   | cons b vs =>
    simp only[Ap,G7];rw[ih (by simpa using h)]
    split <;> rfl
 ·rw[jy (by simpa using c),jy c,jy c,List.zip_append h];rfl
def Qc {κ α:Type}[DecidableEq κ]{ks:List κ}{xs:List α}(h:ks.length=xs.length)(k:κ)(x:α):(U2 ks k).length=(P4 ks xs k x).length:=by
 unfold U2 P4
 by_cases c:k∈ks
 ·rw[jw c,jw c,B0,EG];ext
 ·rw[jy c,jy c,D3,D3,h];rfl
def HB {κ:Type}[DecidableEq κ]{K:A6}{G:Gh}{H:Hp}{ks:List κ}{xs:List PV}{vs:List V}(r:Reps K G H xs vs)(h:ks.length=xs.length)(k:κ){x:PV}{v:V}(rx:Rep K G H x v):Reps K G H (P4 ks xs k x) (P4 ks vs k v):=by
 unfold P4
 by_cases c:k∈ks
 ·rw[jw c,jw c];clear c
  induction ks generalizing xs vs with
  |nil=>exact rfl
  | cons a ks ih =>
   cases xs with
   |nil=>cases h
   | cons y ys =>
    obtain⟨u,t,rfl,h1,h2⟩:=r;refine⟨_,_,rfl,?_,ih h2 (by simpa using h)⟩;show Rep K G H (if a=k then x else y) (if a=k then v else u)
    by_cases d:a=k
    ·rw[jw d,jw d];exact rx
    ·rw[jy d,jy d];exact h1
 ·rw[jy c,jy c];exact r.append ⟨v,[],rfl,rx,rfl⟩
section
variable {T:PotK}{np:Bool}{ι:Type}{K:A6}{F:ι->Cx}{e:Expr}{st:Stmt}{pe pk pv:pE}{pos:Pos}
def Q7 (i:Nat)(pk pv:pE):pS:=λD env n=>pv env n λx je n1=>(∃ks xs,je[i]?=some (some (.ow (.dt ks) xs)))/\pk je n1 λy jf n2=>match jf[i]?,y with
 |some (some (.ow (.dt ks) xs)),.tup ys=>(match F8 ys with|some k=>ks.length=xs.length/\xs.length<1000000/\D.nx (jf.set i (some (.ow (.dt (U2 ks k)) (P4 ks xs k x)))) n2|none=>False)
 |_,_=>False
def Qd {X:Cx}{i:Nat}{o ix v:Expr}{pos' pos:Pos}(hu:X.A.units+1<cLine)(ho:EW X o (tVar i))(hs:v5 v (some (.Subscript o ix pos')) pos.line X.env=pure false:=by rfl)(tv ti:TE)(hv:EW X v tv)(hi:EW X ix ti):SW X (.Assign [.Subscript o ix pos'] v pos) (Fy (tVar i) ti tv):=⟨PM hu ho.h hi.h hv.h hs⟩
def Qe (i:Nat){v ix:Expr}(h:∀z tv ti,EW (F z) v tv->EW (F z) ix ti->SW (F z) st (Fy (tVar i) ti tv))(hv:QE T K F v pv)(hi:QE T K F ix pk):QS T np K F st (Q7 i pk pv):=by
 obtain⟨tv,v1,v2⟩:=hv;obtain⟨ti,i1,i2⟩:=hi;refine⟨_,λz=>(h z _ _ ⟨v1 z⟩ ⟨i1 z⟩).h,⇑_⟩;refine ↥v2 λx je n1 v H1 q1 S1 r1 f1=>?_;obtain⟨⟨ks0,xs0,e0⟩,q1⟩:=q1;obtain⟨a,vs,ev,h1,h2,h3,h4,r⟩:=S1.slots i _ e0;refine⟨.ref a,ev,?_⟩;refine i2 C G σ H1 je n1 _ _ hK hT S1 q1 λy jf n2 w H2 q2 S2 r2 f2=>?_
 split at q2
 ·rename_i ks xs ys ex
  split at q2
  ·rename_i k ek;obtain⟨hl,hz,q3⟩:=q2;obtain⟨a',us,ev',g1,g2,g3,g4,r'⟩:=S2.slots i _ ex;rw[ev] at ev';cases ev';subst hK;have hlv:ks.length=us.length:=by rw[hl];exact r'.length
   obtain⟨b,ws,rfl,atb,rb⟩:=r2;rw[DY ek] at rb;have eb:H2 b=some (.tup (k.map kV)):=by rw[<- DX k rb];exact atb.2
   have rx:=r1.fr f2;obtain⟨S3,f3⟩:=S2.putO (.dt (U2 ks k)) ex ev (HB r' hl k rx)
   have eH:upd H2 a (mkO (.dt (U2 ks k)) (P4 ks us k v))=upd H2 a (.dT (putK (ks.zip us) k v)):=by
    show upd H2 a (.dT ((U2 ks k).zip (P4 ks us k v)))=_;rw[HA hlv]
   have zl:(ks.zip us).length<B5:=by rw[EG];unfold B5;ext
   rw[eH] at S3 f3;exact⟨a,_,rfl,DPut.t g4 eb zl,L.nx _ _ _ _ _ q3 S3 (Ext.fr ((f1.trans f2).trans f3))⟩
  ·exact q2.elim
 ·exact q2.elim
end
section
variable {T:PotK}{np:Bool}{ι:Type}{K:A6}{F:ι->Cx}{e:Expr}{st:Stmt}{pe pk pv:pE}{pos:Pos}
def keyV:PV->Option Key
 |.int i=>some (.inl i)
 |.str z=>some (.inr z)
 |_=>none
def FB {G:Gh}{H:Hp}{x:PV}{v:V}{k:Key}(r:Rep K G H x v)(h:keyV x=some k):v=kV k:=by
 cases x <;> simp[keyV] at h <;> subst h <;> exact r
def O3 (i:Nat)(pk pv:pE):pS:=λD env n=>pv env n λx je n1=>(∃ks xs,je[i]?=some (some (.ow (.dk ks) xs)))/\pk je n1 λy jf n2=>match jf[i]?,keyV y with
 |some (some (.ow (.dk ks) xs)),some k=>ks.length=xs.length/\xs.length<1000000/\D.nx (jf.set i (some (.ow (.dk (U2 ks k)) (P4 ks xs k x)))) n2
 |_,_=>False
def Qg (i:Nat){v ix:Expr}(h:∀z tv ti,EW (F z) v tv->EW (F z) ix ti->SW (F z) st (Fy (tVar i) ti tv))(hv:QE T K F v pv)(hi:QE T K F ix pk):QS T np K F st (O3 i pk pv):=by
 obtain⟨tv,v1,v2⟩:=hv;obtain⟨ti,i1,i2⟩:=hi;refine⟨_,λz=>(h z _ _ ⟨v1 z⟩ ⟨i1 z⟩).h,⇑_⟩;refine ↥v2 λx je n1 v H1 q1 S1 r1 f1=>?_;obtain⟨⟨ks0,xs0,e0⟩,q1⟩:=q1;obtain⟨a,vs,ev,h1,h2,h3,h4,r⟩:=S1.slots i _ e0;refine⟨.ref a,ev,?_⟩;refine i2 C G σ H1 je n1 _ _ hK hT S1 q1 λy jf n2 w H2 q2 S2 r2 f2=>?_
 split at q2
 ·rename_i ks xs k ex ek;obtain⟨hl,hz,q3⟩:=q2;obtain⟨a',us,ev',g1,g2,g3,g4,r'⟩:=S2.slots i _ ex;rw[ev] at ev';cases ev';subst hK;have hlv:ks.length=us.length:=by rw[hl];exact r'.length
  have ew:=FB r2 ek;subst ew;have rx:=r1.fr f2;obtain⟨S3,f3⟩:=S2.putO (.dk (U2 ks k)) ex ev (HB r' hl k rx)
  have eH:upd H2 a (mkO (.dk (U2 ks k)) (P4 ks us k v))=upd H2 a (.dK (putK (ks.zip us) k v)):=by
   show upd H2 a (.dK ((U2 ks k).zip (P4 ks us k v)))=_;rw[HA hlv]
  have zl:(ks.zip us).length<B5:=by rw[EG];unfold B5;ext
  rw[eH] at S3 f3;exact⟨a,_,rfl,DPut.k g4 zl,L.nx _ _ _ _ _ q3 S3 (Ext.fr ((f1.trans f2).trans f3))⟩
 ·exact q2.elim
end
end Pu
end
section
namespace L2
open PySem PySem.Spec PyProof.Rows
section
variable {prog:D4}{w:C0}{A:D9}{E:A2->A4->Prop}{s:A4}
def Qh {j:Nat}(ht:s.heap.IsTuple t jh)(hS:StrsAre jh.toList ys)(hj:ys[j]?=some k)(hlt:∀i,i<j->ys[i]?≠some k)(hsm:ys.length<=1000000)
   (h:∀tk,Q (.int j tk) { s with toks:=s.toks+1 }):A5 (A7 prog w) A (call (.builtin "tuple.index") [.ref t,.str k tok]) Q E s:=by
 obtain⟨o,ho,hc,n,hd⟩:=id ht;have hT:s.TypeIs (.ref t) "tuple":=⟨o,ho,hc⟩;refine j9 F.slot_tuple_index hT F.entry_tuple_index ?_ (F.args_tuple_index_2 _ _);unfold Z8.«tuple.index»;refine A3 (Cc (a:=(L5 t,[Cs k tok])) rfl ?_);refine A3 (wpAny_tupleItemsOf ho hd ?_);dsimp only;refine A3 (A9 (A3 (A9 ?_)));refine A3 ?_;have hlen:ys.length=jh.toList.length:=(StrsAre.length hS).symm
 have at_:∀(i:Nat) (y:Str),ys[i]?=some y->∃u,jh[i]?=some (.str y u):=by
  intro i y hy
  have:∀{us:List A2} {zs:List Str},StrsAre us zs->∀(i:Nat),zs[i]?=some y->∃u,us[i]?=some (.str y u):=by
   intro us zs hh
   induction hh with
   |nil=>intro i h;cases h
   | cons x t _ ih =>
    intro i h;cases i with
    |zero=>cases h;exact⟨t,rfl⟩
    |succ i=>exact ih i (by simpa using h)
  obtain⟨u,hu⟩:=this hS i hy;exact⟨u,by rw[<- Go];exact hu⟩
 have hjl:j<jh.size:=by
  have:=(E5.mp hj).1;rw[hlen,BE] at this;exact this
 rw[Std.Legacy.Range.forIn_eq_forIn_range'];refine wpAny_forIn_list _ (λrest r s'=>r.1=none/\s'=s/\∃i,rest=List.range' i (jh.size-i)/\i<=j) _ ?_ ?_ _ _ ⟨rfl,rfl,0,?_,C8 _⟩
 ·rintro x rest ⟨r1,r2⟩ s' ⟨hr,rfl,i0,hi,hij⟩;have hil:jh.size-i0=(jh.size-i0-1)+1:=0x0
  rw[hil,List.range'_succ] at hi;obtain⟨i,hxi⟩:∃i,x=i:=⟨x,rfl⟩;injection hi with h1 h2;subst h2;have hi0:i0=i:=by rw[<- hxi,h1]
  subst hi0;subst hxi;clear h1
  revert hij hil
  generalize x=i;intro hij hil;have hiy:i<ys.length:=by rw[hlen,BE];ext
  obtain⟨u,hu⟩:=at_ i ys[i] (D1 hiy);rw[hu];dsimp only;refine A3 (eqBool_str ?_)
  by_cases c:i=j
  ·subst c
   have:ys[i]=k:=by
    have:=D1 hiy;rw[hj] at this;exact(E7 this).symm
   rw[this,beq_self_eq_true,jw rfl];refine A3 (A3 (wpAny_mkInt (A9 (A9 ?_))));exact A9 ⟨_,rfl,h _⟩
  ·have:ys[i]≠k:=λe=>hlt i 0x0 (by rw[D1 hiy,e]);rw[beq_eq_false_iff_ne.mpr this,jy d5];refine A9 ⟨rfl,rfl,i+1,?_,0x0⟩;rw[show jh.size-(i+1)=jh.size-i-1 by omega]
 ·rintro⟨r1,r2⟩ s' ⟨hr,rfl,i,hi,hij⟩;have hil:jh.size-i=(jh.size-i-1)+1:=0x0
  rw[hil,List.range'_succ] at hi;cases hi
 ·simp[Std.Legacy.Range.size]
end
section
variable {X:Cx}
def Lu (K:A6):V->List V->Hp->VK->Prop:=λx vs H Q=>∃(l:A1) (k:Str) (ys:List Str) (j:Nat),x=.ref l/\vs=[.str k]/\SqT K H l (ys.map V.str)/\ys.length<=1000000/\ys[j]?=some k/\(∀i,i<j->ys[i]?≠some k)/\Q (.int j) H
def Qi:MtM X "tuple.index" (Lu X.K):=by
 intro jd s σ H x vs v us Q I rx rv h;obtain⟨l,k,ys,j,rfl,rfl,hq,hz0,hj,hlt,q⟩:=h;cases rx;obtain⟨u,rfl,ru⟩:=rv.one;obtain⟨t,rfl⟩:=ru;obtain⟨jh,r,p,hz⟩:=I.tuple hq;exact Qh p (K_ r) hj hlt hz0 λtk=>⟨.int j,H,I.tok _,⟨_,rfl⟩,q⟩
end
end L2
end
section
namespace Pu
open PySem PySem.Spec PyProof.Rows L2
section
variable {T:PotK}{ι:Type}{K:A6}{F:ι->Cx}{e c:Expr}{pe pc:pE}{pos:Pos}
def o3:w2:=λx y R=>match x,y with|.tup xs,.str k=>(match y8 xs with|some ys=>ys.length<=1000000/\∃j:Nat,ys[j]?=some k/\(∀i,i<j->ys[i]?≠some k)/\R (.int j)|none=>False)|_,_=>False
def J3 (pe pc:pE):pE:=λenv n R=>pe env n λx je n1=>(∃xs,x=.tup xs)/\pc je n1 λy jf n2=>o3 x y λz=>R z jf n2
def Lw (he:QE T K F e pe)(hc:QE T K F c pc)(hs:E9 c=true:=by rfl)(hbase:∀z,Ai e "index" (F z).env (eval e (F z).env)=eval e (F z).env:=by intro _;rfl)(hline:(ap.endLine == pos.line)=true:=by rfl)
   (hfew:∀z,((backTo pos (F5 [c] (F z).env)).all (λx=>!x.1)&&(backToKw pos (AQ [] (F z).env)).all (λx=>x.1.isSome)&&decide (([c]:List Expr).length+([]:List Y8).length+(if([]:List Y8).isEmpty then 0 else 1)<30))=true:=by intro _;rfl) (hK:∀z,(F z).K=K:=by intro _;rfl):QE T K F (.Call (.Attribute e "index" ap) [c] [] pos) (J3 pe pc):=by
 obtain⟨t,a1,a2⟩:=he;obtain⟨u,b1,b2⟩:=hc;refine⟨tBM K "tuple" (Lu K) t (d7 u tNil),λz=>hK z▸CF PySem.F.plainAttrs_tuple PySem.F.slot_tuple_index PySem.F.type_tuple_index Qi (a1 z) (E8 (b1 z) K5 (C9 hs)) (hbase z) (hfew z) hline (C9 hs),⇑?_⟩;refine ↥a2 λx je n1 v H1 q1 S1 r1 f1=>?_;obtain⟨⟨xs,rfl⟩,q1⟩:=q1;obtain⟨a,vs,rfl,ta,ra⟩:=r1;refine⟨?_,?_⟩
 ·exact .inr (.inl ⟨rfl,.inr ⟨vs,ta.2⟩⟩)
 refine b2 C G σ H1 je n1 _ _ hK hT S1 q1 λy jf n2 w H2 q2 S2 r2 f2=>?_;unfold o3 at q2
 split at q2
 ·rename_i xs' kk e1;cases e1
  split at q2
  ·rename_i ys ey;obtain⟨hz,j,hj,hlt,q3⟩:=q2;obtain⟨a',vs',e3,ta',ra'⟩:=(show Rep K G H1 (.tup xs) (.ref a) from⟨a,vs,rfl,ta,ra⟩).fr f2;cases e3;exact⟨a,kk,ys,j,rfl,by rw[show w=.str kk from r2],KR ey ra'▸SqT.of ta'.2,hz,hj,hlt,k _ _ _ _ _ q3 S2 rfl (f1.trans f2)⟩
  ·exact q2.elim
 ·exact q2.elim
end
end Pu
end
section
namespace Pu
open PySem PySem.Spec L2
def frzS:Slot->Option Slot
 |.v x=>some (.v x)
 |.ow .lst xs=>some (.v (.lst xs))
 |.ow (.dk ks) xs=>if ks.length=xs.length then some (.v (.dct ks xs)) else none
 |.ow (.dt _) _=>none
 |.ow (.st _) _=>none
def frz (env:Env):Env:=env.map λo=>o.bind frzS
section
variable {T:PotK}{np:Bool}{ι:Type}{K:A6}{F:ι->Cx}{e:Expr}{pk:pE}{pos tpos:Pos}
def memK (ks:List Key)(k:Key):Bool:=ks.any λz=>decide (z=k)
def Qj {ks:List Key}{k:Key}:memK ks k=true↔k∈ks:=by
 unfold memK;rw[p9];constructor
 ·rintro⟨x,h1,h2⟩;have:x=k:=by simpa using h2
  exact this▸h1
 ·intro h;exact⟨k,h,0o0⟩
def Qk {ji:List (Key×V)}{k:Key}:(valV ji k).isSome=memK (ji.map (·.1)) k:=by
 rw[<- Fu];unfold memK;rw[Dw];rfl
end
abbrev pSlN:=Env->Nat->(List Slot->Env->Nat->Prop)->Prop
def U3:pSlN:=λenv n R=>R [] env n
def Q8 (s:pSl)(r:pSlN):pSlN:=λenv n R=>s env n λa je n1=>r je n1 λss jf n2=>R (a::ss) jf n2
def setAll:List Nat->List Slot->Env->Env
 |i::is,s::ss,env=>setAll is ss (env.set i (some s))
 |_,_,env=>env
def Lx:List Nat->List V->St->St
 |i::is,v::vs,σ=>Lx is vs (σ.set i (some v))
 |_,_,σ=>σ
def Gots (C:Ct)(G:Gh)(H:Hp)(σ:St)(env:Env):List Slot->List V->Prop
 |[],vs=>vs=[]
 |s::ss,vs=>∃v r,vs=v::r/\Got C G H σ env s v/\(∀(xs:OK×List PV) a,s=.ow xs.1 xs.2->v=.ref a->∀(ys:OK×List PV) w,(Slot.ow ys.1 ys.2,w)∈ss.zip r->w≠.ref a)/\Gots C G H σ env ss r
def LsOk (K:A6)(T:PotK)(t:TA)(sl:pSlN):Prop:=∀(C:Ct) (G:Gh) (σ:St) (H:Hp) (env:Env) (n:Nat) (R:List Slot->Env->Nat->Prop) (Q:List V->Hp->Prop),C.K=K->C.T=T->SR C G σ H env n->sl env n R->
 (∀ss jk n' vs G' H',R ss jk n'->SR C G' σ H' jk n'->Ext G H G' H'->Gots C G' H' σ jk ss vs->Q vs H')->t σ H Q
inductive QLs {ι:Type}(T:PotK)(K:A6)(F:ι->Cx)(es:List Expr)(sl:pSlN):Prop
 |mk t (a:(∀z,PA (F z) es t)) (b:LsOk K T t sl):QLs T K F es sl
section
variable {T:PotK}{np:Bool}{ι:Type}{K:A6}{F:ι->Cx}{e:Expr}{es:List Expr}{st:Stmt}{s1:pSl}{sl:pSlN}{pos:Pos}
def Ql:QLs T K F [] U3:=⟨tNil,λz=>K5,λC G σ H env n R Q hK hT S hp k=>k _ _ _ _ _ _ hp S Ext.refl rfl⟩
theorem Gots.unguard:∀{ss:List Slot} {vs:List V},Gots (C.guard a us) G H σ env ss vs->Gots C G H σ env ss vs/\∀(ys:OK×List PV) w,(Slot.ow ys.1 ys.2,w)∈ss.zip vs->w≠.ref a
 |[],_,h=>⟨h,λ_ _ z=>by simp at z⟩
 | s :: ss, vs, h => by
  obtain⟨v,r,rfl,g,ne,h⟩:=h;obtain⟨h1,h2⟩:=Gots.unguard h
  have gy:Got C G H σ env s v:=by
   refine⟨?_,g.2⟩;cases s with
   |v x=>exact g.1
   | ow kk ys =>
    obtain⟨b,us,ev,g1,g2,g3,g4,r⟩:=g.1;exact⟨b,us,ev,g1,λz=>g2 (C1 _ z),g3,g4,r⟩
  refine⟨⟨v,r,rfl,gy,ne,h1⟩,λys w hw ew=>?_⟩;rw[Ap] at hw;rcases B9.mp hw with e|hw
  ·cases e;obtain⟨b,us,ev,g1,g2,_⟩:=g.1;rw[ew] at ev;cases ev;exact g2 D2
  ·grind
def Qm (h:QL T K F e s1)(hr:QLs T K F es sl)(n1:E9 e=true):QLs T K F (e::es) (Q8 s1 sl):=by
 obtain⟨t,a1,a2⟩:=h;obtain⟨u,b1,b2⟩:=hr;refine⟨d7 t u,λz=>E8 (a1 z) (b1 z) (C9 n1),⇑?_⟩;refine ↥a2 (λx je n1 v H1 q1 S1 r1 f1=>?_) λxs je n1 a vs Hb q1 S1 f1 hn rs=>?_
 ·refine b2 C G σ H1 je n1 _ _ hK hT S1 q1 λss jf n2 ws G2 H2 q2 S2 x2 g2=>?_;exact k _ _ _ _ _ _ q2 S2 ((Ext.fr f1).trans x2) ⟨v,ws,rfl,⟨⟨v,rfl,Rep.mono x2.keep x2.new x2.pot _ _ (hK▸r1)⟩,λ_ _ z=>nomatch z⟩,(λ_ _ z=>nomatch z),g2⟩
 ·have aM:=S1.fresh hn;have Hh:=S1.guard vs hn;have a0:a∉C.M0:=λz=>aM (S1.sup a z);have aH:=S1.old hn;have x1:Ext G H ⟨a::G.M,G.pots⟩ (upd Hb a (.lst vs)):=(Ext.fr f1).trans (Bn hn);have r1:Reps C.K ⟨a::G.M,G.pots⟩ (upd Hb a (.lst vs)) xs vs:=Reps.mono (G':=⟨a::G.M,G.pots⟩) (H':=upd Hb a (.lst vs)) (λb o _ e=>Same.lay1 hn b o e) (λc hc=>(B9.mp (show c∈a::G.M from hc)).elim (λz=>.inr (z▸hn)) .inl) (λ_ _ e=>e) _ _ (hK▸rs);refine b2 (C.guard a vs) ⟨a::G.M,G.pots⟩ σ (upd Hb a (.lst vs)) je n1 _ _ hK hT Hh q1 λss jf n2 ws G2 H2 q2 S2 x2 g2=>?_;obtain⟨S3,e3,no⟩:=S2.unguard a0 S1.p0.1 aH;have aM2:a∈G2.M:=S2.sup a D2
  have ap2:a∉G2.pots:=λz=>by
   by_cases hz:a∈C.pots0
   ·exact a0 (S1.p0.1 a hz)
   ·exact S2.newp a z hz D2
  obtain⟨g3,g4⟩:=Gots.unguard g2;refine k _ _ _ _ _ _ q2 S3 (x1.trans x2) ⟨.ref a,ws,rfl,⟨⟨a,vs,rfl,aM2,a0,ap2,e3,Reps.mono x2.keep x2.new x2.pot _ _ r1⟩,λ_ _ _ e=>by cases e;exact no⟩,λxs' b ex ev ys w hw=>?_,g3⟩;cases ev;exact g4 ys w hw
theorem Gots.len:∀{ss:List Slot} {vs:List V},Gots C G H σ env ss vs->ss.length=vs.length
 |[],_,h=>by cases(show _=[] from h);rfl
 | s :: ss, vs, h => by
  obtain⟨v,r,rfl,g,ne,h⟩:=h;have:=Gots.len h;simp[this]
theorem Gots.set (hl:env.length=σ.length):∀{ss:List Slot} {vs:List V},Gots C G H σ env ss vs->(∀(xs:OK×List PV) a,s0=.ow xs.1 xs.2->v0=.ref a->∀(ys:OK×List PV) w,(Slot.ow ys.1 ys.2,w)∈ss.zip vs->w≠.ref a)->Gots C G H (σ.set i (some v0)) (env.set i (some s0)) ss vs
 |[],_,h,_=>h
 | s :: ss, vs, h, no => by
  obtain⟨v,r,rfl,g,ne,h⟩:=h;refine⟨v,r,rfl,⟨g.1,λxs a e1 e2 z=>?_⟩,ne,Gots.set hl h λxs a e1 e2 ys w hw=>no xs a e1 e2 ys w (by rw[Ap];exact C1 _ hw)⟩;rcases KN hl z with z|⟨⟨zs,ez⟩,ev⟩
  ·exact g.2 xs a e1 e2 z
  ·exact no zs a ez ev xs v (by rw[Ap,e1];exact D2) e2
theorem SR.setAll:∀(is:List Nat) (ss:List Slot) (vs:List V) {σ:St} {env:Env},SR C G σ H env n->Gots C G H σ env ss vs->SR C G (Lx is vs σ) H (Pu.setAll is ss env) n
 |[],_,_,_,_,S,_=>S
 |i::is,[],vs,_,_,S,g=>by cases(show vs=[] from g);exact S
 | i :: is, s :: ss, vs, σ, env, S, g => by
  obtain⟨v,r,rfl,g1,ne,g2⟩:=g;exact SR.setAll is ss r (S.slot i g1.1 g1.2) (g2.set S.len ne)
def U4 (is:List Nat)(sl:pSlN):pS:=λD env n=>sl env n λss je n1=>ss.length=is.length/\D.nx (setAll is ss je) n1
end
end Pu
end
section
namespace L2
open PySem PySem.Spec PyProof.Rows
section
variable {X:Cx}
def Qn:List V->Hp->VK->Prop:=λvs H Q=>vs=[]/\∀p,H p=none->Q (.ref p) (upd H p (.set (λ_=>false) 0))
def Qo:M6 X (.type "set") Qn:=by
 intro jd s σ H vs us Q I rv h;obtain⟨rfl,q⟩:=h;cases rv;refine call_set_0 λled=>⟨.ref s.heap.objs.size,_,I.laid (a:=s.heap.objs.size) (o:=.set (λ_=>false) 0) (t':=s.toks) (λ_ _ q=>C3 _ q) (B3 _) ?_,rfl,q _ (I.hok.fresh (B3 _))⟩;exact⟨_,#[],0,_,K4 _ rfl,⟨rfl,rfl,rfl⟩,rfl,λe he=>by simp at he,λk=>0o0,0b0,by rfl,rfl⟩
def Ly {k:Key}{u:A2}(r:RelV (kV k) u):u.scannable=true:=by
 cases k with
 |inl i=>obtain⟨t,rfl⟩:=r;rfl
 |inr z=>obtain⟨t,rfl⟩:=r;rfl
def rInS (neg:Bool):R2:=λy x H Q=>∃a S n k,x=.ref a/\H a=some (.set S n)/\y=kV k/\Q (.bl (if neg=true then !S k else S k)) H
def Qp:OpR X (L0 .NotIn) (rInS true):=by
 intro jd s σ H x y v u Q I rx ry h;obtain⟨a,S,n,k,rfl,hH,rfl,q⟩:=h;cases ry;have hS:s.heap.SetOf (P3 X.prog X.w) a S n:=I.hok a _ hH;exact wpAny_notInSet_of (CU rx) (Ly rx) hS ⟨.bl (!S k),H,I.kept (h':=s.heap) (t':=s.toks+1) λb o e=>e,rfl,q⟩
def rAddS:V->List V->Hp->VK->Prop:=λx vs H Q=>∃a S n k,x=.ref a/\vs=[kV k]/\H a=some (.set S n)/\n<1000/\Q .non (upd H a (.set (λk'=>S k'||decide (k'=k)) (if S k then n else n+1)))
def Qq:MtM X "set.add" rAddS:=by
 intro jd s σ H x vs v us Q I rx rv h;obtain⟨a,S,n,k,rfl,rfl,hH,hn,q⟩:=h;cases rx;obtain⟨u,rfl,ru⟩:=rv.one;have hS:s.heap.SetOf (P3 X.prog X.w) a S n:=I.hok a _ hH;refine call_set_add (CU ru) (Ly ru) hS (by unfold scanBound;ext) λh' hs hS'=>⟨.non,_,Fx (ob:=.set (λk'=>S k'||decide (k'=k)) (if S k then n else n+1)) I (by rw[hH];exact t9) hs ?_ hS',rfl,q⟩;obtain⟨o,_,_,_,ho,_⟩:=hS';exact⟨o,ho⟩
end
end L2
namespace Pu
open PySem PySem.Spec L2
section
variable {T:PotK}{np:Bool}{ι:Type}{K:A6}{F:ι->Cx}{e a:Expr}{pe pa:pE}{pos:Pos}{st:Stmt}
def U5 (i:Nat):pS:=λD env n=>D.nx (env.set i (some (.ow (.st []) []))) n
def Qr (i:Nat){p cp:Pos}(hg:∀z,Gl (F z) "set")(hm:∀z,(F z).mg "set"=none)(h:∀z te,EW (F z) (.Call (.Name "set" p) [] [] cp) te->SW (F z) st (tAsg te (W9 i))):QS T np K F st (U5 i):=by
 refine⟨_,λz=>(h z _ ⟨Nx Qo (hg z) (hm z) bt_set 0b0 0b0⟩).h,⇑_⟩;refine⟨rfl,λp hn1=>?_⟩;exact L.nx _ _ _ _ _ hp (S.ow i (.st []) (xs:=[]) (vs:=[]) hn1 rfl) (Bn hn1)
def qInS (neg:Bool)(i:Nat)(pa:pE):pE:=λenv n R=>pa env n λx je n1=>match je[i]?,keyV x with
 |some (some (.ow (.st zs) _)),some k=>R (.bl (if neg=true then !memS zs k else memS zs k)) je n1
 |_,_=>False
def ok_inS {t:TE}(neg:Bool)(i:Nat)(h2:EOk K T t pa):EOk K T (tOp (rInS neg) t (tVar i)) (qInS neg i pa):=λC G σ H env n R Q hK hT S hp k=>by
 refine ↥h2 λx je n1 v H1 q1 S1 r1 f1=>?_
 split at q1
 ·rename_i zs xs kk ex ek;obtain⟨a,vs,ev,g1,g2,g3,g4,r'⟩:=S1.slots i _ ex;exact⟨.ref a,ev,a,memS zs,zs.length,kk,rfl,g4,FB r1 ek,k _ _ _ _ _ q1 S1 rfl f1⟩
 ·exact q1.elim
def Qs (i:Nat){x:Str}{p:Pos}(hv:∀z,EW (F z) (.Name x p) (tVar i))(ha:QE T K F a pa):QT T K F (.Compare a [.NotIn] [.Name x p] pos) (qB (qInS true i pa)):=by
 obtain⟨t,h1,h2⟩:=ha;exact⟨_,λz=>BH Qp (h1 z) (hv z).h rfl,CL (ok_inS true i h2)⟩
def O4 (i:Nat)(pe:pE):pE:=λenv n R=>(∃zs xs,env[i]?=some (some (.ow (.st zs) xs)))/\pe env n λy je n1=>match je[i]?,keyV y with
 |some (some (.ow (.st zs) [])),some k=>zs.length<1000/\R .non (je.set i (some (.ow (.st (if memS zs k=true then zs else zs++[k])) []))) n1
 |_,_=>False
def Qt (zs:List Key)(k:Key):(λk'=>memS zs k'||decide (k'=k))=memS (if memS zs k=true then zs else zs++[k]):=by
 funext k'
 split
 ·rename_i h
  by_cases c:k'=k
  ·subst c;rw[h];rfl
  ·rw[jv c,P1]
 ·unfold memS;rw[List.any_append];show _=(_||(decide (k=k')||false));rw[P1]
  congr 1
  rw[decide_eq_decide];exact⟨Eq.symm,Eq.symm⟩
def Qu (i:Nat){x:Str}{p ap:Pos}(hv:∀z,EW (F z) (.Name x p) (tVar i))(he:QE T K F e pe)(hs:E9 e=true)(hbase:∀z,Ai (.Name x p) "add" (F z).env (eval (.Name x p) (F z).env)=eval (.Name x p) (F z).env)(hline:(ap.endLine == pos.line)=true)
   (hfew:∀z,((backTo pos (F5 [e] (F z).env)).all (λx=>!x.1)&&(backToKw pos (AQ [] (F z).env)).all (λx=>x.1.isSome)&&decide (([e]:List Expr).length+([]:List Y8).length+(if([]:List Y8).isEmpty then 0 else 1)<30))=true) (hK:∀z,(F z).K=K):QE T K F (.Call (.Attribute (.Name x p) "add" ap) [e] [] pos) (O4 i pe):=by
 obtain⟨t,a1,a2⟩:=he;refine⟨tBM K "set" rAddS (tVar i) (d7 t tNil),λz=>hK z▸CF PySem.F.plainAttrs_set PySem.F.slot_set_add PySem.F.type_set_add Qq (hv z).h (E8 (a1 z) K5 (C9 hs)) (hbase z) (hfew z) hline (C9 hs),⇑?_⟩;obtain⟨⟨zs0,xs0,e0⟩,hp⟩:=hp;obtain⟨a,vs,ev,h1,h2,h3,h4,r⟩:=S.slots i _ e0;refine⟨.ref a,ev,.inr (.inr (.inr ⟨rfl,_,_,h4⟩)),?_⟩;refine ↥a2 λy je n1 v H1 q1 S1 r1 f1=>?_
 split at q1
 ·rename_i zs kk ex ek;obtain⟨a',us,ev',g1,g2,g3,g4,r'⟩:=S1.slots i _ ex;rw[ev] at ev';cases ev';subst hK;obtain⟨S2,f2⟩:=S1.putO (.st (if memS zs kk=true then zs else zs++[kk])) ex ev r'
  have eH:upd H1 a (mkO (.st (if memS zs kk=true then zs else zs++[kk])) us)=upd H1 a (.set (λk'=>memS zs k'||decide (k'=kk)) (if memS zs kk then zs.length else zs.length+1)):=by
   show upd H1 a (.set (memS _) _)=_;rw[Qt]
   congr 2
   split <;> simp
  rw[eH] at S2 f2;exact⟨a,memS zs,zs.length,kk,rfl,by rw[FB r1 ek],g4,q1.1,k _ _ _ _ _ q1.2 S2 rfl (f1.trans f2)⟩
 ·exact q1.elim
end
end Pu
end
section
namespace L2
open PySem PySem.Spec PyProof.Rows
abbrev LC2 (jm t1 i1 t2 i2:Expr)(jn:List Expr)(scope:F9)(pos:Pos):Expr:=.ListComp jm [⟨t1,i1,[],0⟩,⟨t2,i2,jn,0⟩] scope pos
def Qw (jm t1 i1 t2 i2:Expr)(jn:List Expr)(scope:F9)(pos:Pos)(it jo:A2)(env:Env) :
   compTurn (LC2 jm t1 i1 t2 i2 jn scope pos) 1 it jo env=(do
    standAt i2.pos
    match ← pyNext it with
    |none=>pure (.done .next)
    | some v =>
     AM t2 it v
     assign t2 env v
     let mut ok:=true
     for c in jn do
      if ok then ok ← isTrue c env (eval c env)
     if ok then
      (do let _ ← call (.builtin "list.append") [jo,<- eval jm env])
     again (.compLoop (LC2 jm t1 i1 t2 i2 jn scope pos) 1 it jo env)):=by rfl
section
variable {prog:D4}{w:C0}{A:D9}{R:Result->A4->Prop}{s:A4}{jm t1 i1 t2 i2:Expr}{jn:List Expr}{scope:F9}{pos:Pos}{it jo:A2}{env:Env}
def loop_i (I:Nat->A4->Prop)
   (turn:∀n s,I n s->A5 (A7 prog w) A (pyNext it) (fun r s₁=>match r with
    |none=>R (.ok .next) s₁
    |some v=>A5 (A7 prog w) A (AM t2 it v) (λ_ s₁'=>A5 (A7 prog w) A (assign t2 env v) (λ_ s₂=>
        A5 (A7 prog w) A (forIn jn true fun c r=>if r=true then do let ok ← isTrue c env (eval c env);pure (Be ok) else pure (Be r)) (fun ok s₃=>
         if ok=true then A5 (A7 prog w) A (eval jm env) (λx s₄=>
          A5 (A7 prog w) A (call (.builtin "list.append") [jo,x]) (λ_ s₅=>∃m,m<n/\I m s₅) (λ_ _=>False) s₄) (λ_ _=>False) s₃
         else ∃m,m<n/\I m s₃) (λ_ _=>False) s₂) (λ_ _=>False) s₁') (λ_ _=>False) s₁) (λ_ _=>False) s)
   (n:Nat) (h:I n s):W0 (A7 prog w) A (.compLoop (LC2 jm t1 i1 t2 i2 jn scope pos) 1 it jo env) R s:=by
 refine codeAny_loop rfl I (λn s hI=>?_) n h;show A5 _ A ((compTurn (LC2 jm t1 i1 t2 i2 jn scope pos) 1 it jo env).onRaise (λx=>do noteFrame x env;theTreesLotGoes x)) _ _ s;refine wpAny_noted ?_;rw[Qw];refine A3 (p5 (A3 (K8 (turn n s hI) (λr s₁ h₁=>?_) λ_ _ h'=>h'.elim)));cases r with
 |none=>exact A9 h₁
 | some v =>
  refine A3 (K8 h₁ (λ_ s₁' h₁'=>?_) λ_ _ h'=>h'.elim);refine A3 (K8 h₁' (λ_ s₂ h₂=>A3 (K8 h₂ (λok s₃ h₃=>?_) λ_ _ h'=>h'.elim)) λ_ _ h'=>h'.elim);cases ok with
  |false=>exact A9 ⟨rfl,h₃⟩
  | true =>
   exact A3 (A3 (K8 h₃ (λx s₄ h₄=>A3 (K8 h₄ (λ_ s₅ h₅=>A9 (A9 ⟨rfl,h₅⟩)) λ_ _ h'=>h'.elim)) λ_ _ h'=>h'.elim))
def Qx (h0:W0 (A7 prog w) A (.compLoop (LC2 jm t1 i1 t2 i2 jn scope pos) 1 it jo env) R s)
   (h:A5 (A7 prog w) A (pyIter it) (λit' s'=>W0 (A7 prog w) A (.compLoop (LC2 jm t1 i1 t2 i2 jn scope pos) 1 it' jo env) R s') (λ_ _=>False) s) :
   W0 (A7 prog w) A (.compStart (LC2 jm t1 i1 t2 i2 jn scope pos) 1 it jo env) R s:=by
 refine codeAny_of_tree ?_;show A5 _ _ ((compStart (LC2 jm t1 i1 t2 i2 jn scope pos) 1 it jo env).onRaise (λx=>do noteFrame x env;standAt theWindowsPlace)) _ _ s;refine wpAny_notedAt ?_;unfold compStart;show A5 _ _ (ask>>=_) _ _ s;refine A3 (wpAny_askSetting (wpAny_ite ?_))
 split
 ·first
    |exact A3 (A9 (A9 (And.intro rfl h0)))
    |exact A9 (And.intro rfl h0)
 ·first
    |exact A3 (p6 (A3 (p5 (A3 (K8 h (λit' s' h'=>A9 (And.intro rfl h')) λ_ _ x=>x.elim)))))
    |(refine A3 (p6 ?_);show A5 _ _ (standAt i2.pos>>=_) _ _ s;exact A3 (p5 (A3 (K8 h (λit' s' h'=>A9 (And.intro rfl h')) λ_ _ x=>x.elim))))
def loop_o (hs:∀x,M4 i2 env x=pure x)(I:Nat->A4->Prop)
   (turn:∀n s,I n s->A5 (A7 prog w) A (pyNext it) (fun r s₁=>match r with
    |none=>R (.ok .next) s₁
    |some v=>A5 (A7 prog w) A (AM t1 it v) (λ_ s₁'=>A5 (A7 prog w) A (assign t1 env v) (λ_ s₂=>
        A5 (A7 prog w) A (eval i2 env) (λx s₃=>A5 (A7 prog w) A (pyIter x) (λit2 s₄=>
         W0 (A7 prog w) A (.compStart (LC2 jm t1 i1 t2 i2 jn scope pos) 1 it2 jo env) (λr s'=>r=.ok .next/\∃m,m<n/\I m s') s₄) (λ_ _=>False) s₃) (λ_ _=>False) s₂) (λ_ _=>False) s₁') (λ_ _=>False) s₁) (λ_ _=>False) s)
   (n:Nat) (h:I n s):W0 (A7 prog w) A (.compLoop (LC2 jm t1 i1 t2 i2 jn scope pos) 0 it jo env) R s:=by
 refine codeAny_loop rfl I (λn s hI=>?_) n h;show A5 _ A ((compTurn (LC2 jm t1 i1 t2 i2 jn scope pos) 0 it jo env).onRaise (λx=>do noteFrame x env;theTreesLotGoes x)) _ _ s;refine wpAny_noted ?_;unfold compTurn;show A5 _ _ (standAt i1.pos>>=_) _ _ s;refine A3 (p5 ?_);refine A3 (K8 (turn n s hI) (λr s₁ h₁=>?_) λ_ _ h'=>h'.elim);cases r with
 |none=>exact A9 h₁
 | some v =>
  refine A3 (K8 h₁ (λ_ s₁' h₁'=>?_) λ_ _ h'=>h'.elim);refine A3 (K8 h₁' (λ_ s₂ h₂=>A3 (wpAny_tests_nil ?_)) λ_ _ h'=>h'.elim);refine A3 (K8 h₂ (λx s₃ h₃=>?_) λ_ _ h'=>h'.elim);refine A3 (p5 ?_);show A5 _ _ (M4 i2 env x>>=λx=>(w8 [x] (pyIter x)>>=λit2=>(runOwn (.compStart (LC2 jm t1 i1 t2 i2 jn scope pos) 1 it2 jo env) env>>=λ_=>again (.compLoop (LC2 jm t1 i1 t2 i2 jn scope pos) 0 it jo env)))) _ _ _;refine A3 (Cc (hs x) (A3 (R3 (K8 h₃ (λit2 s₄ h₄=>?_) λ_ _ h'=>h'.elim))));refine A3 (wpAny_runOwn ?_);rw[Around.mark_none];refine codeAny_mono h₄ λr s' hr=>?_;obtain⟨rfl,hr⟩:=hr;exact A9 ⟨rfl,hr⟩
end
def Lz (J:It)(g:TG)(tt:TT)(te:TE)(D:A1)(N:St->Hp->Prop)(σ:St)(H:Hp):Prop:=∃W:Nat->Nat->St->Hp->Prop,(∃m,W 0 m σ H)/\
 ∀i m σ' H',W i m σ' H'->(J.stop i H'/\N σ' H')\/(J.go i H'/\∀x H2,J.yld i H' x H2->g x σ' H2 fun σ3 H3=>tt σ3 H3 fun b H4=>
    if b=true then te σ3 H4 λv H5=>∃ys,H5 D=some (.lst ys)/\ys.length<B5/\∃m',m'<m/\W (i+1) m' σ3 (upd H5 D (.lst (ys++[v])))
    else ∃m',m'<m/\W (i+1) m' σ3 H4)
def HC (J:It)(g1:TG)(wi2:TI)(g2:TG)(tt:TT)(te:TE)(Q:VK)(D:A1)(σc:St)(H1:Hp):Prop:=∃W:Nat->Nat->St->Hp->Prop,(∃m,W 0 m σc H1)/\
 ∀i m σ' H',W i m σ' H'->(J.stop i H'/\Q (.ref D) H')\/(J.go i H'/\∀x H2,J.yld i H' x H2->g1 x σ' H2 λσ3 H3=>wi2 σ3 H3 λJ2 H4=>Lz J2 g2 tt te D (λσ5 H5=>∃m',m'<m/\W (i+1) m' σ5 H5) σ3 H4)
def LA (cs:List (Option Nat))(wi:TI)(g1:TG)(wi2:TI)(g2:TG)(tt:TT)(te:TE):TE:=λσ H Q=>wi σ H λJ H1=>∀D,H1 D=none->HC J g1 wi2 g2 tt te Q D (Ac cs σ) (upd H1 D (.lst []))
def loop2 {Y:Cx}{scope:F9}{jm t1 i1 t2 i2:Expr}{jn:List Expr}{pos:Pos}{wi2:TI}{g1 g2:TG}{tt:TT}{te:TE}{fp:List A1}{it D:A1}{tn:Nat->B4->Prop}{J:It}{s₃:A4}{H3:Hp}{σ3:St}{jd:List (A1×Obj)}{Q:VK}{R:Result->A4->Prop}(hx:Y.xe=λ_ _=>False)(hc:Y.calm=true)
   (hb:PG Y t1 g1/\PI Y t2 i2 wi2/\PG Y t2 g2/\PIf Y jn tt/\PE Y jm te) (hs2:∀x,M4 i2 Y.env x=pure x) (T:Turn Y.prog Y.w Y.K t1 J fp it tn) (stat:∀{H':Hp},(∀b∈fp,H' b=none)->∀b∈fp,FpOk Y jd H' b) (q:HC J g1 wi2 g2 tt te Q D σ3 H3)
   (fin:∀s4 σ4 H4,Inv Y jd σ4 H4 s4->Q (.ref D) H4->R (.ok .next) s4) (Ic:Inv Y jd σ3 H3 s₃) (st1:tn 0 s₃.heap) (fr1:∀b∈fp,H3 b=none) :
   W0 (A7 Y.prog Y.w) Y.A (.compLoop (LC2 jm t1 i1 t2 i2 jn scope pos) 0 (.ref it) (.ref D) Y.env) R s₃:=by
 obtain⟨W,⟨m0,w0⟩,turn⟩:=q;obtain⟨hg,hi2,hg2,hf,he⟩:=hb;refine loop_o hs2 (λn s'=>∃i σ' H',Inv Y jd σ' H' s'/\tn i s'.heap/\(∀b∈fp,H' b=none)/\W i n σ' H') ?_ m0 ⟨0,_,_,Ic,st1,fr1,w0⟩;rintro n s3 ⟨i,σ3,H3,I3,st3,fr3,w3⟩;rcases turn i n σ3 H3 w3 with⟨stop,qn⟩|⟨go,step⟩
 ·refine thn (T.done Y rfl rfl rfl hc i jd s3 σ3 H3 (λ_ _=>False) I3 (stat fr3) st3 stop) λr s4 ⟨hr,I4⟩=>?_;subst hr;exact fin s4 _ _ I4 qn
 ·refine thn (T.item Y rfl rfl rfl hc i jd s3 σ3 H3 (λ_ _=>False) I3 (stat fr3) st3 go) λr s4 ⟨u,hr,h4⟩=>?_;subst hr;refine thn h4 λ_ s5 ⟨x,H5,I5,r5,y5,st5,fr5⟩=>?_;refine thn (hx▸hg _ s5 σ3 H5 x u _ (I5.pinned (stat fr5) (T.obj _ _ st5)) r5 (step x H5 y5)) λ_ s6 ⟨σ6,H6,I6,q6⟩=>?_;refine thn (hx▸hi2 _ s6 σ6 H6 _ I6 q6) λv7 s7 h7=>thn h7 λitv s8 h8=>?_;obtain⟨it2,fp2,tn2,J2,H8,rfl,I8,T2,st8,f8,W2,⟨m2,w2⟩,turn2⟩:=h8
  have inner:W0 (A7 Y.prog Y.w) Y.A (.compLoop (LC2 jm t1 i1 t2 i2 jn scope pos) 1 (.ref it2) (.ref D) Y.env) (λr s'=>r=.ok .next/\∃m,m<n/\∃i σ' H',Inv Y jd σ' H' s'/\tn i s'.heap/\(∀b∈fp,H' b=none)/\W i m σ' H') s8:=
   loop_i (λn s'=>∃i σ' H',Inv Y (jd++CB fp s5.heap) σ' H' s'/\tn2 i s'.heap/\(∀b∈fp2,H' b=none)/\W2 i n σ' H') (by rw[<- hx];exact GM T2 hc (λhn b hb=>⟨hn b hb,(f8 b hb).2⟩) hg2 hf he (λs10 σ9 H9 I10 qn2=>⟨rfl,GL T st5 I10 qn2⟩) turn2) m2 ⟨0,σ6,H8,I8,st8,λb hb=>(f8 b hb).1,w2⟩
  exact Qx inner (T2.self _ 0 _ _ _ st8 inner)
def LB {X:Cx}{scope:F9}{cl:List (Str×A1)}{N:List Str}{cs:List (Option Nat)}{jm t1 i1 t2 i2:Expr}{jn:List Expr}{pos:Pos}{wi1 wi2:TI}{g1 g2:TG}{tt:TT}{te:TE}(S:l8 X scope cl N cs)(hc:X.calm=true)(hi:PI X t1 i1 wi1)
   (hb:∀(fp:List A1) (C:A1) (s:A4) (H:Hp),PG (E3 X scope cl N fp C s H) t1 g1/\PI (E3 X scope cl N fp C s H) t2 i2 wi2/\PG (E3 X scope cl N fp C s H) t2 g2/\PIf (E3 X scope cl N fp C s H) jn tt/\PE (E3 X scope cl N fp C s H) jm te)
   (hs2:∀fp C s H x,M4 i2 (E3 X scope cl N fp C s H).env x=pure x)
   (hs:∀x,M4 i1 X.env x=pure x:=by intro _;rfl) :
   PE X (LC2 jm t1 i1 t2 i2 jn scope pos) (LA cs wi1 g1 wi2 g2 tt te):=by
 intro jd s σ H Q I h;rw[eval_ListComp];exact GN S hc hi hs I h λfp it tn J s2 H2 s₃ T stat I2 f2 q Ic st1 fr1=>loop2 (Y:=E3 X scope cl N fp (s2.heap.objs.size+1) s2 H2) rfl hc (hb _ _ _ _) (hs2 _ _ _ _) T stat q (λs4 σ3 H3 I4 qn=>Kj I2 f2 I4 qn) Ic st1 fr1
end L2
end
section
namespace Pu
open PySem PySem.Spec L2
def e9 (g:pG)(tt:pT)(te:pE):List PV->Env->Nat->(List PV->Env->Nat->Prop)->Prop
 |[],env,n,R=>R [] env n
 |x::xs,env,n,R=>g x env λje=>tt je n λb jf n2=>if b=true then te jf n2 λy jg n3=>e9 g tt te xs jg n3 λys e m=>R (y::ys) e m else e9 g tt te xs jf n2 R
def BQ (g1:pG)(pi2:pA)(g2:pG)(tt:pT)(te:pE):List PV->Env->Nat->(List PV->Nat->Prop)->Prop
 |[],_,n,R=>R [] n
 |x::xs,env,n,R=>g1 x env λje=>pi2 je n λys jf n2=>ys.length<=1000/\e9 g2 tt te ys jf n2 λzs jg n3=>BQ g1 pi2 g2 tt te xs jg n3 λws n4=>R (zs++ws) n4
def N2 (cs:List (Option Nat))(pi1:pA)(g1:pG)(pi2:pA)(g2:pG)(tt:pT)(te:pE):pA:=λenv n R=>pi1 env n λxs je n1=>xs.length<=1000/\BQ g1 pi2 g2 tt te xs (capV cs je) n1 λys n2=>R ys je n2
def Qy {K:A6}{T:PotK}{J:It}{g:TG}{tt:TT}{te:TE}{pg:pG}{ptt:pT}{pte:pE}(hg:GOk K g pg)(ht:TOk K T tt ptt)(he:EOk K T te pte){G:Gh}{H1 H4:Hp}{ys:List PV}{D:A1}(hJ:ItR K ⟨D::G.M,G.pots⟩ H4 J ys)(nD:D∉G.pots)(hD:H1 D=none){σ:St}{env:Env}{n:Nat}{jo:List PV}{us:List V}{P:List PV->Env->Nat->Prop}{N:St->Hp->Prop}(c:CI K T G H1 D σ H4 env n jo us)(hl:jo.length+ys.length<=1001000)(hc:e9 pg ptt pte ys env n P)
   (hN:∀zs env n us σ H,P zs env n->CI K T G H1 D σ H env n (jo++zs) us->zs.length<=ys.length->N σ H):Lz J g tt te D N σ H4:=by
 refine⟨λj m σ H'=>m=ys.length-j/\j<=ys.length/\∃env n zs us2,CI K T G H1 D σ H' env n (jo++zs) us2/\Fr ⟨D::G.M,G.pots⟩ H4 H'/\zs.length<=j/\e9 pg ptt pte (ys.drop j) env n λws e m=>P (zs++ws) e m,⟨ys.length,rfl,C8 _,env,n,[],us,by rw[c7];exact c,Fr.refl,B3 _,hc⟩,?_⟩;rintro j m σ5 H5 ⟨rfl,hj,env5,n5,zs,us5,c5,fr5,la5,hc5⟩;obtain⟨hgo5,hstop5⟩:=hJ _ H5 fr5 (λa ha=>.inl ha) (λ_ _ e=>e) λp hp=>c5.inn.sr.fresh hp
 by_cases hlt5:j<ys.length
 ·obtain⟨u1,u2⟩:=hgo5 j _ (D1 hlt5);refine .inr ⟨u1,λv6 H6 y6=>?_⟩;obtain⟨s6,rv6⟩:=u2 v6 H6 y6;rw[AS hlt5] at hc5;have np:∀b,b∉D::G.M->b∉G.pots:=λb hb z=>hb (c5.inn.pots b z).1;refine hg _ _ σ5 H6 env5 n5 ys[j] v6 _ _ rfl (c5.inn.sr.same s6) rv6 hc5 λenv7 σ7 hc7 S7=>?_;refine ht _ _ σ7 H6 env7 n5 _ _ rfl rfl S7 hc7 λb env8 n8 H8 hc8 S8 f8=>?_;cases b with
  |false=>exact⟨ys.length-(j+1),Dx _ _ hlt5,rfl,hlt5,env8,n8,zs,us5,c5.go nD S8,λb o hb e=>S8.frame b o (np b hb) (fr5 b o hb e),Nat.le_succ_of_le la5,hc8⟩
  | true =>
   refine he _ _ σ7 H8 env8 n8 _ _ rfl rfl S8 hc8 λy env9 n9 u H9 hc9 S9 r9 f9=>?_;have c9:=c5.go nD S9;have c10:=c9.add nD hD r9;rw[i6] at c10;refine⟨us5,c9.eD,by rw[<- c5.ra.length,D3];exact At (show _<=1001000 by omega) (by rw[Aj];decide),ys.length-(j+1),Dx _ _ hlt5,rfl,hlt5,env9,n9,zs++[y],us5++[u],c10,Fr.trans (λb o hb e=>S9.frame b o (np b hb) (fr5 b o hb e)) (CI.fD _),by rw[D3];exact Nat.succ_le_succ la5,?_⟩;simp only[i6];exact hc9
 ·obtain rfl:j=ys.length:=Cj hj (Dy hlt5);rw[Dr] at hc5;have h5:P (zs++[]) env5 n5:=hc5;rw[c7] at h5;exact .inl ⟨hstop5 _ (B3 _),hN zs env5 n5 us5 σ5 H5 h5 c5 la5⟩
def LC {K:A6}{T:PotK}{J:It}{g1 g2:TG}{wi2:TI}{tt:TT}{te:TE}{pg1 pg2:pG}{pi2:pA}{ptt:pT}{pte:pE}(hg1:GOk K g1 pg1)(hi2:IOk K T wi2 pi2)(hg2:GOk K g2 pg2)(ht:TOk K T tt ptt)(he:EOk K T te pte){G:Gh}{H1:Hp}{xs:List PV}(hJ:ItR K G H1 J xs)(hl:xs.length<=1000)
   {σc:St} {env:Env} {n:Nat} {R:List PV->Nat->Prop} {Q:VK} {D:A1} (hD:H1 D=none) (I0:Inn K T G σc H1 env n) (hp:BQ pg1 pi2 pg2 ptt pte xs env n R)
   (hQ:∀ys n' us H',R ys n'->(∀p∈G.pots,T.at_ (D::G.M) H' p n')->(∀b o,b∉G.pots->H1 b=some o->H' b=some o)->H' D=some (.lst us)->Reps K ⟨D::G.M,G.pots⟩ H' ys us->Q (.ref D) H') :
   HC J g1 wi2 g2 tt te Q D σc (upd H1 D (.lst [])):=by
 have nD:D∉G.pots:=λz=>I0.sr.fresh hD (I0.pots D z).1;refine⟨λi m σ H=>m=xs.length-i/\i<=xs.length/\∃env n jo us,CI K T G H1 D σ H env n jo us/\jo.length<=1000*i/\BQ pg1 pi2 pg2 ptt pte (xs.drop i) env n λys n'=>R (jo++ys) n',⟨xs.length,rfl,C8 _,env,n,[],[],.start hD I0,B3 _,hp⟩,?_⟩;rintro i m σ H ⟨rfl,hi,env,n,jo,us,c,la,hc⟩;obtain⟨hgo,hstop⟩:=c.it hD hJ
 by_cases hlt:i<xs.length
 ·obtain⟨gg1,gg2⟩:=hgo i _ (D1 hlt);refine .inr ⟨gg1,λv H2 y=>?_⟩;obtain⟨s2,rv⟩:=gg2 v H2 y;rw[AS hlt] at hc;refine hg1 _ _ σ H2 env n xs[i] v _ _ rfl (c.inn.sr.same s2) rv hc λje σ1 hc1 S2=>?_;refine hi2 _ _ σ1 H2 je n _ _ rfl rfl S2 hc1 λys jf n2 J2 H4 q4 S4 f4 hJ2=>?_;refine Qy hg2 ht he hJ2 nD hD (c.go nD S4) (by have:=q4.1;omega) q4.2 λzs env5 n5 us5 σ5 H5 h5 c5 lz=>⟨xs.length-(i+1),Dx _ _ hlt,rfl,hlt,env5,n5,jo++zs,us5,c5,by rw[D3];have:=q4.1;omega,?_⟩;simp only[i6];exact h5
 ·obtain rfl:i=xs.length:=Cj hi (Dy hlt);rw[Dr] at hc;have hc':R (jo++[]) n:=hc;rw[c7] at hc';exact .inl ⟨hstop _ (B3 _),hQ _ n us H hc' (λp hp=>(c.inn.pots p hp).2) c.kp c.eD c.ra⟩
section
variable {T:PotK}{ι:Type}{K:A6}{F:ι->Cx}{pg1 pg2:pG}{pos:Pos}
def Qz {scope:F9}{cl:ι->List (Str×A1)}{N:List Str}{cs:List (Option Nat)}{jm t1 i1 t2 i2:Expr}{jn:List Expr}{pi1 pi2:pA}{ptt:pT}{pte:pE}(S:∀z,l8 (F z) scope (cl z) N cs)(hc:∀z,(F z).calm=true)(hi:QI T K F t1 i1 pi1)
   (hg:QG K (λy:ι×List A1×A1×A4×Hp=>E3 (F y.1) scope (cl y.1) N y.2.1 y.2.2.1 y.2.2.2.1 y.2.2.2.2) t1 pg1)
   (hi2:QI T K (λy:ι×List A1×A1×A4×Hp=>E3 (F y.1) scope (cl y.1) N y.2.1 y.2.2.1 y.2.2.2.1 y.2.2.2.2) t2 i2 pi2)
   (hg2:QG K (λy:ι×List A1×A1×A4×Hp=>E3 (F y.1) scope (cl y.1) N y.2.1 y.2.2.1 y.2.2.2.1 y.2.2.2.2) t2 pg2)
   (ht:QIf T K (λy:ι×List A1×A1×A4×Hp=>E3 (F y.1) scope (cl y.1) N y.2.1 y.2.2.1 y.2.2.2.1 y.2.2.2.2) jn ptt)
   (he:QE T K (λy:ι×List A1×A1×A4×Hp=>E3 (F y.1) scope (cl y.1) N y.2.1 y.2.2.1 y.2.2.2.1 y.2.2.2.2) jm pte)
   (hs:∀z x,M4 i1 (F z).env x=pure x:=by intro _ _;rfl) (hs2:∀z fp C s H x,M4 i2 (E3 (F z) scope (cl z) N fp C s H).env x=pure x:=by intro _ _ _ _ _ _;rfl):QN T K F (LC2 jm t1 i1 t2 i2 jn scope pos) (N2 cs pi1 pg1 pi2 pg2 ptt pte):=by
 obtain⟨wi,i1',i2'⟩:=hi;obtain⟨g,hg0,hg⟩:=hg;obtain⟨wj,j1,j2⟩:=hi2;obtain⟨g2,hg20,hg2⟩:=hg2;obtain⟨tt,ht0,ht⟩:=ht;obtain⟨te,he0,he⟩:=he;refine⟨_,λz=>LB (S z) (hc z) (i1' z) (λfp C s H=>⟨hg0 (z,fp,C,s,H),j1 (z,fp,C,s,H),hg20 (z,fp,C,s,H),ht0 (z,fp,C,s,H),he0 (z,fp,C,s,H)⟩) (hs2 z) (hs z),⇑?_⟩;refine ↥i2' λxs je n1 J H1 p1 S1 f1 hJ=>?_;intro D hD;have hDM:=S1.fresh hD;refine LC (G:=G) hg j2 hg2 ht he hJ p1.1 hD (hT▸hK▸Fo S1 cs) p1.2 λys n2 us H' rr hpots hk eD ry=>?_;have nD:∀b o,H1 b=some o->b≠D:=λb o e z=>by rw[z,hD] at e;cases e
 have hk2:∀b o,b∉G.pots->H1 b=some o->cutH H' D b=some o:=λb o hb e=>by rw[V7 (nD b o e)];exact hk b o hb e
 have nc:∀b,b∉D::G.M->b≠D:=λb hb z=>hb (by rw[z];exact D2);have np:∀p∈G.pots,p≠D:=λp hp z=>hDM (z▸(S1.pots p hp).1)
 have Sb:SR C G σ (cutH H' D) je n2:=S1.call hk2 λp hp=>by
  subst hT;have h2:=C.T.keep (hpots p hp) (H':=cutH H' D) (V7 (np p hp)) λb o hb e=>by rw[V7 (nc b hb)];exact e
  exact C.T.more h2 λa ha=>.inl (C1 _ ha)
 have:=k ys je n2 D us (cutH H' D) rr Sb (f1.trans λb o hb e=>hk2 b o (λz=>hb (S1.pots b z).1) e) (by unfold cutH;rw[jw rfl]) ?_
 ·rw[Fp eD] at this;exact this
 ·exact Reps.mono (G:=⟨D::G.M,G.pots⟩) (λb o hb e=>by rw[V7 (nc b hb)];exact e) (λa ha=>.inl (C1 _ ha)) (λ_ _ e=>e) _ _ ry
end
section
variable {C:Ct}{G:Gh}{σ:St}{H:Hp}{env:Env}{n:Nat}
def SR.take (S:SR C G σ H env n){i:Nat}{kk:OK}{xs:List PV}{a:A1}(ex:env[i]?=some (some (.ow kk xs)))(ev:σ[i]?=some (some (.ref a)))(ob:HO) :
   ∃G':Gh,SR C G' σ (upd H a ob) (env.set i none) n/\Ext G H G' (upd H a ob)/\a∉G'.M/\(∀b∈G'.M,b∈G.M)/\G'.pots=G.pots:=by
 obtain⟨a',vs,ev',h1,h2,h3,h4,r⟩:=S.slots i _ ex;rw[ev] at ev';cases ev'
 let G':Gh:=⟨G.M.filter (·≠a),G.pots⟩
 have sub:∀b∈G'.M,b∈G.M:=λb hb=>(R7.mp hb).1;have sub2:∀b∈G'.M,b≠a:=λb hb=>by simpa using(R7.mp hb).2
 have f:Fr G H (upd H a ob):=λb o hb he=>by rw[B6 (λz=>hb (by rw[z];exact h1))];exact he
 have mm:∀{x:PV} {v:V},Rep C.K G H x v->Rep C.K G' (upd H a ob) x v:=λr=>Rep.mono (G':=G') f (λb hb=>.inl (sub b hb)) (λ_ _ e=>e) _ _ r;have mms:∀{x:List PV} {v:List V},Reps C.K G H x v->Reps C.K G' (upd H a ob) x v:=λr=>Reps.mono (G':=G') f (λb hb=>.inl (sub b hb)) (λ_ _ e=>e) _ _ r
 have back:∀(j:Nat) (s:Slot),(env.set i none)[j]?=some (some s)->i≠j/\env[j]?=some (some s):=λj s e=>by
  by_cases h:i=j
  ·subst h;rw[O7 (E5.mp ex).1] at e;cases e
  ·rw[V2 h] at e;exact⟨h,e⟩
 refine⟨G',{
  frame:=λb o hb he=>?_
  sub:=λb hb=>S.sub b (sub b hb)
  sup:=λb hb=>R7.mpr ⟨S.sup b hb,ju (show b≠a from λz=>h2 (by rw[<- z];exact hb))⟩
  pots:=λp hp=>⟨R7.mpr ⟨(S.pots p hp).1,ju (show p≠a from λz=>h3 (by rw[<- z];exact hp))⟩,C.T.more (C.T.keep (S.pots p hp).2 (B6 λz=>h3 (by rw[<- z];exact hp)) f) λb hb=>.inl (sub b hb)⟩
  pre:=S.pre
  mu:=λb hb=>?_
  slots:=λj s es=>?_
  inj:=λj k xs' ys b e1 e2 e3 e4=>S.inj j k xs' ys b (back j _ e1).2 (back k _ e2).2 e3 e4
  p0:=S.p0
  len:=by rw[L9];exact S.len
  newp:=S.newp },⟨f,λb hb=>.inl (sub b hb),λ_ _ e=>e⟩,λz=>sub2 a z rfl,sub,rfl⟩
 ·have hb2:b≠a:=λz=>by
   rcases S.sub a h1 with z2|z2
   ·exact h2 z2
   ·rw[z,z2] at he;cases he
  rw[B6 hb2];exact S.frame b o hb he
 ·obtain⟨o,he,m⟩:=S.mu b (sub b hb);exact⟨o,by rw[B6 (sub2 b hb)];exact he,m⟩
 ·obtain⟨hj,es⟩:=back j s es;have:=S.slots j s es;cases s with
  | v x =>
   obtain⟨v,e1,r⟩:=this;exact⟨v,e1,mm r⟩
  | ow kz zs =>
   obtain⟨b,us,e1,g1,g2,g3,g4,r⟩:=this;have hba:b≠a:=λz=>hj (S.inj i j (kk,xs) (kz,zs) a ex es ev (by rw[e1,z]));exact⟨b,us,e1,R7.mpr ⟨g1,by simpa using hba⟩,g2,g3,by rw[B6 hba];exact g4,mms r⟩
def Ct.hid (C:Ct)(p:A1)(ob:HO):Ct:={ C with M0:=p::C.M0,H0:=upd C.H0 p ob }
def SR.hide (S:SR C G σ H env n){p:A1}{ob:HO}(mo:MutO ob)(h:H p=none):SR (C.hid p ob) ⟨p::G.M,G.pots⟩ σ (upd H p ob) env n:=by
 have S1:=S.moreO mo h;have pM:p∉G.M:=S.fresh h
 exact {
  frame:=λb o hb e=>by
   by_cases hbp:b=p
   ·subst hbp;have e':some ob=some o:=by rw[<- e];exact J0.symm
    rw[J0];exact e'
   ·have e':C.H0 b=some o:=by rw[<- e];exact(B6 hbp).symm
    exact S1.frame b o hb e'
  sub:=fun b hb=>by
   rcases B9.mp hb with rfl|hb
   ·exact .inl D2
   ·rcases S.sub b hb with z|z
    ·exact .inl (C1 _ z)
    ·exact .inr (by show upd C.H0 p ob b=none;rw[B6 λz=>pM (by rw[<- z];exact hb)];exact z)
  sup:=λb hb=>by
   rcases B9.mp hb with rfl|hb
   ·exact D2
   ·exact C1 _ (S.sup b hb)
  pots:=S1.pots
  pre:=S.pre
  mu:=S1.mu
  slots:=λj s e=>by
   have:=S1.slots j s e;cases s with
   |v x=>exact this
   | ow kk xs =>
    obtain⟨b,us,e1,g1,g2,g3,g4,r⟩:=this;obtain⟨b',us',e1',g1',_⟩:=S.slots j _ e;rw[e1] at e1';cases e1';refine⟨b,us,e1,g1,λz=>?_,g3,g4,r⟩;rcases B9.mp z with rfl|z
    ·exact pM g1'
    ·exact g2 z
  inj:=S.inj
  p0:=⟨λq hq=>C1 _ (S.p0.1 q hq),S.p0.2⟩
  len:=S.len
  newp:=λq hq h1 h2=>by
   rcases B9.mp h2 with rfl|h2
   ·exact pM (S.pots q hq).1
   ·exact S.newp q hq h1 h2 }
def SR.hid_at {p:A1}{ob:HO}(S:SR (C.hid p ob) G σ H env n)(h2:p∉C.pots0):H p=some ob:=S.frame p ob h2 J0
end
end Pu
end
section
namespace L2
open PySem PySem.Spec PyProof.Rows
def insL {α:Type}(xs:List α)(k:Nat)(y:α):List α:=xs.take k++y::xs.drop k
def HD {α:Type}(xs:List α)(k:Nat)(y:α):(insL xs k y).length=xs.length+1:=by
 unfold insL;rw[D3,F2,l6,V3];ext
section
variable {X:Cx}
def LD:V->List V->Hp->VK->Prop:=λx vs H Q=>∃l xs i y,x=.ref l/\vs=[.int i,y]/\H l=some (.lst xs)/\0<=i/\i<=1000000/\xs.length<B5/\Q .non (upd H l (.lst (insL xs i.toNat y)))
def QB {u:A2}(h0:0<=i):(have k:=if i<0 then(i+((jh.toArray.size:Nat):Int)).toNat else min i.toNat jh.toArray.size;(jh.toArray.extract 0 k).push u++jh.toArray.extract k)=(insL jh i.toNat u).toArray:=by
 have e:(if i<0 then(i+((jh.toArray.size:Nat):Int)).toNat else min i.toNat jh.toArray.size)=min i.toNat jh.length:=by
  rw[jy 0x0];simp
 show(jh.toArray.extract 0 (if i<0 then(i+((jh.toArray.size:Nat):Int)).toNat else min i.toNat jh.toArray.size)).push u++jh.toArray.extract (if i<0 then(i+((jh.toArray.size:Nat):Int)).toNat else min i.toNat jh.toArray.size)=_;rw[e];unfold insL;rcases Nat.le_total i.toNat jh.length with h|h
 ·rw[Nat.min_eq_left h];simp;exact k9 (by rw[V3];exact B3 _)
 ·rw[EH h,k9 h,Ge h];simp
def QC:MtM X "list.insert" LD:=by
 intro jd s σ H x vs v us Q I rx rv h;obtain⟨l,xs,i,y,rfl,rfl,hH,h0,h1,hz,q⟩:=h;cases rx;cases rv with
 | cons ri rv =>
  obtain⟨t,rfl⟩:=ri;obtain⟨u,rfl,ru⟩:=Vals.one rv;obtain⟨z,jh,n,r,hl,e⟩:=I.lstM hH
  have hf:¬(!Jy i)=true:=by
   simp only[Jy];simp;ext
  refine v4 F.slot_list_insert ⟨_,e,rfl⟩ F.entry_list_insert (F.args_list_insert_3 _ _ _) (PySem.AutoSeq1.list_insert_list_int_val_1 l jh.toArray n i t u hf (by rw[G9];ext)) ⟨e,?_⟩;refine⟨.non,_,I.lset (its':=insL jh i.toNat u) hH e (QB h0) ?_ ?_,rfl,q⟩
  ·exact(r.take i.toNat).append (.cons ru (r.drop i.toNat))
  ·rw[HD];ext
end
end L2
namespace Pu
open PySem PySem.Spec L2
section
variable {T:PotK}{ι:Type}{K:A6}{F:ι->Cx}{e ei:Expr}{pe pi:pE}{pos:Pos}
def Q9 (i:Nat)(pi pe:pE):pE:=λenv n R=>(∃xs,env[i]?=some (some (.ow .lst xs)))/\pi env n λj je n1=>pe je n1 λy jf n2=>match jf[i]?,j with|some (some (.ow .lst xs)),.int j=>(0<=j/\j<=1000000/\xs.length<1000000)/\R .non (jf.set i (some (.ow .lst (insL xs j.toNat y)))) n2|_,_=>False
def QD (i:Nat)(hv:∀z,EW (F z) (.Name x p) (tVar i))(hi:QE T K F ei pi)(he:QE T K F e pe)(hs1:E9 ei=true)(hs:E9 e=true)(hbase:∀z,Ai (.Name x p) "insert" (F z).env (eval (.Name x p) (F z).env)=eval (.Name x p) (F z).env)(hline:(ap.endLine == pos.line)=true)
   (hfew:∀z,((backTo pos (F5 [ei,e] (F z).env)).all (λx=>!x.1)&&(backToKw pos (AQ [] (F z).env)).all (λx=>x.1.isSome)&&decide (([ei,e]:List Expr).length+([]:List Y8).length+(if([]:List Y8).isEmpty then 0 else 1)<30))=true)
   (hplain:∀z,(backTo pos (F5 [e] (F z).env)).any (·.1)=false) (hK:∀z,(F z).K=K):QE T K F (.Call (.Attribute (.Name x p) "insert" ap) [ei,e] [] pos) (Q9 i pi pe):=by
 obtain⟨ti,i1,i2⟩:=hi;obtain⟨t,a1,a2⟩:=he;refine⟨tBM K "list" LD (tVar i) (d7 ti (d7 t tNil)),λz=>hK z▸CF EO PySem.F.slot_list_insert PySem.F.type_list_insert QC (hv z).h (E8 (i1 z) (E8 (a1 z) K5 (C9 hs)) (C9 hs1)) (hbase z) (hfew z) hline (C9 hs1) (hplain z),⇑?_⟩;obtain⟨⟨xs0,e0⟩,hp⟩:=hp;obtain⟨a,vs,ev,h1,h2,h3,h4,r⟩:=S.slots i _ e0;refine⟨.ref a,ev,.inl ⟨rfl,vs,SqL.of h4⟩,?_⟩;refine ↥i2 λj je n1 v H1 q1 S1 r1 f1=>?_;refine a2 C G σ H1 je n1 _ _ hK hT S1 q1 λy jf n2 u H2 q2 S2 r2 f2=>?_
 split at q2
 ·rename_i xs j' ex;obtain⟨a',us,ev',g1,g2,g3,g4,r'⟩:=S2.slots i _ ex;rw[ev] at ev';cases ev';subst hK;obtain⟨S3,f3⟩:=S2.put ex ev ((r'.take j'.toNat).append (xs:=xs.take j'.toNat) (ys:=y::xs.drop j'.toNat) (us:=u::us.drop j'.toNat) ⟨u,_,rfl,r2,r'.drop j'.toNat⟩);exact⟨a,us,j',u,rfl,by rw[show v=.int j' from r1],g4,q2.1.1,q2.1.2.1,by rw[<- r'.length];exact mil' 0x0,k _ _ _ _ _ q2.2 S3 rfl ((f1.trans f2).trans f3)⟩
 ·exact q2.elim
end
section
variable {T:PotK}{np:Bool}{ι:Type}{K:A6}{F:ι->Cx}{a b ea eb:Expr}{st:Stmt}{pos:Pos}{pa pb pi pj:pE}
def QF (K:A6)(hc:X.calm=true)(h1:GW X x gx)(h2:GW X y gy)(hn:(V1 [x,y] X.env).length=2:=by rfl)(hst:(V1 [x,y] X.env).findIdx? (·.1)=none:=by rfl)
   (hs:(V1 [x,y] X.env).map (·.2)=assign x X.env::(V1 [y] X.env).map (·.2):=by rfl) (hs2:(V1 [y] X.env).map (·.2)=assign y X.env::(V1 [] X.env).map (·.2):=by rfl) (hK:X.K=K:=by rfl) :
   GW X (.Tuple [x,y] k pos) (gTup K 2 (DJ gx (DJ gy gNil))):=⟨hK▸JH hc (Gv h1.h (Gv h2.h JG hs2) hs) hn hst⟩
def P5 (i:Nat)(pa pb pi pj:pE):pS:=λD env n=>pa env n λx je n1=>pb je n1 λy jf n2=>(∃xs,jf[i]?=some (some (.ow .lst xs)))/\gAt i pi x jf n2 λjg n3=>gAt i pj y jg n3 D.nx
def QH (i:Nat){tg:Expr}{k:Nat}{p:Pos}(h:∀z te g,EW (F z) (.Tuple [a,b] k p) te->GW (F z) tg g->SW (F z) st (tAsg te g))(hg:∀z ti tj,EW (F z) ea ti->EW (F z) eb tj->GW (F z) tg (gTup K 2 (DJ (gSub (tVar i) ti DL) (DJ (gSub (tVar i) tj DL) gNil))))(h1:QE T K F a pa)(h2:QE T K F b pb)(h3:QE T K F ea pi)(h4:QE T K F eb pj)(n1:E9 a=true)(n2:E9 b=true):QS T np K F st (P5 i pa pb pi pj):=by
 obtain⟨t,a1,a2⟩:=h1;obtain⟨u,b1,b2⟩:=h2;obtain⟨ti,i1,i2⟩:=h3;obtain⟨tj,j1,j2⟩:=h4;refine⟨_,λz=>(h z _ _ ⟨JN (E8 (a1 z) (E8 (b1 z) K5 (C9 n2)) (C9 n1))⟩ (hg z _ _ ⟨i1 z⟩ ⟨j1 z⟩)).h,⇑_⟩;refine ↥a2 λx je n1 v H1 q1 S1 r1 f1=>?_;refine b2 C G σ H1 je n1 _ _ hK hT S1 q1 λy jf n2 w H2 q2 S2 r2 f2=>?_;obtain⟨⟨xs0,e0⟩,q2⟩:=q2;refine⟨by show 2<=B5;decide,λp hn'=>⟨p,[v,w],rfl,SqT.of J0,rfl,v,[w],rfl,?_⟩⟩;have sm:Same H2 (upd H2 p (.tup [v,w])):=Same.lay1 hn';generalize upd H2 p (.tup [v,w])=H3 at sm ⊢;have S3:=S2.same sm;obtain⟨a,vs,ev,h1,h2,h3,h4,r⟩:=S3.slots i _ e0;refine⟨.ref a,ev,?_⟩;refine i2 C G σ H3 jf n2 _ _ hK hT S3 q2 λd jg n3 ud H4 q3 S4 r4 f4=>?_
 split at q3
 ·rename_i xs d ex
  split at q3
  ·rename_i jj ej;obtain⟨a',us,ev',g1,g2,g3,g4,r'⟩:=S4.slots i _ ex;rw[ev] at ev';cases ev';subst hK;obtain⟨S5,f5⟩:=S4.put ex ev (r'.set jj (((r1.fr f2).same sm).fr f4));refine⟨a,us,d,jj,rfl,r4,g4,by rw[<- r'.length];exact ej,?_⟩;refine⟨w,[],rfl,.ref a,ev,?_⟩;refine j2 C G σ _ _ n3 _ _ rfl hT S5 q3 λd2 env5 n5 ud2 H5 q5 S6 r6 f6=>?_
   split at q5
   ·rename_i xs2 d2 ex2
    split at q5
    ·rename_i jj2 ej2;obtain⟨a',us2,ev',k1,k2,k3,k4,r7⟩:=S6.slots i _ ex2;rw[ev] at ev';cases ev';obtain⟨S7,f7⟩:=S6.put ex2 ev (r7.set jj2 ((((r2.same sm).fr f4).fr f5).fr f6));exact⟨a,us2,d2,jj2,rfl,r6,k4,by rw[<- r7.length];exact ej2,rfl,L.nx _ _ _ _ _ q5 S7 (Ext.fr ((((((f1.trans f2).trans (Fr.of sm)).trans f4).trans f5).trans f6).trans f7))⟩
    ·grind
   ·grind
  ·grind
 grind
end
end Pu
end
section
namespace Pu
open PySem L2
theorem HE {tt:pT}{rest:Pu.Env}{α:Type}(f:α->PV)(c:α->Bool):∀(xs:List α) (s0:Option Slot) (n:Nat) (R:List PV->Nat->Prop),(∀x∈xs,∀m Q,Q (c x) (some (.v (f x))::rest) m->tt (some (.v (f x))::rest) m Q)->R ((xs.filter c).map f) n->Z4 (gN 0) tt (qV 0) (xs.map f) (s0::rest) n R
 |[],_,_,_,_,h=>h
 | x :: xs, s0, n, R, ht, h => by
  show tt (some (.v (f x))::rest) n _;refine ht x D2 n _ ?_
  by_cases hc:c x=true
  ·rw[jw hc];rw[x4,jw hc] at h;show Z4 (gN 0) tt (qV 0) (xs.map f) (some (.v (f x))::rest) n _;exact HE f c xs _ n _ (λy hy=>ht y (C1 _ hy)) h
  ·rw[jy hc];rw[x4,jy hc] at h;exact HE f c xs _ n _ (λy hy=>ht y (C1 _ hy)) h
end Pu
end
section
namespace Pu
open PySem PySem.Spec L2
def lt (f t:Int)(k:Nat):Nat:=97+((f+(k:Int)*t)%26).toNat
def CY:List Int:=[1,3,5,7,9,11,15,17,19,21,23,25]
def lt_ne (ht:t∈CY)(f0:0<=f)(hjk:j<k)(hk:k<26):lt f t j≠lt f t k:=λh=>by
 have inv:∀t∈CY,∃u∈CY,t*u=26*(t*u/26)+1:=0b0
 obtain⟨u,_,hu⟩:=inv t ht;have e:(f+(j:Int)*t)%26=(f+(k:Int)*t)%26:=by unfold lt at h;omega
 have d:(26:Int) ∣ ((k:Int)-j)*t:=by
  have:=Int.dvd_of_emod_eq_zero (Int.emod_eq_emod_iff_emod_sub_eq_zero.mp e.symm);rw[show f+(k:Int)*t-(f+(j:Int)*t)=((k:Int)-j)*t by rw[Int.sub_mul];omega] at this;exact this
 have d2:(26:Int) ∣ ((k:Int)-j)*t*u:=Int.dvd_trans d (Int.dvd_mul_right _ _);rw[Int.mul_assoc,hu,Int.mul_add,Int.mul_one,<- Int.mul_assoc,Int.mul_comm _ 26,Int.mul_assoc] at d2;have d3:(26:Int) ∣ (k:Int)-j:=(Int.dvd_add_right (Int.dvd_mul_right _ _)).mp d2;omega
def lt_at {k:Nat}:atI LETS.cps.toList ((f+(k:Int)*t)%26)=some (lt f t k):=
 Lg (BB _ 0b0) (Cn _ 0b0)
def QJ (ht:t∈CY):-(2 ^ 64)<t/\t<2 ^ 64:=by
 simp only[CY,B9,R5,or_false] at ht;rcases ht with rfl|rfl|rfl|rfl|rfl|rfl|rfl|rfl|rfl|rfl|rfl|rfl <;> decide
def FD {zs:List Str}:memP (.str z) (zs.map PV.str)=decide (z∈zs):=by
 unfold memP;rw[Dw,t7,p9,decide_eq_true_iff];constructor
 ·rintro⟨y,hy,e⟩;have e':decide (y=z)=true:=by rw[<- AG];exact e
  rw[<- jz e'];exact hy
 ·intro h;refine⟨z,h,?_⟩;show eqP (.str z) (.str z)=true;rw[AG];exact ju rfl
def Bp (zs:List Str)(d:Nat):(zs.map PV.str).all (cmpb d)=true:=by
 rw[Dv,B7];intro x _;cases d <;> rfl
def QK {zs:List Str}(hP:zs.map PV.str=P)(h:R (.bl (decide (z∈zs)))):wIn 4 false (.str z) (.tup P) R:=by
 subst hP;exact⟨rfl,Bp zs 4,by rw[FD];exact h⟩
def LF {zs:List Str}(hP:zs.map PV.str=P)(h:R (.bl (!decide (z∈zs)))):wIn 4 true (.str z) (.tup P) R:=by
 subst hP;exact⟨rfl,Bp zs 4,by rw[FD];exact h⟩
def QM {zs:List Str}(hP:zs.map PV.str=P)(h:R (.bl (!decide (z∈zs)))):wIn 4 true (.str z) (.lst P) R:=by
 subst hP;exact⟨rfl,Bp zs 4,by rw[FD];exact h⟩
def RowS (zs:List Str):Prop:=zs.Nodup/\∀z∈zs,i9 z
abbrev rowP (zs:List Str):PV:=.tup (zs.map PV.str)
inductive Ev where
 |d (x:Str)|t (x y:Str)
def evB:Ev->List Str
 |.d x=>[x]
 |.t x y=>[x,y]
def N5 {zs:List Str}(nd:zs.Nodup){i j:Nat}(h1:zs[i]?=some z)(h2:zs[j]?=some z):i=j:=by
 obtain⟨l1,e1⟩:=E5.mp h1;obtain⟨l2,e2⟩:=E5.mp h2;rcases Nat.lt_trichotomy i j with h|h|h
 ·exact absurd (e1.trans e2.symm) (EB.mp nd i j l1 l2 h)
 ·exact h
 ·exact absurd (e2.trans e1.symm) (EB.mp nd j i l2 l1 h)
def ixS (zs:List Str)(z:Str):Nat:=zs.findIdx λy=>decide (y=z)
def E1 (h:z∈zs):zs[ixS zs z]?=some z/\∀i,i<ixS zs z->zs[i]?≠some z:=by
 unfold ixS;have hl:zs.findIdx (λy=>decide (y=z))<zs.length:=List.findIdx_lt_length_of_exists ⟨z,h,0o0⟩;refine⟨?_,λi hi e=>?_⟩
 ·rw[D1 hl];have:=List.findIdx_getElem (w:=hl);rw[jz this]
 ·have:=List.not_of_lt_findIdx hi;obtain⟨l1,e1⟩:=E5.mp e;rw[e1] at this;simp at this
def Ae (h:z∈zs):ixS zs z<zs.length:=(E5.mp (E1 h).1).1
def m_ix (hP:zs.map PV.str=P)(h:z∈zs)(hl:zs.length<=1000000)(q:R (.int (ixS zs z))):o3 (.tup P) (.str z) R:=by
 subst hP;unfold o3;dsimp only;rw[KS];exact⟨hl,ixS zs z,(E1 h).1,(E1 h).2,q⟩
inductive Mk where
 |d|o|t|u
 deriving DecidableEq
def run (r:Int):Nat->List Nat->List Mk->Option (List Nat)
 |_,st,[]=>some st
 |k,st,.t::m=>run r (k+1) (k::st) m
 |k,st,.d::m=>run r (k+1) st m
 |k,[],.o::m=>run r (k+1) [] m
 |_,_::_,.o::_=>none
 |_,[],.u::_=>none
 |k,p::st,.u::m=>if(k:Int)-p-1<=r then run r (k+1) st m else none
def Cl (r:Int)(k:Nat)(m:List Mk):Prop:=∀st,run r k st m=some st
theorem Cl.d (h:Cl r (k+1) m):Cl r k (.d::m):=λst=>h st
inductive PE where
 |d (i:Nat)|t (i j:Nat)
def nm (zs:List Str)(i:Nat):Str:=zs.getD i (B1 "")
def D7 {zs:List Str}{i:Nat}(h:i<zs.length):zs[i]?=some (nm zs i):=by grind [nm]
def Af (h:i<zs.length):nm zs i∈zs:=G4 (D7 h)
def LG (nd:zs.Nodup)(hi:i<zs.length)(hj:j<zs.length)(h:nm zs i=nm zs j):i=j:=N5 nd (D7 hi) (by rw[h];exact D7 hj)
structure Fair (zs:List Str)(es:List Ev):Prop where
 nd:(es.flatMap evB).Nodup
 sub:∀b∈es.flatMap evB,b∈zs
theorem HF {α β:Type}(f:α->β):∀{l:List α},l.Nodup->(∀a∈l,∀b∈l,f a=f b->a=b)->(l.map f).Nodup
 |[],_,_=>0o0
 | a :: l, h, hf => by
  obtain⟨h1,h2⟩:=R8.mp h;rw[G7,R8];refine⟨λz=>?_,HF f h2 λx hx y hy=>hf x (C1 _ hx) y (C1 _ hy)⟩;obtain⟨b,hb,e⟩:=E4.mp z;exact h1 (hf b (C1 _ hb) a D2 e▸hb)
def exch (f:List Str)(i j:Nat):List Str:=(f.set i (nm f j)).set j (nm f i)
def CZ (hx:x∈zs)(hy:y∈zs)(h:ixS zs x=ixS zs y):x=y:=by
 have h1:=(E1 hx).1;rw[h,(E1 hy).1] at h1;exact(E7 h1).symm
def AJ (hi:i<f.length)(hj:j<f.length):(exch f i j).Perm f:=by
 unfold exch nm;rw[AR,AR,D1 hi,D1 hj];show((f.set i f[j]).set j f[i]).Perm f;exact List.set_set_perm hi hj
def Bq {α β:Type}{f:α->β}{l:List α}{i:Nat}{y:β}(h:(l.map f)[i]?=some y):∃x,l[i]?=some x/\y=f x:=by
 rw[L4] at h;cases e:l[i]? with
 |none=>rw[e] at h;cases h
 |some x=>rw[e] at h;exact⟨x,rfl,(E7 h).symm⟩
def o6 {α:Type}{l:List α}{i:Nat}{x:α}(h:l[i]?=some x):l.take (i+1)=l.take i++[x]:=by
 rw[List.take_add_one,h];rfl
def HG {α:Type}(xs:List α)(b:Nat):cutP xs none (some (b:Int))=xs.take b:=by
 unfold cutP;rw[HT.sIx_none,HT.sIx_nat,List.drop_zero,Nat.sub_zero];rcases Nat.le_total b xs.length with h2|h2
 ·rw[Nat.min_eq_left h2]
 ·rw[EH h2,k9 (B3 _),k9 h2]
def C_ {α:Type}(xs:List α)(a:Nat):cutP xs (some (a:Int)) none=xs.drop a:=by
 unfold cutP;rw[HT.sIx_nat,HT.sIx_none];rcases Nat.le_total a xs.length with h2|h2
 ·rw[Nat.min_eq_left h2];exact k9 (by rw[V3];exact B3 _)
 ·rw[EH h2,Ge h2,Ge (B3 _)];simp
def X8 {α:Type}{a b:α}:atI [a,b] 0=some a:=rfl
def X9 {α:Type}{a b:α}:atI [a,b] 1=some b:=rfl
def Y0 {α:Type}{a b c:α}:atI [a,b,c] 0=some a:=rfl
def Y3 {α:Type}{a b c:α}:atI [a,b,c] 1=some b:=rfl
def Y4 {α:Type}{a b c:α}:atI [a,b,c] 2=some c:=rfl
def LH (h:i9 z):cost (.str z)<=82:=by
 have:=h.2.1;have e:z.length=z.cps.toList.length:=l9 z;show 10*z.length+2<=82;ext
def Fair.tx {st:List Str}{es:List Ev}(h:Fair st es){x y:Str}(he:Ev.t x y∈es):x∈st/\y∈st:=
 ⟨h.sub x (EF.mpr ⟨_,he,by simp[evB]⟩),h.sub y (EF.mpr ⟨_,he,by simp[evB]⟩)⟩
end Pu
end
section
namespace L2
open PySem PySem.Spec PyProof.Rows
def QP (hh:A.handled=none)(I a:A1)(hne:a≠I)(jh:Array A2) :
   Walks prog w A I [I,a] [I] jh.size (λi v=>jh[i]?=some v) (λi h=>h.IsListIter I a i/\h.IsList a jh) where
 sub:=λb hb=>by simp at hb;simp[hb]
 frame:=λ_ _ _ st hk=>⟨st.1.at λo e=>hk I 0o0 o e,let ⟨o,ho,x⟩:=st.2;⟨o,hk a 0o0 o ho,x⟩⟩
 item:=λi s Q E hi st hQ=>by
  have hx:jh[i]?=some jh[i]:=by simp[hi]
  refine wpAny_pyNext_list_item st.1 st.2 hx λh' hit' hs'=>?_;exact hQ jh[i] h' s.toks hx ⟨hit',let ⟨o,ho,x⟩:=st.2;⟨o,hs'.extBut a o hne ho,x⟩⟩ λb o hb e=>hs'.extBut b o (λh=>hb (by simp[h])) e
 done:=λs Q E st hQ=>wpAny_pyNext_list_end hh st.1 st.2 0o0 λh' he'=>hQ h' s.toks λb o hb e=>he' b o (λh=>hb (by simp[h])) e
 self:=λ_ _ _ _ st hQ=>wpAny_pyIter_listiter st.1 hQ
theorem HH (is:List Int):∀n,n<=is.length->preSum (λj=>is.getD j 0) n=(is.take n).sum
 |0,_=>by rw[List.take_zero];rfl
 | n + 1, h => by
  show preSum (λj=>is.getD j 0) n+is.getD n 0=_;rw[HH is n 0x0,List.take_succ,AR,D1 0x0,List.sum_append];simp
def QU {is:List Int}(h:∀i∈is,0<=i/\i<=1000000):0<=is.sum/\is.sum<=1000000*is.length:=by
 induction is with
 |nil=>exact⟨0b0,0b0⟩
 | cons x is ih =>
  obtain⟨h1,h2⟩:=ih λi hi=>h i (C1 _ hi);obtain⟨x1,x2⟩:=h x D2;rw[Ch,F2];ext
section
variable {X:Cx}
def QV (hc:X.calm=true):M6 X (.builtin "sum") (λxs H Q=>∃(a:A1) (is:List Int),xs=[.ref a]/\H a=some (.lst (is.map V.int))/\is.length<=1000/\(∀i∈is,0<=i/\i<=1000000)/\Q (.int is.sum) H):=by
 intro jd s σ H xs us Q I r h;obtain⟨a,is,rfl,ea,hl,hi,q⟩:=h;obtain⟨u,rfl,rx⟩:=z9 r;cases rx;obtain⟨_,jh,n,rv,e⟩:=(show J1 X.prog X.w H s.heap a (.lst (is.map V.int)) from I.hok a _ ea);have isL:s.heap.IsList a jh.toArray:=⟨_,e,rfl,_,rfl⟩;have hlen:jh.length=is.length:=by rw[<- rv.length,B0]
 refine call_sum_walk ?_;refine Ew isL ?_;have lt:a<s.heap.objs.size:=C7 e;have hh:X.A.in1.handled=none:=I.ok.hd hc;refine⟨s.heap.objs.size,[s.heap.objs.size,a],[s.heap.objs.size],jh.toArray.size,(λi v=>jh.toArray[i]?=some v),(λi h=>h.IsListIter s.heap.objs.size a i/\h.IsList a jh.toArray),(λj=>is.getD j 0),rfl,QP hh s.heap.objs.size a (F3 lt) jh.toArray,⟨⟨_,K4 _ rfl,rfl,rfl⟩,⟨_,C3 _ e,rfl,_,rfl⟩⟩,λb hb=>?_,λi v hv=>?_,λj hj=>?_,λh' tk t' hk=>?_⟩
 ·have sz:s.heap.objs.size<(s.heap.push { cls:=.type "list_iterator",data:=.fields #[.ref a,.int 0 0] }).objs.size:=by simp[Heap.push]
  rcases B9.mp hb with z|z
  ·rw[z];exact sz
  ·rw[E2.mp z];exact Dz lt sz
 ·have hv':jh[i]?=some v:=by simpa using hv
  have hi':=(E5.mp hv').1;have hi2:i<is.length:=by rw[<- hlen];exact hi'
  obtain⟨x,ex,rx⟩:=rv.getE hi';rw[L4,D1 hi2] at ex;have ex:V.int is[i]=x:=E7 ex;subst ex;obtain⟨t,et⟩:=rx;refine⟨t,?_⟩;rw[D1 hi'] at hv';rw[<- E7 hv',et];show Cr is[i] t=Cr (is.getD i 0) t;rw[AR,D1 hi2]
  rfl
 ·have hj':j<is.length:=by rw[<- hlen];simpa using hj
  have m1:is.getD j 0∈is:=by rw[AR,D1 hj'];exact x0 _
  have h1:=hi _ m1;have h2:=QU (is:=is.take (j+1)) λi h=>hi i (i5 h);show InLong (is.getD j 0)/\InLong (preSum (λj=>is.getD j 0) (j+1));rw[HH is (j+1) hj'];rw[l6] at h2;refine⟨⟨?_,?_⟩,⟨?_,?_⟩⟩ <;> (have e63:(2:Int) ^ 63=9223372036854775808:=by decide) <;> rw[e63] <;> omega
 ·have es:preSum (λj=>is.getD j 0) jh.toArray.size=is.sum:=by
   rw[HH is _ (by rw[G9,hlen];exact B3 _),G9,hlen,x5]
  rw[es];exact⟨.int is.sum,H,I.kept (t':=tk) λb o eb=>hk b o (λz=>q8 _ (by rw[E2.mp z] at eb;exact C7 eb)) (C3 _ eb),⟨_,rfl⟩,q⟩
end
end L2
namespace Pu
open PySem PySem.Spec L2
section
variable {T:PotK}{np:Bool}{ι:Type}{K:A6}{F:ι->Cx}{e a b:Expr}{st:Stmt}{pe pa pb:pE}{pos:Pos}
def Br:List PV->Option (List Int)
 |[]=>some []
 |.int i::xs=>(Br xs).map (i::·)
 |_=>none
def QX:∀{vs:List V} {is:List Int},Reps K G H xs vs->Br xs=some is->vs=is.map V.int:=by
 induction xs with
 |nil=>intro vs is r h;cases h;exact r
 | cons x xs ih =>
  intro vs is r h;obtain⟨v,t,rfl,rv,rt⟩:=r;cases x with
  | int i =>
   have h:(Br xs).map (i::·)=some is:=h;cases e:Br xs with
   |none=>rw[e] at h;cases h
   | some js =>
    rw[e] at h;cases h;rw[ih rt e,show v=.int i from rv]
    rfl
  |_=>cases h
def wSum:w1:=λx R=>match x with|.lst xs=>(match Br xs with|some is=>is.length<=1000/\(∀i∈is,0<=i/\i<=1000000)/\R (.int is.sum)|none=>False)|_=>False
def qe_sum (hc:∀z,(F z).calm=true)(hg:∀z,Gl (F z) "sum")(hm:∀z,(F z).mg "sum"=none)(ha:QE T K F a pa)(hs:E9 a=true:=by rfl):QE T K F (.Call (.Name "sum" p) [a] [] pos) (qUn wSum pa):=by
 obtain⟨t,h1,h2⟩:=ha;refine⟨_,λz=>Bi (QV (hc z)) (hg z) (hm z) bt_sum (E8 (h1 z) K5 (C9 hs)) 0b0 0b0 (C9 hs),λC G σ H env n' R Q hK hT S hp k=>?_⟩;refine h2 C G σ H env n' _ _ hK hT S hp λx je n1 v H1 p1 S1 r1 f1=>?_;dsimp only[wSum] at p1;cases x with
 | lst xs =>
  cases ei:Br xs with
  |none=>dsimp only at p1;rw[ei] at p1;exact p1.elim
  | some is =>
   dsimp only at p1;rw[ei] at p1;obtain⟨l1,l2,q⟩:=p1;obtain⟨a,vs,rfl,t,r⟩:=r1;have ev:=QX r ei;exact⟨a,is,rfl,by rw[<- ev];exact t.2,l1,l2,k _ _ _ _ _ q S1 rfl f1⟩
 |_=>exact p1.elim
end
variable {T:PotK}{ι:Type}{K:A6}{F:ι->Cx}{e:Expr}{st:List Stmt}{np:Bool}
def U6:pS:=λ_ _ _=>False
def QY:QSs T np K F st U6:=⟨λ_ _ _=>False,λ_ _ _ _ _ _ _ h=>h.elim,λ_ _ _ _ _ _ _ _ _ _ _ _ h=>h.elim⟩
end Pu
end
section
namespace L2
open PySem PySem.Spec PyProof.Rows
variable {X:Cx}
def QZ:OpR X (L0 .IsNot) (λx y H Q=>∃a b,x=.bl a/\y=.bl b/\Q (.bl (!(a == b))) H):=by
 intro jd s σ H x y v u Q I rx ry h;obtain⟨a,b,rfl,rfl,q⟩:=h;cases rx;cases ry;exact wpAny_isNot_plain rfl (E_ I q (by cases a <;> cases b <;> rfl))
def op_isB:OpR X (L0 .Is) (λx y H Q=>∃a b,x=.bl a/\y=.bl b/\Q (.bl (a == b)) H):=by
 intro jd s σ H x y v u Q I rx ry h;obtain⟨a,b,rfl,rfl,q⟩:=h;cases rx;cases ry;exact wpAny_is_plain rfl (E_ I q (by cases a <;> cases b <;> rfl))
end L2
namespace Pu
open PySem PySem.Spec L2
variable {T:PotK}{ι:Type}{K:A6}{F:ι->Cx}
def R0:w2:=λx y R=>match x,y with|.bl a,.bl b=>R (.bl (!(a == b)))|_,_=>False
def wIsB:w2:=λx y R=>match x,y with|.bl a,.bl b=>R (.bl (a == b))|_,_=>False
def cNotB:Cmp K F .IsNot R0:=⟨_,λ_=>QZ,by
 intro G H x y v u R Q hf rx ry hw k;unfold R0 at hw
 split at hw
 ·exact⟨_,_,rx.bl,ry.bl,k _ _ _ hw (Same.refl _) rfl⟩
 ·exact hw.elim⟩
def cIsB:Cmp K F .Is wIsB:=⟨_,λ_=>op_isB,by
 intro G H x y v u R Q hf rx ry hw k;unfold wIsB at hw
 split at hw
 ·exact⟨_,_,rx.bl,ry.bl,k _ _ _ hw (Same.refl _) rfl⟩
 ·exact hw.elim⟩
end Pu
end
section
namespace L2
open PySem PySem.Spec PyProof.Rows
theorem HI:∀(names:List (Str×NameKind)) (n:Nat) (a b:List (Str×A1)),V9 n names (a++b)=V9 n names a++b
 |[],_,_,_=>rfl
 | (x, k) :: r, n, a, b => by
  unfold V9
  split
  ·exact HI r (n+1) ((x,n)::a) b
  ·exact HI r n a b
section
variable {M:Model}{A:D9}{E:A2->A4->Prop}{s:A4}
def Q_ {scope:F9}{globals:A1}{cl:List (Str×A1)}{qual:Str}{outer:Env}{Q:Env->A4->Prop}
   (hQ:Q (newEnv scope s.heap.objs.size globals (V9 (s.heap.objs.size+1) scope.names cl) qual none .none (some outer) builtinsNs) { s with heap:=pushCells (s.heap.push { cls:=.type "dict",data:=.dict #[] }) scope.names }) :
   A5 M A (newFunctionEnv scope globals cl [] qual none .none (some outer)) Q E s:=by
 simp only[newFunctionEnv,Option.isSome_some,if_true];refine A3 (wpAny_alloc ?_);refine A3 (wpAny_layCells _ (λname kind cells=>by cases hkc:kind == NameKind.cell <;> simp[hkc]) _ _ _ _ ?_)
 rw[show({ s with heap:=s.heap.push { cls:=.type "dict",data:=.dict #[] } }:A4).heap.objs.size=s.heap.objs.size+1 from As ..];rw[Cf];exact A3 (A9 (A9 hQ))
end
def ownC (scope:F9)(C:A1):List (Str×A1):=V9 (C+1) scope.names []
def u7 (X:Cx)(scope:F9)(cl:List (Str×A1))(N:List Str)(fp:List A1)(C:A1)(s:A4)(H:Hp):Cx:=
 { E3 X scope (V9 (C+1) scope.names cl) N fp C s H with fn:=λx=>((ownC scope C).lookup x).isSome }
structure FE (X:Cx)(scope:F9)(cl:List (Str×A1))(N:List Str)(cs:List (Option Nat)):Prop where
 clos:closureFor scope X.env=pure cl
 kind:scope.kind=.function
 names:∀y∈scope.names,y.2=.local->scope.names.lookup y.1=some .local
 sub:∀x c,cl.lookup x=some c->X.env.cells.lookup x=some c
 has:∀(C:A1) x,((Z7 scope X.env).names.lookup x=some .cell\/(Z7 scope X.env).names.lookup x=some .free)->∃c,(V9 (C+1) scope.names cl).lookup x=some c
 len:cs.length=N.length
 cap:∀(k j:Nat) (x:Str),cs[k]?=some (some j)->N[k]?=some x->X.N[j]?=some x/\Vis X.env.scope x/\X.env.kindOf x≠some .local/\(∃c,cl.lookup x=some c)/\((Z7 scope X.env).names.lookup x=some .cell\/(Z7 scope X.env).names.lookup x=some .free)/\∀C,(ownC scope C).lookup x=none
def Ra {X:Cx}{scope:F9}{cl:List (Str×A1)}{N:List Str}{cs:List (Option Nat)}(clos:closureFor scope X.env=pure cl)(kind:scope.kind=.function)
   (names:(scope.names.all λy=>!(y.2 == .local)||scope.names.lookup y.1 == some .local)=true) (sub:CG cl X.env.cells)
   (has:∀C:A1,((Z7 scope X.env).names.all λy=>!(y.2 == .cell||y.2 == .free)||((V9 (C+1) scope.names cl).lookup y.1).isSome)=true) (len:cs.length=N.length)
   (cap:∀C:A1,((cs.zip N).all λy=>match y.1 with|none=>true|some j=>X.N[j]? == some y.2&&(X.env.scope.names.lookup y.2 == some .cell||X.env.scope.names.lookup y.2 == some .free)&&(cl.lookup y.2).isSome &&
     ((Z7 scope X.env).names.lookup y.2 == some .cell||(Z7 scope X.env).names.lookup y.2 == some .free)&&((ownC scope C).lookup y.2).isNone)=true):FE X scope cl N cs:=by
 refine⟨clos,kind,λy hy e=>?_,sub.get,λC x hx=>?_,len,λk j x hk hN=>?_⟩
 ·have:=B7.mp names y hy;rw[e] at this
  simpa using this
 ·rcases hx with hx|hx
  ·have:=B7.mp (has C) _ (j8 hx);exact Bc.mp (by simpa using this)
  ·have:=B7.mp (has C) _ (j8 hx);exact Bc.mp (by simpa using this)
 ·have hz:(cs.zip N)[k]?=some (some j,x):=by rw[Gc];exact⟨hk,hN⟩
  have all:=λC=>by
   have:=B7.mp (cap C) _ (G4 hz);simp only[M2,Bool.or_eq_true,beq_iff_eq] at this;exact this
  obtain⟨⟨⟨⟨h1,h2⟩,h3⟩,h4⟩,_⟩:=all 0;refine⟨h1,?_,?_,Bc.mp h3,h4,λC=>Option.isNone_iff_eq_none.mp (all C).2⟩
  ·rcases h2 with h2|h2
   ·exact .inr (.inl h2)
   ·exact .inr (.inr h2)
  ·intro z;have z':X.env.scope.names.lookup x=some .local:=z;rw[z'] at h2;rcases h2 with h2|h2 <;> cases h2
def lkA {scope:F9}{cl:List (Str×A1)}{C:A1}{x:Str}:(V9 (C+1) scope.names cl).lookup x=((ownC scope C).lookup x).or (cl.lookup x):=by
 have:=HI scope.names (C+1) [] cl;rw[N7] at this;rw[this,List.lookup_append];rfl
def lkK {scope:F9}{cl:List (Str×A1)}{C c:A1}{x:Str}(h:(V9 (C+1) scope.names cl).lookup x=some c):(ownC scope C).lookup x=some c\/cl.lookup x=some c:=by
 rw[lkA] at h;cases e:(ownC scope C).lookup x with
 |some d=>rw[e] at h;exact .inl h
 |none=>rw[e] at h;exact .inr h
def Rb {X:Cx}{scope:F9}{cl:List (Str×A1)}{N:List Str}{cs:List (Option Nat)}(S:FE X scope cl N cs){jd:List (A1×Obj)}{σ:St}{H:Hp}{s:A4}{fp:List A1}{h₁:B4}{tk:Nat}
   (I:Inv X jd σ H s) (f2:∀b∈fp,FpOk X jd H b) (ho:∀b∈fp,∃o,s.heap.get? b=some o)
   (old:∀b o,s.heap.get? b=some o->h₁.get? b=some o) (hns:h₁.Ns (s.heap.objs.size+1) (λx=>([]:List (Str×A2)).reverse.lookup x))
   (hD:h₁.get? s.heap.objs.size=some { cls:=.type "list",data:=.seq ([]:List A2).toArray }) (okC:CellsOk h₁ (s.heap.objs.size+1+1) (ownC scope (s.heap.objs.size+1))) :
   Inv (u7 X scope cl N fp (s.heap.objs.size+1) s H) jd (Ac cs σ) (upd H s.heap.objs.size (.lst [])) { s with heap:=h₁,toks:=tk }:=by
 have lt:∀b o,s.heap.get? b=some o->b<s.heap.objs.size:=λb o e=>C7 e;have neC:∀b o,s.heap.get? b=some o->b≠s.heap.objs.size+1:=λb o e=>F3 (AY (lt b o e));have neD:∀b o,s.heap.get? b=some o->b≠s.heap.objs.size:=λb o e=>F3 (lt b o e);have nstk:∀b,b≠X.env.locals->b∉X.fs->b∉frs X.stack:=λb h1 h2 hb=>(B9.mp (I.stkSub b hb)).elim h1 h2
 have cellO:∀x c,cl.lookup x=some c->∃v o,s.heap.get? c=some o/\s.heap.IsCell c v:=λx c e=>by
  obtain⟨v,q⟩:=I.cell x c (S.sub x c e);obtain⟨o,h1,_⟩:=id q;exact⟨v,o,h1,q⟩
 have ownO:∀x c,(ownC scope (s.heap.objs.size+1)).lookup x=some c->h₁.IsCell c none/\s.heap.objs.size+1+1<=c:=λx c e=>okC.empty x c (j8 e);have cls:∀x c,(u7 X scope cl N fp (s.heap.objs.size+1) s H).env.cells.lookup x=some c->(ownC scope (s.heap.objs.size+1)).lookup x=some c\/cl.lookup x=some c:=λx c e=>lkK e
 have clt:∀x c,cl.lookup x=some c->c<s.heap.objs.size:=λx c e=>by
  obtain⟨v,o,h1,_⟩:=cellO x c e;exact lt c o h1
 have apt:∀{x y:Str} {c:A1},(ownC scope (s.heap.objs.size+1)).lookup x=some c->cl.lookup y=some c->False:=λ{x y c} h1 h2=>
  absurd (M1 (clt y c h2) (E6 (E6 (W5 _) (W5 _)) (ownO x c h1).2)) (q8 _)
 refine⟨⟨I.ok.mod,S.kind,I.ok.glob,I.ok.blt,W5 _,λx y c h1 h2=>?_,λx hx=>S.has _ x hx,λx c hf hx=>?_,I.ok.hd,I.ok.frames,.inl rfl,λb hb=>?_,I.bs,E6 I.ok.bsz I.sz,λb o e hb=>?_,λb hb=>?_,I.stack,I.stkFree,I.nos⟩,
  rfl,I.bare,Un.laid old (B3 _) I.fresh I.bigS,⟨_,hns,λi x v e1 e2 e3=>?_⟩,λx c e=>?_,?_,λx c e=>?_,λp hp=>?_,I.hok.laid old (B3 _) ⟨C8 _,[],0,.nil,hD⟩,?_⟩
 ·rcases cls x c h1 with h1|h1 <;> rcases cls y c h2 with h2|h2
  ·exact name_of_addr okC.apart (j8 h1) (j8 h2)
  ·exact(apt h1 h2).elim
  ·exact(apt h2 h1).elim
  ·exact I.ok.inj x y c (S.sub x c h1) (S.sub y c h2)
 ·obtain⟨d,hd⟩:=Bc.mp hf;rcases cls x c hx with h1|h1
  ·exact E6 (E6 (W5 _) (W5 _)) (ownO x c h1).2
  ·have e:(V9 (s.heap.objs.size+1+1) scope.names cl).lookup x=some c:=hx;rw[lkA,hd] at e;cases e;exact E6 (E6 (W5 _) (W5 _)) (ownO x c hd).2
 ·obtain⟨o,e⟩:=ho b hb;refine⟨neC b o e,λx c ec z=>?_⟩;rcases cls x c ec with h1|h1
  ·exact absurd (M1 (lt b o e) (E6 (E6 (W5 _) (W5 _)) (z▸(ownO x c h1).2))) (q8 _)
  ·exact(f2 b hb).2.2.2.2.1 x c (S.sub x c h1) z
 ·rcases(f2 b hb).2.2.2.1 with z|z
  ·exact I.ok.noex b o e z
  ·exact absurd (M1 (C7 e) (E6 I.ok.bsz z)) (q8 _)
 ·exact nstk b (f2 b hb).2.1 (f2 b hb).2.2.1
 ·have e2':(cs.map λo=>o.bind λj=>(σ[j]?).bind id)[i]?=some (some v):=e2;rw[L4] at e2';cases ec:cs[i]? with
  |none=>rw[ec] at e2';cases e2'
  | some o =>
   rw[ec] at e2';cases o with
   |none=>cases e2'
   | some j =>
    have e2'':(σ[j]?).bind id=some v:=by simpa using e2'
    cases es:σ[j]? with
    |none=>rw[es] at e2'';cases e2''
    | some ov =>
     rw[es] at e2'';have e4:ov=some v:=by simpa using e2''
     subst e4;obtain⟨hN,hv,hnl,⟨c,hc⟩,hk,hno⟩:=S.cap i j x ec e1;obtain⟨m,hn,hl⟩:=I.loc;obtain⟨u,r,l⟩:=hl j x v hN es hv;refine⟨u,r,?_⟩;rcases l with⟨hk',_⟩|⟨_,c',hc',z⟩
     ·exact absurd hk' hnl
     ·have ecc:c'=c:=by
       have:=S.sub x c hc;rw[hc'] at this;exact E7 this
      subst ecc;obtain⟨o,h1,h2⟩:=z;exact .inr ⟨hk,c',(by show(V9 (s.heap.objs.size+1+1) scope.names cl).lookup x=some c';rw[lkA,hno];exact hc),⟨o,old _ o h1,h2⟩⟩
 ·rcases cls x c e with e|e
  ·exact⟨none,(ownO x c e).1⟩
  ·obtain⟨v,o,h1,o',h2,h3⟩:=cellO x c e;exact⟨v,o',old _ o' h2,h3⟩
 ·show upd H s.heap.objs.size (.lst []) (s.heap.objs.size+1)=none;rw[B6 (Nat.succ_ne_self _)];exact I.hok.fresh (W5 _)
 ·rcases cls x c e with e|e
  ·have ge:=E6 (W5 _) (ownO x c e).2;rw[B6 (DB ge)];exact I.hok.fresh (DA ge)
  ·obtain⟨v,o,h1,_⟩:=cellO x c e;rw[B6 (neD c o h1)];exact I.freeC x c (S.sub x c e)
 ·obtain⟨e,n,ne,nf,d⟩:=I.pin p hp;exact⟨old _ _ e,by rw[B6 (neD _ _ e)];exact n,neC _ _ e,nstk _ ne nf,d⟩
 ·show(cs.map _).length=N.length;rw[B0];exact S.len
def Inv.uncompK {X:Cx}{scope:F9}{cl:List (Str×A1)}{N:List Str}{jd:List (A1×Obj)}{σ σ':St}{H H':Hp}{s s':A4}{fp:List A1}{h':B4}
   (I:Inv X jd σ H s) (f2:∀b∈fp,FpOk X jd H b)
   (J:Inv (u7 X scope cl N fp (s.heap.objs.size+1) s H) jd σ' H' s') (hs:∀b,b≠s.heap.objs.size+1->h'.get? b=s'.heap.get? b) :
   Inv X jd σ H' { s' with heap:=h' }:=by
 obtain⟨hh,g,d,t,os'⟩:=s';obtain rfl:os'=s.os:=J.os;have U:Un (frs X.stack) fp H H' s.heap hh:=J.base;have old:∀b o,s.heap.get? b=some o->b≠s.heap.objs.size+1:=λb o e=>F3 (AY (C7 e));have hs':∀b,b≠s.heap.objs.size+1->h'.get? b=hh.get? b:=hs
 have trC:∀b u,H' b=some u->b≠s.heap.objs.size+1:=λb u e z=>by
  have q:H' (s.heap.objs.size+1)=none:=J.free;rw[z,q] at e;cases e
 show Inv X jd σ H' { s with heap:=h',gens:=g,drawn:=d,toks:=t };refine I.call (h':=h') (g':=g) (d':=d) (t':=t) (ch:=fp) ⟨λb o e n hb hx=>?_,λb o e n hb hx=>?_,U.free,λb o e hx=>?_,U.tups,U.frzs,U.tbls,U.sys⟩ (λb u e=>?_) J.bare λb hb=>?_
 ·rw[hs' b (old b o e)];exact U.keep b o e n hb hx
 ·rw[hs' b (old b o e)];exact U.slot b o e n hb hx
 ·rw[hs' b (old b o e)];exact U.there b o e hx
 ·refine(J.hok b u e).stay (λc v hc q=>?_) (λ_ q=>q) λ_ _ q=>q
  have ne:c≠s.heap.objs.size+1:=by
   rcases hc with z|z
   ·rw[z];exact trC b u e
   ·exact trC c _ z
  rw[hs' c ne];exact q
 ·exact⟨(f2 b hb).2.2.2.1,(f2 b hb).2.1,(f2 b hb).2.2.2.2.1,(f2 b hb).2.2.2.2.2⟩
def Rc {X:Cx}{scope:F9}{cl:List (Str×A1)}{N:List Str}{cs:List (Option Nat)}{jm tg iter:Expr}{jn:List Expr}{pos:Pos}{wi:TI}{g:TG}{tt:TT}{te:TE}(S:FE X scope cl N cs)(hc:X.calm=true)(hi:PI X tg iter wi)
   (hb:∀(fp:List A1) (C:A1) (s:A4) (H:Hp),PG (u7 X scope cl N fp C s H) tg g/\PIf (u7 X scope cl N fp C s H) jn tt/\PE (u7 X scope cl N fp C s H) jm te)
   (hs:∀x,M4 iter X.env x=pure x:=by intro _;rfl) :
   PE X (.ListComp jm [⟨tg,iter,jn,0⟩] scope pos) (tComp cs wi g tt te):=by
 intro jd s σ H Q I h;rw[eval_ListComp];refine wpAny_comprehension_free (use:=none) rfl hs S.clos S.kind S.names (thn (hi jd s σ H _ I h) λv s1 h1=>thn h1 λitv s2 h2=>?_);obtain⟨it,fp,tn,J,H2,rfl,I2,T,st2,f2,q⟩:=h2
 have ho:∀b∈fp,∃o,s2.heap.get? b=some o:=λb hb=>by
  obtain⟨o,e,_⟩:=T.obj 0 _ st2 b hb;exact⟨o,e⟩
 refine Z6 (Q_ ?_);dsimp only;have hC:(s2.heap.push { cls:=.type "list",dict:=none,data:=.seq ([]:List A2).toArray }).objs.size=s2.heap.objs.size+1:=by rw[As]
 generalize hH2:s2.heap.push { cls:=.type "list",dict:=none,data:=.seq ([]:List A2).toArray }=hp2 at hC ⊢;have okC:=cellsFrom_ok scope.names (hp2.push { cls:=.type "dict",data:=.dict #[] }) (s2.heap.objs.size+1+1) [] ⟨λ_ _ hm=>(nomatch hm),List.Pairwise.nil⟩ (by rw[As,hC];exact B3 _);rw[As,hC] at okC;have hns₁:=(Heap.Ns.new hp2 (.type "dict")).keeps (pushCells_keeps scope.names _);have old:∀b o,s2.heap.get? b=some o->(pushCells (hp2.push { cls:=.type "dict",data:=.dict #[] }) scope.names).get? b=some o:=λb o e=>pushCells_keeps _ _ b o (C3 _ (hH2▸C3 _ e));have hD:(pushCells (hp2.push { cls:=.type "dict",data:=.dict #[] }) scope.names).get? s2.heap.objs.size=some { cls:=.type "list",data:=.seq ([]:List A2).toArray }:=pushCells_keeps _ _ _ _ (C3 _ (hH2▸K4 _ rfl));generalize pushCells (hp2.push { cls:=.type "dict",data:=.dict #[] }) scope.names=h₁ at *;rw[hC] at hns₁ ⊢;obtain⟨W,⟨m0,w0⟩,turn⟩:=q s2.heap.objs.size I2.fresh;have Ic:=Rb S (tk:=s2.toks) I2 f2 ho old hns₁ hD okC;have nstk:∀b,b≠X.env.locals->b∉X.fs->b∉frs X.stack:=λb h1 h2 hb=>(B9.mp (I2.stkSub b hb)).elim h1 h2
 have stat:∀{H':Hp},(∀b∈fp,H' b=none)->∀b∈fp,FpOk (u7 X scope cl N fp (s2.heap.objs.size+1) s2 H2) jd H' b:=λhn b hb=>by
  obtain⟨o,e⟩:=ho b hb;exact⟨hn b hb,F3 (AY (C7 e)),nstk b (f2 b hb).2.1 (f2 b hb).2.2.1,.inl hb,λx c ec=>(Ic.ok.exf b hb).2 x c ec,(f2 b hb).2.2.2.2.2⟩
 obtain⟨hg,hf,he⟩:=hb fp (s2.heap.objs.size+1) s2 H2;have st1:tn 0 h₁:=T.keep _ _ _ st2 λb hb o e=>old b o e
 have fr1:∀b∈fp,upd H2 s2.heap.objs.size (.lst []) b=none:=λb hb=>by
  obtain⟨o,e⟩:=ho b hb;rw[B6 (F3 (C7 e))];exact(f2 b hb).1
 have loop:∀s₃:A4,s₃={ s2 with heap:=h₁ }->
     W0 (A7 X.prog X.w) X.A (.compLoop (.ListComp jm [⟨tg,iter,jn,0⟩] scope pos) 0 (.ref it) (.ref s2.heap.objs.size) (compEnvC scope (V9 (s2.heap.objs.size+1+1) scope.names cl) (s2.heap.objs.size+1) X.env))
       (compPost (A7 X.prog X.w) X.A X.xe none (EP X jd σ Q) (.ref s2.heap.objs.size) (s2.heap.objs.size+1)) s₃:=by
   rintro s₃ rfl;refine Ki _ (GM (Y:=u7 X scope cl N fp (s2.heap.objs.size+1) s2 H2) T hc stat hg hf he (λs4 σ3 H3 I4 qn=>?_) turn) m0 ⟨0,_,_,Ic,st1,fr1,w0⟩;obtain⟨m4,hn4,_⟩:=I4.loc;exact⟨m4,hn4,λh' hs'=>⟨.ref s2.heap.objs.size,H3,Inv.uncompK I2 f2 I4 λb hb=>hs'.2 b hb,rfl,qn⟩⟩
 exact codeAny_compStart_list (loop _ rfl) (T.self _ 0 _ _ _ st1 (loop _ rfl))
end L2
namespace Pu
open PySem PySem.Spec L2
section
variable {T:PotK}{ι:Type}{K:A6}{F:ι->Cx}{e a b c:Expr}{es rest:List Expr}{pe pa pb pc:pE}{pos:Pos}{pl pr:pA}{pg:pG}{pgs:pGs}{pt:pT}
def Re {scope:F9}{cl:ι->List (Str×A1)}{N:List Str}{cs:List (Option Nat)}{jm tg iter:Expr}{jn:List Expr}{pi:pA}{ptt:pT}{pte:pE}(S:∀z,FE (F z) scope (cl z) N cs)(hc:∀z,(F z).calm=true)(hi:QI T K F tg iter pi)
   (hg:QG K (λy:ι×List A1×A1×A4×Hp=>u7 (F y.1) scope (cl y.1) N y.2.1 y.2.2.1 y.2.2.2.1 y.2.2.2.2) tg pg) (ht:QIf T K (λy:ι×List A1×A1×A4×Hp=>u7 (F y.1) scope (cl y.1) N y.2.1 y.2.2.1 y.2.2.2.1 y.2.2.2.2) jn ptt)
   (he:QE T K (λy:ι×List A1×A1×A4×Hp=>u7 (F y.1) scope (cl y.1) N y.2.1 y.2.2.1 y.2.2.2.1 y.2.2.2.2) jm pte)
   (hs:∀z x,M4 iter (F z).env x=pure x:=by intro _ _;rfl):QN T K F (.ListComp jm [⟨tg,iter,jn,0⟩] scope pos) (F7 cs pi pg ptt pte):=by
 obtain⟨wi,i1,i2⟩:=hi;obtain⟨g,hg0,hg⟩:=hg;obtain⟨tt,ht0,ht⟩:=ht;obtain⟨te,he0,he⟩:=he;refine⟨_,λz=>Rc (S z) (hc z) (i1 z) (λfp C s H=>⟨hg0 (z,fp,C,s,H),ht0 (z,fp,C,s,H),he0 (z,fp,C,s,H)⟩) (hs z),⇑?_⟩;refine ↥i2 λxs je n1 J H1 p1 S1 f1 hJ=>?_;intro D hD;have hDM:=S1.fresh hD;refine KJ (G:=G) hg ht he hJ p1.1 hD (hT▸hK▸Fo S1 cs) p1.2 λys n2 us H' rr hpots hk eD ry=>?_
 -- the heap without D
 have nD:∀b o,H1 b=some o->b≠D:=λb o e z=>by rw[z,hD] at e;cases e
 have hD0:C.H0 D=none:=by
  cases z:C.H0 D with
  |none=>rfl
  | some o =>
   by_cases hp:D∈C.pots0
   ·exact absurd (S1.sup D (S1.p0.1 D hp)) hDM
   ·have:=S1.frame D o hp z;rw[hD] at this;cases this
 have hk2:∀b o,b∉G.pots->H1 b=some o->cutH H' D b=some o:=λb o hb e=>by rw[V7 (nD b o e)];exact hk b o hb e
 have nc:∀b,b∉D::G.M->b≠D:=λb hb z=>hb (by rw[z];exact D2);have np:∀p∈G.pots,p≠D:=λp hp z=>hDM (z▸(S1.pots p hp).1)
 have Sb:SR C G σ (cutH H' D) je n2:=S1.call hk2 λp hp=>by
  subst hT;have h2:=C.T.keep (hpots p hp) (H':=cutH H' D) (V7 (np p hp)) λb o hb e=>by rw[V7 (nc b hb)];exact e
  exact C.T.more h2 λa ha=>.inl (C1 _ ha)
 have:=k ys je n2 D us (cutH H' D) rr Sb (f1.trans λb o hb e=>hk2 b o (λz=>hb (S1.pots b z).1) e) (by unfold cutH;rw[jw rfl]) ?_
 ·rw[Fp eD] at this;exact this
 ·exact Reps.mono (G:=⟨D::G.M,G.pots⟩) (λb o hb e=>by rw[V7 (nc b hb)];exact e) (λa ha=>.inl (C1 _ ha)) (λ_ _ e=>e) _ _ ry
end
end Pu
end
section
namespace L2
open PySem PySem.Spec PyProof.Rows
def HJ:R2:=λy x H Q=>∃a o,x=.ref a/\DGet H a y o/\Q (.bl (!o.isSome)) H
def HK {X:Cx}(hu:X.A.units+1<cLine):OpR X (L0 .NotIn) HJ:=by
 intro jd s σ H x y v u Q I rx ry h;obtain⟨a,o,rfl,g,q⟩:=h;cases ry;exact PF hu I g rx λs3 I3=>⟨.bl (!o.isSome),H,I3,rfl,q⟩
end L2
namespace Pu
open PySem PySem.Spec L2
section
variable {T:PotK}{np:Bool}{ι:Type}{K:A6}{F:ι->Cx}{a b:Expr}{st:Stmt}{pa pb:pE}{pos:Pos}
def M3 (i:Nat)(pa:pE):pE:=λenv n R=>pa env n λx je n1=>match je[i]?,keyV x with
 |some (some (.ow (.dk ks) xs)),some k=>ks.length=xs.length/\R (.bl (!memK ks k)) je n1
 |_,_=>False
def LI {t:TE}(i:Nat)(h2:EOk K T t pa):EOk K T (tOp HJ t (tVar i)) (M3 i pa):=λC G σ H env n R Q hK hT S hp k=>by
 refine ↥h2 λx je n1 v H1 q1 S1 r1 f1=>?_
 split at q1
 ·rename_i ks xs kk ex ek;obtain⟨a,vs,ev,g1,g2,g3,g4,r'⟩:=S1.slots i _ ex;obtain⟨hl,q1⟩:=q1
  have e:(valV (ks.zip vs) kk).isSome=memK ks kk:=by
   rw[Qk,Ds (by rw[hl,r'.length];exact B3 _)]
  refine⟨.ref a,ev,a,valV (ks.zip vs) kk,rfl,FB r1 ek▸DGet.k g4,?_⟩;rw[e];exact k _ _ _ _ _ q1 S1 rfl f1
 ·exact q1.elim
def Rf (i:Nat){x:Str}{p:Pos}{k:Nat}(hr:∀z,Room k (F z).A)(hv:∀z,EW (F z) (.Name x p) (tVar i))(ha:QE T K F a pa):QE T K F (.Compare a [.NotIn] [.Name x p] pos) (M3 i pa):=by
 obtain⟨t,h1,h2⟩:=ha;exact⟨_,λz=>Gz (HK (BI (hr z))) (h1 z) (hv z).h rfl,LI i h2⟩
def Rg (i:Nat){x:Str}{p:Pos}{k:Nat}(hr:∀z,Room k (F z).A)(hv:∀z,EW (F z) (.Name x p) (tVar i))(ha:QE T K F a pa):QT T K F (.Compare a [.NotIn] [.Name x p] pos) (qB (M3 i pa)):=by
 obtain⟨t,h1,h2⟩:=ha;exact⟨_,λz=>BH (HK (BI (hr z))) (h1 z) (hv z).h rfl,CL (LI i h2)⟩
def V0 (i j:Nat)(m:Int):pS:=λD env n=>D.nx ((env.set i (some (.ow (.dk []) []))).set j (some (.v (.int m)))) n
def Rh (i j:Nat){m:Int}{q:Nat}{p2:Pos}(h:∀z ta,AW (F z) [.Dict [] [] pos,.Constant (.int m) q p2] ta->SW (F z) st (tPar i j ta)):QS T np K F st (V0 i j m):=by
 refine⟨_,λz=>(h z _ ⟨E8 Kl (E8 F6 K5 (C9 rfl)) (C9 rfl)⟩).h,⇑_⟩;intro p hn1;refine⟨.ref p,.int m,rfl,?_⟩;exact L.nx _ _ _ _ _ hp ((S.ow i (.dk []) (xs:=[]) (vs:=[]) hn1 rfl).set j rfl) (Bn hn1)
end
end Pu
end
section
namespace L2
open PySem PySem.Spec PyProof.Rows
section
variable {prog:D4}{w:C0}{A:D9}{E:A2->A4->Prop}{s:A4}
abbrev ZipK (h:B4)(z TI TO a:A1)(f:Bool):Prop:=h.get? z=some { cls:=.type "zip",data:=.fields #[rawInt a,.bool f,.bool false,.ref TI,.ref TO] }
def aliveK {a:A1}{Q:Option Obj->A4->Prop}(h:Q (s.heap.get? a) s):A5 (A7 prog w) A (loadIfAlive a) Q E s:=λ_ _ _=>h
def LJ {z TI TO a:A1}{f:Bool}{oa:Obj}{Q:Bool->A4->Prop}(hz:ZipK s.heap z TI TO a f)(ha:s.heap.get? a=some oa)
   (hQ:∀h',ZipK h' z TI TO a true->Ci z s.heap h'->Q false { s with heap:=h' }):A5 (A7 prog w) A (Ba (.ref z)) Q E s:=by
 unfold Ba;refine A3 (L8 hz rfl (x:=rawInt a) rfl ?_);show A5 _ _ (loadIfAlive ((a:Int).toNat)>>=_) _ _ _;refine A3 ?_;rw[Q1];refine aliveK ?_;rw[ha];simp only[Option.isNone_some,F4,if_false];refine A3 (L8 hz rfl (x:=.bool f) rfl ?_);cases f with
 |true=>exact A9 (hQ s.heap hz (Heap.SameBut.refl _ _))
 | false =>
  show A5 _ _ (setField (.ref z) 1 (.bool true)>>=_) _ _ _;exact A3 (Bu hz 0o0 λh' z' sb=>A9 (hQ h' z' sb))
def Ri {b1 b2 f:Bool}{z TI TO i1 i2 l1 l2 p:A1}{op:Obj}{k:Nat}{xs ys:Array A2}{x y:A2}{Q:A2->A4->Prop}(D:ZAp z TI TO i1 i2)(m1:l1≠z)(m2:l2≠z)(m5:l1≠i1)(m6:l2≠i1)
   (hz:ZipK s.heap z TI TO p f) (hp:s.heap.get? p=some op) (hTI:IsPair s.heap TI (.ref i1) (.ref i2)) (h1:ItB b1 s.heap i1 l1 k) (h2:ItB b2 s.heap i2 l2 k) (hl1:SeB b1 s.heap l1 xs) (hl2:SeB b2 s.heap l2 ys) (hx:xs[k]?=some x) (hy:ys[k]?=some y)
   (hQ:∀h',ZipK h' z TI TO p true->ItB b1 h' i1 l1 (k+1)->ItB b2 h' i2 l2 (k+1)->IsPair h' s.heap.objs.size x y->
     (∀c o,c≠z->c≠i1->c≠i2->s.heap.get? c=some o->h'.get? c=some o)->Q (.ref s.heap.objs.size) { s with heap:=h' }) :
   A5 (A7 prog w) A (Z8.«zip.__next__» ⟨[.ref z],[]⟩) (λfin s'=>∃v,fin=.done (.ret v)/\Q v s') E s:=by
 show A5 _ _ (field (.ref z) 2>>=_) _ _ _;refine A3 (L8 hz rfl (x:=.bool false) rfl ?_);show A5 _ _ (field (.ref z) 3>>=_) _ _ _;refine A3 (L8 hz rfl (x:=.ref TI) rfl (A3 (o9 hTI rfl ?_)));show A5 _ _ (Ba (.ref z)>>=_) _ _ _;refine A3 (LJ hz hp λg1 z1 s1=>?_);simp only[F4,if_false];refine A3 ?_;rw[<- Array.forIn_toList];simp only[Dt,Cf];refine A3 (A3 (R3 ?_));show A5 _ _ (i7 (.ref i1)>>=_) _ _ _;refine A3 (DW (s:={ s with heap:=g1 }) (h1.at λo e=>s1.extBut _ o D.a3 e) (hl1.at λo e=>s1.extBut _ o m1 e) hx λg2 j2 s2=>A9 ?_);refine A9 ?_;refine A3 (A3 (R3 ?_));show A5 _ _ (i7 (.ref i2)>>=_) _ _ _;have up2:∀c o,c≠z->c≠i1->s.heap.get? c=some o->g2.get? c=some o:=λc o c1 c2 e=>s2.extBut _ o c2 (s1.extBut _ o c1 e);refine A3 (DW (s:={ s with heap:=g2 }) (h2.at λo e=>up2 _ o D.a4 D.a10.symm e) (hl2.at λo e=>up2 _ o m2 m6 e) hy λg3 j3 s3=>A9 ?_);refine A9 (A9 ?_);show A5 _ _ (newTuple [x,y]>>=_) _ _ _;refine A3 (wpAny_newTuple (A9 ⟨_,rfl,?_⟩));have hsz:g3.objs.size=s.heap.objs.size:=by rw[s3.1,s2.1,s1.1]
 have z3:ZipK g3 z TI TO p true:=s3.extBut _ _ D.a4.symm (s2.extBut _ _ D.a3.symm z1);have j1:ItB b1 g3 i1 l1 (k+1):=j2.at λo e=>s3.extBut _ o D.a10 e;show Q (.ref g3.objs.size) _;have t4:IsPair (g3.push { cls:=.type "tuple",data:=.seq #[x,y] }) g3.objs.size x y:=K4 _ rfl;rw[hsz] at t4 ⊢;exact hQ _ (C3 _ z3) (j1.at λo e=>C3 _ e) (j3.at λo e=>C3 _ e) t4 λc o c1 c2 c3 e=>C3 _ (s3.extBut _ o c3 (up2 c o c1 c2 e))
def Rj {b1 b2 f:Bool}{z TI TO i1 i2 l1 l2 p:A1}{op:Obj}{k:Nat}{xs ys:Array A2}{Q:Fin->A4->Prop}(hh:A.handled=none)(D:ZAp z TI TO i1 i2)(m1:l1≠z)(m2:l2≠z)(m5:l1≠i1)(m6:l2≠i1)
   (hz:ZipK s.heap z TI TO p f) (hp:s.heap.get? p=some op) (hTI:IsPair s.heap TI (.ref i1) (.ref i2)) (h1:ItB b1 s.heap i1 l1 k) (h2:ItB b2 s.heap i2 l2 k) (hl1:SeB b1 s.heap l1 xs) (hl2:SeB b2 s.heap l2 ys) (hend:xs[k]?=none)
   (hE:∀h' e,(∀c o,c≠z->c≠i1->c≠i2->s.heap.get? c=some o->h'.get? c=some o)->(∃o,h'.get? e=some o/\o.cls=.type "StopIteration")->E (.ref e) { s with heap:=h' }) :
   A5 (A7 prog w) A (Z8.«zip.__next__» ⟨[.ref z],[]⟩) Q E s:=by
 show A5 _ _ (field (.ref z) 2>>=_) _ _ _;refine A3 (L8 hz rfl (x:=.bool false) rfl ?_);show A5 _ _ (field (.ref z) 3>>=_) _ _ _;refine A3 (L8 hz rfl (x:=.ref TI) rfl (A3 (o9 hTI rfl ?_)));show A5 _ _ (Ba (.ref z)>>=_) _ _ _;refine A3 (LJ hz hp λg1 z1 s1=>?_);simp only[F4,if_false];refine A3 ?_;rw[<- Array.forIn_toList];simp only[Dt,Cf];refine A3 (A3 (R3 ?_));show A5 _ _ (i7 (.ref i1)>>=_) _ _ _;exact A3 (Hr (s:={ s with heap:=g1 }) hh (h1.at λo e=>s1.extBut _ o D.a3 e) (hl1.at λo e=>s1.extBut _ o m1 e) hend λg2 e s2 ex=>hE g2 e (λc o c1 c2 _ q=>s2 _ _ c2 (s1.extBut _ _ c1 q)) ex)
structure ZSt (b1 b2:Bool)(z TI TO i1 i2 l1 l2:A1)(xs ys:Array A2)(h:B4)(ps:List A1):Prop where
 zip:(ps=[]/\IsZip h z TI TO .none/\∃a b,IsPair h TO a b)\/∃p f,p∈ps/\ZipK h z TI TO p f
 ti:IsPair h TI (.ref i1) (.ref i2)
 it1:ItB b1 h i1 l1 ps.length
 it2:ItB b2 h i2 l2 ps.length
 s1:SeB b1 h l1 xs
 s2:SeB b2 h l2 ys
 prs:∀(j:Nat) (p:A1),ps[j]?=some p->∃x y,xs[j]?=some x/\ys[j]?=some y/\IsPair h p x y
section
variable {b1 b2:Bool}{z TI TO i1 i2 l1 l2:A1}{xs ys:Array A2}{ps:List A1}
def DZ {h:B4}{p c:A1}{x y:A2}{o:Obj}{n:String}(hp:IsPair h p x y)(ho:h.get? c=some o)(hc:o.cls=.type n)(hn:n≠"tuple"):p≠c:=λe=>by
 have hp':h.get? p=_:=hp;rw[e,ho] at hp';cases hp';exact hn (Value.type.inj hc).symm
def ZSt.isZip {h:B4}(st:ZSt b1 b2 z TI TO i1 i2 l1 l2 xs ys h ps):∃o,h.get? z=some o/\o.cls=.type "zip":=by
 rcases st.zip with⟨_,hz,_⟩|⟨p,f,_,hz⟩ <;> exact⟨_,hz,rfl⟩
def ZSt.pair {h:B4}(st:ZSt b1 b2 z TI TO i1 i2 l1 l2 xs ys h ps){p:A1}(hp:p∈ps):∃x y,IsPair h p x y:=by
 obtain⟨j,hj⟩:=List.getElem?_of_mem hp;obtain⟨x,y,_,_,q⟩:=st.prs j p hj;exact⟨x,y,q⟩
def FG {b:Bool}{h:B4}{it l p:A1}{k:Nat}{x y:A2}(hi:ItB b h it l k)(hp:IsPair h p x y):p≠it:=by
 obtain⟨o,e,hc,_⟩:=hi.obj;rcases hc with hc|hc
 ·exact DZ hp e hc 0b0
 ·exact DZ hp e hc 0b0
theorem ZSt.at {h h':B4}(st:ZSt b1 b2 z TI TO i1 i2 l1 l2 xs ys h ps){S:A1}(hS:∀c∈[z,TI,TO,i1,i2,l1,l2],c≠S)(hp:∀p∈ps,p≠S)(k:∀c o,c≠S->h.get? c=some o->h'.get? c=some o):ZSt b1 b2 z TI TO i1 i2 l1 l2 xs ys h' ps:=by
 simp only[B9,R5,or_false,forall_eq_or_imp,forall_eq] at hS;obtain⟨a1,a2,a3,a4,a5,a6,a7⟩:=hS;refine⟨?_,k _ _ a2 st.ti,st.it1.at λo e=>k _ o a4 e,st.it2.at λo e=>k _ o a5 e,st.s1.at λo e=>k _ o a6 e,st.s2.at λo e=>k _ o a7 e,λj p hj=>?_⟩
 ·rcases st.zip with⟨e,hz,a,b,ht⟩|⟨p,f,hp,hz⟩
  ·exact .inl ⟨e,k _ _ a1 hz,a,b,k _ _ a3 ht⟩
  ·exact .inr ⟨p,f,hp,k _ _ a1 hz⟩
 ·obtain⟨x,y,e1,e2,q⟩:=st.prs j p hj;exact⟨x,y,e1,e2,k _ _ (hp p (G4 hj)) q⟩
def Rk {x y:A2}{Q:Option A2->A4->Prop}(D:ZAp z TI TO i1 i2)(m3:l1≠TO)(m4:l2≠TO)(st:ZSt b1 b2 z TI TO i1 i2 l1 l2 xs ys s.heap ps)(hx:xs[ps.length]?=some x)(hy:ys[ps.length]?=some y)
   (hQ:∀h',ZSt b1 b2 z TI TO i1 i2 l1 l2 xs ys h' (ps++[s.heap.objs.size])->(∀c o,c≠z->c≠TO->c≠i1->c≠i2->s.heap.get? c=some o->h'.get? c=some o)->Q (some (.ref s.heap.objs.size)) { s with heap:=h' }) :
   A5 (A7 prog w) A (pyNext (.ref z)) Q E s:=by
 obtain⟨oz,ez,cz⟩:=st.isZip;have ty:s.TypeIs (.ref z) "zip":=⟨_,ez,cz⟩;have m1:l1≠z:=Ft st.s1 ez cz 0b0 0b0;have m2:l2≠z:=Ft st.s2 ez cz 0b0 0b0;have m5:l1≠i1:=st.it1.ne st.s1;have m6:l2≠i1:=st.it1.ne st.s2;have m7:l1≠i2:=st.it2.ne st.s1;have m8:l2≠i2:=st.it2.ne st.s2;have pl:(ps++[s.heap.objs.size]).length=ps.length+1:=0o0
 have mk:∀h',(∃f,∃p∈ps++[s.heap.objs.size],ZipK h' z TI TO p f)->ItB b1 h' i1 l1 (ps.length+1)->ItB b2 h' i2 l2 (ps.length+1)->IsPair h' s.heap.objs.size x y->(∀c o,c≠z->c≠TO->c≠i1->c≠i2->s.heap.get? c=some o->h'.get? c=some o)->(∀p∈ps,∀x y,IsPair s.heap p x y->IsPair h' p x y)->ZSt b1 b2 z TI TO i1 i2 l1 l2 xs ys h' (ps++[s.heap.objs.size]):=λh' ⟨f,p,hp,q1⟩ q2 q3 q4 k kp=>by
  refine⟨.inr ⟨p,f,hp,q1⟩,k _ _ D.a1 D.a5 D.a6 D.a7 st.ti,by rw[pl];exact q2,by rw[pl];exact q3,st.s1.at λo e=>k _ o m1 m3 m5 m7 e,st.s2.at λo e=>k _ o m2 m4 m6 m8 e,λj p hj=>?_⟩
  by_cases c:j<ps.length
  ·rw[Ao c] at hj;obtain⟨x,y,e1,e2,q⟩:=st.prs j p hj;exact⟨x,y,e1,e2,kp p (G4 hj) x y q⟩
  ·rw[An 0x0] at hj
   have ej:j=ps.length:=by
    rcases Nat.lt_or_ge (j-ps.length) 1 with h|h
    ·ext
    ·rw[i4 (by simpa using h)] at hj;cases hj
   subst ej;rw[DC] at hj;have:p=s.heap.objs.size:=(E7 hj).symm;rw[this];exact⟨x,y,hx,hy,q4⟩
 unfold pyNext;rcases st.zip with⟨e,hz,a,b,ht⟩|⟨p,f,hp,hz⟩
 ·have e0:ps.length=0:=by rw[e];rfl
  refine A3 (wpAny_attempt (Ag (name:=B1 "__next__") ty Bf (j9 Bf ty ER (Pz D m1 m2 m3 m4 m5 m6 hz st.ti ht st.it1 st.it2 st.s1 st.s2 hx hy λh' a1 a2 a3 a4 a5 k=>A9 ?_) (EQ _))));exact hQ h' (mk h' ⟨false,_,0o0,a1⟩ a3 a4 a5 k λp hp=>by rw[e] at hp;cases hp) k
 ·obtain⟨px,py,pq⟩:=st.pair hp;refine A3 (wpAny_attempt (Ag (name:=B1 "__next__") ty Bf (j9 Bf ty ER (Ri D m1 m2 m5 m6 hz pq st.ti st.it1 st.it2 st.s1 st.s2 hx hy λh' a1 a3 a4 a5 k=>A9 ?_) (EQ _))));have k':∀c o,c≠z->c≠TO->c≠i1->c≠i2->s.heap.get? c=some o->h'.get? c=some o:=λc o c1 _ c3 c4 e=>k c o c1 c3 c4 e;exact hQ h' (mk h' ⟨true,p,by simp[hp],a1⟩ a3 a4 a5 k' λp' hp' x y q=>k _ _ (DZ q ez cz 0b0) (FG st.it1 q) (FG st.it2 q) q) k'
def Rm {Q:Option A2->A4->Prop}(hh:A.handled=none)(D:ZAp z TI TO i1 i2)(m3:l1≠TO)(m4:l2≠TO)(st:ZSt b1 b2 z TI TO i1 i2 l1 l2 xs ys s.heap ps)(hx:xs[ps.length]?=none)
   (hQ:∀h',(∀c o,c≠z->c≠TO->c≠i1->c≠i2->s.heap.get? c=some o->h'.get? c=some o)->(∀p∈ps,∀x y,IsPair s.heap p x y->IsPair h' p x y)->Q none { s with heap:=h' }) :
   A5 (A7 prog w) A (pyNext (.ref z)) Q E s:=by
 obtain⟨oz,ez,cz⟩:=st.isZip;have ty:s.TypeIs (.ref z) "zip":=⟨_,ez,cz⟩;have m1:l1≠z:=Ft st.s1 ez cz 0b0 0b0;have m2:l2≠z:=Ft st.s2 ez cz 0b0 0b0;have m5:l1≠i1:=st.it1.ne st.s1;have m6:l2≠i1:=st.it1.ne st.s2;unfold pyNext;rcases st.zip with⟨e,hz,a,b,ht⟩|⟨p,f,hp,hz⟩
 ·have e':=e;refine A3 (wpAny_attempt (Ag (name:=B1 "__next__") ty Bf (j9 Bf ty ER (zipEnd (A:=A.in1) hh D m1 m2 m3 m4 m5 m6 hz st.ti ht st.it1 st.it2 st.s1 st.s2 (.inl hx) λh' e k he=>?_) (EQ _))));obtain⟨o,ho,hce⟩:=he;exact A3 (wpAny_isInstance (T:="StopIteration") (b:=true) ⟨o,ho,hce⟩ isSubtype_stop (A9 (hQ h' k λp hp=>by rw[e'] at hp;cases hp)))
 ·obtain⟨px,py,pq⟩:=st.pair hp;refine A3 (wpAny_attempt (Ag (name:=B1 "__next__") ty Bf (j9 Bf ty ER (Rj (A:=A.in1) hh D m1 m2 m5 m6 hz pq st.ti st.it1 st.it2 st.s1 st.s2 hx λh' e k he=>?_) (EQ _))));obtain⟨o,ho,hce⟩:=he;exact A3 (wpAny_isInstance (T:="StopIteration") (b:=true) ⟨o,ho,hce⟩ isSubtype_stop (A9 (hQ h' (λc o c1 _ c3 c4 e=>k c o c1 c3 c4 e) λp' hp' x y q=>k _ _ (DZ q ez cz 0b0) (FG st.it1 q) (FG st.it2 q) q)))
end
end
section
variable {prog:D4}{w:C0}{A:D9}{E:A2->A4->Prop}{s:A4}
def LK:entryFor table "dict.update.loop"=some Z8.«dict.update.loop»:=entryFor_of_tree (by kernel_rfl)
def FH:plainId "dict.update.loop"=true:=by decide +kernel
end
section
variable {prog:D4}{w:C0}{A:D9}{E:A2->A4->Prop}{s:A4}
def D_ {κ:Type}[DecidableEq κ]{knd:KeyKind prog w κ}{h h':B4}{k:List κ}{a:A1}(q:(R4 knd).is h k a)(kp:∀o,o.cls=.type "tuple"->h.get? a=some o->h'.get? a=some o):(R4 knd).is h' k a:=by
 obtain⟨o,jh,n,e,c,d⟩:=q;exact⟨o,jh,n,kp o c e,c,d⟩
section
variable {κ:Type}[DecidableEq κ]{knd:KeyKind prog w κ}{ps:List A1}{qs:List (List κ×A1×A2)}
def g9 (qs:List (List κ×A1×A2)):List (List κ×A1×A2):=qs.foldl (λxs q=>k7 xs q.1 q.2.1 q.2.2) []
def Ro (xs:List (List κ×A1×A2))(k:List κ)(a:A1)(v:A2):(k7 xs k a v).length<=xs.length+1:=by
 unfold k7
 split
 ·rw[B0];ext
 ·rw[D3];simp
def LL (qs:List (List κ×A1×A2)):(g9 qs).length<=qs.length:=by
 have:∀(qs xs:List (List κ×A1×A2)),(qs.foldl (λxs q=>k7 xs q.1 q.2.1 q.2.2) xs).length<=xs.length+qs.length:=by
  intro qs
  induction qs with
  |nil=>intro xs;simp
  | cons q qs ih =>
   intro xs;have h1:=ih (k7 xs q.1 q.2.1 q.2.2);have h2:=Ro xs q.1 q.2.1 q.2.2;rw[Du,F2];ext
 have h:=this qs []
 simpa[g9] using h
def Rp {i:Nat}{q:List κ×A1×A2}(h:qs[i]?=some q):g9 (qs.take (i+1))=k7 (g9 (qs.take i)) q.1 q.2.1 q.2.2:=by
 unfold g9;rw[List.take_succ,h,List.foldl_append]
 rfl
end
end
def hu2_of {A:D9}{k:Nat}(hr:Room k A):A.units+2<cLine:=At (Nat.add_le_add_left (by decide:2<=64) _) hr.units
abbrev PQ (H:Hp)(p:List Key×V)(q:List Key×A1×A2):Prop:=p.1=q.1/\H q.2.1=some (.tup (p.1.map kV))/\RelV p.2 q.2.2
def Ea (qs:List (List Key×V)):List (List Key×V):=qs.foldl (λd q=>putK d q.1 q.2) []
def Rq {H:Hp}{qs:List (List Key×V)}{qh:List (List Key×A1×A2)}(r:Paired (PQ H) qs qh):∀{ji:List (List Key×V)} {xs:List (List Key×A1×A2)},KT H ji xs->
   KT H (qs.foldl (λd q=>putK d q.1 q.2) ji) (qh.foldl (λxs q=>k7 xs q.1 q.2.1 q.2.2) xs):=by
 induction r with
 |nil=>intro ji xs h;exact h
 | @cons p q ps qs' h _ ih =>
  intro ji xs hk;rw[Du,Du];obtain⟨e1,e2,e3⟩:=h;rw[<- e1];exact ih (hk.put p.1 e2 e3)
end L2
namespace Pu
open PySem PySem.Spec L2
section
variable {T:PotK}{np:Bool}{ι:Type}{K:A6}{F:ι->Cx}{e:Expr}{pe:pE}{st:Stmt}{pos:Pos}
def putD {α:Type}(d:List (List Key)×List α)(q:List Key×α):List (List Key)×List α:=(U2 d.1 q.1,P4 d.1 d.2 q.1 q.2)
def dtF {α:Type}(qs:List (List Key×α)):List (List Key)×List α:=qs.foldl putD ([],[])
theorem LM {G:Gh}{H:Hp}:∀{qs:List (List Key×PV)} {us:List V} {ks:List (List Key)} {xs:List PV} {vs:List V},us.length=qs.length->Reps K G H (qs.map (·.2)) us->ks.length=xs.length->Reps K G H xs vs->
   ∃ws,(qs.foldl putD (ks,xs)).1.length=(qs.foldl putD (ks,xs)).2.length/\Reps K G H (qs.foldl putD (ks,xs)).2 ws/\((qs.map (·.1)).zip us).foldl (λd q=>putK d q.1 q.2) (ks.zip vs)=(qs.foldl putD (ks,xs)).1.zip ws
 | [], us, ks, xs, vs, l, r, hl, rx => by
  have:us=[]:=By l;subst this;exact⟨vs,hl,rx,rfl⟩
 | q :: qs, us, ks, xs, vs, l, r, hl, rx => by
  obtain⟨u,us',rfl,ru,rr⟩:=r;have l':us'.length=qs.length:=by simpa using l
  have hv:ks.length=vs.length:=hl.trans rx.length;obtain⟨ws,w1,w2,w3⟩:=LM (ks:=U2 ks q.1) (xs:=P4 ks xs q.1 q.2) (vs:=P4 ks vs q.1 u) l' rr (Qc hl q.1 q.2) (HB rx hl q.1 ru);refine⟨ws,w1,w2,?_⟩;show((qs.map (·.1)).zip us').foldl _ (putK (ks.zip vs) q.1 u)=_;rw[HA hv];exact w3
end
end Pu
end
section
namespace L2
open PySem PySem.W PySem.Spec PyProof.Rows
section
variable {X:Cx}
def Rr (tk tv:TE):TE:=λσ H Q=>∀p,H p=none->Hv [(tk,tv)] σ (upd H p (.dT [])) λps H2=>H2 p=some (.dT [])/\∃b k y,ps=[(.ref b,y)]/\H2 b=some (.tup (k.map kV))/\Q (.ref p) (upd H2 p (.dT [(k,y)]))
def Rs {k v:Expr}{tk tv:TE}{pos:Pos}(hu:X.A.units<cLine)(hk:PE X k tk)(hv:PE X v tv):PE X (.Dict [some k] [v] pos) (Rr tk tv):=by
 intro jd s σ H Q I q;have hn:=I.hok.fresh (B3 s.heap.objs.size);have I1:=I.laid (a:=s.heap.objs.size) (o:=.dT []) (h':=s.heap.push { cls:=.type "dict",data:=.dict #[] }) (t':=s.toks) (λ_ _ q=>C3 _ q) (B3 _) (PN s.heap I.big);have hl:=pairTrees_length [some k] [v] X.env pos rfl rfl;rw[arm_eval_Dict,zip_pairTrees [some k] [v] X.env pos rfl rfl,dictDisplay_pairs _ (λz=>by rw[z] at hl;cases hl) (by rw[hl];show 1<17;omega)];refine A3 (p5 (A3 ?_));unfold subDict;refine A3 (wpAny_alloc ?_);refine A3 (R3 ?_);rw[jw (by rw[hl];show 1<=15;omega)];refine A3 (thn (PU hk hv PR jd _ σ _ _ I1 (q _ hn)) λws s2 ⟨ps,H2,I2,rel,e,b,key,y,ep,eb,q2⟩=>?_);subst ep;cases rel with
 | @cons p1 p2 _ _ h1 t =>
  cases t;obtain⟨u,r⟩:=p2;obtain⟨ru,rr⟩:=h1;cases(show u=L5 b from ru);obtain⟨z,hd,xs,rl,dd⟩:=dt_of I2.hok e;cases rl;refine R3 ?_;rw[Dt];refine A3 (A3 (A3 (wpAny_dictSet_heap (hsz:=by decide) (show(R4 (P3 X.prog X.w)).room X.A from hu) (CV I2.hok eb) dd λh' dd' hs=>A9 ?_)));dsimp only;rw[Cf];refine A9 (A9 (A9 (A9 ?_)));obtain⟨q',es,ep',hq,h2,h3,h4,_,h5⟩:=dd';refine⟨.ref s.heap.objs.size,upd H2 s.heap.objs.size (.dT [(key,y)]),Fx I2 (by rw[e];exact t9) hs ⟨q',hq⟩ (show J1 X.prog X.w _ h' _ (.dT [(key,y)]) from⟨by show 1<=B5;decide,hd,_,?_,q',es,ep',hq,h2,h3,h4,h5⟩),rfl,q2⟩;exact .cons ⟨rfl,by rw[B6 (ne_of eb e (λz=>nomatch z))];exact eb,rr⟩ .nil
end
end L2
end
section
namespace Pu
open PySem PySem.Spec L2
def SR.takeV {C:Ct}{G:Gh}{σ:St}{H:Hp}{env:Env}{n:Nat}(S:SR C G σ H env n){i:Nat}{ks:List (List Key)}{xs:List PV}{a:A1}{vs:List V}(ex:env[i]?=some (some (.ow (.dt ks) xs)))(hl:ks.length=xs.length)(ev:σ[i]?=some (some (.ref a)))(r:Reps C.K G H xs vs){ob:HO}(hob:ob=.dT (ks.zip vs)\/∃o,ob=.frz o (.dT (ks.zip vs))) :
   ∃G',SR C G' σ (upd H a ob) (env.set i (some (.v (.fdt ks xs)))) n/\Ext G H G' (upd H a ob)/\a∉G'.M:=by
 have hlv:ks.length=vs.length:=by rw[hl];exact r.length
 obtain⟨G',S1,x1,aM,_,_⟩:=S.take ex ev ob;have r1:Reps C.K G' (upd H a ob) xs vs:=Reps.mono x1.keep x1.new x1.pot _ _ r;have rd:Rd (upd H a ob) a (.dT (ks.zip vs)):=hob.elim (λe=>.inl (by rw[J0,e])) λ⟨o,e⟩=>.inr ⟨o,by rw[J0,e]⟩;have rp:Rep C.K G' (upd H a ob) (.fdt ks xs) (.ref a):=⟨a,_,rfl,aM,rd,Ds (BA hlv),by rw[EE (BA hlv.symm)];exact r1⟩;have S2:=S1.set i rp
 have eσ:σ.set i (some (.ref a))=σ:=by
  obtain⟨hi,e⟩:=E5.mp ev;rw[<- e];exact List.set_getElem_self hi
 rw[List.set_set,eσ] at S2;exact⟨G',S2,x1,aM⟩
section
variable {T:PotK}{np:Bool}{ι:Type}{K:A6}{F:ι->Cx}{e ek c f:Expr}{st:Stmt}{pe pk pv pc pf:pE}{pos:Pos}{pg:pG}{p1:pS}
def P6 (i:Nat)(p:pS):pS:=λD env n=>match env[i]? with|some (some (.ow (.dt ks) xs))=>ks.length=xs.length/\p D (env.set i (some (.v (.fdt ks xs)))) n|some (some (.v _))=>p D env n|_=>False
def Rt (i:Nat)(h:QS T np K F st p1):QS T np K F st (P6 i p1):=by
 obtain⟨t,a1,a2⟩:=h;refine⟨t,a1,⇑_⟩;unfold P6 at hp
 split at hp
 ·rename_i ks xs ex;obtain⟨a,vs,ev,h1,h2,h3,h4,r⟩:=S.slots i _ ex;obtain⟨G',S',x',_⟩:=S.takeV ex hp.1 ev r (.inl rfl)
  have eH:upd H a (.dT (ks.zip vs))=H:=by
   funext b
   by_cases hb:b=a
   ·rw[hb,J0];exact h4.symm
   ·rw[B6 hb]
  rw[eH] at S' x';exact a2 C G' σ H _ n PD D hK hT hn S' hp.2 (L.ext x')
 ·exact a2 C G σ H env n PD D hK hT hn S hp L
 ·exact hp.elim
def Y5 (i:Nat)(pk pv:pE):pS:=λD env n=>pk env n λy je n1=>pv je n1 λx jf n2=>match y with|.tup ys=>(match F8 ys with|some k=>D.nx (jf.set i (some (.ow (.dt [k]) [x]))) n2|none=>False)|_=>False
def getT:List (List Key)->List PV->List Key->Option PV
 |k'::ks,x::xs,k=>if k'=k then some x else getT ks xs k
 |_,_,_=>none
theorem HL {G:Gh}{H:Hp}(k:List Key):∀(ji:List (List Key×V)) (xs:List PV),Reps K G H xs (ji.map (·.2))->(getT (ji.map (·.1)) xs k=none/\valV ji k=none)\/∃x v,getT (ji.map (·.1)) xs k=some x/\valV ji k=some v/\Rep K G H x v
 |[],xs,_=>.inl ⟨by cases xs <;> rfl,rfl⟩
 |(k',v')::ji,[],h=>by cases h
 | (k', v') :: ji, x :: xs, h => by
  obtain⟨v,t,e,h1,h2⟩:=h;rw[G7] at e;injection e with e1 e2;subst e1;subst e2
  by_cases c:k'=k
  ·refine .inr ⟨x,v',?_,?_,h1⟩
   ·show(if k'=k then some x else _)=_;rw[jw c]
   ·show(((k',v')::ji).find? λkv=>decide (kv.1=k)).map (·.2)=_;rw[List.find?_cons_of_pos (by exact ju c)];rfl
  ·have e1:getT (((k',v')::ji).map (·.1)) (x::xs) k=getT (ji.map (·.1)) xs k:=by
    show(if k'=k then some x else getT (ji.map (·.1)) xs k)=_;rw[jy c]
   have e2:valV ((k',v')::ji) k=valV ji k:=by
    show(((k',v')::ji).find? λkv=>decide (kv.1=k)).map (·.2)=_;rw[List.find?_cons_of_neg (by simpa using c)];rfl
   rw[e1,e2];exact HL k ji xs h2
def DGet.tR {H:Hp}{a b:A1}{ji:List (List Key×V)}{k:List Key}(e:Rd H a (.dT ji))(eb:H b=some (.tup (k.map kV))):DGet H a (.ref b) (valV ji k):=.inr ⟨ji,k,b,e,rfl,eb,rfl⟩
def FI {G:Gh}{H:Hp}{ys:List PV}{v:V}{k:List Key}(r:Rep K G H (.tup ys) v)(ek:F8 ys=some k):∃b,v=.ref b/\H b=some (.tup (k.map kV)):=by
 obtain⟨b,ws,rfl,atb,rb⟩:=r;rw[DY ek] at rb;exact⟨b,rfl,by rw[<- DX k rb];exact atb.2⟩
def qIxT (pd pk:pE):pE:=λenv n R=>pd env n λd je n1=>pk je n1 λk jf n2=>match d,k with|.fdt ks xs,.tup ys=>(match F8 ys with|some key=>(match getT ks xs key with|some x=>R x jf n2|none=>False)|none=>False)|_,_=>False
def qe_ixT {k0:Nat}(hr:∀z,Room k0 (F z).A)(he:QE T K F e pe)(hc:QE T K F c pc)(hs:NoSl c):QE T K F (.Subscript e c pos) (qIxT pe pc):=by
 obtain⟨t,a1,a2⟩:=he;obtain⟨u,b1,b2⟩:=hc;refine⟨Hu t u,λz=>Ln (BI (hr z)) (a1 z) (b1 z) hs,⇑?_⟩;refine ↥a2 λx je n1 v H1 q1 S1 r1 f1=>?_;refine b2 C G σ H1 je n1 _ _ hK hT S1 q1 λy jf n2 v2 H2 q2 S2 r2 f2=>?_
 split at q2
 ·rename_i ks xs ys
  split at q2
  ·rename_i key e2;obtain⟨a,ji,rfl,hM,ha,ek,rx⟩:=r1;have ha2:Rd H2 a (.dT ji):=Rd.keep (u:=.dT ji) ha λo e=>f2 a o hM e;have rx2:Reps K G H2 xs (ji.map (·.2)):=rx.fr f2;obtain⟨b,rfl,eb⟩:=FI r2 e2;rw[<- ek] at q2;rcases HL key ji xs rx2 with⟨g1,g2⟩|⟨x,v,g1,g2,g3⟩
   ·rw[g1] at q2;exact q2.elim
   ·rw[g1] at q2;have dg:DGet H2 a (.ref b) (valV ji key):=DGet.tR ha2 eb;rw[g2] at dg;exact⟨a,v,rfl,dg,k _ _ _ _ _ q2 S2 g3 (f1.trans f2)⟩
  ·exact q2.elim
 ·exact q2.elim
def memT (ks:List (List Key))(k:List Key):Bool:=ks.any λz=>decide (z=k)
def Ru {ks:List (List Key)}{k:List Key}:memT ks k=true↔k∈ks:=by
 unfold memT;rw[p9];exact⟨λ⟨x,h,e⟩=>by rw[<- jz e];exact h,λh=>⟨k,h,ju rfl⟩⟩
def Rv {ji:List (List Key×V)}{k:List Key}:(valV ji k).isSome=memT (ji.map (·.1)) k:=by
 rw[<- Fu];unfold memT;rw[Dw];rfl
end
section
variable {T:PotK}{np:Bool}{ι:Type}{K:A6}{F:ι->Cx}{a c e:Expr}{pa pc:pE}{pos:Pos}
def P7 (i:Nat)(pa:pE):pE:=λenv n R=>pa env n λx je n1=>match je[i]?,x with
 |some (some (.ow (.dt ks) xs)),.tup ys=>(match F8 ys with|some k=>ks.length=xs.length/\R (.bl (!memT ks k)) je n1|none=>False)
 |_,_=>False
def Rw {t:TE}(i:Nat)(h2:EOk K T t pa):EOk K T (tOp HJ t (tVar i)) (P7 i pa):=λC G σ H env n R Q hK hT S hp k=>by
 refine ↥h2 λx je n1 v H1 q1 S1 r1 f1=>?_
 split at q1
 ·rename_i ks xs ys ex
  split at q1
  ·rename_i key ek;obtain⟨a,vs,ev,g1,g2,g3,g4,r'⟩:=S1.slots i _ ex;obtain⟨hl,q1⟩:=q1;obtain⟨b,rfl,eb⟩:=FI r1 ek
   have e:(valV (ks.zip vs) key).isSome=memT ks key:=by
    rw[Rv,Ds (by rw[hl,r'.length];exact B3 _)]
   refine⟨.ref a,ev,a,valV (ks.zip vs) key,rfl,DGet.tR (.inl g4) eb,?_⟩;rw[e];exact k _ _ _ _ _ q1 S1 rfl f1
  ·exact q1.elim
 ·exact q1.elim
def Rx (i:Nat){x:Str}{p:Pos}{k:Nat}(hr:∀z,Room k (F z).A)(hv:∀z,EW (F z) (.Name x p) (tVar i))(ha:QE T K F a pa):QT T K F (.Compare a [.NotIn] [.Name x p] pos) (qB (P7 i pa)):=by
 obtain⟨t,h1,h2⟩:=ha;exact⟨_,λz=>BH (HK (BI (hr z))) (h1 z) (hv z).h rfl,CL (Rw i h2)⟩
def L7 (i:Nat)(pk:pE):pE:=λenv n R=>(∃ks xs,env[i]?=some (some (.ow (.dt ks) xs)))/\pk env n λy je n1=>match je[i]?,y with
 |some (some (.ow (.dt ks) xs)),.tup ys=>(match F8 ys with|some k=>ks.length=xs.length/\(match getT ks xs k with|some x=>R x je n1|none=>False)|none=>False)
 |_,_=>False
def Ry (i:Nat){k0:Nat}(hr:∀z,Room k0 (F z).A)(hv:∀z,EW (F z) e (tVar i))(hc:QE T K F c pc)(hs:NoSl c):QE T K F (.Subscript e c pos) (L7 i pc):=by
 obtain⟨u,b1,b2⟩:=hc;refine⟨Hu (tVar i) u,λz=>Ln (BI (hr z)) (hv z).h (b1 z) hs,⇑?_⟩;obtain⟨⟨ks0,xs0,e0⟩,hp⟩:=hp;obtain⟨a,vs0,ev,h1,h2,h3,h4,r⟩:=S.slots i _ e0;refine⟨.ref a,ev,?_⟩;refine ↥b2 λy jf n2 v2 H2 q2 S2 r2 f2=>?_
 split at q2
 ·rename_i ks xs ys ex
  split at q2
  ·rename_i key e2;obtain⟨hl,q2⟩:=q2;obtain⟨a',vs,ev',g1,g2,g3,g4,rr⟩:=S2.slots i _ ex;rw[ev] at ev';cases ev';have hlv:ks.length=vs.length:=by rw[hl];exact rr.length
   obtain⟨b,rfl,eb⟩:=FI r2 e2;have g4':Rd H2 a (.dT (ks.zip vs)):=.inl g4;have dg:=DGet.tR (k:=key) g4' eb;have em:(ks.zip vs).map (·.1)=ks:=Ds (BA hlv);have em2:(ks.zip vs).map (·.2)=vs:=EE (BA hlv.symm);have rr':Reps K G H2 xs ((ks.zip vs).map (·.2)):=by rw[em2,<- hK];exact rr
   rcases HL key (ks.zip vs) xs rr' with⟨k1,k2⟩|⟨x,v,k1,k2,k3⟩
   ·rw[em] at k1;rw[k1] at q2;exact q2.elim
   ·rw[em] at k1;rw[k1] at q2;rw[k2] at dg;exact⟨a,v,rfl,dg,k _ _ _ _ _ q2 S2 k3 f2⟩
  ·exact q2.elim
 ·exact q2.elim
end
def SR.unhid {C:Ct}{G:Gh}{σ:St}{H:Hp}{env:Env}{n:Nat}{a:A1}{ob:HO}(S:SR (C.hid a ob) G σ H env n)(ha:a∉C.M0)(hp0:∀p∈C.pots0,p∈C.M0)(h0:C.H0 a=none):SR C G σ H env n/\H a=some ob/\¬CO σ env a:=by
 have hap:a∉C.pots0:=λz=>ha (hp0 a z)
 refine⟨{
  frame:=λb o hb e=>S.frame b o hb (by
   show upd C.H0 a ob b=some o
   rw[B6 (λz=>by rw[z,h0] at e;cases e)];exact e)
  sub:=fun b hb=>by
   by_cases hba:b=a
   ·exact .inr (hba▸h0)
   ·rcases S.sub b hb with z|z
    ·rcases B9.mp (show b∈a::C.M0 from z) with z|z
     ·exact absurd z hba
     ·exact .inl z
    ·have z':upd C.H0 a ob b=none:=z;rw[B6 hba] at z';exact .inr z'
  sup:=λb hb=>S.sup b (C1 _ hb)
  pots:=S.pots
  pre:=S.pre
  mu:=S.mu
  slots:=λi s e=>by
   cases s with
   | v x =>
    obtain⟨v,ev,r⟩:=S.slots i _ e;exact⟨v,ev,r⟩
   | ow kk xs =>
    obtain⟨b,us,ev,h1,h2,h3,h4,r⟩:=S.slots i _ e;exact⟨b,us,ev,h1,λz=>h2 (C1 _ z),h3,h4,r⟩
  inj:=S.inj
  p0:=⟨hp0,S.p0.2⟩
  len:=S.len
  newp:=λp hp hn hM=>S.newp p hp hn (C1 _ hM) },S.frame a _ hap J0,?_⟩
 rintro⟨j,ys,e1,e2⟩;obtain⟨b,us,ev,h1,h2,_⟩:=S.slots j _ e1;rw[e2] at ev;cases ev;exact h2 D2
def SR.rehide {C:Ct}{G:Gh}{σ:St}{H:Hp}{env:Env}{n:Nat}{p:A1}{ob ob':HO}(S:SR (C.hid p ob) G σ H env n)(mo:MutO ob')(h2:p∉C.pots0):SR (C.hid p ob') G σ (upd H p ob') env n/\Fr G H (upd H p ob'):=by
 have pM:p∈G.M:=S.sup p D2;have pp:p∉G.pots:=λz=>S.newp p z h2 D2;have f:Fr G H (upd H p ob'):=λb o hb he=>by rw[B6 (λz=>hb (by rw[z];exact pM))];exact he
 refine⟨{
  frame:=λb o hb e=>?_
  sub:=λb hb=>?_
  sup:=S.sup
  pots:=λq hq=>⟨(S.pots q hq).1,C.T.keep (S.pots q hq).2 (B6 λz=>pp (by rw[<- z];exact hq)) f⟩
  pre:=S.pre
  mu:=λb hb=>?_
  slots:=λj s es=>?_
  inj:=S.inj
  p0:=S.p0
  len:=S.len
  newp:=S.newp },f⟩
 ·have e':upd C.H0 p ob' b=some o:=e
  by_cases h:b=p
  ·subst h;rw[J0] at e' ⊢;exact e'
  ·rw[B6 h] at e' ⊢;exact S.frame b o hb (by show upd C.H0 p ob b=some o;rw[B6 h];exact e')
 ·by_cases h:b=p
  ·exact .inl (by rw[h];exact D2)
  ·rcases S.sub b hb with z|z
   ·exact .inl z
   ·refine .inr ?_;have z':upd C.H0 p ob b=none:=z;show upd C.H0 p ob' b=none;rw[B6 h] at z' ⊢;exact z'
 ·by_cases h:b=p
  ·subst h;exact⟨ob',J0,mo⟩
  ·obtain⟨o,e,m⟩:=S.mu b hb;exact⟨o,by rw[B6 h];exact e,m⟩
 ·have r:=S.slots j s es;cases s with
  |v x=>obtain⟨v,e,r⟩:=r;exact⟨v,e,Rep.mono f (λ_ h=>.inl h) (λ_ _ e=>e) _ _ r⟩
  | ow kk xs =>
   obtain⟨b,us,e,h1,h2,h3,h4,r⟩:=r;have bp:b≠p:=λz=>h2 (by rw[z];exact D2);exact⟨b,us,e,h1,h2,h3,by rw[B6 bp];exact h4,Reps.mono f (λ_ h=>.inl h) (λ_ _ e=>e) _ _ r⟩
theorem Gots.unhid {C:Ct}{G:Gh}{H:Hp}{σ:St}{env:Env}{a:A1}{ob:HO}:∀{ss:List Slot} {vs:List V},Gots (C.hid a ob) G H σ env ss vs->Gots C G H σ env ss vs/\∀(ys:OK×List PV) w,(Slot.ow ys.1 ys.2,w)∈ss.zip vs->w≠.ref a
 |[],_,h=>⟨h,λ_ _ z=>by simp at z⟩
 | s :: ss, vs, h => by
  obtain⟨v,r,rfl,g,ne,h⟩:=h;obtain⟨h1,h2⟩:=Gots.unhid h
  have gy:Got C G H σ env s v:=by
   refine⟨?_,g.2⟩;cases s with
   |v x=>exact g.1
   | ow kk ys =>
    obtain⟨b,us,ev,g1,g2,g3,g4,r⟩:=g.1;exact⟨b,us,ev,g1,λz=>g2 (C1 _ z),g3,g4,r⟩
  refine⟨⟨v,r,rfl,gy,ne,h1⟩,λys w hw ew=>?_⟩;rw[Ap] at hw;rcases B9.mp hw with e|hw
  ·cases e;obtain⟨b,us,ev,g1,g2,_⟩:=g.1;rw[ew] at ev;cases ev;exact g2 D2
  ·exact h2 ys w hw ew
section
variable {T:PotK}{np:Bool}{ι:Type}{K:A6}{F:ι->Cx}{e ek:Expr}{es:List Expr}{pk pv:pE}{sl:pSlN}{pos:Pos}
def slT1 (pk pv:pE)(r:pSlN):pSlN:=λenv n R=>pk env n λy je n1=>pv je n1 λx jf n2=>match y with
 |.tup ys=>(match F8 ys with|some k=>r jf n2 λss jg n3=>R (.ow (.dt [k]) [x]::ss) jg n3|none=>False)
 |_=>False
def qls_t1 {k0:Nat}(hr:∀z,Room k0 (F z).A)(hk:QE T K F ek pk)(hv:QE T K F e pv)(hs:QLs T K F es sl):QLs T K F (.Dict [some ek] [e] pos::es) (slT1 pk pv sl):=by
 obtain⟨tk,k1,k2⟩:=hk;obtain⟨tv,v1,v2⟩:=hv;obtain⟨u,b1,b2⟩:=hs;refine⟨_,λz=>E8 (Rs (Nat.lt_of_succ_lt (BI (hr z))) (k1 z) (v1 z)) (b1 z) (C9 rfl),λC G σ H env n R Q hK hT S hp kk=>?_⟩;intro p hn1;have S1:=S.hide (ob:=.dT []) trivial hn1;have pM:p∉C.M0:=λz=>S.fresh hn1 (S.sup p z);have p0:p∉C.pots0:=λz=>pM (S.p0.1 p z);refine k2 (C.hid p (.dT [])) _ σ _ env n _ _ hK hT S1 hp λy je n1 v H1 q1 S1 r1 f1=>?_;refine v2 (C.hid p (.dT [])) _ σ _ je n1 _ _ hK hT S1 q1 λx jf n2 w H2 q2 S2 r2 f2=>?_;refine⟨S2.hid_at p0,?_⟩
 split at q2
 ·rename_i ys
  split at q2
  ·rename_i key ek;obtain⟨b,ws,rfl,atb,rb⟩:=r1.fr f2;rw[DY ek] at rb;have eb:H2 b=some (.tup (key.map kV)):=by rw[<- DX key rb];exact atb.2
   refine⟨b,key,w,rfl,eb,?_⟩;obtain⟨S3,f3⟩:=S2.rehide (ob':=.dT [(key,w)]) trivial p0;have x1:Ext G H ⟨p::G.M,G.pots⟩ (upd H2 p (.dT [(key,w)])):=(Bn hn1).trans (Ext.fr ((f1.trans f2).trans f3))
   have r3:Reps C.K ⟨p::G.M,G.pots⟩ (upd H2 p (.dT [(key,w)])) [x] [w]:=by
    rw[hK];exact .one (r2.fr f3)
   refine b2 (C.hid p (.dT [(key,w)])) ⟨p::G.M,G.pots⟩ σ _ jf n2 _ _ hK hT S3 q2 λss jg n3 us G3 H3 q3 S4 x3 g3=>?_;obtain⟨S5,e5,no⟩:=S4.unhid pM S.p0.1 (S.old hn1);have aM:p∈G3.M:=S4.sup p D2;have ap:p∉G3.pots:=λz=>S4.newp p z p0 D2;obtain⟨g4,g5⟩:=g3.unhid;refine kk _ _ _ _ _ _ q3 S5 (x1.trans x3) ⟨.ref p,us,rfl,⟨⟨p,[w],rfl,aM,pM,ap,e5,Reps.mono x3.keep x3.new x3.pot _ _ r3⟩,λ_ _ _ e=>by cases e;exact no⟩,λxs' b ex ev ys w hw=>?_,g4⟩;cases ev;exact g5 ys w hw
  ·exact q2.elim
 ·exact q2.elim
end
end Pu
end
section
namespace L2
open PySem PySem.Spec PyProof.Rows
def Rz:typeLookup (.type "zip") "__getattr__"=pure none:=by rw[typeLookup_type,builtinLookup_eq_fast];kernel_rfl
def RA:typeLookup (.type "zip") "keys"=pure none:=by rw[typeLookup_type,builtinLookup_eq_fast];kernel_rfl
def RB:entryFor table "zip.__getattribute__"=some Z8.«object.__getattribute__»:=entryFor_alias (id':="object.__getattribute__") (by kernel_rfl) (by decide +kernel) (by decide +kernel) (by kernel_rfl)
def RC (z:A1)(fs:Array A2)(u:Tok):Meets (Z8.«object.__getattribute__» ⟨[.ref z,.str "keys" u],[]⟩) (λA R s=>s.heap.get? z=some { cls:=.type "zip",data:=.fields fs }/\raisesAttr (.ref z) "keys" A R s):=
 Meets.of_wp λprog w A R s h0=>by
  obtain⟨hp,g,d,tk,os⟩:=s;obtain⟨hz,h0⟩:=h0;have tz:(⟨hp,g,d,tk,os⟩:A4).TypeIs (.ref z) "zip":=⟨_,hz,rfl⟩;have no:=RA;unfold Z8.«object.__getattribute__»
  repeat (any_goals (first|assumption|wp_step))
  exact wpAny_raiseAttrError h0.1 h0.2 (attrMsg_fits (by decide +kernel) (by size_fits))
section
variable {prog:D4}{w:C0}{A:D9}{E:A2->A4->Prop}{s:A4}
def RD {z:A1}{fs:Array A2}{Q:Option A2->A4->Prop}(hx:s.heap.get? z=some { cls:=.type "zip",data:=.fields fs })(hA:A.handled=none)
   (h:∀h' tk,(∀c o,s.heap.get? c=some o->h'.get? c=some o)->Q none { s with heap:=h',toks:=tk }) :
   A5 (A7 prog w) A (getAttr? (.ref z) "keys") Q E s:=by
 obtain⟨hp,g,d,tk,os⟩:=s;have hT:∀tk',(⟨hp,g,d,tk',os⟩:A4).TypeIs (.ref z) "zip":=λ_=>⟨_,hx,rfl⟩;have f1:=sub_AttributeError;have f3:=F.slot_zip_getattribute.lookup;have f4:=F.slot_zip_getattribute.bind (.ref z);have f5:=Rz;unfold getAttr? getAttrBy? getAttrBy
 repeat (any_goals (first|assumption|exact hT _|((with_reducible show A5 _ _ (call (Value.builtin "zip.__getattribute__") _ _) _ _ _);refine v4 F.slot_zip_getattribute (hT _) RB (F.args_zip_getattribute_2 _ _) (RC z fs _) ⟨hx,hA,λh' tk' e hx'=>?_⟩)|wp_step))
 obtain⟨t',u',he⟩:=hx'.there;show A5 _ _ (getattributeRaised _ _ _ _ _ _ _) _ _ _;unfold getattributeRaised
 repeat (any_goals (first|assumption|wp_step))
 exact h _ _ hx'.keeps
end
section
variable {prog:D4}{w:C0}{A:D9}{E:A2->A4->Prop}{s:A4}
section
variable {κ:Type}[DecidableEq κ]{knd:KeyKind prog w κ}{qs:List (List κ×A1×A2)}{b1 b2:Bool}{z TI TO i1 i2 l1 l2:A1}{xs ys:Array A2}
def RE (xs:List (List κ×A1×A2))(k:List κ)(a:A1)(v:A2)(P:A1->Prop)(h:∀x∈xs,P x.2.1)(ha:P a):∀x∈k7 xs k a v,P x.2.1:=by
 intro x hx;unfold k7 at hx
 split at hx
 ·obtain⟨y,hy,rfl⟩:=E4.mp hx;have:(putAt k v y).2.1=y.2.1:=by unfold putAt;split <;> rfl
  rw[this];exact h y hy
 ·rcases D6.mp hx with hx|hx
  ·exact h x hx
  ·rw[E2.mp hx];exact ha
def RF (P:A1->Prop)(h:∀q∈qs,P q.2.1):∀x∈g9 qs,P x.2.1:=by
 have:∀(qs xs:List (List κ×A1×A2)),(∀q∈qs,P q.2.1)->(∀x∈xs,P x.2.1)->∀x∈qs.foldl (λxs q=>k7 xs q.1 q.2.1 q.2.2) xs,P x.2.1:=by
  intro qs
  induction qs with
  |nil=>intro xs _ h;exact h
  | cons q qs ih =>
   intro xs h1 h2;rw[Du];exact ih _ (λq' hq=>h1 q' (C1 _ hq)) (RE xs _ _ _ P h2 (h1 q D2))
 exact this qs [] h (λx hx=>absurd hx R5)
def RG {R:Result->A4->Prop}(hh:A.handled=none)(hu:A.units+1<cLine)(Z:ZAp z TI TO i1 i2)(m3:l1≠TO)(m4:l2≠TO){D:A1}(hS:∀c∈[z,TI,TO,i1,i2,l1,l2],c≠D)(hn:xs.size=ys.size)(hl:xs.size<=1000)(lq:qs.length=xs.size)
   (hq:∀(j:Nat) (q:List κ×A1×A2),qs[j]?=some q->xs[j]?=some (.ref q.2.1)/\ys[j]?=some q.2.2) (hd:∀q∈qs,q.2.1≠z/\q.2.1≠TO/\q.2.1≠i1/\q.2.1≠i2/\q.2.1≠D) :
   ∀(m:Nat) (s:A4) (ps:List A1),xs.size-ps.length=m->ps.length<=xs.size->ZSt b1 b2 z TI TO i1 i2 l1 l2 xs ys s.heap ps->(∀q∈qs,(R4 knd).is s.heap q.1 q.2.1)->s.heap.DictOfH (R4 knd) D (g9 (qs.take ps.length))->
   (∀h' tk,h'.DictOfH (R4 knd) D (g9 qs)->(∀c o,c≠D->c≠z->c≠TO->c≠i1->c≠i2->s.heap.get? c=some o->h'.get? c=some o)->R (.ok (.ret .none)) { s with heap:=h',toks:=tk })->
   W0 (A7 prog w) A (.builtin "dict.update.loop" ⟨[.ref D,.ref z,rawInt ps.length,.none],[]⟩) R s:=by
 have sl:(1000:Nat)<=B5:=0b0
 have hS':=hS;simp only[B9,R5,or_false,forall_eq_or_imp,forall_eq] at hS';obtain⟨a1,a2,a3,a4,a5,a6,a7⟩:=hS'
 have dkeep:∀{h h':B4} {i:Nat},h.DictOfH (R4 knd) D (g9 (qs.take i))->(∀c o,c≠z->c≠TO->c≠i1->c≠i2->h.get? c=some o->h'.get? c=some o)->h'.DictOfH (R4 knd) D (g9 (qs.take i)):=by
  intro h h' i dd k1;obtain⟨o,es,ep,e1,e2,e3,e4,e5,e6⟩:=dd;have at_:=RF (qs:=qs.take i) (λa=>a≠z/\a≠TO/\a≠i1/\a≠i2/\a≠D) λq hq=>hd q (i5 hq);exact⟨o,es,ep,k1 _ _ a1.symm a3.symm a4.symm a5.symm e1,e2,e3,e4,λx hx=>D_ (e5 x hx) λo _ e=>k1 _ _ (at_ x hx).1 (at_ x hx).2.1 (at_ x hx).2.2.1 (at_ x hx).2.2.2.1 e,e6⟩
 intro m
 induction m with
 | zero =>
  intro s ps hm hi st hk hD hR;refine Ez LK ?_;rw[Around.under_plainId FH _];show A5 _ A.in1 (pyNext (.ref z)>>=_) _ _ s;refine A3 (Rm (A:=A.in1) hh Z m3 m4 st (Array.getElem?_eq_none 0x0) λh' k kp=>?_);show A5 _ A.in1 (Builtin.Dict.addKeywords D []>>=_) _ _ _;refine A3 (A9 (A9 ?_));have hD':=dkeep hD k;rw[k9 0x0] at hD';exact hR h' s.toks hD' λc o _ c1 c2 c3 c4 e=>k c o c1 c2 c3 c4 e
 | succ m ih =>
  intro s ps hm hi st hk hD hR;have hlt:ps.length<xs.size:=0x0
  have hlq:ps.length<qs.length:=0x0
  obtain⟨q,eq⟩:∃q,qs[ps.length]?=some q:=⟨_,D1 hlq⟩;have mq:q∈qs:=G4 eq;obtain⟨ex,ey⟩:=hq _ _ eq;refine Ez LK ?_;rw[Around.under_plainId FH _];show A5 _ A.in1 (pyNext (.ref z)>>=_) _ _ s;refine A3 (Rk (A:=A.in1) Z m3 m4 st ex ey λh1 st1 k1=>?_);obtain⟨x',y',ex',ey',pq⟩:=st1.prs ps.length s.heap.objs.size 0o0;rw[ex] at ex';rw[ey] at ey';cases ex';cases ey';have kk1:∀q∈qs,(R4 knd).is h1 q.1 q.2.1:=λq hq=>D_ (hk q hq) λo _ e=>k1 _ _ (hd q hq).1 (hd q hq).2.1 (hd q hq).2.2.1 (hd q hq).2.2.2.1 e;have hD1:=dkeep hD k1;refine A3 (R3 ?_);refine A3 (wpAny_tryCatch ?_);unfold Builtin.Dict.pairItems;refine A3 (AO (T:="tuple") (s:={ s with heap:=h1 }) ⟨_,pq,rfl⟩ ?_);rw[jw 0b0];refine A3 (o9 (s:={ s with heap:=h1 }) pq rfl (A9 ?_));show A5 _ A.in1 (w8 [.ref q.2.1,q.2.2] (dictSet D (.ref q.2.1) q.2.2)) _ _ _;have ml:=LL (qs.take ps.length);refine R3 (wpAny_dictSet_heap (s:={ s with heap:=h1 }) (hsz:=by rw[l6] at ml;omega) (Eu hu) (kk1 q mq) hD1 λh2 hD2 s2=>?_);rw[<- Rp eq] at hD2;have k2:∀c o,c≠D->h1.get? c=some o->h2.get? c=some o:=λc o hc e=>s2.extBut c o hc e
  have pn:∀p∈ps++[s.heap.objs.size],p≠D:=by
   intro p hp e;obtain⟨x,y,q'⟩:=st1.pair hp;obtain⟨o',es,ep,e1,e2,_⟩:=hD1;exact DZ q' e1 e2.1 0b0 e
  refine A9 ⟨plainId_quiet FH _,?_⟩;have pl:(ps++[s.heap.objs.size]).length=ps.length+1:=0o0
  rw[show((ps.length:Int)+1)=(((ps++[s.heap.objs.size]).length:Nat):Int) by rw[pl];omega];refine ih { s with heap:=h2,toks:=s.toks+_ } (ps++[s.heap.objs.size]) 0x0 0x0 (st1.at hS pn k2) (λq hq=>D_ (kk1 q hq) λo _ e=>k2 _ _ (hd q hq).2.2.2.2 e) (by rw[pl];exact hD2) λh' tk q1 q2=>hR h' tk q1 λc o c0 c1 c2 c3 c4 e=>q2 c o c0 c1 c2 c3 c4 (k2 c o c0 (k1 c o c1 c2 c3 c4 e))
end
end
section
variable {prog:D4}{w:C0}{A:D9}{E:A2->A4->Prop}{s:A4}
section
variable {κ:Type}[DecidableEq κ]{knd:KeyKind prog w κ}{qs:List (List κ×A1×A2)}{b1 b2:Bool}{z TI TO i1 i2 l1 l2:A1}{xs ys:Array A2}
def ZSt.keep {h h':B4}(st:ZSt b1 b2 z TI TO i1 i2 l1 l2 xs ys h [])(k:∀c o,h.get? c=some o->h'.get? c=some o):ZSt b1 b2 z TI TO i1 i2 l1 l2 xs ys h' []:=by
 refine⟨?_,k _ _ st.ti,st.it1.at λo e=>k _ o e,st.it2.at λo e=>k _ o e,st.s1.at λo e=>k _ o e,st.s2.at λo e=>k _ o e,λj p hj=>by cases hj⟩;rcases st.zip with⟨e,hz,a,b,ht⟩|⟨p,f,hp,hz⟩
 ·exact .inl ⟨e,k _ _ hz,a,b,k _ _ ht⟩
 ·cases hp
def RH {Q:A2->A4->Prop}(hh:A.handled=none)(hu:A.units+2<cLine)(Z:ZAp z TI TO i1 i2)(m3:l1≠TO)(m4:l2≠TO)(hn:xs.size=ys.size)(hl:xs.size<=1000)(lq:qs.length=xs.size)
   (hq:∀(j:Nat) (q:List κ×A1×A2),qs[j]?=some q->xs[j]?=some (.ref q.2.1)/\ys[j]?=some q.2.2) (hd:∀q∈qs,q.2.1≠z/\q.2.1≠TO/\q.2.1≠i1/\q.2.1≠i2)
   (st:ZSt b1 b2 z TI TO i1 i2 l1 l2 xs ys s.heap []) (hlt:∀c∈[z,TI,TO,i1,i2,l1,l2],c<s.heap.objs.size) (hk:∀q∈qs,(R4 knd).is s.heap q.1 q.2.1)
   (hQ:∀h' tk,h'.DictOfH (R4 knd) s.heap.objs.size (g9 qs)->(∀c o,c≠z->c≠TO->c≠i1->c≠i2->s.heap.get? c=some o->h'.get? c=some o)->Q (.ref s.heap.objs.size) { s with heap:=h',toks:=tk }) :
   A5 (A7 prog w) A (call (.type "dict") [.ref z]) Q E s:=by
 refine callType_codes (Q₁:=λobj s₁=>obj=.ref s.heap.objs.size/\s₁={ s with heap:=s.heap.push { cls:=.type "dict",data:=.dict #[] } }) F.kt_called_dict (F.kt_typeCall_dict_1 _) F.entry_dict_init (kt_code_dict_new _ ⟨rfl,rfl⟩) ?_;rintro obj s₁ ⟨rfl,rfl⟩;have hnew:(s.heap.push { cls:=.type "dict",data:=.dict #[] }).DictOfH (R4 knd) s.heap.objs.size []:=Heap.DictOfH.new s.heap;have old:∀c o,s.heap.get? c=some o->c≠s.heap.objs.size:=λc o e=>F3 (C7 e);have nS:∀c∈[z,TI,TO,i1,i2,l1,l2],c≠s.heap.objs.size:=λc hc=>F3 (hlt c hc);have up:∀c o,s.heap.get? c=some o->(s.heap.push { cls:=.type "dict",data:=.dict #[] }).get? c=some o:=λc o e=>C3 _ e
 have hdD:∀q∈qs,q.2.1≠s.heap.objs.size:=λq hq'=>by
  obtain⟨o,jh,n,e,_⟩:=hk q hq';exact old _ _ e
 have D0:=hnew;refine⟨hnew.typeIs,F.args_dict_init_2 _ _,?_⟩;generalize hg:s.heap.push { cls:=.type "dict",data:=.dict #[] }=g at *;generalize hD:s.heap.objs.size=D at *;unfold Z8.«dict.__init__»;refine A3 ?_;unfold Builtin.Dict.selfAndRest;refine A3 (wpAny_notOrdered_dict (s:={ s with heap:=g }) hnew.typeIs ?_);show A5 _ _ (pure (D,[L5 z])) _ _ _;refine A9 ?_;show A5 _ _ (Builtin.Dict.updateFrom "dict.__init__" D (.ref z) [] .none) _ _ _;unfold Builtin.Dict.updateFrom;have st1:=st.keep up
 have hz1:IsZip g z TI TO .none:=by
  rcases st1.zip with⟨_,hz,_⟩|⟨p,f,hp,_⟩
  ·exact hz
  ·cases hp
 refine A3 (AO (T:="zip") (s:={ s with heap:=g }) ⟨_,hz1,rfl⟩ ?_);rw[jw 0b0];refine A3 (RD (s:={ s with heap:=g }) hz1 hh λg2 tk k2=>?_);show A5 _ _ (rule _>>=_) _ _ _;refine A3 (p6 ?_);have st2:=st1.keep k2;refine A3 (wpAny_pyIter_zip (s:={ s with heap:=g2,toks:=tk }) (k2 _ _ hz1) ?_);obtain⟨od,es,ep,ed0,rd1,rd2,rd3,_,rd5⟩:=D0;have ed:=k2 _ _ ed0;refine A9 ⟨plainId_quiet FH _,RG (A:=A.in1) (knd:=knd) (qs:=qs) hh hu Z m3 m4 nS hn hl lq hq (λq hq'=>⟨(hd q hq').1,(hd q hq').2.1,(hd q hq').2.2.1,(hd q hq').2.2.2,hdD q hq'⟩) _ _ [] rfl (C8 _) st2 (λq hq'=>D_ (hk q hq') λo _ e=>k2 _ _ (up _ _ e)) ?_ λh' tk' q1 q2=>⟨rfl,hQ h' tk' q1 λc o c1 c2 c3 c4 e=>q2 c o (old c o e) c1 c2 c3 c4 (k2 _ _ (up _ _ e))⟩⟩;exact⟨od,es,ep,ed,rd1,rd2,rd3,λx (hx:x∈[])=>absurd hx (R5),rd5⟩
end
end
def KAt (H:Hp):List (List Key)->List A1->Prop
 |[],[]=>True
 |k::ks,b::bs=>H b=some (.tup (k.map kV))/\KAt H ks bs
 |_,_=>False
theorem LN:∀{bs:List A1} {us:List A2},Vals (bs.map V.ref) us->us=bs.map L5
 |[],_,r=>by cases r;rfl
 | b :: bs, _, .cons r rr => by
  cases(show _=L5 b from r);rw[LN rr];rfl
theorem LO {H:Hp}:∀{ks:List (List Key)} {bs:List A1} {ys:List V} {us:List A2},KAt H ks bs->Vals ys us->ks.length=ys.length->
   ∃qh:List (List Key×A1×A2),qh.length=ks.length/\bs.length=ks.length/\(∀(j:Nat) q,qh[j]?=some q->bs[j]?=some q.2.1/\us[j]?=some q.2.2)/\(∀q∈qh,H q.2.1=some (.tup (q.1.map kV)))/\Paired (PQ H) (ks.zip ys) qh
 |[],[],_,_,_,_,_=>⟨[],rfl,rfl,λj q h=>by simp at h,λq h=>absurd h R5,.nil⟩
 |k::ks,b::bs,[],_,_,_,h=>by simp at h
 | k :: ks, b :: bs, y :: ys, _, ⟨e, h⟩, .cons (b := u) r rr, hl => by
  obtain⟨qh,l1,l2,l3,l4,l5⟩:=LO h rr (by simpa using hl);refine⟨(k,b,u)::qh,by simp[l1],by simp[l2],λj q hj=>?_,λq hq=>?_,.cons ⟨rfl,e,r⟩ l5⟩
  ·cases j with
   |zero=>cases hj;exact⟨rfl,rfl⟩
   |succ j=>exact l3 j q hj
  ·rcases B9.mp hq with rfl|hq
   ·exact e
   ·exact l4 q hq
 |[],_::_,_,_,h,_,_=>h.elim
 |_::_,[],_,_,h,_,_=>h.elim
section
variable {X:Cx}
def tDZT (b1 b2:Bool)(K:A6)(ta:TA):TE:=λσ H Q=>ta σ H λvs H1=>∃(a c:A1) (bs:List A1) (ks:List (List Key)) (ys:List V),vs=[.ref a,.ref c]/\SqB b1 K H1 a (bs.map V.ref)/\SqB b2 K H1 c ys/\KAt H1 ks bs/\ks.length=ys.length/\ks.length<=1000/\∀D,H1 D=none->Q (.ref D) (upd H1 D (.dT (Ea (ks.zip ys))))
def pe_dzT (b1 b2:Bool){a b:Expr}{ta:TA}{p1 p3 pos1 pos3:Pos}(hc:X.calm=true)(hu:X.A.units+2<cLine)(g1:Gl X "dict")(m1:X.mg "dict"=none)(g3:Gl X "zip")(m3:X.mg "zip"=none)(ha:PA X [a,b] ta)(hs:F5 [a,b] X.env=[(false,eval a X.env),(false,eval b X.env)]:=by rfl)(hs2:F5 [b] X.env=[(false,eval b X.env)]:=by rfl) :
   PE X (.Call (.Name "dict" p1) [.Call (.Name "zip" p3) [a,b] [] pos3] [] pos1) (tDZT b1 b2 X.K ta):=by
 intro jd s σ H Q I h;refine B_ (Az I g1 m1 Oh (Cp (Calls.spliced_cons ?_) rfl rfl));refine B_ (Az I g3 m3 boot_zip (Cp (thn (ha pos3 jd s σ H _ I h) λus s1 ⟨vs,H1,I1,r1,q1⟩=>?_) (by rw[hs,hs2]) (by rw[hs2];rfl)));obtain⟨a,c,bs,ks,ys,e,h1,h2,ka,lk,ll,q⟩:=q1;subst e;cases r1 with
 | cons r rr =>
  cases rr with
  | cons r' rr =>
   cases rr;cases r;cases r';obtain⟨is1,rv1,p1,hz1⟩:=I1.seqB h1;obtain⟨is2,rv2,p2,hz2⟩:=I1.seqB h2;have hh:X.A.handled=none:=I1.ok.hd hc;have v2:=rv2.length;have ei:=LN rv1;subst ei;obtain⟨qh,l1,l2,l3,l4,l5⟩:=LO ka rv2 lk;have kk0:∀q∈qh,(R4 (P3 X.prog X.w)).is s1.heap q.1 q.2.1:=λq hq=>CV I1.hok (l4 q hq)
   have lt0:∀q∈qh,q.2.1<s1.heap.objs.size:=λq hq=>by
    obtain⟨o,jh,n,e,_⟩:=kk0 q hq;exact C7 e
   obtain⟨o1,eo1,_⟩:=p1.obj;obtain⟨o2,eo2,_⟩:=p2.obj;have la:=C7 eo1;have lc:=C7 eo2;refine zipB p1 p2 λh' e1 e2 e3 e4 e5 hk=>?_;refine A9 ?_;obtain⟨o4,eo4,_⟩:=e4.obj;obtain⟨o5,eo5,_⟩:=e5.obj
   have st:ZSt b1 b2 (s1.heap.objs.size+4) (s1.heap.objs.size+2) (s1.heap.objs.size+3) s1.heap.objs.size (s1.heap.objs.size+1) a c (bs.map L5).toArray is2.toArray h' []:=
    ⟨.inl ⟨rfl,e1,_,_,e3⟩,e2,e4,e5,p1.at λo e=>hk _ o e,p2.at λo e=>hk _ o e,λj p hj=>by cases hj⟩
   have lz:s1.heap.objs.size+4<h'.objs.size:=C7 e1;have ne:∀{b n:Nat},b<s1.heap.objs.size->s1.heap.objs.size<=n->b≠n:=λhb hn=>F3 (M1 hb hn);refine RH (s:={ s1 with heap:=h' }) (knd:=P3 X.prog X.w) (qs:=qh) hh hu ⟨0o0,0o0,0o0,0o0,0o0,0o0,0o0,0o0,0o0,0o0⟩ (ne la (AZ _ 3)) (ne lc (AZ _ 3)) (by simp;ext) (by simp;ext) (by simp;ext) (λj q hj=>?_) (λq hq=>⟨ne (lt0 q hq) (AZ _ 4),ne (lt0 q hq) (AZ _ 3),ne (lt0 q hq) (B3 _),ne (lt0 q hq) (AZ _ 1)⟩) st (λd hd=>?_) (λq hq=>D_ (kk0 q hq) λo _ e=>hk _ o e) λh3 tk dd k3=>?_
   ·obtain⟨x1,x2⟩:=l3 j q hj;refine⟨?_,by simpa using x2⟩;rw[List.getElem?_toArray,L4,x1];rfl
   ·simp only[B9,R5,or_false] at hd;show d<h'.objs.size;have l4:s1.heap.objs.size<=h'.objs.size:=0x0
    rcases hd with rfl|rfl|rfl|rfl|rfl|rfl|rfl
    ·exact lz
    ·exact C7 e2
    ·exact C7 e3
    ·exact C7 eo4
    ·exact C7 eo5
    ·exact M1 la l4
    ·exact M1 lc l4
   ·have kk:∀b u,s1.heap.get? b=some u->h3.get? b=some u:=λb u e=>by
     have lb:=C7 e;exact k3 b u (ne lb (AZ _ 4)) (ne lb (AZ _ 3)) (ne lb (B3 _)) (ne lb (AZ _ 1)) (hk b u e)
    have hle:s1.heap.objs.size<=h'.objs.size:=0x0
    have hf:H1 h'.objs.size=none:=I1.hok.fresh hle;have kt:=(Rq l5 (KT.keeps (H:=H1) .nil λ_ _ e=>e):KT H1 (Ea (ks.zip ys)) (g9 qh));have fl:=LL qh;obtain⟨o,es,ep,d1,d2,d3,d4,_,d6⟩:=dd;refine⟨.ref h'.objs.size,upd H1 h'.objs.size (.dT (Ea (ks.zip ys))),I1.laid (t':=tk) kk hle ⟨?_,beq_eq_false_iff_ne.mpr (Ne.symm (F3 (M1 I1.big hle))),g9 qh,kt.keeps λb ys eb=>?_,o,es,ep,d1,d2,d3,d4,d6⟩,rfl,q _ hf⟩
    ·have:(Ea (ks.zip ys)).length=(g9 qh).length:=EV kt;have sl:(1000:Nat)<=B5:=0b0
     ext
    ·rw[B6 (λz=>by rw[z,hf] at eb;cases eb)];exact eb
end
end L2
end
section
namespace Pu
open PySem PySem.Spec L2
section
variable {T:PotK}{np:Bool}{ι:Type}{K:A6}{F:ι->Cx}{e a b:Expr}{pa pb:pE}{st:Stmt}
def Da:List PV->Option (List (List Key))
 |[]=>some []
 |.tup ys::xs=>(match F8 ys,Da xs with|some k,some ks=>some (k::ks)|_,_=>none)
 |_=>none
theorem LP {G:Gh}{H:Hp}:∀{xs:List PV} {vs:List V} {ks:List (List Key)},Reps K G H xs vs->Da xs=some ks->∃bs:List A1,vs=bs.map V.ref/\KAt H ks bs
 | [], vs, ks, r, h => by
  cases h;have:vs=[]:=By r.length.symm;subst this;exact⟨[],rfl,trivial⟩
 | x :: xs, vs, ks, r, h => by
  unfold Da at h
  split at h
  ·rename_i heq;cases heq
  ·rename_i ys xs' heq;cases heq
   split at h
   ·rename_i k ks' e1 e2;cases h;obtain⟨v,t,rfl,r1,r2⟩:=r;obtain⟨bs,rfl,hb⟩:=LP r2 e2;obtain⟨b,rfl,eb⟩:=FI r1 e1;exact⟨b::bs,rfl,eb,hb⟩
   ·cases h
  ·cases h
def R1 (i:Nat)(b1 b2:Bool)(pa pb:pE):pS:=λD env n=>pa env n λx je n1=>pb je n1 λy jf n2=>match AI b1 x,AI b2 y with
 | some xs, some ys => (match Da xs with
  |some ks=>ks.length=ys.length/\ks.length<=1000/\D.nx (jf.set i (some (.ow (.dt (dtF (ks.zip ys)).1) (dtF (ks.zip ys)).2))) n2
  |none=>False)
 |_,_=>False
def RI (i:Nat)(b1 b2:Bool){p1 p3 pos1 pos3:Pos}(hc:∀z,(F z).calm=true)(hu:∀z,(F z).A.units+2<cLine)(g1:∀z,Gl (F z) "dict")(m1:∀z,(F z).mg "dict"=none)(g3:∀z,Gl (F z) "zip")(m3:∀z,(F z).mg "zip"=none)
   (h:∀z te,EW (F z) (.Call (.Name "dict" p1) [.Call (.Name "zip" p3) [a,b] [] pos3] [] pos1) te->SW (F z) st (tAsg te (W9 i))) (ha:QE T K F a pa) (hb:QE T K F b pb) (hs:E9 a=true) (hs2:E9 b=true) (hK:∀z,(F z).K=K):QS T np K F st (R1 i b1 b2 pa pb):=by
 obtain⟨t,h1,h2⟩:=ha;obtain⟨u,h3,h4⟩:=hb;refine⟨_,λz=>(h z _ ⟨hK z▸pe_dzT b1 b2 (hc z) (hu z) (g1 z) (m1 z) (g3 z) (m3 z) (E8 (h1 z) (E8 (h3 z) K5 (C9 hs2)) (C9 hs)) (by rw[C9 hs,C9 hs2];rfl) (by rw[C9 hs2];rfl)⟩).h,⇑_⟩;refine ↥h2 λx je n1 v H1 q1 S1 r1 f1=>?_;refine h4 C G σ H1 je n1 _ _ hK hT S1 q1 λy jf n2 w H2 q2 S2 r2 f2=>?_
 split at q2
 ·rename_i xs ys ex ey
  split at q2
  ·rename_i ks ek;obtain⟨lk,ll,q⟩:=q2;obtain⟨a,vs,rfl,na,ra,sa⟩:=Lj ex (r1.fr f2);obtain⟨c,us,rfl,nc,rc,scq⟩:=Lj ey r2;obtain⟨bs,rfl,kb⟩:=LP ra ek;have lu:us.length=(ks.zip ys).length:=by rw[EG,<- rc.length];ext
   have e2:(ks.zip ys).map (·.2)=ys:=EE (BA lk.symm);have e1:(ks.zip ys).map (·.1)=ks:=Ds (BA lk);obtain⟨ws,w1,w2,w3⟩:=LM (qs:=ks.zip ys) (ks:=[]) (xs:=[]) (vs:=[]) lu (by rw[e2];exact rc) rfl rfl;refine⟨a,c,bs,ks,us,rfl,sa H2 λ_ _ _ e=>e,scq H2 λ_ _ _ e=>e,kb,by rw[lk];exact rc.length,ll,λD hD=>?_⟩
   have ef:Ea (ks.zip us)=(dtF (ks.zip ys)).1.zip ws:=by
    rw[e1] at w3;exact w3
   rw[ef];exact L.nx _ _ _ _ _ q (S2.ow i (.dt (dtF (ks.zip ys)).1) hD (hK▸w2)) ((Ext.fr (f1.trans f2)).trans (Bn hD))
  ·exact q2.elim
 ·exact q2.elim
end
end Pu
end
section
namespace L2
open PySem PySem.W PySem.Spec PyProof.Rows
section
variable {prog:D4}{w:C0}{A:D9}{E:A2->A4->Prop}{s:A4}
def RJ {l:A1}{vs:List A2}{Q:List A2->A4->Prop}(hl:IsTup s.heap l vs.toArray)
   (h:Q vs { s with heap:=(s.heap.push (seqObj "list" #[] 0)).update s.heap.objs.size (Y9 (·++vs.toArray)) }) (hsz:vs.length<=B5) :
   A5 (A7 prog w) A (collect (.ref l)) Q E s:=by
 obtain⟨o,ho,hc,n,hd⟩:=hl;unfold collect;refine A3 (wpAny_runValue (Ez entry_proto_collect' ?_));show A5 _ _ (newList []>>=λa=>again (.builtin "list.__iadd__" ⟨[a,.ref l],[]⟩)) _ _ s;refine A3 (wpAny_newList (A9 ⟨Code.quiet_builtin _ (by decide +kernel),Ez entry_list_iadd' ?_⟩));show A5 _ _ (Jx (.ref s.heap.objs.size) (.ref l) (.ref s.heap.objs.size)) _ _ { s with heap:=s.heap.push (seqObj "list" #[] 0) };unfold Jx;have ho':(s.heap.push (seqObj "list" #[] 0)).get? l=some o:=C3 _ ho;refine A3 (AO (T:="tuple") ⟨o,ho',hc⟩ ?_);rw[jw (by rw[show(x9 "tuple" == x9 "tuple")=true by rfl];simp)];refine A3 (listItems_at ho' hd (A3 (listItems_at (xs:=#[]) (n:=0) (K4 _ rfl) rfl ?_)));rw[jy 0o0];refine A3 (listUpdate_at (xs:=#[]) (n:=0) (K4 _ rfl) rfl ?_ (C8 _) (by show(#[]++vs.toArray).size<=B5+1;simp only[Array.size_append,G9,O8];ext));refine A9 ?_;show A5 (A7 prog w) A (load s.heap.objs.size>>=_) Q E { s with heap:=(s.heap.push (seqObj "list" #[] 0)).update s.heap.objs.size (Y9 (·++vs.toArray)) };refine A3 (wpAny_load (get?_update_seq (K4 _ rfl) _) ?_);show A5 _ _ (pure ((#[]:Array A2)++vs.toArray).toList) Q E _
 rw[show((#[]:Array A2)++vs.toArray).toList=vs by simp];exact A9 h
end
def nthS (zs:List Str)(i:Nat):Str:=zs.getD i (B1 "")
def ltS (zs:List Str)(i j:Nat):Bool:=Hy (.inr (nthS zs i)) (.inr (nthS zs j))
def outS (zs:List Str):List Str:=if zs.length<2 then zs else(Kr.run (ltS zs) (Am zs.length)).toList.map (nthS zs)
def LQ (zs:List Str):(outS zs).Perm zs:=by
 unfold outS
 by_cases c:zs.length<2
 ·rw[jw c]
 ·rw[jy c];refine((Array.perm_iff_toList_perm.mp (Kr.sort_perm 0x0)).map (nthS zs)).trans (List.Perm.of_eq ?_)
  apply List.ext_getElem 0o0
  intro i h2 h3;simp[nthS,h3]
section
variable {X:Cx}
def RK:M6 X (.builtin "sorted") (λxs H Q=>∃p zs,xs=[.ref p]/\SqT X.K H p (zs.map V.str)/\zs.length<64/\∀l,H l=none->Q (.ref l) (upd H l (.lst ((outS zs).map V.str)))):=by
 intro jd s σ H xs us Q I r h;obtain⟨p,zs,rfl,hq,h64,q⟩:=h;obtain⟨u,rfl,rx⟩:=z9 r;cases rx;obtain⟨jh,r',pl,hz⟩:=I.tuple hq;have hlen:=r'.length;rw[B0] at hlen hz
 have nth:∀i,i<jh.length->∃t,jh.getD i .none=.str (nthS zs i) t:=λi hi=>by
  have:=Qb r' .non .none i (by rw[B0];omega);rw[AR,L4,D1 (show i<zs.length by omega)] at this;have e:nthS zs i=zs[i]:=by unfold nthS;rw[AR,D1 (show i<zs.length by omega)];rfl
  rw[e];exact this
 refine P_ (vs:=jh) (lt:=ltS zs) 0x0 (λR hR=>?_) (λh2 A E h1 tk k=>?_) λh2 tk D e k hD ho=>?_
 ·refine RJ pl (hR _ s.toks (λb o e=>?_) ?_) 0x0
  ·rw[Heap.get?_update_ne _ _ _ _ (F3 (C7 e))];exact C3 _ e
  ·rw[Heap.size_update,size_push'];ext
 ·refine⟨oneType',λQ q=>kas_kind (T:=.type "str") h2 (λv hv=>?_) rfl rfl q,λi j C hi hj c=>?_⟩
  ·obtain⟨i,hi,rfl⟩:=AU hv;obtain⟨t,e⟩:=nth i hi;rw[AR,D1 hi] at e;have e:jh[i]=.str (nthS zs i) t:=e;rw[e];exact Looks.of_pure rfl
  ·obtain⟨t,e1⟩:=nth i hi;obtain⟨t',e3⟩:=nth j hj;unfold kas_ask;rw[e1,e3,keyLt'_oneType];exact Qa (x:=.inr (nthS zs i)) (y:=.inr (nthS zs j)) (xs:=[]) (ys:=[]) ⟨t,rfl⟩ ⟨t',rfl⟩ trivial c
 ·have ol:=(LQ zs).length_eq
  have vo:Vals ((outS zs).map V.str) (j6 (ltS zs) jh):=by
   unfold outS j6;rw[<- hlen]
   by_cases c:zs.length<2
   ·rw[jw c,jw c];exact r'
   ·rw[jy c,jy c,Ar]
    have hm:∀i∈(Kr.run (ltS zs) (Am zs.length)).toList,i<jh.length:=λi hi=>by
     have:=(Array.perm_iff_toList_perm.mp (Kr.sort_perm 0x0)).mem_iff.mp hi;rw[<- hlen];simpa using this
    generalize (Kr.run (ltS zs) (Am zs.length)).toList=is at hm
    induction is with
    |nil=>exact .nil
    |cons i is ih=>exact .cons (nth i (hm i D2)) (ih λj hj=>hm j (C1 _ hj))
  exact⟨.ref D,_,I.laid (t':=tk) k hD (show J1 X.prog X.w _ h2 _ (.lst ((outS zs).map V.str)) from⟨by rw[B0];omega,_,e,vo,ho⟩),rfl,q _ (I.hok.fresh hD)⟩
end
end L2
namespace Pu
open PySem PySem.Spec L2
section
variable {T:PotK}{ι:Type}{K:A6}{F:ι->Cx}{e:Expr}{pe:pE}{pos:Pos}
theorem LR {G:Gh}{H:Hp}:∀zs:List Str,Reps K G H (zs.map PV.str) (zs.map V.str)
 |[]=>rfl
 |z::zs=>⟨_,_,rfl,rfl,LR zs⟩
theorem LS {G:Gh}{H:Hp}:∀(zs:List Str) {us:List V},Reps K G H (zs.map PV.str) us->us=zs.map V.str
 |[],_,h=>h
 | z :: zs, _, h => by
  obtain⟨v,t,rfl,h1,h2⟩:=h;rw[LS zs h2,show v=.str z from h1];rfl
def N6 (pe:pE):pA:=λenv n R=>pe env n λx je n1=>match x with|.tup xs=>∃zs:List Str,xs=zs.map PV.str/\zs.length<64/\R ((outS zs).map PV.str) je n1|_=>False
def RL {p:Pos}(hg:∀z,Gl (F z) "sorted")(hm:∀z,(F z).mg "sorted"=none)(ha:QR T K F e pe)(hs:E9 e=true)(hK:∀z,(F z).K=K):QN T K F (.Call (.Name "sorted" p) [e] [] pos) (N6 pe):=by
 obtain⟨t,h1,h2⟩:=ha;refine⟨_,λz=>Bi (hK z▸RK) (hg z) (hm z) Oe (E8 (h1 z) K5 (C9 hs)) 0b0 0b0 (C9 hs),⇑?_⟩;refine Fj h2 hK hT S hp λx je n1 v H1 p1 S1 r1 f1=>?_;have rd:RdV K G H1 x v:=hK▸r1.rd S1;cases x with
 | tup xs =>
  obtain⟨zs,rfl,h64,q⟩:=p1;obtain⟨a,us,rfl,hq,r⟩:=rd.tup;rw[LS zs r] at hq;exact⟨a,zs,rfl,hq,h64,λl hl=>k _ _ _ _ _ _ q S1 f1 hl (LR _)⟩
 |_=>exact p1.elim
end
end Pu
end
section
namespace L2
open PySem PySem.Spec PyProof.Rows
def RM {X:Cx}{scope:F9}{cl:List (Str×A1)}{N:List Str}{jd:List (A1×Obj)}{σ σ3:St}{H2 H3:Hp}{s2 s4:A4}{fp:List A1}{i:Nat}{y:Str}{py:Pos}{DD:Ends}(hN:X.N.Nodup)(hiy:X.N[i]?=some y)(hy:Loc X.env.scope y)(hff:X.fn y=true\/X.env.scope.names.lookup y=some .local)(I2:Inv X jd σ H2 s2)(f2:∀b∈fp,FpOk X jd H2 b)(I4:Inv (E3 X scope cl N fp (s2.heap.objs.size+1) s2 H2) jd σ3 H3 s4)(qn:DD.nx (σ.set i (some (.ref s2.heap.objs.size))) H3) :
   compPost (A7 X.prog X.w) X.A X.xe (some (assign (.Name y py) X.env)) (λ_ s'=>SP X jd DD .next s') (.ref s2.heap.objs.size) (s2.heap.objs.size+1) (.ok .next) s4:=by
 obtain⟨m4,hn4,_⟩:=I4.loc;have I5:Inv X jd σ H3 s4:=Inv.uncomp (h':=s4.heap) I2 f2 I4 λb hb=>rfl;have fr:H3 (s2.heap.objs.size+1)=none:=I4.free;have oldne:∀{b o},s2.heap.get? b=some o->b≠s2.heap.objs.size+1:=λe=>F3 (AY (C7 e));have locne:X.env.locals≠s2.heap.objs.size+1:=F3 (AY I2.lt)
 have cellne:∀x c,X.env.cells.lookup x=some c->c≠s2.heap.objs.size+1:=λx c e=>by
  obtain⟨v,o,h1,_⟩:=I2.cell x c e;exact oldne h1
 have pinne:∀p∈X.pn++jd,p.1≠s2.heap.objs.size+1:=λp hp=>oldne (I2.pin p hp).1;have sz:X.s₀.heap.objs.size<=s2.heap.objs.size+1:=Nat.le_succ_of_le I2.sz;clear I4 I2;generalize s2.heap.objs.size+1=C at *;refine wpAny_assign_Name (JA I5 hN hiy hy (v:=.ref s2.heap.objs.size) rfl (λs6 I6 ⟨a6,sb6,ha6⟩=>?_) hff);refine⟨m4,hn4.sameBut sb6 (ha6.elim (λz=>by rw[z];exact Ne.symm locne) λz=>Ne.symm (cellne _ _ z)),λh' hs'=>⟨_,H3,?_,qn⟩⟩;have U0:Un (frs X.stack) [C] H3 H3 s6.heap s6.heap:=Un.refl;have hx':∀{b},b∉[C]->h'.get? b=s6.heap.get? b:=λ{b} hx=>hs'.2 b λz=>hx (by rw[z];simp)
 have trC:∀{b u},H3 b=some u->b∉[C]:=λ{b u} e z=>by
  rw[E2.mp z,fr] at e;cases e
 obtain⟨hh6,g6,d6,t6,os6⟩:=s6;refine I6.call (h':=h') (g':=g6) (d':=d6) (t':=t6) (ch:=[C]) ⟨λb o e n hb hx=>?_,λb o e n hb hx=>?_,U0.free,λb o e hx=>?_,U0.tups,U0.frzs,U0.tbls,U0.sys⟩ (λb u e=>?_) I6.bare λb hb=>?_
 ·rw[hx' hx];exact U0.keep b o e n hb hx
 ·rw[hx' hx];exact U0.slot b o e n hb hx
 ·rw[hx' hx];exact U0.there b o e hx
 ·refine(I6.hok b u e).stay (λc v hc q=>?_) (λ_ q=>q) λ_ _ q=>q;rw[hx' (hc.elim (λz=>by rw[z];exact trC e) trC)];exact q
 ·rw[E2.mp hb];exact⟨.inr sz,Ne.symm locne,cellne,pinne⟩
def RN {X:Cx}{scope:F9}{cl:List (Str×A1)}{N:List Str}{cs:List (Option Nat)}{jm t1 i1 t2 i2:Expr}{jn:List Expr}{pos spos py:Pos}{wi1 wi2:TI}{g1 g2:TG}{tt:TT}{te:TE}{i:Nat}{y:Str}(hN:X.N.Nodup)(hiy:X.N[i]?=some y)(hy:Loc X.env.scope y)(S:l8 X scope cl N cs)(hc:X.calm=true)(hi:PI X t1 i1 wi1)
   (hb:∀(fp:List A1) (C:A1) (s:A4) (H:Hp),PG (E3 X scope cl N fp C s H) t1 g1/\PI (E3 X scope cl N fp C s H) t2 i2 wi2/\PG (E3 X scope cl N fp C s H) t2 g2/\PIf (E3 X scope cl N fp C s H) jn tt/\PE (E3 X scope cl N fp C s H) jm te)
   (hs2:∀fp C s H x,M4 i2 (E3 X scope cl N fp C s H).env x=pure x)
   (hsw:v5 (LC2 jm t1 i1 t2 i2 jn scope pos) (some (.Name y py)) spos.line X.env=pure true:=by rfl)
   (hs:∀x,M4 i1 X.env x=pure x:=by intro _;rfl) (hff:X.fn y=true\/X.env.scope.names.lookup y=some .local:=by first|exact .inl rfl|exact .inr rfl|assumption) :
   PS X (.Assign [.Name y py] (LC2 jm t1 i1 t2 i2 jn scope pos) spos) (tAsg (LA cs wi1 g1 wi2 g2 tt te) (W9 i)):=by
 intro jd s σ H DD I h;rw[exec_Assign_Name_used _ _ _ _ hsw];exact A3 (p5 (A3 (A3 (K8 (Q:=λ_ s'=>SP X jd DD .next s') (GN S hc hi hs I h λfp it tn J s2 H2 s₃ T stat I2 f2 q Ic st1 fr1=>loop2 (Y:=E3 X scope cl N fp (s2.heap.objs.size+1) s2 H2) rfl hc (hb _ _ _ _) (hs2 _ _ _ _) T stat q (λs4 σ3 H3 I4 qn=>RM hN hiy hy hff I2 f2 I4 qn) Ic st1 fr1) (λ_ s' hq=>A9 (A9 hq)) λ_ _ e=>e))))
end L2
end
section
namespace Pu
open PySem PySem.Spec L2
section
variable {T:PotK}{ι:Type}{K:A6}{F:ι->Cx}{pg1 pg2:pG}{pos:Pos}
def RO {scope:F9}{cl:ι->List (Str×A1)}{N:List Str}{cs:List (Option Nat)}{jm t1 i1 t2 i2:Expr}{jn:List Expr}{pi1 pi2:pA}{ptt:pT}{pte:pE}(S:∀z,l8 (F z) scope (cl z) N cs)(hc:∀z,(F z).calm=true)(hi:QI T K F t1 i1 pi1)
   (hg:QG K (λy:ι×List A1×A1×A4×Hp=>E3 (F y.1) scope (cl y.1) N y.2.1 y.2.2.1 y.2.2.2.1 y.2.2.2.2) t1 pg1)
   (hi2:QI T K (λy:ι×List A1×A1×A4×Hp=>E3 (F y.1) scope (cl y.1) N y.2.1 y.2.2.1 y.2.2.2.1 y.2.2.2.2) t2 i2 pi2)
   (hg2:QG K (λy:ι×List A1×A1×A4×Hp=>E3 (F y.1) scope (cl y.1) N y.2.1 y.2.2.1 y.2.2.2.1 y.2.2.2.2) t2 pg2)
   (ht:QIf T K (λy:ι×List A1×A1×A4×Hp=>E3 (F y.1) scope (cl y.1) N y.2.1 y.2.2.1 y.2.2.2.1 y.2.2.2.2) jn ptt)
   (he:QE T K (λy:ι×List A1×A1×A4×Hp=>E3 (F y.1) scope (cl y.1) N y.2.1 y.2.2.1 y.2.2.2.1 y.2.2.2.2) jm pte)
   (hs:∀z x,M4 i1 (F z).env x=pure x:=by intro _ _;rfl) (hs2:∀z fp C s H x,M4 i2 (E3 (F z) scope (cl z) N fp C s H).env x=pure x:=by intro _ _ _ _ _ _;rfl):QNC T K F (LC2 jm t1 i1 t2 i2 jn scope pos) (N2 cs pi1 pg1 pi2 pg2 ptt pte):=by
 obtain⟨wi,i1',i2'⟩:=hi;obtain⟨g,hg0,hg⟩:=hg;obtain⟨wj,j1,j2⟩:=hi2;obtain⟨g2,hg20,hg2⟩:=hg2;obtain⟨tt,ht0,ht⟩:=ht;obtain⟨te,he0,he⟩:=he;refine⟨_,λz=>LB (S z) (hc z) (i1' z) (λfp C s H=>⟨hg0 (z,fp,C,s,H),j1 (z,fp,C,s,H),hg20 (z,fp,C,s,H),ht0 (z,fp,C,s,H),he0 (z,fp,C,s,H)⟩) (hs2 z) (hs z),λz i y py spos hN hi hy hsw hf=>RN hN hi hy (S z) (hc z) (i1' z) (λfp C s H=>⟨hg0 (z,fp,C,s,H),j1 (z,fp,C,s,H),hg20 (z,fp,C,s,H),ht0 (z,fp,C,s,H),he0 (z,fp,C,s,H)⟩) (hs2 z) hsw (hs z) hf,⇑?_⟩;refine ↥i2' λxs je n1 J H1 p1 S1 f1 hJ=>?_;intro D hD;have hDM:=S1.fresh hD;refine LC (G:=G) hg j2 hg2 ht he hJ p1.1 hD (hT▸hK▸Fo S1 cs) p1.2 λys n2 us H' rr hpots hk eD ry=>?_;have nD:∀b o,H1 b=some o->b≠D:=λb o e z=>by rw[z,hD] at e;cases e
 have hk2:∀b o,b∉G.pots->H1 b=some o->cutH H' D b=some o:=λb o hb e=>by rw[V7 (nD b o e)];exact hk b o hb e
 have nc:∀b,b∉D::G.M->b≠D:=λb hb z=>hb (by rw[z];exact D2);have np:∀p∈G.pots,p≠D:=λp hp z=>hDM (z▸(S1.pots p hp).1)
 have Sb:SR C G σ (cutH H' D) je n2:=S1.call hk2 λp hp=>by
  subst hT;have h2:=C.T.keep (hpots p hp) (H':=cutH H' D) (V7 (np p hp)) λb o hb e=>by rw[V7 (nc b hb)];exact e
  exact C.T.more h2 λa ha=>.inl (C1 _ ha)
 have:=k ys je n2 D us (cutH H' D) rr Sb (f1.trans λb o hb e=>hk2 b o (λz=>hb (S1.pots b z).1) e) (by unfold cutH;rw[jw rfl]) ?_
 ·rw[Fp eD] at this;exact this
 ·exact Reps.mono (G:=⟨D::G.M,G.pots⟩) (λb o hb e=>by rw[V7 (nc b hb)];exact e) (λa ha=>.inl (C1 _ ha)) (λ_ _ e=>e) _ _ ry
end
section
variable {T:PotK}{np:Bool}{ι:Type}{K:A6}{F:ι->Cx}{a b c:Expr}{st:Stmt}{sl:pSlN}
def RP (i j k:Nat)(h:∀z ta,AW (F z) [a,b,c] ta->SW (F z) st (GS i j k ta))(h1:QLs T K F [a,b,c] sl):QS T np K F st (U4 [i,j,k] sl):=by
 obtain⟨t,a1,a2⟩:=h1;refine⟨_,λz=>(h z _ ⟨a1 z⟩).h,⇑_⟩;refine ↥a2 λss jf n2 vs G2 H2 q S2 x2 g=>?_;have lv:vs.length=3:=g.len.symm.trans q.1
 match vs,lv,g with
 |[u,v,w],_,g=>exact⟨u,v,w,rfl,L.nx _ _ _ _ _ q.2 (SR.setAll [i,j,k] ss [u,v,w] S2 g) x2⟩
end
end Pu
end
section
namespace L2
open PySem PySem.Spec PyProof.Rows
def shS (y:Str):Prop:=y.length<=1000/\∀c∈y.cps.toList,c<128
section
variable {X:Cx}
def RQ:M6 X (.type "str") (λxs H Q=>∃i:Int,xs=[.int i]/\i.natAbs<10 ^ 60/\∀y,shS y->Q (.str y) H):=by
 intro jd s σ H xs us Q I r h;obtain⟨i,rfl,hi,q⟩:=h;obtain⟨u,rfl,t,rfl⟩:=z9 r;refine P.str_of_int (Pu.Ho hi) ⟨.str (B1 (toString i)),H,I.tok _,⟨_,rfl⟩,q _ ⟨?_,?_⟩⟩
 ·exact E6 (Pu.Hn hi) 0b0
 ·intro c hc;rw[Str.ofString_eq_toList] at hc;obtain⟨ch,h1,rfl⟩:=E4.mp (show c∈(toString i).toList.map Char.toNat by simpa using hc);exact int_ascii i ch h1
def up_sh {x:Str}(h:shS x):shS (Txt.upper x):=by
 rw[upper_ascii h.2];refine⟨by have:=h.1;simpa[Str.length] using this,λc hc=>?_⟩;obtain⟨d,hd,rfl⟩:=E4.mp (show c∈x.cps.toList.map up1 by simpa using hc);have:=h.2 d hd;unfold up1
 split <;> ext
def RT:MtR X "str.upper" (λx vs H Q=>∃a,x=.str a/\vs=[]/\shS a/\∀y,shS y->Q (.str y) H):=by
 intro jd s σ H x vs v us Q I rx rv h;obtain⟨a,rfl,rfl,ha,q⟩:=h;obtain⟨t,rfl⟩:=rx;cases rv;exact SC.upper (fit_upper (E6 ha.1 0b0)) ⟨.str (Txt.upper a),H,I.tok _,⟨_,rfl⟩,q _ (up_sh ha)⟩
end
end L2
namespace Pu
open PySem PySem.Spec L2
section
variable {T:PotK}{ι:Type}{K:A6}{F:ι->Cx}{e a:Expr}{pe pa:pE}{pos:Pos}
def wStr:w1:=λx R=>match x with|.int i=>i.natAbs<10 ^ 60/\∀y,shS y->R (.str y)|_=>False
def RU {p:Pos}(hg:∀z,Gl (F z) "str")(hm:∀z,(F z).mg "str"=none)(ha:QR T K F e pe)(hs:E9 e=true):QE T K F (.Call (.Name "str" p) [e] [] pos) (qUn wStr pe):=Ha (λ_=>RQ) (λG H x v R Q hf rx hw k=>by
 unfold wStr at hw
 split at hw
 ·exact⟨_,by rw[rx.int],hw.1,λy hy=>k _ _ _ (hw.2 y hy) (Same.refl _) rfl⟩
 ·exact hw.elim) hg hm (show K7 "str"=some (.type "str") by decide +kernel) ha hs
def HM (pa:pE):pE:=λenv n R=>pa env n λx je n1=>match x with|.str z=>shS z/\∀y,shS y->R (.str y) je n1|_=>False
def RV {ap:Pos}(ha:QE T K F a pa)(hbase:∀z,Ai a "upper" (F z).env (eval a (F z).env)=eval a (F z).env)(hline:(ap.endLine == pos.line)=true)(hK:∀z,(F z).K=K):QE T K F (.Call (.Attribute a "upper" ap) [] [] pos) (HM pa):=by
 obtain⟨ta,a1,a2⟩:=ha;refine⟨_,λz=>hK z▸pe_bm0 PySem.F.plainAttrs_str PySem.F.slot_str_upper PySem.F.type_str_upper RT (a1 z) (hbase z) hline,⇑?_⟩;refine ↥a2 λx je n1 v H1 p1 S1 r1 f1=>?_;cases x with
 | str z =>
  obtain rfl:v=.str z:=r1;exact⟨rfl,z,rfl,rfl,p1.1,λy hy=>k _ _ _ _ _ (p1.2 y hy) S1 rfl f1⟩
 |_=>exact p1.elim
end
end Pu
end
section
namespace L2
open PySem PySem.Spec PyProof.Rows PySem.SeqAt
open AutoSeq1 (wpAny_loadPart')
def RW (b:Str)(u:Tok)(l:A1)(es:Array DictEntry)(ep:Nat)(dd:Option A1)(sl:Array (Option A2)) :
   Meets (Z8.«str.__eq__» ⟨[.str b u,.ref l],[]⟩) (λ_ R s=>s.heap.get? l=some { cls:=.type "dict",dict:=dd,data:=.dict es ep,slots:=sl }/\R (.ok (.ret .notImplemented)) s):=
 .of_wp λprog w A R s h=>by
  obtain⟨hp,g,d,tk,os⟩:=s;obtain⟨hl,h⟩:=h;have f1:=PySem.F.sub_dict_str
  wp_walk using wpAny_loadPart' hl,wpAny_load hl
  exact⟨_,rfl,h⟩
section
variable {A:D9}{s:A4}
def RX {P0:D4}{w0:C0}{K:Type}[DecidableEq K]{knd:PySem.KeyKind P0 w0 K}{l:A1}{ji:List (K×A2)}(b:Str)(u:Tok)(hl:s.heap.DictOf knd l ji)(hu:A.units<cLine):RcAt A s (.str b u) (.ref l) false:=λprog w E Q h=>by
 obtain⟨⟨cls,dd,data,sl⟩,es,ep,ho,hc,hd,_⟩:=id hl;simp only at hd;subst hd;obtain rfl:cls=.type "dict":=hc.1
 exact rc_eq_decline_or (k:=false) (Ak s b u) ⟨_,ho,rfl⟩ 0b0 PySem.F.sub_dict_str PySem.F.slot_str_eq PySem.F.slot_dict_eq_refl
   (λ_ hq=>v4 PySem.F.slot_str_eq (Ak s b u) PySem.F.entry_str_eq (PySem.F.args_str_eq_2 _ _) (RW b u l es ep dd sl) ⟨ho,hq⟩)
   (λ_ hq=>j9 PySem.F.slot_dict_eq_refl hl.typeIs PySem.F.entry_dict_eq (by
    show A5 _ _ (Builtin.Dict.dictSlotArgs "__eq__" ⟨[.ref l,.str b u],[]⟩>>=_) _ _ s;refine A3 ?_;unfold Builtin.Dict.dictSlotArgs;refine A3 (wpAny_notOrdered_dict hl.typeIs ?_);show A5 _ _ (pure (L5 l,Cs b u)) _ _ s;refine A9 ?_;refine A3 (wpAny_isInstance (T:="str") (Ak s b u) PySem.F.sub_str_dict ?_);simp only[Q0,if_true];refine A3 (p6 ?_)
    refine A9 ⟨_,rfl,hq⟩) (PySem.F.args_dict_eq_2 _ _))
   (λ_ hq=>Cc (rfl:isSame (.str b u) (.ref l)=pure false) hq) (.inr hu) h
def RY {P0:D4}{w0:C0}{K:Type}[DecidableEq K]{knd:PySem.KeyKind P0 w0 K}{l:A1}{ji:List (K×A2)}(b:Str)(u:Tok)(hl:s.heap.DictOf knd l ji)(hu:A.units<cLine):EqAt A s (.str b u) (.ref l) false:=λprog w E Q h=>by
 unfold eqBool;refine R3 ?_;refine wpAny_ite_split (λhab=>absurd (eq_of_beq hab) nofun) (λ_=>?_);exact A3 (RX b u hl hu prog w E _ (Ah h))
end
def EqS (K:A6)(H:Hp)(x y:V)(b:Bool):Prop:=(∃i,x=.str i)/\((V6 y=true/\b=eqV x y)\/(b=false/\∃q,y=.ref q/\((∃ys,SqT K H q ys\/SqL K H q ys)\/∃ji,H q=some (.dK ji))))
def EqA (K:A6)(H:Hp):Nat->V->V->Bool->Prop
 |0,x,y,b=>EqS K H x y b
 |d+1,x,y,b=>EqS K H x y b\/(∃p xs,x=.ref p/\SqT K H p xs/\((∃q ys,∃f:Nat->Bool,y=.ref q/\SqT K H q ys/\(∀(j:Nat) x' y',xs[j]?=some x'->ys[j]?=some y'->EqA K H d x' y' (f j))/\b=((B8 (min xs.length ys.length)).all f&&xs.length == ys.length))\/(b=false/\(V6 y=true\/∃q ys,y=.ref q/\SqL K H q ys))))
section
variable {X:Cx}{jd:List (A1×Obj)}{σ:St}{H:Hp}{s:A4}
def EqS.refl {K:A6}{x:V}{b:Bool}(h:EqS K H x x b):b=true:=by
 obtain⟨⟨i,rfl⟩,⟨_,rfl⟩|⟨_,q,e,_⟩⟩:=h
 ·exact GO rfl
 ·cases e
theorem EqA.refl (I:Inv X jd σ H s):∀(d:Nat) (x:V) (b:Bool),EqA X.K H d x x b->b=true:=by
 intro d
 induction d with
 |zero=>intro x b h;exact EqS.refl h
 | succ d ih =>
  intro x b h;rcases h with h|⟨p,xs,e1,s1,⟨q,ys,f,e2,s2,hf,rfl⟩|⟨_,h|⟨q,ys,e2,s2⟩⟩⟩
  ·exact EqS.refl h
  ·subst e1;cases e2;have:=I.tuple_inj s1 s2;subst this;simp only[Nat.min_self,beq_self_eq_true,Cm,B7,M5];intro j hj;exact ih _ _ (hf j xs[j] xs[j] (by simp[hj]) (by simp[hj]))
  ·subst e1;cases h
  ·subst e1;cases e2;exact(Z2 I s1 s2).elim
def EqS.det {K:A6}{x y:V}{b b':Bool}(h:EqS K H x y b)(h':EqS K H x y b'):b=b':=by
 obtain⟨_,⟨f,rfl⟩|⟨rfl,q,e,_⟩⟩:=h
 ·obtain⟨_,⟨f',rfl⟩|⟨rfl,q,e,_⟩⟩:=h'
  ·rfl
  ·subst e;cases f
 ·obtain⟨_,⟨f',rfl⟩|⟨rfl,q',e',_⟩⟩:=h'
  ·subst e;cases f'
  ·rfl
theorem EqA.det (I:Inv X jd σ H s):∀(d:Nat) (x y:V) (b b':Bool),EqA X.K H d x y b->EqA X.K H d x y b'->b=b':=by
 intro d
 induction d with
 |zero=>intro x y b b' h h';exact EqS.det h h'
 | succ d ih =>
  intro x y b b' h h';rcases h with h|⟨p,xs,rfl,s1,h⟩
  ·rcases h' with h'|⟨p',xs',rfl,s1',h'⟩
   ·exact EqS.det h h'
   ·obtain⟨⟨_,z⟩,_⟩:=h;cases z
  ·rcases h' with h'|⟨p',xs',e,s1',h'⟩
   ·obtain⟨⟨_,z⟩,_⟩:=h';cases z
   ·cases e;have:=I.tuple_inj s1 s1';subst this;rcases h with⟨q,ys,f,rfl,s2,hf,rfl⟩|⟨rfl,h⟩
    ·rcases h' with⟨q',ys',f',e2,s2',hf',rfl⟩|⟨rfl,h'|⟨q',ys',e2,s2'⟩⟩
     ·cases e2;have:=I.tuple_inj s2 s2';subst this;rw[GX λj hj=>ih _ _ _ _ (hf j (xs[j]' 0x0) (ys[j]' 0x0) (D1 _) (D1 _)) (hf' j (xs[j]' 0x0) (ys[j]' 0x0) (D1 _) (D1 _))]
     ·cases h'
     ·cases e2;exact(Z2 I s2 s2').elim
    ·rcases h' with⟨q',ys',f',rfl,s2',hf',rfl⟩|⟨rfl,h'⟩
     ·rcases h with h|⟨q,ys,e2,s2⟩
      ·cases h
      ·cases e2;exact(Z2 I s2' s2).elim
     ·rfl
def EqS.at (I:Inv X jd σ H s){A:D9}{x y:V}{u w:A2}{b:Bool}(hu:A.units<cLine)(rx:RelV x u)(ry:RelV y w)(h:EqS X.K H x y b):u0 A s u w b:=by
 obtain⟨⟨i,rfl⟩,⟨f,rfl⟩|⟨rfl,q,rfl,h⟩⟩:=h
 ·exact GJ rx ry rfl f
 ·cases ry;rcases h with⟨ys,h⟩|⟨ji,h⟩
  ·exact(Fb I hu h rx rfl).2.2.2.2.2
  ·obtain⟨t,rfl⟩:=rx;obtain⟨_,_,vs,_,d⟩:=dk_of I.hok h;exact RY i t d hu
theorem EqA.at (I:Inv X jd σ H s):∀(d:Nat) (A:D9) (x y:V) (u w:A2) (b:Bool),A.units+d<cLine->RelV x u->RelV y w->EqA X.K H d x y b->u0 A s u w b:=by
 intro d
 induction d with
 |zero=>intro A x y u w b hu rx ry h;exact EqS.at I 0x0 rx ry h
 | succ d ih =>
  intro A x y u w b hu rx ry h;have hu0:A.units<cLine:=0x0
  have hu1:A.in1.units+d<cLine:=by rw[Bm];ext
  have hrefl:=EqA.refl I (d+1) x b;rcases h with h|⟨p,xs,rfl,s1,h⟩
  ·exact EqS.at I hu0 rx ry h
  ·cases rx;obtain⟨jh,r1,t1⟩:=I.sqT s1;rcases h with⟨q,ys,f,rfl,s2,hf,eb⟩|⟨rfl,h|⟨q,ys,rfl,s2⟩⟩
   ·cases ry;obtain⟨its2,r2,t2⟩:=I.sqT s2;have z1:jh.toArray.size=xs.length:=by simpa using r1.length.symm
    have z2:its2.toArray.size=ys.length:=by simpa using r2.length.symm
    have he:∀j (h1:j<jh.toArray.size) (h2:j<its2.toArray.size),u0 A.in1 s jh.toArray[j] its2.toArray[j] (f j):=by
     intro j h1 h2;obtain⟨x',e1,q1⟩:=r1.getE (j:=j) (by simpa using h1);obtain⟨y',e2,q2⟩:=r2.getE (j:=j) (by simpa using h2);exact ih A.in1 x' y' _ _ (f j) hu1 (by simpa using q1) (by simpa using q2) (hf j x' y' e1 e2)
    have rc:BG A s (.ref p) (.ref q) b:=by
     rw[eb,<- z1,<- z2];exact SeqAt.RcAt.tuples t1 t2 hu0 he
    by_cases hpq:p=q
    ·subst hpq;rw[hrefl (.inr ⟨p,xs,rfl,s1,.inl ⟨p,ys,f,rfl,s2,hf,eb⟩⟩)];exact .same _
    ·exact .of_refs hpq rc
   ·exact(Fb I hu0 (.inl s1) ry h).2.2.2.2.1
   ·cases ry;obtain⟨its2,r2,t2⟩:=I.sqL s2;exact .tuple_list t1 t2 hu0
def rInA (K:A6)(d:Nat)(neg:Bool):R2:=λx y H Q=>∃p ys,∃f:Nat->Bool,y=.ref p/\(SqL K H p ys\/SqT K H p ys)/\(∀(j:Nat) z,ys[j]?=some z->EqA K H d z x (f j))/\Q (.bl (if neg then !((B8 ys.length).any f) else(B8 ys.length).any f)) H
open Classical in
def LU (I:Inv X jd σ H s){d:Nat}{A:D9}(hu:A.units+d<cLine){ys:List V}{jh:List A2}(r:Vals ys jh){x:V}{v:A2}(rx:RelV x v){f:Nat->Bool}(hf:∀(j:Nat) z,ys[j]?=some z->EqA X.K H d z x (f j)) :
   ∃e:A2->Bool,(∀y,y∈jh->u0 A s y v (e y))/\jh.any e=(B8 ys.length).any f:=by
 have key:∀(j j':Nat) (z:A2),jh[j]?=some z->jh[j']?=some z->f j=f j':=by
  intro j j' z h h';obtain⟨hj,_⟩:=E5.mp h;obtain⟨hj',_⟩:=E5.mp h';obtain⟨w1,a1,b1⟩:=r.getE hj;obtain⟨w2,a2,b2⟩:=r.getE hj';rw[D1 hj] at h;rw[D1 hj'] at h';cases h;rw[E7 h'] at b2;have:=b1.inj b2;subst this;exact EqA.det I d _ _ _ _ (hf j _ a1) (hf j' _ a2)
 let e:A2->Bool:=λy=>decide (∃j,jh[j]?=some y/\f j=true)
 have he:∀(j:Nat) (y:A2),jh[j]?=some y->e y=f j:=by
  intro j y h;show decide _=_;cases hb:f j with
  |true=>exact ju ⟨j,h,hb⟩
  |false=>exact jv λ⟨j',h1,h2⟩=>by rw[key j j' y h h1,h2] at hb;cases hb
 refine⟨e,λy hy=>?_,?_⟩
 ·obtain⟨j,hj,rfl⟩:=AU hy;obtain⟨w1,a1,b1⟩:=r.getE hj;rw[he j _ (D1 hj)];exact(hf j w1 a1).at I d A w1 x _ v (f j) hu b1 rx
 ·have hl:=r.length;rw[t7,p9,p9];constructor
  ·rintro⟨y,hy,h⟩;obtain⟨j,hj,rfl⟩:=AU hy;exact⟨j,M5.mpr 0x0,by rw[<- he j _ (D1 hj)];exact h⟩
  ·rintro⟨j,hj,h⟩;have hj':j<jh.length:=by have:=M5.mp hj;ext
   exact⟨jh[j],x0 hj',by rw[he j _ (D1 hj')];exact h⟩
def RZ (d:Nat)(hu:X.A.units+(d+1)<cLine):OpR X (L0 .NotIn) (rInA X.K d true):=by
 intro jd s σ H x y v u Q I rx ry h;obtain⟨p,ys,f,rfl,hq,hf,q⟩:=h;cases ry;rcases hq with hq|hq
 ·obtain⟨jh,r,il⟩:=I.sqL hq;obtain⟨e,h1,h2⟩:=LU I (A:=X.A.in1) (by rw[Bm];ext) r rx hf;refine SeqAt.notIn_listAt e il (λy hy=>h1 y (by simpa using hy)) ⟨.bl _,H,I,rfl,?_⟩;rw[show jh.toArray.any e=jh.any e by simp,h2];exact q
 ·obtain⟨jh,r,il⟩:=I.sqT hq;obtain⟨e,h1,h2⟩:=LU I (A:=X.A.in1) (by rw[Bm];ext) r rx hf;refine SeqAt.notIn_tupleAt e il (λy hy=>h1 y (by simpa using hy)) ⟨.bl _,H,I,rfl,?_⟩;rw[show jh.toArray.any e=jh.any e by simp,h2];exact q
end
end L2
namespace Pu
open PySem PySem.Spec L2
def okA:PV->Bool
 |.tup _=>true
 |.lst _=>true
 |.dct _ _=>true
 |x=>L6 x
def cpA:Nat->PV->PV->Bool
 |_,.str _,y=>okA y
 |d+1,.tup xs,.tup ys=>(xs.zip ys).all λp=>cpA d p.1 p.2
 |_+1,.tup _,.lst _=>true
 |_+1,.tup _,y=>L6 y
 |_,_,_=>false
section
variable {K:A6}{G:Gh}{H:Hp}
def LV {i:Str}{y:PV}{u:V}(cy:okA y=true)(hy:RdV K G H y u):EqS K H (.str i) u (eqP (.str i) y):=by
 refine⟨⟨i,rfl⟩,?_⟩;cases y with
 |tup xs=>obtain⟨a,vs,e,h,_⟩:=hy.tup;exact .inr ⟨rfl,a,e,.inl ⟨vs,.inl h⟩⟩
 |lst xs=>obtain⟨a,vs,e,h,_⟩:=hy.lst;exact .inr ⟨rfl,a,e,.inl ⟨vs,.inr h⟩⟩
 | dct ks xs =>
  obtain⟨a,ji,e,_,h,_⟩:=hy.rep (λ_ z=>nomatch z);exact .inr ⟨rfl,a,e,.inr ⟨ji,h⟩⟩
 |non=>exact .inl ⟨d8 rfl hy,CJ rfl rfl (.inl rfl) hy⟩
 |bl b=>exact .inl ⟨d8 rfl hy,CJ rfl rfl (.inl rfl) hy⟩
 |int j=>exact .inl ⟨d8 rfl hy,CJ rfl rfl (.inl rfl) hy⟩
 |str j=>exact .inl ⟨d8 rfl hy,CJ rfl rfl (.inl rfl) hy⟩
 |_=>cases cy
def eqA_of:∀(d:Nat) (x y:PV) (v u:V),cpA d x y=true->RdV K G H x v->RdV K G H y u->EqA K H d v u (eqP x y):=by
 intro d
 induction d with
 | zero =>
  intro x y v u c hx hy;cases x with
  |str i=>rw[hx.str];exact LV (by unfold cpA at c;exact c) hy
  |_=>unfold cpA at c;cases c
 | succ d ih =>
  intro x y v u c hx hy;cases x with
  |str i=>rw[hx.str];exact .inl (LV (by unfold cpA at c;exact c) hy)
  | tup xs =>
   obtain⟨a,vs,rfl,ha,ra⟩:=hx.tup;refine .inr ⟨a,vs,rfl,ha,?_⟩;cases y with
   | tup ys =>
    obtain⟨q,us,rfl,hq,rq⟩:=hy.tup;refine .inl ⟨q,us,λj=>match xs[j]?,ys[j]? with|some x,some y=>eqP x y|_,_=>false,rfl,hq,λj x' y' e1 e2=>?_,?_⟩
    ·obtain⟨x1,ex,rx⟩:=ra.get e1;obtain⟨y1,ey,ry⟩:=rq.get e2;dsimp only;rw[ex,ey];have hc:((xs.zip ys).all λp=>cpA d p.1 p.2)=true:=by unfold cpA at c;exact c
     exact ih x1 y1 x' y' (B7.mp hc (x1,y1) (G4 (i:=j) (Gc.mpr ⟨ex,ey⟩))) (.inl rx) (.inl ry)
    ·rw[<- ra.length,<- rq.length];exact(Fd xs ys).symm
   |lst ys=>obtain⟨q,us,rfl,hq,_⟩:=hy.lst;exact .inr ⟨rfl,.inr ⟨q,us,rfl,hq⟩⟩
   |non=>exact .inr ⟨rfl,.inl (d8 rfl hy)⟩
   |bl b=>exact .inr ⟨rfl,.inl (d8 rfl hy)⟩
   |int i=>exact .inr ⟨rfl,.inl (d8 rfl hy)⟩
   |str i=>exact .inr ⟨rfl,.inl (d8 rfl hy)⟩
   |_=>unfold cpA at c;cases c
  |_=>unfold cpA at c;cases c
end
def wInA (d:Nat)(neg:Bool):w2:=λx y R=>match y with
 |.lst ys=>(ys.all λz=>cpA d z x)=true/\R (.bl (if neg then !memP x ys else memP x ys))
 |.tup ys=>(ys.all λz=>cpA d z x)=true/\R (.bl (if neg then !memP x ys else memP x ys))
 |_=>False
def W2.inA {K:A6}(d:Nat)(neg:Bool):W2 K (rInA K d neg) (wInA d neg):=by
 intro G H x y v u R Q hf rx ry hw k
 have seq:∀(ys:List PV) (p:A1) (us:List V),u=.ref p->(SqL K H p us\/SqT K H p us)->Reps K G H ys us->(ys.all λz=>cpA d z x)=true/\R (.bl (if neg then !memP x ys else memP x ys))->rInA K d neg v u H Q:=by
  intro ys p us eu hq r h;refine⟨p,us,λj=>match ys[j]? with|some y=>eqP y x|none=>false,eu,hq,λj z ez=>?_,?_⟩
  ·obtain⟨y1,ey,ry⟩:=r.get ez;dsimp only;rw[ey];exact eqA_of d y1 x z v (B7.mp h.1 y1 (G4 ey)) (.inl ry) rx
  ·have e:((B8 ys.length).any λj=>match ys[j]? with|some y=>eqP y x|none=>false)=memP x ys:=GZ ys;rw[<- r.length,e];exact k _ _ _ h.2 (Same.refl _) rfl
 unfold wInA at hw
 split at hw
 ·obtain⟨p,us,eu,hq,r⟩:=ry.lst;exact seq _ p us eu (.inl hq) r hw
 ·obtain⟨p,us,eu,hq,r⟩:=ry.tup;exact seq _ p us eu (.inr hq) r hw
 ·exact hw.elim
section
variable {ι:Type}{K:A6}{F:ι->Cx}
def R_ (d:Nat){k:Nat}(hr:∀z,Room k (F z).A)(hd:d<=30:=by decide)(hK:∀z,(F z).K=K:=by intro _;rfl):Cmp K F .NotIn (wInA d true):=⟨_,λz=>hK z▸RZ d (by have:=(hr z).units;ext),W2.inA d true⟩
end
end Pu
end
section
namespace Tb
open PySem L2 Pu
abbrev D8:pF:=O2
def HN:pS:=(qSeq (qSet 2 (qC (.str (B1 "abcdefghijklmnopqrstuvwxyz"))))
   (qSeq (qPar 3 4 (sV (A8 D8 (A0 (qV 0) (A0 (qC (.int 26)) qNil)))) (sV (qOp wIx (qL (qLst (A0 (qC (.int 1)) (A0 (qC (.int 3)) (A0 (qC (.int 5)) (A0 (qC (.int 7)) (A0 (qC (.int 9)) (A0 (qC (.int 11)) (A0 (qC (.int 15)) (A0 (qC (.int 17)) qNil)))))))))) (A8 D8 (A0 (qV 0) (A0 (qC (.int 8)) qNil))))))
   (qSeq (qPar 5 6 (sV (A8 D8 (A0 (qV 0) (A0 (qC (.int 2)) qNil)))) (sV (qC (.str (B1 "")))))
   (qSeq (qFor (K2 (A8 D8 (A0 (qV 0) (A0 (qC (.int 8)) qNil)))) (gN 7) (qSet 6 (qOp wAdd (qV 6) (qOp wIx (qV 2) (A8 D8 (A0 (qV 0) (A0 (qC (.int 26)) qNil)))))))
   (qSeq (qOwn 8 (qLst qNil))
   (qSeq (qFor (K2 (qV 1)) (gN 7) (qSeq (qSet 9 (qOp wIx (qV 2) (qOp wMod (qOp wAdd (qV 3) (qOp wMul (qV 4) (qV 7))) (qC (.int 26)))))
   (qSeq (qSet 10 (qSl (qV 6) qNo (D5 (qOp wMod (qOp wAdd (qOp wMul (qV 7) (qV 4)) (qV 3)) (qOp wAdd (qUn wLen (qV 6)) (qC (.int 1)))))))
   (G6 (Q9 8 (A8 D8 (A0 (qV 0) (A0 (qOp wAdd (qV 7) (qC (.int 1))) qNil))) (qOp wIx (qL (qLst (A0 (qOp wAdd (qV 10) (qV 9)) (A0 (qOp wAdd (qV 9) (qV 10)) qNil)))) (qV 5)))))))
   (qSeq (qFor (K2 (qOp wIx (qL (qLst (A0 (qC (.int 0)) (A0 (qC (.int 0)) (A0 (qC (.int 0)) (A0 (qC (.int 1)) (A0 (qC (.int 2)) qNil))))))) (A8 D8 (A0 (qV 0) (A0 (qC (.int 5)) qNil))))) (gN 7) (qSeq (qSet 11 (qOp wIx (qL (qLst (A0 (qC (.str (B1 "drop"))) (A0 (qC (.str (B1 "touch"))) (A0 (qC (.str (B1 "none"))) (A0 (qC (.str (B1 "d"))) (A0 (qC (.str (B1 "u"))) (A0 (qC (.str (B1 "t"))) (A0 (qC (.str (B1 "o"))) qNil))))))))) (A8 D8 (A0 (qV 0) (A0 (qC (.int 7)) qNil)))))
   (qIfS (qB (qOp (wIn 4 true) (qV 11) (qO 8))) (qPut 8 (qV 11) (A8 D8 (A0 (qV 0) (A0 (qV 1) qNil)))) qNx)))
   (qRet (qUn K3 (qO 8))))))))))
def Eb:pF:=fnP ["_law_pot","_law_many","_law_letters","_law_first","_law_step","_law_ahead","_law_stem","_law_k","_law_boats_here","_law_sign","_law_part","_law_word"] ["_law_pot","_law_many"] HN
def HP:pS:=(qSeq (qPar 2 3 (sV (A8 D8 (A0 (qV 0) (A0 (qC (.int 6)) qNil)))) (sV (qUn wLen (qV 1))))
   (qSeq (qIfS (qB (qOp wLt (qV 2) (qC (.int 3)))) (qSeq (qOwn 4 (qLst qNil))
   (qSeq (qFor (qIt (qV 1)) (gN 5) (G6 (Q9 4 (A8 D8 (A0 (qV 0) (A0 (qOp wAdd (qUn wLen (qO 4)) (qC (.int 1))) qNil))) (qV 5))))
   (qRet (qUn K3 (qO 4))))) qNx)
   (qSeq (qPar 6 7 (sV (A8 D8 (A0 (qV 0) (A0 (qV 3) qNil)))) (sV (A8 D8 (A0 (qV 0) (A0 (qV 3) qNil)))))
   (qSeq (qOwn 4 (N3 (qV 1)))
   (qSeq (P5 4 (qOp wIx (qV 1) (qV 7)) (qOp wIx (qV 1) (qV 6)) (qV 6) (qV 7))
   (qRet (qOp wIx (qL (qLst (A0 (qUn wRev (qV 1)) (A0 (qOp wAdd (qSl (qV 1) (D5 (qUn wNeg (qC (.int 1)))) qNo) (qSl (qV 1) qNo (D5 (qUn wNeg (qC (.int 1)))))) (A0 (qUn K3 (qO 4)) qNil))))) (qOp wSub (qV 2) (qC (.int 3))))))))))
def Ec:pF:=fnP ["_law_pot","_law_row","_law_way","_law_n","_law_boats_here","_law_boat","_law_p","_law_q"] ["_law_pot","_law_row"] HP
def HQ:pS:=(qSeq (qIfS (qB (qOp wLt (A8 D8 (A0 (qV 0) (A0 (qC (.int 3)) qNil))) (qC (.int 2)))) (qSeq (qSet 1 (A8 Eb (A0 (qV 0) (A0 (qOp wIx (qL (qLst (A0 (qC (.int 1)) (A0 (qC (.int 2)) (A0 (qC (.int 3)) (A0 (qC (.int 4)) (A0 (qC (.int 2)) (A0 (qC (.int 3)) (A0 (qC (.int 4)) (A0 (qC (.int 5)) qNil)))))))))) (A8 D8 (A0 (qV 0) (A0 (qC (.int 8)) qNil)))) qNil))))
   (qRet (qTup (A0 (qTup (A0 (qOp wAdd (qC (.int 1)) (A8 D8 (A0 (qV 0) (A0 (qC (.int 8)) qNil)))) (A0 (A8 D8 (A0 (qV 0) (A0 (qC (.int 8)) qNil))) qNil))) (A0 (qV 1) (A0 (A8 Ec (A0 (qV 0) (A0 (qV 1) qNil))) qNil)))))) qNx)
   (qSeq (qSet 2 (qOp wIx (qL (qLst (A0 (qTup (A0 (qOp wAdd (qC (.int 1)) (A8 D8 (A0 (qV 0) (A0 (qC (.int 8)) qNil)))) (A0 (qC (.int 0)) qNil))) (A0 (qTup (A0 (qC (.int 8)) (A0 (qC (.int 7)) qNil))) qNil)))) (A8 D8 (A0 (qV 0) (A0 (qC (.int 2)) qNil)))))
   (qSeq (qSet 1 (A8 Eb (A0 (qV 0) (A0 (qOp wAdd (qC (.int 2)) (A8 D8 (A0 (qV 0) (A0 (qC (.int 7)) qNil)))) qNil))))
   (qRet (qTup (A0 (qV 2) (A0 (qV 1) (A0 (A8 Ec (A0 (qV 0) (A0 (qV 1) qNil))) qNil))))))))
def HR:pF:=fnP ["_law_pot","_law_row","_law_meeting"] ["_law_pot"] HQ
def HS:pS:=(qSeq (qOwn 3 (N3 (qV 0)))
   (qSeq (P5 3 (qOp wIx (qV 0) (qV 2)) (qOp wIx (qV 0) (qV 1)) (qV 1) (qV 2))
   (qRet (qUn K3 (qO 3)))))
def u8:pF:=fnP ["_law_row","_law_p","_law_q","_law_boats_here"] ["_law_row","_law_p","_law_q"] HS
def HU:pS:=(qRet (G8 (qOp wLt (qV 1) (qV 2)) (G8 (qOp wLe (qOp wSub (qOp wSub (qV 2) (qV 1)) (qC (.int 1))) (qOp wIx (qV 0) (qC (.int 1)))) (qOp wLe (qV 2) (qOp wAdd (qOp wMul (qOp Q2 (qV 1) (qOp wIx (qV 0) (qC (.int 0)))) (qOp wIx (qV 0) (qC (.int 0)))) (qOp wIx (qV 0) (qC (.int 0))))))))
def BR:pF:=fnP ["_law_meeting","_law_p","_law_q"] ["_law_meeting","_law_p","_law_q"] HU
def HV:pS:=(qSeq (U4 [2,3,4] (slT1 (qV 1) (qC (.int 0)) (Q8 (sO (qLst (A0 (qV 1) qNil))) (Q8 (sV (qUn wLen (qV 1))) U3))))
   (qSeq (qOwn 5 (qLst qNil))
   (qSeq (qFor (K2 (qV 4)) (gN 6) (G6 (Q6 5 (qL (F7 [none,some 6,some 0] (N4 (qOp wAdd (qV 6) (qC (.int 1))) (qV 4)) (gN 0) (qB (A8 BR (A0 (qV 2) (A0 (qV 1) (A0 (qV 0) qNil))))) (qTup (A0 (qV 1) (A0 (qV 0) qNil))))))))
   (qSeq (BN (qB (qOpR (wNe 4) (qO 3) (qL (qLst qNil)))) (qSeq (qSet 7 (T7 3 (qC (.int 0))))
   (O1 5 (qFor (qIl (qV 5)) (gTp 2 (gCn (gN 6) (gCn (gN 8) gNl))) (qSeq (qSet 9 (A8 u8 (A0 (qV 7) (A0 (qV 6) (A0 (qV 8) qNil)))))
   (qIfS (qB (P7 2 (qV 9))) (qSeq (Q7 2 (qV 9) (qOp wAdd (L7 2 (qV 7)) (qC (.int 1))))
   (G6 (K9 3 (qV 9)))) qNx))))))
   (P6 2 (qRet (qV 2)))))))
def Db:pF:=fnP ["_law_meeting","_law_other","_law_found","_law_waiting","_law_n","_law_pairs","_law_p","_law_here","_law_q","_law_further"] ["_law_meeting","_law_other"] HV
def HW:pS:=(qSeq (qSet 1 (qL (qLst (A0 (qTup qNil) qNil))))
   (qSeq (qFor (K2 (qUn wLen (qV 0))) (gN 2) (qSeq (qOwn 3 (qLst qNil))
   (qSeq (qFor (qIl (qV 1)) (gN 4) (G6 (Q6 3 (qL (F7 [none,some 4] (qIl (qV 0)) (gN 0) (qB (qOp (wIn 4 true) (qV 0) (qV 1))) (qOp wAdd (qV 1) (qTup (A0 (qV 0) qNil))))))))
   (O1 3 (qSet 1 (qV 3))))))
   (qRet (qV 1))))
def Dc:pF:=fnP ["_law_some","_law_found","_law_k","_law_longer","_law_one"] ["_law_some"] HW
def HX:pS:=(qSeq (qPar 3 4 (sO (qLst qNil)) (sV (qUn wLen (qV 1))))
   (qSeq (qIfS (qB (qOp (wEq 4) (qOp wIx (qV 0) (qC (.int 1))) (qC (.int 0)))) (G6 (K9 3 (qTup (A0 (qC (.str (B1 "pairs"))) qNil)))) qNx)
   (qSeq (qIfS (qB (qOp wLe (qV 4) (qOp wMin (qOp wIx (qV 0) (qC (.int 0))) (qOp wAdd (qOp wIx (qV 0) (qC (.int 1))) (qC (.int 2)))))) (G6 (K9 3 (qTup (A0 (qC (.str (B1 "rounds"))) qNil)))) qNx)
   (qSeq (qIfS (qB (qOp wLt (qV 4) (qC (.int 6)))) (qSeq (qSet 5 (A8 Db (A0 (qV 0) (A0 (qV 2) qNil))))
   (G6 (K9 3 (qTup (A0 (qC (.str (B1 "table"))) (A0 (qUn K3 (qL (F7 [none,some 5] (qIl (A8 Dc (A0 (qL (N6 (qV 1))) qNil))) (gN 0) qTru (qIxT (qV 1) (qV 0))))) qNil)))))) qNx)
   (O0 3)))))
def HZ:pF:=fnP ["_law_meeting","_law_row","_law_other","_law_found","_law_n","_law_numbers_here"] ["_law_meeting","_law_row","_law_other"] HX
def LW:pS:=(qSeq (qSet 2 (qL (F7 [none,some 1] (qIt (qV 0)) (gN 0) qTru (J3 (qV 1) (qV 0)))))
   (qRet (qUn wSum (qL (F7 [none,none,some 2] (Q4 (qV 2)) (gTp 2 (gCn (gN 0) (gCn (gN 1) gNl))) qTru (qUn wLen (qL (F7 [none,some 1] (qIl (qSl (qV 2) (D5 (qV 0)) qNo)) (gN 0) (qB (qOp wLt (qV 0) (qV 1))) (qC (.int 1))))))))))
def FJ:pF:=fnP ["_law_row","_law_other","_law_places"] ["_law_row","_law_other"] LW
def H_:pS:=(qSeq (qFor (K2 (qUn wLen (qV 1))) (gN 3) (qFor (N4 (qOp wAdd (qV 3) (qC (.int 1))) (qUn wLen (qV 1))) (gN 4) (qIfS (qAnd (qB (A8 BR (A0 (qV 0) (A0 (qV 3) (A0 (qV 4) qNil))))) (qB (qOp wLt (qIxT (qV 2) (A8 u8 (A0 (qV 1) (A0 (qV 3) (A0 (qV 4) qNil))))) (qIxT (qV 2) (qV 1))))) (qRet (qTup (A0 (qV 3) (A0 (qV 4) qNil)))) qNx)))
   (qRet (qTup (A0 (qC (.int 0)) (A0 (qC (.int 0)) qNil)))))
def Ed:pF:=fnP ["_law_meeting","_law_row","_law_numbers_here","_law_p","_law_q"] ["_law_meeting","_law_row","_law_numbers_here"] H_
def Ia:pS:=(qSeq (qPar 3 4 (sO (qLst qNil)) (sV (A8 FJ (A0 (qV 1) (A0 (qV 2) qNil)))))
   (qSeq (qSet 5 (qIf (qB (qOp wLt (qUn wLen (qV 1)) (qC (.int 6)))) (A8 Db (A0 (qV 0) (A0 (qV 2) qNil))) Q3))
   (qSeq (qFor (K2 (qV 4)) (gN 6) (qIfS (qB (qOp (wNe 4) (qV 1) (qV 2))) (qSeq (qSet 7 (qOp wIx (qL (F7 [none,some 1,some 2] (K2 (qUn wLen (qV 1))) (gN 0) (qB (qOp (wNe 4) (qOp wIx (qV 1) (qV 0)) (qOp wIx (qV 2) (qV 0)))) (qV 0))) (qC (.int 0))))
   (qSeq (qSet 8 (J3 (qV 1) (qOp wIx (qV 2) (qV 7))))
   (qSeq (qIfS (qB (qOp wLt (qUn wLen (qV 1)) (qC (.int 6)))) (qAsg (A8 Ed (A0 (qV 0) (A0 (qV 1) (A0 (qV 5) qNil)))) (gTp 2 (gCn (gN 7) (gCn (gN 8) gNl)))) (qIfS (qB (qOp (wEq 4) (qOp wIx (qV 0) (qC (.int 1))) (qC (.int 0)))) (qSet 7 (qOp wSub (qV 8) (qC (.int 1)))) qNx))
   (qSeq (G6 (K9 3 (qTup (A0 (qOp wIx (qV 1) (qV 8)) (A0 (qOp wIx (qV 1) (qV 7)) qNil)))))
   (qSet 1 (A8 u8 (A0 (qV 1) (A0 (qV 7) (A0 (qV 8) qNil))))))))) qNx))
   (qRet (qUn K3 (qO 3))))))
def Ib:pF:=fnP ["_law_meeting","_law_row","_law_other","_law_found","_law_many","_law_numbers_here","_law_turn","_law_p","_law_q"] ["_law_meeting","_law_row","_law_other"] Ia
def Ie:pS:=(qRet (G8 (qUn (wIsi "str") (qV 0)) (qOp (wEq 4) (qV 0) (qV 1))))
def Ee:pF:=fnP ["thing","text"] ["thing","text"] Ie
def Ig:pS:=(qRet (G8 (qOp wLe (qV 1) (qOp wIx (qV 0) (qC (.int 0)))) (qOp wLe (qV 1) (qOp wAdd (qOp wIx (qV 0) (qC (.int 1))) (qC (.int 2))))))
def Ih:pF:=fnP ["meeting","n"] ["meeting","n"] Ig
def Ii:pS:=(qRet (qOp wLe (qV 0) (qC (.int 5))))
def Ij:pF:=fnP ["n"] ["n"] Ii
def Ik:pS:=(qSeq (qSet 1 (qL (qLst (A0 (qTup qNil) qNil))))
   (qSeq (qFor (K2 (qUn wLen (qV 0))) (gN 2) (qSet 1 (qL (N2 [none,none,some 0] (qIl (qV 1)) (gN 0) (qIl (qV 2)) (gN 1) (qB (qOp (wIn 4 true) (qV 1) (qV 0))) (qOp wAdd (qV 0) (qTup (A0 (qV 1) qNil)))))))
   (qRet (qV 1))))
def Il:pF:=fnP ["boats","rows","many"] ["boats"] Ik
def Im:pS:=(qSeq (qSet 2 (qOp wIx (qV 0) (qC (.int 0))))
   (qRet (qOp Q2 (qOp wSub (qOp wAdd (qV 1) (qV 2)) (qC (.int 1))) (qV 2))))
def Io:pF:=fnP ["meeting","n","size"] ["meeting","n"] Im
def Ip:pS:=(qSeq (qSet 3 (qOp wIx (qV 0) (qC (.int 0))))
   (qSeq (qSet 4 (qOp wMul (qV 2) (qV 3)))
   (qRet (qTup (A0 (qV 4) (A0 (qOp wMin (qOp wAdd (qV 4) (qV 3)) (qOp wSub (qV 1) (qC (.int 1)))) qNil))))))
def Ir:pF:=fnP ["meeting","n","k","size","first"] ["meeting","n","k"] Ip
def Iu:pS:=(qSeq (qOwn 2 (qLst qNil))
   (qSeq (qFor (K2 (A8 Io (A0 (qV 0) (A0 (qV 1) qNil)))) (gN 3) (qSeq (qAsg (A8 Ir (A0 (qV 0) (A0 (qV 1) (A0 (qV 3) qNil)))) (gTp 2 (gCn (gN 4) (gCn (gN 5) gNl))))
   (qFor (N4 (qV 4) (qV 5)) (gN 6) (qSeq (qSet 7 (qOp wMin (qOp wAdd (qOp wAdd (qV 6) (qC (.int 1))) (qOp wIx (qV 0) (qC (.int 1)))) (qV 5)))
   (T8 2 (qL (F7 [none,some 6] (N4 (qOp wAdd (qV 6) (qC (.int 1))) (qOp wAdd (qV 7) (qC (.int 1)))) (gN 0) qTru (qTup (A0 (qV 1) (A0 (qV 0) qNil))))))))))
   (qRet (qUn K3 (qO 2)))))
def Dd:pF:=fnP ["meeting","n","pairs","k","first","last","p","furthest"] ["meeting","n"] Iu
def FK:pS:=(qSeq (qIfS (qOr (qNot (qB (qUn (wIsi "int") (qV 0)))) (qB (qUn (wIsi "bool") (qV 0)))) (qRet (qC (.bl false))) qNx)
   (qRet (M7 wLe wLe (qV 1) (qV 0) (qV 2))))
def Ef:pF:=fnP ["thing","low","high"] ["thing","low","high"] FK
def Iv:pS:=(qSeq (qOwn 3 (N3 (qV 0)))
   (qSeq (P5 3 (qOp wIx (qV 0) (qV 2)) (qOp wIx (qV 0) (qV 1)) (qV 1) (qV 2))
   (qRet (qUn K3 (qO 3)))))
def De:pF:=fnP ["row","one","other","boats"] ["row","one","other"] Iv
def FL:pS:=(qSeq (qSet 5 (A8 Il (A0 (qL (N6 (qV 1))) qNil)))
   (qSeq (qIfS (qOr (qNot (qB (qUn (wIsi "tuple") (qV 4)))) (qB (qOp (wNe 4) (qUn wLen (qV 4)) (qUn wLen (qV 5))))) (qRet (qC (.bl false))) qNx)
   (qSeq (qIfS (qNot (qB (qUn wAll (qL (F7 [none,some 5] (qIt (qV 4)) (gN 0) qTru (A8 Ef (A0 (qV 0) (A0 (qC (.int 0)) (A0 (qUn wLen (qV 1)) qNil))))))))) (qRet (qC (.bl false))) qNx)
   (qSeq (R1 6 true false (qV 5) (qV 4))
   (qSeq (qIfS (qOr (qB (qOp (wNe 4) (L7 6 (qV 1)) (qV 3))) (qB (qOp (wNe 4) (L7 6 (qV 2)) (qC (.int 0))))) (qRet (qC (.bl false))) qNx)
   (qSeq (qSet 7 (A8 Dd (A0 (qV 0) (A0 (qUn wLen (qV 1)) qNil))))
   (P6 6 (qRet (qUn wAll (qL (N2 [none,none,none,some 6,some 7] (qIl (qV 5)) (gN 0) (qIt (qV 4)) (gTp 2 (gCn (gN 1) (gCn (gN 2) gNl))) qTru (qOp wLe (qUn wAbs (qOp wSub (qIxT (qV 3) (qV 0)) (qIxT (qV 3) (A8 De (A0 (qV 0) (A0 (qV 1) (A0 (qV 2) qNil))))))) (qC (.int 1))))))))))))))
def FM:pF:=fnP ["meeting","row","other","many","thing","rows","numbers","places"] ["meeting","row","other","many","thing"] FL
def Iw:pS:=(qRet (qOp (wEq 4) (qOp wIx (qV 0) (qC (.int 1))) (qC (.int 0))))
def Ix:pF:=fnP ["meeting"] ["meeting"] Iw
def Iy:pS:=(qSeq (qSet 2 (qL (F7 [none,some 1] (qIt (qV 0)) (gN 0) qTru (J3 (qV 1) (qV 0)))))
   (qRet (qUn wLen (qL (N2 [none,none,none,some 2] (Q4 (qV 2)) (gTp 2 (gCn (gN 0) (gCn (gN 1) gNl))) (qIl (qSl (qV 3) (D5 (qOp wAdd (qV 0) (qC (.int 1)))) qNo)) (gN 2) (qB (qOp wLt (qV 2) (qV 1))) (qC (.int 1)))))))
def Iz:pF:=fnP ["row","other","goals"] ["row","other"] Iy
def IA:pS:=(qSeq (U5 2)
   (qSeq (qSet 3 (qC (.int 0)))
   (qSeq (qFor (qIt (qV 0)) (gN 4) (qSeq (qIfS (qB (qInS true 2 (qV 4))) (qAug 3 T9 (qC (.int 1))) qNx)
   (qSeq (qSet 5 (qV 4))
   (BN (qB (qInS true 2 (qV 5))) (qSeq (G6 (O4 2 (qV 5)))
   (qSet 5 (qOp wIx (qV 1) (J3 (qV 0) (qV 5)))))))))
   (qRet (qV 3)))))
def FN:pF:=fnP ["row","other","seen","many","boat","at"] ["row","other"] IA
def IB:pS:=(qSeq (qIfS (qOr (qNot (qB (qUn (wIsi "tuple") (qV 4)))) (qNot (qB (M7 wLe wLe (qC (.int 1)) (qUn wLen (qV 4)) (qC (.int 2)))))) (qRet (qC (.bl false))) qNx)
   (qSeq (qSet 5 (qUn wLen (qV 1)))
   (qSeq (qIfS (qB (qOp (wEq 4) (qUn wLen (qV 4)) (qC (.int 2)))) (qRet (G8 (A8 Ee (A0 (qOp wIx (qV 4) (qC (.int 0))) (A0 (qC (.str (B1 "table"))) qNil))) (G8 (A8 Ij (A0 (qV 5) qNil)) (A8 FM (A0 (qV 0) (A0 (qV 1) (A0 (qV 2) (A0 (qV 3) (A0 (qOp wIx (qV 4) (qC (.int 1))) qNil))))))))) qNx)
   (qSeq (qIfS (qB (A8 Ee (A0 (qOp wIx (qV 4) (qC (.int 0))) (A0 (qC (.str (B1 "pairs"))) qNil)))) (qRet (G8 (A8 Ix (A0 (qV 0) qNil)) (qOp (wEq 4) (qV 3) (A8 Iz (A0 (qV 1) (A0 (qV 2) qNil)))))) qNx)
   (qRet (G8 (A8 Ee (A0 (qOp wIx (qV 4) (qC (.int 0))) (A0 (qC (.str (B1 "rounds"))) qNil))) (G8 (A8 Ih (A0 (qV 0) (A0 (qV 5) qNil))) (qOp (wEq 4) (qV 3) (qOp wSub (qV 5) (A8 FN (A0 (qV 1) (A0 (qV 2) qNil))))))))))))
def IC:pF:=fnP ["meeting","row","other","many","thing","n"] ["meeting","row","other","many","thing"] IB
def ID:pS:=(qSeq (qSet 4 (A8 Dd (A0 (qV 0) (A0 (qUn wLen (qV 1)) qNil))))
   (qSeq (qSet 5 (qV 1))
   (qSeq (qFor (qIt (qV 3)) (gTp 2 (gCn (gN 6) (gCn (gN 7) gNl))) (qSeq (qPar 8 9 (sV (J3 (qV 5) (qV 7))) (sV (J3 (qV 5) (qV 6))))
   (qSeq (qIfS (qB (qOp (wIn 4 true) (qTup (A0 (qV 8) (A0 (qV 9) qNil))) (qV 4))) (qRet (qC (.bl false))) qNx)
   (qSet 5 (A8 De (A0 (qV 5) (A0 (qV 8) (A0 (qV 9) qNil))))))))
   (qRet (qOp (wEq 4) (qV 5) (qV 2))))))
def IE:pF:=fnP ["meeting","row","other","pairs","places","stands","x","y","ahead","behind"] ["meeting","row","other","pairs"] ID
def IF:pS:=(qSeq (qIfS (qOr (qNot (qB (qUn (wIsi "str") (qV 0)))) (qNot (qB (M7 wLe wLe (qC (.int 1)) (qUn wLen (qV 0)) (qC (.int 8)))))) (qRet (qC (.bl false))) qNx)
   (qRet (qUn wAll (qL (F7 [none] (qIs (qV 0)) (gN 0) qTru (M7 wLe wLe (qC (.str (B1 "a"))) (qV 0) (qC (.str (B1 "z")))))))))
def IG:pF:=fnP ["thing"] ["thing"] IF
def IH:pS:=(qSeq (qIfS (qOr (qNot (qB (qUn (wIsi "tuple") (qV 1)))) (qB (qOp (wNe 4) (qUn wLen (qV 1)) (qC (.int 2))))) (qRet (qC (.bl false))) qNx)
   (qRet (qUn wAll (qL (F7 [none,some 0] (qIt (qV 1)) (gN 0) qTru (G8 (A8 IG (A0 (qV 0) qNil)) (qOp (wIn 4 false) (qV 0) (qV 1))))))))
def II:pF:=fnP ["row","thing"] ["row","thing"] IH
def IJ:pS:=(qSeq (qIfS (qOr (qNot (qB (qUn (wIsi "tuple") (qV 3)))) (qNot (qB (qUn wAll (qL (F7 [none,some 1] (qIt (qV 3)) (gN 0) qTru (A8 II (A0 (qV 1) (A0 (qV 0) qNil))))))))) (qRet (qC (.bl false))) qNx)
   (qRet (A8 IE (A0 (qV 0) (A0 (qV 1) (A0 (qV 2) (A0 (qV 3) qNil)))))))
def IK:pF:=fnP ["meeting","row","other","thing"] ["meeting","row","other","thing"] IJ
def IL:pS:=(qSeq (qIfS (qOr (qNot (qB (qUn (wIsi "tuple") (qV 3)))) (qB (qOp (wNe 4) (qUn wLen (qV 3)) (qC (.int 3))))) (qRet (qC (.bl false))) qNx)
   (qSeq (qAsg (qV 3) (gTp 3 (gCn (gN 4) (gCn (gN 5) (gCn (gN 6) gNl)))))
   (qSeq (qIfS (qOr (qNot (qB (A8 IK (A0 (qV 0) (A0 (qV 1) (A0 (qV 2) (A0 (qV 5) qNil))))))) (qNot (qB (A8 Ef (A0 (qV 4) (A0 (qUn wLen (qV 5)) (A0 (qUn wLen (qV 5)) qNil))))))) (qRet (qC (.bl false))) qNx)
   (qRet (A8 IC (A0 (qV 0) (A0 (qV 1) (A0 (qV 2) (A0 (qV 4) (A0 (qV 6) qNil))))))))))
def Eg:pF:=fnP ["meeting","row","other","thing","many","touches","paper"] ["meeting","row","other","thing"] IL
def FO:pS:=(qSeq (qPar 5 6 (sV (A8 Dc (A0 (qL (N6 (qV 1))) qNil))) (sV (qUn wLen (qV 1))))
   (qSeq (qIfS (qOr (qNot (qB (qUn (wIsi "tuple") (qV 4)))) (qB (qOp (wNe 4) (qUn wLen (qV 4)) (qUn wLen (qV 5))))) (qRet (qC (.bl false))) qNx)
   (qSeq (qIfS (qNot (qB (qUn wAll (qL (F7 [none] (qIt (qV 4)) (gN 0) qTru (G8 (qUn (wIsi "int") (qV 0)) (G8 (T4 (qUn (wIsi "bool") (qV 0))) (qOp wGe (qV 0) (qC (.int 0)))))))))) (qRet (qC (.bl false))) qNx)
   (qSeq (R1 7 true false (qV 5) (qV 4))
   (qSeq (qFor (qIl (qV 5)) (gN 8) (qFor (K2 (qV 6)) (gN 9) (qFor (N4 (qOp wAdd (qV 9) (qC (.int 1))) (qV 6)) (gN 10) (qIfS (qAnd (qB (A8 BR (A0 (qV 0) (A0 (qV 9) (A0 (qV 10) qNil))))) (qB (qOp wGt (qUn wAbs (qOp wSub (L7 7 (qV 8)) (L7 7 (A8 u8 (A0 (qV 8) (A0 (qV 9) (A0 (qV 10) qNil))))))) (qC (.int 1))))) (qRet (qC (.bl false))) qNx))))
   (qRet (G8 (qOp (wEq 4) (L7 7 (qV 1)) (qV 3)) (qOp (wEq 4) (L7 7 (qV 2)) (qC (.int 0))))))))))
def FP:pF:=fnP ["_law_meeting","_law_row","_law_other","_law_many","_law_numbers_here","_law_rows","_law_n","_law_told","_law_here","_law_p","_law_q"] ["_law_meeting","_law_row","_law_other","_law_many","_law_numbers_here"] FO
def IM:pS:=(qSeq (V0 2 3 0)
   (qSeq (qFor (qIt (qV 0)) (gN 4) (qSeq (qSet 3 (qOp wAdd (qV 3) (qUn wInt (M3 2 (qV 4)))))
   (qSeq (qSet 5 (qV 4))
   (BN (qB (M3 2 (qV 5))) (qSeq (O3 2 (qV 5) (qC (.bl true)))
   (qSet 5 (qOp wIx (qV 1) (J3 (qV 0) (qV 5)))))))))
   (qRet (qV 3))))
def FQ:pF:=fnP ["_law_row","_law_other","_law_met","_law_many","_law_start","_law_boat"] ["_law_row","_law_other"] IM
def IN:pS:=(qSeq (qSet 5 (qUn wLen (qV 1)))
   (qSeq (qIfS (qOr (qNot (qB (qUn (wIsi "tuple") (qV 4)))) (qOr (qB (qOp (wIn 4 true) (qUn wLen (qV 4)) (qTup (A0 (qC (.int 1)) (A0 (qC (.int 2)) qNil))))) (qNot (qB (qUn (wIsi "str") (qOp wIx (qV 4) (qC (.int 0)))))))) (qRet (qC (.bl false))) qNx)
   (qSeq (qIfS (qB (qOp (wEq 4) (qUn wLen (qV 4)) (qC (.int 2)))) (qRet (G8 (qOp (wEq 4) (qOp wIx (qV 4) (qC (.int 0))) (qC (.str (B1 "table")))) (G8 (qOp wLe (qV 5) (qC (.int 5))) (A8 FP (A0 (qV 0) (A0 (qV 1) (A0 (qV 2) (A0 (qV 3) (A0 (qOp wIx (qV 4) (qC (.int 1))) qNil))))))))) qNx)
   (qSeq (qIfS (qB (qOp (wEq 4) (qOp wIx (qV 4) (qC (.int 0))) (qC (.str (B1 "pairs"))))) (qRet (G8 (qOp (wEq 4) (qOp wIx (qV 0) (qC (.int 1))) (qC (.int 0))) (qOp (wEq 4) (qV 3) (A8 FJ (A0 (qV 1) (A0 (qV 2) qNil)))))) qNx)
   (qRet (G8 (qOp (wEq 4) (qOp wIx (qV 4) (qC (.int 0))) (qC (.str (B1 "rounds")))) (G8 (qOp wLe (qV 5) (qOp wMin (qOp wIx (qV 0) (qC (.int 0))) (qOp wAdd (qOp wIx (qV 0) (qC (.int 1))) (qC (.int 2))))) (qOp (wEq 4) (qV 3) (qOp wSub (qV 5) (A8 FQ (A0 (qV 1) (A0 (qV 2) qNil))))))))))))
def IP:pF:=fnP ["_law_meeting","_law_row","_law_other","_law_many","_law_paper","_law_n"] ["_law_meeting","_law_row","_law_other","_law_many","_law_paper"] IN
def IQ:pS:=(qSeq (qIfS (qNot (qB (qUn (wIsi "tuple") (qV 2)))) (qRet (qC .non)) qNx)
   (qSeq (qFor (qIt (qV 2)) (gN 3) (qSeq (qIfS (qOr (qNot (qB (qUn (wIsi "tuple") (qV 3)))) (qOr (qB (qOp (wNe 4) (qUn wLen (qV 3)) (qC (.int 2)))) (qOr (qB (qOp (wInA 2 true) (qOp wIx (qV 3) (qC (.int 0))) (qV 1))) (qB (qOp (wInA 2 true) (qOp wIx (qV 3) (qC (.int 1))) (qV 1)))))) (qRet (qC .non)) qNx)
   (qSeq (qPar 4 5 (sV (J3 (qV 1) (qOp wIx (qV 3) (qC (.int 1))))) (sV (J3 (qV 1) (qOp wIx (qV 3) (qC (.int 0))))))
   (qSeq (qIfS (qNot (qB (A8 BR (A0 (qV 0) (A0 (qV 4) (A0 (qV 5) qNil)))))) (qRet (qC .non)) qNx)
   (qSet 1 (A8 u8 (A0 (qV 1) (A0 (qV 4) (A0 (qV 5) qNil)))))))))
   (qRet (qV 1))))
def IR:pF:=fnP ["_law_meeting","_law_row","_law_touches_here","_law_pair","_law_p","_law_q"] ["_law_meeting","_law_row","_law_touches_here"] IQ
def IS:pS:=(qSeq (qIfS (qOr (qNot (qB (qUn (wIsi "tuple") (qV 3)))) (qOr (qB (qOp (wNe 4) (qUn wLen (qV 3)) (qC (.int 3)))) (qOr (qNot (qB (qUn (wIsi "int") (qOp wIx (qV 3) (qC (.int 0)))))) (qB (qUn (wIsi "bool") (qOp wIx (qV 3) (qC (.int 0)))))))) (qRet (qC (.bl false))) qNx)
   (qSeq (qIfS (qOr (qNot (qB (qUn (wIsi "tuple") (qOp wIx (qV 3) (qC (.int 1)))))) (qOr (qB (qOp (wNe 4) (qUn wLen (qOp wIx (qV 3) (qC (.int 1)))) (qOp wIx (qV 3) (qC (.int 0))))) (qB (qOp (wNe 4) (A8 IR (A0 (qV 0) (A0 (qV 1) (A0 (qOp wIx (qV 3) (qC (.int 1))) qNil)))) (qV 2))))) (qRet (qC (.bl false))) qNx)
   (qRet (A8 IP (A0 (qV 0) (A0 (qV 1) (A0 (qV 2) (A0 (qOp wIx (qV 3) (qC (.int 0))) (A0 (qOp wIx (qV 3) (qC (.int 2))) qNil)))))))))
def Eh:pF:=fnP ["_law_meeting","_law_row","_law_other","_law_thing"] ["_law_meeting","_law_row","_law_other","_law_thing"] IS
def IT:pS:=(qSeq (qSet 1 (qL (qLst (A0 (qC .non) (A0 (qC (.bl true)) (A0 (qC (.bl false)) (A0 (qC (.int 0)) (A0 (qC (.int 1)) (A0 (qUn wNeg (qC (.int 1))) (A0 (qOp wPow (qC (.int 10)) (qC (.int 30))) (A0 (qC (.str (B1 ""))) (A0 (qC (.str (B1 "pairs"))) (A0 (qC (.str (B1 "table"))) (A0 (qTup qNil) (A0 (qL (qLst qNil)) (A0 Q3 (A0 (qTup (A0 (qC (.str (B1 "a"))) (A0 (qC (.str (B1 "b"))) qNil))) (A0 (qTup (A0 (qTup qNil) qNil)) (A0 (qC (.str (B1 "a"))) qNil)))))))))))))))))))
   (qRet (qOp wIx (qL (qCat (qV 1) (qL (qLst (A0 (qTup (A0 (qC (.str (B1 "rounds"))) qNil)) qNil))))) (A8 D8 (A0 (qV 0) (A0 (qC (.int 17)) qNil))))))
def o7:pF:=fnP ["_law_pot","_law_some"] ["_law_pot"] IT
def IU:pS:=(qSeq (qIfS (qB (qUn (wIsi "int") (qV 1))) (qRet (qOp wIx (qL (qLst (A0 (qOp wAdd (qV 1) (qC (.int 1))) (A0 (qOp wSub (qV 1) (qC (.int 1))) (A0 (qOp (wEq 4) (qV 1) (qC (.int 1))) (A0 (qUn wStr (qV 1)) (A0 (qTup (A0 (qV 1) qNil)) (A0 (A8 o7 (A0 (qV 0) qNil)) qNil)))))))) (A8 D8 (A0 (qV 0) (A0 (qC (.int 6)) qNil))))) qNx)
   (qSeq (qIfS (qB (qUn (wIsi "str") (qV 1))) (qRet (qOp wIx (qL (qLst (A0 (qOp wAdd (qV 1) (qC (.str (B1 "a")))) (A0 (qSl (qV 1) (D5 (qC (.int 1))) qNo) (A0 (HM (qV 1)) (A0 (qTup (A0 (qV 1) qNil)) (A0 (qL (qLst (A0 (qV 1) qNil))) (A0 (A8 o7 (A0 (qV 0) qNil)) qNil)))))))) (A8 D8 (A0 (qV 0) (A0 (qC (.int 6)) qNil))))) qNx)
   (qRet (A8 o7 (A0 (qV 0) qNil)))))
def IV:pF:=fnP ["_law_pot","_law_thing"] ["_law_pot","_law_thing"] IU
def IW (Ei:pF):pS:=(qSeq (qIfS (qNot (qB (qUn (wIsi "tuple") (qV 1)))) (qRet (A8 IV (A0 (qV 0) (A0 (qV 1) qNil)))) qNx)
   (qSeq (qIfS (qAnd (qB (qOp (wNe 4) (qV 1) (qTup qNil))) (qB (qOp wGt (A8 D8 (A0 (qV 0) (A0 (qC (.int 4)) qNil))) (qC (.int 0))))) (qSeq (qSet 2 (A8 D8 (A0 (qV 0) (A0 (qUn wLen (qV 1)) qNil))))
   (qRet (qOp wAdd (qOp wAdd (qSl (qV 1) qNo (D5 (qV 2))) (qTup (A0 (A8 Ei (A0 (qV 0) (A0 (qOp wIx (qV 1) (qV 2)) qNil))) qNil))) (qSl (qV 1) (D5 (qOp wAdd (qV 2) (qC (.int 1)))) qNo)))) qNx)
   (qSeq (qPar 3 2 (sV (A8 D8 (A0 (qV 0) (A0 (qC (.int 7)) qNil)))) (sV (A8 D8 (A0 (qV 0) (A0 (qOp wAdd (qUn wLen (qV 1)) (qC (.int 1))) qNil)))))
   (qSeq (qIfS (qB (qOp (wEq 4) (qV 3) (qC (.int 0)))) (qRet (qOp wAdd (qOp wAdd (qSl (qV 1) qNo (D5 (qV 2))) (qTup (A0 (A8 o7 (A0 (qV 0) qNil)) qNil))) (qSl (qV 1) (D5 (qV 2)) qNo))) qNx)
   (qSeq (qIfS (qB (qOp wLt (qV 3) (qC (.int 3)))) (qRet (qOp wIx (qL (qLst (A0 (qL (N3 (qV 1))) (A0 (qUn wRev (qV 1)) qNil)))) (qOp wSub (qV 3) (qC (.int 1))))) qNx)
   (qSeq (qSet 4 (qOp wAdd (qOp wAdd (qSl (qV 1) qNo (D5 (qV 2))) (qUn wRev (qSl (qV 1) (D5 (qV 2)) (D5 (qOp wAdd (qV 2) (qC (.int 2))))))) (qSl (qV 1) (D5 (qOp wAdd (qV 2) (qC (.int 2)))) qNo)))
   (qSeq (qSet 5 (qL (qLst (A0 (qOp wAdd (qSl (qV 1) qNo (D5 (qV 2))) (qSl (qV 1) (D5 (qOp wAdd (qV 2) (qC (.int 1)))) qNo)) (A0 (qOp wAdd (qOp wAdd (qSl (qV 1) qNo (D5 (qV 2))) (qSl (qV 1) (D5 (qV 2)) (D5 (qOp wAdd (qV 2) (qC (.int 1)))))) (qSl (qV 1) (D5 (qV 2)) qNo)) (A0 (qV 4) qNil))))))
   (qRet (qOp wIx (qL (qCat (qV 5) (qL (qLst (A0 (A8 o7 (A0 (qV 0) qNil)) qNil))))) (qOp wSub (qV 3) (qC (.int 3))))))))))))
def Df:Nat->pF
 |0=>fnP ["_law_pot","_law_thing","_law_spot","_law_way","_law_crossed","_law_some"] ["_law_pot","_law_thing"] U6
 |d+1=>fnP ["_law_pot","_law_thing","_law_spot","_law_way","_law_crossed","_law_some"] ["_law_pot","_law_thing"] (IW (Df d))
abbrev Ei:pF:=Df 8
def FR:pS:=(qSeq (U1 1 (qV 0) (qC (.int 0)))
   (qSeq (qAsg (A8 HR (A0 (qV 1) qNil)) (gTp 3 (gCn (gN 2) (gCn (gN 3) (gCn (gN 4) gNl)))))
   (qSeq (qSet 5 (A8 HZ (A0 (qV 2) (A0 (qV 3) (A0 (qV 4) qNil)))))
   (qSeq (qSet 6 (A8 Ib (A0 (qV 2) (A0 (qV 3) (A0 (qV 4) qNil)))))
   (qSeq (qSet 7 (qTup (A0 (qUn wLen (qV 6)) (A0 (qV 6) (A0 (qOp wIx (qV 5) (A8 D8 (A0 (qV 1) (A0 (qUn wLen (qV 5)) qNil)))) qNil)))))
   (qSeq (qIfS (qOr (qNot (qB (A8 Eh (A0 (qV 2) (A0 (qV 3) (A0 (qV 4) (A0 (qV 7) qNil))))))) (qB (qOp R0 (A8 Eg (A0 (qV 2) (A0 (qV 3) (A0 (qV 4) (A0 (qV 7) qNil))))) (qC (.bl true))))) (qRet (qC (.bl false))) qNx)
   (qSeq (qSet 8 (qL (qCat (qL (F7 [none,some 1,some 7] (K2 (qC (.int 10))) (gN 0) qTru (A8 Ei (A0 (qV 1) (A0 (qV 2) qNil))))) (qL (qLst (A0 (A8 o7 (A0 (qV 1) qNil)) (A0 (A8 o7 (A0 (qV 1) qNil)) (A0 (qSl (qV 7) qNo (D5 (qC (.int 2)))) (A0 (qOp wAdd (qV 7) (qTup (A0 (qTup qNil) qNil))) qNil)))))))))
   (qSeq (qSet 8 (qL (qCat (qV 8) (qL (F7 [none,some 6,some 7] (qIl (qV 5)) (gN 0) qTru (qTup (A0 (qOp wIx (qV 2) (qC (.int 0))) (A0 (qV 1) (A0 (qV 0) qNil)))))))))
   (qSeq (qFor (qIl (qV 8)) (gN 9) (qSeq (qSet 10 (qUn AH (qV 9)))
   (qSeq (qSet 11 (A8 Eg (A0 (qV 2) (A0 (qV 3) (A0 (qV 4) (A0 (qV 9) qNil))))))
   (qIfS (qOr (qB (qOp (wNe 4) (qUn AH (qV 11)) (qUn AH (A8 Eh (A0 (qV 2) (A0 (qV 3) (A0 (qV 4) (A0 (qV 9) qNil)))))))) (qB (qOp (wNe 4) (qUn AH (qV 9)) (qV 10)))) (qRet (qC (.bl false))) qNx))))
   (qRet (qOp wIsB (A8 Eg (A0 (qV 2) (A0 (qV 3) (A0 (qV 4) (A0 (qV 7) qNil))))) (qC (.bl true)))))))))))))
def top (i:Nat):Stmt:=PySem.Challenge.pw_touchboats_k48_fewest_looked_at.main.body.getD i (.Pass ⟨0,0,0,0⟩)
def J8 (a b:Int):eqP (.int a) (.int b)=decide (a=b):=by
 show(a == b)=_;rw[Gk]
def J9 (a b:Str):eqP (.str a) (.str b)=decide (a=b):=by
 show(a == b)=_;rw[Gk]
def K1 (a b:Bool):eqP (.bl a) (.bl b)=decide (a=b):=by
 show(a == b)=_;rw[Gk]
def inv:List Nat->Nat
 |[]=>0
 |a::l=>(l.filter λb=>decide (b<a)).length+inv l
def cntP (l1 l2:List Str)(f:Str->Str->Bool):Nat:=(l1.map λx=>(l2.filter (f x)).length).sum
theorem LX {α:Type}:∀l:List α,(l.map λ_=>0).sum=0
 |[]=>rfl
 |a::l=>by rw[G7,Ch,LX l]
def cr (row jc:List Str)(x y:Str):Bool:=decide (ixS row x<ixS row y)&&decide (ixS jc y<ixS jc x)
theorem LY {jc row:List Str}(nd:row.Nodup):∀(jr pre:List Str),row=pre++jr->inv (jr.map (ixS jc))=(jr.map λx=>(row.filter (cr row jc x)).length).sum
 |[],_,_=>rfl
 | x :: jr, pre, e => by
  have ih:=LY (jc:=jc) nd jr (pre++[x]) (by rw[e,i6];rfl);rw[G7,G7,Ch];show((jr.map (ixS jc)).filter λb=>decide (b<ixS jc x)).length+inv (jr.map (ixS jc))=_;rw[ih]
  congr 1
  have hx:ixS row x=pre.length:=N5 nd (E1 (show x∈row by rw[e];simp)).1 (by rw[e,An (B3 _),DC];rfl)
  have hp:∀y∈pre,ixS row y<pre.length:=λy hy=>by
   obtain⟨j,hj,ej⟩:=AU hy;have:=N5 nd (E1 (show y∈row by rw[e];simp[hy])).1 (show row[j]?=some y by rw[e,Ao hj,D1 hj,ej]);ext
  have hs:∀y∈jr,pre.length<ixS row y:=λy hy=>by
   obtain⟨j,hj,ej⟩:=AU hy
   have:=N5 nd (E1 (show y∈row by rw[e];simp[hy])).1 (show row[pre.length+1+j]?=some y by
    rw[e,An 0x0,show pre.length+1+j-pre.length=j+1 by omega,O6,D1 hj,ej])
   ext
  have f0:row.filter (cr row jc x)=jr.filter λy=>decide (ixS jc y<ixS jc x):=by
   have f1:pre.filter (cr row jc x)=[]:=Gf.mpr λy hy z=>by
    unfold cr at z;rw[hx,jv (by have:=hp y hy;omega),N9] at z;cases z
   have f2:cr row jc x x=false:=by unfold cr;rw[jv 0x0,N9]
   have f3:jr.filter (cr row jc x)=jr.filter λy=>decide (ixS jc y<ixS jc x):=List.filter_congr λy hy=>by
    unfold cr;rw[hx,ju (hs y hy),P2]
   have:(pre++x::jr).filter (cr row jc x)=jr.filter λy=>decide (ixS jc y<ixS jc x):=by
    rw[List.filter_append,f1,List.filter_cons_of_neg (by rw[f2];exact d5),f3];rfl
   rw[<- this,<- e]
  rw[f0,List.filter_map,B0]
  rfl
def Sa {jc row:List Str}(nd:row.Nodup):inv (row.map (ixS jc))=cntP row row (cr row jc):=LY nd row [] rfl
def inv_id {row:List Str}(nd:row.Nodup):inv (row.map (ixS row))=0:=by
 rw[Sa nd];unfold cntP;rw[<- LX row];refine congrArg List.sum (Gj λx _=>?_);rw[List.length_eq_zero_iff,Gf];intro y _ z;unfold cr at z;simp only[M2,decide_eq_true_eq] at z;omega
def itr (f:Str->Str):Nat->Str->Str
 |0,x=>x
 |k+1,x=>f (itr f k x)
theorem Ej (f:Str->Str)(x:Str)(b:Nat):∀a:Nat,itr f (a+b) x=itr f a (itr f b x)
 |0=>by rw[G0];rfl
 | a + 1 => by
  rw[show a+1+b=(a+b)+1 by omega];show f (itr f (a+b) x)=f (itr f a (itr f b x));rw[Ej f x b a]
def IX (f:Str->Str)(x:Str):∀k,itr f k (f x)=itr f (k+1) x:=λk=>(Ej f x 1 k).symm
structure Prm (f:Str->Str)(row:List Str):Prop where
 st:∀x∈row,f x∈row
 inj:∀x∈row,∀y∈row,f x=f y->x=y
def Rch (f:Str->Str)(x y:Str):Prop:=∃k,itr f k x=y
section
variable {f:Str->Str}{row:List Str}
theorem Prm.mem (P:Prm f row){x:Str}(hx:x∈row):∀k,itr f k x∈row
 |0=>hx
 |k+1=>P.st _ (P.mem hx k)
theorem Prm.injk (P:Prm f row){x y:Str}(hx:x∈row)(hy:y∈row):∀k,itr f k x=itr f k y->x=y
 |0,h=>h
 |k+1,h=>P.injk hx hy k (P.inj _ (P.mem hx k) _ (P.mem hy k) h)
def Prm.per (P:Prm f row){x:Str}(hx:x∈row):∃k,1<=k/\k<=row.length/\itr f k x=x:=by
 apply x8
 intro no;have no':∀k,1<=k->k<=row.length->itr f k x≠x:=λk h1 h2 h3=>no ⟨k,h1,h2,h3⟩
 have key:∀a b,a<b->b<=row.length->itr f a x≠itr f b x:=λa b hab hb e=>by
  rw[show b=a+(b-a) by omega,Ej] at e;exact no' (b-a) 0x0 0x0 (P.injk (P.mem hx _) hx a e.symm)
 have nd:((B8 (row.length+1)).map λk=>itr f k x).Nodup:=HF _ List.nodup_range λa ha b hb e=>by
  have ha:=M5.mp ha;have hb:=M5.mp hb;rcases Nat.lt_trichotomy a b with c|c|c
  ·exact absurd e (key a b c 0x0)
  ·exact c
  ·exact absurd e.symm (key b a c 0x0)
 have:=nd.length_le_of_subset λz hz=>by
  obtain⟨k,_,rfl⟩:=E4.mp hz;exact P.mem hx k
 rw[B0,AX] at this;omega
def Rch.small (P:Prm f row){x y:Str}(hx:x∈row):∀k,itr f k x=y->∃j,j<=row.length/\itr f j x=y:=by
 intro k
 induction k using Nat.strongRecOn with
 | _ k ih =>
  intro h
  by_cases c:k<=row.length
  ·exact⟨k,c,h⟩
  ·obtain⟨p,p1,p2,p3⟩:=P.per hx;refine ih (k-p) 0x0 ?_;rw[<- h,show k=(k-p)+p by omega,Ej,p3]
   congr 1
   ext
def Rch.trans {x y z:Str}(h1:Rch f x y)(h2:Rch f y z):Rch f x z:=by
 obtain⟨a,rfl⟩:=h1;obtain⟨b,rfl⟩:=h2;exact⟨b+a,Ej f x a b⟩
def Rch.symm (P:Prm f row){x y:Str}(hx:x∈row)(h:Rch f x y):Rch f y x:=by
 obtain⟨k,rfl⟩:=h
 induction k with
 |zero=>exact⟨0,rfl⟩
 | succ k ih =>
  obtain⟨q,q1,_,q3⟩:=P.per (P.mem hx k);refine Rch.trans ⟨q-1,?_⟩ ih;show itr f (q-1) (f (itr f k x))=itr f k x;rw[IX,show q-1+1=q by omega,q3]
def mnR (f:Str->Str)(row:List Str)(x:Str):Nat->Nat
 |0=>ixS row x
 |k+1=>min (mnR f row x k) (ixS row (itr f (k+1) x))
theorem mn_le (x:Str):∀k j,j<=k->mnR f row x k<=ixS row (itr f j x)
 | 0, j, h => by
  have:j=0:=0x0
  subst this;exact B3 _
 | k + 1, j, h => by
  show min _ _<=_
  by_cases c:j<=k
  ·have:=mn_le x k j c;ext
  ·have:j=k+1:=0x0
   subst this;ext
theorem IY (x:Str):∀k,∃j,j<=k/\mnR f row x k=ixS row (itr f j x)
 |0=>⟨0,B3 _,rfl⟩
 | k + 1 => by
  obtain⟨j,h1,h2⟩:=IY x k
  by_cases c:mnR f row x k<=ixS row (itr f (k+1) x)
  ·exact⟨j,0x0,by rw[<- h2];show min _ _=_;ext⟩
  ·exact⟨k+1,B3 _,by show min _ _=_;ext⟩
def cOf (f:Str->Str)(row:List Str)(x:Str):Nat:=mnR f row x row.length
def c_le (P:Prm f row){x y:Str}(hx:x∈row)(h:Rch f x y):cOf f row x<=ixS row y:=by
 obtain⟨k,hk⟩:=h;obtain⟨j,hj,rfl⟩:=Rch.small P hx k hk;exact mn_le x _ j hj
def Bs (P:Prm f row){x y:Str}(hx:x∈row)(hy:y∈row):Rch f x y↔cOf f row x=cOf f row y:=by
 obtain⟨i,_,ei⟩:=IY (f:=f) (row:=row) x row.length;obtain⟨j,_,ej⟩:=IY (f:=f) (row:=row) y row.length;constructor
 ·intro h;have h':=h.symm P hx
  have a:cOf f row x<=cOf f row y:=by
   show _<=mnR f row y row.length;rw[ej];exact c_le P hx (h.trans ⟨j,rfl⟩)
  have b:cOf f row y<=cOf f row x:=by
   show _<=mnR f row x row.length;rw[ei];exact c_le P hy (h'.trans ⟨i,rfl⟩)
  ext
 ·intro h;have e:ixS row (itr f i x)=ixS row (itr f j y):=by rw[<- ei,<- ej];exact h
  have e2:=CZ (P.mem hx i) (P.mem hy j) e;exact Rch.trans ⟨i,e2⟩ (Rch.symm P hy ⟨j,rfl⟩)
end
def ddN (l:List Nat):List Nat:=l.foldl (λjo v=>if v∈jo then jo else jo++[v]) []
def Bt (l:List Nat)(v:Nat):ddN (l++[v])=if v∈ddN l then ddN l else ddN l++[v]:=by unfold ddN;rw[List.foldl_append];rfl
def h6 (l:List Nat):(ddN l).Nodup/\∀v,v∈ddN l↔v∈l:=by
 have h:∀m,∀l:List Nat,l.length=m->(ddN l).Nodup/\∀v,v∈ddN l↔v∈l:=by
  intro m
  induction m with
  | zero =>
   intro l hl;have:=By hl;subst this;exact⟨Cg,λv=>Iff.rfl⟩
  | succ m ih =>
   intro l hl;have hne:l≠[]:=λz=>by rw[z] at hl;cases hl
   obtain⟨h1,h2⟩:=ih l.dropLast (by rw[List.length_dropLast];ext);have e:=List.dropLast_concat_getLast hne;rw[<- e];rw[Bt]
   split
   ·rename_i c;refine⟨h1,λv=>?_⟩;rw[h2 v,D6,E2];exact⟨.inl,λz=>z.elim id λz=>by rw[z];exact(h2 _).mp c⟩
   ·rename_i c;refine⟨Aq.mpr ⟨h1,0o0,λa ha b hb z=>?_⟩,λv=>?_⟩
    ·rw[E2.mp hb] at z;rw[z] at ha;exact c ha
    ·rw[D6,D6,h2 v]
 exact h _ l rfl
def dd_len {l l':List Nat}(h:∀v,v∈l↔v∈l'):(ddN l).length=(ddN l').length:=by
 obtain⟨a1,a2⟩:=h6 l;obtain⟨b1,b2⟩:=h6 l';exact Cj (a1.length_le_of_subset λv hv=>(b2 v).mpr ((h v).mp ((a2 v).mp hv))) (b1.length_le_of_subset λv hv=>(a2 v).mpr ((h v).mpr ((b2 v).mp hv)))
def Sc {l:List Nat}(h:l.Nodup):(ddN l).length=l.length:=by
 obtain⟨a1,a2⟩:=h6 l;exact Cj (a1.length_le_of_subset λv hv=>(a2 v).mp hv) (h.length_le_of_subset λv hv=>(a2 v).mpr hv)
def nxB (row jc:List Str)(b:Str):Str:=nm jc (ixS row b)
def AK {row jc:List Str}(nd:row.Nodup)(p:jc.Perm row):Prm (nxB row jc) row:=by
 have l:=p.length_eq;refine⟨λx hx=>p.mem_iff.mp (Af (by rw[l];exact Ae hx)),λx hx y hy h=>?_⟩;exact CZ hx hy (LG (p.nodup_iff.mpr nd) (by rw[l];exact Ae hx) (by rw[l];exact Ae hy) h)
theorem LZ {α:Type}{x:α}:∀{l:List α} (i:Nat),l.Nodup->x∉l->(l.set i x).Nodup
 |[],_,h,_=>h
 | y :: l, 0, h, hx => by
  rw[List.set_cons_zero,R8];exact⟨λz=>hx (C1 _ z),(R8.mp h).2⟩
 | y :: l, i + 1, h, hx => by
  rw[List.set_cons_succ,R8];refine⟨λz=>?_,LZ i (R8.mp h).2 λz=>hx (C1 _ z)⟩;rcases List.mem_or_eq_of_mem_set z with z|z
  ·exact(R8.mp h).1 z
  ·exact hx (by rw[<- z];exact D2)
def L_ {α:Type}(x:α):∀(xs:List α) (j:Nat),(insL xs j x).Perm (x::xs):=by
 intro xs j;unfold insL;have:=(List.perm_middle (a:=x) (l₁:=xs.take j) (l₂:=xs.drop j));rw[AT] at this;exact this
def Ma {α β:Type}(f:α->β)(xs:List α)(j:Nat)(x:α):insL (xs.map f) j (f x)=(insL xs j x).map f:=by
 unfold insL;rw[L3,G7,List.map_take,List.map_drop]
def Sg (ah:Int)(c:Nat)(z:Str):Prop:=(ah=0->∃l,z.cps.toList=l++[c])/\(ah=1->∃l,z.cps.toList=c::l)
def Sg.inj {ah:Int}{c d:Nat}{z:Str}(h:ah=0\/ah=1)(h1:Sg ah c z)(h2:Sg ah d z):c=d:=by
 rcases h with h|h
 ·obtain⟨l,e1⟩:=h1.1 h;obtain⟨l',e2⟩:=h2.1 h;rw[e1] at e2;have:=congrArg List.getLast? e2
  simpa using this
 ·obtain⟨l,e1⟩:=h1.2 h;obtain⟨l',e2⟩:=h2.2 h;rw[e1] at e2;exact(Ax e2).1
def Mb {q n:Nat}{many:Int}{R:PV->Nat->Prop}(h0:1<=many)(h1:many<=24)(hn:n<=999900000)(h:∀(zs:List Str) n',(zs.length:Int)=many->RowS zs->n'<=n+1000->R (rowP zs) n'):Eb [.pot q,.int many] n R:=by
 mleft;unfold HN;have l26:LETS.length=26:=Lf;have ll:LETS.length<=1000000:=by rw[l26];decide
 walk_at "p1";refine⟨0x0,λfi f0 f1=>⟨0x0,λd1 d10 d11=>?_⟩⟩;obtain⟨x,hx,ex⟩:=Bo (xs:=[PV.int 1,PV.int 3,PV.int 5,PV.int 7,PV.int 9,PV.int 11,PV.int 15,PV.int 17]) d10 d11
 have hx':∃t:Int,x=.int t/\t∈CY/\0<=t/\t<=17:=by
  simp only[B9,R5,or_false] at hx;rcases hx with rfl|rfl|rfl|rfl|rfl|rfl|rfl|rfl <;> exact⟨_,rfl,0b0,0b0,0b0⟩
 obtain⟨t,rfl,ht,t0,t1⟩:=hx';rw[ex];refine⟨0x0,λah a0 a1=>⟨0x0,λln l0 l1=>⟨0x0,?_⟩⟩⟩;have ha:ah=0\/ah=1:=0x0
 refine N1 (λi env m=>∃s7,∃z:Str,env=[some (.v (.pot q)),some (.v (.int many)),some (.v (.str LETS)),some (.v (.int fi)),some (.v (.int t)),some (.v (.int ah)),some (.v (.str z)),s7,none,none,none,none]/\z.length<=i/\(∀c∈z.cps.toList,Ltr c)/\m<=n+4+i) _ 0 _ _ ⟨none,_,rfl,B3 _,(λc z=>by cases z),0x0⟩ (λi x env m N ex hI hN=>?_) (λenv m hI=>?_)
 ·obtain⟨hi,rfl⟩:=i8 ex;obtain⟨s7,z,rfl,hz,lz,hm⟩:=hI;walk_at "p1";refine⟨0x0,λd d0 d1=>⟨ll,?_⟩⟩;rw[Lg d0 d1];dsimp only;have e1:∀c:Nat,(⟨#[c]⟩:Str).length=1:=λ_=>rfl;refine⟨by rw[e1];omega,hN _ _ ⟨some (.v (.int (0+i))),_,rfl,?_,?_,0x0⟩⟩
  ·rw[l9,BJ,D3,<- l9];show _+1<=_;ext
  ·rw[BJ];intro c hc;rcases D6.mp hc with hc|hc
   ·exact lz c hc
   ·rw[E2.mp hc];exact⟨0x0,0x0⟩
 ·obtain⟨s7,jq,rfl,hz,lz,hm⟩:=hI;rw[e7] at hz hm;walk_at "p1";refine⟨0x0,?_⟩;refine N1 (λi env m'=>∃s7 s9 s10,∃zs:List Str,env=[some (.v (.pot q)),some (.v (.int many)),some (.v (.str LETS)),some (.v (.int fi)),some (.v (.int t)),some (.v (.int ah)),some (.v (.str jq)),s7,some (.own (zs.map PV.str)),s9,s10,none]/\zs.length=i/\RowS zs/\(∀z∈zs,∃j,j<i/\Sg ah (lt fi t j) z)/\m'<=n+20+i) _ 0 _ _ ⟨s7,none,none,[],rfl,rfl,⟨Cg,(λ_ z=>by cases z)⟩,(λ_ z=>by cases z),0x0⟩ (λi x env m' N ex hI hN=>?_) (λenv m' hI=>?_)
  ·obtain⟨hi,rfl⟩:=i8 ex;obtain⟨s7,s9,s10,zs,rfl,hl,nd,hg,hm'⟩:=hI;generalize hF:zs.map PV.str=FF;have Fl:FF.length=zs.length:=by rw[<- hF,B0]
   walk_at "p1";have e1:∀c:Nat,(⟨#[c]⟩:Str).length=1:=λ_=>rfl;refine⟨.inl (QJ ht),ll,?_⟩;rw[show fi+t*(0+(i:Int))=fi+(i:Int)*t by rw[BC,Int.mul_comm],lt_at]
   have lp:∀c∈(Ay jq none (some (((0+(i:Int))*t+fi)%((jq.length:Int)+1)))).cps.toList,Ltr c:=λc hc=>by
    obtain⟨p,hp⟩:=A_ (BB ((0+(i:Int))*t+fi) (show(jq.length:Int)+1≠0 by omega));have:=Cn ((0+(i:Int))*t+fi) (show(0:Int)<(jq.length:Int)+1 by omega);rw[hp] at hc this;rw[Pr jq (p:=p) 0x0] at hc;exact lz c (i5 hc)
   have pl:(Ay jq none (some (((0+(i:Int))*t+fi)%((jq.length:Int)+1)))).length<=jq.length:=DG jq _ _;generalize Ay jq none (some (((0+(i:Int))*t+fi)%((jq.length:Int)+1)))=part at pl lp ⊢;refine⟨.inl ⟨0x0,0x0⟩,0x0,0x0,0x0,⟨_,rfl⟩,⟨0x0,0x0,0x0⟩,λd d0 d1=>⟨by rw[e1];omega,by rw[e1];omega,?_⟩⟩
   have pick:∃z:Str,atI [PV.str (part++(⟨#[lt fi t i]⟩:Str)),PV.str ((⟨#[lt fi t i]⟩:Str)++part)] ah=some (.str z)/\Sg ah (lt fi t i) z/\i9 z:=by
    have p7:part.cps.toList.length<=7:=by rw[<- l9];ext
    have ll:Ltr (lt fi t i):=by unfold lt;exact⟨0x0,0x0⟩
    have bo:∀l:List Nat,(∀c∈l,c∈part.cps.toList\/c=lt fi t i)->l.length=part.cps.toList.length+1->1<=l.length/\l.length<=8/\∀c∈l,Ltr c:=λl h e=>⟨0x0,0x0,λc hc=>(h c hc).elim (lp c) λe=>by rw[e];exact ll⟩;rcases ha with rfl|rfl
    ·refine⟨_,rfl,⟨λ_=>⟨part.cps.toList,BJ _ _⟩,λz=>by cases z⟩,?_⟩;unfold i9;rw[BJ];exact bo _ (λc hc=>(D6.mp hc).imp id E2.mp) (D3 ..)
    ·refine⟨_,rfl,⟨(λz=>by cases z),λ_=>⟨part.cps.toList,BJ _ _⟩⟩,?_⟩;unfold i9;rw[BJ];exact bo _ (λc hc=>(D6.mp hc).elim (λh=>.inr (E2.mp h)) .inl) (by rw[D3];exact Nat.add_comm ..)
   obtain⟨z,ez,sz,bz⟩:=pick;rw[ez]
   have nz:z∉zs:=λc=>by
    obtain⟨j,hj,sj⟩:=hg z c;exact lt_ne ht f0 (show j<i by ext) 0x0 (Sg.inj ha sj sz)
   have pm:=L_ z zs d.toNat;refine⟨⟨0x0,0x0,0x0⟩,hN _ _ ⟨some (.v (.int (0+i))),some (.v (.str ⟨#[lt fi t i]⟩)),some (.v (.str part)),insL zs d.toNat z,?_,by rw[HD];omega,⟨pm.nodup_iff.mpr (R8.mpr ⟨nz,nd.1⟩),λa ha=>(B9.mp (pm.mem_iff.mp ha)).elim (λe=>by rw[e];exact bz) (nd.2 a)⟩,λy hy=>?_,0x0⟩⟩
   ·rw[<- hF,Ma]
   ·rcases B9.mp (pm.mem_iff.mp hy) with e|hy
    ·rw[e];exact⟨i,0x0,sz⟩
    ·obtain⟨j,hj,sj⟩:=hg y hy;exact⟨j,0x0,sj⟩
  ·obtain⟨s7,s9,s10,zs,rfl,hl,nd,hg,hm'⟩:=hI;rw[e7] at hl hm';clear hg;generalize hF:zs.map PV.str=FF;walk_at "p1";refine⟨0x0,λd d0 d1=>?_⟩;obtain⟨x,hx,ex⟩:=Bo (xs:=[PV.int 0,PV.int 0,PV.int 0,PV.int 1,PV.int 2]) d0 d1
   have hx':∃k:Int,x=.int k/\0<=k/\k<=2:=by
    simp only[B9,R5,or_false] at hx;rcases hx with rfl|rfl|rfl|rfl|rfl <;> exact⟨_,rfl,0b0,0b0⟩
   obtain⟨k,rfl,k0,k2⟩:=hx';rw[ex];refine⟨0x0,?_⟩;subst hF;refine N1 (λi env m2=>∃s7 s11,∃ys:List Str,env=[some (.v (.pot q)),some (.v (.int many)),some (.v (.str LETS)),some (.v (.int fi)),some (.v (.int t)),some (.v (.int ah)),some (.v (.str jq)),s7,some (.own (ys.map PV.str)),s9,s10,s11]/\ys.length=zs.length/\RowS ys/\m2<=m'+1+2*i) _ 0 _ _ ⟨s7,none,zs,rfl,rfl,nd,0x0⟩ (λi x env m2 N ex hI hN=>?_) (λenv m2 hI=>?_)
   ·obtain⟨hi,rfl⟩:=i8 ex;obtain⟨s7,s11,ys,rfl,ly,ndy,hm2⟩:=hI;generalize hF:ys.map PV.str=FF;have Fl:FF.length=ys.length:=by rw[<- hF,B0]
    walk_at "p1";refine⟨0x0,λe e0 e1=>?_⟩;obtain⟨x,hx,ex⟩:=Bo (xs:=[PV.str (B1 "drop"),PV.str (B1 "touch"),PV.str (B1 "none"),PV.str (B1 "d"),PV.str (B1 "u"),PV.str (B1 "t"),PV.str (B1 "o")]) e0 e1;rw[ex]
    have bx:∃z:Str,x=.str z/\i9 z:=by
     simp only[B9,R5,or_false] at hx;rcases hx with rfl|rfl|rfl|rfl|rfl|rfl|rfl <;> exact⟨_,rfl,0b0,0b0,by unfold Ltr;decide⟩
    obtain⟨z,rfl,bz⟩:=bx;rw[<- hF];refine QM rfl ?_;dsimp only
    by_cases cz:z∈ys
    ·refine if_f (by rw[ju cz];rfl) (hN _ _ ⟨some (.v (.int (0+i))),some (.v (.str z)),ys,rfl,ly,ndy,0x0⟩)
    ·refine if_t (by rw[jv cz];rfl) ⟨⟨_,rfl⟩,⟨0x0,0x0,0x0⟩,λj j0 j1=>?_⟩;rw[AD j0 (by rw[B0];ext)];refine hN _ _ ⟨some (.v (.int (0+i))),some (.v (.str z)),ys.set j.toNat z,?_,by rw[L9];exact ly,⟨LZ j.toNat ndy.1 cz,λa ha=>(List.mem_or_eq_of_mem_set ha).elim (ndy.2 a) λe=>by rw[e];exact bz⟩,0x0⟩;rw[Bz]
   ·obtain⟨s7,s11,ys,rfl,ly,ndy,hm2⟩:=hI;rw[e7] at hm2;walk_at "p1";exact h ys _ 0x0 ndy 0x0
def IZ {Z:List PV}(hZ:zs.map PV.str=Z){i:Nat}(h:i<zs.length):atI Z (i:Int)=some (.str (nm zs i)):=by
 obtain⟨x,e1,e2⟩:=GT (xs:=Z) (d:=(i:Int)) 0x0 (by grind);rw[e2];rw[Q1,<- hZ,L4,D7 h] at e1
 grind
def Mc {n d:Nat}(h:1<=n):HT.sIx n d (some (-1))=n-1:=by
 show(if(-1:Int)<0 then((-1:Int)+(n:Int)).toNat else min (-1:Int).toNat n)=n-1;rw[jw 0b0];ext
def Md {q n:Nat}{zs:List Str}{R:PV->Nat->Prop}(h1:1<=zs.length)(h2:zs.length<=24)(hn:n<=999900000)(h:∀(ys:List Str) n',ys.Perm zs->n'<=n+100->R (rowP ys) n'):Ec [.pot q,rowP zs] n R:=by
 mleft;unfold HP;have hr0:rowP zs=.tup (zs.map PV.str):=rfl;have hat:∀i:Nat,i<zs.length->atI (zs.map PV.str) (i:Int)=some (.str (nm zs i)):=λi hi=>IZ rfl hi;generalize hZ:zs.map PV.str=Z at *;have Zl:Z.length=zs.length:=by rw[<- hZ,B0]
 rw[hr0];walk_at "p1";refine⟨0x0,λw w0 w1=>?_⟩
 by_cases c:w<3
 ·refine if_t (ju c) ?_;refine N1 (λi env m=>∃s5,∃ys:List Str,env=[some (.v (.pot q)),some (.v (.tup Z)),some (.v (.int w)),some (.v (.int (Z.length:Int))),some (.own (ys.map PV.str)),s5,none,none]/\ys.Perm (zs.take i)/\ys.length=i/\m<=n+1+i) _ 0 _ _ ⟨none,[],rfl,by rw[List.take_zero],rfl,0x0⟩ (λi x env m N ex hI hN=>?_) (λenv m hI=>?_)
  ·rw[<- hZ] at ex;obtain⟨z,ez,rfl⟩:=Bq ex;obtain⟨s5,ys,rfl,pm,hl,hm⟩:=hI;have hi:=(E5.mp ez).1;generalize hF:ys.map PV.str=FF;have Fl:FF.length=ys.length:=by rw[<- hF,B0]
   walk_at "p1";refine⟨⟨_,rfl⟩,0x0,λd d0 d1=>⟨0x0,hN _ _ ⟨some (.v (.str z)),insL ys d.toNat z,?_,?_,by rw[HD];omega,0x0⟩⟩⟩
   ·rw[<- hF,Ma]
   ·rw[G0] at pm ⊢;rw[o6 ez];exact(L_ z ys d.toNat).trans ((pm.cons z).trans (List.perm_append_singleton z _).symm)
  ·obtain⟨s5,ys,rfl,pm,hl,hm⟩:=hI;rw[G0,Zl,x5] at pm;walk_at "p1";exact h ys _ pm 0x0
 ·refine if_f (jv c) ⟨0x0,λa a0 a1=>⟨0x0,λb b0 b1=>?_⟩⟩;obtain⟨an,rfl⟩:=A_ a0;obtain⟨bn,rfl⟩:=A_ b0;rw[hat bn 0x0,hat an 0x0];dsimp only;refine⟨⟨_,rfl⟩,?_⟩;rw[AD 0x0 0x0];dsimp only;rw[AD 0x0 (by rw[L9];ext)];dsimp only;rw[Q1,Q1]
  have c1:cutP Z (some (-1)) none=Z.drop (Z.length-1):=by
   unfold cutP;rw[Mc 0x0];show(Z.drop (Z.length-1)).take (Z.length-(Z.length-1))=_;rw[k9 (by rw[V3];ext)]
  have c2:cutP Z none (some (-1))=Z.take (Z.length-1):=by
   unfold cutP;rw[Mc 0x0]
   rfl
  rw[c1,c2];refine⟨by rw[V3,l6];omega,?_⟩
  have pick:∃ys:List Str,atI [PV.tup Z.reverse,PV.tup (Z.drop (Z.length-1)++Z.take (Z.length-1)),PV.tup ((Z.set an (.str (nm zs bn))).set bn (.str (nm zs an)))] (w-3)=some (rowP ys)/\ys.Perm zs:=by
   rw[<- hZ]
   by_cases d1:w=3
   ·subst d1;refine⟨zs.reverse,?_,List.reverse_perm zs⟩;rw[<- List.map_reverse];rfl
   ·by_cases d2:w=4
    ·subst d2;refine⟨zs.drop (zs.length-1)++zs.take (zs.length-1),?_,?_⟩
     ·rw[B0,<- List.map_drop,<- List.map_take,<- L3];rfl
     ·have:=(List.perm_append_comm (l₁:=zs.drop (zs.length-1)) (l₂:=zs.take (zs.length-1)));rw[AT] at this;exact this
    ·have d3:w=5:=0x0
     subst d3;refine⟨exch zs an bn,?_,AJ 0x0 0x0⟩;unfold exch;rw[<- Bz,<- Bz];rfl
  obtain⟨ys,ey,py⟩:=pick;rw[ey];exact h ys _ py 0x0
def pinN (k:Nat):PV:=.int (k:Int)
theorem I_ {a:Nat}{s0:Option Pu.Slot}{rest:Pu.Env}{n:Nat}{R:List PV->Pu.Env->Nat->Prop}:∀(l:List Nat) (s2:Option Pu.Slot),(∀s2,R (N8 (l.filter λb=>decide (b<a)).length (.int 1)) (s0::some (.v (.int (a:Int)))::s2::rest) n)->
   e9 (gN 2) (qB (qOp wLt (qV 2) (qV 1))) (qC (.int 1)) (l.map pinN) (s0::some (.v (.int (a:Int)))::s2::rest) n R
 |[],s2,h=>h s2
 | b :: l, s2, h => by
  show(if decide ((b:Int)<(a:Int))=true then e9 (gN 2) (qB (qOp wLt (qV 2) (qV 1))) (qC (.int 1)) (l.map pinN) (s0::some (.v (.int (a:Int)))::some (.v (.int (b:Int)))::rest) n λys e m=>R (.int 1::ys) e m else e9 (gN 2) (qB (qOp wLt (qV 2) (qV 1))) (qC (.int 1)) (l.map pinN) (s0::some (.v (.int (a:Int)))::some (.v (.int (b:Int)))::rest) n R)
  by_cases c:b<a
  ·refine if_t (ju 0x0) (I_ l _ λs2=>?_);have:=h s2;rw[List.filter_cons_of_pos (by simpa using c),F2,List.replicate_succ] at this;exact this
  ·refine if_f (jv 0x0) (I_ l _ λs2=>?_);have:=h s2;rw[List.filter_cons_of_neg (by simpa using c)] at this;exact this
theorem Me {g:List Nat}(hl:g.length<=1000){n:Nat}{R:List PV->Nat->Prop}:∀(jr:List Nat) (i:Nat) (s0 s1 s2:Option Pu.Slot),g.drop i=jr->R (N8 (inv jr) (.int 1)) n->
   BQ (gTp 2 (gCn (gN 0) (gCn (gN 1) gNl))) (qIl (qSl (qV 3) (D5 (qOp wAdd (qV 0) (qC (PV.int 1)))) qNo)) (gN 2) (qB (qOp wLt (qV 2) (qV 1))) (qC (.int 1)) (((jr.map pinN).zipIdx i).map λy=>PV.tup [.int (y.2:Nat),y.1]) [s0,s1,s2,some (.v (.lst (g.map pinN)))] n R
 |[],i,s0,s1,s2,_,h=>h
 | a :: jr, i, s0, s1, s2, e, h => by
  have e':g.drop (i+1)=jr:=by
   have:=congrArg (List.drop 1) e;rw[List.drop_drop] at this;rw[show i+1=i+1 from rfl];simpa[Nat.add_comm] using this
  mleft;show(cutP (g.map pinN) (some ((i:Int)+1)) none).length<=1000/\e9 (gN 2) (qB (qOp wLt (qV 2) (qV 1))) (qC (.int 1)) (cutP (g.map pinN) (some ((i:Int)+1)) none) [some (.v (.int (i:Int))),some (.v (.int (a:Int))),s2,some (.v (.lst (g.map pinN)))] n _;rw[show cutP (g.map pinN) (some ((i:Int)+1)) none=jr.map pinN by rw[<- e',List.map_drop,<- C_];rfl];refine⟨by rw[B0,<- e',V3];omega,I_ jr _ λs2'=>?_⟩;refine Me hl jr (i+1) _ _ _ e' ?_;rw[List.replicate_append_replicate];exact h
def Sd {zs ys:List Str}{n:Nat}{R:PV->Nat->Prop}(h2:zs.length<=24)(pm:ys.Perm zs)(h:R (.int (inv (zs.map (ixS ys)):Nat)) n):Iz [rowP zs,rowP ys] n R:=by
 mleft;unfold Iy;have ly:=pm.length_eq;have hix:∀z∈zs,∀{R:PV->Prop},R (.int (ixS ys z))->o3 (.tup (ys.map PV.str)) (.str z) R:=λz hz {R} q=>m_ix rfl (pm.mem_iff.mpr hz) 0x0 q;have hr0:rowP zs=.tup (zs.map PV.str):=rfl;have hr1:rowP ys=.tup (ys.map PV.str):=rfl;generalize hY:ys.map PV.str=Y at *;have Zl:(zs.map PV.str).length=zs.length:=B0 ..;rw[hr0,hr1];generalize hZ:zs.map PV.str=Z at *;walk_at "p1";refine⟨0x0,?_⟩;rw[<- hZ];refine BP PV.str (λz=>pinN (ixS ys z)) zs _ _ _ (λz hz m Q hQ=>?_) ?_
 ·walk_at "p1";exact⟨⟨_,rfl⟩,hix z hz hQ⟩
 ·have eg:(zs.map λz=>pinN (ixS ys z))=(zs.map (ixS ys)).map pinN:=by rw[Ar];rfl
  have gl:(zs.map (ixS ys)).length=zs.length:=B0 ..;rw[eg];generalize zs.map (ixS ys)=g at *;refine⟨by rw[KH,B0];omega,?_⟩;refine Me (g:=g) 0x0 g 0 none none none rfl ?_;rw[Gg];exact h
abbrev pr (a b:Nat):PV:=.tup [.int a,.int b]
def TPp (s r n k i:Nat):List PV:=(B8 (min (k*s+i+1+r) (min (k*s+s) (n-1))-(k*s+i))).map λj=>pr (k*s+i) (k*s+i+1+j)
def TPk (s r n k:Nat):List PV:=(B8 (min (k*s+s) (n-1)-k*s)).flatMap (TPp s r n k)
def TP (s r n:Nat):List PV:=(B8 ((n+s-1)/s)).flatMap (TPk s r n)
def Se {s r n m:Nat}{R:PV->Nat->Prop}(h1:1<=s)(h2:s<=8)(hn:1<=n)(h:R (.int (((n+s-1)/s:Nat):Int)) m):Io [.tup [.int s,.int r],.int n] m R:=by
 mleft;unfold Im;walk_at "p1";refine⟨⟨0x0,0x0⟩,?_⟩
 have e:((n:Int)+s-1)/s=(((n+s-1)/s:Nat):Int):=by
  rw[show(n:Int)+s-1=((n+s-1:Nat):Int) by omega]
  rfl
 rw[show((n:Int)+s-1)/s=(((n+s-1)/s:Nat):Int) from e];exact h
def m_span {s r n k m:Nat}{R:PV->Nat->Prop}(h1:1<=s)(h2:s<=8)(hn:1<=n)(hk:k<=1000)(h:R (.tup [.int ((k*s:Nat):Int),.int ((min (k*s+s) (n-1):Nat):Int)]) m):Ir [.tup [.int s,.int r],.int n,.int k] m R:=by
 mleft;unfold Ip;walk_at "p1";refine⟨.inr ⟨0x0,0x0⟩,?_⟩
 have e:(if(n:Int)-1<(k:Int)*s+s then(n:Int)-1 else(k:Int)*s+s)=((min (k*s+s) (n-1):Nat):Int):=by
  have:((k*s:Nat):Int)=(k:Int)*s:=Int.natCast_mul k s
  split <;> ext
 have e2:(k:Int)*s=((k*s:Nat):Int):=(Int.natCast_mul k s).symm
 try dsimp only
 rw[e,e2];exact h
def Mf {s r n m:Nat}{R:PV->Nat->Prop}(h1:1<=s)(h2:s<=8)(hr:r<=7)(hn:1<=n)(hn2:n<=24)(h:R (.tup (TP s r n)) m):Dd [.tup [.int s,.int r],.int n] m R:=by
 mleft;unfold Iu;walk_at "p1";refine Se h1 h2 hn ?_
 have hk8:(n+s-1)/s<=24:=by
  refine Nat.div_le_of_le_mul ?_;have:24*s>=24+(s-1)*24:=0x0
  rw[Nat.mul_comm];ext
 refine⟨⟨Int.le_trans 0b0 (Int.natCast_nonneg _),by have:(((n+s-1)/s:Nat):Int)<=24:=Int.ofNat_le.mpr hk8;ext⟩,?_⟩;rw[Q1];refine N1 (λk env m'=>∃s3 s4 s5 s6 s7,env=[some (.v (.tup [.int s,.int r])),some (.v (.int n)),some (.own ((B8 k).flatMap (TPk s r n))),s3,s4,s5,s6,s7]/\((B8 k).flatMap (TPk s r n)).length<=72*k/\m'=m) _ 0 _ _ ⟨_,_,_,_,_,rfl,0o0,rfl⟩ (λk x env m' N ex hI hN=>?_) (λenv m' hI=>?_)
 ·obtain⟨hk,rfl⟩:=i8 ex;obtain⟨s3,s4,s5,s6,s7,rfl,hl,rfl⟩:=hI;simp only[G0] at hl hN ⊢;walk_at "p1";rw[show(0:Int)+(k:Int)=((k:Nat):Int) by omega];refine m_span h1 h2 hn 0x0 ?_;walk_at "p1";have hks:k*s<=200:=E6 (Nat.mul_le_mul (show k<=24 by omega) h2) 0b0;refine⟨⟨0x0,0x0,0x0,0x0⟩,?_⟩;rw[show((((min (k*s+s) (n-1):Nat):Int))-((k*s:Nat):Int)).toNat=min (k*s+s) (n-1)-k*s by omega];refine N1 (λi env m''=>∃s6 s7,env=[some (.v (.tup [.int s,.int r])),some (.v (.int n)),some (.own ((B8 k).flatMap (TPk s r n)++(B8 i).flatMap (TPp s r n k))),some (.v (.int k)),some (.v (.int ((k*s:Nat):Int))),some (.v (.int ((min (k*s+s) (n-1):Nat):Int))),s6,s7]/\((B8 i).flatMap (TPp s r n k)).length<=9*i/\m''=m') _ 0 _ _ ⟨s6,s7,0o0,0o0,rfl⟩ (λi x env m'' N' ex hI hN'=>?_) (λenv m'' hI=>?_)
  ·obtain⟨hi,rfl⟩:=i8 ex;obtain⟨s6,s7,rfl,hl2,rfl⟩:=hI;simp only[G0] at hl2 hN' ⊢;walk_at "p1";have hi8:i<8:=0x0
   refine⟨⟨_,rfl⟩,?_⟩
   have e1:(if((min (k*s+s) (n-1):Nat):Int)<((k*s:Nat):Int)+i+1+r then((min (k*s+s) (n-1):Nat):Int) else((k*s:Nat):Int)+i+1+r)=((min (k*s+i+1+r) (min (k*s+s) (n-1)):Nat):Int):=by
    split <;> ext
   simp only[e1];refine⟨⟨0x0,0x0,0x0,0x0⟩,by rw[e7];omega,?_⟩;rw[show(((min (k*s+i+1+r) (min (k*s+s) (n-1)):Nat):Int)+1-(((k*s:Nat):Int)+i+1)).toNat=min (k*s+i+1+r) (min (k*s+s) (n-1))-(k*s+i) by omega];refine BO (λy=>.tup [.int (((k*s:Nat):Int)+i),y]) _ _ _ _ (λy hy m Q hQ=>?_) ?_
   ·walk_at "p1";exact hQ
   ·have e2:R9 (λy=>PV.tup [.int (((k*s:Nat):Int)+i),y]) (R9 (λ(j:Nat)=>PV.int (((k*s:Nat):Int)+i+1+j)) (B8 (min (k*s+i+1+r) (min (k*s+s) (n-1))-(k*s+i))))=TPp s r n k i:=by
     rw[Ar];unfold TPp;refine Gj λj hj=>?_;simp only[Function.comp,pr]
     congr 3
    rw[e2]
    have hlp:(TPp s r n k i).length<=9:=by
     unfold TPp;rw[B0,AX];ext
    refine⟨by rw[D3];omega,?_⟩;refine hN' _ _ ?_;rw[Pq,DV];exact⟨_,_,rfl,by rw[D3];omega,rfl⟩
  ·obtain⟨s6,s7,rfl,hl2,rfl⟩:=hI;rw[e7] at *;refine hN _ _ ?_;rw[DV];rw[G0] at hl2 ⊢;have hT:(TPk s r n k).length<=72:=by unfold TPk;omega
   exact⟨_,_,_,_,_,rfl,by rw[D3];omega,rfl⟩
 ·obtain⟨s3,s4,s5,s6,s7,rfl,hl,rfl⟩:=hI;rw[e7];walk_at "p1";simp only[G0];exact h
def TPn (s r n:Nat):List (Nat×Nat):=(B8 ((n+s-1)/s)).flatMap λk=>(B8 (min (k*s+s) (n-1)-k*s)).flatMap λi=>(B8 (min (k*s+i+1+r) (min (k*s+s) (n-1))-(k*s+i))).map λj=>(k*s+i,k*s+i+1+j)
def TP_n (s r n:Nat):TP s r n=(TPn s r n).map λy=>pr y.1 y.2:=by
 unfold TP TPn TPk TPp;simp only[List.map_flatMap,Ar]
 rfl
def okP (s r p q:Nat):Bool:=decide (p<q)&&(decide (q-p-1<=r)&&decide (q<=p/s*s+s))
def TPn_b:∀s<8,∀r<8,∀n<8,(decide ((TPn (s+1) r (n+1)).length<=28)&&(((TPn (s+1) r (n+1)).all λy=>okP (s+1) r y.1 y.2&&decide (y.2<n+1))&&((B8 (n+1)).all λp=>(B8 (n+1)).all λq=>!okP (s+1) r p q||decide ((p,q)∈TPn (s+1) r (n+1)))))=true:=by decide +kernel
structure Mt (s r n:Nat):Prop where
 s1:1<=s
 s8:s<=8
 r7:r<=7
 n1:1<=n
 n8:n<=8
def FS {s r n:Nat}(h:Mt s r n):(TPn s r n).length<=28/\∀p q,(p,q)∈TPn s r n↔okP s r p q=true/\q<n:=by
 obtain⟨s1,s8,r7,n1,n8⟩:=h;have b:=TPn_b (s-1) 0x0 r 0x0 (n-1) 0x0;rw[show s-1+1=s by omega,show n-1+1=n by omega,M2,M2,B7,B7] at b;obtain⟨b1,b2,b3⟩:=b;refine⟨jz b1,λp q=>⟨λh=>?_,λ⟨h1,h2⟩=>?_⟩⟩
 ·have:=b2 _ h;rw[M2] at this;exact⟨this.1,jz this.2⟩
 ·have pq:p<q:=by
   unfold okP at h1;rw[M2] at h1;exact jz h1.1
  have:=B7.mp (b3 p (M5.mpr 0x0)) q (M5.mpr h2);rw[h1] at this;exact jz this
def FT {s r j:Nat}(h:1<=s):okP s r j (j+1)=true:=by
 unfold okP;have e:=Nat.div_add_mod j s;have:=Nat.mod_lt j (show 0<s by omega);rw[Nat.mul_comm s] at e;rw[ju 0x0,ju 0x0,ju 0x0];rfl
def u9 {s r p q:Nat}(h:okP s r p q=true):p<q:=by
 unfold okP at h;rw[M2] at h;exact jz h.1
def Ja {s r n p q:Nat}(hs:n<=s)(hr:n<=r+2)(hq:q<n)(h:p<q):okP s r p q=true:=by
 unfold okP;rw[ju h,ju 0x0,Nat.div_eq_of_lt 0x0,ju 0x0];rfl
theorem FU {a b:Nat}(h:b<a)(B:List Nat):∀A:List Nat,inv (A++a::b::B)=inv (A++b::a::B)+1
 | [] => by
  show((b::B).filter λx=>decide (x<a)).length+((B.filter λx=>decide (x<b)).length+inv B)=((a::B).filter λx=>decide (x<b)).length+((B.filter λx=>decide (x<a)).length+inv B)+1;rw[x4,x4,jw (ju h),jy (by simp;ext),F2];ext
 | x :: A => by
  have ih:=FU h B A;show((A++a::b::B).filter λy=>decide (y<x)).length+inv (A++a::b::B)=((A++b::a::B).filter λy=>decide (y<x)).length+inv (A++b::a::B)+1;rw[ih,((List.Perm.swap b a B).append_left A).filter _ |>.length_eq];ext
def Jb {st A B:List Str}{y b:Str}(e:st=A++y::b::B):exch st A.length (A.length+1)=A++b::y::B/\nm st A.length=y/\nm st (A.length+1)=b:=by
 subst e
 have n1:nm (A++y::b::B) A.length=y:=by
  have:=D7 (zs:=A++y::b::B) (i:=A.length) 0o0;rw[An (B3 _),DC] at this;exact(E7 this).symm
 have n2:nm (A++y::b::B) (A.length+1)=b:=by
  have:=D7 (zs:=A++y::b::B) (i:=A.length+1) 0o0;rw[An 0x0,show A.length+1-A.length=1 by omega] at this;exact(E7 this).symm
 refine⟨?_,n1,n2⟩;unfold exch;rw[n1,n2,List.set_append_right _ _ (B3 _),DC,List.set_append_right _ _ 0x0,show A.length+1-A.length=1 by omega]
 rfl
def led (s r:Nat):List Str->List (Str×Str)->Option (List Str)
 |st,[]=>some st
 |st,p::ps=>if okP s r (ixS st p.2) (ixS st p.1)=true then led s r (exch st (ixS st p.2) (ixS st p.1)) ps else none
theorem Ek {s r:Nat}:∀(ps:List (Str×Str)) (st st':List Str) (p:Str×Str),led s r st ps=some st'->led s r st (ps++[p])=if okP s r (ixS st' p.2) (ixS st' p.1)=true then some (exch st' (ixS st' p.2) (ixS st' p.1)) else none
 | [], st, st', p, h => by
  cases h
  rfl
 | a :: ps, st, st', p, h => by
  have h':(if okP s r (ixS st a.2) (ixS st a.1)=true then led s r (exch st (ixS st a.2) (ixS st a.1)) ps else none)=some st':=h;show(if _ then _ else _)=_
  by_cases d:okP s r (ixS st a.2) (ixS st a.1)=true
  ·rw[jw d] at h' ⊢;exact Ek ps _ _ p h'
  ·rw[jy d] at h';cases h'
def Mg {A B:List Str}{x:Str}(h:(A++x::B).Nodup):ixS (A++x::B) x=A.length:=
 N5 h (E1 0o0).1 (by rw[An (B3 _),DC];rfl)
structure Way (s r:Nat)(row jc:List Str)(i:Nat)(st:List Str)(ps:List (Str×Str)):Prop where
 pm:st.Perm jc
 hd:st.take i=jc.take i
 ld:led s r row ps=some st
 nu:ps.length+inv (st.map (ixS jc))=inv (row.map (ixS jc))
 mm:∀p∈ps,p.1∈jc/\p.2∈jc
def Mh {s r:Nat}(s1:1<=s){row jc st:List Str}{i j:Nat}{b:Str}{ps:List (Str×Str)}(nd:jc.Nodup)(w:Way s r row jc i st ps)(hb:ixS jc b=i)(hm:b∈jc)(hj:ixS st b=j+1)(ij:i<=j):Way s r row jc i (exch st j (j+1)) (ps++[(b,nm st j)])/\ixS (exch st j (j+1)) b=j:=by
 have jt:=w.pm.nodup_iff.mpr nd;have bs:=w.pm.mem_iff.mpr hm;have jl:j+1<st.length:=by rw[<- hj];exact(E5.mp (E1 bs).1).1
 have eb:nm st (j+1)=b:=by
  have:=(E1 bs).1;rw[hj,D7 jl] at this;exact E7 this
 have e:st=st.take j++nm st j::b::st.drop (j+1+1):=by
  have e1:=D7 (zs:=st) (i:=j) 0x0;have e2:=D7 jl;rw[eb] at e2
  have d1:st.drop j=nm st j::st.drop (j+1):=by
   rw[AS 0x0];rw[D1 0x0] at e1;rw[E7 e1]
  have d2:st.drop (j+1)=b::st.drop (j+1+1):=by
   rw[AS jl];rw[D1 jl] at e2;rw[E7 e2]
  rw[<- d2,<- d1,AT]
 have al:(st.take j).length=j:=by rw[l6];ext
 generalize hA:st.take j=A at *;generalize hB:st.drop (j+1+1)=B at *;generalize hy:nm st j=y at *;obtain⟨x1,x2,x3⟩:=Jb e;rw[al] at x1 x2 x3;rw[x1];have pm':(A++b::y::B).Perm st:=by rw[e];exact(List.Perm.swap y b B).append_left A
 have nd':=pm'.nodup_iff.mpr jt;have ym:y∈jc:=w.pm.mem_iff.mp (by rw[e];simp)
 have yb:y≠b:=λz=>by
  rw[e] at jt;have:=(Aq.mp jt).2.1;rw[R8] at this;exact this.1 (by rw[z];simp)
 have iy:ixS st y=j:=by
  have:=Mg (A:=A) (B:=b::B) (x:=y) (by rw[<- e];exact jt);rw[<- e,al] at this;exact this
 have yi:i<ixS jc y:=by
  have h1:¬ixS jc y<i:=λz=>by
   have a1:=(E1 ym).1;have a2:(jc.take i)[ixS jc y]?=some y:=by rw[AV,jw z];exact a1
   rw[<- w.hd,AV,jw z] at a2;have:=N5 jt a2 (E1 (w.pm.mem_iff.mpr ym)).1;omega
  have h2:ixS jc y≠i:=λz=>yb (CZ ym hm (z.trans hb.symm));ext
 refine⟨⟨pm'.trans w.pm,?_,?_,?_,λp hp=>?_⟩,?_⟩
 ·have:=w.hd;rw[e,List.take_append_of_le_length 0x0] at this;rw[List.take_append_of_le_length 0x0];exact this
 ·rw[Ek ps row st (b,y) w.ld];show(if okP s r (ixS st y) (ixS st b)=true then some (exch st (ixS st y) (ixS st b)) else none)=_;rw[iy,hj,jw (FT s1),x1]
 ·have h1:=w.nu;rw[e,L3,G7,G7,FU (show ixS jc b<ixS jc y by omega)] at h1;rw[D3,Z9,L3,G7,G7];omega
 ·rcases D6.mp hp with hp|hp
  ·exact w.mm p hp
  ·rw[E2.mp hp];exact⟨hm,ym⟩
 ·have:=Mg (A:=A) (B:=y::B) (x:=b) nd';rw[al] at this;exact this
def Mi {R:PV->Nat->Prop}(hi:i<f.length)(hj:j<f.length)(h:R (rowP (exch f i j)) n):De [rowP f,.int (i:Int),.int (j:Int)] n R:=by
 mleft;unfold Iv;unfold rowP at *;have ai:∀{k:Nat},k<f.length->atI (f.map PV.str) (k:Int)=some (.str (nm f k)):=λ{k} hk=>Bj (by rw[L4,D7 hk];rfl);have e:((f.map PV.str).set i (.str (nm f j))).set j (.str (nm f i))=(exch f i j).map PV.str:=by unfold exch;rw[Bz,Bz]
 generalize hF:f.map PV.str=F at *;have Fl:F.length=f.length:=by rw[<- hF,B0]
 walk_at "p1";rw[ai hj];dsimp only;rw[ai hi];dsimp only;refine⟨⟨_,rfl⟩,?_⟩;rw[AD 0x0 0x0];dsimp only;rw[AD 0x0 (by rw[L9];ext)];dsimp only;rw[Q1,Q1,e];exact h
def El {f:List Str}{i j n:Nat}{R:PV->Nat->Prop}(hi:i<f.length)(hj:j<f.length)(h:R (rowP (exch f i j)) n):u8 [rowP f,.int (i:Int),.int (j:Int)] n R:=by
 mleft;unfold HS;unfold rowP at *;have ai:∀{k:Nat},k<f.length->atI (f.map PV.str) (k:Int)=some (.str (nm f k)):=λ{k} hk=>Bj (by rw[L4,D7 hk];rfl);have e:((f.map PV.str).set i (.str (nm f j))).set j (.str (nm f i))=(exch f i j).map PV.str:=by unfold exch;rw[Bz,Bz]
 generalize hF:f.map PV.str=F at *;have Fl:F.length=f.length:=by rw[<- hF,B0]
 walk_at "p1";rw[ai hj];dsimp only;rw[ai hi];dsimp only;refine⟨⟨_,rfl⟩,?_⟩;rw[AD 0x0 0x0];dsimp only;rw[AD 0x0 (by rw[L9];ext)];dsimp only;rw[Q1,Q1,e];exact h
def prS (p:Str×Str):PV:=.tup [.str p.1,.str p.2]
theorem Mj (g:List Nat):∀(jr:List Nat) (k:Nat),g.drop k=jr->((jr.zipIdx k).map λy=>(((g.drop y.2).filter λb=>decide (b<y.1)).length:Int)).sum=(inv jr:Int)
 |[],_,_=>rfl
 | a :: jr, k, h => by
  have ih:=Mj g jr (k+1) (by have:=congrArg List.tail h;rw[List.tail_drop] at this;exact this);rw[List.zipIdx_cons,G7,Ch,ih,h];show(((a::jr).filter λb=>decide (b<a)).length:Int)+_=(((jr.filter λb=>decide (b<a)).length+inv jr:Nat):Int);rw[x4,jy 0o0];omega
theorem Mm {α:Type}(f:α->Int):∀l:List α,Br (l.map λy=>PV.int (f y))=some (l.map f)
 |[]=>rfl
 | a :: l => by
  show(Br (l.map λy=>PV.int (f y))).map _=_;rw[Mm f l];rfl
theorem Jc {a:Nat}{rest:Pu.Env}:∀(l:List Nat) (s0:Option Pu.Slot) (n:Nat) (R:List PV->Nat->Prop),R (N8 (l.filter λb=>decide (b<a)).length (.int 1)) n->Z4 (gN 0) (qB (qOp wLt (qV 0) (qV 1))) (qC (.int 1)) (l.map pinN) (s0::some (.v (pinN a))::rest) n R
 |[],_,_,_,h=>h
 | b :: l, s0, n, R, h => by
  rw[x4] at h;show(if decide ((b:Int)<(a:Int))=true then _ else _)
  by_cases c:b<a
  ·rw[jw (ju c)] at h;exact if_t (ju 0x0) (Jc l _ _ _ h)
  ·rw[jy (by simpa using c)] at h;exact if_f (jv 0x0) (Jc l _ _ _ h)
def Mn {zs ys:List Str}{n:Nat}{R:PV->Nat->Prop}(h2:zs.length<=24)(pm:ys.Perm zs)(h:R (.int (inv (zs.map (ixS ys)):Nat)) n):FJ [rowP zs,rowP ys] n R:=by
 mleft;unfold LW;have ly:=pm.length_eq;have hix:∀z∈zs,∀{R:PV->Prop},R (.int (ixS ys z))->o3 (.tup (ys.map PV.str)) (.str z) R:=λz hz {R} q=>m_ix rfl (pm.mem_iff.mpr hz) 0x0 q;have hr0:rowP zs=.tup (zs.map PV.str):=rfl;have hr1:rowP ys=.tup (ys.map PV.str):=rfl;generalize hY:ys.map PV.str=Y at *;have Zl:(zs.map PV.str).length=zs.length:=B0 ..;rw[hr0,hr1];generalize hZ:zs.map PV.str=Z at *;walk_at "p1";refine⟨0x0,?_⟩;rw[<- hZ];refine BP PV.str (λz=>pinN (ixS ys z)) zs _ _ _ (λz hz m Q hQ=>?_) ?_
 ·walk_at "p1";exact⟨⟨_,rfl⟩,hix z hz hQ⟩
 ·have eg:(zs.map λz=>pinN (ixS ys z))=(zs.map (ixS ys)).map pinN:=by rw[Ar];rfl
  have gl:(zs.map (ixS ys)).length=zs.length:=B0 ..;rw[eg];generalize zs.map (ixS ys)=g at *
  have ee:BK (g.map pinN)=g.zipIdx.map λy=>PV.tup [.int (y.2:Nat),pinN y.1]:=by
   unfold BK;rw[List.zipIdx_map,Ar];rfl
  rw[ee];refine⟨by rw[B0,List.length_zipIdx];omega,?_⟩;refine Lo (λy:Nat×Nat=>.int (y.2:Nat)) (λy=>pinN y.1) (λy=>.int (((g.drop y.2).filter λb=>decide (b<y.1)).length:Int)) g.zipIdx _ _ _ _ (λy hy m Q hQ=>?_) ?_
  ·have ec:cutP (g.map pinN) (some ((y.2:Nat):Int)) none=(g.drop y.2).map pinN:=by rw[Kw,C_]
   have Gl:(g.map pinN).length=zs.length:=by rw[B0,gl]
   generalize hG:g.map pinN=G at *;walk_at "p1";rw[ec];refine⟨by rw[B0,V3];omega,Jc _ _ _ _ ?_⟩;rw[Gg];exact hQ
  ·rw[Mm];have es:=Mj g g 0 rfl;refine⟨by rw[B0,List.length_zipIdx];omega,λi hi=>?_,by rw[es];exact h⟩;obtain⟨y,_,rfl⟩:=E4.mp hi;have:=Dm (λb=>decide (b<y.1)) (g.drop y.2);rw[V3] at this;exact⟨0x0,0x0⟩
def B2 (h:∀U:pS,U=q->p { D with nx:=λe m=>U D e m } env n):qSeq p q D env n:=h q rfl
def pr_mem {s r a b n:Nat}(M:Mt s r n)(hb:b<n):memP (pr a b) ((TPn s r n).map λy=>pr y.1 y.2)=okP s r a b:=by
 unfold memP;rw[Dw,t7,p9];constructor
 ·rintro⟨⟨p,q⟩,hp,e⟩;have e:(decide ((p:Int)=(a:Int))&&(decide ((q:Int)=(b:Int))&&true))=true:=e;simp only[Cm,M2,decide_eq_true_eq] at e;have:=((FS M).2 p q).mp hp;rw[show p=a by omega,show q=b by omega] at this;exact this.1
 ·intro e;refine⟨(a,b),((FS M).2 a b).mpr ⟨e,hb⟩,?_⟩;show(decide ((a:Int)=(a:Int))&&(decide ((b:Int)=(b:Int))&&true))=true;rw[ju rfl,ju rfl];rfl
theorem FV:∀a b:List Str,eqPs (a.map PV.str) (b.map PV.str)=decide (a=b)
 |[],[]=>rfl
 |[],_::_=>rfl
 |_::_,[]=>rfl
 | x :: a, y :: b => by
  rw[G7,G7,V8,FV a b,AG]
  by_cases c:x=y <;> by_cases d:a=b <;> simp[c,d]
def FW {s r:Nat}{p q n:Nat}{R:PV->Nat->Prop}(s1:1<=s)(h2:s<=8)(hr:r<=7)(hp:p<30)(hq:q<30)(h:R (.bl (okP s r p q)) n):BR [.tup [.int s,.int r],.int p,.int q] n R:=by
 mleft;unfold HU;walk_at "p1";unfold okP at h
 by_cases c:p<q
 ·rw[ju c,P2] at h;have e3:(p:Int)/(s:Int)*(s:Int)=((p/s*s:Nat):Int):=by rw[Int.natCast_mul,Int.natCast_ediv]
  refine if_t (ju 0x0) ?_
  by_cases d:q-p-1<=r
  ·rw[ju d,P2] at h;have dl:p/s<=30:=E6 (Nat.div_le_self p s) 0x0;have e4:(p:Int)/(s:Int)=((p/s:Nat):Int):=(Int.natCast_ediv p s).symm;refine if_t (ju 0x0) ⟨⟨0x0,0x0⟩,.inr ⟨0x0,0x0⟩,?_⟩;rw[e3,show decide ((q:Int)<=((p/s*s:Nat):Int)+(s:Int))=decide (q<=p/s*s+s) from decide_eq_decide.mpr 0x0];exact h
  ·rw[jv d,N9] at h;exact if_f (jv 0x0) h
 ·rw[jv c,N9] at h;exact if_f (jv 0x0) h
def FX {s r:Nat}{st:List Str}{p:Str×Str}{ps:List (Str×Str)}:led s r st (p::ps)=if okP s r (ixS st p.2) (ixS st p.1)=true then led s r (exch st (ixS st p.2) (ixS st p.1)) ps else none:=rfl
def Mo {α:Type}{l:List α}{i:Nat}{x:α}(h:l[i]?=some x):l.drop i=x::l.drop (i+1):=by
 obtain⟨hi,e⟩:=E5.mp h;rw[AS hi,e]
def Sf {s r n:Nat}{row jc:List Str}{ps:List (Str×Str)}{R:PV->Nat->Prop}(M:Mt s r row.length)(hp:∀p∈ps,p.1∈row/\p.2∈row)(h:R (.bl (decide (led s r row ps=some jc))) n):IE [.tup [.int s,.int r],rowP row,rowP jc,.tup (ps.map prS)] n R:=by
 mleft;unfold ID;have n8:=M.n8;have hr1:rowP jc=.tup (jc.map PV.str):=rfl;have hr0:rowP row=.tup (row.map PV.str):=rfl;have hix:∀{st:List Str} {z:Str},st.Perm row->z∈row->∀{R:PV->Prop},R (.int (ixS st z))->o3 (rowP st) (.str z) R:=λ{st z} p hz {R} q=>m_ix rfl (p.mem_iff.mpr hz) (by rw[p.length_eq];omega) q;have mt:∀{R:PV->Nat->Prop},R (.tup (TP s r row.length)) n->Dd [.tup [.int s,.int r],.int (row.length:Nat)] n R:=λq=>Mf M.s1 M.s8 M.r7 M.n1 0x0 q;rw[TP_n] at mt
 have ct:(((TPn s r row.length).map λy=>pr y.1 y.2):List PV).all (cmpb 4)=true:=B7.mpr λy hy=>by
  obtain⟨p,_,rfl⟩:=E4.mp hy
  rfl
 have mp:=λ(a b:Nat) (hb:b<row.length)=>pr_mem (a:=a) (b:=b) M hb;generalize hT:(TPn s r row.length).map (λy=>pr y.1 y.2)=T at *;have Rl:(row.map PV.str).length=row.length:=B0 ..;symm;rw[hr0];walk_at "p1";rw[Rl];refine mt ?_;subst hU;rw[<- hr0];symm;generalize hW:rowP row=W at *;generalize hO:rowP jc=O at *;walk_at "p1";subst hU;symm;walk_at "p1";refine N1 (λi env m=>∃(st:List Str) (s6 s7 s8 s9:Option Pu.Slot),env=[some (.v (.tup [.int s,.int r])),some (.v W),some (.v O),some (.v (.tup (ps.map prS))),some (.v (.tup T)),some (.v (rowP st)),s6,s7,s8,s9]/\st.Perm row/\led s r st (ps.drop i)=led s r row ps/\m=n) _ 0 _ _ ⟨row,none,none,none,none,by rw[hW],List.Perm.refl _,rfl,rfl⟩ (λi x env m N ex hI hN=>?_) (λenv m hI=>?_)
 ·obtain⟨st,s6,s7,s8,s9,rfl,pm,hd,rfl⟩:=hI;rw[G0] at hd hN;obtain⟨p,ep,rfl⟩:=Bq ex;obtain⟨p1,p2⟩:=hp p (G4 ep);rw[Mo ep,FX] at hd;have x1:=λ(R:PV->Prop) q=>hix (R:=R) pm p1 q;have x2:=λ(R:PV->Prop) q=>hix (R:=R) pm p2 q;have i1:ixS st p.1<row.length:=by rw[<- pm.length_eq];exact(E5.mp (E1 (pm.mem_iff.mpr p1)).1).1
  have i2:ixS st p.2<row.length:=by rw[<- pm.length_eq];exact(E5.mp (E1 (pm.mem_iff.mpr p2)).1).1
  have mx:=λ(R:PV->Nat->Prop) q=>Mi (f:=st) (i:=ixS st p.2) (j:=ixS st p.1) (n:=m) (R:=R) (by rw[pm.length_eq];exact i2) (by rw[pm.length_eq];exact i1) q;have pm':=(AJ (f:=st) (i:=ixS st p.2) (j:=ixS st p.1) (by rw[pm.length_eq];exact i2) (by rw[pm.length_eq];exact i1)).trans pm;have ip:=mp (ixS st p.2) (ixS st p.1) i1;have eS:rowP st=.tup (st.map PV.str):=rfl;generalize hS:rowP st=S at *;generalize hPP:ps.map prS=PP at *;unfold prS;walk_at "p1";refine⟨⟨_,eS⟩,x2 _ ⟨⟨_,eS⟩,x1 _ ⟨rfl,ct,?_⟩⟩⟩;rw[ip]
  by_cases c:okP s r (ixS st p.2) (ixS st p.1)=true
  ·rw[jw c] at hd;rw[c];exact if_f rfl (mx _ (hN _ _ ⟨_,_,_,_,_,rfl,pm',hd,rfl⟩))
  ·rw[jy c] at hd;rw[eq_false_of_ne_true c];rw[<- hd] at h;exact if_t rfl (by simpa using h)
 ·obtain⟨st,s6,s7,s8,s9,rfl,pm,hd,rfl⟩:=hI;rw[G0,B0,Dr] at hd;have hd:some st=led s r row ps:=hd;rw[<- hd] at h;have e:=FV st jc;have hO':O=.tup (jc.map PV.str):=hO.symm;have c1:=Bp st 3;have c2:=Bp jc 3;rw[show rowP st=.tup (st.map PV.str) from rfl,hO'];generalize st.map PV.str=S at *;generalize jc.map PV.str=Q at *;generalize ps.map prS=PP at *;subst hU;walk_at "p1";rw[show decide (some st=some jc)=decide (st=jc) by simp,<- e] at h;exact gd2 c1 c2 h
abbrev bk (zs:List Str):List Key:=zs.map l7
def FY {z:Str}{zs:List Str}:memS (bk zs) (.inr z)=decide (z∈zs):=by
 unfold memS bk;rw[t7,p9,decide_eq_true_iff];constructor
 ·rintro⟨k,hk,e⟩;obtain⟨y,hy,rfl⟩:=E4.mp hk;have:y=z:=by simpa using e
  rw[<- this];exact hy
 ·intro h;exact⟨.inr z,E4.mpr ⟨z,h,rfl⟩,0o0⟩
def Sh {zs ys:List Str}{f:Str->Str}{n:Nat}{D:X3}{a3 a4:Option Pu.Slot}(P:Prm f zs)(hl:zs.length<=24)
   (hstep:∀z∈zs,∀{R:PV->Prop},R (.str (f z))->o3 (.tup (zs.map PV.str)) (.str z) λw=>wIx (.tup (ys.map PV.str)) w R):∀(u:Nat) (se:List Str) (at_:Str),se.Nodup->(∀z∈se,z∈zs)->at_∈zs->zs.length-se.length<=u->
   (∀(se':List Str) (at':Str),se'.Nodup->(∀z∈se',z∈zs)->(∀z∈se,z∈se')->(∀z∈se',z∈se\/(z∈se'/\Rch f at_ z/\f z∈se'))->at_∈se'->D.nx [some (.v (.tup (zs.map PV.str))),some (.v (.tup (ys.map PV.str))),some (.ow (.st (bk se')) []),a3,a4,some (.v (.str at'))] n)->
   X4 (qB (qInS true 2 (qV 5))) (qSeq (G6 (O4 2 (qV 5))) (qSet 5 (qOp wIx (qV 1) (J3 (qV 0) (qV 5))))) D (u+1) [some (.v (.tup (zs.map PV.str))),some (.v (.tup (ys.map PV.str))),some (.ow (.st (bk se)) []),a3,a4,some (.v (.str at_))] n:=by
 intro u
 induction u with
 | zero =>
  intro se at_ nd sub ha hu h
  have full:at_∈se:=by
   have h1:=nd.length_le_of_subset sub;have h2:zs.length<=se.length:=0x0
   apply x8
   intro no;have:=(R8.mpr ⟨no,nd⟩).length_le_of_subset λz hz=>(B9.mp hz).elim (λe=>e▸ha) (sub z);rw[F2] at this;omega
  have:=h se at_ nd sub (λz hz=>hz) (λz hz=>.inl hz) full;generalize hZ:zs.map PV.str=Z at *;generalize hY:ys.map PV.str=Y at *;have eb:memS (bk se) (.inr at_)=true:=by rw[FY];exact ju full
  generalize bk se=B at *;simp only[X4];walk_at "p1";rw[eb];exact this
 | succ u ih =>
  intro se at_ nd sub ha hu h
  by_cases c:at_∈se
  ·have:=h se at_ nd sub (λz hz=>hz) (λz hz=>.inl hz) c;generalize hZ:zs.map PV.str=Z at *;generalize hY:ys.map PV.str=Y at *;have eb:memS (bk se) (.inr at_)=true:=by rw[FY];exact ju c
   generalize bk se=B at *;rw[X4];walk_at "p1";rw[eb];exact this
  ·have eb:memS (bk se) (.inr at_)=false:=by rw[FY];exact jv c
   have sl:=nd.length_le_of_subset sub;have bl:(bk se).length=se.length:=B0 ..;have nx:=ih (se++[at_]) (f at_) (Aq.mpr ⟨nd,0o0,λa h1 b h2 e=>c (by rw[<- E2.mp h2,<- e];exact h1)⟩) (λz hz=>(D6.mp hz).elim (sub z) λz'=>by rw[E2.mp z'];exact ha) (P.st _ ha) (by rw[D3,Z9];ext) λse' at' s1 s2 s3 s4 s5=>h se' at' s1 s2 (λz hz=>s3 z (b5 _ hz)) (λz hz=>?_) (s3 at_ 0o0)
   ·have e2:bk (se++[at_])=bk se++[.inr at_]:=L3;rw[e2] at nx;have hst:=λ{R:PV->Prop}=>@hstep at_ ha R;generalize hZ:zs.map PV.str=Z at *;generalize hY:ys.map PV.str=Y at *;generalize bk se=B at *;rw[X4];walk_at "p1";rw[eb];simp only[F4,if_false,Q0,if_true];have q:=hst (R:=λv=>X4 (qB (qInS true 2 (qV 5))) (qSeq (G6 (O4 2 (qV 5))) (qSet 5 (qOp wIx (qV 1) (J3 (qV 0) (qV 5))))) D (u+1) [some (.v (.tup Z)),some (.v (.tup Y)),some (.ow (.st (B++[l7 at_])) []),a3,a4,some (.v v)] n) nx;simp only[wIx] at q;exact⟨⟨_,_,rfl⟩,0x0,⟨_,rfl⟩,q⟩
   ·rcases s4 z hz with s|⟨_,s6,s7⟩
    ·rcases D6.mp s with s|s
     ·exact .inl s
     ·rw[E2.mp s];exact .inr ⟨s3 at_ 0o0,⟨0,rfl⟩,s5⟩
    ·exact .inr ⟨hz,Rch.trans ⟨1,rfl⟩ s6,s7⟩
def Si {zs ys:List Str}{n:Nat}{R:PV->Nat->Prop}(nd:zs.Nodup)(h2:zs.length<=24)(pm:ys.Perm zs)(c:Str->Nat)(hc:∀x∈zs,∀y∈zs,Rch (nxB zs ys) x y↔c x=c y)(h:R (.int ((ddN (zs.map c)).length:Nat)) n):FN [rowP zs,rowP ys] n R:=by
 mleft;unfold IA;have ly:=pm.length_eq;have P:=AK nd pm
 have hstep:∀z∈zs,∀{R:PV->Prop},R (.str (nxB zs ys z))->o3 (.tup (zs.map PV.str)) (.str z) λw=>wIx (.tup (ys.map PV.str)) w R:=λz hz {R} q=>m_ix rfl hz 0x0 (by
  show match atI (ys.map PV.str) ((ixS zs z:Nat):Int) with|some z=>R z|none=>False
  rw[IZ rfl (show ixS zs z<ys.length by rw[ly];exact Ae hz)]
  exact q)
 have hr0:rowP zs=.tup (zs.map PV.str):=rfl;have hr1:rowP ys=.tup (ys.map PV.str):=rfl;have mw:=λ(D:X3) (a3 a4:Option Pu.Slot)=>@Sh zs ys (nxB zs ys) n D a3 a4 P h2 hstep;have hmem:∀i z,(zs.map PV.str)[i]?=some z->∃b,zs[i]?=some b/\z=PV.str b:=λi z hz=>Bq (f:=PV.str) hz;have Zl:(zs.map PV.str).length=zs.length:=B0 ..;rw[hr0,hr1];generalize hZ:zs.map PV.str=Z at *;generalize hY:ys.map PV.str=Y at *;walk_at "p1";refine N1 (λi env m=>∃s4 s5,∃se:List Str,env=[some (.v (.tup Z)),some (.v (.tup Y)),some (.ow (.st (bk se)) []),some (.v (.int ((ddN ((zs.take i).map c)).length:Nat))),s4,s5]/\se.Nodup/\(∀z∈se,z∈zs)/\(∀z∈se,nxB zs ys z∈se)/\(∀z∈se,∃x∈zs.take i,Rch (nxB zs ys) x z)/\(∀x∈zs.take i,x∈se)/\m=n) _ 0 _ _ ⟨none,none,[],rfl,Cg,(λ_ z=>by cases z),(λ_ z=>by cases z),(λ_ z=>by cases z),(λ_ z=>by simp at z),rfl⟩ (λi x env m N ex hI hN=>?_) (λenv m hI=>?_)
 ·obtain⟨b,eb,rfl⟩:=hmem i x ex;obtain⟨s4,s5,se,rfl,s1,s2,s3,s6,s7,rfl⟩:=hI;rw[G0] at s6 s7 hN ⊢;have hb:=G4 eb;have tk:=o6 eb
  have cl:∀x∈se,∀k,itr (nxB zs ys) k x∈se:=λx hx k=>by
   induction k with
   |zero=>exact hx
   |succ k ih=>exact s3 _ ih
  have seen:b∈se↔c b∈ddN ((zs.take i).map c):=by
   rw[(h6 _).2,E4];constructor
   ·intro hb';obtain⟨x,hx,r⟩:=s6 b hb';exact⟨x,hx,(hc x (i5 hx) b hb).mp r⟩
   ·rintro⟨x,hx,e⟩;obtain⟨k,rfl⟩:=(hc x (i5 hx) b hb).mpr e;exact cl x (s7 x hx) k
  have cnt:(ddN ((zs.take (i+1)).map c)).length=(ddN ((zs.take i).map c)).length+if b∈se then 0 else 1:=by
   rw[tk,L3];show(ddN ((zs.take i).map c++[c b])).length=_;rw[Bt]
   by_cases cb:b∈se
   ·rw[jw (seen.mp cb),jw cb];rfl
   ·rw[jy (λz=>cb (seen.mpr z)),jy cb,D3];rfl
  have goal:∀(D:X3),D.nx=N->∀(many:Nat),many=(ddN ((zs.take (i+1)).map c)).length->BN (qB (qInS true 2 (qV 5))) (qSeq (G6 (O4 2 (qV 5))) (qSet 5 (qOp wIx (qV 1) (J3 (qV 0) (qV 5))))) D [some (.v (.tup Z)),some (.v (.tup Y)),some (.ow (.st (bk se)) []),some (.v (.int (many:Int))),some (.v (.str b)),some (.v (.str b))] m:=λD hD many em=>by
   subst hD;refine⟨_,mw _ _ _ (zs.length-se.length) se b s1 s2 hb (B3 _) λse' at' t1 t2 t3 t4 t5=>hN _ _ ⟨some (.v (.str b)),some (.v (.str at')),se',by rw[em],t1,t2,λz hz=>?_,λz hz=>?_,λx hx=>?_,rfl⟩⟩
   ·rcases t4 z hz with z'|⟨_,_,z'⟩
    ·exact t3 _ (s3 z z')
    ·exact z'
   ·rw[tk];rcases t4 z hz with z'|⟨_,z',_⟩
    ·obtain⟨x,hx,r⟩:=s6 z z';exact⟨x,b5 _ hx,r⟩
    ·exact⟨b,0o0,z'⟩
   ·rw[tk] at hx;rcases D6.mp hx with hx|hx
    ·exact t3 x (s7 x hx)
    ·rw[E2.mp hx];exact t5
  have em:memS (bk se) (.inr b)=decide (b∈se):=FY;generalize hD:ddN ((zs.take i).map c)=dd at *;generalize hB:bk se=B at *;walk_at "p1";rw[em]
  by_cases cb:b∈se
  ·rw[jw cb] at cnt;exact if_f (by rw[ju cb];rfl) (goal _ rfl dd.length 0x0)
  ·rw[jy cb] at cnt;refine if_t (by rw[jv cb];rfl) ?_;have:=goal { nx:=N,rt:=R,bk:=λe m=>match e[3]? with|some (some (Slot.v x))=>R x m|x=>False,ct:=N } rfl (dd.length+1) 0x0;rw[show((dd.length+1:Nat):Int)=(dd.length:Int)+1 by omega] at this;exact this
 ·obtain⟨s4,s5,se,rfl,s1,s2,s3,s6,s7,rfl⟩:=hI;rw[Zl,G0,x5];generalize bk se=B;walk_at "p1";exact h
def tr (_:Str):PV:=.bl true
def FZ {z:Str}{zs:List Str}:memK (bk zs) (.inr z)=decide (z∈zs):=by
 unfold memK bk;rw[t7,p9,decide_eq_true_iff];constructor
 ·rintro⟨k,hk,e⟩;obtain⟨y,hy,rfl⟩:=E4.mp hk;have:y=z:=by simpa using e
  rw[<- this];exact hy
 ·intro h;exact⟨.inr z,E4.mpr ⟨z,h,rfl⟩,0o0⟩
def Sj {zs ys:List Str}{f:Str->Str}{n:Nat}{D:X3}{a3 a4:Option Pu.Slot}(P:Prm f zs)(hl:zs.length<=24)
   (hstep:∀z∈zs,∀{R:PV->Prop},R (.str (f z))->o3 (.tup (zs.map PV.str)) (.str z) λw=>wIx (.tup (ys.map PV.str)) w R):∀(u:Nat) (se:List Str) (at_:Str),se.Nodup->(∀z∈se,z∈zs)->at_∈zs->zs.length-se.length<=u->
   (∀(se':List Str) (at':Str),se'.Nodup->(∀z∈se',z∈zs)->(∀z∈se,z∈se')->(∀z∈se',z∈se\/(z∈se'/\Rch f at_ z/\f z∈se'))->at_∈se'->D.nx [some (.v (.tup (zs.map PV.str))),some (.v (.tup (ys.map PV.str))),some (.ow (.dk (bk se')) (se'.map tr)),a3,a4,some (.v (.str at'))] n)->
   X4 (qB (M3 2 (qV 5))) (qSeq (O3 2 (qV 5) (qC (.bl true))) (qSet 5 (qOp wIx (qV 1) (J3 (qV 0) (qV 5))))) D (u+1) [some (.v (.tup (zs.map PV.str))),some (.v (.tup (ys.map PV.str))),some (.ow (.dk (bk se)) (se.map tr)),a3,a4,some (.v (.str at_))] n:=by
 intro u
 induction u with
 | zero =>
  intro se at_ nd sub ha hu h
  have full:at_∈se:=by
   have h1:=nd.length_le_of_subset sub;have h2:zs.length<=se.length:=0x0
   apply x8
   intro no;have:=(R8.mpr ⟨no,nd⟩).length_le_of_subset λz hz=>(B9.mp hz).elim (λe=>e▸ha) (sub z);rw[F2] at this;omega
  have:=h se at_ nd sub (λz hz=>hz) (λz hz=>.inl hz) full;generalize hZ:zs.map PV.str=Z at *;generalize hY:ys.map PV.str=Y at *;have eb:memK (bk se) (.inr at_)=true:=by rw[FZ];exact ju full
  have tl:(bk se).length=(se.map tr).length:=by rw[B0,B0]
  generalize bk se=B at *;generalize se.map tr=X at *;simp only[X4];walk_at "p1";rw[eb];exact⟨tl,this⟩
 | succ u ih =>
  intro se at_ nd sub ha hu h
  by_cases c:at_∈se
  ·have:=h se at_ nd sub (λz hz=>hz) (λz hz=>.inl hz) c;generalize hZ:zs.map PV.str=Z at *;generalize hY:ys.map PV.str=Y at *;have eb:memK (bk se) (.inr at_)=true:=by rw[FZ];exact ju c
   have tl:(bk se).length=(se.map tr).length:=by rw[B0,B0]
   generalize bk se=B at *;generalize se.map tr=X at *;rw[X4];walk_at "p1";rw[eb];exact⟨tl,this⟩
  ·have eb:memK (bk se) (.inr at_)=false:=by rw[FZ];exact jv c
   have sl:=nd.length_le_of_subset sub;have bl:(bk se).length=se.length:=B0 ..;have nx:=ih (se++[at_]) (f at_) (Aq.mpr ⟨nd,0o0,λa h1 b h2 e=>c (by rw[<- E2.mp h2,<- e];exact h1)⟩) (λz hz=>(D6.mp hz).elim (sub z) λz'=>by rw[E2.mp z'];exact ha) (P.st _ ha) (by rw[D3,Z9];ext) λse' at' s1 s2 s3 s4 s5=>h se' at' s1 s2 (λz hz=>s3 z (b5 _ hz)) (λz hz=>?_) (s3 at_ 0o0)
   ·have e2:bk (se++[at_])=bk se++[.inr at_]:=L3;have e3:(se++[at_]).map tr=se.map tr++[.bl true]:=L3;rw[e2,e3] at nx;have ni:l7 at_∉bk se:=λz=>by rw[<- Qj,eb] at z;cases z
    have tl:(bk se).length=(se.map tr).length:=by rw[B0,B0]
    have xl:(se.map tr).length=se.length:=B0 ..;have hst:=λ{R:PV->Prop}=>@hstep at_ ha R;generalize hZ:zs.map PV.str=Z at *;generalize hY:ys.map PV.str=Y at *;generalize bk se=B at *;generalize se.map tr=X at *;rw[X4];walk_at "p1";rw[eb];refine⟨tl,?_⟩;simp only[F4,if_false,Q0,if_true];have q:=hst (R:=λv=>X4 (qB (M3 2 (qV 5))) (qSeq (O3 2 (qV 5) (qC (.bl true))) (qSet 5 (qOp wIx (qV 1) (J3 (qV 0) (qV 5))))) D (u+1) [some (.v (.tup Z)),some (.v (.tup Y)),some (.ow (.dk (B++[l7 at_])) (X++[.bl true])),a3,a4,some (.v v)] n) nx;simp only[wIx] at q;rw[show U2 B (l7 at_)=B++[l7 at_] from jy ni,show P4 B X (l7 at_) (PV.bl true)=X++[.bl true] from jy ni];exact⟨⟨_,_,rfl⟩,tl,0x0,⟨_,rfl⟩,q⟩
   ·rcases s4 z hz with s|⟨_,s6,s7⟩
    ·rcases D6.mp s with s|s
     ·exact .inl s
     ·rw[E2.mp s];exact .inr ⟨s3 at_ 0o0,⟨0,rfl⟩,s5⟩
    ·exact .inr ⟨hz,Rch.trans ⟨1,rfl⟩ s6,s7⟩
def Sk {zs ys:List Str}{n:Nat}{R:PV->Nat->Prop}(nd:zs.Nodup)(h2:zs.length<=24)(pm:ys.Perm zs)(c:Str->Nat)(hc:∀x∈zs,∀y∈zs,Rch (nxB zs ys) x y↔c x=c y)(h:R (.int ((ddN (zs.map c)).length:Nat)) n):FQ [rowP zs,rowP ys] n R:=by
 mleft;unfold IM;have ly:=pm.length_eq;have P:=AK nd pm
 have hstep:∀z∈zs,∀{R:PV->Prop},R (.str (nxB zs ys z))->o3 (.tup (zs.map PV.str)) (.str z) λw=>wIx (.tup (ys.map PV.str)) w R:=λz hz {R} q=>m_ix rfl hz 0x0 (by
  show match atI (ys.map PV.str) ((ixS zs z:Nat):Int) with|some z=>R z|none=>False
  rw[IZ rfl (show ixS zs z<ys.length by rw[ly];exact Ae hz)]
  exact q)
 have hr0:rowP zs=.tup (zs.map PV.str):=rfl;have hr1:rowP ys=.tup (ys.map PV.str):=rfl;have mw:=λ(D:X3) (a3 a4:Option Pu.Slot)=>@Sj zs ys (nxB zs ys) n D a3 a4 P h2 hstep;have hmem:∀i z,(zs.map PV.str)[i]?=some z->∃b,zs[i]?=some b/\z=PV.str b:=λi z hz=>Bq (f:=PV.str) hz;have Zl:(zs.map PV.str).length=zs.length:=B0 ..;rw[hr0,hr1];generalize hZ:zs.map PV.str=Z at *;generalize hY:ys.map PV.str=Y at *;walk_at "p1";refine N1 (λi env m=>∃s4 s5,∃se:List Str,env=[some (.v (.tup Z)),some (.v (.tup Y)),some (.ow (.dk (bk se)) (se.map tr)),some (.v (.int ((ddN ((zs.take i).map c)).length:Nat))),s4,s5]/\se.Nodup/\(∀z∈se,z∈zs)/\(∀z∈se,nxB zs ys z∈se)/\(∀z∈se,∃x∈zs.take i,Rch (nxB zs ys) x z)/\(∀x∈zs.take i,x∈se)/\m=n) _ 0 _ _ ⟨none,none,[],rfl,Cg,(λ_ z=>by cases z),(λ_ z=>by cases z),(λ_ z=>by cases z),(λ_ z=>by simp at z),rfl⟩ (λi x env m N ex hI hN=>?_) (λenv m hI=>?_)
 ·obtain⟨b,eb,rfl⟩:=hmem i x ex;obtain⟨s4,s5,se,rfl,s1,s2,s3,s6,s7,rfl⟩:=hI;rw[G0] at s6 s7 hN ⊢;have hb:=G4 eb;have tk:=o6 eb
  have cl:∀x∈se,∀k,itr (nxB zs ys) k x∈se:=λx hx k=>by
   induction k with
   |zero=>exact hx
   |succ k ih=>exact s3 _ ih
  have seen:b∈se↔c b∈ddN ((zs.take i).map c):=by
   rw[(h6 _).2,E4];constructor
   ·intro hb';obtain⟨x,hx,r⟩:=s6 b hb';exact⟨x,hx,(hc x (i5 hx) b hb).mp r⟩
   ·rintro⟨x,hx,e⟩;obtain⟨k,rfl⟩:=(hc x (i5 hx) b hb).mpr e;exact cl x (s7 x hx) k
  have cnt:(ddN ((zs.take (i+1)).map c)).length=(ddN ((zs.take i).map c)).length+if b∈se then 0 else 1:=by
   rw[tk,L3];show(ddN ((zs.take i).map c++[c b])).length=_;rw[Bt]
   by_cases cb:b∈se
   ·rw[jw (seen.mp cb),jw cb];rfl
   ·rw[jy (λz=>cb (seen.mpr z)),jy cb,D3];rfl
  have goal:∀(D:X3),D.nx=N->∀(many:Nat),many=(ddN ((zs.take (i+1)).map c)).length->BN (qB (M3 2 (qV 5))) (qSeq (O3 2 (qV 5) (qC (.bl true))) (qSet 5 (qOp wIx (qV 1) (J3 (qV 0) (qV 5))))) D [some (.v (.tup Z)),some (.v (.tup Y)),some (.ow (.dk (bk se)) (se.map tr)),some (.v (.int (many:Int))),some (.v (.str b)),some (.v (.str b))] m:=λD hD many em=>by
   subst hD;refine⟨_,mw _ _ _ (zs.length-se.length) se b s1 s2 hb (B3 _) λse' at' t1 t2 t3 t4 t5=>hN _ _ ⟨some (.v (.str b)),some (.v (.str at')),se',by rw[em],t1,t2,λz hz=>?_,λz hz=>?_,λx hx=>?_,rfl⟩⟩
   ·rcases t4 z hz with z'|⟨_,_,z'⟩
    ·exact t3 _ (s3 z z')
    ·exact z'
   ·rw[tk];rcases t4 z hz with z'|⟨_,z',_⟩
    ·obtain⟨x,hx,r⟩:=s6 z z';exact⟨x,b5 _ hx,r⟩
    ·exact⟨b,0o0,z'⟩
   ·rw[tk] at hx;rcases D6.mp hx with hx|hx
    ·exact t3 x (s7 x hx)
    ·rw[E2.mp hx];exact t5
  have em:memK (bk se) (.inr b)=decide (b∈se):=FZ;have tl:(bk se).length=(se.map tr).length:=by rw[B0,B0]
  generalize hD:ddN ((zs.take i).map c)=dd at *;generalize hB:bk se=B at *;generalize hX:se.map tr=X at *;walk_at "p1";rw[em];refine⟨tl,?_⟩
  by_cases cb:b∈se
  ·rw[jw cb] at cnt;have:=goal { nx:=N,rt:=R,bk:=λe m=>match e[3]? with|some (some (Slot.v x))=>R x m|x=>False,ct:=N } rfl dd.length 0x0;rw[ju cb];show BN _ _ _ [_,_,_,some (.v (.int ((dd.length:Int)+0))),_,_] _;rw[Int.add_zero];exact this
  ·rw[jy cb] at cnt;have:=goal { nx:=N,rt:=R,bk:=λe m=>match e[3]? with|some (some (Slot.v x))=>R x m|x=>False,ct:=N } rfl (dd.length+1) 0x0;rw[show((dd.length+1:Nat):Int)=(dd.length:Int)+1 by omega] at this;rw[jv cb];exact this
 ·obtain⟨s4,s5,se,rfl,s1,s2,s3,s6,s7,rfl⟩:=hI;rw[Zl,G0,x5];generalize bk se=B;generalize se.map tr=X;walk_at "p1";exact h
def Sm {ys:List Str}(nd:ys.Nodup){x y:Str}(hx:x∈ys)(hy:y∈ys):Rch (nxB ys ys) x y↔ixS ys x=ixS ys y:=by
 have one:nxB ys ys x=x:=by
  have h1:=(E1 hx).1;rw[D7 (Ae hx)] at h1;exact E7 h1
 have all:∀k,itr (nxB ys ys) k x=x:=λk=>by
  induction k with
  |zero=>rfl
  | succ k ih =>
   show nxB ys ys (itr (nxB ys ys) k x)=x;rw[ih,one]
 constructor
 ·rintro⟨k,rfl⟩;rw[all]
 ·intro e;exact⟨0,CZ hx hy e⟩
theorem Mp {c d:Str->Nat}{l:List Str}(h:∀x∈l,∀y∈l,c x=c y↔d x=d y):∀i,i<=l.length->(ddN ((l.take i).map c)).length=(ddN ((l.take i).map d)).length
 |0,_=>rfl
 | i + 1, hi => by
  have ih:=Mp h i 0x0;have e:=D1 (show i<l.length by omega);have hx:l[i]∈l:=x0 _;generalize l[i]=x at *;rw[o6 e,L3,L3];show(ddN (_++[c x])).length=(ddN (_++[d x])).length;rw[Bt,Bt]
  have iff:c x∈ddN ((l.take i).map c)↔d x∈ddN ((l.take i).map d):=by
   rw[(h6 _).2,(h6 _).2,E4,E4];exact⟨λ⟨y,hy,e⟩=>⟨y,hy,(h y (i5 hy) x hx).mp e⟩,λ⟨y,hy,e⟩=>⟨y,hy,(h y (i5 hy) x hx).mpr e⟩⟩
  by_cases k:c x∈ddN ((l.take i).map c)
  ·rw[jw k,jw (iff.mp k)];exact ih
  ·rw[jy k,jy λz=>k (iff.mpr z),D3,D3,ih];rfl
def Mq {c d:Str->Nat}{l:List Str}(h:∀x∈l,∀y∈l,c x=c y↔d x=d y):(ddN (l.map c)).length=(ddN (l.map d)).length:=by
 have:=Mp h l.length (B3 _);rw[x5] at this;exact this
def rN (st jc:List Str):Nat:=(ddN (st.map (cOf (nxB st jc) st))).length
def Sn {jc:List Str}(nd:jc.Nodup):rN jc jc=jc.length:=by
 have P:=AK nd (List.Perm.refl jc);have e:∀x∈jc,∀y∈jc,cOf (nxB jc jc) jc x=cOf (nxB jc jc) jc y↔ixS jc x=ixS jc y:=λx hx y hy=>(Bs P hx hy).symm.trans (Sm nd hx hy);unfold rN;rw[Mq e,Sc,B0];refine EB.mpr λi j hi hj hij e=>?_;rw[B0] at hi hj;rw[List.getElem_map,List.getElem_map] at e;have:=CZ (x0 hi) (x0 hj) e;have:=N5 nd (D1 hi) (by rw[this];exact D1 hj);omega
def Ms {st jc:List Str}{i:Nat}{b:Str}(nd:jc.Nodup)(pm:st.Perm jc)(eb:jc[i]?=some b)(ne:nm st i≠b):rN (exch st i (ixS st b)) jc=rN st jc + 1:=by
 have jt:=pm.nodup_iff.mpr nd;have bm:b∈st:=pm.mem_iff.mpr (G4 eb);have il:i<st.length:=by rw[pm.length_eq];exact(E5.mp eb).1
 have jl:ixS st b<st.length:=(E5.mp (E1 bm).1).1;have jb:=(E1 bm).1;have nb:nm st (ixS st b)=b:=E7 ((D7 jl).symm.trans jb);have ij:i≠ixS st b:=λz=>ne (by rw[z];exact nb);have yi:=D7 il;have ym:nm st i∈st:=Af il;have iy:ixS st (nm st i)=i:=N5 jt (E1 ym).1 yi;have pm':=AJ il jl;have nd':=pm'.nodup_iff.mpr jt;have sl':(exch st i (ixS st b)).length=st.length:=pm'.length_eq;generalize hj:ixS st b=j at *;generalize hy:nm st i=y at *
 have g:∀k,(exch st i j)[k]?=if j=k then some y else if i=k then some b else st[k]?:=λk=>by
  unfold exch;rw[hy,nb,Cd,Cd,L9]
  by_cases c1:j=k
  ·rw[jw c1,jw c1,jw 0x0]
  ·rw[jy c1,jy c1]
   by_cases c2:i=k
   ·rw[jw c2,jw c2,jw 0x0]
   ·rw[jy c2,jy c2]
 generalize hs:exch st i j=st' at *;have ib':ixS st' b=i:=N5 nd' (E1 (pm'.mem_iff.mpr bm)).1 (by rw[g,jy (λz=>ij z.symm),jw rfl]);have iy':ixS st' y=j:=N5 nd' (E1 (pm'.mem_iff.mpr ym)).1 (by rw[g,jw rfl])
 have ix':∀x∈st,x≠b->x≠y->ixS st' x=ixS st x:=λx hx h1 h2=>N5 nd' (E1 (pm'.mem_iff.mpr hx)).1 (by
  have a:=(E1 hx).1;rw[g,jy,jy,a]
  ·intro z;rw[<- z,yi] at a;exact h2 (E7 a).symm
  ·intro z;rw[<- z,jb] at a;exact h1 (E7 a).symm)
 have P:=AK jt pm.symm;have P':=AK nd' (pm.symm.trans pm'.symm);have nmi:nm jc i=b:=E7 ((D7 (by rw[<- pm.length_eq];exact il)).symm.trans eb);have fy:nxB st jc y=b:=by unfold nxB;rw[iy,nmi]
 have fb':nxB st' jc b=b:=by unfold nxB;rw[ib',nmi]
 have fy':nxB st' jc y=nxB st jc b:=by unfold nxB;rw[iy',hj]
 have fx':∀x∈st,x≠b->x≠y->nxB st' jc x=nxB st jc x:=λx hx h1 h2=>by unfold nxB;rw[ix' x hx h1 h2]
 have fbn:nxB st jc b≠b:=λz=>ne (P.inj y ym b bm (fy.trans z.symm));have fxn:∀x∈st,x≠y->nxB st jc x≠b:=λx hx h z=>h (P.inj x hx y ym (z.trans fy.symm));show(ddN (st'.map (cOf (nxB st' jc) st'))).length=(ddN (st.map (cOf (nxB st jc) st))).length+1;generalize nxB st jc=f at *;generalize nxB st' jc=f' at *
 have A:∀x∈st,x≠b->∀k,itr f' k x∈st/\itr f' k x≠b/\Rch f x (itr f' k x):=λx hx hb k=>by
  induction k with
  |zero=>exact⟨hx,hb,0,rfl⟩
  | succ k ih =>
   obtain⟨h1,h2,h3⟩:=ih;show f' (itr f' k x)∈st/\f' (itr f' k x)≠b/\Rch f x (f' (itr f' k x));generalize itr f' k x=w at *
   by_cases c:w=y
   ·subst c;rw[fy'];exact⟨P.st _ bm,fbn,Rch.trans h3 ⟨2,by show f (f w)=f b;rw[fy]⟩⟩
   ·rw[fx' w h1 h2 c];exact⟨P.st _ h1,fxn w h1 c,Rch.trans h3 ⟨1,rfl⟩⟩
 have B:∀k,∀m,m<=k->∀x∈st,x≠b->∀z,z≠b->itr f m x=z->Rch f' x z:=fun k=>by
  induction k with
  | zero =>
   intro m hm x hx hb z hz e;have:m=0:=0x0
   subst this;exact⟨0,e⟩
  | succ k ih =>
   intro m hm x hx hb z hz e;cases m with
   |zero=>exact⟨0,e⟩
   | succ m =>
    rw[<- IX] at e
    by_cases c:x=y
    ·subst c;rw[fy] at e;cases m with
     |zero=>exact absurd e.symm hz
     | succ m =>
      rw[<- IX] at e;exact Rch.trans ⟨1,fy'⟩ (ih m 0x0 _ (P.st _ bm) fbn z hz e)
    ·exact Rch.trans ⟨1,fx' x hx hb c⟩ (ih m 0x0 _ (P.st _ hx) (fxn x hx c) z hz e)
 have cl:∀x∈st,cOf f st x<st.length:=λx hx=>At (c_le P hx ⟨0,rfl⟩) (E5.mp (E1 hx).1).1
 have D:∀x∈st',∀z∈st',cOf f' st' x=cOf f' st' z↔(if x=b then st.length else cOf f st x)=(if z=b then st.length else cOf f st z):=λx hx' z hz'=>by
  have hx:=pm'.mem_iff.mp hx';have hz:=pm'.mem_iff.mp hz';rw[<- Bs P' hx' hz']
  by_cases c1:x=b
  ·have st_b:∀k,itr f' k b=b:=λk=>by
    induction k with
    |zero=>rfl
    |succ k ih=>show f' (itr f' k b)=b;rw[ih,fb']
   rw[jw c1]
   by_cases c2:z=b
   ·rw[jw c2,c1,c2];exact⟨λ_=>rfl,λ_=>⟨0,rfl⟩⟩
   ·rw[jy c2];refine⟨λ⟨k,e⟩=>absurd (by rw[<- e,c1,st_b]) c2,λe=>?_⟩;have:=cl z hz;ext
  ·rw[jy c1]
   by_cases c2:z=b
   ·rw[jw c2];refine⟨λ⟨k,e⟩=>absurd (e.trans c2) (A x hx c1 k).2.1,λe=>?_⟩;have:=cl x hx;ext
   ·rw[jy c2,<- Bs P hx hz];exact⟨λ⟨k,e⟩=>by rw[<- e];exact(A x hx c1 k).2.2,λ⟨k,e⟩=>B k k (B3 _) x hx c1 z c2 e⟩
 have cb:cOf f st b=cOf f st y:=((Bs P ym bm).mp ⟨1,fy⟩).symm;rw[Mq D,dd_len (l':=st.map (cOf f st)++[st.length])]
 ·rw[Bt,jy,D3]
  ·rfl
  ·rw[(h6 _).2,E4];rintro⟨x,hx,e⟩;have:=cl x hx;ext
 ·intro v;rw[E4,D6,E4,E2];constructor
  ·rintro⟨x,hx,e⟩
   by_cases c:x=b
   ·rw[jw c] at e;exact .inr e.symm
   ·rw[jy c] at e;exact .inl ⟨x,pm'.mem_iff.mp hx,e⟩
  ·rintro(⟨x,hx,e⟩|e)
   ·by_cases c:x=b
    ·exact⟨y,pm'.mem_iff.mpr ym,by rw[jy ne,<- cb,<- c];exact e⟩
    ·exact⟨x,pm'.mem_iff.mpr hx,by rw[jy c];exact e⟩
   ·exact⟨b,pm'.mem_iff.mpr bm,by rw[jw rfl];exact e.symm⟩
structure WayR (s r:Nat)(row jc:List Str)(i:Nat)(st:List Str)(ps:List (Str×Str)):Prop where
 pm:st.Perm jc
 hd:st.take i=jc.take i
 ld:led s r row ps=some st
 nu:ps.length+rN row jc=rN st jc
 mm:∀p∈ps,p.1∈jc/\p.2∈jc
def Em {st jc:List Str}{i:Nat}{b:Str}(nd:jc.Nodup)(pm:st.Perm jc)(hd:st.take i=jc.take i)(eb:jc[i]?=some b):i<=ixS st b:=by
 by_cases c:ixS st b<i
 ·exfalso
  have a1:=(E1 (pm.mem_iff.mpr (G4 eb))).1;have a2:(st.take i)[ixS st b]?=some b:=by rw[AV,jw c];exact a1
  rw[hd,AV,jw c] at a2;have:=N5 nd a2 eb;omega
 ·ext
def So {s r:Nat}{row jc st:List Str}{i:Nat}{b:Str}{ps:List (Str×Str)}(hs:jc.length<=s)(hr:jc.length<=r+2)(nd:jc.Nodup)(w:WayR s r row jc i st ps)(eb:jc[i]?=some b)(ne:nm st i≠b):WayR s r row jc (i+1) (exch st i (ixS st b)) (ps++[(b,nm st i)]):=by
 have jt:=w.pm.nodup_iff.mpr nd;have hm:=G4 eb;have bm:b∈st:=w.pm.mem_iff.mpr hm;have il:i<st.length:=by rw[w.pm.length_eq];exact(E5.mp eb).1
 have jl:ixS st b<st.length:=(E5.mp (E1 bm).1).1;have nb:nm st (ixS st b)=b:=E7 ((D7 jl).symm.trans (E1 bm).1);have ij:i≠ixS st b:=λz=>ne (by rw[z];exact nb);have ge:=Em nd w.pm w.hd eb;have iy:ixS st (nm st i)=i:=N5 jt (E1 (Af il)).1 (D7 il);have nu:=Ms nd w.pm eb ne;refine⟨(AJ il jl).trans w.pm,?_,?_,?_,λp hp=>?_⟩
 ·have e:(exch st i (ixS st b))[i]?=some b:=by
   unfold exch;rw[nb,Cd,jy (λz=>ij z.symm),Cd,jw rfl,jw il]
  rw[o6 e,o6 eb,<- w.hd];unfold exch;rw[List.take_set_of_le 0x0,List.take_set_of_le (B3 _)]
 ·rw[Ek ps row st (b,nm st i) w.ld];show(if okP s r (ixS st (nm st i)) (ixS st b)=true then some (exch st (ixS st (nm st i)) (ixS st b)) else none)=_;rw[iy,jw (Ja hs hr (by rw[<- w.pm.length_eq];exact jl) 0x0)]
 ·rw[D3,Z9,nu];have:=w.nu;ext
 ·rcases D6.mp hp with hp|hp
  ·exact w.mm p hp
  ·rw[E2.mp hp];exact⟨hm,w.pm.mem_iff.mp (Af il)⟩
def Jd {row jc:List Str}:rN row jc<=row.length:=by
 unfold rN;have h:=(h6 (row.map (cOf (nxB row jc) row)));have:=h.1.length_le_of_subset λv hv=>(h.2 v).mp hv;rw[B0] at this;exact this
def Eo {st:List Str}{p q:Nat}(hp:p<st.length)(hq:q<st.length)(k:Nat):(exch st p q)[k]?=if q=k then some (nm st p) else if p=k then some (nm st q) else st[k]?:=by
 unfold exch;rw[Cd,Cd,L9]
 by_cases c1:q=k
 ·rw[jw c1,jw c1,jw 0x0]
 ·rw[jy c1,jy c1]
  by_cases c2:p=k
  ·rw[jw c2,jw c2,jw 0x0]
  ·rw[jy c2,jy c2]
def Sq {st:List Str}{p q:Nat}(hp:p<st.length)(hq:q<st.length):exch (exch st p q) p q=st:=by
 have l:(exch st p q).length=st.length:=(AJ hp hq).length_eq
 have e1:nm (exch st p q) p=nm st q:=E7 ((D7 0x0).symm.trans (by
  rw[Eo hp hq]
  by_cases c:q=p
  ·rw[jw c,c]
  ·rw[jy c,jw rfl]))
 have e2:nm (exch st p q) q=nm st p:=E7 ((D7 0x0).symm.trans (by rw[Eo hp hq,jw rfl]));refine List.ext_getElem? λk=>?_;rw[Eo 0x0 0x0,e1,e2]
 by_cases c1:q=k
 ·rw[jw c1,<- c1,D7 hq]
 ·rw[jy c1]
  by_cases c2:p=k
  ·rw[jw c2,<- c2,D7 hp]
  ·rw[jy c2,Eo hp hq,jy c1,jy c2]
structure Dst (s r:Nat)(jc:List Str)(f:List Str->Nat):Prop where
 zero:f jc=0
 step:∀st,st.Perm jc->∀p q,okP s r p q=true->q<jc.length->f (exch st p q)<=f st+1
 down:∀st,st.Perm jc->st≠jc->∃p q,okP s r p q=true/\q<jc.length/\f (exch st p q)+1=f st
def Y6 {s r p q:Nat}{st jc:List Str}(pm:st.Perm jc)(h:okP s r p q=true)(hq:q<jc.length):(exch st p q).Perm jc/\exch (exch st p q) p q=st:=by
 have:=u9 h;have l:=pm.length_eq;exact⟨(AJ 0x0 0x0).trans pm,Sq 0x0 0x0⟩
section
variable {s r:Nat}{jc:List Str}{f g:List Str->Nat}
def Dst.back (F:Dst s r jc f){st:List Str}(pm:st.Perm jc){p q:Nat}(h:okP s r p q=true)(hq:q<jc.length):f st<=f (exch st p q)+1:=by
 obtain⟨a,b⟩:=Y6 pm h hq;have:=F.step _ a p q h hq;rw[b] at this;exact this
def Dst.eq0 (F:Dst s r jc f){st:List Str}(pm:st.Perm jc)(h:f st=0):st=jc:=by
 apply x8
 intro no;obtain⟨p,q,_,_,e⟩:=F.down st pm no;ext
def Dst.le (F:Dst s r jc f)(G:Dst s r jc g):∀k st,st.Perm jc->g st=k->f st<=k:=by
 intro k
 induction k with
 | zero =>
  intro st pm e;rw[G.eq0 pm e,F.zero];exact B3 _
 | succ k ih =>
  intro st pm e;obtain⟨p,q,h1,h2,h3⟩:=G.down st pm λz=>by rw[z,G.zero] at e;cases e
  have:=ih _ (Y6 pm h1 h2).1 0x0;have:=F.back pm h1 h2;ext
def Dst.uniq (F:Dst s r jc f)(G:Dst s r jc g){st:List Str}(pm:st.Perm jc):f st=g st:=Cj (F.le G _ st pm rfl) (G.le F _ st pm rfl)
def Pth (s r:Nat)(jc:List Str):Nat->List Str->Prop
 |0,st=>st=jc
 |k+1,st=>∃p q,okP s r p q=true/\q<jc.length/\Pth s r jc k (exch st p q)
inductive Nbs:List Str->List Str->Prop
 |refl (st:List Str):Nbs st st
 |step {A B:List Str} {y b:Str} {st:List Str}:Nbs (A++b::y::B) st->Nbs (A++y::b::B) st
def Nbs.trans {a b c:List Str}(h:Nbs a b)(h':Nbs b c):Nbs a c:=by
 induction h with
 |refl=>exact h'
 |step _ ih=>exact .step (ih h')
def Nbs.cons (x:Str){a b:List Str}(h:Nbs a b):Nbs (x::a) (x::b):=by
 induction h with
 |refl=>exact .refl _
 |@step A B y b st _ ih=>exact Nbs.step (A:=x::A) ih
def Sr {a b:List Str}(h:a.Perm b):Nbs a b:=by
 induction h with
 |nil=>exact .refl _
 |cons x _ ih=>exact ih.cons x
 |swap x y l=>exact Nbs.step (A:=[]) (.refl _)
 |trans _ _ h1 h2=>exact h1.trans h2
def Ss (s1:1<=s){st:List Str}(h:Nbs st jc):st.length=jc.length/\∃k,Pth s r jc k st:=by
 generalize e:jc=o at *
 induction h with
 |refl=>exact⟨rfl,0,rfl⟩
 | @step A B y b st _ ih =>
  obtain⟨l,k,hk⟩:=ih e;have l2:(A++y::b::B).length=(A++b::y::B).length:=by rw[D3,D3];rfl
  have l3:A.length+1<(A++b::y::B).length:=by rw[D3,F2,F2];ext
  refine⟨l2.trans l,k+1,A.length,A.length+1,FT s1,0x0,?_⟩;rw[(Jb rfl).1];exact hk
def least {P:Nat->Prop}(k:Nat):P k->∃m,P m/\∀j,P j->m<=j:=by
 induction k using Nat.strongRecOn with
 | _ k ih =>
  intro h
  by_cases c:∃j,j<k/\P j
  ·obtain⟨j,hj,pj⟩:=c;exact ih j hj pj
  ·exact⟨k,h,λj pj=>Dy λz=>c ⟨j,z,pj⟩⟩
def dst_ex (s1:1<=s):∃f,Dst s r jc f:=by
 have ex:∀st,∃m,st.Perm jc->Pth s r jc m st/\∀j,Pth s r jc j st->m<=j:=λst=>by
  by_cases c:st.Perm jc
  ·obtain⟨_,k,hk⟩:=Ss (r:=r) s1 (Sr c);obtain⟨m,h⟩:=least (P:=λk=>Pth s r jc k st) k hk;exact⟨m,λ_=>h⟩
  ·exact⟨0,λz=>absurd z c⟩
 obtain⟨f,hf⟩:=Classical.axiomOfChoice ex
 have st:∀st,st.Perm jc->∀p q,okP s r p q=true->q<jc.length->f (exch st p q)<=f st+1:=λst pm p q h hq=>by
  obtain⟨a,b⟩:=Y6 pm h hq;exact(hf _ a).2 _ ⟨p,q,h,hq,by rw[b];exact(hf _ pm).1⟩
 refine⟨f,Nat.le_zero.mp ((hf jc (.refl _)).2 0 rfl),st,λx pm ne=>?_⟩;have h:=(hf x pm).1;cases e:f x with
 |zero=>rw[e] at h;exact absurd h ne
 | succ k =>
  rw[e] at h;obtain⟨p,q,h1,h2,h3⟩:=h;obtain⟨a,b⟩:=Y6 pm h1 h2;have u:=(hf _ a).2 _ h3;have v:=st _ a p q h1 h2;rw[b,e] at v;exact⟨p,q,h1,h2,0x0⟩
end
def split2 {st:List Str}{j:Nat}(h:j+1<st.length):st=st.take j++nm st j::nm st (j+1)::st.drop (j+1+1):=by
 have d:∀{i:Nat},i<st.length->st.drop i=nm st i::st.drop (i+1):=λ{i} hi=>Mo (D7 hi);rw[<- d h,<- d 0x0,AT]
def Je {st jc:List Str}(l:st.length=jc.length)(ne:st≠jc):∃i,i<jc.length/\st.take i=jc.take i/\nm st i≠nm jc i:=by
 have ex:∃i,i<jc.length/\nm st i≠nm jc i:=by
  apply x8
  intro no;refine ne (List.ext_getElem? λi=>?_)
  by_cases c:i<jc.length
  ·rw[D7 c,D7 0x0];exact congrArg some (x8 λz=>no ⟨i,c,z⟩)
  ·rw[i4 0x0,i4 0x0]
 obtain⟨k,hk⟩:=ex;obtain⟨i,⟨h1,h2⟩,h3⟩:=least (P:=λk=>k<jc.length/\nm st k≠nm jc k) k hk;refine⟨i,h1,List.ext_getElem? λj=>?_,h2⟩;rw[AV,AV]
 by_cases c:j<i
 ·rw[jw c,jw c,D7 0x0,D7 0x0];exact congrArg some (x8 λz=>by have:=h3 j ⟨0x0,z⟩;ext)
 ·rw[jy c,jy c]
def Jf {s:Nat}{jc:List Str}(s1:1<=s)(nd:jc.Nodup):Dst s 0 jc λst=>inv (st.map (ixS jc)):=by
 refine⟨inv_id nd,λst pm p q h hq=>?_,λst pm ne=>?_⟩
 ·have pq:q=p+1:=by
   have:=u9 h;unfold okP at h;rw[M2,M2] at h;have:=jz h.2.1;omega
  subst pq;have l:=pm.length_eq;have jt:=pm.nodup_iff.mpr nd;have e:=split2 (st:=st) (j:=p) 0x0;have al:(st.take p).length=p:=by rw[l6];ext
  have x:=(Jb e).1;rw[al] at x;have m1:nm st p∈jc:=pm.mem_iff.mp (Af 0x0);have m2:nm st (p+1)∈jc:=pm.mem_iff.mp (Af 0x0)
  have ne:ixS jc (nm st p)≠ixS jc (nm st (p+1)):=λz=>by
   have:=LG jt 0x0 0x0 (CZ m1 m2 z);ext
  show inv ((exch st p (p+1)).map (ixS jc))<=inv (st.map (ixS jc))+1;rw[x];generalize nm st p=y at *;generalize nm st (p+1)=b at *;rw[show st.map (ixS jc)=(st.take p++y::b::st.drop (p+1+1)).map (ixS jc) by rw[<- e],L3,L3,G7,G7,G7,G7]
  by_cases c:ixS jc y<ixS jc b
  ·rw[FU c];exact B3 _
  ·have:=FU (show ixS jc b<ixS jc y by ext) ((st.drop (p+1+1)).map (ixS jc)) ((st.take p).map (ixS jc));ext
 ·have l:=pm.length_eq;obtain⟨i,hi,hd,hn⟩:=Je l ne;have eb:=D7 hi;have bm:=Af hi;have bs:=pm.mem_iff.mpr bm;have ge:=Em nd pm hd eb
  have ni:ixS st (nm jc i)≠i:=λz=>by
   have:=(E1 bs).1;rw[z,D7 0x0] at this;exact hn (E7 this)
  obtain⟨j,hj⟩:∃j,ixS st (nm jc i)=j+1:=⟨ixS st (nm jc i)-1,0x0⟩;have w:=(Mh (r:=0) s1 nd (show Way s 0 st jc i st [] from⟨pm,hd,rfl,(by show 0+_=_;ext),nofun⟩) (N5 nd (E1 bm).1 eb) bm hj 0x0).1.nu;have jl:=Ae bs;refine⟨j,j+1,FT s1,0x0,?_⟩;have w:1+inv ((exch st j (j+1)).map (ixS jc))=inv (st.map (ixS jc)):=w;show inv ((exch st j (j+1)).map (ixS jc))+1=inv (st.map (ixS jc));ext
theorem Mu {c d:Str->Nat}{l:List Str}(h:∀x∈l,∀y∈l,c x=c y->d x=d y):∀i,i<=l.length->(ddN ((l.take i).map d)).length<=(ddN ((l.take i).map c)).length
 |0,_=>B3 _
 | i + 1, hi => by
  have ih:=Mu h i 0x0;have e:=D1 (show i<l.length by omega);have hx:l[i]∈l:=x0 _;generalize l[i]=x at *;rw[o6 e,L3,L3];show(ddN (_++[d x])).length<=(ddN (_++[c x])).length;rw[Bt,Bt]
  have imp:c x∈ddN ((l.take i).map c)->d x∈ddN ((l.take i).map d):=by
   rw[(h6 _).2,(h6 _).2,E4,E4];exact λ⟨y,hy,e⟩=>⟨y,hy,h y (i5 hy) x hx e⟩
  by_cases k:c x∈ddN ((l.take i).map c)
  ·rw[jw k,jw (imp k)];exact ih
  ·rw[jy k,D3]
   split
   ·ext
   ·rw[D3];exact Nat.add_le_add_right ih _
def rN_lip {st jc:List Str}{p q:Nat}(nd:jc.Nodup)(pm:st.Perm jc)(hp:p<jc.length)(hq:q<jc.length):rN st jc<=rN (exch st p q) jc+1:=by
 have l:=pm.length_eq;have jt:=pm.nodup_iff.mpr nd;have pm':=AJ (f:=st) (i:=p) (j:=q) 0x0 0x0;have nd':=pm'.nodup_iff.mpr jt;have g:=Eo (st:=st) (p:=p) (q:=q) 0x0 0x0;have am:nm st p∈st:=Af 0x0;have bm:nm st q∈st:=Af 0x0;have ia:ixS st (nm st p)=p:=N5 jt (E1 am).1 (D7 0x0);have ib:ixS st (nm st q)=q:=N5 jt (E1 bm).1 (D7 0x0);have ja:ixS (exch st p q) (nm st p)=q:=N5 nd' (E1 (pm'.mem_iff.mpr am)).1 (by rw[g,jw rfl])
 have jb:ixS (exch st p q) (nm st q)=p:=N5 nd' (E1 (pm'.mem_iff.mpr bm)).1 (by
  rw[g]
  by_cases c:q=p
  ·rw[jw c,c]
  ·rw[jy c,jw rfl])
 have jx:∀x∈st,x≠nm st p->x≠nm st q->ixS (exch st p q) x=ixS st x:=λx hx h1 h2=>N5 nd' (E1 (pm'.mem_iff.mpr hx)).1 (by
  have a:=(E1 hx).1;rw[g,jy,jy,a]
  ·intro z;rw[<- z,D7 0x0] at a;exact h1 (E7 a).symm
  ·intro z;rw[<- z,D7 0x0] at a;exact h2 (E7 a).symm)
 have P:=AK jt pm.symm;have P':=AK nd' (pm.symm.trans pm'.symm);have fa:nxB (exch st p q) jc (nm st p)=nxB st jc (nm st q):=by unfold nxB;rw[ja,ib]
 have fb:nxB (exch st p q) jc (nm st q)=nxB st jc (nm st p):=by unfold nxB;rw[jb,ia]
 have fx:∀x∈st,x≠nm st p->x≠nm st q->nxB (exch st p q) jc x=nxB st jc x:=λx hx h1 h2=>by unfold nxB;rw[jx x hx h1 h2]
 unfold rN;generalize nm st p=a at *;generalize nm st q=b at *;generalize exch st p q=st' at *;generalize nxB st jc=f at *;generalize nxB st' jc=f' at *;have cs:∀x∈st,cOf f st (f x)=cOf f st x:=λx hx=>((Bs P hx (P.st x hx)).mp ⟨1,rfl⟩).symm
 let m:Nat->Nat:=λv=>if v=cOf f st b then cOf f st a else v
 have mb:m (cOf f st b)=cOf f st a:=jw rfl
 have ma:m (cOf f st a)=cOf f st a:=by
  show(if _ then _ else _)=_
  split <;> rfl
 have one:∀x∈st,m (cOf f st (f' x))=m (cOf f st x):=λx hx=>by
  by_cases c1:x=a
  ·rw[c1,fa,cs b bm,mb,ma]
  ·by_cases c2:x=b
   ·rw[c2,fb,cs a am,mb,ma]
   ·rw[fx x hx c1 c2,cs x hx]
 have all:∀x∈st,∀k,itr f' k x∈st/\m (cOf f st (itr f' k x))=m (cOf f st x):=λx hx k=>by
  induction k with
  |zero=>exact⟨hx,rfl⟩
  | succ k ih =>
   refine⟨pm'.mem_iff.mp (P'.st _ (pm'.mem_iff.mpr ih.1)),?_⟩;rw[<- ih.2];exact one _ ih.1
 have A:=Mu (c:=cOf f' st') (d:=λx=>m (cOf f st x)) (l:=st') (λx hx y hy e=>by
  obtain⟨k,rfl⟩:=(Bs P' hx hy).mpr e
  exact(all x (pm'.mem_iff.mp hx) k).2.symm) st'.length (B3 _)
 rw[x5] at A
 have B:=(h6 (st.map (cOf f st))).1.length_le_of_subset (l₂:=cOf f st b::ddN (st'.map λx=>m (cOf f st x))) λv hv=>by
  rw[(h6 _).2,E4] at hv;obtain⟨x,hx,rfl⟩:=hv
  by_cases c:cOf f st x=cOf f st b
  ·rw[c];exact D2
  ·refine C1 _ ?_;rw[(h6 _).2,E4];exact⟨x,pm'.mem_iff.mpr hx,jy c⟩
 rw[F2] at B;omega
def Mv {s r:Nat}{jc:List Str}(nd:jc.Nodup)(hs:jc.length<=s)(hr:jc.length<=r+2):Dst s r jc λst=>jc.length-rN st jc:=by
 refine⟨by rw[Sn nd];omega,λst pm p q h hq=>?_,λst pm ne=>?_⟩
 ·have:=u9 h;have:=rN_lip nd pm (p:=p) (q:=q) 0x0 hq;ext
 ·have l:=pm.length_eq;obtain⟨i,hi,hd,hn⟩:=Je l ne;have eb:=D7 hi;have bs:=pm.mem_iff.mpr (Af hi);have ge:=Em nd pm hd eb
  have ni:ixS st (nm jc i)≠i:=λz=>by
   have:=(E1 bs).1;rw[z,D7 0x0] at this;exact hn (E7 this)
  have jl:=Ae bs;have st1:=Ms nd pm eb hn;have le:=Jd (row:=exch st i (ixS st (nm jc i))) (jc:=jc);rw[(AJ 0x0 jl).length_eq] at le;refine⟨i,ixS st (nm jc i),Ja hs hr 0x0 0x0,0x0,?_⟩;omega
def Z5 (r:List Str):F8 (r.map PV.str)=some (bk r):=by
 have:=Hz (bk r);rw[Ar] at this;exact this
def Jg {a b:List Str}(h:bk a=bk b):a=b:=(ED λx y e=>Sum.inr.inj e).mp h
def mem_dk {r:List Str}{L:List (List Str)}:memT (L.map bk) (bk r)=decide (r∈L):=by
 rw[t7,Ru,decide_eq_true_iff,E4];exact⟨λ⟨x,h,e⟩=>by rw[<- Jg e];exact h,λh=>⟨r,h,rfl⟩⟩
def vI (f:List Str->Nat)(x:List Str):PV:=.int (f x:Nat)
theorem o8 {f:List Str->Nat}{r:List Str}:∀{L:List (List Str)},r∈L->getT (L.map bk) (L.map (vI f)) (bk r)=some (vI f r)
 | x :: L, h => by
  show(if bk x=bk r then some (vI f x) else getT (L.map bk) (L.map (vI f)) (bk r))=_
  by_cases c:x=r
  ·rw[c,jw rfl]
  ·rw[jy λz=>c (Jg z)];exact o8 ((B9.mp h).elim (λz=>absurd z.symm c) id)
def Mw {r:List Str}{L:List (List Str)}(h:r∉L):bk r∉L.map bk:=λz=>by
 obtain⟨x,hx,e⟩:=E4.mp z;exact h (by rw[<- Jg e];exact hx)
def put_k {r:List Str}{L:List (List Str)}(h:r∉L):U2 (L.map bk) (bk r)=(L++[r]).map bk:=by
 unfold U2;rw[jy (Mw h),L3];rfl
def put_x {f:List Str->Nat}{r:List Str}{L:List (List Str)}{x:PV}(h:r∉L)(e:x=vI f r):P4 (L.map bk) (L.map (vI f)) (bk r) x=(L++[r]).map (vI f):=by
 unfold P4;rw[jy (Mw h),L3,e];rfl
structure Ord (jc:List Str)(O:List (List Str)):Prop where
 nd:O.Nodup
 mem:∀st,st∈O↔st.Perm jc
 len:O.length<=120
def Ord.le {jc:List Str}{O L:List (List Str)}(o:Ord jc O)(nd:L.Nodup)(h:∀st∈L,st.Perm jc):L.length<=120:=E6 (nd.length_le_of_subset λst hs=>(o.mem st).mpr (h st hs)) o.len
def Dst.lt {s r:Nat}{jc:List Str}{f:List Str->Nat}{O:List (List Str)}(F:Dst s r jc f)(o:Ord jc O){st:List Str}(pm:st.Perm jc):f st<O.length:=by
 have key:∀k st,st.Perm jc->f st=k->∃l:List (List Str),l.length=k+1/\l.Nodup/\∀x∈l,x.Perm jc/\f x<=k:=by
  intro k
  induction k with
  |zero=>exact λst pm e=>⟨[st],rfl,0o0,λx hx=>by rw[E2.mp hx];exact⟨pm,0x0⟩⟩
  | succ k ih =>
   intro st pm e;obtain⟨p,q,h1,h2,h3⟩:=F.down st pm λz=>by rw[z,F.zero] at e;cases e
   obtain⟨l,l1,l2,l3⟩:=ih _ (Y6 pm h1 h2).1 0x0;refine⟨st::l,by rw[F2,l1],R8.mpr ⟨λz=>?_,l2⟩,λx hx=>?_⟩
   ·have:=(l3 _ z).2;ext
   ·rcases B9.mp hx with z|z
    ·rw[z];exact⟨pm,0x0⟩
    ·exact⟨(l3 x z).1,by have:=(l3 x z).2;ext⟩
 obtain⟨l,l1,l2,l3⟩:=key _ st pm rfl;have:=l2.length_le_of_subset λx hx=>(o.mem x).mpr (l3 x hx).1;ext
structure Lv (jc:List Str)(f:List Str->Nat)(k:Nat)(L W:List (List Str)):Prop where
 nd:L.Nodup
 pm:∀st∈L,st.Perm jc/\f st<=k
 kn:∀st,st.Perm jc->f st<=k->st∈L
 fr:∀st∈W,st.Perm jc/\f st=k
 fa:∀st,st.Perm jc->f st=k->st∈W
def Lv.all {s r:Nat}{jc:List Str}{f:List Str->Nat}{k:Nat}{L:List (List Str)}(F:Dst s r jc f)(v:Lv jc f k L []):∀st,st∈L↔st.Perm jc:=by
 have key:∀m st,st.Perm jc->f st=m->m<k:=by
  intro m
  induction m with
  | zero =>
   intro st pm e
   apply x8
   intro no;have:=v.fa st pm 0x0;cases this
  | succ m ih =>
   intro st pm e;obtain⟨p,q,h1,h2,h3⟩:=F.down st pm λz=>by rw[z,F.zero] at e;cases e
   have:=ih _ (Y6 pm h1 h2).1 0x0
   apply x8
   intro no;have:=v.fa st pm 0x0;cases this
 exact λst=>⟨λh=>(v.pm st h).1,λpm=>v.kn st pm (DA (key _ st pm rfl))⟩
abbrev mtP (s r:Nat):PV:=.tup [.int s,.int r]
abbrev plP (P:List (Nat×Nat)):List PV:=P.map λy=>pr y.1 y.2
abbrev fdP (f:List Str->Nat)(L:List (List Str)):PV:=.fdt (L.map bk) (L.map (vI f))
structure Qv (jc:List Str)(f:List Str->Nat)(P:List (Nat×Nat))(L W:List (List Str)):Prop where
 nd:L.Nodup
 pm:∀st∈L,st.Perm jc
 wl:∀st∈W,st∈L
 so:W.Pairwise λa b=>f a<=f b
 sp:∀a∈W,∀b∈W,f a<=f b+1
 dn:∀st∈L,st∉W->∀y∈P,exch st y.1 y.2∈L
 ot:jc∈L
structure Iq (jc:List Str)(f:List Str->Nat)(P:List (Nat×Nat))(L:List (List Str))(h:List Str)(j:Nat)(gr:List (List Str)):Prop where
 nd:(L++gr).Nodup
 pm:∀st∈gr,st.Perm jc/\f st=f h+1
 dj:∀y∈P.take j,exch h y.1 y.2∈L++gr
section
variable {s r:Nat}{jc:List Str}{f:List Str->Nat}{L W:List (List Str)}{P:List (Nat×Nat)}
def Qv.all (F:Dst s r jc f)(hP:∀p q,(p,q)∈P↔okP s r p q=true/\q<jc.length)(v:Qv jc f P L []):∀st,st∈L↔st.Perm jc:=by
 have key:∀m st,st.Perm jc->f st=m->st∈L:=by
  intro m
  induction m with
  |zero=>intro st pm e;rw[F.eq0 pm e];exact v.ot
  | succ m ih =>
   intro st pm e;obtain⟨p,q,h1,h2,h3⟩:=F.down st pm λz=>by rw[z,F.zero] at e;cases e
   obtain⟨a,b⟩:=Y6 pm h1 h2;have:=v.dn _ (ih _ a 0x0) nofun (p,q) ((hP p q).mpr ⟨h1,h2⟩);dsimp only at this;rw[b] at this;exact this
 exact λst=>⟨v.pm st,λpm=>key _ st pm rfl⟩
def Qv.min (F:Dst s r jc f)(hP:∀p q,(p,q)∈P↔okP s r p q=true/\q<jc.length){h:List Str}{T:List (List Str)}(v:Qv jc f P L (h::T)):∀m st,st.Perm jc->st∉L->f st=m->f h+1<=m:=by
 intro m
 induction m with
 |zero=>intro st pm ni e;exact absurd (by rw[F.eq0 pm e];exact v.ot) ni
 | succ m ih =>
  intro st pm ni e;obtain⟨p,q,h1,h2,h3⟩:=F.down st pm λz=>by rw[z,F.zero] at e;cases e
  obtain⟨a,b⟩:=Y6 pm h1 h2
  by_cases c:exch st p q∈L
  ·by_cases d:exch st p q∈h::T
   ·have:f h<=f (exch st p q):=(B9.mp d).elim (λz=>by rw[z];exact B3 _) λz=>(List.pairwise_cons.mp v.so).1 _ z;ext
   ·have:=v.dn _ c d (p,q) ((hP p q).mpr ⟨h1,h2⟩);dsimp only at this;rw[b] at this;exact absurd this ni
  ·have:=ih _ a c 0x0;ext
def Iq.put (F:Dst s r jc f)(hP:∀p q,(p,q)∈P↔okP s r p q=true/\q<jc.length){h:List Str}{T:List (List Str)}(v:Qv jc f P L (h::T)){j:Nat}{gr:List (List Str)}{y:Nat×Nat}(g:Iq jc f P L h j gr)(ey:P[j]?=some y)(ni:exch h y.1 y.2∉L++gr):f (exch h y.1 y.2)=f h+1/\Iq jc f P L h (j+1) (gr++[exch h y.1 y.2]):=by
 obtain⟨ok,hq⟩:=(hP y.1 y.2).mp (G4 ey);have ph:=v.pm h (v.wl h D2);have pm:=(Y6 ph ok hq).1
 have e:f (exch h y.1 y.2)=f h+1:=by
  have h1:=F.step h ph y.1 y.2 ok hq;have h2:=v.min F hP _ _ pm (λz=>ni (b5 _ z)) rfl;ext
 refine⟨e,?_,λst hs=>?_,λz hz=>?_⟩
 ·rw[<- i6];exact Aq.mpr ⟨g.nd,0o0,λa ha b hb z=>ni (by rw[<- E2.mp hb,<- z];exact ha)⟩
 ·rcases D6.mp hs with hs|hs
  ·exact g.pm st hs
  ·rw[E2.mp hs];exact⟨pm,e⟩
 ·rw[<- i6];rw[o6 ey] at hz;rcases D6.mp hz with hz|hz
  ·exact b5 _ (g.dj z hz)
  ·rw[E2.mp hz];simp
def Iq.skip {h:List Str}{j:Nat}{gr:List (List Str)}{y:Nat×Nat}(g:Iq jc f P L h j gr)(ey:P[j]?=some y)(ni:exch h y.1 y.2∈L++gr):Iq jc f P L h (j+1) gr:=
 ⟨g.nd,g.pm,λz hz=>by
  rw[o6 ey] at hz;rcases D6.mp hz with hz|hz
  ·exact g.dj z hz
  ·rw[E2.mp hz];exact ni⟩
def Iq.qv {h:List Str}{T:List (List Str)}(v:Qv jc f P L (h::T)){gr:List (List Str)}(g:Iq jc f P L h P.length gr):Qv jc f P (L++gr) (T++gr):=by
 obtain⟨s1,s2⟩:=List.pairwise_cons.mp v.so
 have bd:∀a∈T++gr,f h<=f a/\f a<=f h+1:=λa ha=>by
  rcases D6.mp ha with ha|ha
  ·exact⟨s1 a ha,v.sp a (C1 _ ha) h D2⟩
  ·have:=(g.pm a ha).2;ext
 refine⟨g.nd,λst hs=>(D6.mp hs).elim (v.pm st) λz=>(g.pm st z).1,λst hs=>?_,?_,λa ha b hb=>?_,λst hs no y hy=>?_,b5 _ v.ot⟩
 ·rcases D6.mp hs with hs|hs
  ·exact b5 _ (v.wl st (C1 _ hs))
  ·exact w9 _ hs
 ·refine List.pairwise_append.mpr ⟨s2,EB.mpr λi j hi hj _=>?_,λa ha b hb=>?_⟩
  ·rw[(g.pm _ (x0 hi)).2,(g.pm _ (x0 hj)).2];exact B3 _
  ·rw[(g.pm b hb).2];exact(bd a (b5 _ ha)).2
 ·have:=bd a ha;have:=bd b hb;ext
 ·have hs:st∈L:=(D6.mp hs).elim id λz=>absurd (w9 _ z) no
  by_cases c:st=h
  ·rw[c];exact g.dj y (by rw[x5];exact hy)
  ·exact b5 _ (v.dn st hs (λz=>(B9.mp z).elim c λz=>no (b5 _ z)) y hy)
end
def LPp (s r n p:Nat):List (Nat×Nat):=(((B8 (n-(p+1))).map λj=>p+1+j).filter λq=>okP s r p q).map λq=>(p,q)
def LPn (s r n:Nat):List (Nat×Nat):=(B8 n).flatMap (LPp s r n)
def lp_mem {s r n:Nat}(p q:Nat):(p,q)∈LPn s r n↔okP s r p q=true/\q<n:=by
 unfold LPn LPp;rw[EF];constructor
 ·rintro⟨a,ha,h⟩;obtain⟨b,hb,e⟩:=E4.mp h;cases e;obtain⟨hb,ok⟩:=R7.mp hb;obtain⟨j,hj,rfl⟩:=E4.mp hb;have:=M5.mp hj;exact⟨ok,0x0⟩
 ·intro⟨ok,hq⟩;have:=u9 ok;exact⟨p,M5.mpr 0x0,E4.mpr ⟨q,R7.mpr ⟨E4.mpr ⟨q-(p+1),M5.mpr 0x0,0x0⟩,ok⟩,rfl⟩⟩
def Su {s r p:Nat}(s1:1<=s)(s8:s<=8)(r7:r<=7)(hp:p<30){n:Nat}{R:List PV->Nat->Prop}:∀(js:List Nat) (s0:Option Pu.Slot),(∀j∈js,j<30)->R (((js.filter λq=>okP s r p q).map λq=>(p,q)).map λy=>pr y.1 y.2) n->
   Z4 (gN 0) (qB (A8 BR (A0 (qV 2) (A0 (qV 1) (A0 (qV 0) qNil))))) (qTup (A0 (qV 1) (A0 (qV 0) qNil))) (js.map pinN) [s0,some (.v (.int (p:Int))),some (.v (mtP s r))] n R:=by
 intro js
 induction js generalizing R with
 |nil=>intro s0 _ h;exact h
 | cons j js ih =>
  intro s0 hj h;rw[x4] at h;refine FW s1 s8 r7 hp (hj j D2) ?_
  by_cases c:okP s r p j=true
  ·rw[jw c] at h;exact if_t c ⟨by show 2<=_;decide,ih (R:=λys m=>R (pr p j::ys) m) (some (.v (pinN j))) (λa ha=>hj a (C1 _ ha)) h⟩
  ·rw[jy c] at h;exact if_f (eq_false_of_ne_true c) (ih _ (λa ha=>hj a (C1 _ ha)) h)
def Sv (L:List (List Str))(d:Nat):(L.map rowP).all (cmpb (d+1))=true:=by
 rw[Dv,B7];exact λx _=>Bp x d
abbrev bodyQ:pS:=(qSeq (qSet 7 (T7 3 (qC (.int 0))))
   (O1 5 (qFor (qIl (qV 5)) (gTp 2 (gCn (gN 6) (gCn (gN 8) gNl))) (qSeq (qSet 9 (A8 u8 (A0 (qV 7) (A0 (qV 6) (A0 (qV 8) qNil)))))
   (qIfS (qB (P7 2 (qV 9))) (qSeq (Q7 2 (qV 9) (qOp wAdd (L7 2 (qV 7)) (qC (.int 1))))
   (G6 (K9 3 (qV 9)))) qNx)))))
def Sw {s r n:Nat}{jc:List Str}{f:List Str->Nat}{O:List (List Str)}{P:List (Nat×Nat)}(F:Dst s r jc f)(o:Ord jc O)(hP:∀p q,(p,q)∈P↔okP s r p q=true/\q<jc.length){D:X3}{s0 a4:Option Pu.Slot}(hD:∀(L:List (List Str)) a3 a5 a6 a7 a8 a9,L.Nodup->(∀st,st∈L↔st.Perm jc)->D.nx [s0,some (.v (rowP jc)),some (.ow (.dt (L.map bk)) (L.map (vI f))),a3,a4,a5,a6,a7,a8,a9] n):∀(u c:Nat) (L W:List (List Str)) (a5 a6 a7 a8 a9:Option Pu.Slot),a5=some (.own (plP P))\/a5=some (.v (.lst (plP P)))->Qv jc f P L W->c+W.length=L.length->120<=c+u->
   X4 (qB (qOpR (wNe 4) (qO 3) (qL (qLst qNil)))) bodyQ D (u+1) [s0,some (.v (rowP jc)),some (.ow (.dt (L.map bk)) (L.map (vI f))),some (.own (W.map rowP)),a4,a5,a6,a7,a8,a9] n:=by
 intro u
 induction u with
 | zero =>
  intro c L W a5 a6 a7 a8 a9 h5 v hc hu;have:=o.le v.nd v.pm;have:W=[]:=By 0x0;subst this;exact⟨0b0,rfl,hD L _ _ _ _ _ _ v.nd (v.all F hP)⟩
 | succ u ih =>
  intro c L W a5 a6 a7 a8 a9 h5 v hc hu;cases W with
  |nil=>exact⟨0b0,rfl,hD L _ _ _ _ _ _ v.nd (v.all F hP)⟩
  | cons h T =>
   have nx:=λ(L' W':List (List Str)) (b6 b7 b8 b9:Option Pu.Slot) v' hc'=>ih (c+1) L' W' (some (.v (.lst (plP P)))) b6 b7 b8 b9 (.inr rfl) v' hc' 0x0;clear ih hD;have cw:cmpb 4 (.lst ((h::T).map rowP))=true:=Sv (h::T) 2;refine⟨0b0,rfl,gd2 cw rfl (if_t rfl ?_)⟩;have hL:=v.wl h D2;have ph:=v.pm h hL;have hl:=ph.length_eq
   have wl:((h::T).map rowP).length<=1000000:=by
    have:=o.le v.nd v.pm;rw[B0];ext
   symm;refine⟨⟨_,rfl⟩,wl,?_⟩;have e:ixN ((h::T).map rowP).length 0=some 0:=AD 0x0 (by rw[B0,F2];ext);show match ixN ((h::T).map rowP).length 0 with|some j=>_|none=>False
   rw[e];show U _ [s0,some (.v (rowP jc)),some (.ow (.dt (L.map bk)) (L.map (vI f))),some (.own (T.map rowP)),a4,a5,a6,some (.v (rowP h)),a8,a9] n;subst hU;clear wl e cw
   have fz:∀(p:pS) (D:X3),p D [s0,some (.v (rowP jc)),some (.ow (.dt (L.map bk)) (L.map (vI f))),some (.own (T.map rowP)),a4,some (.v (.lst (plP P))),a6,some (.v (rowP h)),a8,a9] n->O1 5 p D [s0,some (.v (rowP jc)),some (.ow (.dt (L.map bk)) (L.map (vI f))),some (.own (T.map rowP)),a4,a5,a6,some (.v (rowP h)),a8,a9] n:=λp D q=>by
    rcases h5 with rfl|rfl <;> exact q
   refine fz _ _ ?_;clear fz h5;generalize hW:rowP jc=W at *;show forL _ _ _ (plP P) _ _;refine N1 (λj env m=>∃(gr:List (List Str)) (a6 a8 a9:Option Pu.Slot),env=[s0,some (.v W),some (.ow (.dt ((L++gr).map bk)) ((L++gr).map (vI f))),some (.own ((T++gr).map rowP)),a4,some (.v (.lst (plP P))),a6,some (.v (rowP h)),a8,a9]/\Iq jc f P L h j gr/\m=n) _ 0 _ _ ⟨[],a6,a8,a9,by rw[c7,c7],⟨by rw[c7];exact v.nd,nofun,nofun⟩,rfl⟩ (λj x env m N ex hI hN=>?_) (λenv m hI=>?_)
   ·obtain⟨y,ey,rfl⟩:=Bq (f:=λy:Nat×Nat=>pr y.1 y.2) ex;obtain⟨gr,c6,c8,c9,rfl,ig,rfl⟩:=hI;rw[G0] at ig hN;obtain⟨ok,hq⟩:=(hP y.1 y.2).mp (G4 ey);have lt:=u9 ok;have mx:=λ(R:PV->Nat->Prop) q=>El (f:=h) (i:=y.1) (j:=y.2) (n:=m) (R:=R) 0x0 0x0 q;have kr:=Z5 h;have ka:=Z5 (exch h y.1 y.2);have gv:=o8 (f:=f) (show h∈L++gr from b5 _ hL);have md:=mem_dk (r:=exch h y.1 y.2) (L:=L++gr);have al:=o.le ig.nd λst hs=>(D6.mp hs).elim (λz=>v.pm st z) λz=>(ig.pm st z).1;rw[D3] at al;rw[F2] at hc;have l1:((L++gr).map bk).length=((L++gr).map (vI f)).length:=by rw[B0,B0]
    have l2:((L++gr).map (vI f)).length<1000000:=by rw[B0,D3];ext
    have l3:((T++gr).map rowP).length<1000000:=by rw[B0,D3];ext
    clear nx ex
    by_cases ci:exch h y.1 y.2∈L++gr
    ·have ig':=ig.skip ey ci;rw[ju ci] at md;generalize hK:(L++gr).map bk=KK at *;generalize hV:(L++gr).map (vI f)=VV at *;generalize hG:(T++gr).map rowP=GG at *;generalize plP P=PP at *;mleft;dsimp only[gCn,gN,gNl,O9];refine B2 λV hV=>?_;walk_at "p1";refine mx _ ?_;subst hV;walk_at "p1";rw[ka];dsimp only;rw[md];exact⟨l1,if_f rfl (hN _ _ ⟨gr,_,_,_,by rw[hK,hV,hG],ig',rfl⟩)⟩
    ·obtain⟨fa,ig'⟩:=ig.put F hP v ey ci;rw[jv ci] at md;have pk:=put_k ci;have px:=put_x (f:=f) (x:=.int ((f h:Nat)+1)) ci (by unfold vI;rw[fa];rfl);rw[i6] at pk px;have eg:(T++gr).map rowP++[rowP (exch h y.1 y.2)]=(T++(gr++[exch h y.1 y.2])).map rowP:=by simp only[L3,i6];rfl
     generalize hK:(L++gr).map bk=KK at *;generalize hV:(L++gr).map (vI f)=VV at *;generalize hG:(T++gr).map rowP=GG at *;generalize plP P=PP at *;mleft;dsimp only[gCn,gN,gNl,O9];refine B2 λV hV=>?_;walk_at "p1";refine mx _ ?_;subst hV;walk_at "p1";rw[ka];dsimp only;rw[md];refine⟨l1,if_t rfl ⟨⟨_,_,rfl⟩,?_⟩⟩;rw[kr];dsimp only;refine⟨l1,?_⟩;rw[gv];dsimp only[vI];refine⟨⟨_,_,rfl⟩,l1,l2,⟨_,rfl⟩,l3,?_⟩;rw[pk,px,eg];exact hN _ _ ⟨_,_,_,_,rfl,ig',rfl⟩
   ·obtain⟨gr,c6,c8,c9,rfl,ig,rfl⟩:=hI;rw[G0,B0] at ig;exact nx _ _ _ _ _ _ (ig.qv v) (by rw[D3,D3];rw[F2] at hc;omega)
def Mx {s r n:Nat}{jc:List Str}{f:List Str->Nat}{O:List (List Str)}{R:PV->Nat->Prop}(M:Mt s r jc.length)(n5:jc.length<=5)(F:Dst s r jc f)(o:Ord jc O)(h:∀L:List (List Str),L.Nodup->(∀st,st∈L↔st.Perm jc)->R (.fdt (L.map bk) (L.map (vI f))) n):Db [mtP s r,rowP jc] n R:=by
 mleft;unfold HV;have Ol:(jc.map PV.str).length=jc.length:=B0 ..;have ko:=Z5 jc;have z0:Qv jc f (LPn s r jc.length) [jc] [jc]:=⟨0o0,λst hs=>by rw[E2.mp hs],λst hs=>hs,0o0,λa ha b hb=>by have:=E2.mp ha;have:=E2.mp hb;subst a b;exact W5 _,λst hs no=>absurd hs no,0o0⟩;have mw:=λD s0 a4 a6 a7 a8 a9 hD=>Sw (n:=n) (D:=D) (s0:=s0) (a4:=a4) F o lp_mem hD 120 0 [jc] [jc] _ a6 a7 a8 a9 (.inl rfl) z0 rfl 0x0
 have e0:([PV.int 0]:List PV)=[jc].map (vI f):=by
  show _=[PV.int (f jc:Nat)];rw[F.zero];rfl
 symm;walk_at "p1";rw[ko,e0,Ol];dsimp only;generalize hV:[jc].map (vI f)=VV at *;subst hU;symm;walk_at "p1";subst hU;symm;walk_at "p1";refine⟨⟨0x0,0x0⟩,?_⟩;rw[Q1];refine N1 (λi env m=>∃a6,env=[some (.v (mtP s r)),some (.v (rowP jc)),some (.ow (.dt [bk jc]) VV),some (.own [rowP jc]),some (.v (.int (jc.length:Nat))),some (.own (plP ((B8 i).flatMap (LPp s r jc.length)))),a6,none,none,none]/\((B8 i).flatMap (LPp s r jc.length)).length<=30*i/\m=n) _ 0 _ _ ⟨none,rfl,B3 _,rfl⟩ (λi x env m N ex hI hN=>?_) (λenv m hI=>?_)
 ·obtain⟨hi,rfl⟩:=i8 ex;obtain⟨a6,rfl,hl,rfl⟩:=hI;rw[G0] at hl hN ⊢;rw[BC]
  have lp:(LPp s r jc.length i).length<=30:=by
   unfold LPp;rw[B0];refine E6 (Dm ..) ?_;rw[B0,AX];ext
  have ej:(B8 (jc.length-(i+1))).map (λj:Nat=>PV.int ((i:Int)+1+j))=((B8 (jc.length-(i+1))).map λj=>i+1+j).map pinN:=by
   rw[Ar]
   rfl
  have Fl:(plP ((B8 i).flatMap (LPp s r jc.length))).length=((B8 i).flatMap (LPp s r jc.length)).length:=B0 ..;have ea:plP ((B8 i).flatMap (LPp s r jc.length))++plP (LPp s r jc.length i)=plP ((B8 (i+1)).flatMap (LPp s r jc.length)):=by rw[DV,plP,plP,<- L3]
  generalize hF:plP ((B8 i).flatMap (LPp s r jc.length))=FF at *;walk_at "p1";refine⟨⟨_,rfl⟩,⟨0x0,0x0,0x0,0x0⟩,by rw[e7];omega,?_⟩;rw[show((jc.length:Int)-((i:Int)+1)).toNat=jc.length-(i+1) by omega,ej];refine Su M.s1 M.s8 M.r7 0x0 _ _ (λj hj=>?_) ?_
  ·obtain⟨a,ha,rfl⟩:=E4.mp hj;have:=M5.mp ha;ext
  ·show FF.length+(plP (LPp s r jc.length i)).length<=1000000/\N [_,_,_,_,_,some (.own (FF++plP (LPp s r jc.length i))),_,_,_,_] _;rw[ea];exact⟨by rw[B0];omega,hN _ _ ⟨_,rfl,by rw[DV,D3];omega,rfl⟩⟩
 ·obtain⟨a6,rfl,hl,rfl⟩:=hI;rw[e7,G0];dsimp only;subst hU;refine B2 λU hU=>⟨_,mw _ _ _ _ _ _ _ λL a3 a5 a6 a7 a8 a9 nd all=>?_⟩;have l1:(L.map bk).length=(L.map (vI f)).length:=by rw[B0,B0]
  have:=h L nd all;subst hU;generalize L.map bk=KK at *;generalize L.map (vI f)=VV at *;walk_at "p1";exact⟨l1,this⟩
def ordF (L:List Str):Nat->List (List Str)
 |0=>[[]]
 |k+1=>(ordF L k).flatMap λx=>(L.filter λb=>decide (b∉x)).map λb=>x++[b]
theorem Ep {L:List Str}(nd:L.Nodup):∀k,(ordF L k).Nodup/\(∀x,x∈ordF L k↔x.Nodup/\x.length=k/\∀b∈x,b∈L)
 | 0 => ⟨by unfold ordF; simp, fun x => by
  unfold ordF;rw[E2]
  exact⟨λe=>by rw[e];exact⟨Cg,rfl,nofun⟩,λh=>By h.2.1⟩⟩
 | k + 1 => by
  obtain⟨h1,h2⟩:=Ep nd k;refine⟨?_,λx=>?_⟩
  ·unfold ordF;refine List.pairwise_flatMap.mpr ⟨λx hx=>HF _ (nd.sublist List.filter_sublist) λa _ b _ e=>by simpa using e,?_⟩;refine List.Pairwise.imp ?_ h1;intro a b ne x ha y hb e;obtain⟨u,_,rfl⟩:=E4.mp ha;obtain⟨v,_,rfl⟩:=E4.mp hb;exact ne (List.append_inj_left' e rfl)
  ·unfold ordF;rw[EF];constructor
   ·rintro⟨y,hy,h⟩;obtain⟨b,hb,rfl⟩:=E4.mp h;obtain⟨y1,y2,y3⟩:=(h2 y).mp hy;obtain⟨b1,b2⟩:=R7.mp hb;refine⟨Aq.mpr ⟨y1,0o0,λa h c hc e=>jz b2 (by rw[<- E2.mp hc,<- e];exact h)⟩,by rw[D3,y2];rfl,λc hc=>(D6.mp hc).elim (y3 c) λz=>by rw[E2.mp z];exact b1⟩
   ·rintro⟨x1,x2,x3⟩;have ne:x≠[]:=λz=>by rw[z] at x2;cases x2
    have e:=List.dropLast_concat_getLast ne;rw[<- e] at x1;obtain⟨n1,_,n3⟩:=Aq.mp x1;refine⟨x.dropLast,(h2 _).mpr ⟨n1,by rw[List.length_dropLast];omega,λb hb=>x3 b (List.dropLast_subset x hb)⟩,E4.mpr ⟨x.getLast ne,R7.mpr ⟨x3 _ (List.getLast_mem ne),ju λz=>n3 _ z _ 0o0 rfl⟩,e⟩⟩
theorem My {L:List Str}(nd:L.Nodup)(h5:L.length<=5):∀k,k<=5->(ordF L k).length<=[1,5,20,60,120,120].getD k 0
 |0,_=>B3 _
 | k + 1, hk => by
  have ih:=My nd h5 k 0x0
  have one:∀x∈ordF L k,((L.filter λb=>decide (b∉x)).map λb=>x++[b]).length<=5-k:=λx hx=>by
   obtain⟨x1,x2,x3⟩:=((Ep nd k).2 x).mp hx;rw[B0]
   have:(x++L.filter λb=>decide (b∉x)).Nodup:=Aq.mpr ⟨x1,nd.sublist List.filter_sublist,λa ha b hb e=>by
    have:=jz (R7.mp hb).2;rw[<- e] at this
    exact this ha⟩
   have:=this.length_le_of_subset (l₂:=L) λb hb=>(D6.mp hb).elim (x3 b) λz=>(R7.mp z).1;rw[D3,x2] at this;omega
  have sum:∀M:List (List Str),(∀x∈M,x∈ordF L k)->(M.flatMap λx=>(L.filter λb=>decide (b∉x)).map λb=>x++[b]).length<=M.length*(5-k):=λM=>by
   induction M with
   |nil=>exact λ_=>C8 _
   | cons x M ih =>
    intro h;have a:=one x (h x D2);have b:=ih λy hy=>h y (C1 _ hy);rw[Dq,D3,F2,Nat.succ_mul];ext
  have s:=sum (ordF L k) λ_ h=>h;have m:=Nat.mul_le_mul_right (5-k) ih;unfold ordF;refine E6 (E6 s m) ?_;rcases(show k=0\/k=1\/k=2\/k=3\/k=4 by ext) with rfl|rfl|rfl|rfl|rfl <;> decide
def Jh {L:List Str}(nd:L.Nodup)(h5:L.length<=5)(k:Nat)(hk:k<=5):(ordF L k).length<=120:=by
 refine E6 (My nd h5 k hk) ?_;rcases(show k=0\/k=1\/k=2\/k=3\/k=4\/k=5 by ext) with rfl|rfl|rfl|rfl|rfl|rfl <;> decide
def Ji {L jc:List Str}(pm:L.Perm jc)(nd:jc.Nodup)(h5:jc.length<=5):Ord jc (ordF L L.length):=by
 have ndL:=pm.nodup_iff.mpr nd;have l:=pm.length_eq;obtain⟨h1,h2⟩:=Ep ndL L.length;refine⟨h1,λst=>?_,Jh ndL 0x0 _ 0x0⟩;rw[h2];constructor
 ·rintro⟨s1,s2,s3⟩;refine List.Perm.trans ((List.perm_ext_iff_of_nodup s1 ndL).mpr λa=>⟨s3 a,λha=>?_⟩) pm
  apply x8
  intro no;have:=(R8.mpr ⟨no,s1⟩).length_le_of_subset (l₂:=L) λz hz=>(B9.mp hz).elim (λe=>by rw[e];exact ha) (s3 z);rw[F2] at this;omega
 ·intro p;exact⟨p.nodup_iff.mpr nd,by rw[p.length_eq,l],λb hb=>pm.mem_iff.mpr (p.mem_iff.mp hb)⟩
def Sx {x:List Str}{s2:Option Pu.Slot}{n:Nat}{R:List PV->Pu.Env->Nat->Prop}(hx:x.length<=1000):∀(bs:List Str) (s1:Option Pu.Slot),(∀s1,R (((bs.filter λb=>decide (b∉x)).map λb=>x++[b]).map rowP) [some (.v (rowP x)),s1,s2] n)->
   e9 (gN 1) (qB (qOp (wIn 4 true) (qV 1) (qV 0))) (qOp wAdd (qV 0) (qTup (A0 (qV 1) qNil))) (bs.map PV.str) [some (.v (rowP x)),s1,s2] n R:=by
 intro bs
 induction bs generalizing R with
 |nil=>exact λs1 h=>h s1
 | cons b bs ih =>
  intro s1 h;rw[x4] at h;have ih':=λR s1 q=>ih (R:=R) s1 q;clear ih;rw[G7,e9];generalize bs.map PV.str=BS at *;walk_at "p1";refine LF rfl ?_;dsimp only
  by_cases c:b∈x
  ·rw[jy (by simpa using c)] at h;exact if_f (by rw[ju c];rfl) (ih' _ _ h)
  ·rw[jw (ju c)] at h;refine if_t (by rw[jv c];rfl) ⟨by rw[B0];omega,?_⟩;have e:x.map PV.str++[PV.str b]=(x++[b]).map PV.str:=by rw[L3];rfl
   rw[e];exact ih' (λys env m=>R (rowP (x++[b])::ys) env m) _ h
def Sy {L:List Str}(hL:L.length<=1000){n:Nat}{R:List PV->Nat->Prop}:∀(M:List (List Str)) (s0 s1:Option Pu.Slot),(∀x∈M,x.length<=1000)->R ((M.flatMap λx=>(L.filter λb=>decide (b∉x)).map λb=>x++[b]).map rowP) n->
   BQ (gN 0) (qIl (qV 2)) (gN 1) (qB (qOp (wIn 4 true) (qV 1) (qV 0))) (qOp wAdd (qV 0) (qTup (A0 (qV 1) qNil))) (M.map rowP) [s0,s1,some (.v (.lst (L.map PV.str)))] n R:=by
 intro M
 induction M generalizing R with
 |nil=>exact λs0 s1 _ h=>h
 | cons x M ih =>
  intro s0 s1 hM h;rw[Dq,L3] at h;refine⟨by rw[B0];exact hL,Sx (hM x D2) L _ λs1=>?_⟩;exact ih (R:=λys m=>R (_++ys) m) _ _ (λy hy=>hM y (C1 _ hy)) h
def Mz {L:List Str}{n:Nat}{R:PV->Nat->Prop}(nd:L.Nodup)(h5:L.length<=5)(h:R (.lst ((ordF L L.length).map rowP)) n):Il [.lst (L.map PV.str)] n R:=by
 mleft;unfold Ik;have Ll:(L.map PV.str).length=L.length:=B0 ..;have cl:=λ(M:List (List Str)) (R:List PV->Nat->Prop) s0 s1 hM q=>Sy (L:=L) (n:=n) (R:=R) 0x0 M s0 s1 hM q;generalize hZ:L.map PV.str=Z at *;symm;walk_at "p1";subst hU;symm;walk_at "p1";refine⟨⟨0x0,0x0⟩,?_⟩;rw[Q1,Ll];refine N1 (λi env m=>∃a2,env=[some (.v (.lst Z)),some (.v (.lst ((ordF L i).map rowP))),a2]/\m=n) _ 0 _ _ ⟨none,rfl,rfl⟩ (λi x env m N ex hI hN=>?_) (λenv m hI=>?_)
 ·obtain⟨hi,rfl⟩:=i8 ex;obtain⟨a2,rfl,rfl⟩:=hI;rw[G0] at hN ⊢;have ml:=Jh nd h5 i 0x0;have Ml:((ordF L i).map rowP).length=(ordF L i).length:=B0 ..;have cc:=λR s0 s1 q=>cl (ordF L i) R s0 s1 (λx hx=>by rw[(((Ep nd i).2 x).mp hx).2.1];omega) q;generalize hX:(ordF L i).map rowP=X at *;walk_at "p1";exact⟨0x0,cc _ _ _ (hN _ _ ⟨_,rfl,rfl⟩)⟩
 ·obtain⟨a2,rfl,rfl⟩:=hI;rw[e7,G0];dsimp only;subst hU;generalize (ordF L L.length).map rowP=X at *;walk_at "p1";exact h
def Sz {x:List Str}{n:Nat}{R:List PV->Nat->Prop}(hx:x.length<=1000):∀(bs:List Str) (s1:Option Pu.Slot),R (((bs.filter λb=>decide (b∉x)).map λb=>x++[b]).map rowP) n->
   Z4 (gN 0) (qB (qOp (wIn 4 true) (qV 0) (qV 1))) (qOp wAdd (qV 1) (qTup (A0 (qV 0) qNil))) (bs.map PV.str) [s1,some (.v (rowP x))] n R:=by
 intro bs
 induction bs generalizing R with
 |nil=>exact λs1 h=>h
 | cons b bs ih =>
  intro s1 h;rw[x4] at h;have ih':=λR s1 q=>ih (R:=R) s1 q;clear ih;rw[G7,Z4];generalize bs.map PV.str=BS at *;walk_at "p1";refine LF rfl ?_;dsimp only
  by_cases c:b∈x
  ·rw[jy (by simpa using c)] at h;exact if_f (by rw[ju c];rfl) (ih' _ _ h)
  ·rw[jw (ju c)] at h;refine if_t (by rw[jv c];rfl) ⟨by rw[B0];omega,?_⟩;have e:x.map PV.str++[PV.str b]=(x++[b]).map PV.str:=by rw[L3];rfl
   rw[e];exact ih' (λys m=>R (rowP (x++[b])::ys) m) _ h
def Jj {L:List Str}{n:Nat}{R:PV->Nat->Prop}(nd:L.Nodup)(h5:L.length<=5)(h:R (.lst ((ordF L L.length).map rowP)) n):Dc [.lst (L.map PV.str)] n R:=by
 mleft;unfold HW;have Ll:(L.map PV.str).length=L.length:=B0 ..;have cl:=λ(x:List Str) (R:List PV->Nat->Prop) s1 hx q=>Sz (x:=x) (n:=n) (R:=R) hx L s1 q;generalize hZ:L.map PV.str=Z at *;symm;walk_at "p1";subst hU;symm;walk_at "p1";refine⟨⟨0x0,0x0⟩,?_⟩;rw[Q1,Ll];refine N1 (λi env m=>∃a2 a3 a4,env=[some (.v (.lst Z)),some (.v (.lst ((ordF L i).map rowP))),a2,a3,a4]/\m=n) _ 0 _ _ ⟨none,none,none,rfl,rfl⟩ (λi x env m N ex hI hN=>?_) (λenv m hI=>?_)
 ·obtain⟨hi,rfl⟩:=i8 ex;obtain⟨a2,a3,a4,rfl,rfl⟩:=hI;rw[G0] at hN ⊢;have ml:=Jh nd h5 i 0x0;have xl:∀x∈ordF L i,x.length<=1000:=λx hx=>by rw[(((Ep nd i).2 x).mp hx).2.1];omega
  have hn:((ordF L i).flatMap λx=>(L.filter λb=>decide (b∉x)).map λb=>x++[b])=ordF L (i+1):=rfl;refine B2 λV hV=>?_;generalize hX:(ordF L i).map rowP=X at *;walk_at "p1";subst hV;refine B2 λV hV=>?_;walk_at "p1";rw[<- hX];refine N1 (λj env m'=>∃a4,env=[some (.v (.lst Z)),some (.v (.lst X)),some (.v (.int (0+i))),some (.own ((((ordF L i).take j).flatMap λx=>(L.filter λb=>decide (b∉x)).map λb=>x++[b]).map rowP)),a4]/\m'=m) _ 0 _ _ ⟨a4,by rw[hX];rfl,rfl⟩ (λj x env m' N' ex' hI hN'=>?_) (λenv m' hI=>?_)
  ·obtain⟨y,ey,rfl⟩:=Bq (f:=rowP) ex';obtain⟨a4,rfl,rfl⟩:=hI;rw[G0] at hN' ⊢;have yl:=xl y (G4 ey)
   have bl:∀k,(((ordF L i).take k).flatMap λx=>(L.filter λb=>decide (b∉x)).map λb=>x++[b]).length<=5*k:=λk=>by
    induction k with
    |zero=>exact B3 _
    | succ k ih =>
     by_cases c:k<(ordF L i).length
     ·rw[o6 (D1 c),Gi,D3,Dq,List.flatMap_nil,c7,B0];have:=Dm (λb=>decide (b∉(ordF L i)[k])) L;ext
     ·rw[k9 0x0];rw[k9 0x0] at ih;omega
   have b1:=bl j;have jl:j<(ordF L i).length:=(E5.mp ey).1;have b2:=Dm (λb=>decide (b∉y)) L
   have en:(((ordF L i).take j).flatMap λx=>(L.filter λb=>decide (b∉x)).map λb=>x++[b]).map rowP++((L.filter λb=>decide (b∉y)).map λb=>y++[b]).map rowP=(((ordF L i).take (j+1)).flatMap λx=>(L.filter λb=>decide (b∉x)).map λb=>x++[b]).map rowP:=by
    rw[o6 ey,Gi,L3,Dq,List.flatMap_nil,c7]
   have l1:((((ordF L i).take j).flatMap λx=>(L.filter λb=>decide (b∉x)).map λb=>x++[b]).map rowP).length<=600:=by rw[B0];ext
   generalize (((ordF L i).take j).flatMap λx=>(L.filter λb=>decide (b∉x)).map λb=>x++[b]).map rowP=Y at *;clear hX bl hn;generalize hR:rowP y=RR at *;walk_at "p1";rw[<- hR];refine⟨⟨_,rfl⟩,0x0,cl y _ _ yl ⟨by rw[B0,B0];omega,?_⟩⟩;rw[en];exact hN' _ _ ⟨_,by rw[hR],rfl⟩
  ·obtain⟨a4,rfl,rfl⟩:=hI;rw[G0,B0,x5,hn];subst hV;have:=hN [some (.v (.lst Z)),some (.v (.lst ((ordF L (i+1)).map rowP))),some (.v (.int (0+i))),some (.v (.lst ((ordF L (i+1)).map rowP))),a4] m' ⟨_,_,_,rfl,rfl⟩;generalize (ordF L (i+1)).map rowP=Y at *;walk_at "p1";exact this
 ·obtain⟨a2,a3,a4,rfl,rfl⟩:=hI;rw[e7,G0];dsimp only;subst hU;generalize (ordF L L.length).map rowP=X at *;walk_at "p1";exact h
def BT {α:Type}(xs:List α)(f:α->Bool):AE (xs.map λx=>PV.bl (f x))=some (xs.map f):=by
 rw[<- Hc (xs.map f),Ar];rfl
def BU {α:Type}(xs:List α)(f:α->Bool):(xs.map f).all id=xs.all f:=by rw[Dv];rfl
theorem Jk:∀M:List (List Str),Da (M.map rowP)=some (M.map bk)
 |[]=>rfl
 | x :: M => by
  show(match F8 (x.map PV.str),Da (M.map rowP) with|some k,some ks=>some (k::ks)|_,_=>none)=_;rw[Z5,Jk M];rfl
theorem MA {g:List Str->Nat}:∀(M pre:List (List Str)),(pre++M).Nodup->((M.map bk).zip (M.map (vI g))).foldl putD (pre.map bk,pre.map (vI g))=((pre++M).map bk,(pre++M).map (vI g))
 |[],pre,_=>by rw[c7];rfl
 | x :: M, pre, nd => by
  have ni:x∉pre:=λz=>(Aq.mp nd).2.2 x z x D2 rfl;have ih:=MA (g:=g) M (pre++[x]) (by rw[i6];exact nd);rw[i6] at ih;rw[G7,G7,Ap,Du];show List.foldl putD (U2 (pre.map bk) (bk x),P4 (pre.map bk) (pre.map (vI g)) (bk x) (vI g x)) _=_;rw[put_k ni,put_x ni rfl];exact ih
def MB {g:List Str->Nat}{M:List (List Str)}(nd:M.Nodup):dtF ((M.map bk).zip (M.map (vI g)))=(M.map bk,M.map (vI g)):=MA M [] nd
def Near (s r:Nat)(jc:List Str)(g:List Str->Nat)(x:List Str):Prop:=∀p q,okP s r p q=true->q<jc.length->g x<=g (exch x p q)+1/\g (exch x p q)<=g x+1
def BV (g:List Str->Nat)(x:List Str)(y:Nat×Nat):Bool:=decide (g x<=g (exch x y.1 y.2)+1/\g (exch x y.1 y.2)<=g x+1)
def MC {a b:Nat}:decide ((if(a:Int)-b<0 then -((a:Int)-b) else(a:Int)-b)<=1)=decide (a<=b+1/\b<=a+1):=decide_eq_decide.mpr (by split <;> ext)
def SA {s r n:Nat}{jc x:List Str}{g:List Str->Nat}{O:List (List Str)}{s4:Option Pu.Slot}(hO:∀st,st∈O↔st.Perm jc)(pm:x.Perm jc){R:List PV->Pu.Env->Nat->Prop}:∀(Q:List (Nat×Nat)) (s1 s2:Option Pu.Slot),(∀y∈Q,okP s r y.1 y.2=true/\y.2<jc.length)->(∀s1 s2,R ((Q.map (BV g x)).map PV.bl) [some (.v (rowP x)),s1,s2,some (.v (fdP g O)),s4] n)->
   e9 (gTp 2 (gCn (gN 1) (gCn (gN 2) gNl))) qTru (qOp wLe (qUn wAbs (qOp wSub (qIxT (qV 3) (qV 0)) (qIxT (qV 3) (A8 De (A0 (qV 0) (A0 (qV 1) (A0 (qV 2) qNil))))))) (qC (.int 1))) (plP Q) [some (.v (rowP x)),s1,s2,some (.v (fdP g O)),s4] n R:=by
 intro Q
 induction Q generalizing R with
 |nil=>exact λs1 s2 _ h=>h s1 s2
 | cons y Q ih =>
  intro s1 s2 hq h;have ih':=λR s1 s2 q=>ih (R:=R) s1 s2 (λz hz=>hq z (C1 _ hz)) q;clear ih;obtain⟨ok,ql⟩:=hq y D2;have lt:=u9 ok;have sl:=pm.length_eq;have mx:=λ(R:PV->Nat->Prop) q=>Mi (f:=x) (i:=y.1) (j:=y.2) (n:=n) (R:=R) 0x0 0x0 q;have ka:=Z5 (exch x y.1 y.2);have ks:=Z5 x;have g1:=o8 (f:=g) ((hO _).mpr (Y6 pm ok ql).1);have g2:=o8 (f:=g) ((hO x).mpr pm);rw[plP,G7,e9]
  change ∀R s1 s2 q,e9 _ _ _ (Q.map λy=>pr y.1 y.2) _ _ _ at ih'
  generalize hX:(Q.map λy=>pr y.1 y.2)=X at *;mleft;walk_at "p1";rw[ks];dsimp only;rw[g2];refine mx _ ?_;dsimp only;rw[ka];dsimp only;rw[g1];dsimp only[vI];rw[MC];exact ih' (λys e m=>R (PV.bl (BV g x y)::ys) e m) _ _ h
def SD {s r n:Nat}{jc:List Str}{g:List Str->Nat}{O:List (List Str)}{P:List (Nat×Nat)}(hP:∀y∈P,okP s r y.1 y.2=true/\y.2<jc.length)(pl:P.length<=28)(hO:∀st,st∈O↔st.Perm jc){R:List PV->Nat->Prop}:∀(M:List (List Str)) (s0 s1 s2:Option Pu.Slot),(∀x∈M,x∈O)->R ((M.flatMap λx=>P.map (BV g x)).map PV.bl) n->
   BQ (gN 0) (qIt (qV 4)) (gTp 2 (gCn (gN 1) (gCn (gN 2) gNl))) qTru (qOp wLe (qUn wAbs (qOp wSub (qIxT (qV 3) (qV 0)) (qIxT (qV 3) (A8 De (A0 (qV 0) (A0 (qV 1) (A0 (qV 2) qNil))))))) (qC (.int 1))) (M.map rowP) [s0,s1,s2,some (.v (fdP g O)),some (.v (.tup (plP P)))] n R:=by
 intro M
 induction M generalizing R with
 |nil=>exact λs0 s1 s2 _ h=>h
 | cons x M ih =>
  intro s0 s1 s2 hM h;rw[Dq,L3] at h;refine⟨by rw[B0];omega,SA hO ((hO x).mp (hM x D2)) P _ _ hP λs1 s2=>?_⟩;exact ih (R:=λys m=>R (_++ys) m) _ _ _ (λy hy=>hM y (C1 _ hy)) h
def Good (s r:Nat)(row jc:List Str)(O:List (List Str))(k:Nat)(g:List Str->Nat):Prop:=g row=k/\g jc=0/\∀x∈O,Near s r jc g x
def SE {k l n:Nat}{R:PV->Nat->Prop}(h:R (.bl (decide (k<=l))) n):Ef [.int (k:Int),.int 0,.int (l:Int)] n R:=by
 mleft;unfold FK;walk_at "p1";refine if_t (ju 0x0) ?_;rw[show decide ((k:Int)<=(l:Int))=decide (k<=l) from decide_eq_decide.mpr 0x0];exact h
def gd1' {c:Bool}{P:Prop}(h:c=true)(p:P):grd c P:=by subst h;exact p
def Dg {k m:Nat}:decide ((k:Int)=(m:Int))=decide (k=m):=decide_eq_decide.mpr 0x0
def ne_ii {a b:Nat}:(!eqP (.int (a:Int)) (.int (b:Int)))=!decide (a=b):=by rw[CP,show decide ((a:Int)=(b:Int))=decide (a=b) from decide_eq_decide.mpr 0x0]
def SF {s r k n:Nat}{row jc L:List Str}{g:List Str->Nat}{R:PV->Nat->Prop}(M:Mt s r jc.length)(n5:jc.length<=5)(nd:jc.Nodup)(pm:row.Perm jc)(hS:outS row=L)(pl:L.Perm row)(hT:(∀x∈ordF L L.length,g x<=(ordF L L.length).length)->Good s r row jc (ordF L L.length) k g->R (.bl true) n)(hF:¬((∀x∈ordF L L.length,g x<=(ordF L L.length).length)/\Good s r row jc (ordF L L.length) k g)->R (.bl false) n):FM [mtP s r,rowP row,rowP jc,.int (k:Int),.tup ((ordF L L.length).map (vI g))] n R:=by
 mleft;unfold FL;have rl:=pm.length_eq;have ll:=pl.length_eq;have o:=Ji (pl.trans pm) nd n5;have ar:=λ(R:PV->Nat->Prop) q=>Mz (n:=n) (R:=R) ((pl.trans pm).nodup_iff.mpr nd) 0x0 q;have Rl:(row.map PV.str).length=row.length:=B0 ..;have kr:=Z5 row;have ko:=Z5 jc;have mt:∀{R:PV->Nat->Prop},R (.tup (TP s r jc.length)) n->Dd [.tup [.int s,.int r],.int (jc.length:Nat)] n R:=λq=>Mf M.s1 M.s8 M.r7 M.n1 0x0 q;rw[TP_n] at mt;have hr0:rowP row=.tup (row.map PV.str):=rfl;have hr1:rowP jc=.tup (jc.map PV.str):=rfl;generalize hO:ordF L L.length=O at *;have gr:=o8 (f:=g) ((o.mem row).mpr pm);have go:=o8 (f:=g) ((o.mem jc).mpr (.refl _));have dr:=MB (g:=g) o.nd;have kt:=Jk O;have ol:=o.len;have l1:(O.map rowP).length=O.length:=B0 ..;have l2:(O.map (vI g)).length=O.length:=B0 ..;have l3:(O.map bk).length=O.length:=B0 ..;have tp:=(FS M).2;have tl:=(FS M).1;have ct:=λR s0 s1 s2 q=>SD (n:=n) (g:=g) (R:=R) (P:=TPn s r jc.length) (λy hy=>(tp y.1 y.2).mp hy) tl o.mem O s0 s1 s2 (λ_ h=>h) q;symm;rw[hr0,hr1];walk_at "p1";refine⟨row,rfl,0x0,?_⟩;rw[hS];refine ar _ ?_;subst hU;symm;generalize hX:O.map rowP=X at *;generalize hV:O.map (vI g)=VV at *
 walk_at "p1";refine if_f (by rw[l1,l2];simp) ?_;subst hU;symm;walk_at "p1";refine⟨0x0,?_⟩;rw[<- hV];refine BP (vI g) (λx=>PV.bl (decide (g x<=O.length))) O _ _ _ (λx hx m Q hQ=>?_) ?_
 ·generalize hZ:vI g x=Z;walk_at "p1";rw[<- hZ,l1];exact SE hQ
 ·rw[BT,hV];dsimp only;rw[BU]
  by_cases ca:∀x∈O,g x<=O.length
  ·refine if_f (by rw[B7.mpr λx hx=>ju (ca x hx)];rfl) ?_;subst hU;symm;walk_at "p1";rw[show AI true (PV.lst X)=some X from rfl,show AI false (PV.tup VV)=some VV from rfl];dsimp only;rw[kt];dsimp only;refine⟨0x0,0x0,?_⟩;rw[dr];dsimp only;subst hU;symm;generalize hK:O.map bk=KK at *;walk_at "p1";refine⟨⟨_,_,rfl⟩,?_⟩;rw[kr];dsimp only;refine⟨0x0,?_⟩;rw[gr];dsimp only[vI];refine gd1' rfl ?_;rw[ne_ii]
   by_cases c1:g row=k
   ·refine if_f (by rw[ju c1];rfl) ⟨⟨_,_,rfl⟩,?_⟩;rw[ko];dsimp only;refine⟨0x0,?_⟩;rw[go];dsimp only[vI];refine gd1' rfl ?_;rw[show(0:Int)=((0:Nat):Int) from rfl,ne_ii]
    by_cases c2:g jc=0
    ·refine if_f (by rw[ju c2];rfl) ?_;subst hU;symm;walk_at "p1";rw[Rl,rl];refine mt ?_;subst hU;rw[<- hK,<- hV]
     have all:((O.flatMap λx=>(TPn s r jc.length).map (BV g x)).all id)=O.all λx=>(TPn s r jc.length).all (BV g x):=by
      rw[List.all_flatMap];refine congrArg (List.all O) (funext λx=>?_);rw[Dv];rfl
     walk_at "p1";refine⟨by rw[B0,B0],0x0,ct _ _ _ _ ?_⟩;rw[Hc];dsimp only;rw[all]
     by_cases c3:∀x∈O,Near s r jc g x
     ·have e:(O.all λx=>(TPn s r jc.length).all (BV g x))=true:=B7.mpr λx hx=>B7.mpr λy hy=>ju (c3 x hx y.1 y.2 ((tp y.1 y.2).mp hy).1 ((tp y.1 y.2).mp hy).2);rw[e];exact hT ca ⟨c1,c2,c3⟩
     ·have e:(O.all λx=>(TPn s r jc.length).all (BV g x))=false:=Ck.mpr λz=>c3 λx hx p q h1 h2=>jz (B7.mp (B7.mp z x hx) (p,q) ((tp p q).mpr ⟨h1,h2⟩));rw[e];exact hF λz=>c3 z.2.2.2
    ·exact if_t (by rw[jv c2];rfl) (hF λz=>c2 z.2.2.1)
   ·exact if_t (by rw[jv c1];rfl) (hF λz=>c1 z.2.1)
  ·refine if_t ?_ (hF λz=>ca z.1);rw[EI,Ck];intro z;exact ca λx hx=>jz (B7.mp z x hx)
def abs_gt {a b:Nat}:decide ((if(a:Int)-b<0 then -((a:Int)-b) else(a:Int)-b)>1)=!decide (a<=b+1/\b<=a+1):=by
 rw[<- MC];generalize (if(a:Int)-b<0 then -((a:Int)-b) else(a:Int)-b)=x
 by_cases c:x<=1
 ·rw[ju c,jv 0x0];rfl
 ·rw[jv c,ju 0x0];rfl
def SG {s r k n:Nat}{row jc L:List Str}{g:List Str->Nat}{R:PV->Nat->Prop}(M:Mt s r jc.length)(n5:jc.length<=5)(nd:jc.Nodup)(pm:row.Perm jc)(hS:outS row=L)(pl:L.Perm row)(hT:Good s r row jc (ordF L L.length) k g->R (.bl true) n)(hF:¬Good s r row jc (ordF L L.length) k g->R (.bl false) n):FP [mtP s r,rowP row,rowP jc,.int (k:Int),.tup ((ordF L L.length).map (vI g))] n R:=by
 mleft;unfold FO;have rl:=pm.length_eq;have ll:=pl.length_eq;have o:=Ji (pl.trans pm) nd n5;have ar:=λ(R:PV->Nat->Prop) q=>Jj (n:=n) (R:=R) ((pl.trans pm).nodup_iff.mpr nd) 0x0 q;have Rl:(row.map PV.str).length=row.length:=B0 ..;have kr:=Z5 row;have ko:=Z5 jc;have hr0:rowP row=.tup (row.map PV.str):=rfl;have hr1:rowP jc=.tup (jc.map PV.str):=rfl;generalize hO:ordF L L.length=O at *;have gr:=o8 (f:=g) ((o.mem row).mpr pm);have go:=o8 (f:=g) ((o.mem jc).mpr (.refl _));have dr:=MB (g:=g) o.nd;have kt:=Jk O;have ol:=o.len;have l1:(O.map rowP).length=O.length:=B0 ..;have l2:(O.map (vI g)).length=O.length:=B0 ..;have l3:(O.map bk).length=O.length:=B0 ..;have gt:∀x∈O,getT (O.map bk) (O.map (vI g)) (bk x)=some (vI g x):=λx hx=>o8 hx;have er:∀i x,(O.map rowP)[i]?=some x->∃y,O[i]?=some y/\x=rowP y:=λi x h=>Bq (f:=rowP) h;symm;rw[hr0,hr1];walk_at "p1";refine⟨row,rfl,0x0,?_⟩;rw[hS];refine ar _ ?_;subst hU;symm;generalize hX:O.map rowP=X at *;generalize hV:O.map (vI g)=VV at *;walk_at "p1";refine if_f (by rw[l1,l2];simp) ?_;subst hU;symm;walk_at "p1";refine⟨0x0,?_⟩;rw[<- hV];refine BP (vI g) (λ_=>PV.bl true) O _ _ _ (λx hx m Q hQ=>?_) ?_
 ·unfold vI at hQ ⊢;walk_at "p1";rw[ju 0x0];exact hQ
 ·rw[BT O λ_=>true,hV];dsimp only;rw[BU,B7.mpr λ_ _=>rfl];refine if_f rfl ?_;subst hU;symm;walk_at "p1";rw[show AI true (PV.lst X)=some X from rfl,show AI false (PV.tup VV)=some VV from rfl];dsimp only;rw[kt];dsimp only;refine⟨0x0,0x0,?_⟩;rw[dr];dsimp only;generalize hK:O.map bk=KK at *;subst hU;symm;walk_at "p1";rw[Rl,rl];refine N1 (λi env m=>∃a8 a9 a10,env=[some (.v (mtP s r)),some (.v (.tup (row.map PV.str))),some (.v (.tup (jc.map PV.str))),some (.v (.int (k:Int))),some (.v (.tup VV)),some (.v (.lst X)),some (.v (.int (jc.length:Nat))),some (.ow (.dt KK) VV),a8,a9,a10]/\(∀x∈O.take i,Near s r jc g x)/\m=n) _ 0 _ _ ⟨none,none,none,rfl,nofun,rfl⟩ (λi x env m N ex hI hN=>?_) (λenv m hI=>?_)
  ·obtain⟨x,ei,rfl⟩:=er i x ex;obtain⟨a8,a9,a10,rfl,hn,rfl⟩:=hI;rw[G0] at hn hN;have xm:=G4 ei;have xp:=(o.mem x).mp xm;have xl:=xp.length_eq;have kx:=Z5 x;have gx:=gt x xm;walk_at "p1";refine⟨⟨0x0,0x0⟩,?_⟩;rw[Q1];refine N1 (λi env m'=>∃a9 a10,env=[some (.v (mtP s r)),some (.v (.tup (row.map PV.str))),some (.v (.tup (jc.map PV.str))),some (.v (.int (k:Int))),some (.v (.tup VV)),some (.v (.lst X)),some (.v (.int (jc.length:Nat))),some (.ow (.dt KK) VV),some (.v (rowP x)),a9,a10]/\(∀p,p<i->∀q,okP s r p q=true->q<jc.length->g x<=g (exch x p q)+1/\g (exch x p q)<=g x+1)/\m'=m) _ 0 _ _ ⟨a9,a10,rfl,nofun,rfl⟩ (λp y env m' N' ex' hI hN'=>?_) (λenv m' hI=>?_)
   ·obtain⟨hp,rfl⟩:=i8 ex';obtain⟨a9,a10,rfl,hp2,rfl⟩:=hI;rw[G0] at hp2 hN';rw[BC];walk_at "p1";refine⟨⟨0x0,0x0,0x0,0x0⟩,?_⟩;rw[show((jc.length:Int)-((p:Int)+1)).toNat=jc.length-(p+1) by omega];refine N1 (λi env m''=>∃a10,env=[some (.v (mtP s r)),some (.v (.tup (row.map PV.str))),some (.v (.tup (jc.map PV.str))),some (.v (.int (k:Int))),some (.v (.tup VV)),some (.v (.lst X)),some (.v (.int (jc.length:Nat))),some (.ow (.dt KK) VV),some (.v (rowP x)),some (.v (.int (p:Int))),a10]/\(∀q,q<p+1+i->okP s r p q=true->q<jc.length->g x<=g (exch x p q)+1/\g (exch x p q)<=g x+1)/\m''=m') _ 0 _ _ ⟨a10,rfl,λq hq ok=>by have:=u9 ok;omega,rfl⟩ (λj y env m'' N'' ex'' hI hN''=>?_) (λenv m'' hI=>?_)
    ·obtain⟨hj,rfl⟩:=i8 ex'';obtain⟨a10,rfl,hq,rfl⟩:=hI;rw[G0] at hq hN'';rw[show(p:Int)+1+(j:Int)=((p+1+j:Nat):Int) by omega]
     have nx:(okP s r p (p+1+j)=true->g x<=g (exch x p (p+1+j))+1/\g (exch x p (p+1+j))<=g x+1)->∀q,q<p+1+(j+1)->okP s r p q=true->q<jc.length->g x<=g (exch x p q)+1/\g (exch x p q)<=g x+1:=λh q h1 h2 h3=>by
      by_cases c:q=p+1+j
      ·subst c;exact h h2
      ·exact hq q 0x0 h2 h3
     have ql:p+1+j<jc.length:=0x0
     generalize p+1+j=q at *;have mp:=λ(R:PV->Nat->Prop) h=>FW (s:=s) (r:=r) (p:=p) (q:=q) (n:=m'') (R:=R) M.s1 M.s8 M.r7 0x0 0x0 h;have mx:=λ(R:PV->Nat->Prop) h=>El (f:=x) (i:=p) (j:=q) (n:=m'') (R:=R) 0x0 0x0 h;have ka:=Z5 (exch x p q);walk_at "p1";refine mp _ ?_;dsimp only
     by_cases ok:okP s r p q=true
     ·have xm':exch x p q∈O:=(o.mem _).mpr (Y6 xp ok ql).1;have ga:=gt _ xm';refine if_t ok ⟨⟨_,_,rfl⟩,?_⟩;rw[kx];dsimp only;refine⟨0x0,?_⟩;rw[gx];refine⟨⟨_,_,rfl⟩,mx _ ?_⟩;dsimp only;rw[ka];dsimp only;refine⟨0x0,?_⟩;rw[ga];dsimp only[vI];rw[show decide (1<(if(g x:Int)-(g (exch x p q):Nat)<0 then -((g x:Int)-(g (exch x p q):Nat)) else(g x:Int)-(g (exch x p q):Nat)))=!decide (g x<=g (exch x p q)+1/\g (exch x p q)<=g x+1) from abs_gt]
      by_cases c:g x<=g (exch x p q)+1/\g (exch x p q)<=g x+1
      ·exact if_f (by rw[ju c];rfl) (hN'' _ _ ⟨_,rfl,nx λ_=>c,rfl⟩)
      ·exact if_t (by rw[jv c];rfl) (hF λz=>c (z.2.2 x xm p q ok ql))
     ·exact if_f (eq_false_of_ne_true ok) (hN'' _ _ ⟨_,rfl,nx λz=>absurd z ok,rfl⟩)
    ·obtain⟨a10,rfl,hq,rfl⟩:=hI;refine hN' _ _ ⟨_,_,rfl,λp' hp'=>?_,rfl⟩
     by_cases c:p'=p
     ·subst c;exact λq h1 h2=>hq q (by rw[B0,AX];ext) h1 h2
     ·exact hp2 p' 0x0
   ·obtain⟨a9,a10,rfl,hp,rfl⟩:=hI;refine hN _ _ ⟨_,_,_,rfl,λy hy=>?_,rfl⟩;rw[o6 ei] at hy;rcases D6.mp hy with hy|hy
    ·exact hn y hy
    ·rw[E2.mp hy];exact λp q h1 h2=>hp p (by rw[B0,AX];have:=u9 h1;ext) q h1 h2
  ·obtain⟨a8,a9,a10,rfl,hn,rfl⟩:=hI;rw[G0,l1,x5] at hn;dsimp only;subst hU;walk_at "p1";refine⟨⟨_,_,rfl⟩,?_⟩;rw[kr];dsimp only;refine⟨0x0,?_⟩;rw[gr];dsimp only[vI];refine gd1' rfl ?_;rw[CP,Dg]
   by_cases c1:g row=k
   ·refine if_t (ju c1) ⟨⟨_,_,rfl⟩,?_⟩;rw[ko];dsimp only;refine⟨0x0,?_⟩;rw[go];dsimp only[vI];refine gd1' rfl ?_;rw[show(0:Int)=((0:Nat):Int) from rfl,CP,Dg]
    by_cases c2:g jc=0
    ·rw[ju c2];exact hT ⟨c1,c2,hn⟩
    ·rw[jv c2];exact hF λz=>c2 z.2.1
   ·exact if_f (jv c1) (hF λz=>c1 z.1)
end Tb
end
section
namespace Tb
open PySem L2 Pu
def ascS (z:Str):Bool:=(z.cps.all λc=>decide (c<128))&&decide (z.length<=1000)
def okT:Nat->PV->Bool
 |d+1,.tup xs=>xs.all (okT d)
 |_,.str z=>ascS z
 |_,x=>(tyP x).isSome
def BW {d:Nat}{z:Str}:okT d (.str z)=ascS z:=by cases d <;> rfl
def SH:∀c:Nat,c<128->(!decide ((⟨#[c]⟩:Str).cps.toList<(B1 "a").cps.toList))=decide (97<=c)/\(!decide ((B1 "z").cps.toList<(⟨#[c]⟩:Str).cps.toList))=decide (c<=122):=by decide +kernel
def m_isbA {d:Nat}{T:PV}{n:Nat}{R:PV->Nat->Prop}(hT:okT d T=true)(h:∀c:Bool,(c=true↔∃z,T=.str z/\i9 z)->R (.bl c) n):IG [T] n R:=by
 mleft;unfold IF;have no:(∀z,T≠.str z)->R (.bl false) n:=λz=>h false ⟨nofun,λ⟨x,e,_⟩=>absurd e (z _)⟩;symm;cases T with
 | str z =>
  rw[BW] at hT;unfold ascS at hT;rw[M2,decide_eq_true_iff] at hT;have lx:z.length=z.cps.toList.length:=l9 z
  have asc:∀c∈z.cps.toList,c<128:=λc hc=>by
   have:=hT.1;rw[<- EM] at this;exact jz (B7.mp this c hc)
  have bs:(i9 z)↔1<=z.cps.toList.length/\z.cps.toList.length<=8/\∀c∈z.cps.toList,Ltr c:=Iff.rfl;have h:∀c:Bool,(c=true↔i9 z)->R (.bl c) n:=λc hc=>h c (hc.trans ⟨λb=>⟨z,rfl,b⟩,λ⟨z1,e,b⟩=>by cases e;exact b⟩);subst hU;walk_at "p1";refine⟨0x0,?_⟩
  by_cases c1:(1:Int)<=z.length
  ·refine if_t (ju c1) ?_
   by_cases c2:(z.length:Int)<=8
   ·refine if_f (by rw[ju c2];rfl) ⟨hT.1,by rw[B0];omega,?_⟩;refine BP (λc=>PV.str ⟨#[c]⟩) (λc=>PV.bl (decide (97<=c)&&decide (c<=122))) z.cps.toList _ _ _ (λc hc m Q hQ=>?_) ?_
    ·have:=SH c (asc c hc);walk_at "p1";rw[this.1,this.2];cases h1:decide (97<=c) with
     |true=>rw[h1] at hQ;exact hQ
     |false=>rw[h1] at hQ;exact hQ
    ·rw[BT];dsimp only;rw[BU];refine h _ ?_;rw[B7,bs];constructor
     ·intro q;refine⟨0x0,0x0,λc hc=>?_⟩;have:=q c hc;rw[M2,decide_eq_true_iff,decide_eq_true_iff] at this;exact this
     ·rintro⟨_,_,q⟩ c hc;have:=q c hc;rw[M2,decide_eq_true_iff,decide_eq_true_iff];exact this
   ·exact if_t (by rw[jv c2];rfl) (h false ⟨nofun,λb=>by have:=b.2.1;ext⟩)
  ·exact if_f (jv c1) (h false ⟨nofun,λb=>by have:=b.1;ext⟩)
 |_=>cases d <;> first|(cases hT;done)|(walk_at "p1";exact no nofun)
def MD {T:PV}{lo hi:Int}{n:Nat}{R:PV->Nat->Prop}{d:Nat}(hT:okT d T=true)(h:∀c:Bool,(c=true↔∃k,T=.int k/\lo<=k/\k<=hi)->R (.bl c) n):Ef [T,.int lo,.int hi] n R:=by
 mleft;unfold FK;cases T with
 | int k =>
  have h:∀c:Bool,(c=true↔lo<=k/\k<=hi)->R (.bl c) n:=λc hc=>h c (hc.trans ⟨λq=>⟨k,rfl,q⟩,λ⟨k',e,q⟩=>by cases e;exact q⟩);walk_at "p1"
  by_cases c:lo<=k
  ·exact if_t (ju c) (h _ (by rw[decide_eq_true_iff];exact⟨λq=>⟨c,q⟩,λq=>q.2⟩))
  ·exact if_f (jv c) (h false ⟨nofun,λq=>absurd q.1 c⟩)
 |_=>cases d <;> first|(cases hT;done)|(walk_at "p1";exact h false ⟨nofun,λ⟨k,e,_⟩=>nomatch e⟩)
theorem F_:∀xs:List PV,xs.length<=C2 xs
 |[]=>B3 _
 |x::xs=>by have:=F_ xs;show xs.length+1<=cost x+2+C2 xs;ext
noncomputable def pB (P:Prop):Bool:=@decide P (Classical.propDecidable _)
def AL {P:Prop}:pB P=true↔P:=@decide_eq_true_iff _ (Classical.propDecidable _)
def BX {P:Prop}{c:Bool}(h:c=true↔P):c=pB P:=t7.mpr (h.trans AL.symm)
def PrV (row:List Str)(T:PV):Prop:=∃p:Str×Str,T=prS p/\p.1∈row/\p.2∈row
theorem ME {row:List Str}:∀{xs:List PV},(∀x∈xs,PrV row x)->∃ps:List (Str×Str),xs=ps.map prS/\∀p∈ps,p.1∈row/\p.2∈row
 |[],_=>⟨[],rfl,nofun⟩
 | x :: xs, h => by
  obtain⟨p,rfl,hp⟩:=h x D2;obtain⟨ps,rfl,hs⟩:=ME λy hy=>h y (C1 _ hy);exact⟨p::ps,rfl,λq hq=>(B9.mp hq).elim (λe=>by rw[e];exact hp) (hs q)⟩
def Jl {p q:Str×Str}(h:prS p=prS q):p=q:=by
 obtain⟨a,b⟩:=p;obtain⟨c,d⟩:=q;unfold prS at h;cases h
 rfl
def m_ipoA {d:Nat}{row:List Str}{T:PV}{n:Nat}{R:PV->Nat->Prop}(hb:∀z∈row,i9 z)(hT:okT (d+1) T=true)(h:R (.bl (pB (PrV row T))) n):II [rowP row,T] n R:=by
 mleft;unfold IH;have no:(¬PrV row T)->R (.bl false) n:=λz=>by rw[<- BX (c:=false) ⟨nofun,λq=>absurd q z⟩] at h;exact h
 have hr0:rowP row=.tup (row.map PV.str):=rfl;symm;generalize hZ:row.map PV.str=Z at *;rw[hr0];cases T with
 | tup xs =>
  have hx:∀x∈xs,okT d x=true:=B7.mp hT;have no2:xs.length≠2->R (.bl false) n:=λz=>no λ⟨p,e,_⟩=>z (by rw[PV.tup.inj e];rfl);walk_at "p1"
  by_cases c2:xs.length=2
  ·refine if_f (by rw[ju 0x0];rfl) ?_;subst hU;walk_at "p1";refine⟨0x0,?_⟩;refine BO (λx=>.bl (pB (∃z∈row,x=.str z))) _ _ _ _ (λx hx' m Q hQ=>?_) ?_
   ·walk_at "p1";refine m_isbA (hx x hx') λc hc=>?_;cases c with
    | false =>
     refine if_f rfl ?_;rw[<- BX (c:=false) ⟨nofun,λ⟨z,hz,e⟩=>hc.mpr ⟨z,e,hb z hz⟩⟩] at hQ;exact hQ
    | true =>
     obtain⟨z,rfl,_⟩:=hc.mp rfl;refine if_t rfl (QK hZ ?_);rw[<- BX (c:=decide (z∈row)) (by rw[decide_eq_true_iff];exact⟨λq=>⟨z,q,rfl⟩,λ⟨y,hy,e⟩=>by cases e;exact hy⟩)] at hQ;exact hQ
   ·rw[BT xs λx=>pB (∃z∈row,x=.str z)];dsimp only;rw[BU];rw[<- BX (c:=xs.all λx=>pB (∃z∈row,x=.str z)) ?_] at h
    ·exact h
    ·rw[B7];constructor
     ·intro q
      match xs,c2,q with
      | [a, b], _, q =>
       obtain⟨x,x1,rfl⟩:=AL.mp (q a 0o0);obtain⟨y,y1,rfl⟩:=AL.mp (q b 0o0);exact⟨(x,y),rfl,x1,y1⟩
     ·rintro⟨⟨x,y⟩,e,hx,hy⟩ v hv;rw[PV.tup.inj e] at hv;simp only[B9,R5,or_false] at hv;rcases hv with rfl|rfl
      ·exact AL.mpr ⟨x,hx,rfl⟩
      ·exact AL.mpr ⟨y,hy,rfl⟩
  ·exact if_t (by rw[jv 0x0];rfl) (no2 c2)
 |_=>cases d <;> first|(cases hT;done)|(walk_at "p1";exact no λ⟨p,e,_⟩=>nomatch e)
def LedV (s r:Nat)(row:List Str)(V:PV)(k:Nat)(o:List Str):Prop:=∃ps:List (Str×Str),V=.tup (ps.map prS)/\ps.length=k/\(∀p∈ps,p.1∈row/\p.2∈row)/\led s r row ps=some o
def SI {s r n d:Nat}{row jc:List Str}{T:PV}{R:PV->Nat->Prop}(M:Mt s r row.length)(hb:∀z∈row,i9 z)(hT:okT (d+2) T=true)(hl:cost T<=900000)(h1:∀k xs,T=.tup xs->xs.length=k->LedV s r row T k jc->R (.bl true) n)(h0:(∀k,¬LedV s r row T k jc)->R (.bl false) n):IK [mtP s r,rowP row,rowP jc,T] n R:=by
 mleft;unfold IJ;have mi:=λx (hx:okT (d+1) x=true) (m:Nat) (R:PV->Nat->Prop) q=>m_ipoA (T:=x) (n:=m) (R:=R) hb hx q;symm;cases T with
 | tup xs =>
  have xl:xs.length<=900000:=by
   have:=F_ xs;have:C2 xs+3<=900000:=hl;ext
  have hx:∀x∈xs,okT (d+1) x=true:=B7.mp hT;generalize hW:rowP row=W at *;generalize hO:rowP jc=O at *;walk_at "p1";refine⟨0x0,?_⟩;refine BO (λx=>.bl (pB (PrV row x))) _ _ _ _ (λx hx' m Q hQ=>?_) ?_
  ·walk_at "p1";exact mi x (hx x hx') _ _ hQ
  ·rw[BT xs λx=>pB (PrV row x)];dsimp only;rw[BU]
   by_cases c:∀x∈xs,PrV row x
   ·refine if_f (by rw[B7.mpr λx hx=>AL.mpr (c x hx)];rfl) ?_;obtain⟨ps,e,hp⟩:=ME c;subst hU;walk_at "p1";rw[<- hW,<- hO,e];refine Sf M hp ?_
    by_cases c3:led s r row ps=some jc
    ·rw[ju c3];exact h1 _ _ rfl rfl ⟨ps,by rw[e],by rw[e,B0],hp,c3⟩
    ·rw[jv c3];refine h0 λk ⟨qs,e2,_,_,l⟩=>c3 ?_;have:ps=qs:=(ED λx y=>Jl).mp (e.symm.trans (PV.tup.inj e2));rw[this];exact l
   ·refine if_t ?_ (h0 λk ⟨ps,e,_,hp,_⟩=>c λx hx=>?_)
    ·rw[EI,Ck];exact λz=>c λx hx=>AL.mp (B7.mp z x hx)
    ·rw[PV.tup.inj e] at hx;obtain⟨p,q,rfl⟩:=E4.mp hx;exact⟨p,rfl,hp p q⟩
 |_=>first|(cases hT;done)|(walk_at "p1";exact h0 λk ⟨ps,e,_⟩=>nomatch e)
end Tb
end
section
namespace Tb
open PySem L2 Pu
theorem MF {s r:Nat}:∀(ps:List (Str×Str)) (st st':List Str) (qs:List (Str×Str)),led s r st ps=some st'->led s r st (ps++qs)=led s r st' qs
 |[],st,st',qs,h=>by cases h;rfl
 | a :: ps, st, st', qs, h => by
  rw[FX] at h;rw[R6,FX]
  by_cases d:okP s r (ixS st a.2) (ixS st a.1)=true
  ·rw[jw d] at h ⊢;exact MF ps _ _ qs h
  ·rw[jy d] at h;cases h
def Jm {α:Type}{xs:List α}{i:Nat}{x:α}(h:xs[i]?=some x):xs=xs.take i++x::xs.drop (i+1):=by
 obtain⟨hi,e⟩:=E5.mp h;rw[<- e,<- AS hi,AT]
def SJ {s r n d:Nat}{row:List Str}{T:PV}{R:PV->Nat->Prop}(M:Mt s r row.length)(hT:okT (d + 2) T=true)(hl:cost T<=900000)(h1:∀k st,LedV s r row T k st->R (rowP st) n)(h0:(∀k o,¬LedV s r row T k o)->R .non n):IR [mtP s r,rowP row,T] n R:=by
 mleft;unfold IQ;have n8:=M.n8;have hix:∀{st:List Str} {z:Str},st.Perm row->z∈row->∀{R:PV->Prop},R (.int (ixS st z))->o3 (rowP st) (.str z) R:=λ{st z} p hz {R} q=>m_ix rfl (p.mem_iff.mpr hz) (by rw[p.length_eq];ext) q
 have hin:∀{st:List Str} {x:PV},st.Perm row->okT d x=true->∀{R:PV->Prop},((∃z∈row,x=.str z)->R (.bl false))->((¬∃z∈row,x=.str z)->R (.bl true))->wInA 2 true x (rowP st) R:=fun {st x} p hx {R} q1 q2=>by
  have ok:okA x=true:=by cases x <;> first|rfl|(cases d <;> first|(cases hx;done)|exact hx)
  refine⟨B7.mpr λy hy=>?_,?_⟩
  ·obtain⟨z,_,rfl⟩:=E4.mp hy;exact ok
  ·show R (.bl (!memP x (st.map PV.str)))
   by_cases c:∃z∈row,x=.str z
   ·have:=q1 c;obtain⟨z,hz,rfl⟩:=c;rw[FD,ju (p.mem_iff.mpr hz)];exact this
   ·have e:memP x (st.map PV.str)=false:=by
     rw[Ck];intro q;obtain⟨y,hy,e⟩:=p9.mp q;obtain⟨z,hz,rfl⟩:=E4.mp hy;cases x with
     | str w =>
      rw[AG] at e;exact c ⟨z,p.mem_iff.mp hz,by rw[jz e]⟩
     |_=>cases e
    rw[e];exact q2 c
 symm;cases T with
 | tup xs =>
  have xl:xs.length<=900000:=by
   have:=F_ xs;have:C2 xs+3<=900000:=hl;ext
  have hx:∀x∈xs,okT (d+1) x=true:=B7.mp hT;generalize hW:rowP row=W at *;walk_at "p1";subst hU;symm;walk_at "p1";refine N1 (λi env m=>∃(st:List Str) (ps:List (Str×Str)) (s3 s4 s5:Option Pu.Slot),env=[some (.v (mtP s r)),some (.v (rowP st)),some (.v (.tup xs)),s3,s4,s5]/\st.Perm row/\xs.take i=ps.map prS/\(∀p∈ps,p.1∈row/\p.2∈row)/\led s r row ps=some st/\m=n) _ 0 _ _ ⟨row,[],none,none,none,by rw[hW],List.Perm.refl _,rfl,nofun,rfl,rfl⟩ (λi x env m N ex hI hN=>?_) (λenv m hI=>?_)
  ·obtain⟨st,ps,s3,s4,s5,rfl,pm,ht,hp,hd,rfl⟩:=hI;rw[G0] at ht hN;have hx1:=hx x (G4 ex);have tk:xs.take (i+1)=xs.take i++[x]:=by rw[List.take_add_one,ex];rfl
   have eS:rowP st=.tup (st.map PV.str):=rfl
   have no:(∀p:Str×Str,x=prS p->p.1∈row->p.2∈row->okP s r (ixS st p.2) (ixS st p.1)=true->False)->R .non m:=λz=>h0 λk o ⟨qs,e,_,hq,l⟩=>by
    have e:=PV.tup.inj e;rw[e] at ex ht;obtain⟨p,ep,rfl⟩:=Bq ex;have pm':=hq p (G4 ep);rw[<- List.map_take] at ht;have et:qs.take i=ps:=(ED λx y=>Jl).mp ht;have es:=Jm ep;rw[es,et] at l;rw[MF ps row st (p::qs.drop (i+1)) hd,FX] at l
    by_cases c:okP s r (ixS st p.2) (ixS st p.1)=true
    ·exact z p rfl pm'.1 pm'.2 c
    ·rw[jy c] at l;cases l
   generalize hX:PV.tup xs=XX at *;cases x with
   | tup ys =>
    have hy:∀y∈ys,okT d y=true:=B7.mp hx1;have no2:ys.length≠2->R .non m:=λz=>no λp e _ _ _=>z (by rw[PV.tup.inj e];rfl);have hS:rowP st=rowP st:=rfl;generalize hS':rowP st=S at *
    by_cases c2:ys.length=2
    ·match ys,c2 with
     | [a, b], _ =>
      have x1:=λ(R:PV->Prop) q1 q2=>hin (st:=st) (x:=a) (R:=R) pm (hy a 0o0) q1 q2;have x2:=λ(R:PV->Prop) q1 q2=>hin (st:=st) (x:=b) (R:=R) pm (hy b 0o0) q1 q2;rw[hS'] at x1 x2;walk_at "p1";refine if_f 0b0 (x1 _ (λ⟨y,my,ea⟩=>if_f rfl (x2 _ (λ⟨z,mz,eb⟩=>if_f rfl ⟨⟨_,eS⟩,?_⟩) λc=>if_t rfl (no λp e _ p2 _=>c ⟨p.2,p2,by cases e;rfl⟩))) λc=>if_t rfl (no λp e p1 _ _=>c ⟨p.1,p1,by cases e;rfl⟩));subst ea eb;have i1:ixS st y<row.length:=by rw[<- pm.length_eq];exact(E5.mp (E1 (pm.mem_iff.mpr my)).1).1
      have i2:ixS st z<row.length:=by rw[<- pm.length_eq];exact(E5.mp (E1 (pm.mem_iff.mpr mz)).1).1
      have mx:=λ(R:PV->Nat->Prop) q=>El (f:=st) (i:=ixS st z) (j:=ixS st y) (n:=m) (R:=R) (by rw[pm.length_eq];exact i2) (by rw[pm.length_eq];exact i1) q;have mp:=λ(R:PV->Nat->Prop) q=>FW (s:=s) (r:=r) (p:=ixS st z) (q:=ixS st y) (n:=m) (R:=R) M.s1 M.s8 M.r7 0x0 0x0 q;have pm':=(AJ (f:=st) (i:=ixS st z) (j:=ixS st y) (by rw[pm.length_eq];exact i2) (by rw[pm.length_eq];exact i1)).trans pm;have y1:=λ(R:PV->Prop) q=>hix (R:=R) pm mz q;have y2:=λ(R:PV->Prop) q=>hix (R:=R) pm my q;rw[hS'] at y1 y2 mx;refine y1 _ ⟨⟨_,eS⟩,y2 _ (mp _ ?_)⟩;dsimp only
      by_cases c:okP s r (ixS st z) (ixS st y)=true
      ·rw[c];refine if_f rfl (mx _ (hN _ _ ⟨_,ps++[(y,z)],_,_,_,rfl,pm',?_,λp hp'=>?_,?_,rfl⟩))
       ·rw[tk,ht,L3];rfl
       ·rcases D6.mp hp' with hp'|hp'
        ·exact hp p hp'
        ·rw[E2.mp hp'];exact⟨my,mz⟩
       ·rw[Ek ps row st (y,z) hd,jw c]
      ·rw[eq_false_of_ne_true c];exact if_t rfl (no λp e _ _ o=>c (by cases e;exact o))
    ·walk_at "p1";exact if_t (by rw[jv 0x0];rfl) (no2 c2)
   |_=>first|(cases hx1;done)|(walk_at "p1";exact no λp e _ _ _=>nomatch e)
  ·obtain⟨st,ps,s3,s4,s5,rfl,pm,ht,hp,hd,rfl⟩:=hI;rw[G0,x5] at ht;have q:=h1 _ st ⟨ps,by rw[ht],rfl,hp,hd⟩;generalize hX:PV.tup xs=XX at *;subst hU;generalize hS:rowP st=S at *;walk_at "p1";exact q
 |_=>first|(cases hT;done)|(walk_at "p1";exact h0 λk o ⟨ps,e,_⟩=>nomatch e)
end Tb
end
section
namespace Tb
open PySem L2 Pu
structure Lt (s r:Nat)(row jc L:List Str)(f:List Str->Nat):Prop where
 M:Mt s r jc.length
 nd:jc.Nodup
 pm:row.Perm jc
 F:Dst s r jc f
 hS:outS row=L
 pl:L.Perm row
theorem Jn:∀(O:List (List Str)) (xs:List PV),O.Nodup->xs.length=O.length->(∀x∈xs,∃k:Int,x=.int k/\0<=k)->∃g,xs=O.map (vI g)
 |[],[],_,_,_=>⟨λ_=>0,rfl⟩
 | o :: O, x :: xs, nd, hl, h => by
  obtain⟨n1,n2⟩:=R8.mp nd;obtain⟨g,e⟩:=Jn O xs n2 (Nat.succ.inj hl) λy hy=>h y (C1 _ hy);obtain⟨k,rfl,k0⟩:=h x D2;refine⟨λy=>if y=o then k.toNat else g y,?_⟩;rw[e,G7]
  congr 1
  ·unfold vI;dsimp only;rw[jw rfl,Int.toNat_of_nonneg k0]
  ·exact Gj λy hy=>by unfold vI;dsimp only;rw[jy (λz=>n1 (by rw[<- z];exact hy))]
section
variable {s r n d k:Nat}{row jc L:List Str}{f g g':List Str->Nat}{T:PV}{R:PV->Nat->Prop}
def Lt.o (l:Lt s r row jc L f)(n5:jc.length<=5):Ord jc (ordF L L.length):=Ji (l.pl.trans l.pm) l.nd n5
def vI_eq {O:List (List Str)}(h:O.map (vI g)=O.map (vI g')):∀x∈O,g x=g' x:=λx hx=>by
 have:=List.map_inj_left.mp h x hx;unfold vI at this;have:=PV.int.inj this;omega
def Good.congr {O:List (List Str)}(o:Ord jc O)(hr:row∈O)(ho:jc∈O)(e:∀x∈O,g x=g' x)(h:Good s r row jc O k g):Good s r row jc O k g':=by
 obtain⟨g1,g2,g3⟩:=h;refine⟨by rw[<- e _ hr];exact g1,by rw[<- e _ ho];exact g2,λx hx p q h1 h2=>?_⟩;rw[<- e _ hx,<- e _ ((o.mem _).mpr (Y6 ((o.mem x).mp hx) h1 h2).1)];exact g3 x hx p q h1 h2
def Good.le {O:List (List Str)}(F:Dst s r jc f)(o:Ord jc O)(h:Good s r row jc O k g):∀m x,x.Perm jc->f x=m->g x<=m:=by
 obtain⟨g1,g2,g3⟩:=h;intro m
 induction m with
 |zero=>intro x pm e;rw[F.eq0 pm e,g2];exact B3 _
 | succ m ih =>
  intro x pm e;have ne:x≠jc:=λz=>by rw[z,F.zero] at e;cases e
  obtain⟨p,q,h1,h2,h3⟩:=F.down x pm ne;have b:=F.back pm h1 h2;have a:=ih _ (Y6 pm h1 h2).1 0x0;have c:=(g3 x ((o.mem x).mpr pm) p q h1 h2).1;ext
def BY (s r:Nat)(row jc L:List Str)(k:Nat)(T:PV):Prop:=∃g,T=.tup ((ordF L L.length).map (vI g))/\Good s r row jc (ordF L L.length) k g
def SK (l:Lt s r row jc L f)(n5:jc.length<=5)(hT:okT (d+1) T=true)(h1:BY s r row jc L k T->R (.bl true) n)(h0:¬BY s r row jc L k T->R (.bl false) n):FM [mtP s r,rowP row,rowP jc,.int (k:Int),T] n R:=by
 obtain⟨M,nd,pm,F,hS,pl⟩:=id l;have o:=l.o n5
 by_cases c:∃g,T=.tup ((ordF L L.length).map (vI g))
 ·obtain⟨g,rfl⟩:=c;refine SF M n5 nd pm hS pl (λ_ q=>h1 ⟨g,rfl,q⟩) λz=>h0 λ⟨g',e,q⟩=>?_;have q':=Good.congr o ((o.mem _).mpr pm) ((o.mem _).mpr (.refl _)) (λx hx=>(vI_eq (PV.tup.inj e) x hx).symm) q
  exact z ⟨λx hx=>by
   have p:=(o.mem x).mp hx;have:=Good.le F o q' _ x p rfl;have:=F.lt o p
   omega,q'⟩
 replace h0:=h0 λ⟨g,e,_⟩=>c ⟨g,e⟩
 have cc:∀xs,T=.tup xs->xs.length=(ordF L L.length).length->¬∀x∈xs,∃k:Int,x=.int k/\0<=k:=λxs e hl z=>by
  obtain⟨g,e'⟩:=Jn _ xs o.nd hl z;exact c ⟨g,by rw[e,e']⟩
 have mw:=λx (hx:okT d x=true) (m:Nat) (R:PV->Nat->Prop) q=>MD (T:=x) (lo:=0) (hi:=((ordF L L.length).length:Nat)) (n:=m) (R:=R) hx q;have rl:=pm.length_eq;have ar:=λ(R:PV->Nat->Prop) q=>Mz (n:=n) (R:=R) ((pl.trans pm).nodup_iff.mpr nd) (by have:=pl.length_eq;omega) q;have hr0:rowP row=.tup (row.map PV.str):=rfl;have hr1:rowP jc=.tup (jc.map PV.str):=rfl;generalize hO:ordF L L.length=O at *;have ol:=o.len;have l1:(O.map rowP).length=O.length:=B0 ..;mleft;unfold FL;symm;rw[hr0,hr1];walk_at "p1";refine⟨row,rfl,0x0,?_⟩;rw[hS];refine ar _ ?_;subst hU;symm;generalize hX:O.map rowP=X at *;cases T with
 | tup xs =>
  have hx:∀x∈xs,okT d x=true:=B7.mp hT;walk_at "p1"
  by_cases cl:xs.length=O.length
  ·refine if_f (by rw[l1,ju 0x0];rfl) ?_;subst hU;symm;walk_at "p1";refine⟨0x0,BO (λx=>.bl (pB (∃k:Int,x=.int k/\0<=k/\k<=(O.length:Nat)))) _ _ _ _ (λx hx' m Q hQ=>?_) ?_⟩
   ·walk_at "p1";rw[l1];refine mw x (hx x hx') _ _ λc hc=>?_;rw[BX hc];exact hQ
   ·rw[BT xs λx=>pB (∃k:Int,x=.int k/\0<=k/\k<=(O.length:Nat))];dsimp only;rw[BU];refine if_t ?_ h0;rw[EI,Ck]
    exact λz=>cc xs rfl cl λx hx=>by
     obtain⟨k,e,k0,_⟩:=AL.mp (B7.mp z x hx);exact⟨k,e,k0⟩
  ·exact if_t (by rw[l1,jv 0x0];rfl) h0
 |_=>first|(cases hT;done)|(walk_at "p1";exact h0)
def SL (l:Lt s r row jc L f)(n5:jc.length<=5)(hT:okT (d+1) T=true)(h1:BY s r row jc L k T->R (.bl true) n)(h0:¬BY s r row jc L k T->R (.bl false) n):FP [mtP s r,rowP row,rowP jc,.int (k:Int),T] n R:=by
 obtain⟨M,nd,pm,F,hS,pl⟩:=id l;have o:=l.o n5
 by_cases c:∃g,T=.tup ((ordF L L.length).map (vI g))
 ·obtain⟨g,rfl⟩:=c;exact SG M n5 nd pm hS pl (λq=>h1 ⟨g,rfl,q⟩) λz=>h0 λ⟨g',e,q⟩=>z (Good.congr o ((o.mem _).mpr pm) ((o.mem _).mpr (.refl _)) (λx hx=>(vI_eq (PV.tup.inj e) x hx).symm) q)
 replace h0:=h0 λ⟨g,e,_⟩=>c ⟨g,e⟩
 have cc:∀xs,T=.tup xs->xs.length=(ordF L L.length).length->¬∀x∈xs,∃k:Int,x=.int k/\0<=k:=λxs e hl z=>by
  obtain⟨g,e'⟩:=Jn _ xs o.nd hl z;exact c ⟨g,by rw[e,e']⟩
 have rl:=pm.length_eq;have ar:=λ(R:PV->Nat->Prop) q=>Jj (n:=n) (R:=R) ((pl.trans pm).nodup_iff.mpr nd) (by have:=pl.length_eq;omega) q;have hr0:rowP row=.tup (row.map PV.str):=rfl;have hr1:rowP jc=.tup (jc.map PV.str):=rfl;generalize hO:ordF L L.length=O at *;have ol:=o.len;have l1:(O.map rowP).length=O.length:=B0 ..;mleft;unfold FO;symm;rw[hr0,hr1];walk_at "p1";refine⟨row,rfl,0x0,?_⟩;rw[hS];refine ar _ ?_;subst hU;symm;generalize hX:O.map rowP=X at *;cases T with
 | tup xs =>
  have hx:∀x∈xs,okT d x=true:=B7.mp hT;walk_at "p1"
  by_cases cl:xs.length=O.length
  ·refine if_f (by rw[l1,ju 0x0];rfl) ?_;subst hU;symm;walk_at "p1";refine⟨0x0,BO (λx=>.bl (pB (∃k:Int,x=.int k/\0<=k))) _ _ _ _ (λx hx' m Q hQ=>?_) ?_⟩
   ·have hx1:=hx x hx'
    have no:(∀k:Int,x≠.int k)->Q (.bl false) [some (.v x)] m:=λz=>by
     rw[<- BX (c:=false) ⟨nofun,λ⟨k,e,_⟩=>absurd e (z k)⟩] at hQ;exact hQ
    cases x with
    | int j =>
     rw[<- BX (c:=decide (0<=j)) (by rw[decide_eq_true_iff];exact⟨λq=>⟨j,rfl,q⟩,λ⟨k,e,q⟩=>by cases e;exact q⟩)] at hQ;walk_at "p1";exact hQ
    |_=>cases d <;> first|(cases hx1;done)|(walk_at "p1";exact no nofun)
   ·rw[BT xs λx=>pB (∃k:Int,x=.int k/\0<=k)];dsimp only;rw[BU];refine if_t ?_ h0;rw[EI,Ck];exact λz=>cc xs rfl cl λx hx=>AL.mp (B7.mp z x hx)
  ·exact if_t (by rw[l1,jv 0x0];rfl) h0
 |_=>first|(cases hT;done)|(walk_at "p1";exact h0)
end
end Tb
end
section
namespace Tb
open PySem L2 Pu
def m_mcp {s r n:Nat}{R:PV->Nat->Prop}(h:R (.bl (decide (r=0))) n):Ix [.tup [.int s,.int r]] n R:=by
 mleft;unfold Iw;walk_at "p1";rw[show decide ((r:Int)=0)=decide (r=0) from decide_eq_decide.mpr 0x0];exact h
def m_mcr {s r l n:Nat}{R:PV->Nat->Prop}(h:R (.bl (decide (l<=s/\l<=r+2))) n):Ih [.tup [.int s,.int r],.int (l:Int)] n R:=by
 mleft;unfold Ig;walk_at "p1"
 by_cases c:l<=s
 ·refine if_t (ju 0x0) ?_;rw[show decide ((l:Int)<=(r:Int)+2)=decide (l<=s/\l<=r+2) from decide_eq_decide.mpr 0x0];exact h
 ·rw[jv (show ¬(l<=s/\l<=r+2) by omega)] at h;exact if_f (jv 0x0) h
def m_rof {row jc:List Str}{n:Nat}{R:PV->Nat->Prop}(nd:row.Nodup)(h2:row.length<=24)(pm:jc.Perm row)(h:R (.int (rN row jc:Nat)) n):FN [rowP row,rowP jc] n R:=Si nd h2 pm (cOf (nxB row jc) row) (λx hx y hy=>Bs (AK nd pm) hx hy) h
def m_lrof {row jc:List Str}{n:Nat}{R:PV->Nat->Prop}(nd:row.Nodup)(h2:row.length<=24)(pm:jc.Perm row)(h:R (.int (rN row jc:Nat)) n):FQ [rowP row,rowP jc] n R:=Sk nd h2 pm (cOf (nxB row jc) row) (λx hx y hy=>Bs (AK nd pm) hx hy) h
def MG {row jc:List Str}:((row.length:Nat):Int)-((rN row jc:Nat):Int)=((row.length-rN row jc:Nat):Int):=by
 have:=Jd (row:=row) (jc:=jc);ext
def m_mht {l n:Nat}{R:PV->Nat->Prop}(h:R (.bl (decide (l<=5))) n):Ij [.int (l:Int)] n R:=by
 mleft;unfold Ii;walk_at "p1";rw[show decide ((l:Int)<=5)=decide (l<=5) from decide_eq_decide.mpr 0x0];exact h
def Jo {d:Nat}{T:PV}{w:Str}{n:Nat}{R:PV->Nat->Prop}(hT:okT d T=true)(h1:T=.str w->R (.bl true) n)(h0:T≠.str w->R (.bl false) n):Ee [T,.str w] n R:=by
 mleft;unfold Ie;cases T with
 | str z =>
  walk_at "p1"
  by_cases c:z=w
  ·rw[ju c];exact h1 (by rw[c])
  ·rw[jv c];exact h0 λe=>c (PV.str.inj e)
 |_=>cases d <;> first|(cases hT;done)|(walk_at "p1";exact h0 nofun)
abbrev pairX:PV:=.tup [.str (B1 "pairs")]
abbrev rndX:PV:=.tup [.str (B1 "rounds")]
def PapV (s r:Nat)(row jc L:List Str)(k:Nat)(X:PV):Prop:=(∃T,X=.tup [.str (B1 "table"),T]/\jc.length<=5/\BY s r row jc L k T)\/(X=pairX/\r=0/\k=inv (row.map (ixS jc)))\/(X=rndX/\(jc.length<=s/\jc.length<=r+2)/\k=jc.length-rN row jc)
section
variable {s r n d k:Nat}{row jc L:List Str}{f:List Str->Nat}{X:PV}{R:PV->Nat->Prop}
def SM (l:Lt s r row jc L f)(hX:okT (d + 2) X=true)(h1:PapV s r row jc L k X->R (.bl true) n)(h0:¬PapV s r row jc L k X->R (.bl false) n):IC [mtP s r,rowP row,rowP jc,.int (k:Int),X] n R:=by
 obtain⟨M,nd,pm,F,hS,pl⟩:=id l;have n8:=M.n8;have rl:=pm.length_eq;have Rl:(row.map PV.str).length=row.length:=B0 ..;mleft;unfold IB
 have no1:(∀a,X≠.tup [a])->(∀a b,X≠.tup [a,b])->R (.bl false) n:=λz1 z2=>h0 λp=>by
  rcases p with⟨T,e,_⟩|⟨e,_⟩|⟨e,_⟩
  ·exact z2 _ _ e
  ·exact z1 _ e
  ·exact z1 _ e
 cases X with
 | tup xs =>
  have hx:∀x∈xs,okT (d+1) x=true:=B7.mp hX
  match xs with
  |[]=>walk_at "p1";exact if_f 0b0 (no1 nofun nofun)
  | [a] =>
   have ha:=hx a 0o0
   have q1:a≠.str (B1 "pairs")->a≠.str (B1 "rounds")->R (.bl false) n:=λz1 z2=>h0 λp=>by
    rcases p with⟨T,e,_⟩|⟨e,_⟩|⟨e,_⟩
    ·cases e
    ·exact z1 (by cases e;rfl)
    ·exact z2 (by cases e;rfl)
   symm;walk_at "p1";refine if_t rfl (if_f rfl ?_);subst hU;symm;walk_at "p1";subst hU;symm;walk_at "p1";refine if_f 0b0 ?_;subst hU;symm;walk_at "p1";refine Jo ha (λe=>?_) λne=>?_
   ·subst e;dsimp only;refine if_t rfl (m_mcp ?_)
    by_cases c:r=0
    ·rw[ju c];refine if_t rfl (Sd 0x0 pm.symm ?_);show R (.bl (eqP (.int (k:Nat)) (.int (inv (row.map (ixS jc)):Nat)))) n;rw[CP,Dg]
     by_cases c2:k=inv (row.map (ixS jc))
     ·rw[ju c2];exact h1 (.inr (.inl ⟨rfl,c,c2⟩))
     ·rw[jv c2];refine h0 λp=>?_;rcases p with⟨T,e,_⟩|⟨e,_,z⟩|⟨e,_⟩
      ·cases e
      ·exact c2 z
      ·exact absurd (PV.str.inj (Ax (PV.tup.inj e)).1) (by decide +kernel)
    ·rw[jv c];refine if_f rfl (h0 λp=>?_);rcases p with⟨T,e,_⟩|⟨e,z,_⟩|⟨e,_⟩
     ·cases e
     ·exact c z
     ·exact absurd (PV.str.inj (Ax (PV.tup.inj e)).1) (by decide +kernel)
   ·dsimp only;refine if_f rfl ?_;subst hU;walk_at "p1";refine Jo ha (λe=>?_) λne2=>if_f rfl (q1 ne ne2);subst e;dsimp only;rw[Rl,rl];refine if_t rfl (m_mcr ?_)
    by_cases c:jc.length<=s/\jc.length<=r+2
    ·rw[ju c];refine if_t rfl (m_rof (pm.nodup_iff.mpr nd) 0x0 pm.symm ?_);have sb:=MG (row:=row) (jc:=jc);rw[rl] at sb;show R (.bl (eqP (.int (k:Nat)) (.int ((jc.length:Int)-(rN row jc:Nat))))) n;rw[sb,CP,Dg]
     by_cases c2:k=jc.length-rN row jc
     ·rw[ju c2];exact h1 (.inr (.inr ⟨rfl,c,c2⟩))
     ·rw[jv c2];refine h0 λp=>?_;rcases p with⟨T,e,_⟩|⟨e,_⟩|⟨e,_,z⟩
      ·cases e
      ·exact ne (Ax (PV.tup.inj e)).1
      ·exact c2 z
    ·rw[jv c];refine if_f rfl (h0 λp=>?_);rcases p with⟨T,e,_⟩|⟨e,_⟩|⟨e,z,_⟩
     ·cases e
     ·exact ne (Ax (PV.tup.inj e)).1
     ·exact c z
  | [a, b] =>
   have ha:=hx a 0o0;have hb:=hx b 0o0
   have q1:¬(a=.str (B1 "table")/\jc.length<=5/\BY s r row jc L k b)->R (.bl false) n:=λz=>h0 λp=>by
    rcases p with⟨T,e,z2⟩|⟨e,_⟩|⟨e,_⟩
    ·cases e;exact z ⟨rfl,z2⟩
    ·cases e
    ·cases e
   symm;walk_at "p1";refine if_t rfl (if_f rfl ?_);subst hU;symm;walk_at "p1";subst hU;symm;walk_at "p1";refine if_t 0b0 (Jo ha (λe=>?_) λne=>if_f rfl (q1 λz=>ne z.1));subst e;dsimp only;rw[Rl,rl];refine if_t rfl (m_mht ?_)
   by_cases c:jc.length<=5
   ·rw[ju c];exact if_t rfl (SK l c hb (λg=>h1 (.inl ⟨b,rfl,c,g⟩)) λg=>q1 λz=>g z.2.2)
   ·rw[jv c];exact if_f rfl (q1 λz=>c z.2.1)
  | a :: b :: c :: ys =>
   walk_at "p1";refine if_t (ju 0x0) (if_t ?_ (no1 nofun nofun));rw[jv 0x0];rfl
 |_=>first|(cases hX;done)|(walk_at "p1";exact no1 nofun nofun)
end
end Tb
end
section
namespace Tb
open PySem L2 Pu
def mem12 (k:Nat):memP (.int (k:Int)) [.int 1,.int 2]=decide (k=1\/k=2):=by
 show(decide ((1:Int)=(k:Int))||(decide ((2:Int)=(k:Int))||false))=_;rw[P1,t7,Bool.or_eq_true,decide_eq_true_iff,decide_eq_true_iff,decide_eq_true_iff];ext
def SN {s r k k':Nat}{row o o':List Str}{T:PV}(h:LedV s r row T k o)(h':LedV s r row T k' o'):o=o':=by
 obtain⟨ps,e,_,_,l⟩:=h;obtain⟨qs,e',_,_,l'⟩:=h';have:ps=qs:=(ED λx y=>Jl).mp (PV.tup.inj (e.symm.trans e'));rw[this,l'] at l;exact(E7 l).symm
def Er (s r:Nat)(row jc L:List Str)(V:PV):Prop:=∃(k:Nat) (T X:PV),V=.tup [.int (k:Int),T,X]/\LedV s r row T k jc/\PapV s r row jc L k X
section
variable {s r n d k:Nat}{row jc L:List Str}{f:List Str->Nat}{X V:PV}{R:PV->Nat->Prop}
def SO (l:Lt s r row jc L f)(hX:okT (d + 2) X=true)(h1:PapV s r row jc L k X->R (.bl true) n)(h0:¬PapV s r row jc L k X->R (.bl false) n):IP [mtP s r,rowP row,rowP jc,.int (k:Int),X] n R:=by
 obtain⟨M,nd,pm,F,hS,pl⟩:=id l;have n8:=M.n8;have rl:=pm.length_eq;have Rl:(row.map PV.str).length=row.length:=B0 ..;mleft;unfold IN
 have no1:(∀a,X≠.tup [a])->(∀a b,X≠.tup [a,b])->R (.bl false) n:=λz1 z2=>h0 λp=>by
  rcases p with⟨T,e,_⟩|⟨e,_⟩|⟨e,_⟩
  ·exact z2 _ _ e
  ·exact z1 _ e
  ·exact z1 _ e
 cases X with
 | tup xs =>
  have hx:∀x∈xs,okT (d+1) x=true:=B7.mp hX
  match xs with
  |[]=>walk_at "p1";exact⟨rfl,rfl,if_t rfl (no1 nofun nofun)⟩
  | [a] =>
   have ha:=hx a 0o0
   have q1:a≠.str (B1 "pairs")->a≠.str (B1 "rounds")->R (.bl false) n:=λz1 z2=>h0 λp=>by
    rcases p with⟨T,e,_⟩|⟨e,_⟩|⟨e,_⟩
    ·cases e
    ·exact z1 (by cases e;rfl)
    ·exact z2 (by cases e;rfl)
   have a0:atI [a] 0=some a:=rfl;symm;walk_at "p1";subst hU;symm;walk_at "p1";refine⟨rfl,rfl,if_f rfl ?_⟩
   try rw[a0]
   try dsimp only
   cases a with
   | str z =>
    refine if_f 0b0 ?_;subst hU;symm;walk_at "p1";refine if_f rfl ?_;subst hU;symm;walk_at "p1"
    try rw[a0]
    try dsimp only
    rw[AG];refine gd1' rfl ?_
    by_cases cz:z=B1 "pairs"
    ·subst cz;refine if_t (ju rfl) ?_
     by_cases c:r=0
     ·refine if_t (ju 0x0) (Mn 0x0 pm.symm ?_);show R (.bl (eqP (.int (k:Nat)) (.int (inv (row.map (ixS jc)):Nat)))) n;rw[CP,Dg]
      by_cases c2:k=inv (row.map (ixS jc))
      ·rw[ju c2];exact h1 (.inr (.inl ⟨rfl,c,c2⟩))
      ·rw[jv c2];refine h0 λp=>?_;rcases p with⟨T,e,_⟩|⟨e,_,z⟩|⟨e,_⟩
       ·cases e
       ·exact c2 z
       ·exact absurd (PV.str.inj (Ax (PV.tup.inj e)).1) (by decide +kernel)
     ·refine if_f (jv 0x0) (h0 λp=>?_);rcases p with⟨T,e,_⟩|⟨e,z,_⟩|⟨e,_⟩
      ·cases e
      ·exact c z
      ·exact absurd (PV.str.inj (Ax (PV.tup.inj e)).1) (by decide +kernel)
    ·refine if_f (jv cz) ?_;subst hU;walk_at "p1"
     try rw[a0]
     try dsimp only
     rw[AG];refine gd1' rfl ?_
     by_cases cr:z=B1 "rounds"
     ·subst cr;refine if_t (ju rfl) ?_
      by_cases c:jc.length<=s/\jc.length<=r+2
      ·refine if_t (ju (by rw[Rl];split <;> ext)) (m_lrof (pm.nodup_iff.mpr nd) 0x0 pm.symm ?_)
       have sb:=MG (row:=row) (jc:=jc);rw[rl] at sb
       try dsimp only
       rw[Rl,rl,sb,Dg]
       by_cases c2:k=jc.length-rN row jc
       ·rw[ju c2];exact h1 (.inr (.inr ⟨rfl,c,c2⟩))
       ·rw[jv c2];refine h0 λp=>?_;rcases p with⟨T,e,_⟩|⟨e,_⟩|⟨e,_,z⟩
        ·cases e
        ·exact cz (PV.str.inj (Ax (PV.tup.inj e)).1)
        ·exact c2 z
      ·refine if_f (jv (by rw[Rl];split <;> ext)) (h0 λp=>?_)
       rcases p with⟨T,e,_⟩|⟨e,_⟩|⟨e,z,_⟩
       ·cases e
       ·exact cz (PV.str.inj (Ax (PV.tup.inj e)).1)
       ·exact c z
     ·exact if_f (jv cr) (q1 (λe=>cz (PV.str.inj e)) λe=>cr (PV.str.inj e))
   |_=>cases d <;> first|(cases ha;done)|exact if_t rfl (q1 nofun nofun)
  | [a, b] =>
   have ha:=hx a 0o0;have hb:=hx b 0o0
   have q1:¬(a=.str (B1 "table")/\jc.length<=5/\BY s r row jc L k b)->R (.bl false) n:=λz=>h0 λp=>by
    rcases p with⟨T,e,z2⟩|⟨e,_⟩|⟨e,_⟩
    ·cases e;exact z ⟨rfl,z2⟩
    ·cases e
    ·cases e
   have a0:atI [a,b] 0=some a:=rfl;have a1:atI [a,b] 1=some b:=rfl;symm;walk_at "p1";subst hU;symm;walk_at "p1";refine⟨rfl,rfl,if_f rfl ?_⟩
   try rw[a0]
   try dsimp only
   cases a with
   | str z =>
    refine if_f 0b0 ?_;subst hU;symm;walk_at "p1";refine if_t rfl ?_
    try rw[a0]
    try dsimp only
    skip
    skip
    by_cases cz:z=B1 "table"
    ·subst cz;refine if_t (ju rfl) ?_
     by_cases c:jc.length<=5
     ·refine if_t (ju (by rw[Rl];ext)) ?_
      try rw[a1]
      try dsimp only
      exact SL l c hb (λg=>h1 (.inl ⟨b,rfl,c,g⟩)) λg=>q1 λz=>g z.2.2
     ·exact if_f (jv (by rw[Rl];ext)) (q1 λz=>c z.2.1)
    ·exact if_f (jv cz) (q1 λq=>cz (PV.str.inj q.1))
   |_=>cases d <;> first|(cases ha;done)|exact if_t rfl (q1 λq=>nomatch q.1)
  | a :: b :: c :: ys =>
   walk_at "p1";refine⟨rfl,rfl,if_t ?_ (no1 nofun nofun)⟩;have:=mem12 (ys.length+1+1+1);rw[jv 0x0] at this;rw[show(!memP (.int ((ys.length+1+1+1:Nat):Int)) [.int 1,.int 2])=!false from congrArg _ this]
   rfl
 |_=>first|(cases hX;done)|(walk_at "p1";exact no1 nofun nofun)
end
end Tb
end
section
namespace Tb
open PySem L2 Pu
section
variable {s r n d:Nat}{row jc L:List Str}{f:List Str->Nat}{V:PV}{R:PV->Nat->Prop}
theorem Jp {x:PV}:∀{xs:List PV},x∈xs->cost x<=C2 xs
 | y :: xs, h => by
  show cost x<=cost y+2+C2 xs;rcases B9.mp h with rfl|h
  ·ext
  ·have:=Jp h;ext
def SQ (l:Lt s r row jc L f)(hb:∀z∈row,i9 z)(hV:okT (d+3) V=true)(hc:cost V<=900000)(h1:Er s r row jc L V->R (.bl true) n)(h0:¬Er s r row jc L V->R (.bl false) n):Eg [mtP s r,rowP row,rowP jc,V] n R:=by
 have Mr:Mt s r row.length:=by rw[l.pm.length_eq];exact l.M
 mleft;unfold IL;symm;cases V with
 | tup xs =>
  have hx:∀x∈xs,okT (d+2) x=true:=B7.mp hV;have no3:xs.length≠3->R (.bl false) n:=λz=>h0 λ⟨k,T,X,e,_⟩=>z (by cases e;rfl)
  by_cases c3:xs.length=3
  ·match xs,c3 with
   | [a, T, X], _ =>
    have ha:=hx a 0o0;have hT:=hx T 0o0;have hX:=hx X 0o0
    have cT:cost T<=900000:=by
     have:=Jp (show T∈[a,T,X] by simp);have:C2 [a,T,X]+3<=900000:=hc;ext
    have mt:=λ(R:PV->Nat->Prop) q1 q2=>SI (s:=s) (r:=r) (n:=n) (R:=R) (jc:=jc) (T:=T) Mr hb hT cT q1 q2;have mw:=λ(hi:Int) (R:PV->Nat->Prop) q=>MD (T:=a) (lo:=hi) (hi:=hi) (n:=n) (R:=R) ha q;walk_at "p1";refine if_f rfl ?_;subst hU;symm;walk_at "p1";subst hU;symm;walk_at "p1";refine mt _ (λk ys eT lk hl=>?_) λz=>if_t rfl (h0 λ⟨k,T',X',e,q,_⟩=>z k (by cases e;exact q));subst eT;dsimp only;refine if_f rfl ?_;walk_at "p1";refine mw _ _ λc hc=>?_;cases c with
    | false =>
     refine if_t rfl (h0 λ⟨k',T',X',e,q,_⟩=>?_);cases e;refine nomatch hc.mpr ⟨_,rfl,?_⟩
     obtain⟨ps,e1,e2,_⟩:=q;obtain⟨qs,e3,e4,_⟩:=hl;cases e1;rw[B0];ext
    | true =>
     obtain⟨j,rfl,j1,j2⟩:=hc.mp rfl;have ej:j=(k:Int):=by rw[<- lk];ext
     subst ej;refine if_f rfl ?_;subst hU;walk_at "p1";exact SM l hX (λp=>h1 ⟨k,_,X,rfl,hl,p⟩) λp=>h0 λ⟨k',T',X',e,_,q⟩=>p (by cases e;exact q)
  ·walk_at "p1";exact if_t (by rw[jv 0x0];rfl) (no3 c3)
 |_=>first|(cases hV;done)|(walk_at "p1";exact h0 λ⟨k,T,X,e,_⟩=>nomatch e)
def SU (l:Lt s r row jc L f)(hV:okT (d + 3) V=true)(hc:cost V<=900000)(h1:Er s r row jc L V->R (.bl true) n)(h0:¬Er s r row jc L V->R (.bl false) n):Eh [mtP s r,rowP row,rowP jc,V] n R:=by
 have Mr:Mt s r row.length:=by rw[l.pm.length_eq];exact l.M
 mleft;unfold IS;have er:=λst=>FV st jc;have cs:=λst:List Str=>Bp st 3;symm;cases V with
 | tup xs =>
  have hx:∀x∈xs,okT (d+2) x=true:=B7.mp hV;have no3:xs.length≠3->R (.bl false) n:=λz=>h0 λ⟨k,T,X,e,_⟩=>z (by cases e;rfl)
  by_cases c3:xs.length=3
  ·match xs,c3 with
   | [a, T, X], _ =>
    have ha:=hx a 0o0;have hT:=hx T 0o0;have hX:=hx X 0o0
    have cT:cost T<=900000:=by
     have:=Jp (show T∈[a,T,X] by simp);have:C2 [a,T,X]+3<=900000:=hc;ext
    have ml:=λ(R:PV->Nat->Prop) q1 q2=>SJ (s:=s) (r:=r) (n:=n) (R:=R) (T:=T) Mr hT cT q1 q2;have mp:=λ(k:Nat)=>SO (k:=k) (n:=n) (R:=R) l hX;have no:(∀(k:Nat),a=.int (k:Int)->LedV s r row T k jc->False)->R (.bl false) n:=λz=>h0 λ⟨k,T',X',e,q,_⟩=>z k (by cases e;rfl) (by cases e;exact q);cases a with
    | int j =>
     walk_at "p1"
     repeat refine if_f rfl ?_
     subst hU;symm;cases T with
     | tup ys =>
      walk_at "p1"
      by_cases cj:(ys.length:Int)=j
      ·refine if_f (by rw[ju cj];rfl) (ml _ (λk st hl=>?_) λz=>?_)
       ·have kl:k=ys.length:=by obtain⟨ps,e1,e2,_⟩:=hl;cases e1;rw[B0];exact e2.symm
        subst kl cj;have hO:rowP jc=.tup (jc.map PV.str):=rfl;have co:=cs jc;have es:=er st;have mpk:=mp ys.length;rw[hO] at mpk ⊢;generalize hOO:jc.map PV.str=OO at *;refine gd2 (cs st) co ?_;rw[show eqP (rowP st) (.tup OO)=eqPs (st.map PV.str) OO from rfl,es]
        by_cases e:st=jc
        ·subst e;refine if_f (by rw[ju rfl];rfl) ?_;subst hU;walk_at "p1";exact mpk (λp=>h1 ⟨_,_,X,rfl,hl,p⟩) λp=>h0 λ⟨k',T',X',e,_,q⟩=>p (by cases e;exact q)
        ·exact if_t (by rw[jv e];rfl) (no λk _ q=>e (SN hl q))
       ·exact gd2 rfl (cs jc) (if_t rfl (no λk _ q=>z _ _ q))
      ·refine if_t (by rw[jv cj];rfl) (no λk e q=>?_);obtain⟨ps,e1,e2,_⟩:=q;cases e1;cases e;exact cj (by rw[B0];ext)
     |_=>first|(cases hT;done)|(walk_at "p1";exact no λk _ ⟨ps,e,_⟩=>nomatch e)
    |_=>first|(cases ha;done)|(walk_at "p1";repeat (first|exact no nofun|exact if_t rfl (no nofun)|refine if_f rfl ?_))
  ·walk_at "p1";exact if_t (by rw[jv 0x0];rfl) (no3 c3)
 |_=>first|(cases hV;done)|(walk_at "p1";exact h0 λ⟨k,T,X,e,_⟩=>nomatch e)
end
end Tb
end
section
namespace Tb
open PySem L2 Pu
theorem j7:∀a b:List PV,C2 (a++b)=C2 a+C2 b
 |[],b=>(G0 _).symm
 |x::a,b=>by show cost x+2+C2 (a++b)=cost x+2+C2 a+C2 b;rw[j7 a b];ext
def ow:Nat->PV->Bool
 |_,.int i=>decide (i.natAbs<=1000)
 |_,.str z=>(z.cps.all λc=>decide (c<128))&&decide (1<=z.length/\z.length<=20)
 |d+1,.tup xs=>xs.all (ow d)
 |_,_=>false
def Ga {d:Nat}{z:Str}(h:ow d (.str z)=true):(∀c∈z.cps.toList,c<128)/\1<=z.length/\z.length<=20:=by
 have h:((z.cps.all λc=>decide (c<128))&&decide (1<=z.length/\z.length<=20))=true:=by cases d <;> exact h
 rw[M2,decide_eq_true_iff,<- EM,B7] at h;exact⟨λc hc=>jz (h.1 c hc),h.2⟩
def MH {d:Nat}{i:Int}(h:ow d (.int i)=true):i.natAbs<=1000:=jz (show decide (i.natAbs<=1000)=true by cases d <;> exact h)
def Dh {z:Str}(h1:∀c∈z.cps.toList,c<128)(h2:z.length<=1000):ascS z=true:=by
 unfold ascS;rw[M2,decide_eq_true_iff,<- EM,B7];exact⟨λc hc=>ju (h1 c hc),h2⟩
def BZ {z:Str}(h1:∀c∈z.cps.toList,c<128):shw (.str z):=λc hc=>Dz (h1 c hc) 0b0
def MI {i:Int}(h:i.natAbs<=2000):shw (.int i):=At h (by decide +kernel)
theorem O5:∀{d:Nat} {T:PV},ow d T=true->(∀e,okT e T=true)/\shw T/\dep T<=d/\cmpb d T=true
 |d,.int i,h=>⟨λe=>by cases e <;> rfl,MI (by have:=MH h;ext),C8 _,by cases d <;> rfl⟩
 |d,.str z,h=>⟨λe=>by rw[BW];exact Dh (Ga h).1 (by have:=(Ga h).2;ext),BZ (Ga h).1,C8 _,by cases d <;> rfl⟩
 | d + 1, .tup xs, h => by
  have hx:∀x∈xs,ow d x=true:=B7.mp h;refine⟨λe=>?_,CS _ λx hx'=>(O5 (hx x hx')).2.1,?_,B7.mpr λx hx'=>(O5 (hx x hx')).2.2.2⟩
  ·cases e with
   |zero=>rfl
   |succ e=>exact B7.mpr λx hx'=>(O5 (hx x hx')).1 e
  ·have:=CT d xs λx hx'=>(O5 (hx x hx')).2.2.1;show deps xs+1<=d+1;ext
 |0,.tup xs,h=>nomatch h
 |0,.non,h=>nomatch h
 |0,.bl _,h=>nomatch h
 |0,.ty _,h=>nomatch h
 |0,.pot _,h=>nomatch h
 |0,.lst _,h=>nomatch h
 |0,.dct _ _,h=>nomatch h
 |0,.scr _,h=>nomatch h
 |0,.fdt _ _,h=>nomatch h
 |d+1,.non,h=>nomatch h
 |d+1,.bl _,h=>nomatch h
 |d+1,.ty _,h=>nomatch h
 |d+1,.pot _,h=>nomatch h
 |d+1,.lst _,h=>nomatch h
 |d+1,.dct _ _,h=>nomatch h
 |d+1,.scr _,h=>nomatch h
 |d+1,.fdt _ _,h=>nomatch h
structure Sp (d c:Nat)(Y:PV):Prop where
 ok:∀e,okT e Y=true
 sh:shw Y
 de:dep Y<=d+2
 co:cost Y<=2*c+12000
theorem Sp.str {d c:Nat}{y:Str}(h:shS y):Sp d c (.str y):=⟨λe=>by rw[BW];exact Dh h.2 h.1,BZ h.2,C8 _,by show 10*y.length+2<=_;have:=h.1;ext⟩
def Es {y:Str}(h1:y.length<=20)(h2:(y.cps.toList.all λc=>decide (c<128))=true):shS y:=⟨0x0,λc hc=>jz (B7.mp h2 c hc)⟩
def Sp.tups {d c:Nat}{y:Str}(h1:y.length<=20)(h2:(y.cps.toList.all λc=>decide (c<128))=true):Sp d c (.tup [.str y]):=by
 have h:=Es h1 h2;refine⟨λe=>?_,⟨BZ h.2,trivial⟩,?_,?_⟩
 ·cases e with
  |zero=>rfl
  |succ e=>show(okT e (.str y)&&true)=true;rw[BW,Dh h.2 h.1];rfl
 ·show max 0 0+1<=_;ext
 ·show 10*y.length+2+2+0+3<=_;ext
theorem Sp.int {d c:Nat}{i:Int}(h:i.natAbs<10 ^ 60):Sp d c (.int i):=⟨λe=>by cases e <;> rfl,h,C8 _,by show 61<=_;ext⟩
def Jq {q n d c:Nat}{R:PV->Nat->Prop}(hn:n<1000000000)(h:∀Y,Sp d c Y->R Y (n+1)):o7 [.pot q] n R:=by
 mleft;unfold IT;symm;walk_at "p1";subst hU;refine⟨by unfold CPow;decide +kernel,?_⟩;generalize hA:([PV.non,PV.bl true,PV.bl false,PV.int 0,PV.int 1,PV.int (-1),PV.int (10 ^ x6 30),PV.str (B1 ""),PV.str (B1 "pairs"),PV.str (B1 "table"),PV.tup [],PV.lst [],PV.dct [] [],PV.tup [PV.str (B1 "a"),PV.str (B1 "b")],PV.tup [PV.tup []],PV.str (B1 "a")]:List PV)=AN;have al:AN.length=16:=by rw[<- hA];rfl
 walk_at "p1";refine⟨0x0,0x0,λt t0 t1=>?_⟩;obtain⟨v,hv,ev⟩:=Bo (xs:=AN++[PV.tup [PV.str (B1 "rounds")]]) t0 (by rw[D3,al];exact t1);rw[ev];refine h v ?_;have bl:∀b,Sp d c (.bl b):=λb=>⟨λe=>by cases e <;> rfl,trivial,C8 _,by show 5<=_;ext⟩
 have st:∀z:Str,(decide (z.length<=20)&&(z.cps.toList.all λc=>decide (c<128)))=true->Sp d c (.str z):=λz e=>by
  rw[M2,decide_eq_true_iff] at e;exact Sp.str (Es e.1 e.2)
 rw[<- hA] at hv;simp only[R6,N7,B9,R5,or_false] at hv;rcases hv with rfl|rfl|rfl|rfl|rfl|rfl|rfl|rfl|rfl|rfl|rfl|rfl|rfl|rfl|rfl|rfl|rfl
 ·exact⟨λe=>by cases e <;> rfl,trivial,C8 _,by show 4<=_;ext⟩
 ·exact bl _
 ·exact bl _
 ·exact Sp.int (by decide +kernel)
 ·exact Sp.int (by decide +kernel)
 ·exact Sp.int (by decide +kernel)
 ·exact Sp.int (by decide +kernel)
 ·exact st _ (by decide +kernel)
 ·exact st _ (by decide +kernel)
 ·exact st _ (by decide +kernel)
 ·exact⟨λe=>by cases e <;> rfl,trivial,by show 0+1<=_;omega,by show 0+3<=_;ext⟩
 ·exact⟨λe=>by cases e <;> rfl,trivial,by show 0+1<=_;omega,by show 0+3<=_;ext⟩
 ·refine⟨λe=>by cases e <;> rfl,⟨nofun,trivial⟩,?_,?_⟩
  ·show 0+1<=_;ext
  ·show(([]:List Key).map λk=>CQ k+4).sum+0+3<=_;simp
 ·have a:=Es (y:=B1 "a") (by decide +kernel) (by decide +kernel);have b:=Es (y:=B1 "b") (by decide +kernel) (by decide +kernel);refine⟨λe=>?_,⟨BZ a.2,BZ b.2,trivial⟩,by show max 0 (max 0 0)+1<=_;omega,?_⟩
  ·cases e with
   |zero=>rfl
   |succ e=>show(okT e (.str _)&&(okT e (.str _)&&true))=true;rw[BW,BW,Dh a.2 a.1,Dh b.2 b.1];rfl
  ·show(10*(B1 "a").length+2)+2+((10*(B1 "b").length+2)+2+0)+3<=_;have:=a.1;rw[show(B1 "a").length=1 by decide +kernel,show(B1 "b").length=1 by decide +kernel];ext
 ·refine⟨λe=>?_,⟨trivial,trivial⟩,by show max (0+1) 0+1<=_;omega,by show(0+3)+2+0+3<=_;ext⟩;cases e with
  |zero=>rfl
  |succ e=>show(okT e (.tup [])&&true)=true;cases e <;> rfl
 ·exact st _ (by decide +kernel)
 ·exact Sp.tups (by decide +kernel) (by decide +kernel)
end Tb
end
section
namespace Tb
open PySem L2 Pu
def SV {q n d c:Nat}{T:PV}{R:PV->Nat->Prop}(hT:ow d T=true)(hc:cost T=c)(nt:∀xs,T≠.tup xs)(hn:n<999999990)(h:∀Y n',Sp d c Y->n'<=n+2->R Y n'):IV [.pot q,T] n R:=by
 subst hc;mleft;unfold IU;have la:=λ(m:Nat) (hm:m<1000000000) (R:PV->Nat->Prop) q'=>Jq (q:=q) (n:=m) (d:=d) (c:=cost T) (R:=R) hm q';symm;cases T with
 | int i =>
  have hi:=MH hT
  have one:Sp d (cost (.int i)) (.tup [.int i]):=by
   refine⟨λe=>?_,⟨MI 0x0,trivial⟩,by show max 0 0+1<=_;omega,by show 61+2+0+3<=_;ext⟩;cases e with
   |zero=>rfl
   |succ e=>show(okT e (.int i)&&true)=true;cases e <;> rfl
  have ii:∀j:Int,j.natAbs<=1001->Sp d (cost (.int i)) (.int j):=λj hj=>Sp.int (At hj (by decide +kernel));have bl:∀b,Sp d (cost (.int i)) (.bl b):=λb=>⟨λe=>by cases e <;> rfl,trivial,C8 _,by show 5<=_;ext⟩
  walk_at "p1";refine⟨At hi (by decide +kernel),λy hy=>?_⟩;refine la n 0x0 _ λY sY=>?_
  try dsimp only
  refine⟨0x0,λt t0 t1=>?_⟩;obtain⟨v,hv,ev⟩:=Bo (xs:=[PV.int (i+1),.int (i-1),.bl (decide (i=1)),.str y,.tup [.int i],Y]) t0 t1;rw[ev];refine h v _ ?_ 0x0;simp only[B9,R5,or_false] at hv;rcases hv with rfl|rfl|rfl|rfl|rfl|rfl
  ·exact ii _ 0x0
  ·exact ii _ 0x0
  ·exact bl _
  ·exact Sp.str hy
  ·exact one
  ·exact sY
 | str z =>
  obtain⟨z1,z0,z2⟩:=Ga hT;have zs:shS z:=⟨0x0,z1⟩
  have one:∀k,Sp d (cost (.str z)) (if k=0 then .tup [.str z] else .lst [.str z]):=λk=>by
   by_cases ck:k=0
   ·rw[jw ck];refine⟨λe=>?_,⟨BZ z1,trivial⟩,by show max 0 0+1<=_;omega,by show cost (.str z)+2+0+3<=_;ext⟩;cases e with
    |zero=>rfl
    |succ e=>show(okT e (.str z)&&true)=true;rw[BW,Dh z1 0x0];rfl
   ·rw[jy ck];exact⟨λe=>by cases e <;> rfl,⟨BZ z1,trivial⟩,by show max 0 0+1<=_;omega,by show cost (.str z)+2+0+3<=_;ext⟩
  walk_at "p1";subst hU;symm;walk_at "p1";refine⟨by rw[show(B1 "a").length=1 by decide +kernel];omega,0x0,?_⟩;unfold HM qV;dsimp only[O6,P9];refine⟨zs,λy hy=>?_⟩;walk_at "p1";refine la n 0x0 _ λY sY=>?_
  try dsimp only
  refine⟨0x0,λt t0 t1=>?_⟩;obtain⟨v,hv,ev⟩:=Bo (xs:=[PV.str (z++B1 "a"),.str (Ay z (some 1) none),.str y,.tup [.str z],.lst [.str z],Y]) t0 t1;rw[ev];refine h v _ ?_ 0x0;simp only[B9,R5,or_false] at hv;have ca:(z++B1 "a").cps.toList=z.cps.toList++(B1 "a").cps.toList:=BJ ..;have a1:=Es (y:=B1 "a") (by decide +kernel) (by decide +kernel);have l1:(B1 "a").cps.toList.length=1:=by decide +kernel
  have cs:=Pt z (p:=1) z0;rcases hv with rfl|rfl|rfl|rfl|rfl|rfl
  ·refine Sp.str ⟨?_,λc hc=>?_⟩
   ·rw[l9,ca,D3,l1,<- l9];ext
   ·rw[ca] at hc;exact(D6.mp hc).elim (z1 c) (a1.2 c)
  ·refine Sp.str ⟨?_,λc hc=>z1 c (EC (by rw[<- cs];exact hc))⟩;rw[l9,show(some (1:Int))=some ((1:Nat):Int) from rfl,cs,V3,<- l9];ext
  ·exact Sp.str hy
  ·exact one 0
  ·exact one 1
  ·exact sY
 |tup xs=>exact absurd rfl (nt xs)
 |_=>cases d <;> cases hT
end Tb
end
section
namespace Tb
open PySem L2 Pu
def split_at {α:Type}{xs:List α}{i:Nat}{x:α}(h:xs[i]?=some x):xs=xs.take i++x::xs.drop (i+1):=Jm h
def sp_tup {d:Nat}{xs ys:List PV}(hx:∀x∈xs,ow d x=true)(hm:∀y∈ys,y∈xs)(hc:C2 ys<=2*C2 xs):Sp (d+1) (cost (.tup xs)) (.tup ys):=by
 refine⟨λe=>?_,CS _ λy hy=>(O5 (hx y (hm y hy))).2.1,?_,?_⟩
 ·cases e with
  |zero=>rfl
  |succ e=>exact B7.mpr λy hy=>(O5 (hx y (hm y hy))).1 e
 ·have:=CT d ys λy hy=>(O5 (hx y (hm y hy))).2.2.1;show deps ys+1<=d+1+2;ext
 ·show C2 ys+3<=2*(C2 xs+3)+12000;ext
def MJ {d c:Nat}{xs A B:List PV}{Y:PV}(hx:∀x∈xs,ow d x=true)(hA:∀y∈A,y∈xs)(hB:∀y∈B,y∈xs)(sY:Sp d c Y)(hc:C2 A+C2 B+2*c<=2*C2 xs):Sp (d+1) (cost (.tup xs)) (.tup (A++[Y]++B)):=by
 have m:∀y∈A++[Y]++B,y=Y\/y∈xs:=λy hy=>by
  rcases D6.mp hy with hy|hy
  ·rcases D6.mp hy with hy|hy
   ·exact .inr (hA y hy)
   ·exact .inl (E2.mp hy)
  ·exact .inr (hB y hy)
 refine⟨λe=>?_,CS _ λy hy=>(m y hy).elim (λe=>by rw[e];exact sY.sh) λq=>(O5 (hx y q)).2.1,?_,?_⟩
 ·cases e with
  |zero=>rfl
  |succ e=>exact B7.mpr λy hy=>(m y hy).elim (λq=>by rw[q];exact sY.ok e) λq=>(O5 (hx y q)).1 e
 ·have:=CT (d+2) (A++[Y]++B) λy hy=>(m y hy).elim (λe=>by rw[e];exact sY.de) λq=>by have:=(O5 (hx y q)).2.2.1;ext
  show deps (A++[Y]++B)+1<=d+1+2;ext
 ·have:=sY.co;show C2 (A++[Y]++B)+3<=2*(C2 xs+3)+12000;rw[j7,j7];show _+(cost Y+2+0)+_+3<=_;ext
theorem Jr:∀xs:List PV,C2 xs.reverse=C2 xs
 |[]=>rfl
 |x::xs=>by rw[Dp,j7,Jr xs];show C2 xs+(cost x+2+0)=cost x+2+C2 xs;ext
def Js (xs:List PV)(k:Nat):C2 (xs.take k)<=C2 xs:=by
 have:=j7 (xs.take k) (xs.drop k);rw[AT] at this;omega
def Jt (xs:List PV)(k:Nat):C2 (xs.drop k)<=C2 xs:=by
 have:=j7 (xs.take k) (xs.drop k);rw[AT] at this;omega
def SY (xs:List PV)(lo hi:Option Int):C2 (cutP xs lo hi)<=C2 xs:=E6 (Js _ _) (Jt _ _)
theorem MK {q:Nat}:∀{f d:Nat} {T:PV} {m:Nat} {R:PV->Nat->Prop},d < f->d<=3->ow d T=true->cost T<=100000->m + 5 * f<=999000000->(∀Y m',Sp d (cost T) Y->m'<=m + 5 * f->R Y m')->Df f [.pot q,T] m R
 |0,d,T,m,R,hd,_,_,_,_,_=>absurd hd (Nat.not_lt_zero _)
 | f + 1, d, T, m, R, hd, d3, ho, hk, hm, h => by
  mleft;have ih:=λd' T' m' (R':PV->Nat->Prop)=>@MK q f d' T' m' R';show IW (Df f) _ _ _;generalize Df f=B at *;unfold IW;symm;cases T with
  | tup xs =>
   cases d with
   |zero=>cases ho
   | succ d =>
    have hx:∀x∈xs,ow d x=true:=B7.mp ho;have hk':C2 xs+3<=100000:=hk;have xl:xs.length<=100000:=by have:=F_ xs;ext
    have hc4:cmpb 4 (.tup xs)=true:=by
     have h0:=(O5 ho).2.2.2
     have mono:∀{d:Nat} {x:PV},cmpb d x=true->cmpb (d+1) x=true:=λ{d}=>by
      induction d with
      |zero=>intro x h;cases x <;> first|exact h|cases h
      | succ d ih =>
       intro x h;cases x with
       |tup xs=>exact B7.mpr λy hy=>ih (B7.mp h y hy)
       |lst xs=>exact B7.mpr λy hy=>ih (B7.mp h y hy)
       |_=>exact h
     have:d=0\/d=1\/d=2:=0x0
     rcases this with rfl|rfl|rfl
     ·exact mono (mono (mono h0))
     ·exact mono (mono h0)
     ·exact mono h0
    have fin:∀(U:pS),U=(qSeq (qPar 3 2 (sV (A8 D8 (A0 (qV 0) (A0 (qC (.int 7)) qNil)))) (sV (A8 D8 (A0 (qV 0) (A0 (qOp wAdd (qUn wLen (qV 1)) (qC (.int 1))) qNil)))))
        (qSeq (qIfS (qB (qOp (wEq 4) (qV 3) (qC (.int 0)))) (qRet (qOp wAdd (qOp wAdd (qSl (qV 1) qNo (D5 (qV 2))) (qTup (A0 (A8 o7 (A0 (qV 0) qNil)) qNil))) (qSl (qV 1) (D5 (qV 2)) qNo))) qNx)
        (qSeq (qIfS (qB (qOp wLt (qV 3) (qC (.int 3)))) (qRet (qOp wIx (qL (qLst (A0 (qL (N3 (qV 1))) (A0 (qUn wRev (qV 1)) qNil)))) (qOp wSub (qV 3) (qC (.int 1))))) qNx)
        (qSeq (qSet 4 (qOp wAdd (qOp wAdd (qSl (qV 1) qNo (D5 (qV 2))) (qUn wRev (qSl (qV 1) (D5 (qV 2)) (D5 (qOp wAdd (qV 2) (qC (.int 2))))))) (qSl (qV 1) (D5 (qOp wAdd (qV 2) (qC (.int 2)))) qNo)))
        (qSeq (qSet 5 (qL (qLst (A0 (qOp wAdd (qSl (qV 1) qNo (D5 (qV 2))) (qSl (qV 1) (D5 (qOp wAdd (qV 2) (qC (.int 1)))) qNo)) (A0 (qOp wAdd (qOp wAdd (qSl (qV 1) qNo (D5 (qV 2))) (qSl (qV 1) (D5 (qV 2)) (D5 (qOp wAdd (qV 2) (qC (.int 1)))))) (qSl (qV 1) (D5 (qV 2)) qNo)) (A0 (qV 4) qNil))))))
        (qRet (qOp wIx (qL (qCat (qV 5) (qL (qLst (A0 (A8 o7 (A0 (qV 0) qNil)) qNil))))) (qOp wSub (qV 3) (qC (.int 3))))))))))->∀m',m'<=m+1->∀s3:Option Pu.Slot,U { nx:=λ_ m=>R PV.non m,rt:=R,bk:=λ_ _=>False,ct:=λ_ _=>False } [some (.v (.pot q)),some (.v (.tup xs)),s3,none,none,none] m':=λU hU m' hm' s3=>by
      subst hU;symm;walk_at "p1";refine⟨0x0,λw w0 w1=>⟨⟨0x0,0x0,0x0⟩,λa a0 a1=>?_⟩⟩;obtain⟨j,rfl⟩:=A_ a0;have jl:j<=xs.length:=0x0
      have cb:C2 xs=C2 (xs.take j)+C2 (xs.drop j):=by rw[<- j7,AT]
      have tm:∀y∈xs.take j,y∈xs:=λy hy=>i5 hy;have dm:∀k,∀y∈xs.drop k,y∈xs:=λk y hy=>EC hy;have c1:=HG xs j;have c2:cutP xs (some ((j:Int)+1)) none=xs.drop (j+1):=C_ xs (j+1);have c3:=C_ xs j;have k1:=λlo hi=>SY xs lo hi;have k2:=λlo hi=>@O_ PV xs lo hi;have l1:(xs.take j).length<=xs.length:=by rw[l6];ext
      have l2:(xs.drop (j+1)).length<=xs.length:=by rw[V3];ext
      have l3:(xs.drop j).length<=xs.length:=by rw[V3];ext
      have lc:∀lo hi,(cutP xs lo hi).length<=xs.length:=λlo hi=>by unfold cutP;rw[l6,V3];ext
      have any:=λ(m:Nat) (hm:m<1000000000) (R:PV->Nat->Prop) q'=>Jq (q:=q) (n:=m) (d:=d) (c:=0) (R:=R) hm q';have ins:∀Y n',Sp d 0 Y->n'<=m+5*(f+1)->R (.tup (xs.take j++[Y]++xs.drop j)) n':=λY n' sY hn=>h _ _ (MJ hx tm (dm j) sY 0x0) hn;have whole:∀zs:List PV,(∀y∈zs,y∈xs)->C2 zs<=2*C2 xs->∀n',n'<=m+5*(f+1)->R (.tup zs) n':=λzs h1 h2 n' hn=>h _ _ (sp_tup hx h1 h2) hn
      have lst:∀n',n'<=m+5*(f+1)->R (.lst xs) n':=λn' hn=>h _ _ ⟨λe=>by cases e <;> rfl,CS _ λy hy=>(O5 (hx y hy)).2.1,by
       have:=CT d xs λy hy=>(O5 (hx y hy)).2.2.1;show deps xs+1<=d+1+2
       omega,by show C2 xs+3<=2*(C2 xs+3)+12000;ext⟩ hn
      have w1':=whole (xs.reverse) (λy hy=>List.mem_reverse.mp hy) (by rw[Jr];ext);have w3:=whole (xs.take j++xs.drop (j+1)) (λy hy=>(D6.mp hy).elim (tm y) (dm _ y)) (by rw[j7];have:=Js xs j;have:=Jt xs (j+1);ext);have w4:=whole (xs.take j++cutP xs (some (j:Int)) (some ((j:Int)+1))++xs.drop j) (λy hy=>(D6.mp hy).elim (λq=>(D6.mp q).elim (tm y) (k2 _ _ y)) (dm _ y)) (by rw[j7,j7];have:=k1 (some (j:Int)) (some ((j:Int)+1));ext)
      have w5:=whole (xs.take j++(cutP xs (some (j:Int)) (some ((j:Int)+2))).reverse++cutP xs (some ((j:Int)+2)) none) (λy hy=>(D6.mp hy).elim (λq=>(D6.mp q).elim (tm y) λr=>k2 _ _ y (List.mem_reverse.mp r)) (k2 _ _ y)) (by
       rw[j7,j7,Jr]
       have a1:C2 (cutP xs (some (j:Int)) (some ((j:Int)+2)))<=C2 (xs.drop j):=by
        rw[<- c3]
        have e:cutP xs (some (j:Int)) none=xs.drop (HT.sIx xs.length 0 (some (j:Int))):=by
         unfold cutP;exact k9 (by rw[V3];exact B3 _)
        rw[e];exact Js _ _
       have a2:C2 (cutP xs (some ((j:Int)+2)) none)<=C2 (xs.drop j):=by
        rw[show((j:Int)+2)=((j+2:Nat):Int) from rfl,C_,show j+2=j+2 from rfl,<- List.drop_drop];exact Jt _ _
       ext)
      have anyR:∀Y n',Sp d 0 Y->n'<=m+5*(f+1)->R Y n':=λY n' sY hn=>h _ _ ⟨sY.ok,sY.sh,by have:=sY.de;omega,by have:=sY.co;omega⟩ hn;clear h;have ls:=λlo hi=>lc lo hi;generalize hC5:cutP xs (some (j:Int)) (some ((j:Int)+2))=C5 at *;generalize hC4:cutP xs (some ((j:Int)+2)) none=C4 at *;generalize hC6:cutP xs (some (j:Int)) (some ((j:Int)+1))=C6 at *;have g5:C5.length<=xs.length:=by rw[<- hC5];exact lc _ _
      have g4:C4.length<=xs.length:=by rw[<- hC4];exact lc _ _
      have g6:C6.length<=xs.length:=by rw[<- hC6];exact lc _ _
      generalize hA:xs.take j=A at *;generalize hD:xs.drop (j+1)=D at *;generalize hE:xs.drop j=E at *;subst hU;symm;walk_at "p1";rw[c1,c3]
      by_cases v0:w=0
      ·refine if_t (ju v0) (any _ 0x0 _ λY sY=>⟨0x0,by rw[D3,Z9];omega,ins Y _ sY 0x0⟩)
      refine if_f (jv v0) ?_;subst hU;symm;walk_at "p1"
      by_cases v2:w<3
      ·refine if_t (ju v2) ?_;have:w=1\/w=2:=0x0
       rcases this with rfl|rfl
       ·exact lst _ 0x0
       ·exact w1' _ 0x0
      refine if_f (jv v2) ?_;subst hU;symm;walk_at "p1";rw[c1,hC5,hC4];refine⟨by rw[Do];omega,by rw[D3,Do];omega,?_⟩;subst hU;generalize hZ:PV.tup (A++C5.reverse++C4)=Z at *;symm;walk_at "p1";rw[c1,c2,c3,hC6];refine⟨0x0,0x0,by rw[D3];omega,?_⟩;subst hU;walk_at "p1";refine any _ 0x0 _ λY sY=>?_;have:w=3\/w=4\/w=5\/w=6:=0x0
      rcases this with rfl|rfl|rfl|rfl
      ·exact w3 _ 0x0
      ·exact w4 _ 0x0
      ·exact w5 _ 0x0
      ·exact anyR _ _ sY 0x0
    by_cases ne:xs=[]
    ·have fin0:=fin _ rfl m 0x0 none;subst ne;walk_at "p1";subst hU;symm;walk_at "p1"
     try refine gd2 hc4 rfl ?_
     try refine if_t rfl ?_
     rw[hU];exact fin0
    ·have e0:eqPs xs []=false:=by cases xs with|nil=>exact absurd rfl ne|cons _ _=>rfl
     have x1:1<=xs.length:=List.length_pos_iff.mpr ne;walk_at "p1";subst hU;symm;walk_at "p1";refine gd2 hc4 rfl (if_t (by rw[e0];rfl) ?_);refine⟨0x0,λt t0 t1=>?_⟩
     by_cases ct:t>0
     ·refine if_t (ju ct) ?_;clear fin hU;refine⟨0x0,λa a0 a1=>?_⟩;obtain⟨j,rfl⟩:=A_ a0;obtain⟨x,ex⟩:∃x,xs[j]?=some x:=⟨_,D1 0x0⟩;have hxm:=G4 ex;have sp:=split_at ex;have ca:C2 xs=C2 (xs.take j)+(cost x+2+C2 (xs.drop (j+1))):=(congrArg C2 sp).trans (j7 _ _);have c1:=HG xs j;have c2:cutP xs (some ((j:Int)+1)) none=xs.drop (j+1):=C_ xs (j+1);have ax:atI xs (j:Int)=some x:=Bj ex;have l1:(xs.take j).length<=xs.length:=by rw[l6];ext
      have l2:(xs.drop (j+1)).length<=xs.length:=by rw[V3];ext
      have rec_:∀{R':PV->Nat->Prop},(∀Y m',R (.tup (xs.take j++[Y]++xs.drop (j+1))) m'->R' Y m')->B [.pot q,x] (m+1+1) R':=λ{R'} k=>ih d x _ R' 0x0 0x0 (hx x hxm) 0x0 0x0 λY m' sY hm'=>k Y m' (h _ _ (MJ hx (λy hy=>i5 hy) (λy hy=>EC hy) sY 0x0) 0x0);rw[ax,c1,c2];dsimp only;clear h ih;generalize hA:xs.take j=A at *;generalize hD:xs.drop (j+1)=D at *;exact rec_ λY n' q=>⟨0x0,by rw[D3,Z9];omega,q⟩
     ·refine if_f (jv ct) ?_;rw[hU];exact fin _ rfl (m+1) 0x0 none
  | _ =>
   first
     |(cases d <;> cases ho;done)
     |(walk_at "p1";exact SV ho rfl nofun 0x0 λY n' sY hn=>h Y n' sY 0x0)
end Tb
end
section
namespace Tb
open PySem L2 Pu
def m_lot {q n:Nat}{R:PV->Nat->Prop}(hn:n<=900000000)(h:∀(s r:Nat) (row jc:List Str) n',Mt s r jc.length->RowS row->jc.Perm row->(jc.length<=5\/r=0\/s=8/\r=7)->n'<=n+2000->R (.tup [mtP s r,rowP row,rowP jc]) n'):HR [.pot q] n R:=by
 mleft;unfold HQ;symm;walk_at "p1";refine⟨0x0,λd d0 d1=>?_⟩
 by_cases cd:d<2
 ·refine if_t (ju cd) ?_;refine⟨0x0,λe e0 e1=>?_⟩;obtain⟨x,hx,ex⟩:=Bo (xs:=[PV.int 1,PV.int 2,PV.int 3,PV.int 4,PV.int 2,PV.int 3,PV.int 4,PV.int 5]) e0 e1
  have hx':∃k:Int,x=.int k/\1<=k/\k<=5:=by
   simp only[B9,R5,or_false] at hx;rcases hx with rfl|rfl|rfl|rfl|rfl|rfl|rfl|rfl <;> exact⟨_,rfl,0x0,0x0⟩
  obtain⟨k,rfl,k1,k5⟩:=hx';rw[ex];dsimp only;refine Mb 0x0 0x0 0x0 λzs n1 hz rz hn1=>?_;refine⟨0x0,λa a0 a1=>⟨0x0,λb b0 b1=>?_⟩⟩;obtain⟨s,hs⟩:=A_ (show 0<=1+a by ext);obtain⟨r,rfl⟩:=A_ b0;rw[hs];refine Md 0x0 0x0 0x0 λys n2 pm hn2=>?_;exact h s r zs ys n2 ⟨0x0,0x0,0x0,by rw[pm.length_eq];omega,by rw[pm.length_eq];ext⟩ rz pm (.inl (by rw[pm.length_eq];ext)) 0x0
 ·refine if_f (jv cd) ?_
  have fin:∀(U:pS),U=(qSeq (qSet 1 (A8 Eb (A0 (qV 0) (A0 (qOp wAdd (qC (.int 2)) (A8 D8 (A0 (qV 0) (A0 (qC (.int 7)) qNil)))) qNil))))
      (qRet (qTup (A0 (qV 2) (A0 (qV 1) (A0 (A8 Ec (A0 (qV 0) (A0 (qV 1) qNil))) qNil))))))->∀(s r m:Nat),1<=s->s<=8->r<=7->(r=0\/s=8/\r=7)->m<=n+10->U { nx:=λ_ m=>R PV.non m,rt:=R,bk:=λ_ _=>False,ct:=λ_ _=>False } [some (.v (.pot q)),none,some (.v (mtP s r))] m:=λU hU s r m s1 s8 r7 sr hm=>by
    subst hU;symm;walk_at "p1";refine⟨0x0,λk k0 k1=>?_⟩;refine Mb 0x0 0x0 0x0 λzs n1 hz rz hn1=>?_;subst hU;generalize hZ:rowP zs=Z at *;walk_at "p1";rw[<- hZ];refine Md 0x0 0x0 0x0 λys n2 pm hn2=>?_;exact h s r zs ys n2 ⟨s1,s8,r7,by rw[pm.length_eq];omega,by rw[pm.length_eq];omega⟩ rz pm (.inr sr) 0x0
  subst hU;symm;walk_at "p1";refine⟨0x0,λa a0 a1=>⟨0x0,λb b0 b1=>?_⟩⟩;obtain⟨s,hs⟩:=A_ (show 0<=1+a by ext);rw[hs];have:b=0\/b=1:=0x0
  rcases this with rfl|rfl
  ·exact fin U hU s 0 _ 0x0 0x0 0x0 (.inl rfl) 0x0
  ·exact fin U hU 8 7 _ 0x0 0x0 0x0 (.inr ⟨rfl,rfl⟩) 0x0
end Tb
end
section
namespace Tb
open PySem L2 Pu
section
variable {s r n:Nat}{row jc st:List Str}{f:List Str->Nat}{O:List (List Str)}{R:PV->Nat->Prop}
def SZ (M:Mt s r jc.length)(F:Dst s r jc f)(pm:st.Perm jc)(ne:st≠jc){L':List (List Str)}(all:∀x,x∈L'↔x.Perm jc)(h:∀p q,okP s r p q=true->q<jc.length->f (exch st p q)<f st->R (.tup [.int (p:Int),.int (q:Int)]) n):Ed [mtP s r,rowP st,fdP f L'] n R:=by
 mleft;unfold H_;have n8:=M.n8;have sl:=pm.length_eq;have Rl:(st.map PV.str).length=st.length:=B0 ..;have hr0:rowP st=.tup (st.map PV.str):=rfl;have ks:=Z5 st;have gs:=o8 (f:=f) ((all st).mpr pm);have gx:=λp q (h1:okP s r p q=true) (h2:q<jc.length)=>o8 (f:=f) ((all _).mpr (Y6 pm h1 h2).1);symm;rw[hr0];walk_at "p1";rw[Rl,sl];refine⟨⟨0x0,0x0⟩,?_⟩;rw[Q1];refine N1 (λi env m=>∃a3 a4,env=[some (.v (mtP s r)),some (.v (.tup (st.map PV.str))),some (.v (fdP f L')),a3,a4]/\(∀p,p<i->∀q,okP s r p q=true->q<jc.length->¬f (exch st p q)<f st)/\m=n) _ 0 _ _ ⟨none,none,rfl,nofun,rfl⟩ (λp y env m N ex hI hN=>?_) (λenv m hI=>?_)
 ·obtain⟨hp,rfl⟩:=i8 ex;obtain⟨a3,a4,rfl,hp2,rfl⟩:=hI;rw[G0] at hp2 hN;rw[BC];walk_at "p1";rw[Rl,sl];refine⟨⟨0x0,0x0,0x0,0x0⟩,?_⟩;rw[show((jc.length:Int)-((p:Int)+1)).toNat=jc.length-(p+1) by omega];refine N1 (λi env m'=>∃a4,env=[some (.v (mtP s r)),some (.v (.tup (st.map PV.str))),some (.v (fdP f L')),some (.v (.int (p:Int))),a4]/\(∀q,q<p+1+i->okP s r p q=true->q<jc.length->¬f (exch st p q)<f st)/\m'=m) _ 0 _ _ ⟨a4,rfl,λq hq ok=>by have:=u9 ok;omega,rfl⟩ (λj y env m' N' ex' hI hN'=>?_) (λenv m' hI=>?_)
  ·obtain⟨hj,rfl⟩:=i8 ex';obtain⟨a4,rfl,hq,rfl⟩:=hI;rw[G0] at hq hN';rw[show(p:Int)+1+(j:Int)=((p+1+j:Nat):Int) by omega];have ql:p+1+j<jc.length:=0x0
   have nx:(okP s r p (p+1+j)=true->¬f (exch st p (p+1+j))<f st)->∀q,q<p+1+(j+1)->okP s r p q=true->q<jc.length->¬f (exch st p q)<f st:=λh q h1 h2 h3=>by
    by_cases c:q=p+1+j
    ·subst c;exact h h2
    ·exact hq q 0x0 h2 h3
   generalize p+1+j=q at *;have mp:=λ(R:PV->Nat->Prop) h=>FW (s:=s) (r:=r) (p:=p) (q:=q) (n:=m') (R:=R) M.s1 M.s8 M.r7 0x0 0x0 h;have mx:=λ(R:PV->Nat->Prop) h=>El (f:=st) (i:=p) (j:=q) (n:=m') (R:=R) 0x0 0x0 h;have ka:=Z5 (exch st p q);rw[hr0] at mx;generalize hS:st.map PV.str=S at *;walk_at "p1";refine mp _ ?_;dsimp only
   by_cases ok:okP s r p q=true
   ·have ga:=gx p q ok ql;refine if_t ok (mx _ ?_);dsimp only;rw[ka];dsimp only;rw[ga];dsimp only;rw[ks];dsimp only;rw[gs];dsimp only[vI]
    by_cases c:f (exch st p q)<f st
    ·exact if_t (ju 0x0) (h p q ok ql c)
    ·exact if_f (jv 0x0) (hN' _ _ ⟨_,rfl,nx λ_=>c,rfl⟩)
   ·exact if_f (eq_false_of_ne_true ok) (hN' _ _ ⟨_,rfl,nx λz=>absurd z ok,rfl⟩)
  ·obtain⟨a4,rfl,hq,rfl⟩:=hI;refine hN _ _ ⟨_,_,rfl,λp' hp'=>?_,rfl⟩
   by_cases c:p'=p
   ·subst c;exact λq h1 h2=>hq q (by rw[B0,AX];ext) h1 h2
   ·exact hp2 p' 0x0
 ·obtain⟨a3,a4,rfl,hp,rfl⟩:=hI;obtain⟨p,q,h1,h2,h3⟩:=F.down st pm ne;exact absurd (show f (exch st p q)<f st by ext) (hp p (by rw[B0,AX];have:=u9 h1;ext) q h1 h2)
end
end Tb
end
section
namespace Tb
open PySem L2 Pu
section
variable {s r n:Nat}{row jc st L:List Str}{f:List Str->Nat}{R:PV->Nat->Prop}
def S_ {c:Nat->Bool}{n i:Nat}(hi:i<n)(h:∀k,k<i->c k=false)(ci:c i=true):∃T,(B8 n).filter c=i::T:=by
 have e:(B8 n)[i]?=some i:=by rw[List.getElem?_range hi]
 have sp:=Jm e;refine⟨((B8 n).drop (i+1)).filter c,?_⟩
 have e1:((B8 n).take i).filter c=[]:=Gf.mpr λk hk=>by
  rw[List.take_range,M5] at hk;rw[h k 0x0]
  decide
 have e2:(B8 n).filter c=((B8 n).take i++i::(B8 n).drop (i+1)).filter c:=by rw[<- sp]
 rw[e2,List.filter_append,e1,N7,x4,jw ci]
def Ta {p q:Nat}(h:okP s 0 p q=true):okP s r p q=true:=by
 unfold okP at h ⊢;rw[M2,M2,decide_eq_true_iff,decide_eq_true_iff,decide_eq_true_iff] at h ⊢;exact⟨h.1,0x0,h.2.2⟩
def f_inv (s1:1<=s)(nd:jc.Nodup)(F:Dst s r jc f):∀k st,st.Perm jc->inv (st.map (ixS jc))=k->f st<=k:=by
 have G:=Jf (s:=s) s1 nd;intro k
 induction k with
 |zero=>intro st pm e;rw[G.eq0 pm e,F.zero];exact B3 _
 | succ k ih =>
  intro st pm e
  have ne:st≠jc:=λz=>by
   have:=G.zero
   try dsimp only at this
   rw[z] at e;omega
  obtain⟨p,q,h1,h2,h3⟩:=G.down st pm ne;have b:=F.back pm (Ta h1) h2;have a:=ih _ (Y6 pm h1 h2).1 0x0;ext
def Tc (s1:1<=s)(nd:jc.Nodup)(F:Dst s 0 jc f)(pm:st.Perm jc){i:Nat}(hi:i<jc.length)(ht:st.take i=jc.take i)(ne:nm st i≠nm jc i):∃j,ixS st (nm jc i)=j+1/\okP s 0 j (j+1)=true/\j+1<jc.length/\f (exch st j (j+1))<f st:=by
 have eb:=D7 hi;have hb:ixS jc (nm jc i)=i:=N5 nd (E1 (G4 eb)).1 eb;have hm:nm jc i∈jc:=G4 eb;have ge:=Em nd pm ht eb
 have gt:ixS st (nm jc i)≠i:=λz=>ne (by
  have a:=(E1 (pm.mem_iff.mpr hm)).1;rw[z,D7 (by rw[pm.length_eq];exact hi)] at a
  exact E7 a)
 have lt:=Ae (pm.mem_iff.mpr hm);obtain⟨j,hj⟩:∃j,ixS st (nm jc i)=j+1:=⟨ixS st (nm jc i)-1,0x0⟩;refine⟨j,hj,FT s1,by rw[<- pm.length_eq,<- hj];exact lt,?_⟩;have w:Way s 0 st jc i st []:=⟨pm,ht,rfl,by rw[O8,G0],nofun⟩;obtain⟨w',_⟩:=Mh s1 nd w hb hm hj 0x0;have nu:=w'.nu;have G:=Jf (s:=s) s1 nd;rw[F.uniq G w'.pm,F.uniq G pm]
 try dsimp only
 rw[N7,Z9] at nu;omega
def Td (nd:jc.Nodup)(hs:jc.length<=s)(hr:jc.length<=r+2)(F:Dst s r jc f)(pm:st.Perm jc){i:Nat}(hi:i<jc.length)(ht:st.take i=jc.take i)(ne:nm st i≠nm jc i):okP s r i (ixS st (nm jc i))=true/\ixS st (nm jc i)<jc.length/\f (exch st i (ixS st (nm jc i)))<f st:=by
 have eb:=D7 hi;have hm:nm jc i∈jc:=G4 eb;have ge:=Em nd pm ht eb
 have gt:ixS st (nm jc i)≠i:=λz=>ne (by
  have a:=(E1 (pm.mem_iff.mpr hm)).1;rw[z,D7 (by rw[pm.length_eq];exact hi)] at a
  exact E7 a)
 have lt:=Ae (pm.mem_iff.mpr hm);rw[pm.length_eq] at lt;refine⟨Ja hs hr lt 0x0,lt,?_⟩;have w:WayR s r st jc i st []:=⟨pm,ht,rfl,by rw[O8,G0],nofun⟩;have w':=So hs hr nd w eb ne;have nu:=w'.nu;have G:=Mv (s:=s) (r:=r) nd hs hr;rw[F.uniq G w'.pm,F.uniq G pm]
 try dsimp only
 have l1:=Jd (row:=exch st i (ixS st (nm jc i))) (jc:=jc);rw[N7,Z9] at nu;have:=w'.pm.length_eq;omega
end
end Tb
end
section
namespace Tb
open PySem L2 Pu
def ML {c:pT}{p q:pS}{D:X3}{env:Pu.Env}{n:Nat}(h:∀P:pS,P=p->qIfS c P q D env n):qIfS c p q D env n:=h p rfl
section
variable {s r n:Nat}{row jc L:List Str}{f:List Str->Nat}{R:PV->Nat->Prop}
def MM {st jc:List Str}(h:st.length<=8):inv (st.map (ixS jc))<=64:=by
 have:∀l:List Nat,inv l<=l.length * l.length:=fun l=>by
  induction l with
  |nil=>exact B3 _
  | cons a l ih =>
   show(l.filter λx=>decide (x<a)).length+inv l<=(l.length+1)*(l.length+1);have:=Dm (λx=>decide (x<a)) l
   have e:(l.length+1)*(l.length+1)=l.length*l.length+2*l.length+1:=by
    rw[Nat.add_mul,Nat.mul_add];ext
   ext
 have a:=this (st.map (ixS jc));rw[B0] at a;exact E6 a (E6 (Nat.mul_le_mul h h) 0b0)
def Te (l:Lt s r row jc L f)(sr:jc.length<=5\/r=0\/s=8/\r=7)(h:∀ps,led s r row ps=some jc->(∀p∈ps,p.1∈row/\p.2∈row)->ps.length=f row->R (.tup (ps.map prS)) n):Ib [mtP s r,rowP row,rowP jc] n R:=by
 obtain⟨M,nd,pm,F,hS,pl⟩:=id l;have n8:=M.n8;have n1:=M.n1;have rl:=pm.length_eq;have fi:=f_inv M.s1 nd F _ row pm rfl;have A64:=MM (st:=row) (jc:=jc) 0x0;have hlen:∀st:List Str,st.Perm jc->(st.map PV.str).length=jc.length:=λst p=>by rw[B0,p.length_eq]
 have er:=λst=>FV st jc;have cs:=λst:List Str=>Bp st 3;have co:=cs jc;mleft;unfold Ia;symm;generalize hO:rowP jc=OT at *;generalize hW:rowP row=W at *;walk_at "p1";rw[<- hO,<- hW];refine Mn 0x0 pm.symm ?_
 try dsimp only
 generalize hA:inv (row.map (ixS jc))=A at *
 have step:∀(U:pS),U=(qSeq (qFor (K2 (qV 4)) (gN 6) (qIfS (qB (qOp (wNe 4) (qV 1) (qV 2))) (qSeq (qSet 7 (qOp wIx (qL (F7 [none,some 1,some 2] (K2 (qUn wLen (qV 1))) (gN 0) (qB (qOp (wNe 4) (qOp wIx (qV 1) (qV 0)) (qOp wIx (qV 2) (qV 0)))) (qV 0))) (qC (.int 0))))
   (qSeq (qSet 8 (J3 (qV 1) (qOp wIx (qV 2) (qV 7))))
   (qSeq (qIfS (qB (qOp wLt (qUn wLen (qV 1)) (qC (.int 6)))) (qAsg (A8 Ed (A0 (qV 0) (A0 (qV 1) (A0 (qV 5) qNil)))) (gTp 2 (gCn (gN 7) (gCn (gN 8) gNl)))) (qIfS (qB (qOp (wEq 4) (qOp wIx (qV 0) (qC (.int 1))) (qC (.int 0)))) (qSet 7 (qOp wSub (qV 8) (qC (.int 1)))) qNx))
   (qSeq (G6 (K9 3 (qTup (A0 (qOp wIx (qV 1) (qV 8)) (A0 (qOp wIx (qV 1) (qV 7)) qNil)))))
   (qSet 1 (A8 u8 (A0 (qV 1) (A0 (qV 7) (A0 (qV 8) qNil))))))))) qNx))
   (qRet (qUn K3 (qO 3))))->∀(D:PV),(jc.length<=5->∃L',D=fdP f L'/\∀x,x∈L'↔x.Perm jc)->U { nx:=λ_ m=>R PV.non m,rt:=R,bk:=λ_ _=>False,ct:=λ_ _=>False } [some (.v (mtP s r)),some (.v (rowP row)),some (.v (rowP jc)),some (.own []),some (.v (.int (A:Int))),some (.v D),none,none,none] n:=λU hU D hD=>by
   subst hU;symm;have hO:rowP jc=.tup (jc.map PV.str):=rfl;rw[hO];generalize hOO:jc.map PV.str=OO at *;walk_at "p1";refine⟨⟨0x0,0x0⟩,?_⟩;rw[Q1];refine N1 (λi env m=>∃(st:List Str) (ps:List (Str×Str)) (s6 s7 s8:Option Pu.Slot),env=[some (.v (mtP s r)),some (.v (rowP st)),some (.v (.tup OO)),some (.own (ps.map prS)),some (.v (.int (A:Int))),some (.v D),s6,s7,s8]/\st.Perm jc/\led s r row ps=some st/\(∀p∈ps,p.1∈row/\p.2∈row)/\ps.length+f st=f row/\(st=jc\/ps.length=i)/\m=n) _ 0 _ _ ⟨row,[],none,none,none,rfl,pm,rfl,nofun,G0 _,.inr rfl,rfl⟩ (λi x env m N ex hI hN=>?_) (λenv m hI=>?_)
   ·obtain⟨hi,rfl⟩:=i8 ex;obtain⟨st,ps,s6,s7,s8,rfl,sp,hl,hp,hf,hd,rfl⟩:=hI;rw[G0] at hd hN;have hsS:rowP st=.tup (st.map PV.str):=rfl;have est:=er st;have cst:=cs st;have sl:=sp.length_eq;have Sl:=hlen st sp
    by_cases e:st=jc
    ·have hNN:=hN;rw[hsS];generalize hSS:st.map PV.str=SS at *;walk_at "p1";refine gd2 cst co (if_f (by rw[est,ju e];rfl) ?_);rw[<- hSS];exact hNN _ _ ⟨st,ps,_,_,_,rfl,sp,hl,hp,hf,.inl e,rfl⟩
    ·have pli:ps.length=i:=hd.resolve_left e;obtain⟨i0,di,dt,dn⟩:=Je sl e
     have ats:∀k,k<jc.length->atI (st.map PV.str) ((0:Int)+(k:Int))=some (.str (nm st k))/\atI OO ((0:Int)+(k:Int))=some (.str (nm jc k)):=λk hk=>by
      rw[BC,<- hOO];exact⟨Bj (by rw[L4,D7 0x0];rfl),Bj (by rw[L4,D7 hk];rfl)⟩
     obtain⟨T0,hT0⟩:=S_ (c:=λk=>!decide (nm st k=nm jc k)) (n:=jc.length) di (λk hk=>by
      have a:(st.take i0)[k]?=(jc.take i0)[k]?:=by rw[dt]
      rw[AV,AV,jw hk,jw hk,D7 0x0,D7 0x0] at a
      rw[ju (E7 a)];rfl) (by rw[jv dn];rfl)
     have hidx:=λ(R:PV->Prop) q=>m_ix (zs:=st) (z:=nm jc i0) (P:=st.map PV.str) (R:=R) rfl (sp.mem_iff.mpr (G4 (D7 di))) 0x0 q;have ai:=(ats i0 di).2;have mn:∀{L':List (List Str)},(∀x,x∈L'↔x.Perm jc)->∀(R:PV->Nat->Prop),(∀p q,okP s r p q=true->q<jc.length->f (exch st p q)<f st->R (.tup [.int (p:Int),.int (q:Int)]) m)->Ed [mtP s r,.tup (st.map PV.str),fdP f L'] m R:=λall R h=>SZ M F sp e all h;have mx:∀p q,p<jc.length->q<jc.length->∀(R:PV->Nat->Prop),R (rowP (exch st p q)) m->u8 [.tup (st.map PV.str),.int (p:Int),.int (q:Int)] m R:=λp q h1 h2 R q'=>El 0x0 0x0 q'
     have atn:∀k,k<jc.length->atI (st.map PV.str) (k:Int)=some (.str (nm st k)):=λk hk=>by
      have:=(ats k hk).1;rw[BC] at this;exact this
     rw[hsS];generalize hSS:st.map PV.str=SS at *;dsimp only[gN,O9];refine ML λP hP=>?_;walk_at "p1";refine gd2 cst co (if_t (by rw[est,jv e];rfl) ?_);subst hP;refine B2 λU7 h7=>?_;walk_at "p1";rw[Sl,Q1];refine⟨⟨0x0,0x0⟩,by rw[e7];omega,?_⟩;have a0:∀(x:PV) (T:List PV),atI (x::T) 0=some x:=λx T=>Bj (xs:=x::T) (j:=0) rfl;refine HE (λk:Nat=>PV.int ((0:Int)+(k:Int))) (λk=>!decide (nm st k=nm jc k)) (B8 jc.length) _ _ _ (λk hk m' Q q=>?_) ?_
     ·obtain⟨b1,b2⟩:=ats k (M5.mp hk);walk_at "p1";rw[b1,b2];dsimp only;rw[AG];exact gd2 rfl rfl q
     rw[hT0,G7,a0];dsimp only;subst h7;refine B2 λU8 h8=>?_;walk_at "p1";rw[ai];dsimp only;refine⟨⟨_,rfl⟩,hidx _ ?_⟩
     have tail:∀(U':pS),U'=(qSeq (G6 (K9 3 (qTup (A0 (qOp wIx (qV 1) (qV 8)) (A0 (qOp wIx (qV 1) (qV 7)) qNil)))))
       (qSet 1 (A8 u8 (A0 (qV 1) (A0 (qV 7) (A0 (qV 8) qNil))))))->∀(D':X3) (p q:Nat),D'.nx=N->okP s r p q=true->q<jc.length->f (exch st p q)<f st->U' D' [some (.v (mtP s r)),some (.v (.tup SS)),some (.v (.tup OO)),some (.own (ps.map prS)),some (.v (.int (A:Int))),some (.v D),some (.v (.int ((0:Int)+(i:Int)))),some (.v (.int (p:Int))),some (.v (.int (q:Int)))] m:=λU' hU' D' p q hD' ok ql lt=>by
       have pq:=u9 ok;have pm':=(Y6 sp ok ql).1;have bk:=F.back sp ok ql;have psl:(ps.map prS).length<=64:=by rw[B0];ext
       have ep:ixS st (nm st p)=p:=N5 (sp.nodup_iff.mpr nd) (E1 (G4 (D7 (zs:=st) (i:=p) 0x0))).1 (D7 0x0);have eq:ixS st (nm st q)=q:=N5 (sp.nodup_iff.mpr nd) (E1 (G4 (D7 (zs:=st) (i:=q) 0x0))).1 (D7 0x0);have ap:=atn p 0x0;have aq:=atn q ql
       have nxt:=hN [some (.v (mtP s r)),some (.v (rowP (exch st p q))),some (.v (.tup OO)),some (.own ((ps++[(nm st q,nm st p)]).map prS)),some (.v (.int (A:Int))),some (.v D),some (.v (.int ((0:Int)+(i:Int)))),some (.v (.int (p:Int))),some (.v (.int (q:Int)))] m ⟨_,_,_,_,_,rfl,pm',by
        rw[Ek ps row st (nm st q,nm st p) hl];show(if okP s r (ixS st (nm st p)) (ixS st (nm st q))=true then some (exch st (ixS st (nm st p)) (ixS st (nm st q))) else none)=_;rw[ep,eq,jw ok],λz hz=>by
        rcases D6.mp hz with hz|hz
        ·exact hp z hz
        ·rw[E2.mp hz]
         exact⟨pm.mem_iff.mpr (sp.mem_iff.mp (G4 (D7 0x0))),pm.mem_iff.mpr (sp.mem_iff.mp (G4 (D7 0x0)))⟩,by rw[D3,Z9];omega,.inr (by rw[D3,Z9];ext),rfl⟩
       rw[L3] at nxt;subst hU';generalize hPP:ps.map prS=PP at *;refine B2 λU' hU'=>?_;walk_at "p1";rw[aq,ap];dsimp only;refine⟨⟨_,rfl⟩,0x0,?_⟩;subst hU';have mx':=mx p q 0x0 ql;generalize hE:rowP (exch st p q)=XE at *;walk_at "p1";refine mx' _ ?_;rw[hD'];exact nxt
     subst h8;refine B2 λU9 h9=>?_
     by_cases c6:jc.length<6
     ·obtain⟨L',rfl,all⟩:=hD 0x0;walk_at "p1";refine if_t (ju 0x0) (mn all _ λp q h1 h2 h3=>?_);dsimp only;exact⟨rfl,tail _ h9 _ p q (by rfl) h1 h2 h3⟩
     ·have sr2:=sr.resolve_left 0x0
      by_cases r0:r=0
      ·subst r0;obtain⟨j,hj,ok,jl,fl⟩:=Tc M.s1 nd F sp di dt dn;rw[hj];walk_at "p1";refine if_f (jv 0x0) (if_t 0b0 ?_);rw[show((j+1:Nat):Int)-1=(j:Int) by omega];exact tail _ h9 _ j (j+1) (by rfl) ok jl fl
      ·obtain⟨rfl,rfl⟩:=sr2.resolve_left r0;obtain⟨ok,ql,fl⟩:=Td nd 0x0 0x0 F sp di dt dn;walk_at "p1";refine if_f (jv 0x0) (if_f 0b0 ?_);rw[BC (i0:Int)];exact tail _ h9 _ i0 _ (by rfl) ok ql fl
   ·obtain⟨st,ps,s6,s7,s8,rfl,sp,hl,hp,hf,hd,rfl⟩:=hI;rw[G0,B0,AX] at hd
    have e:st=jc:=by
     rcases hd with e|e
     ·exact e
     ·exact F.eq0 sp 0x0
    subst e;have pk:ps.length=f row:=by rw[F.zero] at hf;omega
    have q:=h ps hl hp pk;have pl':(ps.map prS).length<=64:=by rw[B0];ext
    generalize ps.map prS=PP at *;generalize rowP st=SX at *;subst hU;walk_at "p1";exact q
 subst hU;symm;have ml:=λ(h5:jc.length<=5) (R:PV->Nat->Prop) q=>Mx (n:=n) (R:=R) M h5 F (l.o h5) q;have Rl:(row.map PV.str).length=jc.length:=hlen row pm;have hr0:rowP row=.tup (row.map PV.str):=rfl
 by_cases c5:jc.length<=5
 ·rw[hr0];generalize hRS:row.map PV.str=RS at *;generalize hO':rowP jc=OT at *;walk_at "p1";refine if_t (ju 0x0) (ml c5 _ λL' nd' all=>?_)
  try dsimp only
  have st:=step U hU _ λ_=>⟨L',rfl,all⟩;rw[hr0] at st;exact st
 ·rw[hr0];generalize hRS:row.map PV.str=RS at *;generalize hO':rowP jc=OT at *;walk_at "p1";refine if_f (jv 0x0) ?_;have st:=step U hU (.dct [] []) λz=>absurd z c5;rw[hr0] at st;exact st
end
end Tb
end
section
namespace Tb
open PySem L2 Pu
section
variable {s r n:Nat}{row jc L:List Str}{f:List Str->Nat}{R:PV->Nat->Prop}
def Lt.near (l:Lt s r row jc L f)(n5:jc.length<=5):Good s r row jc (ordF L L.length) (f row) f:=⟨rfl,l.F.zero,λx hx p q h1 h2=>⟨l.F.back (((l.o n5).mem x).mp hx) h1 h2,l.F.step x (((l.o n5).mem x).mp hx) p q h1 h2⟩⟩
def PaO (s r:Nat)(row jc L:List Str)(k:Nat)(X:PV):Prop:=PapV s r row jc L k X/\ow 2 X=true/\cost X<=8000
def pao_w {k:Nat}{z:Str}(h:PapV s r row jc L k (.tup [.str z]))(h2:ow 2 (.tup [.str z])=true)(h3:z.length<=20):PaO s r row jc L k (.tup [.str z]):=⟨h,h2,by show(10*z.length+2)+2+0+3<=8000;ext⟩
theorem Ju (c:Nat):∀xs:List PV,(∀x∈xs,cost x<=c)->C2 xs<=(c+2)*xs.length
 |[],_=>C8 _
 | x :: xs, h => by
  have a:=h x D2;have b:=Ju c xs λy hy=>h y (C1 _ hy);show cost x+2+C2 xs<=(c+2)*(xs.length+1);rw[Nat.mul_add,Nat.mul_one];ext
def Tf (l:Lt s r row jc L f)(sr:jc.length<=5\/r=0\/s=8/\r=7)(h:∀Ps:List PV,Ps≠[]->Ps.length<=3->(∀X∈Ps,PaO s r row jc L (f row) X)->R (.lst Ps) n):HZ [mtP s r,rowP row,rowP jc] n R:=by
 obtain⟨M,nd,pm,F,hS,pl⟩:=id l;have n8:=M.n8;have rl:=pm.length_eq;have Rl:(row.map PV.str).length=jc.length:=by rw[B0,rl]
 have hr0:rowP row=.tup (row.map PV.str):=rfl;have ml:=λ(h5:jc.length<=5) (R:PV->Nat->Prop) q=>Mx (n:=n) (R:=R) M h5 F (l.o h5) q;have mo:=λ(h5:jc.length<=5) (R:PV->Nat->Prop) q=>Jj (n:=n) (R:=R) ((pl.trans pm).nodup_iff.mpr nd) (by have:=pl.length_eq;ext) q
 -- the last paper
 have last:∀(U:pS),U=(qSeq (qIfS (qB (qOp wLt (qV 4) (qC (.int 6)))) (qSeq (qSet 5 (A8 Db (A0 (qV 0) (A0 (qV 2) qNil))))
   (G6 (K9 3 (qTup (A0 (qC (.str (B1 "table"))) (A0 (qUn K3 (qL (F7 [none,some 5] (qIl (A8 Dc (A0 (qL (N6 (qV 1))) qNil))) (gN 0) qTru (qIxT (qV 1) (qV 0))))) qNil)))))) qNx)
   (O0 3))->∀Q:List PV,(∀X∈Q,PaO s r row jc L (f row) X)->Q.length<=2->(5<jc.length->Q≠[])->U { nx:=λ_ m=>R PV.non m,rt:=R,bk:=λ_ _=>False,ct:=λ_ _=>False } [some (.v (mtP s r)),some (.v (rowP row)),some (.v (rowP jc)),some (.own Q),some (.v (.int (jc.length:Nat))),none] n:=λU hU Q hQ q2 qn=>by
   subst hU;symm;refine ML λP hP=>?_;generalize hW:rowP row=W at *;generalize hOT:rowP jc=OT at *;walk_at "p1"
   by_cases c5:jc.length<=5
   ·refine if_t (ju 0x0) ?_;subst hP;refine B2 λV hV=>?_;walk_at "p1";refine ml c5 _ λL' nd' all=>?_
    try dsimp only
    subst hV;have o:=l.o c5
    have tb:PaO s r row jc L (f row) (.tup [.str (B1 "table"),.tup ((ordF L L.length).map (vI f))]):=by
     refine⟨.inl ⟨_,rfl,c5,f,rfl,l.near c5⟩,?_,?_⟩
     ·show(ow 1 (.str (B1 "table"))&&(ow 1 (.tup ((ordF L L.length).map (vI f)))&&true))=true;rw[show ow 1 (.str (B1 "table"))=true by decide +kernel,P2,Cm];refine B7.mpr λx hx=>?_;obtain⟨y,hy,rfl⟩:=E4.mp hx;have:=F.lt o ((o.mem y).mp hy);have:=o.len;exact ju 0x0
     ·show(10*(B1 "table").length+2)+2+((C2 ((ordF L L.length).map (vI f))+3)+2+0)+3<=8000
      have a:=Ju 61 ((ordF L L.length).map (vI f)) λx hx=>by
       obtain⟨y,hy,rfl⟩:=E4.mp hx;exact B3 _
      rw[B0] at a;have b:=o.len;rw[show(B1 "table").length=5 by decide +kernel];omega
    have ol:=o.len
    have cb:=λ(R:List PV->Nat->Prop) q=>BP (te:=qIxT (qV 1) (qV 0)) (rest:=[some (.v (fdP f L'))]) rowP (vI f) (ordF L L.length) none n R (λx hx m Q hQ=>by
     have kx:=Z5 x;have gx:=o8 (f:=f) ((all x).mpr ((o.mem x).mp hx));walk_at "p1";rw[kx];dsimp only;rw[gx]
     exact hQ) q
    have fin:=h (Q++[.tup [.str (B1 "table"),.tup ((ordF L L.length).map (vI f))]]) 0o0 (by rw[D3,Z9];ext) λX hX=>(D6.mp hX).elim (hQ X) λe=>by rw[E2.mp e];exact tb
    have mo5:=mo c5;have ll:((ordF L L.length).map rowP).length<=1000000:=by rw[B0];ext
    have lv:((ordF L L.length).map (vI f)).length<=1000000:=by rw[B0];ext
    subst hW;rw[hr0];generalize (ordF L L.length).map (vI f)=VV at *;generalize (ordF L L.length).map rowP=XX at *;walk_at "p1";refine⟨⟨_,rfl⟩,row,rfl,0x0,?_⟩;rw[hS];refine mo5 _ ?_;dsimp only;refine⟨ll,cb _ ⟨0x0,?_⟩⟩;subst hU;walk_at "p1";exact fin
   ·refine if_f (jv 0x0) ?_;have fin:=h Q (qn 0x0) 0x0 hQ;subst hP;walk_at "p1";subst hU;walk_at "p1";exact fin
 have second:∀(U:pS),U=(qSeq (qIfS (qB (qOp wLe (qV 4) (qOp wMin (qOp wIx (qV 0) (qC (.int 0))) (qOp wAdd (qOp wIx (qV 0) (qC (.int 1))) (qC (.int 2)))))) (G6 (K9 3 (qTup (A0 (qC (.str (B1 "rounds"))) qNil)))) qNx)
   (qSeq (qIfS (qB (qOp wLt (qV 4) (qC (.int 6)))) (qSeq (qSet 5 (A8 Db (A0 (qV 0) (A0 (qV 2) qNil))))
   (G6 (K9 3 (qTup (A0 (qC (.str (B1 "table"))) (A0 (qUn K3 (qL (F7 [none,some 5] (qIl (A8 Dc (A0 (qL (N6 (qV 1))) qNil))) (gN 0) qTru (qIxT (qV 1) (qV 0))))) qNil)))))) qNx)
   (O0 3)))->∀Q:List PV,(∀X∈Q,PaO s r row jc L (f row) X)->Q.length<=1->(5<jc.length->r=0->Q≠[])->U { nx:=λ_ m=>R PV.non m,rt:=R,bk:=λ_ _=>False,ct:=λ_ _=>False } [some (.v (mtP s r)),some (.v (rowP row)),some (.v (rowP jc)),some (.own Q),some (.v (.int (jc.length:Nat))),none] n:=λU hU Q hQ q2 qn=>by
   subst hU;symm;generalize hW:rowP row=W at *;generalize hOT:rowP jc=OT at *;walk_at "p1"
   by_cases c:jc.length<=s/\jc.length<=r+2
   ·refine if_t (ju (by split <;> ext)) ?_
    have pr:PaO s r row jc L (f row) (.tup [.str (B1 "rounds")]):=pao_w (.inr (.inr ⟨rfl,c,F.uniq (Mv nd c.1 c.2) pm⟩)) (by decide +kernel) (by decide +kernel);refine⟨⟨_,rfl⟩,0x0,?_⟩;exact last U hU _ (λX hX=>(D6.mp hX).elim (hQ X) λe=>by rw[E2.mp e];exact pr) (by rw[D3,Z9];ext) λ_=>0o0
   ·refine if_f (jv (by split <;> ext)) ?_
    exact last U hU Q hQ 0x0 λz=>qn z ((sr.resolve_left 0x0).resolve_right λe=>c 0x0)
 mleft;unfold HX;symm;rw[hr0];generalize hOT:rowP jc=OT at *;walk_at "p1";rw[Rl];subst hU;symm;generalize hRS:row.map PV.str=RS at *;walk_at "p1";rw[hr0] at second
 by_cases c:r=0
 ·refine if_t (ju 0x0) ?_;have pr:PaO s r row jc L (f row) (.tup [.str (B1 "pairs")]):=pao_w (.inr (.inl ⟨rfl,c,by subst c;exact F.uniq (Jf M.s1 nd) pm⟩)) (by decide +kernel) (by decide +kernel);exact⟨⟨_,rfl⟩,second U hU [_] (λX hX=>by rw[E2.mp hX];exact pr) (B3 _) λ_ _=>0o0⟩
 ·exact if_f (jv 0x0) (second U hU [] nofun (C8 _) λ_ z=>absurd z c)
end
end Tb
end
section
namespace Tb
open PySem L2 Pu
def Th (Y:PV):Prop:=(∀e,okT e Y=true)/\shw Y/\dep Y<=20/\cost Y<=500000
def Sp.th {d c:Nat}{Y:PV}(h:Sp d c Y)(hd:d<=10)(hc:c<=100000):Th Y:=⟨h.ok,h.sh,by have:=h.de;omega,by have:=h.co;ext⟩
def th_ow {d:Nat}{Y:PV}(h:ow d Y=true)(hd:d<=10)(hc:cost Y<=500000):Th Y:=⟨(O5 h).1,(O5 h).2.1,by have:=(O5 h).2.2.1;omega,hc⟩
def MN {xs:List PV}(h:∀x∈xs,(∀e,okT e x=true)/\shw x/\dep x<=19)(hc:C2 xs+3<=500000):Th (.tup xs):=⟨λe=>by
 cases e with
 |zero=>rfl
 | succ e => exact B7.mpr fun x hx => (h x hx).1 e, CS _ fun x hx => (h x hx).2.1, by
  have:=CT 19 xs λx hx=>(h x hx).2.2;show deps xs+1<=20
  omega,hc⟩
def rep_bl (b:Bool):∃z:Str,∀R:PV->Prop,R (.str z)->AH (.bl b) R:=by
 cases b <;> exact⟨_,λR h=>⟨rfl,0b0,0b0,h⟩⟩
def m_law (ns:List Int)(hl:ns.length<=63):FR ⟨λ_ _=>False,λr _=>r=.bl true,λ_ _=>False,λ_ _=>False⟩ (M9 ["_law_script","_law_pot","_law_meeting","_law_row","_law_other","_law_papers_here","_law_touches_here","_law_own","_law_some","_law_thing","_law_kept","_law_told"] [.scr ns]) 0:=by
 unfold FR;symm;walk_at "p1";refine⟨hl,λq=>?_⟩;subst hU;symm;walk_at "p1";refine m_lot 0x0 λs r row jc n1 M rr pm sr hn1=>?_
 try dsimp only
 mleft;obtain⟨f,F⟩:=dst_ex (r:=r) (jc:=jc) M.s1;have lt:Lt s r row jc (outS row) f:=⟨M,pm.nodup_iff.mpr rr.1,pm.symm,F,rfl,LQ _⟩;generalize hL:outS row=L at lt;clear hL;have n8:=M.n8;have rl:row.length=jc.length:=pm.symm.length_eq;have fr:f row<=64:=E6 (f_inv M.s1 lt.nd F _ row pm.symm rfl) (MM 0x0)
 have bA:∀{z:Str},i9 z->ow 1 (.str z)=true:=λ{z} ⟨h1,h2,h3⟩=>by
  show((z.cps.all λc=>decide (c<128))&&decide (1<=z.length/\z.length<=20))=true;rw[M2,decide_eq_true_iff,<- EM,B7,l9];exact⟨λc hc=>ju (At (h3 c hc).2 0b0),0x0,0x0⟩
 have ms:=λ(V:PV) (hV:Th V) (n:Nat) (R:PV->Nat->Prop) h1 h0=>SQ (d:=0) (n:=n) (R:=R) (V:=V) lt rr.2 (hV.1 _) (by have:=hV.2.2.2;ext) h1 h0;have mr:=λ(V:PV) (hV:Th V) (n:Nat) (R:PV->Nat->Prop) h1 h0=>SU (d:=0) (n:=n) (R:=R) (V:=V) lt (hV.1 _) (by have:=hV.2.2.2;ext) h1 h0;subst hU;symm;walk_at "p1";refine Tf lt sr λPs ne l3 hP=>?_
 try dsimp only
 subst hU;symm;walk_at "p1";refine Te lt sr λps hl' hp pl=>?_
 try dsimp only
 subst hU;symm;have Pl:(ps.map prS).length=f row:=by rw[B0,pl]
 have x1:1<=Ps.length:=List.length_pos_iff.mpr ne;have leds:LedV s r row (.tup (ps.map prS)) (f row) jc:=⟨ps,rfl,pl,hp,hl'⟩
 have oT:ow 2 (.tup (ps.map prS))=true:=B7.mpr λx hx=>by
  obtain⟨p,hp',rfl⟩:=E4.mp hx;have e1:ow 0 (.str p.1)=true:=bA (rr.2 _ (hp p hp').1);have e2:ow 0 (.str p.2)=true:=bA (rr.2 _ (hp p hp').2);show(ow 0 (.str p.1)&&(ow 0 (.str p.2)&&true))=true;rw[e1,e2];rfl
 have cT:cost (.tup (ps.map prS))<=12000:=by
  have a:=Ju 171 (ps.map prS) λx hx=>by
   obtain⟨p,hp',rfl⟩:=E4.mp hx;have e1:=LH (rr.2 _ (hp p hp').1);have e2:=LH (rr.2 _ (hp p hp').2);show cost (.str p.1)+2+(cost (.str p.2)+2+0)+3<=171;ext
  rw[Pl] at a;show C2 (ps.map prS)+3<=12000;omega
 generalize ps.map prS=PP at *;walk_at "p1";refine⟨0x0,λd d0 d1=>?_⟩;obtain⟨X,hX,eX⟩:=Bo (xs:=Ps) d0 d1;rw[eX]
 try dsimp only
 obtain⟨pap,oX,cX⟩:=hP X hX;have oA:ow 2 (.int (PP.length:Nat))=true:=ju 0x0;have right:∀Y∈Ps,Er s r row jc L (.tup [.int (PP.length:Nat),.tup PP,Y]):=λY hY=>⟨f row,.tup PP,Y,by rw[Pl],leds,(hP Y hY).1⟩
 have own:∀Y∈Ps,ow 3 (.tup [.int (PP.length:Nat),.tup PP,Y])=true/\cost (.tup [.int (PP.length:Nat),.tup PP,Y])<=21000:=λY hY=>by
  obtain⟨_,oY,cY⟩:=hP Y hY;constructor
  ·show(ow 2 (.int (PP.length:Nat))&&(ow 2 (.tup PP)&&(ow 2 Y&&true)))=true;rw[oA,oT,oY];rfl
  ·show 61+2+(cost (.tup PP)+2+(cost Y+2+0))+3<=21000;ext
 have thO:∀Y∈Ps,Th (.tup [.int (PP.length:Nat),.tup PP,Y]):=λY hY=>th_ow (own Y hY).1 0x0 (by have:=(own Y hY).2;ext);have sp:∀{m:Nat} {R:PV->Nat->Prop},m<=900000000->(∀Y m',Th Y->m'<=m+40->R Y m')->Ei [.pot q,.tup [.int (PP.length:Nat),.tup PP,X]] m R:=λhm k=>MK (f:=8) (d:=3) 0x0 0x0 (own X hX).1 (by have:=(own X hX).2;ext) 0x0 λY m' sY hm'=>k Y m' (sY.th 0x0 (by have:=(own X hX).2;ext)) 0x0;have an:∀{m:Nat} {R:PV->Nat->Prop},m<1000000000->(∀Y,Th Y->R Y (m+1))->o7 [.pot q] m R:=λhm k=>Jq (d:=0) (c:=0) hm λY sY=>k Y (sY.th 0x0 0x0)
 have th2:Th (.tup [.int (PP.length:Nat),.tup PP]):=MN (λx hx=>by
  simp only[B9,R5,or_false] at hx;rcases hx with rfl|rfl
  ·have:=O5 oA;exact⟨this.1,this.2.1,0x0⟩
  ·have:=O5 oT;exact⟨this.1,this.2.1,0x0⟩) (by show 61+2+(cost (.tup PP)+2+0)+3<=500000;ext)
 have th4:Th (.tup [.int (PP.length:Nat),.tup PP,X,.tup []]):=MN (λx hx=>by
  simp only[B9,R5,or_false] at hx;rcases hx with rfl|rfl|rfl|rfl
  ·have:=O5 oA;exact⟨this.1,this.2.1,0x0⟩
  ·have:=O5 oT;exact⟨this.1,this.2.1,0x0⟩
  ·have:=O5 oX;exact⟨this.1,this.2.1,0x0⟩
  ·exact⟨λe=>by cases e <;> rfl,trivial,by show 0+1<=19;ext⟩) (by show 61+2+(cost (.tup PP)+2+(cost X+2+(0+3+2+0)))+3<=500000;ext)
 have hR:=right X hX;have hT:=thO X hX;subst hU;symm;generalize hA:PV.int (PP.length:Nat)=A at *;generalize hW:rowP row=W at *;generalize hOT:rowP jc=OT at *;generalize hTP:PV.tup PP=TP at *;generalize hMP:mtP s r=MP at *;walk_at "p1";refine mr _ hT _ _ (λ_=>?_) λz=>absurd hR z
 try dsimp only
 refine if_f rfl (ms _ hT _ _ (λ_=>?_) λz=>absurd hR z)
 try dsimp only
 refine if_f rfl ?_;subst hU;symm;walk_at "p1";refine⟨by rw[e7];decide,?_⟩;refine KU Th 40 900000000 _ _ _ _ (λy hy m Q hm hQ=>?_) (by rw[e7,show x6 10=10 from rfl];ext) λys n4 yl hp4 hn4=>?_
 ·walk_at "p1";exact sp 0x0 λY m' hY hm'=>hQ _ _ hY hm'
 rw[e7,show x6 10=10 from rfl] at yl hn4;refine an 0x0 λY1 hY1=>?_
 try dsimp only
 refine an 0x0 λY2 hY2=>?_
 try dsimp only
 refine⟨0x0,?_⟩;have e2:cutP [A,TP,X] none (some 2)=[A,TP]:=HG [A,TP,X] 2;rw[e2]
 have T1:∀y∈ys++[Y1,Y2,.tup [A,TP],.tup [A,TP,X,.tup []]],Th y:=λy hy=>by
  rcases D6.mp hy with hy|hy
  ·exact hp4 y hy
  ·simp only[B9,R5,or_false] at hy;rcases hy with rfl|rfl|rfl|rfl
   ·exact hY1
   ·exact hY2
   ·exact th2
   ·exact th4
 have Tn:(ys++[Y1,Y2,.tup [A,TP],.tup [A,TP,X,.tup []]]).length<=14:=by rw[D3,yl];exact B3 _
 generalize ys++[Y1,Y2,PV.tup [A,TP],PV.tup [A,TP,X,PV.tup []]]=TT at *;subst hU;symm;have a0:atI [A,TP,X] 0=some A:=Bj (j:=0) rfl;walk_at "p1";refine⟨0x0,?_⟩;refine BO (λY=>.tup [A,TP,Y]) _ _ _ _ (λY hY m' Q hQ=>?_) ?_
 ·walk_at "p1"
  try rw[a0]
  try dsimp only
  exact hQ
 have T2:∀y∈TT++Ps.map (λY=>PV.tup [A,TP,Y]),Th y:=λy hy=>by
  rcases D6.mp hy with hy|hy
  ·exact T1 y hy
  ·obtain⟨Y,hY,rfl⟩:=E4.mp hy;exact thO Y hY
 have To:(TT++Ps.map (λY=>PV.tup [A,TP,Y])).length<=17:=by rw[D3,B0];ext
 have T3:(Ps.map λY=>PV.tup [A,TP,Y]).length=Ps.length:=B0 ..;refine⟨0x0,?_⟩;generalize TT++Ps.map (λY=>PV.tup [A,TP,Y])=TS at *;subst hU;symm;walk_at "p1";refine N1 (λi env m=>∃s9 s10 s11,env=[some (.v (.scr ns)),some (.v (.pot q)),some (.v MP),some (.v W),some (.v OT),some (.v (.lst Ps)),some (.v TP),some (.v (.tup [A,TP,X])),some (.v (.lst TS)),s9,s10,s11]) _ 0 _ _ ⟨none,none,none,rfl⟩ (λi x env m N ex hI hN=>?_) (λenv m hI=>?_)
 ·obtain⟨s9,s10,s11,rfl⟩:=hI;have hx:=T2 x (G4 ex);dsimp only[gN,O9];refine B2 λV hV=>?_;walk_at "p1";refine Ld hx.2.1 (by have:=hx.2.2.1;ext) (by have:=hx.2.2.2;ext) ?_
  try dsimp only
  subst hV;refine B2 λV hV=>?_;walk_at "p1"
  have fin:∀(b:Bool),(∀R:PV->Nat->Prop,R (.bl b) m->Eh [MP,W,OT,x] m R)->V { nx:=N,rt:=λr x=>r=PV.bl true,bk:=λe m=>U { nx:=λ_ _=>False,rt:=λr x=>r=PV.bl true,bk:=λ_ _=>False,ct:=λ_ _=>False } e m,ct:=N } [some (.v (.scr ns)),some (.v (.pot q)),some (.v MP),some (.v W),some (.v OT),some (.v (.lst Ps)),some (.v TP),some (.v (.tup [A,TP,X])),some (.v (.lst TS)),some (.v x),some (.v (.str (Hq x))),some (.v (.bl b))] m:=λb o2=>by
   obtain⟨z,hz⟩:=rep_bl b;subst hV;walk_at "p1";refine hz _ (o2 _ (hz _ (gd2 rfl rfl (if_f (by rw[AG,ju rfl];rfl) ?_))));refine Ld hx.2.1 (by have:=hx.2.2.1;ext) (by have:=hx.2.2.2;ext) (gd1' rfl (if_f (by rw[AG,ju rfl];rfl) (hN _ _ ⟨_,_,_,rfl⟩)))
  refine ms x hx _ _ (λh1=>?_) λh0=>?_
  ·exact fin true λR q=>mr x hx _ _ (λ_=>q) λz=>absurd h1 z
  ·exact fin false λR q=>mr x hx _ _ (λz=>absurd z h0) λ_=>q
 ·obtain⟨s9,s10,s11,rfl⟩:=hI;subst hU;walk_at "p1";exact ms _ hT _ _ (λ_=>rfl) λz=>absurd hR z
end Tb
end
section
namespace L2
open PySem PySem.Spec PyProof.Rows
def MO {X:Cx}:OpR X (Y7 .Mult) (rI IntMulOk λi j=>.int (i*j)):=opI λ_ _ _ _ _ _ _ hc q=>mul_int q hc
end L2
namespace Tb
open PySem L2 Pu
section
variable {P:D4}{w:C0}{K:A6}{mg:Str->Option A2}{base:B4}
def Tg (F:Fn0 K mg "_law_begin" (top 26))(m_len:mg "len"=none)(m_abs:mg "abs"=none)(m_int:mg "int"=none):Kn P w K mg base "_law_begin" 1 ["_law_script","_law_k"] (Pu.Fq K):=by
 have sc:Aa ["_law_script","_law_k","_law_cell","_law_seed","_law_one"] ["_law_script","_law_k"] (K6 (top 26)):=⟨rfl,rfl,rfl,by decide +kernel,rfl,by decide +kernel,by decide +kernel⟩;refine F.ok sc (λvs H Q E h=>?_) (λ_ _ _ _ _ _=>bd2 λ_ _=>rfl) (λf jp A outer s H vs Q E hr h=>?_)
 ·obtain⟨a,ns,k,rfl,_⟩:=h
  rfl
 obtain⟨a,ns,k,rfl,hS,hl63,h0,h1,q⟩:=h
 refine⟨_,(u6 (Bh (i:=2) sc.nd rfl (Or.inl rfl) (JD (BH op_lt (pv 1) (Bi Kb rfl m_len Kk (E8 (pv 0) K5)) (AC _)) (Bk Bl (pv 0) (pv 1) (λ_ _=>rfl)) F6))
     (u6 (Bh (i:=3) sc.nd rfl (Or.inl rfl) (G5 y9 F6 (G5 AA F6 (pv 1))))
     (u6 (JK EU rfl (JI (JY Ka (pv 0) JW (JX F6))) (JF (i:=4) sc.nd rfl (Or.inl rfl)) (DH (Bh (i:=3) sc.nd rfl (Or.inl rfl) (G5 AB (G5 y9 (G5 y9 (G5 AA (pv 3) F6) (G5 AB (pv 4) F6)) F6) F6))))
     (DH (DI (JO (E8 (G5 MO (G5 AB (Bi GC rfl m_abs GP (E8 (pv 2) K5)) (G5 MO (G5 EZ F6 F6) (G5 EZ F6 F6))) (GE JM rfl m_int GQ (E8 (Gz op_ge (Bi GC rfl m_abs GP (E8 (pv 2) K5)) (G5 EZ F6 F6) (AC _)) K5))) (E8 (pv 3) (E8 F6 K5))))))))),?_⟩
 refine Oi (λv=>∃c:Int,v=.int c) (λkey=>?_) ?_
 ·refine⟨_,rfl,_,rfl,a,_,rfl,.inl hS,_,_,rfl,rfl,_,rfl,?_⟩;refine ite2 (λc=>?_) (λc=>?_)
  ·have c':k<(((ns.map V.int).length:Nat):Int):=jz c;rw[B0] at c';obtain⟨v,qa⟩:=at_map (ns:=ns) h0 c';exact⟨_,rfl,_,rfl,a,_,_,_,rfl,rfl,hS,qa,key _ ⟨_,rfl⟩⟩
  ·exact key _ ⟨0,rfl⟩
 rintro v ⟨c,rfl⟩;refine⟨_,rfl,_,_,rfl,rfl,.inl ⟨0b0,0b0⟩,_,_,rfl,rfl,?_⟩;dsimp only[W9];have hk':0<=7919+104729*k/\7919+104729*k<2305843009213693951:=0x0
 generalize 7919+104729*k=sd0 at hk' ⊢;refine⟨_,rfl,63,rfl,a,_,rfl,hS,λp0 hp0=>?_⟩;have sm0:Same H (upd H p0 (.lst (cutV (ns.map V.int) none (some 63)))):=Same.lay1 hp0
 have cut:cutV (ns.map V.int) none (some 63)=ns.map V.int:=by
  unfold cutV;rw[HT.sIx_none,show(some (63:Int))=some ((63:Nat):Int) from rfl,HT.sIx_nat,List.drop_zero,B0,EH hl63];exact k9 (by rw[B0];ext)
 rw[cut] at sm0 ⊢;refine⟨p0,rfl,⟨_,SqL.of J0⟩,?_⟩;refine Nj (xs:=ns.map V.int) (λi σ H'=>∃sd s4,σ=[some (.ref a),some (.int k),some (.int c),some (.int sd),s4]/\(0<=sd/\sd<2305843009213693951)/\H'=upd H p0 (.lst (ns.map V.int))) ⟨sd0,none,rfl,hk',rfl⟩ (λi σ H' _ h=>?_) (λi x σ H' ex h=>?_) (λσ H' h=>?_)
 ·obtain⟨sd,s4,rfl,_,rfl⟩:=h;exact SqL.of J0
 ·obtain⟨sd,s4,rfl,hsd,rfl⟩:=h
  obtain⟨y,ey,rfl⟩:∃y:Int,ns[i]?=some y/\V.int y=x:=by
   rw[L4] at ex;cases en:ns[i]? with
   |none=>rw[en] at ex;cases ex
   |some y=>rw[en] at ex;cases ex;exact⟨y,rfl,rfl⟩
  refine⟨_,rfl,_,_,rfl,rfl,.inl ⟨0x0,0x0⟩,_,rfl,_,_,rfl,rfl,(by show(0:Int)<2147483647;decide),_,_,rfl,rfl,_,_,rfl,rfl,_,_,rfl,rfl,(by show(0:Int)<2305843009213693951;decide),?_⟩;exact⟨_,_,rfl,⟨BB _ 0b0,Cn _ 0b0⟩,rfl⟩
 ·obtain⟨sd,s4,rfl,hsd,rfl⟩:=h;refine⟨_,rfl,_,rfl,_,_,rfl,rfl,⟨0b0,0b0,0b0⟩,_,_,rfl,rfl,⟨0b0,0b0,0b0⟩,_,_,rfl,rfl,(by show IntMulOk (10 ^ x6 60) (10 ^ x6 60);unfold IntMulOk;decide +kernel),_,_,rfl,rfl,(by show(0:Int)<10 ^ x6 60*10 ^ x6 60;decide +kernel),?_⟩;have m0:0<=(if c<0 then -c else c)%(10 ^ x6 60*10 ^ x6 60):=BB _ (by decide +kernel);refine⟨_,rfl,_,rfl,_,_,rfl,rfl,⟨0b0,0b0,0b0⟩,_,_,rfl,rfl,?_⟩;refine .inr ⟨_,rfl,?_⟩;generalize hb:(decide ((10:Int) ^ x6 18<=(if c<0 then -c else c)))=b;have hz:0<=(if b=true then(1:Int) else 0)/\(if b=true then(1:Int) else 0)<2 ^ 64:=by cases b <;> decide
  refine⟨_,_,rfl,rfl,?_⟩;generalize (if b=true then(1:Int) else 0)=z at hz ⊢;refine⟨(show CMul _ z from .inr ⟨0x0,hz.2⟩).ok,_,rfl,(by show 3<=B5;decide),λp hp=>?_⟩;exact q _ sm0 p _ _ hp ⟨Int.mul_nonneg m0 hz.1,0x0,0x0,0b0,0b0⟩
def Ti (F:Fn0 K mg "_law_take" (top 27)):Kn P w K mg base "_law_take" 1 ["_law_pot","_law_many"] (CN K potL O2):=by
 refine OZ ?_;have sc:Aa ["_law_pot","_law_many","_law_digit","_law_turn","_law_mixed"] ["_law_pot","_law_many"] (K6 (top 27)):=⟨rfl,rfl,rfl,by decide +kernel,rfl,by decide +kernel,by decide +kernel⟩;refine F.ok sc (λvs H Q E h=>?_) (λ_ _ _ _ _ _=>bd2 λ_ _=>rfl) (λf jp A outer s H vs Q E hr h=>?_)
 ·obtain⟨p,own,seed,go,many,rfl,_⟩:=h
  rfl
 obtain⟨p,own,seed,go,many,rfl,hp,⟨o0,s0,s1,g0,g1⟩,g2,n0,n1,q⟩:=h
 refine⟨_,(u6 (ps_if (BH op_gt (Bk Bl (pv 0) F6 (λ_ _=>rfl)) F6 (AC _)) (u6 (Bh (i:=2) sc.nd rfl (Or.inl rfl) (G5 AB (Bk Bl (pv 0) F6 (λ_ _=>rfl)) (pv 1)))
     (u6 (Gx (G5 EY (Bk Bl (pv 0) F6 (λ_ _=>rfl)) (pv 1)) (Gw (pv 0) F6 GI))
     (DH (DI (pv 2))))) JE)
     (u6 (Gx (G5 y9 (Bk Bl (pv 0) F6 (λ_ _=>rfl)) F6) (Gw (pv 0) F6 GI))
     (u6 (Bh (i:=3) sc.nd rfl (Or.inl rfl) (Bk Bl (pv 0) F6 (λ_ _=>rfl)))
     (u6 (Bh (i:=4) sc.nd rfl (Or.inl rfl) (G5 AB (G5 AA (G5 y9 (G5 y9 (Bk Bl (pv 0) F6 (λ_ _=>rfl)) (G5 AA (G5 AA F6 (pv 3)) (pv 3))) (G5 AA F6 (pv 3))) F6) F6))
     (u6 (Bh (i:=4) sc.nd rfl (Or.inl rfl) (G5 AB (G5 AA (pv 4) (G5 y9 (G5 y9 (G5 AB (pv 4) F6) (G5 AA F6 (pv 3))) F6)) F6))
     (DH (DI (G5 AB (G5 y9 (G5 EY (pv 4) F6) (G5 EY (pv 4) F6)) (pv 1))))))))),?_⟩
 refine⟨_,rfl,p,_,0,_,rfl,rfl,SqL.of hp,rfl,_,_,rfl,rfl,_,rfl,?_⟩;refine ite2 (λc=>?_) (λc=>?_)
 ·refine⟨_,rfl,p,_,0,_,rfl,rfl,SqL.of hp,rfl,_,rfl,_,_,rfl,rfl,n0,?_⟩;refine⟨_,rfl,p,_,0,_,rfl,rfl,SqL.of hp,rfl,_,rfl,_,_,rfl,rfl,⟨n0,0x0⟩,?_⟩;refine⟨_,rfl,p,_,0,0,rfl,rfl,hp,rfl,?_⟩;refine⟨_,rfl,?_⟩;exact q _ _ _ _ (BB _ 0x0) (Cn _ n0) ⟨Int.ediv_nonneg o0 0x0,s0,s1,g0,g1⟩ 0x0
 ·refine⟨_,rfl,p,_,2,_,rfl,rfl,SqL.of hp,rfl,_,_,rfl,rfl,?_⟩;refine⟨_,rfl,p,_,2,2,rfl,rfl,hp,rfl,?_⟩;refine⟨_,rfl,p,_,2,_,rfl,rfl,SqL.of J0,rfl,?_⟩;refine⟨_,rfl,p,_,1,_,rfl,rfl,SqL.of J0,rfl,_,rfl,_,_,rfl,rfl,.inl ⟨0b0,0b0⟩,_,rfl,_,_,rfl,rfl,.inr ⟨0x0,0x0⟩,_,_,rfl,rfl,?_⟩;refine⟨_,rfl,_,_,rfl,rfl,.inl ⟨0b0,0b0⟩,_,_,rfl,rfl,_,_,rfl,rfl,.inr ⟨0b0,0b0⟩,_,_,rfl,rfl,(by show(0:Int)<2305843009213693921;decide),?_⟩;dsimp only[W9];generalize (seed+65537*(go+1)*(go+1)+15485863*(go+1))*48271=y;have m0:=BB y (show(2305843009213693921:Int)≠0 by decide);have m1:=Cn y (show(0:Int)<2305843009213693921 by decide);generalize y%2305843009213693921=z at m0 m1 ⊢;refine⟨_,rfl,_,rfl,_,_,rfl,rfl,(by show(0:Int)<1000003;decide),_,rfl,_,_,rfl,rfl,.inl ⟨0b0,0b0⟩,_,_,rfl,rfl,_,_,rfl,rfl,_,_,rfl,rfl,.inl ⟨0x0,0x0⟩,_,_,rfl,rfl,(by show(0:Int)<2305843009213693907;decide),?_⟩;refine⟨_,rfl,_,_,rfl,rfl,⟨0b0,0b0⟩,_,rfl,_,_,rfl,rfl,⟨0b0,0b0⟩,_,_,rfl,rfl,_,rfl,_,_,rfl,rfl,n0,?_⟩;exact q _ _ _ _ (BB _ 0x0) (Cn _ n0) ⟨o0,s0,s1,0x0,0x0⟩ 0x0
end
end Tb
end
section
namespace Pu
open PySem PySem.Spec L2
section
variable {T:PotK}{ι:Type}{K:A6}{F:ι->Cx}{e:Expr}{es:List Expr}{st:Stmt}{pe:pE}{pl:pA}{pos:Pos}{np:Bool}{x:Str}
def qv (i:Nat)(h:∀z,EW (F z) (.Name x pos) (tVar i):=by exact λ_=>vw _):QE T K F (.Name x pos) (qV i):=qe_var i h
def qf {p:Pos}{f:pF}{ps:List Str}{k j:Nat}{P:D4}{w:C0}{K0:A6}{mg:Str->Option A2}{base:B4}{A:D9}(hG:Kn P w K0 mg base x k ps (CN K T f))(hr:Room j A)(ha:QA T K F (e::es) pl)(hF:∀z,(F z).prog=P/\(F z).w=w/\(F z).K=K0/\(F z).mg=mg/\(F z).base=base/\(F z).A=A)(hk:k<=j)(hg:∀z,Gl (F z) x)(hdb:(x == ("__debug__":Str))=false)(hs:E9 e=true)(hpl:∀z,(backTo pos (F5 es (F z).env)).any (·.1)=false):QE T K F (.Call (.Name x p) (e::es) [] pos) (A8 f pl):=AF (λz=>by obtain⟨h1,h2,h3,h4,h5,_⟩:=hF z;rw[h1,h2,h3,h4,h5];exact hG) (λz=>by rw[(hF z).2.2.2.2.2];exact hr) hk hg ha hdb hs hpl
def gn (i:Nat){N:List Str}(hN:N.Nodup)(hNF:∀z,(F z).N=N:=by exact λ_=>rfl)(hi:∀z,(F z).N[i]?=some x:=by intro _;rfl)(hx:∀z,Loc (F z).env.scope x:=by intro _;first|exact Or.inl rfl|exact Or.inr rfl)(hf:∀z,(F z).fn x=true\/(F z).env.scope.names.lookup x=some .local:=by intro _;first|exact .inl rfl|exact .inr rfl|assumption):QG K F (.Name x pos) (gN i):=OG λz=>OF i (hNF z▸hN) (hi z) (hx z) (hf z)
def sws (i:Nat){pos':Pos}{N:List Str}(hN:N.Nodup)(hNF:∀z,(F z).N=N:=by exact λ_=>rfl)(hi:∀z,(F z).N[i]?=some x:=by intro _;rfl)(hx:∀z,Loc (F z).env.scope x:=by intro _;first|exact Or.inl rfl|exact Or.inr rfl)(hs:∀z,v5 e (some (.Name x pos')) pos.line (F z).env=pure false:=by intro _;rfl)(hf:∀z,(F z).fn x=true\/(F z).env.scope.names.lookup x=some .local:=by intro _;first|exact .inl rfl|exact .inr rfl|assumption)(z:ι)(te:TE)(h:EW (F z) e te):SW (F z) (.Assign [.Name x pos'] e pos) (tAsg te (W9 i)):=Hg (hNF z▸hN) (hi z) (hx z) (hs z) (hf z) te h
end
def tgN:Expr->List Str
 |.Name x _=>[x]
 |.Tuple es _ _=>es.flatMap λe=>match e with|.Name x _=>[x]|_=>[]
 |_=>[]
def capN:List (Option Nat)->List Str->List Str->List Str
 |none::cs,o::os,N=>o::capN cs os N
 |some j::cs,os,N=>N.getD j Str.empty::capN cs os N
 |_,_,_=>[]
section
variable {T:PotK}{ι:Type}{K:A6}{F:ι->Cx}{pg pg1 pg2:pG}{pos:Pos}{N0:List Str}{scope:F9}{cl:ι->List (Str×A1)}{cs:List (Option Nat)}{jm tg iter t1 i1 t2 i2:Expr}{jn:List Expr}{pi pi1 pi2:pA}{ptt:pT}{pte:pE}
abbrev FC (F:ι->Cx)(scope:F9)(cl:ι->List (Str×A1))(N:List Str)(y:ι×List A1×A1×A4×Hp):Cx:=E3 (F y.1) scope (cl y.1) N y.2.1 y.2.2.1 y.2.2.2.1 y.2.2.2.2
def Tj (nd:N0.Nodup)(hi:QI T K F tg iter pi)
   (hg:(capN cs (tgN tg) N0).Nodup->QG K (FC F scope cl (capN cs (tgN tg) N0)) tg pg) (ht:(capN cs (tgN tg) N0).Nodup->QIf T K (FC F scope cl (capN cs (tgN tg) N0)) jn ptt) (he:(capN cs (tgN tg) N0).Nodup->QE T K (FC F scope cl (capN cs (tgN tg) N0)) jm pte)
   (e0:∀z,(F z).N=N0) (S:∀z,l8 (F z) scope (cl z) (capN cs (tgN tg) N0) cs) (h:(capN cs (tgN tg) N0).Nodup) (hc:∀z,(F z).calm=true) (hs:∀z x,M4 iter (F z).env x=pure x):QN T K F (.ListComp jm [⟨tg,iter,jn,0⟩] scope pos) (F7 cs pi pg ptt pte):=Hf S hc hi (hg h) (ht h) (he h) hs
def Tl (nd:N0.Nodup)(hi:QI T K F t1 i1 pi1)
   (hg:(capN cs (tgN t1++tgN t2) N0).Nodup->QG K (FC F scope cl (capN cs (tgN t1++tgN t2) N0)) t1 pg1) (hi2:(capN cs (tgN t1++tgN t2) N0).Nodup->QI T K (FC F scope cl (capN cs (tgN t1++tgN t2) N0)) t2 i2 pi2) (hg2:(capN cs (tgN t1++tgN t2) N0).Nodup->QG K (FC F scope cl (capN cs (tgN t1++tgN t2) N0)) t2 pg2) (ht:(capN cs (tgN t1++tgN t2) N0).Nodup->QIf T K (FC F scope cl (capN cs (tgN t1++tgN t2) N0)) jn ptt) (he:(capN cs (tgN t1++tgN t2) N0).Nodup->QE T K (FC F scope cl (capN cs (tgN t1++tgN t2) N0)) jm pte)
   (e0:∀z,(F z).N=N0) (S:∀z,l8 (F z) scope (cl z) (capN cs (tgN t1++tgN t2) N0) cs) (h:(capN cs (tgN t1++tgN t2) N0).Nodup) (hc:∀z,(F z).calm=true) (hs:∀z x,M4 i1 (F z).env x=pure x) (hs2:∀z fp C s H x,M4 i2 (E3 (F z) scope (cl z) (capN cs (tgN t1++tgN t2) N0) fp C s H).env x=pure x):QN T K F (LC2 jm t1 i1 t2 i2 jn scope pos) (N2 cs pi1 pg1 pi2 pg2 ptt pte):=Qz S hc hi (hg h) (hi2 h) (hg2 h) (ht h) (he h) hs hs2
def Tm (nd:N0.Nodup)(hi:QI T K F t1 i1 pi1)
   (hg:(capN cs (tgN t1++tgN t2) N0).Nodup->QG K (FC F scope cl (capN cs (tgN t1++tgN t2) N0)) t1 pg1) (hi2:(capN cs (tgN t1++tgN t2) N0).Nodup->QI T K (FC F scope cl (capN cs (tgN t1++tgN t2) N0)) t2 i2 pi2) (hg2:(capN cs (tgN t1++tgN t2) N0).Nodup->QG K (FC F scope cl (capN cs (tgN t1++tgN t2) N0)) t2 pg2) (ht:(capN cs (tgN t1++tgN t2) N0).Nodup->QIf T K (FC F scope cl (capN cs (tgN t1++tgN t2) N0)) jn ptt) (he:(capN cs (tgN t1++tgN t2) N0).Nodup->QE T K (FC F scope cl (capN cs (tgN t1++tgN t2) N0)) jm pte)
   (e0:∀z,(F z).N=N0) (S:∀z,l8 (F z) scope (cl z) (capN cs (tgN t1++tgN t2) N0) cs) (h:(capN cs (tgN t1++tgN t2) N0).Nodup) (hc:∀z,(F z).calm=true) (hs:∀z x,M4 i1 (F z).env x=pure x) (hs2:∀z fp C s H x,M4 i2 (E3 (F z) scope (cl z) (capN cs (tgN t1++tgN t2) N0) fp C s H).env x=pure x):QNC T K F (LC2 jm t1 i1 t2 i2 jn scope pos) (N2 cs pi1 pg1 pi2 pg2 ptt pte):=RO S hc hi (hg h) (hi2 h) (hg2 h) (ht h) (he h) hs hs2
end
end Pu
end
section
namespace Tb
open PySem L2 Pu
structure HY (P:D4)(w:C0)(K:A6)(mg:Str->Option A2)(base:B4):Prop where
 f0:Fn0 K mg "_law_begin" (top 26)
 f1:Fn0 K mg "_law_take" (top 27)
 f2:Fn0 K mg "_law_boats" (top 28)
 f3:Fn0 K mg "_law_goal" (top 29)
 f4:Fn0 K mg "_law_lot" (top 43)
 f5:Fn0 K mg "_law_exchanged" (top 31)
 f6:Fn0 K mg "_law_is_pair" (top 30)
 f7:Fn0 K mg "_law_numbers" (top 39)
 f8:Fn0 K mg "_law_orders" (top 35)
 f9:Fn0 K mg "_law_papers" (top 46)
 f10:Fn0 K mg "_law_apart" (top 33)
 f11:Fn0 K mg "_law_nearer" (top 44)
 f12:Fn0 K mg "_law_touches" (top 45)
 f13:Fn0 K mg "is_text" (top 3)
 f14:Fn0 K mg "may_count_rounds" (top 16)
 f15:Fn0 K mg "may_have_table" (top 17)
 f16:Fn0 K mg "all_rows" (top 9)
 f17:Fn0 K mg "races_of" (top 5)
 f18:Fn0 K mg "span" (top 6)
 f19:Fn0 K mg "touch_places" (top 12)
 f20:Fn0 K mg "is_whole" (top 2)
 f21:Fn0 K mg "exchanged" (top 7)
 f22:Fn0 K mg "shows_table" (top 22)
 f23:Fn0 K mg "may_count_pairs" (top 15)
 f24:Fn0 K mg "apart_by" (top 13)
 f25:Fn0 K mg "rounds_of" (top 14)
 f26:Fn0 K mg "shows_paper" (top 23)
 f27:Fn0 K mg "leads_there" (top 20)
 f28:Fn0 K mg "is_boat" (top 4)
 f29:Fn0 K mg "is_pair_of" (top 19)
 f30:Fn0 K mg "shows_touches" (top 21)
 f31:Fn0 K mg "shows_fewest" (top 24)
 f32:Fn0 K mg "_law_table_right" (top 36)
 f33:Fn0 K mg "_law_rounds" (top 34)
 f34:Fn0 K mg "_law_paper_right" (top 37)
 f35:Fn0 K mg "_law_led" (top 32)
 f36:Fn0 K mg "_law_right" (top 38)
 f37:Fn0 K mg "_law_any" (top 40)
 f38:Fn0 K mg "_law_leaf" (top 41)
 f39:Fn0 K mg "_law_spoilt" (top 42)
 f40:Fn0 K mg "law" (top 47)
 m0:mg "abs"=none
 m1:mg "all"=none
 m2:mg "bool"=none
 m3:mg "dict"=none
 m4:mg "enumerate"=none
 m5:mg "int"=none
 m6:mg "isinstance"=none
 m7:mg "len"=none
 m8:mg "list"=none
 m9:mg "min"=none
 m10:mg "range"=none
 m11:mg "repr"=none
 m12:mg "set"=none
 m13:mg "sorted"=none
 m14:mg "str"=none
 m15:mg "sum"=none
 m16:mg "tuple"=none
 m17:mg "zip"=none
 c0:Num0 mg "MOST_IN_TABLE" 5
 c1:Num0 mg "MOST_LETTERS" 8
section
variable {P:D4}{w:C0}{K:A6}{mg:Str->Option A2}{base:B4}(y:HY P w K mg base)
include y
abbrev KK (_:HY P w K mg base)(x:Str)(k:Nat)(ps:List Str)(b:pF):Prop:=Kn P w K mg base x k ps (CN K potL b)
theorem kA {x:Str}{st:Stmt}{N ps:List Str}{k:Nat}{body:pS}(F0:Fn0 K mg x st)(h:∀{f:A1} {jp:A2} {A:D9} {outer:List PySem.Env} {s:A4} {H:Hp} {E:XK},N.Nodup->Room k (A.deeper (Gm x (K6 st) s.heap.objs.size f jp))->QSs potL false K (λ_:Unit=>(cxOf CX0 P w K mg base N x (K6 st) f jp A outer s H E).nox) (Z0 st) body)(sc:Aa N ps (K6 st):=by exact⟨rfl,rfl,rfl,by decide +kernel,rfl,by decide +kernel,by decide +kernel⟩)(bd:∀(kV doc pm:A2) (an:Option A1) (jp ct:A2) (us:List A2),us.length=ps.length->bindArgs (k8 x x (Ab st) (Z0 st) (K6 st) .none kV doc pm an jp ct) ⟨us,[]⟩=pure (ps.zip us):=by intro _ _ _ _ _ _;first|exact bd1 λ_=>rfl|exact bd2 λ_ _=>rfl|exact bd3 λ_ _ _=>rfl|exact bd4 λ_ _ _ _=>rfl|exact bd5 λ_ _ _ _ _=>rfl):KK y x (k+1) ps (fnP N ps body):=fn_ok F0 sc bd λ_ _ _ _ _ _ _ hr=>h sc.nd hr
local macro_rules | `(tactic| walk_at "s")=>`(tactic| exact fun _=>GK rfl rfl rfl rfl (by first | exact trivial | exact⟨rfl,trivial⟩ | exact⟨rfl,rfl,trivial⟩ | exact⟨rfl,rfl,rfl,trivial⟩ | exact⟨rfl,rfl,rfl,rfl,trivial⟩ | exact⟨rfl,rfl,rfl,rfl,rfl,trivial⟩ | exact⟨rfl,rfl,rfl,rfl,rfl,rfl,trivial⟩) rfl rfl rfl)
set_option hygiene false in
local macro_rules | `(tactic| walk_at "d")=>`(tactic| (first | exact rfl | (show Kn _ _ _ _ _ _ _ _ _;first | exact k_1 y | exact k_2 y | exact k_3 y | exact k_4 y | exact k_5 y | exact k_6 y | exact k_7 y | exact k_8 y | exact k_9 y | exact k_10 y | exact k_11 y | exact k_12 y | exact k_13 y | exact k_14 y | exact k_15 y | exact k_16 y | exact k_17 y | exact k_18 y | exact k_19 y | exact k_20 y | exact k_21 y | exact k_22 y | exact k_23 y | exact k_24 y | exact k_25 y | exact k_26 y | exact k_27 y | exact k_28 y | exact k_29 y | exact k_30 y | exact k_31 y | exact k_32 y | exact k_33 y | exact k_34 y | exact k_35 y | exact k_36 y | exact k_37 y | exact k_39 y) | (with_reducible assumption) | (intro _;first | exact rfl | exact vw _ | exact hr | exact y.m7 | exact y.m6 | exact y.m10 | exact tyw rfl y.m16 GR | exact Hi (i:=_) (j:=_) rfl (by assumption) rfl rfl (by decide) rfl rfl rfl | exact OP | exact sw_asg | exact y.m16 | exact y.m1 | exact y.m9 | exact tyw rfl y.m14 bt_str | exact tyw rfl y.m5 GQ | exact y.m11 | exact y.m8 | exact y.m13 | exact tyw rfl y.m2 Of | exact Qd (BI hr) (vw _) | exact hu2_of hr | exact y.m3 | exact y.m17 | exact y.m0 | exact Hg (i:=_) (by assumption) rfl (Or.inl rfl) | exact Hj (vw _) | exact OX (i:=_) (j:=_) (k:=_) rfl (by assumption) rfl rfl rfl (by decide) (by decide) (by decide) rfl rfl rfl rfl | exact y.c0 | exact(by assumption) | exact Lb (i:=_) (by assumption) rfl (Or.inl rfl) Pj | exact Hg (i:=_) (by assumption) rfl (Or.inr rfl) | exact y.m4 | exact y.m12 | exact Lb (i:=_) (by assumption) rfl (Or.inl rfl) Nk | exact y.c1 | exact y.m5 | exact y.m14 | exact k_0 y | exact⟨rfl,rfl,rfl,rfl,rfl,rfl⟩ | exact EU | exact fun _=>rfl | exact Or.inl rfl | exact Or.inr rfl | exact fun _ _ _ _ _=>rfl | walk_at "r") | exact AC _ | exact sws _ (by assumption) | walk_at "r" | exact cEq _ fun _=>hr | exact cLe | exact cNe _ fun _=>hr | exact cLt | exact cNotIn _ fun _=>hr | exact fun _ _ _ h1 h2=>QF K rfl (Hj (vw _) (by intro _;rfl) _ h1) (Hj (vw _) (by intro _;rfl) _ h2) | exact R_ 2 fun _=>hr | exact cIn _ fun _=>hr | exact cGe | exact cGt | exact cNotB | exact cIsB | decide | decide +kernel | walk_at "s") <;> walk_at "d")
local macro_rules | `(tactic| walk_at "r")=>`(tactic| first | (with_reducible first | apply qv | apply M8 | apply Z1 | apply Z3 | apply Ad | apply qf | apply BM | apply Fk | apply gn | ((apply DR;with_unfolding_all exact sws _ (by assumption))) | apply DS | apply DQ | apply QN.ee | apply Fn | apply CM | apply X0 | apply Fh | apply qe_str | apply Fi | apply qe_cmp | apply Ku | apply qe_bl | apply qs_for | apply KA | apply qw_or | apply qe_and | apply Hd | apply ql_v | apply qw_or1 | apply Tj | apply OJ | apply qe_one | apply KF | apply GV | apply KD | apply He | apply OQ | apply qr_own | ((apply KO;with_unfolding_all exact fun _=>Hi (i:=_) (j:=_) rfl (by assumption) rfl rfl (by decide) rfl rfl rfl)) | apply qs_own | apply OC | apply KC | apply KB | apply Lw | apply Ry | apply d9 | apply n6 | apply X2 | apply qe_all | apply OL | apply KL | apply qe_ixT | apply qe_mul | apply qe_min | apply qs_asg | apply qe_non | apply Pb | apply Kz | apply QH | apply qe_neg | apply ql_o | apply OS | apply RL | apply KQ | apply qe_mod | apply Ou | apply Qm | apply OY | apply Rt | apply Kt | apply Ks | apply OE | apply qe_num | apply Ox | apply RI | apply Tl | apply qe_abs | apply Qs | apply Oy | apply qs_put | apply Hm | apply RP | apply qls_t1 | apply Ql | apply Ow | apply Rx | apply Qe | apply OR | apply qe_if | apply Po | apply Tm | apply Pk | apply KI | apply Qr | apply Pm | apply Qu | apply qi_str | apply qe_not | apply Rh | apply OB | apply Rf | apply Rg | apply Qg | apply qe_pow | apply RU | apply RV | apply Pn | apply Kp | apply QE.r | apply QW.qt | apply BL) | (with_unfolding_all apply QD) | (with_unfolding_all apply Pg) | (with_unfolding_all apply OV) | (with_unfolding_all apply OU))
local macro_rules | `(tactic| walk_at "k")=>`(tactic| (show QSs _ _ _ _ (_::_) _;walk_at "d"))
theorem k_0:Kn P w K mg base "_law_begin" 1 ["_law_script","_law_k"] (Fq K):=Tg (P:=P) (w:=w) (base:=base) y.f0 y.m7 y.m0 y.m5
theorem k_1:KK y "_law_take" 1 ["_law_pot","_law_many"] O2:=Ti (P:=P) (w:=w) (base:=base) y.f1
theorem k_2:KK y "_law_boats" 2 ["_law_pot","_law_many"] Eb:=kA y y.f2 λ_ hr=>by delta HN;walk_at "k"
theorem k_3:KK y "_law_goal" 2 ["_law_pot","_law_row"] Ec:=kA y y.f3 λ_ hr=>by delta HP;walk_at "k"
theorem k_4:KK y "_law_lot" 3 ["_law_pot"] HR:=kA y y.f4 λ_ hr=>by delta HQ;walk_at "k"
theorem k_5:KK y "_law_exchanged" 1 ["_law_row","_law_p","_law_q"] u8:=kA y y.f5 λ_ hr=>by delta HS;walk_at "k"
theorem k_6:KK y "_law_is_pair" 1 ["_law_meeting","_law_p","_law_q"] BR:=kA y y.f6 λ_ hr=>by delta HU;walk_at "k"
theorem k_7:KK y "_law_numbers" 2 ["_law_meeting","_law_other"] Db:=kA y y.f7 λ_ hr=>by delta HV;walk_at "k"
theorem k_8:KK y "_law_orders" 1 ["_law_some"] Dc:=kA y y.f8 λ_ hr=>by delta HW;walk_at "k"
theorem k_9:KK y "_law_papers" 3 ["_law_meeting","_law_row","_law_other"] HZ:=kA y y.f9 λ_ hr=>by delta HX;walk_at "k"
theorem k_10:KK y "_law_apart" 1 ["_law_row","_law_other"] FJ:=kA y y.f10 λnd hr=>(Ad (DR 2 (sws 2 nd) (QN.ee (Hf (N:=["_law_boat","_law_other"]) (cs:=[none,some 1]) (λ_=>GK rfl rfl rfl rfl ⟨rfl,trivial⟩ rfl rfl rfl) (λ_=>rfl) (KF (qv 0)) (gn 0 (show List.Nodup (["_law_boat","_law_other"]:List Str) by decide +kernel)) He (Lw (qv 1) (qv 0)))))
   (BL (BM (qe_sum (λ_=>rfl) (λ_=>rfl) (λ_=>y.m15) (QN.ee (Re (N:=["_law_k","_law_place","_law_places"]) (cs:=[none,none,some 2]) (λ_=>Ra rfl rfl rfl ⟨rfl,trivial⟩ (λ_=>rfl) rfl (λ_=>rfl)) (λ_=>rfl) (KI (λ_=>rfl) (λ_=>y.m4) (qv 2)) (KC (λ_=>rfl) (Hd (gn 0 (show List.Nodup (["_law_k","_law_place","_law_places"]:List Str) by decide +kernel)) (Hd (gn 1 (show List.Nodup (["_law_k","_law_place","_law_places"]:List Str) by decide +kernel)) KB))) He (Fn (λ_=>rfl) (λ_=>y.m7) (QE.r (QN.ee (Hf (N:=["_law_later","_law_place"]) (cs:=[none,some 1]) (λ_=>GK rfl rfl rfl rfl ⟨rfl,trivial⟩ rfl rfl rfl) (λ_=>rfl) (KD (d9 (qv 2) (X2 (qv 0)) n6)) (gn 0 (show List.Nodup (["_law_later","_law_place"]:List Str) by decide +kernel)) (KL (CM cLt (qv 0) (QE.r (qv 1)) (AC _))) Z1))))))))))
theorem k_11:KK y "_law_nearer" 2 ["_law_meeting","_law_row","_law_numbers_here"] Ed:=kA y y.f11 λ_ hr=>by delta H_;walk_at "k"
theorem k_12:KK y "_law_touches" 3 ["_law_meeting","_law_row","_law_other"] Ib:=kA y y.f12 λ_ hr=>by delta Ia;walk_at "k"
theorem k_13:KK y "is_text" 1 ["thing","text"] Ee:=kA y y.f13 λ_ hr=>by delta Ie;walk_at "k"
theorem k_14:KK y "may_count_rounds" 1 ["meeting","n"] Ih:=kA y y.f14 λ_ hr=>by delta Ig;walk_at "k"
theorem k_15:KK y "may_have_table" 1 ["n"] Ij:=kA y y.f15 λ_ hr=>by delta Ii;walk_at "k"
theorem k_16:KK y "all_rows" 1 ["boats"] Il:=kA y y.f16 λ_ hr=>by delta Ik;walk_at "k"
theorem k_17:KK y "races_of" 1 ["meeting","n"] Io:=kA y y.f17 λ_ hr=>by delta Im;walk_at "k"
theorem k_18:KK y "span" 1 ["meeting","n","k"] Ir:=kA y y.f18 λ_ hr=>by delta Ip;walk_at "k"
theorem k_19:KK y "touch_places" 2 ["meeting","n"] Dd:=kA y y.f19 λ_ hr=>by delta Iu;walk_at "k"
theorem k_20:KK y "is_whole" 1 ["thing","low","high"] Ef:=kA y y.f20 λ_ hr=>by delta FK;walk_at "k"
theorem k_21:KK y "exchanged" 1 ["row","one","other"] De:=kA y y.f21 λ_ hr=>by delta Iv;walk_at "k"
theorem k_22:KK y "shows_table" 3 ["meeting","row","other","many","thing"] FM:=kA y y.f22 λ_ hr=>by delta FL;walk_at "k"
theorem k_23:KK y "may_count_pairs" 1 ["meeting"] Ix:=kA y y.f23 λ_ hr=>by delta Iw;walk_at "k"
theorem k_24:KK y "apart_by" 1 ["row","other"] Iz:=kA y y.f24 λ_ hr=>by delta Iy;walk_at "k"
theorem k_25:KK y "rounds_of" 1 ["row","other"] FN:=kA y y.f25 λ_ hr=>by delta IA;walk_at "k"
theorem k_26:KK y "shows_paper" 4 ["meeting","row","other","many","thing"] IC:=kA y y.f26 λ_ hr=>by delta IB;walk_at "k"
theorem k_27:KK y "leads_there" 3 ["meeting","row","other","pairs"] IE:=kA y y.f27 λ_ hr=>by delta ID;walk_at "k"
theorem k_28:KK y "is_boat" 1 ["thing"] IG:=kA y y.f28 λ_ hr=>by delta IF;walk_at "k"
theorem k_29:KK y "is_pair_of" 2 ["row","thing"] II:=kA y y.f29 λ_ hr=>by delta IH;walk_at "k"
theorem k_30:KK y "shows_touches" 4 ["meeting","row","other","thing"] IK:=kA y y.f30 λ_ hr=>by delta IJ;walk_at "k"
theorem k_31:KK y "shows_fewest" 5 ["meeting","row","other","thing"] Eg:=kA y y.f31 λ_ hr=>by delta IL;walk_at "k"
theorem k_32:KK y "_law_table_right" 2 ["_law_meeting","_law_row","_law_other","_law_many","_law_numbers_here"] FP:=kA y y.f32 λ_ hr=>by delta FO;walk_at "k"
theorem k_33:KK y "_law_rounds" 1 ["_law_row","_law_other"] FQ:=kA y y.f33 λ_ hr=>by delta IM;walk_at "k"
theorem k_34:KK y "_law_paper_right" 3 ["_law_meeting","_law_row","_law_other","_law_many","_law_paper"] IP:=kA y y.f34 λ_ hr=>by delta IN;walk_at "k"
theorem k_35:KK y "_law_led" 2 ["_law_meeting","_law_row","_law_touches_here"] IR:=kA y y.f35 λ_ hr=>by delta IQ;walk_at "k"
theorem k_36:KK y "_law_right" 4 ["_law_meeting","_law_row","_law_other","_law_thing"] Eh:=kA y y.f36 λ_ hr=>by delta IS;walk_at "k"
theorem k_37:KK y "_law_any" 2 ["_law_pot"] o7:=kA y y.f37 λ_ hr=>by delta IT;walk_at "k"
theorem k_38:KK y "_law_leaf" 3 ["_law_pot","_law_thing"] IV:=kA y y.f38 λ_ hr=>by delta IU;walk_at "k"
theorem k_39:KK y "_law_spoilt" 12 ["_law_pot","_law_thing"] Ei:=by
 have go:∀d,KK y "_law_spoilt" (4+d) ["_law_pot","_law_thing"] (Df d):=λd=>by
  induction d with
  |zero=>exact kA y y.f39 λnd hr=>QY
  |succ d g=>exact kA (k:=4+d) y y.f39 λnd hr=>(Ad (DS (Ku (Kp (KA (n:="tuple") 0b0 (λ_=>rfl) (λ_=>y.m6) (qv 1) (λ_=>tyw rfl y.m16 GR)))) (BL (BM (AF (λ_=>(k_38 y)) (λ_=>hr) 0x0 (λ_=>rfl) (M8 (qv 0) (M8 (qv 1) Z3))))) DQ)
  (Ad (DS (QW.qt (Kt (CM (cNe 4 λ_=>hr) (qv 1) (QE.r (Fh Z3)) (AC _)) (Ks (CM cGt (AF (λ_=>(k_1 y)) (λ_=>hr) 0x0 (λ_=>rfl) (M8 (qv 0) (M8 Z1 Z3))) (QE.r Z1) (AC _))))) (Ad (DR 2 (sws 2 nd) (AF (λ_=>(k_1 y)) (λ_=>hr) 0x0 (λ_=>rfl) (M8 (qv 0) (M8 (Fn (λ_=>rfl) (λ_=>y.m7) (QE.r (qv 1))) Z3))))
  (BL (BM (X0 (X0 (d9 (qv 1) n6 (X2 (qv 2))) (Fh (M8 (AF (λ_=>g) (λ_=>hr) (B3 _) (λ_=>rfl) (M8 (qv 0) (M8 (Fk (qv 1) (qv 2)) Z3))) Z3))) (d9 (qv 1) (X2 (X0 (qv 2) Z1)) n6))))) DQ)
  (Ad (KO 3 2 (λ_=>Hi (i:=3) (j:=2) rfl nd rfl rfl 0b0 rfl rfl rfl) (ql_v (AF (λ_=>(k_1 y)) (λ_=>hr) 0x0 (λ_=>rfl) (M8 (qv 0) (M8 Z1 Z3)))) (ql_v (AF (λ_=>(k_1 y)) (λ_=>hr) 0x0 (λ_=>rfl) (M8 (qv 0) (M8 (X0 (Fn (λ_=>rfl) (λ_=>y.m7) (QE.r (qv 1))) Z1) Z3)))))
  (Ad (DS (CM (cEq 4 λ_=>hr) (qv 3) (QE.r Z1) (AC _)) (BL (BM (X0 (X0 (d9 (qv 1) n6 (X2 (qv 2))) (Fh (M8 (AF (λ_=>(k_37 y)) (λ_=>hr) 0x0 (λ_=>rfl) (M8 (qv 0) Z3)) Z3))) (d9 (qv 1) (X2 (qv 2)) n6)))) DQ)
  (Ad (DS (CM cLt (qv 3) (QE.r Z1) (AC _)) (BL (BM (Fk (QN.ee (Fi (M8 (QN.ee (Kz (λ_=>rfl) (λ_=>y.m8) (QE.r (qv 1)))) (M8 (Hm (QE.r (qv 1))) Z3)))) (GV (qv 3) Z1)))) DQ)
  (Ad (DR 4 (sws 4 nd) (X0 (X0 (d9 (qv 1) n6 (X2 (qv 2))) (Hm (QE.r (d9 (qv 1) (X2 (qv 2)) (X2 (X0 (qv 2) Z1)))))) (d9 (qv 1) (X2 (X0 (qv 2) Z1)) n6)))
  (Ad (DR 5 (sws 5 nd) (QN.ee (Fi (M8 (X0 (d9 (qv 1) n6 (X2 (qv 2))) (d9 (qv 1) (X2 (X0 (qv 2) Z1)) n6)) (M8 (X0 (X0 (d9 (qv 1) n6 (X2 (qv 2))) (d9 (qv 1) (X2 (qv 2)) (X2 (X0 (qv 2) Z1)))) (d9 (qv 1) (X2 (qv 2)) n6)) (M8 (qv 4) Z3))))))
  (BL (BM (Fk (QN.ee (KQ (QE.r (qv 5)) (QE.r (QN.ee (Fi (M8 (AF (λ_=>(k_37 y)) (λ_=>hr) 0x0 (λ_=>rfl) (M8 (qv 0) Z3)) Z3)))))) (GV (qv 3) Z1)))))))))))
 exact go 8
theorem k_law:Kn P w K mg base "law" 13 ["_law_script"] (Fa K):=by
 have sc:Aa ["_law_script","_law_pot","_law_meeting","_law_row","_law_other","_law_papers_here","_law_touches_here","_law_own","_law_some","_law_thing","_law_kept","_law_told"] ["_law_script"] (K6 (top 47)):=⟨rfl,rfl,rfl,by decide +kernel,rfl,by decide +kernel,by decide +kernel⟩;have nd:=sc.nd;exact law_ok (T:=potL) y.f40 sc (λ_ _ _ _ _ _=>bd1 λ_=>rfl) (k:=12) (body:=FR) (λ_ _ _ _ _ _ _ hr=>by delta FR;walk_at "k") m_law
end
end Tb
open PySem PySem.W PyProof.Rows L2 Tb
set_option hygiene false in
local macro_rules | `(tactic| walk_at "F")=>`(tactic| (dsimp only [KOf];refine' fn0_mk KX G ?a ?l ?c ?k;(case a=>k_is);(case l=>k_is);(case c=>k_is);(case k=>k_is)))
set_option hygiene false in
local macro_rules | `(tactic| walk_at "Z")=>`(tactic| (refine PySem.W.mg_none_of (K:=KOf KX) KX G ?_;dsimp only [KOf];k_is))
set_option maxRecDepth 100000 in
set_option maxHeartbeats 0 in
theorem PySem.Challenge.cw_touchboats_k48_fewest_looked_at_holds : PySem.Challenge.rw_touchboats_k48_fewest_looked_at.Holds := by
 w_on;o_law;k_head;(case hw=>w_witness2)
 k_fill
 refine Oj (l:=PySem.Challenge.rw_touchboats_k48_fewest_looked_at) (x:="_law_script") (k:=13) rfl rfl ⟨rfl,by decide,by decide,rfl⟩ (λw h Y=>PySem.W.kIn_of Y) ?F
 case F=>
  intro w mg h KX G;refine⟨top 47,by walk_at "F",λ_ _ _ _ _ _ s u=>.of_eq rfl,λbase kb nb=>?_⟩;refine k_law (P:=PySem.Challenge.rw_touchboats_k48_fewest_looked_at.prog) (w:=w) (K:=KOf KX) (mg:=mg) (base:=base) ⟨?_,?_,?_,?_,?_,?_,?_,?_,?_,?_,?_,?_,?_,?_,?_,?_,?_,?_,?_,?_,?_,?_,?_,?_,?_,?_,?_,?_,?_,?_,?_,?_,?_,?_,?_,?_,?_,?_,?_,?_,?_,?_,?_,?_,?_,?_,?_,?_,?_,?_,?_,?_,?_,?_,?_,?_,?_,?_,?_,?_,?_⟩ <;> first|walk_at "F"|walk_at "Z"|(refine' Ot (K:=KOf KX) KX G ?a;(case a=>(dsimp only[KOf];k_is)))
end
