import PyProof.Rows.All
import Wide.All
import OpenK.AllK
import Wide.FinOn
import PyProof.EqAt
import PyProof.EqKinds
import PyProof.TupleCall
import PyProof.NeKinds
import PyProof.EnumMake
import PyProof.ConsumeWalk
import KE.LcSums
import PyProof.ReprLen
import PyProof.StrLawsRepr
import PyProof.Rows.StrNews2
import PyProof.Rows.SetFrom
import PyProof.WalksMore
import PyProof.StrLawsChain
import PyProof.StrLawsTight
import PyProof.StrLawsIdx
import PyProof.ZipIter
import PyProof.Draws
import PyProof.Rows.FactsT2
import PyProof.ListStr
import PyProof.Rows.StrPartPair
import KE.KSortTup
import KE.KDictSum
import KE.KRevIter
import PyProof.DictItems
import KE.KPairComp
import PyProof.AutoSeq1
import PyProof.SetNew
import PyProof.AttrMissHeap
import PyProof.IsRules
import PyProof.SumWalk
import Lean
import PySem.Challenge.RW_touchboats_k26_rows_that_no_day_makes
set_option Elab.async false
set_option linter.all false
set_option maxRecDepth 100000
set_option maxHeartbeats 4000000
namespace PySem.W.Fast
def tw8125353468048207797:=0
def tw5872217205189937531:=0
def tw15474267221578812880:=0
def tw18380918645053776160:=0
def tw9741878966367515665:=0
def tw9874751428440667831:=0
def tw7674373580264751621:=0
def tw10500838635216899533:=0
def tw15577210936341010394:=0
def tw10929981764742769030:=0
def tw15326691632823020404:=0
def tw11656873073206326976:=0
def tw946766202639541061:=0
def tw2511766996139178344:=0
def tw8381145142856652418:=0
def tw18424504234460907673:=0
def tw10382088075319845423:=0
def tw11024637702039963080:=0
def tw16406748056543730111:=0
def tw10877305117963305783:=0
def tw16832851172071182818:=0
def tw13124344530258296878:=0
def tw17993536647788154385:=0
def tw2802012557909403807:=0
def tw13249177909475490281:=0
def tw14088817900862225786:=0
def tw4422209041591859115:=0
def tw4830926291792054881:=0
def tw3896946833210656146:=0
def tw9809236437412331697:=0
def tw13855602952400382252:=0
def tw16672188002601358240:=0
def tw8610407935225631029:=0
def tw3853707078613661328:=0
def tw5495774582474300239:=0
def tw6039982699306834385:=0
def tw16416871877304656105:=0
def tw5777650970616613363:=0
def tw11424870321101058340:=0
def tw6795995964187259650:=0
def tw1804351140410916379:=0
def tw7456205063091069665:=0
def tw9876403784255575583:=0
def tw7321353333182368729:=0
def tw12760753539034815391:=0
def tw9476482403633514782:=0
def tw11590230246867391795:=0
def tw12788364982276088864:=0
end PySem.W.Fast
open PySem renaming wpAny_bind->A0,wpAny_pure->A8,Shared->A5,Value->A3,wpAny->A6,sizeLine->B9,model->A7,Addr->A1,wpAny_newObj_type->P2,wpAny_call_entry->P3,Program->C8,wpAny_callSpecial?_slot->W7,wpAny_holding->L6,starEach->E3,assignEach->G8,wpAny_mono->J1,wpAny_field->K5,wpAny_of_eq->K6,bootBuiltins->M7,foldedSetIterable->T8,wpAny_setState_of->W8,Around->D5,sizeLine_eq->Q4,World->C4,compareOp->L7,sysModules->P4,wpAny_seqItems->W9,codeAny_builtin->b9,wpAny_truthy_bool->u9,mem_of_lookup->Aj,wpAny_standAt->c0,letOwnedTupleGo->v4,Heap->B6,Builtin->L8,wpAny_pyIter_tuple->Bc,plainId_quiet->k5,wpAny_setField_rec->Bd,SetTable->Q5,mainGlobals->Y2,isSubtype_type->v5,wpAny_setField->w4,wpAny_passesOwn->Ak,codeAny->N7,attributeBase->w5,wpAny_getItem_str_slice->DY,wpAny_setEntries_of->Cp,wpAny_rule->Y3,wpAny_pyIter_rangeiter->DZ,wpAny_typeOf->w6,wpAny_specialOf->Be,wpAny_pyIter_list->Cq,behindInMarks->Am,wpAny_attempt->An,binaryOp->V0,codeAny_mono->Ao,swapsWith->c6,codeAny_of_tree->Cr,holding->T9,keywordEach->Ap,sliceBounds->Aq,Keyword->V1,wpAny_askSetting->D_,wpAny_isInstance->Ea,wpAny_forIn_list->Eb,Scope->K9,wpAny_execs_nil->Ec,getItem->X0,post_val_or_str->Ed,standAt->c7
open PySem.W renaming Frag->A9,kia_one->Y4,fnOf->X1,kas_place->V3,kas_rev->Q6,kas_sort->R8,kas_asc->U1,kitOne->Cs,keepIn->Cu,kas_desc->c8,codeIn->Ee,methodObj->Gz
open PySem.Heap renaming get?_push_of_some->C0,get?_push_size->F2,lt_size->D1,get?_update_other->Bf,size_push->d7,SameBut->X2,get?_update_self->Bg
open List renaming length_map->B4,mem_cons_of_mem->C3,getElem?_eq_getElem->D9,mem_cons_self->C7,getElem?_eq_some_iff->F6,mem_cons->C5,length_append->E6,getElem?_map->E7,size_toArray->F7,length_cons->E8,mem_of_getElem?->J5,range->D3,mem_singleton->K2,getElem?_set_self->P5,mem_map->F3,getElem?_set_ne->O4,mem_filter->J9,length_filter_le->Q7,getElem?_append_right->V4,not_mem_nil->L9,getElem?_eq_none->R9,length_set->M1,mem_append->M8,length_take->O5,map_append->N8,map_cons->K7,length_drop->P6,drop_of_length_le->V5,getElem?_append_left->Y5,mem_range->N9,getD_eq_getElem?_getD->d8,all_eq_true->R4,pairwise_iff_getElem->e6,Nodup->G9,nodup_cons->R5,mem_append_right->Y6,append_assoc->V6,length_singleton->e7,take_of_length_le->k6,mem_flatMap->V7,append_nil->X3,length_range->e9,filter_eq_nil_iff->Ar,drop_eq_getElem_cons->Bh,foldl_cons->Y7,eq_nil_of_length_eq_zero->Cv,reverse_cons->k7,map_map->U2,flatMap_cons->k8,pairwise_map->k9,any_eq_true->l4,cons_append->l5,filterMap_cons->As,length_reverse->At,getElem?_cons_succ->Cw,filter_cons_of_pos->Cy,nil_append->w8,take_append_drop->Cz,mem_iff_getElem?->CA,mem_append_left->CB,filter_cons_of_neg->Ef,getElem_mem->Bi,drop_zero->Au,zip_cons_cons->CC,map_nil->w9,find?_cons->Bj,ext_getElem?->CD,perm_ext_iff_of_nodup->GA,length_eraseIdx_of_lt->GB,mem_of_mem_take->Eg,take_length->CF,getElem_of_mem->Eh,getElem?_replicate->GC,getElem?_cons_zero->GD,any_eq_false->Ei,nodup_append->Ej,map_set->Bk,drop_length->Ek,mem_iff_getElem->GE,toList_toArray->GF
open PySem.Str renaming ofString->B0
open Nat renaming le_refl->B8,ne_of_lt->F4,lt_of_lt_of_le->O0,zero_add->J3,zero_le->K3,le_trans->M2,lt_trichotomy->l6,lt_irrefl->Y8,le_of_not_lt->Av,lt_of_le_of_lt->Bm,sub_succ_lt_self->CG,lt_succ_of_lt->Bn,le_of_lt->x4,min_eq_left->Bo,le_of_lt_succ->CH,min_eq_right->CJ,ne_of_gt->Aw,lt_trans->Bp,sub_self->Bq,lt_succ_self->Em,le_succ->Br,not_lt_zero->Eo,le_total->CK,lt_or_ge->CL
open Bool renaming false_ne_true->L0,false_eq_true->L3,eq_iff_iff->Y9,and_eq_true->h9,beq_eq_decide_eq->CM,not_true->l7,or_false->Ax,false_and->CN,and_false->CO
open PySem.Builtin.Range renaming rangeFitsLong->U3,rangeSize->CP,rangeFields->JH
open Array renaming length_toList->O6,getElem?_toList->V8,getElem?_eq_getElem->l8,getD_eq_getD_getElem?->Ay,getElem?_eq_none->Ep,perm_iff_toList_perm->GG,replicate->Er
open Option.some renaming inj->M9
open PySem.Builtin.SmallTypes renaming nextOf->i3,ownedTupleIsFree->Es,ownedTupleHandOut->JI
open Sum renaming inr->D8,inl->O7
open PyProof.Rows renaming callWith_type1->x5,slot_tuple_getitem->Bs,envOfC->GH
open PySem.Heap.SameBut renaming update->X4
open PySem.Value renaming type->K1,ref->K8,none->Q8,builtin->Bt
open Int renaming toNat_natCast->V9,emod_lt_of_pos->Bu,eq_ofNat_of_zero_le->Et,emod_nonneg->Bv
open PySem.Builtin.Slice renaming slicePlaces->x6,sliceAdjust->CQ,sliceApplied->Eu,sliceFields->JJ
open PySem.Builtin.Tuple renaming tupleExact->x8,tupleItemsOf->GI
open PySem.Around renaming under_plainId->n6
open PyProof.Rows.F renaming plain_set_update_loop->Az,entry_set_update_loop->Ew
open Classical renaming byContradiction->Bw
open PySem.Builtin.Str renaming occurrences->Bx
open PySem.PyData renaming showable->i4,showableAll->By,shownAll->AA,depth->o5,shown->o6,shownKv->Bz,depthAll->CS,showableKv->Ex,depthKv->Ey
open PySem.Obj renaming mapSeq->T0,data_mapFields->Ez
open PySem.Builtin.List renaming listTooLong->CT,listLengthHint->JK,listExtendWith->JL,listFitsIndex->JM
open PySem.F renaming plainAttrs_list->CU,slot_tuple_iterator_next->EA,plain_reversed_new->EB,args_tuple_add_2->GJ,entry_tuple_add->GK,slot_tuple_add->GM,slot_zip_next->EC
open ForInStep renaming yield->x9
open Option renaming isSome_iff_exists->ED
open PySem.AutoSeq1 renaming wpAny_loadPart'->EE
open PySem.Txt renaming slice->W0,slice_le->BA
open True renaming intro->Z0
open Array.Perm renaming refl->BB
open False renaming elim->i5
open PySem.StrLaws renaming sliceText->EF
open List.Perm renaming refl->CV
open PySem.SetTable renaming grown->CW
open PySem.SeqAt renaming RcNeAt->BC,EqAt->AB,RcAt->BD
open PySem.Paired renaming length->CY
open Prod.mk renaming inj->BE
open PySem.Data renaming fields->BF
open PySem.Heap.IsSliceOf renaming new->GN
open List.Pairwise renaming nil->GO
theorem jp{p:Prop}[Decidable p](h:p):decide p=true:=decide_eq_true h
theorem jq{p:Prop}[Decidable p](h:¬p):decide p=false:=decide_eq_false h
theorem jr{c:Prop}{h:Decidable c}(i:c){α:Type}{t e:α}:ite c t e=t:=if_pos i
theorem jt{c:Prop}{h:Decidable c}(i:¬c){α:Type}{t e:α}:ite c t e=e:=if_neg i
theorem ju{p:Prop}[Decidable p](h:decide p=true):p:=of_decide_eq_true h
local macro_rules|`(tactic|omega)=>`(tactic|lia)
section
namespace L2
open PySem PySem.Spec PyProof.Rows
abbrev Key:=Sum Int Str
def BG:Key->A3->Bool
 |.inl k,v=>Value.isInt k v
 |.inr x,v=>Value.isStrOf x v
def keyH (w:C4):Key->Int
 |.inl k=>hashInt k
 |.inr x=>hashStr w x
theorem Z1:∀{k:Key} {v:A3},BG k v=true->(∃i t,k=O7 i/\v=Value.int i t)\/(∃x t,k=D8 x/\v=Value.str x t)
 | .inl i, v, h => by
  obtain⟨t,e⟩:=Value.isInt_shape (k:=i) (v:=v) h;exact .inl ⟨i,t,rfl,e⟩
 | .inr x, v, h => by
  obtain⟨t,e⟩:=Value.isStrOf_shape (x:=x) (v:=v) h;exact .inr ⟨x,t,rfl,e⟩
theorem ON (i:Int)(t:Tok):BG (.inl i) (.int i t)=true:=by simp[BG,Value.isInt]
theorem OP (x:Str)(t:Tok):BG (.inr x) (.str x t)=true:=by simp[BG,Value.isStrOf]
theorem key_ll (a b:Int):decide ((O7 a:Key)=O7 b)=(a == b):=by grind
theorem key_rr (a b:Str):decide ((D8 a:Key)=D8 b)=decide (a=b):=by simp
theorem key_lr (a:Int)(b:Str):decide ((O7 a:Key)=D8 b)=false:=rfl
theorem key_rl (a:Str)(b:Int):decide ((D8 a:Key)=O7 b)=false:=rfl
def G5 (prog:C8)(w:C4):PySem.KeyKind prog w Key where
 is:=BG
 hash:=keyH w
 inj:=fun v a b ha hb=>by
  rcases Z1 ha with⟨i,t,rfl,rfl⟩|⟨x,t,rfl,rfl⟩
  ·rcases Z1 hb with⟨j,u,rfl,e⟩|⟨y,u,rfl,e⟩
   ·injection e with e1 _;rw[e1]
   ·exact nomatch e
  ·rcases Z1 hb with⟨j,u,rfl,e⟩|⟨y,u,rfl,e⟩
   ·exact nomatch e
   ·injection e with e1 _;rw[e1]
 byValue:=λk v h=>by
  rcases Z1 h with⟨i,t,rfl,rfl⟩|⟨x,t,rfl,rfl⟩ <;> rfl
 pyHash:=λhv h=>by
  rcases Z1 hv with⟨i,t,rfl,rfl⟩|⟨x,t,rfl,rfl⟩
  ·exact wpAny_pyHash_int h
  ·exact wpAny_pyHash_str h
 eqBool:=λhu hv h=>by
  rcases Z1 hu with⟨i,t,rfl,rfl⟩|⟨x,t,rfl,rfl⟩
  ·rcases Z1 hv with⟨j,u,rfl,rfl⟩|⟨y,u,rfl,rfl⟩
   ·rw[key_ll] at h;exact wpAny_eqBool_int h
   ·rw[key_lr] at h;exact SeqAt.EqAt.int_str i t y u _ _ _ _ h
  ·rcases Z1 hv with⟨j,u,rfl,rfl⟩|⟨y,u,rfl,rfl⟩
   ·rw[key_rl] at h;exact SeqAt.EqAt.str_int x t j u _ _ _ _ h
   ·rw[key_rr] at h;exact wpAny_eqBool_str h
 «strs»:=λk x t v h=>by
  rcases Z1 h with⟨i,u,rfl,e⟩|⟨y,u,rfl,e⟩
  ·exact nomatch e
  ·injection e with e1 _;subst e1;cases v <;> rfl
theorem JN (prog:C8)(w:C4)(i:Int)(t:Tok):(G5 prog w).is (.inl i) (.int i t)=true:=ON i t
theorem GP (prog:C8)(w:C4)(x:Str)(t:Tok):(G5 prog w).is (.inr x) (.str x t)=true:=OP x t
inductive V where
 |non|bl (b:Bool)|int (i:Int)|str (x:Str)|byt (b:Array UInt8)|flt (b:UInt64)|ref (a:A1)|ty (n:String)
 deriving DecidableEq
def RelV:V->A3->Prop
 |.non,u=>u=Q8
 |.bl b,u=>u=Value.bool b
 |.int i,u=>∃t,u=Value.int i t
 |.str x,u=>∃t,u=Value.str x t
 |.byt b,u=>∃t,u=Value.bytes b t
 |.flt b,u=>∃t,u=Value.float b t
 |.ref a,u=>u=K8 a
 |.ty n,u=>u=K1 n
abbrev Vals:List V->List A3->Prop:=Paired RelV
theorem Vals.length (r:Vals xs us):xs.length=us.length:=CY r
theorem Vals.get:∀{xs:List V} {us:List A3} {i:Nat} {x:V},Vals xs us->xs[i]?=some x->∃u,us[i]?=some u/\RelV x u
 |_,_,_,_,.nil,e=>by simp at e
 |_,_,0,_,.cons r _,e=>by simp at e;subst e;exact⟨_,rfl,r⟩
 | _, _, i + 1, x, .cons _ t, e => by
  obtain⟨u,h1,h2⟩:=Vals.get (i:=i) (x:=x) t (by grind);exact⟨u,by simpa using h1,h2⟩
theorem Vals.set (r:RelV x u):∀{xs:List V} {us:List A3} (i:Nat),Vals xs us->Vals (xs.set i x) (us.set i u)
 |_,_,_,.nil=>.nil
 |_,_,0,.cons _ t=>.cons r t
 |_,_,i+1,.cons q t=>.cons q (Vals.set r i t)
theorem Vals.append (h:Vals xs us)(s:Vals ys ws):Vals (xs++ys) (us++ws):=by
 induction h with
 |nil=>exact s
 |cons r _ ih=>exact .cons r ih
theorem Vals.take:∀{xs:List V} {us:List A3} (n:Nat),Vals xs us->Vals (xs.take n) (us.take n)
 |_,_,0,_=>.nil
 |_,_,_+1,.nil=>.nil
 |_,_,n+1,.cons r t=>.cons r (Vals.take n t)
theorem Vals.drop:∀{xs:List V} {us:List A3} (n:Nat),Vals xs us->Vals (xs.drop n) (us.drop n)
 |_,_,0,r=>r
 |_,_,_+1,.nil=>.nil
 |_,_,n+1,.cons _ t=>Vals.drop n t
def RelO:Option V->Option A3->Prop
 |some v,some u=>RelV v u
 |none,none=>True
 |_,_=>False
def KV {κ:Type}:List (κ×V)->List (κ×A3)->Prop:=Paired λ(p:κ×V) (q:κ×A3)=>p.1=q.1/\RelV p.2 q.2
def kV:Key->V
 |.inl i=>.int i
 |.inr x=>.str x
inductive HO where
 /-- a list -/
 |lst (xs:List V)
 /-- a tuple (never changes) -/
 |tup (xs:List V)
 /-- a dict whose keys are ints and X5; one whose keys are tuples of ints and X5 (the empty one is both) -/
 |dK (jg:List (Key×V))|dT (jg:List (List Key×V))
 /-- a set of ints: jf members, jf size -/
 |set (S:Key->Bool) (n:Nat)
 /-- an instance of the class at C, jf dict at dx, jf attributes -/
 |ins (C dx:A1) (fs:List (Str×V))
 /-- the dict of the instance at x -/
 |own (x:A1)
 /-- the dict of an exception -/
 |xd (fs:List (Str×V))
 /-- a bound method, f of x -/
 |met (f x:A1)
 /-- a range object lo, lo + 1, .. below hi -/
 |rng (lo hi:Int)
 /-- a thing that is known to the object (the script; a dict while a loop walks it): read, never written while it is so -/
 |frz (o:Obj) (u:HO)
 /-- a code object's table -/
 |tbl (ps:Array A3)
 /-- any ja thing, by what is true of jf one object (a def of one's own: SetO a S n := HO.ext fun h => ..) -/
 |ext (φ:B6->Prop)
abbrev Hp:=A1->Option HO
def upd (H:Hp)(a:A1)(o:HO):Hp:=λb=>if b=a then some o else H b
theorem E4:upd H a o a=some o:=by unfold upd;rw[jr rfl]
theorem D4 (h:b≠a):upd H a o b=H b:=by unfold upd;rw[jt h]
theorem EG:upd (upd H a o) a u=upd H a u:=by
 funext b;unfold upd;split <;> rfl
theorem ne_of {H:Hp}(h:H a=some o)(h':H b=some u)(d:o≠u):a≠b:=by
 intro e;subst e;rw[h] at h';exact d (M9 h')
theorem Z2 {H:Hp}(h:H a=some o)(h':H b=none):a≠b:=by
 intro e;subst e;rw[h] at h';cases h'
def Z3 (h:B6)(a:A1)(items:Array A3):Prop:=∃o,h.get? a=some o/\(o.cls,o.dict)=(K1 "tuple",none)/\∃n,o.data=.seq items n
theorem Z3.is (x:Z3 h a items):IsTup h a items:=let ⟨o,e,c,r⟩:=x;⟨o,e,(BE c).1,r⟩
theorem Z3.lt (x:Z3 h a items):a<h.objs.size:=let ⟨_,e,_⟩:=x;D1 e
theorem Z3.new (h:B6)(items:Array A3):Z3 (h.push { cls:=.type "tuple",data:=.seq items }) h.objs.size items:=⟨_,F2 _ rfl,rfl,_,rfl⟩
section
variable (P:C8)(w:C4)
def F9 (H:Hp)(h:B6)(a:A1):HO->Prop
 |.lst xs=>xs.length<=B9/\∃(jf:List A3) (n:Nat),Vals xs jf/\h.get? a=some { cls:=.type "list",data:=.seq jf.toArray n }
 |.tup xs=>xs.length<=B9/\∃jf:List A3,Vals xs jf/\Z3 h a jf.toArray
 |.dK jg=>jg.length<=B9/\(a == P4)=false/\∃vs,KV jg vs/\h.DictOf (G5 P w) a vs
 |.dT jg=>jg.length<=B9/\(a == P4)=false/\∃xs:List (List Key×A1×A3),
     Paired (λ(p:List Key×V) (q:List Key×A1×A3)=>p.1=q.1/\H q.2.1=some (.tup (p.1.map kV))/\RelV p.2 q.2.2) jg xs/\
     ∃o es ep,h.get? a=some o/\o.ExactDict/\o.data=.dict es ep/\es.toList=xs.map (entryOfKey (tupleKind (G5 P w)))/\(xs.map (·.1)).Nodup
 |.set S n=>h.SetOf (G5 P w) a S n
 |.ins C dx fs=>H dx=some (.own a)/\fs.length<=1000/\dx≠a/\h.get? a=some (PySem.W.instObj C dx)/\
     ∃mA,h.Ns1 dx mA/\(∀f,RelO (fs.lookup f) (mA f))/\PySem.Within mA (fs.map (·.1))
 |.own _=>∃o,h.get? a=some o
 |.xd fs=>∃mA,h.Ns1 a mA/\∀f,RelO (fs.lookup f) (mA f)
 |.rng lo hi=>∃t u v,h.get? a=some { cls:=.type "range",data:=.fields #[.int lo t,.int hi u,.int 1 v] }
 |.frz o u=>h.get? a=some o/\F9 H h a u
 |.tbl ps=>h.get? a=some { cls:=.none,data:=.fields ps }
 |.met f x=>h.get? a=some (Gz (.ref f) (.ref x))
 |.ext φ=>φ h/\(∃o,h.get? a=some o)/\∀h1 h2:B6,φ h1->(∀o,h1.get? a=some o->h2.get? a=some o)->φ h2
def HOk (H:Hp)(h:B6):Prop:=∀a o,H a=some o->F9 P w H h a o
end
section
variable {P:C8}{w:C4}{H H':Hp}{h h':B6}{a:A1}{o:HO}
theorem F9.lt (x:F9 P w H h a o):a<h.objs.size:=by
 cases o with
 |lst xs=>obtain⟨_,_,_,_,e⟩:=x;exact D1 e
 |tup xs=>obtain⟨_,_,_,p⟩:=x;exact p.lt
 |dK jg=>obtain⟨_,_,_,_,o,_,_,e,_⟩:=x;exact D1 e
 |dT jg=>obtain⟨_,_,_,_,o,_,_,e,_⟩:=x;exact D1 e
 |set S n=>obtain⟨o,_,_,_,e,_⟩:=x;exact D1 e
 |ins C dx fs=>obtain⟨_,_,_,e,_⟩:=x;exact D1 e
 |own y=>obtain⟨_,e⟩:=x;exact D1 e
 |xd fs=>obtain⟨_,⟨_,_,_,e,_⟩,_⟩:=x;exact D1 e
 |rng lo hi=>obtain⟨_,_,_,e⟩:=x;exact D1 e
 |frz ob u=>obtain⟨e,_⟩:=x;exact D1 e
 |tbl ps=>exact D1 (show h.get? a=some _ from x)
 |met f y=>exact D1 (show h.get? a=some _ from x)
 |ext φ=>obtain⟨_,⟨_,e⟩,_⟩:=x;exact D1 e
theorem Paired.mapP {α β:Type}{F G:α->β->Prop}{l₁:List α}{l₂:List β}(h:Paired F l₁ l₂)(f:∀a b,F a b->G a b):Paired G l₁ l₂:=by
 induction h with
 |nil=>exact .nil
 |cons r _ ih=>exact .cons (f _ _ r) ih
theorem Paired.imp' {α β:Type}{F G:α->β->Prop}(f:∀a b,F a b->G a b){l₁:List α}{l₂:List β}(r:Paired F l₁ l₂):Paired G l₁ l₂:=Paired.mapP r f
theorem F9.stay (x:F9 P w H h a o)(k:∀b u,(b=a\/H b=some (.own a))->h.get? b=some u->h'.get? b=some u)
   (ho:∀b,H b=some (.own a)->H' b=some (.own a)) (ht:∀b xs,H b=some (.tup xs)->H' b=some (.tup xs)):F9 P w H' h' a o:=by
 induction o with
 |lst xs=>obtain⟨z,jf,n,r,e⟩:=x;exact⟨z,jf,n,r,k _ _ (.inl rfl) e⟩
 |tup xs=>obtain⟨z,jf,r,ob,e,c⟩:=x;exact⟨z,jf,r,ob,k _ _ (.inl rfl) e,c⟩
 |dK jg=>obtain⟨z,y,vs,r,ob,es,ep,e,c⟩:=x;exact⟨z,y,vs,r,ob,es,ep,k _ _ (.inl rfl) e,c⟩
 | dT jg =>
  obtain⟨z,y,xs,r,ob,es,ep,e,c⟩:=x;exact⟨z,y,xs,Paired.mapP r λp q z=>⟨z.1,ht _ _ z.2.1,z.2.2⟩,ob,es,ep,k _ _ (.inl rfl) e,c⟩
 |set S n=>obtain⟨ob,es,ep,t,e,c⟩:=x;exact⟨ob,es,ep,t,k _ _ (.inl rfl) e,c⟩
 | ins C dx fs =>
  obtain⟨d,z,ne,e,mA,⟨od,es,ep,e2,c⟩,r⟩:=x;exact⟨ho _ d,z,ne,k _ _ (.inl rfl) e,mA,⟨od,es,ep,k _ _ (.inr d) e2,c⟩,r⟩
 |own y=>obtain⟨ob,e⟩:=x;exact⟨ob,k _ _ (.inl rfl) e⟩
 |xd fs=>obtain⟨mA,⟨od,es,ep,e,c⟩,r⟩:=x;exact⟨mA,⟨od,es,ep,k _ _ (.inl rfl) e,c⟩,r⟩
 |rng lo hi=>obtain⟨t,u,v,e⟩:=x;exact⟨t,u,v,k _ _ (.inl rfl) e⟩
 |frz ob u ih=>obtain⟨e,q⟩:=x;exact⟨k _ _ (.inl rfl) e,ih q⟩
 | tbl ps =>
  have e:h.get? a=some { cls:=.none,data:=.fields ps }:=x;show h'.get? a=some { cls:=.none,data:=.fields ps };exact k a _ (.inl rfl) e
 | met f y =>
  have e:h.get? a=some (Gz (.ref f) (.ref y)):=x;show h'.get? a=some (Gz (.ref f) (.ref y));exact k a _ (.inl rfl) e
 |ext φ=>obtain⟨p,⟨o,e⟩,st⟩:=x;exact⟨st _ _ p λo q=>k _ _ (.inl rfl) q,⟨o,k _ _ (.inl rfl) e⟩,st⟩
theorem HOk.lt (x:HOk P w H h)(e:H a=some o):a<h.objs.size:=(x a o e).lt
theorem HOk.fresh (x:HOk P w H h)(e:h.objs.size<=a):H a=none:=by
 cases q:H a with
 |none=>rfl
 |some u=>exact absurd (O0 (x.lt q) e) (Y8 _)
theorem HOk.kept (x:HOk P w H h)(k:∀b u,h.get? b=some u->h'.get? b=some u):HOk P w H h':=λa o e=>
 (x a o e).stay (λb u _ q=>k b u q) (λ_ q=>q) λ_ _ q=>q
theorem HOk.laid (x:HOk P w H h)(k:∀b u,h.get? b=some u->h'.get? b=some u)(hp:h.objs.size<=a)(new:F9 P w (upd H a o) h' a o):HOk P w (upd H a o) h':=λb u e=>by
 have hn:=x.fresh hp
 by_cases hb:b=a
 ·subst hb;rw[E4] at e;cases e;exact new
 ·rw[D4 hb] at e;exact(x b u e).stay (λc v _ q=>k c v q) (λc q=>by rw[D4 (Z2 q hn)];exact q) λc xs q=>by rw[D4 (Z2 q hn)];exact q
end
def Rd (H:Hp)(a:A1)(u:HO):Prop:=H a=some u\/∃o,H a=some (.frz o u)
theorem Rd.ok (r:Rd H a u)(x:HOk P w H h):F9 P w H h a u:=by
 rcases r with r|⟨o,r⟩
 ·exact x a u r
 ·obtain⟨_,q⟩:=x a _ r;exact q
def Mut:Option HO->Prop
 |some (.lst _)=>True
 |some (.dK _)=>True
 |some (.dT _)=>True
 |some (.set _ _)=>True
 |some (.ins _ _ _)=>True
 |some (.ext _)=>True
 |_=>False
section
variable {P:C8}{w:C4}{H:Hp}{h h':B6}{x e:A1}{o':HO}
theorem HOk.write (ok:HOk P w H h)(mu:Mut (H x))(he:e=x\/H e=some (.own x))(k:∀b u,b≠e->h.get? b=some u->h'.get? b=some u)(heo:∃u,h'.get? e=some u)
   (new:F9 P w (upd H x o') h' x o'):HOk P w (upd H x o') h':=λb u q=>by
 have nown:∀c y,H c=some (.own y)->c≠x:=λc y r z=>by subst z;rw[r] at mu;exact mu
 have ntup:∀c xs,H c=some (.tup xs)->c≠x:=λc xs r z=>by subst z;rw[r] at mu;exact mu
 by_cases hb:b=x
 ·subst hb;rw[E4] at q;cases q;exact new
 ·rw[D4 hb] at q
  by_cases hbe:b=e
  ·have q':H b=some (.own x):=by
    rcases he with z|z
    ·exact absurd (hbe.trans z) hb
    ·rw[hbe];exact z
   rw[q] at q';cases q';obtain⟨v,hv⟩:=heo;exact⟨v,by rw[hbe];exact hv⟩
  ·refine(ok b u q).stay (λc v hc r=>k c v ?_ r) (λc r=>by rw[D4 (nown c b r)];exact r) λc xs r=>by rw[D4 (ntup c xs r)];exact r
   rcases hc with rfl|hc
   ·exact hbe
   ·rintro rfl;rcases he with z|z
    ·exact nown c b hc z
    ·rw[hc] at z;cases z;exact hb rfl
end
def NS (H:Hp):Prop:=H P4=none\/∃o u,H P4=some (.frz o u)
structure Un (fs ex:List A1)(H H':Hp)(h h':B6):Prop where
 keep:∀b o,h.get? b=some o->H b=none->b∉fs->b∉ex->h'.get? b=some o
 slot:∀b o,h.get? b=some o->H b=none->b∈fs->b∉ex->∃sl,h'.get? b=some { o with slots:=sl }
 free:∀b o,h.get? b=some o->H b=none->b∉ex->H' b=none
 there:∀b o,h.get? b=some o->b∉ex->∃o',h'.get? b=some o'
 tups:∀b xs,H b=some (.tup xs)->H' b=some (.tup xs)
 frzs:∀b o u,H b=some (.frz o u)->H' b=some (.frz o u)
 tbls:∀b ps,H b=some (.tbl ps)->∃more,H' b=some (.tbl (ps++more))
 sys:NS H->NS H'
section
variable {fs fs' ex ex':List A1}{H H1 H2:Hp}{h h1 h2 h':B6}{a x e:A1}{o:HO}
theorem Un.any (u:Un fs ex H H1 h h1)(q:h.get? b=some ob)(n:H b=none)(hx:b∉ex):∃sl,h1.get? b=some { ob with slots:=sl }:=by
 by_cases hb:b∈fs
 ·exact u.slot b ob q n hb hx
 ·exact⟨ob.slots,u.keep b ob q n hb hx⟩
theorem Un.kept (k:∀b u,h.get? b=some u->h'.get? b=some u):Un fs ex H H h h':=
 ⟨λb ob q _ _ _=>k b ob q,λb ob q _ _ _=>⟨ob.slots,k b ob q⟩,λ_ _ _ n _=>n,λb ob q _=>⟨ob,k b ob q⟩,λ_ _ q=>q,λ_ _ _ q=>q,λ_ ps q=>⟨#[],by rw[q];simp⟩,λz=>z⟩
theorem Un.refl:Un fs ex H H h h:=Un.kept λ_ _ q=>q
theorem Un.laid (k:∀b u,h.get? b=some u->h'.get? b=some u)(hp:h.objs.size<=a)(hn:H a=none)(hy:P4<h.objs.size):Un fs ex H (upd H a o) h h' where
 keep:=λb u q _ _ _=>k b u q
 slot:=λb u q _ _ _=>⟨u.slots,k b u q⟩
 free:=λb u q n _=>by rw[D4 (F4 (O0 (D1 q) hp))];exact n
 there:=λb u q _=>⟨u,k b u q⟩
 tups:=λb xs q=>by rw[D4 (Z2 q hn)];exact q
 frzs:=λb u xs q=>by rw[D4 (Z2 q hn)];exact q
 tbls:=λb ps q=>⟨#[],by rw[D4 (Z2 q hn),q];simp⟩
 sys:=λz=>by unfold NS;rw[D4 (F4 (O0 hy hp))];exact z
theorem Un.write (mu:Mut (H x))(he:e=x\/H e=some (.own x))(k:∀b u,b≠e->h.get? b=some u->h'.get? b=some u)(heo:∃u,h'.get? e=some u):Un fs ex H (upd H x o) h h':=by
 have hx:∀b,H b=none->b≠x:=λb n z=>by subst z;rw[n] at mu;exact mu
 have hb:∀b,H b=none->b≠e:=λb n z=>by
  subst z;rcases he with r|r
  ·exact hx b n r
  ·rw[n] at r;cases r
 have hm:∀b u,H b=some u->¬Mut (some u)->b≠x:=λb u q nm z=>by subst z;rw[q] at mu;exact nm mu
 refine⟨λb u q n _ _=>k b u (hb b n) q,λb u q n _ _=>⟨u.slots,k b u (hb b n) q⟩,λb u q n _=>by rw[D4 (hx b n)];exact n,λb u q _=>?_,
  λb xs q=>by rw[D4 (hm b _ q λz=>z)];exact q,λb u xs q=>by rw[D4 (hm b _ q λz=>z)];exact q,λb ps q=>⟨#[],by rw[D4 (hm b _ q λz=>z),q];simp⟩,λz=>by
   rcases z with z|⟨ob,u,z⟩
   ·exact .inl (by rw[D4 (hx _ z)];exact z)
   ·exact .inr ⟨ob,u,by rw[D4 (hm _ _ z λz=>z)];exact z⟩⟩
 by_cases hbe:b=e
 ·subst hbe;exact heo
 ·exact⟨u,k b u hbe q⟩
end
def trk (h:B6)(H:Hp):List A1:=(D3 h.objs.size).filter λa=>(H a).isSome
def hidT (h:B6)(H:Hp):B6:=PySem.W.hideAll h (trk h H)
theorem OQ (h:B6)(H:Hp):(hidT h H).objs.size=h.objs.size:=PySem.W.hideAll_size _ _
theorem OR (e:h.get? b=some o)(n:H b=none):(hidT h H).get? b=some o:=
 PySem.W.hideAll_get _ e λhm=>by
  have q:(H b).isSome=true:=(J9.mp hm).2;rw[n] at q;simp at q
theorem OS (e:(hidT h H).get? b=some o):h.get? b=some o/\H b=none:=by
 have e':h.get? b=some o:=PySem.W.of_hideAll (trk h H) e;refine⟨e',?_⟩;cases q:H b with
 |none=>rfl
 | some x =>
  have hm:b∈trk h H:=J9.mpr ⟨N9.mpr (D1 e'),by simp[q]⟩;have z:(hidT h H).get? b=none:=PySem.W.hideAll_none (trk h H) hm;rw[z] at e;cases e
def OT (g h:B6)(L:A1):List (A1×Obj):=(D3 h.objs.size).filterMap λa=>if a=L\/(g.get? a).isSome=true then none else(h.get? a).map λo=>(a,o)
def rest (g h:B6)(L d:A1):List (A1×Obj):=(OT g h L).filter λp=>decide (p.1≠d)
structure Mod (K:A9)(mg:Str->Option A3)(base:B6):Prop where
 kin:K.In base
 glob:base.Ns Y2 mg
 blt:∃mb,base.Ns builtinsNs mb/\∀x:Str,x≠"__name__"->mb x=M7 x
 nolimit:base.NoLimit
structure Cx where
 prog:C8
 w:C4
 K:A9
 mg:Str->Option A3
 base:B6
 A:D5
 N:List Str
 s₀:A5
 H₀:Hp
 env:Env
 outer:List Env
 stack:List Env
 ex:List A1
 fn:Str->Bool
 calm:Bool
 pn:List (A1×Obj)
 xe:A3->A5->Prop
def frs (l:List Env):List A1:=l.filterMap (·.frame)
abbrev Cx.fs (X:Cx):List A1:=frs X.outer
def Vis (sc:K9)(x:Str):Prop:=sc.names.lookup x=some .local\/sc.names.lookup x=some .cell\/sc.names.lookup x=some .free
def Loc (sc:K9)(x:Str):Prop:=sc.names.lookup x=some .local\/sc.names.lookup x=some .cell
def Look (env:Env)(h:B6)(m:Str->Option A3)(x:Str)(u:A3):Prop:=
 (env.kindOf x=some .local/\m x=some u)\/((env.kindOf x=some .cell\/env.kindOf x=some .free)/\∃c,env.cells.lookup x=some c/\h.IsCell c (some u))
structure Cx.Ok (X:Cx):Prop where
 mod:Mod X.K X.mg X.base
 kind:X.env.scope.kind=.function
 glob:X.env.globals=Y2
 blt:X.env.builtins=builtinsNs
 above:X.s₀.heap.objs.size<=X.env.locals
 inj:∀x y c,X.env.cells.lookup x=some c->X.env.cells.lookup y=some c->x=y
 has:∀x,(X.env.kindOf x=some .cell\/X.env.kindOf x=some .free)->∃c,X.env.cells.lookup x=some c
 cab:∀x c,X.fn x=true->X.env.cells.lookup x=some c->X.s₀.heap.objs.size<=c
 hd:X.calm=true->X.A.handled=none
 frames:X.A.frames=some X.stack
 stk:X.stack=X.outer\/(X.stack=X.env::X.outer/\X.env.frame=some X.env.locals)
 exf:∀b∈X.ex,b≠X.env.locals/\∀x c,X.env.cells.lookup x=some c->c≠b
 bs:∀b o,X.base.get? b=some o->X.s₀.heap.get? b=some o/\X.H₀ b=none
 bsz:X.base.objs.size<=X.s₀.heap.objs.size
 noex:∀b o,X.base.get? b=some o->b∉X.ex
 exfs:∀b∈X.ex,b∉X.fs
 funs:X.s₀.heap.FunFrames X.base X.outer
 frf:∀b∈X.fs,X.H₀ b=none
 nos:NS X.H₀
structure Inv (X:Cx)(jb:List (A1×Obj))(σ:List (Option V))(H:Hp)(s:A5):Prop where
 ok:X.Ok
 os:s.os=X.s₀.os
 bare:AllBare s.gens
 base:Un X.fs X.ex X.H₀ H X.s₀.heap s.heap
 loc:∃m,s.heap.Ns X.env.locals m/\∀(i:Nat) (x:Str) (v:V),X.N[i]?=some x->σ[i]?=some (some v)->Vis X.env.scope x->∃u,RelV v u/\Look X.env s.heap m x u
 cell:∀x c,X.env.cells.lookup x=some c->∃v,s.heap.IsCell c v
 free:H X.env.locals=none
 freeC:∀x c,X.env.cells.lookup x=some c->H c=none
 pin:∀p∈X.pn++jb,s.heap.get? p.1=some p.2/\H p.1=none/\p.1≠X.env.locals/\p.1∉X.fs/\∀v,p.2.data≠.cell v
 hok:HOk X.prog X.w H s.heap
 len:σ.length=X.N.length
section
variable {X:Cx}{jb:List (A1×Obj)}{σ:List (Option V)}{H H':Hp}{s:A5}{h':B6}
theorem Cx.Ok.nofr (ok:X.Ok)(e:X.base.get? b=some o):b∉X.fs:=λhb=>by
 have:=(ok.funs.mem hb).1;rw[e] at this;cases this
theorem Inv.bs (I:Inv X jb σ H s):∀b o,X.base.get? b=some o->s.heap.get? b=some o/\H b=none:=λb o e=>
 ⟨I.base.keep b o (I.ok.bs b o e).1 (I.ok.bs b o e).2 (I.ok.nofr e) (I.ok.noex b o e),I.base.free b o (I.ok.bs b o e).1 (I.ok.bs b o e).2 (I.ok.noex b o e)⟩
theorem Inv.bk (I:Inv X jb σ H s):∀b o,X.base.get? b=some o->s.heap.get? b=some o:=λb o e=>(I.bs b o e).1
theorem Inv.mod (I:Inv X jb σ H s):Mod X.K X.mg X.base:=I.ok.mod
theorem Inv.nos (I:Inv X jb σ H s):NS H:=I.base.sys I.ok.nos
theorem Inv.bigS (I:Inv X jb σ H s):P4<s.heap.objs.size:=Bp (by decide) (I.mod.glob.keeps I.bk).lt
theorem Inv.kIn (I:Inv X jb σ H s):X.K.In s.heap:=I.ok.mod.kin.keeps I.bk
theorem Inv.lt (I:Inv X jb σ H s):X.env.locals<s.heap.objs.size:=let ⟨_,hn,_⟩:=I.loc;hn.lt
theorem Inv.sz (I:Inv X jb σ H s):X.s₀.heap.objs.size<=s.heap.objs.size:=M2 I.ok.above (x4 I.lt)
theorem Inv.nofs (I:Inv X jb σ H s)(h:s.heap.objs.size<=a):a∉X.fs:=λhb=>by
 obtain⟨_,o,ho,_⟩:=I.ok.funs.mem hb;exact absurd (O0 (D1 ho) (M2 I.sz h)) (Y8 _)
theorem Inv.cne (I:Inv X jb σ H s):∀x c,X.env.cells.lookup x=some c->c≠X.env.locals:=λx c e z=>by
 obtain⟨v,o,ho,hd⟩:=I.cell x c e;obtain⟨m,⟨o',es,ep,ho',hd',_⟩,_⟩:=I.loc;rw[z,ho'] at ho;cases ho;rw[hd'] at hd;cases hd
theorem Inv.funs (I:Inv X jb σ H s):s.heap.FunFrames X.base X.outer:=by
 have all:∀(l:List Env),(∀b∈frs l,b∈X.fs)->X.s₀.heap.FunFrames X.base l->s.heap.FunFrames X.base l:=by
  intro l
  induction l with
  |nil=>intro _ _;trivial
  | cons env r ih =>
   intro hs hl;obtain⟨hk,⟨L,o,hf,hn,ho,hd⟩,hr⟩:=hl;have hL:L∈X.fs:=hs L (by unfold frs;rw[As,hf];exact C7);obtain⟨sl,e⟩:=I.base.slot L o ho (I.ok.frf L hL) hL λz=>I.ok.exfs L z hL;exact⟨hk,⟨L,_,hf,hn,e,hd⟩,ih (λb hb=>hs b (by unfold frs;rw[As,hf];exact C3 _ hb)) hr⟩
 exact all X.outer (λ_ hb=>hb) I.ok.funs
theorem Inv.stack (I:Inv X jb σ H s):s.heap.FunFrames X.base X.stack:=by
 rcases I.ok.stk with e|⟨e,hf⟩
 ·rw[e];exact I.funs
 ·rw[e];obtain⟨m,hn,_⟩:=I.loc;refine .cons (by rw[I.ok.kind];decide) hf hn ?_ I.funs;exact Heap.get?_none_of_le (M2 I.ok.bsz I.ok.above)
theorem Inv.stkSub (I:Inv X jb σ H s):∀b∈frs X.stack,b∈X.env.locals::X.fs:=λb hb=>by
 rcases I.ok.stk with e|⟨e,hf⟩
 ·rw[e] at hb;exact C3 _ hb
 ·rw[e] at hb;unfold frs at hb;rw[As,hf] at hb;exact hb
theorem Inv.stkFree (I:Inv X jb σ H s):∀b∈frs X.stack,H b=none:=λb hb=>by
 rcases C5.mp (I.stkSub b hb) with e|hb
 ·rw[e];exact I.free
 ·obtain⟨_,o,ho,_⟩:=I.ok.funs.mem hb;exact I.base.free b o ho (I.ok.frf b hb) λz=>I.ok.exfs b z hb
theorem Inv.step {ch:List A1}(I:Inv X jb σ H s)
   (hch:∀b∈ch,(b∈X.ex\/X.s₀.heap.objs.size<=b)/\b≠X.env.locals/\(∀x c,X.env.cells.lookup x=some c->c≠b)/\∀p∈X.pn++jb,p.1≠b)
   (keep:∀b o,b≠X.env.locals->b∉X.fs->b∉ch->s.heap.get? b=some o->H b=none->h'.get? b=some o)
   (slot:∀b o,b≠X.env.locals->b∈X.fs->b∉ch->s.heap.get? b=some o->H b=none->∃sl,h'.get? b=some { o with slots:=sl }) (free:∀b o,b∉ch->s.heap.get? b=some o->H b=none->H' b=none)
   (there:∀b o,b∉ch->s.heap.get? b=some o->∃o',h'.get? b=some o')
   (tups:∀b xs,H b=some (.tup xs)->H' b=some (.tup xs)) (frzs:∀b o u,H b=some (.frz o u)->H' b=some (.frz o u)) (tbls:∀b ps,H b=some (.tbl ps)->∃more,H' b=some (.tbl (ps++more))) (sys:NS H->NS H')
   (ns:∀m,s.heap.Ns X.env.locals m->h'.Ns X.env.locals m) (hok:HOk X.prog X.w H' h') (hg:AllBare g') :
   Inv X jb σ H' { s with heap:=h',gens:=g',drawn:=d',toks:=t' }:=by
 have neL:∀b o,X.s₀.heap.get? b=some o->b≠X.env.locals:=λb o e=>F4 (O0 (D1 e) I.ok.above)
 have neC:∀b o,X.s₀.heap.get? b=some o->b∉X.ex->b∉ch:=λb o e hx hb=>by
  rcases(hch b hb).1 with z|z
  ·exact hx z
  ·exact absurd (O0 (D1 e) z) (Y8 _)
 have cellK:∀x c,X.env.cells.lookup x=some c->∀v,s.heap.IsCell c v->h'.IsCell c v:=λx c e v ⟨o,ho,hd⟩=>by
  have nch:c∉ch:=λz=>(hch c z).2.2.1 x c e rfl
  by_cases hc:c∈X.fs
  ·obtain⟨sl,q⟩:=slot c o (I.cne x c e) hc nch ho (I.freeC x c e);exact⟨_,q,hd⟩
  ·exact⟨o,keep c o (I.cne x c e) hc nch ho (I.freeC x c e),hd⟩
 refine⟨I.ok,I.os,hg,⟨λb o e n hb hx=>?_,λb o e n hb hx=>?_,λb o e n hx=>?_,λb o e hx=>?_,λb xs e=>tups b xs (I.base.tups b xs e),λb o xs e=>frzs b o xs (I.base.frzs b o xs e),λb ps e=>?_,λz=>sys (I.base.sys z)⟩,?_,λx c e=>?_,?_,λx c e=>?_,λp hp=>?_,hok,I.len⟩
 ·exact keep b o (neL b o e) hb (neC b o e hx) (I.base.keep b o e n hb hx) (I.base.free b o e n hx)
 ·obtain⟨sl,e1⟩:=I.base.slot b o e n hb hx;obtain⟨sl',e2⟩:=slot b _ (neL b o e) hb (neC b o e hx) e1 (I.base.free b o e n hx);exact⟨sl',e2⟩
 ·obtain⟨o',e1⟩:=I.base.there b o e hx;exact free b o' (neC b o e hx) e1 (I.base.free b o e n hx)
 ·obtain⟨o',e1⟩:=I.base.there b o e hx;exact there b o' (neC b o e hx) e1
 ·obtain⟨m1,e1⟩:=I.base.tbls b ps e;obtain⟨m2,e2⟩:=tbls b _ e1;exact⟨m1++m2,by rw[e2,Array.append_assoc]⟩
 ·obtain⟨m,hn,hl⟩:=I.loc;refine⟨m,ns m hn,λi x v e1 e2 e3=>?_⟩;obtain⟨u,r,l⟩:=hl i x v e1 e2 e3;refine⟨u,r,?_⟩;rcases l with l|⟨k,c,e,z⟩
  ·exact .inl l
  ·exact .inr ⟨k,c,e,cellK x c e _ z⟩
 ·obtain⟨v,z⟩:=I.cell x c e;exact⟨v,cellK x c e v z⟩
 ·obtain⟨m,⟨o,_,_,ho,_⟩,_⟩:=I.loc;exact free _ o (λz=>(hch _ z).2.1 rfl) ho I.free
 ·obtain⟨v,o,ho,hd⟩:=I.cell x c e;exact free c o (λz=>(hch c z).2.2.1 x c e rfl) ho (I.freeC x c e)
 ·obtain⟨e,n,ne,nf,d⟩:=I.pin p hp;have nch:p.1∉ch:=λz=>(hch p.1 z).2.2.2 p hp rfl;exact⟨keep p.1 p.2 ne nf nch e n,free p.1 p.2 nch e n,ne,nf,d⟩
theorem Inv.un (I:Inv X jb σ H s)(u:Un X.fs [] H H' s.heap h')(hok:HOk X.prog X.w H' h'):Inv X jb σ H' { s with heap:=h',toks:=t' }:=by
 obtain⟨m,⟨o,es,ep,ho,r⟩,_⟩:=id I.loc;obtain⟨sl,hL⟩:=u.any ho I.free (by simp)
 exact I.step (g':=s.gens) (d':=s.drawn) (ch:=[]) (λ_ z=>nomatch z) (λb o _ hb _ e n=>u.keep b o e n hb (by simp)) (λb o _ hb _ e n=>u.slot b o e n hb (by simp)) (λb o _ e n=>u.free b o e n (by simp)) (λb o _ e=>u.there b o e (by simp)) u.tups u.frzs u.tbls u.sys (λm' hm=>by
  obtain⟨o',es',ep',ho',r'⟩:=hm;rw[ho] at ho';cases ho'
  exact⟨_,es',ep',hL,r'⟩) hok I.bare
theorem Inv.call (I:Inv X jb σ H s)(u:Un (frs X.stack) ch H H' s.heap h')(hok:HOk X.prog X.w H' h')(hg:AllBare g')
   (hch:∀b∈ch,(b∈X.ex\/X.s₀.heap.objs.size<=b)/\b≠X.env.locals/\(∀x c,X.env.cells.lookup x=some c->c≠b)/\∀p∈X.pn++jb,p.1≠b) :
   Inv X jb σ H' { s with heap:=h',gens:=g',drawn:=d',toks:=t' }:=by
 obtain⟨m,⟨o,es,ep,ho,r⟩,_⟩:=id I.loc;obtain⟨sl,hL⟩:=u.any ho I.free λz=>(hch _ z).2.1 rfl
 exact I.step (ch:=ch) hch (λb o hL hb hc e n=>u.keep b o e n (λz=>(C5.mp (I.stkSub b z)).elim hL hb) hc) (λb o _ _ hc e n=>u.any e n hc) (λb o hc e n=>u.free b o e n hc) (λb o hc e=>u.there b o e hc) u.tups u.frzs u.tbls u.sys (λm' hm=>by
  obtain⟨o',es',ep',ho',r'⟩:=hm;rw[ho] at ho';cases ho'
  exact⟨_,es',ep',hL,r'⟩) hok hg
theorem Inv.turned {t':Nat}{it:A1}(I:Inv X jb σ H s)(k:∀b o,b≠it->s.heap.get? b=some o->h'.get? b=some o)(hn:H it=none)(hL:it≠X.env.locals)
   (h1:it∈X.ex\/X.s₀.heap.objs.size<=it) (h2:∀x c,X.env.cells.lookup x=some c->c≠it) (h3:∀p∈X.pn++jb,p.1≠it):Inv X jb σ H { s with heap:=h',toks:=t' }:=by
 have nit:∀b u,H b=some u->b≠it:=λb u e z=>by rw[z,hn] at e;cases e
 refine I.step (g':=s.gens) (d':=s.drawn) (ch:=[it]) (λb hb=>?_) (λb o _ _ hc e _=>k b o (λz=>hc (by simp[z])) e) (λb o _ _ hc e _=>⟨o.slots,k b o (λz=>hc (by simp[z])) e⟩) (λ_ _ _ _ n=>n)
   (λb o hc e=>⟨o,k b o (λz=>hc (by simp[z])) e⟩) (λ_ _ e=>e) (λ_ _ _ e=>e) (λb ps e=>⟨#[],by rw[e];simp⟩) (λz=>z) (λm hm=>?_) (λb u e=>?_) I.bare
 ·grind
 ·obtain⟨o,es,ep,ho,r⟩:=hm;exact⟨o,es,ep,k _ o (Ne.symm hL) ho,r⟩
 ·refine(I.hok b u e).stay (λc v hc q=>k c v ?_ q) (λ_ q=>q) λ_ _ q=>q;rcases hc with z|z
  ·grind
  ·grind
theorem Inv.tok (I:Inv X jb σ H s)(t:Nat):Inv X jb σ H { s with toks:=t }:=I.un (h':=s.heap) (t':=t) Un.refl I.hok
theorem Inv.kept (I:Inv X jb σ H s)(k:∀b u,s.heap.get? b=some u->h'.get? b=some u):Inv X jb σ H { s with heap:=h',toks:=t' }:=I.un (Un.kept k) (I.hok.kept k)
theorem Inv.laid (I:Inv X jb σ H s)(k:∀b u,s.heap.get? b=some u->h'.get? b=some u)(hp:s.heap.objs.size<=a)(new:F9 X.prog X.w (upd H a o) h' a o) :
   Inv X jb σ (upd H a o) { s with heap:=h',toks:=t' }:=I.un (Un.laid k hp (I.hok.fresh hp) I.bigS) (I.hok.laid k hp new)
theorem Inv.write (I:Inv X jb σ H s)(mu:Mut (H x))(he:e=x\/H e=some (.own x))(k:∀b u,b≠e->s.heap.get? b=some u->h'.get? b=some u)(heo:∃u,h'.get? e=some u)
   (new:F9 X.prog X.w (upd H x o) h' x o):Inv X jb σ (upd H x o) { s with heap:=h',toks:=t' }:=I.un (Un.write mu he k heo) (I.hok.write mu he k heo new)
theorem Inv.pins_of (I:Inv X jb σ H s)(h:∀p∈pins',s.heap.get? p.1=some p.2/\H p.1=none/\p.1≠X.env.locals/\p.1∉X.fs/\∀v,p.2.data≠.cell v):Inv X pins' σ H s:=
 ⟨I.ok,I.os,I.bare,I.base,I.loc,I.cell,I.free,I.freeC,λp hp=>(M8.mp hp).elim (λz=>I.pin p (CB _ z)) (h p),I.hok,I.len⟩
theorem JO {N:List Str}(hN:N.Nodup){i j:Nat}{x:Str}(a:N[i]?=some x)(b:N[j]?=some x):i=j:=by
 obtain⟨h1,e1⟩:=F6.mp a;obtain⟨h2,e2⟩:=F6.mp b;exact(List.getElem_inj hN).mp (e1.trans e2.symm)
theorem JP (I:Inv X jb σ H s)(hN:X.N.Nodup)(hi:X.N[i]?=some x)(hx:Loc X.env.scope x)(r:RelV v u)
   (h:∀s',Inv X jb (σ.set i (some v)) H s'->(∃a,X2 a s.heap s'.heap/\(a=X.env.locals\/X.env.cells.lookup x=some a))->Q () s') (hf:X.fn x=true\/X.env.scope.names.lookup x=some .local:=by first|exact .inl rfl|exact .inr rfl|assumption):A6 M A (storeName X.env x u) Q E s:=by
 obtain⟨m,hn,hl⟩:=id I.loc;have hcls:(X.env.scope.kind == .class||(X.env.scope.kind == .module&&X.env.locals != X.env.globals))=false:=by rw[I.ok.kind];rfl
 have hiσ:i<σ.length:=by rw[I.len];exact(F6.mp hi).1
 have cne:=I.cne
 have tracked:∀{a:A1} {h':B6},(∃o,s.heap.get? a=some o/\H a=none)->X2 a s.heap h'->HOk X.prog X.w H h':=λ{a h'} ha hs b ob e=>by
  obtain⟨_,_,hfree⟩:=ha;refine(I.hok b ob e).stay (λc w' hc q=>(hs.2 c ?_).trans q) (λ_ q=>q) λ_ _ q=>q;rintro rfl;rcases hc with rfl|hc
  ·rw[hfree] at e;cases e
  ·rw[hfree] at hc;cases hc
 rcases hx with hk|hk
 ·refine wpAny_storeName_local hk hn (λh' hn' hs=>?_) hcls;obtain⟨oL,_,_,hoL,_⟩:=id hn;refine h _ ⟨I.ok,I.os,I.bare,⟨λb o e n hb hx=>?_,λb o e n hb hx=>?_,I.base.free,λb o e hx=>?_,I.base.tups,I.base.frzs,I.base.tbls,I.base.sys⟩,⟨_,hn',λj y v' e1 e2 e3=>?_⟩,λy c e=>?_,I.free,I.freeC,λp hp=>?_,tracked ⟨oL,hoL,I.free⟩ hs,by simpa using I.len⟩ ⟨_,hs,.inl rfl⟩
  ·exact(hs.2 b (F4 (O0 (D1 e) I.ok.above))).trans (I.base.keep b o e n hb hx)
  ·obtain⟨sl,e1⟩:=I.base.slot b o e n hb hx;exact⟨sl,(hs.2 b (F4 (O0 (D1 e) I.ok.above))).trans e1⟩
  ·obtain⟨o',e1⟩:=I.base.there b o e hx;exact⟨o',(hs.2 b (F4 (O0 (D1 e) I.ok.above))).trans e1⟩
  ·by_cases hj:j=i
   ·subst hj;rw[hi] at e1;cases e1;rw[P5 hiσ] at e2;cases e2;exact⟨u,r,.inl ⟨hk,by simp⟩⟩
   ·rw[O4 (Ne.symm hj)] at e2;obtain⟨u',r',q⟩:=hl j y v' e1 e2 e3;refine⟨u',r',?_⟩;rcases q with⟨k,e⟩|⟨k,c,e,z⟩
    ·refine .inl ⟨k,?_⟩;have:y≠x:=λe=>hj (JO hN e1 (e▸hi));simp[this,e]
    ·exact .inr ⟨k,c,e,z.sameBut hs (cne y c e)⟩
  ·obtain⟨w',z⟩:=I.cell y c e;exact⟨w',z.sameBut hs (cne y c e)⟩
  ·obtain⟨e,n,ne,nf,d⟩:=I.pin p hp;exact⟨(hs.2 p.1 ne).trans e,n,ne,nf,d⟩
 ·have hfn:X.fn x=true:=by
   rcases hf with z|z
   ·exact z
   ·rw[z] at hk;cases hk
  obtain⟨c,hc⟩:=I.ok.has x (.inl hk);obtain⟨w',z⟩:=I.cell x c hc;refine wpAny_storeName_cell I.ok.kind hk hc z (λh' hc' hs=>?_);obtain⟨oc,hoc,hocd⟩:=id z;refine h { s with heap:=h' } ⟨I.ok,I.os,I.bare,⟨λb o e n hb hx=>?_,λb o e n hb hx=>?_,I.base.free,λb o e hx=>?_,I.base.tups,I.base.frzs,I.base.tbls,I.base.sys⟩,⟨m,hn.sameBut hs (Ne.symm (cne x c hc)),λj y v' e1 e2 e3=>?_⟩,λy c' e=>?_,I.free,I.freeC,λp hp=>?_,tracked ⟨oc,hoc,I.freeC x c hc⟩ hs,by simpa using I.len⟩ ⟨c,hs,.inr hc⟩
  ·exact(hs.2 b (F4 (O0 (D1 e) (I.ok.cab x c hfn hc)))).trans (I.base.keep b o e n hb hx)
  ·obtain⟨sl,e1⟩:=I.base.slot b o e n hb hx;exact⟨sl,(hs.2 b (F4 (O0 (D1 e) (I.ok.cab x c hfn hc)))).trans e1⟩
  ·obtain⟨o',e1⟩:=I.base.there b o e hx;exact⟨o',(hs.2 b (F4 (O0 (D1 e) (I.ok.cab x c hfn hc)))).trans e1⟩
  ·by_cases hj:j=i
   ·subst hj;rw[hi] at e1;cases e1;rw[P5 hiσ] at e2;cases e2;exact⟨u,r,.inr ⟨.inl hk,c,hc,hc'⟩⟩
   ·rw[O4 (Ne.symm hj)] at e2;obtain⟨u',r',q⟩:=hl j y v' e1 e2 e3;refine⟨u',r',?_⟩;rcases q with q|⟨k,c',e,z'⟩
    ·exact .inl q
    ·refine .inr ⟨k,c',e,z'.sameBut hs ?_⟩;rintro rfl;exact hj (JO hN e1 (I.ok.inj _ _ _ e hc▸hi))
  ·by_cases hcc:c'=c
   ·subst hcc;exact⟨_,hc'⟩
   ·obtain⟨w2,z2⟩:=I.cell y c' e;exact⟨w2,z2.sameBut hs hcc⟩
  ·obtain⟨e,n,ne,nf,d⟩:=I.pin p hp;refine⟨(hs.2 p.1 ?_).trans e,n,ne,nf,d⟩;intro q;rw[q,hoc] at e;have q':oc=p.2:=M9 e;exact d w' (by rw[<- q'];exact hocd)
theorem CZ (I:Inv X jb σ H s)(hN:X.N.Nodup)(hi:X.N[i]?=some x)(hx:Loc X.env.scope x)(r:RelV v u)
   (h:∀s',Inv X jb (σ.set i (some v)) H s'->Q () s') (hf:X.fn x=true\/X.env.scope.names.lookup x=some .local:=by first|exact .inl rfl|exact .inr rfl|assumption):A6 M A (storeName X.env x u) Q E s:=
 JP I hN hi hx r (λs' I' _=>h s' I') hf
end
abbrev XK:=A3->Option A1->Hp->Prop
abbrev St:=List (Option V)
abbrev VK:=V->Hp->Prop
abbrev TE:=St->Hp->VK->Prop
abbrev TT:=St->Hp->(Bool->Hp->Prop)->Prop
abbrev TA:=St->Hp->(List V->Hp->Prop)->Prop
structure Ends where
 nx:St->Hp->Prop
 rt:VK
 bk:St->Hp->Prop:=λ_ _=>False
 ct:St->Hp->Prop:=λ_ _=>False
abbrev TS:=Ends->St->Hp->Prop
def EP (X:Cx)(jb:List (A1×Obj))(σ:St)(Q:VK)(u:A3)(s':A5):Prop:=∃v H',Inv X jb σ H' s'/\RelV v u/\Q v H'
def TP (X:Cx)(jb:List (A1×Obj))(σ:St)(Q:Bool->Hp->Prop)(b:Bool)(s':A5):Prop:=∃H',Inv X jb σ H' s'/\Q b H'
def AP (X:Cx)(jb:List (A1×Obj))(σ:St)(Q:List V->Hp->Prop)(us:List A3)(s':A5):Prop:=∃vs H',Inv X jb σ H' s'/\Vals vs us/\Q vs H'
def SP (X:Cx)(jb:List (A1×Obj))(D:Ends)(f:Flow)(s':A5):Prop:=
 match f with
 |.next=>∃σ' H',Inv X jb σ' H' s'/\D.nx σ' H'
 |.brk=>∃σ' H',Inv X jb σ' H' s'/\D.bk σ' H'
 |.cont=>∃σ' H',Inv X jb σ' H' s'/\D.ct σ' H'
 |.ret u=>∃v σ' H',Inv X jb σ' H' s'/\RelV v u/\D.rt v H'
def PE (X:Cx)(e:Expr)(t:TE):Prop:=
 ∀(jb:List (A1×Obj)) (s:A5) (σ:St) (H:Hp) (Q:VK),Inv X jb σ H s->t σ H Q->A6 (A7 X.prog X.w) X.A (eval e X.env) (EP X jb σ Q) X.xe s
def PT (X:Cx)(e:Expr)(t:TT):Prop:=
 ∀(jb:List (A1×Obj)) (s:A5) (σ:St) (H:Hp) (Q:Bool->Hp->Prop),Inv X jb σ H s->t σ H Q->A6 (A7 X.prog X.w) X.A (isTrue e X.env (eval e X.env)) (TP X jb σ Q) X.xe s
def PW (X:Cx)(e:Expr)(t:TT):Prop:=
 ∀(whole:Sem A3) (jb:List (A1×Obj)) (s:A5) (σ:St) (H:Hp) (Q:Bool->Hp->Prop),Inv X jb σ H s->t σ H Q->A6 (A7 X.prog X.w) X.A (isTrue e X.env whole) (TP X jb σ Q) X.xe s
theorem PW.pt (h:PW X e t):PT X e t:=h _
def PA (X:Cx)(es:List Expr)(t:TA):Prop:=
 ∀(pos:Pos) (jb:List (A1×Obj)) (s:A5) (σ:St) (H:Hp) (Q:List V->Hp->Prop),Inv X jb σ H s->t σ H Q->A6 (A7 X.prog X.w) X.A (spliced (backTo pos (E3 es X.env))) (AP X jb σ Q) X.xe s
def PS (X:Cx)(st:Stmt)(t:TS):Prop:=
 ∀(jb:List (A1×Obj)) (s:A5) (σ:St) (H:Hp) (D:Ends),Inv X jb σ H s->t D σ H->A6 (A7 X.prog X.w) X.A (exec st X.env) (SP X jb D) X.xe s
def PSs (X:Cx)(st:List Stmt)(t:TS):Prop:=
 ∀(jb:List (A1×Obj)) (s:A5) (σ:St) (H:Hp) (D:Ends),Inv X jb σ H s->t D σ H->A6 (A7 X.prog X.w) X.A (execs st X.env) (SP X jb D) X.xe s
theorem thn {α:Type}{t:Sem α}{Q Q':α->A5->Prop}{M:Model}{A:D5}{E:A3->A5->Prop}{s:A5}(h:A6 M A t Q E s)(hQ:∀a s,Q a s->Q' a s):A6 M A t Q' E s:=J1 h hQ λ_ _ x=>x
section
variable {X:Cx}
def tVar (i:Nat):TE:=λσ H Q=>∃v,σ[i]?=some (some v)/\Q v H
def tC (v:V):TE:=λ_ H Q=>Q v H
theorem JQ (hN:X.N[i]?=some x)(hv:Vis X.env.scope x)(hd:(x == ("__debug__":Str))=false:=by decide)(hcd:(x == ("__classdict__":Str))=false:=by decide):PE X (.Name x pos) (tVar i):=by
 intro jb s σ H Q I h;obtain⟨v,e,h⟩:=h;obtain⟨m,hn,hl⟩:=I.loc;obtain⟨u,r,l⟩:=hl i x v hN e hv;have fin:EP X jb σ Q u s:=⟨v,H,I,r,h⟩;rcases l with⟨hk,hm⟩|⟨hk,c,hc,hcell⟩
 ·exact wpAny_Name (wpAny_loadName_local I.ok.kind hk hn hm fin) hd
 ·rcases hk with hk|hk
  ·exact wpAny_Name (wpAny_loadName_cell I.ok.kind hk hc hcell fin) hd
  ·exact wpAny_Name (wpAny_loadName_free I.ok.kind hk hc hcell fin hcd) hd
theorem N0 {i j pos}:PE X (.Constant (.int i) j pos) (tC (.int i)):=λ_ _ _ H _ I h=>wpAny_Constant_int ⟨.int i,H,I.tok _,⟨_,rfl⟩,h⟩
theorem pe_bl {b j pos}:PE X (.Constant (.bool b) j pos) (tC (.bl b)):=λ_ _ _ H _ I h=>Constant_bool ⟨.bl b,H,I,rfl,h⟩
theorem pe_non {j pos}:PE X (.Constant .none j pos) (tC .non):=λ_ _ _ H _ I h=>Constant_none ⟨.non,H,I,rfl,h⟩
theorem M3 {x j pos}:PE X (.Constant (.str x) j pos) (tC (.str x)):=λ_ _ _ H _ I h=>Calls.Constant_str ⟨.str x,H,I.tok _,⟨_,rfl⟩,h⟩
def Gl (X:Cx)(x:Str):Prop:=X.env.kindOf x=some .globalImplicit
theorem OU (I:Inv X jb σ H s)(hg:Gl X x)(hm:X.mg x=some u)(h:Q u s)
   (hd:(x == ("__debug__":Str))=false:=by decide):A6 (A7 X.prog X.w) X.A (eval (.Name x pos) X.env) Q E s:=
 Calls.Name_function_global I.ok.kind hg (Calls.loadGlobal_global (by rw[I.ok.glob];exact I.mod.glob.keeps I.bk) hm h) hd
theorem i6 (I:Inv X jb σ H s)(hg:Gl X x)(hm:X.mg x=none)(hv:M7 x=some u)(h:Q u s)
   (hn:x≠"__name__":=by decide) (hd:(x == ("__debug__":Str))=false:=by decide):A6 (A7 X.prog X.w) X.A (eval (.Name x pos) X.env) Q E s:=by
 obtain⟨mb,h1,h2⟩:=I.mod.blt;exact Calls.Name_function_global I.ok.kind hg (Calls.loadGlobal_builtin (by rw[I.ok.glob];exact I.mod.glob.keeps I.bk) hm (by rw[I.ok.blt];exact h1.keeps I.bk) ((h2 x hn).trans hv) h) hd
theorem OV (hg:Gl X x)(hm:X.mg x=none)(hv:M7 x=some u)(r:RelV v u)(hn:x≠"__name__":=by decide)(hd:(x == ("__debug__":Str))=false:=by decide):PE X (.Name x pos) (tC v):=
 λ_ _ _ H _ I h=>i6 I hg hm hv ⟨v,H,I,r,h⟩ hn hd
variable {a b:Expr}{ta tb:TE}{pos:Pos}
def tB (t:TE):TT:=λσ H Q=>t σ H λx H1=>∃c,x=.bl c/\Q c H1
theorem pt_val (h:PE X e t)(he:∀whole,isTrue e X.env whole=(do let v ← whole;c7 e.pos;T9 [v] (truthy v)):=by intro _;rfl):PT X e (tB t):=by
 intro jb s σ H Q I hw;refine isTrue_plain (thn (h jb s σ H _ I hw) λv s1 ⟨x,H1,I1,r1,q1⟩=>?_) (he _);obtain⟨d,rfl,q⟩:=q1;cases r1;exact u9 ⟨H1,I1,q⟩
variable {tA tB':TT}{rest:List Expr}
def tAnd (t u:TT):TT:=λσ H Q=>t σ H λc H1=>if c=true then u σ H1 Q else Q false H1
def tOr (t u:TT):TT:=λσ H Q=>t σ H λc H1=>if c=true then Q true H1 else u σ H1 Q
def tNot (t:TT):TT:=λσ H Q=>t σ H λc H1=>Q (!c) H1
theorem JR (ha:PT X a tA):PW X (.BoolOp .And [a] pos) tA:=by
 intro wh jb s σ H Q I h;refine isTrue_and (thn (ha jb s σ H Q I h) λc s1 e=>?_);cases c with
 |true=>exact isTrue_and_nil e
 |false=>exact e
theorem pw_or1 (ha:PT X a tA):PW X (.BoolOp .Or [a] pos) tA:=by
 intro wh jb s σ H Q I h;refine isTrue_or (thn (ha jb s σ H Q I h) λc s1 e=>?_);cases c with
 |false=>exact isTrue_or_nil e
 |true=>exact e
theorem JS (ha:PT X a tA)(hb:PW X (.BoolOp .And (b::rest) pos) tB'):PW X (.BoolOp .And (a::b::rest) pos) (tAnd tA tB'):=by
 intro wh jb s σ H Q I h;refine isTrue_and (thn (ha jb s σ H _ I h) λc s1 ⟨H1,I1,q1⟩=>?_);cases c with
 |true=>exact hb wh jb s1 σ H1 Q I1 q1
 |false=>exact⟨H1,I1,q1⟩
theorem pw_or (ha:PT X a tA)(hb:PW X (.BoolOp .Or (b::rest) pos) tB'):PW X (.BoolOp .Or (a::b::rest) pos) (tOr tA tB'):=by
 intro wh jb s σ H Q I h;refine isTrue_or (thn (ha jb s σ H _ I h) λc s1 ⟨H1,I1,q1⟩=>?_);cases c with
 |true=>exact⟨H1,I1,q1⟩
 |false=>exact hb wh jb s1 σ H1 Q I1 q1
theorem pt_not (ha:PT X a tA):PT X (.UnaryOp .Not a pos) (tNot tA):=by
 intro jb s σ H Q I h;exact isTrue_not (ha jb s σ H (λc H1=>Q (!c) H1) I h)
def tAndV (ta tb:TE):TE:=λσ H Q=>ta σ H λx H1=>∃c,x=.bl c/\if c=true then tb σ H1 Q else Q (.bl false) H1
theorem pe_one {op}{t:TE}(h:PE X a t):PE X (.BoolOp op [a] pos) t:=λjb s σ H Q I hw=>BoolOp_one (h jb s σ H Q I hw)
theorem pe_and (ha:PE X a ta)(hb:PE X (.BoolOp .And (b::rest) pos) tb):PE X (.BoolOp .And (a::b::rest) pos) (tAndV ta tb):=by
 intro jb s σ H Q I h;refine BoolOp_and (thn (ha jb s σ H _ I h) λv s1 ⟨x,H1,I1,r1,q1⟩=>?_);obtain⟨c,rfl,q1⟩:=q1;cases r1;refine u9 ?_;cases c with
 |true=>exact hb jb s1 σ H1 Q I1 q1
 |false=>exact⟨.bl false,H1,I1,rfl,q1⟩
def tIf (t:TT)(ta tb:TE):TE:=λσ H Q=>t σ H λc H1=>if c=true then ta σ H1 Q else tb σ H1 Q
theorem OW (hc:PT X c tA)(ha:PE X a ta)(hb:PE X b tb):PE X (.IfExp c a b pos) (tIf tA ta tb):=by
 intro jb s σ H Q I h;refine wpAny_IfExp (thn (hc jb s σ H _ I h) λd s1 ⟨H1,I1,q1⟩=>?_);cases d with
 |true=>exact ha jb s1 σ H1 Q I1 q1
 |false=>exact hb jb s1 σ H1 Q I1 q1
end
def SqL (K:A9)(H:Hp)(a:A1)(xs:List V):Prop:=
 Rd H a (.lst xs)\/
   ∃(o:Obj) (jf:Array A3) (n:Nat),K.lookup a=some o/\o.cls=.type "list"/\o.dict=none/\o.data=.seq jf n/\jf.size<=B9/\Vals xs jf.toList
def SqT (K:A9)(H:Hp)(a:A1)(xs:List V):Prop:=
 Rd H a (.tup xs)\/
   ∃(o:Obj) (jf:Array A3) (n:Nat),K.lookup a=some o/\o.cls=.type "tuple"/\o.data=.seq jf n/\jf.size<=B9/\Vals xs jf.toList
def absV:A3->Option V
 |.none=>some .non
 |.bool b=>some (.bl b)
 |.int i _=>some (.int i)
 |.str x _=>some (.str x)
 |.bytes b _=>some (.byt b)
 |.float b _=>some (.flt b)
 |.ref a=>some (.ref a)
 |.type n=>some (.ty n)
 |_=>none
theorem RelV.abs {x:V}{u:A3}(r:RelV x u):absV u=some x:=by grind [RelV,V,absV]
theorem RelV.inj {x y:V}{u:A3}(r:RelV x u)(q:RelV y u):x=y:=by grind [RelV,V]
theorem Vals.inj (h:Vals xs us)(h':Vals ys us):xs=ys:=by
 induction h generalizing ys with
 |nil=>cases h';rfl
 |cons r t ih=>cases h' with|cons r' t'=>rw[r.inj r',ih t']
section
variable {X:Cx}{jb:List (A1×Obj)}{σ:St}{H:Hp}{s:A5}{a:A1}{xs ys:List V}
theorem SqL.of {K:A9}(h:H a=some (.lst xs)):SqL K H a xs:=.inl (.inl h)
theorem SqT.of {K:A9}(h:H a=some (.tup xs)):SqT K H a xs:=.inl (.inl h)
theorem Inv.list (I:Inv X jb σ H s)(h:SqL X.K H a xs):∃jf:List A3,Vals xs jf/\PlainL s.heap a jf.toArray/\xs.length<=B9:=by
 rcases h with h|⟨o,jf,n,hk,hc,hd,hs,hz,r⟩
 ·obtain⟨z,jf,n,r,e⟩:=h.ok I.hok;exact⟨jf,r,⟨_,n,e,rfl,rfl,rfl⟩,z⟩
 ·refine⟨jf.toList,r,⟨o,n,I.kIn a o hk,hc,hd,by simpa using hs⟩,?_⟩;have e:=r.length;simp only[O6] at e;omega
theorem Inv.tuple (I:Inv X jb σ H s)(h:SqT X.K H a xs):∃jf:List A3,Vals xs jf/\IsTup s.heap a jf.toArray/\xs.length<=B9:=by
 rcases h with h|⟨o,jf,n,hk,hc,hs,hz,r⟩
 ·obtain⟨z,jf,r,p⟩:=h.ok I.hok;exact⟨jf,r,p.is,z⟩
 ·refine⟨jf.toList,r,⟨o,I.kIn a o hk,hc,n,by simpa using hs⟩,?_⟩;have e:=r.length;simp only[O6] at e;omega
theorem Inv.list_inj (I:Inv X jb σ H s)(h:SqL X.K H a xs)(h':SqL X.K H a ys):xs=ys:=by
 obtain⟨jf,r,⟨o,n,e,_,_,d⟩,_⟩:=I.list h;obtain⟨its',r',⟨o',n',e',_,_,d'⟩,_⟩:=I.list h';rw[e] at e';cases e';rw[d] at d';injection d' with d1 _;have:jf=its':=by simpa using congrArg Array.toList d1
 subst this;exact r.inj r'
theorem Inv.tuple_inj (I:Inv X jb σ H s)(h:SqT X.K H a xs)(h':SqT X.K H a ys):xs=ys:=by
 obtain⟨jf,r,⟨o,e,_,n,d⟩,_⟩:=I.tuple h;obtain⟨its',r',⟨o',e',_,n',d'⟩,_⟩:=I.tuple h';rw[e] at e';cases e';rw[d] at d';injection d' with d1 _;have:jf=its':=by simpa using congrArg Array.toList d1
 subst this;exact r.inj r'
end
abbrev Cx.wish (X:Cx)(E:A3->A5->Prop):Cx:={ X with xe:=E }
abbrev Cx.nox (X:Cx):Cx:=X.wish λ_ _=>False
theorem Cx.Ok.wish {X:Cx}(ok:X.Ok)(E:A3->A5->Prop):(X.wish E).Ok:=
 ⟨ok.mod,ok.kind,ok.glob,ok.blt,ok.above,ok.inj,ok.has,ok.cab,ok.hd,ok.frames,ok.stk,ok.exf,ok.bs,ok.bsz,ok.noex,ok.exfs,ok.funs,ok.frf,ok.nos⟩
theorem Cx.Ok.unwish {X:Cx}(ok:(X.wish E).Ok):X.Ok:=
 ⟨ok.mod,ok.kind,ok.glob,ok.blt,ok.above,ok.inj,ok.has,ok.cab,ok.hd,ok.frames,ok.stk,ok.exf,ok.bs,ok.bsz,ok.noex,ok.exfs,ok.funs,ok.frf,ok.nos⟩
section
variable {X:Cx}{jb:List (A1×Obj)}{σ:St}{H:Hp}{s:A5}{E:A3->A5->Prop}
theorem Inv.wish (I:Inv X jb σ H s)(E:A3->A5->Prop):Inv (X.wish E) jb σ H s:=⟨I.ok.wish E,I.os,I.bare,I.base,I.loc,I.cell,I.free,I.freeC,I.pin,I.hok,I.len⟩
theorem Inv.unwish (I:Inv (X.wish E) jb σ H s):Inv X jb σ H s:=⟨I.ok.unwish,I.os,I.bare,I.base,I.loc,I.cell,I.free,I.freeC,I.pin,I.hok,I.len⟩
theorem SP.unwish (h:SP (X.wish E) jb D f s'):SP X jb D f s':=by
 cases f with
 |next=>obtain⟨σ',H',I,q⟩:=h;exact⟨σ',H',I.unwish,q⟩
 |brk=>obtain⟨σ',H',I,q⟩:=h;exact⟨σ',H',I.unwish,q⟩
 |cont=>obtain⟨σ',H',I,q⟩:=h;exact⟨σ',H',I.unwish,q⟩
 |ret u=>obtain⟨v,σ',H',I,r,q⟩:=h;exact⟨v,σ',H',I.unwish,r,q⟩
theorem PSs.nox {st:List Stmt}(h:PSs X.nox st t):PSs X st t:=λjb s σ H D I hw=>
 J1 (h jb s σ H D (I.wish _) hw) (λ_ _ q=>q.unwish) λ_ _ z=>i5 z
end
section
variable {X:Cx}{st:Stmt}{rest:List Stmt}{t u:TS}{e:Expr}{te:TE}{pos:Pos}
def tNext:TS:=λD σ H=>D.nx σ H
def tSeq (t u:TS):TS:=λD σ H=>t { D with nx:=u D } σ H
theorem GQ:PSs X [] tNext:=λ_ _ σ H _ I h=>Ec ⟨σ,H,I,h⟩
theorem o7 (h1:PS X st t)(h2:PSs X rest u):PSs X (st::rest) (tSeq t u):=by
 intro jb s σ H D I h;refine wpAny_execs_cons (thn (h1 jb s σ H { D with nx:=u D } I h) λf s1 q=>?_);cases f with
 | next =>
  obtain⟨σ',H',I',q⟩:=q;exact h2 jb s1 σ' H' D I' q
 |ret v=>exact q
 |brk=>exact q
 |cont=>exact q
theorem C_ (h1:PS X st t):PSs X [st] t:=by
 intro jb s σ H D I h;refine wpAny_execs_cons (thn (h1 jb s σ H D I h) λf s1 q=>?_);cases f with
 |next=>exact Ec q
 |ret v=>exact q
 |brk=>exact q
 |cont=>exact q
theorem Inv.quiet (I:Inv X jb σ H s):interactive X.env=false:=by simp[interactive,I.ok.kind]
def GR (te:TE):TS:=λD σ H=>te σ H λ_ H1=>D.nx σ H1
theorem OX (he:PE X e te)(hs:c6 e none pos.line X.env=pure false:=by rfl):PS X (.Expr e pos) (GR te):=by
 intro jb s σ H D I h;exact wpAny_Expr_any (thn (he jb s σ H _ I h) λv s1 ⟨x,H1,I1,r1,q1⟩=>⟨σ,H1,I1,q1⟩) I.quiet hs
def tRet (te:TE):TS:=λD σ H=>te σ H D.rt
theorem Da (he:PE X e te):PS X (.Return (some e) pos) (tRet te):=by
 intro jb s σ H D I h;exact wpAny_Return_some (thn (he jb s σ H _ I h) λv s1 ⟨x,H1,I1,r1,q1⟩=>⟨x,σ,H1,I1,r1,q1⟩)
def tIfS (c:TT)(t u:TS):TS:=λD σ H=>c σ H λb H1=>if b=true then t D σ H1 else u D σ H1
theorem GS (hc:PT X c tc)(ha:PSs X a t)(hb:PSs X b u):PS X (.If c a b pos) (tIfS tc t u):=by
 intro jb s σ H D I h;refine wpAny_If (thn (hc jb s σ H _ I h) λd s1 ⟨H1,I1,q1⟩=>?_);cases d with
 |true=>exact ha jb s1 σ H1 D I1 q1
 |false=>exact hb jb s1 σ H1 D I1 q1
end
abbrev TG:=V->St->Hp->(St->Hp->Prop)->Prop
abbrev TGs:=List V->St->Hp->(St->Hp->Prop)->Prop
def PG (X:Cx)(target:Expr)(t:TG):Prop:=
 ∀ (jb : List (A1 × Obj)) (s : A5) (σ : St) (H : Hp) (v : V) (u : A3) (Q : St -> Hp -> Prop), Inv X jb σ H s -> RelV v u -> t v σ H Q ->
   A6 (A7 X.prog X.w) X.A (assign target X.env u) (λ_ s'=>∃σ' H',Inv X jb σ' H' s'/\Q σ' H') X.xe s
def PGs (X:Cx)(ts:List Expr)(t:TGs):Prop:=
 ∀ (jb : List (A1 × Obj)) (s : A5) (σ : St) (H : Hp) (vs : List V) (us : List A3) (Q : St -> Hp -> Prop), Inv X jb σ H s -> Vals vs us -> t vs σ H Q ->
   A6 (A7 X.prog X.w) X.A (assignInOrder ((G8 ts X.env).map (·.2)) us) (λ_ s'=>∃σ' H',Inv X jb σ' H' s'/\Q σ' H') X.xe s
abbrev TSet:=V->V->V->Hp->(Hp->Prop)->Prop
def PSet (X:Cx)(t:TSet):Prop:=
 ∀ (jb : List (A1 × Obj)) (s : A5) (σ : St) (H : Hp) (o i v : V) (ov iv u : A3) (Q : Hp -> Prop), Inv X jb σ H s -> RelV o ov -> RelV i iv -> RelV v u -> t o i v H Q ->
   A6 (A7 X.prog X.w) X.A (setItem ov iv u) (λ_ s'=>∃H',Inv X jb σ H' s'/\Q H') X.xe s
abbrev TIp:=V->V->Hp->VK->Prop
def PIp (X:Cx)(op:Operator)(t:TIp):Prop:=
 ∀ (jb : List (A1 × Obj)) (s : A5) (σ : St) (H : Hp) (x y : V) (v u : A3) (Q : VK), Inv X jb σ H s -> RelV x v -> RelV y u -> t x y H Q ->
   A6 (A7 X.prog X.w) X.A (inplaceOp op v u) (EP X jb σ Q) X.xe s
section
variable {X:Cx}{pos:Pos}
def O8 (i:Nat):TG:=λv σ H Q=>Q (σ.set i (some v)) H
theorem OY (hN:X.N.Nodup)(hi:X.N[i]?=some x)(hx:Loc X.env.scope x)(hf:X.fn x=true\/X.env.scope.names.lookup x=some .local:=by first|exact .inl rfl|exact .inr rfl|assumption):PG X (.Name x pos) (O8 i):=by
 intro jb s σ H v u Q I r h;exact wpAny_assign_Name (CZ I hN hi hx r (λs' I'=>⟨_,H,I',h⟩) hf)
def gNil:TGs:=λvs σ H Q=>vs=[]/\Q σ H
def Z4 (t:TG)(u:TGs):TGs:=λvs σ H Q=>∃v r,vs=v::r/\t v σ H λσ' H'=>u r σ' H' Q
theorem GT:PGs X [] gNil:=by
 intro jb s σ H vs us Q I r h;obtain⟨e,h⟩:=h;subst e;cases r;exact assignInOrder_nil ⟨σ,H,I,h⟩
theorem Db (h1:PG X e t)(h2:PGs X es u)
   (hs:(G8 (e::es) X.env).map (·.2)=assign e X.env::(G8 es X.env).map (·.2):=by rfl):PGs X (e::es) (Z4 t u):=by
 intro jb s σ H vs us Q I r h;obtain⟨v,vr,e1,h⟩:=h;subst e1;cases r with
 | cons r rr =>
  rw[hs];refine assignInOrder_cons (thn (h1 jb s σ H _ _ _ I r h) λ_ s1 ⟨σ1,H1,I1,q1⟩=>?_);exact h2 jb s1 σ1 H1 _ _ Q I1 rr q1
def gTup (K:A9)(n:Nat)(t:TGs):TG:=λv σ H Q=>∃a xs,v=.ref a/\SqT K H a xs/\xs.length=n/\t xs σ H Q
theorem GU (hc:X.calm=true)(h:PGs X es t)
   (hn:(G8 es X.env).length=n:=by rfl) (hst:(G8 es X.env).findIdx? (·.1)=none:=by rfl):PG X (.Tuple es k pos) (gTup X.K n t):=by
 intro jb s σ H v u Q I r hw;obtain⟨a,xs,e1,hq,hl,hw⟩:=hw;subst e1;cases r;obtain⟨jf,rv,ht,hz⟩:=I.tuple hq;refine assign_Tuple_tuple (I.ok.hd hc) ht (by simp[hn,<- hl,rv.length]) hst λh' hx=>?_;have I1:Inv X jb σ H { s with heap:=h' }:=I.kept (t':=s.toks) λb o e=>hx b o (F4 (D1 e)) e;exact h jb _ σ H xs _ Q I1 (by simpa using rv) hw
def gSub (to ti:TE)(t:TSet):TG:=λv σ H Q=>to σ H λo H1=>ti σ H1 λi H2=>t o i v H2 λH3=>Q σ H3
theorem pg_sub (ho:PE X o to)(hi:PE X i ti)(hs:PSet X t)
   (ha:∀v,assign (.Subscript o i pos) X.env v=(do
    let ov ← T9 [v] (eval o X.env)
    let iv ← T9 [v,ov] (eval i X.env)
    c7 pos
    T9 [v,ov,iv] (setItem ov iv v)
    release [v,ov,iv] []):=by intro _;rfl):PG X (.Subscript o i pos) (gSub to ti t):=by
 intro jb s σ H v u Q I r h;rw[ha];refine A0 (L6 (thn (ho jb s σ H _ I h) λov s1 ⟨x,H1,I1,r1,q1⟩=>?_));refine A0 (L6 (thn (hi jb s1 σ H1 _ I1 q1) λiv s2 ⟨y,H2,I2,r2,q2⟩=>?_));refine A0 (c0 (A0 (L6 (thn (hs jb s2 σ H2 x y v ov iv u _ I2 r1 r2 r q2) λ_ s3 ⟨H3,I3,q3⟩=>?_))));exact wpAny_release ⟨σ,H3,I3,q3⟩
def tAsg (te:TE)(g:TG):TS:=λD σ H=>te σ H λx H1=>g x σ H1 D.nx
theorem ps_asg (he:PE X e te)(hg:PG X tg g)(hs:swapsWithSole [tg] e pos.line X.env=pure false:=by rfl)(hw:swappedStores [tg] e X.env=pure none:=by rfl)
   (h1:(G8 [tg] X.env).map (·.2)=[assign tg X.env]:=by rfl):PS X (.Assign [tg] e pos) (tAsg te g):=by
 intro jb s σ H D I h;refine wpAny_Assign_stores (thn (he jb s σ H _ I h) λv s1 ⟨x,H1,I1,r1,q1⟩=>?_) hs hw;rw[h1];exact thn (hg jb s1 σ H1 x v _ I1 r1 q1) λ_ s2 q=>q
theorem GV (hN:X.N.Nodup)(hi:X.N[i]?=some x)(hx:Loc X.env.scope x)(he:PE X e te)(hs:c6 e (some (.Name x pos')) pos.line X.env=pure false:=by rfl)(hf:X.fn x=true\/X.env.scope.names.lookup x=some .local:=by first|exact .inl rfl|exact .inr rfl|assumption) :
   PS X (.Assign [.Name x pos'] e pos) (tAsg te (O8 i)):=by
 intro jb s σ H D I h;refine wpAny_Assign_Name (thn (he jb s σ H _ I h) λv s1 ⟨y,H1,I1,r1,q1⟩=>?_) hs;exact CZ I1 hN hi hx r1 (λs2 I2=>⟨_,H1,I2,q1⟩) hf
def tPar (i j:Nat)(ta:TA):TS:=λD σ H=>ta σ H λvs H1=>∃v w,vs=[v,w]/\D.nx ((σ.set i (some v)).set j (some w)) H1
theorem ps_par {i j:Nat}{x y:Str}{a b:Expr}{ta:TA}{px py pt:Pos}{kt k2 pt2}(hc:X.calm=true)(hN:X.N.Nodup)(hi:X.N[i]?=some x)(hj:X.N[j]?=some y)(hij:i≠j)
   (hx:X.env.scope.names.lookup x=some .local) (hy:X.env.scope.names.lookup y=some .local) (ha:PA X [a,b] ta)
   (hw:swappedStores [.Tuple [.Name x px,.Name y py] kt pt] (.Tuple [a,b] k2 pt2) X.env=pure (some [x,y]))
   (hs:swapsWithSole [.Tuple [.Name x px,.Name y py] kt pt] (.Tuple [a,b] k2 pt2) pos.line X.env=pure false:=by rfl) :
   PS X (.Assign [.Tuple [.Name x px,.Name y py] kt pt] (.Tuple [a,b] k2 pt2) pos) (tPar i j ta):=by
 intro jb s σ H D I h;rw[exec_Assign_arm];refine A0 (c0 ?_);rw[hs];refine A0 (A8 ?_);rw[jt (by decide)];refine A0 (Tuple_ (thn (ha _ jb s σ H _ I h) λus s1 ⟨vs,H1,I1,r1,q1⟩=>?_));obtain⟨v,w,e1,q1⟩:=q1;subst e1
 obtain⟨u1,u2,rfl,rv,rw'⟩:∃u1 u2,us=[u1,u2]/\RelV v u1/\RelV w u2:=by
  cases r1 with
  | cons p q =>
   cases q with
   | cons p' q' =>
    cases q';exact⟨_,_,rfl,p,p'⟩
 refine P2 ?_ (by show 2<=B9;decide);have I2:Inv X jb σ H1 { s1 with heap:=s1.heap.push { cls:=.type "tuple",data:=.seq [u1,u2].toArray } }:=I1.kept (t':=s1.toks) λb o e=>C0 _ e;rw[hw];refine A0 (A8 ?_);show A6 (A7 X.prog X.w) X.A (do rule "assign.swapped-stores";let items ← unpackItems (.ref s1.heap.objs.size) 2 none;assignInOrder [λv=>bindName X.env y v,λv=>bindName X.env x v] items.reverse;pure Flow.next) _ _ _;refine A0 (Y3 (A0 (unpackItems_tuple (items:=#[u1,u2]) (I.ok.hd hc) (IsTup.new s1.heap _) λh' hx'=>?_)));have I3:=I2.kept (h':=h') (t':=s1.toks) λb o e=>hx' b o (F4 (D1 e)) e;show A6 _ _ (assignInOrder [λv=>bindName X.env y v,λv=>bindName X.env x v] [u2,u1]>>=λ_=>pure Flow.next) _ _ _;refine A0 (assignInOrder_cons (wpAny_bindName (CZ I3 hN hj (.inl hy) rw' (λs2 I4=>?_) (.inr hy))));refine assignInOrder_cons (wpAny_bindName (CZ I4 hN hi (.inl hx) rv (λs3 I5=>assignInOrder_nil (A8 ?_)) (.inr hx)));rw[List.set_comm _ _ (Ne.symm hij)] at I5;exact⟨_,H1,I5,q1⟩
def tAug (i:Nat)(te:TE)(ti:TIp):TS:=λD σ H=>∃x,σ[i]?=some (some x)/\te σ H λy H1=>ti x y H1 λz H2=>D.nx (σ.set i (some z)) H2
theorem ps_aug (hN:X.N.Nodup)(hi:X.N[i]?=some x)(hx:Loc X.env.scope x)(he:PE X e te)(ho:PIp X op ti)(hf:X.fn x=true\/X.env.scope.names.lookup x=some .local:=by first|exact .inl rfl|exact .inr rfl|assumption) :
   PS X (.AugAssign (.Name x pos') op e pos) (tAug i te ti):=by
 intro jb s σ H D I h;obtain⟨v,e1,h⟩:=h;obtain⟨m,hn,hl⟩:=I.loc;have vis:Vis X.env.scope x:=by rcases hx with k|k;exact .inl k;exact .inr (.inl k)
 obtain⟨u,r,l⟩:=hl i x v hi e1 vis;refine wpAny_AugAssign_Name ?_
 have go:A6 (A7 X.prog X.w) X.A (eval e X.env) (λw s₂=>A6 (A7 X.prog X.w) X.A (inplaceOp op u w) (λr s₃=>A6 (A7 X.prog X.w) X.A (storeName X.env x r) (λ_=>SP X jb D .next) X.xe s₃) X.xe s₂) X.xe s:=by
  refine thn (he jb s σ H _ I h) λw s1 ⟨y,H1,I1,r1,q1⟩=>?_;refine thn (ho jb s1 σ H1 v y u w _ I1 r r1 q1) λz s2 ⟨zv,H2,I2,r2,q2⟩=>?_;exact CZ I2 hN hi hx r2 (λs3 I3=>⟨_,H2,I3,q2⟩) hf
 rcases l with⟨hk,hm⟩|⟨hk,c,hc,hcell⟩
 ·exact wpAny_loadName_local I.ok.kind hk hn hm go
 ·rcases hk with hk|hk
  ·exact wpAny_loadName_cell I.ok.kind hk hc hcell go
  ·rcases hx with k|k
   ·have:X.env.scope.names.lookup x=some .free:=hk;rw[k] at this;cases this
   ·have:X.env.scope.names.lookup x=some .free:=hk;rw[k] at this;cases this
end
section
variable {X:Cx}{pos:Pos}
def tWhile (c:TT)(tb:TS):TS:=λD σ H=>∃W:Nat->St->Hp->Prop,(∃m,W m σ H)/\∀m σ H,W m σ H->
 c σ H λb H1=>if b=true then ∃N:St->Hp->Prop,(∀σ' H',N σ' H'->∃m',m'<m/\W m' σ' H')/\tb { D with nx:=N,ct:=N,bk:=D.nx } σ H1 else D.nx σ H1
theorem OZ (hp:PassesOwn (A7 X.prog X.w) X.A X.env X.xe)(hc:PT X c tc)(hb:PSs X body tb):PS X (.While c body [] pos) (tWhile tc tb):=by
 intro jb s σ H D I h;obtain⟨W,⟨m0,w0⟩,turn⟩:=h;refine wpAny_While (codeAny_whileLoop (λn s'=>∃σ' H',Inv X jb σ' H' s'/\W n σ' H') ?_ m0 ⟨σ,H,I,w0⟩);rintro n s1 ⟨σ1,H1,I1,w1⟩;refine Ak hp (thn (hc jb s1 σ1 H1 _ I1 (turn n σ1 H1 w1)) λb s2 ⟨H2,I2,q2⟩=>?_);cases b with
 | true =>
  obtain⟨N,hN,q2⟩:=q2;rw[jr rfl];refine Ak hp (thn (hb jb s2 σ1 H2 _ I2 q2) λf s3 q3=>?_);cases f with
  | next =>
   obtain⟨σ3,H3,I3,n3⟩:=q3;obtain⟨m',hm,w3⟩:=hN σ3 H3 n3;exact⟨m',hm,σ3,H3,I3,w3⟩
  | cont =>
   obtain⟨σ3,H3,I3,n3⟩:=q3;obtain⟨m',hm,w3⟩:=hN σ3 H3 n3;exact⟨m',hm,σ3,H3,I3,w3⟩
  |brk=>exact q3
  |ret v=>exact q3
 | false =>
  rw[jt L0];exact Ec ⟨σ1,H2,I2,q2⟩
end
structure It where
 go:Nat->Hp->Prop
 yld:Nat->Hp->V->Hp->Prop
 stop:Nat->Hp->Prop
def FpOk (X:Cx)(jb:List (A1×Obj))(H:Hp)(b:A1):Prop:=
 H b=none/\b≠X.env.locals/\b∉X.fs/\(b∈X.ex\/X.s₀.heap.objs.size<=b)/\(∀x c,X.env.cells.lookup x=some c->c≠b)/\∀p∈X.pn++jb,p.1≠b
theorem Inv.fpOk (I:Inv X jb σ H s)(hb:s.heap.objs.size<=b)(hn:H' b=none):FpOk X jb H' b:=by
 refine⟨hn,Aw (O0 I.lt hb),I.nofs hb,.inr (M2 I.sz hb),λx c e z=>?_,λp hp z=>?_⟩
 ·obtain⟨v,q⟩:=I.cell x c e;exact absurd (O0 q.lt (by rw[z];exact hb)) (Y8 _)
 ·exact absurd (O0 (D1 (I.pin p hp).1) (by rw[z];exact hb)) (Y8 _)
structure Turn (P:C8)(w:C4)(K:A9)(tg:Expr)(J:It)(fp:List A1)(it:A1)(tn:Nat->B6->Prop):Prop where
 mem:it∈fp
 obj:∀i h,tn i h->∀b∈fp,∃o,h.get? b=some o/\∀v,o.data≠.cell v
 keep:∀i h h',tn i h->(∀b∈fp,∀o,h.get? b=some o->h'.get? b=some o)->tn i h'
 item:∀(X:Cx),X.prog=P->X.w=w->X.K=K->X.calm=true->∀(i:Nat) (jb:List (A1×Obj)) (s:A5) (σ:St) (H:Hp) (E:A3->A5->Prop),Inv X jb σ H s->(∀b∈fp,FpOk X jb H b)->tn i s.heap->J.go i H->
   A6 (A7 P w) X.A (pyNext (.ref it)) (λr s1=>∃u,r=some u/\
     A6 (A7 P w) X.A (v4 tg (.ref it) u) (λ_ s2=>∃x H',Inv X jb σ H' s2/\RelV x u/\J.yld i H x H'/\tn (i+1) s2.heap/\∀b∈fp,H' b=none) E s1) E s
 done:∀(X:Cx),X.prog=P->X.w=w->X.K=K->X.calm=true->∀(i:Nat) (jb:List (A1×Obj)) (s:A5) (σ:St) (H:Hp) (E:A3->A5->Prop),Inv X jb σ H s->(∀b∈fp,FpOk X jb H b)->tn i s.heap->J.stop i H->
   A6 (A7 P w) X.A (pyNext (.ref it)) (λr s1=>r=none/\Inv X jb σ H s1) E s
 self:∀(A:D5) (i:Nat) (s:A5) (Q:A3->A5->Prop) (E:A3->A5->Prop),tn i s.heap->Q (.ref it) s->A6 (A7 P w) A (pyIter (.ref it)) Q E s
abbrev TI:=St->Hp->(It->Hp->Prop)->Prop
def PIE (X:Cx)(jb:List (A1×Obj))(σ:St)(tg:Expr)(R:It->Hp->Prop)(itv:A3)(s2:A5):Prop:=
 ∃(it:A1) (fp:List A1) (tn:Nat->B6->Prop) (J:It) (H':Hp),itv=.ref it/\Inv X jb σ H' s2/\Turn X.prog X.w X.K tg J fp it tn/\tn 0 s2.heap/\(∀b∈fp,FpOk X jb H' b)/\R J H'
def PI (X:Cx)(tg iter:Expr)(wi:TI):Prop:=
 ∀ (jb : List (A1 × Obj)) (s : A5) (σ : St) (H : Hp) (R : It -> Hp -> Prop), Inv X jb σ H s -> wi σ H R ->
   A6 (A7 X.prog X.w) X.A (eval iter X.env) (λv s1=>A6 (A7 X.prog X.w) X.A (pyIter v) (PIE X jb σ tg R) X.xe s1) X.xe s
theorem EH (ho:s.heap.get? it=some o)(hc:o.cls=.type n)(hd:o.data=.fields vs)
   (hn:["enumerate","zip","dict_itemiterator","dict_reverseitemiterator","odict_iterator","itertools.zip_longest","itertools.pairwise"].contains n=false) (hQ:Q () s):A6 M A (v4 tg (.ref it) u) Q E s:=by
 unfold v4
 cases tg <;> first
   |exact A8 hQ
   |(cases u <;> first
       |exact A8 hQ
       | (refine A0 (wpAny_load ho ?_)
          rw[hc,hd];show A6 M A (if(["enumerate","zip","dict_itemiterator","dict_reverseitemiterator","odict_iterator","itertools.zip_longest","itertools.pairwise"].contains n&&vs[0]? == some (rawInt _))=true then _ else _) Q E s;rw[jt (by intro h;rw[hn,CN] at h;cases h)]
          exact A8 hQ))
def Itl (K:A9)(a:A1):It:=
 ⟨λi H=>∃xs x,SqL K H a xs/\xs[i]?=some x,λi H x H'=>H'=H/\∀xs,SqL K H a xs->xs[i]?=some x,λi H=>∃xs,SqL K H a xs/\xs.length<=i⟩
def Itt (K:A9)(a:A1):It:=
 ⟨λi H=>∃xs x,SqT K H a xs/\xs[i]?=some x,λi H x H'=>H'=H/\∀xs,SqT K H a xs->xs[i]?=some x,λi H=>∃xs,SqT K H a xs/\xs.length<=i⟩
def Itr (lo:Int)(n:Nat):It:=⟨λi _=>i<n,λi H x H'=>H'=H/\x=.int (lo+i),λi _=>n<=i⟩
theorem O_ {K:A9}(a it:A1):Turn P w K tg (Itl K a) [it] it (λi h=>h.IsListIter it a i) where
 mem:=by simp
 obj:=λi h st b hb=>by
  have e:b=it:=by simpa using hb
  subst e;obtain⟨o,e,c,d⟩:=st;exact⟨o,e,λv z=>by rw[d] at z;cases z⟩
 keep:=λi h h' st k=>st.at λo e=>k it (by simp) o e
 item:=by
  intro X hP hw hK hc i jb s σ H E I hf st hg;subst hP hw hK;obtain⟨xs,x,hq,hx⟩:=hg;obtain⟨jf,rv,p,hz⟩:=I.list hq;obtain⟨u,hu,ru⟩:=rv.get hx;obtain⟨f0,f1,f2,f3,f4,f5⟩:=hf it (by simp);refine wpAny_pyNext_list_item st p.isList (x:=u) (by simpa using hu) λh' st' sb=>?_;have I1:Inv X jb σ H { s with heap:=h' }:=I.turned (t':=s.toks) (λb o hb e=>(sb.2 b hb).trans e) f0 f1 f3 f4 f5;obtain⟨o,e,c,d⟩:=id st';exact⟨u,rfl,EH (s:={ s with heap:=h' }) e c d (by decide) ⟨x,H,I1,ru,⟨rfl,λys hy=>by rw[I.list_inj hy hq];exact hx⟩,st',λb hb=>(hf b hb).1⟩⟩
 done:=by
  intro X hP hw hK hc i jb s σ H E I hf st hg;subst hP hw hK;obtain⟨xs,hq,hx⟩:=hg;obtain⟨jf,rv,p,hz⟩:=I.list hq;obtain⟨f0,f1,f2,f3,f4,f5⟩:=hf it (by simp);have hl:=rv.length;exact wpAny_pyNext_list_end (I.ok.hd hc) st p.isList (by simp;omega) λh' eb=>⟨rfl,I.turned (t':=s.toks) (λb o hb e=>eb b o hb e) f0 f1 f3 f4 f5⟩
 self:=λ_ _ _ _ _ st h=>wpAny_pyIter_listiter st h
theorem Pa {K:A9}(a it:A1):Turn P w K tg (Itt K a) [it] it (λi h=>h.IsTupleIter it a i) where
 mem:=by simp
 obj:=λi h st b hb=>by
  have e:b=it:=by simpa using hb
  subst e;obtain⟨o,e,c,d⟩:=st;exact⟨o,e,λv z=>by rw[d] at z;cases z⟩
 keep:=λi h h' st k=>st.at λo e=>k it (by simp) o e
 item:=by
  intro X hP hw hK hc i jb s σ H E I hf st hg;subst hP hw hK;obtain⟨xs,x,hq,hx⟩:=hg;obtain⟨jf,rv,p,hz⟩:=I.tuple hq;obtain⟨u,hu,ru⟩:=rv.get hx;obtain⟨f0,f1,f2,f3,f4,f5⟩:=hf it (by simp);refine wpAny_pyNext_tuple_item st (show s.heap.IsTuple a jf.toArray from p) (x:=u) (by simpa using hu) λh' st' sb=>?_;have I1:Inv X jb σ H { s with heap:=h' }:=I.turned (t':=s.toks) (λb o hb e=>(sb.2 b hb).trans e) f0 f1 f3 f4 f5;obtain⟨o,e,c,d⟩:=id st';exact⟨u,rfl,EH (s:={ s with heap:=h' }) e c d (by decide) ⟨x,H,I1,ru,⟨rfl,λys hy=>by rw[I.tuple_inj hy hq];exact hx⟩,st',λb hb=>(hf b hb).1⟩⟩
 done:=by
  intro X hP hw hK hc i jb s σ H E I hf st hg;subst hP hw hK;obtain⟨xs,hq,hx⟩:=hg;obtain⟨jf,rv,p,hz⟩:=I.tuple hq;obtain⟨f0,f1,f2,f3,f4,f5⟩:=hf it (by simp);have hl:=rv.length;exact wpAny_pyNext_tuple_end (I.ok.hd hc) st (show s.heap.IsTuple a jf.toArray from p) (by simp;omega) λh' eb=>⟨rfl,I.turned (t':=s.toks) (λb o hb e=>eb b o hb e) f0 f1 f3 f4 f5⟩
 self:=λ_ _ _ _ _ st h=>wpAny_pyIter_tupleiter st h
theorem Pb {K:A9}(it:A1)(lo:Int)(n:Nat):Turn P w K tg (Itr lo n) [it] it (λi h=>IsRangeIter h it (lo+(i:Nat)*1) ((n:Int)-(i:Nat)) 1) where
 mem:=by simp
 obj:=fun i h st b hb=>by
  have e:b=it:=by simpa using hb
  subst e
  exact⟨_,st,λv z=>by
   have z':BF _=Data.cell v:=z
   cases z'⟩
 keep:=λi h h' st k=>k it (by simp) _ st
 item:=by
  intro X hP hw hK hc i jb s σ H E I hf st hg;subst hP hw hK;obtain⟨f0,f1,f2,f3,f4,f5⟩:=hf it (by simp);have W:=Walks.range (prog:=X.prog) (w:=X.w) (I.ok.hd hc) it lo 1 n;refine W.item i s _ _ hg st λv h' tk hv st' kk=>?_;obtain⟨t,rfl⟩:=hv;have I1:Inv X jb σ H { s with heap:=h',toks:=tk }:=I.turned (λb o hb e=>kk b o (by simpa using hb) e) f0 f1 f3 f4 f5;refine⟨_,rfl,EH (s:={ s with heap:=h',toks:=tk }) (n:="range_iterator") st' rfl rfl (by decide) ⟨.int (lo+i),H,I1,⟨t,?_⟩,⟨rfl,rfl⟩,st',λb hb=>(hf b hb).1⟩⟩;rw[Int.mul_one]
 done:=by
  intro X hP hw hK hc i jb s σ H E I hf st hg;subst hP hw hK;obtain⟨f0,f1,f2,f3,f4,f5⟩:=hf it (by simp);exact wpAny_pyNext_range_end (I.ok.hd hc) st (by have:n<=i:=hg;omega) λh' eb=>⟨rfl,I.turned (t':=s.toks) (λb o hb e=>eb b o hb e) f0 f1 f3 f4 f5⟩
 self:=λ_ _ _ _ _ st h=>DZ st h
section
variable {X:Cx}{tg:Expr}
def iList (K:A9)(tl:TE):TI:=λσ H R=>tl σ H λx H1=>∃a,x=.ref a/\(∃xs,SqL K H1 a xs)/\R (Itl K a) H1
def iTup (K:A9)(tl:TE):TI:=λσ H R=>tl σ H λx H1=>∃a,x=.ref a/\(∃xs,SqT K H1 a xs)/\R (Itt K a) H1
theorem Pc (hl:PE X l tl):PI X tg l (iList X.K tl):=by
 intro jb s σ H R I h;refine thn (hl jb s σ H _ I h) λv s1 ⟨x,H1,I1,r1,q1⟩=>?_;obtain⟨a,e,⟨xs,hq⟩,q⟩:=q1;subst e;cases r1;obtain⟨jf,rv,p,hz⟩:=I1.list hq;refine Cq p.isList ?_;refine⟨s1.heap.objs.size,[s1.heap.objs.size],_,_,H1,rfl,I1.kept (t':=s1.toks) λb o e=>C0 _ e,O_ a _,⟨_,F2 _ rfl,rfl,rfl⟩,λb hb=>?_,q⟩;have e:b=s1.heap.objs.size:=by simpa using hb
 subst e;exact I1.fpOk (B8 _) (I1.hok.fresh (B8 _))
theorem pi_tup (hl:PE X l tl):PI X tg l (iTup X.K tl):=by
 intro jb s σ H R I h;refine thn (hl jb s σ H _ I h) λv s1 ⟨x,H1,I1,r1,q1⟩=>?_;obtain⟨a,e,⟨xs,hq⟩,q⟩:=q1;subst e;cases r1;obtain⟨jf,rv,p,hz⟩:=I1.tuple hq;refine Bc (show s1.heap.IsTuple a jf.toArray from p) ?_;refine⟨s1.heap.objs.size,[s1.heap.objs.size],_,_,H1,rfl,I1.kept (t':=s1.toks) λb o e=>C0 _ e,Pa a _,⟨_,F2 _ rfl,rfl,rfl⟩,λb hb=>?_,q⟩;have e:b=s1.heap.objs.size:=by simpa using hb
 subst e;exact I1.fpOk (B8 _) (I1.hok.fresh (B8 _))
theorem Pd {lo hi:Int}(I:Inv X jb σ H s)(h1:-(2 ^ 62)<=lo)(h2:lo<2 ^ 62)(h3:-(2 ^ 62)<=hi)(h4:hi<2 ^ 62)
   (q:R (Itr lo (hi-lo).toNat) H):A6 (A7 X.prog X.w) X.A (pyIter (.ref s.heap.objs.size)) (PIE X jb σ tg R) E { s with heap:=s.heap.push { cls:=.type "range",data:=.fields #[.int lo t,.int hi u,.int 1 v] },toks:=tk }:=by
 refine wpAny_pyIter_range (IsRange.new ..) (small_one h1 h2 h3 h4) ?_;have I1:Inv X jb σ H { s with heap:=s.heap.push { cls:=.type "range",data:=.fields #[.int lo t,.int hi u,.int 1 v] },toks:=tk }:=I.kept λb o e=>C0 _ e
 refine⟨(s.heap.push { cls:=.type "range",data:=.fields #[.int lo t,.int hi u,.int 1 v] }).objs.size,[(s.heap.push { cls:=.type "range",data:=.fields #[.int lo t,.int hi u,.int 1 v] }).objs.size],_,_,H,rfl,
  I1.kept (t':=tk) λb o e=>C0 _ e,Pb _ lo (hi-lo).toNat,?_,λb hb=>?_,q⟩
 ·have e1:lo+((0:Nat):Int)*1=lo:=by simp
  have e2:(((hi-lo).toNat:Nat):Int)-((0:Nat):Int)=CP lo hi 1:=by rw[rangeSize_one];split <;> omega
  show IsRangeIter _ _ (lo+((0:Nat):Int)*1) ((((hi-lo).toNat:Nat):Int)-((0:Nat):Int)) 1;rw[e1,e2];exact F2 _ rfl
 ·have e:b=(s.heap.push { cls:=.type "range",data:=.fields #[.int lo t,.int hi u,.int 1 v] }).objs.size:=by simpa using hb
  subst e;exact I1.fpOk (B8 _) (I1.hok.fresh (B8 _))
def iRng1 (ta:TA):TI:=λσ H R=>ta σ H λvs H1=>∃j:Int,vs=[.int j]/\-(2 ^ 62)<=j/\j<2 ^ 62/\R (Itr 0 j.toNat) H1
theorem Pe (hg:Gl X "range")(hm:X.mg "range"=none)(ha:PA X [a] ta)(hs:E3 [a] X.env=[(false,eval a X.env)]:=by rfl):PI X tg (.Call (.Name "range" p) [a] [] pos) (iRng1 ta):=by
 intro jb s σ H R I h;refine Call_ (i6 I hg hm boot_range (x5 (thn (ha pos jb s σ H _ I h) λus s1 ⟨vs,H1,I1,r1,q1⟩=>?_) hs rfl));obtain⟨j,e,q1,q2,q⟩:=q1;subst e;cases r1 with
 | cons r rr =>
  cases rr;obtain⟨t,rfl⟩:=r;exact call_range_1 (Pd I1 (by omega) (by omega) q1 q2 (by simpa using q))
def tFor (wi:TI)(g:TG)(tb:TS):TS:=λD σ H=>wi σ H λJ H1=>∃W:Nat->Nat->St->Hp->Prop,(∃m,W 0 m σ H1)/\∀i m σ H,W i m σ H->
 (J.stop i H/\D.nx σ H)\/(J.go i H/\∃N:St->Hp->Prop,(∀σ' H',N σ' H'->∃m',m'<m/\W (i+1) m' σ' H')/\∀x H',J.yld i H x H'->g x σ H' λσ2 H2=>tb { D with nx:=N,ct:=N,bk:=D.nx } σ2 H2)
def BH (fp:List A1)(h:B6):List (A1×Obj):=fp.filterMap λb=>(h.get? b).map λo=>(b,o)
theorem GX (hb:b∈fp)(e:h.get? b=some o):(b,o)∈BH fp h:=List.mem_filterMap.mpr ⟨b,hb,by rw[e];rfl⟩
theorem Pf (hp:p∈BH fp h):p.1∈fp/\h.get? p.1=some p.2:=by
 obtain⟨b,hb,e⟩:=List.mem_filterMap.mp hp;cases q:h.get? b with
 |none=>rw[q] at e;cases e
 | some o =>
  rw[q] at e;have e':(b,o)=p:=M9 e;subst e';exact⟨hb,q⟩
theorem Inv.pinned (I:Inv X jb σ H s)(hf:∀b∈fp,FpOk X jb H b)(ho:∀b∈fp,∃o,s.heap.get? b=some o/\∀v,o.data≠.cell v):Inv X (jb++BH fp s.heap) σ H s:=
 I.pins_of fun p hp=>(M8.mp hp).elim (fun z=>I.pin p (Y6 _ z)) fun z=>by
  obtain⟨hb,e⟩:=Pf z;obtain⟨f0,f1,f2,_⟩:=hf p.1 hb;obtain⟨o,e',d⟩:=ho p.1 hb;rw[e] at e';cases e';exact⟨e,f0,f1,f2,d⟩
theorem Inv.unpinned (I:Inv X (jb++pl) σ H s):Inv X jb σ H s:=I.pins_of λp hp=>I.pin p (Y6 _ (CB _ hp))
theorem ps_for (hp:PassesOwn (A7 X.prog X.w) X.A X.env X.xe)(hc:X.calm=true)(hi:PI X tg iter wi)(hg:PG X tg g)(hb:PSs X body tb)
   (hs:∀x,T8 iter X.env x=pure x:=by intro _;rfl):PS X (.For tg iter body [] pos) (tFor wi g tb):=by
 intro jb s σ H D I h;refine wpAny_For (thn (hi jb s σ H _ I h) λv s1 h1=>thn h1 λitv s2 h2=>?_) hs;obtain⟨it,fp,tn,J,H2,e,I2,T,st2,f2,W,⟨m0,w0⟩,turn⟩:=h2;subst e
 -- what stays true of the iterator's objects through the loop
 have stat:∀{H':Hp},(∀b∈fp,H' b=none)->∀b∈fp,FpOk X jb H' b:=λhn b hb=>⟨hn b hb,(f2 b hb).2⟩;refine codeAny_forLoop_any (λn s'=>∃i σ' H',Inv X jb σ' H' s'/\tn i s'.heap/\(∀b∈fp,H' b=none)/\W i n σ' H') ?_ m0 ⟨0,σ,H2,I2,st2,λb hb=>(f2 b hb).1,w0⟩;rintro n s3 ⟨i,σ3,H3,I3,st3,fr3,w3⟩;rcases turn i n σ3 H3 w3 with⟨stop,qn⟩|⟨go,N,hN,step⟩
 ·refine Ak hp (thn (T.done X rfl rfl rfl hc i jb s3 σ3 H3 X.xe I3 (stat fr3) st3 stop) λr s4 ⟨hr,I4⟩=>?_);subst hr;exact Ec ⟨σ3,H3,I4,qn⟩
 ·refine Ak hp (thn (T.item X rfl rfl rfl hc i jb s3 σ3 H3 X.xe I3 (stat fr3) st3 go) λr s4 ⟨u,hr,h4⟩=>?_);subst hr;refine Ak hp (thn h4 λ_ s5 ⟨x,H5,I5,r5,y5,st5,fr5⟩=>?_);have I5':=I5.pinned (stat fr5) (T.obj _ _ st5);refine Ak hp (thn (hg _ s5 σ3 H5 x u _ I5' r5 (step x H5 y5)) λ_ s6 ⟨σ6,H6,I6,q6⟩=>?_);refine Ak hp (thn (hb _ s6 σ6 H6 _ I6 q6) λf s7 q7=>?_)
  have again:∀{σ7:St} {H7:Hp},Inv X (jb++BH fp s5.heap) σ7 H7 s7->N σ7 H7->∃m,m<n/\∃i σ' H',Inv X jb σ' H' s7/\tn i s7.heap/\(∀b∈fp,H' b=none)/\W i m σ' H':=λ{σ7 H7} I7 n7=>by
   obtain⟨m',hm,w7⟩:=hN σ7 H7 n7;refine⟨m',hm,i+1,σ7,H7,I7.unpinned,T.keep _ _ _ st5 λb hb o e=>(I7.pin (b,o) (Y6 _ (Y6 _ (GX hb e)))).1,λb hb=>?_,w7⟩;obtain⟨o,e,d⟩:=T.obj _ _ st5 b hb;exact(I7.pin (b,o) (Y6 _ (Y6 _ (GX hb e)))).2.1
  cases f with
  |next=>obtain⟨σ7,H7,I7,n7⟩:=q7;exact again I7 n7
  |cont=>obtain⟨σ7,H7,I7,n7⟩:=q7;exact again I7 n7
  |brk=>obtain⟨σ7,H7,I7,q7⟩:=q7;exact⟨σ7,H7,I7.unpinned,q7⟩
  |ret v=>obtain⟨x7,σ7,H7,I7,r7,q7⟩:=q7;exact⟨x7,σ7,H7,I7.unpinned,r7,q7⟩
end
abbrev R2:=V->V->Hp->VK->Prop
def OpR (X:Cx)(f:A3->A3->Sem A3)(r:R2):Prop:=
 ∀ (jb : List (A1 × Obj)) (s : A5) (σ : St) (H : Hp) (x y : V) (v u : A3) (Q : VK), Inv X jb σ H s -> RelV x v -> RelV y u -> r x y H Q ->
   A6 (A7 X.prog X.w) X.A (f v u) (EP X jb σ Q) X.xe s
def UnR (X:Cx)(f:A3->Sem A3)(r:V->Hp->VK->Prop):Prop:=
 ∀ (jb : List (A1 × Obj)) (s : A5) (σ : St) (H : Hp) (x : V) (v : A3) (Q : VK), Inv X jb σ H s -> RelV x v -> r x H Q ->
   A6 (A7 X.prog X.w) X.A (f v) (EP X jb σ Q) X.xe s
def N1 (X:Cx)(f:A3)(r:List V->Hp->VK->Prop):Prop:=
 ∀ (jb : List (A1 × Obj)) (s : A5) (σ : St) (H : Hp) (xs : List V) (us : List A3) (Q : VK), Inv X jb σ H s -> Vals xs us -> r xs H Q ->
   A6 (A7 X.prog X.w) X.A (call f us) (EP X jb σ Q) X.xe s
def TruR (X:Cx)(r:V->Hp->(Bool->Hp->Prop)->Prop):Prop:=
 ∀ (jb : List (A1 × Obj)) (s : A5) (σ : St) (H : Hp) (x : V) (v : A3) (Q : Bool -> Hp -> Prop), Inv X jb σ H s -> RelV x v -> r x H Q ->
   A6 (A7 X.prog X.w) X.A (truthy v) (TP X jb σ Q) X.xe s
def tOp (r:R2)(ta tb:TE):TE:=λσ H Q=>ta σ H λx H1=>tb σ H1 λy H2=>r x y H2 Q
def tUn (r:V->Hp->VK->Prop)(ta:TE):TE:=λσ H Q=>ta σ H λx H1=>r x H1 Q
def rI (C:Int->Int->Prop)(g:Int->Int->V):R2:=λx y H Q=>∃i j,x=.int i/\y=.int j/\C i j/\Q (g i j) H
def rI0 (g:Int->Int->V):R2:=λx y H Q=>∃i j,x=.int i/\y=.int j/\Q (g i j) H
def rU (g:Int->V):V->Hp->VK->Prop:=λx H Q=>∃i,x=.int i/\Q (g i) H
section
variable {X:Cx}{a b c:Expr}{ta tb tc:TE}{pos:Pos}
theorem binT (ha:PE X a ta)(hb:PE X b tb){R:V->V->Hp->Prop}(I:Inv X jb σ H s)
   (h:ta σ H λx H1=>tb σ H1 λy H2=>R x y H2) {f:A3->A3->Sem A3}
   (hf:∀v u s2 x y H2,Inv X jb σ H2 s2->RelV x v->RelV y u->R x y H2->A6 (A7 X.prog X.w) X.A (f v u) Q X.xe s2) :
   A6 (A7 X.prog X.w) X.A (eval a X.env) (λv s₁=>A6 (A7 X.prog X.w) X.A (eval b X.env) (λu s₂=>A6 (A7 X.prog X.w) X.A (f v u) Q X.xe s₂) X.xe s₁) X.xe s:=by
 refine thn (ha jb s σ H _ I h) λv s1 ⟨x,H1,I1,r1,q1⟩=>?_;refine thn (hb jb s1 σ H1 _ I1 q1) λu s2 ⟨y,H2,I2,r2,q2⟩=>?_;exact hf v u s2 x y H2 I2 r1 r2 q2
theorem O1 (ho:OpR X (V0 op) r)(ha:PE X a ta)(hb:PE X b tb):PE X (.BinOp a op b pos) (tOp r ta tb):=by
 intro jb s σ H Q I h;exact wpAny_BinOp (binT ha hb I h λv u s2 x y H2 I2 rx ry q=>ho jb s2 σ H2 x y v u Q I2 rx ry q)
theorem pe_un (ho:UnR X (unaryOp op) r)(ha:PE X a ta):PE X (.UnaryOp op a pos) (tUn r ta):=by
 intro jb s σ H Q I h;exact UnaryOp_ (thn (ha jb s σ H _ I h) λv s1 ⟨x,H1,I1,r1,q1⟩=>ho jb s1 σ H1 x v Q I1 r1 q1)
theorem opI {g:Int->Int->Int}
   (rule:∀(i j:Int) (t u:Tok) (s:A5) (Q:A3->A5->Prop) (E:A3->A5->Prop),C i j->Q (.int (g i j) s.toks) { s with toks:=s.toks+1 }->A6 (A7 X.prog X.w) X.A (f (.int i t) (.int j u)) Q E s) :
   OpR X f (rI C λi j=>.int (g i j)):=by
 intro jb s σ H x y v u Q I rx ry h;obtain⟨i,j,rfl,rfl,hc,q⟩:=h;obtain⟨t,rfl⟩:=rx;obtain⟨t',rfl⟩:=ry;exact rule i j t t' s _ _ hc ⟨.int (g i j),H,I.tok _,⟨_,rfl⟩,q⟩
theorem opI0 {g:Int->Int->Int}
   (rule:∀(i j:Int) (t u:Tok) (s:A5) (Q:A3->A5->Prop) (E:A3->A5->Prop),Q (.int (g i j) s.toks) { s with toks:=s.toks+1 }->A6 (A7 X.prog X.w) X.A (f (.int i t) (.int j u)) Q E s) :
   OpR X f (rI0 λi j=>.int (g i j)):=by
 intro jb s σ H x y v u Q I rx ry h;obtain⟨i,j,rfl,rfl,q⟩:=h;obtain⟨t,rfl⟩:=rx;obtain⟨t',rfl⟩:=ry;exact rule i j t t' s _ _ ⟨.int (g i j),H,I.tok _,⟨_,rfl⟩,q⟩
theorem opB0 {g:Int->Int->Bool}
   (rule:∀(i j:Int) (t u:Tok) (s:A5) (Q:A3->A5->Prop) (E:A3->A5->Prop),Q (.bool (g i j)) s->A6 (A7 X.prog X.w) X.A (f (.int i t) (.int j u)) Q E s) :
   OpR X f (rI0 λi j=>.bl (g i j)):=by
 intro jb s σ H x y v u Q I rx ry h;obtain⟨i,j,rfl,rfl,q⟩:=h;obtain⟨t,rfl⟩:=rx;obtain⟨t',rfl⟩:=ry;exact rule i j t t' s _ _ ⟨.bl (g i j),H,I,rfl,q⟩
def CDiv (i j:Int):Prop:=0<j/\j<1073741824
def CPow (i j:Int):Prop:=0<=j/\j<=1000000/\i.natAbs<2 ^ 64
def CMul (i j:Int):Prop:=(-(2 ^ 64)<i/\i<2 ^ 64)\/(-(2 ^ 64)<j/\j<2 ^ 64)
theorem CMul.ok (h:CMul i j):IntMulOk i j:=by
 rcases h with⟨h1,h2⟩|⟨h1,h2⟩
 ·exact .of_left (intBits_le_64 h1 h2)
 ·exact .of_right (intBits_le_64 h1 h2)
theorem BI:OpR X (V0 .Add) (rI0 λi j=>.int (i+j)):=opI0 λ_ _ _ _ _ _ _ q=>add_int q
theorem op_sub:OpR X (V0 .Sub) (rI0 λi j=>.int (i-j)):=opI0 λ_ _ _ _ _ _ _ q=>sub_int q
theorem Dc:OpR X (V0 .Mult) (rI CMul λi j=>.int (i*j)):=opI λ_ _ _ _ _ _ _ hc q=>mul_int q hc.ok
theorem GY:OpR X (V0 .FloorDiv) (rI CDiv λi j=>.int (i/j)):=opI λi j _ _ _ _ _ hc q=>by
 have h1:(0:Int)<j:=hc.1;have h2:j<1073741824:=hc.2;exact floordiv_int (by omega) (by rw[Int.fdiv_eq_ediv_of_nonneg i (by omega)];exact q) (.inl (PyProof.noPylong_small (by omega)))
theorem AC:OpR X (V0 .Mod) (rI (λ_ j=>0<j) λi j=>.int (i%j)):=opI λi j _ _ _ _ _ hc q=>by
 have h1:(0:Int)<j:=hc;exact mod_int' (by omega) (by rw[Int.fmod_eq_emod_of_nonneg i (by omega)];exact q)
theorem JT:OpR X (V0 .Pow) (rI CPow λi j=>.int (i ^ j.toNat)):=opI λ_ _ _ _ _ _ _ hc q=>pow_int_small hc.1 hc.2.1 hc.2.2 q
theorem Pg:OpR X (inplaceOp .Mult) (rI CMul λi j=>.int (i*j)):=opI λ_ _ _ _ _ _ _ hc q=>imul_int q hc.ok
theorem unI {g:Int->Int}
   (rule:∀(i:Int) (t:Tok) (s:A5) (Q:A3->A5->Prop) (E:A3->A5->Prop),Q (.int (g i) s.toks) { s with toks:=s.toks+1 }->A6 (A7 X.prog X.w) X.A (f (.int i t)) Q E s) :
   UnR X f (rU λi=>.int (g i)):=by
 intro jb s σ H x v Q I rx h;obtain⟨i,rfl,q⟩:=h;obtain⟨t,rfl⟩:=rx;exact rule i t s _ _ ⟨.int (g i),H,I.tok _,⟨_,rfl⟩,q⟩
theorem JU:UnR X (unaryOp .USub) (rU λi=>.int (-i)):=unI λ_ _ _ _ _ q=>neg_int q
end
def scal:V->V->Bool
 |.non,.non=>true|.non,.int _=>true|.int _,.non=>true|.non,.bl _=>true|.bl _,.non=>true|.non,.str _=>true|.str _,.non=>true
 |.int _,.int _=>true|.bl _,.bl _=>true|.str _,.str _=>true|.byt _,.byt _=>true
 |.int _,.str _=>true|.str _,.int _=>true|.bl _,.str _=>true|.str _,.bl _=>true
 |_,_=>false
def rEq:R2:=λx y H Q=>scal x y=true/\Q (.bl (decide (x=y))) H
theorem Ph:decide (V.int i=V.int j)=(i == j):=by
 rw[Y9];simp
theorem dec_bl:decide (V.bl i=V.bl j)=(i == j):=by
 rw[Y9];simp
theorem Pi:decide (V.str i=V.str j)=(i == j):=by
 rw[Y9];simp
theorem Pj:decide (V.byt i=V.byt j)=(i.toList == j.toList):=by
 rw[Y9];cases i;cases j;simp
section
variable {X:Cx}{a b c:Expr}{ta tb tc:TE}{pos:Pos}
theorem P7 (I:Inv X jb σ H s)(q:Q (.bl k) H)(e:k=k'):EP X jb σ Q (.bool k') s:=by
 subst e;exact⟨.bl k,H,I,rfl,q⟩
theorem op_eq:OpR X (L7 .Eq) rEq:=by
 intro jb s σ H x y v u Q I rx ry h;obtain⟨hs,q⟩:=h;cases x with
 | non =>
  cases rx;cases y with
  |non=>cases ry;exact PySem.EqNone.eq_none_none (P7 I q (by simp))
  |bl j=>cases ry;exact PySem.EqNone.eq_none_bool (P7 I q (by simp))
  |int j=>obtain⟨t',rfl⟩:=ry;exact PySem.EqNone.eq_none_int (P7 I q (by simp))
  |str j=>obtain⟨t',rfl⟩:=ry;exact PySem.EqNone.eq_none_str (P7 I q (by simp))
  |_=>exact absurd (show false=true from hs) L0
 | bl i =>
  cases rx;cases y with
  |non=>cases ry;exact PySem.EqNone.eq_bool_none (P7 I q (by simp))
  |bl j=>cases ry;exact eq_bool (P7 I q dec_bl)
  |str j=>obtain⟨t',rfl⟩:=ry;exact PySem.EqMixed.eq_bool_str (P7 I q (by simp))
  |_=>exact absurd (show false=true from hs) L0
 | int i =>
  obtain⟨t,rfl⟩:=rx;cases y with
  |non=>cases ry;exact PySem.EqNone.eq_int_none (P7 I q (by simp))
  |int j=>obtain⟨t',rfl⟩:=ry;exact eq_int (P7 I q Ph)
  |str j=>obtain⟨t',rfl⟩:=ry;exact PySem.EqMixed.eq_int_str (P7 I q (by simp))
  |_=>exact absurd (show false=true from hs) L0
 | str i =>
  obtain⟨t,rfl⟩:=rx;cases y with
  |non=>cases ry;exact PySem.EqNone.eq_str_none (P7 I q (by simp))
  |bl j=>cases ry;exact PySem.EqMixed.eq_str_bool (P7 I q (by simp))
  |int j=>obtain⟨t',rfl⟩:=ry;exact PySem.EqMixed.eq_str_int (P7 I q (by simp))
  |str j=>obtain⟨t',rfl⟩:=ry;exact eq_str (P7 I q Pi)
  |_=>exact absurd (show false=true from hs) L0
 | byt i =>
  obtain⟨t,rfl⟩:=rx;cases y with
  |byt j=>obtain⟨t',rfl⟩:=ry;exact PySem.W.eq_bytes (P7 I q Pj)
  |_=>exact absurd (show false=true from hs) L0
 |_=>cases y <;> exact absurd (show false=true from hs) L0
theorem op_lt:OpR X (L7 .Lt) (rI0 λi j=>.bl (decide (i<j))):=opB0 λ_ _ _ _ _ _ _ q=>lt_int q
theorem op_le:OpR X (L7 .LtE) (rI0 λi j=>.bl (decide (i<=j))):=opB0 λ_ _ _ _ _ _ _ q=>le_int q
theorem op_gt:OpR X (L7 .Gt) (rI0 λi j=>.bl (decide (j<i))):=opB0 λ_ _ _ _ _ _ _ q=>gt_int q
theorem op_ge:OpR X (L7 .GtE) (rI0 λi j=>.bl (decide (j<=i))):=opB0 λ_ _ _ _ _ _ _ q=>ge_int q
theorem Pk:OpR X (L7 .Lt) (λx y H Q=>∃i j,x=.str i/\y=.str j/\Q (.bl (decide (i.cps.toList<j.cps.toList))) H):=by
 intro jb s σ H x y v u Q I rx ry h;obtain⟨i,j,rfl,rfl,q⟩:=h;obtain⟨t,rfl⟩:=rx;obtain⟨t',rfl⟩:=ry;exact lt_str (P7 I q rfl)
theorem Pl:OpR X (L7 .In) (λx y H Q=>∃i j,x=.str i/\y=.str j/\Q (.bl (!(Bx j i 0 j.length 1).isEmpty)) H):=by
 intro jb s σ H x y v u Q I rx ry h;obtain⟨i,j,rfl,rfl,q⟩:=h;obtain⟨t,rfl⟩:=rx;obtain⟨t',rfl⟩:=ry;exact in_str (P7 I q rfl)
theorem op_isN:OpR X (L7 .Is) (λx y H Q=>y=.non/\Q (.bl (decide (x=.non))) H):=by
 intro jb s σ H x y v u Q I rx ry h;obtain⟨rfl,q⟩:=h;cases ry;refine is_none_gen (P7 I q ?_)
 cases x <;> first
   |(cases rx;rfl)
   |(obtain⟨t,rfl⟩:=rx;rfl)
theorem Pm:OpR X (L7 .IsNot) (λx y H Q=>y=.non/\Q (.bl (!decide (x=.non))) H):=by
 intro jb s σ H x y v u Q I rx ry h;obtain⟨rfl,q⟩:=h;cases ry;refine isnot_none_gen (P7 I q ?_)
 cases x <;> first
   |(cases rx;rfl)
   |(obtain⟨t,rfl⟩:=rx;rfl)
theorem OpR.or (h:OpR X f r)(h':OpR X f r'):OpR X f (λx y H Q=>r x y H Q\/r' x y H Q):=by
 intro jb s σ H x y v u Q I rx ry q;rcases q with q|q
 ·exact h jb s σ H x y v u Q I rx ry q
 ·exact h' jb s σ H x y v u Q I rx ry q
theorem C9 (b:Expr)(h:op≠.In:=by decide)(h2:op≠.NotIn:=by decide):Am op b=false:=by
 have e1:(op == CmpOp.In)=false:=by cases op <;> first|rfl|exact absurd rfl h
 have e2:(op == CmpOp.NotIn)=false:=by cases op <;> first|rfl|exact absurd rfl h2
 cases b <;> simp[Am,e1,e2]
theorem JV (ho:OpR X (L7 op) r)(ha:PE X a ta)(hb:PE X b tb)(hm:Am op b=false):PE X (.Compare a [op] [b] pos) (tOp r ta tb):=by
 intro jb s σ H Q I h;exact wpAny_Compare1 (binT ha hb I h λv u s2 x y H2 I2 rx ry q=>ho jb s2 σ H2 x y v u Q I2 rx ry q) hm
def GZ (t:TE):TT:=λσ H Q=>t σ H λx H'=>∃k,x=.bl k/\Q k H'
theorem Dd (ho:OpR X (L7 op) r)(ha:PE X a ta)(hb:PE X b tb)(hm:Am op b=false):PT X (.Compare a [op] [b] pos) (GZ (tOp r ta tb)):=by
 intro jb s σ H Q I h
 refine wpAny_isTrue_Compare1 (thn (ha jb s σ H _ I h) λv s1 ⟨x,H1,I1,r1,q1⟩=>thn (hb jb s1 σ H1 _ I1 q1) λu s2 ⟨y,H2,I2,r2,q2⟩=>
  thn (ho jb s2 σ H2 x y v u _ I2 r1 r2 q2) λc s3 ⟨z,H3,I3,r3,k,e,q3⟩=>?_) hm
 subst e;cases r3;exact u9 ⟨H3,I3,q3⟩
def G_ (r r':R2)(ta tb tc:TE):TE:=λσ H Q=>ta σ H λx H1=>tb σ H1 λy H2=>r x y H2 λz H3=>∃k,z=.bl k/\
 (if k=true then tc σ H3 λw' H4=>r' y w' H4 Q else Q (.bl false) H3)
theorem Pn (ho:OpR X (L7 op) r)(ho':OpR X (L7 op') r')(ha:PE X a ta)(hb:PE X b tb)(hc:PE X c tc)
   (hm:lastMarks [op,op'] [b,c]=false:=by with_unfolding_all rfl):PE X (.Compare a [op,op'] [b,c] pos) (G_ r r' ta tb tc):=by
 intro jb s σ H Q I h
 refine Compare_chain (thn (ha jb s σ H _ I h) λv s1 ⟨x,H1,I1,r1,q1⟩=>chain_link (thn (hb jb s1 σ H1 _ I1 q1) λu s2 ⟨y,H2,I2,r2,q2⟩=>
  thn (ho jb s2 σ H2 x y v u _ I2 r1 r2 q2) λd s3 ⟨z,H3,I3,r3,k,e,q3⟩=>?_)) hm
 subst e;cases r3;refine u9 ?_;cases k with
 |false=>exact ite_ff ⟨.bl false,H3,I3,rfl,q3⟩
 |true=>exact ite_tt (chain_last (thn (hc jb s3 σ H3 _ I3 q3) λw' s4 ⟨z',H4,I4,r4,q4⟩=>ho' jb s4 σ H4 y z' u w' Q I4 r2 r4 q4))
theorem Po (ho:OpR X (L7 op) r)(ho':OpR X (L7 op') r')(ha:PE X a ta)(hb:PE X b tb)(hc:PE X c tc)
   (hm:lastMarks [op,op'] [b,c]=false:=by with_unfolding_all rfl):PT X (.Compare a [op,op'] [b,c] pos) (GZ (G_ r r' ta tb tc)):=by
 intro jb s σ H Q I h
 refine isTrue_chain (thn (ha jb s σ H _ I h) λv s1 ⟨x,H1,I1,r1,q1⟩=>test_link (thn (hb jb s1 σ H1 _ I1 q1) λu s2 ⟨y,H2,I2,r2,q2⟩=>
  thn (ho jb s2 σ H2 x y v u _ I2 r1 r2 q2) λd s3 ⟨z,H3,I3,r3,k,e,q3⟩=>?_)) hm
 subst e;cases r3;refine u9 ?_;cases k with
 | false =>
  obtain⟨k',e',q'⟩:=q3;cases e';exact ite_ff ⟨H3,I3,q'⟩
 | true =>
  refine ite_tt (test_last (thn (hc jb s3 σ H3 _ I3 q3) λw' s4 ⟨z',H4,I4,r4,q4⟩=>thn (ho' jb s4 σ H4 y z' u w' _ I4 r2 r4 q4) λd' s5 ⟨z2,H5,I5,r5,k2,e2,q5⟩=>?_));subst e2;cases r5;exact u9 ⟨H5,I5,q5⟩
def TruV (K:A9)(x:V)(H:Hp)(k:Bool):Prop:=
 match x with
 |.non=>k=false
 |.bl b=>k=b
 |.int i=>k=(i != 0)
 |.str y=>y.length<=B9/\k=((y.length:Int) != 0)
 |.byt y=>y.size<=B9/\k=((y.size:Int) != 0)
 |.ref p=>(∃xs,SqL K H p xs/\k=!xs.isEmpty)\/(∃xs,SqT K H p xs/\k=!xs.isEmpty)\/∃jg,H p=some (.dK jg)/\k=!jg.isEmpty
 |_=>False
theorem Pp {κ:Type}{jg:List (κ×V)}{vs:List (κ×A3)}(r:KV jg vs):(!vs.isEmpty)=!jg.isEmpty:=by
 cases r <;> rfl
theorem JW (r:Vals xs jf):(!jf.toArray.isEmpty)=!xs.isEmpty:=by
 cases r <;> simp
theorem AD:(B9:Nat)<2 ^ 63:=by rw[Q4];decide
theorem JX:TruR X (λx H Q=>∃k,TruV X.K x H k/\Q k H):=by
 intro jb s σ H x v Q I rx h;obtain⟨k,e,q⟩:=h;have hl:=AD;have hs:B9=16777216:=Q4;cases x with
 | non =>
  cases rx;have e':k=false:=e;subst e';exact truthy_none ⟨H,I,q⟩
 | bl b =>
  cases rx;have e':k=b:=e;subst e';exact u9 ⟨H,I,q⟩
 | int i =>
  obtain⟨t,rfl⟩:=rx;have e':k=(i != 0):=e;subst e';exact PySem.P.truthy_int ⟨H,I,q⟩
 | str y =>
  obtain⟨t,rfl⟩:=rx;obtain⟨hy,e'⟩:y.length<=B9/\k=((y.length:Int) != 0):=e;subst e';exact PySem.P.truthy_str (by omega) ⟨H,I.tok _,q⟩
 | byt y =>
  obtain⟨t,rfl⟩:=rx;obtain⟨hy,e'⟩:y.size<=B9/\k=((y.size:Int) != 0):=e;subst e';exact PySem.W.truthy_bytes (by omega) ⟨H,I.tok _,q⟩
 | ref p =>
  cases rx;have e':(∃xs,SqL X.K H p xs/\k=!xs.isEmpty)\/(∃xs,SqT X.K H p xs/\k=!xs.isEmpty)\/∃jg,H p=some (.dK jg)/\k=!jg.isEmpty:=e;rcases e' with⟨xs,hx,e'⟩|⟨xs,hx,e'⟩|⟨jg,hx,e'⟩
  ·subst e';obtain⟨jf,r,pl,hz⟩:=I.list hx;have hlen:=r.length;exact wpAny_truthy_list pl.isList (by simp only[F7];omega) ⟨H,I.tok _,by rw[JW r];exact q⟩
  ·subst e';obtain⟨jf,r,pl,hz⟩:=I.tuple hx;have hlen:=r.length;exact truthy_tuple pl (by simp only[F7];omega) ⟨H,I.tok _,by rw[JW r];exact q⟩
  ·subst e';obtain⟨hz,hS,vs,r,m⟩:jg.length<=B9/\(p == P4)=false/\∃vs,KV jg vs/\s.heap.DictOf (G5 X.prog X.w) p vs:=I.hok p _ hx;have hlen:jg.length=vs.length:=CY r;exact wpAny_truthy_dict hS m (by omega) ⟨H,I.tok _,by rw[Pp r];exact q⟩
 |_=>exact(show False from e).elim
theorem Pq (ha:PE X a ta)(he:∀whole,isTrue a X.env whole=(do let v ← whole;c7 a.pos;T9 [v] (truthy v))) :
   PT X a (λσ H Q=>ta σ H λx H'=>∃k,TruV X.K x H' k/\Q k H'):=by
 intro jb s σ H Q I h;exact isTrue_plain (thn (ha jb s σ H _ I h) λv s1 ⟨x,H1,I1,r1,q1⟩=>JX jb s1 σ H1 x v Q I1 r1 q1) (he _)
theorem Pr:OpR X (V0 .Add) (λx y H Q=>∃i j,x=.str i/\y=.str j/\i.length+j.length<=B9/\Q (.str (i++j)) H):=by
 intro jb s σ H x y v u Q I rx ry h;obtain⟨i,j,rfl,rfl,hz,q⟩:=h;obtain⟨t,rfl⟩:=rx;obtain⟨t',rfl⟩:=ry;exact add_str (λt' tk=>⟨.str (i++j),H,I.tok _,⟨_,rfl⟩,q⟩) hz
theorem AE (r:Vals [x] us):∃u,us=[u]/\RelV x u:=by
 cases r with
 |cons r1 r2=>cases r2;exact⟨_,rfl,r1⟩
theorem vals2 (r:Vals [x,y] us):∃u w',us=[u,w']/\RelV x u/\RelV y w':=by
 cases r with
 | cons r1 r2 =>
  cases r2 with
  |cons r3 r4=>cases r4;exact⟨_,_,rfl,r1,r3⟩
theorem Ps (hc:X.calm=true):N1 X (.builtin "min") (λxs H Q=>∃i j,xs=[.int i,.int j]/\Q (.int (if j<i then j else i)) H):=by
 intro jb s σ H xs us Q I r h;obtain⟨i,j,rfl,q⟩:=h;obtain⟨u,w',rfl,⟨t,rfl⟩,⟨t',rfl⟩⟩:=vals2 r;refine min_two_ints (I.ok.hd hc) λh' tk k=>⟨_,H,I.kept k,?_,q⟩
 by_cases hj:j<i
 ·rw[jr hj,jr hj];exact⟨_,rfl⟩
 ·rw[jt hj,jt hj];exact⟨_,rfl⟩
theorem Pv:N1 X (.type "int") (λxs H Q=>(∃i,xs=[.int i]/\Q (.int i) H)\/∃k,xs=[.bl k]/\Q (.int (if k then 1 else 0)) H):=by
 intro jb s σ H xs us Q I r h;rcases h with⟨i,rfl,q⟩|⟨k,rfl,q⟩
 ·obtain⟨u,rfl,t,rfl⟩:=AE r;exact call_int_int ⟨.int i,H,I,⟨_,rfl⟩,q⟩
 ·obtain⟨u,rfl,r1⟩:=AE r;cases r1;exact call_int_bool ⟨.int (if k then 1 else 0),H,I.tok _,⟨_,rfl⟩,q⟩
end
structure ObjM (h:B6)(x dx C:A1)(mA:Str->Option A3):Prop where
 obj:h.get? x=some (PySem.W.instObj C dx)
 ns:h.Ns1 dx mA
 ne:dx≠x
theorem Pw {h:B6}(n:h.Ns1 dx mA):∃od,h.get? dx=some od/\∀name,PySem.W.lookIn name od=some (mA name):=by
 obtain⟨o,es,ep,ho,hd,hk,_,hm⟩:=n;refine⟨o,ho,λname=>?_⟩;have e:=hm name;unfold nsFind findBy at e;rw[<- Array.find?_toList] at e;unfold PySem.W.lookIn;rw[hd];dsimp only
 split
 ·grind
 ·rename_i q;rw[q] at e
  have a:es.toList.any (·.refKey)=false:=by
   rw[Ei];intro y hy;obtain⟨z,t,hkey⟩:=hk y (Array.mem_toList_iff.mp hy);simp[DictEntry.refKey,hkey]
  have a':¬es.toList.any (·.refKey)=true:=by rw[a];exact L0
  rw[jt a'];exact congrArg some e
theorem ObjM.look (I:ObjM h x dx C mA):∃od,PySem.W.InstAt h x (PySem.W.instObj C dx) C (some od)/\∀name,PySem.W.lookIn name od=some (mA name):=
 let ⟨od,ho,hl⟩:=Pw I.ns
 ⟨od,⟨I.obj,rfl,rfl,ho⟩,hl⟩
theorem RelO.some_of (r:RelO (some v) o):∃u,o=some u/\RelV v u:=by
 cases o with
 |none=>exact(show False from r).elim
 |some u=>exact⟨u,rfl,r⟩
section
variable {P:C8}{w:C4}{H H':Hp}{h h':B6}{a C dx:A1}{fs fs':List (Str×V)}
theorem Px (hok:HOk P w H h)(e:H a=some (.ins C dx fs)):∃mA,ObjM h a dx C mA/\(∀f,RelO (fs.lookup f) (mA f))/\PySem.Within mA (fs.map (·.1))/\fs.length<=1000/\H dx=some (.own a):=by
 obtain⟨d,z,ne,ob,mA,n,r,q⟩:=(show F9 P w H h a (.ins C dx fs) from hok a _ e);exact⟨mA,⟨ob,n,ne⟩,r,q,z,d⟩
end
structure Cls (K:A9)(C:A1):Prop where
 pg:PySem.W.plainGet K C Str.empty=true
 hd:PySem.W.hasDictIn K C=true
 po:PySem.W.plainOver K C=true
 sa:PySem.W.findIn K (.ref C) "__setattr__"=some (some (.builtin "object.__setattr__"))
theorem Cls.get {K:A9}(c:Cls K C)(f:Str):PySem.W.plainGet K C f=true:=c.pg
section
variable {X:Cx}{jb:List (A1×Obj)}{σ:St}{H:Hp}{s:A5}{A:D5}{E:A3->A5->Prop}{Q:A3->A5->Prop}{c:A3}{b:Bool}
inductive TyOf (K:A9)(H:Hp):V->A3->Prop where
 |non:TyOf K H .non (.type "NoneType")
 |bl (x:Bool):TyOf K H (.bl x) (.type "bool")
 |int (i:Int):TyOf K H (.int i) (.type "int")
 |str (x:Str):TyOf K H (.str x) (.type "str")
 |flt (x:UInt64):TyOf K H (.flt x) (.type "float")
 |lst {a:A1} {xs:List V} (e:H a=some (.lst xs)):TyOf K H (.ref a) (.type "list")
 |frz {a:A1} {o:Obj} {xs:List V} (e:H a=some (.frz o (.lst xs))):TyOf K H (.ref a) (.type "list")
 |tup {a:A1} {xs:List V} (e:H a=some (.tup xs)):TyOf K H (.ref a) (.type "tuple")
 |dK {a:A1} {jg:List (Key×V)} (e:H a=some (.dK jg)):TyOf K H (.ref a) (.type "dict")
 |dT {a:A1} {jg:List (List Key×V)} (e:H a=some (.dT jg)):TyOf K H (.ref a) (.type "dict")
 |ins {a C dx:A1} {fs:List (Str×V)} (e:H a=some (.ins C dx fs)) (cl:Cls K C) (ha:PySem.W.findIn K (.ref C) "__class__"=some (some (.builtin "object.__class__")))
     (hn:PySem.W.specialIn K (.builtin "object.__class__") "__get__"=some (some (.builtin "getset_descriptor.__get__"))) (htk:PySem.W.takesIn K (.builtin "object.__class__")=some true)
     (hm:PySem.W.mroIn K C (.type "object")=some true):TyOf K H (.ref a) (.ref C)
theorem Py (I:Inv X jb σ H s)(rx:RelV x u)(ty:TyOf X.K H x t)(e:Cs X.K t c=some b)(h:∀tk,Q (.bool b) { s with toks:=tk }) :
   A6 (A7 X.prog X.w) A (call (.builtin "isinstance") [u,c]) Q E s:=by
 cases ty with
 |non=>cases(show u=Q8 from rx);exact Y4 PySem.W.kitx_none I.kIn Z0 e (λz=>nomatch z) h
 |bl y=>cases(show u=Value.bool y from rx);exact Y4 PySem.W.kitx_bool I.kIn Z0 e (λz=>nomatch z) h
 |int i=>obtain⟨t,q⟩:=(show ∃t,u=Value.int i t from rx);cases q;exact Y4 PySem.W.kitx_int I.kIn Z0 e (λz=>nomatch z) h
 |str y=>obtain⟨t,q⟩:=(show ∃t,u=Value.str y t from rx);cases q;exact Y4 PySem.W.kitx_str I.kIn Z0 e (λz=>nomatch z) h
 |flt y=>obtain⟨t,q⟩:=(show ∃t,u=Value.float y t from rx);cases q;exact Y4 PySem.W.kitx_float I.kIn Z0 e (λz=>nomatch z) h
 | @lst a xs ea =>
  cases(show u=K8 a from rx);obtain⟨_,_,n,_,h1⟩:=(show F9 X.prog X.w H s.heap a (.lst xs) from I.hok a _ ea);exact Y4 PySem.W.kitx_list I.kIn ⟨_,h1,rfl⟩ e (λz=>nomatch z) h
 | @frz a ob xs ea =>
  cases(show u=K8 a from rx);obtain⟨_,_,_,n,_,h1⟩:=(show F9 X.prog X.w H s.heap a (.frz ob (.lst xs)) from I.hok a _ ea);exact Y4 PySem.W.kitx_list I.kIn ⟨_,h1,rfl⟩ e (λz=>nomatch z) h
 | @tup a xs ea =>
  cases(show u=K8 a from rx);obtain⟨_,_,_,p⟩:=(show F9 X.prog X.w H s.heap a (.tup xs) from I.hok a _ ea);obtain⟨o,h1,h2,_⟩:=p;exact Y4 PySem.W.kitx_tuple I.kIn ⟨o,h1,(BE h2).1⟩ e (λz=>nomatch z) h
 | @dK a jg ea =>
  cases(show u=K8 a from rx);obtain⟨_,_,vs,_,p⟩:=(show F9 X.prog X.w H s.heap a (.dK jg) from I.hok a _ ea);obtain⟨o,es,ep,h1,h2,_⟩:=p;exact Y4 PySem.W.kitx_dict I.kIn ⟨o,h1,h2.1⟩ e (λz=>nomatch z) h
 | @dT a jg ea =>
  cases(show u=K8 a from rx);obtain⟨_,_,xs,_,o,es,ep,h1,h2,_⟩:=(show F9 X.prog X.w H s.heap a (.dT jg) from I.hok a _ ea);exact Y4 PySem.W.kitx_dict I.kIn ⟨o,h1,h2.1⟩ e (λz=>nomatch z) h
 | @ins a C dx fs ea cl ha hn htk hm =>
  cases(show u=K8 a from rx);obtain⟨mA,O,_⟩:=Px I.hok ea;obtain⟨od,J,_⟩:=O.look;exact Y4 (PySem.W.kitx_own (cl.get _) cl.hd ha hn htk hm) I.kIn J e (λz=>nomatch z) h
end
structure Room (k:Nat)(A:D5):Prop where
 hd:A.handled=none
 dp:A.depth+3*k+5<recursionLimit
 un:A.units+16*k+200<cLine
 gd:A.guards=some []
theorem Room.mono (r:Room k A)(h:j<=k):Room j A:=⟨r.hd,by have:=r.dp;omega,by have:=r.un;omega,r.gd⟩
theorem Room.deeper (r:Room (k+1) A)(env:Env):Room k (A.deeper env):=
 ⟨r.hd,by have:=r.dp;show A.depth+1+3*k+5<_;omega,by have:=r.un;show A.units+3+16*k+200<_;omega,r.gd⟩
theorem Room.depth (r:Room k A):A.depth<recursionLimit:=by have:=r.dp;omega
theorem Room.units (r:Room k A):A.units+64<cLine:=by have:=r.un;omega
def tNil:TA:=λ_ H Q=>Q [] H
def X6 (ta:TE)(tr:TA):TA:=λσ H Q=>ta σ H λx H1=>tr σ H1 λxs H2=>Q (x::xs) H2
section
variable {X:Cx}{e:Expr}{es:List Expr}{te:TE}{t:TA}{pos:Pos}
theorem G7:PA X [] tNil:=λ_ _ _ _ H Q I h=>Calls.spliced_nil ⟨[],H,I,.nil,h⟩
theorem E9 (ha:PE X e te)(hr:PA X es t)(hs:E3 (e::es) X.env=(false,eval e X.env)::E3 es X.env:=by rfl):PA X (e::es) (X6 te t):=by
 intro pos jb s σ H Q I h;rw[hs];show A6 _ _ (spliced ((false,eval e X.env)::backTo pos (E3 es X.env))) _ _ s;refine Calls.spliced_cons (thn (ha jb s σ H _ I h) λu s1 ⟨x,H1,I1,r1,q1⟩=>?_);exact thn (hr pos jb s1 σ H1 _ I1 q1) λus s2 ⟨xs,H2,I2,r2,q2⟩=>⟨x::xs,H2,I2,.cons r1 r2,q2⟩
def tTup (t:TA):TE:=λσ H Q=>t σ H λxs H1=>xs.length<=B9/\∀p,H1 p=none->Q (.ref p) (upd H1 p (.tup xs))
def tLst (t:TA):TE:=λσ H Q=>t σ H λxs H1=>xs.length<=B9/\∀p,H1 p=none->Q (.ref p) (upd H1 p (.lst xs))
theorem Ha {x1}(h:PA X es t):PE X (.Tuple es x1 pos) (tTup t):=by
 intro jb s σ H Q I hq;refine wpAny_Tuple_spliced (thn (h pos jb s σ H _ I hq) λus s1 ⟨xs,H1,I1,r,z,q⟩=>⟨by rw[<- r.length];exact z,?_⟩);have hf:H1 s1.heap.objs.size=none:=I1.hok.fresh (B8 _);refine⟨.ref s1.heap.objs.size,upd H1 s1.heap.objs.size (.tup xs),I1.laid (t':=s1.toks) (λb u e=>C0 _ e) (B8 _) ?_,rfl,q _ hf⟩;exact⟨z,us,r,⟨_,F2 _ rfl,rfl,_,rfl⟩⟩
theorem pe_lst (h:PA X es t):PE X (.List es pos) (tLst t):=by
 intro jb s σ H Q I hq;refine wpAny_List_spliced (thn (h pos jb s σ H _ I hq) λus s1 ⟨xs,H1,I1,r,z,q⟩=>⟨by rw[<- r.length];exact z,?_⟩);have hf:H1 s1.heap.objs.size=none:=I1.hok.fresh (B8 _);refine⟨.ref s1.heap.objs.size,upd H1 s1.heap.objs.size (.lst xs),I1.laid (t':=s1.toks) (λb u e=>C0 _ e) (B8 _) ?_,rfl,q _ hf⟩;exact⟨z,us,0,r,F2 _ rfl⟩
end
abbrev Sp:=List V->Hp->VK->XK->Prop
abbrev CXT:=List Env->Hp->A5->XK->A3->A5->Prop
structure Env0 (P:C8)(w:C4)(K:A9)(mg:Str->Option A3)(base:B6)(A:D5)(outer:List Env)(s:A5)(H:Hp):Prop where
 frames:A.frames=some outer
 mod:Mod K mg base
 bs:∀b o,base.get? b=some o->s.heap.get? b=some o/\H b=none
 bsz:base.objs.size<=s.heap.objs.size
 funs:s.heap.FunFrames base outer
 frf:∀b∈frs outer,H b=none
 hok:HOk P w H s.heap
 bare:AllBare s.gens
 nos:NS H
def CE (outer:List Env)(P:C8)(w:C4)(H:Hp)(s:A5)(Q:VK)(u:A3)(s':A5):Prop:=
 ∃v H',s'.os=s.os/\AllBare s'.gens/\Un (frs outer) [] H H' s.heap s'.heap/\HOk P w H' s'.heap/\RelV v u/\Q v H'
def CR (CX:CXT)(outer:List Env)(P:C8)(w:C4)(H:Hp)(s:A5)(Q:VK)(E:XK)(r:Result)(s':A5):Prop:=
 match r with
 |.ok (.ret u)=>CE outer P w H s Q u s'
 |.ok _=>False
 |.error e=>CX outer H s E e s'
structure FnOk (P:C8)(w:C4)(K:A9)(mg:Str->Option A3)(base:B6)(CX:CXT)(k:Nat)(f:A1)(fd:FuncData)(ps:List Str)(sp:Sp):Prop where
 len:∀vs H Q E,sp vs H Q E->vs.length=ps.length
 run:∀(A:D5) (outer:List Env) (s:A5) (H:Hp) (args:Args) (us:List A3) (vs:List V) (Q:VK) (E:XK),Room k A->Env0 P w K mg base A outer s H->BindsTo s fd args (ps.zip us)->Vals vs us->sp vs H Q E->
   N7 (A7 P w) A (.call (.ref f) args) (CR CX outer P w H s Q E) s
theorem FnOk.imp {K:A9}(F:FnOk P w K mg base CX k f fd ps sp)
   (h:∀vs H Q E,sp' vs H Q E->sp vs H Q E):FnOk P w K mg base CX k f fd ps sp':=
 ⟨λvs H Q E q=>F.len vs H Q E (h _ _ _ _ q),λA outer s H args us vs Q E hr he hb hv hs=>F.run A outer s H args us vs Q E hr he hb hv (h _ _ _ _ hs)⟩
section
variable {X:Cx}{jb:List (A1×Obj)}{σ:St}{H:Hp}{s s':A5}
theorem Inv.env0 (I:Inv X jb σ H s):Env0 X.prog X.w X.K X.mg X.base X.A X.stack s H:=
 ⟨I.ok.frames,I.ok.mod,I.bs,M2 I.ok.bsz I.sz,I.stack,I.stkFree,I.hok,I.bare,I.nos⟩
theorem Inv.after (I:Inv X jb σ H s)(h:CE X.stack X.prog X.w H s Q u s'):EP X jb σ Q u s':=by
 obtain⟨v,H',os,bare,un,hok,r,q⟩:=h;obtain⟨hh,g,d,t,os'⟩:=s';obtain rfl:os'=s.os:=os;exact⟨v,H',I.call (h':=hh) (g':=g) (d':=d) (t':=t) (ch:=[]) un hok bare (λb z=>absurd z (by simp)),r,q⟩
end
def tCall (sp:Sp)(dvs:List V)(E:XK)(t:TA):TE:=λσ H Q=>t σ H λvs H1=>sp (vs++dvs) H1 Q E
def BJ (K:A9)(fd:FuncData)(ps:List Str)(ds:List A3):Prop:=
 ∀(s:A5) (us:List A3),K.In s.heap->(us++ds).length=ps.length->BindsTo s fd ⟨us,[]⟩ (ps.zip (us++ds))
theorem BJ.all {K:A9}(h:∀us:List A3,us.length=ps.length->bindArgs fd ⟨us,[]⟩=pure (ps.zip us)):BJ K fd ps []:=λs us _ hl=>by
 rw[X3] at hl ⊢;exact .of_eq (h us hl)
def Hc (CX:CXT)(X:Cx)(E:XK):Prop:=∀(jb:List (A1×Obj)) (σ:St) (H:Hp) (s:A5) (e:A3) (s':A5),Inv X jb σ H s->CX X.stack H s E e s'->X.xe e s'
section
variable {X:Cx}{CX:CXT}{k:Nat}{f C:A1}{fd:FuncData}{ps:List Str}{sp:Sp}{dvs:List V}{ds:List A3}{E:XK}{x m:Str}{p pos apos:Pos}{e o:Expr}{es:List Expr}{ta:TE}{t:TA}
theorem run_fn (F:FnOk X.prog X.w X.K X.mg X.base CX k f fd ps sp)(hr:Room k X.A)(hb:BJ X.K fd ps ds)(hd:Vals dvs ds)(hx:Hc CX X E)
   (I:Inv X jb σ H s) (r:Vals vs us) (h:sp (vs++dvs) H Q E):A6 (A7 X.prog X.w) X.A (call (.ref f) us) (EP X jb σ Q) X.xe s:=by
 have r2:Vals (vs++dvs) (us++ds):=r.append hd;have hl:(us++ds).length=ps.length:=by rw[<- r2.length];exact F.len _ _ _ _ h
 refine wpAny_call (Ao (F.run X.A X.stack s H ⟨us,[]⟩ (us++ds) (vs++dvs) Q E hr I.env0 (hb s us I.kIn hl) r2 h) λr s' hq=>?_);cases r with
 |error e=>exact hx jb σ H s e s' I hq
 | ok fl =>
  cases fl with
  |ret u=>exact I.after hq
  |next=>exact i5 hq
  |brk=>exact i5 hq
  |cont=>exact i5 hq
theorem Pz (F:FnOk X.prog X.w X.K X.mg X.base CX k f fd ps sp)(hr:Room k X.A)(hg:Gl X x)(hm:X.mg x=some (.ref f))(hk:Cu X.K (.ref f)=true)(hb:BJ X.K fd ps ds)(hd:Vals dvs ds)(hx:Hc CX X E)
   (ha:PA X (e::es) t) (hdb:(x == ("__debug__":Str))=false:=by decide) (he:E3 (e::es) X.env=(false,eval e X.env)::E3 es X.env:=by rfl) (hpl:(backTo pos (E3 es X.env)).any (·.1)=false:=by rfl) :
   PE X (.Call (.Name x p) (e::es) [] pos) (tCall sp dvs E t):=by
 intro jb s σ H Q I h;refine wpAny_Call_Name_kw (OU I hg hm ?_ hdb);refine PySem.W.callWith_K (h₀:=X.base) I.ok.mod.kin hk (thn (ha pos jb s σ H _ I h) λus s1 ⟨vs,H1,I1,r,q⟩=>⟨I1.kIn,?_⟩) he hpl;exact run_fn F hr hb hd hx I1 r q
end
def PK (X:Cx)(kws:List V1)(t:TA):Prop:=
 ∀(pos:Pos) (jb:List (A1×Obj)) (s:A5) (σ:St) (H:Hp) (Q:List V->Hp->Prop),Inv X jb σ H s->t σ H Q->A6 (A7 X.prog X.w) X.A (evalAll ((backToKw pos (Ap kws X.env)).map (·.2))) (AP X jb σ Q) X.xe s
structure Z5 (N P:List Str)(sc:K9):Prop where
 kind:sc.kind=.function
 co:sc.isCoroutine=false
 gen:sc.isGenerator=false
 nd:N.Nodup
 pre:N.take P.length=P
 par:∀x∈P,sc.names.lookup x=some .local\/sc.names.lookup x=some .cell
 nofree:∀y∈sc.names,y.2≠.free
theorem JY {kindOf:Str->Option NameKind}:∀{binds:List (Str×A3)} {m:Str->Option A3},(∀v,(x,v)∉binds)->bindL kindOf binds m x=m x
 |[],_,_=>rfl
 | (n, v) :: r, m, h => by
  unfold bindL;rw[JY λw hw=>h w (C3 _ hw)]
  split
  ·have:x≠n:=by rintro rfl;exact h v C7
   simp[this]
  ·rfl
theorem JZ {kindOf:Str->Option NameKind}:∀{binds:List (Str×A3)} {m:Str->Option A3},(∀v,(x,v)∉binds)->bindC kindOf binds m x=m x
 |[],_,_=>rfl
 | (n, v) :: r, m, h => by
  unfold bindC;rw[JZ λw hw=>h w (C3 _ hw)]
  split
  ·rfl
  ·have:x≠n:=by rintro rfl;exact h v C7
   simp[this]
theorem J_ {kindOf:Str->Option NameKind}:∀{P:List Str} {vs:List A3} {i:Nat} {m:Str->Option A3},P.Nodup->P[i]?=some x->vs[i]?=some v->kindOf x=some .local->
   bindL kindOf (P.zip vs) m x=some v
 |[],_,_,_,_,h,_,_=>by simp at h
 |_::_,[],_,_,_,_,h,_=>by simp at h
 | p :: P, w :: vs, 0, m, nd, h1, h2, hk => by
  simp at h1 h2;subst h1;subst h2;show bindL kindOf ((p,w)::P.zip vs) m p=_;unfold bindL;rw[JY λv hv=>(R5.mp nd).1 (List.of_mem_zip hv).1,jr hk];simp
 | p :: P, w :: vs, i + 1, m, nd, h1, h2, hk => by
  show bindL kindOf ((p,w)::P.zip vs) m x=_;unfold bindL;exact J_ (i:=i) (R5.mp nd).2 (by simpa using h1) (by simpa using h2) hk
theorem Ka {kindOf:Str->Option NameKind}:∀{P:List Str} {vs:List A3} {i:Nat} {m:Str->Option A3},P.Nodup->P[i]?=some x->vs[i]?=some v->kindOf x≠some .local->
   bindC kindOf (P.zip vs) m x=some v
 |[],_,_,_,_,h,_,_=>by simp at h
 |_::_,[],_,_,_,_,h,_=>by simp at h
 | p :: P, w :: vs, 0, m, nd, h1, h2, hk => by
  simp at h1 h2;subst h1;subst h2;show bindC kindOf ((p,w)::P.zip vs) m p=_;unfold bindC;rw[JZ λv hv=>(R5.mp nd).1 (List.of_mem_zip hv).1,jt hk];simp
 | p :: P, w :: vs, i + 1, m, nd, h1, h2, hk => by
  show bindC kindOf ((p,w)::P.zip vs) m x=_;unfold bindC;exact Ka (i:=i) (R5.mp nd).2 (by simpa using h1) (by simpa using h2) hk
def start (N:List Str)(vs:List V):St:=vs.map some++List.replicate (N.length-vs.length) none
def cxOf (CX:CXT)(P:C8)(w:C4)(K:A9)(mg:Str->Option A3)(base:B6)(N:List Str)(qual:Str)(scope:K9)(f:A1)(cd:A3)(A:D5)(outer:List Env)(s:A5)(H:Hp)(E:XK):Cx where
 prog:=P
 w:=w
 K:=K
 mg:=mg
 base:=base
 A:=A.deeper (envOfC qual scope s.heap.objs.size f cd)
 N:=N
 s₀:=s
 H₀:=H
 env:=envOfC qual scope s.heap.objs.size f cd
 outer:=outer
 stack:=envOfC qual scope s.heap.objs.size f cd::outer
 ex:=[]
 calm:=true
 fn:=λ_=>true
 pn:=[]
 xe:=λe s'=>A6 (A7 P w) (A.deeper (envOfC qual scope s.heap.objs.size f cd)) (leaving (envOfC qual scope s.heap.objs.size f cd) e) (λ_ s''=>CX outer H s E e s'') (λe' s''=>CX outer H s E e' s'') s'
theorem Kb {sc:K9}(h:sc.names.lookup x=some .cell):∃c,(cellsFrom n sc.names []).lookup x=some c:=by
 have q:=PySem.W.cellsFrom_some sc.names n [] (.inl h);exact ED.mp q
theorem PB {K:A9}
   (S:Z5 N ps scope) (hd:A.handled=none) (e0:Env0 P w K mg base A outer s H) (hl:vs.length=ps.length) (r:Vals vs us)
   (x:InCallC s s.heap.objs.size (bindL (envOfC qual scope s.heap.objs.size f cd).kindOf (ps.zip us) λ_=>none) (cellsFrom (s.heap.objs.size+1) scope.names []) (bindC (envOfC qual scope s.heap.objs.size f cd).kindOf (ps.zip us) λ_=>none) s1) :
   Inv (cxOf CX P w K mg base N qual scope f cd A outer s H E) [] (start N vs) H s1:=by
 have hpl:ps.length<=N.length:=by have:=congrArg List.length S.pre;rw[O5] at this;omega
 obtain⟨h1,tk,rfl,hk⟩:=x.done;have noA:∀b:A1,b∉(cxOf CX P w K mg base N qual scope f cd A outer s H E).ex:=λb z=>absurd (show b∈([]:List A1) from z) (by simp)
 refine⟨⟨e0.mod,S.kind,rfl,rfl,B8 _,λy z c h1 h2=>?_,λy hy=>?_,λy c _ h=>?_,λ_=>hd,Around.frames_deeper e0.frames,.inr ⟨rfl,rfl⟩,λb z=>absurd z (noA b),e0.bs,e0.bsz,λb _ _=>noA b,λb z=>absurd z (noA b),e0.funs,e0.frf,e0.nos⟩,
  rfl,e0.bare,Un.kept hk,⟨_,x.toInCall.ns,λi y v h1 h2 h3=>?_⟩,λy c h=>⟨_,x.cell y c h⟩,e0.hok.fresh (B8 _),λy c h=>?_,λp hp=>absurd (show p∈([]:List (A1×Obj)) from hp) (by simp),e0.hok.kept hk,?_⟩
 ·exact name_of_addr x.apart (Aj h1) (Aj h2)
 ·have hy:scope.names.lookup y=some .cell\/scope.names.lookup y=some .free:=hy;rcases hy with hy|hy
  ·exact Kb hy
  ·exact absurd rfl (S.nofree _ (Aj hy))
 ·exact x4 (x.above y c (Aj h))
 ·have hi:i<vs.length:=by
   unfold start at h2
   by_cases hi:i<vs.length
   ·exact hi
   ·rw[V4 (by simpa using hi)] at h2;rw[GC] at h2
    split at h2 <;> cases h2
  have ha:vs[i]?=some v:=by
   unfold start at h2;rw[Y5 (by simpa using hi),E7] at h2;cases e:vs[i]? with
   |none=>rw[e] at h2;cases h2
   |some a=>rw[e] at h2;cases h2;rfl
  obtain⟨u,hu,rv⟩:=r.get ha
  have hp:ps[i]?=some y:=by
   rw[<- S.pre,List.getElem?_take_of_lt (by omega)];exact h1
  have ndP:ps.Nodup:=by rw[<- S.pre];exact S.nd.sublist (List.take_sublist _ _)
  refine⟨u,rv,?_⟩;rcases S.par y (J5 hp) with k|k
  ·exact .inl ⟨k,J_ ndP hp hu k⟩
  ·obtain⟨c,e⟩:=Kb (n:=s.heap.objs.size+1) k;refine .inr ⟨.inl k,c,e,?_⟩;have q:=x.cell y c e;rw[Ka ndP hp hu (by show scope.names.lookup y≠_;rw[k];decide)] at q;exact q
 ·exact e0.hok.fresh (x4 (x.above y c (Aj h)))
 ·unfold start;show _=N.length;rw[E6,B4,List.length_replicate];omega
theorem fn_of {K:A9}{dV kV doc pm jn ct oc:A3}
 (lk:K.lookup f=some ⟨oc,od,.func (X1 name qual params body scope dV kV doc pm an jn ct),osl⟩) (hcd:Ee K jn qual=true) (S:Z5 N ps scope)
   (len:∀vs H Q E,sp vs H Q E->vs.length=ps.length)
   (hbody:∀(A:D5) (outer:List Env) (s:A5) (H:Hp) (vs:List V) (Q:VK) (E:XK),Room k (A.deeper (envOfC qual scope s.heap.objs.size f jn))->sp vs H Q E->
     ∃t,PSs (cxOf CX P w K mg base N qual scope f jn A outer s H E) body t/\t { nx:=λ_ H'=>Q .non H',rt:=Q } (start N vs) H) :
   FnOk P w K mg base CX (k+1) f (X1 name qual params body scope dV kV doc pm an jn ct) ps sp:=by
 refine⟨len,λA outer s H args us vs Q E hr e0 hb r hsp=>?_⟩;have hl:=len _ _ _ _ hsp;have KX:K.In s.heap:=e0.mod.kin.keeps λb o e=>(e0.bs b o e).1;have lim:s.heap.NoLimit:=e0.mod.nolimit.keeps λb o e=>(e0.bs b o e).1
 have hkind:∀y∈ps.zip us,scope.names.lookup y.1=some .local\/(scope.names.lookup y.1=some .cell/\((cellsFrom (s.heap.objs.size+1) scope.names []).lookup y.1).isSome=true):=λ⟨n,v⟩ hy=>by
  rcases S.par n (List.of_mem_zip hy).1 with q|q
  ·exact .inl q
  ·exact .inr ⟨q,PySem.W.cellsFrom_some _ _ _ (.inl q)⟩
 refine codeAny_call_function hr.depth (KX _ _ lk) rfl S.co S.gen rfl (PySem.W.codeRec_of KX hcd) (hb _ _ _ _ ?_);refine wpAny_newFunctionEnv_cells S.kind hkind λenv he s1 x=>?_;subst he;refine⟨lim.keeps x.toInCall.keep,codeAny_func ?_⟩;obtain⟨t,ht,hq⟩:=hbody A outer s H vs Q E (hr.deeper _) hsp;have I:Inv (cxOf CX P w K mg base N qual scope f jn A outer s H E) [] (start N vs) H s1:=PB S hr.hd e0 hl r x;refine J1 (ht [] s1 (start N vs) H _ I hq) (λfl s' hs=>?_) λe s' hs=>hs
 have fin:∀{σ':St} {H':Hp} {v:V} {u:A3},Inv (cxOf CX P w K mg base N qual scope f jn A outer s H E) [] σ' H' s'->RelV v u->Q v H'->CE outer P w H s Q u s':=
  λ{σ' H' v u} J rv q=>⟨v,H',J.os,J.bare,J.base,J.hok,rv,q⟩
 cases fl with
 | ret u =>
  obtain⟨v,σ',H',J,rv,q⟩:=hs;exact fin J rv q
 | next =>
  obtain⟨σ',H',J,q⟩:=hs;exact fin (v:=V.non) (u:=Q8) J rfl q
 | brk =>
  obtain⟨_,_,_,q⟩:=hs;exact i5 q
 | cont =>
  obtain⟨_,_,_,q⟩:=hs;exact i5 q
section
variable {X:Cx}{x:Str}{p pos:Pos}{e:Expr}{es:List Expr}{t:TA}{id T:String}{r:List V->Hp->VK->Prop}
def tCB (r:List V->Hp->VK->Prop)(t:TA):TE:=λσ H Q=>t σ H λvs H1=>r vs H1 Q
theorem y0 (hc:N1 X (.builtin id) r)(hg:Gl X x)(hm:X.mg x=none)(hv:M7 x=some (.builtin id))(ha:PA X (e::es) t)(hn:x≠"__name__":=by decide)(hdb:(x == ("__debug__":Str))=false:=by decide)
   (he:E3 (e::es) X.env=(false,eval e X.env)::E3 es X.env:=by rfl) (hpl:(backTo pos (E3 es X.env)).any (·.1)=false:=by rfl):PE X (.Call (.Name x p) (e::es) [] pos) (tCB r t):=by
 intro jb s σ H Q I h;refine wpAny_Call_Name_kw (i6 I hg hm hv ?_ hn hdb);exact PyProof.Rows.callWith_builtin1 (thn (ha pos jb s σ H _ I h) λus s1 ⟨vs,H1,I1,r1,q1⟩=>hc jb s1 σ H1 vs us Q I1 r1 q1) he hpl
theorem BK (hc:N1 X (.type T) r)(hg:Gl X x)(hm:X.mg x=none)(hv:M7 x=some (.type T))(ha:PA X (e::es) t)(hn:x≠"__name__":=by decide)(hdb:(x == ("__debug__":Str))=false:=by decide)
   (he:E3 (e::es) X.env=(false,eval e X.env)::E3 es X.env:=by rfl) (hpl:(backTo pos (E3 es X.env)).any (·.1)=false:=by rfl):PE X (.Call (.Name x p) (e::es) [] pos) (tCB r t):=by
 intro jb s σ H Q I h;refine wpAny_Call_Name_kw (i6 I hg hm hv ?_ hn hdb);exact x5 (thn (ha pos jb s σ H _ I h) λus s1 ⟨vs,H1,I1,r1,q1⟩=>hc jb s1 σ H1 vs us Q I1 r1 q1) he hpl
end
end L2
namespace HT
open PySem PyProof.Rows
section
variable {prog:C8}{w:C4}{A:D5}{E:A3->A5->Prop}{s:A5}
theorem cat_tup (ht:IsTup s.heap t vs.toArray)(hb:IsTup s.heap b ws.toArray)(hv:vs≠[])
   (h1:ws=[]->Q (.ref t) s) (h2:ws≠[]->Q (.ref s.heap.objs.size) { s with heap:=s.heap.push { cls:=.type "tuple",data:=.seq (vs++ws).toArray } })
   (hsz:vs.length+ws.length<=B9):A6 (A7 prog w) A (V0 .Add (.ref t) (.ref b)) Q E s:=by
 obtain⟨⟨cls,dd,data,sl⟩,ho,hc,n,hd⟩:=id ht;obtain⟨⟨cls2,dd2,data2,sl2⟩,ho2,hc2,n2,hd2⟩:=id hb;simp only at hc hd hc2 hd2;subst hc hd hc2 hd2;have e:vs.toArray++ws.toArray=(vs++ws).toArray:=by simp
 by_cases hw:ws=[]
 ·exact concat_meets ⟨_,ho,rfl⟩ ⟨_,ho2,rfl⟩ noFill_tuple_add seq_tuple_add GM GK (GJ _ _)
    (tuple_addW1 t b vs.toArray ws.toArray n n2 dd dd2 sl sl2 (by simpa using hv) (by simp[hw])) ⟨ho,ho2,h1 hw⟩
 ·refine concat_meets ⟨_,ho,rfl⟩ ⟨_,ho2,rfl⟩ noFill_tuple_add seq_tuple_add GM GK (GJ _ _)
    (tuple_addW2 t b vs.toArray ws.toArray n n2 dd dd2 sl sl2 (by simpa using hv) (by simpa using hw) (by rw[F7,F7];exact hsz)) ⟨ho,ho2,?_⟩
  rw[e];exact h2 hw
def sIx (n d:Nat):Option Int->Nat
 |none=>d
 |some v=>if v<0 then(v+(n:Int)).toNat else min v.toNat n
theorem sIx_none (n d:Nat):sIx n d none=d:=rfl
theorem sIx_nat (n d k:Nat):sIx n d (some (k:Int))=min k n:=by
 show(if(k:Int)<0 then((k:Int)+(n:Int)).toNat else min (k:Int).toNat n)=min k n;rw[jt (by omega),V9]
theorem sIx_le (n d:Nat)(hd:d<=n)(o:Option Int):sIx n d o<=n:=by
 cases o with
 |none=>exact hd
 | some v =>
  show(if v<0 then(v+(n:Int)).toNat else min v.toNat n)<=n
  by_cases hv:v<0
  ·rw[jr hv];omega
  ·rw[jt hv];exact Nat.min_le_right _ _
theorem Kc (v:Int)(n d:Nat):(if v<0 then max (v+(n:Int)) 0 else min v (n:Int))=((sIx n d (some v):Nat):Int):=by
 show(if v<0 then max (v+(n:Int)) 0 else min v (n:Int))=(((if v<0 then(v+(n:Int)).toNat else min v.toNat n):Nat):Int)
 by_cases hv:v<0
 ·simp only[jr hv];omega
 ·simp only[jt hv];omega
theorem PC (lo hi:Option Int)(n:Nat):CQ lo hi 1 (n:Int)=(((sIx n 0 lo:Nat):Int),((sIx n n hi:Nat):Int)):=by
 have h1:¬((1:Int)<0):=by omega
 unfold CQ;simp only[h1,if_false];refine Prod.ext ?_ ?_
 ·cases lo with
  |none=>rfl
  |some v=>exact Kc v n 0
 ·cases hi with
  |none=>rfl
  |some v=>exact Kc v n n
theorem PF (i j:Nat):x6 (i:Int) (j:Int) 1=j-i:=by
 unfold x6;have h1:(1:Int)>0:=by omega
 simp only[h1,if_true,Int.ediv_one]
 split <;> omega
theorem De (p:IsPart v o)(h:Q o s):A6 (A7 prog w) A (Builtin.Slice.slicePartIndex v) Q E s:=by
 cases p with
 |none=>exact slicePart_none h
 |int i t=>exact slicePart_int h
theorem Kd {lo hi:Option Int}{n:Nat}{Q:Int×Int×Nat->A5->Prop}(hs:s.heap.IsSliceOf sl vl vu .none)(pl:IsPart vl lo)(pu:IsPart vu hi)
   (h:Q (((sIx n 0 lo:Nat):Int),1,sIx n n hi-sIx n 0 lo) s):A6 (A7 prog w) A (Eu (.ref sl) (pure (n:Int))) Q E s:=by
 obtain⟨os,hos,hcs,hds⟩:=id hs;unfold Eu JJ;refine A0 (A0 (K5 hos hds (x:=vl) rfl (A0 (K5 hos hds (x:=vu) rfl (A0 (K5 hos hds (x:=.none) rfl (A8 ?_)))))));refine A0 (slicePart_none ?_);show A6 _ _ (if((1:Int) == 0)=true then _ else _) _ _ s;rw[jt (by decide)];refine A0 (De pl (A0 (De pu (A0 (A8 ?_)))));show A6 _ _ (match CQ lo hi 1 (n:Int) with|(lo,hi)=>pure (lo,(1:Int),x6 lo hi 1)) _ _ s;rw[PC lo hi n];show A6 _ _ (pure (((sIx n 0 lo:Nat):Int),(1:Int),x6 ((sIx n 0 lo:Nat):Int) ((sIx n n hi:Nat):Int) 1)) _ _ s;rw[PF];exact A8 h
theorem PH (xs:Array A3)(i k:Nat):((D3 k).filterMap λ(m:Nat)=>xs[((i:Int)+(m:Int)*1).toNat]?).toArray=((xs.toList.drop i).take k).toArray:=by
 have e:(λ(m:Nat)=>xs[((i:Int)+(m:Int)*1).toNat]?)=λm=>xs[i+m]?:=by
  funext m
  have:((i:Int)+(m:Int)*1).toNat=i+m:=by omega
  rw[this]
 rw[e];have:=pick_run xs i k;rw[List.filterMap_map] at this;have e2:((λx=>xs[x]?)∘λx=>i+x)=λm=>xs[i+m]?:=rfl
 grind
theorem getItem_tuple_cut {lo hi:Option Int}(ht:IsTup s.heap t items)(hs:s.heap.IsSliceOf sl vl vu .none)(pl:IsPart vl lo)(pu:IsPart vu hi)
   (hw:¬(sIx items.size 0 lo=0/\sIx items.size items.size hi=items.size))
   (h:Q (.ref s.heap.objs.size) { s with heap:=s.heap.push { cls:=.type "tuple",data:=.seq ((items.toList.drop (sIx items.size 0 lo)).take (sIx items.size items.size hi-sIx items.size 0 lo)).toArray } })
   (hsz:items.size<=B9):A6 (A7 prog w) A (X0 (.ref t) (.ref sl)) Q E s:=by
 have htake:sizeOk (.seq ((items.toList.drop (sIx items.size 0 lo)).take (sIx items.size items.size hi-sIx items.size 0 lo)).toArray):=by
  show((items.toList.drop (sIx items.size 0 lo)).take (sIx items.size items.size hi-sIx items.size 0 lo)).toArray.size<=B9;rw[F7,O5,P6,O6];omega
 have hj:sIx items.size items.size hi<=items.size:=sIx_le _ _ (B8 _) hi;obtain⟨os,hos,hcs,hds⟩:=id hs;have hTs:s.TypeIs (.ref sl) "slice":=⟨os,hos,hcs⟩;unfold X0
 try with_reducible refine L6 ?_
 first|refine A0 (A8 ?_)|skip
 refine A0 (wpAny_sequenceKey ht.typeIs (by decide) ?_)
 refine A0 (W7 (name:=B0 "__getitem__") ht.typeIs Bs
   (P3 Bs ht.typeIs entry_tuple_getitem ?_ (args_tuple_getitem _ _)))
 show A6 _ _ (GI (.ref t)>>=_) _ _ s;refine A0 (tupleItemsOf_ ht ?_);refine A0 (w6 hTs ?_);rw[jr (by decide)];refine A0 (Kd hs pl pu ?_)
 have hno:¬((((sIx items.size 0 lo:Nat):Int) == 0&&(1:Int) == 1&&(sIx items.size items.size hi-sIx items.size 0 lo) == items.size)=true):=by
  intro q;rw[h9,h9] at q;have q1:((sIx items.size 0 lo:Nat):Int)=0:=eq_of_beq q.1.1;have q2:sIx items.size items.size hi-sIx items.size 0 lo=items.size:=eq_of_beq q.2;exact hw ⟨by omega,by omega⟩
 show A6 _ _ (if(((sIx items.size 0 lo:Nat):Int) == 0&&(1:Int) == 1&&(sIx items.size items.size hi-sIx items.size 0 lo) == items.size)=true then _ else _) _ _ s;rw[jt hno,PH]
 first
   |exact A0 (m:=x8 _) (P2 (A8 ⟨_,rfl,A8 h⟩) htake)
   |exact A0 (m:=x8 _) (P2 (A0 (A8 (A8 ⟨_,rfl,A8 h⟩))) htake)
   |exact A0 (A0 (m:=x8 _) (P2 (A8 (A8 ⟨_,rfl,A8 h⟩)) htake))
   |exact A0 (A0 (m:=x8 _) (P2 (A8 ⟨_,rfl,A8 h⟩) htake))
end
end HT
namespace L2
open PySem PySem.Spec PyProof.Rows
abbrev TO:=St->Hp->(Option Int->Hp->Prop)->Prop
def PO (X:Cx)(e:Option Expr)(t:TO):Prop:=
 ∀ (jb : List (A1 × Obj)) (s : A5) (σ : St) (H : Hp) (Q : Option Int -> Hp -> Prop), Inv X jb σ H s -> t σ H Q ->
   A6 (A7 X.prog X.w) X.A (evalPart e X.env) (λu s'=>∃o H',Inv X jb σ H' s'/\IsPart u o/\Q o H') X.xe s
def PJ:TO:=λ_ H Q=>Q none H
def tPart (t:TE):TO:=λσ H Q=>t σ H λx H1=>∃i,x=.int i/\Q (some i) H1
section
variable {X:Cx}{e:Expr}{te:TE}{lo hi:Option Expr}{tl th:TO}{pos p2:Pos}
theorem Hd:PO X none PJ:=by
 intro jb s σ H Q I h;rw[evalPart_none];exact A8 ⟨none,H,I,.none,h⟩
theorem He (h:PE X e te):PO X (some e) (tPart te):=by
 intro jb s σ H Q I hw;rw[evalPart_some];refine thn (h jb s σ H _ I hw) λu s1 ⟨x,H1,I1,r1,q1⟩=>?_;obtain⟨i,rfl,q⟩:=q1;obtain⟨t,rfl⟩:=r1;exact⟨some i,H1,I1,.int i t,q⟩
def SlR (X:Cx)(r:V->Option Int->Option Int->Hp->VK->Prop):Prop:=
 ∀ (jb : List (A1 × Obj)) (s : A5) (σ : St) (H : Hp) (x : V) (v vl vu : A3) (lo hi : Option Int) (sl : A1) (Q : VK), Inv X jb σ H s -> RelV x v -> s.heap.IsSliceOf sl vl vu .none -> IsPart vl lo -> IsPart vu hi -> r x lo hi H Q ->
   ∃T id,typeLookup (.type T) "__getitem__"=pure (some (.builtin id))/\s.TypeIs v T/\A6 (A7 X.prog X.w) X.A (X0 v (.ref sl)) (EP X jb σ Q) X.xe s
theorem SlR.or (h:SlR X r)(h':SlR X r'):SlR X (λx lo hi H Q=>r x lo hi H Q\/r' x lo hi H Q):=by
 intro jb s σ H x v vl vu lo hi sl Q I rx hs pl pu q;rcases q with q|q
 ·exact h jb s σ H x v vl vu lo hi sl Q I rx hs pl pu q
 ·exact h' jb s σ H x v vl vu lo hi sl Q I rx hs pl pu q
def tSl (r:V->Option Int->Option Int->Hp->VK->Prop)(te:TE)(tl th:TO):TE:=λσ H Q=>te σ H λx H1=>tl σ H1 λl H2=>th σ H2 λu H3=>r x l u H3 Q
theorem Hf (hr:SlR X r)(he:PE X e te)(hl:PO X lo tl)(hu:PO X hi th):PE X (.Subscript e (.Slice lo hi none p2) pos) (tSl r te tl th):=by
 intro jb s σ H Q I h;refine Subscript_ (thn (he jb s σ H _ I h) λv s1 ⟨x,H1,I1,r1,q1⟩=>?_);refine wpAny_Slice (thn (hl jb s1 σ H1 _ I1 q1) λvl s2 ⟨l,H2,I2,pl,q2⟩=>thn (hu jb s2 σ H2 _ I2 q2) λvu s3 ⟨u,H3,I3,pu,q3⟩=>?_);rw[evalPart_none];refine A8 ?_;have I4:Inv X jb σ H3 { s3 with heap:=s3.heap.push { cls:=.type "slice",data:=.fields #[vl,vu,.none] } }:=I3.kept (t':=s3.toks) λb ob q=>C0 _ q;obtain⟨T,id,hT,ht,hg⟩:=hr jb { s3 with heap:=s3.heap.push { cls:=.type "slice",data:=.fields #[vl,vu,.none] } } σ H3 x v vl vu l u s3.heap.objs.size Q I4 r1 (GN ..) pl pu q3;show A6 (A7 X.prog X.w) X.A (subscriptTail e (.Slice lo hi none p2) v (.ref s3.heap.objs.size)) (EP X jb σ Q) X.xe { s3 with heap:=s3.heap.push { cls:=.type "slice",data:=.fields #[vl,vu,.none] } };exact tail_any (ops:=[.ref s3.heap.objs.size,v]) ht hT hg (by with_unfolding_all rfl)
def cutV (xs:List V)(lo hi:Option Int):List V:=(xs.drop (HT.sIx xs.length 0 lo)).take (HT.sIx xs.length xs.length hi-HT.sIx xs.length 0 lo)
theorem Ke (xs:List V)(lo hi:Option Int):(cutV xs lo hi).length<=xs.length:=by
 unfold cutV;rw[O5,P6];omega
def rSlT (K:A9):V->Option Int->Option Int->Hp->VK->Prop:=λx lo hi H Q=>∃a xs,x=.ref a/\SqT K H a xs/\
 ¬(HT.sIx xs.length 0 lo=0/\HT.sIx xs.length xs.length hi=xs.length)/\∀p,H p=none->Q (.ref p) (upd H p (.tup (cutV xs lo hi)))
theorem sl_tup:SlR X (rSlT X.K):=by
 intro jb s σ H x v vl vu lo hi sl Q I rx hs pl pu h;obtain⟨a,xs,rfl,hx,hw,q⟩:=h;cases rx;obtain⟨jf,r,ht,hz⟩:=I.tuple hx;have hlen:jf.toArray.size=xs.length:=by rw[F7];exact r.length.symm
 refine⟨"tuple",_,PyProof.Rows.slot_tuple_getitem.lookup,ht.typeIs,?_⟩;refine HT.getItem_tuple_cut ht hs pl pu (by rw[hlen];exact hw) ?_ (by rw[hlen];exact hz);rw[hlen];refine⟨.ref s.heap.objs.size,_,I.laid (t':=s.toks) (o:=.tup (cutV xs lo hi)) (λb ob q=>C0 _ q) (B8 _) ?_,rfl,q _ (I.hok.fresh (B8 _))⟩;exact⟨M2 (Ke xs lo hi) hz,_,(r.drop (HT.sIx xs.length 0 lo)).take (HT.sIx xs.length xs.length hi-HT.sIx xs.length 0 lo),Z3.new _ _⟩
def rCatT (K:A9):R2:=λx y H Q=>∃a b xs ys,x=.ref a/\y=.ref b/\SqT K H a xs/\SqT K H b ys/\xs≠[]/\xs.length+ys.length<=B9/\
 (ys=[]->Q (.ref a) H)/\(ys≠[]->∀p,H p=none->Q (.ref p) (upd H p (.tup (xs++ys))))
theorem Vals.nil_iff (r:Vals xs us):us=[]↔xs=[]:=by
 cases r with
 |nil=>simp
 |cons _ _=>simp
theorem PM:OpR X (V0 .Add) (rCatT X.K):=by
 intro jb s σ H x y v u Q I rx ry h;obtain⟨a,b,xs,ys,rfl,rfl,ha,hb,hx,hz,q1,q2⟩:=h;cases rx;cases ry;obtain⟨jf,r1,p1,_⟩:=I.tuple ha;obtain⟨its2,r2,p2,_⟩:=I.tuple hb;refine HT.cat_tup p1 p2 (λz=>hx (r1.nil_iff.mp z)) (λz=>⟨.ref a,H,I,rfl,q1 (r2.nil_iff.mp z)⟩) (λz=>?_) (by rw[<- r1.length,<- r2.length];exact hz);refine⟨.ref s.heap.objs.size,_,I.laid (t':=s.toks) (o:=.tup (xs++ys)) (λb ob q=>C0 _ q) (B8 _) ?_,rfl,q2 (λw=>z (r2.nil_iff.mpr w)) _ (I.hok.fresh (B8 _))⟩;exact⟨by rw[E6];exact hz,_,r1.append r2,Z3.new _ _⟩
end
def ixN (n:Nat)(i:Int):Option Nat:=if 0<=i then(if i<n then some i.toNat else none) else if -(n:Int)<=i then some (i+n).toNat else none
def atI {α:Type}(xs:List α)(i:Int):Option α:=(ixN xs.length i).bind λj=>xs[j]?
theorem Hg (h:ixN n i=some j):seqIndex? i n=some j/\j<n/\-(n:Int)<=i/\i<n:=by
 unfold ixN at h
 by_cases h0:0<=i
 ·rw[jr h0] at h
  by_cases h1:i<n
  ·rw[jr h1] at h;have e:i.toNat=j:=M9 h;exact⟨by rw[seqIndex_of h0 h1,e],by omega,by omega,h1⟩
  ·rw[jt h1] at h;cases h
 ·rw[jt h0] at h
  by_cases h1:-(n:Int)<=i
  ·rw[jr h1] at h;have e:(i+n).toNat=j:=M9 h;exact⟨by rw[seqIndex_neg (by omega) h1,e],by omega,h1,by omega⟩
  ·rw[jt h1] at h;cases h
theorem Hh {α:Type}{xs:List α}{i:Int}{v:α}(h:atI xs i=some v):∃j,seqIndex? i xs.length=some j/\xs[j]?=some v/\j<xs.length/\-(xs.length:Int)<=i/\i<xs.length:=by
 unfold atI at h;cases e:ixN xs.length i with
 |none=>rw[e] at h;cases h
 | some j =>
  rw[e] at h;obtain⟨h1,h2,h3,h4⟩:=Hg e;exact⟨j,h1,h,h2,h3,h4⟩
theorem BL {α:Type}{xs:List α}{j:Nat}{v:α}(h:xs[j]?=some v):atI xs (j:Int)=some v:=by
 have hj:j<xs.length:=(F6.mp h).1
 have e:ixN xs.length (j:Int)=some j:=by
  unfold ixN;rw[jr (by omega),jr (by omega)];simp
 unfold atI;rw[e];exact h
theorem PN {α:Type}(xs:List α)(v:α):atI (xs++[v]) (-1)=some v:=by
 have hl:(xs++[v]).length=xs.length+1:=by simp
 have e:ixN (xs++[v]).length (-1)=some xs.length:=by
  unfold ixN;rw[hl,jt (by decide),jr (by omega)]
  congr 1
  omega
 unfold atI;rw[e];show(xs++[v])[xs.length]?=some v;simp
def Hi (b:Expr):Prop:=∀o i,subscripted b false o i=operate [o,i] (X0 o i)
def IxR (X:Cx)(r:R2):Prop:=
 ∀ (value slice : Expr) (jb : List (A1 × Obj)) (s : A5) (σ : St) (H : Hp) (x y : V) (v u : A3) (Q : VK), Inv X jb σ H s -> RelV x v -> RelV y u -> r x y H Q ->
   subscripted slice false v u=operate [v,u] (X0 v u)->A6 (A7 X.prog X.w) X.A (subscriptTail value slice v u) (EP X jb σ Q) X.xe s
def MtR (X:Cx)(id:String)(r:V->List V->Hp->VK->Prop):Prop:=
 ∀ (jb : List (A1 × Obj)) (s : A5) (σ : St) (H : Hp) (x : V) (xs : List V) (v : A3) (us : List A3) (Q : VK), Inv X jb σ H s -> RelV x v -> Vals xs us -> r x xs H Q ->
   A6 (A7 X.prog X.w) X.A (call (.builtin id) (v::us)) (EP X jb σ Q) X.xe s
section
variable {X:Cx}{a b:Expr}{ta tb:TE}{pos:Pos}
theorem IxR.or (h:IxR X r)(h':IxR X r'):IxR X (λx y H Q=>r x y H Q\/r' x y H Q):=by
 intro value slice jb s σ H x y v u Q I rx ry q hs;rcases q with q|q
 ·exact h value slice jb s σ H x y v u Q I rx ry q hs
 ·exact h' value slice jb s σ H x y v u Q I rx ry q hs
theorem Hj (hr:IxR X r)(ha:PE X a ta)(hb:PE X b tb)(hs:Hi b):PE X (.Subscript a b pos) (tOp r ta tb):=by
 intro jb s σ H Q I h;exact Subscript_ (binT ha hb I h λv u s2 x y H2 I2 rx ry q=>hr a b jb s2 σ H2 x y v u Q I2 rx ry q (hs _ _))
def rIxL (K:A9):R2:=λx y H Q=>∃p xs i v,x=.ref p/\y=.int i/\SqL K H p xs/\atI xs i=some v/\Q v H
def rIxT (K:A9):R2:=λx y H Q=>∃p xs i v,x=.ref p/\y=.int i/\SqT K H p xs/\atI xs i=some v/\Q v H
def rIxS:R2:=λx y H Q=>∃z i c,x=.str z/\y=.int i/\z.length<=B9/\atI z.cps.toList i=some c/\Q (.str ⟨#[c]⟩) H
theorem Kf:IxR X (rIxL X.K):=by
 intro value slice jb s σ H x y v u Q I rx ry h hs;obtain⟨p,xs,i,z,rfl,rfl,hq,he,q⟩:=h;cases rx;obtain⟨t,rfl⟩:=ry;obtain⟨jf,r,pl,hz⟩:=I.list hq;obtain⟨j,h1,h2,h3,h4,h5⟩:=Hh he;obtain⟨w,ew,rw'⟩:=r.get h2;have hl:=r.length;have hn:=AD;have fin:EP X jb σ Q w s:=⟨z,H,I,rw',q⟩
 by_cases h0:0<=i
 ·have hj:i.toNat=j:=by
   rw[seqIndex_of h0 h5] at h1;exact M9 h1
  exact item_listR pl.isList h0 (by omega) (by rw[hj];simpa using ew) fin hs
 ·have hj:(i+(jf.toArray.size:Int)).toNat=j:=by
   rw[seqIndex_neg (by omega) h4] at h1;rw[F7,<- hl];exact M9 h1
  exact subscriptTail_builtinR (x:=w) pl.isList.typeIs slot_list_getitem.lookup
    (wpAny_getItem_list_neg (Q:=λr s'=>r=w/\EP X jb σ Q r s') pl.isList (by omega) (by rw[F7] <;> omega) (by omega) (by rw[hj];simpa using ew) ⟨rfl,fin⟩) hs
theorem ix_tup:IxR X (rIxT X.K):=by
 intro value slice jb s σ H x y v u Q I rx ry h hs;obtain⟨p,xs,i,z,rfl,rfl,hq,he,q⟩:=h;cases rx;obtain⟨t,rfl⟩:=ry;obtain⟨jf,r,pl,hz⟩:=I.tuple hq;obtain⟨j,h1,h2,h3,h4,h5⟩:=Hh he;obtain⟨w,ew,rw'⟩:=r.get h2;have hl:=r.length;have hn:=AD;have fin:EP X jb σ Q w s:=⟨z,H,I,rw',q⟩
 exact subscriptTail_builtinR (x:=w) pl.typeIs slot_tuple_getitem.lookup
   (getItem_tuple (j:=j) (Q:=λr s'=>r=w/\EP X jb σ Q r s') pl (by omega) (by omega) (by grind) (by grind) ⟨rfl,fin⟩) hs
theorem ix_str:IxR X rIxS:=by
 intro value slice jb s σ H x y v u Q I rx ry h hs;obtain⟨z,i,c,rfl,rfl,hz,he,q⟩:=h;obtain⟨t,rfl⟩:=rx;obtain⟨t',rfl⟩:=ry;obtain⟨j,h1,h2,h3,h4,h5⟩:=Hh he;have hl:z.cps.toList.length=z.length:=by simp[Str.length]
 rw[hl] at h1 h4 h5;have hn:=AD
 exact tail_any (typeIs_str s z t) slot_str_getitem.lookup (getItem_str (c:=c) (by
  have e1:decide (i < -(2 ^ 63:Int))=false:=jq (by omega);have e2:decide (i>=2 ^ 63)=false:=jq (by omega)
  rw[e1,e2,Ax]) (by grind) ⟨.str ⟨#[c]⟩,H,I.tok _,⟨_,rfl⟩,q⟩) hs
def rIx (K:A9):R2:=λx y H Q=>rIxL K x y H Q\/rIxT K x y H Q\/rIxS x y H Q
theorem Kg:IxR X (rIx X.K):=Kf.or (ix_tup.or ix_str)
theorem PP (jf:List A3)(n j:Nat)(u:A3):T0 (·.setIfInBounds j u) { cls:=.type "list",data:=.seq jf.toArray n }={ cls:=.type "list",data:=.seq (jf.set j u).toArray n }:=by
 simp[T0]
theorem Inv.lst (I:Inv X jb σ H s)(h:H p=some (.lst xs)) :
   ∃(jf:List A3) (n:Nat),Vals xs jf/\s.heap.get? p=some { cls:=.type "list",data:=.seq jf.toArray n }/\xs.length<=B9:=by
 obtain⟨z,jf,n,r,e⟩:=I.hok p _ h;exact⟨jf,n,r,e,z⟩
theorem Inv.lstUpd {jf its':List A3}(I:Inv X jb σ H s)(h:H p=some (.lst xs))
   (ho:s.heap.get? p=some { cls:=.type "list",data:=.seq jf.toArray n }) (hf:f { cls:=.type "list",data:=.seq jf.toArray n }={ cls:=.type "list",data:=.seq its'.toArray n' }) (r:Vals ys its') (hz:ys.length<=B9) (t:Nat) :
   Inv X jb σ (upd H p (.lst ys)) { s with heap:=s.heap.update p f,toks:=t }:=by
 have e:(s.heap.update p f).get? p=some { cls:=.type "list",data:=.seq its'.toArray n' }:=by
  rw[Bg f ho (by rw[hf] <;> rfl),hf]
 refine I.write (x:=p) (e:=p) (by rw[h];trivial) (.inl rfl) (λb u hb q=>(Bf _ _ (Ne.symm hb)).trans q) ⟨_,e⟩ ?_;exact⟨hz,its',n',r,e⟩
def Df:V->V->V->Hp->(Hp->Prop)->Prop:=λo i v H Q=>∃p xs k j,o=.ref p/\i=.int k/\H p=some (.lst xs)/\ixN xs.length k=some j/\Q (upd H p (.lst (xs.set j v)))
theorem PQ:PSet X Df:=by
 intro jb s σ H o i v ov iv u Q I ro ri rv h;obtain⟨p,xs,k,j,rfl,rfl,hp,hj,q⟩:=h;cases ro;obtain⟨t,rfl⟩:=ri;obtain⟨jf,n,r,ho,hz⟩:=I.lst hp;obtain⟨h1,h2,h3,h4⟩:=Hg hj;have hl:=r.length;have hn:=AD
 have I':Inv X jb σ (upd H p (.lst (xs.set j v))) { s with heap:=s.heap.update p (T0 (·.setIfInBounds j u)) }:=
  I.lstUpd hp ho (PP jf n j u) (r.set rv j) (by grind) s.toks
 by_cases h0:0<=k
 ·have hk:k.toNat=j:=by
   rw[seqIndex_of h0 h4] at h1;exact M9 h1
  exact PySem.W.ki_setAt ho h0 (by omega) (by grind) (by grind)
 ·have hk:(k+(jf.toArray.size:Int)).toNat=j:=by
   rw[seqIndex_neg (by omega) h3] at h1;rw[F7,<- hl];exact M9 h1
  exact PySem.W.ki_setBack ho (by omega) (by rw[F7,<- hl];exact h3) (by omega) (by rw[hk];exact⟨_,I',q⟩)
theorem PU (lo hi:Option Int)(n:Nat):(Aq lo hi none n).1=((HT.sIx n 0 lo:Nat):Int)/\(Aq lo hi none n).2.1=((HT.sIx n n hi:Nat):Int)/\(Aq lo hi none n).2.2=1:=by
 refine⟨?_,?_,rfl⟩
 ·cases lo with
  |none=>simp[Aq,HT.sIx]
  | some i =>
   simp only[Aq,HT.sIx,Option.getD_none,show(1:Int)>0 by decide,if_true]
   by_cases h:i<0
   ·simp only[h,if_true] <;> omega
   ·simp only[h,if_false] <;> omega
 ·cases hi with
  |none=>simp[Aq,HT.sIx]
  | some i =>
   simp only[Aq,HT.sIx,Option.getD_none,show(1:Int)>0 by decide,if_true]
   by_cases h:i<0
   ·simp only[h,if_true] <;> omega
   ·simp only[h,if_false] <;> omega
theorem PX (jf:List A3)(lo hi:Option Int):slicePick jf.toArray lo hi none=((jf.drop (HT.sIx jf.length 0 lo)).take (HT.sIx jf.length jf.length hi-HT.sIx jf.length 0 lo)).toArray:=by
 obtain⟨h1,h2,h3⟩:=PU lo hi jf.toArray.size;unfold slicePick;rw[h1,h2,h3];simp only[sliceRange_one,pick_run,F7] <;> rfl
def rSlL (K:A9):V->Option Int->Option Int->Hp->VK->Prop:=λx lo hi H Q=>∃a xs,x=.ref a/\SqL K H a xs/\∀p,H p=none->Q (.ref p) (upd H p (.lst (cutV xs lo hi)))
theorem Hk:SlR X (rSlL X.K):=by
 intro jb s σ H x v vl vu lo hi sl Q I rx hs pl pu h;obtain⟨a,xs,rfl,hx,q⟩:=h;cases rx;obtain⟨jf,r,ht,hz⟩:=I.list hx;have hlen:=r.length;refine⟨"list",_,slot_list_getitem.lookup,ht.isList.typeIs,?_⟩;refine wpAny_getItem_list_slice ht.isList hs pl pu .none (by simp) ?_ (by rw[F7] <;> omega)
 rw[PX,<- hlen];refine⟨.ref s.heap.objs.size,_,I.laid (t':=s.toks) (o:=.lst (cutV xs lo hi)) (λb ob q=>C0 _ q) (B8 _) ?_,rfl,q _ (I.hok.fresh (B8 _))⟩;exact⟨M2 (Ke xs lo hi) hz,_,0,(r.drop (HT.sIx xs.length 0 lo)).take (HT.sIx xs.length xs.length hi-HT.sIx xs.length 0 lo),F2 _ rfl⟩
def T5:V->Bool
 |.non=>true
 |.bl _=>true
 |.int _=>true
 |.str _=>true
 |_=>false
def eqV:V->V->Bool
 |.non,.non=>true
 |.bl a,.bl b=>a == b
 |.bl a,.int b=>(if a then 1 else 0) == b
 |.int a,.bl b=>a == (if b then 1 else 0)
 |.int a,.int b=>a == b
 |.str a,.str b=>a == b
 |_,_=>false
theorem Kh (ry:RelV y u)(rx:RelV x v)(fy:T5 y=true)(fx:T5 x=true):AB A s u v (eqV y x):=by
 cases y with
 | non =>
  cases ry;cases x with
  |non=>cases rx;exact SeqAt.EqAt.same _
  |bl b=>cases rx;exact SeqAt.EqAt.none_bool b
  |int b=>obtain⟨t,rfl⟩:=rx;exact SeqAt.EqAt.none_int b t
  |str b=>obtain⟨t,rfl⟩:=rx;exact SeqAt.EqAt.none_str b t
  |_=>exact absurd (show false=true from fx) L0
 | bl a =>
  cases ry;cases x with
  |non=>cases rx;exact SeqAt.EqAt.bool_none a
  |bl b=>cases rx;exact SeqAt.EqAt.bool_bool a b
  |int b=>obtain⟨t,rfl⟩:=rx;exact SeqAt.EqAt.bool_int a b t
  |str b=>obtain⟨t,rfl⟩:=rx;exact SeqAt.EqAt.bool_str a b t
  |_=>exact absurd (show false=true from fx) L0
 | int a =>
  obtain⟨t',rfl⟩:=ry;cases x with
  |non=>cases rx;exact SeqAt.EqAt.int_none a t'
  |bl b=>cases rx;exact SeqAt.EqAt.int_bool a t' b
  |int b=>obtain⟨t,rfl⟩:=rx;exact SeqAt.EqAt.int_int a t' b t
  |str b=>obtain⟨t,rfl⟩:=rx;exact SeqAt.EqAt.int_str a t' b t
  |_=>exact absurd (show false=true from fx) L0
 | str a =>
  obtain⟨t',rfl⟩:=ry;cases x with
  |non=>cases rx;exact SeqAt.EqAt.str_none a t'
  |bl b=>cases rx;exact SeqAt.EqAt.str_bool a t' b
  |int b=>obtain⟨t,rfl⟩:=rx;exact SeqAt.EqAt.str_int a t' b t
  |str b=>obtain⟨t,rfl⟩:=rx;exact SeqAt.EqAt.str_str a t' b t
  |_=>exact absurd (show false=true from fx) L0
 |_=>exact absurd (show false=true from fy) L0
theorem PY:OpR X (L7 .NotIn) (λx y H Q=>∃i j,x=.str i/\y=.str j/\Q (.bl (!(!(Bx j i 0 j.length 1).isEmpty))) H):=by
 intro jb s σ H x y v u Q I rx ry h;obtain⟨i,j,rfl,rfl,q⟩:=h;obtain⟨t,rfl⟩:=rx;obtain⟨t',rfl⟩:=ry;exact notIn_str ⟨.bl _,H,I,rfl,q⟩
theorem Hl:N1 X (.builtin "len") (λxs H Q=>∃p ys,xs=[.ref p]/\(SqL X.K H p ys\/SqT X.K H p ys)/\Q (.int ys.length) H):=by
 intro jb s σ H xs us Q I r h;obtain⟨p,ys,rfl,hq,q⟩:=h;obtain⟨u,rfl,rx⟩:=AE r;cases rx;have hn:=AD;rcases hq with hq|hq
 ·obtain⟨jf,r',pl,hz⟩:=I.list hq;have hlen:=r'.length;exact Calls.call_len_list pl.isList (by simp only[F7] <;> omega) ⟨.int ys.length,H,I.tok _,⟨s.toks+1,by rw[F7,hlen]⟩,q⟩
 ·obtain⟨jf,r',pl,hz⟩:=I.tuple hq;have hlen:=r'.length;exact len_tuple pl (by simp only[F7] <;> omega) ⟨.int ys.length,H,I.tok _,⟨s.toks+1,by rw[F7,hlen]⟩,q⟩
theorem PZ:N1 X (.builtin "len") (λxs H Q=>∃z,xs=[.str z]/\z.length<=B9/\Q (.int z.length) H):=by
 intro jb s σ H xs us Q I r h;obtain⟨z,rfl,hz,q⟩:=h;obtain⟨u,rfl,t,rfl⟩:=AE r;have hn:=AD;exact len_str (by omega) ⟨.int z.length,H,I.tok _,⟨_,rfl⟩,q⟩
theorem N1.or (h:N1 X f r)(h':N1 X f r'):N1 X f (λxs H Q=>r xs H Q\/r' xs H Q):=by
 intro jb s σ H xs us Q I rs q;rcases q with q|q
 ·exact h jb s σ H xs us Q I rs q
 ·exact h' jb s σ H xs us Q I rs q
theorem Ki:N1 X (.type "list") (λxs H Q=>∃p ys,xs=[.ref p]/\(SqL X.K H p ys\/SqT X.K H p ys)/\∀l,H l=none->Q (.ref l) (upd H l (.lst ys))):=by
 intro jb s σ H xs us Q I r h;obtain⟨p,ys,rfl,hq,q⟩:=h;obtain⟨u,rfl,rx⟩:=AE r;cases rx
 have fin:∀(jf:List A3),Vals ys jf->ys.length<=B9->∀(h':B6) (c':Nat),(∀b o',s.heap.get? b=some o'->h'.get? b=some o')->
     h'.get? s.heap.objs.size=some { cls:=.type "list",dict:=none,data:=.seq jf.toArray c',slots:=#[] }->EP X jb σ Q (.ref s.heap.objs.size) { s with heap:=h' }:=λjf r' hz h' c' kp e=>
   ⟨.ref s.heap.objs.size,_,I.laid (t':=s.toks) kp (B8 _) (show F9 X.prog X.w _ h' _ (.lst ys) from⟨hz,jf,c',r',e⟩),rfl,q _ (I.hok.fresh (B8 _))⟩
 rcases hq with hq|hq
 ·obtain⟨jf,r',pl,hz⟩:=I.list hq;have hlen:=r'.length;obtain⟨o,ho,hc,n,hd⟩:=pl.isList;exact call_list_seq p (.inl rfl) ho hc hd (λh' c' kp e=>fin jf r' hz h' c' kp e) (by simp only[F7] <;> omega)
 ·obtain⟨jf,r',pl,hz⟩:=I.tuple hq;have hlen:=r'.length;obtain⟨o,ho,hc,n,hd⟩:=pl;exact call_list_seq p (.inr rfl) ho hc hd (λh' c' kp e=>fin jf r' hz h' c' kp e) (by simp only[F7] <;> omega)
theorem P_:N1 X (.type "tuple") (λxs H Q=>∃p ys,xs=[.ref p]/\((SqL X.K H p ys/\∀l,H l=none->Q (.ref l) (upd H l (.tup ys)))\/(SqT X.K H p ys/\Q (.ref p) H))):=by
 intro jb s σ H xs us Q I r h;obtain⟨p,ys,rfl,h⟩:=h;obtain⟨u,rfl,rx⟩:=AE r;cases rx;rcases h with⟨hq,q⟩|⟨hq,q⟩
 ·obtain⟨jf,r',pl,hz⟩:=I.list hq;have hlen:=r'.length;refine call_tuple_list pl.isList (λh' kp=>?_) (by simp only[F7] <;> omega)
  have I1:Inv X jb σ H { s with heap:=h' }:=I.kept (t':=s.toks) kp
  have I2:Inv X jb σ (upd H h'.objs.size (.tup ys)) { s with heap:=h'.push { cls:=.type "tuple",data:=.seq jf.toArray } }:=
   I1.laid (t':=s.toks) (λb o e=>C0 _ e) (B8 _) (show F9 X.prog X.w _ _ _ (.tup ys) from⟨hz,jf,r',Z3.new _ _⟩)
  exact⟨.ref h'.objs.size,_,I2,rfl,q _ (I1.hok.fresh (B8 _))⟩
 ·obtain⟨jf,r',pl,hz⟩:=I.tuple hq;exact call_tuple_same pl ⟨.ref p,H,I,rfl,q⟩
def tyV (K:A9)(T:String)(x:V)(H:Hp):Prop:=match x with
 |.str _=>T="str"
 |.int _=>T="int"
 |.ref p=>(T="list"/\∃xs,SqL K H p xs)\/(T="tuple"/\((∃o,K.lookup p=some o/\o.cls=.type "tuple"/\o.dict=none)\/∃xs,H p=some (.tup xs)))\/
     (T="dict"/\((∃jg,H p=some (.dK jg))\/∃jg,H p=some (.dT jg)))\/(T="set"/\∃S n,H p=some (.set S n))
 |_=>False
theorem Kj (I:Inv X jb σ H s)(r:RelV x v)(ty:tyV X.K T x H) :
   s.TypeIs v T/\∀a,v=.ref a->∃ob,s.heap.get? a=some ob/\ob.dict=none:=by
 cases x with
 | str z =>
  obtain⟨t,rfl⟩:=r;cases(show T="str" from ty);exact⟨typeIs_str s z t,λ_ e=>nomatch e⟩
 | int i =>
  obtain⟨t,rfl⟩:=r;cases(show T="int" from ty);exact⟨typeIs_int s i t,λ_ e=>nomatch e⟩
 | ref p =>
  cases r;rcases ty with⟨rfl,xs,hq⟩|⟨rfl,hk⟩|⟨rfl,hk⟩|⟨rfl,S,n,hk⟩
  ·obtain⟨jf,_,pl,_⟩:=I.list hq;refine⟨pl.isList.typeIs,λa e=>?_⟩;cases e;obtain⟨o,n,e,c,hd,_⟩:=pl;exact⟨o,e,hd⟩
  ·rcases hk with⟨o,hk,hc,hd⟩|⟨xs,hk⟩
   ·refine⟨⟨o,I.kIn p o hk,hc⟩,λa e=>?_⟩;cases e;exact⟨o,I.kIn _ o hk,hd⟩
   ·obtain⟨_,_,_,o,e,c,_⟩:=(show F9 X.prog X.w H s.heap p (.tup xs) from I.hok p _ hk);refine⟨⟨o,e,(BE c).1⟩,λa e2=>?_⟩;cases e2;exact⟨o,e,(BE c).2⟩
  ·have z:∃o,s.heap.get? p=some o/\o.ExactDict:=by
    rcases hk with⟨jg,hk⟩|⟨jg,hk⟩
    ·obtain⟨_,_,_,_,o,_,_,e,ex,_⟩:=I.hok p _ hk;exact⟨o,e,ex⟩
    ·obtain⟨_,_,_,_,o,_,_,e,ex,_⟩:=I.hok p _ hk;exact⟨o,e,ex⟩
   obtain⟨o,e,ex⟩:=z;refine⟨⟨o,e,ex.1⟩,λa e2=>?_⟩;cases e2;exact⟨o,e,ex.2.1⟩
  ·obtain⟨o,_,_,_,e,ex,_⟩:=I.hok p _ hk;refine⟨⟨o,e,ex.1⟩,λa e2=>?_⟩;cases e2;exact⟨o,e,ex.2.1⟩
 |_=>exact i5 ty
def tBM0 (K:A9)(T:String)(r:V->List V->Hp->VK->Prop)(to:TE):TE:=λσ H Q=>to σ H λx H1=>tyV K T x H1/\r x [] H1 Q
def tBM (K:A9)(T:String)(r:V->List V->Hp->VK->Prop)(to:TE)(t:TA):TE:=λσ H Q=>to σ H λx H1=>tyV K T x H1/\t σ H1 λxs H2=>r x xs H2 Q
variable {o e:Expr}{es:List Expr}{to:TE}{t:TA}{name:Str}{apos cpos:Pos}{T id:String}{r:V->List V->Hp->VK->Prop}
theorem pe_bm0 (pa:PlainAttrs T)(slot:Slot T name id)(hty:typeOf (.builtin id)=pure (.type "method_descriptor"))(hm:MtR X id r)(ho:PE X o to)
   (hbase:w5 o name X.env (eval o X.env)=eval o X.env:=by rfl) (hline:(apos.endLine == cpos.line)=true:=by rfl):PE X (.Call (.Attribute o name apos) [] [] cpos) (tBM0 X.K T r to):=by
 intro jb s σ H Q I h;refine wpAny_Call_method0_late hbase hline (thn (ho jb s σ H _ I h) λv s1 ⟨x,H1,I1,r1,ty,q1⟩=>?_);obtain⟨h1,h2⟩:=Kj I1 r1 ty;exact⟨T,id,pa,slot,hty,h1,h2,Calls.callWith_builtin rfl (PySem.evalArgs_none (hm jb s1 σ H1 x [] v [] Q I1 r1 .nil q1))⟩
theorem Dg (pa:PlainAttrs T)(slot:Slot T name id)(hty:typeOf (.builtin id)=pure (.type "method_descriptor"))(hm:MtR X id r)(ho:PE X o to)(ha:PA X (e::es) t)
   (hbase:w5 o name X.env (eval o X.env)=eval o X.env:=by rfl)
   (hfew:((backTo cpos (E3 (e::es) X.env)).all (λx=>!x.1)&&(backToKw cpos (Ap [] X.env)).all (λx=>x.1.isSome)
     && decide ((e::es).length+([]:List V1).length+(if([]:List V1).isEmpty then 0 else 1)<30))=true:=by rfl)
   (hline:(apos.endLine == cpos.line)=true:=by rfl) (hs:E3 (e::es) X.env=(false,eval e X.env)::E3 es X.env:=by rfl) (hplain:(backTo cpos (E3 es X.env)).any (·.1)=false:=by rfl) :
   PE X (.Call (.Attribute o name apos) (e::es) [] cpos) (tBM X.K T r to t):=by
 intro jb s σ H Q I h;refine wpAny_Call_method_late hbase hfew hline rfl (thn (ho jb s σ H _ I h) λv s1 ⟨x,H1,I1,r1,ty,q1⟩=>?_);obtain⟨h1,h2⟩:=Kj I1 r1 ty;refine⟨T,id,pa,slot,hty,h1,h2,?_⟩;have hA:=ha cpos jb s1 σ H1 _ I1 q1;rw[hs] at hA ⊢;refine Calls.callWith_builtin (by show(false||(backTo cpos (E3 es X.env)).any (·.1))=false;rw[hplain] <;> rfl) (Calls.evalArgs_plain ?_)
 exact thn hA λus s2 ⟨vs,H2,I2,r2,q2⟩=>hm jb s2 σ H2 x vs v us Q I2 r1 r2 q2
end
def MtM (X:Cx)(id:String)(r:V->List V->Hp->VK->Prop):Prop:=
 ∀ (jb : List (A1 × Obj)) (s : A5) (σ : St) (H : Hp) (x : V) (xs : List V) (v : A3) (us : List A3) (Q : VK), Inv X jb σ H s -> RelV x v -> Vals xs us -> r x xs H Q ->
   A6 (A7 X.prog X.w) X.A (call (.builtin id) (v::us)) (EP X jb σ Q) X.xe s
theorem Vals.one (h:Vals [x] us):∃u,us=[u]/\RelV x u:=by
 cases h with|cons r h=>cases h;exact⟨_,rfl,r⟩
theorem Vals.two (h:Vals [x,y] us):∃u v,us=[u,v]/\RelV x u/\RelV y v:=by
 cases h with|cons r h=>cases h with|cons q h=>cases h;exact⟨_,_,rfl,r,q⟩
theorem Vals.zero:∀{us:List A3},Vals [] us->us=[]
 |_,.nil=>rfl
theorem Vals.dropLast (h:Vals xs us):Vals xs.dropLast us.dropLast:=by
 induction h with
 |nil=>exact .nil
 | cons r t ih =>
  cases t with
  |nil=>exact .nil
  |cons q t'=>exact .cons r ih
theorem Vals.eraseIdx:∀{xs:List V} {us:List A3} (i:Nat),Vals xs us->Vals (xs.eraseIdx i) (us.eraseIdx i)
 |_,_,_,.nil=>.nil
 |_,_,0,.cons _ t=>t
 |_,_,i+1,.cons r t=>.cons r (Vals.eraseIdx i t)
theorem Qa {α:Type}(l:List α):l.eraseIdx (l.length-1)=l.dropLast:=by simp
theorem len_erase {α:Type}:∀(l:List α) (i:Nat),(l.eraseIdx i).length<=l.length:=by grind
section
variable {X:Cx}{jb:List (A1×Obj)}{σ:St}{H:Hp}{s:A5}{l b:A1}{xs ys zs:List V}
theorem Inv.lset {jf its':List A3}(I:Inv X jb σ H s)(hH:H l=some (.lst xs))
   (e:s.heap.get? l=some { cls:=.type "list",data:=.seq jf.toArray n }) (hf:f jf.toArray=its'.toArray) (hv:Vals ys its') (hz:ys.length<=B9) :
   Inv X jb σ (upd H l (.lst ys)) { s with heap:=s.heap.update l (T0 f),toks:=t' }:=by
 have q:=PySem.IsL.update e f;rw[hf] at q;refine I.write (x:=l) (e:=l) (by rw[hH];exact trivial) (.inl rfl) (λb' u hb hu=>(Bf s.heap (T0 f) (Ne.symm hb)).trans hu) ⟨_,q⟩ ?_;exact⟨hz,its',_,hv,q⟩
theorem Inv.fresh (I:Inv X jb σ H s):H s.heap.objs.size=none:=I.hok.fresh (B8 _)
theorem Inv.lstM (I:Inv X jb σ H s)(hH:H l=some (.lst xs)):xs.length<=B9/\∃(jf:List A3) (n:Nat),Vals xs jf/\xs.length=jf.length/\s.heap.get? l=some { cls:=.type "list",data:=.seq jf.toArray n }:=by
 obtain⟨z,jf,n,r,e⟩:=I.hok l _ hH;exact⟨z,jf,n,r,r.length,e⟩
theorem Kk (h:n<=B9):CT n=false:=by
 unfold CT;exact jq (by omega)
end
section
variable {X:Cx}
def Kl:V->List V->Hp->VK->Prop:=λx vs H Q=>∃l xs y,x=.ref l/\vs=[y]/\H l=some (.lst xs)/\xs.length<B9/\Q .non (upd H l (.lst (xs++[y])))
theorem Km:MtM X "list.append" Kl:=by
 intro jb s σ H x vs v us Q I rx rv h;obtain⟨l,xs,y,rfl,rfl,hH,hz,q⟩:=h;cases rx;obtain⟨u,rfl,ru⟩:=rv.one;obtain⟨z,jf,n,r,hl,e⟩:=I.lstM hH;refine call_meets F.slot_list_append ⟨_,e,rfl⟩ F.entry_list_append (F.args_list_append_2 _ _) (PySem.list_append l jf.toArray n u (by rw[F7];omega)) ⟨e,?_⟩;refine⟨.non,_,I.lset (its':=jf++[u]) hH e (by simp) (r.append (.cons ru .nil)) ?_,rfl,q⟩;rw[E6,e7];omega
def rPop:V->List V->Hp->VK->Prop:=λx vs H Q=>∃l xs y,x=.ref l/\vs=[]/\H l=some (.lst xs)/\xs[xs.length-1]?=some y/\Q y (upd H l (.lst xs.dropLast))
theorem mt_pop:MtM X "list.pop" rPop:=by
 intro jb s σ H x vs v us Q I rx rv h;obtain⟨l,xs,y,rfl,rfl,hH,hy,q⟩:=h;cases rx;have hus:=rv.zero;subst hus;obtain⟨z,jf,n,r,hl,e⟩:=I.lstM hH;obtain⟨u,hu,ru⟩:=r.get hy
 have hy':jf.toArray[jf.toArray.size-1]?=some u:=by
  show jf.toArray[jf.length-1]?=some u;rw[<- V8,<- hl];exact hu
 refine call_meets F.slot_list_pop ⟨_,e,rfl⟩ F.entry_list_pop (F.args_list_pop_1 _) (MeetsSeq.list_pop_last l jf.toArray n u hy' (by rw[F7];omega)) ⟨e,?_⟩;refine⟨y,_,I.lset (its':=jf.dropLast) hH e ?_ r.dropLast ?_,ru,q⟩
 ·show jf.toArray.eraseIdxIfInBounds (jf.toArray.size-1)=jf.dropLast.toArray;rw[F7,List.eraseIdxIfInBounds_toArray,Qa]
 ·rw[List.length_dropLast];omega
def Ko:V->List V->Hp->VK->Prop:=λx vs H Q=>∃l xs i k y,x=.ref l/\vs=[.int i]/\H l=some (.lst xs)/\-(2 ^ 63)<=i/\i<2 ^ 63/\seqIndex? i xs.length=some k/\xs[k]?=some y/\Q y (upd H l (.lst (xs.eraseIdx k)))
theorem Qb:MtM X "list.pop" Ko:=by
 intro jb s σ H x vs v us Q I rx rv h;obtain⟨l,xs,i,k,y,rfl,rfl,hH,h1,h2,hk,hy,q⟩:=h;cases rx;obtain⟨u,rfl,ru⟩:=rv.one;obtain⟨t,rfl⟩:=ru;obtain⟨z,jf,n,r,hl,e⟩:=I.lstM hH;obtain⟨w,hw,rw'⟩:=r.get hy
 refine call_meets F.slot_list_pop ⟨_,e,rfl⟩ F.entry_list_pop (F.args_list_pop_2 _ _)
   (MeetsSeq.list_pop_at l jf.toArray n i t k w (fitsIndex_both h1 h2) (by grind) (by grind) (by grind)) ⟨e,?_⟩
 refine⟨y,_,I.lset (its':=jf.eraseIdx k) hH e ?_ (r.eraseIdx k) ?_,rw',q⟩
 ·grind
 grind
end
end L2
namespace Att
open PySem PySem.W PySem.Calls PyProof.Rows
theorem Qc:∀(ns:List Int) (vs:List A3),WellAll P h vs (ns.map WData.int)->IntsAre vs ns:=by
 intro ns
 induction ns with
 | nil =>
  intro vs w;rw[w9] at w;cases w;exact .nil
 | cons n ns ih =>
  intro vs w;rw[K7] at w;cases w with
  | cons a b =>
   cases a;exact .cons _ _ (ih _ b)
theorem Qd {l:OpenLaw}(hn:l.most=some n)
   (hpre:l.row.toRowW.claim.pre args=true) (hwl:WellAll P h vals args) :
   ∃a vs ns,vals=[K8 a]/\args=[WData.list (ns.map WData.int)]/\h.get? a=some { cls:=.type "list",data:=.seq vs.toArray }/\IntsAre vs ns/\ns.length<=n:=by
 have hsh:WShape.hasAll [] args [.list .int]=true:=(pre_splitW hpre).1;have hc:l.pre.holds [] { args:=args }=true:=(pre_splitW hpre).2;obtain⟨d,r,rfl,h1,h2⟩:=hasAllW_cons hsh;obtain rfl:=hasAllW_nil h2;obtain⟨xs,rfl,h3⟩:=hasW_list h1;obtain⟨ns,rfl⟩:=items_int h3
 have hlen:ns.length<=n:=by
  unfold OpenLaw.pre at hc
  have h4:(WTm.not (.lt (.lit (.int (n:Int))) (.len (.arg 0)))).holds [] { args:=[.list (ns.map .int)] }=true:=by
   have h4:=(holds_andW hc).1;rw[hn] at h4;exact h4
  have h5:=condW_of h4 (w_not (w_lt w_lit (w_len_list (w_arg rfl))));rw[B4] at h5;refine Av λq=>?_;have q':(n:Int)<((ns.length:Nat):Int):=by omega
  first
    |(rw[jp q'] at h5;exact absurd h5 (by decide))
    |(simp at h5;omega)
 cases hwl with
 | cons w1 w2 =>
  cases w2;cases w1 with
  |list ho hall=>exact⟨_,_,ns,rfl,rfl,ho,Qc ns _ hall,hlen⟩
theorem Qe (l:OpenLaw)(args:List WData):l.row.toRowW.claim.post args (.bool true) args=true:=
 postW_of (r:=l.row.toRowW) (X:=(true == true))
   (show WShape.has [] (.bool true) .bool=true by first|rfl|decide|simp[WShape.has,WShape.arms,WShape.armsAll])
   (show(WTm.eq .res (.lit (.bool true))).value [] { args:=args,res:=some (.bool true),after:=args }=some (.bool (true == true)) from w_eq_bool (w_res rfl) w_lit) rfl
theorem attach_call {l:OpenLaw}
   (hn:l.most=some n) (hdf:d.params.defaults=[])
   (call:∀(w:C4) (s₀ s₁:A5) (mg mb:Str->Option A3) (fa:A1) (o:Obj) (pm cd doc:A3) (a:A1) (vs:List A3) (ns:List Int),
    Ground q loose [] XP w s₀ mg mb s₁.heap->YP w s₁.heap->
    s₁.heap.get? fa=some o->o.data=.func (docDef d.name d.params d.body d.scope pm cd doc)->s₁.heap.CodeRec cd d.name->mg d.name=some (.ref fa)->
    s₁.heap.get? a=some { cls:=.type "list",data:=.seq vs.toArray }->IntsAre vs ns->ns.length<=n->s₁.gens=#[]->
    N7 (A7 l.prog w) callerA (.call (.ref fa) ⟨[.ref a],[]⟩) (λr s'=>r=.ok (.ret (.bool true))/\OldK s₁.heap s'.heap/\s'.os=s₁.os/\AllBare s'.gens) s₁) :
   WalkO q loose XP YP l.row.toRowW d [] (λf vs=>PySem.call f vs):=by
 intro w s₀ s₁ mg mb G Y fa o pm cd doc dV kV ho hd hcd hD hmg hg args vals as hpre hlay hrd hwl hlo;obtain rfl:dV=.none:=Dflts.none hD hdf;obtain rfl:kV=.none:=Dflts.noKw hD;obtain⟨a,vs,ns,rfl,rfl,hobj,hints,hlen⟩:=Qd hn hpre hwl;refine enter_call (Ao (call w s₀ s₁ mg mb fa o pm cd doc a vs ns G Y ho (fd_plain hd) hcd hmg hobj hints hlen hg) λr s' hq=>?_);obtain⟨rfl,h2,h3,h4⟩:=hq;exact⟨.inl ⟨.bool true,.bool true,[],rfl,λ_=>rfl,.bool true,Qe l _,λ_=>⟨GO,λ_ hm=>(nomatch hm)⟩⟩,h2,h3,h4⟩
end Att
namespace L2
open PySem PySem.Spec PyProof.Rows
theorem Qg (h:IntsAre vs ns):Vals (ns.map V.int) vs:=by
 induction h with
 |nil=>exact .nil
 |cons n t _ ih=>exact .cons ⟨t,rfl⟩ ih
def Only (H:Hp):Prop:=∀b,H b=none\/∃o xs,H b=some (.frz o (.lst xs))
theorem Qh {K:A9}
   (KX:K.In s₁.heap) (hns:s₁.heap.Ns Y2 mg) (hb:s₁.heap.Ns builtinsNs mb) (hbb:∀x:Str,x≠"__name__"->mb x=M7 x) (hlim:s₁.heap.NoLimit) (hg:s₁.gens=#[])
   (ha:s₁.heap.get? a=some { cls:=.type "list",data:=.seq vs.toArray }) (hi:IntsAre vs ns) (hl:ns.length<=B9) (hr:Room k callerA)
   (F:∀base:B6,K.In base->base.Ns Y2 mg->FnOk P w K mg base CX k fa fd [x] sp) (hbind:∀(s:A5) (u:A3),BindsTo s fd ⟨[u],[]⟩ [(x,u)])
   (hsp:∀H:Hp,Only H->SqL K H a (ns.map V.int)->sp [.ref a] H (λv _=>v=.bl true) λ_ _ _=>False)
   (hCX:∀H e s',CX [] H s₁ (λ_ _ _=>False) e s'->False) :
   N7 (A7 P w) callerA (.call (.ref fa) ⟨[.ref a],[]⟩) (λr s'=>r=.ok (.ret (.bool true))/\OldK s₁.heap s'.heap/\s'.os=s₁.os/\AllBare s'.gens) s₁:=by
 have rv:=Qg hi;have lenV:=hi.length
 -- from an abstract heap in which nothing but the script may be tracked
 have core:∀H:Hp,Only H->SqL K H a (ns.map V.int)->HOk P w H s₁.heap->(∀b,H b≠none->b=a)->(H a≠none->K.lookup a=none)->
     N7 (A7 P w) callerA (.call (.ref fa) ⟨[.ref a],[]⟩) (λr s'=>r=.ok (.ret (.bool true))/\OldK s₁.heap s'.heap/\s'.os=s₁.os/\AllBare s'.gens) s₁:=by
   intro H hO hS hok hA hK;have base_of:∀{b:A1} {o:Obj},s₁.heap.get? b=some o->H b=none->(hidT s₁.heap H).get? b=some o:=λe n=>OR e n
   have noA:∀{b:A1} {o:Obj} {es:Array DictEntry} {ep:Nat},s₁.heap.get? b=some o->o.data=.dict es ep->H b=none:=λ{b o es ep} e d=>by
    cases q:H b with
    |none=>rfl
    | some u =>
     have e':b=a:=hA b (by rw[q];simp);subst e';rw[ha] at e;cases e;have d':Data.seq vs.toArray _=Data.dict es ep:=d;cases d'
   have nsK:∀{b:A1} {m:Str->Option A3},s₁.heap.Ns b m->(hidT s₁.heap H).Ns b m:=λ{b m} ⟨o,es,ep,e,d,r⟩=>⟨o,es,ep,base_of e (noA e d),d,r⟩
   have hKb:K.In (hidT s₁.heap H):=λb o e=>base_of (KX b o e) (by
    cases q:H b with
    |none=>rfl
    | some u =>
     have e':b=a:=hA b (by rw[q];simp);subst e'
     rw[hK (by rw[q];simp)] at e;cases e)
   have hM:Mod K mg (hidT s₁.heap H):=⟨hKb,nsK hns,⟨mb,nsK hb,hbb⟩,let ⟨mc,h1,h2⟩:=hlim;⟨mc,nsK h1,h2⟩⟩;have e0:Env0 P w K mg (hidT s₁.heap H) callerA [] s₁ H:=⟨rfl,hM,λb o e=>OS e,Nat.le_of_eq (OQ _ _),trivial,λb hb=>absurd (show b∈([]:List A1) from hb) (by simp),hok,.of_eq hg,(hO P4).imp id λ⟨o,xs,e⟩=>⟨o,_,e⟩⟩;refine Ao ((F _ hKb (nsK hns)).run callerA [] s₁ H ⟨[.ref a],[]⟩ [.ref a] [.ref a] _ _ hr e0 (hbind s₁ (.ref a)) (.cons rfl .nil) (hsp H hO hS)) λr s' h=>?_;cases r with
   |error e=>exact(hCX H e s' h).elim
   | ok fl =>
    cases fl with
    |next=>exact i5 h
    |brk=>exact i5 h
    |cont=>exact i5 h
    | ret u =>
     obtain⟨v,H',os,bare,un,hok',r',q⟩:=h;have q':v=.bl true:=q;subst q';obtain rfl:u=Value.bool true:=r';refine⟨rfl,OldK.of_keep λb o e=>?_,os,bare⟩;cases q:H b with
     |none=>exact un.keep b o e q (by intro z;exact absurd (show b∈([]:List A1) from z) (by simp)) (by simp)
     | some u =>
      rcases hO b with z|⟨ob,xs,z⟩
      ·rw[q] at z;cases z
      ·have z2:=un.frzs b ob _ z;obtain⟨e1,_⟩:=hok b _ z;obtain⟨e2,_⟩:=hok' b _ z2;rw[e] at e1;cases e1;exact e2
 cases hk:K.lookup a with
 | some o =>
  -- the script is one of the module's own objects
  have e:=KX a o hk;rw[ha] at e;cases e;refine core (λ_=>none) (λ_=>.inl rfl) (.inr ⟨_,vs.toArray,_,hk,rfl,rfl,rfl,by rw[F7,lenV];exact hl,by simpa using rv⟩) (λb u z=>by have z':(none:Option HO)=some u:=z;cases z') (λb z=>absurd rfl z) λz=>absurd rfl z
 | none =>
  refine core (λb=>if b=a then some (.frz { cls:=.type "list",data:=.seq vs.toArray } (.lst (ns.map V.int))) else none) (λb=>?_) (.inl (.inr ⟨{ cls:=.type "list",data:=.seq vs.toArray },jr rfl⟩)) (λb u z=>?_) (λb z=>?_) λ_=>hk
  ·by_cases hb:b=a
   ·exact .inr ⟨_,_,jr hb⟩
   ·exact .inl (jt hb)
  ·by_cases hb:b=a
   ·have z':=(jr hb).symm.trans z;cases z';subst hb;exact⟨ha,by rw[B4];exact hl,vs,_,rv,ha⟩
   ·have z':=(jt hb).symm.trans z;cases z'
  ·by_cases hb:b=a
   ·exact hb
   ·exact absurd (jt hb) z
abbrev KOf {K:A9}{h:B6}(_:K.In h):A9:=K
theorem Qi {l:PySem.W.OpenLaw}{K:Params->A9}{CX:C4->CXT}{sp:C4->Sp}
   (hn:l.most=some n) (hn2:n<=B9) (hdf:d.params.defaults=[]) (hr:Room k callerA)
   (hY:∀(w:C4) (h:B6),YP w h->(K w.params).In h)
   (F:∀(w:C4) (mg:Str->Option A3) (fa:A1) (h:B6),(K w.params).In h->h.Ns Y2 mg->mg d.name=some (.ref fa)->
     ∃ fd : FuncData, (∀ (s : A5) (u : A3), BindsTo s fd ⟨[u], []⟩ [(x, u)]) /\
       ∀base:B6,(K w.params).In base->base.Ns Y2 mg->FnOk l.prog w (K w.params) mg base (CX w) k fa fd [x] (sp w))
   (hsp:∀(w:C4) (H:Hp) (a:A1) (ns:List Int),ns.length<=n->Only H->SqL (K w.params) H a (ns.map V.int)->sp w [.ref a] H (λv _=>v=.bl true) λ_ _ _=>False)
   (hCX:∀(w:C4) (H:Hp) (s:A5) (e:A3) (s':A5),CX w [] H s (λ_ _ _=>False) e s'->False) :
   PySem.W.WalkO q loose XP YP l.row.toRowW d [] (λf vs=>PySem.call f vs):=by
 refine Att.attach_call hn hdf λw s₀ s₁ mg mb fa o pm cd doc a vs ns G Y ho hd hcd hmg hobj hints hlen hg=>?_;have KX:=hY w _ Y;obtain⟨fd,hb,hF⟩:=F w mg fa _ KX G.T.g hmg;exact Qh KX G.T.g G.T.b G.T.builtins G.T.nolimit hg hobj hints (M2 hlen hn2) hr hF hb (λH hO hS=>hsp w H a ns hlen hO hS) λH e s'=>hCX w H s₁ e s'
def i7 (s:Stmt):Arguments:=match s with
 |.FunctionDef _ a _ _ _ _ _ _ _ _=>a
 |_=>{ posonlyargs:=[],args:=[],vararg:=none,kwonlyargs:=[],kw_defaults:=[],kwarg:=none,defaults:=[] }
def T6 (s:Stmt):List Stmt:=match s with
 |.FunctionDef _ _ b _ _ _ _ _ _ _=>b
 |_=>[]
def J4 (s:Stmt):K9:=match s with
 |.FunctionDef _ _ _ _ _ _ sc _ _ _=>sc
 |_=>{ kind:=.function,names:=[],isGenerator:=false,isCoroutine:=false }
abbrev CX0:CXT:=λ_ _ _ _ _ _=>False
abbrev E0:XK:=λ_ _ _=>False
theorem pass0:Hc CX0 X E0:=λ_ _ _ _ _ _ _ h=>h.elim
structure Fun (K:A9)(x qual:Str)(st:Stmt)(f:A1)(fd:FuncData):Prop where
 ex:∃(oc:A3) (od:Option A1) (kV doc pm:A3) (an:Option A1) (jn ct:A3) (osl:Array (Option A3)),
  fd=X1 x qual (i7 st) (T6 st) (J4 st) .none kV doc pm an jn ct/\K.lookup f=some ⟨oc,od,.func fd,osl⟩/\Ee K jn qual=true
 kp:Cu K (.ref f)=true
section
variable {P:C8}{w:C4}{K:A9}{mg:Str->Option A3}{base:B6}
theorem Fun.ok {st:Stmt}(F:Fun K x qual st f fd)(S:Z5 N ps (J4 st))(len:∀vs H Q E,sp vs H Q E->vs.length=ps.length)
   (hbody:∀(jn:A3) (A:D5) (outer:List Env) (s:A5) (H:Hp) (vs:List V) (Q:VK) (E:XK),Room k (A.deeper (envOfC qual (J4 st) s.heap.objs.size f jn))->sp vs H Q E->
     ∃t,PSs (cxOf CX0 P w K mg base N qual (J4 st) f jn A outer s H E).nox (T6 st) t/\t { nx:=λ_ H'=>Q .non H',rt:=Q } (start N vs) H):FnOk P w K mg base CX0 (k+1) f fd ps sp:=by
 obtain⟨oc,od,kV,doc,pm,an,jn,ct,osl,rfl,lk,hcd⟩:=F.ex;refine fn_of lk hcd S len λA outer s H vs Q E hr hsp=>?_;obtain⟨t,h,q⟩:=hbody jn A outer s H vs Q E hr hsp;exact⟨t,h.nox,q⟩
theorem Fun.binds {st:Stmt}{f:A1}{fd:FuncData}{ps:List Str}(F:Fun K x qual st f fd)
   (h:∀(kV doc pm:A3) (an:Option A1) (jn ct:A3) (us:List A3),us.length=ps.length->bindArgs (X1 x qual (i7 st) (T6 st) (J4 st) .none kV doc pm an jn ct) ⟨us,[]⟩=pure (ps.zip us)):BJ K fd ps []:=by
 obtain⟨oc,od,kV,doc,pm,an,jn,ct,osl,rfl,lk,hcd⟩:=F.ex;exact .all (h kV doc pm an jn ct)
theorem fun_mk {x qual:Str}{st:Stmt}{f:A1}{oc:A3}{od an:Option A1}{osl:Array (Option A3)}{kV doc pm jn ct:A3}(l:K.lookup f=some ⟨oc,od,.func (X1 x qual (i7 st) (T6 st) (J4 st) .none kV doc pm an jn ct),osl⟩)
   (c:Ee K jn qual=true) (k:Cu K (.ref f)=true):Fun K x qual st f (X1 x qual (i7 st) (T6 st) (J4 st) .none kV doc pm an jn ct):=⟨⟨oc,od,kV,doc,pm,an,jn,ct,osl,rfl,l,c⟩,k⟩
end
theorem hu_of {A:D5}{k:Nat}(hr:Room k A):A.units+1<cLine:=Bm (Nat.add_le_add_left (by decide:1<=64) _) hr.units
section
variable {X:Cx}
theorem pv (i:Nat){x:Str}{pos:Pos}(hN:X.N[i]?=some x:=by rfl)(hv:Vis X.env.scope x:=by first|exact Or.inl rfl|exact Or.inr (Or.inl rfl)|exact Or.inr (Or.inr rfl))(hd:(x == ("__debug__":Str))=false:=by decide)
   (hcd:(x == ("__classdict__":Str))=false:=by decide):PE X (.Name x pos) (tVar i):=JQ hN hv hd hcd
end
theorem iteF {A B:Prop}(h:B):if false=true then A else B:=by grind
theorem iteT {A B:Prop}(h:A):if true=true then A else B:=by grind
theorem ite2 {c A B:Prop}[Decidable c](h1:c->A)(h2:¬c->B):if c then A else B:=by grind
def Same (H H':Hp):Prop:=∀b o,H b=some o->H' b=some o
theorem Same.refl (H:Hp):Same H H:=λ_ _ h=>h
theorem Same.trans {H H1 H2:Hp}(a:Same H H1)(b:Same H1 H2):Same H H2:=λc o h=>b c o (a c o h)
end L2
end
section
namespace L2
open PySem PySem.Spec PyProof.Rows
theorem Kp {prog:C8}{w:C4}{A:D5}{R:Result->A5->Prop}{s:A5}{ji target iter:Expr}{jk:List Expr}{scope:K9}{pos:Pos}{it jl:A3}{env:Env}(I:Nat->A5->Prop)
   (turn:∀n s,I n s->A6 (A7 prog w) A (pyNext it) (fun r s₁=>match r with
    |none=>R (.ok .next) s₁
    |some v=>A6 (A7 prog w) A (v4 target it v) (λ_ s₁'=>A6 (A7 prog w) A (assign target env v) (λ_ s₂=>
        A6 (A7 prog w) A (forIn jk true fun c r=>if r=true then do let ok ← isTrue c env (eval c env);pure (x9 ok) else pure (x9 r)) (fun ok s₃=>
         if ok=true then A6 (A7 prog w) A (eval ji env) (λx s₄=>
          A6 (A7 prog w) A (call (.builtin "list.append") [jl,x]) (λ_ s₅=>∃m,m<n/\I m s₅) (λ_ _=>False) s₄) (λ_ _=>False) s₃
         else ∃m,m<n/\I m s₃) (λ_ _=>False) s₂) (λ_ _=>False) s₁') (λ_ _=>False) s₁) (λ_ _=>False) s)
   (n:Nat) (h:I n s) :
   N7 (A7 prog w) A (.compLoop (.ListComp ji [⟨target,iter,jk,0⟩] scope pos) 0 it jl env) R s:=by
 refine codeAny_loop rfl I (λn s hI=>?_) n h;show A6 _ A ((compTurn (.ListComp ji [⟨target,iter,jk,0⟩] scope pos) 0 it jl env).onRaise (λx=>do noteFrame x env;theTreesLotGoes x)) _ _ s;refine wpAny_noted ?_;rw[compTurn_list];refine A0 (c0 (A0 (J1 (turn n s hI) (λr s₁ h₁=>?_) λ_ _ h'=>h'.elim)));cases r with
 |none=>exact A8 h₁
 | some v =>
  refine A0 (J1 h₁ (λ_ s₁' h₁'=>?_) λ_ _ h'=>h'.elim);refine A0 (J1 h₁' (λ_ s₂ h₂=>A0 (J1 h₂ (λok s₃ h₃=>?_) λ_ _ h'=>h'.elim)) λ_ _ h'=>h'.elim);cases ok with
  |false=>exact A8 ⟨rfl,h₃⟩
  | true =>
   exact A0 (A0 (J1 h₃ (λx s₄ h₄=>A0 (J1 h₄ (λ_ s₅ h₅=>A8 (A8 ⟨rfl,h₅⟩)) λ_ _ h'=>h'.elim)) λ_ _ h'=>h'.elim))
def G0 (X:Cx)(scope:K9)(cl:List (Str×A1))(N:List Str)(fp:List A1)(C:A1)(s:A5)(H:Hp):Cx where
 prog:=X.prog
 w:=X.w
 K:=X.K
 mg:=X.mg
 base:=X.base
 A:=X.A
 N:=N
 s₀:=s
 H₀:=H
 env:=compEnvC scope cl C X.env
 outer:=X.stack
 stack:=X.stack
 ex:=fp
 fn:=λ_=>false
 calm:=X.calm
 pn:=X.pn
 xe:=λ_ _=>False
structure o8 (X:Cx)(scope:K9)(cl:List (Str×A1))(N:List Str)(cs:List (Option Nat)):Prop where
 clos:closureFor scope X.env=pure cl
 kind:scope.kind=.function
 nocell:∀y∈scope.names,y.2≠.cell
 names:∀y∈scope.names,y.2=.local->scope.names.lookup y.1=some .local
 sub:∀x c,cl.lookup x=some c->X.env.cells.lookup x=some c
 has:∀x,((relabel scope X.env).names.lookup x=some .cell\/(relabel scope X.env).names.lookup x=some .free)->∃c,cl.lookup x=some c
 len:cs.length=N.length
 cap:∀(k j:Nat) (x:Str),cs[k]?=some (some j)->N[k]?=some x->X.N[j]?=some x/\Vis X.env.scope x/\X.env.kindOf x≠some .local/\(∃c,cl.lookup x=some c)/\((relabel scope X.env).names.lookup x=some .cell\/(relabel scope X.env).names.lookup x=some .free)
def Dh:List (Str×A1)->List (Str×A1)->Prop
 |[],_=>True
 |y::r,cells=>cells.lookup y.1=some y.2/\Dh r cells
theorem Dh.get:∀{cl cells:List (Str×A1)},Dh cl cells->∀x c,cl.lookup x=some c->cells.lookup x=some c:=by intro a;induction a <;> intros <;> grind [Dh]
theorem O9 {X:Cx}{scope:K9}{cl:List (Str×A1)}{N:List Str}{cs:List (Option Nat)}(clos:closureFor scope X.env=pure cl)(kind:scope.kind=.function)(nocell:(scope.names.all λy=>!(y.2 == .cell))=true)
   (names:(scope.names.all λy=>!(y.2 == .local)||scope.names.lookup y.1 == some .local)=true) (sub:Dh cl X.env.cells)
   (has:((relabel scope X.env).names.all λy=>!(y.2 == .cell||y.2 == .free)||(cl.lookup y.1).isSome)=true) (len:cs.length=N.length)
   (cap:((cs.zip N).all λy=>match y.1 with|none=>true|some j=>X.N[j]? == some y.2&&(X.env.scope.names.lookup y.2 == some .cell||X.env.scope.names.lookup y.2 == some .free)&&(cl.lookup y.2).isSome &&
     ((relabel scope X.env).names.lookup y.2 == some .cell||(relabel scope X.env).names.lookup y.2 == some .free))=true):o8 X scope cl N cs:=by
 refine⟨clos,kind,λy hy=>?_,λy hy e=>?_,sub.get,λx hx=>?_,len,λk j x hk hN=>?_⟩
 ·have:=R4.mp nocell y hy;intro z;rw[z] at this;cases this
 ·have:=R4.mp names y hy;rw[e] at this
  simpa using this
 ·rcases hx with hx|hx
  ·have:=R4.mp has _ (Aj hx);exact ED.mp (by simpa using this)
  ·have:=R4.mp has _ (Aj hx);exact ED.mp (by simpa using this)
 ·have hz:(cs.zip N)[k]?=some (some j,x):=by rw[List.getElem?_zip_eq_some];exact⟨hk,hN⟩
  have:=R4.mp cap _ (J5 hz);simp only[h9,Bool.or_eq_true,beq_iff_eq] at this;obtain⟨⟨⟨h1,h2⟩,h3⟩,h4⟩:=this;refine⟨h1,?_,?_,ED.mp h3,h4⟩
  ·rcases h2 with h2|h2
   ·exact .inr (.inl h2)
   ·exact .inr (.inr h2)
  ·intro z;have z':X.env.scope.names.lookup x=some .local:=z;rw[z'] at h2;rcases h2 with h2|h2 <;> cases h2
def o9 (cs:List (Option Nat))(σ:St):St:=cs.map λo=>o.bind λj=>(σ[j]?).bind id
def PIf (X:Cx)(jk:List Expr)(t:TT):Prop:=
 ∀ (jb : List (A1 × Obj)) (s : A5) (σ : St) (H : Hp) (Q : Bool -> Hp -> Prop), Inv X jb σ H s -> t σ H Q ->
   A6 (A7 X.prog X.w) X.A (forIn jk true λc r=>if r=true then do let ok ← isTrue c X.env (eval c X.env);pure (x9 ok) else pure (x9 r)) (TP X jb σ Q) X.xe s
def tTru:TT:=λ_ H Q=>Q true H
theorem Qj {X:Cx}:PIf X [] tTru:=λjb s σ H Q I h=>wpAny_tests_nil ⟨H,I,h⟩
theorem Qk {X:Cx}{c:Expr}{t:TT}(h:PT X c t):PIf X [c] t:=λjb s σ H Q I hq=>wpAny_tests_one (h jb s σ H Q I hq)
def CompW (J:It)(g:TG)(tt:TT)(te:TE)(Q:VK)(D:A1)(σc:St)(H1:Hp):Prop:=∃W:Nat->Nat->St->Hp->Prop,(∃m,W 0 m σc H1)/\
 ∀i m σ' H',W i m σ' H'->(J.stop i H'/\Q (.ref D) H')\/(J.go i H'/\∀x H2,J.yld i H' x H2->g x σ' H2 fun σ3 H3=>tt σ3 H3 fun b H4=>
    if b=true then te σ3 H4 λv H5=>∃ys,H5 D=some (.lst ys)/\ys.length<B9/\∃m',m'<m/\W (i+1) m' σ3 (upd H5 D (.lst (ys++[v])))
    else ∃m',m'<m/\W (i+1) m' σ3 H4)
def tComp (cs:List (Option Nat))(wi:TI)(g:TG)(tt:TT)(te:TE):TE:=λσ H Q=>wi σ H λJ H1=>∀D,H1 D=none->CompW J g tt te Q D (o9 cs σ) (upd H1 D (.lst []))
theorem Ql {X:Cx}{scope:K9}{cl:List (Str×A1)}{N:List Str}{cs:List (Option Nat)}(S:o8 X scope cl N cs){jb:List (A1×Obj)}{σ:St}{H:Hp}{s:A5}{fp:List A1}{h₁:B6}{tk:Nat}
   (I:Inv X jb σ H s) (f2:∀b∈fp,FpOk X jb H b) (ho:∀b∈fp,∃o,s.heap.get? b=some o)
   (old:∀b o,s.heap.get? b=some o->h₁.get? b=some o) (hns:h₁.Ns (s.heap.objs.size+1) (λx=>([]:List (Str×A3)).reverse.lookup x))
   (hD:h₁.get? s.heap.objs.size=some { cls:=.type "list",data:=.seq ([]:List A3).toArray }) :
   Inv (G0 X scope cl N fp (s.heap.objs.size+1) s H) jb (o9 cs σ) (upd H s.heap.objs.size (.lst [])) { s with heap:=h₁,toks:=tk }:=by
 have lt:∀b o,s.heap.get? b=some o->b<s.heap.objs.size:=λb o e=>D1 e;have neC:∀b o,s.heap.get? b=some o->b≠s.heap.objs.size+1:=λb o e=>F4 (Bn (lt b o e));have neD:∀b o,s.heap.get? b=some o->b≠s.heap.objs.size:=λb o e=>F4 (lt b o e);have nstk:∀b,b≠X.env.locals->b∉X.fs->b∉frs X.stack:=λb h1 h2 hb=>(C5.mp (I.stkSub b hb)).elim h1 h2
 have cellO:∀x c,cl.lookup x=some c->∃v o,s.heap.get? c=some o/\s.heap.IsCell c v:=λx c e=>by
  obtain⟨v,q⟩:=I.cell x c (S.sub x c e);obtain⟨o,h1,_⟩:=id q;exact⟨v,o,h1,q⟩
 refine⟨⟨I.ok.mod,S.kind,I.ok.glob,I.ok.blt,Br _,λx y c h1 h2=>I.ok.inj x y c (S.sub x c h1) (S.sub y c h2),λx hx=>S.has x hx,λx c hx=>(by cases hx),I.ok.hd,I.ok.frames,.inl rfl,λb hb=>?_,I.bs,M2 I.ok.bsz I.sz,λb o e hb=>?_,λb hb=>?_,I.stack,I.stkFree,I.nos⟩,
  rfl,I.bare,Un.laid old (B8 _) I.fresh I.bigS,⟨_,hns,λi x v e1 e2 e3=>?_⟩,λx c e=>?_,?_,λx c e=>?_,λp hp=>?_,I.hok.laid old (B8 _) ⟨K3 _,[],0,.nil,hD⟩,?_⟩
 ·obtain⟨o,e⟩:=ho b hb;exact⟨neC b o e,λx c ec=>(f2 b hb).2.2.2.2.1 x c (S.sub x c ec)⟩
 ·rcases(f2 b hb).2.2.2.1 with z|z
  ·exact I.ok.noex b o e z
  ·exact absurd (O0 (D1 e) (M2 I.ok.bsz z)) (Y8 _)
 ·exact nstk b (f2 b hb).2.1 (f2 b hb).2.2.1
 ·have e2':(cs.map λo=>o.bind λj=>(σ[j]?).bind id)[i]?=some (some v):=e2;rw[E7] at e2';cases ec:cs[i]? with
  |none=>rw[ec] at e2';cases e2'
  | some o =>
   rw[ec] at e2';cases o with
   |none=>cases e2'
   | some j =>
    have e2'':(σ[j]?).bind id=some v:=by simpa using e2'
    cases es:σ[j]? with
    |none=>rw[es] at e2'';cases e2''
    | some ov =>
     rw[es] at e2'';have e4:ov=some v:=by simpa using e2''
     subst e4;obtain⟨hN,hv,hnl,⟨c,hc⟩,hk⟩:=S.cap i j x ec e1;obtain⟨m,hn,hl⟩:=I.loc;obtain⟨u,r,l⟩:=hl j x v hN es hv;refine⟨u,r,?_⟩;rcases l with⟨hk',_⟩|⟨_,c',hc',z⟩
     ·grind
     ·have ecc:c'=c:=by
       have:=S.sub x c hc;rw[hc'] at this;exact M9 this
      subst ecc;obtain⟨o,h1,h2⟩:=z;exact .inr ⟨hk,c',hc,⟨o,old _ o h1,h2⟩⟩
 ·obtain⟨v,o,h1,o',h2,h3⟩:=cellO x c e;exact⟨v,o',old _ o' h2,h3⟩
 ·show upd H s.heap.objs.size (.lst []) (s.heap.objs.size+1)=none;rw[D4 (Nat.succ_ne_self _)];exact I.hok.fresh (Br _)
 ·obtain⟨v,o,h1,_⟩:=cellO x c e;rw[D4 (neD c o h1)];exact I.freeC x c (S.sub x c e)
 ·obtain⟨e,n,ne,nf,d⟩:=I.pin p hp;exact⟨old _ _ e,by rw[D4 (neD _ _ e)];exact n,neC _ _ e,nstk _ ne nf,d⟩
 ·show(cs.map _).length=N.length;rw[B4];exact S.len
theorem Inv.uncomp
   (I:Inv X jb σ H s) (f2:∀b∈fp,FpOk X jb H b)
   (J:Inv (G0 X scope cl N fp (s.heap.objs.size+1) s H) jb σ' H' s') (hs:∀b,b≠s.heap.objs.size+1->h'.get? b=s'.heap.get? b) :
   Inv X jb σ H' { s' with heap:=h' }:=by
 obtain⟨hh,g,d,t,os'⟩:=s';obtain rfl:os'=s.os:=J.os;have U:Un (frs X.stack) fp H H' s.heap hh:=J.base;have old:∀b o,s.heap.get? b=some o->b≠s.heap.objs.size+1:=λb o e=>F4 (Bn (D1 e));have hs':∀b,b≠s.heap.objs.size+1->h'.get? b=hh.get? b:=hs
 have trC:∀b u,H' b=some u->b≠s.heap.objs.size+1:=λb u e z=>by
  have q:H' (s.heap.objs.size+1)=none:=J.free;rw[z,q] at e;cases e
 show Inv X jb σ H' { s with heap:=h',gens:=g,drawn:=d,toks:=t };refine I.call (h':=h') (g':=g) (d':=d) (t':=t) (ch:=fp) ⟨λb o e n hb hx=>?_,λb o e n hb hx=>?_,U.free,λb o e hx=>?_,U.tups,U.frzs,U.tbls,U.sys⟩ (λb u e=>?_) J.bare λb hb=>?_
 ·rw[hs' b (old b o e)];exact U.keep b o e n hb hx
 ·rw[hs' b (old b o e)];exact U.slot b o e n hb hx
 ·rw[hs' b (old b o e)];exact U.there b o e hx
 ·refine(J.hok b u e).stay (λc v hc q=>?_) (λ_ q=>q) λ_ _ q=>q
  have ne:c≠s.heap.objs.size+1:=by
   rcases hc with z|z
   ·rw[z];exact trC b u e
   ·exact trC c _ z
  rw[hs' c ne];exact q
 ·exact⟨(f2 b hb).2.2.2.1,(f2 b hb).2.1,(f2 b hb).2.2.2.2.1,(f2 b hb).2.2.2.2.2⟩
theorem Hm {K:A9}{W:Nat->Nat->St->Hp->Prop}{s5 s7:A5}(T:Turn P w K tg J fp it tn)(st5:tn (i+1) s5.heap)(I7:Inv Y (jb++BH fp s5.heap) σ7 H7 s7)(n7:∃m',m'<n/\W (i+1) m' σ7 H7):∃m,m<n/\∃i σ' H',Inv Y jb σ' H' s7/\tn i s7.heap/\(∀b∈fp,H' b=none)/\W i m σ' H':=by
 obtain⟨m',hm,w7⟩:=n7;have pn:∀b∈fp,∀o,s5.heap.get? b=some o->_:=λb hb o e=>I7.pin (b,o) (Y6 _ (Y6 _ (GX hb e)));refine⟨m',hm,i+1,σ7,H7,I7.unpinned,T.keep _ _ _ st5 λb hb o e=>(pn b hb o e).1,λb hb=>?_,w7⟩;obtain⟨o,e,d⟩:=T.obj _ _ st5 b hb;exact(pn b hb o e).2.1
theorem Hn {Y:Cx}{jb:List (A1×Obj)}{tg ji:Expr}{jk:List Expr}{g:TG}{tt:TT}{te:TE}{J:It}{fp:List A1}{it D:A1}{tn:Nat->B6->Prop}{W:Nat->Nat->St->Hp->Prop}{N:St->Hp->Prop}{Rn:A5->Prop}(T:Turn Y.prog Y.w Y.K tg J fp it tn)(hc:Y.calm=true)(stat:∀{H':Hp},(∀b∈fp,H' b=none)->∀b∈fp,FpOk Y jb H' b)(hg:PG Y tg g)(hf:PIf Y jk tt)(he:PE Y ji te)(fin:∀s σ H,Inv Y jb σ H s->N σ H->Rn s)
   (turn:∀i m σ' H',W i m σ' H'->(J.stop i H'/\N σ' H')\/(J.go i H'/\∀x H2,J.yld i H' x H2->g x σ' H2 λσ3 H3=>tt σ3 H3 λb H4=>
    if b=true then te σ3 H4 λv H5=>∃ys,H5 D=some (.lst ys)/\ys.length<B9/\∃m',m'<m/\W (i+1) m' σ3 (upd H5 D (.lst (ys++[v])))
    else ∃m',m'<m/\W (i+1) m' σ3 H4)) (n:Nat) (s:A5) (hI:∃i σ' H',Inv Y jb σ' H' s/\tn i s.heap/\(∀b∈fp,H' b=none)/\W i n σ' H') :
   A6 (A7 Y.prog Y.w) Y.A (pyNext (.ref it)) (λr s₁=>match r with
    |none=>Rn s₁
    |some v=>A6 (A7 Y.prog Y.w) Y.A (v4 tg (.ref it) v) (λ_ s₁'=>A6 (A7 Y.prog Y.w) Y.A (assign tg Y.env v) (λ_ s₂=>
        A6 (A7 Y.prog Y.w) Y.A (forIn jk true fun c r=>if r=true then do let ok ← isTrue c Y.env (eval c Y.env);pure (x9 ok) else pure (x9 r)) (fun ok s₃=>
         if ok=true then A6 (A7 Y.prog Y.w) Y.A (eval ji Y.env) (λx s₄=>
          A6 (A7 Y.prog Y.w) Y.A (call (.builtin "list.append") [.ref D,x]) (λ_ s₅=>∃m,m<n/\∃i σ' H',Inv Y jb σ' H' s₅/\tn i s₅.heap/\(∀b∈fp,H' b=none)/\W i m σ' H') Y.xe s₄) Y.xe s₃
         else ∃m,m<n/\∃i σ' H',Inv Y jb σ' H' s₃/\tn i s₃.heap/\(∀b∈fp,H' b=none)/\W i m σ' H') Y.xe s₂) Y.xe s₁') Y.xe s₁) Y.xe s:=by
 obtain⟨i,σ3,H3,I3,st3,fr3,w3⟩:=hI;rcases turn i n σ3 H3 w3 with⟨stop,qn⟩|⟨go,step⟩
 ·refine thn (T.done Y rfl rfl rfl hc i jb s σ3 H3 Y.xe I3 (stat fr3) st3 stop) λr s4 ⟨hr,I4⟩=>?_;subst hr;exact fin s4 σ3 H3 I4 qn
 ·refine thn (T.item Y rfl rfl rfl hc i jb s σ3 H3 Y.xe I3 (stat fr3) st3 go) λr s4 ⟨u,hr,h4⟩=>?_;subst hr;refine thn h4 λ_ s5 ⟨x,H5,I5,r5,y5,st5,fr5⟩=>?_;refine thn (hg _ s5 σ3 H5 x u _ (I5.pinned (stat fr5) (T.obj _ _ st5)) r5 (step x H5 y5)) λ_ s6 ⟨σ6,H6,I6,q6⟩=>?_;refine thn (hf _ s6 σ6 H6 _ I6 q6) λok s7 ⟨H7,I7,q7⟩=>?_;cases ok with
  |false=>exact Hm T st5 I7 q7
  | true =>
   refine thn (he _ s7 σ6 H7 _ I7 q7) λy s8 ⟨v8,H8,I8,r8,ys,e8,z8,n8⟩=>?_;have ma:=Km (X:=Y) _ s8 σ6 H8 (.ref D) [v8] (.ref D) [y] (λv H9=>∃m',m'<n/\W (i+1) m' σ6 H9) I8 rfl (.cons r8 .nil) ⟨_,ys,v8,rfl,rfl,e8,z8,n8⟩;exact thn ma λ_ s9 ⟨v9,H9,I9,_,q9⟩=>Hm T st5 I9 q9
theorem Ho {X:Cx}{scope:K9}{cl:List (Str×A1)}{N:List Str}{cs:List (Option Nat)}{ji tg iter:Expr}{jk:List Expr}{gs:List Comprehension}{pos p0:Pos}{wi:TI}{use:Option (A3->Sem Unit)}{Qf:A3->A5->Prop}{QQ:It->A1->St->Hp->Prop}(S:o8 X scope cl N cs)(hc:X.calm=true)(hi:PI X tg iter wi)
   (hs:∀x,T8 iter X.env x=pure x) {jb:List (A1×Obj)} {s:A5} {σ:St} {H:Hp} (I:Inv X jb σ H s) (h:wi σ H λJ H1=>∀D,H1 D=none->QQ J D (o9 cs σ) (upd H1 D (.lst [])))
   (loop:∀(fp:List A1) (it:A1) (tn:Nat->B6->Prop) (J:It) (s2:A5) (H2:Hp) (s₃:A5),Turn X.prog X.w X.K tg J fp it tn->(∀{H':Hp},(∀b∈fp,H' b=none)->∀b∈fp,FpOk (G0 X scope cl N fp (s2.heap.objs.size+1) s2 H2) jb H' b)->Inv X jb σ H2 s2->(∀b∈fp,FpOk X jb H2 b)->QQ J s2.heap.objs.size (o9 cs σ) (upd H2 s2.heap.objs.size (.lst []))->
     Inv (G0 X scope cl N fp (s2.heap.objs.size+1) s2 H2) jb (o9 cs σ) (upd H2 s2.heap.objs.size (.lst [])) s₃->tn 0 s₃.heap->(∀b∈fp,upd H2 s2.heap.objs.size (.lst []) b=none)->
     N7 (A7 X.prog X.w) X.A (.compLoop (.ListComp ji (⟨tg,iter,jk,0⟩::gs) scope pos) 0 (.ref it) (.ref s2.heap.objs.size) (compEnvC scope cl (s2.heap.objs.size+1) X.env)) (compPost (A7 X.prog X.w) X.A X.xe use Qf (.ref s2.heap.objs.size) (s2.heap.objs.size+1)) s₃) :
   A6 (A7 X.prog X.w) X.A (comprehension (.ListComp ji (⟨tg,iter,jk,0⟩::gs) scope pos) scope X.env p0 (newList []) false (eval iter X.env) use) Qf X.xe s:=by
 refine wpAny_comprehension_free rfl hs S.clos S.kind S.names (thn (hi jb s σ H _ I h) λv s1 h1=>thn h1 λitv s2 h2=>?_);obtain⟨it,fp,tn,J,H2,rfl,I2,T,st2,f2,q⟩:=h2
 have ho:∀b∈fp,∃o,s2.heap.get? b=some o:=λb hb=>by
  obtain⟨o,e,_⟩:=T.obj 0 _ st2 b hb;exact⟨o,e⟩
 refine P2 (wpAny_newFunctionEnv S.nocell (by intro y hy;simp at hy) (λh₁ hns₁ hsb₁=>?_) S.kind);dsimp only at hns₁ hsb₁ ⊢;have hC:(s2.heap.push { cls:=.type "list",dict:=none,data:=.seq ([]:List A3).toArray }).objs.size=s2.heap.objs.size+1:=by rw[d7]
 generalize hH2:s2.heap.push { cls:=.type "list",dict:=none,data:=.seq ([]:List A3).toArray }=hp2 at hns₁ hsb₁ hC ⊢;have lt:∀{b o},s2.heap.get? b=some o->b<s2.heap.objs.size+1:=λe=>Bn (D1 e);have old:∀b o,s2.heap.get? b=some o->h₁.get? b=some o:=λb o e=>hsb₁.extBut b o (by rw[hC];exact F4 (lt e)) (C0 _ (hH2▸C0 _ e));have hD:h₁.get? s2.heap.objs.size=some { cls:=.type "list",data:=.seq ([]:List A3).toArray }:=hsb₁.extBut _ _ (by rw[hC];exact F4 (Em _)) (C0 _ (hH2▸F2 _ rfl));rw[hC] at hns₁ ⊢;have st1:tn 0 h₁:=T.keep _ _ _ st2 λb hb o e=>old b o e
 have L:=loop fp it tn J s2 H2 _ T (λhn b hb=>by
  obtain⟨o,e⟩:=ho b hb
  exact⟨hn b hb,F4 (lt e),λz=>(C5.mp (I2.stkSub b z)).elim (f2 b hb).2.1 (f2 b hb).2.2.1,.inl hb,λx c ec=>(f2 b hb).2.2.2.2.1 x c (S.sub x c ec),(f2 b hb).2.2.2.2.2⟩) I2 f2 (q _ I2.fresh) (Ql S (tk:=s2.toks+([]:List (Str×A3)).length) I2 f2 ho old hns₁ hD) st1 λb hb=>by
  obtain⟨o,e⟩:=ho b hb;rw[D4 (F4 (D1 e))];exact(f2 b hb).1
 exact codeAny_compStart_list L (T.self _ 0 _ _ _ st1 L)
theorem Kq {X:Cx}{scope:K9}{cl:List (Str×A1)}{N:List Str}{jb:List (A1×Obj)}{σ σ3:St}{H2 H3:Hp}{s2 s4:A5}{fp:List A1}{Q:VK}(I2:Inv X jb σ H2 s2)(f2:∀b∈fp,FpOk X jb H2 b)(I4:Inv (G0 X scope cl N fp (s2.heap.objs.size+1) s2 H2) jb σ3 H3 s4)(qn:Q (.ref s2.heap.objs.size) H3) :
   compPost (A7 X.prog X.w) X.A X.xe none (EP X jb σ Q) (.ref s2.heap.objs.size) (s2.heap.objs.size+1) (.ok .next) s4:=by
 obtain⟨m4,hn4,_⟩:=I4.loc;exact⟨m4,hn4,λh' hs'=>⟨.ref s2.heap.objs.size,H3,Inv.uncomp I2 f2 I4 λb hb=>hs'.2 b hb,rfl,qn⟩⟩
theorem Ks {X:Cx}{scope:K9}{cl:List (Str×A1)}{N:List Str}{cs:List (Option Nat)}{ji tg iter:Expr}{jk:List Expr}{pos:Pos}{wi:TI}{g:TG}{tt:TT}{te:TE}(S:o8 X scope cl N cs)(hc:X.calm=true)(hi:PI X tg iter wi)
   (hb:∀(fp:List A1) (C:A1) (s:A5) (H:Hp),PG (G0 X scope cl N fp C s H) tg g/\PIf (G0 X scope cl N fp C s H) jk tt/\PE (G0 X scope cl N fp C s H) ji te)
   (hs:∀x,T8 iter X.env x=pure x:=by intro _;rfl) :
   PE X (.ListComp ji [⟨tg,iter,jk,0⟩] scope pos) (tComp cs wi g tt te):=by
 intro jb s σ H Q I h;rw[eval_ListComp];refine Ho S hc hi hs I h λfp it tn J s2 H2 s₃ T stat I2 f2 q Ic st1 fr1=>?_;obtain⟨W,⟨m0,w0⟩,turn⟩:=q;obtain⟨hg,hf,he⟩:=hb fp (s2.heap.objs.size+1) s2 H2;exact Kp _ (Hn (Y:=G0 X scope cl N fp (s2.heap.objs.size+1) s2 H2) T hc stat hg hf he (λs4 σ3 H3 I4 qn=>Kq I2 f2 I4 qn) turn) m0 ⟨0,_,_,Ic,st1,fr1,w0⟩
end L2
end
section
namespace L2
open PySem PySem.Spec PyProof.Rows
section
variable {X:Cx}
theorem Vals.getE (r:Vals xs us)(h:j<us.length):∃x,xs[j]?=some x/\RelV x us[j]:=by
 have hl:=r.length;have h':j<xs.length:=by omega
 obtain⟨u,e,q⟩:=r.get (i:=j) (x:=xs[j]) (by simp[h']);refine⟨xs[j],by simp[h'],?_⟩;have e':us[j]?=some us[j]:=by simp[h]
 rw[e'] at e;cases e;exact q
theorem Kt (h:T5 x=true):eqV x x=true:=by
 cases x <;> simp_all [T5,eqV]
theorem Qm:N1 X (.builtin "isinstance") (λvs H Q=>∃x n t b,vs=[x,.ty n]/\TyOf X.K H x t/\Cs X.K t (.type n)=some b/\Q (.bl b) H):=by
 intro jb s σ H vs us Q I rv h;obtain⟨x,n,t,b,rfl,ty,e,q⟩:=h;obtain⟨u,v,rfl,r1,r2⟩:=rv.two;cases r2;exact Py I r1 ty e λtk=>⟨.bl b,H,I.tok tk,rfl,q⟩
theorem Qn:∀{bs:List Bool} {us:List A3} {j:Nat} {u:A3},Vals (bs.map V.bl) us->us[j]?=some u->∃b,bs[j]?=some b/\u=Value.bool b:=by
 intro bs us j u r e
 have hj:j<us.length:=by
  obtain⟨h,_⟩:=F6.mp e;exact h
 obtain⟨x,e1,q1⟩:=r.getE hj;rw[E7] at e1;cases eb:bs[j]? with
 |none=>rw[eb] at e1;cases e1
 | some b =>
  rw[eb] at e1;cases e1;have e2:us[j]?=some us[j]:=by simp[hj]
  rw[e2] at e;cases e;exact⟨b,rfl,q1⟩
theorem Qo (bs:List Bool):((D3 bs.length).any λi=>(bs[i]?).getD false)=bs.any id:=by
 rw[Y9,l4,l4];constructor
 ·rintro⟨i,hi,e⟩;have hi':=N9.mp hi;simp only[D9 hi',Option.getD_some] at e;exact⟨_,Bi hi',e⟩
 ·rintro⟨b,hb,e⟩;obtain⟨i,hi,rfl⟩:=Eh hb;exact⟨i,N9.mpr hi,by simp only[D9 hi,Option.getD_some];exact e⟩
theorem Qp {s:A5}{h':B6}{o:Obj}(hk:∀b x,b∉[s.heap.objs.size]->(s.heap.push o).get? b=some x->h'.get? b=some x):∀b x,s.heap.get? b=some x->h'.get? b=some x:=
 λb x e=>hk b x (λhm=>by rw[K2.mp hm] at e;exact Y8 _ (D1 e)) (C0 _ e)
def rAny (K:A9):List V->Hp->VK->Prop:=λvs H Q=>∃(p:A1) (bs:List Bool),vs=[.ref p]/\SqL K H p (bs.map V.bl)/\Q (.bl (bs.any id)) H
theorem Qq (hc:X.calm=true):N1 X (.builtin "any") (rAny X.K):=by
 intro jb s σ H vs us Q I rv h;obtain⟨p,bs,rfl,hq,q⟩:=h;obtain⟨u,rfl,r1⟩:=rv.one;cases r1;obtain⟨jf,r,pl,hz⟩:=I.list hq;have hl:=pl.isList;have hlt:p<s.heap.objs.size:=by obtain⟨_,e,_⟩:=hl;exact D1 e
 have len:jf.toArray.size=bs.length:=by simpa using r.length.symm
 refine call_any_walk (Cq hl ?_)
 refine⟨s.heap.objs.size,[s.heap.objs.size,p],[s.heap.objs.size],jf.toArray.size,_,_,λi=>(bs[i]?).getD false,rfl,Walks.list (A:=X.A.in1) (I.ok.hd hc) _ p (F4 hlt) jf.toArray,
  ⟨⟨_,F2 _ rfl,rfl,rfl⟩,hl.push _⟩,λi v s' Q' E' hP hQ=>?_,λh' tk hk=>?_⟩
 ·obtain⟨b,e,rfl⟩:=Qn r (j:=i) (u:=v) (by simpa using hP);simp only[e,Option.getD_some] at hQ;exact u9 hQ
 ·rw[len,Qo];exact⟨.bl _,H,I.kept (Qp hk),rfl,q⟩
theorem Inv.turnedNew {ch:List A1}(I:Inv X jb σ H s)(k:∀b o,b∉ch->s.heap.get? b=some o->h'.get? b=some o)
   (hf:∀b∈ch,FpOk X jb H b) (new:F9 X.prog X.w (upd H s.heap.objs.size (.tup xs)) h' s.heap.objs.size (.tup xs)):Inv X jb σ (upd H s.heap.objs.size (.tup xs)) { s with heap:=h',toks:=t' }:=by
 have nch:∀b u,H b=some u->b∉ch:=λb u e z=>by rw[(hf b z).1] at e;cases e
 have nD:∀b o,s.heap.get? b=some o->b≠s.heap.objs.size:=λb o e=>F4 (D1 e)
 refine I.step (g':=s.gens) (d':=s.drawn) (ch:=ch) (λb hb=>⟨(hf b hb).2.2.2.1,(hf b hb).2.1,(hf b hb).2.2.2.2.1,(hf b hb).2.2.2.2.2⟩) (λb o _ _ hc e _=>k b o hc e) (λb o _ _ hc e _=>⟨o.slots,k b o hc e⟩) (λb o _ e n=>by rw[D4 (nD b o e)];exact n)
   (λb o hc e=>⟨o,k b o hc e⟩) (λb ys e=>by rw[D4 (Z2 e I.fresh)];exact e) (λb o u e=>by rw[D4 (Z2 e I.fresh)];exact e) (λb ps e=>⟨#[],by rw[D4 (Z2 e I.fresh),e];simp⟩) (λz=>by unfold NS;rw[D4 (F4 I.bigS)];exact z) (λm hm=>?_) (λb u e=>?_) I.bare
 ·obtain⟨o,es,ep,ho,r⟩:=hm;exact⟨o,es,ep,k _ o (λz=>(hf _ z).2.1 rfl) ho,r⟩
 ·by_cases hb:b=s.heap.objs.size
  ·subst hb;rw[E4] at e;cases e;exact new
  ·rw[D4 hb] at e;refine(I.hok b u e).stay (λc v hc q=>k c v ?_ q) (λc q=>by rw[D4 (Z2 q I.fresh)];exact q) λc ys q=>by rw[D4 (Z2 q I.fresh)];exact q
   rcases hc with z|z
   ·rw[z];exact nch b u e
   ·exact nch c _ z
end
end L2
end
section
namespace L2
open PySem PySem.Spec PyProof.Rows
theorem EI:M7 "len"=some (.builtin "len"):=by decide +kernel
theorem bt_min:M7 "min"=some (.builtin "min"):=by decide +kernel
theorem bt_any:M7 "any"=some (.builtin "any"):=by decide +kernel
theorem Qr:M7 "isinstance"=some (.builtin "isinstance"):=by decide +kernel
theorem Ku:M7 "sorted"=some (.builtin "sorted"):=by decide +kernel
theorem bt_repr:M7 "repr"=some (.builtin "repr"):=by decide +kernel
theorem Kv:M7 "int"=some (.type "int"):=by decide +kernel
theorem Qs:M7 "bool"=some (.type "bool"):=by decide +kernel
theorem Kw:M7 "list"=some (.type "list"):=by decide +kernel
theorem BM:M7 "tuple"=some (.type "tuple"):=by decide +kernel
theorem Kx:M7 "set"=some (.type "set"):=by decide +kernel
theorem at_map {ns:List Int}(h0:0<=k)(h:k<(ns.length:Int)):∃v,atI (ns.map V.int) k=some (.int v):=by
 have hk:k.toNat<ns.length:=by omega
 have q:atI (ns.map V.int) ((k.toNat:Nat):Int)=some (.int ns[k.toNat]):=BL (by rw[E7,D9 hk] <;> rfl)
 rw[show((k.toNat:Nat):Int)=k by omega] at q;exact⟨_,q⟩
theorem kit_of {K:A9}(h:(if(K1 T == K1 S)=true then some true else if PySem.W.kitMeta S=true then(fastBuiltinMro T).map (·.contains (.type S)) else none)=some b):Cs K (.type T) (.type S)=some b:=h
structure Kn (P:C8)(w:C4)(K:A9)(mg:Str->Option A3)(base:B6)(x:Str)(k:Nat)(ps:List Str)(sp:Sp):Prop where
 ex:∃(f:A1) (fd:FuncData),FnOk P w K mg base CX0 k f fd ps sp/\BJ K fd ps []/\Cu K (.ref f)=true/\mg x=some (.ref f)/\∃oc od osl,K.lookup f=some ⟨oc,od,.func fd,osl⟩
structure Fn0 (K:A9)(mg:Str->Option A3)(x:Str)(st:Stmt):Prop where
 ex:∃(f:A1) (fd:FuncData),Fun K x x st f fd/\mg x=some (.ref f)
theorem fn0_mk {K:A9}{st:Stmt}(X:K.In h)(G:h.Ns Y2 mg){kV doc pm jn ct:A3}
   (a:PySem.W.nsIn K Y2 x=some (some (.ref f))) (l:K.lookup f=some ⟨oc,od,.func (X1 x x (i7 st) (T6 st) (J4 st) .none kV doc pm an jn ct),osl⟩)
   (c:Ee K jn x=true) (k:Cu K (.ref f)=true):Fn0 K mg x st:=⟨f,_,fun_mk l c k,PySem.W.mg_of X G a⟩
section
variable {P:C8}{w:C4}{K:A9}{mg:Str->Option A3}{base:B6}
theorem Fn0.ok {st:Stmt}{N ps:List Str}{k:Nat}{sp:Sp}(F:Fn0 K mg x st)(S:Z5 N ps (J4 st))(len:∀vs H Q E,sp vs H Q E->vs.length=ps.length)
   (bd:∀(kV doc pm:A3) (an:Option A1) (jn ct:A3) (us:List A3),us.length=ps.length->bindArgs (X1 x x (i7 st) (T6 st) (J4 st) .none kV doc pm an jn ct) ⟨us,[]⟩=pure (ps.zip us))
   (hbody:∀(f:A1) (jn:A3) (A:D5) (outer:List Env) (s:A5) (H:Hp) (vs:List V) (Q:VK) (E:XK),Room k (A.deeper (envOfC x (J4 st) s.heap.objs.size f jn))->sp vs H Q E->
     ∃t,PSs (cxOf CX0 P w K mg base N x (J4 st) f jn A outer s H E).nox (T6 st) t/\t { nx:=λ_ H'=>Q .non H',rt:=Q } (start N vs) H):Kn P w K mg base x (k+1) ps sp:=by
 obtain⟨f,fd,F1,m⟩:=F.ex
 have lk:∃oc od osl,K.lookup f=some ⟨oc,od,.func fd,osl⟩:=by
  obtain⟨oc,od,kV,doc,pm,an,jn,ct,osl,_,lk,hcd⟩:=F1.ex;exact⟨oc,od,osl,lk⟩
 exact⟨f,fd,F1.ok S len λjn A outer s H vs Q E hr h=>hbody f jn A outer s H vs Q E hr h,F1.binds bd,F1.kp,m,lk⟩
theorem Kn.imp {x:Str}{k:Nat}{ps:List Str}{sp sp':Sp}(G:Kn P w K mg base x k ps sp)(h:∀vs H Q E,sp' vs H Q E->sp vs H Q E):Kn P w K mg base x k ps sp':=by
 obtain⟨f,fd,a,b,c,d⟩:=G.ex;exact⟨f,fd,a.imp h,b,c,d⟩
end
section
variable {X:Cx}{x:Str}{p pos:Pos}{e:Expr}{es:List Expr}{t:TA}{ps:List Str}{sp:Sp}{j k:Nat}
theorem pe_fn (G:Kn X.prog X.w X.K X.mg X.base x k ps sp)(hr:Room j X.A)(hk:k<=j)(hg:Gl X x)(ha:PA X (e::es) t)(hdb:(x == ("__debug__":Str))=false:=by decide)
   (he:E3 (e::es) X.env=(false,eval e X.env)::E3 es X.env:=by rfl) (hpl:(backTo pos (E3 es X.env)).any (·.1)=false:=by rfl) :
   PE X (.Call (.Name x p) (e::es) [] pos) (tCall sp [] E0 t):=by
 intro jb s σ H Q I h;obtain⟨f,fd,F,hb,hkp,hm,_⟩:=G.ex;exact Pz F (hr.mono hk) hg hm hkp hb .nil pass0 ha hdb he hpl jb s σ H Q I h
end
def EJ (K:A9):Sp:=λvs H Q _=>∃(a:A1) (ns:List Int),vs=[.ref a]/\SqL K H a (ns.map V.int)/\ns.length<=63/\Only H/\∀H',Q (.bl true) H'
theorem Qt {l:PySem.W.OpenLaw}{q:C8}{loose:List Str}{XP:(Str->Option A3)->B6->Prop}{YP:C4->B6->Prop}{d:DefRec}{K:Params->A9}{x:Str}{k:Nat}(hn:l.most=some 63)(hdf:d.params.defaults=[])(hk:Room k callerA)
   (hY:∀(w:C4) (h:B6),YP w h->(K w.params).In h)
   (F:∀(w:C4) (mg:Str->Option A3) (h:B6),(K w.params).In h->h.Ns Y2 mg->∃st,Fn0 (K w.params) mg d.name st/\
     (∀(kV doc pm:A3) (an:Option A1) (jn ct:A3) (s:A5) (u:A3),BindsTo s (X1 d.name d.name (i7 st) (T6 st) (J4 st) .none kV doc pm an jn ct) ⟨[u],[]⟩ [(x,u)])/\
     ∀base:B6,(K w.params).In base->base.Ns Y2 mg->Kn l.prog w (K w.params) mg base d.name k [x] (EJ (K w.params))) :
   PySem.W.WalkO q loose XP YP l.row.toRowW d [] (λf vs=>PySem.call f vs):=by
 refine L2.Qi (n:=63) (k:=k) (x:=x) (CX:=λ_=>CX0) (sp:=λw=>EJ (K w.params)) hn (by decide) hdf hk hY (λw mg fa h KX G hmg=>?_) (λ_ _ a ns hl hO hS=>⟨a,ns,rfl,hS,hl,hO,λ_=>rfl⟩) λ_ _ _ _ _ z=>z;obtain⟨st,F0,hb,hF⟩:=F w mg h KX G;obtain⟨f,fd,F1,m⟩:=F0.ex;have e:=hmg.symm.trans m;cases e;refine⟨fd,λs u=>?_,λbase kb nb=>?_⟩
 ·obtain⟨oc,od,kV,doc,pm,an,jn,ct,osl,rfl,lk,hcd⟩:=F1.ex;exact hb kV doc pm an jn ct s u
 ·obtain⟨f',fd',a,b,c,m',oc',od',osl',lk'⟩:=(hF base kb nb).ex;have e:=m.symm.trans m';cases e;obtain⟨oc,od,kV,doc,pm,an,jn,ct,osl,_,lk,hcd⟩:=F1.ex;have e2:=lk.symm.trans lk';cases e2;exact a
end L2
end
section
namespace L2
open PySem PySem.Spec PyProof.Rows
section
variable {X:Cx}
theorem Qu:OpR X (V0 .Mult) (λx y H Q=>∃i n,x=.str i/\y=.int n/\i.length<=100/\0<=n/\n<=1000/\Q (.str (Txt.mul i n)) H):=by
 intro jb s σ H x y v u Q I rx ry h;obtain⟨i,n,rfl,rfl,h1,h2,h3,q⟩:=h;obtain⟨t,rfl⟩:=rx;obtain⟨t',rfl⟩:=ry;exact SB.mul (mulOk_of 100 1000 h1 h3 (by omega) (by decide) (by decide)) λt' tk=>⟨.str _,H,I.tok _,⟨_,rfl⟩,q⟩
theorem Di (x y:Str):(x++y).cps.toList=x.cps.toList++y.cps.toList:=by
 show(x.cps++y.cps).toList=_;simp
theorem AF (x:Str):x.length=x.cps.toList.length:=by
 show x.cps.size=_;simp
end
theorem Same.lay {H H':Hp}{p:A1}{o:HO}(s:Same H H')(h:H' p=none):Same H (upd H' p o):=λb u e=>by
 rw[D4 (Z2 (s b u e) h)];exact s b u e
theorem Qv {c:TT}{t u:TS}{D:Ends}{σ:St}{H:Hp}(p:St->Hp->Prop)(h:(∀σ' H',p σ' H'->D.nx σ' H')->tIfS c t u D σ H)(hp:∀σ' H',p σ' H'->D.nx σ' H'):tIfS c t u D σ H:=h hp
theorem Z6 {n:Nat}{d:Int}(h0:0<=d)(h1:d<n):ixN n d=some d.toNat:=by grind [ixN]
theorem EK {α:Type}{xs:List α}{d:Int}(h0:0<=d)(h1:d<xs.length):∃x,xs[d.toNat]?=some x/\atI xs d=some x:=by
 have hk:d.toNat<xs.length:=by omega
 refine⟨xs[d.toNat],D9 hk,?_⟩;unfold atI;rw[Z6 h0 h1];simp
end L2
end
section
namespace L2
open PySem PySem.Spec PyProof.Rows
section
variable {X:Cx}
theorem Qw:OpR X (L7 .LtE) (λx y H Q=>∃i j,x=.str i/\y=.str j/\Q (.bl (!decide (j.cps.toList<i.cps.toList))) H):=by
 intro jb s σ H x y v u Q I rx ry h;obtain⟨i,j,rfl,rfl,q⟩:=h;obtain⟨t,rfl⟩:=rx;obtain⟨t',rfl⟩:=ry;exact PySem.P.le_str ⟨.bl _,H,I,rfl,q⟩
def rSlS:V->Option Int->Option Int->Hp->VK->Prop:=λx lo hi H Q=>∃z,x=.str z/\z.length<=B9/\Q (.str (W0 z lo hi)) H
theorem sl_str:SlR X rSlS:=by
 intro jb s σ H x v vl vu lo hi sl Q I rx hs pl pu h;obtain⟨z,rfl,hz,q⟩:=h;obtain⟨t,rfl⟩:=rx;refine⟨"str",_,F.slot_str_getitem.lookup,typeIs_str _ _ _,?_⟩;cases pl with
 | none =>
  cases pu with
  |none=>exact DY (l:=none) (u:=none) (st:=none) hs rfl (Ed ⟨M2 (BA z _ _) hz,λt' k=>⟨.str _,H,I.tok _,⟨_,rfl⟩,q⟩⟩)
  |int j tj=>exact DY (l:=none) (u:=some (j,tj)) (st:=none) hs rfl (Ed ⟨M2 (BA z _ _) hz,λt' k=>⟨.str _,H,I.tok _,⟨_,rfl⟩,q⟩⟩)
 | int i ti =>
  cases pu with
  |none=>exact DY (l:=some (i,ti)) (u:=none) (st:=none) hs rfl (Ed ⟨M2 (BA z _ _) hz,λt' k=>⟨.str _,H,I.tok _,⟨_,rfl⟩,q⟩⟩)
  |int j tj=>exact DY (l:=some (i,ti)) (u:=some (j,tj)) (st:=none) hs rfl (Ed ⟨M2 (BA z _ _) hz,λt' k=>⟨.str _,H,I.tok _,⟨_,rfl⟩,q⟩⟩)
def rCatA (K:A9):R2:=λx y H Q=>∃a b xs ys,x=.ref a/\y=.ref b/\SqT K H a xs/\SqT K H b ys/\xs.length+ys.length<=B9/\
 (xs=[]->Q (.ref b) H)/\(xs≠[]->ys=[]->Q (.ref a) H)/\(xs≠[]->ys≠[]->∀p,H p=none->Q (.ref p) (upd H p (.tup (xs++ys))))
theorem Qx:OpR X (V0 .Add) (rCatA X.K):=by
 intro jb s σ H x y v u Q I rx ry h;obtain⟨a,b,xs,ys,rfl,rfl,ha,hb,hz,q0,q1,q2⟩:=h
 by_cases hx:xs=[]
 ·cases rx;cases ry;obtain⟨jf,r1,p1,_⟩:=I.tuple ha;obtain⟨its2,r2,p2,_⟩:=I.tuple hb;obtain⟨⟨cls,dd,data,sl⟩,ho,hc,n,hd⟩:=id p1;obtain⟨⟨cls2,dd2,data2,sl2⟩,ho2,hc2,n2,hd2⟩:=id p2;simp only at hc hd hc2 hd2;subst hc hd hc2 hd2;have he:jf=[]:=r1.nil_iff.mpr hx
  exact concat_meets ⟨_,ho,rfl⟩ ⟨_,ho2,rfl⟩ noFill_tuple_add seq_tuple_add GM GK (GJ _ _)
    (tuple_addW0 a b jf.toArray its2.toArray n n2 dd dd2 sl sl2 (by simp[he])) ⟨ho,ho2,⟨.ref b,H,I,rfl,q0 hx⟩⟩
 ·exact PM jb s σ H _ _ v u Q I rx ry ⟨a,b,xs,ys,rfl,rfl,ha,hb,hx,hz,q1 hx,q2 hx⟩
theorem Inv.big {jb:List (A1×Obj)}{σ:St}{H:Hp}{s:A5}(I:Inv X jb σ H s):P4<s.heap.objs.size:=by
 have h:Y2<s.heap.objs.size:=(I.mod.glob.keeps I.bk).lt;exact Bp (by decide) h
theorem Qy {P:C8}{w:C4}{H:Hp}(h:B6)(hb:P4<h.objs.size):F9 P w H (h.push { cls:=.type "dict",data:=.dict #[] }) h.objs.size (.dK []):=
 ⟨K3 _,beq_eq_false_iff_ne.mpr (Ne.symm (F4 hb)),[],.nil,Heap.DictOf.new h⟩
end
end L2
end
section
namespace Pu
open PySem PySem.Spec L2
inductive PV where
 |non|bl (b:Bool)|int (i:Int)|str (x:Str)|ty (n:String)|pot (k:Nat)
 |tup (xs:List PV)|lst (xs:List PV)|dct (ks:List Key) (xs:List PV)
 /-- the script -/
 |scr (ns:List Int)
 /-- a dict by tuples that nothing changes any more -/
 |fdt (ks:List (List Key)) (xs:List PV)
structure Gh where
 M:List A1
 pots:List A1
def KLst (K:A9)(a:A1)(xs:List V):Prop:=∃(o:Obj) (jf:Array A3) (n:Nat),K.lookup a=some o/\o.cls=.type "list"/\o.dict=none/\o.data=.seq jf n/\jf.size<=B9/\Vals xs jf.toList
def AtL (M:List A1)(H:Hp)(a:A1)(xs:List V):Prop:=a∉M/\H a=some (.lst xs)
def AtT (M:List A1)(H:Hp)(a:A1)(xs:List V):Prop:=a∉M/\H a=some (.tup xs)
theorem AtL.sq {K:A9}{M:List A1}{H:Hp}{a:A1}{xs:List V}(h:AtL M H a xs):SqL K H a xs:=SqL.of h.2
theorem AtT.sq {K:A9}{M:List A1}{H:Hp}{a:A1}{xs:List V}(h:AtT M H a xs):SqT K H a xs:=SqT.of h.2
mutual
def Rep (K:A9)(G:Gh)(H:Hp):PV->V->Prop
 |.non,v=>v=.non
 |.bl b,v=>v=.bl b
 |.int i,v=>v=.int i
 |.str x,v=>v=.str x
 |.ty n,v=>v=.ty n
 |.pot k,v=>∃p,G.pots[k]?=some p/\v=.ref p
 |.tup xs,v=>∃a vs,v=.ref a/\AtT G.M H a vs/\Reps K G H xs vs
 |.lst xs,v=>∃a vs,v=.ref a/\AtL G.M H a vs/\Reps K G H xs vs
 |.scr ns,v=>∃a,v=.ref a/\((a∉G.M/\∃o,H a=some (.frz o (.lst (ns.map V.int))))\/KLst K a (ns.map V.int))
 |.dct ks xs,v=>∃a jg,v=.ref a/\a∉G.M/\H a=some (.dK jg)/\jg.map (·.1)=ks/\Reps K G H xs (jg.map (·.2))
 |.fdt ks xs,v=>∃a jg,v=.ref a/\a∉G.M/\Rd H a (.dT jg)/\jg.map (·.1)=ks/\Reps K G H xs (jg.map (·.2))
def Reps (K:A9)(G:Gh)(H:Hp):List PV->List V->Prop
 |[],vs=>vs=[]
 |x::xs,vs=>∃v r,vs=v::r/\Rep K G H x v/\Reps K G H xs r
end
section
variable {K:A9}{G G':Gh}{H H':Hp}
theorem Rd.keep {a:A1}{u:HO}(h:Rd H a u)(k:∀o,H a=some o->H' a=some o):Rd H' a u:=by grind [HO,Rd]
theorem Rd.ne {a:A1}{u:HO}(h:Rd H a u):H a≠none:=by grind [HO,Rd]
mutual
theorem Rep.mono (hk:∀b o,b∉G.M->H b=some o->H' b=some o)(hM:∀a∈G'.M,a∈G.M\/H a=none)(hp:∀(k:Nat) (p:A1),G.pots[k]?=some p->G'.pots[k]?=some p):∀(x:PV) (v:V),Rep K G H x v->Rep K G' H' x v
 |.non,v,h=>h
 |.bl b,v,h=>h
 |.int i,v,h=>h
 |.str x,v,h=>h
 |.ty n,v,h=>h
 | .pot k, v, h => by
  obtain⟨p,e,r⟩:=h;exact⟨p,hp k p e,r⟩
 | .tup xs, v, h => by
  obtain⟨a,vs,e,t,r⟩:=h;refine⟨a,vs,e,?_,Reps.mono hk hM hp xs vs r⟩;obtain⟨n,t⟩:=t;exact⟨λz=>(hM a z).elim n (λz=>by rw[z] at t;cases t),hk a _ n t⟩
 | .lst xs, v, h => by
  obtain⟨a,vs,e,t,r⟩:=h;refine⟨a,vs,e,?_,Reps.mono hk hM hp xs vs r⟩;obtain⟨n,t⟩:=t;exact⟨λz=>(hM a z).elim n (λz=>by rw[z] at t;cases t),hk a _ n t⟩
 | .scr ns, v, h => by
  obtain⟨a,e,h⟩:=h;refine⟨a,e,?_⟩;rcases h with⟨n,o,t⟩|h
  ·exact .inl ⟨λz=>(hM a z).elim n (λz=>by rw[z] at t;cases t),o,hk a _ n t⟩
  ·exact .inr h
 | .dct ks xs, v, h => by
  obtain⟨a,jg,e,n,t,ek,r⟩:=h;exact⟨a,jg,e,λz=>(hM a z).elim n (λz=>by rw[z] at t;cases t),hk a _ n t,ek,Reps.mono hk hM hp xs _ r⟩
 | .fdt ks xs, v, h => by
  obtain⟨a,jg,e,n,t,ek,r⟩:=h;exact⟨a,jg,e,λz=>(hM a z).elim n (λz=>Rd.ne (u:=.dT jg) t z),Rd.keep (u:=.dT jg) t (λo e=>hk a o n e),ek,Reps.mono hk hM hp xs _ r⟩
theorem Reps.mono (hk:∀b o,b∉G.M->H b=some o->H' b=some o)(hM:∀a∈G'.M,a∈G.M\/H a=none)(hp:∀(k:Nat) (p:A1),G.pots[k]?=some p->G'.pots[k]?=some p):∀(xs:List PV) (vs:List V),Reps K G H xs vs->Reps K G' H' xs vs
 |[],vs,h=>h
 | x :: xs, vs, h => by
  obtain⟨v,r,e,hx,hr⟩:=h;exact⟨v,r,e,Rep.mono hk hM hp x v hx,Reps.mono hk hM hp xs r hr⟩
end
theorem Rep.same (h:Rep K G H x v)(s:Same H H'):Rep K G H' x v:=Rep.mono (λb o _ e=>s b o e) (λa z=>.inl z) (λ_ _ e=>e) x v h
theorem Reps.same (h:Reps K G H x v)(s:Same H H'):Reps K G H' x v:=Reps.mono (λb o _ e=>s b o e) (λa z=>.inl z) (λ_ _ e=>e) x v h
def Fr (G:Gh)(H H':Hp):Prop:=∀b o,b∉G.M->H b=some o->H' b=some o
theorem Fr.refl:Fr G H H:=λ_ _ _ e=>e
theorem Fr.trans (a:Fr G H H')(b:Fr G H' H2):Fr G H H2:=λc o n e=>b c o n (a c o n e)
theorem Fr.of (s:Same H H'):Fr G H H':=λb o _ e=>s b o e
theorem Rep.fr (h:Rep K G H x v)(s:Fr G H H'):Rep K G H' x v:=Rep.mono s (λa z=>.inl z) (λ_ _ e=>e) x v h
theorem Reps.fr (h:Reps K G H x v)(s:Fr G H H'):Reps K G H' x v:=Reps.mono s (λa z=>.inl z) (λ_ _ e=>e) x v h
theorem Reps.length:∀{xs:List PV} {vs:List V},Reps K G H xs vs->xs.length=vs.length
 |[],vs,h=>by cases(show vs=[] from h);rfl
 | x :: xs, vs, h => by
  obtain⟨v,r,e,hx,hr⟩:=h;subst e;simp[Reps.length hr]
theorem Reps.get:∀{xs:List PV} {vs:List V} {i:Nat} {v:V},Reps K G H xs vs->vs[i]?=some v->∃x,xs[i]?=some x/\Rep K G H x v
 |[],vs,i,v,h,e=>by cases(show vs=[] from h);simp at e
 | x :: xs, vs, i, v, h, e => by
  obtain⟨w,r,e1,hx,hr⟩:=h;subst e1;cases i with
  |zero=>simp at e;subst e;exact⟨x,rfl,hx⟩
  |succ i=>simpa using Reps.get (i:=i) hr (by grind)
theorem Reps.get':∀{xs:List PV} {vs:List V} {i:Nat} {x:PV},Reps K G H xs vs->xs[i]?=some x->∃v,vs[i]?=some v/\Rep K G H x v:=λ{xs vs i x} h e=>by
 obtain⟨hi,_⟩:=F6.mp e;have hl:=h.length;have e2:vs[i]?=some (vs[i]'(by omega)):=D9 (by omega);obtain⟨y,ey,r⟩:=h.get e2;rw[e] at ey;cases ey;exact⟨_,e2,r⟩
theorem Reps.append:∀{xs ys:List PV} {vs us:List V},Reps K G H xs vs->Reps K G H ys us->Reps K G H (xs++ys) (vs++us)
 |[],ys,vs,us,h,h'=>by cases(show vs=[] from h);exact h'
 | x :: xs, ys, vs, us, h, h' => by
  obtain⟨w,r,e1,hx,hr⟩:=h;subst e1;exact⟨w,r++us,rfl,hx,Reps.append hr h'⟩
theorem Reps.take:∀{xs:List PV} {vs:List V} (n:Nat),Reps K G H xs vs->Reps K G H (xs.take n) (vs.take n)
 |xs,vs,0,h=>by simp[Reps]
 |[],vs,n+1,h=>by cases(show vs=[] from h);exact rfl
 | x :: xs, vs, n + 1, h => by
  obtain⟨w,r,e1,hx,hr⟩:=h;subst e1;exact⟨w,r.take n,rfl,hx,Reps.take n hr⟩
theorem Reps.drop:∀{xs:List PV} {vs:List V} (n:Nat),Reps K G H xs vs->Reps K G H (xs.drop n) (vs.drop n)
 |xs,vs,0,h=>by simpa using h
 |[],vs,n+1,h=>by cases(show vs=[] from h);exact rfl
 | x :: xs, vs, n + 1, h => by
  obtain⟨w,r,e1,hx,hr⟩:=h;subst e1;exact Reps.drop n hr
theorem Reps.one (h:Rep K G H x v):Reps K G H [x] [v]:=⟨v,[],rfl,h,rfl⟩
theorem Reps.set:∀{xs:List PV} {vs:List V} (n:Nat) {x:PV} {v:V},Reps K G H xs vs->Rep K G H x v->Reps K G H (xs.set n x) (vs.set n v)
 |[],vs,n,x,v,h,_=>by cases(show vs=[] from h);exact rfl
 | y :: xs, vs, 0, x, v, h, h' => by
  obtain⟨w,r,e1,hx,hr⟩:=h;subst e1;exact⟨v,r,rfl,h',hr⟩
 | y :: xs, vs, n + 1, x, v, h, h' => by
  obtain⟨w,r,e1,hx,hr⟩:=h;subst e1;exact⟨w,r.set n v,rfl,hx,Reps.set n hr h'⟩
theorem Reps.eraseIdx:∀{xs:List PV} {vs:List V} (n:Nat),Reps K G H xs vs->Reps K G H (xs.eraseIdx n) (vs.eraseIdx n)
 |[],vs,n,h=>by cases(show vs=[] from h);exact rfl
 | y :: xs, vs, 0, h => by
  obtain⟨w,r,e1,hx,hr⟩:=h;subst e1;exact hr
 | y :: xs, vs, n + 1, h => by
  obtain⟨w,r,e1,hx,hr⟩:=h;subst e1;exact⟨w,r.eraseIdx n,rfl,hx,Reps.eraseIdx n hr⟩
def MutO:HO->Prop
 |.lst _=>True
 |.dK _=>True
 |.dT _=>True
 |.set _ _=>True
 |.tbl _=>True
 |_=>False
end
inductive OK where
 |lst|dk (ks:List Key)|dt (ks:List (List Key))|st (zs:List Key)
def memS (zs:List Key)(k:Key):Bool:=zs.any λz=>decide (z=k)
def mkO:OK->List V->HO
 |.lst,vs=>.lst vs
 |.dk ks,vs=>.dK (ks.zip vs)
 |.dt ks,vs=>.dT (ks.zip vs)
 |.st zs,_=>.set (memS zs) zs.length
theorem Ky (k:OK)(vs:List V):MutO (mkO k vs):=by cases k <;> trivial
inductive Slot where
 |v (x:PV)
 |ow (k:OK) (xs:List PV)
abbrev Slot.own (xs:List PV):Slot:=.ow .lst xs
abbrev Env:=List (Option Slot)
structure PotK where
 at_:List A1->Hp->A1->Nat->Prop
 mono:∀{M H p n m},at_ M H p n->n<=m->at_ M H p m
 keep:∀{M H H' p n},at_ M H p n->H' p=H p->(∀b o,b∉M->H b=some o->H' b=some o)->at_ M H' p n
 more:∀{M M' H p n},at_ M H p n->(∀a∈M',a∈M\/H a=none)->at_ M' H p n
 mu:∀{M H p n},at_ M H p n->∃o,H p=some o/\MutO o
 /-- what is known of all pots together -/
 has:List A1->Prop:=λ_=>True
 hasM:∀{l:List A1} {p:A1},has l->p∉l->has (l++[p]):=by intro _ _ _ _;trivial
structure Ct where
 K:A9
 T:PotK
 M0:List A1
 pots0:List A1
 H0:Hp
 np:Bool
def Dj (C:Ct)(G:Gh)(H:Hp)(o:Option (Option V)):Slot->Prop
 |.v x=>∃v,o=some (some v)/\Rep C.K G H x v
 |.ow k xs=>∃a vs,o=some (some (.ref a))/\a∈G.M/\a∉C.M0/\a∉G.pots/\H a=some (mkO k vs)/\Reps C.K G H xs vs
structure SR (C:Ct)(G:Gh)(σ:St)(H:Hp)(env:Env)(n:Nat):Prop where
 frame:∀b o,b∉C.pots0->C.H0 b=some o->H b=some o
 sub:∀a∈G.M,a∈C.M0\/C.H0 a=none
 sup:∀a∈C.M0,a∈G.M
 pots:∀p∈G.pots,p∈G.M/\C.T.at_ G.M H p n
 pre:∃l,G.pots=C.pots0++l/\(l=[]\/C.np=true)
 mu:∀a∈G.M,∃o,H a=some o/\MutO o
 slots:∀(i:Nat) (s:Slot),env[i]?=some (some s)->Dj C G H (σ[i]?) s
 inj:∀(i j:Nat) (xs ys:OK×List PV) (a:A1),env[i]?=some (some (.ow xs.1 xs.2))->env[j]?=some (some (.ow ys.1 ys.2))->σ[i]?=some (some (.ref a))->σ[j]?=some (some (.ref a))->i=j
 p0:(∀p∈C.pots0,p∈C.M0)/\C.T.has G.pots
 len:env.length=σ.length
 newp:∀p∈G.pots,p∉C.pots0->p∈C.M0->False
section
variable {C:Ct}{G G':Gh}{σ:St}{H H':Hp}{env:Env}{n:Nat}
theorem SR.hasG (S:SR C G σ H env n):C.T.has G.pots:=S.p0.2
theorem SR.fresh (S:SR C G σ H env n)(h:H p=none):p∉G.M:=λz=>by
 obtain⟨o,e,_⟩:=S.mu p z;rw[h] at e;cases e
theorem SR.same (S:SR C G σ H env n)(s:Same H H'):SR C G σ H' env n where
 frame b o hb e:=s b o (S.frame b o hb e)
 sub:=S.sub
 sup:=S.sup
 pots p hp:=⟨(S.pots p hp).1,C.T.keep (S.pots p hp).2 (by
  obtain⟨o,e,_⟩:=C.T.mu (S.pots p hp).2
  rw[e,s p o e]) λb o _ e=>s b o e⟩
 pre:=S.pre
 mu a ha:=by
  obtain⟨o,e,m⟩:=S.mu a ha;exact⟨o,s a o e,m⟩
 slots i x e:=by
  have:=S.slots i x e;cases x with
  | v x =>
   obtain⟨v,e1,r⟩:=this;exact⟨v,e1,r.same s⟩
  | ow kk xs =>
   obtain⟨a,vs,e1,h1,h2,h3,h4,r⟩:=this;exact⟨a,vs,e1,h1,h2,h3,s _ _ h4,r.same s⟩
 inj:=S.inj
 p0:=S.p0
 len:=S.len
 newp:=S.newp
theorem Same.lay1 (h:H p=none):Same H (upd H p o):=(Same.refl H).lay h
end
end Pu
end
section
namespace Pu
open PySem PySem.Spec L2
abbrev PK:=PV->Env->Nat->Prop
abbrev pE:=Env->Nat->PK->Prop
abbrev pT:=Env->Nat->(Bool->Env->Nat->Prop)->Prop
abbrev pA:=Env->Nat->(List PV->Env->Nat->Prop)->Prop
abbrev pF:=List PV->Nat->(PV->Nat->Prop)->Prop
def RdV (K:A9)(G:Gh)(H:Hp)(x:PV)(v:V):Prop:=Rep K G H x v\/∃a vs xs,x=.lst xs/\v=.ref a/\H a=some (.lst vs)/\Reps K G H xs vs
def RdS (C:Ct)(G:Gh)(σ:St)(H:Hp)(env:Env)(x:PV)(v:V):Prop:=Rep C.K G H x v\/∃(i:Nat) (a:A1) (xs:List PV),env[i]?=some (some (.ow .lst xs))/\σ[i]?=some (some (.ref a))/\x=.lst xs/\v=.ref a
def EOk (K:A9)(T:PotK)(t:TE)(pe:pE):Prop:=∀(C:Ct) (G:Gh) (σ:St) (H:Hp) (env:Env) (n:Nat) (R:PK) (Q:VK),C.K=K->C.T=T->SR C G σ H env n->pe env n R->
 (∀x jh n' v H',R x jh n'->SR C G σ H' jh n'->Rep K G H' x v->Fr G H H'->Q v H')->t σ H Q
def ROk (K:A9)(T:PotK)(t:TE)(pe:pE):Prop:=∀(C:Ct) (G:Gh) (σ:St) (H:Hp) (env:Env) (n:Nat) (R:PK) (Q:VK),C.K=K->C.T=T->SR C G σ H env n->pe env n R->
 (∀x jh n' v H',R x jh n'->SR C G σ H' jh n'->RdS C G σ H' jh x v->Fr G H H'->Q v H')->t σ H Q
def NOk (K:A9)(T:PotK)(t:TE)(pn:pA):Prop:=∀(C:Ct) (G:Gh) (σ:St) (H:Hp) (env:Env) (n:Nat) (R:List PV->Env->Nat->Prop) (Q:VK),C.K=K->C.T=T->SR C G σ H env n->pn env n R->
 (∀xs jh n' a vs Hb,R xs jh n'->SR C G σ Hb jh n'->Fr G H Hb->Hb a=none->Reps K G Hb xs vs->Q (.ref a) (upd Hb a (.lst vs)))->t σ H Q
def TOk (K:A9)(T:PotK)(t:TT)(pt:pT):Prop:=∀(C:Ct) (G:Gh) (σ:St) (H:Hp) (env:Env) (n:Nat) (R:Bool->Env->Nat->Prop) (Q:Bool->Hp->Prop),C.K=K->C.T=T->SR C G σ H env n->pt env n R->
 (∀b jh n' H',R b jh n'->SR C G σ H' jh n'->Fr G H H'->Q b H')->t σ H Q
def AOk (K:A9)(T:PotK)(t:TA)(pa:pA):Prop:=∀(C:Ct) (G:Gh) (σ:St) (H:Hp) (env:Env) (n:Nat) (R:List PV->Env->Nat->Prop) (Q:List V->Hp->Prop),C.K=K->C.T=T->SR C G σ H env n->pa env n R->
 (∀xs jh n' vs H',R xs jh n'->SR C G σ H' jh n'->Reps K G H' xs vs->Fr G H H'->Q vs H')->t σ H Q
structure EW (X:Cx)(e:Expr)(t:TE):Prop where
 h:PE X e t
structure SW (X:Cx)(st:Stmt)(t:TS):Prop where
 h:PS X st t
structure GW (X:Cx)(e:Expr)(g:TG):Prop where
 h:PG X e g
theorem vw (i:Nat)(hN:X.N[i]?=some x:=by rfl)(hv:Vis X.env.scope x:=by first|exact Or.inl rfl|exact Or.inr (Or.inl rfl)|exact Or.inr (Or.inr rfl))(hd:(x == ("__debug__":Str))=false:=by decide)(hcd:(x == ("__classdict__":Str))=false:=by decide):EW X (.Name x pos) (tVar i):=⟨JQ hN hv hd hcd⟩
def QE {ι:Type}(T:PotK)(K:A9)(F:ι->Cx)(e:Expr)(pe:pE):Prop:=∃t,(∀z,PE (F z) e t)/\EOk K T t pe
def QR {ι:Type}(T:PotK)(K:A9)(F:ι->Cx)(e:Expr)(pe:pE):Prop:=∃t,(∀z,PE (F z) e t)/\ROk K T t pe
def QN {ι:Type}(T:PotK)(K:A9)(F:ι->Cx)(e:Expr)(pn:pA):Prop:=∃t,(∀z,PE (F z) e t)/\NOk K T t pn
def QT {ι:Type}(T:PotK)(K:A9)(F:ι->Cx)(e:Expr)(pt:pT):Prop:=∃t,(∀z,PT (F z) e t)/\TOk K T t pt
def QW {ι:Type}(T:PotK)(K:A9)(F:ι->Cx)(e:Expr)(pt:pT):Prop:=∃t,(∀z,PW (F z) e t)/\TOk K T t pt
def QA {ι:Type}(T:PotK)(K:A9)(F:ι->Cx)(es:List Expr)(pa:pA):Prop:=∃t,(∀z,PA (F z) es t)/\AOk K T t pa
section
variable {T:PotK}{ι:Type}{K:A9}{F:ι->Cx}{e a b:Expr}{es:List Expr}{pe pa pb:pE}
theorem Reps.nil:Reps K G H [] []:=rfl
theorem Reps.cons (h:Rep K G H x v)(h':Reps K G H xs vs):Reps K G H (x::xs) (v::vs):=⟨v,vs,rfl,h,h'⟩
theorem RdS.rd (S:SR C G σ H env n)(h:RdS C G σ H env x v):RdV C.K G H x v:=by
 rcases h with h|⟨i,a,xs,e1,e2,ex,ev⟩
 ·exact .inl h
 ·obtain⟨a',vs,e3,_,_,_,h4,r⟩:=S.slots i _ e1;rw[e2] at e3;cases e3;exact .inr ⟨a,vs,xs,ex,ev,h4,r⟩
theorem RdS.fr (h:RdS C G σ H env x v)(f:Fr G H H'):RdS C G σ H' env x v:=by
 rcases h with h|h
 ·exact .inl (h.fr f)
 ·exact .inr h
theorem RdV.lst (h:RdV K G H (.lst xs) v):∃a vs,v=.ref a/\SqL K H a vs/\Reps K G H xs vs:=by
 rcases h with⟨a,vs,e,t,r⟩|⟨a,vs,ys,ex,ev,h4,r⟩
 ·exact⟨a,vs,e,t.sq,r⟩
 ·cases ex;exact⟨a,vs,ev,SqL.of h4,r⟩
theorem RdV.rep {K:A9}{G:Gh}{H:Hp}{x:PV}{v:V}(h:RdV K G H x v)(hx:∀xs,x≠.lst xs):Rep K G H x v:=by simp_all [Gh,Hp,PV,RdV,V]
theorem RdV.tup (h:RdV K G H (.tup xs) v):∃a vs,v=.ref a/\SqT K H a vs/\Reps K G H xs vs:=by
 obtain⟨a,vs,e,t,r⟩:=h.rep (λ_ z=>nomatch z);exact⟨a,vs,e,t.sq,r⟩
theorem RdV.int (h:RdV K G H (.int i) v):v=.int i:=h.rep (λ_ z=>nomatch z)
theorem RdV.str (h:RdV K G H (.str i) v):v=.str i:=h.rep (λ_ z=>nomatch z)
theorem RdV.bl (h:RdV K G H (.bl i) v):v=.bl i:=h.rep (λ_ z=>nomatch z)
theorem RdV.non (h:RdV K G H .non v):v=.non:=h.rep (λ_ z=>nomatch z)
def qV (i:Nat):pE:=λenv n R=>match env[i]? with|some (some (.v x))=>R x env n|_=>False
def qO (i:Nat):pE:=λenv n R=>match env[i]? with|some (some (.ow .lst xs))=>R (.lst xs) env n|_=>False
def qC (c:PV):pE:=λenv n R=>R c env n
theorem qV_ex (h:qV i env n R):∃x,env[i]?=some (some (.v x))/\R x env n:=by
 unfold qV at h
 split at h
 ·exact⟨_,by assumption,h⟩
 ·exact h.elim
theorem qO_ex (h:qO i env n R):∃xs,env[i]?=some (some (.ow .lst xs))/\R (.lst xs) env n:=by
 unfold qO at h
 split at h
 ·exact⟨_,by assumption,h⟩
 ·exact h.elim
theorem qe_var (i:Nat)(h:∀z,EW (F z) (.Name x pos) (tVar i)):QE T K F (.Name x pos) (qV i):=by
 refine⟨_,λz=>(h z).h,λC G σ H env n R Q hK hT S hp k=>?_⟩;obtain⟨x,e,r⟩:=qV_ex hp;obtain⟨v,ev,rv⟩:=S.slots i _ e;exact⟨v,ev,k _ _ _ _ _ r S (hK▸rv) Fr.refl⟩
theorem K4 (i:Nat)(h:∀z,EW (F z) (.Name x pos) (tVar i)):QR T K F (.Name x pos) (qO i):=by
 refine⟨_,λz=>(h z).h,λC G σ H env n R Q hK hT S hp k=>?_⟩;obtain⟨xs,e,r⟩:=qO_ex hp;obtain⟨a,vs,ev,_,_,_,_,rv⟩:=S.slots i _ e;exact⟨.ref a,ev,k _ _ _ _ _ r S (.inr ⟨i,a,xs,e,ev,rfl,rfl⟩) Fr.refl⟩
theorem QE.r (h:QE T K F e pe):QR T K F e pe:=by
 obtain⟨t,h1,h2⟩:=h;exact⟨t,h1,λC G σ H env n R Q hK hT S hp k=>h2 C G σ H env n R Q hK hT S hp λx jh n' v H' r S' rp f=>k x jh n' v H' r S' (.inl (by rw[hK];exact rp)) f⟩
theorem ok_c (h:∀G H,Rep K G H c v):EOk K T (tC v) (qC c):=λC G σ H env n R Q hK hT S hp k=>k _ _ _ _ _ hp S (h G H) Fr.refl
theorem B2 {i j pos}:QE T K F (.Constant (.int i) j pos) (qC (.int i)):=⟨_,λz=>N0,ok_c λ_ _=>rfl⟩
theorem i8 {i j pos}:QE T K F (.Constant (.bool i) j pos) (qC (.bl i)):=⟨_,λz=>pe_bl,ok_c λ_ _=>rfl⟩
theorem E5 {i j pos}:QE T K F (.Constant (.str i) j pos) (qC (.str i)):=⟨_,λz=>M3,ok_c λ_ _=>rfl⟩
theorem y3 {j pos}:QE T K F (.Constant .none j pos) (qC .non):=⟨_,λz=>pe_non,ok_c λ_ _=>rfl⟩
abbrev w1:=PV->(PV->Prop)->Prop
abbrev w2:=PV->PV->(PV->Prop)->Prop
def W2 (K:A9)(r:R2)(w:w2):Prop:=∀(G:Gh) (H:Hp) (x y:PV) (v u:V) (R:PV->Prop) (Q:VK),(∀p,H p=none->p∉G.M)->RdV K G H x v->RdV K G H y u->w x y R->
 (∀z v' H',R z->Same H H'->Rep K G H' z v'->Q v' H')->r v u H Q
def W1 (K:A9)(r:V->Hp->VK->Prop)(w:w1):Prop:=∀(G:Gh) (H:Hp) (x:PV) (v:V) (R:PV->Prop) (Q:VK),(∀p,H p=none->p∉G.M)->RdV K G H x v->w x R->
 (∀z v' H',R z->Same H H'->Rep K G H' z v'->Q v' H')->r v H Q
def qOp (w:w2)(pa pb:pE):pE:=λenv n R=>pa env n λx jc n1=>pb jc n1 λy jd n2=>w x y λz=>R z jd n2
def qOpR (w:w2)(pa pb:pE):pE:=λenv n R=>pa env n λx jc n1=>pb jc n1 λy jd n2=>jd=jc/\w x y λz=>R z jd n2
def qUn (w:w1)(pa:pE):pE:=λenv n R=>pa env n λx jc n1=>w x λz=>R z jc n1
theorem Dk (hw:W2 K r w)(ha:EOk K T ta pa)(hb:ROk K T tb pb):EOk K T (tOp r ta tb) (qOp w pa pb):=λC G σ H env n R Q hK hT S hp k=>by
 refine ha C G σ H env n _ _ hK hT S hp λx jc n1 v H1 p1 S1 r1 f1=>?_;refine hb C G σ H1 jc n1 _ _ hK hT S1 p1 λy jd n2 u H2 p2 S2 r2 f2=>?_;subst hK;exact hw G H2 x y v u _ _ (λp hp=>S2.fresh hp) (.inl (r1.fr f2)) (r2.rd S2) p2 λz v' H' rz s rv=>k _ _ _ _ _ rz (S2.same s) rv ((f1.trans f2).trans (Fr.of s))
theorem Kz (hw:W2 K r w)(ha:ROk K T ta pa)(hb:ROk K T tb pb):EOk K T (tOp r ta tb) (qOpR w pa pb):=λC G σ H env n R Q hK hT S hp k=>by
 refine ha C G σ H env n _ _ hK hT S hp λx jc n1 v H1 p1 S1 r1 f1=>?_;refine hb C G σ H1 jc n1 _ _ hK hT S1 p1 λy jd n2 u H2 p2 S2 r2 f2=>?_;subst hK;obtain⟨e,p2⟩:=p2;subst e;exact hw G H2 x y v u _ _ (λp hp=>S2.fresh hp) ((r1.fr f2).rd S2) (r2.rd S2) p2 λz v' H' rz s rv=>k _ _ _ _ _ rz (S2.same s) rv ((f1.trans f2).trans (Fr.of s))
theorem ok_un (hw:W1 K r w)(ha:ROk K T ta pa):EOk K T (tUn r ta) (qUn w pa):=λC G σ H env n R Q hK hT S hp k=>by
 refine ha C G σ H env n _ _ hK hT S hp λx jc n1 v H1 p1 S1 r1 f1=>?_;subst hK;exact hw G H1 x v _ _ (λp hp=>S1.fresh hp) (r1.rd S1) p1 λz v' H' rz s rv=>k _ _ _ _ _ rz (S1.same s) rv (f1.trans (Fr.of s))
def wI (C:Int->Int->Prop)(g:Int->Int->PV):w2:=λx y R=>match x,y with|.int i,.int j=>C i j/\R (g i j)|_,_=>False
theorem W2.I (hg:∀i j G H,Rep K G H (g' i j) (g i j)):W2 K (rI C g) (wI C g'):=by
 intro G H x y v u R Q hf rx ry hw k;unfold wI at hw
 split at hw
 ·exact⟨_,_,rx.int,ry.int,hw.1,k _ _ _ hw.2 (Same.refl _) (hg _ _ _ _)⟩
 ·exact hw.elim
def wI0 (g:Int->Int->PV):w2:=λx y R=>match x,y with|.int i,.int j=>R (g i j)|_,_=>False
theorem W2.I0 (hg:∀i j G H,Rep K G H (g' i j) (g i j)):W2 K (rI0 g) (wI0 g'):=by
 intro G H x y v u R Q hf rx ry hw k;unfold wI0 at hw
 split at hw
 ·exact⟨_,_,rx.int,ry.int,k _ _ _ hw (Same.refl _) (hg _ _ _ _)⟩
 ·exact hw.elim
def wAdd:w2:=λx y R=>match x,y with
 |.int i,.int j=>R (.int (i+j))
 |.str i,.str j=>i.length+j.length<=1000000/\R (.str (i++j))
 |.tup xs,.tup ys=>xs.length+ys.length<=1000000/\R (.tup (xs++ys))
 |_,_=>False
theorem mil (h:n<=1000000):n<=B9:=M2 h (by rw[Q4];decide)
theorem mil' (h:n<=1000000):n<B9:=Bm h (by rw[Q4];decide)
theorem AG (hf:p∉G.M)(hn:H p=none)(r:Reps K G H xs vs):Rep K G (upd H p (.tup vs)) (.tup xs) (.ref p):=
 ⟨p,vs,rfl,⟨hf,E4⟩,r.same (Same.lay1 hn)⟩
theorem Dl (hf:p∉G.M)(hn:H p=none)(r:Reps K G H xs vs):Rep K G (upd H p (.lst vs)) (.lst xs) (.ref p):=
 ⟨p,vs,rfl,⟨hf,E4⟩,r.same (Same.lay1 hn)⟩
theorem W2.add:W2 K (λx y H Q=>(rI0 λi j=>.int (i+j)) x y H Q\/(∃i j,x=.str i/\y=.str j/\i.length+j.length<=B9/\Q (.str (i++j)) H)\/rCatA K x y H Q) wAdd:=by
 intro G H x y v u R Q hf rx ry hw k;unfold wAdd at hw
 split at hw
 ·exact .inl ⟨_,_,rx.int,ry.int,k _ _ _ hw (Same.refl _) rfl⟩
 ·exact .inr (.inl ⟨_,_,rx.str,ry.str,mil hw.1,k _ _ _ hw.2 (Same.refl _) rfl⟩)
 ·rename_i xs ys;obtain⟨a,vs,ea,ta,ra⟩:=rx.rep (λ_ z=>nomatch z);obtain⟨b,us,eb,tb,rb⟩:=ry.rep (λ_ z=>nomatch z);refine .inr (.inr ⟨a,b,vs,us,ea,eb,ta.sq,tb.sq,?_,λz=>?_,λz1 z2=>?_,λz1 z2 p hp=>?_⟩)
  ·rw[<- ra.length,<- rb.length];exact mil hw.1
  ·subst z;have:xs=[]:=Cv ra.length;subst this;exact k _ _ _ hw.2 (Same.refl _) ⟨b,us,rfl,tb,rb⟩
  ·subst z2;have:ys=[]:=Cv rb.length;subst this;exact k _ _ _ hw.2 (Same.refl _) (by rw[X3];exact⟨a,vs,rfl,ta,ra⟩)
  ·exact k _ _ _ hw.2 (Same.lay1 hp) (AG (hf p hp) hp (ra.append rb))
 ·exact hw.elim
theorem F8 (ha:QE T K F a pa)(hb:QE T K F b pb)(hK:∀z,(F z).K=K:=by intro _;rfl):QE T K F (.BinOp a .Add b pos) (qOp wAdd pa pb):=by
 obtain⟨ta,h1,h2⟩:=ha;obtain⟨tb,h3,h4⟩:=hb.r;exact⟨_,λz=>O1 (BI.or (Pr.or (hK z▸Qx))) (h1 z) (h3 z),Dk W2.add h2 h4⟩
theorem EL (ho:∀z,OpR (F z) (V0 op) r)(hw:W2 K r w)(ha:QE T K F a pa)(hb:QE T K F b pb):QE T K F (.BinOp a op b pos) (qOp w pa pb):=by
 obtain⟨ta,h1,h2⟩:=ha;obtain⟨tb,h3,h4⟩:=hb.r;exact⟨_,λz=>O1 (ho z) (h1 z) (h3 z),Dk hw h2 h4⟩
def wSub:w2:=wI0 λi j=>.int (i-j)
def wMul:w2:=λx y R=>match x,y with
 |.int i,.int j=>CMul i j/\R (.int (i*j))
 |.str i,.int n=>i.length<=100/\0<=n/\n<=1000/\R (.str (Txt.mul i n))
 |_,_=>False
def EM:w2:=wI CDiv λi j=>.int (i/j)
def wMod:w2:=wI (λ_ j=>0<j) λi j=>.int (i%j)
theorem W2.mul:W2 K (λx y H Q=>(rI CMul λi j=>.int (i*j)) x y H Q\/(∃i n,x=.str i/\y=.int n/\i.length<=100/\0<=n/\n<=1000/\Q (.str (Txt.mul i n)) H)) wMul:=by
 intro G H x y v u R Q hf rx ry hw k;unfold wMul at hw
 split at hw
 ·exact .inl ⟨_,_,rx.int,ry.int,hw.1,k _ _ _ hw.2 (Same.refl _) rfl⟩
 ·exact .inr ⟨_,_,rx.str,ry.int,hw.1,hw.2.1,hw.2.2.1,k _ _ _ hw.2.2.2 (Same.refl _) rfl⟩
 ·exact hw.elim
theorem X7 (ha:QE T K F a pa)(hb:QE T K F b pb):QE T K F (.BinOp a .Sub b pos) (qOp wSub pa pb):=EL (λ_=>op_sub) (W2.I0 λ_ _ _ _=>rfl) ha hb
theorem Hq (ha:QE T K F a pa)(hb:QE T K F b pb):QE T K F (.BinOp a .Mult b pos) (qOp wMul pa pb):=EL (λ_=>Dc.or Qu) W2.mul ha hb
theorem KA (ha:QE T K F a pa)(hb:QE T K F b pb):QE T K F (.BinOp a .FloorDiv b pos) (qOp EM pa pb):=EL (λ_=>GY) (W2.I λ_ _ _ _=>rfl) ha hb
theorem qe_mod (ha:QE T K F a pa)(hb:QE T K F b pb):QE T K F (.BinOp a .Mod b pos) (qOp wMod pa pb):=EL (λ_=>AC) (W2.I λ_ _ _ _=>rfl) ha hb
end
end Pu
end
section
namespace L2
open PySem PySem.Spec PyProof.Rows
def EqD (K:A9)(H:Hp):Nat->V->V->Bool->Prop
 |0,x,y,b=>T5 x=true/\T5 y=true/\b=eqV x y
 | d + 1, x, y, b => (T5 x = true /\ T5 y = true /\ b = eqV x y) \/
   (∃p q xs ys,∃f:Nat->Bool,x=.ref p/\y=.ref q/\SqT K H p xs/\SqT K H q ys/\(∀(j:Nat) x' y',xs[j]?=some x'->ys[j]?=some y'->EqD K H d x' y' (f j))/\b=((D3 (min xs.length ys.length)).all f&&xs.length == ys.length))\/
   (∃p q xs ys,∃f:Nat->Bool,x=.ref p/\y=.ref q/\SqL K H p xs/\SqL K H q ys/\(∀(j:Nat) x' y',xs[j]?=some x'->ys[j]?=some y'->EqD K H d x' y' (f j))/\b=((D3 (min xs.length ys.length)).all f&&xs.length == ys.length))\/
   (b=false/\((∃p xs,x=.ref p/\(SqT K H p xs\/SqL K H p xs)/\T5 y=true)\/(∃p xs,y=.ref p/\(SqT K H p xs\/SqL K H p xs)/\T5 x=true)\/
     (∃p q xs ys,x=.ref p/\y=.ref q/\SqT K H p xs/\SqL K H q ys)\/(∃p q xs ys,x=.ref p/\y=.ref q/\SqL K H p xs/\SqT K H q ys)))
section
variable {X:Cx}{jb:List (A1×Obj)}{σ:St}{H:Hp}{s:A5}
theorem X8 (I:Inv X jb σ H s)(h:SqT X.K H p xs)(h':SqL X.K H p ys):False:=by
 obtain⟨jf,r,⟨o,e,c,n,d⟩,_⟩:=I.tuple h;obtain⟨its',r',⟨o',n',e',c',_,d'⟩,_⟩:=I.list h';rw[e] at e';cases e';rw[c] at c';injection c' with c';exact absurd c' (by decide)
theorem EqD.refl (I:Inv X jb σ H s):∀(d:Nat) (x:V) (b:Bool),EqD X.K H d x x b->b=true:=by
 intro d
 induction d with
 | zero =>
  intro x b h;obtain⟨h1,_,rfl⟩:=h;exact Kt h1
 | succ d ih =>
  intro x b h;rcases h with⟨h1,_,rfl⟩|⟨p,q,xs,ys,f,e1,e2,s1,s2,hf,rfl⟩|⟨p,q,xs,ys,f,e1,e2,s1,s2,hf,rfl⟩|⟨rfl,h⟩
  ·exact Kt h1
  ·subst e1;cases e2;have:=I.tuple_inj s1 s2;subst this;simp only[Nat.min_self,beq_self_eq_true,Bool.and_true,R4,N9];intro j hj;exact ih _ _ (hf j xs[j] xs[j] (by simp[hj]) (by simp[hj]))
  ·subst e1;cases e2;have:=I.list_inj s1 s2;subst this;simp only[Nat.min_self,beq_self_eq_true,Bool.and_true,R4,N9];intro j hj;exact ih _ _ (hf j xs[j] xs[j] (by simp[hj]) (by simp[hj]))
  ·rcases h with⟨p,xs,rfl,_,h⟩|⟨p,xs,rfl,_,h⟩|⟨p,q,xs,ys,e1,e2,s1,s2⟩|⟨p,q,xs,ys,e1,e2,s1,s2⟩
   ·cases h
   ·cases h
   ·subst e1;cases e2;exact(X8 I s1 s2).elim
   ·subst e1;cases e2;exact(X8 I s2 s1).elim
theorem Inv.sqL (I:Inv X jb σ H s)(h:SqL X.K H p xs):∃jf:List A3,Vals xs jf/\s.heap.IsList p jf.toArray:=by
 obtain⟨jf,r,pl,_⟩:=I.list h;exact⟨jf,r,pl.isList⟩
theorem Inv.sqT (I:Inv X jb σ H s)(h:SqT X.K H p xs):∃jf:List A3,Vals xs jf/\s.heap.IsTuple p jf.toArray:=by
 obtain⟨jf,r,pl,_⟩:=I.tuple h;exact⟨jf,r,pl⟩
theorem KB (I:Inv X jb σ H s)(hu:A.units<cLine)(hq:SqT X.K H p xs\/SqL X.K H p xs)(ry:RelV y w)(fy:T5 y=true) :
   BD A s (.ref p) w false/\BC A s (.ref p) w true/\BD A s w (.ref p) false/\BC A s w (.ref p) true/\AB A s (.ref p) w false/\AB A s w (.ref p) false:=by
 rcases hq with hq|hq
 ·obtain⟨jf,r,il⟩:=I.sqT hq;cases y with
  |non=>cases ry;exact⟨.tuple_none il hu,.tuple_none il hu,.none_tuple il hu,.none_tuple il hu,.tuple_none il hu,.none_tuple il hu⟩
  |bl b=>cases ry;exact⟨.tuple_bool b il hu,.tuple_bool b il hu,.bool_tuple b il hu,.bool_tuple b il hu,.tuple_bool b il hu,.bool_tuple b il hu⟩
  |int i=>obtain⟨t,rfl⟩:=ry;exact⟨.tuple_int i t il hu,.tuple_int i t il hu,.int_tuple i t il hu,.int_tuple i t il hu,.tuple_int i t il hu,.int_tuple i t il hu⟩
  |str i=>obtain⟨t,rfl⟩:=ry;exact⟨.tuple_str i t il hu,.tuple_str i t il hu,.str_tuple i t il hu,.str_tuple i t il hu,.tuple_str i t il hu,.str_tuple i t il hu⟩
  |_=>cases fy
 ·obtain⟨jf,r,il⟩:=I.sqL hq;cases y with
  |non=>cases ry;exact⟨.list_none il hu,.list_none il hu,.none_list il hu,.none_list il hu,.list_none il hu,.none_list il hu⟩
  |bl b=>cases ry;exact⟨.list_bool b il hu,.list_bool b il hu,.bool_list b il hu,.bool_list b il hu,.list_bool b il hu,.bool_list b il hu⟩
  |int i=>obtain⟨t,rfl⟩:=ry;exact⟨.list_int i t il hu,.list_int i t il hu,.int_list i t il hu,.int_list i t il hu,.list_int i t il hu,.int_list i t il hu⟩
  |str i=>obtain⟨t,rfl⟩:=ry;exact⟨.list_str i t il hu,.list_str i t il hu,.str_list i t il hu,.str_list i t il hu,.list_str i t il hu,.str_list i t il hu⟩
  |_=>cases fy
theorem KC (rx:RelV x u)(ry:RelV y w)(fx:T5 x=true)(fy:T5 y=true):BD A s u w (eqV x y)/\BC A s u w (!eqV x y):=by
 cases x with
 | non =>
  cases rx;cases y with
  |non=>cases ry;exact⟨.none_none,.none_none⟩
  |bl j=>cases ry;exact⟨.none_bool j,.none_bool j⟩
  |int j=>obtain⟨t,rfl⟩:=ry;exact⟨.none_int j t,.none_int j t⟩
  |str j=>obtain⟨t,rfl⟩:=ry;exact⟨.none_str j t,.none_str j t⟩
  |_=>cases fy
 | bl i =>
  cases rx;cases y with
  |non=>cases ry;exact⟨.bool_none i,.bool_none i⟩
  |bl j=>cases ry;exact⟨.bool_bool i j,.bool_bool i j⟩
  |int j=>obtain⟨t,rfl⟩:=ry;exact⟨.bool_int i j t,.bool_int i j t⟩
  |str j=>obtain⟨t,rfl⟩:=ry;exact⟨.bool_str i j t,.bool_str i j t⟩
  |_=>cases fy
 | int i =>
  obtain⟨ti,rfl⟩:=rx;cases y with
  |non=>cases ry;exact⟨.int_none i ti,.int_none i ti⟩
  |bl j=>cases ry;exact⟨.int_bool i ti j,.int_bool i ti j⟩
  |int j=>obtain⟨t,rfl⟩:=ry;exact⟨.int_int i ti j t,.int_int i ti j t⟩
  |str j=>obtain⟨t,rfl⟩:=ry;exact⟨.int_str i ti j t,.int_str i ti j t⟩
  |_=>cases fy
 | str i =>
  obtain⟨ti,rfl⟩:=rx;cases y with
  |non=>cases ry;exact⟨.str_none i ti,.str_none i ti⟩
  |bl j=>cases ry;exact⟨.str_bool i ti j,.str_bool i ti j⟩
  |int j=>obtain⟨t,rfl⟩:=ry;exact⟨.str_int i ti j t,.str_int i ti j t⟩
  |str j=>obtain⟨t,rfl⟩:=ry;exact⟨.str_str i ti j t,.str_str i ti j t⟩
  |_=>cases fy
 |_=>cases fx
theorem Dm (A:D5):A.in1.units=A.units+1:=rfl
theorem EqD.at (I:Inv X jb σ H s):∀(d:Nat) (A:D5) (x y:V) (u w:A3) (b:Bool),A.units+d<cLine->RelV x u->RelV y w->EqD X.K H d x y b->AB A s u w b/\BD A s u w b/\BC A s u w (!b):=by
 intro d
 induction d with
 | zero =>
  intro A x y u w b hu rx ry h;obtain⟨h1,h2,rfl⟩:=h;exact⟨Kh rx ry h1 h2,KC rx ry h1 h2⟩
 | succ d ih =>
  intro A x y u w b hu rx ry h;have hu0:A.units<cLine:=by omega
  have hu1:A.in1.units+d<cLine:=by rw[Dm];omega
  have hrefl:=EqD.refl I (d+1) x b;rcases h with⟨h1,h2,rfl⟩|⟨p,q,xs,ys,f,e1,e2,s1,s2,hf,eb⟩|⟨p,q,xs,ys,f,e1,e2,s1,s2,hf,eb⟩|⟨rfl,h⟩
  ·exact⟨Kh rx ry h1 h2,KC rx ry h1 h2⟩
  ·subst e1 e2;cases rx;cases ry;obtain⟨jf,r1,t1⟩:=I.sqT s1;obtain⟨its2,r2,t2⟩:=I.sqT s2;have z1:jf.toArray.size=xs.length:=by simpa using r1.length.symm
   have z2:its2.toArray.size=ys.length:=by simpa using r2.length.symm
   have he:∀j (h1:j<jf.toArray.size) (h2:j<its2.toArray.size),AB A.in1 s jf.toArray[j] its2.toArray[j] (f j):=by
    intro j h1 h2;obtain⟨x',e1,q1⟩:=r1.getE (j:=j) (by omega);obtain⟨y',e2,q2⟩:=r2.getE (j:=j) (by grind);exact(ih A.in1 x' y' _ _ (f j) hu1 (by grind) (by grind) (hf j x' y' e1 e2)).1
   have rc:BD A s (.ref p) (.ref q) b:=by
    rw[eb,<- z1,<- z2];exact SeqAt.RcAt.tuples t1 t2 hu0 he
   have rn:BC A s (.ref p) (.ref q) (!b):=by
    rw[eb,<- z1,<- z2];exact SeqAt.RcNeAt.tuples t1 t2 hu0 he
   refine⟨?_,rc,rn⟩
   by_cases hpq:p=q
   ·subst hpq;rw[hrefl (.inr (.inl ⟨p,p,xs,ys,f,rfl,rfl,s1,s2,hf,eb⟩))];exact .same _
   ·exact .of_refs hpq rc
  ·subst e1 e2;cases rx;cases ry;obtain⟨jf,r1,t1⟩:=I.sqL s1;obtain⟨its2,r2,t2⟩:=I.sqL s2;have z1:jf.toArray.size=xs.length:=by simpa using r1.length.symm
   have z2:its2.toArray.size=ys.length:=by simpa using r2.length.symm
   have he:∀j (h1:j<jf.toArray.size) (h2:j<its2.toArray.size),AB A.in1 s jf.toArray[j] its2.toArray[j] (f j):=by
    intro j h1 h2;obtain⟨x',e1,q1⟩:=r1.getE (j:=j) (by omega);obtain⟨y',e2,q2⟩:=r2.getE (j:=j) (by grind);exact(ih A.in1 x' y' _ _ (f j) hu1 (by grind) (by grind) (hf j x' y' e1 e2)).1
   have rr:BD A s (.ref p) (.ref q) b/\BC A s (.ref p) (.ref q) (!b):=by
    by_cases hl:xs.length=ys.length
    ·have e3:b=(D3 jf.toArray.size).all f:=by rw[eb,hl,Nat.min_self,beq_self_eq_true,Bool.and_true,z1,hl]
     rw[e3];exact⟨SeqAt.RcAt.lists t1 t2 (by grind) hu0 he,SeqAt.RcNeAt.lists t1 t2 (by grind) hu0 he⟩
    ·have e3:b=false:=by
      rw[eb];have:(xs.length == ys.length)=false:=by simpa using hl
      rw[this,CO]
     rw[e3];have e4:(jf.toArray.size != its2.toArray.size)=true:=by rw[z1,z2];simpa using hl
     exact⟨SeqAt.RcAt.lists_lengths t1 t2 e4 hu0,SeqAt.RcNeAt.lists_lengths t1 t2 e4 hu0⟩
   refine⟨?_,rr⟩
   by_cases hpq:p=q
   ·subst hpq;rw[hrefl (.inr (.inr (.inl ⟨p,p,xs,ys,f,rfl,rfl,s1,s2,hf,eb⟩)))];exact .same _
   ·exact .of_refs hpq rr.1
  ·rcases h with⟨p,xs,rfl,hq,fy⟩|⟨p,xs,rfl,hq,fx⟩|⟨p,q,xs,ys,e1,e2,s1,s2⟩|⟨p,q,xs,ys,e1,e2,s1,s2⟩
   ·cases rx;obtain⟨a1,a2,a3,a4,a5,a6⟩:=KB I hu0 hq ry fy;exact⟨a5,a1,a2⟩
   ·cases ry;obtain⟨a1,a2,a3,a4,a5,a6⟩:=KB I hu0 hq rx fx;exact⟨a6,a3,a4⟩
   ·subst e1 e2;cases rx;cases ry;obtain⟨jf,r1,t1⟩:=I.sqT s1;obtain⟨its2,r2,t2⟩:=I.sqL s2;exact⟨.tuple_list t1 t2 hu0,.tuple_list t1 t2 hu0,.tuple_list t1 t2 hu0⟩
   ·subst e1 e2;cases rx;cases ry;obtain⟨jf,r1,t1⟩:=I.sqL s1;obtain⟨its2,r2,t2⟩:=I.sqT s2;exact⟨.list_tuple t1 t2 hu0,.list_tuple t1 t2 hu0,.list_tuple t1 t2 hu0⟩
end
section
variable {X:Cx}
def rEqD (K:A9)(d:Nat)(neg:Bool):R2:=λx y H Q=>∃b,EqD K H d x y b/\Q (.bl (if neg then !b else b)) H
theorem op_eqD (d:Nat)(hu:X.A.units+d<cLine):OpR X (L7 .Eq) (rEqD X.K d false):=by
 intro jb s σ H x y v u Q I rx ry h;obtain⟨b,hb,q⟩:=h;exact(hb.at I d X.A x y v u b hu rx ry).2.1 X.prog X.w X.xe _ ⟨.bl _,H,I,rfl,q⟩
theorem op_neD (d:Nat)(hu:X.A.units+d<cLine):OpR X (L7 .NotEq) (rEqD X.K d true):=by
 intro jb s σ H x y v u Q I rx ry h;obtain⟨b,hb,q⟩:=h;exact(hb.at I d X.A x y v u b hu rx ry).2.2 X.prog X.w X.xe _ ⟨.bl _,H,I,rfl,q⟩
def rInD (K:A9)(d:Nat)(neg:Bool):R2:=λx y H Q=>∃p ys,∃f:Nat->Bool,y=.ref p/\(SqL K H p ys\/SqT K H p ys)/\(∀(j:Nat) z,ys[j]?=some z->EqD K H d z x (f j))/\Q (.bl (if neg then !((D3 ys.length).any f) else(D3 ys.length).any f)) H
theorem KD (h:∀j,j<n->f j=g j):(D3 n).all f=(D3 n).all g:=by
 rw[Y9,R4,R4];constructor
 ·intro k j hj;rw[<- h j (N9.mp hj)];exact k j hj
 ·intro k j hj;rw[h j (N9.mp hj)];exact k j hj
theorem EqD.det (I:Inv X jb σ H s):∀(d:Nat) (x y:V) (b b':Bool),EqD X.K H d x y b->EqD X.K H d x y b'->b=b':=by
 intro d
 induction d with
 | zero =>
  intro x y b b' h h';rw[h.2.2,h'.2.2]
 | succ d ih =>
  intro x y b b' h h';rcases h with⟨h1,h2,rfl⟩|⟨p,q,xs,ys,f,rfl,rfl,s1,s2,hf,rfl⟩|⟨p,q,xs,ys,f,rfl,rfl,s1,s2,hf,rfl⟩|⟨rfl,h⟩
  ·rcases h' with⟨h1',h2',rfl⟩|⟨p,q,xs,ys,f,rfl,rfl,s1,s2,hf,rfl⟩|⟨p,q,xs,ys,f,rfl,rfl,s1,s2,hf,rfl⟩|⟨rfl,h⟩
   ·rfl
   ·cases h1
   ·cases h1
   ·rcases h with⟨p,xs,rfl,_,h⟩|⟨p,xs,rfl,_,h⟩|⟨p,q,xs,ys,rfl,rfl,s1,s2⟩|⟨p,q,xs,ys,rfl,rfl,s1,s2⟩
    ·cases h1
    ·cases h2
    ·cases h1
    ·cases h1
  ·rcases h' with⟨h1',h2',rfl⟩|⟨p',q',xs',ys',f',e1,e2,s1',s2',hf',rfl⟩|⟨p',q',xs',ys',f',e1,e2,s1',s2',hf',rfl⟩|⟨rfl,h⟩
   ·cases h1'
   ·cases e1;cases e2;have:=I.tuple_inj s1 s1';subst this;have:=I.tuple_inj s2 s2';subst this;rw[KD λj hj=>ih _ _ _ _ (hf j (xs[j]'(by omega)) (ys[j]'(by omega)) (D9 _) (D9 _)) (hf' j (xs[j]'(by omega)) (ys[j]'(by omega)) (D9 _) (D9 _))]
   ·cases e1;exact(X8 I s1 s1').elim
   ·rcases h with⟨p',xs',e1,_,h⟩|⟨p',xs',e1,_,h⟩|⟨p',q',xs',ys',e1,e2,s1',s2'⟩|⟨p',q',xs',ys',e1,e2,s1',s2'⟩
    ·cases h
    ·cases h
    ·cases e2;exact(X8 I s2 s2').elim
    ·cases e1;exact(X8 I s1 s1').elim
  ·rcases h' with⟨h1',h2',rfl⟩|⟨p',q',xs',ys',f',e1,e2,s1',s2',hf',rfl⟩|⟨p',q',xs',ys',f',e1,e2,s1',s2',hf',rfl⟩|⟨rfl,h⟩
   ·cases h1'
   ·cases e1;exact(X8 I s1' s1).elim
   ·cases e1;cases e2;have:=I.list_inj s1 s1';subst this;have:=I.list_inj s2 s2';subst this;rw[KD λj hj=>ih _ _ _ _ (hf j (xs[j]'(by omega)) (ys[j]'(by omega)) (D9 _) (D9 _)) (hf' j (xs[j]'(by omega)) (ys[j]'(by omega)) (D9 _) (D9 _))]
   ·rcases h with⟨p',xs',e1,_,h⟩|⟨p',xs',e1,_,h⟩|⟨p',q',xs',ys',e1,e2,s1',s2'⟩|⟨p',q',xs',ys',e1,e2,s1',s2'⟩
    ·cases h
    ·cases h
    ·cases e1;exact(X8 I s1' s1).elim
    ·cases e2;exact(X8 I s2' s2).elim
  ·rcases h' with⟨h1',h2',rfl⟩|⟨p',q',xs',ys',f',rfl,rfl,s1',s2',hf',rfl⟩|⟨p',q',xs',ys',f',rfl,rfl,s1',s2',hf',rfl⟩|⟨rfl,h'⟩
   ·rcases h with⟨p,xs,rfl,_,h⟩|⟨p,xs,rfl,_,h⟩|⟨p,q,xs,ys,rfl,rfl,s1,s2⟩|⟨p,q,xs,ys,rfl,rfl,s1,s2⟩
    ·cases h1'
    ·cases h2'
    ·cases h1'
    ·cases h1'
   ·rcases h with⟨p,xs,e1,_,h⟩|⟨p,xs,e1,_,h⟩|⟨p,q,xs,ys,e1,e2,s1,s2⟩|⟨p,q,xs,ys,e1,e2,s1,s2⟩
    ·cases h
    ·cases h
    ·cases e2;exact(X8 I s2' s2).elim
    ·cases e1;exact(X8 I s1' s1).elim
   ·rcases h with⟨p,xs,e1,_,h⟩|⟨p,xs,e1,_,h⟩|⟨p,q,xs,ys,e1,e2,s1,s2⟩|⟨p,q,xs,ys,e1,e2,s1,s2⟩
    ·cases h
    ·cases h
    ·cases e1;exact(X8 I s1 s1').elim
    ·cases e2;exact(X8 I s2 s2').elim
   ·rfl
open Classical in
theorem EN (I:Inv X jb σ H s)(hu:A.units+d<cLine)(r:Vals ys jf)(rx:RelV x v)(hf:∀(j:Nat) z,ys[j]?=some z->EqD X.K H d z x (f j)) :
   ∃e:A3->Bool,(∀y,y∈jf->AB A s y v (e y))/\jf.any e=(D3 ys.length).any f:=by
 have key:∀(j j':Nat) (z:A3),jf[j]?=some z->jf[j']?=some z->f j=f j':=by
  intro j j' z h h';obtain⟨hj,_⟩:=F6.mp h;obtain⟨hj',_⟩:=F6.mp h';obtain⟨w1,a1,b1⟩:=r.getE hj;obtain⟨w2,a2,b2⟩:=r.getE hj';rw[D9 hj] at h;rw[D9 hj'] at h';cases h;rw[M9 h'] at b2;have:=b1.inj b2;subst this;exact EqD.det I d _ _ _ _ (hf j _ a1) (hf j' _ a2)
 let e:A3->Bool:=λy=>decide (∃j,jf[j]?=some y/\f j=true)
 have he:∀(j:Nat) (y:A3),jf[j]?=some y->e y=f j:=by
  intro j y h;show decide _=_;cases hb:f j with
  |true=>exact jp ⟨j,h,hb⟩
  |false=>exact jq λ⟨j',h1,h2⟩=>by rw[key j j' y h h1,h2] at hb;cases hb
 refine⟨e,λy hy=>?_,?_⟩
 ·obtain⟨j,hj,rfl⟩:=Eh hy;obtain⟨w1,a1,b1⟩:=r.getE hj;rw[he j _ (D9 hj)];exact((hf j w1 a1).at I d A w1 x _ v (f j) hu b1 rx).1
 ·have hl:=r.length;rw[Y9,l4,l4];constructor
  ·rintro⟨y,hy,h⟩;obtain⟨j,hj,rfl⟩:=Eh hy;exact⟨j,N9.mpr (by omega),by rw[<- he j _ (D9 hj)];exact h⟩
  ·rintro⟨j,hj,h⟩;have hj':j<jf.length:=by have:=N9.mp hj;omega
   exact⟨jf[j],Bi hj',by rw[he j _ (D9 hj')];exact h⟩
theorem op_inD (d:Nat)(hu:X.A.units+(d+1)<cLine):OpR X (L7 .In) (rInD X.K d false):=by
 intro jb s σ H x y v u Q I rx ry h;obtain⟨p,ys,f,rfl,hq,hf,q⟩:=h;cases ry;rcases hq with hq|hq
 ·obtain⟨jf,r,il⟩:=I.sqL hq;obtain⟨e,h1,h2⟩:=EN I (A:=X.A.in1) (by rw[Dm];omega) r rx hf;refine SeqAt.in_listAt e il (λy hy=>h1 y (by simpa using hy)) ⟨.bl _,H,I,rfl,?_⟩;rw[show jf.toArray.any e=jf.any e by simp,h2];exact q
 ·obtain⟨jf,r,il⟩:=I.sqT hq;obtain⟨e,h1,h2⟩:=EN I (A:=X.A.in1) (by rw[Dm];omega) r rx hf;refine SeqAt.in_tupleAt e il (λy hy=>h1 y (by simpa using hy)) ⟨.bl _,H,I,rfl,?_⟩;rw[show jf.toArray.any e=jf.any e by simp,h2];exact q
theorem Qz (d:Nat)(hu:X.A.units+(d+1)<cLine):OpR X (L7 .NotIn) (rInD X.K d true):=by
 intro jb s σ H x y v u Q I rx ry h;obtain⟨p,ys,f,rfl,hq,hf,q⟩:=h;cases ry;rcases hq with hq|hq
 ·obtain⟨jf,r,il⟩:=I.sqL hq;obtain⟨e,h1,h2⟩:=EN I (A:=X.A.in1) (by rw[Dm];omega) r rx hf;refine SeqAt.notIn_listAt e il (λy hy=>h1 y (by simpa using hy)) ⟨.bl _,H,I,rfl,?_⟩;rw[show jf.toArray.any e=jf.any e by simp,h2];exact q
 ·obtain⟨jf,r,il⟩:=I.sqT hq;obtain⟨e,h1,h2⟩:=EN I (A:=X.A.in1) (by rw[Dm];omega) r rx hf;refine SeqAt.notIn_tupleAt e il (λy hy=>h1 y (by simpa using hy)) ⟨.bl _,H,I,rfl,?_⟩;rw[show jf.toArray.any e=jf.any e by simp,h2];exact q
end
end L2
namespace Pu
open PySem PySem.Spec L2
def y4:PV->Bool
 |.non=>true
 |.bl _=>true
 |.int _=>true
 |.str _=>true
 |_=>false
def cmpb:Nat->PV->Bool
 |0,x=>y4 x
 |d+1,.tup xs=>xs.all (cmpb d)
 |d+1,.lst xs=>xs.all (cmpb d)
 |_+1,x=>y4 x
mutual
def eqP:PV->PV->Bool
 |.non,.non=>true
 |.bl a,.bl b=>a == b
 |.bl a,.int b=>(if a then 1 else 0) == b
 |.int a,.bl b=>a == (if b then 1 else 0)
 |.int a,.int b=>a == b
 |.str a,.str b=>a == b
 |.tup xs,.tup ys=>eqPs xs ys
 |.lst xs,.lst ys=>eqPs xs ys
 |_,_=>false
def eqPs:List PV->List PV->Bool
 |[],[]=>true
 |x::xs,y::ys=>eqP x y&&eqPs xs ys
 |_,_=>false
end
theorem Hr:∀(xs ys:List PV),((D3 (min xs.length ys.length)).all (λj=>match xs[j]?,ys[j]? with|some x,some y=>eqP x y|_,_=>false)&&xs.length == ys.length)=eqPs xs ys
 |[],[]=>rfl
 |[],_::_=>rfl
 |_::_,[]=>rfl
 | x :: xs, y :: ys => by
  have ih:=Hr xs ys;show _=(eqP x y&&eqPs xs ys);rw[<- ih];simp only[E8,Nat.succ_min_succ,List.range_succ_eq_map,List.all_cons,List.all_map,Function.comp_def,GD,Cw];rw[Bool.and_assoc]
  congr 1
  simp
end Pu
end
section
namespace Pu
open PySem PySem.Spec L2
section
variable {K:A9}{G:Gh}{H:Hp}
inductive Sort3 (K:A9)(G:Gh)(H:Hp)(d:Nat)(x:PV)(v:V):Prop where
 |fl (h:T5 v=true) (s:y4 x=true)
 |tp (p:A1) (xs:List PV) (vs:List V) (e:x=.tup xs) (ev:v=.ref p) (h:SqT K H p vs) (r:Reps K G H xs vs) (c:xs.all (cmpb d)=true)
 |ls (p:A1) (xs:List PV) (vs:List V) (e:x=.lst xs) (ev:v=.ref p) (h:SqL K H p vs) (r:Reps K G H xs vs) (c:xs.all (cmpb d)=true)
theorem BN (s:y4 x=true)(h:RdV K G H x v):T5 v=true:=by
 cases x with
 |non=>rw[h.non];rfl
 |bl b=>rw[h.bl];rfl
 |int b=>rw[h.int];rfl
 |str b=>rw[h.str];rfl
 |_=>cases s
theorem EO (c:cmpb (d+1) x=true)(h:RdV K G H x v):Sort3 K G H d x v:=by
 cases x with
 | tup xs =>
  obtain⟨a,vs,e,t,r⟩:=h.tup;exact .tp a xs vs rfl e t r c
 | lst xs =>
  obtain⟨a,vs,e,t,r⟩:=h.lst;exact .ls a xs vs rfl e t r c
 |non=>exact .fl (BN c h) c
 |bl _=>exact .fl (BN c h) c
 |int _=>exact .fl (BN c h) c
 |str _=>exact .fl (BN c h) c
 |ty _=>cases c
 |pot _=>cases c
 |scr _=>cases c
 |dct _ _=>cases c
 |fdt _ _=>cases c
theorem KF (sx:y4 x=true)(sy:y4 y=true)(hx:RdV K G H x v)(hy:RdV K G H y u):eqP x y=eqV v u:=by
 cases x with
 | non =>
  cases hx.non;cases y with
  |non=>cases hy.non;rfl
  |bl j=>cases hy.bl;rfl
  |int j=>cases hy.int;rfl
  |str j=>cases hy.str;rfl
  |_=>cases sy
 | bl i =>
  cases hx.bl;cases y with
  |non=>cases hy.non;rfl
  |bl j=>cases hy.bl;rfl
  |int j=>cases hy.int;rfl
  |str j=>cases hy.str;rfl
  |_=>cases sy
 | int i =>
  cases hx.int;cases y with
  |non=>cases hy.non;rfl
  |bl j=>cases hy.bl;rfl
  |int j=>cases hy.int;rfl
  |str j=>cases hy.str;rfl
  |_=>cases sy
 | str i =>
  cases hx.str;cases y with
  |non=>cases hy.non;rfl
  |bl j=>cases hy.bl;rfl
  |int j=>cases hy.int;rfl
  |str j=>cases hy.str;rfl
  |_=>cases sy
 |_=>cases sx
theorem EQ (sy:y4 y=true):eqP (.tup xs) y=false/\eqP (.lst xs) y=false/\eqP y (.tup xs)=false/\eqP y (.lst xs)=false:=by
 cases y <;> first|exact⟨rfl,rfl,rfl,rfl⟩|cases sy
theorem Hs:∀(d:Nat) (x y:PV) (v u:V),cmpb d x=true->cmpb d y=true->RdV K G H x v->RdV K G H y u->EqD K H d v u (eqP x y):=by
 intro d
 induction d with
 |zero=>intro x y v u cx cy hx hy;exact⟨BN cx hx,BN cy hy,KF cx cy hx hy⟩
 | succ d ih =>
  intro x y v u cx cy hx hy
  have el:∀(xs ys:List PV) (vs us:List V),Reps K G H xs vs->Reps K G H ys us->xs.all (cmpb d)=true->ys.all (cmpb d)=true->∀(j:Nat) x' y',vs[j]?=some x'->us[j]?=some y'->EqD K H d x' y' (match xs[j]?,ys[j]? with|some x,some y=>eqP x y|_,_=>false):=by
   intro xs ys vs us r1 r2 c1 c2 j x' y' e1 e2;obtain⟨x1,ex,rx⟩:=r1.get e1;obtain⟨y1,ey,ry⟩:=r2.get e2;rw[ex,ey];exact ih x1 y1 x' y' (R4.mp c1 x1 (J5 ex)) (R4.mp c2 y1 (J5 ey)) (.inl rx) (.inl ry)
  cases EO cx hx with
  | fl fx sx =>
   cases EO cy hy with
   |fl fy sy=>exact .inl ⟨fx,fy,KF sx sy hx hy⟩
   |tp q ys us e ev h r c=>subst e;exact .inr (.inr (.inr ⟨(EQ sx).2.2.1,.inr (.inl ⟨q,us,ev,.inl h,fx⟩)⟩))
   |ls q ys us e ev h r c=>subst e;exact .inr (.inr (.inr ⟨(EQ sx).2.2.2,.inr (.inl ⟨q,us,ev,.inr h,fx⟩)⟩))
  | tp p xs vs e ev h r c =>
   subst e;cases EO cy hy with
   |fl fy sy=>exact .inr (.inr (.inr ⟨(EQ sy).1,.inl ⟨p,vs,ev,.inl h,fy⟩⟩))
   | tp q ys us e2 ev2 h2 r2 c2 =>
    subst e2;refine .inr (.inl ⟨p,q,vs,us,_,ev,ev2,h,h2,el xs ys vs us r r2 c c2,?_⟩);rw[<- r.length,<- r2.length];exact(Hr xs ys).symm
   |ls q ys us e2 ev2 h2 r2 c2=>subst e2;exact .inr (.inr (.inr ⟨rfl,.inr (.inr (.inl ⟨p,q,vs,us,ev,ev2,h,h2⟩))⟩))
  | ls p xs vs e ev h r c =>
   subst e;cases EO cy hy with
   |fl fy sy=>exact .inr (.inr (.inr ⟨(EQ sy).2.1,.inl ⟨p,vs,ev,.inr h,fy⟩⟩))
   |tp q ys us e2 ev2 h2 r2 c2=>subst e2;exact .inr (.inr (.inr ⟨rfl,.inr (.inr (.inr ⟨p,q,vs,us,ev,ev2,h,h2⟩))⟩))
   | ls q ys us e2 ev2 h2 r2 c2 =>
    subst e2;refine .inr (.inr (.inl ⟨p,q,vs,us,_,ev,ev2,h,h2,el xs ys vs us r r2 c c2,?_⟩));rw[<- r.length,<- r2.length];exact(Hr xs ys).symm
end
section
variable {T:PotK}{ι:Type}{K:A9}{F:ι->Cx}{e a b c:Expr}{es rest:List Expr}{pe pa pb pc:pE}{pos:Pos}
def grd (b:Bool)(P:Prop):Prop:=match b with|true=>P|false=>False
theorem grd_t {P:Prop}:grd true P=P:=rfl
theorem ER {b:Bool}{P:Prop}(h:b=true)(p:P):grd b P:=by subst h;exact p
theorem ET {b:Bool}{P:Prop}(h:grd b P):b=true:=by grind [grd]
theorem BO {b:Bool}{P:Prop}(h:grd b P):P:=by cases b;exact h.elim;exact h
theorem gd2 {a b:Bool}{P:Prop}(h1:a=true)(h2:b=true)(p:P):grd a (grd b P):=ER h1 (ER h2 p)
def wEq (d:Nat):w2:=λx y R=>grd (cmpb d x) (grd (cmpb d y) (R (.bl (eqP x y))))
def wNe (d:Nat):w2:=λx y R=>grd (cmpb d x) (grd (cmpb d y) (R (.bl (!eqP x y))))
theorem W2.eq (d:Nat):W2 K (rEqD K d false) (wEq d):=λG H x y v u R Q hf rx ry hw k=>⟨_,Hs d x y v u (ET hw) (ET (BO hw)) rx ry,k _ _ _ (BO (BO hw)) (Same.refl _) rfl⟩
theorem W2.ne (d:Nat):W2 K (rEqD K d true) (wNe d):=λG H x y v u R Q hf rx ry hw k=>⟨_,Hs d x y v u (ET hw) (ET (BO hw)) rx ry,k _ _ _ (BO (BO hw)) (Same.refl _) rfl⟩
def memP (x:PV)(ys:List PV):Bool:=ys.any λy=>eqP y x
def wIn (d:Nat)(neg:Bool):w2:=λx y R=>match x,y with
 |.str i,.str j=>R (.bl (if neg then !(!(Bx j i 0 j.length 1).isEmpty) else !(Bx j i 0 j.length 1).isEmpty))
 |x,.lst ys=>cmpb d x=true/\ys.all (cmpb d)=true/\R (.bl (if neg then !memP x ys else memP x ys))
 |x,.tup ys=>cmpb d x=true/\ys.all (cmpb d)=true/\R (.bl (if neg then !memP x ys else memP x ys))
 |_,_=>False
theorem KG {x:PV}:∀ys:List PV,((D3 ys.length).any λj=>match ys[j]? with|some y=>eqP y x|none=>false)=memP x ys
 |[]=>rfl
 | y :: ys => by
  have ih:=KG (x:=x) ys;show _=(eqP y x||memP x ys);rw[<- ih];simp only[E8,List.range_succ_eq_map,List.any_cons,List.any_map,Function.comp_def,GD,Cw]
theorem W2.in_ {K:A9}(d:Nat)(neg:Bool){r:R2}(hr:∀x y H Q,(∃i j,x=.str i/\y=.str j/\Q (.bl (if neg then !(!(Bx j i 0 j.length 1).isEmpty) else !(Bx j i 0 j.length 1).isEmpty)) H)\/rInD K d neg x y H Q->r x y H Q):W2 K r (wIn d neg):=by
 intro G H x y v u R Q hf rx ry hw k;refine hr _ _ _ _ ?_
 have seq:∀(ys:List PV) (p:A1) (us:List V),u=.ref p->(SqL K H p us\/SqT K H p us)->Reps K G H ys us->cmpb d x=true/\ys.all (cmpb d)=true/\R (.bl (if neg then !memP x ys else memP x ys))->rInD K d neg v u H Q:=by
  intro ys p us eu hq r h;refine⟨p,us,λj=>match ys[j]? with|some y=>eqP y x|none=>false,eu,hq,λj z ez=>?_,?_⟩
  ·obtain⟨y1,ey,ry⟩:=r.get ez;dsimp only;rw[ey];exact Hs d y1 x z v (R4.mp h.2.1 y1 (J5 ey)) h.1 (.inl ry) rx
  ·rw[<- r.length,KG];exact k _ _ _ h.2.2 (Same.refl _) rfl
 unfold wIn at hw
 split at hw
 ·exact .inl ⟨_,_,rx.str,ry.str,k _ _ _ hw (Same.refl _) rfl⟩
 ·obtain⟨p,us,eu,hq,r⟩:=ry.lst;exact .inr (seq _ p us eu (.inl hq) r hw)
 ·obtain⟨p,us,eu,hq,r⟩:=ry.tup;exact .inr (seq _ p us eu (.inr hq) r hw)
 ·exact hw.elim
def wLt:w2:=λx y R=>match x,y with|.int i,.int j=>R (.bl (decide (i<j)))|.str i,.str j=>R (.bl (decide (i.cps.toList<j.cps.toList)))|_,_=>False
def wLe:w2:=λx y R=>match x,y with|.int i,.int j=>R (.bl (decide (i<=j)))|.str i,.str j=>R (.bl (!decide (j.cps.toList<i.cps.toList)))|_,_=>False
def wGt:w2:=wI0 λi j=>.bl (decide (j<i))
theorem W2.lt:W2 K (λx y H Q=>(rI0 λi j=>.bl (decide (i<j))) x y H Q\/∃i j,x=.str i/\y=.str j/\Q (.bl (decide (i.cps.toList<j.cps.toList))) H) wLt:=by
 intro G H x y v u R Q hf rx ry hw k;unfold wLt at hw
 split at hw
 ·exact .inl ⟨_,_,rx.int,ry.int,k _ _ _ hw (Same.refl _) rfl⟩
 ·exact .inr ⟨_,_,rx.str,ry.str,k _ _ _ hw (Same.refl _) rfl⟩
 ·exact hw.elim
theorem W2.le:W2 K (λx y H Q=>(rI0 λi j=>.bl (decide (i<=j))) x y H Q\/∃i j,x=.str i/\y=.str j/\Q (.bl (!decide (j.cps.toList<i.cps.toList))) H) wLe:=by
 intro G H x y v u R Q hf rx ry hw k;unfold wLe at hw
 split at hw
 ·exact .inl ⟨_,_,rx.int,ry.int,k _ _ _ hw (Same.refl _) rfl⟩
 ·exact .inr ⟨_,_,rx.str,ry.str,k _ _ _ hw (Same.refl _) rfl⟩
 grind
def Dn:PV->Bool
 |.non=>true
 |_=>false
def wIsN:w2:=λx y R=>match y with|.non=>R (.bl (Dn x))|_=>False
def AH:w2:=λx y R=>match y with|.non=>R (.bl (!Dn x))|_=>False
theorem isnon {K:A9}{G:Gh}{H:Hp}{x:PV}{v:V}(h:RdV K G H x v):decide (v=.non)=Dn x:=by
 cases x with
 |non=>rw[h.non];rfl
 |bl b=>rw[h.bl];rfl
 |int b=>rw[h.int];rfl
 |str b=>rw[h.str];rfl
 |tup xs=>obtain⟨a,vs,e,_⟩:=h.tup;rw[e];rfl
 |lst xs=>obtain⟨a,vs,e,_⟩:=h.lst;rw[e];rfl
 |ty n=>rw[show v=.ty n from h.rep (λ_ z=>nomatch z)];rfl
 |pot k=>obtain⟨p,_,e⟩:=h.rep (λ_ z=>nomatch z);rw[e];rfl
 |scr k=>obtain⟨p,e,_⟩:=h.rep (λ_ z=>nomatch z);rw[e];rfl
 |dct ks xs=>obtain⟨a,jg,e,_⟩:=h.rep (λ_ z=>nomatch z);rw[e];rfl
 |fdt ks xs=>obtain⟨a,jg,e,_⟩:=h.rep (λ_ z=>nomatch z);rw[e];rfl
theorem W2.isN {K:A9}:W2 K (λx y H Q=>y=.non/\Q (.bl (decide (x=.non))) H) wIsN:=by
 intro G H x y v u R Q hf rx ry hw k;unfold wIsN at hw
 split at hw
 ·exact⟨ry.non,k _ _ _ hw (Same.refl _) (by rw[isnon rx];rfl)⟩
 ·exact hw.elim
theorem W2.notN {K:A9}:W2 K (λx y H Q=>y=.non/\Q (.bl (!decide (x=.non))) H) AH:=by
 intro G H x y v u R Q hf rx ry hw k;unfold AH at hw
 split at hw
 ·refine⟨ry.non,k _ _ _ hw (Same.refl _) ?_⟩;rw[isnon rx]
  rfl
 ·exact hw.elim
structure Cmp {ι:Type}(K:A9)(F:ι->Cx)(op:CmpOp)(w:w2):Prop where
 ex:∃r,(∀z,OpR (F z) (L7 op) r)/\W2 K r w
theorem cEq (d:Nat)(hr:∀z,Room k (F z).A)(hd:d<=30:=by decide)(hK:∀z,(F z).K=K:=by intro _;rfl):Cmp K F .Eq (wEq d):=⟨_,λz=>hK z▸op_eqD d (by have:=(hr z).units;omega),W2.eq d⟩
theorem cNe (d:Nat)(hr:∀z,Room k (F z).A)(hd:d<=30:=by decide)(hK:∀z,(F z).K=K:=by intro _;rfl):Cmp K F .NotEq (wNe d):=⟨_,λz=>hK z▸op_neD d (by have:=(hr z).units;omega),W2.ne d⟩
theorem cIn (d:Nat)(hr:∀z,Room k (F z).A)(hd:d<=30:=by decide)(hK:∀z,(F z).K=K:=by intro _;rfl):Cmp K F .In (wIn d false):=⟨_,λz=>Pl.or (hK z▸op_inD d (by have:=(hr z).units;omega)),W2.in_ d false λ_ _ _ _ h=>h⟩
theorem X9 (d:Nat)(hr:∀z,Room k (F z).A)(hd:d<=30:=by decide)(hK:∀z,(F z).K=K:=by intro _;rfl):Cmp K F .NotIn (wIn d true):=⟨_,λz=>PY.or (hK z▸Qz d (by have:=(hr z).units;omega)),W2.in_ d true λ_ _ _ _ h=>h⟩
theorem cLt:Cmp K F .Lt wLt:=⟨_,λ_=>op_lt.or Pk,W2.lt⟩
theorem cLe:Cmp K F .LtE wLe:=⟨_,λ_=>op_le.or Qw,W2.le⟩
theorem cGt:Cmp K F .Gt wGt:=⟨_,λ_=>op_gt,W2.I0 λ_ _ _ _=>rfl⟩
theorem cIs:Cmp K F .Is wIsN:=⟨_,λ_=>op_isN,W2.isN⟩
theorem Ht:Cmp K F .IsNot AH:=⟨_,λ_=>Pm,W2.notN⟩
theorem O2 (hc:Cmp K F op w)(ha:QE T K F a pa)(hb:QR T K F b pb)(hm:Am op b=false):QE T K F (.Compare a [op] [b] pos) (qOp w pa pb):=by
 obtain⟨r,ho,hw⟩:=hc.ex;obtain⟨ta,h1,h2⟩:=ha;obtain⟨tb,h3,h4⟩:=hb;exact⟨_,λz=>JV (ho z) (h1 z) (h3 z) hm,Dk hw h2 h4⟩
def qB (pe:pE):pT:=λenv n R=>pe env n λx jh n'=>match x with|.bl b=>R b jh n'|_=>False
theorem ok_b (h:EOk K T t pe):TOk K T (tB t) (qB pe):=λC G σ H env n R Q hK hT S hp k=>by
 refine h C G σ H env n _ _ hK hT S hp λx jh n' v H' r S' rp f=>?_;cases x with
 |bl b=>exact⟨b,rp,k _ _ _ _ r S' f⟩
 |_=>exact r.elim
theorem Hu (h:EOk K T t pe):TOk K T (GZ t) (qB pe):=λC G σ H env n R Q hK hT S hp k=>by
 refine h C G σ H env n _ _ hK hT S hp λx jh n' v H' r S' rp f=>?_;cases x with
 |bl b=>exact⟨b,rp,k _ _ _ _ r S' f⟩
 |_=>exact r.elim
theorem U4 (h:QE T K F e pe)(he:∀z whole,isTrue e (F z).env whole=(do let v ← whole;c7 e.pos;T9 [v] (truthy v)):=by intro _ _;rfl):QT T K F e (qB pe):=by
 obtain⟨t,h1,h2⟩:=h;exact⟨_,λz=>pt_val (h1 z) (he z),ok_b h2⟩
theorem E1 (hc:Cmp K F op w)(ha:QE T K F a pa)(hb:QR T K F b pb)(hm:Am op b=false):QT T K F (.Compare a [op] [b] pos) (qB (qOp w pa pb)):=by
 obtain⟨r,ho,hw⟩:=hc.ex;obtain⟨ta,h1,h2⟩:=ha;obtain⟨tb,h3,h4⟩:=hb;exact⟨_,λz=>Dd (ho z) (h1 z) (h3 z) hm,Hu (Dk hw h2 h4)⟩
theorem EU (hc:Cmp K F op w)(ha:QR T K F a pa)(hb:QR T K F b pb)(hm:Am op b=false):QT T K F (.Compare a [op] [b] pos) (qB (qOpR w pa pb)):=by
 obtain⟨r,ho,hw⟩:=hc.ex;obtain⟨ta,h1,h2⟩:=ha;obtain⟨tb,h3,h4⟩:=hb;exact⟨_,λz=>Dd (ho z) (h1 z) (h3 z) hm,Hu (Kz hw h2 h4)⟩
def y7 (w w':w2)(pa pb pc:pE):pE:=λenv n R=>pa env n λx jc n1=>pb jc n1 λy jd n2=>w x y λz=>match z with|.bl k=>if k=true then pc jd n2 λu je n3=>w' y u λz=>R z je n3 else R (.bl false) jd n2|_=>False
theorem KH (hw:W2 K r w)(hw':W2 K r' w')(ha:EOk K T ta pa)(hb:EOk K T tb pb)(hc:EOk K T tc pc):EOk K T (G_ r r' ta tb tc) (y7 w w' pa pb pc):=λC G σ H env n R Q hK hT S hp k=>by
 refine ha C G σ H env n _ _ hK hT S hp λx jc n1 v H1 p1 S1 r1 f1=>?_;refine hb C G σ H1 jc n1 _ _ hK hT S1 p1 λy jd n2 u H2 p2 S2 r2 f2=>?_;subst hK;refine hw G H2 x y v u _ _ (λp hp=>S2.fresh hp) (.inl (r1.fr f2)) (.inl r2) p2 λz v' H' rz s rv=>?_;cases z with
 | bl kk =>
  refine⟨kk,rv,?_⟩;cases kk with
  |false=>exact k _ _ _ _ _ rz (S2.same s) rfl ((f1.trans f2).trans (Fr.of s))
  | true =>
   refine hc C G σ H' jd n2 _ _ rfl hT (S2.same s) rz λc3 je n3 v3 H3 p3 S3 r3 f3=>?_;exact hw' G H3 y c3 u v3 _ _ (λp hp=>S3.fresh hp) (.inl ((r2.same s).fr f3)) (.inl r3) p3 λz v' H4 rz s4 rv=>k _ _ _ _ _ rz (S3.same s4) rv ((((f1.trans f2).trans (Fr.of s)).trans f3).trans (Fr.of s4))
 |_=>exact rz.elim
theorem Hv (hc:Cmp K F op w)(hc':Cmp K F op' w')(ha:QE T K F a pa)(hb:QE T K F b pb)(hcc:QE T K F c pc)(hm:lastMarks [op,op'] [b,c]=false:=by with_unfolding_all rfl):QE T K F (.Compare a [op,op'] [b,c] pos) (y7 w w' pa pb pc):=by
 obtain⟨r,ho,hw⟩:=hc.ex;obtain⟨r',ho',hw'⟩:=hc'.ex;obtain⟨ta,a1,a2⟩:=ha;obtain⟨tb,b1,b2⟩:=hb;obtain⟨tc,c1,c2⟩:=hcc;exact⟨_,λz=>Pn (ho z) (ho' z) (a1 z) (b1 z) (c1 z) hm,KH hw hw' a2 b2 c2⟩
theorem QB (hc:Cmp K F op w)(hc':Cmp K F op' w')(ha:QE T K F a pa)(hb:QE T K F b pb)(hcc:QE T K F c pc)(hm:lastMarks [op,op'] [b,c]=false:=by with_unfolding_all rfl):QT T K F (.Compare a [op,op'] [b,c] pos) (qB (y7 w w' pa pb pc)):=by
 obtain⟨r,ho,hw⟩:=hc.ex;obtain⟨r',ho',hw'⟩:=hc'.ex;obtain⟨ta,a1,a2⟩:=ha;obtain⟨tb,b1,b2⟩:=hb;obtain⟨tc,c1,c2⟩:=hcc;exact⟨_,λz=>Po (ho z) (ho' z) (a1 z) (b1 z) (c1 z) hm,Hu (KH hw hw' a2 b2 c2)⟩
variable {pt pu:pT}
def qAnd (t u:pT):pT:=λenv n R=>t env n λb jc n1=>if b=true then u jc n1 R else R false jc n1
def qOr (t u:pT):pT:=λenv n R=>t env n λb jc n1=>if b=true then R true jc n1 else u jc n1 R
def qNot (t:pT):pT:=λenv n R=>t env n λb jc n1=>R (!b) jc n1
theorem ok_and (h:TOk K T t pt)(h':TOk K T u pu):TOk K T (tAnd t u) (qAnd pt pu):=λC G σ H env n R Q hK hT S hp k=>by
 refine h C G σ H env n _ _ hK hT S hp λb jc n1 H1 p1 S1 f1=>?_;cases b with
 |true=>exact h' C G σ H1 jc n1 _ _ hK hT S1 p1 λb jd n2 H2 p2 S2 f2=>k _ _ _ _ p2 S2 (f1.trans f2)
 |false=>exact k _ _ _ _ p1 S1 f1
theorem ok_or (h:TOk K T t pt)(h':TOk K T u pu):TOk K T (tOr t u) (qOr pt pu):=λC G σ H env n R Q hK hT S hp k=>by
 refine h C G σ H env n _ _ hK hT S hp λb jc n1 H1 p1 S1 f1=>?_;cases b with
 |false=>exact h' C G σ H1 jc n1 _ _ hK hT S1 p1 λb jd n2 H2 p2 S2 f2=>k _ _ _ _ p2 S2 (f1.trans f2)
 |true=>exact k _ _ _ _ p1 S1 f1
theorem ok_not {K:A9}{t:TT}(h:TOk K T t pt):TOk K T (tNot t) (qNot pt):=λC G σ H env n R Q hK hT S hp k=>h C G σ H env n _ _ hK hT S hp λb jc n1 H1 p1 S1 f1=>k _ _ _ _ p1 S1 f1
theorem Do (ha:QT T K F a pt):QW T K F (.BoolOp .And [a] pos) pt:=let ⟨t,h1,h2⟩:=ha;⟨t,λz=>JR (h1 z),h2⟩
theorem p5 (ha:QT T K F a pt):QW T K F (.BoolOp .Or [a] pos) pt:=let ⟨t,h1,h2⟩:=ha;⟨t,λz=>pw_or1 (h1 z),h2⟩
theorem BP (ha:QT T K F a pt)(hb:QW T K F (.BoolOp .And (b::rest) pos) pu):QW T K F (.BoolOp .And (a::b::rest) pos) (qAnd pt pu):=let ⟨t,h1,h2⟩:=ha;let ⟨u,h3,h4⟩:=hb;⟨_,λz=>JS (h1 z) (h3 z),ok_and h2 h4⟩
theorem Z7 (ha:QT T K F a pt)(hb:QW T K F (.BoolOp .Or (b::rest) pos) pu):QW T K F (.BoolOp .Or (a::b::rest) pos) (qOr pt pu):=let ⟨t,h1,h2⟩:=ha;let ⟨u,h3,h4⟩:=hb;⟨_,λz=>pw_or (h1 z) (h3 z),ok_or h2 h4⟩
theorem QW.qt (h:QW T K F e pt):QT T K F e pt:=let ⟨t,h1,h2⟩:=h;⟨t,λz=>(h1 z).pt,h2⟩
theorem AI (ha:QT T K F a pt):QT T K F (.UnaryOp .Not a pos) (qNot pt):=let ⟨t,h1,h2⟩:=ha;⟨_,λz=>pt_not (h1 z),ok_not h2⟩
def i9 (pa pb:pE):pE:=λenv n R=>pa env n λx jc n1=>match x with|.bl b=>if b=true then pb jc n1 R else R (.bl false) jc n1|_=>False
theorem Dp {op}(h:QE T K F a pa):QE T K F (.BoolOp op [a] pos) pa:=let ⟨t,h1,h2⟩:=h;⟨t,λz=>pe_one (h1 z),h2⟩
theorem y8 (ha:QE T K F a pa)(hb:QE T K F (.BoolOp .And (b::rest) pos) pb):QE T K F (.BoolOp .And (a::b::rest) pos) (i9 pa pb):=by
 obtain⟨t,h1,h2⟩:=ha;obtain⟨u,h3,h4⟩:=hb;refine⟨_,λz=>pe_and (h1 z) (h3 z),λC G σ H env n R Q hK hT S hp k=>?_⟩;refine h2 C G σ H env n _ _ hK hT S hp λx jc n1 v H1 p1 S1 r1 f1=>?_;cases x with
 | bl c =>
  refine⟨c,r1,?_⟩;cases c with
  |true=>exact h4 C G σ H1 jc n1 _ _ hK hT S1 p1 λx jd n2 v H2 p2 S2 r2 f2=>k _ _ _ _ _ p2 S2 r2 (f1.trans f2)
  |false=>exact k _ _ _ _ _ p1 S1 rfl f1
 |_=>exact p1.elim
def qIf (t:pT)(pa pb:pE):pE:=λenv n R=>t env n λb jc n1=>if b=true then pa jc n1 R else pb jc n1 R
theorem EV (hc:QT T K F c pt)(ha:QE T K F a pa)(hb:QE T K F b pb):QE T K F (.IfExp c a b pos) (qIf pt pa pb):=by
 obtain⟨tc,c1,c2⟩:=hc;obtain⟨t,h1,h2⟩:=ha;obtain⟨u,h3,h4⟩:=hb;refine⟨_,λz=>OW (c1 z) (h1 z) (h3 z),λC G σ H env n R Q hK hT S hp k=>?_⟩;refine c2 C G σ H env n _ _ hK hT S hp λd jc n1 H1 p1 S1 f1=>?_;cases d with
 |true=>exact h2 C G σ H1 jc n1 _ _ hK hT S1 p1 λx jd n2 v H2 p2 S2 r2 f2=>k _ _ _ _ _ p2 S2 r2 (f1.trans f2)
 |false=>exact h4 C G σ H1 jc n1 _ _ hK hT S1 p1 λx jd n2 v H2 p2 S2 r2 f2=>k _ _ _ _ _ p2 S2 r2 (f1.trans f2)
variable {pl pr:pA}
def qNil:pA:=λenv n R=>R [] env n
def A2 (pe:pE)(pr:pA):pA:=λenv n R=>pe env n λx jc n1=>pr jc n1 λxs jd n2=>R (x::xs) jd n2
theorem B1:QA T K F [] qNil:=⟨_,λ_=>G7,λC G σ H env n R Q hK hT S hp k=>k _ _ _ _ _ hp S Reps.nil Fr.refl⟩
theorem QC (h:EOk K T t pe)(h':AOk K T u pr):AOk K T (X6 t u) (A2 pe pr):=λC G σ H env n R Q hK hT S hp k=>by
 refine h C G σ H env n _ _ hK hT S hp λx jc n1 v H1 p1 S1 r1 f1=>?_;exact h' C G σ H1 jc n1 _ _ hK hT S1 p1 λxs jd n2 vs H2 p2 S2 r2 f2=>k _ _ _ _ _ p2 S2 (.cons (r1.fr f2) r2) (f1.trans f2)
def F5:Expr->Bool
 |.Starred ..=>false
 |_=>true
theorem D0 (h:F5 e=true):E3 (e::es) env=(false,eval e env)::E3 es env:=by
 cases e <;> first|rfl|cases h
theorem A4 (ha:QE T K F e pe)(hr:QA T K F es pr)(h:F5 e=true:=by rfl):QA T K F (e::es) (A2 pe pr):=by
 obtain⟨t,h1,h2⟩:=ha;obtain⟨u,h3,h4⟩:=hr;exact⟨_,λz=>E9 (h1 z) (h3 z) (D0 h),QC h2 h4⟩
def qTup (pa:pA):pE:=λenv n R=>pa env n λxs jc n1=>xs.length<=1000000/\R (.tup xs) jc n1
def qLst (pa:pA):pA:=λenv n R=>pa env n λxs jc n1=>xs.length<=1000000/\R xs jc n1
def qL (pn:pA):pE:=λenv n R=>pn env n λxs jc n1=>R (.lst xs) jc n1
theorem J6 {x1}(h:QA T K F es pl):QE T K F (.Tuple es x1 pos) (qTup pl):=by
 obtain⟨t,h1,h2⟩:=h;refine⟨_,λz=>Ha (h1 z),λC G σ H env n R Q hK hT S hp k=>?_⟩;refine h2 C G σ H env n _ _ hK hT S hp λxs jc n1 vs H1 p1 S1 r1 f1=>⟨by rw[<- r1.length];exact mil p1.1,λp hp=>?_⟩;exact k _ _ _ _ _ p1.2 (S1.same (Same.lay1 hp)) (AG (S1.fresh hp) hp r1) (f1.trans (Fr.of (Same.lay1 hp)))
theorem G6 (h:QA T K F es pl):QN T K F (.List es pos) (qLst pl):=by
 obtain⟨t,h1,h2⟩:=h;refine⟨_,λz=>pe_lst (h1 z),λC G σ H env n R Q hK hT S hp k=>?_⟩;exact h2 C G σ H env n _ _ hK hT S hp λxs jc n1 vs H1 p1 S1 r1 f1=>⟨by rw[<- r1.length];exact mil p1.1,λp hp=>k _ _ _ _ _ _ p1.2 S1 f1 hp r1⟩
theorem QN.ee (h:QN T K F e pl):QE T K F e (qL pl):=by
 obtain⟨t,h1,h2⟩:=h;refine⟨t,h1,λC G σ H env n R Q hK hT S hp k=>?_⟩;refine h2 C G σ H env n _ _ hK hT S hp λxs jc n1 a vs Hb p1 S1 f1 hn r1=>?_;exact k _ _ _ _ _ p1 (S1.same (Same.lay1 hn)) (Dl (S1.fresh hn) hn r1) (f1.trans (Fr.of (Same.lay1 hn)))
theorem EX (h:ROk K T t pe)(hK:C.K=K)(hT:C.T=T)(S:SR C G σ H env n)(hp:pe env n R)
   (k:∀x jh n' v H',R x jh n'->SR C G σ H' jh n'->RdS C G σ H' jh x v->Fr G H H'->Q [v] H'):X6 t tNil σ H Q:=
 h C G σ H env n _ _ hK hT S hp λx jc n1 v H1 p1 S1 r1 f1=>k _ _ _ _ _ p1 S1 r1 f1
end
end Pu
end
section
namespace HT
open PySem PySem.Spec PyProof.Rows
section
variable {prog:C8}{w:C4}{A:D5}{E:A3->A5->Prop}{s:A5}
theorem getItem_tuple_whole {lo hi:Option Int}(ht:IsTup s.heap t items)(hs:s.heap.IsSliceOf sl vl vu .none)(pl:IsPart vl lo)(pu:IsPart vu hi)
   (hw:sIx items.size 0 lo=0/\sIx items.size items.size hi=items.size) (h:Q (.ref t) s):A6 (A7 prog w) A (X0 (.ref t) (.ref sl)) Q E s:=by
 obtain⟨os,hos,hcs,hds⟩:=id hs;have hTs:s.TypeIs (.ref sl) "slice":=⟨os,hos,hcs⟩;have hTt:s.TypeIs (.ref t) "tuple":=ht.typeIs;unfold X0
 try with_reducible refine L6 ?_
 first|refine A0 (A8 ?_)|skip
 refine A0 (wpAny_sequenceKey ht.typeIs (by decide) ?_)
 refine A0 (W7 (name:=B0 "__getitem__") ht.typeIs Bs
   (P3 Bs ht.typeIs entry_tuple_getitem ?_ (args_tuple_getitem _ _)))
 show A6 _ _ (GI (.ref t)>>=_) _ _ s;refine A0 (tupleItemsOf_ ht ?_);refine A0 (w6 hTs ?_);rw[jr (by decide)];refine A0 (Kd hs pl pu ?_)
 have hyes:(((sIx items.size 0 lo:Nat):Int) == 0&&(1:Int) == 1&&(sIx items.size items.size hi-sIx items.size 0 lo) == items.size)=true:=by
  rw[hw.1,hw.2];simp
 show A6 _ _ (if(((sIx items.size 0 lo:Nat):Int) == 0&&(1:Int) == 1&&(sIx items.size items.size hi-sIx items.size 0 lo) == items.size)=true then _ else _) _ _ s;rw[jr hyes];unfold Builtin.Tuple.tupleIsExact;refine A0 (A0 (w6 hTt (A8 ?_)));rw[jr (by rfl)];exact A0 (Y3 (A8 ⟨_,rfl,A8 h⟩))
end
end HT
namespace L2
open PySem PySem.Spec PyProof.Rows
section
variable {X:Cx}
def rSlTA (K:A9):V->Option Int->Option Int->Hp->VK->Prop:=λx lo hi H Q=>∃a xs,x=.ref a/\SqT K H a xs/\
 (cutV xs lo hi=xs->Q (.ref a) H)/\∀p,H p=none->Q (.ref p) (upd H p (.tup (cutV xs lo hi)))
theorem QD:SlR X (rSlTA X.K):=by
 intro jb s σ H x v vl vu lo hi sl Q I rx hs pl pu h;obtain⟨a,xs,rfl,hx,h1,h2⟩:=h
 by_cases hw:HT.sIx xs.length 0 lo=0/\HT.sIx xs.length xs.length hi=xs.length
 ·cases rx;obtain⟨jf,r,ht,hz⟩:=I.tuple hx;have hlen:jf.toArray.size=xs.length:=by rw[F7];exact r.length.symm
  refine⟨"tuple",_,PyProof.Rows.slot_tuple_getitem.lookup,ht.typeIs,?_⟩;refine HT.getItem_tuple_whole ht hs pl pu (by rw[hlen];exact hw) ⟨.ref a,H,I,rfl,h1 ?_⟩;unfold cutV;rw[hw.1,hw.2];simp
 ·exact sl_tup jb s σ H (.ref a) v vl vu lo hi sl Q I rx hs pl pu ⟨a,xs,rfl,hx,hw,h2⟩
end
end L2
namespace Pu
open PySem PySem.Spec L2
section
variable {T:PotK}{ι:Type}{K:A9}{F:ι->Cx}{e a b c:Expr}{es rest:List Expr}{pe pa pb pc:pE}{pos:Pos}{pl pr:pA}
def wIx:w2:=λx y R=>match x,y with
 |.lst xs,.int i=>match atI xs i with|some z=>R z|none=>False
 |.tup xs,.int i=>match atI xs i with|some z=>R z|none=>False
 |.scr ns,.int i=>match atI ns i with|some z=>R (.int z)|none=>False
 |.str z,.int i=>z.length<=1000000/\match atI z.cps.toList i with|some c=>R (.str ⟨#[c]⟩)|none=>False
 |_,_=>False
theorem KI (r:Reps K G H xs vs)(h:atI xs i=some z):∃v,atI vs i=some v/\Rep K G H z v:=by
 unfold atI at h ⊢;rw[<- r.length];cases e:ixN xs.length i with
 |none=>rw[e] at h;cases h
 | some j =>
  rw[e] at h;exact r.get' h
theorem Dq (h:RdV K G H (.scr ns) v):∃a,v=.ref a/\SqL K H a (ns.map V.int):=by
 obtain⟨a,e,h⟩:=h.rep (λ_ z=>nomatch z);refine⟨a,e,?_⟩;rcases h with⟨_,o,h⟩|h
 ·exact .inl (.inr ⟨o,h⟩)
 ·exact .inr h
theorem W2.ix:W2 K (rIx K) wIx:=by
 intro G H x y v u R Q hf rx ry hw k;unfold wIx at hw
 split at hw
 ·rename_i xs i;obtain⟨a,vs,ev,hq,r⟩:=rx.lst;cases ez:atI xs i with
  |none=>rw[ez] at hw;exact hw.elim
  | some z =>
   rw[ez] at hw;obtain⟨v',e1,r1⟩:=KI r ez;exact .inl ⟨a,vs,i,v',ev,ry.int,hq,e1,k _ _ _ hw (Same.refl _) r1⟩
 ·rename_i xs i;obtain⟨a,vs,ev,hq,r⟩:=rx.tup;cases ez:atI xs i with
  |none=>rw[ez] at hw;exact hw.elim
  | some z =>
   rw[ez] at hw;obtain⟨v',e1,r1⟩:=KI r ez;exact .inr (.inl ⟨a,vs,i,v',ev,ry.int,hq,e1,k _ _ _ hw (Same.refl _) r1⟩)
 ·rename_i ns i;obtain⟨a,ev,hq⟩:=Dq rx;cases ez:atI ns i with
  |none=>rw[ez] at hw;exact hw.elim
  | some z =>
   rw[ez] at hw;refine .inl ⟨a,_,i,.int z,ev,ry.int,hq,?_,k _ _ _ hw (Same.refl _) rfl⟩;unfold atI at ez ⊢;rw[B4];cases e:ixN ns.length i with
   |none=>rw[e] at ez;cases ez
   | some j =>
    rw[e] at ez;show(ns.map V.int)[j]?=_;rw[E7,show ns[j]?=some z from ez]
    rfl
 ·rename_i z i;obtain⟨hz,hw⟩:=hw;cases ez:atI z.cps.toList i with
  |none=>rw[ez] at hw;exact hw.elim
  | some c =>
   rw[ez] at hw;exact .inr (.inr ⟨z,i,c,rx.str,ry.int,mil hz,ez,k _ _ _ hw (Same.refl _) rfl⟩)
 ·exact hw.elim
theorem C1 (ha:QE T K F a pa)(hb:QE T K F b pb)(hs:Hi b:=by exact λ_ _=>rfl)(hK:∀z,(F z).K=K:=by intro _;rfl):QE T K F (.Subscript a b pos) (qOp wIx pa pb):=by
 obtain⟨ta,h1,h2⟩:=ha;obtain⟨tb,h3,h4⟩:=hb.r;exact⟨_,λz=>Hj (hK z▸Kg) (h1 z) (h3 z) hs,Dk W2.ix h2 h4⟩
theorem Hw (ha:QR T K F a pa)(hb:QE T K F b pb)(hs:Hi b:=by exact λ_ _=>rfl)(hK:∀z,(F z).K=K:=by intro _;rfl):QE T K F (.Subscript a b pos) (qOpR wIx pa pb):=by
 obtain⟨ta,h1,h2⟩:=ha;obtain⟨tb,h3,h4⟩:=hb.r;exact⟨_,λz=>Hj (hK z▸Kg) (h1 z) (h3 z) hs,Kz W2.ix h2 h4⟩
abbrev pO:=Env->Nat->(Option Int->Env->Nat->Prop)->Prop
def qNo:pO:=λenv n R=>R none env n
def J0 (pe:pE):pO:=λenv n R=>pe env n λx jc n1=>match x with|.int i=>R (some i) jc n1|_=>False
def OOk (K:A9)(T:PotK)(t:TO)(po:pO):Prop:=∀(C:Ct) (G:Gh) (σ:St) (H:Hp) (env:Env) (n:Nat) (R:Option Int->Env->Nat->Prop) (Q:Option Int->Hp->Prop),C.K=K->C.T=T->SR C G σ H env n->po env n R->
 (∀x jh n' H',R x jh n'->SR C G σ H' jh n'->Fr G H H'->Q x H')->t σ H Q
def QO {ι:Type}(T:PotK)(K:A9)(F:ι->Cx)(e:Option Expr)(po:pO):Prop:=∃t,(∀z,PO (F z) e t)/\OOk K T t po
theorem T3:QO T K F none qNo:=⟨_,λ_=>Hd,λC G σ H env n R Q hK hT S hp k=>k _ _ _ _ hp S Fr.refl⟩
theorem J7 (h:QE T K F e pe):QO T K F (some e) (J0 pe):=by
 obtain⟨t,h1,h2⟩:=h;refine⟨_,λz=>He (h1 z),λC G σ H env n R Q hK hT S hp k=>?_⟩;refine h2 C G σ H env n _ _ hK hT S hp λx jc n1 v H1 p1 S1 r1 f1=>?_;cases x with
 |int i=>exact⟨i,r1,k _ _ _ _ p1 S1 f1⟩
 |_=>exact p1.elim
def cutP {α:Type}(xs:List α)(lo hi:Option Int):List α:=(xs.drop (HT.sIx xs.length 0 lo)).take (HT.sIx xs.length xs.length hi-HT.sIx xs.length 0 lo)
theorem Reps.cut (r:Reps K G H xs vs)(lo hi:Option Int):Reps K G H (cutP xs lo hi) (cutV vs lo hi):=by
 unfold cutP cutV;rw[<- r.length];exact(r.drop _).take _
def wSl (x:PV)(lo hi:Option Int)(R:PV->Prop):Prop:=match x with
 |.lst xs=>R (.lst (cutP xs lo hi))
 |.scr ns=>R (.lst ((cutP ns lo hi).map PV.int))
 |.tup xs=>R (.tup (cutP xs lo hi))
 |.str z=>z.length<=1000000/\R (.str (W0 z lo hi))
 |_=>False
def qSl (pe:pE)(pl ph:pO):pE:=λenv n R=>pe env n λx jc n1=>pl jc n1 λlo jd n2=>ph jd n2 λhi je n3=>wSl x lo hi λz=>R z je n3
theorem Hx {K:A9}{G:Gh}{H:Hp}:∀ns:List Int,Reps K G H (ns.map PV.int) (ns.map V.int)
 |[]=>rfl
 |i::ns=>⟨.int i,ns.map V.int,rfl,rfl,Hx ns⟩
theorem Z8 {α β:Type}(f:α->β)(xs:List α)(lo hi:Option Int):cutP (xs.map f) lo hi=(cutP xs lo hi).map f:=by simp[cutP]
theorem sl_ok (hf:∀p,H p=none->p∉G.M)(rx:RdV K G H x v)(hw:wSl x lo hi R)(k:∀z v' H',R z->Same H H'->Rep K G H' z v'->Q v' H') :
   rSlL K v lo hi H Q\/rSlTA K v lo hi H Q\/rSlS v lo hi H Q:=by
 unfold wSl at hw
 split at hw
 ·obtain⟨a,vs,ev,hq,r⟩:=rx.lst;exact .inl ⟨a,vs,ev,hq,λp hp=>k _ _ _ hw (Same.lay1 hp) (Dl (hf p hp) hp (r.cut lo hi))⟩
 ·rename_i ns;obtain⟨a,ev,hq⟩:=Dq rx;refine .inl ⟨a,_,ev,hq,λp hp=>k _ _ _ hw (Same.lay1 hp) (Dl (hf p hp) hp ?_)⟩;have:=(Hx (K:=K) (G:=G) (H:=H) ns).cut lo hi;rw[Z8] at this;exact this
 ·obtain⟨a,vs,ev,t,r⟩:=rx.rep (λ_ z=>nomatch z);refine .inr (.inl ⟨a,vs,ev,t.sq,λz=>k _ _ _ hw (Same.refl _) ?_,λp hp=>k _ _ _ hw (Same.lay1 hp) (AG (hf p hp) hp (r.cut lo hi))⟩);have rc:=r.cut lo hi;rw[z] at rc;exact⟨a,vs,rfl,t,rc⟩
 ·exact .inr (.inr ⟨_,rx.str,mil hw.1,k _ _ _ hw.2 (Same.refl _) rfl⟩)
 ·exact hw.elim
theorem N3 (he:QE T K F e pe)(hl:QO T K F lo ql)(hh:QO T K F hi qh)(hK:∀z,(F z).K=K:=by intro _;rfl):QE T K F (.Subscript e (.Slice lo hi none p2) pos) (qSl pe ql qh):=by
 obtain⟨t,h1,h2⟩:=he;obtain⟨tl,l1,l2⟩:=hl;obtain⟨th,u1,u2⟩:=hh;refine⟨_,λz=>Hf ((hK z▸Hk).or ((hK z▸QD).or sl_str)) (h1 z) (l1 z) (u1 z),λC G σ H env n R Q hK hT S hp k=>?_⟩;refine h2 C G σ H env n _ _ hK hT S hp λx jc n1 v H1 p1 S1 r1 f1=>?_;refine l2 C G σ H1 jc n1 _ _ hK hT S1 p1 λlo jd n2 H2 p2 S2 f2=>?_;refine u2 C G σ H2 jd n2 _ _ hK hT S2 p2 λhi je n3 H3 p3 S3 f3=>?_;exact sl_ok (λp hp=>S3.fresh hp) (.inl ((r1.fr f2).fr f3)) p3 λz v' H' rz s rv=>k _ _ _ _ _ rz (S3.same s) rv (((f1.trans f2).trans f3).trans (Fr.of s))
def WA1 (K:A9)(r:List V->Hp->VK->Prop)(w:w1):Prop:=∀(G:Gh) (H:Hp) (x:PV) (v:V) (R:PV->Prop) (Q:VK),(∀p,H p=none->p∉G.M)->RdV K G H x v->w x R->
 (∀z v' H',R z->Same H H'->Rep K G H' z v'->Q v' H')->r [v] H Q
theorem KJ (hw:WA1 K r w)(h:ROk K T t pe):EOk K T (tCB r (X6 t tNil)) (qUn w pe):=λC G σ H env n R Q hK hT S hp k=>by
 refine EX h hK hT S hp λx jc n1 v H1 p1 S1 r1 f1=>?_;subst hK;exact hw G H1 x v _ _ (λp hp=>S1.fresh hp) (r1.rd S1) p1 λz v' H' rz s rv=>k _ _ _ _ _ rz (S1.same s) rv (f1.trans (Fr.of s))
theorem Hy {id:String}(hc:∀z,N1 (F z) (.builtin id) r)(hw:WA1 K r w)(hg:∀z,Gl (F z) x)(hm:∀z,(F z).mg x=none)(hv:M7 x=some (.builtin id))(ha:QR T K F e pe)(hs:F5 e=true:=by rfl)(hn:x≠"__name__":=by decide)(hdb:(x == ("__debug__":Str))=false:=by decide) :
   QE T K F (.Call (.Name x p) [e] [] pos) (qUn w pe):=by
 obtain⟨t,h1,h2⟩:=ha;exact⟨_,λz=>y0 (hc z) (hg z) (hm z) hv (E9 (h1 z) G7 (D0 hs)) hn hdb (D0 hs),KJ hw h2⟩
theorem qe_ct1 {id:String}(hc:∀z,N1 (F z) (.type id) r)(hw:WA1 K r w)(hg:∀z,Gl (F z) x)(hm:∀z,(F z).mg x=none)(hv:M7 x=some (.type id))(ha:QR T K F e pe)(hs:F5 e=true:=by rfl)(hn:x≠"__name__":=by decide)(hdb:(x == ("__debug__":Str))=false:=by decide) :
   QE T K F (.Call (.Name x p) [e] [] pos) (qUn w pe):=by
 obtain⟨t,h1,h2⟩:=ha;exact⟨_,λz=>BK (hc z) (hg z) (hm z) hv (E9 (h1 z) G7 (D0 hs)) hn hdb (D0 hs),KJ hw h2⟩
def wLen:w1:=λx R=>match x with
 |.lst xs=>R (.int xs.length)
 |.tup xs=>R (.int xs.length)
 |.scr xs=>R (.int xs.length)
 |.str z=>z.length<=1000000/\R (.int z.length)
 |_=>False
theorem WA1.len:WA1 K (λxs H Q=>(∃p ys,xs=[.ref p]/\(SqL K H p ys\/SqT K H p ys)/\Q (.int ys.length) H)\/∃z,xs=[.str z]/\z.length<=B9/\Q (.int z.length) H) wLen:=by
 intro G H x v R Q hf rx hw k;unfold wLen at hw
 split at hw
 ·obtain⟨a,vs,ev,hq,r⟩:=rx.lst;exact .inl ⟨a,vs,by rw[ev],.inl hq,k _ _ _ hw (Same.refl _) (by rw[r.length];rfl)⟩
 ·obtain⟨a,vs,ev,hq,r⟩:=rx.tup;exact .inl ⟨a,vs,by rw[ev],.inr hq,k _ _ _ hw (Same.refl _) (by rw[r.length];rfl)⟩
 ·obtain⟨a,ev,hq⟩:=Dq rx;exact .inl ⟨a,_,by rw[ev],.inl hq,k _ _ _ hw (Same.refl _) (by rw[B4];rfl)⟩
 ·exact .inr ⟨_,by rw[rx.str],mil hw.1,k _ _ _ hw.2 (Same.refl _) rfl⟩
 ·exact hw.elim
theorem M4 (hg:∀z,Gl (F z) "len")(hm:∀z,(F z).mg "len"=none)(ha:QR T K F e pe)(hs:F5 e=true:=by rfl)(hK:∀z,(F z).K=K:=by intro _;rfl):QE T K F (.Call (.Name "len" p) [e] [] pos) (qUn wLen pe):=Hy (λz=>(hK z▸Hl).or PZ) WA1.len hg hm EI ha hs
def j3:List PV->Option (List Bool)
 |[]=>some []
 |.bl b::xs=>(j3 xs).map (b::·)
 |_=>none
theorem KK {K:A9}{G:Gh}{H:Hp}:∀{xs:List PV} {vs:List V} {bs:List Bool},j3 xs=some bs->Reps K G H xs vs->vs=bs.map V.bl
 |[],vs,bs,h,r=>by cases h;exact r
 | .bl b :: xs, vs, bs, h, r => by
  obtain⟨v,t,e,rv,rt⟩:=r;cases e1:j3 xs with
  |none=>simp[j3,e1] at h
  | some cs =>
   have:b::cs=bs:=by simpa[j3,e1] using h
   subst this;rw[e,show v=.bl b from rv,KK e1 rt]
   rfl
 |.non::_,_,_,h,_=>by cases h
 |.int _::_,_,_,h,_=>by cases h
 |.str _::_,_,_,h,_=>by cases h
 |.ty _::_,_,_,h,_=>by cases h
 |.pot _::_,_,_,h,_=>by cases h
 |.tup _::_,_,_,h,_=>by cases h
 |.lst _::_,_,_,h,_=>by cases h
 |.dct _ _::_,_,_,h,_=>by cases h
 |.fdt _ _::_,_,_,h,_=>by cases h
 |.scr _::_,_,_,h,_=>by cases h
theorem KL:∀bs:List Bool,j3 (bs.map PV.bl)=some bs
 |[]=>rfl
 |b::bs=>by simp[j3,KL bs]
def wAll:w1:=λx R=>match x with|.lst xs=>(match j3 xs with|some bs=>R (.bl (bs.all id))|none=>False)|_=>False
def wAny:w1:=λx R=>match x with|.lst xs=>(match j3 xs with|some bs=>R (.bl (bs.any id))|none=>False)|_=>False
theorem Hz {p:Pos}(hc:∀z,(F z).calm=true)(hg:∀z,Gl (F z) "any")(hm:∀z,(F z).mg "any"=none)(ha:QR T K F e pe)(hs:F5 e=true:=by rfl)(hK:∀z,(F z).K=K:=by intro _;rfl):QE T K F (.Call (.Name "any" p) [e] [] pos) (qUn wAny pe):=Hy (λz=>hK z▸Qq (hc z)) (λG H x v R Q hf rx hw k=>by
 unfold wAny at hw
 split at hw
 ·rename_i xs;obtain⟨a,vs,ev,hq,r⟩:=rx.lst
  split at hw
  ·rename_i bs eb;exact⟨a,bs,by rw[ev],KK eb r▸hq,k _ _ _ hw (Same.refl _) rfl⟩
  ·exact hw.elim
 ·exact hw.elim) hg hm bt_any ha hs
def O3:w1:=λx R=>match x with|.lst xs=>R (.tup xs)|.tup xs=>R (.tup xs)|_=>False
theorem Q9 (hg:∀z,Gl (F z) "tuple")(hm:∀z,(F z).mg "tuple"=none)(ha:QR T K F e pe)(hs:F5 e=true:=by rfl)(hK:∀z,(F z).K=K:=by intro _;rfl):QE T K F (.Call (.Name "tuple" p) [e] [] pos) (qUn O3 pe):=qe_ct1 (λz=>hK z▸P_) (λG H x v R Q hf rx hw k=>by
 unfold O3 at hw
 split at hw
 ·obtain⟨a,vs,ev,hq,r⟩:=rx.lst;exact⟨a,vs,by rw[ev],.inl ⟨hq,λl hl=>k _ _ _ hw (Same.lay1 hl) (AG (hf l hl) hl r)⟩⟩
 ·obtain⟨a,vs,ev,t,r⟩:=rx.rep (λ_ z=>nomatch z);exact⟨a,vs,by rw[ev],.inr ⟨t.sq,k _ _ _ hw (Same.refl _) ⟨a,vs,rfl,t,r⟩⟩⟩
 ·exact hw.elim) hg hm BM ha hs
def BQ (pe:pE):pA:=λenv n R=>pe env n λx jc n1=>match x with|.lst xs=>R xs jc n1|.tup xs=>R xs jc n1|.scr ns=>R (ns.map PV.int) jc n1|_=>False
theorem EY (hg:∀z,Gl (F z) "list")(hm:∀z,(F z).mg "list"=none)(ha:QR T K F e pe)(hs:F5 e=true:=by rfl)(hK:∀z,(F z).K=K:=by intro _;rfl):QN T K F (.Call (.Name "list" p) [e] [] pos) (BQ pe):=by
 obtain⟨t,h1,h2⟩:=ha;refine⟨_,λz=>BK (hK z▸Ki) (hg z) (hm z) Kw (E9 (h1 z) G7 (D0 hs)) (by decide) (by decide) (D0 hs),λC G σ H env n R Q hK hT S hp k=>?_⟩;refine EX h2 hK hT S hp λx jc n1 v H1 p1 S1 r1 f1=>?_;have rd:RdV K G H1 x v:=hK▸r1.rd S1;cases x with
 | lst xs =>
  obtain⟨a,vs,ev,hq,r⟩:=rd.lst;exact⟨a,vs,by rw[ev],.inl hq,λl hl=>k _ _ _ _ _ _ p1 S1 f1 hl r⟩
 | tup xs =>
  obtain⟨a,vs,ev,hq,r⟩:=rd.tup;exact⟨a,vs,by rw[ev],.inr hq,λl hl=>k _ _ _ _ _ _ p1 S1 f1 hl r⟩
 | scr ns =>
  obtain⟨a,ev,hq⟩:=Dq rd;exact⟨a,_,by rw[ev],.inl hq,λl hl=>k _ _ _ _ _ _ p1 S1 f1 hl (Hx ns)⟩
 |_=>exact p1.elim
theorem tyw (hg:Gl X x)(hm:X.mg x=none)(hv:M7 x=some (.type m))(hn:x≠"__name__":=by decide)(hd:(x == ("__debug__":Str))=false:=by decide):EW X (.Name x pos) (tC (.ty m)):=⟨OV (v:=.ty m) hg hm hv rfl hn hd⟩
def tyP:PV->Option String
 |.non=>some "NoneType"
 |.bl _=>some "bool"
 |.int _=>some "int"
 |.str _=>some "str"
 |.tup _=>some "tuple"
 |.lst _=>some "list"
 |.dct _ _=>some "dict"
 |_=>none
def isT (t n:String):Bool:=t == n||(t == "bool" && n == "int")
def wIsi (n:String):w1:=λx R=>match tyP x with|some t=>R (.bl (isT t n))|none=>False
theorem QF (ht:t∈["NoneType","bool","int","str","tuple","list","dict"])(hn:n∈["bool","int","str","tuple","list"]):Cs K (.type t) (.type n)=some (isT t n):=by
 refine kit_of ?_;have:∀t∈["NoneType","bool","int","str","tuple","list","dict"],∀n∈["bool","int","str","tuple","list"],(if(K1 t == K1 n)=true then some true else if PySem.W.kitMeta n=true then(fastBuiltinMro t).map (·.contains (.type n)) else none)=some (isT t n):=by decide +kernel
 exact this t ht n hn
theorem AJ (hn:n∈["bool","int","str","tuple","list"])(hg:∀z,Gl (F z) "isinstance")(hm:∀z,(F z).mg "isinstance"=none)(ha:QE T K F a pa)(hb:∀z,EW (F z) b (tC (.ty n)))(hs:F5 a=true:=by rfl)(hs2:F5 b=true:=by rfl)(hK:∀z,(F z).K=K:=by intro _;rfl):QE T K F (.Call (.Name "isinstance" p) [a,b] [] pos) (qUn (wIsi n) pa):=by
 obtain⟨t,h1,h2⟩:=ha;refine⟨_,λz=>y0 (hK z▸Qm) (hg z) (hm z) Qr (E9 (h1 z) (E9 (hb z).h G7 (D0 hs2)) (D0 hs)) (by decide) (by decide) (D0 hs) (by rw[D0 hs2];rfl),λC G σ H env n' R Q hK hT S hp k=>?_⟩;refine h2 C G σ H env n' _ _ hK hT S hp λx jc n1 v H1 p1 S1 r1 f1=>?_;unfold wIsi at p1
 have fin:∀t,TyOf K H1 v (.type t)->tyP x=some t->t∈["NoneType","bool","int","str","tuple","list","dict"]->∃x' n'' t' b',[v,V.ty n]=[x',.ty n'']/\TyOf K H1 x' t'/\Cs K t' (.type n'')=some b'/\Q (.bl b') H1:=by
  intro t ty e m;rw[e] at p1;exact⟨v,n,_,_,rfl,ty,QF m hn,k _ _ _ _ _ p1 S1 rfl f1⟩
 cases x with
 |non=>cases(show v=.non from r1);exact fin _ .non rfl (by decide)
 |bl b=>cases(show v=.bl b from r1);exact fin _ (.bl b) rfl (by decide)
 |int b=>cases(show v=.int b from r1);exact fin _ (.int b) rfl (by decide)
 |str b=>cases(show v=.str b from r1);exact fin _ (.str b) rfl (by decide)
 |tup xs=>obtain⟨a,vs,rfl,t,r⟩:=r1;exact fin _ (.tup t.2) rfl (by decide)
 |lst xs=>obtain⟨a,vs,rfl,t,r⟩:=r1;exact fin _ (.lst t.2) rfl (by decide)
 |dct ks xs=>obtain⟨a,jg,rfl,_,t,r⟩:=r1;exact fin _ (.dK t) rfl (by decide)
 |ty n=>exact p1.elim
 |pot k=>exact p1.elim
 |fdt ks xs=>exact p1.elim
 |scr ns=>exact p1.elim
def wMin:w2:=λx y R=>match x,y with|.int i,.int j=>R (.int (if j<i then j else i))|_,_=>False
theorem ok_cb2 (hw:W2 K (λx y H Q=>r [x,y] H Q) w)(h:EOk K T t pa)(h':EOk K T u pb):EOk K T (tCB r (X6 t (X6 u tNil))) (qOp w pa pb):=λC G σ H env n R Q hK hT S hp k=>by
 refine h C G σ H env n _ _ hK hT S hp λx jc n1 v H1 p1 S1 r1 f1=>?_;refine h' C G σ H1 jc n1 _ _ hK hT S1 p1 λy jd n2 u H2 p2 S2 r2 f2=>?_;exact hw G H2 x y v u _ _ (λp hp=>S2.fresh hp) (.inl (r1.fr f2)) (.inl r2) p2 λz v' H' rz s rv=>k _ _ _ _ _ rz (S2.same s) rv ((f1.trans f2).trans (Fr.of s))
theorem HA (hc:∀z,(F z).calm=true)(hg:∀z,Gl (F z) "min")(hm:∀z,(F z).mg "min"=none)(ha:QE T K F a pa)(hb:QE T K F b pb)(hs:F5 a=true:=by rfl)(hs2:F5 b=true:=by rfl):QE T K F (.Call (.Name "min" p) [a,b] [] pos) (qOp wMin pa pb):=by
 obtain⟨t,h1,h2⟩:=ha;obtain⟨u,h3,h4⟩:=hb;refine⟨_,λz=>y0 (Ps (hc z)) (hg z) (hm z) bt_min (E9 (h1 z) (E9 (h3 z) G7 (D0 hs2)) (D0 hs)) (by decide) (by decide) (D0 hs) (by rw[D0 hs2];rfl),ok_cb2 (λG H x y v u R Q hf rx ry hw k=>?_) h2 h4⟩;unfold wMin at hw
 split at hw
 ·exact⟨_,_,by rw[rx.int,ry.int],k _ _ _ hw (Same.refl _) rfl⟩
 ·exact hw.elim
def D6 (K:A9)(T:PotK)(f:pF):Sp:=λvs H Q _=>∃(G:Gh) (xs:List PV) (n:Nat) (R:PV->Nat->Prop),(∀p∈G.pots,p∈G.M/\T.at_ G.M H p n)/\(∀a∈G.M,∃o,H a=some o/\MutO o)/\T.has G.pots/\Reps K G H xs vs/\f xs n R/\
 ∀r n' v H',R r n'->Rep K G H' r v->(∀p∈G.pots,T.at_ G.M H' p n')->(∀b o,b∉G.pots->H b=some o->H' b=some o)->Q v H'
def B7 (f:pF)(pa:pA):pE:=λenv n R=>pa env n λxs jc n1=>f xs n1 λr n2=>R r jc n2
theorem SR.call (S:SR C G σ H env n)(hk:∀b o,b∉G.pots->H b=some o->H' b=some o)(hp:∀p∈G.pots,C.T.at_ G.M H' p n'):SR C G σ H' env n' where
 frame b o hb e:=by
  by_cases hp:b∈G.pots
  ·-- a pot that is new since the entry has no old object
   obtain⟨l,el,_⟩:=S.pre;rw[el] at hp;rcases M8.mp hp with z|z
   ·exact absurd z hb
   ·have hM:=(S.pots b (by rw[el];exact hp)).1;rcases S.sub b hM with z2|z2
    ·exact(S.newp b (by rw[el];exact hp) hb z2).elim
    ·rw[z2] at e;cases e
  ·exact hk b o hp (S.frame b o hb e)
 sub:=S.sub
 sup:=S.sup
 pots p h:=⟨(S.pots p h).1,hp p h⟩
 pre:=S.pre
 mu a ha:=by
  by_cases h:a∈G.pots
  ·exact C.T.mu (hp a h)
  ·obtain⟨o,e,m⟩:=S.mu a ha;exact⟨o,hk a o h e,m⟩
 slots i x e:=by
  have f:Fr G H H':=λb o hb he=>hk b o (λz=>hb (S.pots b z).1) he;have:=S.slots i x e;cases x with
  | v x =>
   obtain⟨v,e1,r⟩:=this;exact⟨v,e1,r.fr f⟩
  | ow kk xs =>
   obtain⟨a,vs,e1,h1,h2,h3,h4,r⟩:=this;exact⟨a,vs,e1,h1,h2,h3,hk _ _ h3 h4,r.fr f⟩
 inj:=S.inj
 p0:=S.p0
 len:=S.len
 newp:=S.newp
theorem qe_fn (hG:∀z,Kn (F z).prog (F z).w (F z).K (F z).mg (F z).base x k ps (D6 K T f))(hr:∀z,Room j (F z).A)(hk:k<=j)(hg:∀z,Gl (F z) x)(ha:QA T K F (e::es) pl)(hdb:(x == ("__debug__":Str))=false:=by decide)
   (hs:F5 e=true:=by rfl) (hpl:∀z,(backTo pos (E3 es (F z).env)).any (·.1)=false:=by intro _;rfl):QE T K F (.Call (.Name x p) (e::es) [] pos) (B7 f pl):=by
 obtain⟨t,h1,h2⟩:=ha;refine⟨_,λz=>pe_fn (hG z) (hr z) hk (hg z) (h1 z) hdb (D0 hs) (hpl z),λC G σ H env n R Q hK hT S hp k=>?_⟩;refine h2 C G σ H env n _ _ hK hT S hp λxs jc n1 vs H1 p1 S1 r1 f1=>?_;subst hT;rw[X3];refine⟨G,xs,n1,_,λp hp=>S1.pots p hp,S1.mu,S1.hasG,r1,p1,λr n' v H' rr rv hp hk'=>?_⟩;exact k _ _ _ _ _ rr (S1.call hk' hp) rv (f1.trans λb o hb e=>hk' b o (λz=>hb (S1.pots b z).1) e)
end
end Pu
end
section
namespace Pu
open PySem PySem.Spec L2
abbrev pG:=PV->Env->(Env->Prop)->Prop
abbrev pGs:=List PV->Env->(Env->Prop)->Prop
def GOk (K:A9)(g:TG)(pg:pG):Prop:=∀(C:Ct) (G:Gh) (σ:St) (H:Hp) (env:Env) (n:Nat) (x:PV) (v:V) (R:Env->Prop) (Q:St->Hp->Prop),C.K=K->SR C G σ H env n->Rep K G H x v->pg x env R->
 (∀jh σ',R jh->SR C G σ' H jh n->Q σ' H)->g v σ H Q
def GsOk (K:A9)(g:TGs)(pg:pGs):Prop:=∀(C:Ct) (G:Gh) (σ:St) (H:Hp) (env:Env) (n:Nat) (x:List PV) (v:List V) (R:Env->Prop) (Q:St->Hp->Prop),C.K=K->SR C G σ H env n->Reps K G H x v->pg x env R->
 (∀jh σ',R jh->SR C G σ' H jh n->Q σ' H)->g v σ H Q
def QG {ι:Type}(K:A9)(F:ι->Cx)(e:Expr)(pg:pG):Prop:=∃g,(∀z,PG (F z) e g)/\GOk K g pg
def QGs {ι:Type}(K:A9)(F:ι->Cx)(e:List Expr)(pg:pGs):Prop:=∃g,(∀z,PGs (F z) e g)/\GsOk K g pg
def gN (i:Nat):pG:=λx env R=>R (env.set i (some (.v x)))
def gNl:pGs:=λxs env R=>match xs with|[]=>R env|_=>False
def gCn (g:pG)(r:pGs):pGs:=λxs env R=>match xs with|x::xs=>g x env λjc=>r xs jc R|[]=>False
def gTp (k:Nat)(g:pGs):pG:=λx env R=>match x with|.tup xs=>xs.length=k/\g xs env R|_=>False
theorem SR.set (S:SR C G σ H env n)(i:Nat)(r:Rep C.K G H x v):SR C G (σ.set i (some v)) H (env.set i (some (.v x))) n where
 frame:=S.frame
 sub:=S.sub
 sup:=S.sup
 pots:=S.pots
 pre:=S.pre
 mu:=S.mu
 slots j s e:=by
  by_cases h:i=j
  ·subst h
   by_cases hl:i<env.length
   ·rw[P5 hl] at e;cases e;exact⟨v,by rw[P5 (by rw[<- S.len];exact hl)],r⟩
   ·rw[R9 (by rw[M1];omega)] at e;cases e
  ·rw[O4 h] at e ⊢;exact S.slots j s e
 inj j k xs ys a e1 e2 e3 e4:=by
  have nj:∀(j:Nat) (xs:OK×List PV),(env.set i (some (.v x)))[j]?=some (some (Slot.ow xs.1 xs.2))->i≠j:=by
   intro j xs e h;subst h
   by_cases hl:i<env.length
   ·rw[P5 hl] at e;cases e
   ·rw[R9 (by rw[M1];omega)] at e;cases e
  have n1:=nj j xs e1;have n2:=nj k ys e2;rw[O4 n1] at e1 e3;rw[O4 n2] at e2 e4;exact S.inj j k xs ys a e1 e2 e3 e4
 p0:=S.p0
 len:=by rw[M1,M1];exact S.len
 newp:=S.newp
section
variable {T:PotK}{ι:Type}{K:A9}{F:ι->Cx}{e a b c:Expr}{es rest:List Expr}{pe pa pb pc:pE}{pos:Pos}{pl pr:pA}{pg:pG}{pgs:pGs}{pt:pT}
theorem HB (i:Nat)(hN:X.N.Nodup)(hi:X.N[i]?=some x)(hx:Loc X.env.scope x)(hf:X.fn x=true\/X.env.scope.names.lookup x=some .local:=by first|exact .inl rfl|exact .inr rfl|assumption):GW X (.Name x pos) (O8 i):=⟨OY hN hi hx hf⟩
theorem QH (h:∀z,GW (F z) (.Name x pos) (O8 i)):QG K F (.Name x pos) (gN i):=⟨_,λz=>(h z).h,λC G σ H env n x v R Q hK S r hp k=>k _ _ hp (S.set i (hK▸r))⟩
theorem M5:QGs K F [] gNl:=⟨_,λ_=>GT,λC G σ H env n x v R Q hK S r hp k=>by
 cases x with
 |nil=>exact⟨r,k _ _ hp S⟩
 |cons _ _=>exact hp.elim⟩
theorem D7 (h1:QG K F e pg)(h2:QGs K F es pgs)(hs:∀z,(G8 (e::es) (F z).env).map (·.2)=assign e (F z).env::(G8 es (F z).env).map (·.2):=by intro _;rfl):QGs K F (e::es) (gCn pg pgs):=by
 obtain⟨g,a1,a2⟩:=h1;obtain⟨gs,b1,b2⟩:=h2;refine⟨_,λz=>Db (a1 z) (b1 z) (hs z),λC G σ H env n x v R Q hK S r hp k=>?_⟩;cases x with
 |nil=>exact hp.elim
 | cons x xs =>
  obtain⟨u,us,rfl,ru,rs⟩:=r;exact⟨u,us,rfl,a2 C G σ H env n x u _ _ hK S ru hp λjh σ' re S'=>b2 C G σ' H jh n xs us _ _ hK S' rs re k⟩
theorem N4 (hc:∀z,(F z).calm=true)(h:QGs K F es pgs)(hn:∀z,(G8 es (F z).env).length=m:=by intro _;rfl)(hst:∀z,(G8 es (F z).env).findIdx? (·.1)=none:=by intro _;rfl)(hK:∀z,(F z).K=K:=by intro _;rfl):QG K F (.Tuple es k pos) (gTp m pgs):=by
 obtain⟨g,a1,a2⟩:=h;refine⟨_,λz=>hK z▸GU (hc z) (a1 z) (hn z) (hst z),λC G σ H env n x v R Q hK S r hp k=>?_⟩;cases x with
 | tup xs =>
  obtain⟨a,vs,rfl,t,rs⟩:=r;exact⟨a,vs,rfl,t.sq,by rw[<- rs.length];exact hp.1,a2 C G σ H env n xs vs _ _ hK S rs hp.2 k⟩
 |_=>exact hp.elim
def ItR (K:A9)(G:Gh)(H:Hp)(J:It)(xs:List PV):Prop:=∀(G2:Gh) (H2:Hp),(∀b o,b∉G.M->H b=some o->H2 b=some o)->(∀a∈G2.M,a∈G.M\/H a=none)->(∀(k:Nat) (p:A1),G.pots[k]?=some p->G2.pots[k]?=some p)->(∀p,H2 p=none->p∉G2.M)->
 (∀(i:Nat) x,xs[i]?=some x->J.go i H2/\∀v H3,J.yld i H2 v H3->Same H2 H3/\Rep K G2 H3 x v)/\∀i,xs.length<=i->J.stop i H2
def IOk (K:A9)(T:PotK)(wi:TI)(pi:pA):Prop:=∀(C:Ct) (G:Gh) (σ:St) (H:Hp) (env:Env) (n:Nat) (R:List PV->Env->Nat->Prop) (Q:It->Hp->Prop),C.K=K->C.T=T->SR C G σ H env n->pi env n R->
 (∀xs jh n' J H',R xs jh n'->SR C G σ H' jh n'->Fr G H H'->ItR K G H' J xs->Q J H')->wi σ H Q
def QI {ι:Type}(T:PotK)(K:A9)(F:ι->Cx)(tg iter:Expr)(pi:pA):Prop:=∃wi,(∀z,PI (F z) tg iter wi)/\IOk K T wi pi
variable {tg:Expr}
theorem QJ {a:A1}(t:AtL G.M H a vs)(r:Reps K G H xs vs):ItR K G H (Itl K a) xs:=by
 intro G2 H2 hk hM hp hf;have hq:SqL K H2 a vs:=SqL.of (hk a _ t.1 t.2);have r2:Reps K G2 H2 xs vs:=Reps.mono hk hM hp _ _ r;refine⟨λi x e=>?_,λi hi=>⟨vs,hq,by rw[<- r.length];exact hi⟩⟩;obtain⟨v,ev,rv⟩:=r2.get' e;refine⟨⟨vs,v,hq,ev⟩,λv' H3 y=>?_⟩;obtain⟨e3,y⟩:=y;subst e3;have:=y vs hq;rw[ev] at this;cases this;exact⟨Same.refl _,rv⟩
theorem QK {a:A1}(t:AtT G.M H a vs)(r:Reps K G H xs vs):ItR K G H (Itt K a) xs:=by
 intro G2 H2 hk hM hp hf;have hq:SqT K H2 a vs:=SqT.of (hk a _ t.1 t.2);have r2:Reps K G2 H2 xs vs:=Reps.mono hk hM hp _ _ r;refine⟨λi x e=>?_,λi hi=>⟨vs,hq,by rw[<- r.length];exact hi⟩⟩;obtain⟨v,ev,rv⟩:=r2.get' e;refine⟨⟨vs,v,hq,ev⟩,λv' H3 y=>?_⟩;obtain⟨e3,y⟩:=y;subst e3;have:=y vs hq;rw[ev] at this;cases this;exact⟨Same.refl _,rv⟩
def qIl (pe:pE):pA:=λenv n R=>pe env n λx jc n1=>match x with|.lst xs=>R xs jc n1|_=>False
def qIt (pe:pE):pA:=λenv n R=>pe env n λx jc n1=>match x with|.tup xs=>R xs jc n1|_=>False
theorem Z9 (h:QE T K F e pe)(hK:∀z,(F z).K=K:=by intro _;rfl):QI T K F tg e (qIl pe):=by
 obtain⟨t,h1,h2⟩:=h;refine⟨_,λz=>hK z▸Pc (h1 z),λC G σ H env n R Q hK hT S hp k=>?_⟩;refine h2 C G σ H env n _ _ hK hT S hp λx jc n1 v H1 p1 S1 r1 f1=>?_;cases x with
 | lst xs =>
  obtain⟨a,vs,rfl,t,r⟩:=r1;exact⟨a,rfl,⟨vs,t.sq⟩,k _ _ _ _ _ p1 S1 f1 (QJ t r)⟩
 |_=>exact p1.elim
theorem R6 (h:QE T K F e pe)(hK:∀z,(F z).K=K:=by intro _;rfl):QI T K F tg e (qIt pe):=by
 obtain⟨t,h1,h2⟩:=h;refine⟨_,λz=>hK z▸pi_tup (h1 z),λC G σ H env n R Q hK hT S hp k=>?_⟩;refine h2 C G σ H env n _ _ hK hT S hp λx jc n1 v H1 p1 S1 r1 f1=>?_;cases x with
 | tup xs =>
  obtain⟨a,vs,rfl,t,r⟩:=r1;exact⟨a,rfl,⟨vs,t.sq⟩,k _ _ _ _ _ p1 S1 f1 (QK t r)⟩
 |_=>exact p1.elim
theorem QM (lo:Int)(m:Nat):ItR K G H (Itr lo m) ((D3 m).map λ(k:Nat)=>PV.int (lo+k)):=by
 intro G2 H2 hk hM hp hf;refine⟨λi x e=>?_,λi hi=>(show m<=i by simpa using hi)⟩;rw[E7] at e;cases e1:(D3 m)[i]? with
 |none=>rw[e1] at e;cases e
 | some j =>
  rw[e1] at e;cases e;obtain⟨hi,e2⟩:=F6.mp e1;rw[List.getElem_range] at e2;subst e2;refine⟨(show i<m by simpa using hi),λv H3 y=>?_⟩;obtain⟨e3,y⟩:=y;subst e3 y;exact⟨Same.refl _,rfl⟩
def AK (pe:pE):pA:=λenv n R=>pe env n λx jc n1=>match x with|.int j=>(-1000000<=j/\j<=1000000)/\R ((D3 j.toNat).map λ(k:Nat)=>PV.int (0+k)) jc n1|_=>False
theorem Dr (hg:∀z,Gl (F z) "range")(hm:∀z,(F z).mg "range"=none)(h:QE T K F e pe)(hs:F5 e=true:=by rfl):QI T K F tg (.Call (.Name "range" p) [e] [] pos) (AK pe):=by
 obtain⟨t,h1,h2⟩:=h;refine⟨_,λz=>Pe (hg z) (hm z) (E9 (h1 z) G7 (D0 hs)) (by rw[D0 hs];rfl),λC G σ H env n R Q hK hT S hp k=>?_⟩;refine EX (pe:=pe) (λC G σ H env n R Q hK hT S hp k=>h2 C G σ H env n R Q hK hT S hp λx jh n' v H' r S' rp f=>k x jh n' v H' r S' (.inl (hK▸rp)) f) hK hT S hp λx jc n1 v H1 p1 S1 r1 f1=>?_;cases x with
 |int j=>exact⟨j,by rw[(r1.rd S1).int],by omega,by omega,k _ _ _ _ _ p1.2 S1 f1 (QM 0 _)⟩
 |_=>exact p1.elim
def p6 (xs:List PV):List PV:=xs.zipIdx.map λy=>.tup [.int (y.2:Nat),y.1]
theorem HC {xs:List PV}{i:Nat}{x:PV}(h:(p6 xs)[i]?=some x):∃y,xs[i]?=some y/\x=.tup [.int (i:Nat),y]:=by
 unfold p6 at h;rw[E7,List.getElem?_zipIdx] at h;cases e:xs[i]? with
 |none=>rw[e] at h;cases h
 | some y =>
  rw[e] at h;cases h;exact⟨y,rfl,by simp⟩
theorem HD (xs:List PV):(p6 xs).length=xs.length:=by unfold p6;simp
def capS:Option (Option Slot)->Option Slot
 |some (some (.v x))=>some (.v x)
 |_=>none
def capV (cs:List (Option Nat))(env:Env):Env:=cs.map λo=>o.bind λj=>capS (env[j]?)
def U5 (g:pG)(tt:pT)(te:pE):List PV->Env->Nat->(List PV->Nat->Prop)->Prop
 |[],_,n,R=>R [] n
 |x::xs,env,n,R=>g x env λjc=>tt jc n λb jd n2=>if b=true then te jd n2 λy je n3=>U5 g tt te xs je n3 λys n4=>R (y::ys) n4 else U5 g tt te xs jd n2 R
def qTru:pT:=λenv n R=>R true env n
def P0 (cs:List (Option Nat))(pi:pA)(g:pG)(tt:pT)(te:pE):pA:=λenv n R=>pi env n λxs jc n1=>xs.length<=1000000/\U5 g tt te xs (capV cs jc) n1 λys n2=>R ys jc n2
structure Inn (K:A9)(T:PotK)(G:Gh)(σ:St)(H:Hp)(env:Env)(n:Nat):Prop where
 pots:∀p∈G.pots,p∈G.M/\T.at_ G.M H p n
 has:T.has G.pots
 mu:∀a∈G.M,∃o,H a=some o/\MutO o
 slots:∀(i:Nat) (s:Slot),env[i]?=some (some s)->∃x v,s=.v x/\σ[i]?=some (some v)/\Rep K G H x v
 len:env.length=σ.length
theorem Inn.sr (I:Inn K T G σ H env n):SR ⟨K,T,G.M,G.pots,H,false⟩ G σ H env n where
 frame b o _ e:=e
 sub a ha:=.inl ha
 sup a ha:=ha
 pots:=I.pots
 pre:=⟨[],by simp,.inl rfl⟩
 mu:=I.mu
 slots i s e:=by
  obtain⟨x,v,rfl,ev,r⟩:=I.slots i s e;exact⟨v,ev,r⟩
 inj i j xs ys a e1:=by
  obtain⟨x,v,z,_⟩:=I.slots i _ e1;cases z
 p0:=⟨λp hp=>(I.pots p hp).1,I.has⟩
 len:=I.len
 newp p hp hn:=absurd hp hn
theorem SR.inn (S:SR ⟨K,T,G.M,G.pots,H0,false⟩ G σ H env n):Inn K T G σ H env n where
 pots:=S.pots
 has:=S.hasG
 mu:=S.mu
 slots i s e:=by
  cases s with
  | v x =>
   obtain⟨v,ev,r⟩:=S.slots i _ e;exact⟨x,v,rfl,ev,r⟩
  | ow kk xs =>
   obtain⟨a,vs,ev,h1,h2,_⟩:=S.slots i _ e;exact absurd h1 h2
 len:=S.len
theorem QP:TOk K T tTru qTru:=λC G σ H env n R Q hK hT S hp k=>k _ _ _ _ hp S Fr.refl
structure CI (K:A9)(T:PotK)(G:Gh)(H1:Hp)(D:A1)(σ:St)(H:Hp)(env:Env)(n:Nat)(jl:List PV)(us:List V):Prop where
 inn:Inn K T ⟨D::G.M,G.pots⟩ σ H env n
 kp:∀b o,b∉G.pots->H1 b=some o->H b=some o
 eD:H D=some (.lst us)
 ra:Reps K ⟨D::G.M,G.pots⟩ H jl us
theorem CI.start {K:A9}{T:PotK}{G:Gh}{H1:Hp}{D:A1}{σ:St}{env:Env}{n:Nat}(hD:H1 D=none)(I0:Inn K T G σ H1 env n):CI K T G H1 D σ (upd H1 D (.lst [])) env n [] []:=by
 have lay:∀b o,H1 b=some o->upd H1 D (.lst []) b=some o:=λb o e=>Same.lay1 hD b o e;have new:∀a,a∈D::G.M->a∈G.M\/H1 a=none:=λa ha=>(C5.mp ha).elim (λz=>.inr (z▸hD)) .inl;refine⟨⟨λp hp=>⟨C3 _ (I0.pots p hp).1,?_⟩,I0.has,λa ha=>?_,λi s e=>?_,I0.len⟩,λb o _ e=>lay b o e,E4,rfl⟩
 ·have h1:=T.more (M':=D::G.M) (I0.pots p hp).2 new;obtain⟨o,e,_⟩:=T.mu h1;exact T.keep h1 (by rw[e,lay p o e]) λb o _ e=>lay b o e
 ·rcases C5.mp ha with rfl|ha
  ·exact⟨_,E4,trivial⟩
  ·obtain⟨o,e,m⟩:=I0.mu a ha;exact⟨o,lay a o e,m⟩
 ·obtain⟨x,v,rfl,ev,r⟩:=I0.slots i s e;exact⟨x,v,rfl,ev,Rep.mono (G':=⟨D::G.M,G.pots⟩) (λb o _ e=>lay b o e) new (λ_ _ e=>e) _ _ r⟩
theorem CI.go {K:A9}{T:PotK}{G:Gh}{H1:Hp}{D:A1}{σ σ':St}{H H':Hp}{env jh:Env}{n n':Nat}{jl:List PV}{us:List V}(c:CI K T G H1 D σ H env n jl us)(nD:D∉G.pots)(S:SR ⟨K,T,D::G.M,G.pots,H,false⟩ ⟨D::G.M,G.pots⟩ σ' H' jh n'):CI K T G H1 D σ' H' jh n' jl us:=
 ⟨S.inn,λb o hb e=>S.frame b o hb (c.kp b o hb e),S.frame D _ nD c.eD,Reps.mono (λb o hb e=>S.frame b o (λz=>hb (c.inn.pots b z).1) e) (λa ha=>.inl ha) (λ_ _ e=>e) _ _ c.ra⟩
theorem CI.fD {G:Gh}(o:HO):Fr ⟨D::G.M,G.pots⟩ H (upd H D o):=λb u hb e=>by
 rw[D4 (λz=>hb (by rw[z];exact C7))];exact e
theorem CI.add {K:A9}{T:PotK}{G:Gh}{H1:Hp}{D:A1}{σ:St}{H:Hp}{env:Env}{n:Nat}{jl:List PV}{us:List V}{y:PV}{u:V}(c:CI K T G H1 D σ H env n jl us)(nD:D∉G.pots)(hD:H1 D=none)(r:Rep K ⟨D::G.M,G.pots⟩ H y u):CI K T G H1 D σ (upd H D (.lst (us++[u]))) env n (jl++[y]) (us++[u]):=by
 refine⟨⟨λp hp=>⟨(c.inn.pots p hp).1,T.keep (c.inn.pots p hp).2 (D4 λz=>nD (by rw[<- z];exact hp)) (CI.fD _)⟩,c.inn.has,λa ha=>?_,λq s e=>?_,c.inn.len⟩,λb o hb e=>?_,E4,(c.ra.append (.one r)).fr (CI.fD _)⟩
 ·by_cases haD:a=D
  ·subst haD;exact⟨_,E4,trivial⟩
  ·rw[D4 haD];exact c.inn.mu a ha
 ·obtain⟨x,v,rfl,ev,r⟩:=c.inn.slots q s e;exact⟨x,v,rfl,ev,r.fr (CI.fD _)⟩
 ·rw[D4 (λz=>by rw[z,hD] at e;cases e)];exact c.kp b o hb e
theorem CI.it {K:A9}{T:PotK}{G:Gh}{H1:Hp}{D:A1}{σ:St}{H:Hp}{env:Env}{n:Nat}{jl:List PV}{us:List V}{J:It}{xs:List PV}(c:CI K T G H1 D σ H env n jl us)(hD:H1 D=none)(hJ:ItR K G H1 J xs):(∀(i:Nat) x,xs[i]?=some x->J.go i H/\∀v H3,J.yld i H v H3->Same H H3/\Rep K ⟨D::G.M,G.pots⟩ H3 x v)/\∀i,xs.length<=i->J.stop i H:=
 hJ ⟨D::G.M,G.pots⟩ H (fun b o hb e=>by
  by_cases z:b∈G.pots
  ·obtain⟨h1,_⟩:=c.inn.pots b z;rcases C5.mp h1 with rfl|h1
   ·rw[hD] at e;cases e
   ·exact absurd h1 hb
  ·exact c.kp b o z e) (λa ha=>(C5.mp (show a∈D::G.M from ha)).elim (λz=>.inr (z▸hD)) .inl) (λ_ _ e=>e) λp hp=>c.inn.sr.fresh hp
theorem KN {K:A9}{T:PotK}{J:It}{g:TG}{tt:TT}{te:TE}{pg:pG}{ptt:pT}{pte:pE}(hg:GOk K g pg)(ht:TOk K T tt ptt)(he:EOk K T te pte){G:Gh}{H1:Hp}{xs:List PV}(hJ:ItR K G H1 J xs)(hl:xs.length<=1000000)
   {σc:St} {env:Env} {n:Nat} {R:List PV->Nat->Prop} {Q:VK} {D:A1} (hD:H1 D=none) (I0:Inn K T G σc H1 env n) (hp:U5 pg ptt pte xs env n R)
   (hQ:∀ys n' us H',R ys n'->(∀p∈G.pots,T.at_ (D::G.M) H' p n')->(∀b o,b∉G.pots->H1 b=some o->H' b=some o)->H' D=some (.lst us)->Reps K ⟨D::G.M,G.pots⟩ H' ys us->Q (.ref D) H') :
   CompW J g tt te Q D σc (upd H1 D (.lst [])):=by
 have nD:D∉G.pots:=λz=>I0.sr.fresh hD (I0.pots D z).1;refine⟨λi m σ H=>m=xs.length-i/\i<=xs.length/\∃env n jl us,CI K T G H1 D σ H env n jl us/\jl.length<=i/\U5 pg ptt pte (xs.drop i) env n λys n'=>R (jl++ys) n',⟨xs.length,rfl,K3 _,env,n,[],[],.start hD I0,B8 _,hp⟩,?_⟩;rintro i m σ H ⟨rfl,hi,env,n,jl,us,c,la,hc⟩;obtain⟨hgo,hstop⟩:=c.it hD hJ
 by_cases hlt:i<xs.length
 ·obtain⟨g1,g2⟩:=hgo i _ (D9 hlt);refine .inr ⟨g1,λv H2 y=>?_⟩;obtain⟨s2,rv⟩:=g2 v H2 y;rw[Bh hlt] at hc;refine hg _ _ σ H2 env n xs[i] v _ _ rfl (c.inn.sr.same s2) rv hc λjc σ1 hc1 S2=>?_;refine ht _ _ σ1 H2 jc n _ _ rfl rfl S2 hc1 λb jd n2 H4 hc2 S4 f4=>?_;cases b with
  |false=>exact⟨xs.length-(i+1),CG _ _ hlt,rfl,hlt,jd,n2,jl,us,c.go nD S4,Nat.le_succ_of_le la,hc2⟩
  | true =>
   refine he _ _ σ1 H4 jd n2 _ _ rfl rfl S4 hc2 λy je n3 u H5 hc3 S5 r5 f5=>?_;have c5:=c.go nD S5;refine⟨us,c5.eD,by rw[<- c.ra.length];exact mil' (by omega),xs.length-(i+1),CG _ _ hlt,rfl,hlt,je,n3,jl++[y],us++[u],c5.add nD hD r5,by rw[E6,e7];omega,?_⟩;simp only[V6];exact hc3
 ·obtain rfl:i=xs.length:=Nat.le_antisymm hi (Av hlt);refine .inl ⟨hstop _ (B8 _),?_⟩;rw[Ek] at hc;have hc':R (jl++[]) n:=hc;rw[X3] at hc';exact hQ _ n us H hc' (λp hp=>(c.inn.pots p hp).2) c.kp c.eD c.ra
end
end Pu
end
section
namespace Pu
open PySem PySem.Spec L2
section
variable {T:PotK}{ι:Type}{K:A9}{F:ι->Cx}{e a b c:Expr}{es rest:List Expr}{pe pa pb pc:pE}{pos:Pos}{pl pr:pA}{pg:pG}{pgs:pGs}{pt:pT}
def QIf {ι:Type}(T:PotK)(K:A9)(F:ι->Cx)(jk:List Expr)(pt:pT):Prop:=∃t,(∀z,PIf (F z) jk t)/\TOk K T t pt
theorem AM:QIf T K F [] qTru:=⟨_,λ_=>Qj,QP⟩
theorem W3 (h:QT T K F c pt):QIf T K F [c] pt:=let ⟨t,h1,h2⟩:=h;⟨t,λz=>Qk (h1 z),h2⟩
theorem HE {C:Ct}{G:Gh}{σ:St}{H:Hp}{env:Env}{n:Nat}(S:SR C G σ H env n)(cs:List (Option Nat)):Inn C.K C.T G (o9 cs σ) H (capV cs env) n where
 pots:=S.pots
 has:=S.hasG
 mu:=S.mu
 len:=by simp[capV,o9]
 slots i s e:=by
  unfold capV at e;rw[E7] at e;cases ec:cs[i]? with
  |none=>rw[ec] at e;cases e
  | some o =>
   rw[ec] at e;cases o with
   |none=>cases e
   | some j =>
    have e':capS (env[j]?)=some s:=by simpa using e
    unfold capS at e'
    split at e'
    ·rename_i x ex;cases e';obtain⟨v,ev,r⟩:=S.slots j _ ex;refine⟨x,v,rfl,?_,r⟩;unfold o9;rw[E7,ec];simp[ev]
    ·cases e'
def cutH (H:Hp)(D:A1):Hp:=λb=>if b=D then none else H b
theorem W4 {H:Hp}{D b:A1}(h:b≠D):cutH H D b=H b:=jt h
theorem HF {H:Hp}{D:A1}{o:HO}(h:H D=some o):upd (cutH H D) D o=H:=by
 funext b
 by_cases hb:b=D
 ·subst hb;rw[E4,h]
 ·rw[D4 hb,W4 hb]
theorem W5 {scope:K9}{cl:ι->List (Str×A1)}{N:List Str}{cs:List (Option Nat)}{ji tg iter:Expr}{jk:List Expr}{pi:pA}{ptt:pT}{pte:pE}(S:∀z,o8 (F z) scope (cl z) N cs)(hc:∀z,(F z).calm=true)(hi:QI T K F tg iter pi)
   (hg:QG K (λy:ι×List A1×A1×A5×Hp=>G0 (F y.1) scope (cl y.1) N y.2.1 y.2.2.1 y.2.2.2.1 y.2.2.2.2) tg pg) (ht:QIf T K (λy:ι×List A1×A1×A5×Hp=>G0 (F y.1) scope (cl y.1) N y.2.1 y.2.2.1 y.2.2.2.1 y.2.2.2.2) jk ptt)
   (he:QE T K (λy:ι×List A1×A1×A5×Hp=>G0 (F y.1) scope (cl y.1) N y.2.1 y.2.2.1 y.2.2.2.1 y.2.2.2.2) ji pte)
   (hs:∀z x,T8 iter (F z).env x=pure x:=by intro _ _;rfl):QN T K F (.ListComp ji [⟨tg,iter,jk,0⟩] scope pos) (P0 cs pi pg ptt pte):=by
 obtain⟨wi,i1,i2⟩:=hi;obtain⟨g,hg0,hg⟩:=hg;obtain⟨tt,ht0,ht⟩:=ht;obtain⟨te,he0,he⟩:=he;refine⟨_,λz=>Ks (S z) (hc z) (i1 z) (λfp C s H=>⟨hg0 (z,fp,C,s,H),ht0 (z,fp,C,s,H),he0 (z,fp,C,s,H)⟩) (hs z),λC G σ H env n R Q hK hT S hp k=>?_⟩;refine i2 C G σ H env n _ _ hK hT S hp λxs jc n1 J H1 p1 S1 f1 hJ=>?_;intro D hD;have hDM:=S1.fresh hD;refine KN (G:=G) hg ht he hJ p1.1 hD (hT▸hK▸HE S1 cs) p1.2 λys n2 us H' rr hpots hk eD ry=>?_
 -- the heap without D
 have nD:∀b o,H1 b=some o->b≠D:=λb o e z=>by rw[z,hD] at e;cases e
 have hD0:C.H0 D=none:=by
  cases z:C.H0 D with
  |none=>rfl
  | some o =>
   by_cases hp:D∈C.pots0
   ·exact absurd (S1.sup D (S1.p0.1 D hp)) hDM
   ·have:=S1.frame D o hp z;rw[hD] at this;cases this
 have hk2:∀b o,b∉G.pots->H1 b=some o->cutH H' D b=some o:=λb o hb e=>by rw[W4 (nD b o e)];exact hk b o hb e
 have nc:∀b,b∉D::G.M->b≠D:=λb hb z=>hb (by rw[z];exact C7);have np:∀p∈G.pots,p≠D:=λp hp z=>hDM (z▸(S1.pots p hp).1)
 have Sb:SR C G σ (cutH H' D) jc n2:=S1.call hk2 λp hp=>by
  subst hT;have h2:=C.T.keep (hpots p hp) (H':=cutH H' D) (W4 (np p hp)) λb o hb e=>by rw[W4 (nc b hb)];exact e
  exact C.T.more h2 λa ha=>.inl (C3 _ ha)
 have:=k ys jc n2 D us (cutH H' D) rr Sb (f1.trans λb o hb e=>hk2 b o (λz=>hb (S1.pots b z).1) e) (by unfold cutH;rw[jr rfl]) ?_
 ·rw[HF eD] at this;exact this
 ·exact Reps.mono (G:=⟨D::G.M,G.pots⟩) (λb o hb e=>by rw[W4 (nc b hb)];exact e) (λa ha=>.inl (C3 _ ha)) (λ_ _ e=>e) _ _ ry
end
end Pu
end
section
namespace Pu
open PySem PySem.Spec L2
structure y9 where
 nx:Env->Nat->Prop
 rt:PV->Nat->Prop
 bk:Env->Nat->Prop:=λ_ _=>False
 ct:Env->Nat->Prop:=λ_ _=>False
abbrev pS:=y9->Env->Nat->Prop
structure Ext (G:Gh)(H:Hp)(G':Gh)(H':Hp):Prop where
 keep:∀b o,b∉G.M->H b=some o->H' b=some o
 new:∀a∈G'.M,a∈G.M\/H a=none
 pot:∀(k:Nat) (p:A1),G.pots[k]?=some p->G'.pots[k]?=some p
theorem Ext.refl:Ext G H G H:=⟨λ_ _ _ e=>e,λ_ h=>.inl h,λ_ _ e=>e⟩
theorem Ext.fr (f:Fr G H H'):Ext G H G H':=⟨f,λ_ h=>.inl h,λ_ _ e=>e⟩
theorem Ext.trans (a:Ext G H G1 H1)(b:Ext G1 H1 G2 H2):Ext G H G2 H2 where
 keep c o hc e:=b.keep c o (λz=>(a.new c z).elim hc λz=>by rw[z] at e;cases e) (a.keep c o hc e)
 new c hc:=(b.new c hc).elim (fun z=>a.new c z) fun z=>by
  by_cases hM:c∈G.M
  ·exact .inl hM
  ·refine .inr ?_;cases e:H c with
   |none=>rfl
   |some o=>rw[a.keep c o hM e] at z;cases z
 pot k p e:=b.pot k p (a.pot k p e)
structure Link (C:Ct)(G:Gh)(H:Hp)(PD:y9)(D:Ends):Prop where
 nx:∀env n G' σ H',PD.nx env n->SR C G' σ H' env n->Ext G H G' H'->D.nx σ H'
 rt:∀x n v G' σ H' env,PD.rt x n->SR C G' σ H' env n->Rep C.K ⟨C.M0,G'.pots⟩ H' x v->Ext G H G' H'->D.rt v H'
 bk:∀env n G' σ H',PD.bk env n->SR C G' σ H' env n->Ext G H G' H'->D.bk σ H'
 ct:∀env n G' σ H',PD.ct env n->SR C G' σ H' env n->Ext G H G' H'->D.ct σ H'
theorem Link.ext (L:Link C G H PD D)(x:Ext G H G' H'):Link C G' H' PD D:=
 ⟨λenv n G2 σ H2 p S e=>L.nx env n G2 σ H2 p S (x.trans e),λy n v G2 σ H2 env p S r e=>L.rt y n v G2 σ H2 env p S r (x.trans e),λenv n G2 σ H2 p S e=>L.bk env n G2 σ H2 p S (x.trans e),λenv n G2 σ H2 p S e=>L.ct env n G2 σ H2 p S (x.trans e)⟩
def SOk (K:A9)(T:PotK)(np:Bool)(t:TS)(ps:pS):Prop:=∀(C:Ct) (G:Gh) (σ:St) (H:Hp) (env:Env) (n:Nat) (PD:y9) (D:Ends),C.K=K->C.T=T->C.np=np->SR C G σ H env n->ps PD env n->Link C G H PD D->t D σ H
def QS {ι:Type}(T:PotK)(np:Bool)(K:A9)(F:ι->Cx)(st:Stmt)(ps:pS):Prop:=∃t,(∀z,PS (F z) st t)/\SOk K T np t ps
def QSs {ι:Type}(T:PotK)(np:Bool)(K:A9)(F:ι->Cx)(st:List Stmt)(ps:pS):Prop:=∃t,(∀z,PSs (F z) st t)/\SOk K T np t ps
theorem SR.out (S:SR C G σ H env n)(r:Rep C.K G H x v):Rep C.K ⟨C.M0,G.pots⟩ H x v:=
 Rep.mono (G':=⟨C.M0,G.pots⟩) (λ_ _ _ e=>e) (λa ha=>.inl (S.sup a ha)) (λ_ _ e=>e) _ _ r
theorem SR.old (S:SR C G σ H env n)(h:H a=none):C.H0 a=none:=by
 cases z:C.H0 a with
 |none=>rfl
 | some o =>
  by_cases hp:a∈C.pots0
  ·exact absurd (S.sup a (S.p0.1 a hp)) (S.fresh h)
  ·have:=S.frame a o hp z;rw[h] at this;cases this
theorem SR.moreO (S:SR C G σ H env n)(mo:MutO ob)(h:H a=none):SR C ⟨a::G.M,G.pots⟩ σ (upd H a ob) env n where
 frame b o hb e:=Same.lay1 h b o (S.frame b o hb e)
 sub b hb:=(C5.mp hb).elim (λz=>.inr (z▸S.old h)) (S.sub b)
 sup b hb:=C3 _ (S.sup b hb)
 pots p hp:=⟨C3 _ (S.pots p hp).1,by
  have h1:=C.T.more (M':=a::G.M) (S.pots p hp).2 (λc hc=>(C5.mp hc).elim (λz=>.inr (z▸h)) .inl);obtain⟨o,e,_⟩:=C.T.mu h1
  exact C.T.keep h1 (by rw[e,Same.lay1 h p o e]) λb o _ e=>Same.lay1 h b o e⟩
 pre:=S.pre
 mu b hb:=by
  rcases C5.mp hb with rfl|hb
  ·exact⟨_,E4,mo⟩
  ·obtain⟨o,e,m⟩:=S.mu b hb;exact⟨o,Same.lay1 h b o e,m⟩
 slots i s e:=by
  have mm:∀{x:PV} {v:V},Rep C.K G H x v->Rep C.K ⟨a::G.M,G.pots⟩ (upd H a ob) x v:=λr=>Rep.mono (G':=⟨a::G.M,G.pots⟩) (H':=upd H a ob) (λb o _ e=>Same.lay1 h b o e) (λc hc=>(C5.mp (show c∈a::G.M from hc)).elim (λz=>.inr (z▸h)) .inl) (λ_ _ e=>e) _ _ r;have:=S.slots i s e;cases s with
  | v x =>
   obtain⟨v,e1,r⟩:=this;exact⟨v,e1,mm r⟩
  | ow kk xs =>
   obtain⟨b,us,e1,h1,h2,h3,h4,r⟩:=this;exact⟨b,us,e1,C3 _ h1,h2,h3,Same.lay1 h _ _ h4,Reps.mono (G':=⟨a::G.M,G.pots⟩) (H':=upd H a ob) (λb o _ e=>Same.lay1 h b o e) (λc hc=>(C5.mp (show c∈a::G.M from hc)).elim (λz=>.inr (z▸h)) .inl) (λ_ _ e=>e) _ _ r⟩
 inj:=S.inj
 p0:=S.p0
 len:=S.len
 newp:=S.newp
theorem SR.more (S:SR C G σ H env n)(h:H a=none):SR C ⟨a::G.M,G.pots⟩ σ (upd H a (.lst vs)) env n:=S.moreO (ob:=.lst vs) trivial h
theorem SR.ow (S:SR C G σ H env n)(i:Nat)(kk:OK)(h:H a=none)(r:Reps C.K G H xs vs) :
   SR C ⟨a::G.M,G.pots⟩ (σ.set i (some (.ref a))) (upd H a (mkO kk vs)) (env.set i (some (.ow kk xs))) n:=by
 have S1:=S.moreO (Ky kk vs) h;have aM:a∉G.M:=S.fresh h;have r1:Reps C.K ⟨a::G.M,G.pots⟩ (upd H a (mkO kk vs)) xs vs:=Reps.mono (G':=⟨a::G.M,G.pots⟩) (H':=upd H a (mkO kk vs)) (λb o _ e=>Same.lay1 h b o e) (λc hc=>(C5.mp (show c∈a::G.M from hc)).elim (λz=>.inr (z▸h)) .inl) (λ_ _ e=>e) _ _ r
 have ja:∀(j:Nat) (ys:OK×List PV),env[j]?=some (some (Slot.ow ys.1 ys.2))->σ[j]?≠some (some (.ref a)):=by
  intro j ys e z;obtain⟨b,us,e1,h1,_⟩:=S.slots j _ e;rw[z] at e1;cases e1;exact aM h1
 exact {
  frame:=S1.frame
  sub:=S1.sub
  sup:=S1.sup
  pots:=S1.pots
  pre:=S1.pre
  mu:=S1.mu
  slots:=λj s e=>by
   by_cases hj:i=j
   ·subst hj
    by_cases hl:i<env.length
    ·rw[P5 hl] at e;cases e;exact⟨a,vs,by rw[P5 (by rw[<- S.len];exact hl)],C7,λz=>aM (S.sup a z),λz=>aM (S.pots a z).1,E4,r1⟩
    ·rw[R9 (by rw[M1];omega)] at e;cases e
   ·rw[O4 hj] at e ⊢;exact S1.slots j s e
  inj:=fun j k xs' ys b e1 e2 e3 e4=>by
   by_cases hj:i=j
   ·by_cases hk:i=k
    ·omega
    ·subst hj;rw[O4 hk] at e2 e4
     by_cases hl:i<σ.length
     ·rw[P5 hl] at e3;cases e3;exact absurd e4 (ja k ys e2)
     ·rw[R9 (by rw[M1];omega)] at e3;cases e3
   ·rw[O4 hj] at e1 e3
    by_cases hk:i=k
    ·subst hk
     by_cases hl:i<σ.length
     ·rw[P5 hl] at e4;cases e4;exact absurd e3 (ja j xs' e1)
     ·rw[R9 (by rw[M1];omega)] at e4;cases e4
    ·rw[O4 hk] at e2 e4;exact S.inj j k xs' ys b e1 e2 e3 e4
  p0:=S.p0
  len:=by rw[M1,M1];exact S.len
  newp:=S.newp }
theorem SR.own (S:SR C G σ H env n)(i:Nat)(h:H a=none)(r:Reps C.K G H xs vs) :
   SR C ⟨a::G.M,G.pots⟩ (σ.set i (some (.ref a))) (upd H a (.lst vs)) (env.set i (some (.ow .lst xs))) n:=S.ow i .lst h r
theorem SR.putO {C:Ct}{G:Gh}{σ:St}{H:Hp}{env:Env}{n:Nat}(S:SR C G σ H env n){i:Nat}{kk:OK}(k':OK){a:A1}{xs ys:List PV}{vs:List V}(e:env[i]?=some (some (.ow kk xs)))(ea:σ[i]?=some (some (.ref a)))(r:Reps C.K G H ys vs) :
   SR C G σ (upd H a (mkO k' vs)) (env.set i (some (.ow k' ys))) n/\Fr G H (upd H a (mkO k' vs)):=by
 obtain⟨a',us,ea',aM,a0,ap,eH,_⟩:=S.slots i _ e;rw[ea] at ea';cases ea';have f:Fr G H (upd H a (mkO k' vs)):=λb o hb he=>by rw[D4 (λz=>hb (by grind))];exact he
 refine⟨{
  frame:=λb o hb he=>?_
  sub:=S.sub
  sup:=S.sup
  pots:=λp hp=>⟨(S.pots p hp).1,C.T.keep (S.pots p hp).2 (D4 λz=>ap (by grind)) f⟩
  pre:=S.pre
  mu:=λb hb=>?_
  slots:=λj s es=>?_
  inj:=λj k xs' ys' b e1 e2 e3 e4=>?_
  p0:=S.p0
  len:=by rw[M1];exact S.len
  newp:=S.newp },f⟩
 ·have hb2:b≠a:=λz=>by
   rcases S.sub a aM with z2|z2
   ·grind
   ·grind
  rw[D4 hb2];exact S.frame b o hb he
 ·by_cases hba:b=a
  ·subst hba;exact⟨_,E4,Ky k' vs⟩
  ·obtain⟨o,he,m⟩:=S.mu b hb;exact⟨o,by rw[D4 hba];exact he,m⟩
 ·by_cases hj:i=j
  ·subst hj;have hl:i<env.length:=(F6.mp e).1;rw[P5 hl] at es;cases es;exact⟨a,vs,ea,aM,a0,ap,E4,r.fr f⟩
  ·rw[O4 hj] at es;have:=S.slots j s es;cases s with
   | v x =>
    obtain⟨v,e1,r⟩:=this;exact⟨v,e1,r.fr f⟩
   | ow kz zs =>
    obtain⟨b,us',e1,h1,h2,h3,h4,r⟩:=this;have hba:b≠a:=λz=>hj (S.inj i j (kk,xs) (kz,zs) a e es ea (by rw[e1,z]));exact⟨b,us',e1,h1,h2,h3,by rw[D4 hba];exact h4,r.fr f⟩
 ·have back:∀(j:Nat) (zs:OK×List PV),(env.set i (some (.ow k' ys)))[j]?=some (some (Slot.ow zs.1 zs.2))->∃zs':OK×List PV,env[j]?=some (some (.ow zs'.1 zs'.2)):=by
   intro j zs h
   by_cases hj:i=j
   ·simp_all
   ·grind
  obtain⟨z1,e1'⟩:=back j xs' e1;obtain⟨z2,e2'⟩:=back k ys' e2;exact S.inj j k z1 z2 b e1' e2' e3 e4
theorem SR.put (S:SR C G σ H env n)(e:env[i]?=some (some (.ow .lst xs)))(ea:σ[i]?=some (some (.ref a)))(r:Reps C.K G H ys vs) :
   SR C G σ (upd H a (.lst vs)) (env.set i (some (.ow .lst ys))) n/\Fr G H (upd H a (.lst vs)):=S.putO .lst e ea r
section
variable {T:PotK}{np:Bool}{ι:Type}{K:A9}{F:ι->Cx}{e a b c:Expr}{es:List Expr}{st:Stmt}{rest:List Stmt}{pe pa pb pc:pE}{pos:Pos}{pl pr:pA}{pg:pG}{pt:pT}{p1 p2:pS}
def qNx:pS:=λD env n=>D.nx env n
def qSeq (p q:pS):pS:=λD env n=>p { D with nx:=λe m=>q D e m } env n
theorem J8:QSs T np K F [] qNx:=⟨_,λ_=>GQ,λC G σ H env n PD D hK hT hn S hp L=>L.nx _ _ _ _ _ hp S Ext.refl⟩
theorem B5 (h:QS T np K F st p1):QSs T np K F [st] p1:=let ⟨t,h1,h2⟩:=h;⟨t,λz=>C_ (h1 z),h2⟩
theorem B3 (h:QS T np K F st p1)(h':QSs T np K F rest p2):QSs T np K F (st::rest) (qSeq p1 p2):=by
 obtain⟨t,a1,a2⟩:=h;obtain⟨u,b1,b2⟩:=h';refine⟨_,λz=>o7 (a1 z) (b1 z),λC G σ H env n PD D hK hT hn S hp L=>?_⟩;refine a2 C G σ H env n _ _ hK hT hn S hp ⟨λjc n1 G1 σ1 H1 q1 S1 x1=>?_,L.rt,L.bk,L.ct⟩;exact b2 C G1 σ1 H1 jc n1 PD D hK hT hn S1 q1 (L.ext x1)
theorem sw_set (hN:X.N.Nodup)(hi:X.N[i]?=some x)(hx:Loc X.env.scope x)(hs:c6 e (some (.Name x pos')) pos.line X.env=pure false:=by rfl)(hf:X.fn x=true\/X.env.scope.names.lookup x=some .local:=by first|exact .inl rfl|exact .inr rfl|assumption)(te:TE)(h:EW X e te):SW X (.Assign [.Name x pos'] e pos) (tAsg te (O8 i)):=⟨GV hN hi hx h.h hs hf⟩
theorem N5 (hs:swapsWithSole [tg] e pos.line X.env=pure false:=by rfl)(hw:swappedStores [tg] e X.env=pure none:=by rfl)(h1:(G8 [tg] X.env).map (·.2)=[assign tg X.env]:=by rfl)(te:TE)(g:TG)(h:EW X e te)(hg:GW X tg g):SW X (.Assign [tg] e pos) (tAsg te g):=⟨ps_asg h.h hg.h hs hw h1⟩
theorem R0 (hs:c6 e none pos.line X.env=pure false:=by rfl)(te:TE)(h:EW X e te):SW X (.Expr e pos) (GR te):=⟨OX h.h hs⟩
def qSet (i:Nat)(pe:pE):pS:=λD env n=>pe env n λx jc n1=>D.nx (jc.set i (some (.v x))) n1
theorem E2 (i:Nat)(h:∀z te,EW (F z) e te->SW (F z) st (tAsg te (O8 i)))(he:QE T K F e pe):QS T np K F st (qSet i pe):=by
 obtain⟨t,a1,a2⟩:=he;refine⟨_,λz=>(h z _ ⟨a1 z⟩).h,λC G σ H env n PD D hK hT hn S hp L=>?_⟩;refine a2 C G σ H env n _ _ hK hT S hp λx jc n1 v H1 q1 S1 r1 f1=>?_;exact L.nx _ _ _ _ _ q1 (S1.set i (hK▸r1)) (Ext.fr f1)
def qOwn (i:Nat)(pn:pA):pS:=λD env n=>pn env n λxs jc n1=>D.nx (jc.set i (some (.ow .lst xs))) n1
theorem EZ {a:A1}(h:H a=none):Ext G H ⟨a::G.M,G.pots⟩ (upd H a o):=⟨λb u _ e=>Same.lay1 h b u e,λc hc=>(C5.mp (show c∈a::G.M from hc)).elim (λz=>.inr (z▸h)) .inl,λ_ _ e=>e⟩
theorem p7 (i:Nat)(h:∀z te,EW (F z) e te->SW (F z) st (tAsg te (O8 i)))(he:QN T K F e pl):QS T np K F st (qOwn i pl):=by
 obtain⟨t,a1,a2⟩:=he;refine⟨_,λz=>(h z _ ⟨a1 z⟩).h,λC G σ H env n PD D hK hT hn S hp L=>?_⟩;refine a2 C G σ H env n _ _ hK hT S hp λxs jc n1 a vs Hb q1 S1 f1 hn1 r1=>?_;exact L.nx _ _ _ _ _ q1 (S1.own i hn1 (hK▸r1)) ((Ext.fr f1).trans (EZ hn1))
def qAsg (pe:pE)(g:pG):pS:=λD env n=>pe env n λx jc n1=>g x jc λjd=>D.nx jd n1
theorem U6 (h:∀z te g,EW (F z) e te->GW (F z) tg g->SW (F z) st (tAsg te g))(he:QE T K F e pe)(hg:QG K F tg pg):QS T np K F st (qAsg pe pg):=by
 obtain⟨t,a1,a2⟩:=he;obtain⟨g,b1,b2⟩:=hg;refine⟨_,λz=>(h z _ _ ⟨a1 z⟩ ⟨b1 z⟩).h,λC G σ H env n PD D hK hT hn S hp L=>?_⟩;refine a2 C G σ H env n _ _ hK hT S hp λx jc n1 v H1 q1 S1 r1 f1=>?_;exact b2 C G σ H1 jc n1 x v _ _ hK S1 r1 q1 λjh σ' re S'=>L.nx _ _ _ _ _ re S' (Ext.fr f1)
def L4 (pe:pE):pS:=λD env n=>pe env n λ_ jc n1=>D.nx jc n1
theorem R1 (h:∀z te,EW (F z) e te->SW (F z) st (GR te))(he:QE T K F e pe):QS T np K F st (L4 pe):=by
 obtain⟨t,a1,a2⟩:=he;refine⟨_,λz=>(h z _ ⟨a1 z⟩).h,λC G σ H env n PD D hK hT hn S hp L=>?_⟩;exact a2 C G σ H env n _ _ hK hT S hp λx jc n1 v H1 q1 S1 r1 f1=>L.nx _ _ _ _ _ q1 S1 (Ext.fr f1)
def qRet (pe:pE):pS:=λD env n=>pe env n λx _ n1=>D.rt x n1
theorem C6 (he:QE T K F e pe):QS T np K F (.Return (some e) pos) (qRet pe):=by
 obtain⟨t,a1,a2⟩:=he;refine⟨_,λz=>Da (a1 z),λC G σ H env n PD D hK hT hn S hp L=>?_⟩;exact a2 C G σ H env n _ _ hK hT S hp λx jc n1 v H1 q1 S1 r1 f1=>L.rt _ _ _ _ _ _ _ q1 S1 (S1.out (hK▸r1)) (Ext.fr f1)
def BR (i:Nat):pS:=λD env n=>match env[i]? with|some (some (.ow .lst xs))=>D.rt (.lst xs) n|_=>False
theorem HG (i:Nat)(h:∀z,EW (F z) (.Name x p) (tVar i)):QS T np K F (.Return (some (.Name x p)) pos) (BR i):=by
 refine⟨_,λz=>Da (h z).h,λC G σ H env n PD D hK hT hn S hp L=>?_⟩;unfold BR at hp
 split at hp
 ·rename_i xs ex;obtain⟨a,vs,ev,h1,h2,h3,h4,r⟩:=S.slots i _ ex;refine⟨.ref a,ev,L.rt _ _ _ _ _ _ _ hp S ⟨a,vs,rfl,⟨h2,h4⟩,?_⟩ Ext.refl⟩;exact Reps.mono (G':=⟨C.M0,G.pots⟩) (λ_ _ _ e=>e) (λa ha=>.inl (S.sup a ha)) (λ_ _ e=>e) _ _ r
 ·exact hp.elim
def qIfS (t:pT)(p q:pS):pS:=λD env n=>t env n λb jc n1=>if b=true then p D jc n1 else q D jc n1
theorem G4 (hc:QT T K F c pt)(h1:QSs T np K F x p1)(h2:QSs T np K F y p2):QS T np K F (.If c x y pos) (qIfS pt p1 p2):=by
 obtain⟨tc,c1,c2⟩:=hc;obtain⟨t,a1,a2⟩:=h1;obtain⟨u,b1,b2⟩:=h2;refine⟨_,λz=>GS (c1 z) (a1 z) (b1 z),λC G σ H env n PD D hK hT hn S hp L=>?_⟩;refine c2 C G σ H env n _ _ hK hT S hp λd jc n1 H1 q1 S1 f1=>?_;cases d with
 |true=>exact a2 C G σ H1 jc n1 PD D hK hT hn S1 q1 (L.ext (Ext.fr f1))
 |false=>exact b2 C G σ H1 jc n1 PD D hK hT hn S1 q1 (L.ext (Ext.fr f1))
def forL (g:pG)(b:pS)(D:y9):List PV->Env->Nat->Prop
 |[],env,n=>D.nx env n
 |x::xs,env,n=>g x env λjc=>b { D with nx:=λe m=>forL g b D xs e m,ct:=λe m=>forL g b D xs e m,bk:=D.nx } jc n
def qFor (pi:pA)(g:pG)(b:pS):pS:=λD env n=>pi env n λxs jc n1=>forL g b D xs jc n1
theorem P8 (hc:∀z,(F z).calm=true)(hi:QI T K F tg iter pl)(hg:QG K F tg pg)(hb:QSs T np K F body p1)(hp:∀z,PassesOwn (A7 (F z).prog (F z).w) (F z).A (F z).env (F z).xe:=by intro _;exact PassesOwn.never)(hs:∀z x,T8 iter (F z).env x=pure x:=by intro _ _;rfl):QS T np K F (.For tg iter body [] pos) (qFor pl pg p1):=by
 obtain⟨wi,i1,i2⟩:=hi;obtain⟨g,g1,g2⟩:=hg;obtain⟨t,b1,b2⟩:=hb;refine⟨_,λz=>ps_for (hp z) (hc z) (i1 z) (g1 z) (b1 z) (hs z),λC G σ H env n PD D hK hT hn S hp L=>?_⟩;refine i2 C G σ H env n _ _ hK hT S hp λxs jc n1 J H1 q1 S1 f1 hJ=>?_;have L1:=L.ext (Ext.fr f1);refine⟨λi m σ H=>m=xs.length-i/\i<=xs.length/\∃G' env n,SR C G' σ H env n/\Ext G H1 G' H/\forL pg p1 PD (xs.drop i) env n,⟨xs.length,by simp,K3 _,G,jc,n1,S1,Ext.refl,by simpa using q1⟩,?_⟩;rintro i m σ' H' ⟨rfl,hi,G',jh,n',S',x',q'⟩;have hf:∀p,H' p=none->p∉G'.M:=λp hp=>S'.fresh hp;obtain⟨hgo,hstop⟩:=hJ G' H' x'.keep x'.new x'.pot hf
 by_cases hlt:i<xs.length
 ·obtain⟨go1,go2⟩:=hgo i _ (D9 hlt);rw[Bh hlt] at q';refine .inr ⟨go1,λσ H=>∃G' env n,SR C G' σ H env n/\Ext G H1 G' H/\forL pg p1 PD (xs.drop (i+1)) env n,λσ2 H2 h2=>⟨xs.length-(i+1),by omega,rfl,hlt,h2⟩,λv H2 y=>?_⟩;obtain⟨s2,rv⟩:=go2 v H2 y;have x2:Ext G' H' G' H2:=Ext.fr (Fr.of s2);refine g2 C G' σ' H2 jh n' _ v _ _ hK (S'.same s2) rv q' λjd σ2 q2 S2=>?_;refine b2 C G' σ2 H2 jd n' _ _ hK hT hn S2 q2 ⟨λe3 n3 G3 σ3 H3 q3 S3 x3=>?_,λy n3 v G3 σ3 H3 e3 q3 S3 r3 x3=>?_,λe3 n3 G3 σ3 H3 q3 S3 x3=>?_,λe3 n3 G3 σ3 H3 q3 S3 x3=>?_⟩
  ·exact⟨G3,e3,n3,S3,(x'.trans x2).trans x3,q3⟩
  ·exact L1.rt _ _ _ _ _ _ _ q3 S3 r3 ((x'.trans x2).trans x3)
  ·exact L1.nx _ _ _ _ _ q3 S3 ((x'.trans x2).trans x3)
  ·exact⟨G3,e3,n3,S3,(x'.trans x2).trans x3,q3⟩
 ·have ei:i=xs.length:=by omega
  subst ei;rw[Ek] at q';exact .inl ⟨hstop _ (B8 _),L1.nx _ _ _ _ _ q' S' x'⟩
def Y0 (t:pT)(b:pS)(D:y9):Nat->Env->Nat->Prop
 |0,_,_=>False
 |k+1,env,n=>t env n λc jc n1=>if c=true then b { D with nx:=λe m=>Y0 t b D k e m,ct:=λe m=>Y0 t b D k e m,bk:=D.nx } jc n1 else D.nx jc n1
def E_ (t:pT)(b:pS):pS:=λD env n=>∃k,Y0 t b D k env n
theorem KO (hc:QT T K F c pt)(hb:QSs T np K F body p1)(hp:∀z,PassesOwn (A7 (F z).prog (F z).w) (F z).A (F z).env (F z).xe:=by intro _;exact PassesOwn.never):QS T np K F (.While c body [] pos) (E_ pt p1):=by
 obtain⟨tc,c1,c2⟩:=hc;obtain⟨t,b1,b2⟩:=hb;refine⟨_,λz=>OZ (hp z) (c1 z) (b1 z),λC G σ H env n PD D hK hT hn S hp L=>?_⟩;obtain⟨k,hp⟩:=hp;refine⟨λm σ H'=>∃G' env n,SR C G' σ H' env n/\Ext G H G' H'/\Y0 pt p1 PD m env n,⟨k,G,env,n,S,Ext.refl,hp⟩,?_⟩;rintro m σ1 H1 ⟨G1,jc,n1,S1,x1,q1⟩;cases m with
 |zero=>exact q1.elim
 | succ m =>
  refine c2 C G1 σ1 H1 jc n1 _ _ hK hT S1 q1 λd jd n2 H2 q2 S2 f2=>?_;have x2:=x1.trans (Ext.fr f2);cases d with
  |false=>exact iteF (L.nx _ _ _ _ _ q2 S2 x2)
  | true =>
   refine iteT ⟨λσ H'=>∃G' env n,SR C G' σ H' env n/\Ext G H G' H'/\Y0 pt p1 PD m env n,λσ' H' h=>⟨m,by omega,h⟩,?_⟩;exact b2 C G1 σ1 H2 jd n2 _ _ hK hT hn S2 q2 ⟨λe3 n3 G3 σ3 H3 q3 S3 x3=>⟨G3,e3,n3,S3,x2.trans x3,q3⟩,λy n3 v G3 σ3 H3 e3 q3 S3 r3 x3=>L.rt _ _ _ _ _ _ _ q3 S3 r3 (x2.trans x3),λe3 n3 G3 σ3 H3 q3 S3 x3=>L.nx _ _ _ _ _ q3 S3 (x2.trans x3),λe3 n3 G3 σ3 H3 q3 S3 x3=>⟨G3,e3,n3,S3,x2.trans x3,q3⟩⟩
def HH (i:Nat)(pe:pE):pE:=λenv n R=>pe env n λy jc n1=>match jc[i]? with|some (some (.ow .lst xs))=>xs.length<1000000/\R .non (jc.set i (some (.ow .lst (xs++[y])))) n1|_=>False
theorem U7 (i:Nat)(hv:∀z,EW (F z) (.Name x p) (tVar i))(he:QE T K F e pe)(hs:F5 e=true:=by rfl)(hbase:∀z,w5 (.Name x p) "append" (F z).env (eval (.Name x p) (F z).env)=eval (.Name x p) (F z).env:=by intro _;rfl)(hline:(ap.endLine == pos.line)=true:=by rfl)
   (hfew:∀z,((backTo pos (E3 [e] (F z).env)).all (λx=>!x.1)&&(backToKw pos (Ap [] (F z).env)).all (λx=>x.1.isSome)&&decide (([e]:List Expr).length+([]:List V1).length+(if([]:List V1).isEmpty then 0 else 1)<30))=true:=by intro _;rfl) (hK:∀z,(F z).K=K:=by intro _;rfl):QE T K F (.Call (.Attribute (.Name x p) "append" ap) [e] [] pos) (λenv n R=>(∃xs,env[i]?=some (some (.ow .lst xs)))/\HH i pe env n R):=by
 obtain⟨t,a1,a2⟩:=he;refine⟨tBM K "list" Kl (tVar i) (X6 t tNil),λz=>hK z▸Dg CU PySem.F.slot_list_append PySem.F.type_list_append Km (hv z).h (E9 (a1 z) G7 (D0 hs)) (hbase z) (hfew z) hline (D0 hs),λC G σ H env n R Q hK hT S hp k=>?_⟩;obtain⟨⟨xs0,e0⟩,hp⟩:=hp;obtain⟨a,vs,ev,h1,h2,h3,h4,r⟩:=S.slots i _ e0;refine⟨.ref a,ev,.inl ⟨rfl,vs,SqL.of h4⟩,?_⟩;refine a2 C G σ H env n _ _ hK hT S hp λy jc n1 v H1 q1 S1 r1 f1=>?_
 split at q1
 ·rename_i xs ex;obtain⟨a',us,ev',g1,g2,g3,g4,r'⟩:=S1.slots i _ ex;rw[ev] at ev';cases ev';subst hK;obtain⟨S2,f2⟩:=S1.put ex ev (r'.append (.one r1));exact⟨a,us,v,rfl,rfl,g4,by rw[<- r'.length];exact mil' (by omega),k _ _ _ _ _ q1.2 S2 rfl (f1.trans f2)⟩
 ·exact q1.elim
def qPop (i:Nat):pE:=λenv n R=>match env[i]? with|some (some (.ow .lst xs))=>(match xs[xs.length-1]? with|some y=>R y (env.set i (some (.ow .lst xs.dropLast))) n|none=>False)|_=>False
theorem QU (r:Reps K G H xs vs):Reps K G H xs.dropLast vs.dropLast:=by
 rw[List.dropLast_eq_take,List.dropLast_eq_take,<- r.length];exact r.take _
theorem HI (i:Nat)(hv:∀z,EW (F z) (.Name x p) (tVar i))(hbase:∀z,w5 (.Name x p) "pop" (F z).env (eval (.Name x p) (F z).env)=eval (.Name x p) (F z).env:=by intro _;rfl)(hline:(ap.endLine == pos.line)=true:=by rfl)(hK:∀z,(F z).K=K:=by intro _;rfl):QE T K F (.Call (.Attribute (.Name x p) "pop" ap) [] [] pos) (qPop i):=by
 refine⟨tBM0 K "list" rPop (tVar i),λz=>hK z▸pe_bm0 CU PySem.F.slot_list_pop PySem.F.type_list_pop mt_pop (hv z).h (hbase z) hline,λC G σ H env n R Q hK hT S hp k=>?_⟩;unfold qPop at hp
 split at hp
 ·rename_i xs ex
  split at hp
  ·rename_i y ey;obtain⟨a,vs,ev,h1,h2,h3,h4,r⟩:=S.slots i _ ex;obtain⟨v,e1,rv⟩:=r.get' ey;obtain⟨S2,f2⟩:=S.put ex ev (QU r);subst hK;exact⟨.ref a,ev,.inl ⟨rfl,vs,SqL.of h4⟩,a,vs,v,rfl,rfl,h4,by rw[<- r.length];exact e1,k _ _ _ _ _ hp S2 (rv.fr f2) f2⟩
  ·exact hp.elim
 ·exact hp.elim
def HJ (i:Nat)(pe:pE):pE:=λenv n R=>pe env n λy jc n1=>match jc[i]?,y with|some (some (.ow .lst xs)),.int d=>xs.length<=1000000/\(match ixN xs.length d with|some j=>(match xs[j]? with|some z=>R z (jc.set i (some (.ow .lst (xs.eraseIdx j)))) n1|none=>False)|none=>False)|_,_=>False
theorem QV (i:Nat)(hv:∀z,EW (F z) (.Name x p) (tVar i))(he:QE T K F e pe)(hs:F5 e=true:=by rfl)(hbase:∀z,w5 (.Name x p) "pop" (F z).env (eval (.Name x p) (F z).env)=eval (.Name x p) (F z).env:=by intro _;rfl)(hline:(ap.endLine == pos.line)=true:=by rfl)
   (hfew:∀z,((backTo pos (E3 [e] (F z).env)).all (λx=>!x.1)&&(backToKw pos (Ap [] (F z).env)).all (λx=>x.1.isSome)&&decide (([e]:List Expr).length+([]:List V1).length+(if([]:List V1).isEmpty then 0 else 1)<30))=true:=by intro _;rfl) (hK:∀z,(F z).K=K:=by intro _;rfl) :
   QE T K F (.Call (.Attribute (.Name x p) "pop" ap) [e] [] pos) (λenv n R=>(∃xs,env[i]?=some (some (.ow .lst xs)))/\HJ i pe env n R):=by
 obtain⟨t,a1,a2⟩:=he;refine⟨tBM K "list" Ko (tVar i) (X6 t tNil),λz=>hK z▸Dg CU PySem.F.slot_list_pop PySem.F.type_list_pop Qb (hv z).h (E9 (a1 z) G7 (D0 hs)) (hbase z) (hfew z) hline (D0 hs),λC G σ H env n R Q hK hT S hp k=>?_⟩;obtain⟨⟨xs0,e0⟩,hp⟩:=hp;obtain⟨a,vs,ev,h1,h2,h3,h4,r⟩:=S.slots i _ e0;refine⟨.ref a,ev,.inl ⟨rfl,vs,SqL.of h4⟩,?_⟩;refine a2 C G σ H env n _ _ hK hT S hp λy jc n1 v H1 q1 S1 r1 f1=>?_
 split at q1
 ·rename_i xs d ex;obtain⟨hlen,q1⟩:=q1
  split at q1
  ·rename_i j ej
   split at q1
   ·rename_i z ez;obtain⟨a',us,ev',g1,g2,g3,g4,r'⟩:=S1.slots i _ ex;rw[ev] at ev';cases ev';subst hK;obtain⟨S2,f2⟩:=S1.put ex ev (r'.eraseIdx j);obtain⟨w,e1,rw'⟩:=r'.get' ez;obtain⟨q1',q2',q3',q4'⟩:=Hg ej;refine⟨a,us,d,j,w,rfl,by rw[show v=.int d from r1],g4,?_,?_,by rw[<- r'.length];exact q1',e1,k _ _ _ _ _ q1 S2 (rw'.fr f2) (f1.trans f2)⟩
    ·omega
    ·omega
   ·exact q1.elim
  ·exact q1.elim
 ·exact q1.elim
end
end Pu
end
section
namespace Pu
open PySem PySem.Spec L2
abbrev pSl:=Env->Nat->(Slot->Env->Nat->Prop)->Prop
def Ds (σ:St)(env:Env)(a:A1):Prop:=∃(j:Nat) (ys:OK×List PV),env[j]?=some (some (.ow ys.1 ys.2))/\σ[j]?=some (some (.ref a))
theorem SR.slot (S:SR C G σ H env n)(i:Nat)(r:Dj C G H (some (some v)) s)(h:∀(xs:OK×List PV) a,s=.ow xs.1 xs.2->v=.ref a->¬Ds σ env a):SR C G (σ.set i (some v)) H (env.set i (some s)) n where
 frame:=S.frame
 sub:=S.sub
 sup:=S.sup
 pots:=S.pots
 pre:=S.pre
 mu:=S.mu
 slots j t e:=by
  by_cases hj:i=j
  ·subst hj
   by_cases hl:i<env.length
   ·rw[P5 hl] at e;cases e;rw[P5 (by rw[<- S.len];exact hl)];exact r
   ·rw[R9 (by rw[M1];omega)] at e;cases e
  ·rw[O4 hj] at e ⊢;exact S.slots j t e
 inj j k xs ys b e1 e2 e3 e4:=by
  by_cases hj:i=j
  ·by_cases hk:i=k
   ·omega
   ·subst hj;rw[O4 hk] at e2 e4
    by_cases hl:i<env.length
    ·rw[P5 hl] at e1;rw[P5 (by rw[<- S.len];exact hl)] at e3;cases e1;cases e3;exact absurd ⟨k,ys,e2,e4⟩ (h xs b rfl rfl)
    ·rw[R9 (by rw[M1];omega)] at e1;cases e1
  ·rw[O4 hj] at e1 e3
   by_cases hk:i=k
   ·subst hk
    by_cases hl:i<env.length
    ·rw[P5 hl] at e2;rw[P5 (by rw[<- S.len];exact hl)] at e4;cases e2;cases e4;exact absurd ⟨j,xs,e1,e3⟩ (h ys b rfl rfl)
    ·rw[R9 (by rw[M1];omega)] at e2;cases e2
   ·rw[O4 hk] at e2 e4;exact S.inj j k xs ys b e1 e2 e3 e4
 p0:=S.p0
 len:=by rw[M1,M1];exact S.len
 newp:=S.newp
def Ct.guard (C:Ct)(a:A1)(vs:List V):Ct:={ C with M0:=a::C.M0,H0:=upd C.H0 a (.lst vs) }
theorem SR.guard (S:SR C G σ H env n)(vs:List V)(h:H a=none):SR (C.guard a vs) ⟨a::G.M,G.pots⟩ σ (upd H a (.lst vs)) env n:=by
 have S1:=S.more (vs:=vs) h;have aM:=S.fresh h
 exact {
  frame:=λb o hb e=>by
   by_cases hba:b=a
   ·subst hba;have e':upd C.H0 b (.lst vs) b=some o:=e;rw[E4] at e' ⊢;exact e'
   ·have e':upd C.H0 a (.lst vs) b=some o:=e;rw[D4 hba] at e';exact S1.frame b o hb e'
  sub:=fun b hb=>by
   by_cases hba:b=a
   ·exact .inl (by rw[hba];exact C7)
   ·rcases S1.sub b hb with z|z
    ·exact .inl (C3 _ z)
    ·refine .inr ?_;show upd C.H0 a (.lst vs) b=none;rw[D4 hba];exact z
  sup:=λb hb=>by
   rcases C5.mp (show b∈a::C.M0 from hb) with rfl|z
   ·exact C7
   ·exact S1.sup b z
  pots:=S1.pots
  pre:=S1.pre
  mu:=S1.mu
  slots:=λi s e=>by
   cases s with
   | v x =>
    obtain⟨v,ev,r⟩:=S1.slots i _ e;exact⟨v,ev,r⟩
   | ow kk xs =>
    obtain⟨b,us,ev,h1,h2,h3,h4,r⟩:=S1.slots i _ e;obtain⟨b',us',ev',g1,_⟩:=S.slots i _ e;rw[ev] at ev';cases ev';refine⟨b,us,ev,h1,λz=>?_,h3,h4,r⟩;rcases C5.mp (show b∈a::C.M0 from z) with rfl|z
    ·exact aM g1
    ·exact h2 z
  inj:=S1.inj
  p0:=⟨λp hp=>C3 _ (S1.p0.1 p hp),S1.p0.2⟩
  len:=S1.len
  newp:=λp hp hn hM=>by
   rcases C5.mp (show p∈a::C.M0 from hM) with rfl|z
   ·exact aM (S.pots p hp).1
   ·exact S1.newp p hp hn z }
theorem SR.unguard (S:SR (C.guard a vs) G σ H env n)(ha:a∉C.M0)(hp0:∀p∈C.pots0,p∈C.M0)(h0:C.H0 a=none):SR C G σ H env n/\H a=some (.lst vs)/\¬Ds σ env a:=by
 have hap:a∉C.pots0:=λz=>ha (hp0 a z)
 refine⟨{
  frame:=λb o hb e=>S.frame b o hb (by
   show upd C.H0 a (.lst vs) b=some o
   rw[D4 (λz=>by rw[z,h0] at e;cases e)];exact e)
  sub:=fun b hb=>by
   by_cases hba:b=a
   ·exact .inr (hba▸h0)
   ·rcases S.sub b hb with z|z
    ·rcases C5.mp (show b∈a::C.M0 from z) with z|z
     ·exact absurd z hba
     ·exact .inl z
    ·have z':upd C.H0 a (.lst vs) b=none:=z;rw[D4 hba] at z';exact .inr z'
  sup:=λb hb=>S.sup b (C3 _ hb)
  pots:=S.pots
  pre:=S.pre
  mu:=S.mu
  slots:=λi s e=>by
   cases s with
   | v x =>
    obtain⟨v,ev,r⟩:=S.slots i _ e;exact⟨v,ev,r⟩
   | ow kk xs =>
    obtain⟨b,us,ev,h1,h2,h3,h4,r⟩:=S.slots i _ e;exact⟨b,us,ev,h1,λz=>h2 (C3 _ z),h3,h4,r⟩
  inj:=S.inj
  p0:=⟨hp0,S.p0.2⟩
  len:=S.len
  newp:=λp hp hn hM=>S.newp p hp hn (C3 _ hM) },S.frame a _ hap E4,?_⟩
 rintro⟨j,ys,e1,e2⟩;obtain⟨b,us,ev,h1,h2,_⟩:=S.slots j _ e1;rw[e2] at ev;cases ev;exact h2 C7
def LOk (K:A9)(T:PotK)(t:TE)(pl:pSl):Prop:=∀(C:Ct) (G:Gh) (σ:St) (H:Hp) (env:Env) (n:Nat) (R:Slot->Env->Nat->Prop) (Q:VK),C.K=K->C.T=T->SR C G σ H env n->pl env n R->
 (∀x jh n' v H',R (.v x) jh n'->SR C G σ H' jh n'->Rep K G H' x v->Fr G H H'->Q v H')->
 (∀xs jh n' a vs Hb,R (.ow .lst xs) jh n'->SR C G σ Hb jh n'->Fr G H Hb->Hb a=none->Reps K G Hb xs vs->Q (.ref a) (upd Hb a (.lst vs)))->t σ H Q
def QL {ι:Type}(T:PotK)(K:A9)(F:ι->Cx)(e:Expr)(pl:pSl):Prop:=∃t,(∀z,PE (F z) e t)/\LOk K T t pl
def sV (pe:pE):pSl:=λenv n R=>pe env n λx jc n1=>R (.v x) jc n1
def sO (pn:pA):pSl:=λenv n R=>pn env n λxs jc n1=>R (.ow .lst xs) jc n1
section
variable {T:PotK}{np:Bool}{ι:Type}{K:A9}{F:ι->Cx}{e a b c:Expr}{es:List Expr}{st:Stmt}{rest:List Stmt}{pe pa pb pc:pE}{pos:Pos}{pl pr:pA}{pg:pG}{pt:pT}{p1 p2:pS}{s1 s2 s3:pSl}
theorem ql_v (h:QE T K F e pe):QL T K F e (sV pe):=let ⟨t,h1,h2⟩:=h;⟨t,h1,λC G σ H env n R Q hK hT S hp k _=>h2 C G σ H env n _ _ hK hT S hp λx jh n' v H' r S' rp f=>k x jh n' v H' r S' rp f⟩
theorem ql_o (h:QN T K F e pl):QL T K F e (sO pl):=let ⟨t,h1,h2⟩:=h;⟨t,h1,λC G σ H env n R Q hK hT S hp _ k=>h2 C G σ H env n _ _ hK hT S hp λxs jh n' a vs Hb r S' f hn rs=>k xs jh n' a vs Hb r S' f hn rs⟩
def Got (C:Ct)(G:Gh)(H:Hp)(σ:St)(env:Env)(s:Slot)(v:V):Prop:=Dj C G H (some (some v)) s/\∀(xs:OK×List PV) a,s=.ow xs.1 xs.2->v=.ref a->¬Ds σ env a
theorem KP (h:LOk K T t s1)(hK:C.K=K)(hT:C.T=T)(S:SR C G σ H env n)(hp:s1 env n R)
   (k:∀s jh n' v G' H',R s jh n'->SR C G' σ H' jh n'->Ext G H G' H'->Got C G' H' σ jh s v->Q v H'):t σ H Q:=by
 refine h C G σ H env n _ _ hK hT S hp (λx jh n' v H' r S' rp f=>?_) λxs jh n' a vs Hb r S' f hn rs=>?_
 ·exact k _ _ _ _ _ _ r S' (Ext.fr f) ⟨⟨v,rfl,hK▸rp⟩,λ_ _ z=>nomatch z⟩
 ·have aM:=S'.fresh hn;have S1:=S'.more (vs:=vs) hn;refine k _ _ _ _ _ _ r S1 ((Ext.fr f).trans (EZ hn)) ⟨⟨a,vs,rfl,C7,λz=>aM (S'.sup a z),λz=>aM (S'.pots a z).1,E4,?_⟩,λys b e1 e2=>?_⟩
  ·exact Reps.mono (G':=⟨a::G.M,G.pots⟩) (H':=upd Hb a (.lst vs)) (λb o _ e=>Same.lay1 hn b o e) (λc hc=>(C5.mp (show c∈a::G.M from hc)).elim (λz=>.inr (z▸hn)) .inl) (λ_ _ e=>e) _ _ (hK▸rs)
  ·cases e2;rintro⟨j,zs,z1,z2⟩;obtain⟨b,us,ev,g1,_⟩:=S'.slots j _ z1;rw[z2] at ev;cases ev;exact aM g1
theorem KQ {R:Slot->Slot->Env->Nat->Prop}{Q:V->V->Hp->Prop}(h:LOk K T t s1)(h':LOk K T u s2)(hK:C.K=K)(hT:C.T=T)(S:SR C G σ H env n)(hp:s1 env n λx jc n1=>s2 jc n1 λy jd n2=>R x y jd n2)
   (k:∀x y jh n' v w G' H',R x y jh n'->SR C G' σ H' jh n'->Ext G H G' H'->Got C G' H' σ jh x v->Got C G' H' σ jh y w->(∀(xs ys:OK×List PV) a,x=.ow xs.1 xs.2->y=.ow ys.1 ys.2->v=.ref a->w≠.ref a)->Q v w H'):t σ H λv H1=>u σ H1 λw H2=>Q v w H2:=by
 refine h C G σ H env n _ _ hK hT S hp (λx jc n1 v H1 q1 S1 r1 f1=>?_) λxs jc n1 a vs Hb q1 S1 f1 hn rs=>?_
 ·refine KP h' hK hT S1 q1 λy jd n2 w G2 H2 q2 S2 x2 g2=>?_;exact k _ _ _ _ _ _ _ _ q2 S2 ((Ext.fr f1).trans x2) ⟨⟨v,rfl,Rep.mono x2.keep x2.new x2.pot _ _ (hK▸r1)⟩,λ_ _ z=>nomatch z⟩ g2 (λ_ _ _ z=>nomatch z)
 ·have aM:=S1.fresh hn;have QX:=S1.guard vs hn;have a0:a∉C.M0:=λz=>aM (S1.sup a z);have aH:=S1.old hn;have x1:Ext G H ⟨a::G.M,G.pots⟩ (upd Hb a (.lst vs)):=(Ext.fr f1).trans (EZ hn);have r1:Reps C.K ⟨a::G.M,G.pots⟩ (upd Hb a (.lst vs)) xs vs:=Reps.mono (G':=⟨a::G.M,G.pots⟩) (H':=upd Hb a (.lst vs)) (λb o _ e=>Same.lay1 hn b o e) (λc hc=>(C5.mp (show c∈a::G.M from hc)).elim (λz=>.inr (z▸hn)) .inl) (λ_ _ e=>e) _ _ (hK▸rs);refine KP (C:=C.guard a vs) h' hK hT QX q1 λy jd n2 w G2 H2 q2 S2 x2 g2=>?_;obtain⟨S3,e3,no⟩:=S2.unguard a0 S1.p0.1 aH;have aM2:a∈G2.M:=S2.sup a C7
  have ap2:a∉G2.pots:=λz=>by
   by_cases hz:a∈C.pots0
   ·exact a0 (S1.p0.1 a hz)
   ·exact S2.newp a z hz C7
  have gy:Got C G2 H2 σ jd y w:=by
   refine⟨?_,g2.2⟩;cases y with
   |v x=>exact g2.1
   | ow kk ys =>
    obtain⟨b,us,ev,h1,h2,h3,h4,r⟩:=g2.1;exact⟨b,us,ev,h1,λz=>h2 (C3 _ z),h3,h4,r⟩
  refine k _ _ _ _ _ _ _ _ q2 S3 (x1.trans x2) ⟨⟨a,vs,rfl,aM2,a0,ap2,e3,Reps.mono x2.keep x2.new x2.pot _ _ r1⟩,λ_ _ _ e=>by cases e;exact no⟩ gy λxs' ys b ex ey ev ew=>?_;subst ey;cases ev;obtain⟨b,us,ev,h1,h2,_⟩:=g2.1;rw[ew] at ev;cases ev;exact h2 C7
structure AW (X:Cx)(es:List Expr)(t:TA):Prop where
 h:PA X es t
theorem AN {X:Cx}{i j:Nat}{x y:Str}{a b:Expr}{px py pt:Pos}{kt k2 pt2}{pos:Pos}(hc:X.calm=true)(hN:X.N.Nodup)(hi:X.N[i]?=some x)(hj:X.N[j]?=some y)(hij:i≠j)
   (hx:X.env.scope.names.lookup x=some .local) (hy:X.env.scope.names.lookup y=some .local) (hw:swappedStores [.Tuple [.Name x px,.Name y py] kt pt] (.Tuple [a,b] k2 pt2) X.env=pure (some [x,y]))
   (hs:swapsWithSole [.Tuple [.Name x px,.Name y py] kt pt] (.Tuple [a,b] k2 pt2) pos.line X.env=pure false:=by rfl) (ta:TA) (h:AW X [a,b] ta) :
   SW X (.Assign [.Tuple [.Name x px,.Name y py] kt pt] (.Tuple [a,b] k2 pt2) pos) (tPar i j ta):=⟨ps_par hc hN hi hj hij hx hy h.h hw hs⟩
def qPar (i j:Nat)(s1 s2:pSl):pS:=λD env n=>s1 env n λa jc n1=>s2 jc n1 λb jd n2=>D.nx ((jd.set i (some a)).set j (some b)) n2
theorem HK {a:A1}(hl:env.length=σ.length)(h:Ds (σ.set i (some v)) (env.set i (some s)) a):Ds σ env a\/((∃xs:OK×List PV,s=.ow xs.1 xs.2)/\v=.ref a):=by
 obtain⟨j,ys,e1,e2⟩:=h
 by_cases hj:i=j
 ·subst hj
  by_cases hl':i<env.length
  ·rw[P5 hl'] at e1;rw[P5 (by omega)] at e2;cases e1;cases e2;exact .inr ⟨⟨_,rfl⟩,rfl⟩
  ·rw[R9 (by rw[M1];omega)] at e1;cases e1
 ·rw[O4 hj] at e1 e2;exact .inl ⟨j,ys,e1,e2⟩
theorem AO (i j:Nat)(h:∀z ta,AW (F z) [a,b] ta->SW (F z) st (tPar i j ta))(h1:QL T K F a s1)(h2:QL T K F b s2)(n1:F5 a=true:=by rfl)(n2:F5 b=true:=by rfl):QS T np K F st (qPar i j s1 s2):=by
 obtain⟨t,a1,a2⟩:=h1;obtain⟨u,b1,b2⟩:=h2;refine⟨_,λz=>(h z _ ⟨E9 (a1 z) (E9 (b1 z) G7 (D0 n2)) (D0 n1)⟩).h,λC G σ H env n PD D hK hT hn S hp L=>?_⟩;refine KQ (Q:=λv w H2=>∃v' w',[v,w]=[v',w']/\D.nx ((σ.set i (some v')).set j (some w')) H2) a2 b2 hK hT S hp λx y jd n2 v w G2 H2 q S2 x2 gx gy ne=>?_;refine⟨v,w,rfl,L.nx _ _ _ _ _ q ((S2.slot i gx.1 gx.2).slot j gy.1 λys b e1 e2 z=>?_) x2⟩;rcases HK S2.len z with z|⟨⟨xs,ex⟩,ev⟩
 ·exact gy.2 ys b e1 e2 z
 ·exact ne xs ys b ex e1 ev e2
theorem p8 (ho:EW X o (tVar i))(ha:∀v,assign (.Subscript o ix pos) X.env v=(do
     let ov ← T9 [v] (eval o X.env)
     let iv ← T9 [v,ov] (eval ix X.env)
     c7 pos
     T9 [v,ov,iv] (setItem ov iv v)
     release [v,ov,iv] []):=by intro _;rfl) (ti:TE) (hi:EW X ix ti):GW X (.Subscript o ix pos) (gSub (tVar i) ti Df):=⟨pg_sub ho.h hi.h PQ ha⟩
def gAt (i:Nat)(pe:pE):PV->Env->Nat->(Env->Nat->Prop)->Prop:=λx env n R=>pe env n λy jc n1=>match jc[i]?,y with|some (some (.ow .lst xs)),.int d=>(match ixN xs.length d with|some j=>R (jc.set i (some (.ow .lst (xs.set j x)))) n1|none=>False)|_,_=>False
def qPut (i:Nat)(pv:pE)(pe:pE):pS:=λD env n=>pv env n λx jc n1=>(∃xs,jc[i]?=some (some (.ow .lst xs)))/\gAt i pe x jc n1 D.nx
theorem Dt (i:Nat){pv:pE}(h:∀z te g,EW (F z) v te->GW (F z) (.Subscript o ix pos) g->SW (F z) st (tAsg te g))(hv:QE T K F v pv)(hg:∀z ti,EW (F z) ix ti->GW (F z) (.Subscript o ix pos) (gSub (tVar i) ti Df))(he:QE T K F ix pe):QS T np K F st (qPut i pv pe):=by
 obtain⟨tv,v1,v2⟩:=hv;obtain⟨ti,i1,i2⟩:=he;refine⟨_,λz=>(h z _ _ ⟨v1 z⟩ (hg z _ ⟨i1 z⟩)).h,λC G σ H env n PD D hK hT hn S hp L=>?_⟩;refine v2 C G σ H env n _ _ hK hT S hp λx jc n1 v H1 q1 S1 r1 f1=>?_;obtain⟨⟨xs0,e0⟩,q1⟩:=q1;obtain⟨a,vs,ev,h1,h2,h3,h4,r⟩:=S1.slots i _ e0;refine⟨.ref a,ev,?_⟩;refine i2 C G σ H1 jc n1 _ _ hK hT S1 q1 λy jd n2 w H2 q2 S2 r2 f2=>?_
 split at q2
 ·rename_i xs d ex
  split at q2
  ·rename_i j ej;obtain⟨a',us,ev',g1,g2,g3,g4,r'⟩:=S2.slots i _ ex;rw[ev] at ev';cases ev';subst hK;obtain⟨S3,f3⟩:=S2.put ex ev (r'.set j (r1.fr f2));exact⟨a,us,d,j,rfl,r2,g4,by rw[<- r'.length];exact ej,L.nx _ _ _ _ _ q2 S3 (Ext.fr ((f1.trans f2).trans f3))⟩
  ·exact q2.elim
 ·exact q2.elim
def Fa (i:Nat)(env:Env):Env:=match env[i]? with|some (some (.ow .lst xs))=>env.set i (some (.v (.lst xs)))|_=>env
theorem SR.freeze (S:SR C G σ H env n)(i:Nat):∃G',SR C G' σ H (Fa i env) n/\Ext G H G' H:=by
 unfold Fa
 split
 ·rename_i xs ex;obtain⟨a,vs,ev,h1,h2,h3,h4,r⟩:=S.slots i _ ex
  let G':Gh:=⟨G.M.filter (·≠a),G.pots⟩
  have sub:∀b∈G'.M,b∈G.M:=λb hb=>(J9.mp hb).1;have mm:∀{x:PV} {v:V},Rep C.K G H x v->Rep C.K G' H x v:=λr=>Rep.mono (G':=G') (λ_ _ _ e=>e) (λb hb=>.inl (sub b hb)) (λ_ _ e=>e) _ _ r;have mms:∀{x:List PV} {v:List V},Reps C.K G H x v->Reps C.K G' H x v:=λr=>Reps.mono (G':=G') (λ_ _ _ e=>e) (λb hb=>.inl (sub b hb)) (λ_ _ e=>e) _ _ r
  refine⟨G',{
   frame:=S.frame
   sub:=λb hb=>S.sub b (sub b hb)
   sup:=λb hb=>J9.mpr ⟨S.sup b hb,jp (show b≠a from λz=>h2 (by grind))⟩
   pots:=λp hp=>⟨J9.mpr ⟨(S.pots p hp).1,jp (show p≠a from λz=>h3 (by grind))⟩,C.T.more (S.pots p hp).2 λb hb=>.inl (sub b hb)⟩
   pre:=S.pre
   mu:=λb hb=>S.mu b (sub b hb)
   slots:=λj s es=>?_
   inj:=λj k xs' ys b e1 e2 e3 e4=>?_
   p0:=S.p0
   len:=by rw[M1];exact S.len
   newp:=S.newp },⟨λ_ _ _ e=>e,λb hb=>.inl (sub b hb),λ_ _ e=>e⟩⟩
  ·by_cases hj:i=j
   ·subst hj;rw[P5 (F6.mp ex).1] at es;cases es;exact⟨.ref a,ev,a,vs,rfl,⟨λz=>by simpa using(J9.mp z).2,h4⟩,mms r⟩
   ·rw[O4 hj] at es;have:=S.slots j s es;cases s with
    | v x =>
     obtain⟨v,e1,r⟩:=this;exact⟨v,e1,mm r⟩
    | ow kz zs =>
     obtain⟨b,us,e1,g1,g2,g3,g4,r⟩:=this;have hba:b≠a:=λz=>hj (S.inj i j (.lst,xs) (kz,zs) a ex es ev (by rw[e1,z]));exact⟨b,us,e1,J9.mpr ⟨g1,by simpa using hba⟩,g2,g3,g4,mms r⟩
  ·have back:∀(j:Nat) (zs:OK×List PV),(env.set i (some (.v (.lst xs))))[j]?=some (some (Slot.ow zs.1 zs.2))->env[j]?=some (some (.ow zs.1 zs.2)):=by
    intro j zs h
    by_cases hj:i=j
    ·grind
    ·grind
   exact S.inj j k xs' ys b (back j _ e1) (back k _ e2) e3 e4
 ·exact⟨G,S,Ext.refl⟩
def Du (i:Nat)(p:pS):pS:=λD env n=>p D (Fa i env) n
theorem HL (i:Nat)(h:QS T np K F st p1):QS T np K F st (Du i p1):=by
 obtain⟨t,a1,a2⟩:=h;refine⟨t,a1,λC G σ H env n PD D hK hT hn S hp L=>?_⟩;obtain⟨G',S',x'⟩:=S.freeze i;exact a2 C G' σ H _ n PD D hK hT hn S' hp (L.ext x')
end
end Pu
end
section
namespace Pu
open PySem PySem.Spec L2
def z0 (N:List Str)(xs:List PV):Env:=xs.map (λx=>some (.v x))++List.replicate (N.length-xs.length) none
def fnP (N ps:List Str)(body:pS):pF:=λxs n R=>xs.length=ps.length/\body ⟨λ_ m=>R .non m,R,λ_ _=>False,λ_ _=>False⟩ (z0 N xs) n
theorem KR (hp:∀p∈G.pots,p∈G.M/\T.at_ G.M H p n)(hm:∀a∈G.M,∃o,H a=some o/\MutO o)(hh:T.has G.pots)(r:Reps K G H xs vs) :
   SR ⟨K,T,G.M,G.pots,H,np⟩ G (L2.start N vs) H (z0 N xs) n where
 frame b o _ e:=e
 sub a ha:=.inl ha
 sup a ha:=ha
 pots:=hp
 pre:=⟨[],by simp,.inl rfl⟩
 mu:=hm
 slots i s e:=by
  unfold z0 at e
  by_cases hi:i<xs.length
  ·rw[Y5 (by simpa using hi),E7] at e;cases ex:xs[i]? with
   |none=>rw[ex] at e;cases e
   | some x =>
    rw[ex] at e;cases e;obtain⟨v,ev,rv⟩:=r.get' ex;refine⟨v,?_,rv⟩;unfold L2.start;rw[Y5 (by rw[B4,<- r.length];exact hi),E7,ev]
    rfl
  ·rw[V4 (by simpa using hi),GC] at e
   split at e <;> cases e
 inj i j xs' ys a e1:=by
  exfalso
  unfold z0 at e1
  by_cases hi:i<xs.length
  ·rw[Y5 (by simpa using hi),E7] at e1;cases ex:xs[i]? with
   |none=>rw[ex] at e1;cases e1
   |some x=>rw[ex] at e1;cases e1
  ·rw[V4 (by simpa using hi),GC] at e1
   split at e1 <;> cases e1
 p0:=⟨λp h=>(hp p h).1,hh⟩
 len:=by unfold z0 L2.start;simp[r.length]
 newp p h hn:=absurd h hn
section
variable {P:C8}{w:C4}{K:A9}{mg:Str->Option A3}{base:B6}{T:PotK}
theorem bd1 {P:List A3->Prop}(h:∀a,P [a])(us:List A3)(e:us.length=1):P us:=by
 obtain⟨a,rfl⟩:=List.length_eq_one_iff.mp e;exact h a
theorem bdS {P:List A3->Prop}(h:∀a us,us.length=n->P (a::us))(us:List A3)(e:us.length=n+1):P us:=by
 obtain⟨a,us,rfl⟩:=List.exists_cons_of_length_eq_add_one e;exact h a us (Nat.succ.inj e)
theorem bd2 {P:List A3->Prop}(h:∀a b,P [a,b])(us:List A3)(e:us.length=2):P us:=bdS (λa us e=>bd1 (P:=λus=>P (a::us)) (h a) us e) us e
theorem bd3 {P:List A3->Prop}(h:∀a b c,P [a,b,c])(us:List A3)(e:us.length=3):P us:=bdS (λa us e=>bd2 (P:=λus=>P (a::us)) (h a) us e) us e
theorem bd4 {P:List A3->Prop}(h:∀a b c d,P [a,b,c,d])(us:List A3)(e:us.length=4):P us:=bdS (λa us e=>bd3 (P:=λus=>P (a::us)) (h a) us e) us e
theorem bd5 {P:List A3->Prop}(h:∀a b c d e,P [a,b,c,d,e])(us:List A3)(e:us.length=5):P us:=bdS (λa us e=>bd4 (P:=λus=>P (a::us)) (h a) us e) us e
theorem fn_ok (F0:Fn0 K mg x st)(sc:Z5 N ps (J4 st))
   (bd:∀(kV doc pm:A3) (an:Option A1) (jn ct:A3) (us:List A3),us.length=ps.length->bindArgs (X1 x x (i7 st) (T6 st) (J4 st) .none kV doc pm an jn ct) ⟨us,[]⟩=pure (ps.zip us))
   (h:∀(f:A1) (jn:A3) (A:D5) (outer:List PySem.Env) (s:A5) (H:Hp) (E:XK),Room k (A.deeper (GH x (J4 st) s.heap.objs.size f jn))->
     QSs T false K (λ_:Unit=>(cxOf CX0 P w K mg base N x (J4 st) f jn A outer s H E).nox) (T6 st) body) :
   Kn P w K mg base x (k+1) ps (D6 K T (fnP N ps body)):=by
 refine F0.ok sc (λvs H Q E h=>?_) bd (λf jn A outer s H vs Q E hr hsp=>?_)
 ·obtain⟨G,xs,n,R,_,_,_,r,hf,_⟩:=h;rw[<- r.length];exact hf.1
 ·obtain⟨t,h1,h2⟩:=h f jn A outer s H E hr;obtain⟨G,xs,n,R,hp,hm,hh,r,hf,k'⟩:=hsp;refine⟨t,h1 (),?_⟩;have S0:=KR (N:=N) (np:=false) hp hm hh r
  have fin:∀(x:PV) (n':Nat) (v:V) (G':Gh) (σ:St) (H':Hp) (env:Env),R x n'->SR ⟨K,T,G.M,G.pots,H,false⟩ G' σ H' env n'->Rep K ⟨G.M,G'.pots⟩ H' x v->Q v H':=by
   intro x n' v G' σ H' env rr S' rv
   have ep:G'.pots=G.pots:=by
    obtain⟨l,el,hl⟩:=S'.pre;rcases hl with hl|hl
    ·rw[el,hl,X3]
    ·cases hl
   rw[ep] at rv;exact k' _ _ _ _ rr rv (λp hp'=>T.more (S'.pots p (by rw[ep];exact hp')).2 λa ha=>.inl (S'.sup a ha)) S'.frame
  refine h2 _ G _ H _ n _ _ rfl rfl rfl S0 hf.2 ⟨λenv n' G' σ H' q S' _=>?_,λx n' v G' σ H' env q S' rv _=>fin x n' v G' σ H' env q S' rv,λ_ _ _ _ _ q=>q.elim,λ_ _ _ _ _ q=>q.elim⟩;exact fin .non n' .non G' σ H' env q S' rfl
theorem law_ok (F0:Fn0 K mg x st)(sc:Z5 N [y] (J4 st))
   (bd:∀(kV doc pm:A3) (an:Option A1) (jn ct:A3) (us:List A3),us.length=[y].length->bindArgs (X1 x x (i7 st) (T6 st) (J4 st) .none kV doc pm an jn ct) ⟨us,[]⟩=pure ([y].zip us))
   (h:∀(f:A1) (jn:A3) (A:D5) (outer:List PySem.Env) (s:A5) (H:Hp) (E:XK),Room k (A.deeper (GH x (J4 st) s.heap.objs.size f jn))->
     QSs T true K (λ_:Unit=>(cxOf CX0 P w K mg base N x (J4 st) f jn A outer s H E).nox) (T6 st) body)
   (hlaw:∀ns:List Int,ns.length<=63->body ⟨λ_ _=>False,λr _=>r=.bl true,λ_ _=>False,λ_ _=>False⟩ (z0 N [.scr ns]) 0) (h0:T.has []:=by trivial) :
   Kn P w K mg base x (k+1) [y] (EJ K):=by
 refine F0.ok sc (λvs H Q E h=>?_) bd (λf jn A outer s H vs Q E hr hsp=>?_)
 ·obtain⟨a,ns,rfl,_⟩:=h
  rfl
 ·obtain⟨t,h1,h2⟩:=h f jn A outer s H E hr;obtain⟨a,ns,rfl,hS,hl,hO,q⟩:=hsp;refine⟨t,h1 (),?_⟩
  let G:Gh:=⟨[],[]⟩
  have r:Reps K G H [.scr ns] [.ref a]:=by
   refine .one ⟨a,rfl,?_⟩;rcases hS with(hS|⟨o,hS⟩)|hS
   ·rcases hO a with z|⟨o,xs,z⟩
    ·rw[z] at hS;cases hS
    ·rw[z] at hS;cases hS
   ·exact .inl ⟨by simp[G],o,hS⟩
   ·exact .inr hS
  have S0:=KR (T:=T) (N:=N) (np:=true) (n:=0) (G:=G) (λp hp=>nomatch hp) (λa ha=>nomatch ha) h0 r;refine h2 _ G _ H _ 0 _ _ rfl rfl rfl S0 (hlaw ns hl) ⟨λ_ _ _ _ _ q=>q.elim,λx n' v G' σ H' env qq S' rv _=>?_,λ_ _ _ _ _ q=>q.elim,λ_ _ _ _ _ q=>q.elim⟩;subst qq;obtain rfl:v=.bl true:=rv;exact q H'
end
def AQ:pF:=λxs n R=>match xs with|[.pot _,.int m]=>(0<m/\m<1000000/\n<1000000000)/\∀d:Int,0<=d->d<m->R (.int d) (n+1)|_=>False
end Pu
end
section
namespace Pu
open PySem PySem.Spec L2
section
variable {T:PotK}{np:Bool}{ι:Type}{K:A9}{F:ι->Cx}{e a b c:Expr}{es:List Expr}{pe pa pb pc:pE}{pos:Pos}{pl pr:pA}
def X5:List PV->Option (List Str)
 |[]=>some []
 |.str b::xs=>(X5 xs).map (b::·)
 |_=>none
theorem HM:∀{xs:List PV} {vs:List V} {bs:List Str},X5 xs=some bs->Reps K G H xs vs->vs=bs.map V.str
 |[],vs,bs,h,r=>by cases h;exact r
 | .str b :: xs, vs, bs, h, r => by
  obtain⟨v,t,e,rv,rt⟩:=r;cases e1:X5 xs with
  |none=>simp[X5,e1] at h
  | some cs =>
   have:b::cs=bs:=by simpa[X5,e1] using h
   subst this;rw[e,show v=.str b from rv,HM e1 rt]
   rfl
 |.non::_,_,_,h,_=>by cases h
 |.int _::_,_,_,h,_=>by cases h
 |.bl _::_,_,_,h,_=>by cases h
 |.ty _::_,_,_,h,_=>by cases h
 |.pot _::_,_,_,h,_=>by cases h
 |.tup _::_,_,_,h,_=>by cases h
 |.lst _::_,_,_,h,_=>by cases h
 |.dct _ _::_,_,_,h,_=>by cases h
 |.fdt _ _::_,_,_,h,_=>by cases h
 |.scr _::_,_,_,h,_=>by cases h
theorem KS:∀bs:List Str,X5 (bs.map PV.str)=some bs
 |[]=>rfl
 |b::bs=>by simp[X5,KS bs]
def Fb:PV->Option Bool
 |.non=>some false
 |.bl b=>some b
 |.int i=>some (i != 0)
 |.str z=>if z.length<=1000000 then some ((z.length:Int) != 0) else none
 |.lst xs=>some (!xs.isEmpty)
 |.tup xs=>some (!xs.isEmpty)
 |_=>none
def Dv (pe:pE):pT:=λenv n R=>pe env n λx jc n1=>match Fb x with|some b=>R b jc n1|none=>False
theorem KU (r:Reps K G H xs vs):(!vs.isEmpty)=!xs.isEmpty:=by
 have:=r.length;cases xs <;> cases vs <;> simp_all
theorem KW {b:Bool}(h:Fb x=some b)(r:RdV K G H x v):TruV K v H b:=by
 cases x with
 |non=>rw[r.non];cases h;rfl
 |bl c=>rw[r.bl];cases h;rfl
 |int i=>rw[r.int];cases h;rfl
 | str z =>
  rw[r.str]
  by_cases hz:z.length<=1000000
  ·have h':(if z.length<=1000000 then some ((z.length:Int) != 0) else none)=some b:=h;rw[jr hz] at h';cases h';exact⟨mil hz,rfl⟩
  ·have h':(if z.length<=1000000 then some ((z.length:Int) != 0) else none)=some b:=h;rw[jt hz] at h';cases h'
 |lst xs=>obtain⟨a,vs,ev,hq,rs⟩:=r.lst;rw[ev];cases h;exact .inl ⟨vs,hq,(KU rs).symm⟩
 |tup xs=>obtain⟨a,vs,ev,hq,rs⟩:=r.tup;rw[ev];cases h;exact .inr (.inl ⟨vs,hq,(KU rs).symm⟩)
 |_=>cases h
theorem HN (h:QR T K F e pe)(he:∀z whole,isTrue e (F z).env whole=(do let v ← whole;c7 e.pos;T9 [v] (truthy v)):=by intro _ _;rfl)(hK:∀z,(F z).K=K:=by intro _;rfl):QT T K F e (Dv pe):=by
 obtain⟨t,a1,a2⟩:=h;refine⟨_,λz=>hK z▸Pq (a1 z) (he z),λC G σ H env n R Q hK hT S hp k=>?_⟩;refine a2 C G σ H env n _ _ hK hT S hp λx jc n1 v H1 q1 S1 r1 f1=>?_
 split at q1
 ·rename_i b eb;exact⟨b,hK▸KW eb (r1.rd S1),k _ _ _ _ q1 S1 f1⟩
 grind
def wNeg:w1:=λx R=>match x with|.int i=>R (.int (-i))|_=>False
theorem qe_neg (h:QE T K F a pa):QE T K F (.UnaryOp .USub a pos) (qUn wNeg pa):=by
 obtain⟨t,a1,a2⟩:=h.r;refine⟨_,λz=>pe_un JU (a1 z),ok_un (λG H x v R Q hf rx hw k=>?_) a2⟩;unfold wNeg at hw
 split at hw
 ·exact⟨_,rx.int,k _ _ _ hw (Same.refl _) rfl⟩
 ·exact hw.elim
end
def P9 (i:Nat)(pe:pE):pE:=λenv n R=>(∃xs,env[i]?=some (some (.ow .lst xs)))/\HH i pe env n R
def HP (i:Nat)(pe:pE):pE:=λenv n R=>(∃xs,env[i]?=some (some (.ow .lst xs)))/\HJ i pe env n R
end Pu
end
section
namespace Pu
open PySem PySem.Spec L2
theorem KY {te:pE}{rest:Env}(f:PV->PV):∀(xs:List PV) (s0:Option Slot) (n:Nat) (R:List PV->Nat->Prop),(∀x∈xs,∀m Q,Q (f x) (some (.v x)::rest) m->te (some (.v x)::rest) m Q)->R (xs.map f) n->U5 (gN 0) qTru te xs (s0::rest) n R
 |[],_,_,_,_,h=>h
 | x :: xs, s0, n, R, ht, h => by
  show te (some (.v x)::rest) n _;refine ht x C7 n _ ?_;exact KY f xs _ n _ (λy hy=>ht y (C3 _ hy)) h
theorem Q1 {g:pG}{b:pS}{D:y9}(I:Nat->Env->Nat->Prop):∀(xs:List PV) (k:Nat) (env:Env) (n:Nat),I k env n->
   (∀(i:Nat) x env n (N:Env->Nat->Prop),xs[i]?=some x->I (k+i) env n->(∀e m,I (k+i+1) e m->N e m)->g x env λjc=>b { D with nx:=N,ct:=N,bk:=D.nx } jc n)->(∀env n,I (k+xs.length) env n->D.nx env n)->forL g b D xs env n
 |[],k,env,n,h0,_,hd=>hd env n h0
 | x :: xs, k, env, n, h0, hs, hd => by
  show g x env λjc=>b { D with nx:=λe m=>forL g b D xs e m,ct:=λe m=>forL g b D xs e m,bk:=D.nx } jc n;refine hs 0 x env n _ rfl h0 λe m h1=>?_;refine Q1 I xs (k+1) e m h1 (λi y env n N e1 h2 h3=>?_) λenv n h2=>hd env n (by rw[E8,show k+(xs.length+1)=k+1+xs.length by omega];exact h2);refine hs (i+1) y env n N (by simpa using e1) (by rw[show k+(i+1)=k+1+i by omega];exact h2) λe m h4=>h3 e m (by rw[show k+1+i+1=k+(i+1)+1 by omega];exact h4)
theorem Dw {j i:Nat}{lo:Int}{x:PV}(h:((D3 j).map λ(k:Nat)=>PV.int (lo+k))[i]?=some x):i<j/\x=.int (lo+i):=by grind
theorem Fc:((D3 j).map λ(k:Nat)=>PV.int (lo+k)).length=j:=by simp
theorem AR {α:Type}{xs:List α}{d:Int}(h0:0<=d)(h1:d<xs.length):∃x,x∈xs/\atI xs d=some x:=by
 obtain⟨x,e1,e2⟩:=EK h0 h1;exact⟨x,J5 e1,e2⟩
theorem Dx (a b:Str):eqP (.str a) (.str b)=decide (a=b):=rfl
theorem eqP_bb (a b:Bool):eqP (.bl a) (.bl b)=decide (a=b):=rfl
theorem eqP_ll (xs ys:List PV):eqP (.lst xs) (.lst ys)=eqPs xs ys:=rfl
theorem eqP_tt (xs ys:List PV):eqP (.tup xs) (.tup ys)=eqPs xs ys:=rfl
theorem QY (x y:PV)(xs ys:List PV):eqPs (x::xs) (y::ys)=(eqP x y&&eqPs xs ys):=rfl
theorem QZ:eqPs [] []=true:=rfl
theorem if_t {A B:Prop}(h:b=true)(q:A):if b=true then A else B:=by rw[jr h];exact q
theorem if_f {A B:Prop}{b:Bool}(h:b=false)(q:B):if b=true then A else B:=by grind
end Pu
end
section
namespace Pu
open PySem PySem.Spec L2
section
variable {T:PotK}{np:Bool}{ι:Type}{K:A9}{F:ι->Cx}{a b:Expr}{st:Stmt}{pos:Pos}{s1 s2:pSl}
theorem gw_two (K:A9)(i j:Nat)(hc:X.calm=true)(h1:GW X (.Name x px) (O8 i))(h2:GW X (.Name y py) (O8 j))(hn:(G8 [.Name x px,.Name y py] X.env).length=2:=by rfl)(hst:(G8 [.Name x px,.Name y py] X.env).findIdx? (·.1)=none:=by rfl)
   (hs:(G8 [.Name x px,.Name y py] X.env).map (·.2)=assign (.Name x px) X.env::(G8 [.Name y py] X.env).map (·.2):=by rfl) (hs2:(G8 [.Name y py] X.env).map (·.2)=assign (.Name y py) X.env::(G8 [] X.env).map (·.2):=by rfl) (hK:X.K=K:=by rfl) :
   GW X (.Tuple [.Name x px,.Name y py] k pos) (gTup K 2 (Z4 (O8 i) (Z4 (O8 j) gNil))):=⟨hK▸GU hc (Db h1.h (Db h2.h GT hs2) hs) hn hst⟩
theorem Q_ (i j:Nat)(h:∀z te g,EW (F z) (.Tuple [a,b] k p) te->GW (F z) tg g->SW (F z) st (tAsg te g))(hg:∀z,GW (F z) tg (gTup K 2 (Z4 (O8 i) (Z4 (O8 j) gNil))))(h1:QL T K F a s1)(h2:QL T K F b s2)(n1:F5 a=true:=by rfl)(n2:F5 b=true:=by rfl):QS T np K F st (qPar i j s1 s2):=by
 obtain⟨t,a1,a2⟩:=h1;obtain⟨u,b1,b2⟩:=h2;refine⟨_,λz=>(h z _ _ ⟨Ha (E9 (a1 z) (E9 (b1 z) G7 (D0 n2)) (D0 n1))⟩ (hg z)).h,λC G σ H env n PD D hK hT hn S hp L=>?_⟩;refine KQ (Q:=λv w H2=>[v,w].length<=B9/\∀p,H2 p=none->gTup K 2 (Z4 (O8 i) (Z4 (O8 j) gNil)) (.ref p) σ (upd H2 p (.tup [v,w])) D.nx) a2 b2 hK hT S hp λx y jd n2 v w G2 H2 q S2 x2 gx gy ne=>?_;refine⟨by show 2<=B9;decide,λp hn'=>⟨p,[v,w],rfl,SqT.of E4,rfl,v,[w],rfl,w,[],rfl,rfl,?_⟩⟩;have sm:Same H2 (upd H2 p (.tup [v,w])):=Same.lay1 hn';have S3:=S2.same sm
 have keep:∀{s:Slot} {u:V},Dj C G2 H2 (some (some u)) s->Dj C G2 (upd H2 p (.tup [v,w])) (some (some u)) s:=λ{s u} r=>by
  cases s with
  |v x=>obtain⟨v',e,r⟩:=r;exact⟨v',e,r.same sm⟩
  |ow kk xs=>obtain⟨b,us,e,h1,h2,h3,h4,r⟩:=r;exact⟨b,us,e,h1,h2,h3,sm _ _ h4,r.same sm⟩
 refine L.nx _ _ _ _ _ q ((S3.slot i (keep gx.1) gx.2).slot j (keep gy.1) λys b e1 e2 z=>?_) (x2.trans (Ext.fr (Fr.of sm)));rcases HK S3.len z with z|⟨⟨xs,ex⟩,ev⟩
 ·exact gy.2 ys b e1 e2 z
 ·exact ne xs ys b ex e1 ev e2
end
end Pu
end
section
namespace L2
open PySem PySem.Spec PyProof.Rows
section
variable {κ:Type}[DecidableEq κ]
def valV (jg:List (κ×V))(k:κ):Option V:=(jg.find? λkv=>decide (kv.1=k)).map (·.2)
def putK (jg:List (κ×V))(k:κ)(v:V):List (κ×V):=
 if(jg.any λkv=>decide (kv.1=k))=true then jg.map (λkv=>if kv.1=k then(kv.1,v) else kv) else jg++[(k,v)]
theorem BS {k:κ}(e:p.1=k):valV (p::r) k=some p.2:=by simp[valV,Bj,e]
theorem BT {k:κ}(e:¬p.1=k):valV (p::r) k=valV r k:=by simp[valV,Bj,e]
theorem HQ (k:κ):∀jg:List (κ×V),(jg.any λkv=>decide (kv.1=k))=(valV jg k).isSome
 |[]=>rfl
 | p :: r => by
  rw[List.any_cons]
  by_cases e:p.1=k
  ·simp only[BS e,jp e,Bool.true_or,Option.isSome_some]
  ·rw[BT e,jq e,Bool.false_or];exact HQ k r
theorem HR (jg:List (κ×V))(k:κ)(v:V):(putK jg k v).length<=jg.length+1:=by
 unfold putK
 split
 ·rw[B4];omega
 ·rw[E6,E8,List.length_nil];omega
theorem putK_new {jg:List (κ×V)}{k:κ}(v:V)(h:valV jg k=none):putK jg k v=jg++[(k,v)]:=by
 unfold putK;rw[HQ,h];exact jt (by decide)
theorem RelO.isSome_eq (r:RelO o u):o.isSome=u.isSome:=by
 cases o with
 | none => cases u with
  |none=>rfl
  |some _=>exact(show False from r).elim
 | some _ => cases u with
  |none=>exact(show False from r).elim
  |some _=>rfl
theorem KV.val (r:KV jg vs)(k:κ):RelO (valV jg k) (valueAt vs k):=by
 unfold KV at r
 induction r with
 |nil=>exact Z0
 | @cons p q ps qs h t ih =>
  obtain⟨h1,h2⟩:=h
  by_cases e:p.1=k
  ·have e':q.1=k:=h1.symm.trans e;have b:valueAt (q::qs) k=some q.2:=by simp[valueAt,Bj,e']
   rw[BS e,b];exact h2
  ·have e':¬q.1=k:=λz=>e (h1.trans z);have b:valueAt (q::qs) k=valueAt qs k:=by simp[valueAt,Bj,e']
   rw[BT e,b];exact ih
theorem KV.any {jg:List (κ×V)}{vs:List (κ×A3)}(r:KV jg vs)(k:κ):(jg.any λkv=>decide (kv.1=k))=vs.any λkv=>decide (kv.1=k):=by induction r <;> grind
theorem KV.repl (r:KV jg vs)(k:κ)(ry:RelV y u) :
   KV (jg.map λkv=>if kv.1=k then(kv.1,y) else kv) (vs.map λkv=>if kv.1=k then(kv.1,u) else kv):=by
 unfold KV at r ⊢
 induction r with
 |nil=>exact .nil
 | @cons p q ps qs h t ih =>
  rw[K7,K7];refine .cons ?_ ih;obtain⟨h1,h2⟩:=h
  by_cases e:p.1=k
  ·rw[jr e,jr (h1.symm.trans e)];exact⟨h1,ry⟩
  ·rw[jt e,jt (λz=>e (h1.trans z))];exact⟨h1,h2⟩
theorem KV.put (r:KV jg vs)(k:κ)(ry:RelV y u):KV (putK jg k y) (stored vs k u):=by
 unfold putK stored;rw[r.any k]
 by_cases e:(vs.any λkv=>decide (kv.1=k))=true
 ·rw[jr e,jr e];exact r.repl k ry
 ·rw[jt e,jt e];exact Paired.snoc r ⟨rfl,ry⟩
theorem KV.length (r:KV jg vs):jg.length=vs.length:=CY r
end
theorem Fd (r:RelV (kV k) u):(G5 P w).is k u=true:=by
 cases k with
 |inl i=>obtain⟨t,e⟩:=(show ∃t,u=Value.int i t from r);subst e;exact JN P w i t
 |inr x=>obtain⟨t,e⟩:=(show ∃t,u=Value.str x t from r);subst e;exact GP P w x t
theorem items_are {P:C8}{w:C4}:∀{ks:List Key} {us:List A3},Vals (ks.map kV) us->ItemsAre (G5 P w) ks us
 |[],_,r=>by rw[w9] at r;cases r;exact .nil
 | k :: ks, _, r => by
  rw[K7] at r;cases r with
  |cons h t=>exact .cons (Fd h) (items_are t)
abbrev KT (H:Hp):List (List Key×V)->List (List Key×A1×A3)->Prop:=Paired λp q=>p.1=q.1/\H q.2.1=some (.tup (p.1.map kV))/\RelV p.2 q.2.2
theorem KT.val (r:KT H jg xs)(k:List Key):RelO (valV jg k) ((atKey xs k).map (·.2)):=by
 induction r with
 |nil=>exact Z0
 | @cons p q ps qs h t ih =>
  obtain⟨h1,_,h2⟩:=h
  by_cases e:p.1=k
  ·have e':q.1=k:=h1.symm.trans e;have b:atKey (q::qs) k=some q.2:=by simp[atKey,Bj,e']
   rw[BS e,b];exact h2
  ·have e':¬q.1=k:=λz=>e (h1.trans z);have b:atKey (q::qs) k=atKey qs k:=by simp[atKey,Bj,e']
   rw[BT e,b];exact ih
theorem KT.repl {H:Hp}{jg:List (List Key×V)}{xs:List (List Key×A1×A3)}(r:KT H jg xs)(k:List Key){y:V}{u:A3}(ry:RelV y u) :
   KT H (jg.map λkv=>if kv.1=k then(kv.1,y) else kv) (xs.map (putAt k u)):=by
 induction r with
 |nil=>exact .nil
 | @cons p q ps qs h t ih =>
  rw[K7,K7];refine .cons ?_ ih;obtain⟨h1,h2,h3⟩:=h;unfold putAt
  by_cases e:p.1=k
  ·grind
  ·grind
theorem KT.put (r:KT H jg xs)(k:List Key)(hb:H b=some (.tup (k.map kV)))(ry:RelV y u) :
   KT H (putK jg k y) (storedH xs k b u):=by
 have e:(jg.any λkv=>decide (kv.1=k))=(atKey xs k).isSome:=by
  rw[HQ,(r.val k).isSome_eq,Option.isSome_map]
 unfold putK storedH;rw[e]
 by_cases q:(atKey xs k).isSome=true
 ·rw[jr q,jr q];exact r.repl k ry
 ·rw[jt q,jt q];exact Paired.snoc r ⟨rfl,hb,ry⟩
theorem KT.keeps (r:KT H jg xs)(ht:∀b ys,H b=some (.tup ys)->H' b=some (.tup ys)):KT H' jg xs:=
 Paired.mapP r λ_ _ z=>⟨z.1,ht _ _ z.2.1,z.2.2⟩
section
variable {P:C8}{w:C4}{H:Hp}{h:B6}{a:A1}
theorem rd_of (ok:HOk P w H h)(e:Rd H a u):F9 P w H h a u:=e.ok ok
theorem HS (ok:HOk P w H h)(e:Rd H a (.dK jg)):jg.length<=B9/\(a == P4)=false/\∃vs,KV jg vs/\h.DictOf (G5 P w) a vs:=
 show F9 P w H h a (.dK jg) from rd_of ok e
theorem dk_of (ok:HOk P w H h)(e:H a=some (.dK jg)):jg.length<=B9/\(a == P4)=false/\∃vs,KV jg vs/\h.DictOf (G5 P w) a vs:=HS ok (.inl e)
theorem HU (ok:HOk P w H h)(e:H a=some (.tup (ks.map kV))):(tupleKind (G5 P w)).is h ks a:=by
 obtain⟨_,jf,r,o,h1,h2,n,h3⟩:=(show F9 P w H h a (.tup (ks.map kV)) from ok a _ e);exact⟨o,jf.toArray,n,h1,(BE h2).1,h3,by simpa using items_are r⟩
theorem HV {jg:List (List Key×V)}(ok:HOk P w H h)(e:Rd H a (.dT jg)):jg.length<=B9/\(a == P4)=false/\
   ∃xs,KT H jg xs/\h.DictOfH (tupleKind (G5 P w)) a xs:=by
 obtain⟨z,y,xs,r,o,es,ep,h1,h2,h3,h4,h5⟩:=(show F9 P w H h a (.dT jg) from rd_of ok e);refine⟨z,y,xs,r,o,es,ep,h1,h2,h3,h4,λx hx=>?_,h5⟩
 have all:∀{l:List (List Key×V)} {m:List (List Key×A1×A3)},KT H l m->∀x∈m,(tupleKind (G5 P w)).is h x.1 x.2.1:=by
  intro l m q
  induction q with
  |nil=>intro x hx;exact nomatch hx
  | @cons p q ps qs hq t ih =>
   intro x hx;rcases C5.mp hx with e|hx
   ·subst e;exact HU ok (by grind)
   ·grind
 grind
theorem dt_of (ok:HOk P w H h)(e:H a=some (.dT jg)):jg.length<=B9/\(a == P4)=false/\
   ∃xs,KT H jg xs/\h.DictOfH (tupleKind (G5 P w)) a xs:=HV ok (.inl e)
end
def DGet (H:Hp)(a:A1)(y:V)(r:Option V):Prop:=
 (∃jg k,Rd H a (.dK jg)/\y=kV k/\r=valV jg k)\/∃jg k b,Rd H a (.dT jg)/\y=.ref b/\H b=some (.tup (k.map kV))/\r=valV jg k
def DPut (H:Hp)(a:A1)(y v:V)(H':Hp):Prop:=
 (∃jg k,H a=some (.dK jg)/\y=kV k/\jg.length<B9/\H'=upd H a (.dK (putK jg k v)))\/
 ∃jg k b,H a=some (.dT jg)/\y=.ref b/\H b=some (.tup (k.map kV))/\jg.length<B9/\H'=upd H a (.dT (putK jg k v))
theorem DGet.k {k:Key}(e:H a=some (.dK jg)):DGet H a (kV k) (valV jg k):=.inl ⟨jg,k,.inl e,rfl,rfl⟩
theorem DGet.t {k:List Key}(e:H a=some (.dT jg))(eb:H b=some (.tup (k.map kV))):DGet H a (.ref b) (valV jg k):=.inr ⟨jg,k,b,.inl e,rfl,eb,rfl⟩
theorem DPut.k {k:Key}(e:H a=some (.dK jg))(hl:jg.length<B9):DPut H a (kV k) v (upd H a (.dK (putK jg k v))):=.inl ⟨jg,k,e,rfl,hl,rfl⟩
theorem DPut.t {k:List Key}(e:H a=some (.dT jg))(eb:H b=some (.tup (k.map kV)))(hl:jg.length<B9) :
   DPut H a (.ref b) v (upd H a (.dT (putK jg k v))):=.inr ⟨jg,k,b,e,rfl,eb,hl,rfl⟩
section
variable {X:Cx}{jb:List (A1×Obj)}{σ:St}{H:Hp}{s:A5}{a:A1}{y v:V}{u r:A3}{o:Option V}{A:D5}{E:A3->A5->Prop}
theorem Ra (hu:A.units+1<cLine)(I:Inv X jb σ H s)(g:DGet H a y (some v))(ry:RelV y u)(h:∀w' s',Inv X jb σ H s'->RelV v w'->Q w' s') :
   A6 (A7 X.prog X.w) A (X0 (.ref a) u) Q E s:=by
 rcases g with⟨jg,k,e,ey,l⟩|⟨jg,k,b,e,ey,eb,l⟩
 ·subst ey;obtain⟨z,hd,vs,rel,dd⟩:=HS I.hok e;obtain⟨w',hw,rw'⟩:=RelO.some_of (v:=v) (o:=valueAt vs k) (by rw[l];exact rel.val k);exact wpAny_getItem_of (Fd ry) dd.mapOf hw (h w' _ (I.tok _) rw')
 ·subst ey;cases(show u=K8 b from ry);obtain⟨z,hd,xs,rel,dd⟩:=HV I.hok e;obtain⟨w',hw,rw'⟩:=RelO.some_of (v:=v) (o:=(atKey xs k).map (·.2)) (by rw[l];exact rel.val k);obtain⟨p,hp,hp2⟩:=Option.map_eq_some_iff.mp hw;refine wpAny_getItem_heap (tupleKind_room_in1 hu) (HU I.hok eb) dd hp ?_;rw[hp2];exact h w' _ (I.tok _) rw'
theorem HW (I:Inv X jb σ H s)(mu:Mut (H a))(hs:X2 a s.heap h')(he:∃q,h'.get? a=some q)(new:F9 X.prog X.w (upd H a ob) h' a ob) :
   Inv X jb σ (upd H a ob) { s with heap:=h',toks:=t' }:=
 I.write (x:=a) (e:=a) mu (.inl rfl) (λb q hb z=>(hs.2 b hb).trans z) he new
theorem KZ (z:jg.length<=B9)(hd:(a == P4)=false)(rel:KV jg vs)(dd:h'.DictOf (G5 P w) a vs) :
   F9 P w H' h' a (.dK jg):=⟨z,hd,vs,rel,dd⟩
theorem Rb (hu:A.units+1<cLine)(I:Inv X jb σ H s)(g:DPut H a y v H')(ry:RelV y u)(rv:RelV v r)(h:∀s',Inv X jb σ H' s'->Q () s') :
   A6 (A7 X.prog X.w) A (setItem (.ref a) u r) Q E s:=by
 rcases g with⟨jg,k,e,ey,l,eH⟩|⟨jg,k,b,e,ey,eb,l,eH⟩
 ·subst ey eH;obtain⟨z,hd,vs,rel,dd⟩:=dk_of I.hok e;have hz:vs.length<=B9:=by rw[<- rel.length];exact z
  have hl:(putK jg k v).length<=B9:=by have:=HR jg k v;omega
  refine wpAny_setItem_pairs (hsz:=hz) (Fd ry) dd λh' dd' hs=>h _ ?_;have he:∃q,h'.get? a=some q:=let ⟨q,_,_,hq,_⟩:=dd';⟨q,hq⟩;exact HW I (by rw[e];exact Z0) hs he (KZ hl hd (rel.put k rv) dd')
 ·subst ey eH;cases(show u=K8 b from ry);obtain⟨z,hd,xs,rel,dd⟩:=dt_of I.hok e;have hz:xs.length<=B9:=by rw[<- CY rel];exact z
  have hl:(putK jg k v).length<=B9:=by have:=HR jg k v;omega
  refine wpAny_setItem_heap (hsz:=hz) (tupleKind_room_in1 hu) (HU I.hok eb) dd λh' dd' hs=>h _ ?_;obtain⟨q,es,ep,hq,h2,h3,h4,_,h5⟩:=dd';refine HW I (by rw[e];exact Z0) hs ⟨q,hq⟩ ⟨hl,hd,_,(rel.put k eb rv).keeps λc ys ec=>?_,q,es,ep,hq,h2,h3,h4,h5⟩;rw[D4 (ne_of ec e (λz=>nomatch z))];exact ec
end
def NoSl (i:Expr):Prop:=∀ov iv,subscripted i false ov iv=operate [ov,iv] (X0 ov iv)
theorem Rc {T id:String}
   (hl:typeLookup (.type T) "__getitem__"=pure (some (.builtin id))) (hs:NoSl slice)
   (h:A6 (A7 prog w) A (eval value env) (λo s₁=>A6 (A7 prog w) A (eval slice env) (λi s₂=>s₂.TypeIs o T/\A6 (A7 prog w) A (X0 o i) Q E s₂) E s₁) E s) :
   A6 (A7 prog w) A (eval (.Subscript value slice pos) env) Q E s:=by
 refine Subscript_ (J1 h (λo s₁ h₁=>J1 h₁ (λi s₂ h₂=>?_) λ_ _ x=>x) λ_ _ x=>x);obtain⟨hT,h₂⟩:=h₂;unfold subscriptTail;refine A0 ?_;rw[getitemInPython_of_ne hT.not_modules];refine A0 (Be hT hl ?_)
 have fin:A6 (A7 prog w) A (subscripted slice false o i) (λr s₃=>A6 (A7 prog w) A (letTemporaryGo value o r>>=λ_=>pure r) Q E s₃) E s₂:=by
  rw[hs o i];exact wpAny_operating (J1 h₂ (λr s₃ h₃=>A0 (wpAny_letTemporaryGo (A8 h₃))) λ_ _ x=>x)
 first
   |exact A8 (A0 fin)
   |exact A0 (A8 (A0 fin))
   |exact A0 fin
theorem Re (I:Inv X jb σ H s)(g:DGet H a y o):s.TypeIs (.ref a) "dict":=by
 rcases g with⟨jg,k,e,_,_⟩|⟨jg,k,b,e,_,_,_⟩
 ·obtain⟨_,_,vs,_,dd⟩:=HS I.hok e;exact dd.typeIs
 ·obtain⟨_,_,xs,_,dd⟩:=HV I.hok e;exact dd.typeIs
def tDGet (td ty:TE):TE:=λσ H Q=>td σ H λx H1=>ty σ H1 λy H2=>∃a v,x=.ref a/\DGet H2 a y (some v)/\Q v H2
def sDPut (td ty tv:TE):TS:=λD σ H=>tv σ H λv H1=>td σ H1 λx H2=>ty σ H2 λy H3=>∃a H4,x=.ref a/\DPut H3 a y v H4/\D.nx σ H4
section
variable {X:Cx}{o i e value:Expr}{pos pos' tpos:Pos}{td ty tv:TE}
theorem W6 (hu:X.A.units+1<cLine)(ho:PE X o td)(hi:PE X i ty)(hs:NoSl i):PE X (.Subscript o i pos) (tDGet td ty):=by
 intro jb s σ H Q I h;refine Rc PySem.F.slot_dict_getitem.lookup hs (thn (ho jb s σ H _ I h) λu s1 ⟨x,H1,I1,rx,q1⟩=>thn (hi jb s1 σ H1 _ I1 q1) λiv s2 ⟨y,H2,I2,ry,a,v,ex,g,q2⟩=>?_);subst ex;obtain rfl:u=K8 a:=rx;exact⟨Re I2 g,Ra hu I2 g ry λw' s3 I3 rw'=>⟨v,H2,I3,rw',q2⟩⟩
theorem Dz (hu:X.A.units+1<cLine)(ho:PE X o td)(hi:PE X i ty)(hv:PE X value tv)(hs:c6 value (some (.Subscript o i pos')) pos.line X.env=pure false) :
   PS X (.Assign [.Subscript o i pos'] value pos) (sDPut td ty tv):=by
 intro jb s σ H D I h;refine wpAny_Assign_Subscript (thn (hv jb s σ H _ I h) λr s1 ⟨v,H1,I1,rv,q1⟩=>thn (ho jb s1 σ H1 _ I1 q1) λu s2 ⟨x,H2,I2,rx,q2⟩=>thn (hi jb s2 σ H2 _ I2 q2) λiv s3 ⟨y,H3,I3,ry,a,H4,ex,g,q3⟩=>?_) hs;subst ex;obtain rfl:u=K8 a:=rx;exact Rb hu I3 g ry rv λs4 I4=>⟨σ,H4,I4,q3⟩
end
def HX:List (TE×TE)->St->Hp->(List (V×V)->Hp->Prop)->Prop
 |[],_,H,Q=>Q [] H
 |(tk,tv)::r,σ,H,Q=>tk σ H λx H1=>tv σ H1 λy H2=>HX r σ H2 λps H3=>Q ((x,y)::ps) H3
abbrev VV:List (V×V)->List (A3×A3)->Prop:=Paired λp q=>RelV p.1 q.1/\RelV p.2 q.2
def PPs (X:Cx)(pos:Pos)(keys:List (Option Expr))(values:List Expr)(trs:List (TE×TE)):Prop:=
 ∀ (jb : List (A1 × Obj)) (s : A5) (σ : St) (H : Hp) (Q : List (V × V) -> Hp -> Prop), Inv X jb σ H s -> HX trs σ H Q ->
   A6 (A7 X.prog X.w) X.A (evalPairs (pairTrees keys values X.env pos)) (λvs s'=>∃ps H',Inv X jb σ H' s'/\VV ps vs/\Q ps H') X.xe s
theorem Rf:PPs X pos [] [] []:=λjb s σ H Q I h=>pairTrees_nil_walk ⟨[],H,I,.nil,h⟩
theorem Fe (hk:PE X k tk)(hv:PE X v tv)(hr:PPs X pos ks vs trs) :
   PPs X pos (some k::ks) (v::vs) ((tk,tv)::trs):=λjb s σ H Q I h=>
 pairTrees_cons_walk (thn (hk jb s σ H _ I h) λu s1 ⟨x,H1,I1,rx,q1⟩=>thn (hv jb s1 σ H1 _ I1 q1) λw2 s2 ⟨y,H2,I2,ry,q2⟩=>
  thn (hr jb s2 σ H2 _ I2 q2) λws s3 ⟨ps,H3,I3,rel,q3⟩=>⟨(x,y)::ps,H3,I3,.cons ⟨rx,ry⟩ rel,q3⟩)
def AS (jg more:List (Key×V)):List (Key×V):=more.foldl (λjl kv=>putK jl kv.1 kv.2) jg
theorem KV.merge:∀{more:List (Key×V)} {rs:List (Key×A3)} {jg:List (Key×V)} {vs:List (Key×A3)},KV more rs->KV jg vs->KV (AS jg more) (merged vs rs):=by
 intro more rs jg vs r;unfold KV at r
 induction r generalizing jg vs with
 |nil=>intro q;exact q
 | @cons p q ps qs h t ih =>
  intro r0
  have e:KV (putK jg p.1 p.2) (stored vs q.1 q.2):=by
   have:=r0.put p.1 h.2;rw[<- h.1];exact this
  exact ih e
theorem K_:∀(more jg:List (Key×V)),(AS jg more).length<=jg.length+more.length
 |[],jg=>by show jg.length<=jg.length+0;omega
 | p :: r, jg => by
  have h1:=K_ r (putK jg p.1 p.2);have h2:=HR jg p.1 p.2;show(AS (putK jg p.1 p.2) r).length<=_;rw[E8];omega
theorem La:∀{jg:List (Key×V)} {ws:List (A3×A3)},VV (jg.map λkv=>(kV kv.1,kv.2)) ws->∃rs,Carries (G5 P w) ws rs/\KV jg rs
 |[],_,r=>by rw[w9] at r;cases r;exact⟨[],Z0,.nil⟩
 | p :: jg, _, r => by
  rw[K7] at r;cases r with
  | @cons a b as bs h t =>
   obtain⟨rs,c,q⟩:=La (P:=P) (w:=w) t;obtain⟨b1,b2⟩:=b;exact⟨(p.1,b2)::rs,⟨Fd h.1,rfl,c⟩,.cons ⟨rfl,h.2⟩ q⟩
def tDisp (trs:List (TE×TE)):TE:=λσ H Q=>∀p,H p=none->HX trs σ (upd H p (.dK [])) λps H2=>H2 p=some (.dK [])/\∃jg:List (Key×V),ps=jg.map (λkv=>(kV kv.1,kv.2))/\jg.length<=15/\Q (.ref p) (upd H2 p (.dK (AS [] jg)))
theorem Rg (h:PPs X pos keys values trs)(hall:keys.all (·.isSome)=true)(hl:keys.length=values.length)(h0:keys≠[])
   (h15:keys.length<=15):PE X (.Dict keys values pos) (tDisp trs):=by
 intro jb s σ H Q I q;have hn:=I.hok.fresh (B8 s.heap.objs.size);have I1:=I.laid (a:=s.heap.objs.size) (o:=.dK []) (h':=s.heap.push { cls:=.type "dict",data:=.dict #[] }) (t':=s.toks) (λ_ _ q=>C0 _ q) (B8 _) (Qy s.heap I.big);refine wpAny_Dict_walk (knd:=G5 X.prog X.w) hall hl h0 h15 (thn (h jb _ σ _ _ I1 (q _ hn)) λws s2 ⟨ps,H2,I2,rel,e,jg,ep,lk,q2⟩=>?_);subst ep;obtain⟨rs,c,rk⟩:=La (P:=X.prog) (w:=X.w) rel;obtain⟨z,hd,vs0,r0,dd⟩:=dk_of I2.hok e;cases r0;refine⟨rs,c,dd,λh' dd' hs=>⟨.ref s.heap.objs.size,_,?_,rfl,q2⟩⟩
 have hz:(AS [] jg).length<=B9:=by
  have h1:=K_ jg [];rw[List.length_nil] at h1;rw[Q4];omega
 have he:∃q,h'.get? s.heap.objs.size=some q:=let ⟨q,_,_,hq,_⟩:=dd';⟨q,hq⟩;exact HW I2 (by rw[e];exact Z0) hs he (KZ hz hd (rk.merge .nil) dd')
end L2
end
section
namespace L2
open PySem PySem.Spec PyProof.Rows
def keyD:Key->PyData
 |.inl i=>.int i
 |.inr x=>.str x
mutual
def RdD (H:Hp):PyData->V->Prop
 |.none,v=>v=.non
 |.bool b,v=>v=.bl b
 |.int i,v=>v=.int i
 |.str x,v=>v=.str x
 |.list xs,v=>∃a vs,v=.ref a/\H a=some (.lst vs)/\RdDs H xs vs
 |.tuple xs,v=>∃a vs,v=.ref a/\H a=some (.tup vs)/\RdDs H xs vs
 |.dict jg,v=>∃a ws,v=.ref a/\H a=some (.dK ws)/\RdKv H jg ws
def RdDs (H:Hp):List PyData->List V->Prop
 |[],vs=>vs=[]
 |d::ds,vs=>∃v r,vs=v::r/\RdD H d v/\RdDs H ds r
def RdKv (H:Hp):List (PyData×PyData)->List (Key×V)->Prop
 |[],ws=>ws=[]
 |(k,d)::r,ws=>∃q w ws',ws=(q,w)::ws'/\k=keyD q/\RdD H d w/\RdKv H r ws'
end
section
variable {P:C8}{w:C4}{H:Hp}{h:B6}
mutual
theorem HY (hok:HOk P w H h)(sy:NS H):∀(d:PyData) (v:V) (u:A3),RdD H d v->RelV v u->∃as,Reads h u d as/\P4∉as
 | .none, v, u, r, e => by
  obtain rfl:v=.non:=r;obtain rfl:u=.none:=e;exact⟨[],.none,nofun⟩
 | .bool b, v, u, r, e => by
  obtain rfl:v=.bl b:=r;obtain rfl:u=.bool b:=e;exact⟨[],.bool b,nofun⟩
 | .int i, v, u, r, e => by
  obtain rfl:v=.int i:=r;obtain⟨t,rfl⟩:=e;exact⟨[],.int i t,nofun⟩
 | .str x, v, u, r, e => by
  obtain rfl:v=.str x:=r;obtain⟨t,rfl⟩:=e;exact⟨[],.str x t,nofun⟩
 | .list xs, v, u, r, e => by
  obtain⟨a,vs,rfl,ha,rs⟩:=r;obtain rfl:u=.ref a:=e;obtain⟨_,jf,n,rv,ho⟩:=hok a _ ha;obtain⟨as,rr,ns⟩:=HZ hok sy xs vs jf rs rv;refine⟨a::as,.list ho rfl rfl rr,λz=>?_⟩;rcases C5.mp z with z|z
  ·rw[<- z] at ha;rcases sy with sy|⟨o,u,sy⟩ <;> rw[sy] at ha <;> cases ha
  ·exact ns z
 | .tuple xs, v, u, r, e => by
  obtain⟨a,vs,rfl,ha,rs⟩:=r;obtain rfl:u=.ref a:=e;obtain⟨_,jf,rv,ho⟩:=hok a _ ha;obtain⟨as,rr,ns⟩:=HZ hok sy xs vs jf rs rv;obtain⟨o,e1,e2,n,e3⟩:=ho;exact⟨as,.tuple e1 (BE e2).1 e3 rr,ns⟩
 | .dict jg, v, u, r, e => by
  obtain⟨a,ws,rfl,ha,rs⟩:=r;obtain rfl:u=.ref a:=e;obtain⟨_,hs,us,rv,o,es,ep,e1,e2,e3,_,e5,_⟩:=hok a _ ha;obtain⟨as,bs,r1,r2,n1,n2⟩:=Lb hok sy jg ws us es.toList rs rv e5;refine⟨a::as++bs,.dict e1 e2.1 e3 r1 r2,λz=>?_⟩;rcases M8.mp z with z|z
  ·rcases C5.mp z with z|z
   ·rw[<- z] at hs;exact absurd hs (by decide)
   ·exact n1 z
  ·exact n2 z
theorem HZ (hok:HOk P w H h)(sy:NS H):∀(ds:List PyData) (vs:List V) (us:List A3),RdDs H ds vs->Vals vs us->∃as,ReadsAll h us ds as/\P4∉as
 | [], vs, us, r, e => by
  obtain rfl:vs=[]:=r;cases e;exact⟨[],.nil,nofun⟩
 | d :: ds, vs, us, r, e => by
  obtain⟨v,r',rfl,r1,r2⟩:=r;cases e with
  | cons e1 e2 =>
   obtain⟨as,a1,a2⟩:=HY hok sy d v _ r1 e1;obtain⟨bs,b1,b2⟩:=HZ hok sy ds r' _ r2 e2;exact⟨as++bs,.cons a1 b1,λz=>(M8.mp z).elim a2 b2⟩
theorem Lb (hok:HOk P w H h)(sy:NS H):∀(jg:List (PyData×PyData)) (ws:List (Key×V)) (us:List (Key×A3)) (es:List DictEntry),RdKv H jg ws->KV ws us->Pairs (G5 P w) es us->
   ∃as bs,ReadsAll h (es.map (·.key)) (jg.map (·.1)) as/\ReadsAll h (es.map (·.val)) (jg.map (·.2)) bs/\P4∉as/\P4∉bs
 | [], ws, us, es, r, e, p => by
  obtain rfl:ws=[]:=r;cases e;cases p;exact⟨[],[],.nil,.nil,nofun,nofun⟩
 | (k, d) :: jg, ws, us, es, r, e, p => by
  obtain⟨q,w1,ws',rfl,rfl,r1,r2⟩:=r;cases e with
  | cons e1 e2 =>
   cases p with
   | cons p1 p2 p3 =>
    obtain⟨as,bs,a1,a2,a3,a4⟩:=Lb hok sy jg ws' _ _ r2 e2 p3;obtain⟨e1,e1'⟩:=e1;dsimp only at e1 e1';obtain⟨cs,c1,c2⟩:=HY hok sy d w1 _ r1 e1';rw[<- e1] at p1;refine⟨[]++as,cs++bs,.cons ?_ a1,.cons (by dsimp only;rw[p2];exact c1) a2,a3,λz=>(M8.mp z).elim c2 a4⟩;rcases Z1 p1 with⟨i,t,rfl,e⟩|⟨x,t,rfl,e⟩
    ·dsimp only;rw[e];exact .int i t
    ·dsimp only;rw[e];exact .str x t
end
end
section
variable {X:Cx}{jb:List (A1×Obj)}{σ:St}{H:Hp}{s:A5}
theorem Rh (hr:Room k X.A):N1 X (.builtin "repr") (λvs H Q=>∃v d,vs=[v]/\RdD H d v/\d.showable=true/\d.depth<=40/\d.shown.length<=B9/\Q (.str d.shown) H):=by
 intro jb s σ H vs us Q I rv h;obtain⟨v,d,rfl,r,h1,h2,h3,q⟩:=h;obtain⟨u,rfl,ru⟩:=rv.one;obtain⟨as,rr,ns⟩:=HY I.hok I.nos d v u r ru;have fin:∀(h':B6) (t:Tok) (tk:Tok),(∀b o,s.heap.get? b=some o->h'.get? b=some o)->∃v' H',Inv X jb σ H' { s with heap:=h',toks:=tk }/\RelV v' (.str d.shown t)/\Q v' H':=λh' t tk kp=>⟨.str d.shown,H,I.kept kp,⟨t,rfl⟩,q⟩;cases rr with
 |none=>exact P.repr_of_none (fin s.heap _ _ λ_ _ z=>z)
 |bool b=>exact P.repr_of_bool (by cases b <;> exact fin s.heap _ _ λ_ _ z=>z)
 |int i t=>exact P.repr_of_int (by simpa[i4] using h1) (fin s.heap _ _ λ_ _ z=>z)
 |str x t=>exact P.repr_of_str (fin s.heap _ _ λ_ _ z=>z) h3
 |list e1 e2 e3 e4=>exact repr_of_reads' (.list e1 e2 e3 e4) h1 (λ_=>ns) hr.gd (by have:=hr.units;omega) (λ_ _ z=>z) (λh' u tk kp=>fin h' u tk kp) h3
 |tuple e1 e2 e3 e4=>exact repr_of_reads' (.tuple e1 e2 e3 e4) h1 (λ_=>ns) hr.gd (by have:=hr.units;omega) (λ_ _ z=>z) (λh' u tk kp=>fin h' u tk kp) h3
 |dict e1 e2 e3 e4 e5=>exact repr_of_reads' (.dict e1 e2 e3 e4 e5) h1 (λ_=>ns) hr.gd (by have:=hr.units;omega) (λ_ _ z=>z) (λh' u tk kp=>fin h' u tk kp) h3
end
end L2
namespace Pu
open PySem PySem.Spec L2
mutual
/-- what a thing holds, for repr -/
def dat:PV->Option PyData
 |.non=>some .none
 |.bl b=>some (.bool b)
 |.int i=>some (.int i)
 |.str x=>some (.str x)
 |.tup xs=>match dats xs with|some ds=>some (.tuple ds)|none=>none
 |.lst xs=>match dats xs with|some ds=>some (.list ds)|none=>none
 |.dct ks xs=>match dats xs with|some ds=>some (.dict ((ks.map keyD).zip ds))|none=>none
 |_=>none
def dats:List PV->Option (List PyData)
 |[]=>some []
 |x::xs=>match dat x,dats xs with|some d,some ds=>some (d::ds)|_,_=>none
end
theorem kv_rd:∀(jg:List (Key×V)) (ds:List PyData),RdDs H ds (jg.map (·.2))->RdKv H (((jg.map (·.1)).map keyD).zip ds) jg
 | [], ds, r => by
  cases ds with
  |nil=>exact rfl
  |cons d ds=>obtain⟨v,r',e,_⟩:=r;cases e
 | (q, w) :: jg, ds, r => by
  cases ds with
  |nil=>exact(List.cons_ne_nil _ _ r).elim
  | cons d ds =>
   obtain⟨v,r',e,r1,r2⟩:=r;cases e;exact⟨q,w,jg,rfl,rfl,r1,kv_rd jg ds r2⟩
section
variable {K:A9}{G:Gh}{H:Hp}
mutual
theorem Lc:∀(x:PV) (v:V) (d:PyData),Rep K G H x v->dat x=some d->RdD H d v
 |.non,v,d,r,e=>by cases e;exact r
 |.bl b,v,d,r,e=>by cases e;exact r
 |.int i,v,d,r,e=>by cases e;exact r
 |.str x,v,d,r,e=>by cases e;exact r
 | .tup xs, v, d, r, e => by
  obtain⟨a,vs,rfl,t,rs⟩:=r;rw[dat] at e;cases ed:dats xs with
  |none=>rw[ed] at e;cases e
  |some ds=>rw[ed] at e;cases e;exact⟨a,vs,rfl,t.2,DA xs vs ds rs ed⟩
 | .lst xs, v, d, r, e => by
  obtain⟨a,vs,rfl,t,rs⟩:=r;rw[dat] at e;cases ed:dats xs with
  |none=>rw[ed] at e;cases e
  |some ds=>rw[ed] at e;cases e;exact⟨a,vs,rfl,t.2,DA xs vs ds rs ed⟩
 |.ty _,v,d,r,e=>by cases e
 |.pot _,v,d,r,e=>by cases e
 |.scr _,v,d,r,e=>by cases e
 |.fdt _ _,v,d,r,e=>by cases e
 | .dct ks xs, v, d, r, e => by
  obtain⟨a,jg,rfl,_,ha,hk,rs⟩:=r;rw[dat] at e;cases ed:dats xs with
  |none=>rw[ed] at e;cases e
  |some ds=>rw[ed] at e;cases e;exact⟨a,jg,rfl,ha,hk▸kv_rd jg ds (DA xs _ ds rs ed)⟩
theorem DA:∀(xs:List PV) (vs:List V) (ds:List PyData),Reps K G H xs vs->dats xs=some ds->RdDs H ds vs
 |[],vs,ds,r,e=>by cases e;exact r
 | x :: xs, vs, ds, r, e => by
  obtain⟨v,r',rfl,r1,r2⟩:=r;rw[dats] at e;cases e1:dat x with
  |none=>rw[e1] at e;cases e
  | some d =>
   cases e2:dats xs with
   |none=>rw[e1,e2] at e;cases e
   |some ds'=>rw[e1,e2] at e;cases e;exact⟨v,r',rfl,Lc x v d r1 e1,DA xs r' ds' r2 e2⟩
end
end
def j6:w1:=λx R=>match dat x with|some d=>d.showable=true/\d.depth<=40/\d.shown.length<=B9/\R (.str d.shown)|none=>False
theorem bt_repr:M7 "repr"=some (.builtin "repr"):=by decide +kernel
section
variable {T:PotK}{ι:Type}{K:A9}{F:ι->Cx}{e:Expr}{pe:pE}{pos:Pos}
theorem BU (hr:∀z,Room k (F z).A)(hg:∀z,Gl (F z) "repr")(hm:∀z,(F z).mg "repr"=none)(ha:QR T K F e pe)(hs:F5 e=true:=by rfl):QE T K F (.Call (.Name "repr" p) [e] [] pos) (qUn j6 pe):=Hy (λz=>Rh (hr z)) (λG H x v R Q hf rx hw k=>by
 unfold j6 at hw;cases ed:dat x with
 |none=>rw[ed] at hw;exact hw.elim
 | some d =>
  rw[ed] at hw;obtain⟨h1,h2,h3,q⟩:=hw;refine⟨v,d,rfl,?_,h1,h2,h3,k _ _ _ q (Same.refl _) rfl⟩;rcases rx with rx|⟨a,vs,xs,rfl,rfl,hv,rs⟩
  ·exact Lc x v d rx ed
  ·rw[dat] at ed;cases es:dats xs with
   |none=>rw[es] at ed;cases ed
   |some ds=>rw[es] at ed;cases ed;exact⟨a,vs,rfl,hv,DA xs vs ds rs es⟩) hg hm bt_repr ha hs
end
end Pu
end
section
namespace HT
open PySem PySem.Spec PyProof.Rows
section
variable {prog:C8}{w:C4}{A:D5}{E:A3->A5->Prop}{s:A5}
theorem Ri (n:Nat):CQ none none (-1) (n:Int)=((n:Int)-1,-1):=rfl
theorem Rj (n:Nat):x6 ((n:Int)-1) (-1) (-1)=n:=by
 unfold x6;rw[jt (by decide)];have h1:(- -1:Int)=1:=by decide
 rw[h1]
 by_cases h:(n:Int)-1 > -1
 ·rw[jr h,Int.ediv_one];omega
 ·rw[jt h];omega
theorem Rk {n:Nat}(hs:s.heap.IsSliceOf sl .none .none vk)(pk:IsPart vk (some (-1)))
   (h:Q ((n:Int)-1,-1,n) s):A6 (A7 prog w) A (Eu (.ref sl) (pure (n:Int))) Q E s:=by
 obtain⟨os,hos,hcs,hds⟩:=id hs;unfold Eu JJ;refine A0 (A0 (K5 hos hds (x:=.none) rfl (A0 (K5 hos hds (x:=.none) rfl (A0 (K5 hos hds (x:=vk) rfl (A8 ?_)))))));refine A0 (De pk ?_);show A6 _ _ (if((-1:Int) == 0)=true then _ else _) _ _ s;rw[jt (by decide)];refine A0 (De .none (A0 (De .none (A0 (A8 ?_)))));show A6 _ _ (match CQ none none (-1) (n:Int) with|(lo,hi)=>pure (lo,(-1:Int),x6 lo hi (-1))) _ _ s;rw[Ri];show A6 _ _ (pure ((n:Int)-1,(-1:Int),x6 ((n:Int)-1) (-1) (-1))) _ _ s;rw[Rj];exact A8 h
theorem Ld {α β:Type}{f g:α->Option β}:∀l:List α,(∀m∈l,f m=g m)->l.filterMap f=l.filterMap g
 |[],_=>rfl
 |x::l,h=>by rw[As,As,h x C7,Ld l λm hm=>h m (C3 _ hm)]
theorem Rl (xs:Array A3):((D3 xs.size).filterMap λ(m:Nat)=>xs[((xs.size:Int)-1+(m:Int) * -1).toNat]?).toArray=xs.toList.reverse.toArray:=by
 congr 1
 have e:(D3 xs.size).filterMap (λ(m:Nat)=>xs[((xs.size:Int)-1+(m:Int) * -1).toNat]?)=((D3 xs.size).map λk=>xs.size-1-k).filterMap (xs[·]?):=by
  rw[List.filterMap_map];refine Ld _ λm hm=>?_;have:=N9.mp hm;show _=xs[xs.size-1-m]?
  congr 1
  omega
 rw[e,PySem.W.krv_range,List.filterMap_reverse,PySem.W.krv_all]
theorem getItem_tuple_rev (ht:IsTup s.heap t items)(hs:s.heap.IsSliceOf sl .none .none vk)(pk:IsPart vk (some (-1)))
   (h:Q (.ref s.heap.objs.size) { s with heap:=s.heap.push { cls:=.type "tuple",data:=.seq items.toList.reverse.toArray } })
   (hsz:items.size<=B9):A6 (A7 prog w) A (X0 (.ref t) (.ref sl)) Q E s:=by
 have htake:sizeOk (.seq items.toList.reverse.toArray):=by
  show items.toList.reverse.toArray.size<=B9;rw[F7,At,O6];omega
 obtain⟨os,hos,hcs,hds⟩:=id hs;have hTs:s.TypeIs (.ref sl) "slice":=⟨os,hos,hcs⟩;unfold X0
 try with_reducible refine L6 ?_
 first|refine A0 (A8 ?_)|skip
 refine A0 (wpAny_sequenceKey ht.typeIs (by decide) ?_)
 refine A0 (W7 (name:=B0 "__getitem__") ht.typeIs Bs
   (P3 Bs ht.typeIs entry_tuple_getitem ?_ (args_tuple_getitem _ _)))
 show A6 _ _ (GI (.ref t)>>=_) _ _ s;refine A0 (tupleItemsOf_ ht ?_);refine A0 (w6 hTs ?_);rw[jr (by decide)];refine A0 (Rk hs pk ?_)
 have hno:¬((((items.size:Int)-1) == 0&&(-1:Int) == 1&&items.size == items.size)=true):=by
  intro q;rw[h9,h9] at q;exact absurd (eq_of_beq q.1.2) (by decide)
 show A6 _ _ (if(((items.size:Int)-1) == 0&&(-1:Int) == 1&&items.size == items.size)=true then _ else _) _ _ s;rw[jt hno,Rl]
 first
   |exact A0 (m:=x8 _) (P2 (A8 ⟨_,rfl,A8 h⟩) htake)
   |exact A0 (m:=x8 _) (P2 (A0 (A8 (A8 ⟨_,rfl,A8 h⟩))) htake)
   |exact A0 (A0 (m:=x8 _) (P2 (A8 (A8 ⟨_,rfl,A8 h⟩)) htake))
   |exact A0 (A0 (m:=x8 _) (P2 (A8 ⟨_,rfl,A8 h⟩) htake))
end
end HT
namespace L2
open PySem PySem.Spec PyProof.Rows
section
variable {X:Cx}{e st:Expr}{te:TE}{ts:TE}{pos p2:Pos}
def rRev (K:A9):V->Hp->VK->Prop:=λx H Q=>∃a xs,x=.ref a/\((SqL K H a xs/\∀p,H p=none->Q (.ref p) (upd H p (.lst xs.reverse)))\/(SqT K H a xs/\∀p,H p=none->Q (.ref p) (upd H p (.tup xs.reverse))))
def tRev (K:A9)(te ts:TE):TE:=λσ H Q=>te σ H λx H1=>ts σ H1 λy H2=>y=.int (-1)/\rRev K x H2 Q
theorem Vals.rev (r:Vals xs us):Vals xs.reverse us.reverse:=by
 induction r with
 |nil=>exact .nil
 | cons r1 _ ih =>
  rw[k7,k7];exact ih.append (.cons r1 .nil)
theorem pe_rev (he:PE X e te)(hs:PE X st ts):PE X (.Subscript e (.Slice none none (some st) p2) pos) (tRev X.K te ts):=by
 intro jb s σ H Q I h;refine Subscript_ (thn (he jb s σ H _ I h) λv s1 ⟨x,H1,I1,r1,q1⟩=>?_);refine wpAny_Slice ?_;rw[evalPart_none];refine A8 (A8 ?_);rw[evalPart_some];refine thn (hs jb s1 σ H1 _ I1 q1) λvk s3 ⟨y,H3,I3,ry,q3⟩=>?_;obtain⟨rfl,a,xs,rfl,q⟩:=q3;obtain⟨t,rfl⟩:=ry;obtain rfl:v=.ref a:=r1;have I4:Inv X jb σ H3 { s3 with heap:=s3.heap.push { cls:=.type "slice",data:=.fields #[.none,.none,.int (-1) t] } }:=I3.kept (t':=s3.toks) λb ob q=>C0 _ q;show A6 (A7 X.prog X.w) X.A (subscriptTail e (.Slice none none (some st) p2) (.ref a) (.ref s3.heap.objs.size)) (EP X jb σ Q) X.xe { s3 with heap:=s3.heap.push { cls:=.type "slice",data:=.fields #[.none,.none,.int (-1) t] } };rcases q with⟨hq,q⟩|⟨hq,q⟩
 ·obtain⟨jf,r,ht,hz⟩:=I4.list hq;refine tail_any (ops:=[.ref a,.ref s3.heap.objs.size]) ht.isList.typeIs slot_list_getitem.lookup ?_ (by with_unfolding_all rfl);refine wpAny_getItem_list_slice ht.isList (GN ..) .none .none (.int (-1) t) (by decide) ?_ (by rw[F7];have:=r.length;omega);rw[PySem.W.krv_pick];refine⟨.ref _,_,I4.laid (t':=s3.toks) (o:=.lst xs.reverse) (λb ob q=>C0 _ q) (B8 _) ?_,rfl,q _ (I4.hok.fresh (B8 _))⟩;exact⟨by rw[At];exact hz,jf.reverse,0,r.rev,F2 _ rfl⟩
 ·obtain⟨jf,r,ht,hz⟩:=I4.tuple hq;refine tail_any (ops:=[.ref a,.ref s3.heap.objs.size]) ht.typeIs PyProof.Rows.slot_tuple_getitem.lookup ?_ (by with_unfolding_all rfl);refine HT.getItem_tuple_rev ht (GN ..) (.int (-1) t) ?_ (by rw[F7];have:=r.length;omega);refine⟨.ref _,_,I4.laid (t':=s3.toks) (o:=.tup xs.reverse) (λb ob q=>C0 _ q) (B8 _) ?_,rfl,q _ (I4.hok.fresh (B8 _))⟩;exact⟨by rw[At];exact hz,jf.reverse,r.rev,Z3.new _ _⟩
end
end L2
namespace Pu
open PySem PySem.Spec L2
section
variable {T:PotK}{ι:Type}{K:A9}{F:ι->Cx}{e:Expr}{pe:pE}{pos p2 p3 p4:Pos}
theorem Reps.rev:∀{xs:List PV} {vs:List V},Reps K G H xs vs->Reps K G H xs.reverse vs.reverse
 |[],vs,r=>by obtain rfl:vs=[]:=r;exact rfl
 | x :: xs, vs, r => by
  obtain⟨v,r',rfl,r1,r2⟩:=r;rw[k7,k7];exact(Reps.rev r2).append ⟨v,[],rfl,r1,rfl⟩
def wRev:w1:=λx R=>match x with|.lst xs=>R (.lst xs.reverse)|.tup xs=>R (.tup xs.reverse)|_=>False
theorem qe_rev {i:Nat}(he:QR T K F e pe)(hK:∀z,(F z).K=K:=by intro _;rfl):QE T K F (.Subscript e (.Slice none none (some (.UnaryOp .USub (.Constant (.int 1) i p3) p4)) p2) pos) (qUn wRev pe):=by
 obtain⟨t,h1,h2⟩:=he;refine⟨_,λz=>hK z▸pe_rev (h1 z) (pe_un JU N0),λC G σ H env n R Q hK hT S hp k=>?_⟩;refine h2 C G σ H env n _ _ hK hT S hp λx jc n1 v H1 p1 S1 r1 f1=>?_;subst hK;have rx:=r1.rd S1;refine⟨1,rfl,rfl,?_⟩;unfold wRev at p1
 split at p1
 ·obtain⟨a,vs,ev,hq,r⟩:=rx.lst;exact⟨a,vs,ev,.inl ⟨hq,λp hn=>k _ _ _ _ _ p1 (S1.same (Same.lay1 hn)) (Dl (S1.fresh hn) hn r.rev) (f1.trans (Fr.of (Same.lay1 hn)))⟩⟩
 ·obtain⟨a,vs,ev,hq,r⟩:=rx.tup;exact⟨a,vs,ev,.inr ⟨hq,λp hn=>k _ _ _ _ _ p1 (S1.same (Same.lay1 hn)) (AG (S1.fresh hn) hn r.rev) (f1.trans (Fr.of (Same.lay1 hn)))⟩⟩
 grind
end
end Pu
end
section
namespace L2
open PySem PySem.Spec PyProof.Rows
def Itd (a:Int)(n:Nat):It:=⟨λi _=>i<n,λi H x H'=>H'=H/\x=.int (a-i),λi _=>n<=i⟩
theorem Le {K:A9}(it:A1)(lo:Int)(n:Nat):Turn P w K tg (Itd lo n) [it] it (λi h=>IsRangeIter h it (lo+(i:Nat) * -1) ((n:Int)-(i:Nat)) (-1)) where
 mem:=by simp
 obj:=fun i h st b hb=>by
  have e:b=it:=by simpa using hb
  subst e
  exact⟨_,st,λv z=>by
   have z':BF _=Data.cell v:=z
   cases z'⟩
 keep:=λi h h' st k=>k it (by simp) _ st
 item:=by
  intro X hP hw hK hc i jb s σ H E I hf st hg;subst hP hw hK;obtain⟨f0,f1,f2,f3,f4,f5⟩:=hf it (by simp);have W:=Walks.range (prog:=X.prog) (w:=X.w) (I.ok.hd hc) it lo (-1) n;refine W.item i s _ _ hg st λv h' tk hv st' kk=>?_;obtain⟨t,rfl⟩:=hv;have I1:Inv X jb σ H { s with heap:=h',toks:=tk }:=I.turned (λb o hb e=>kk b o (by simpa using hb) e) f0 f1 f3 f4 f5;refine⟨_,rfl,EH (s:={ s with heap:=h',toks:=tk }) (n:="range_iterator") st' rfl rfl (by decide) ⟨.int (lo-i),H,I1,⟨t,?_⟩,⟨rfl,rfl⟩,st',λb hb=>(hf b hb).1⟩⟩;have e:lo+(i:Int) * -1=lo-i:=by omega
  rw[e]
 done:=by
  intro X hP hw hK hc i jb s σ H E I hf st hg;subst hP hw hK;obtain⟨f0,f1,f2,f3,f4,f5⟩:=hf it (by simp);exact wpAny_pyNext_range_end (I.ok.hd hc) st (by have:n<=i:=hg;omega) λh' eb=>⟨rfl,I.turned (t':=s.toks) (λb o hb e=>eb b o hb e) f0 f1 f3 f4 f5⟩
 self:=λ_ _ _ _ _ st h=>DZ st h
end L2
namespace Pu
open PySem PySem.Spec L2
section
variable {T:PotK}{ι:Type}{K:A9}{F:ι->Cx}{tg a b c:Expr}{pa pb pc:pE}{pos:Pos}
theorem Lf {K:A9}{G:Gh}{H:Hp}(lo:Int)(m:Nat):ItR K G H (Itd lo m) ((D3 m).map λ(k:Nat)=>PV.int (lo-k)):=by
 intro G2 H2 hk hM hp hf;refine⟨λi x e=>?_,λi hi=>(show m<=i by simpa using hi)⟩;rw[E7] at e;cases e1:(D3 m)[i]? with
 |none=>rw[e1] at e;cases e
 | some j =>
  rw[e1] at e;cases e;obtain⟨hi,e2⟩:=F6.mp e1;rw[List.getElem_range] at e2;subst e2;refine⟨(show i<m by simpa using hi),λv H3 y=>?_⟩;obtain⟨e3,y⟩:=y;subst e3 y;exact⟨Same.refl _,rfl⟩
end
end Pu
end
section
namespace L2
open PySem PySem.Spec PyProof.Rows
theorem Lg:∀{ys:List Str} {us:List A3},Vals (ys.map V.str) us->StrsAre us ys
 |[],us,r=>by rw[w9] at r;cases r;exact .nil
 | y :: ys, us, r => by
  rw[K7] at r;cases r with
  | cons r1 r2 =>
   obtain⟨t,e⟩:=r1;subst e;exact .cons y t (Lg r2)
end L2
end
section
namespace L2
open PySem PySem.Spec PyProof.Rows
section
variable {X:Cx}{pos:Pos}
theorem Rm:seqSlot? (.type "list") (dunderI "add")=pure (some (.builtin "list.__iadd__")):=rfl
theorem Ro:fillsInplaceSlot (.type "list") "add" (Operator.Add == .Add)=pure false:=rfl
def Lh:R2:=λx y H Q=>∃l b xs zs,x=.ref l/\y=.ref b/\H l=some (.lst xs)/\H b=some (.lst zs)/\xs.length+zs.length<=B9/\Q (.ref l) (upd H l (.lst (xs++zs)))
theorem Rp:OpR X (inplaceOp .Add) Lh:=by
 intro jb s σ H x y v u Q I rx ry h;obtain⟨l,b,xs,zs,rfl,rfl,hH,hB,hz,q⟩:=h;cases rx;cases ry;obtain⟨z,jf,n,r,hl,e⟩:=I.lstM hH;obtain⟨z2,its2,n2,r2,hl2,e2⟩:=I.lstM hB;have hsz:jf.toArray.size+its2.toArray.size<=B9:=by rw[F7,F7];omega
 have hlong:¬(!jf.toArray.isEmpty&&CT (jf.toArray.size+its2.toArray.size))=true:=by
  rw[Kk hsz,CO];exact L0
 have ha:s.TypeIs (.ref l) "list":=⟨_,e,rfl⟩;have hb:s.TypeIs (.ref b) "list":=⟨_,e2,rfl⟩;unfold inplaceOp;refine L6 ?_;refine A0 (w6 ha (A0 (K6 Ro ?_)));show A6 _ _ (if false=true then _ else _) _ _ s;rw[jt L0];refine A0 (binaryOp1_none (nm:="add") ha hb noFill_list_add ?_);refine A0 (K6 Rm ?_);refine A0 (Y3 ?_)
 refine call_meets F.slot_list_iadd ha F.entry_list_iadd (F.args_list_iadd_2 _ _)
   (AutoSeq1.list___iadd___list_list_0 l jf.toArray n b its2.toArray n2 hlong (by omega) (by omega)) ⟨e,e2,?_⟩
 refine⟨.ref l,_,I.lset (its':=jf++its2) hH e (by simp) (r.append r2) ?_,rfl,q⟩;rw[E6];omega
end
end L2
namespace Pu
open PySem PySem.Spec L2
section
variable {T:PotK}{np:Bool}{ι:Type}{K:A9}{F:ι->Cx}{e:Expr}{st:Stmt}{pe:pE}{pos:Pos}
theorem Li {X:Cx}{i:Nat}{x:Str}{e:Expr}{op:Operator}{ti:TIp}{pos' pos:Pos}(hN:X.N.Nodup)(hi:X.N[i]?=some x)(hx:Loc X.env.scope x)(ho:OpR X (inplaceOp op) ti)(hf:X.fn x=true\/X.env.scope.names.lookup x=some .local:=by first|exact .inl rfl|exact .inr rfl|assumption)(te:TE)(h:EW X e te):SW X (.AugAssign (.Name x pos') op e pos) (tAug i te ti):=⟨ps_aug hN hi hx h.h ho hf⟩
def H_ (i:Nat)(pe:pE):pS:=λD env n=>(∃xs,env[i]?=some (some (.ow .lst xs)))/\pe env n λy jc n1=>match jc[i]?,y with|some (some (.ow .lst xs)),.lst ys=>xs.length+ys.length<=1000000/\D.nx (jc.set i (some (.ow .lst (xs++ys)))) n1|_,_=>False
theorem Rq (i:Nat)(h:∀z te,EW (F z) e te->SW (F z) st (tAug i te Lh))(he:QE T K F e pe):QS T np K F st (H_ i pe):=by
 obtain⟨t,a1,a2⟩:=he;refine⟨_,λz=>(h z _ ⟨a1 z⟩).h,λC G σ H env n PD D hK hT hn S hp L=>?_⟩;obtain⟨⟨xs0,e0⟩,hp⟩:=hp;obtain⟨a,vs,ev,h1,h2,h3,h4,r⟩:=S.slots i _ e0;refine⟨.ref a,ev,?_⟩;refine a2 C G σ H env n _ _ hK hT S hp λy jc n1 v H1 q1 S1 r1 f1=>?_
 split at q1
 ·rename_i xs ys ex;obtain⟨a',us,ev',g1,g2,g3,g4,r'⟩:=S1.slots i _ ex;rw[ev] at ev';cases ev';subst hK;obtain⟨b,ws,rfl,tb,rb⟩:=r1;obtain⟨S2,f2⟩:=S1.put ex ev (r'.append rb);refine⟨a,b,us,ws,rfl,rfl,g4,tb.2,by rw[<- r'.length,<- rb.length];exact mil q1.1,?_⟩
  have es:σ.set i (some (.ref a))=σ:=by
   obtain⟨hi,e⟩:=F6.mp ev;rw[<- e];exact List.set_getElem_self hi
  show D.nx (σ.set i (some (.ref a))) _;rw[es];exact L.nx _ _ _ _ _ q1.2 S2 (Ext.fr (f1.trans f2))
 ·exact q1.elim
def qAug (i:Nat)(w:w2)(pe:pE):pS:=λD env n=>match env[i]? with|some (some (.v x))=>(pe env n λy jc n1=>w x y λz=>D.nx (jc.set i (some (.v z))) n1)|_=>False
theorem qs_aug (i:Nat){ti:TIp}{w:w2}(hw:W2 K ti w)(h:∀z te,EW (F z) e te->SW (F z) st (tAug i te ti))(he:QE T K F e pe):QS T np K F st (qAug i w pe):=by
 obtain⟨t,a1,a2⟩:=he;refine⟨_,λz=>(h z _ ⟨a1 z⟩).h,λC G σ H env n PD D hK hT hn S hp L=>?_⟩;unfold qAug at hp
 split at hp
 ·rename_i x ex;obtain⟨v,ev,rv⟩:=S.slots i _ ex;refine⟨v,ev,?_⟩;refine a2 C G σ H env n _ _ hK hT S hp λy jc n1 u H1 q1 S1 r1 f1=>?_;subst hK;refine hw G H1 x y v u _ _ (λp hp=>S1.fresh hp) (.inl (rv.fr f1)) (.inl r1) q1 λz v' H' rz s rv'=>?_;exact L.nx _ _ _ _ _ rz ((S1.same s).set i rv') (Ext.fr (f1.trans (Fr.of s)))
 ·exact hp.elim
end
end Pu
end
section
namespace L2
open PySem PySem.Spec PyProof.Rows
theorem Rr {X:Cx}{scope:K9}{cl:List (Str×A1)}{N:List Str}{jb:List (A1×Obj)}{σ σ3:St}{H2 H3:Hp}{s2 s4:A5}{fp:List A1}{i:Nat}{y:Str}{py:Pos}{DD:Ends}(hN:X.N.Nodup)(hiy:X.N[i]?=some y)(hy:Loc X.env.scope y)(hff:X.fn y=true\/X.env.scope.names.lookup y=some .local)(I2:Inv X jb σ H2 s2)(f2:∀b∈fp,FpOk X jb H2 b)(I4:Inv (G0 X scope cl N fp (s2.heap.objs.size+1) s2 H2) jb σ3 H3 s4)(qn:DD.nx (σ.set i (some (.ref s2.heap.objs.size))) H3) :
   compPost (A7 X.prog X.w) X.A X.xe (some (assign (.Name y py) X.env)) (λ_ s'=>SP X jb DD .next s') (.ref s2.heap.objs.size) (s2.heap.objs.size+1) (.ok .next) s4:=by
 obtain⟨m4,hn4,_⟩:=I4.loc;have I5:Inv X jb σ H3 s4:=Inv.uncomp (h':=s4.heap) I2 f2 I4 λb hb=>rfl;have fr:H3 (s2.heap.objs.size+1)=none:=I4.free;have oldne:∀{b o},s2.heap.get? b=some o->b≠s2.heap.objs.size+1:=λe=>F4 (Bn (D1 e));have locne:X.env.locals≠s2.heap.objs.size+1:=F4 (Bn I2.lt)
 have cellne:∀x c,X.env.cells.lookup x=some c->c≠s2.heap.objs.size+1:=λx c e=>by
  obtain⟨v,o,h1,_⟩:=I2.cell x c e;exact oldne h1
 have pinne:∀p∈X.pn++jb,p.1≠s2.heap.objs.size+1:=λp hp=>oldne (I2.pin p hp).1;have sz:X.s₀.heap.objs.size<=s2.heap.objs.size+1:=Nat.le_succ_of_le I2.sz;clear I4 I2;generalize s2.heap.objs.size+1=C at *;refine wpAny_assign_Name (JP I5 hN hiy hy (v:=.ref s2.heap.objs.size) rfl (λs6 I6 ⟨a6,sb6,ha6⟩=>?_) hff);refine⟨m4,hn4.sameBut sb6 (ha6.elim (λz=>by rw[z];exact Ne.symm locne) λz=>Ne.symm (cellne _ _ z)),λh' hs'=>⟨_,H3,?_,qn⟩⟩;have U0:Un (frs X.stack) [C] H3 H3 s6.heap s6.heap:=Un.refl;have hx':∀{b},b∉[C]->h'.get? b=s6.heap.get? b:=λ{b} hx=>hs'.2 b λz=>hx (by rw[z];simp)
 have trC:∀{b u},H3 b=some u->b∉[C]:=λ{b u} e z=>by
  rw[K2.mp z,fr] at e;cases e
 obtain⟨hh6,g6,d6,t6,os6⟩:=s6;refine I6.call (h':=h') (g':=g6) (d':=d6) (t':=t6) (ch:=[C]) ⟨λb o e n hb hx=>?_,λb o e n hb hx=>?_,U0.free,λb o e hx=>?_,U0.tups,U0.frzs,U0.tbls,U0.sys⟩ (λb u e=>?_) I6.bare λb hb=>?_
 ·rw[hx' hx];exact U0.keep b o e n hb hx
 ·rw[hx' hx];exact U0.slot b o e n hb hx
 ·rw[hx' hx];exact U0.there b o e hx
 ·refine(I6.hok b u e).stay (λc v hc q=>?_) (λ_ q=>q) λ_ _ q=>q;rw[hx' (hc.elim (λz=>by rw[z];exact trC e) trC)];exact q
 ·rw[K2.mp hb];exact⟨.inr sz,Ne.symm locne,cellne,pinne⟩
theorem Rs {X:Cx}{scope:K9}{cl:List (Str×A1)}{N:List Str}{cs:List (Option Nat)}{ji tg iter:Expr}{jk:List Expr}{pos spos py:Pos}{wi:TI}{g:TG}{tt:TT}{te:TE}{i:Nat}{y:Str}(hN:X.N.Nodup)(hiy:X.N[i]?=some y)(hy:Loc X.env.scope y)(S:o8 X scope cl N cs)(hc:X.calm=true)(hi:PI X tg iter wi)
   (hb:∀(fp:List A1) (C:A1) (s:A5) (H:Hp),PG (G0 X scope cl N fp C s H) tg g/\PIf (G0 X scope cl N fp C s H) jk tt/\PE (G0 X scope cl N fp C s H) ji te)
   (hsw:c6 (.ListComp ji [⟨tg,iter,jk,0⟩] scope pos) (some (.Name y py)) spos.line X.env=pure true:=by rfl)
   (hs:∀x,T8 iter X.env x=pure x:=by intro _;rfl) (hff:X.fn y=true\/X.env.scope.names.lookup y=some .local:=by first|exact .inl rfl|exact .inr rfl|assumption) :
   PS X (.Assign [.Name y py] (.ListComp ji [⟨tg,iter,jk,0⟩] scope pos) spos) (tAsg (tComp cs wi g tt te) (O8 i)):=by
 intro jb s σ H DD I h;rw[exec_Assign_Name_used _ _ _ _ hsw];refine A0 (c0 (A0 (A0 (J1 (Q:=λ_ s'=>SP X jb DD .next s') (Ho S hc hi hs I h λfp it tn J s2 H2 s₃ T stat I2 f2 q Ic st1 fr1=>?_) (λ_ s' hq=>A8 (A8 hq)) λ_ _ e=>e))));obtain⟨W,⟨m0,w0⟩,turn⟩:=q;obtain⟨hg,hf,he⟩:=hb fp (s2.heap.objs.size+1) s2 H2;exact Kp _ (Hn (Y:=G0 X scope cl N fp (s2.heap.objs.size+1) s2 H2) T hc stat hg hf he (λs4 σ3 H3 I4 qn=>Rr hN hiy hy hff I2 f2 I4 qn) turn) m0 ⟨0,_,_,Ic,st1,fr1,w0⟩
end L2
namespace Pu
open PySem PySem.Spec L2
def SwOk (X:Cx)(e:Expr)(t:TE):Prop:=∀(i:Nat) (y:Str) (py spos:Pos),X.N.Nodup->X.N[i]?=some y->Loc X.env.scope y->c6 e (some (.Name y py)) spos.line X.env=pure true->(X.fn y=true\/X.env.scope.names.lookup y=some .local)->PS X (.Assign [.Name y py] e spos) (tAsg t (O8 i))
def QNC {ι:Type}(T:PotK)(K:A9)(F:ι->Cx)(e:Expr)(pn:pA):Prop:=∃t,(∀z,PE (F z) e t)/\(∀z,SwOk (F z) e t)/\NOk K T t pn
section
variable {T:PotK}{np:Bool}{ι:Type}{K:A9}{F:ι->Cx}{e:Expr}{pl:pA}{pg:pG}{pos:Pos}
theorem Ff {scope:K9}{cl:ι->List (Str×A1)}{N:List Str}{cs:List (Option Nat)}{ji tg iter:Expr}{jk:List Expr}{pi:pA}{ptt:pT}{pte:pE}(S:∀z,o8 (F z) scope (cl z) N cs)(hc:∀z,(F z).calm=true)(hi:QI T K F tg iter pi)
   (hg:QG K (λy:ι×List A1×A1×A5×Hp=>G0 (F y.1) scope (cl y.1) N y.2.1 y.2.2.1 y.2.2.2.1 y.2.2.2.2) tg pg) (ht:QIf T K (λy:ι×List A1×A1×A5×Hp=>G0 (F y.1) scope (cl y.1) N y.2.1 y.2.2.1 y.2.2.2.1 y.2.2.2.2) jk ptt)
   (he:QE T K (λy:ι×List A1×A1×A5×Hp=>G0 (F y.1) scope (cl y.1) N y.2.1 y.2.2.1 y.2.2.2.1 y.2.2.2.2) ji pte)
   (hs:∀z x,T8 iter (F z).env x=pure x:=by intro _ _;rfl):QNC T K F (.ListComp ji [⟨tg,iter,jk,0⟩] scope pos) (P0 cs pi pg ptt pte):=by
 obtain⟨wi,i1,i2⟩:=hi;obtain⟨g,hg0,hg⟩:=hg;obtain⟨tt,ht0,ht⟩:=ht;obtain⟨te,he0,he⟩:=he;refine⟨_,λz=>Ks (S z) (hc z) (i1 z) (λfp C s H=>⟨hg0 (z,fp,C,s,H),ht0 (z,fp,C,s,H),he0 (z,fp,C,s,H)⟩) (hs z),λz i y py spos hN hi hy hsw hf=>Rs hN hi hy (S z) (hc z) (i1 z) (λfp C s H=>⟨hg0 (z,fp,C,s,H),ht0 (z,fp,C,s,H),he0 (z,fp,C,s,H)⟩) hsw (hs z) hf,λC G σ H env n R Q hK hT S hp k=>?_⟩;refine i2 C G σ H env n _ _ hK hT S hp λxs jc n1 J H1 p1 S1 f1 hJ=>?_;intro D hD;have hDM:=S1.fresh hD;refine KN (G:=G) hg ht he hJ p1.1 hD (hT▸hK▸HE S1 cs) p1.2 λys n2 us H' rr hpots hk eD ry=>?_
 -- the heap without D
 have nD:∀b o,H1 b=some o->b≠D:=λb o e z=>by rw[z,hD] at e;cases e
 have hD0:C.H0 D=none:=by
  cases z:C.H0 D with
  |none=>rfl
  | some o =>
   by_cases hp:D∈C.pots0
   ·exact absurd (S1.sup D (S1.p0.1 D hp)) hDM
   ·have:=S1.frame D o hp z;rw[hD] at this;cases this
 have hk2:∀b o,b∉G.pots->H1 b=some o->cutH H' D b=some o:=λb o hb e=>by rw[W4 (nD b o e)];exact hk b o hb e
 have nc:∀b,b∉D::G.M->b≠D:=λb hb z=>hb (by rw[z];exact C7);have np:∀p∈G.pots,p≠D:=λp hp z=>hDM (z▸(S1.pots p hp).1)
 have Sb:SR C G σ (cutH H' D) jc n2:=S1.call hk2 λp hp=>by
  subst hT;have h2:=C.T.keep (hpots p hp) (H':=cutH H' D) (W4 (np p hp)) λb o hb e=>by rw[W4 (nc b hb)];exact e
  exact C.T.more h2 λa ha=>.inl (C3 _ ha)
 have:=k ys jc n2 D us (cutH H' D) rr Sb (f1.trans λb o hb e=>hk2 b o (λz=>hb (S1.pots b z).1) e) (by unfold cutH;rw[jr rfl]) ?_
 ·rw[HF eD] at this;exact this
 ·exact Reps.mono (G:=⟨D::G.M,G.pots⟩) (λb o hb e=>by rw[W4 (nc b hb)];exact e) (λa ha=>.inl (C3 _ ha)) (λ_ _ e=>e) _ _ ry
theorem Rt (i:Nat){y:Str}{py spos:Pos}(h:QNC T K F e pl)(hN:∀z,(F z).N.Nodup)(hi:∀z,(F z).N[i]?=some y)(hy:∀z,Loc (F z).env.scope y)(hsw:∀z,c6 e (some (.Name y py)) spos.line (F z).env=pure true:=by intro _;rfl)(hf:∀z,(F z).fn y=true\/(F z).env.scope.names.lookup y=some .local:=by intro _;first|exact .inl rfl|exact .inr rfl):QS T np K F (.Assign [.Name y py] e spos) (qOwn i pl):=by
 obtain⟨t,a1,a3,a2⟩:=h;refine⟨_,λz=>a3 z i y py spos (hN z) (hi z) (hy z) (hsw z) (hf z),λC G σ H env n PD D hK hT hn S hp L=>?_⟩;refine a2 C G σ H env n _ _ hK hT S hp λxs jc n1 a vs Hb q1 S1 f1 hn1 r1=>?_;exact L.nx _ _ _ _ _ q1 (S1.own i hn1 (hK▸r1)) ((Ext.fr f1).trans (EZ hn1))
theorem Ia (i:Nat){y:Str}{py spos:Pos}(h:QNC T K F e pl)(hN:∀z,(F z).N.Nodup)(hi:∀z,(F z).N[i]?=some y)(hy:∀z,Loc (F z).env.scope y)(hsw:∀z,c6 e (some (.Name y py)) spos.line (F z).env=pure true:=by intro _;rfl)(hf:∀z,(F z).fn y=true\/(F z).env.scope.names.lookup y=some .local:=by intro _;first|exact .inl rfl|exact .inr rfl):QS T np K F (.Assign [.Name y py] e spos) (qSet i (qL pl)):=by
 obtain⟨t,a1,a3,a2⟩:=h
 have he:EOk K T t (qL pl):=λC G σ H env n R Q hK hT S hp k=>by
  refine a2 C G σ H env n _ _ hK hT S hp λxs jc n1 a vs Hb p1 S1 f1 hn r1=>?_;exact k _ _ _ _ _ p1 (S1.same (Same.lay1 hn)) (Dl (S1.fresh hn) hn r1) (f1.trans (Fr.of (Same.lay1 hn)))
 refine⟨_,λz=>a3 z i y py spos (hN z) (hi z) (hy z) (hsw z) (hf z),λC G σ H env n PD D hK hT hn S hp L=>?_⟩;refine he C G σ H env n _ _ hK hT S hp λx jc n1 v H1 q1 S1 r1 f1=>?_;exact L.nx _ _ _ _ _ q1 (S1.set i (hK▸r1)) (Ext.fr f1)
end
end Pu
end
section
namespace Pu
open PySem PySem.Spec L2
def shK:Key->Prop
 |.inl i=>i.natAbs<10 ^ 60
 |.inr x=>∀c∈x.cps.toList,c<16 ^ 8
def DB:Key->Nat
 |.inl _=>61
 |.inr x=>10*x.length+2
mutual
def shw:PV->Prop
 |.non=>True
 |.bl _=>True
 |.int i=>i.natAbs<10 ^ 60
 |.str x=>∀c∈x.cps.toList,c<16 ^ 8
 |.tup xs=>shws xs
 |.lst xs=>shws xs
 |.dct ks xs=>(∀k∈ks,shK k)/\shws xs
 |_=>False
def shws:List PV->Prop
 |[]=>True
 |x::xs=>shw x/\shws xs
end
mutual
def cost:PV->Nat
 |.non=>4
 |.bl _=>5
 |.int _=>61
 |.str x=>10*x.length+2
 |.tup xs=>j7 xs+3
 |.lst xs=>j7 xs+3
 |.dct ks xs=>(ks.map λk=>DB k+4).sum+j7 xs+3
 |_=>0
def j7:List PV->Nat
 |[]=>0
 |x::xs=>cost x+2+j7 xs
end
mutual
def dep:PV->Nat
 |.tup xs=>deps xs+1
 |.lst xs=>deps xs+1
 |.dct _ xs=>deps xs+1
 |_=>0
def deps:List PV->Nat
 |[]=>0
 |x::xs=>max (dep x) (deps xs)
end
theorem Lj {i:Int}(h:i.natAbs<10 ^ 60):(B0 (toString i)).length<=61:=by
 have e:=int_text_length_le10 (k:=60) (by decide) h;rw[ofString_length];omega
theorem Lk {i:Int}(h:i.natAbs<10 ^ 60):i.natAbs.log2<1920:=by
 by_cases h0:i.natAbs=0
 ·simp_all
 ·exact(Nat.log2_lt h0).mpr (Bp h (by grind))
theorem key_ok {k:Key}(h:shK k):(keyD k).showable=true/\(keyD k).depth=0/\(keyD k).shown.length<=DB k:=by
 cases k with
 |inl i=>exact⟨by simpa[keyD,i4] using Lk h,by simp[keyD,o5],by simpa[keyD,o6,DB] using Lj h⟩
 |inr x=>exact⟨by simp[keyD,i4],by simp[keyD,o5],by simpa[keyD,o6,DB] using StrLaws.reprText_len x h⟩
theorem kv_ok:∀(ks:List Key) (ds:List PyData),(∀k∈ks,shK k)->By ds=true->Ex ((ks.map keyD).zip ds)=true/\Ey ((ks.map keyD).zip ds)<=CS ds/\((Bz ((ks.map keyD).zip ds)).map (·.length)).sum+2*(Bz ((ks.map keyD).zip ds)).length<=(ks.map λk=>DB k+4).sum+((AA ds).map (·.length)).sum+2*ds.length
 |[],ds,_,_=>by simp[Ex,Ey,Bz]
 |k::ks,[],_,_=>by simp[Ex,Ey,Bz]
 | k :: ks, d :: ds, hk, hd => by
  have hd':d.showable=true/\By ds=true:=by simpa[By] using hd
  obtain⟨h1,h2,h3⟩:=kv_ok ks ds (λx hx=>hk x (C3 _ hx)) hd'.2;obtain⟨g1,g2,g3⟩:=key_ok (hk k C7);refine⟨?_,?_,?_⟩
  ·simp[Ex,g1,hd'.1,h1]
  ·simp only[K7,CC,Ey,CS,g2];omega
  ·simp only[K7,CC,Bz,AA,List.sum_cons,E8];rw[strLen_append,strLen_append];have:(B0 ": ").length=2:=rfl;omega
theorem Ru (ps:List Str):(dictText ps).length<=(ps.map (·.length)).sum+2*ps.length+3:=by
 have h:(Str.join ", " ps).length<=(ps.map (·.length)).sum+ps.length*2:=StrLaws.join_length_le ", " ps
 have e:(dictText ps).length=1+(Str.join ", " ps).length+1:=by
  unfold dictText;rw[strLen_append,strLen_append];rfl
 omega
mutual
theorem Ll:∀(x:PV),shw x->∃d,dat x=some d/\d.showable=true/\d.depth<=dep x/\d.shown.length<=cost x
 |.non,_=>⟨_,rfl,by simp[i4],by simp[o5],by simp only[o6,cost];decide⟩
 |.bl b,_=>⟨_,rfl,by simp[i4],by simp[o5],by simp only[o6,cost];cases b <;> decide⟩
 |.int i,h=>⟨_,rfl,by simpa[i4] using Lk h,by simp[o5],by simpa[o6,cost] using Lj h⟩
 |.str x,h=>⟨_,rfl,by simp[i4],by simp[o5],by simpa[o6,cost] using StrLaws.reprText_len x h⟩
 | .tup xs, h => by
  obtain⟨ds,e,h1,h2,h3,h4⟩:=Fg xs h;refine⟨.tuple ds,by rw[dat,e],by simpa[i4] using h1,by simp only[o5,dep];omega,?_⟩;have:=tupleText_len_le (AA ds);have e2:=PyData.shownAll_length ds;simp only[o6,cost];omega
 | .lst xs, h => by
  obtain⟨ds,e,h1,h2,h3,h4⟩:=Fg xs h;refine⟨.list ds,by rw[dat,e],by simpa[i4] using h1,by simp only[o5,dep];omega,?_⟩;have:=listText_len_le (AA ds);have e2:=PyData.shownAll_length ds;simp only[o6,cost];omega
 | .dct ks xs, h => by
  have h':(∀k∈ks,shK k)/\shws xs:=h;obtain⟨ds,e,h1,h2,h3,h4⟩:=Fg xs h'.2;obtain⟨g1,g2,g3⟩:=kv_ok ks ds h'.1 h1;refine⟨.dict ((ks.map keyD).zip ds),by rw[dat,e],by simpa[i4] using g1,by simp only[o5,dep];omega,?_⟩;have:=Ru (Bz ((ks.map keyD).zip ds));simp only[o6,cost];omega
 |.ty _,h=>h.elim
 |.pot _,h=>h.elim
 |.scr _,h=>h.elim
 |.fdt _ _,h=>h.elim
theorem Fg:∀(xs:List PV),shws xs->∃ds,dats xs=some ds/\By ds=true/\CS ds<=deps xs/\ds.length=xs.length/\((AA ds).map (·.length)).sum+2*ds.length<=j7 xs
 |[],_=>⟨[],rfl,by simp[By],by simp[CS],rfl,by simp[AA,j7]⟩
 | x :: xs, h => by
  have h':shw x/\shws xs:=h;obtain⟨d,e,a1,a2,a3⟩:=Ll x h'.1;obtain⟨ds,e2,b1,b2,b3,b4⟩:=Fg xs h'.2;refine⟨d::ds,by rw[dats,e,e2],by simp[By,a1,b1],by simp only[CS,deps];omega,by simp[b3],?_⟩;simp only[AA,j7,K7,List.sum_cons,E8];omega
end
def Ib (x:PV):Str:=match dat x with|some d=>d.shown|none=>B0 ""
theorem BV {x:PV}{R:PV->Prop}(h:shw x)(h1:dep x<=40)(h2:cost x<=10000000)(q:R (.str (Ib x))):j6 x R:=by
 obtain⟨d,e,a1,a2,a3⟩:=Ll x h;unfold j6 Ib at *;rw[e] at q ⊢;exact⟨a1,by omega,by unfold B9;omega,q⟩
theorem Lm:∀(xs:List PV),(∀x∈xs,shw x)->shws xs
 |[],_=>trivial
 |x::xs,h=>⟨h x C7,Lm xs λy hy=>h y (C3 _ hy)⟩
theorem Ln (k:Nat):∀(xs:List PV),(∀x∈xs,dep x<=k)->deps xs<=k
 |[],_=>K3 _
 | x :: xs, h => by
  have:=h x C7;have:=Ln k xs λy hy=>h y (C3 _ hy);simp only[deps];omega
theorem Lo (k:Nat):∀(xs:List PV),(∀x∈xs,cost x<=k)->j7 xs<=(k+2)*xs.length
 |[],_=>K3 _
 | x :: xs, h => by
  have h1:=h x C7;have h2:=Lo k xs λy hy=>h y (C3 _ hy);simp only[j7,E8,Nat.mul_succ];omega
end Pu
end
section
namespace L2
open PySem PySem.Spec PyProof.Rows
def met (val:Nat->Key):Nat->List Key
 |0=>[]
 |i+1=>if(met val i).any (λy=>decide (y=val i)) then met val i else met val i++[val i]
theorem Lp (val:Nat->Key):∀i,(met val i).length<=i
 |0=>B8 _
 | i + 1 => by
  have:=Lp val i;unfold met
  split
  ·omega
  ·rw[E6,e7];omega
theorem Rv (val:Nat->Key)(i:Nat)(k:Key):(met val (i+1)).any (λy=>decide (y=k))=((met val i).any (λy=>decide (y=k))||decide (k=val i)):=by
 show(if(met val i).any (λy=>decide (y=val i)) then met val i else met val i++[val i]).any (λy=>decide (y=k))=_
 by_cases hk:k=val i
 ·subst hk;rw[jp rfl,Bool.or_true]
  split
  ·assumption
  ·rw[List.any_append];simp
 ·rw[jq hk,Ax]
  split
  ·rfl
  ·rw[List.any_append]
   have:([val i].any (λy=>decide (y=k)))=false:=by
    rw[List.any_cons,List.any_nil,Ax];exact jq (Ne.symm hk)
   rw[this,Ax]
theorem Rw (val:Nat->Key)(i:Nat):(met val (i+1)).length=if(met val i).any (λy=>decide (y=val i)) then(met val i).length else(met val i).length+1:=by
 show(if(met val i).any (λy=>decide (y=val i)) then met val i else met val i++[val i]).length=_
 split
 ·rfl
 ·rw[E6,e7]
section
variable {prog:C8}{w:C4}{A:D5}{R:Result->A5->Prop}{I:A1}{fp wr:List A1}{G:Array GenState->Array GenState->Prop}{n:Nat}{P:Nat->A3->Prop}{St:Nat->A5->Prop}
theorem Rx (Wk:WalksS prog w A.in1 I fp wr G n P St)(S:A1)(nf:S∉fp)(val:Nat->Key)(hv:∀i v,P i v->(G5 prog w).is (val i) v=true/\v.scannable=true)(room:n+1<scanBound) :
   ∀ (k i : Nat) (s : A5), n - i = k -> i <= n -> St i s -> s.heap.SetOf (G5 prog w) S (fun q => (met val i).any (fun y => decide (y = q))) (met val i).length ->
     (∀s',Moved (S::wr) G s s'->s'.heap.SetOf (G5 prog w) S (λq=>(met val n).any (λy=>decide (y=q))) (met val n).length->R (.ok (.ret .none)) s')->
     N7 (A7 prog w) A (.builtin "set.update.loop" ⟨[.ref S,.ref I],[]⟩) R s:=by
 have nw:S∉wr:=λh=>nf (Wk.sub _ h);have sub:∀b∈wr,b∈S::wr:=λb hb=>C3 _ hb;intro k
 induction k with
 | zero =>
  intro i s hk hi st so fin;have ei:i=n:=by omega
  subst ei;refine b9 Ew ?_;rw[n6 Az _];refine A0 (m:=pyNext (.ref I)) (Wk.done s _ _ st λs' mv=>?_);refine A8 (fin s' (mv.mono sub) ?_);obtain⟨o,es,ep,t,ho,more⟩:=so;exact⟨o,es,ep,t,mv.heap S _ nw ho,more⟩
 | succ k ih =>
  intro i s hk hi st so fin;have lt:i<n:=by omega
  refine b9 Ew ?_;rw[n6 Az _];refine A0 (m:=pyNext (.ref I)) (Wk.item i s _ _ lt st λv s' pv' st' mv=>?_);obtain⟨kv,sc⟩:=hv i v pv'
  have so':s'.heap.SetOf (G5 prog w) S (λq=>(met val i).any (λy=>decide (y=q))) (met val i).length:=by
   obtain⟨o,es,ep,t,ho,more⟩:=so;exact⟨o,es,ep,t,mv.heap S _ nw ho,more⟩
  refine A0 (m:=T9 [v] (setAdd S v)) (L6 ?_);unfold setAdd;refine L6 (A0 ((G5 prog w).pyHash (k:=val i) kv ?_));have rm:(met val i).length+1<scanBound:=by have:=Lp val i;omega
  refine wpAny_setAddHashed_of (knd:=G5 prog w) (s:={ s' with toks:=s'.toks+1 }) kv sc so' rm λh' sb so2=>?_
  have so3:h'.SetOf (G5 prog w) S (λq=>(met val (i+1)).any (λy=>decide (y=q))) (met val (i+1)).length:=by
   have e1:(λq=>(met val i).any (λy=>decide (y=q))||decide (q=val i))=λq=>(met val (i+1)).any (λy=>decide (y=q)):=funext λq=>(Rv val i q).symm;rw[Rw,<- e1];exact so2
  refine A8 ⟨k5 Az _,ih (i+1) _ (by omega) lt (Wk.frame _ s' _ _ st' (Br _) λb hb o e=>?_) so3 λs2 mv2 so4=>?_⟩
  ·rw[sb.2 b (λz:b=S=>nf (by rw[<- z];exact hb))];exact e
  ·refine fin s2 (Moved.trans Wk.gtrans ((mv.mono sub).then_heap (Br _) λb o hb e=>?_) mv2) so4;rw[sb.2 b (λz:b=S=>hb (by rw[z];exact C7))];exact e
end
section
variable {prog:C8}{w:C4}{A:D5}{E:A3->A5->Prop}{s:A5}
theorem Ry:isSubtype (.type "tuple") (.type "set")=pure false:=by rw[v5] <;> kernel_rfl
theorem Rz:isSubtype (.type "tuple") (.type "frozenset")=pure false:=by rw[v5] <;> kernel_rfl
theorem RA:isSubtype (.type "list") (.type "set")=pure false:=by rw[v5] <;> kernel_rfl
theorem RB:isSubtype (.type "list") (.type "frozenset")=pure false:=by rw[v5] <;> kernel_rfl
theorem RC (x:A3){Q₁:A3->A5->Prop}
   (h:∀led:Bool,led=(!(w.params.followText "set-order"))->Q₁ (.ref s.heap.objs.size) { s with heap:=s.heap.push { cls:=.type "set",dict:=none,data:=.set #[] 0 (.fresh 0 0 led) } }) :
   N7 (A7 prog w) A (.call (.builtin "set.__new__") ⟨[.type "set",x],[]⟩) (wants Q₁ E) s:=by
 refine Cr (show A6 (A7 prog w) A.in1 (checkBuiltinCall "set.__new__" ⟨[.type "set",x],[]⟩>>=λ_=>again (.builtin "set.__new__" ⟨[.type "set",x],[]⟩)) _ _ s from ?_);refine A0 (K6 (F.newCall_set_1 x) (A8 ⟨k5 F.plain_set_new _,b9 F.entry_set_new ?_⟩));rw[n6 F.plain_set_new _];unfold L8.«set.__new__» Builtin.Frozenset.newClass;have ss:=sub_set_self;obtain⟨hp,gs,dr,tk,sy⟩:=s;dsimp only
 wp_walk
 refine D_ (A8 ?_);dsimp only;unfold newObj;refine A0 (wpAny_alloc (A8 (A8 (h _ ?_))))
 first|rfl|simp
abbrev soN (led:Bool):Obj:={ cls:=.type "set",dict:=none,data:=.set #[] 0 (.fresh 0 0 led) }
theorem Lq {a:A1}{jf:Array A3}{Z:B6->Prop}{Q:A3->A5->Prop}(hd:A.handled=none)(ht:s.heap.IsList a jf\/s.heap.IsTuple a jf)
   (lp:∀(I:A1) (St:Nat->A5->Prop) (fp:List A1) (G:Array GenState->Array GenState->Prop) (s1:A5) (R:Result->A5->Prop) (led:Bool),led=(!(w.params.followText "set-order"))->s.heap.objs.size<I->
     WalksS prog w A.in1.in1.in1 I fp [I] G jf.size (λi v=>jf[i]?=some v) St->s.heap.objs.size∉fp->St 0 s1->s1.heap.get? s.heap.objs.size=some (soN led)->(∀b o,s.heap.get? b=some o->s1.heap.get? b=some o)->
     (∀s',Moved [s.heap.objs.size,I] G s1 s'->Z s'.heap->R (.ok (.ret .none)) s')->N7 (A7 prog w) A.in1.in1 (.builtin "set.update.loop" ⟨[.ref s.heap.objs.size,.ref I],[]⟩) R s1)
   (fin:∀(h':B6) (tk:Nat),Z h'->(∀b o,b<s.heap.objs.size->s.heap.get? b=some o->h'.get? b=some o)->Q (.ref s.heap.objs.size) { s with heap:=h',toks:=tk }):A6 (A7 prog w) A (call (.type "set") [.ref a]) Q E s:=by
 obtain⟨c,tl,mr⟩:=PySem.F.called_set.mro;have md:=PySem.F.called_set.made;have sb:=PySem.F.called_set.sub;refine wpAny_call (Cr (show A6 (A7 prog w) _ (callAny (.type "set") _) _ _ s from ?_));refine A8 ⟨Code.quiet_builtin _ (by decide +kernel),b9 PySem.F.entry_type_call ?_⟩;rw[Around.under_plain (weight_type_call_type "set" [.ref a] []) rfl];have x1:=PySem.F.called_set.notType;have x2:=PySem.F.called_set.canCreate;have x3:=PySem.F.typeCall_set_1 (.ref a)
 repeat (any_goals (first|wp_step|assumption))
 refine Ao (RC (.ref a) (E:=E) (Q₁:=λob s₁=>∃led:Bool,led=(!(w.params.followText "set-order"))/\ob=.ref s.heap.objs.size/\s₁={ s with heap:=s.heap.push (soN led) }) λled hl=>⟨led,hl,rfl,rfl⟩) λr s₁ hr=>?_;cases r with
 |error e=>exact hr
 | ok fl =>
  cases fl with
  | ret ob =>
   obtain⟨led,hled,rfl,rfl⟩:=hr;have g0:(s.heap.push (soN led)).get? s.heap.objs.size=some (soN led):=F2 _ rfl;have ty:Shared.TypeIs { s with heap:=s.heap.push (soN led) } (.ref s.heap.objs.size) "set":=⟨_,g0,rfl⟩;have y1:=PySem.F.called_set.init.lookup;have y2:=PySem.F.called_set.init.bind (.ref s.heap.objs.size)
   repeat (any_goals (first|wp_step|assumption))
   refine Ao (codeAny_call_builtin (R:=wants (λr s₂=>r=.none/\∃h' tk,s₂={ s with heap:=h',toks:=tk }/\Z h'/\
       (∀b o,b<s.heap.objs.size->s.heap.get? b=some o->h'.get? b=some o)) E) PySem.F.called_set.init.plain PySem.F.entry_set_init (PySem.check_set_init_1 ty ?_)) λr₂ s₂ hr₂=>?_
   ·clear fin;have h3:A.in1.in1.in1.handled=none:=by simp[hd]
    unfold L8.«set.__init__» noKeywords Builtin.Frozenset.updateFrom;generalize hP:pyIter=PI;rcases ht with⟨⟨oc,od,odt,os⟩,ho,hc,nl,hdl⟩|⟨⟨oc,od,odt,os⟩,ho,hc,nl,hdl⟩ <;>
    ·cases hc;cases hdl;have ho':=C0 (soN led) ho;have z1:=RA;have z2:=RB;have z3:(K1 "list" == K1 "dict")=false:=by decide
     have z4:=Ry;have z5:=Rz;have z6:(K1 "tuple" == K1 "dict")=false:=by decide
     wp_walk
     subst hP;have la:a<s.heap.objs.size:=D1 ho;have n1:a≠(s.heap.push (soN led)).objs.size:=by rw[d7];exact F4 (Bn la)
     have lI:s.heap.objs.size<(s.heap.push (soN led)).objs.size:=by rw[d7];exact Em _
     have n2:s.heap.objs.size∉[(s.heap.push (soN led)).objs.size,a]:=λz=>by
      rcases C5.mp z with z|z
      ·exact F4 lI z
      ·exact Aw la (K2.mp z)
     have en:∀{s1 s':A5} {G},Moved [s.heap.objs.size,(s.heap.push (soN led)).objs.size] G s1 s'->Z s'.heap->s1.gens=s.gens->s1.drawn=s.drawn->s1.os=s.os->(∀b o,s.heap.get? b=some o->s1.heap.get? b=some o)->(∀x y,G x y->y=x)->∃h' tk,s'={ s with heap:=h',toks:=tk }/\Z h'/\(∀b o,b<s.heap.objs.size->s.heap.get? b=some o->h'.get? b=some o):=by
      intro s1 s' G mv zz e1 e2 e3 kp hG;obtain⟨h',g',d',tk',os'⟩:=s';obtain rfl:g'=s.gens:=(hG _ _ mv.gens).trans e1;obtain rfl:d'=s.drawn:=mv.drawn.trans e2;obtain rfl:os'=s.os:=mv.os.trans e3;refine⟨h',tk',rfl,zz,λb o hb e=>mv.heap b o (λz=>?_) (kp _ _ e)⟩;rcases C5.mp z with z|z
      ·exact F4 hb z
      ·exact F4 (Bp hb lI) (K2.mp z)
     first
       | (refine Cq ⟨_,ho',rfl,nl,rfl⟩ (A0 (wpAny_runValue ?_))
          refine lp _ _ _ _ _ _ led hled lI ((Walks.list h3 _ a n1 jf).toS) n2 ⟨⟨_,F2 _ rfl,rfl,rfl⟩,⟨_,C0 _ ho',rfl,nl,rfl⟩⟩ (C0 _ g0) (λb o e=>C0 _ (C0 _ e)) λs' mv zz=>A8 (A8 ⟨rfl,?_⟩))
       | (refine Bc ⟨_,ho',rfl,nl,rfl⟩ (A0 (wpAny_runValue ?_))
          refine lp _ _ _ _ _ _ led hled lI ((Walks.tuple h3 _ a n1 jf).toS) n2 ⟨⟨_,F2 _ rfl,rfl,rfl⟩,⟨_,C0 _ ho',rfl,nl,rfl⟩⟩ (C0 _ g0) (λb o e=>C0 _ (C0 _ e)) λs' mv zz=>A8 (A8 ⟨rfl,?_⟩))
     exact en mv zz rfl rfl rfl (λb o e=>C0 _ (C0 _ e)) λ_ _ e=>e
   ·cases r₂ with
    |error e=>exact hr₂
    | ok fl₂ =>
     cases fl₂ with
     | ret r =>
      obtain⟨rfl,h',tk,rfl,so',kp⟩:=hr₂
      repeat (any_goals (first|wp_step|assumption))
      exact fin _ _ so' kp
     |_=>exact hr₂.elim
  |_=>exact hr.elim
theorem set_of {h:B6}{S:A1}{val:Nat->Key}{led:Bool}(g1:h.get? S=some (soN led)):h.SetOf (G5 prog w) S (λq=>(met val 0).any (λy=>decide (y=q))) (met val 0).length:=by
 refine⟨soN led,#[],0,.fresh 0 0 led,g1,⟨rfl,rfl,rfl⟩,rfl,λe he=>(nomatch he),λk=>⟨λz=>(nomatch z),λ⟨e,he,_⟩=>(nomatch he)⟩,by decide,?_,rfl⟩;cases led <;> decide
theorem RD {a:A1}{jf:Array A3}{val:Nat->Key}{Q:A3->A5->Prop}(hd:A.handled=none)(ht:s.heap.IsList a jf\/s.heap.IsTuple a jf)(hv:∀(i:Nat) (v:A3),jf[i]?=some v->(G5 prog w).is (val i) v=true/\v.scannable=true)(room:jf.size+1<scanBound)
   (fin:∀(h':B6) (tk:Nat),h'.SetOf (G5 prog w) s.heap.objs.size (λq=>(met val jf.size).any (λy=>decide (y=q))) (met val jf.size).length->
     (∀b o,b<s.heap.objs.size->s.heap.get? b=some o->h'.get? b=some o)->Q (.ref s.heap.objs.size) { s with heap:=h',toks:=tk }):A6 (A7 prog w) A (call (.type "set") [.ref a]) Q E s:=
 Lq hd ht (λI St fp G s1 R led _ _ Wk nf h0 g1 _ k=>Rx Wk _ nf val hv room (jf.size-0) 0 s1 rfl (K3 _) h0 (set_of g1) k) fin
end
end L2
end
section
namespace L2
open PySem PySem.Spec PyProof.Rows
def L5 (ys:List Str)(i:Nat):Key:=D8 (ys.getD i (B0 ""))
def SetX (X:Cx)(p:A1)(S:Key->Bool)(n:Nat):HO:=.ext λh=>h.SetOf (G5 X.prog X.w) p S n
theorem RE {ys:List Str}{us:List A3}(r:Vals (ys.map V.str) us){i:Nat}{u:A3}(h:us[i]?=some u):∃t,u=.str (ys.getD i (B0 "")) t:=by
 obtain⟨hi,e⟩:=F6.mp h;obtain⟨x,ex,rx⟩:=r.getE hi;rw[E7] at ex;cases ey:ys[i]? with
 |none=>rw[ey] at ex;cases ex
 | some y =>
  rw[ey] at ex;cases ex;obtain⟨t,et⟩:=rx;refine⟨t,?_⟩;rw[<- e,et,List.getD,ey]
  rfl
section
variable {X:Cx}
theorem RF:N1 X (.builtin "len") (λvs H Q=>∃p S n,vs=[.ref p]/\H p=some (SetX X p S n)/\Q (.int n) H):=by
 intro jb s σ H vs us Q I rv h;obtain⟨p,S,n,rfl,e,q⟩:=h;obtain⟨u,rfl,ru⟩:=rv.one;obtain rfl:u=.ref p:=ru;obtain⟨so,_,_⟩:=I.hok p _ e;obtain⟨o,es,ep,t,ho,hex,hd,_,_,hb,hf,hn⟩:=so;refine call_len_set ho hex hd hf (by unfold scanBound at hb;omega) ⟨.int n,H,I.tok _,⟨_,by rw[hn]⟩,q⟩
end
end L2
end
section
namespace Pu
open PySem PySem.Spec L2
theorem Lr (x:Str)(l u:Option Int):W0 x l u=EF x l u:=rfl
theorem RG (x:Str){p:Nat}(h:p<=x.length):(W0 x none (some (p:Int))).cps.toList=x.cps.toList.take p:=by
 rw[Lr]
 have e:EF x none (some (p:Int))=EF x (some ((0:Nat):Int)) (some (p:Int)):=by
  unfold EF;rw[StrLaws.sliceIdx_none_lo];rfl
 rw[e,StrLaws.sliceText_nat x (K3 _) h];simp
def Ltr (c:Nat):Prop:=97<=c/\c<=122
def b7 (z:Str):Prop:=1<=z.cps.toList.length/\z.cps.toList.length<=8/\∀c∈z.cps.toList,Ltr c
abbrev LETS:Str:=B0 "abcdefghijklmnopqrstuvwxyz"
theorem RH:LETS.cps.toList=(D3 26).map (97 + ·):=by decide +kernel
theorem Ls:LETS.length=26:=by decide +kernel
theorem Lu {d:Int}(d0:0<=d)(d1:d<26):atI LETS.cps.toList d=some (97+d.toNat):=by
 obtain⟨x,e1,e2⟩:=EK (xs:=LETS.cps.toList) d0 (by rw[<- AF,Ls];exact d1);rw[e2,<- e1,RH,E7,List.getElem?_range (by omega)]
 rfl
theorem RI {α:Type}{zs:List α}(h:zs.Nodup){z:α}(hz:z∉zs)(j:Nat):(zs.set j z).Nodup:=by
 refine e6.mpr λa b ha hb hab=>?_;rw[M1] at ha hb;rw[List.getElem_set,List.getElem_set]
 split
 ·split
  ·omega
  ·intro e;exact hz (e▸Bi hb)
 ·split
  ·intro e;exact hz (e▸Bi ha)
  ·exact e6.mp h a b ha hb hab
end Pu
end
section
namespace L2
open PySem PySem.Spec PyProof.Rows
def ItB (b:Bool)(h:B6)(it l:A1)(i:Nat):Prop:=match b with|true=>h.IsListIter it l i|false=>h.IsTupleIter it l i
def SeB (b:Bool)(h:B6)(l:A1)(items:Array A3):Prop:=match b with|true=>h.IsList l items|false=>h.IsTuple l items
theorem ItB.at {b:Bool}{h h':B6}{it l:A1}{i:Nat}(x:ItB b h it l i)(e:∀o,h.get? it=some o->h'.get? it=some o):ItB b h' it l i:=by
 cases b with
 |true=>exact(show h.IsListIter it l i from x).at e
 |false=>exact(show h.IsTupleIter it l i from x).at e
theorem SeB.at (x:SeB b h l items)(e:∀o,h.get? l=some o->h'.get? l=some o):SeB b h' l items:=by
 cases b with
 |true=>exact(show h.IsList l items from x).at e
 |false=>exact(show h.IsTuple l items from x).at e
theorem ItB.obj (x:ItB b h it l i):∃o,h.get? it=some o/\(o.cls=.type "list_iterator"\/o.cls=.type "tuple_iterator")/\∀v,o.data≠.cell v:=by
 cases b with
 |true=>obtain⟨o,e,c,d⟩:=(show h.IsListIter it l i from x);exact⟨o,e,.inl c,λv z=>by rw[d] at z;cases z⟩
 |false=>obtain⟨o,e,c,d⟩:=(show h.IsTupleIter it l i from x);exact⟨o,e,.inr c,λv z=>by rw[d] at z;cases z⟩
theorem SeB.obj (x:SeB b h l items):∃o,h.get? l=some o/\(o.cls=.type "list"\/o.cls=.type "tuple"):=by
 cases b with
 |true=>obtain⟨o,e,c,d⟩:=(show h.IsList l items from x);exact⟨o,e,.inl c⟩
 |false=>obtain⟨o,e,c,d⟩:=(show h.IsTuple l items from x);exact⟨o,e,.inr c⟩
theorem ItB.ne (x:ItB b h it l i)(y:SeB b' h a items):a≠it:=λz=>by
 obtain⟨o,e,c,_⟩:=x.obj;obtain⟨o',e',c'⟩:=y.obj;rw[z,e] at e';cases e';rcases c with c|c <;> rcases c' with c'|c' <;> (rw[c] at c';exact absurd c' (by decide))
section
variable {prog:C8}{w:C4}{A:D5}{E:A3->A5->Prop}{s:A5}
theorem RJ (hit:s.heap.IsTupleIter it t i)(ht:s.heap.IsTuple t items)(hx:items[i]?=some x)
   (hQ:∀h',h'.IsTupleIter it t (i+1)->X2 it s.heap h'->Q x { s with heap:=h' }):A6 (A7 prog w) A (i3 (.ref it)) Q E s:=by
 obtain⟨oi,hoi,hci,hdi⟩:=id hit;obtain⟨ot,hot,_,nt,hdt⟩:=ht;have ty:=hit.typeIs;unfold i3
 refine A0 (W7 (name:=B0 "__next__") ty EA
   (P3 EA ty F.entry_tuple_iterator_next ?_ (F.args_tuple_iterator_next_1 _)))
 show A6 _ _ (field (.ref it) 0>>=_) _ _ s;refine A0 (K5 hoi hdi (x:=.ref t) rfl ?_);show A6 _ _ (if(K8 t == Q8)=true then _ else _) _ _ s;rw[jt (show ¬((K8 t == Q8)=true) from L0)];show A6 _ _ (field (.ref it) 1>>=_) _ _ s;refine A0 (K5 hoi hdi (x:=.int i 0) rfl ?_);show A6 _ _ (seqItems? (.ref t)>>=_) _ _ s;refine A0 (W9 hot hdt ?_);simp only[V9,hx];refine A0 (w4 hoi hdi (by simp) (A8 ⟨x,rfl,A8 (hQ _ ?_ (X4 ..))⟩));exact⟨_,Bg _ hoi (Obj.isFreed_of_fields (Ez hdi _)),(Obj.cls_mapFields ..).trans hci,by rw[Ez hdi];simp[rawInt]⟩
theorem RK (hh:A.handled=none)(hit:s.heap.IsTupleIter it t i)(ht:s.heap.IsTuple t items)(hx:items[i]?=none)
   (hE:∀h' e,Heap.ExtBut it s.heap h'->(∃o,h'.get? e=some o/\o.cls=.type "StopIteration")->E (.ref e) { s with heap:=h' }):A6 (A7 prog w) A (i3 (.ref it)) Q E s:=by
 obtain⟨oi,hoi,hci,hdi⟩:=id hit;obtain⟨ot,hot,_,nt,hdt⟩:=ht;have ty:=hit.typeIs;unfold i3
 refine A0 (W7 (name:=B0 "__next__") ty EA
   (P3 EA ty F.entry_tuple_iterator_next ?_ (F.args_tuple_iterator_next_1 _)))
 show A6 _ _ (field (.ref it) 0>>=_) _ _ s;refine A0 (K5 hoi hdi (x:=.ref t) rfl ?_);show A6 _ _ (if(K8 t == Q8)=true then _ else _) _ _ s;rw[jt (show ¬((K8 t == Q8)=true) from L0)];show A6 _ _ (field (.ref it) 1>>=_) _ _ s;refine A0 (K5 hoi hdi (x:=.int i 0) rfl ?_);show A6 _ _ (seqItems? (.ref t)>>=_) _ _ s;refine A0 (W9 hot hdt ?_);simp only[V9,hx];refine A0 (Y3 (A0 (w4 hoi hdi (by simp) ?_)));show A6 _ _ (newExc (.type "StopIteration") []>>=_) _ _ _;refine A0 ?_;simp only[newExc,newTuple];refine A0 (P2 ?_ (by size_fits));refine A0 (m:=firstArgMember _ _) (K6 (a:=Q8) (by first|rfl|(simp only[firstArgMember];rfl)) ?_);refine P2 ?_ (by size_fits);simp only[raiseNew];refine A0 (wpAny_handled ?_)
 first|rw[show A.in1.handled=none from hh]|rw[hh]
 refine A0 (A8 (wpAny_throw ?_));exact hE _ _ (((X4 ..).extBut.push _).push _) ⟨_,F2 _ rfl,rfl⟩
theorem Fh (hit:ItB b s.heap it t i)(ht:SeB b s.heap t items)(hx:items[i]?=some x)
   (hQ:∀h',ItB b h' it t (i+1)->X2 it s.heap h'->Q x { s with heap:=h' }):A6 (A7 prog w) A (i3 (.ref it)) Q E s:=by
 cases b with
 |true=>exact wpAny_nextOf_list_item hit ht hx hQ
 |false=>exact RJ hit ht hx hQ
theorem Fi (hh:A.handled=none)(hit:ItB b s.heap it t i)(ht:SeB b s.heap t items)(hx:items[i]?=none)
   (hE:∀h' e,Heap.ExtBut it s.heap h'->(∃o,h'.get? e=some o/\o.cls=.type "StopIteration")->E (.ref e) { s with heap:=h' }):A6 (A7 prog w) A (i3 (.ref it)) Q E s:=by
 cases b with
 |true=>exact wpAny_nextOf_list_end hh hit ht hx hE
 |false=>exact RK hh hit ht hx hE
theorem drawsB {b:Bool}(hh:A.handled=none)(it l:A1)(hne:l≠it)(items:Array A3):Draws prog w A it [it,l] items.size (λi v=>items[i]?=some v) (λi h=>ItB b h it l i/\SeB b h l items) where
 live:=λ_ _ st=>let ⟨o,ho,_⟩:=st.1.obj;⟨o,ho⟩
 frame:=λ_ _ _ st hk=>⟨st.1.at λo e=>hk it (by simp) o e,st.2.at λo e=>hk l (by simp) o e⟩
 item:=λi s Q E hi st hQ=>by
  refine Fh st.1 st.2 (x:=items[i]) (by simp[hi]) λh' hit' hs'=>?_;exact hQ _ h' s.toks (by simp[hi]) ⟨hit',st.2.at λo e=>hs'.extBut _ o hne e⟩ hs'
 done:=λs Q E st hE=>Fi hh st.1 st.2 (by simp) hE
theorem RL (l:A1)(items:Array A3)(n:Nat)(dct:Option A1)(sl:Array (Option A3)) :
   Meets (L8.«enumerate.__new__» ⟨[.type "enumerate",.ref l],[]⟩) (λ_ R s=>s.heap.get? l=some { cls:=.type "tuple",dict:=dct,data:=.seq items n,slots:=sl }/\
     R (.ok (.ret (.ref (s.heap.push { cls := .type "tuple_iterator", data := .fields #[.ref l, .int 0 0] }).objs.size)))
       { s with heap:=(s.heap.push { cls:=.type "tuple_iterator",data:=.fields #[.ref l,.int 0 0] }).push { cls:=.type "enumerate",data:=.fields #[.none,.bool false,.ref s.heap.objs.size,rawInt 0,.none,.none] } }):=
 .of_wp λprog w A R s hyp=>by
  obtain⟨hp,g,d,tk,os⟩:=s;obtain⟨hl,fin⟩:=hyp;have hsub:=sub_enumerate;have hL:Heap.IsTuple (Shared.heap ⟨hp,g,d,tk,os⟩) l items:=⟨_,hl,rfl,n,rfl⟩
  wp_walk using EE hl
  refine wpAny_stack_any λst=>A8 ?_
  split
  ·rename_i c _ _ _ _ _;cases(c == K1 "enumerate")
   ·wp_walk using EE hl,Bc hL
    exact⟨_,rfl,fin⟩
   ·wp_walk using EE hl,Bc hL
    exact⟨_,rfl,fin⟩
  ·wp_walk using EE hl,Bc hL
   exact⟨_,rfl,fin⟩
theorem enumT {l:A1}{items:Array A3}{Q:A3->A5->Prop}(hL:s.heap.IsTuple l items)
   (h:∀h',IsEnum h' (s.heap.objs.size+1) s.heap.objs.size 0 .none->h'.IsTupleIter s.heap.objs.size l 0->(∀b o,s.heap.get? b=some o->h'.get? b=some o)->Q (.ref (s.heap.objs.size+1)) { s with heap:=h' }) :
   A6 (A7 prog w) A (call (.type "enumerate") [.ref l]) Q E s:=by
 obtain⟨⟨c,dct,dt,sl⟩,hl,hc,n,hd⟩:=hL
 replace hc:c=.type "tuple":=hc
 replace hd:dt=.seq items n:=hd
 subst hc hd;refine callType_new F.called_enumerate (by decide) (F.typeCall_enumerate_1 _) (F.newCall_enumerate_1 _) (λobj=>F.args_object_init_2 obj _) F.entry_enumerate_new (RL l items n dct sl) ⟨hl,?_⟩;have hz:(s.heap.push { cls:=.type "tuple_iterator",data:=.fields #[.ref l,.int 0 0] }).objs.size=s.heap.objs.size+1:=d7 ..;show _/\_;rw[hz]
 have he:IsEnum ((s.heap.push { cls:=.type "tuple_iterator",data:=.fields #[.ref l,.int 0 0] }).push { cls:=.type "enumerate",data:=.fields #[.none,.bool false,.ref s.heap.objs.size,rawInt 0,.none,.none] }) (s.heap.objs.size+1) s.heap.objs.size 0 .none:=by
  have:=F2 (s.heap.push { cls:=.type "tuple_iterator",data:=.fields #[.ref l,.int 0 0] }) (o:={ cls:=.type "enumerate",data:=.fields #[.none,.bool false,.ref s.heap.objs.size,rawInt 0,.none,.none] }) rfl;rw[hz] at this;exact this
 exact⟨⟨_,he,rfl⟩,h _ he ⟨_,C0 _ (F2 _ rfl),rfl,rfl⟩ λb o x=>C0 _ (C0 _ x)⟩
theorem enumB {b:Bool}{l:A1}{items:Array A3}{Q:A3->A5->Prop}(hL:SeB b s.heap l items)
   (h:∀h',IsEnum h' (s.heap.objs.size+1) s.heap.objs.size 0 .none->ItB b h' s.heap.objs.size l 0->(∀b o,s.heap.get? b=some o->h'.get? b=some o)->Q (.ref (s.heap.objs.size+1)) { s with heap:=h' }) :
   A6 (A7 prog w) A (call (.type "enumerate") [.ref l]) Q E s:=by
 cases b with
 |true=>exact call_enumerate_list hL λh' a b _ c=>h h' a b c
 |false=>exact enumT hL h
theorem RM {b:Bool}{e it l:A1}{j:Nat}{i:Int}{items:Array A3}{old:A3}{Q:Option A3->A5->Prop}(hh:A.handled=none)(he:IsEnum s.heap e it i old)(hit:ItB b s.heap it l j)(ht:SeB b s.heap l items)(hx:items[j]?=none)
   (hQ:∀h',Heap.ExtBut it s.heap h'->Q none { s with heap:=h' }):A6 (A7 prog w) A (pyNext (.ref e)) Q E s:=by
 have ty:s.TypeIs (.ref e) "enumerate":=⟨_,he,rfl⟩;unfold pyNext;refine A0 (An (W7 (name:=B0 "__next__") ty F.slot_enumerate_next (P3 F.slot_enumerate_next ty F.entry_enumerate_next ?_ (F.args_enumerate_next_1 _))));show A6 _ _ (field (.ref e) 2>>=_) _ _ _;refine A0 (K5 he rfl (x:=.ref it) rfl ?_);refine A0 (Fi (A:=A.in1) hh hit ht hx λh' x he' hx'=>?_);obtain⟨o,ho,hc⟩:=hx';exact A0 (Ea (T:="StopIteration") (b:=true) ⟨o,ho,hc⟩ isSubtype_stop (A8 (hQ _ he')))
end
def SqB (b:Bool)(K:A9)(H:Hp)(a:A1)(xs:List V):Prop:=match b with|true=>SqL K H a xs|false=>SqT K H a xs
section
variable {X:Cx}
theorem Inv.seqB (I:Inv X jb σ H s)(h:SqB b X.K H a xs):∃jf:List A3,Vals xs jf/\SeB b s.heap a jf.toArray/\xs.length<=B9:=by
 cases b with
 |true=>obtain⟨jf,r,p,z⟩:=I.list h;exact⟨jf,r,p.isList,z⟩
 |false=>obtain⟨jf,r,p,z⟩:=I.tuple h;exact⟨jf,r,p,z⟩
theorem Inv.seqB_inj (I:Inv X jb σ H s)(h:SqB b X.K H a xs)(h':SqB b X.K H a ys):xs=ys:=by
 cases b with
 |true=>exact I.list_inj h h'
 |false=>exact I.tuple_inj h h'
def IteB (b:Bool)(K:A9)(a:A1):It:=
 ⟨λi H=>∃xs x,SqB b K H a xs/\xs[i]?=some x,λi H x H'=>∃p v,H p=none/\x=.ref p/\H'=upd H p (.tup [.int i,v])/\∀xs,SqB b K H a xs->xs[i]?=some v,λi H=>∃xs,SqB b K H a xs/\xs.length<=i⟩
theorem RN {b:Bool}{P:C8}{w:C4}{K:A9}{elts:List Expr}{x1}{pos:Pos}(a e it:A1)(hne:e≠it) :
   Turn P w K (.Tuple elts x1 pos) (IteB b K a) [e,it] e (λi h=>(∃old,IsEnum h e it i old)/\ItB b h it a i) where
 mem:=by simp
 obj:=λi h st c hc=>by
  obtain⟨⟨old,he⟩,st⟩:=st;obtain⟨o,e1,_,d⟩:=st.obj;have hc':c=e\/c=it:=by simpa using hc
  rcases hc' with rfl|rfl
  ·exact⟨_,he,λv z=>by cases z⟩
  ·exact⟨o,e1,d⟩
 keep:=λi h h' st k=>by
  obtain⟨⟨old,he⟩,st⟩:=st;exact⟨⟨old,k e (by simp) _ he⟩,st.at λo e=>k it (by simp) o e⟩
 item:=by
  intro X hP hw hK hc i jb s σ H E I hf st hg;subst hP hw hK;obtain⟨⟨old,he⟩,st⟩:=st;obtain⟨xs,x,hq,hx⟩:=hg;obtain⟨jf,rv,p,hz⟩:=I.seqB hq;obtain⟨u,hu,ru⟩:=rv.get hx;have nla:a≠it:=st.ne p
  have nea:e≠a:=λz=>by
   obtain⟨o,e1,c1⟩:=p.obj;rw[<- z,he] at e1;cases e1;rcases c1 with c1|c1
   ·exact absurd (show K1 "enumerate"=K1 "list" from c1) (by decide)
   ·exact absurd (show K1 "enumerate"=K1 "tuple" from c1) (by decide)
  have hi:i<jf.toArray.size:=by
   obtain⟨h1,_⟩:=F6.mp hu
   simpa using h1
  refine wpAny_pyNext_enum_itemD (drawsB (A:=X.A.in1) (I.ok.hd hc) it a nla jf.toArray) he ⟨st,p⟩ hi hne (by simp[hne,nea]) λy h' tk hy he' st' ht hz' k=>?_
  have ey:y=u:=by
   have:jf[i]?=some y:=by simpa using hy
   rw[hu] at this;exact(M9 this).symm
  subst ey;refine⟨_,rfl,wpAny_letOwnedTupleGo_enum (s:={ s with heap:=h',toks:=tk+1 }) he' λh'' he'' sb=>?_⟩;have hpe:s.heap.objs.size≠e:=Aw (D1 he);have ht'':h''.get? s.heap.objs.size=some { cls:=.type "tuple",data:=.seq #[.int i tk,y] }:=(sb.2 _ hpe).trans ht
  have k':∀c o,c∉[e,it]->s.heap.get? c=some o->h''.get? c=some o:=λc o hb q=>by
   have hb1:c≠e:=λz=>hb (by simp[z]);have hb2:c≠it:=λz=>hb (by simp[z]);exact(sb.2 c hb1).trans (k c o hb1 hb2 q)
  have I1:Inv X jb σ (upd H s.heap.objs.size (.tup [.int i,x])) { s with heap:=h'',toks:=tk+1 }:=
   I.turnedNew k' hf ⟨by show 2<=B9;decide,[.int i tk,y],.cons ⟨_,rfl⟩ (.cons ru .nil),⟨_,ht'',rfl,_,rfl⟩⟩
  refine⟨.ref s.heap.objs.size,_,I1,rfl,⟨_,x,I.fresh,rfl,rfl,λys hy=>by rw[I.seqB_inj hy hq];exact hx⟩,⟨⟨y,he''⟩,st'.1.at λo q=>(sb.2 it (Ne.symm hne)).trans q⟩,λc hb=>?_⟩;have hb':c=e\/c=it:=by simpa using hb
  have hbs:c≠s.heap.objs.size:=by
   rcases hb' with rfl|rfl
   ·exact Ne.symm hpe
   ·obtain⟨o,e1,_⟩:=st.obj;exact F4 (D1 e1)
  rw[D4 hbs];exact(hf c hb).1
 done:=by
  intro X hP hw hK hc i jb s σ H E I hf st hg;subst hP hw hK;obtain⟨⟨old,he⟩,st⟩:=st;obtain⟨xs,hq,hx⟩:=hg;obtain⟨jf,rv,p,hz⟩:=I.seqB hq;obtain⟨f0,f1,f2,f3,f4,f5⟩:=hf it (by simp);have hl:=rv.length;refine RM (I.ok.hd hc) he st p (Ep (by rw[F7];omega)) λh' eb=>⟨rfl,I.turned (t':=s.toks) (λc o hb e=>eb c o hb e) f0 f1 f3 f4 f5⟩
 self:=λ_ _ _ _ _ st h=>by
  obtain⟨⟨old,he⟩,_⟩:=st;exact wpAny_pyIter_enum he h
def iEnumB (b:Bool)(K:A9)(ta:TA):TI:=λσ H R=>ta σ H λvs H1=>∃a,vs=[.ref a]/\(∃xs,SqB b K H1 a xs)/\R (IteB b K a) H1
theorem RO (b:Bool){l:Expr}{ta:TA}{p pos:Pos}{elts:List Expr}{x1}{tpos:Pos}(hg:Gl X "enumerate")(hm:X.mg "enumerate"=none)(ha:PA X [l] ta)(hs:E3 [l] X.env=[(false,eval l X.env)]:=by rfl) :
   PI X (.Tuple elts x1 tpos) (.Call (.Name "enumerate" p) [l] [] pos) (iEnumB b X.K ta):=by
 intro jb s σ H R I h;refine Call_ (i6 I hg hm boot_enumerate (x5 (thn (ha pos jb s σ H _ I h) λus s1 ⟨vs,H1,I1,r1,q1⟩=>?_) hs rfl));obtain⟨a,e,⟨xs,hq⟩,q⟩:=q1;subst e;obtain⟨u,rfl,ru⟩:=r1.one;obtain rfl:u=K8 a:=ru;obtain⟨jf,rv,pl,hz⟩:=I1.seqB hq;refine enumB pl λh' hE hI hk=>?_;refine wpAny_pyIter_enum hE ?_;have I2:Inv X jb σ H1 { s1 with heap:=h' }:=I1.kept (t':=s1.toks) hk;refine⟨s1.heap.objs.size+1,[s1.heap.objs.size+1,s1.heap.objs.size],_,_,H1,rfl,I2,RN a _ _ (Nat.succ_ne_self _),⟨⟨_,hE⟩,hI⟩,λc hb=>?_,q⟩;have hb':c=s1.heap.objs.size+1\/c=s1.heap.objs.size:=by simpa using hb
 rcases hb' with rfl|rfl
 ·exact I1.fpOk (Br _) (I1.hok.fresh (Br _))
 ·exact I1.fpOk (B8 _) (I1.hok.fresh (B8 _))
end
end L2
end
section
namespace L2
open PySem PySem.Spec PyProof.Rows
section
variable {prog:C8}{w:C4}{A:D5}{E:A3->A5->Prop}{s:A5}
structure ZAp (z TI TO i1 i2:A1):Prop where
 a1:TI≠z
 a2:TO≠z
 a3:i1≠z
 a4:i2≠z
 a5:TI≠TO
 a6:TI≠i1
 a7:TI≠i2
 a8:TO≠i1
 a9:TO≠i2
 a10:i1≠i2
theorem RQ {z TI TO i1 i2 l1 l2:A1}{Q:A3->A5->Prop}(D:ZAp z TI TO i1 i2)(m1:l1≠z)(m2:l2≠z)(m3:l1≠TO)(m4:l2≠TO)(m5:l1≠i1)(m6:l2≠i1)
   (hz:IsZip s.heap z TI TO .none) (hTI:IsPair s.heap TI (.ref i1) (.ref i2)) (hTO:IsPair s.heap TO a b) (h1:ItB b1 s.heap i1 l1 k) (h2:ItB b2 s.heap i2 l2 k) (hl1:SeB b1 s.heap l1 xs) (hl2:SeB b2 s.heap l2 ys) (hx:xs[k]?=some x) (hy:ys[k]?=some y)
   (hQ:∀h',IsZip h' z TI TO (rawInt s.heap.objs.size)->IsPair h' TO x y->ItB b1 h' i1 l1 (k+1)->ItB b2 h' i2 l2 (k+1)->IsPair h' s.heap.objs.size x y->
     (∀c o,c≠z->c≠TO->c≠i1->c≠i2->s.heap.get? c=some o->h'.get? c=some o)->Q (.ref s.heap.objs.size) { s with heap:=h' }) :
   A6 (A7 prog w) A (L8.«zip.__next__» ⟨[.ref z],[]⟩) (λfin s'=>∃v,fin=.done (.ret v)/\Q v s') E s:=by
 show A6 _ _ (field (.ref z) 2>>=_) _ _ _;refine A0 (K5 hz rfl (x:=.bool false) rfl ?_);show A6 _ _ (field (.ref z) 3>>=_) _ _ _;refine A0 (K5 hz rfl (x:=.ref TI) rfl (A0 (W9 hTI rfl ?_)));show A6 _ _ (Es (.ref z)>>=_) _ _ _;refine A0 ?_;unfold Es;refine A0 (K5 hz rfl (x:=.none) rfl (A8 ?_));simp only[if_true];refine A0 (Y3 (A0 (K5 hz rfl (x:=.ref TO) rfl (A0 (Bd hz (by simp) λg1 z1 s1=>?_)))))
 replace z1:IsZip g1 z TI TO .ellipsis:=z1
 refine A0 ?_;simp only[List.zipIdx_cons,List.zipIdx_nil,List.forIn_cons,List.forIn_nil];refine A0 (A0 (wpAny_onRaise ?_));show A6 _ _ (i3 (.ref i1)>>=_) _ _ _;refine A0 (Fh (s:={ s with heap:=g1 }) (h1.at λo e=>s1.extBut _ o D.a3 e) (hl1.at λo e=>s1.extBut _ o m1 e) hx λg2 j2 s2=>A8 ?_);have t2:IsPair g2 TO a b:=s2.extBut _ _ D.a8 (s1.extBut _ _ D.a2 hTO);refine A0 (W9 t2 rfl (A0 (wpAny_updateSeq_pair (s:={ s with heap:=g2 }) t2 λg3 t3 s3=>A0 (wpAny_letGo (A8 ?_)))))
 replace t3:IsPair g3 TO x b:=t3
 refine A0 (A0 (wpAny_onRaise ?_));show A6 _ _ (i3 (.ref i2)>>=_) _ _ _;have up3:∀c o,c≠z->c≠i1->c≠TO->s.heap.get? c=some o->g3.get? c=some o:=λc o c1 c2 c3 e=>s3.extBut _ o c3 (s2.extBut _ o c2 (s1.extBut _ o c1 e));refine A0 (Fh (s:={ s with heap:=g3 }) (h2.at λo e=>up3 _ o D.a4 D.a10.symm D.a9.symm e) (hl2.at λo e=>up3 _ o m2 m6 m4 e) hy λg4 j4 s4=>A8 ?_);have t4:IsPair g4 TO x b:=s4.extBut _ _ D.a9 t3;refine A0 (W9 t4 rfl (A0 (wpAny_updateSeq_pair (s:={ s with heap:=g4 }) t4 λg5 t5 s5=>A0 (wpAny_letGo (A8 (A8 ?_))))))
 replace t5:IsPair g5 TO x y:=t5
 refine A0 (W9 t5 rfl (A0 (wpAny_newTuple ?_)));have hsz:g5.objs.size=s.heap.objs.size:=by rw[s5.1,s4.1,s3.1,s2.1,s1.1]
 have z5:IsZip g5 z TI TO .ellipsis:=s5.extBut _ _ D.a2.symm (s4.extBut _ _ D.a4.symm (s3.extBut _ _ D.a2.symm (s2.extBut _ _ D.a3.symm z1)));have up5:∀c o,c≠z->c≠TO->c≠i1->c≠i2->s.heap.get? c=some o->g5.get? c=some o:=λc o c1 c2 c3 c4 e=>s5.extBut _ _ c2 (s4.extBut _ _ c4 (up3 c o c1 c3 c2 e));have j1:ItB b1 g5 i1 l1 (k+1):=j2.at λo e=>s5.extBut _ o D.a8.symm (s4.extBut _ o D.a10 (s3.extBut _ o D.a8.symm e));have j5:ItB b2 g5 i2 l2 (k+1):=j4.at λo e=>s5.extBut _ o D.a9.symm e;have zlt:z<g5.objs.size:=D1 z5;show A6 _ _ (JI (.ref z) (.ref g5.objs.size)>>=_) _ _ _;refine A0 ?_;unfold JI;have z6:IsZip (g5.push { cls:=.type "tuple",data:=.seq #[x,y] }) z TI TO .ellipsis:=C0 _ z5;refine A0 (Bd z6 (by simp) λg7 z7 s7=>?_)
 replace z7:IsZip g7 z TI TO (rawInt g5.objs.size):=z7
 refine Bd z7 (by simp) λg8 z8 s8=>?_
 replace z8:IsZip g8 z TI TO (rawInt g5.objs.size):=z8
 have up8:∀c o,c≠z->g5.get? c=some o->g8.get? c=some o:=λc o c1 e=>s8.extBut _ _ c1 (s7.extBut _ _ c1 (C0 _ e));have t8:IsPair g8 g5.objs.size x y:=s8.extBut _ _ (Aw zlt) (s7.extBut _ _ (Aw zlt) (F2 _ rfl));rw[hsz] at z8 t8;refine A8 ⟨_,rfl,?_⟩;show Q (.ref g5.objs.size) _;rw[hsz];exact hQ g8 z8 (up8 _ _ D.a2 t5) (j1.at λo e=>up8 _ o D.a3 e) (j5.at λo e=>up8 _ o D.a4 e) t8 λc o c1 c2 c3 c4 e=>up8 c o c1 (up5 c o c1 c2 c3 c4 e)
theorem zipEnd {z TI TO i1 i2 l1 l2:A1}(hh:A.handled=none)(D:ZAp z TI TO i1 i2)(m1:l1≠z)(m2:l2≠z)(m3:l1≠TO)(m4:l2≠TO)(m5:l1≠i1)(m6:l2≠i1)
   (hz:IsZip s.heap z TI TO .none) (hTI:IsPair s.heap TI (.ref i1) (.ref i2)) (hTO:IsPair s.heap TO a b) (h1:ItB b1 s.heap i1 l1 k) (h2:ItB b2 s.heap i2 l2 k) (hl1:SeB b1 s.heap l1 xs) (hl2:SeB b2 s.heap l2 ys) (hend:xs[k]?=none\/ys[k]?=none)
   (hE:∀h' e,(∀c o,c≠z->c≠TO->c≠i1->c≠i2->s.heap.get? c=some o->h'.get? c=some o)->(∃o,h'.get? e=some o/\o.cls=.type "StopIteration")->E (.ref e) { s with heap:=h' }) :
   A6 (A7 prog w) A (L8.«zip.__next__» ⟨[.ref z],[]⟩) Q E s:=by
 show A6 _ _ (field (.ref z) 2>>=_) _ _ _;refine A0 (K5 hz rfl (x:=.bool false) rfl ?_);show A6 _ _ (field (.ref z) 3>>=_) _ _ _;refine A0 (K5 hz rfl (x:=.ref TI) rfl (A0 (W9 hTI rfl ?_)));show A6 _ _ (Es (.ref z)>>=_) _ _ _;refine A0 ?_;unfold Es;refine A0 (K5 hz rfl (x:=.none) rfl (A8 ?_));simp only[if_true];refine A0 (Y3 (A0 (K5 hz rfl (x:=.ref TO) rfl (A0 (Bd hz (by simp) λg1 z1 s1=>?_)))))
 replace z1:IsZip g1 z TI TO .ellipsis:=z1
 refine A0 ?_;simp only[List.zipIdx_cons,List.zipIdx_nil,List.forIn_cons,List.forIn_nil];refine A0 (A0 (wpAny_onRaise ?_));show A6 _ _ (i3 (.ref i1)>>=_) _ _ _;have h1':ItB b1 g1 i1 l1 k:=h1.at λo e=>s1.extBut _ o D.a3 e;have hl1':SeB b1 g1 l1 xs:=hl1.at λo e=>s1.extBut _ o m1 e
 have nz:∀{g:B6} {e:A1} {o:Obj},IsZip g z TI TO .ellipsis->g.get? e=some o->o.cls=.type "StopIteration"->e≠z:=λ{g e o} hz ho hc x=>by
  subst x;rw[hz] at ho;cases ho;exact absurd (show K1 "zip"=K1 "StopIteration" from hc) (by decide)
 cases hx:xs[k]? with
 | none =>
  refine A0 (Fi (s:={ s with heap:=g1 }) hh h1' hl1' hx λg2 e s2 ⟨oe,hoe,hce⟩=>?_);have z2:IsZip g2 z TI TO .ellipsis:=s2 _ _ D.a3.symm z1;exact Bd z2 (by simp) λg3 _ s3=>hE g3 e (λc o c1 _ c3 _ x=>s3.extBut _ _ c1 (s2 _ _ c3 (s1.extBut _ _ c1 x))) ⟨oe,s3.extBut _ _ (nz z2 hoe hce) hoe,hce⟩
 | some x =>
  have hy:ys[k]?=none:=hend.elim (λh=>by rw[hx] at h;cases h) id;refine A0 (Fh (s:={ s with heap:=g1 }) h1' hl1' hx λg2 j2 s2=>A8 ?_);have t2:IsPair g2 TO a b:=s2.extBut _ _ D.a8 (s1.extBut _ _ D.a2 hTO);refine A0 (W9 t2 rfl (A0 (wpAny_updateSeq_pair (s:={ s with heap:=g2 }) t2 λg3 t3 s3=>A0 (wpAny_letGo (A8 ?_)))));refine A0 (A0 (wpAny_onRaise ?_));show A6 _ _ (i3 (.ref i2)>>=_) _ _ _;have up3:∀c o,c≠z->c≠i1->c≠TO->s.heap.get? c=some o->g3.get? c=some o:=λc o c1 c2 c3 e=>s3.extBut _ o c3 (s2.extBut _ o c2 (s1.extBut _ o c1 e));refine A0 (Fi (s:={ s with heap:=g3 }) hh (h2.at λo e=>up3 _ o D.a4 D.a10.symm D.a9.symm e) (hl2.at λo e=>up3 _ o m2 m6 m4 e) hy λg4 e s4 ⟨oe,hoe,hce⟩=>?_);have z4:IsZip g4 z TI TO .ellipsis:=s4 _ _ D.a4.symm (s3.extBut _ _ D.a2.symm (s2.extBut _ _ D.a3.symm z1));exact Bd z4 (by simp) λg5 _ s5=>hE g5 e (λc o c1 c2 c3 c4 x=>s5.extBut _ _ c1 (s4 _ _ c4 (up3 c o c1 c3 c2 x))) ⟨oe,s5.extBut _ _ (nz z4 hoe hce) hoe,hce⟩
end
def itO (b:Bool)(l:A1):Obj:=match b with|true=>{ cls:=.type "list_iterator",data:=.fields #[.ref l,.int 0 0] }|false=>{ cls:=.type "tuple_iterator",data:=.fields #[.ref l,.int 0 0] }
theorem Lv (b:Bool)(l:A1):(itO b l).isFreed=false:=by cases b <;> rfl
theorem Lw (e:h.get? a=some (itO b l)):ItB b h a l 0:=by
 cases b with
 |true=>exact⟨_,e,rfl,rfl⟩
 |false=>exact⟨_,e,rfl,rfl⟩
theorem iterO (ht:SeB b s.heap t items)(hQ:Q (.ref s.heap.objs.size) { s with heap:=s.heap.push (itO b t) }):A6 (A7 prog w) A (pyIter (.ref t)) Q E s:=by
 cases b with
 |true=>exact Cq ht hQ
 |false=>exact Bc ht hQ
abbrev zh2 (h:B6)(b1 b2:Bool)(l1 l2:A1):B6:=(h.push (itO b1 l1)).push (itO b2 l2)
abbrev zh3 (h:B6)(b1 b2:Bool)(l1 l2:A1):B6:=(zh2 h b1 b2 l1 l2).push { cls:=.type "tuple",data:=.seq #[.ref h.objs.size,.ref (h.push (itO b1 l1)).objs.size] }
abbrev zh4 (h:B6)(b1 b2:Bool)(l1 l2:A1):B6:=(zh3 h b1 b2 l1 l2).push { cls:=.type "tuple",data:=.seq #[.none,.none] }
abbrev zh5 (h:B6)(b1 b2:Bool)(l1 l2:A1):B6:=(zh4 h b1 b2 l1 l2).push { cls:=.type "zip",data:=.fields #[.none,.bool false,.bool false,.ref (zh2 h b1 b2 l1 l2).objs.size,.ref (zh3 h b1 b2 l1 l2).objs.size] }
theorem zipNew (b1 b2:Bool)(l1 l2:A1)(xs ys:Array A3) :
   Meets (L8.«zip.__new__» ⟨[.type "zip",.ref l1,.ref l2],[]⟩) (λ_ R s=>SeB b1 s.heap l1 xs/\SeB b2 s.heap l2 ys/\R (.ok (.ret (.ref (zh4 s.heap b1 b2 l1 l2).objs.size))) { s with heap:=zh5 s.heap b1 b2 l1 l2 }):=
 .of_wp λprog w A R s hyp=>by
  obtain⟨hp,g,d,tk,os⟩:=s;obtain⟨k1,k2,fin⟩:=hyp;have hsub:=sub_zip;have L1:SeB b1 (Shared.heap ⟨hp,g,d,tk,os⟩) l1 xs:=k1;have L2:SeB b2 (Shared.heap ⟨hp.push (itO b1 l1),g,d,tk,os⟩) l2 ys:=k2.at λo e=>C0 _ e
  wp_walk using iterO L1,iterO L2
  exact⟨_,rfl,fin⟩
section
variable {prog:C8}{w:C4}{A:D5}{E:A3->A5->Prop}{s:A5}
theorem zipB (hl1:SeB b1 s.heap l1 xs)(hl2:SeB b2 s.heap l2 ys)
   (h:∀h',IsZip h' (s.heap.objs.size+4) (s.heap.objs.size+2) (s.heap.objs.size+3) .none->IsPair h' (s.heap.objs.size+2) (.ref s.heap.objs.size) (.ref (s.heap.objs.size+1))->
     IsPair h' (s.heap.objs.size+3) .none .none->ItB b1 h' s.heap.objs.size l1 0->ItB b2 h' (s.heap.objs.size+1) l2 0->(∀c o,s.heap.get? c=some o->h'.get? c=some o)->Q (.ref (s.heap.objs.size+4)) { s with heap:=h' }) :
   A6 (A7 prog w) A (call (.type "zip") [.ref l1,.ref l2]) Q E s:=by
 refine callType_new F.called_zip (by decide) (F.typeCall_zip_2 _ _) (F.newCall_zip_2 _ _) (λobj=>F.args_object_init_3 obj _ _) F.entry_zip_new (zipNew b1 b2 l1 l2 xs ys) ⟨hl1,hl2,?_⟩;have z1:(s.heap.push (itO b1 l1)).objs.size=s.heap.objs.size+1:=d7 ..;have z2:(zh2 s.heap b1 b2 l1 l2).objs.size=s.heap.objs.size+2:=by rw[d7,z1]
 have z3:(zh3 s.heap b1 b2 l1 l2).objs.size=s.heap.objs.size+3:=by rw[d7,z2]
 have z4:(zh4 s.heap b1 b2 l1 l2).objs.size=s.heap.objs.size+4:=by rw[d7,z3]
 have g5:(zh5 s.heap b1 b2 l1 l2).get? (zh4 s.heap b1 b2 l1 l2).objs.size=some _:=F2 _ rfl;have g4:(zh5 s.heap b1 b2 l1 l2).get? (zh3 s.heap b1 b2 l1 l2).objs.size=some _:=C0 _ (F2 _ rfl);have g3:(zh5 s.heap b1 b2 l1 l2).get? (zh2 s.heap b1 b2 l1 l2).objs.size=some _:=C0 _ (C0 _ (F2 _ rfl));have g2:(zh5 s.heap b1 b2 l1 l2).get? (s.heap.push (itO b1 l1)).objs.size=some _:=C0 _ (C0 _ (C0 _ (F2 _ (Lv b2 l2))));have g1:(zh5 s.heap b1 b2 l1 l2).get? s.heap.objs.size=some _:=C0 _ (C0 _ (C0 _ (C0 _ (F2 _ (Lv b1 l1)))));show _/\_;rw[z2,z3,z4] at g5;rw[z1,z2] at g3;rw[z3] at g4;rw[z1] at g2;rw[z4];exact⟨⟨_,g5,rfl⟩,h _ g5 g3 g4 (Lw g1) (Lw g2) λc o x=>C0 _ (C0 _ (C0 _ (C0 _ (C0 _ x))))⟩
end
section
variable {X:Cx}
def ItzB (b1 b2:Bool)(K:A9)(a c:A1):It:=
 ⟨λi H=>∃xs ys x y,SqB b1 K H a xs/\SqB b2 K H c ys/\xs[i]?=some x/\ys[i]?=some y,
  λi H x H'=>∃p u v,H p=none/\x=.ref p/\H'=upd H p (.tup [u,v])/\(∀xs,SqB b1 K H a xs->xs[i]?=some u)/\∀ys,SqB b2 K H c ys->ys[i]?=some v,
  λi H=>∃xs ys,SqB b1 K H a xs/\SqB b2 K H c ys/\min xs.length ys.length<=i⟩
theorem Fj (p:SeB b h l items)(he:h.get? e=some o)(hc:o.cls=.type n)(h1:n≠"list")(h2:n≠"tuple"):l≠e:=λz=>by
 obtain⟨o',e1,c1⟩:=p.obj;rw[z,he] at e1;cases e1;rw[hc] at c1;rcases c1 with c1|c1
 ·exact h1 (Value.type.inj c1)
 ·exact h2 (Value.type.inj c1)
theorem Fk {l z TI TO i1 i2:A1}(I:Inv X jb σ H s)(hf:∀d∈[z,TI,TO,i1,i2],FpOk X jb H d)(hTO:IsPair s.heap TO p q)(hq:SqB b X.K H l xs):l≠TO:=λzz=>by
 obtain⟨f0,f1,f2,f3,f4,f5⟩:=hf TO (by simp);subst zz;cases b with
 | true =>
  obtain⟨jf,_,pl,_⟩:=I.list hq;obtain⟨o,e,c1,_⟩:=pl.isList;rw[hTO] at e;cases e;exact absurd (show K1 "tuple"=K1 "list" from c1) (by decide)
 | false =>
  rcases hq with hq|⟨o,jf,n,hk,hc1,hs,hz,r⟩
  ·rcases hq with e|⟨o,e⟩
   ·rw[f0] at e;cases e
   ·rw[f0] at e;cases e
  ·have eb:X.base.get? l=some o:=I.ok.mod.kin l o hk;rcases f3 with f3|f3
   ·exact I.ok.noex l o eb f3
   ·exact absurd (O0 (D1 eb) (M2 I.ok.bsz f3)) (Y8 _)
theorem Inv.turnedAll {ch:List A1}(I:Inv X jb σ H s)(k:∀b o,b∉ch->s.heap.get? b=some o->h'.get? b=some o)(hf:∀b∈ch,FpOk X jb H b):Inv X jb σ H { s with heap:=h',toks:=t' }:=by
 have nch:∀b u,H b=some u->b∉ch:=λb u e z=>by rw[(hf b z).1] at e;cases e
 refine I.step (g':=s.gens) (d':=s.drawn) (ch:=ch) (λb hb=>⟨(hf b hb).2.2.2.1,(hf b hb).2.1,(hf b hb).2.2.2.2.1,(hf b hb).2.2.2.2.2⟩) (λb o _ _ hc e _=>k b o hc e) (λb o _ _ hc e _=>⟨o.slots,k b o hc e⟩) (λ_ _ _ _ n=>n)
   (λb o hc e=>⟨o,k b o hc e⟩) (λ_ _ e=>e) (λ_ _ _ e=>e) (λb ps e=>⟨#[],by rw[e];simp⟩) (λz=>z) (λm hm=>?_) (λb u e=>?_) I.bare
 ·obtain⟨o,es,ep,ho,r⟩:=hm;exact⟨o,es,ep,k _ o (λz=>(hf _ z).2.1 rfl) ho,r⟩
 ·refine(I.hok b u e).stay (λc v hc q=>k c v ?_ q) (λc q=>q) λc ys q=>q;rcases hc with z|z
  ·rw[z];exact nch b u e
  ·exact nch c _ z
theorem RR {b1 b2:Bool}{P:C8}{w:C4}{K:A9}{elts:List Expr}{x1}{pos:Pos}(a c z TI TO i1 i2:A1)(D:ZAp z TI TO i1 i2) :
   Turn P w K (.Tuple elts x1 pos) (ItzB b1 b2 K a c) [z,TI,TO,i1,i2] z (λi h=>IsZip h z TI TO .none/\IsPair h TI (.ref i1) (.ref i2)/\(∃p q,IsPair h TO p q)/\ItB b1 h i1 a i/\ItB b2 h i2 c i) where
 mem:=by simp
 obj:=λi h st e he=>by
  obtain⟨hz,h1,⟨p,q,h2⟩,h3,h4⟩:=st;obtain⟨o3,e3,_,d3⟩:=h3.obj;obtain⟨o4,e4,_,d4⟩:=h4.obj;have he':e=z\/e=TI\/e=TO\/e=i1\/e=i2:=by simpa using he
  rcases he' with rfl|rfl|rfl|rfl|rfl
  ·exact⟨_,hz,λv z=>by cases z⟩
  ·exact⟨_,h1,λv z=>by cases z⟩
  ·exact⟨_,h2,λv z=>by cases z⟩
  ·exact⟨_,e3,d3⟩
  ·exact⟨_,e4,d4⟩
 keep:=λi h h' st k=>by
  obtain⟨hz,h1,⟨p,q,h2⟩,h3,h4⟩:=st;exact⟨k z (by simp) _ hz,k TI (by simp) _ h1,⟨p,q,k TO (by simp) _ h2⟩,h3.at λo e=>k i1 (by simp) o e,h4.at λo e=>k i2 (by simp) o e⟩
 item:=by
  intro X hP hw hK hc i jb s σ H E I hf st hg;subst hP hw hK;obtain⟨hz,hTI,⟨p,q,hTO⟩,h3,h4⟩:=st;obtain⟨xs,ys,x,y,hq1,hq2,hx,hy⟩:=hg;obtain⟨is1,rv1,p1,hz1⟩:=I.seqB hq1;obtain⟨is2,rv2,p2,hz2⟩:=I.seqB hq2;obtain⟨u,hu,ru⟩:=rv1.get hx;obtain⟨v,hv,rv⟩:=rv2.get hy;have ty:s.TypeIs (.ref z) "zip":=⟨_,hz,rfl⟩;unfold pyNext;refine A0 (An (W7 (name:=B0 "__next__") ty EC (P3 EC ty F.entry_zip_next (RQ D (Fj p1 hz rfl (by decide) (by decide)) (Fj p2 hz rfl (by decide) (by decide)) (Fk I hf hTO hq1) (Fk I hf hTO hq2) (h3.ne p1) (h3.ne p2) hz hTI hTO h3 h4 p1 p2 (by simpa using hu) (by simpa using hv) λh' a1 a2 a3 a4 a5 k=>A8 ?_) (F.args_zip_next_1 _))));refine⟨_,rfl,wpAny_letOwnedTupleGo_zip (s:={ s with heap:=h' }) a1 λh'' z'' sb=>?_⟩;have lt:∀{d:A1} {o:Obj},s.heap.get? d=some o->s.heap.objs.size≠d:=λe=>Aw (D1 e);have ht'':h''.get? s.heap.objs.size=some { cls:=.type "tuple",data:=.seq #[u,v] }:=(sb.2 _ (lt hz)).trans a5
  have k':∀d o,d∉[z,TI,TO,i1,i2]->s.heap.get? d=some o->h''.get? d=some o:=λd o hb q=>by
   have hb1:d≠z:=λe=>hb (by simp[e]);exact(sb.2 d hb1).trans (k d o hb1 (λe=>hb (by simp[e])) (λe=>hb (by simp[e])) (λe=>hb (by simp[e])) q)
  have I1:Inv X jb σ (upd H s.heap.objs.size (.tup [x,y])) { s with heap:=h'' }:=
   I.turnedNew (t':=s.toks) k' hf ⟨by show 2<=B9;decide,[u,v],.cons ru (.cons rv .nil),⟨_,ht'',rfl,_,rfl⟩⟩
  obtain⟨o3,e3,_,_⟩:=h3.obj;obtain⟨o4,e4,_,_⟩:=h4.obj
  refine⟨.ref s.heap.objs.size,_,I1,rfl,⟨_,x,y,I.fresh,rfl,rfl,λzs hzs=>by rw[I.seqB_inj hzs hq1];exact hx,λzs hzs=>by rw[I.seqB_inj hzs hq2];exact hy⟩,
   ⟨z'',sb.extBut _ _ D.a1 (k _ _ D.a1 D.a5 D.a6 D.a7 hTI),⟨u,v,sb.extBut _ _ D.a2 a2⟩,a3.at λo e=>sb.extBut _ o D.a3 e,a4.at λo e=>sb.extBut _ o D.a4 e⟩,λd hd=>?_⟩
  have hd':d=z\/d=TI\/d=TO\/d=i1\/d=i2:=by simpa using hd
  have hds:d≠s.heap.objs.size:=by
   rcases hd' with rfl|rfl|rfl|rfl|rfl
   ·exact(lt hz).symm
   ·exact(lt hTI).symm
   ·exact(lt hTO).symm
   ·exact(lt e3).symm
   ·exact(lt e4).symm
  rw[D4 hds];exact(hf d hd).1
 done:=by
  intro X hP hw hK hc i jb s σ H E I hf st hg;subst hP hw hK;obtain⟨hz,hTI,⟨p,q,hTO⟩,h3,h4⟩:=st;obtain⟨xs,ys,hq1,hq2,hmin⟩:=hg;obtain⟨is1,rv1,p1,hz1⟩:=I.seqB hq1;obtain⟨is2,rv2,p2,hz2⟩:=I.seqB hq2;have l1:=rv1.length;have l2:=rv2.length;have ty:s.TypeIs (.ref z) "zip":=⟨_,hz,rfl⟩
  have hend:is1.toArray[i]?=none\/is2.toArray[i]?=none:=by
   rcases CK xs.length ys.length with h|h
   ·exact .inl (Ep (by rw[F7];omega))
   ·exact .inr (Ep (by rw[F7];omega))
  unfold pyNext;refine A0 (An (W7 (name:=B0 "__next__") ty EC (P3 EC ty F.entry_zip_next (zipEnd (A:=X.A.in1) (I.ok.hd hc) D (Fj p1 hz rfl (by decide) (by decide)) (Fj p2 hz rfl (by decide) (by decide)) (Fk I hf hTO hq1) (Fk I hf hTO hq2) (h3.ne p1) (h3.ne p2) hz hTI hTO h3 h4 p1 p2 hend λh' e k he=>?_) (F.args_zip_next_1 _))));obtain⟨o,ho,hce⟩:=he;refine A0 (Ea (T:="StopIteration") (b:=true) ⟨o,ho,hce⟩ isSubtype_stop (A8 ⟨rfl,?_⟩));exact I.turnedAll (t':=s.toks) (ch:=[z,TI,TO,i1,i2]) (λd o hd e=>k d o (λz=>hd (by simp[z])) (λz=>hd (by simp[z])) (λz=>hd (by simp[z])) (λz=>hd (by simp[z])) e) hf
 self:=λ_ _ _ _ _ st h=>wpAny_pyIter_zip st.1 h
end
end L2
end
section
namespace L2
open PySem PySem.Spec PyProof.Rows
section
variable {X:Cx}
def iZipB (b1 b2:Bool)(K:A9)(ta:TA):TI:=λσ H R=>ta σ H λvs H1=>∃a c,vs=[.ref a,.ref c]/\(∃xs,SqB b1 K H1 a xs)/\(∃ys,SqB b2 K H1 c ys)/\R (ItzB b1 b2 K a c) H1
theorem RS (b1 b2:Bool){a b:Expr}{ta:TA}{p pos:Pos}{elts:List Expr}{x1}{tpos:Pos}(hg:Gl X "zip")(hm:X.mg "zip"=none)(ha:PA X [a,b] ta)(hs:E3 [a,b] X.env=[(false,eval a X.env),(false,eval b X.env)]:=by rfl)(hs2:E3 [b] X.env=[(false,eval b X.env)]:=by rfl) :
   PI X (.Tuple elts x1 tpos) (.Call (.Name "zip" p) [a,b] [] pos) (iZipB b1 b2 X.K ta):=by
 intro jb s σ H R I h;refine Call_ (i6 I hg hm boot_zip (x5 (thn (ha pos jb s σ H _ I h) λus s1 ⟨vs,H1,I1,r1,q1⟩=>?_) (by rw[hs,hs2]) (by rw[hs2];rfl)));obtain⟨a,c,e,⟨xs,h1⟩,⟨ys,h2⟩,q⟩:=q1;subst e;cases r1 with
 | cons r rr =>
  cases rr with
  | cons r' rr =>
   cases rr;cases r;cases r';obtain⟨is1,rv1,p1,hz1⟩:=I1.seqB h1;obtain⟨is2,rv2,p2,hz2⟩:=I1.seqB h2;refine zipB p1 p2 λh' e1 e2 e3 e4 e5 hk=>?_;refine wpAny_pyIter_zip e1 ?_;have I2:Inv X jb σ H1 { s1 with heap:=h' }:=I1.kept (t':=s1.toks) hk;refine⟨s1.heap.objs.size+4,[s1.heap.objs.size+4,s1.heap.objs.size+2,s1.heap.objs.size+3,s1.heap.objs.size,s1.heap.objs.size+1],_,_,H1,rfl,I2,RR a c _ _ _ _ _ ⟨by simp,by simp,by simp,by simp,by simp,by simp,by simp,by simp,by simp,by simp⟩,⟨e1,e2,⟨_,_,e3⟩,e4,e5⟩,λd hd=>?_,q⟩
   have hd':s1.heap.objs.size<=d:=by
    simp only[C5,L9,or_false] at hd;rcases hd with rfl|rfl|rfl|rfl|rfl <;> omega
   exact I1.fpOk hd' (I1.hok.fresh hd')
end
end L2
namespace Pu
open PySem PySem.Spec L2
section
variable {T:PotK}{ι:Type}{K:A9}{F:ι->Cx}{e a b tg:Expr}{pe pa pb:pE}{pos:Pos}
def DC (pe:pE):pA:=λenv n R=>pe env n λx jc n1=>match x with|.tup xs=>R (p6 xs) jc n1|_=>False
theorem Ie {p:Pos}{elts:List Expr}{x1:Nat}{tpos:Pos}(hg:∀z,Gl (F z) "enumerate")(hm:∀z,(F z).mg "enumerate"=none)(h:QE T K F e pe)(hs:F5 e=true:=by rfl)(hK:∀z,(F z).K=K:=by intro _;rfl):QI T K F (.Tuple elts x1 tpos) (.Call (.Name "enumerate" p) [e] [] pos) (DC pe):=by
 obtain⟨t,h1,h2⟩:=h;refine⟨_,λz=>hK z▸RO false (hg z) (hm z) (E9 (h1 z) G7 (D0 hs)) (by rw[D0 hs];rfl),λC G σ H env n R Q hK hT S hp k=>?_⟩;refine h2 C G σ H env n _ _ hK hT S hp λx jc n1 v H1 p1 S1 r1 f1=>?_;cases x with
 | tup xs =>
  obtain⟨a,vs,rfl,t,r⟩:=r1;refine⟨a,rfl,⟨vs,t.sq⟩,k _ _ _ _ _ p1 S1 f1 ?_⟩;intro G2 H2 hk hM hp hf;have hq:SqB false K H2 a vs:=SqT.of (hk a _ t.1 t.2);have r2:Reps K G2 H2 xs vs:=Reps.mono hk hM hp _ _ r;refine⟨λi x e=>?_,λi hi=>⟨vs,hq,by rw[<- r.length,<- HD];exact hi⟩⟩;obtain⟨y,ey,rfl⟩:=HC e;obtain⟨v,ev,rv⟩:=r2.get' ey;refine⟨⟨vs,v,hq,ev⟩,λv' H3 y=>?_⟩;obtain⟨p,w,hn,rfl,rfl,y⟩:=y;have:=y vs hq;rw[ev] at this;cases this;exact⟨Same.lay1 hn,AG (hf p hn) hn (.cons rfl (.one rv))⟩
 |_=>exact p1.elim
def zipP (xs ys:List PV):List PV:=(xs.zip ys).map λy=>.tup [y.1,y.2]
def BW (b:Bool):PV->Option (List PV)
 |.lst xs=>if b then some xs else none
 |.tup xs=>if b then none else some xs
 |_=>none
theorem RT {b:Bool}(h:BW b x=some xs):x=(match b with|true=>.lst xs|false=>.tup xs):=by
 cases x <;> cases b <;> simp[BW] at h <;> simp[h]
theorem Ly {b:Bool}(h:BW b x=some xs)(r:Rep K G H x v):∃a vs,v=.ref a/\a∉G.M/\Reps K G H xs vs/\∀H2,(∀c o,c∉G.M->H c=some o->H2 c=some o)->SqB b K H2 a vs:=by
 rw[RT h] at r;cases b with
 | true =>
  obtain⟨a,vs,e,t,r⟩:=r;exact⟨a,vs,e,t.1,r,λH2 hk=>SqL.of (hk a _ t.1 t.2)⟩
 | false =>
  obtain⟨a,vs,e,t,r⟩:=r;exact⟨a,vs,e,t.1,r,λH2 hk=>SqT.of (hk a _ t.1 t.2)⟩
def qZip (b1 b2:Bool)(pa pb:pE):pA:=λenv n R=>pa env n λx jc n1=>pb jc n1 λy jd n2=>match BW b1 x,BW b2 y with|some xs,some ys=>R (zipP xs ys) jd n2|_,_=>False
theorem RU (xs ys:List PV):(zipP xs ys).length=min xs.length ys.length:=by simp[zipP]
theorem RW {xs ys:List PV}{i:Nat}{x:PV}(h:(zipP xs ys)[i]?=some x):∃u v,xs[i]?=some u/\ys[i]?=some v/\x=.tup [u,v]:=by grind [PV,zipP]
theorem Lz (b1 b2:Bool)(hg:∀z,Gl (F z) "zip")(hm:∀z,(F z).mg "zip"=none)(ha:QE T K F a pa)(hb:QE T K F b pb)(hs:F5 a=true:=by rfl)(hs2:F5 b=true:=by rfl)(hK:∀z,(F z).K=K:=by intro _;rfl):QI T K F (.Tuple elts x1 tpos) (.Call (.Name "zip" p) [a,b] [] pos) (qZip b1 b2 pa pb):=by
 obtain⟨t,h1,h2⟩:=ha;obtain⟨u,h3,h4⟩:=hb;refine⟨_,λz=>hK z▸RS b1 b2 (hg z) (hm z) (E9 (h1 z) (E9 (h3 z) G7 (D0 hs2)) (D0 hs)) (by rw[D0 hs,D0 hs2];rfl) (by rw[D0 hs2];rfl),λC G σ H env n R Q hK hT S hp k=>?_⟩;refine h2 C G σ H env n _ _ hK hT S hp λx jc n1 v H1 p1 S1 r1 f1=>?_;refine h4 C G σ H1 jc n1 _ _ hK hT S1 p1 λy jd n2 w H2 p2 S2 r2 f2=>?_
 split at p2
 ·rename_i xs ys ex ey;obtain⟨a,vs,rfl,na,ra,sa⟩:=Ly ex (r1.fr f2);obtain⟨c,us,rfl,nc,rc,scq⟩:=Ly ey r2;refine⟨a,c,rfl,⟨vs,sa H2 λ_ _ _ e=>e⟩,⟨us,scq H2 λ_ _ _ e=>e⟩,k _ _ _ _ _ p2 S2 (f1.trans f2) ?_⟩;intro G2 H3 hk hM hp hf;have ra':Reps K G2 H3 xs vs:=Reps.mono hk hM hp _ _ ra;have rc':Reps K G2 H3 ys us:=Reps.mono hk hM hp _ _ rc;refine⟨λi x e=>?_,λi hi=>⟨vs,us,sa H3 hk,scq H3 hk,by rw[<- ra.length,<- rc.length,<- RU];exact hi⟩⟩;obtain⟨u,v,eu,ev,rfl⟩:=RW e;obtain⟨u',eu',ru⟩:=ra'.get' eu;obtain⟨v',ev',rv⟩:=rc'.get' ev;refine⟨⟨vs,us,u',v',sa H3 hk,scq H3 hk,eu',ev'⟩,λx' H4 y=>?_⟩;obtain⟨p,u2,v2,hn,rfl,rfl,y1,y2⟩:=y;have q1:=y1 vs (sa H3 hk);have q2:=y2 us (scq H3 hk);rw[eu'] at q1;rw[ev'] at q2;cases q1;cases q2;exact⟨Same.lay1 hn,AG (hf p hn) hn (.cons ru (.one rv))⟩
 ·exact p2.elim
end
end Pu
end
section
namespace Pu
open PySem PySem.Spec L2
theorem LA {te:pE}{rest:Env}{α:Type}(f:α->PV)(g:α->PV):∀(xs:List α) (s0:Option Slot) (n:Nat) (R:List PV->Nat->Prop),(∀x∈xs,∀m Q,Q (g x) (some (.v (f x))::rest) m->te (some (.v (f x))::rest) m Q)->R (xs.map g) n->U5 (gN 0) qTru te (xs.map f) (s0::rest) n R
 |[],_,_,_,_,h=>h
 | x :: xs, s0, n, R, ht, h => by
  show te (some (.v (f x))::rest) n _;refine ht x C7 n _ ?_;exact LA f g xs _ n _ (λy hy=>ht y (C3 _ hy)) h
theorem Fm {te:pE}{rest:Env}{α:Type}(u v g:α->PV):∀(xs:List α) (s0 s1:Option Slot) (n:Nat) (R:List PV->Nat->Prop),(∀x∈xs,∀m Q,Q (g x) (some (.v (u x))::some (.v (v x))::rest) m->te (some (.v (u x))::some (.v (v x))::rest) m Q)->R (xs.map g) n->U5 (gTp 2 (gCn (gN 0) (gCn (gN 1) gNl))) qTru te (xs.map λx=>.tup [u x,v x]) (s0::s1::rest) n R
 |[],_,_,_,_,_,h=>h
 | x :: xs, s0, s1, n, R, ht, h => by
  refine⟨rfl,?_⟩;show te (some (.v (u x))::some (.v (v x))::rest) n _;refine ht x C7 n _ ?_;exact Fm u v g xs _ _ n _ (λy hy=>ht y (C3 _ hy)) h
end Pu
end
section
namespace L2
open PySem PySem.W PyProof.Rows
namespace Kr
def run {α:Type}(lt:Nat->Nat->Bool):KasT α->α
 |.ret a=>a
 |.ask i j k=>run lt (k (lt i j))
theorem BX {α β:Type}(lt:Nat->Nat->Bool)(f:α->KasT β):∀t:KasT α,run lt (t.bind f)=run lt (f (run lt t))
 |.ret a=>rfl
 |.ask i j k=>BX lt f (k (lt i j))
structure Ord (lt:Nat->Nat->Bool):Prop where
 ir:∀a,lt a a=false
 tr:∀a b c,lt a b=true->lt b c=true->lt a c=true
 nt:∀a b c,lt a c=true->lt a b=true\/lt b c=true
variable {lt:Nat->Nat->Bool}(O:Ord lt)
include O
theorem Ord.as (h:lt a b=true):lt b a=false:=by
 cases e:lt b a with
 |false=>rfl
 |true=>have:=O.tr _ _ _ h e;rw[O.ir] at this;cases this
theorem Ord.le (h1:lt b a=false)(h2:lt c b=false):lt c a=false:=by
 cases e:lt c a with
 |false=>rfl
 |true=>rcases O.nt c b a e with h|h <;> simp_all
theorem Ord.l1 (h1:lt a b=true)(h2:lt c b=false):lt a c=true:=by
 rcases O.nt a c b h1 with h|h
 ·exact h
 ·rw[h2] at h;cases h
theorem Ord.l2 (h1:lt b a=false)(h2:lt b c=true):lt a c=true:=by
 rcases O.nt b a c h2 with h|h
 ·rw[h1] at h;cases h
 ·exact h
omit O
def g (p:Array Nat)(i:Nat):Nat:=p.getD i 0
theorem g_eq (p:Array Nat)(i:Nat):g p i=(p[i]?).getD 0:=by unfold g;rw[Ay]
theorem j8 (h:j<=p.size)(k:Nat):g (Q6 p i j) k=if i<=k/\k<j then g p (i+j-1-k) else g p k:=by
 unfold Q6;rw[g_eq,getElem?_mirror_all h]
 split <;> rw[g_eq]
theorem g_bub (h:k<p.size)(hl:l<=k)(i:Nat):g (bubble p k (k-l)) i=if i=l then g p k else if l<i/\i<=k then g p (i-1) else g p i:=by
 rw[g_eq,getElem?_bubble h (k-l) (by omega),show k-(k-l)=l by omega]
 split
 ·rw[g_eq]
 ·split <;> rw[g_eq]
theorem AT (p:Array Nat)(i j:Nat):(Q6 p i j).size=p.size:=mirror_size _ _ _ _
theorem DE (p:Array Nat)(i j:Nat):(Q6 p i j).Perm p:=mirror_perm _ _ _ _
def S (lt:Nat->Nat->Bool)(p:Array Nat)(k:Nat):Prop:=∀i j,i<=j->j<k->lt (g p j) (g p i)=false
def D (lt:Nat->Nat->Bool)(p:Array Nat)(k:Nat):Prop:=∀i j,i<=j->j<k->lt (g p i) (g p j)=false
def B (lt:Nat->Nat->Bool)(p:Array Nat)(a k:Nat):Prop:=∀i j,a<=i->i<k->a<=j->j<k->lt (g p i) (g p j)=false
include O
theorem S_succ (h:S lt p n)(hn:1<=n)(hl:lt (g p n) (g p (n-1))=false):S lt p (n+1):=by
 intro i j hij hj;rcases Nat.lt_succ_iff_lt_or_eq.mp hj with h1|h1
 ·exact h i j hij h1
 ·subst h1;rcases Nat.lt_or_eq_of_le hij with h2|h2
  ·exact O.le (h i (j-1) (by omega) (by omega)) hl
  ·rw[h2];exact O.ir _
theorem Ig (p:Array Nat):∀(f n:Nat),1<=n->S lt p n->n<=run lt (U1 p f n)/\run lt (U1 p f n)<=n+f/\S lt p (run lt (U1 p f n))/\(run lt (U1 p f n)=n+f\/lt (g p (run lt (U1 p f n))) (g p (run lt (U1 p f n)-1))=true)
 |0,n,hn,h=>⟨B8 _,B8 _,h,.inl rfl⟩
 | f + 1, n, hn, h => by
  show n<=run lt (if lt (g p n) (g p (n-1))=true then .ret n else U1 p f (n+1))/\run lt (if lt (g p n) (g p (n-1))=true then .ret n else U1 p f (n+1))<=n+(f+1)/\S lt p (run lt (if lt (g p n) (g p (n-1))=true then .ret n else U1 p f (n+1)))/\(run lt (if lt (g p n) (g p (n-1))=true then .ret n else U1 p f (n+1))=n+(f+1)\/lt (g p (run lt (if lt (g p n) (g p (n-1))=true then .ret n else U1 p f (n+1)))) (g p (run lt (if lt (g p n) (g p (n-1))=true then .ret n else U1 p f (n+1))-1))=true);cases e:lt (g p n) (g p (n-1)) with
  | true =>
   rw[jr rfl];exact⟨B8 _,by show n<=_;omega,h,.inr e⟩
  | false =>
   rw[jt (by simp)];obtain⟨h1,h2,h3,h4⟩:=Ig p f (n+1) (by omega) (S_succ O h hn e);exact⟨by omega,by omega,h3,h4.imp (λx=>by omega) id⟩
theorem D_rev (hn:n<=p.size)(h:D lt p n)(hb:B lt p a n):D lt (Q6 p a n) n:=by
 intro i j hij hj;rw[j8 hn,j8 hn]
 by_cases c1:a<=i
 ·rw[jr ⟨c1,by omega⟩,jr ⟨by omega,hj⟩];exact hb _ _ (by omega) (by omega) (by omega) (by omega)
 ·rw[jt (by omega)]
  by_cases c2:a<=j
  ·rw[jr ⟨c2,hj⟩];exact h _ _ (by omega) (by omega)
  ·rw[jt (by omega)];exact h _ _ hij hj
theorem DF (h:D lt p n)(hn:1<=n)(hl:lt (g p (n-1)) (g p n)=false):D lt p (n+1):=by
 intro i j hij hj;rcases Nat.lt_succ_iff_lt_or_eq.mp hj with h1|h1
 ·exact h i j hij h1
 ·subst h1;rcases Nat.lt_or_eq_of_le hij with h2|h2
  ·exact O.le hl (h i (j-1) (by omega) (by omega))
  ·rw[h2];exact O.ir _
theorem Fn:∀(f:Nat) (p:Array Nat) (n q:Nat),q + 1<=n->n + f<=p.size->D lt p n->B lt p (n - (q + 1)) n->
   ∃p' n' q',run lt (c8 f p n q)=(p',n',q')/\p'.Perm p/\p'.size=p.size/\n<=n'/\n'<=n+f/\q'+1<=n'/\D lt p' n'/\B lt p' (n'-(q'+1)) n'
 |0,p,n,q,hq,hs,h,hb=>⟨p,n,q,rfl,BB _,rfl,B8 _,B8 _,hq,h,hb⟩
 | f + 1, p, n, q, hq, hs, h, hb => by
  have one:∀p n,B lt p (n+1-(0+1)) (n+1):=λp n i j h1 h2 h3 h4=>by
   have:i=j:=by omega
   rw[this];exact O.ir _
  cases e:lt (g p n) (g p (n-1)) with
  | true =>
   by_cases c:q>0
   ·have hd:=D_rev O (by omega:n<=p.size) h hb;have e1:g (Q6 p (n-(q+1)) n) n=g p n:=by rw[j8 (by omega),jt (by omega)]
    have e2:g (Q6 p (n-(q+1)) n) (n-1)=g p (n-(q+1)):=by rw[j8 (by omega),jr (by omega)];congr 1;omega
    have e3:lt (g p (n-(q+1))) (g p n)=false:=O.as (O.l1 e (hb _ _ (by omega) (by omega) (by omega) (by omega)));obtain⟨p',n',q',a1,a2,a3,a4,a5,a6,a7,a8⟩:=Fn f (Q6 p (n-(q+1)) n) (n+1) 0 (by omega) (by rw[AT];omega) (DF O hd (by omega) (by rw[e1,e2];exact e3)) (one _ _);refine⟨p',n',q',?_,a2.trans (DE _ _ _),by rw[a3,AT],by omega,by omega,a6,a7,a8⟩;show run lt (if lt (g p n) (g p (n-1))=true then(if q>0 then c8 f (Q6 p (n-(q+1)) n) (n+1) 0 else c8 f p (n+1) 0) else _)=_;rw[jr e,jr c];exact a1
   ·obtain⟨p',n',q',a1,a2,a3,a4,a5,a6,a7,a8⟩:=Fn f p (n+1) 0 (by omega) (by omega) (DF O h (by omega) (O.as e)) (one _ _);refine⟨p',n',q',?_,a2,a3,by omega,by omega,a6,a7,a8⟩;show run lt (if lt (g p n) (g p (n-1))=true then(if q>0 then c8 f (Q6 p (n-(q+1)) n) (n+1) 0 else c8 f p (n+1) 0) else _)=_;rw[jr e,jt c];exact a1
  | false =>
   cases e':lt (g p (n-1)) (g p n) with
   | true =>
    refine⟨p,n,q,?_,BB _,rfl,B8 _,by omega,hq,h,hb⟩;show run lt (if lt (g p n) (g p (n-1))=true then _ else KasT.ask (g p (n-1)) (g p n) λd=>if d=true then .ret (p,n,q) else c8 f p (n+1) (q+1))=_;rw[jt (by rw[e];simp)];show run lt (if lt (g p (n-1)) (g p n)=true then .ret (p,n,q) else c8 f p (n+1) (q+1))=_;rw[jr e'];rfl
   | false =>
    have hb':B lt p (n+1-(q+1+1)) (n+1):=by
     have up:∀i,n-(q+1)<=i->i<n->lt (g p i) (g p n)=false/\lt (g p n) (g p i)=false:=λi h1 h2=>
      ⟨O.le e' (hb i (n-1) h1 h2 (by omega) (by omega)),O.le (hb (n-1) i (by omega) (by omega) h1 h2) e⟩
     intro i j h1 h2 h3 h4
     by_cases ci:i<n
     ·by_cases cj:j<n
      ·exact hb i j (by omega) ci (by omega) cj
      ·rw[show j=n by omega];exact(up i (by omega) ci).1
     ·rw[show i=n by omega]
      by_cases cj:j<n
      ·exact(up j (by omega) cj).2
      ·rw[show j=n by omega];exact O.ir _
    obtain⟨p',n',q',a1,a2,a3,a4,a5,a6,a7,a8⟩:=Fn f p (n+1) (q+1) (by omega) (by omega) (DF O h (by omega) e') hb';refine⟨p',n',q',?_,a2,a3,by omega,by omega,a6,a7,a8⟩;show run lt (if lt (g p n) (g p (n-1))=true then _ else KasT.ask (g p (n-1)) (g p n) λd=>if d=true then .ret (p,n,q) else c8 f p (n+1) (q+1))=_;rw[jt (by rw[e];simp)];show run lt (if lt (g p (n-1)) (g p n)=true then .ret (p,n,q) else c8 f p (n+1) (q+1))=_;rw[jt (by rw[e'];simp)];exact a1
theorem S_of_D (hn:n<=p.size)(h:D lt p n):S lt (Q6 p 0 n) n:=by
 intro i j hij hj;rw[j8 hn,j8 hn,jr ⟨by omega,hj⟩,jr ⟨by omega,by omega⟩];exact h _ _ (by omega) (by omega)
theorem LB (h1:1<=n)(hn:n<=nrem)(hs:nrem<=p.size)(h:D lt p n) :
   ∃m p',run lt (kas_tail3 n nrem p)=(m,p')/\p'.Perm p/\p'.size=p.size/\1<=m/\m<=nrem/\S lt p' m:=by
 obtain⟨a1,a2,a3,_⟩:=Ig O (Q6 p 0 n) (nrem-n) n h1 (S_of_D O (by omega) h);refine⟨_,Q6 p 0 n,?_,DE _ _ _,AT _ _ _,?_,?_,a3⟩
 ·unfold kas_tail3;rw[BX];rfl
 ·omega
 ·omega
theorem LC (h1:1<=n)(hn:n+1<=nrem)(hs:nrem<=p.size)(h:D lt p (n+1)) :
   ∃m p',run lt (kas_descPart n nrem p)=(m,p')/\p'.Perm p/\p'.size=p.size/\1<=m/\m<=nrem/\S lt p' m:=by
 obtain⟨p',n',q',a1,a2,a3,a4,a5,a6,a7,a8⟩:=Fn O (nrem-(n+1)) p (n+1) 0 (by omega) (by omega) h (λi j h1 h2 h3 h4=>by
  have:i=j:=by omega
  rw[this];exact O.ir _)
 unfold kas_descPart;rw[BX,a1];dsimp only
 by_cases c:q'>0
 ·rw[jr c];obtain⟨m,p2,b1,b2,b3,b4,b5,b6⟩:=LB O (p:=Q6 p' (n'-(q'+1)) n') (n:=n') (nrem:=nrem) (by omega) (by omega) (by rw[AT];omega) (D_rev O (by omega) a7 a8);exact⟨m,p2,b1,(b2.trans (DE _ _ _)).trans a2,by rw[b3,AT,a3],b4,b5,b6⟩
 ·rw[jt c];obtain⟨m,p2,b1,b2,b3,b4,b5,b6⟩:=LB O (p:=p') (n:=n') (nrem:=nrem) (by omega) (by omega) (by omega) a7;exact⟨m,p2,b1,b2.trans a2,by rw[b3,a3],b4,b5,b6⟩
theorem RX (h1:1<=n)(hs:p.size=n):∃m p',run lt (kas_count n p)=(m,p')/\p'.Perm p/\p'.size=p.size/\1<=m/\m<=n/\S lt p' m:=by
 have s1:S lt p 1:=λi j h2 h3=>by
  have:i=j:=by omega
  rw[this];exact O.ir _
 obtain⟨a1,a2,a3,a4⟩:=Ig O p (n-1) 1 (B8 _) s1;unfold kas_count;rw[BX];generalize run lt (U1 p (n-1) 1)=k at a1 a2 a3 a4 ⊢
 by_cases c:k=n
 ·rw[jr (by rw[c];exact beq_self_eq_true n)];exact⟨k,p,rfl,BB _,rfl,a1,by omega,a3⟩
 ·rw[jt (by simpa using c)];have a5:lt (g p k) (g p (k-1))=true:=a4.resolve_left (by omega)
  by_cases c1:k>1
  ·rw[jr c1];show ∃m p',run lt (if lt (g p 0) (g p (k-1))=true then .ret (k,p) else kas_descPart k n (Q6 p 0 k))=(m,p')/\_;cases e:lt (g p 0) (g p (k-1)) with
   |true=>rw[jr rfl];exact⟨k,p,rfl,BB _,rfl,a1,by omega,a3⟩
   | false =>
    rw[jt (by simp)]
    have al:∀i j,i<k->j<k->lt (g p i) (g p j)=false:=λi j hi hj=>by
     have x1:=a3 j (k-1) (by omega) (by omega);have x2:=a3 0 i (by omega) hi;exact O.le (O.le x1 e) x2
    have hd:D lt (Q6 p 0 k) (k+1):=by
     refine DF O (λi j hij hj=>?_) a1 ?_
     ·rw[j8 (by omega),j8 (by omega),jr ⟨by omega,by omega⟩,jr ⟨by omega,hj⟩];exact al _ _ (by omega) (by omega)
     ·rw[j8 (by omega),j8 (by omega),jr ⟨by omega,by omega⟩,jt (by omega)];exact O.as (O.l1 a5 (al _ _ (by omega) (by omega)))
    obtain⟨m,p2,b1,b2,b3,b4,b5,b6⟩:=LC O (p:=Q6 p 0 k) (n:=k) (nrem:=n) a1 (by omega) (by rw[AT];omega) hd;exact⟨m,p2,b1,b2.trans (DE _ _ _),by rw[b3,AT],b4,b5,b6⟩
  ·rw[jt c1];have hk:k=1:=by omega
   subst hk
   exact LC O (B8 _) (by omega) (by omega) (DF O (λi j h2 h3=>by
    have:i=j:=by omega
    rw[this];exact O.ir _) (B8 _) (O.as a5))
theorem Ih {p:Array Nat}{k:Nat}(h:S lt p k):∀(f l r:Nat),l<=r->r<=k->r-l<=f->(∀i,i<l->lt (g p k) (g p i)=false)->(∀i,r<=i->i<k->lt (g p k) (g p i)=true)->
   run lt (V3 p k f l r)<=k/\(∀i,i<run lt (V3 p k f l r)->lt (g p k) (g p i)=false)/\(∀i,run lt (V3 p k f l r)<=i->i<k->lt (g p k) (g p i)=true)
 | 0, l, r, h1, h2, h3, h4, h5 => by
  have:l=r:=by omega
  subst this;exact⟨h2,h4,h5⟩
 | f + 1, l, r, h1, h2, h3, h4, h5 => by
  by_cases c:l>=r
  ·have:l=r:=by omega
   subst this;unfold V3;rw[jr c];exact⟨h2,h4,h5⟩
  ·have e:run lt (V3 p k (f+1) l r)=run lt (if lt (g p k) (g p ((l+r)/2))=true then V3 p k f l ((l+r)/2) else V3 p k f ((l+r)/2+1) r):=by
    conv=>lhs;unfold V3
    rw[jt c];rfl
   rw[e];cases e2:lt (g p k) (g p ((l+r)/2)) with
   | true =>
    rw[jr rfl];exact Ih h f l ((l+r)/2) (by omega) (by omega) (by omega) h4 λi i1 i2=>O.l1 e2 (h _ _ i1 i2)
   | false =>
    rw[jt (by simp)];exact Ih h f ((l+r)/2+1) r (by omega) h2 (by omega) (λi i1=>O.le (h i ((l+r)/2) (by omega) (by omega)) e2) h5
theorem LD:∀(f:Nat) (p:Array Nat) (k:Nat),k + f<=p.size->S lt p k->(run lt (kas_bin f p k)).Perm p/\(run lt (kas_bin f p k)).size=p.size/\S lt (run lt (kas_bin f p k)) (k + f)
 |0,p,k,_,h=>⟨BB _,rfl,h⟩
 | f + 1, p, k, hs, h => by
  obtain⟨a1,a2,a3⟩:=Ih O h k 0 k (by omega) (B8 _) (by omega) (λi z=>by omega) (λi z z2=>by omega)
  have e:run lt (kas_bin (f+1) p k)=run lt (kas_bin f (bubble p k (k-run lt (V3 p k k 0 k))) (k+1)):=by
   show run lt ((V3 p k k 0 k).bind λl=>kas_bin f (bubble p k (k-l)) (k+1))=_;rw[BX]
  rw[e];generalize run lt (V3 p k k 0 k)=l at a1 a2 a3 ⊢
  have hS:S lt (bubble p k (k - l)) (k + 1):=by
   intro i j hij hj;rw[g_bub (by omega) a1,g_bub (by omega) a1]
   by_cases ci:i=l
   ·rw[jr ci]
    by_cases cj:j=l
    ·rw[jr cj];exact O.ir _
    ·rw[jt cj,jr ⟨by omega,by omega⟩];exact O.as (a3 _ (by omega) (by omega))
   ·rw[jt ci]
    by_cases cj:j=l
    ·rw[jr cj,jt (by omega)];exact a2 _ (by omega)
    ·rw[jt cj]
     by_cases c2:l<j
     ·rw[jr ⟨c2,by omega⟩]
      by_cases c3:l<i
      ·rw[jr ⟨c3,by omega⟩];exact h _ _ (by omega) (by omega)
      ·rw[jt (by omega)];exact h _ _ (by omega) (by omega)
     ·rw[jt (by omega),jt (by omega)];exact h _ _ hij (by omega)
  obtain⟨b1,b2,b3⟩:=LD f (bubble p k (k-l)) (k+1) (by rw[bubble_size];omega) hS;exact⟨b1.trans (bubble_perm _ _ _),by rw[b2,bubble_size],by rw[show k+(f+1)=k+1+f by omega];exact b3⟩
theorem sort_ok (h1:1<=n):(run lt (R8 n)).Perm (List.toArray (D3 n))/\(run lt (R8 n)).size=n/\S lt (run lt (R8 n)) n:=by
 have hz:(List.toArray (D3 n)).size=n:=by simp
 obtain⟨m,p,a1,a2,a3,a4,a5,a6⟩:=RX O (p:=List.toArray (D3 n)) h1 hz;unfold R8;rw[BX,a1];dsimp only
 by_cases c:m<n
 ·rw[jr c,Nat.max_eq_left a4];obtain⟨b1,b2,b3⟩:=LD O (n-m) p m (by omega) a6;rw[show m+(n-m)=n by omega] at b3;exact⟨b1.trans a2,by rw[b2,a3,hz],b3⟩
 ·rw[jt c];have:m=n:=by omega
  subst this;exact⟨a2,by rw[<- hz,<- a3];rfl,a6⟩
omit O
def InQ {α:Type}(n:Nat)(Q:α->Prop):KasT α->Prop
 |.ret a=>Q a
 |.ask i j k=>i<n/\j<n/\∀b,InQ n Q (k b)
theorem BY {α β:Type}{n:Nat}{Q:α->Prop}{R:β->Prop}{f:α->KasT β}(hf:∀a,Q a->InQ n R (f a)):∀t:KasT α,InQ n Q t->InQ n R (t.bind f)
 |.ret a,h=>hf a h
 |.ask _ _ k,h=>⟨h.1,h.2.1,λb=>BY hf (k b) (h.2.2 b)⟩
def En (n:Nat)(p:Array Nat):Prop:=0<n/\p.Perm (List.toArray (D3 n))
theorem En.g {n:Nat}{p:Array Nat}(h:En n p)(i:Nat):p.getD i 0<n:=by
 by_cases c:i<p.size
 ·rw[show p.getD i 0=p[i] by simp[Array.getD,c]]
  simpa using h.2.mem_iff.mp (Array.getElem_mem c)
 ·rw[show p.getD i 0=0 by simp[Array.getD,c]];exact h.1
theorem En.perm {n:Nat}{p q:Array Nat}(h:En n p)(hp:q.Perm p):En n q:=⟨h.1,hp.trans h.2⟩
theorem En.rev (h:En n p)(i j:Nat):En n (Q6 p i j):=h.perm (DE _ _ _)
theorem Ii {n:Nat}{p:Array Nat}(h:En n p):∀f m,InQ n (λ_=>True) (U1 p f m)
 |0,_=>trivial
 | f + 1, m => ⟨h.g _, h.g _, fun b => by
  cases b with
  |true=>exact trivial
  |false=>exact Ii h f (m+1)⟩
theorem Fo {n:Nat}:∀f p m q,En n p->InQ n (λr=>En n r.1) (c8 f p m q)
 |0,_,_,_,h=>h
 | f + 1, p, m, q, h => ⟨h.g _, h.g _, fun b => by
  cases b with
  | true =>
   show InQ n _ (if q>0 then _ else _)
   by_cases c:q>0
   ·rw[jr c];exact Fo f _ _ _ (h.rev _ _)
   ·rw[jt c];exact Fo f _ _ _ h
  | false =>
   refine⟨h.g _,h.g _,λd=>?_⟩;cases d with
   |true=>exact h
   |false=>exact Fo f _ _ _ h⟩
theorem LE (h:En n p):InQ n (λr=>En n r.2) (kas_tail3 m k p):=by
 unfold kas_tail3;refine BY (Q:=λ_=>True) (λa _=>?_) _ (Ii (h.rev _ _) _ _);exact(h.rev _ _:En n _)
theorem LF (h:En n p):InQ n (λr=>En n r.2) (kas_descPart m k p):=BY (λr hr=>by
   by_cases c:r.2.2>0
   ·rw[jr c];exact LE (hr.rev _ _)
   ·rw[jt c];exact LE hr) _ (Fo _ _ _ _ h)
theorem RY (h:En n p):InQ n (λr=>En n r.2) (kas_count k p):=BY (λm _=>by
   by_cases c:(m == k)=true
   ·rw[jr c];exact h
   ·rw[jt c]
    by_cases c1:m>1
    ·rw[jr c1];refine⟨h.g _,h.g _,λb=>?_⟩;cases b with
     |true=>exact h
     |false=>exact LF (h.rev _ _)
    ·rw[jt c1];exact LF h) _ (Ii h _ _)
theorem Ij {n k:Nat}{p:Array Nat}(h:En n p):∀f l r,InQ n (λ_=>True) (V3 p k f l r)
 |0,_,_=>trivial
 | f + 1, l, r => by
  unfold V3
  by_cases c:l>=r
  ·rw[jr c];exact trivial
  ·rw[jt c];refine⟨h.g _,h.g _,λb=>?_⟩;cases b with
   |true=>exact Ij h f _ _
   |false=>exact Ij h f _ _
theorem LG {n:Nat}:∀f p k,En n p->InQ n (En n) (kas_bin f p k)
 |0,_,_,h=>h
 |f+1,p,k,h=>BY (λl _=>LG f _ _ (h.perm (bubble_perm _ _ _))) _ (Ij h k 0 k)
theorem sort_in {n:Nat}(h1:1<=n):InQ n (En n) (R8 n):=BY (λr hr=>by
   by_cases c:r.1<n
   ·rw[jr c];exact LG _ _ _ hr
   ·rw[jt c];exact hr) _ (RY ⟨h1,BB _⟩)
theorem wp_run {α:Type}{lt:Nat->Nat->Bool}{n:Nat}{P:α->Prop}{ask:Nat->Nat->(Bool->A5->Prop)->A5->Prop}{Q:α->A5->Prop}{s:A5}(h:∀i j C,i<n->j<n->C (lt i j) s->ask i j C s):∀t:KasT α,InQ n P t->Q (run lt t) s->t.kasWp ask Q s
 |.ret a,_,q=>q
 |.ask i j k,hi,q=>h i j _ hi.1 hi.2.1 (wp_run h (k (lt i j)) (hi.2.2 _) q)
theorem out_ok {α:Type}(lt:α->α->Bool)(O:(∀a,lt a a=false)/\(∀a b c,lt a b=true->lt b c=true->lt a c=true)/\(∀a b c,lt a c=true->lt a b=true\/lt b c=true))(d:α)(xs:List α)(h1:1<=xs.length) :
   let p:=run (λi j=>lt (xs.getD i d) (xs.getD j d)) (R8 xs.length)
   (p.toList.map λi=>xs.getD i d).Perm xs/\(p.toList.map λi=>xs.getD i d).Pairwise (λa b=>lt b a=false):=by
 intro p;have OO:Ord λi j=>lt (xs.getD i d) (xs.getD j d):=⟨λa=>O.1 _,λa b c=>O.2.1 _ _ _,λa b c=>O.2.2 _ _ _⟩;obtain⟨a1,a2,a3⟩:=sort_ok OO h1;constructor
 ·have hp:p.toList.Perm (D3 xs.length):=GG.mp a1;have:=hp.map λi=>xs.getD i d;refine this.trans (List.Perm.of_eq ?_)
  apply List.ext_getElem (by simp)
  intro i h2 h3;simp[h3]
 ·rw[e6];intro i j hi hj hij;have hi':i<p.size:=by simpa using hi
  have hj':j<p.size:=by simpa using hj
  have:=a3 i j (x4 hij) (by rw[<- a2];exact hj');simp only[List.getElem_map,Array.getElem_toList];have e1:g p i=p[i]:=by unfold g;simp[Array.getD,hi']
  have e2:g p j=p[j]:=by unfold g;simp[Array.getD,hj']
  have this':lt (xs.getD (g p j) d) (xs.getD (g p i) d)=false:=this;rw[e1,e2] at this';exact this'
end Kr
end L2
end
section
namespace L2
open PySem PySem.W PySem.Spec PyProof.Rows
def U8 (lt:Nat->Nat->Bool)(vs:List A3):List A3:=if vs.length<2 then vs else(Kr.run lt (R8 vs.length)).toList.map λi=>vs.getD i Q8
section
variable {prog:C8}{w:C4}{A:D5}{E:A3->A5->Prop}{s:A5}
def Fp (h h1:B6)(a:A1):Prop:=∀b o,b≠a->h.get? b=some o->h1.get? b=some o
theorem LH {a:A1}{vs:List A3}{n:Nat}{lt:Nat->Nat->Bool}{P:PySem.Fin->A5->Prop}(ho:s.heap.get? a=some (seqObj "list" vs.toArray n))(h64:vs.length<64)
   (hk:2<=vs.length->∀h1,Fp s.heap h1 a->∃κ,(∀Q:SortKind->A5->Prop,Q κ { s with heap:=h1 }->A6 (A7 prog w) A (keyKind' vs.toArray) Q E { s with heap:=h1 })/\∀i j (C:Bool->A5->Prop),i<vs.length->j<vs.length->C (lt i j) { s with heap:=h1 }->kas_ask prog w A κ vs i j C { s with heap:=h1 })
   (h:∀h2 e,Fp s.heap h2 a->h2.get? a=some (seqObj "list" (U8 lt vs).toArray e)->P (.done (.ret .none)) { s with heap:=h2 }):A6 (A7 prog w) A (L8.«list.sort» ⟨[.ref a],[]⟩) P E s:=by
 have ha:a<s.heap.objs.size:=D1 ho;have hsz:vs.toArray.size=vs.length:=by simp
 rw[list_sort_plain];refine A0 (listItems_at ho rfl ?_);refine A0 (listUpdate_at ho rfl ?_ (by rw[hsz,Q4];omega) (K3 _));obtain⟨e1,ho1⟩:∃e1,(s.heap.update a (T0 λ_=>(#[]:Array A3))).get? a=some (seqObj "list" #[] e1):=⟨_,get?_update_seq ho λ_=>#[]⟩;refine A0 (seqEpoch_at ho1 rfl ?_);refine A0 (wpAny_newTuple ?_ (by show vs.length<=_;rw[Q4];omega));refine A0 (wpAny_newList ?_ (K3 _));refine L6 ?_;show A6 (A7 prog w) A _ P E { s with heap:=((s.heap.update a (T0 λ_=>(#[]:Array A3))).push (seqObj "tuple" vs.toArray 0)).push (seqObj "list" #[] 0) };have ho3:=C0 (seqObj "list" #[] 0) (C0 (seqObj "tuple" vs.toArray 0) ho1)
 have k3:Fp s.heap (((s.heap.update a (T0 λ_=>(#[]:Array A3))).push (seqObj "tuple" vs.toArray 0)).push (seqObj "list" #[] 0)) a:=λb o hb e=>
  C0 _ (C0 _ (((X4 s.heap a (T0 λ_=>(#[]:Array A3))).2 b hb).trans e))
 generalize ((s.heap.update a (T0 λ_=>(#[]:Array A3))).push (seqObj "tuple" vs.toArray 0)).push (seqObj "list" #[] 0)=h3 at ho3 k3 ⊢;dsimp only
 have last:∀out:Array A3,out.size=vs.length->out=(U8 lt vs).toArray->∃e,(h3.update a (T0 λ_=>out)).get? a=some (seqObj "list" (U8 lt vs).toArray e)/\Fp s.heap (h3.update a (T0 λ_=>out)) a:=λout _ eo=>
  ⟨_,by rw[<- eo];exact get?_update_seq ho3 λ_=>out,λb o hb e=>((X4 h3 a (T0 λ_=>out)).2 b hb).trans (k3 b o hb e)⟩
 by_cases h2:vs.toArray.size<2
 ·rw[jr h2,jr h2];refine A0 (A8 ?_);rw[StateT.run_pure];refine A0 (A8 ?_);dsimp only
  have eo:(arrOf (SortSt.mk' general' (vs.toArray.zip vs.toArray) #[] 7 none)).map (·.2)=(U8 lt vs).toArray:=by
   have e2:(arrOf (SortSt.mk' general' (vs.toArray.zip vs.toArray) #[] 7 none))=vs.toArray.zip vs.toArray:=rfl;rw[e2];unfold U8;rw[jr (by omega)]
   apply Array.toList_inj.mp
   rw[Array.toList_map,Array.toList_zip];exact List.map_snd_zip (B8 _)
  obtain⟨e,x1,x2⟩:=last _ (by rw[eo];unfold U8;rw[jr (by omega)];simp) eo;refine A0 (seqEpoch_at ho3 rfl ?_);refine A0 (listUpdate_at ho3 rfl ?_ (K3 _) (by rw[eo];unfold U8;rw[jr (by omega),hsz,Q4];omega));simp only[bne_self_eq_false,L3,if_false];exact A8 (h _ e x2 x1)
 ·rw[jt h2,jt h2];have l2:2<=vs.length:=by omega
  obtain⟨κ,q1,q2⟩:=hk l2 h3 k3;refine A0 (q1 _ ?_);have wp:=Kr.wp_run (Q:=λp s'=>p=Kr.run lt (R8 vs.length)/\s'={ s with heap:=h3 }) (P:=Kr.En vs.length) q2 (R8 vs.length) (Kr.sort_in (by omega)) ⟨rfl,rfl⟩;refine A0 (J1 (kat_run (E:=E) (Q:=λst' s'=>∃p:Array Nat,p.size=vs.length/\arrOf st'=p.map (kas_item (vs.toArray.zip vs.toArray))/\failedOf st'=none/\p=Kr.run lt (R8 vs.length)/\s'={ s with heap:=h3 }) rfl l2 h64 (λp' st' s' a1 a2 a3 a4=>⟨p',a1,a2,a3,a4⟩) wp) ?_ λ_ _ e=>e);rintro⟨⟨⟩,st'⟩ s' ⟨p,hp,har,hf,ep,rfl⟩;dsimp only
  have eo:(arrOf st').map (·.2)=(U8 lt vs).toArray:=by
   rw[kat_snds rfl har,ep];unfold U8;rw[jt (by omega)]
  have so:((arrOf st').map (·.2)).size=vs.length:=by rw[eo];unfold U8;rw[jt (by omega),F7,B4,O6,<- ep,hp]
  obtain⟨e,x1,x2⟩:=last _ so eo;refine A0 (seqEpoch_at ho3 rfl ?_);refine A0 (listUpdate_at ho3 rfl ?_ (K3 _) (by rw[so,Q4];omega));rw[hf];simp only[bne_self_eq_false,L3,if_false];exact A8 (h _ e x2 x1)
theorem RZ (h64:vs.length<64)
   (hcol:∀(R:List A3->A5->Prop),(∀h1 tk,(∀b o,s.heap.get? b=some o->h1.get? b=some o)->s.heap.objs.size<=h1.objs.size->R vs { s with heap:=h1,toks:=tk })->A6 (A7 prog w) A.in1 (collect v) R E s)
   (hk:2<=vs.length->∀(A:D5) (E:A3->A5->Prop) h1 tk,(∀b o,s.heap.get? b=some o->h1.get? b=some o)->∃κ,(∀Q:SortKind->A5->Prop,Q κ { s with heap:=h1,toks:=tk }->A6 (A7 prog w) A (keyKind' vs.toArray) Q E { s with heap:=h1,toks:=tk })/\∀i j (C:Bool->A5->Prop),i<vs.length->j<vs.length->C (lt i j) { s with heap:=h1,toks:=tk }->kas_ask prog w A κ vs i j C { s with heap:=h1,toks:=tk })
   (h:∀h2 tk D e,(∀b o,s.heap.get? b=some o->h2.get? b=some o)->s.heap.objs.size<=D->h2.get? D=some (seqObj "list" (U8 lt vs).toArray e)->Q (.ref D) { s with heap:=h2,toks:=tk }) :
   A6 (A7 prog w) A (call (.builtin "sorted") [v]) Q E s:=by
 refine Calls.call_function_entry kind_sorted plain_sorted entry_sorted (args_sorted1 _) ?_;unfold L8.«sorted»;refine A0 (m:=checkCount "sorted" 1 1 _) (A8 ?_);refine A0 (hcol _ λh1 tk k1 z1=>?_);refine A0 (wpAny_newList ?_ (by rw[Q4];omega));have hoL:(h1.push (seqObj "list" vs.toArray 0)).get? h1.objs.size=some (seqObj "list" vs.toArray 0):=F2 _ rfl;have kL:∀b o,s.heap.get? b=some o->(h1.push (seqObj "list" vs.toArray 0)).get? b=some o:=λb o e=>C0 _ (k1 b o e);have ne:∀b o,s.heap.get? b=some o->b≠h1.objs.size:=λb o e=>F4 (O0 (D1 e) z1);refine A0 (L6 (P3 slot_list_sort ⟨_,hoL,rfl⟩ entry_list_sort ?body (args_list_sort _)))
 case body=>
  refine LH (lt:=lt) (s:={ s with heap:=h1.push (seqObj "list" vs.toArray 0),toks:=tk }) hoL h64 (λl2 h3 k3=>?_) λh3 e k3 e3=>?_
  ·exact hk l2 _ _ h3 tk λb o x=>k3 b o (ne b o x) (kL b o x)
  ·exact⟨_,rfl,A8 ⟨_,rfl,h h3 tk _ e (λb o x=>k3 b o (ne b o x) (kL b o x)) z1 e3⟩⟩
end
end L2
end
section
namespace L2
open PySem PySem.W PySem.Spec PyProof.Rows
def N6:Key->Key->Bool
 |.inl a,.inl b=>decide (a<b)
 |.inr a,.inr b=>decide (a.cps.toList<b.cps.toList)
 |.inl _,.inr _=>true
 |.inr _,.inl _=>false
def lexK:List Key->List Key->Bool
 |[],[]=>false
 |[],_::_=>true
 |_::_,[]=>false
 |x::xs,y::ys=>if x=y then lexK xs ys else N6 x y
theorem R_ {a b:Str}(h:a.cps.toList=b.cps.toList):a=b:=by
 cases a;cases b
 congr 1
 exact Array.toList_inj.mp h
theorem Ik (x:Key):N6 x x=false:=by
 cases x with
 |inl a=>exact jq (Int.lt_irrefl a)
 |inr a=>exact jq (List.lt_irrefl _)
theorem Sa (h1:N6 x y=true)(h2:N6 y z=true):N6 x z=true:=by
 cases x <;> cases y <;> cases z <;> simp only[N6,decide_eq_true_eq,reduceCtorEq] at * <;> first|omega|exact List.lt_trans h1 h2|skip
theorem Sc (h:x≠y):N6 x y=true\/N6 y x=true:=by
 cases x with
 | inl a =>
  cases y with
  | inl b =>
   have:a≠b:=λe=>h (by rw[e]);simp only[N6,decide_eq_true_eq];omega
  |inr b=>exact .inl rfl
 | inr a =>
  cases y with
  |inl b=>exact .inr rfl
  | inr b =>
   have hn:a.cps.toList≠b.cps.toList:=λe=>h (by rw[R_ e]);simp only[N6,decide_eq_true_eq]
   by_cases c:a.cps.toList<b.cps.toList
   ·exact .inl c
   ·by_cases c2:b.cps.toList<a.cps.toList
    ·exact .inr c2
    ·exact absurd (List.le_antisymm (List.not_lt.mp c2) (List.not_lt.mp c)) hn
theorem Il:∀x:List Key,lexK x x=false
 |[]=>rfl
 |x::xs=>by show(if x=x then lexK xs xs else _)=false;rw[jr rfl,Il xs]
theorem Fq:∀{x y z:List Key},lexK x y=true->lexK y z=true->lexK x z=true
 |[],[],_,h,_=>by cases h
 |[],_::_,[],_,h=>by cases h
 |[],_::_,_::_,_,_=>rfl
 |_::_,[],_,h,_=>by cases h
 |_::_,_::_,[],_,h=>by cases h
 | x :: xs, y :: ys, z :: zs, h1, h2 => by
  change (if x=y then lexK xs ys else N6 x y)=true at h1
  change (if y=z then lexK ys zs else N6 y z)=true at h2
  show(if x=z then lexK xs zs else N6 x z)=true
  by_cases c1:x=y
  ·rw[jr c1] at h1;subst c1
   by_cases c2:x=z
   ·rw[jr c2] at h2 ⊢;exact Fq h1 h2
   ·rw[jt c2] at h2 ⊢;exact h2
  ·rw[jt c1] at h1
   by_cases c2:y=z
   ·subst c2;rw[jt c1];exact h1
   ·rw[jt c2] at h2;have h3:=Sa h1 h2
    by_cases c3:x=z
    ·rw[c3,Ik] at h3;cases h3
    ·rw[jt c3];exact h3
theorem Im:∀{x y:List Key},x≠y->lexK x y=true\/lexK y x=true
 |[],[],h=>absurd rfl h
 |[],_::_,_=>.inl rfl
 |_::_,[],_=>.inr rfl
 | x :: xs, y :: ys, h => by
  show(if x=y then lexK xs ys else N6 x y)=true\/(if y=x then lexK ys xs else N6 y x)=true
  by_cases c:x=y
  ·rw[jr c,jr c.symm];exact Im λe=>h (by rw[c,e])
  ·rw[jt c,jt (λe=>c e.symm)];exact Sc c
theorem LI {x y z:List Key}(h:lexK x z=true):lexK x y=true\/lexK y z=true:=by
 by_cases c:x=y
 ·grind
 ·rcases Im c with h1|h1
  ·grind
  ·exact .inr (Fq h1 h)
theorem Io (h1:lexK x y=false)(h2:lexK y x=false):x=y:=by
 by_cases c:x=y
 ·exact c
 ·rcases Im c with h|h
  ·grind
  ·grind
def Al:List Key->List Key->Prop
 |.inl _::xs,.inl _::ys=>Al xs ys
 |.inr _::xs,.inr _::ys=>Al xs ys
 |_::_,_::_=>False
 |_,_=>True
def KeyV:Key->A3->Prop
 |.inl i,v=>∃t,v=.int i t
 |.inr z,v=>∃t,v=.str z t
inductive z9:List Key->List A3->Prop
 |nil:z9 [] []
 |cons {k v ks vs} (h:KeyV k v) (t:z9 ks vs):z9 (k::ks) (v::vs)
section
variable {prog:C8}{w:C4}{A:D5}{E:A3->A5->Prop}{s:A5}
theorem Sd (hx:KeyV x u)(hy:KeyV y v)(al:Al (x::xs) (y::ys))(h:Q (decide (x=y)) s):A6 (A7 prog w) A (eqBool u v) Q E s:=by
 cases x with
 | inl a =>
  cases y with
  | inl b =>
   obtain⟨t,rfl⟩:=hx;obtain⟨t',rfl⟩:=hy;refine wpAny_eqBool_int ?_
   have e:(a == b)=decide ((O7 a:Key)=.inl b):=by
    rw[CM];exact decide_eq_decide.mpr ⟨λe=>by rw[e],λe=>by injection e⟩
   rw[e];exact h
  |inr b=>exact al.elim
 | inr a =>
  cases y with
  |inl b=>exact al.elim
  | inr b =>
   obtain⟨t,rfl⟩:=hx;obtain⟨t',rfl⟩:=hy;refine eqBool_str ?_
   have e:(a == b)=decide ((D8 a:Key)=.inr b):=by
    rw[CM];exact decide_eq_decide.mpr ⟨λe=>by rw[e],λe=>by injection e⟩
   rw[e];exact h
theorem lt_key (hx:KeyV x u)(hy:KeyV y v)(al:Al (x::xs) (y::ys))(h:Q (.bool (N6 x y)) s):A6 (A7 prog w) A (L7 .Lt u v) Q E s:=by
 cases x with
 | inl a =>
  cases y with
  | inl b =>
   obtain⟨t,rfl⟩:=hx;obtain⟨t',rfl⟩:=hy;exact PyProof.Rows.lt_int h
  |inr b=>exact al.elim
 | inr a =>
  cases y with
  |inl b=>exact al.elim
  | inr b =>
   obtain⟨t,rfl⟩:=hx;obtain⟨t',rfl⟩:=hy;exact PyProof.Rows.lt_str h
theorem Ip (hx:KeyV x u)(hy:KeyV y v)(al:Al (x::xs) (y::ys))(h:Q (N6 x y) s):A6 (A7 prog w) A (oneLt' b u v) Q E s:=by
 cases b with
 |false=>exact kat_one u v (lt_key hx hy al h)
 | true =>
  cases x with
  | inl a =>
   cases y with
   | inl b =>
    obtain⟨t,rfl⟩:=hx;obtain⟨t',rfl⟩:=hy;exact oneLt_int h
   |inr b=>exact al.elim
  | inr a =>
   cases y with
   |inl b=>exact al.elim
   | inr b =>
    obtain⟨t,rfl⟩:=hx;obtain⟨t',rfl⟩:=hy;exact oneLt_str h
theorem Sf:∀{xs ys:List Key} {us vs:List A3} (i:Nat),z9 xs us->z9 ys vs->Al xs ys->fin=decide (us.length<vs.length)->Q (lexK xs ys) s->KatLex prog w A b fin Q (us.zip vs) i s:=by
 intro xs
 induction xs with
 | nil =>
  intro ys us vs i hx hy al hf h;cases hx;refine kat_nil ?_;cases hy with
  |nil=>rw[hf];exact h
  |cons _ _=>rw[hf];exact h
 | cons x xs ih =>
  intro ys us vs i hx hy al hf h;cases hx with
  | @cons _ u _ us' hx1 hx2 =>
   cases hy with
   |nil=>rw[List.zip_nil_right];refine kat_nil ?_;rw[hf];exact h
   | @cons y v ys' vs' hy1 hy2 =>
    rw[CC];refine kat_cons (Sd hx1 hy1 al ?_);have h':Q (if x=y then lexK xs ys' else N6 x y) s:=h
    by_cases c:x=y
    ·rw[jp c];rw[jr c] at h';refine kat_yes (ih (i+1) hx2 hy2 ?_ ?_ h')
     ·cases x <;> cases y <;> first|exact al|exact al.elim
     ·rw[hf,E8,E8];exact decide_eq_decide.mpr (by omega)
    ·rw[jq c];rw[jt c] at h';exact kat_no (Ip hx1 hy1 al h')
def TupK (h:B6)(v:A3)(ks:List Key):Prop:=∃a o items n,v=.ref a/\h.get? a=some o/\o.cls=.type "tuple"/\o.data=.seq items n/\z9 ks items.toList
theorem Sg (hx:TupK s.heap u xs)(hy:TupK s.heap v ys)(al:Al xs ys)(h:Q (lexK xs ys) s):A6 (A7 prog w) A (keyLt' (tuples' b) u v) Q E s:=by
 obtain⟨a,o,items,n,rfl,ho,hc,hd,hk⟩:=hx;obtain⟨a',o',jm,n',rfl,ho',hc',hd',hk'⟩:=hy;exact kat_lt ho hd ho' hd' (Sf 0 hk hk' al (by rw[O6,O6]) h)
end
end L2
end
section
namespace L2
open PySem PySem.W PySem.Spec PyProof.Rows
theorem Iq:∀{ks:List Key} {us:List A3},Vals (ks.map kV) us->z9 ks us
 |[],_,h=>by cases h;exact .nil
 | .inl i :: ks, _, h => by
  cases h with
  |cons h1 h2=>exact .cons h1 (Iq h2)
 | .inr z :: ks, _, h => by
  cases h with
  |cons h1 h2=>exact .cons h1 (Iq h2)
section
variable {X:Cx}
theorem Ir (I:Inv X jb σ H s)(h:SqT X.K H a (ks.map kV)):TupK s.heap (.ref a) ks:=by
 obtain⟨jf,r,⟨o,ho,hc,n,hd⟩,_⟩:=I.tuple h;exact⟨a,o,jf.toArray,n,rfl,ho,hc,hd,Iq r⟩
theorem TupK.keep (t:TupK h v ks)(k:∀b o,h.get? b=some o->h'.get? b=some o):TupK h' v ks:=by
 obtain⟨a,o,jf,n,e,ho,hc,hd,hk⟩:=t;exact⟨a,o,jf,n,e,k _ _ ho,hc,hd,hk⟩
def KM (K:A9)(H:Hp):Nat->V->List Key->Prop
 |0,y,ks=>∃i,y=.int i/\ks=[.inl i]
 |1,y,ks=>∃z,y=.str z/\ks=[.inr z]
 |_,y,ks=>∃a,y=.ref a/\SqT K H a (ks.map kV)/\ks≠[]
def Kv1 (h:B6):Nat->A3->List Key->Prop
 |0,u,ks=>∃i t,u=.int i t/\ks=[.inl i]
 |1,u,ks=>∃z t,u=.str z t/\ks=[.inr z]
 |_,u,ks=>TupK h u ks/\ks≠[]
def ltIx (jo:List (List Key))(i j:Nat):Bool:=lexK (jo.getD i []) (jo.getD j [])
theorem Fs (jo:List (List Key)):Kr.Ord (ltIx jo):=⟨λ_=>Il _,λ_ _ _ h1 h2=>Fq h1 h2,λ_ _ _ h=>LI h⟩
def Aa (jo:List (List Key)):Prop:=∀x∈jo,∀y∈jo,Al x y
theorem kv1_of (I:Inv X jb σ H s)(m:Nat)(a:Vals ys vs)(b:Paired (KM X.K H m) ys jo):Paired (Kv1 s.heap m) vs jo:=by
 induction a generalizing jo with
 |nil=>cases b;exact .nil
 | cons h1 _ ih => cases b with
  | cons h2 r2 =>
   refine .cons ?_ (ih r2);rcases m with _|_|m
   ·obtain⟨i,e1,e2⟩:=h2;subst e1;obtain⟨t,rfl⟩:=h1;exact⟨i,t,rfl,e2⟩
   ·obtain⟨i,e1,e2⟩:=h2;subst e1;obtain⟨t,rfl⟩:=h1;exact⟨i,t,rfl,e2⟩
   ·obtain⟨a,e1,e2,e3⟩:=h2;subst e1;cases h1;exact⟨Ir I e2,e3⟩
theorem Kv1.keep (k:∀b o,h.get? b=some o->h'.get? b=some o)(m:Nat)(x:Kv1 h m u ks):Kv1 h' m u ks:=by
 match m,x with
 |0,x=>exact x
 |1,x=>exact x
 |_+2,x=>exact⟨x.1.keep k,x.2⟩
theorem AU {α β:Type}{F:α->β->Prop}{xs:List α}{ys:List β}(h:Paired F xs ys)(d:α)(e:β):∀i,i<xs.length->F (xs.getD i d) (ys.getD i e):=by
 induction h with
 |nil=>intro i hi;exact absurd hi (Eo _)
 | cons h1 _ ih =>
  intro i hi;cases i with
  |zero=>exact h1
  |succ i=>exact ih i (Nat.lt_of_succ_lt_succ hi)
theorem LJ {α β:Type}{F:α->β->Prop}{xs:List α}{ys:List β}(h:Paired F xs ys):∀x∈xs,∃y∈ys,F x y:=by
 induction h with
 |nil=>intro x hx;cases hx
 | cons h1 _ ih =>
  intro x hx;rcases C5.mp hx with rfl|hx
  ·exact⟨_,C7,h1⟩
  ·obtain⟨y,hy,hf⟩:=ih x hx;exact⟨y,C3 _ hy,hf⟩
theorem Sh (p:Paired (Kv1 h (m+2)) vs jo):∃fs,KatTups h vs fs/\fs.length=vs.length/\∀f∈fs,∃k r,(k::r)∈jo/\KeyV k f:=by
 induction p with
 |nil=>exact⟨[],trivial,rfl,λ_ z=>nomatch z⟩
 | cons h1 _ ih =>
  obtain⟨⟨a,o,jf,n,rfl,ho,hc,hd,hk⟩,hne⟩:=h1;obtain⟨fs,t,hl,hf⟩:=ih;cases e:jf.toList with
  |nil=>rw[e] at hk;cases hk;exact absurd rfl hne
  | cons f us =>
   rw[e] at hk;cases hk with
   | @cons k _ ks _ h2 h3 =>
    have ef:jf[0]?=some f:=by rw[<- V8,e];rfl
    refine⟨f::fs,KatTups.cons ho hc hd ef t,by rw[E8,E8,hl],λg hg=>?_⟩;rcases C5.mp hg with rfl|hg
    ·exact⟨k,ks,C7,h2⟩
    ·obtain⟨k',r',h4,h5⟩:=hf g hg;exact⟨k',r',C3 _ h4,h5⟩
theorem LK {s:A5}(h2:2<=vs.length)(p:Paired (Kv1 s.heap m) vs jo)(al:Aa jo)(A:D5)(E:A3->A5->Prop)(h1:B6)(tk:Nat)(k:∀b o,s.heap.get? b=some o->h1.get? b=some o) :
   ∃κ,(∀Q:SortKind->A5->Prop,Q κ { s with heap:=h1,toks:=tk }->A6 (A7 prog w) A (keyKind' vs.toArray) Q E { s with heap:=h1,toks:=tk })/\∀i j (C:Bool->A5->Prop),i<vs.length->j<vs.length->C (ltIx jo i j) { s with heap:=h1,toks:=tk }->kas_ask prog w A κ vs i j C { s with heap:=h1,toks:=tk }:=by
 have p1:Paired (Kv1 h1 m) vs jo:=Paired.imp' (λ_ _ x=>x.keep k m) p;have lk:=CY p1
 have mem:∀i,i<vs.length->jo.getD i []∈jo:=λi hi=>by
  rw[d8,D9 (by omega)];exact Bi _
 match m,p1 with
 | 0, p1 =>
  refine⟨oneType',λQ q=>kas_kind (T:=.type "int") h2 (λv hv=>?_) rfl rfl q,λi j C hi hj c=>?_⟩
  ·obtain⟨ks,_,i,t,rfl,_⟩:=LJ p1 v hv;exact Looks.of_pure rfl
  ·obtain⟨a,t,e1,e2⟩:=AU p1 .none [] i hi;obtain⟨b,t',e3,e4⟩:=AU p1 .none [] j hj;unfold kas_ask;unfold ltIx at c;rw[e1,e3,keyLt'_oneType];rw[e2,e4] at c;refine Ip (x:=.inl a) (y:=.inl b) (xs:=[]) (ys:=[]) ⟨t,rfl⟩ ⟨t',rfl⟩ trivial ?_
   have e:lexK [.inl a] [.inl b]=N6 (.inl a) (.inl b):=by
    show(if(O7 a:Key)=.inl b then false else N6 (.inl a) (.inl b))=_
    by_cases c:(O7 a:Key)=.inl b
    ·rw[jr c,c,Ik]
    ·rw[jt c]
   rw[<- e];exact c
 | 1, p1 =>
  refine⟨oneType',λQ q=>kas_kind (T:=.type "str") h2 (λv hv=>?_) rfl rfl q,λi j C hi hj c=>?_⟩
  ·obtain⟨ks,_,i,t,rfl,_⟩:=LJ p1 v hv;exact Looks.of_pure rfl
  ·obtain⟨a,t,e1,e2⟩:=AU p1 .none [] i hi;obtain⟨b,t',e3,e4⟩:=AU p1 .none [] j hj;unfold kas_ask;unfold ltIx at c;rw[e1,e3,keyLt'_oneType];rw[e2,e4] at c;refine Ip (x:=.inr a) (y:=.inr b) (xs:=[]) (ys:=[]) ⟨t,rfl⟩ ⟨t',rfl⟩ trivial ?_
   have e:lexK [.inr a] [.inr b]=N6 (.inr a) (.inr b):=by
    show(if(D8 a:Key)=.inr b then false else N6 (.inr a) (.inr b))=_
    by_cases c:(D8 a:Key)=.inr b
    ·rw[jr c,c,Ik]
    ·rw[jt c]
   rw[<- e];exact c
 | m' + 2, p1 =>
  obtain⟨fs,kt,fl,hf⟩:=Sh p1
  have asks:∀b i j (C:Bool->A5->Prop),i<vs.length->j<vs.length->C (ltIx jo i j) { s with heap:=h1,toks:=tk }->kas_ask prog w A (tuples' b) vs i j C { s with heap:=h1,toks:=tk }:=λb i j C hi hj c=>by
   have x1:=AU p1 .none [] i hi;have x2:=AU p1 .none [] j hj;exact Sg (s:={ s with heap:=h1,toks:=tk }) x1.1 x2.1 (al _ (mem i hi) _ (mem j hj)) c
  obtain⟨f0,fr,rfl⟩:∃f0 fr,fs=f0::fr:=by
   cases fs with
   |nil=>rw[<- fl] at h2;exact absurd h2 (by simp)
   |cons a r=>exact⟨a,r,rfl⟩
  obtain⟨k0,r0,m0,v0⟩:=hf f0 C7
  have all:∀T:String,(∀f k r,(k::r)∈jo->KeyV k f->typeOf f=pure (.type T))->∀v∈f0::fr,Looks (A7 prog w) h1 (typeOf v) (.type T):=λT hT v hv=>by
   obtain⟨k,r,h3,h4⟩:=hf v hv;exact Looks.of_pure (hT v k r h3 h4)
  cases k0 with
  | inl i0 =>
   refine⟨tuples' (K1 "int" != K1 "tuple"),λQ q=>kat_kind (s:={ s with heap:=h1,toks:=tk }) kt (by simp) (all "int" λf k r h3 h4=>?_) rfl q,asks _⟩;cases k with
   |inl i=>obtain⟨t,rfl⟩:=h4;rfl
   |inr z=>exact(al _ m0 _ h3).elim
  | inr i0 =>
   refine⟨tuples' (K1 "str" != K1 "tuple"),λQ q=>kat_kind (s:={ s with heap:=h1,toks:=tk }) kt (by simp) (all "str" λf k r h3 h4=>?_) rfl q,asks _⟩;cases k with
   |inr i=>obtain⟨t,rfl⟩:=h4;rfl
   |inl z=>exact(al _ m0 _ h3).elim
def outV (lt:Nat->Nat->Bool)(ys:List V):List V:=if ys.length<2 then ys else(Kr.run lt (R8 ys.length)).toList.map λi=>ys.getD i .non
theorem LL (r:Vals ys vs)(O:Kr.Ord lt):Vals (outV lt ys) (U8 lt vs):=by
 unfold outV U8;rw[r.length]
 by_cases c:vs.length<2
 ·rw[jr c,jr c];exact r
 ·rw[jt c,jt c];obtain⟨a1,a2,_⟩:=Kr.sort_ok O (n:=vs.length) (by omega)
  have hm:∀i∈(Kr.run lt (R8 vs.length)).toList,i<vs.length:=λi hi=>by
   have:=(GG.mp a1).mem_iff.mp hi
   simpa using this
  generalize (Kr.run lt (R8 vs.length)).toList=is at hm
  induction is with
  |nil=>exact .nil
  | cons i is ih =>
   refine .cons ?_ (ih λj hj=>hm j (C3 _ hj));exact AU r .non .none i (by rw[r.length];exact hm i C7)
theorem Si:N1 X (.builtin "sorted") (λxs H Q=>∃p ys m jo,xs=[.ref p]/\SqL X.K H p ys/\ys.length<64/\Paired (KM X.K H m) ys jo/\Aa jo/\∀l,H l=none->Q (.ref l) (upd H l (.lst (outV (ltIx jo) ys)))):=by
 intro jb s σ H xs us Q I r h;obtain⟨p,ys,m,jo,rfl,hq,h64,hp,al,q⟩:=h;obtain⟨u,rfl,rx⟩:=AE r;cases rx;obtain⟨jf,r',pl,hz⟩:=I.list hq;have hlen:=r'.length;have pk:=kv1_of I m r' hp;have O:=Fs jo;refine RZ (vs:=jf) (lt:=ltIx jo) (by omega) (λR hR=>?_) (λh2 A E h1 tk k=>LK h2 pk al A E h1 tk k) λh2 tk D e k hD ho=>?_
 ·refine collect_list pl.isList (hR _ s.toks (λb o e=>?_) ?_) (by omega)
  ·have hlt:b<s.heap.objs.size:=D1 e;rw[Heap.get?_update_ne _ _ _ _ (F4 hlt)];exact C0 _ e
  ·rw[Heap.size_update,size_push'];omega
 ·have vo:=LL r' O
  have hl:(outV (ltIx jo) ys).length<=B9:=by
   unfold outV
   split
   ·omega
   ·rw[B4,O6,(Kr.sort_ok O (by omega)).2.1];omega
  exact⟨.ref D,_,I.laid (t':=tk) k hD (show F9 X.prog X.w _ h2 _ (.lst (outV (ltIx jo) ys)) from⟨hl,_,e,vo,ho⟩),rfl,q _ (I.hok.fresh hD)⟩
end
end L2
end
section
namespace Pu
open PySem PySem.Spec L2
def kP:Key->PV
 |.inl i=>.int i
 |.inr z=>.str z
def Ab:List PV->Option (List Key)
 |[]=>some []
 |.int i::r=>(Ab r).map (.inl i::·)
 |.str z::r=>(Ab r).map (.inr z::·)
 |_=>none
def keyP:PV->List Key
 |.int i=>[.inl i]
 |.str z=>[.inr z]
 |.tup xs=>(Ab xs).getD []
 |_=>[]
theorem Iu:∀ks:List Key,Ab (ks.map kP)=some ks
 |[]=>rfl
 |.inl i::r=>by show(Ab (r.map kP)).map _=_;rw[Iu r];rfl
 |.inr i::r=>by show(Ab (r.map kP)).map _=_;rw[Iu r];rfl
theorem U9 (ks:List Key):keyP (.tup (ks.map kP))=ks:=by show(Ab (ks.map kP)).getD []=_;rw[Iu];rfl
theorem Ft:∀(ks:List Key) {us:List V},Reps K G H (ks.map kP) us->us=ks.map kV
 |[],_,h=>h
 | .inl i :: r, _, h => by
  obtain⟨v,t,rfl,h1,h2⟩:=h;rw[Ft r h2,show v=.int i from h1];rfl
 | .inr i :: r, _, h => by
  obtain⟨v,t,rfl,h1,h2⟩:=h;rw[Ft r h2,show v=.str i from h1];rfl
section
variable {T:PotK}{ι:Type}{K:A9}{F:ι->Cx}{e:Expr}{pe:pE}{pos:Pos}
def Fu (xs:List PV):Prop:=(∀x∈xs,∃i,x=.int i)\/(∀x∈xs,∃z,x=.str z)\/((∀x∈xs,∃ks,x=.tup (ks.map kP)/\ks≠[])/\∀x∈xs,∀y∈xs,Al (keyP x) (keyP y))
def Srt (ys xs:List PV):Prop:=ys.Perm xs/\ys.Pairwise λa b=>lexK (keyP b) (keyP a)=false
def Ac (pe:pE):pA:=λenv n R=>pe env n λx jc n1=>match x with|.lst xs=>xs.length<64/\Fu xs/\∀ys,Srt ys xs->R ys jc n1|_=>False
theorem DG {G:Gh}{H:Hp}{P:PV->V->List Key->Prop}:∀(xs:List PV) {us:List V},Reps K G H xs us->(∀x∈xs,∀v,Rep K G H x v->P x v (keyP x))->Paired (λv ks=>∃x,x∈xs/\P x v ks) us (xs.map keyP)
 |[],_,h,_=>by cases h;exact .nil
 | x :: xs, _, h, hP => by
  obtain⟨v,t,rfl,h1,h2⟩:=h;refine .cons ⟨x,C7,hP x C7 v h1⟩ ?_;exact Paired.imp' (λv ks ⟨y,hy,hp⟩=>⟨y,C3 _ hy,hp⟩) (DG xs h2 λy hy=>hP y (C3 _ hy))
theorem km_of (r:Reps K G H xs us)(h:Fu xs):∃m,Paired (KM K H m) us (xs.map keyP)/\Aa (xs.map keyP):=by
 rcases h with h|h|⟨h,h'⟩
 ·refine⟨0,Paired.imp' (λv ks ⟨_,_,hp⟩=>hp) (DG (P:=λ_ v ks=>KM K H 0 v ks) xs r λx hx v hv=>?_),λa ha b hb=>?_⟩
  ·obtain⟨i,rfl⟩:=h x hx;exact⟨i,hv,rfl⟩
  ·obtain⟨x,hx,rfl⟩:=F3.mp ha;obtain⟨y,hy,rfl⟩:=F3.mp hb;obtain⟨i,rfl⟩:=h x hx;obtain⟨j,rfl⟩:=h y hy;exact trivial
 ·refine⟨1,Paired.imp' (λv ks ⟨_,_,hp⟩=>hp) (DG (P:=λ_ v ks=>KM K H 1 v ks) xs r λx hx v hv=>?_),λa ha b hb=>?_⟩
  ·obtain⟨i,rfl⟩:=h x hx;exact⟨i,hv,rfl⟩
  ·obtain⟨x,hx,rfl⟩:=F3.mp ha;obtain⟨y,hy,rfl⟩:=F3.mp hb;obtain⟨i,rfl⟩:=h x hx;obtain⟨j,rfl⟩:=h y hy;exact trivial
 ·refine⟨2,Paired.imp' (λv ks ⟨_,_,hp⟩=>hp) (DG (P:=λ_ v ks=>KM K H 2 v ks) xs r λx hx v hv=>?_),λa ha b hb=>?_⟩
  ·obtain⟨ks,rfl,hne⟩:=h x hx;obtain⟨a,vs,rfl,at',rr⟩:=hv;rw[U9];refine⟨a,rfl,?_,hne⟩;rw[Ft ks rr] at at';exact SqT.of at'.2
  ·obtain⟨x,hx,rfl⟩:=F3.mp ha;obtain⟨y,hy,rfl⟩:=F3.mp hb;exact h' x hx y hy
def outP (xs:List PV):List PV:=if xs.length<2 then xs else(Kr.run (ltIx (xs.map keyP)) (R8 xs.length)).toList.map λi=>xs.getD i .non
theorem LM (xs:List PV)(i:Nat):(xs.map keyP).getD i []=keyP (xs.getD i .non):=by grind [PV,keyP]
theorem Fv (xs:List PV):Srt (outP xs) xs:=by
 unfold outP
 by_cases c:xs.length<2
 ·rw[jr c];refine⟨CV _,?_⟩
  match xs,c with
  |[],_=>exact .nil
  |[x],_=>exact List.pairwise_singleton _ _
 ·rw[jt c]
  have e:ltIx (xs.map keyP)=λi j=>lexK (keyP (xs.getD i .non)) (keyP (xs.getD j .non)):=by
   funext i j
   unfold ltIx;rw[LM,LM]
  rw[e];exact Kr.out_ok (λa b:PV=>lexK (keyP a) (keyP b)) ⟨λ_=>Il _,λ_ _ _ h1 h2=>Fq h1 h2,λ_ _ _ h=>LI h⟩ .non xs (by omega)
theorem Sj (r:Reps K G H xs us)(i:Nat)(hi:i<xs.length):Rep K G H (xs.getD i .non) (us.getD i .non):=by
 induction xs generalizing us i with
 |nil=>exact absurd hi (Eo _)
 | cons x xs ih =>
  obtain⟨v,t,rfl,h1,h2⟩:=r;cases i with
  |zero=>exact h1
  |succ i=>exact ih h2 i (Nat.lt_of_succ_lt_succ hi)
theorem LN (r:Reps K G H xs us):Reps K G H (outP xs) (outV (ltIx (xs.map keyP)) us):=by
 unfold outP outV;have hl:us.length=xs.length:=r.length.symm;rw[hl]
 by_cases c:xs.length<2
 ·rw[jr c,jr c];exact r
 ·rw[jt c,jt c];obtain⟨a1,a2,_⟩:=Kr.sort_ok (Fs (xs.map keyP)) (n:=xs.length) (by omega)
  have hm:∀i∈(Kr.run (ltIx (xs.map keyP)) (R8 xs.length)).toList,i<xs.length:=λi hi=>by
   have:=(GG.mp a1).mem_iff.mp hi
   simpa using this
  generalize (Kr.run (ltIx (xs.map keyP)) (R8 xs.length)).toList=is at hm
  induction is with
  |nil=>exact rfl
  |cons i is ih=>exact⟨_,_,rfl,Sj r i (hm i C7),ih λj hj=>hm j (C3 _ hj)⟩
theorem BZ (hg:∀z,Gl (F z) "sorted")(hm:∀z,(F z).mg "sorted"=none)(ha:QR T K F e pe)(hs:F5 e=true:=by rfl)(hK:∀z,(F z).K=K:=by intro _;rfl):QN T K F (.Call (.Name "sorted" p) [e] [] pos) (Ac pe):=by
 obtain⟨t,h1,h2⟩:=ha;refine⟨_,λz=>y0 (hK z▸Si) (hg z) (hm z) Ku (E9 (h1 z) G7 (D0 hs)) (by decide) (by decide) (D0 hs),λC G σ H env n R Q hK hT S hp k=>?_⟩;refine EX h2 hK hT S hp λx jc n1 v H1 p1 S1 r1 f1=>?_;have rd:RdV K G H1 x v:=hK▸r1.rd S1;cases x with
 | lst xs =>
  obtain⟨h64,so,q⟩:=p1;obtain⟨a,us,rfl,hq,r⟩:=rd.lst;obtain⟨m,pk,al⟩:=km_of r so;have hl:us.length=xs.length:=r.length.symm;exact⟨a,us,m,xs.map keyP,rfl,hq,by omega,pk,al,λl hl=>k _ _ _ _ _ _ (q _ (Fv xs)) S1 f1 hl (LN r)⟩
 |_=>exact p1.elim
end
end Pu
end
section
namespace Pu
open PySem PySem.Spec L2
def tupP (ks:List Key):PV:=.tup (ks.map kP)
end Pu
end
section
namespace L2
open PySem PySem.Spec PyProof.Rows
theorem LO:M7 "reversed"=some (.type "reversed"):=by decide +kernel
theorem LP:isSubtype (.type "range_iterator") (.type "reversed")=pure false:=by rw[v5];kernel_rfl
def B_ (n:Int):Obj:={ cls:=.type "range_iterator",data:=.fields #[rawInt (0+(n-1)*1),rawInt n,rawInt (-1)] }
section
variable {prog:C8}{w:C4}{A:D5}{E:A3->A5->Prop}{s:A5}
theorem Sk (h0:0<=n)(h1:n<=1000000)(hr:s.heap.get? r=some { cls:=.type "range",data:=.fields #[.int 0 t,.int n u,.int 1 v] })
   (h:Q (.ref s.heap.objs.size) { s with heap:=s.heap.push (B_ n) }):A6 (A7 prog w) A (call (.builtin "range.__reversed__") [.ref r]) Q E s:=by
 have hT:s.TypeIs (.ref r) "range":=⟨_,hr,rfl⟩;refine P3 F.slot_range_reversed hT F.entry_range_reversed ?_ (F.args_range_reversed_1 _);unfold L8.«range.__reversed__»;refine A0 (K6 (a:=K8 r) rfl ?_);refine A0 ?_;unfold JH;refine A0 (K5 hr rfl (x:=.int 0 t) rfl ?_);refine A0 (K6 (a:=some (0:Int)) rfl ?_);refine A0 (K5 hr rfl (x:=.int n u) rfl ?_);refine A0 (K6 (a:=some n) rfl ?_);refine A0 (K5 hr rfl (x:=.int 1 v) rfl ?_);refine A0 (K6 (a:=some (1:Int)) rfl ?_);refine A8 ?_
 have hs:CP 0 n 1=n:=by
  unfold CP;rw[jr (by decide),Int.ediv_one]
  split <;> omega
 dsimp only;rw[hs]
 have sm:(U3 0&&U3 n&&U3 1&&U3 (-1)&&U3 (0-1)&&U3 n)=true:=by
  simp only[U3,h9,decide_eq_true_eq];omega
 rw[sm];simp only[l7,L3,if_false,if_true];exact A0 (P2 (A8 ⟨_,rfl,h⟩))
theorem Sm (h0:0<=n)(h1:n<=1000000)(hr:s.heap.get? r=some { cls:=.type "range",data:=.fields #[.int 0 t,.int n u,.int 1 v] })
   (h:Q (.ref s.heap.objs.size) { s with heap:=s.heap.push (B_ n) }):A6 (A7 prog w) A (call (.type "reversed") [.ref r]) Q E s:=by
 have hT:s.TypeIs (.ref r) "range":=⟨_,hr,rfl⟩;refine callType_other (U:="range_iterator") (Q₁:=λobj s₁=>obj=.ref s.heap.objs.size/\s₁={ s with heap:=s.heap.push (B_ n) }) (by decide +kernel) F.create_reversed ⟨_,_,F.mro_reversed⟩ F.made_reversed LP (F.typeCall_reversed_1 _) ?_ ?_
 ·refine Cr ?_;show A6 _ A.in1.in1 (do checkBuiltinCall "reversed.__new__" ⟨[.type "reversed",.ref r],[]⟩;again (.builtin "reversed.__new__" ⟨[.type "reversed",.ref r],[]⟩)) _ _ s;refine A0 (K6 (F.newCall_reversed_1 _) (A8 ⟨k5 EB _,b9 F.entry_reversed_new ?_⟩));rw[n6 EB _];unfold L8.«reversed.__new__»;refine A0 (K6 (newClass_reversed _) ?_)
  try dsimp only
  refine A0 (K6 (a:=()) (by first|rfl|kernel_rfl) ?_);refine A0 (K6 (a:=()) (by first|rfl|kernel_rfl) ?_)
  try dsimp only
  refine A0 (Be hT F.slot_range_reversed.lookup ?_)
  try dsimp only
  refine A0 (K6 (F.slot_range_reversed.bind _) ?_)
  try dsimp only
  first
  |rw[jt (show ¬((Bt "range.__reversed__" == Q8)=true) from L0)]
  |(show A6 _ _ (if(Bt "range.__reversed__" == Q8)=true then _ else _) _ _ _;rw[jt (show ¬((Bt "range.__reversed__" == Q8)=true) from L0)])
  refine A0 (Y3 ?_);refine A0 (m:=runValue (.call (.builtin "range.__reversed__") ⟨[.ref r],[]⟩)) (show A6 _ _ (call (.builtin "range.__reversed__") [.ref r]) _ _ _ from Sk h0 h1 hr ?_)
  first
  |exact A8 ⟨rfl,rfl⟩
  |exact A0 (A8 (A8 ⟨rfl,rfl⟩))
 ·rintro obj s₁ ⟨rfl,rfl⟩;exact⟨⟨_,F2 _ rfl,rfl⟩,h⟩
end
section
variable {X:Cx}{tg:Expr}
def tRng1 (ta:TA):TE:=λσ H Q=>ta σ H λvs H1=>∃j:Int,vs=[.int j]/\∀p,H1 p=none->Q (.ref p) (upd H1 p (.rng 0 j))
theorem Sn (hg:Gl X "range")(hm:X.mg "range"=none)(ha:PA X [a] ta)(hs:E3 [a] X.env=[(false,eval a X.env)]:=by rfl):PE X (.Call (.Name "range" p) [a] [] pos) (tRng1 ta):=by
 intro jb s σ H Q I h;refine Call_ (i6 I hg hm boot_range (x5 (thn (ha pos jb s σ H _ I h) λus s1 ⟨vs,H1,I1,r1,q1⟩=>?_) hs rfl));obtain⟨j,e,q⟩:=q1;subst e;cases r1 with
 | cons r rr =>
  cases rr;obtain⟨t,rfl⟩:=r;refine call_range_1 ?_;exact⟨.ref s1.heap.objs.size,_,I1.laid (a:=s1.heap.objs.size) (o:=.rng 0 j) (λb o e=>C0 _ e) (B8 _) ⟨_,_,_,F2 _ rfl⟩,rfl,q _ (I1.hok.fresh (B8 _))⟩
def iRevR (ta:TA):TI:=λσ H R=>ta σ H λvs H1=>∃(r:A1) (n:Int),vs=[.ref r]/\H1 r=some (.rng 0 n)/\0<=n/\n<=1000000/\R (Itd (n-1) n.toNat) H1
theorem So (hg:Gl X "reversed")(hm:X.mg "reversed"=none)(ha:PA X [e] ta)(hs:E3 [e] X.env=[(false,eval e X.env)]:=by rfl):PI X tg (.Call (.Name "reversed" p) [e] [] pos) (iRevR ta):=by
 intro jb s σ H R I h;refine Call_ (i6 I hg hm LO (x5 (thn (ha pos jb s σ H _ I h) λus s1 ⟨vs,H1,I1,r1,q1⟩=>?_) hs rfl));obtain⟨r,n,e,hr,h0,h2,q⟩:=q1;subst e;cases r1 with
 | cons rr0 rr =>
  cases rr;cases rr0;obtain⟨t,u,v,ho⟩:=(show F9 X.prog X.w H1 s1.heap r (.rng 0 n) from I1.hok r _ hr);refine Sm h0 h2 ho ?_;have I2:Inv X jb σ H1 { s1 with heap:=s1.heap.push (B_ n) }:=I1.kept (t':=s1.toks) λb o e=>C0 _ e
  have st:IsRangeIter (s1.heap.push (B_ n)) s1.heap.objs.size (n-1+((0:Nat):Int) * -1) ((n.toNat:Int)-((0:Nat):Int)) (-1):=by
   have e1:n-1+((0:Nat):Int) * -1=0+(n-1)*1:=by omega
   have e2:(n.toNat:Int)-((0:Nat):Int)=n:=by omega
   rw[e1,e2];exact F2 _ rfl
  refine DZ (s:={ s1 with heap:=s1.heap.push (B_ n) }) st ?_;refine⟨s1.heap.objs.size,[s1.heap.objs.size],_,_,H1,rfl,I2,Le _ (n-1) n.toNat,st,λb hb=>?_,q⟩;have e:b=s1.heap.objs.size:=by simpa using hb
  subst e;exact I1.fpOk (B8 _) (I1.hok.fresh (B8 _))
end
end L2
namespace Pu
open PySem PySem.Spec L2
section
variable {T:PotK}{ι:Type}{K:A9}{F:ι->Cx}{tg e:Expr}{pe:pE}{pos:Pos}
def DH (pe:pE):pA:=λenv n R=>pe env n λx jc n1=>match x with|.int j=>(0<=j/\j<=1000000)/\R ((D3 j.toNat).map λ(k:Nat)=>PV.int (j-1-k)) jc n1|_=>False
theorem Iv (hg:∀z,Gl (F z) "reversed")(hm:∀z,(F z).mg "reversed"=none)(hg2:∀z,Gl (F z) "range")(hm2:∀z,(F z).mg "range"=none)(h:QE T K F e pe)(hs:F5 e=true:=by rfl):QI T K F tg (.Call (.Name "reversed" p) [.Call (.Name "range" p2) [e] [] pos2] [] pos) (DH pe):=by
 obtain⟨t,h1,h2⟩:=h;refine⟨_,λz=>So (hg z) (hm z) (E9 (Sn (hg2 z) (hm2 z) (E9 (h1 z) G7 (D0 hs)) (D0 hs)) G7 (D0 rfl)) (D0 rfl),λC G σ H env n R Q hK hT S hp k=>?_⟩;refine h2 C G σ H env n _ _ hK hT S hp λx jc n1 v H1 p1 S1 r1 f1=>?_;cases x with
 | int j =>
  refine⟨j,by rw[show v=.int j from r1],λp hn=>⟨p,j,rfl,E4,p1.1.1,p1.1.2,?_⟩⟩;exact k _ _ _ _ _ p1.2 (S1.same (Same.lay1 hn)) (f1.trans (Fr.of (Same.lay1 hn))) (Lf (j-1) _)
 |_=>exact p1.elim
end
end Pu
end
section
namespace L2
open PySem PySem.Spec PyProof.Rows
section
variable {prog:C8}{w:C4}{A:D5}{E:A3->A5->Prop}{s:A5}
theorem Sq {j:Nat}(ht:s.heap.IsTuple t jf)(hS:StrsAre jf.toList ys)(hj:ys[j]?=some k)(hlt:∀i,i<j->ys[i]?≠some k)(hsm:ys.length<=1000000)
   (h:∀tk,Q (.int j tk) { s with toks:=s.toks+1 }):A6 (A7 prog w) A (call (.builtin "tuple.index") [.ref t,.str k tok]) Q E s:=by
 obtain⟨o,ho,hc,n,hd⟩:=id ht;have hT:s.TypeIs (.ref t) "tuple":=⟨o,ho,hc⟩;refine P3 F.slot_tuple_index hT F.entry_tuple_index ?_ (F.args_tuple_index_2 _ _);unfold L8.«tuple.index»;refine A0 (K6 (a:=(K8 t,[Value.str k tok])) rfl ?_);refine A0 (wpAny_tupleItemsOf ho hd ?_);dsimp only;refine A0 (A8 (A0 (A8 ?_)));refine A0 ?_;have hlen:ys.length=jf.toList.length:=(StrsAre.length hS).symm
 have at_:∀(i:Nat) (y:Str),ys[i]?=some y->∃u,jf[i]?=some (.str y u):=by
  intro i y hy
  have:∀{us:List A3} {zs:List Str},StrsAre us zs->∀(i:Nat),zs[i]?=some y->∃u,us[i]?=some (.str y u):=by
   intro us zs hh
   induction hh with
   |nil=>intro i h;cases h
   | cons x t _ ih =>
    intro i h;cases i with
    |zero=>cases h;exact⟨t,rfl⟩
    |succ i=>exact ih i (by simpa using h)
  obtain⟨u,hu⟩:=this hS i hy;exact⟨u,by rw[<- V8];exact hu⟩
 have hjl:j<jf.size:=by
  have:=(F6.mp hj).1;rw[hlen,O6] at this;exact this
 rw[Std.Legacy.Range.forIn_eq_forIn_range'];refine Eb _ (λrest r s'=>r.1=none/\s'=s/\∃i,rest=List.range' i (jf.size-i)/\i<=j) _ ?_ ?_ _ _ ⟨rfl,rfl,0,?_,K3 _⟩
 ·rintro x rest ⟨r1,r2⟩ s' ⟨hr,rfl,i0,hi,hij⟩;have hil:jf.size-i0=(jf.size-i0-1)+1:=by omega
  rw[hil,List.range'_succ] at hi;obtain⟨i,hxi⟩:∃i,x=i:=⟨x,rfl⟩;injection hi with h1 h2;subst h2;have hi0:i0=i:=by rw[<- hxi,h1]
  subst hi0;subst hxi;clear h1
  revert hij hil
  generalize x=i;intro hij hil;have hiy:i<ys.length:=by rw[hlen,O6];omega
  obtain⟨u,hu⟩:=at_ i ys[i] (D9 hiy);rw[hu];dsimp only;refine A0 (eqBool_str ?_)
  by_cases c:i=j
  ·subst c
   have:ys[i]=k:=by
    have:=D9 hiy;rw[hj] at this;exact(M9 this).symm
   rw[this,beq_self_eq_true,jr rfl];refine A0 (A0 (wpAny_mkInt (A8 (A8 ?_))));exact A8 ⟨_,rfl,h _⟩
  ·have:ys[i]≠k:=λe=>hlt i (by omega) (by rw[D9 hiy,e]);rw[beq_eq_false_iff_ne.mpr this,jt L0];refine A8 ⟨rfl,rfl,i+1,?_,by omega⟩;rw[show jf.size-(i+1)=jf.size-i-1 by omega]
 ·rintro⟨r1,r2⟩ s' ⟨hr,rfl,i,hi,hij⟩;have hil:jf.size-i=(jf.size-i-1)+1:=by omega
  rw[hil,List.range'_succ] at hi;cases hi
 ·simp[Std.Legacy.Range.size]
end
section
variable {X:Cx}
def LQ (K:A9):V->List V->Hp->VK->Prop:=λx vs H Q=>∃(l:A1) (k:Str) (ys:List Str) (j:Nat),x=.ref l/\vs=[.str k]/\SqT K H l (ys.map V.str)/\ys.length<=1000000/\ys[j]?=some k/\(∀i,i<j->ys[i]?≠some k)/\Q (.int j) H
theorem Sr:MtM X "tuple.index" (LQ X.K):=by
 intro jb s σ H x vs v us Q I rx rv h;obtain⟨l,k,ys,j,rfl,rfl,hq,hz0,hj,hlt,q⟩:=h;cases rx;obtain⟨u,rfl,ru⟩:=rv.one;obtain⟨t,rfl⟩:=ru;obtain⟨jf,r,p,hz⟩:=I.tuple hq;exact Sq p (Lg r) hj hlt hz0 λtk=>⟨.int j,H,I.tok _,⟨_,rfl⟩,q⟩
end
end L2
end
section
namespace Pu
open PySem PySem.Spec PyProof.Rows L2
section
variable {T:PotK}{ι:Type}{K:A9}{F:ι->Cx}{e c:Expr}{pe pc:pE}{pos:Pos}
def p9:w2:=λx y R=>match x,y with|.tup xs,.str k=>(match X5 xs with|some ys=>ys.length<=1000000/\∃j:Nat,ys[j]?=some k/\(∀i,i<j->ys[i]?≠some k)/\R (.int j)|none=>False)|_,_=>False
def Q2 (pe pc:pE):pE:=λenv n R=>pe env n λx jc n1=>(∃xs,x=.tup xs)/\pc jc n1 λy jd n2=>p9 x y λz=>R z jd n2
theorem T7 (he:QE T K F e pe)(hc:QE T K F c pc)(hs:F5 c=true:=by rfl)(hbase:∀z,w5 e "index" (F z).env (eval e (F z).env)=eval e (F z).env:=by intro _;rfl)(hline:(ap.endLine == pos.line)=true:=by rfl)
   (hfew:∀z,((backTo pos (E3 [c] (F z).env)).all (λx=>!x.1)&&(backToKw pos (Ap [] (F z).env)).all (λx=>x.1.isSome)&&decide (([c]:List Expr).length+([]:List V1).length+(if([]:List V1).isEmpty then 0 else 1)<30))=true:=by intro _;rfl) (hK:∀z,(F z).K=K:=by intro _;rfl):QE T K F (.Call (.Attribute e "index" ap) [c] [] pos) (Q2 pe pc):=by
 obtain⟨t,a1,a2⟩:=he;obtain⟨u,b1,b2⟩:=hc;refine⟨tBM K "tuple" (LQ K) t (X6 u tNil),λz=>hK z▸Dg PySem.F.plainAttrs_tuple PySem.F.slot_tuple_index PySem.F.type_tuple_index Sr (a1 z) (E9 (b1 z) G7 (D0 hs)) (hbase z) (hfew z) hline (D0 hs),λC G σ H env n R Q hK hT S hp k=>?_⟩;refine a2 C G σ H env n _ _ hK hT S hp λx jc n1 v H1 q1 S1 r1 f1=>?_;obtain⟨⟨xs,rfl⟩,q1⟩:=q1;obtain⟨a,vs,rfl,ta,ra⟩:=r1;refine⟨?_,?_⟩
 ·exact .inr (.inl ⟨rfl,.inr ⟨vs,ta.2⟩⟩)
 refine b2 C G σ H1 jc n1 _ _ hK hT S1 q1 λy jd n2 w H2 q2 S2 r2 f2=>?_;unfold p9 at q2
 split at q2
 ·rename_i xs' kk e1;cases e1
  split at q2
  ·rename_i ys ey;obtain⟨hz,j,hj,hlt,q3⟩:=q2;obtain⟨a',vs',e3,ta',ra'⟩:=(show Rep K G H1 (.tup xs) (.ref a) from⟨a,vs,rfl,ta,ra⟩).fr f2;cases e3;exact⟨a,kk,ys,j,rfl,by rw[show w=.str kk from r2],HM ey ra'▸SqT.of ta'.2,hz,hj,hlt,k _ _ _ _ _ q3 S2 rfl (f1.trans f2)⟩
  ·exact q2.elim
 ·exact q2.elim
end
end Pu
end
section
namespace Pu
open PySem PySem.Spec L2
def frzS:Slot->Option Slot
 |.v x=>some (.v x)
 |.ow .lst xs=>some (.v (.lst xs))
 |.ow (.dk ks) xs=>if ks.length=xs.length then some (.v (.dct ks xs)) else none
 |.ow (.dt _) _=>none
 |.ow (.st _) _=>none
def frz (env:Env):Env:=env.map λo=>o.bind frzS
end Pu
end
section
namespace Pu
open PySem PySem.Spec L2
abbrev pSlN:=Env->Nat->(List Slot->Env->Nat->Prop)->Prop
def Gots (C:Ct)(G:Gh)(H:Hp)(σ:St)(env:Env):List Slot->List V->Prop
 |[],vs=>vs=[]
 |s::ss,vs=>∃v r,vs=v::r/\Got C G H σ env s v/\(∀(xs:OK×List PV) a,s=.ow xs.1 xs.2->v=.ref a->∀(ys:OK×List PV) w,(Slot.ow ys.1 ys.2,w)∈ss.zip r->w≠.ref a)/\Gots C G H σ env ss r
section
variable {T:PotK}{np:Bool}{ι:Type}{K:A9}{F:ι->Cx}{e:Expr}{es:List Expr}{st:Stmt}{s1:pSl}{sl:pSlN}{pos:Pos}
theorem Gots.set (hl:env.length=σ.length):∀{ss:List Slot} {vs:List V},Gots C G H σ env ss vs->(∀(xs:OK×List PV) a,s0=.ow xs.1 xs.2->v0=.ref a->∀(ys:OK×List PV) w,(Slot.ow ys.1 ys.2,w)∈ss.zip vs->w≠.ref a)->Gots C G H (σ.set i (some v0)) (env.set i (some s0)) ss vs
 |[],_,h,_=>h
 | s :: ss, vs, h, no => by
  obtain⟨v,r,rfl,g,ne,h⟩:=h;refine⟨v,r,rfl,⟨g.1,λxs a e1 e2 z=>?_⟩,ne,Gots.set hl h λxs a e1 e2 ys w hw=>no xs a e1 e2 ys w (by rw[CC];exact C3 _ hw)⟩;rcases HK hl z with z|⟨⟨zs,ez⟩,ev⟩
  ·exact g.2 xs a e1 e2 z
  ·exact no zs a ez ev xs v (by rw[CC,e1];exact C7) e2
end
end Pu
end
section
namespace L2
open PySem PySem.Spec PyProof.Rows
section
variable {prog:C8}{w:C4}{A:D5}{E:A3->A5->Prop}{s:A5}
theorem LR {it t:A1}{items:Array A3}(hne:t≠it):∀(n i:Nat) (s:A5) (Q:List A3->A5->Prop),s.heap.IsListIter it t i->s.heap.IsList t items->i+n<=items.size->
   (∀h':B6,h'.IsListIter it t (i+n)->X2 it s.heap h'->Q ((items.toList.drop i).take n) { s with heap:=h' })->A6 (A7 prog w) A (draw (.ref it) n) Q E s
 | 0, i, s, Q, hit, _, _, hQ => by
  show A6 _ _ (pure []) Q E s;exact A8 (by simpa using hQ s.heap hit (Heap.SameBut.refl ..))
 | n + 1, i, s, Q, hit, ht, hle, hQ => by
  have hlt:i<items.size:=by omega
  show A6 _ _ (pyNext (.ref it)>>=_) Q E s;refine A0 (wpAny_pyNext_list_item hit ht (x:=items[i]) (by simp[hlt]) λh₁ hit₁ hs₁=>?_);refine A0 (L6 (LR hne n (i+1) _ _ hit₁ (ht.extBut hs₁.extBut hne) (by omega) λh₂ hit₂ hs₂=>A8 ?_));have hd:items.toList.drop i=items[i]::items.toList.drop (i+1):=by simp[Bh,hlt]
  have:=hQ h₂ (by rw[show i+(n+1)=i+1+n by omega];exact hit₂) (hs₁.trans hs₂);rw[hd,List.take_succ_cons] at this;exact this
theorem Ss {env:Env}{elts:List Expr}{x1}{pos:Pos}{t:A1}{items:Array A3}{Q:Unit->A5->Prop}(hh:A.handled=none)(ht:s.heap.IsList t items)
   (hn:(G8 elts env).length=items.size) (hstar:(G8 elts env).findIdx? (·.1)=none)
   (h:∀h',Heap.ExtBut s.heap.objs.size s.heap h'->A6 (A7 prog w) A (assignInOrder ((G8 elts env).map (·.2)) items.toList) Q E { s with heap:=h' }) :
   A6 (A7 prog w) A (assign (.Tuple elts x1 pos) env (.ref t)) Q E s:=by
 rw[assign_Tuple];refine A0 (c0 ?_);have hlt:t≠s.heap.objs.size:=by obtain⟨o,ho,_⟩:=ht;exact F4 (D1 ho)
 unfold unpack;rw[hn,hstar];refine A0 (L6 ?_);unfold unpackItems;refine A0 ?_;unfold notIterableAtAll;refine A0 (Be ht.typeIs slot_list_iter.lookup ?_);refine A8 ?_;simp only[L3,if_false];refine A0 (L6 (Cq ht ?_));refine A0 (L6 (LR hlt items.size 0 _ _ ⟨_,F2 _ rfl,rfl,rfl⟩ (ht.push _) (by omega) λh₁ hit₁ hs₁=>?_))
 have hall:List.take items.size (List.drop 0 items.toList)=items.toList:=by
  rw[Au];exact k6 (by simp)
 rw[hall];rw[jt (by simp)];have ht₁:h₁.IsList t items:=(ht.push _).extBut hs₁.extBut hlt;refine A0 (L6 (wpAny_pyNext_list_end hh hit₁ ht₁ (by simp) λh₂ he₂=>?_));simp only[Option.isSome_none,L3,if_false];exact A8 (h h₂ λb o hb e=>he₂ b o hb (hs₁.extBut b o hb (C0 _ e)))
end
section
variable {X:Cx}{pos:Pos}
def gLst (K:A9)(n:Nat)(t:TGs):TG:=λv σ H Q=>∃a xs,v=.ref a/\SqL K H a xs/\xs.length=n/\t xs σ H Q
theorem pg_lst (hc:X.calm=true)(h:PGs X es t)
   (hn:(G8 es X.env).length=n:=by rfl) (hst:(G8 es X.env).findIdx? (·.1)=none:=by rfl):PG X (.Tuple es k pos) (gLst X.K n t):=by
 intro jb s σ H v u Q I r hw;obtain⟨a,xs,e1,hq,hl,hw⟩:=hw;subst e1;cases r;obtain⟨jf,rv,ht⟩:=I.sqL hq;refine Ss (I.ok.hd hc) ht (by simp[hn,<- hl,rv.length]) hst λh' hx=>?_;have I1:Inv X jb σ H { s with heap:=h' }:=I.kept (t':=s.toks) λb o e=>hx b o (F4 (D1 e)) e;exact h jb _ σ H xs _ Q I1 (by simpa using rv) hw
end
end L2
namespace Pu
open PySem PySem.Spec L2
section
variable {ι:Type}{K:A9}{F:ι->Cx}{es:List Expr}{pgs:pGs}{pos:Pos}
def gTl (m:Nat)(g:pGs):pG:=λx env R=>match x with|.lst xs=>xs.length=m/\g xs env R|_=>False
theorem qg_lst (hc:∀z,(F z).calm=true)(h:QGs K F es pgs)(hn:∀z,(G8 es (F z).env).length=m:=by intro _;rfl)(hst:∀z,(G8 es (F z).env).findIdx? (·.1)=none:=by intro _;rfl)(hK:∀z,(F z).K=K:=by intro _;rfl):QG K F (.Tuple es k pos) (gTl m pgs):=by
 obtain⟨g,a1,a2⟩:=h;refine⟨_,λz=>hK z▸pg_lst (hc z) (a1 z) (hn z) (hst z),λC G σ H env n x v R Q hK S r hp k=>?_⟩;cases x with
 | lst xs =>
  obtain⟨a,vs,rfl,t,rs⟩:=r;exact⟨a,vs,rfl,t.sq,by rw[<- rs.length];exact hp.1,a2 C G σ H env n xs vs _ _ hK S rs hp.2 k⟩
 |_=>exact hp.elim
end
end Pu
end
section
namespace L2
open PySem PySem.Spec PyProof.Rows
abbrev LC2 (ji t1 i1 t2 i2:Expr)(jk:List Expr)(scope:K9)(pos:Pos):Expr:=.ListComp ji [⟨t1,i1,[],0⟩,⟨t2,i2,jk,0⟩] scope pos
theorem Su (ji t1 i1 t2 i2:Expr)(jk:List Expr)(scope:K9)(pos:Pos)(it jl:A3)(env:Env) :
   compTurn (LC2 ji t1 i1 t2 i2 jk scope pos) 1 it jl env=(do
    c7 i2.pos
    match ← pyNext it with
    |none=>pure (.done .next)
    | some v =>
     v4 t2 it v
     assign t2 env v
     let mut ok:=true
     for c in jk do
      if ok then ok ← isTrue c env (eval c env)
     if ok then
      (do let _ ← call (.builtin "list.append") [jl,<- eval ji env])
     again (.compLoop (LC2 ji t1 i1 t2 i2 jk scope pos) 1 it jl env)):=by rfl
section
variable {prog:C8}{w:C4}{A:D5}{R:Result->A5->Prop}{s:A5}{ji t1 i1 t2 i2:Expr}{jk:List Expr}{scope:K9}{pos:Pos}{it jl:A3}{env:Env}
theorem loop_i (I:Nat->A5->Prop)
   (turn:∀n s,I n s->A6 (A7 prog w) A (pyNext it) (fun r s₁=>match r with
    |none=>R (.ok .next) s₁
    |some v=>A6 (A7 prog w) A (v4 t2 it v) (λ_ s₁'=>A6 (A7 prog w) A (assign t2 env v) (λ_ s₂=>
        A6 (A7 prog w) A (forIn jk true fun c r=>if r=true then do let ok ← isTrue c env (eval c env);pure (x9 ok) else pure (x9 r)) (fun ok s₃=>
         if ok=true then A6 (A7 prog w) A (eval ji env) (λx s₄=>
          A6 (A7 prog w) A (call (.builtin "list.append") [jl,x]) (λ_ s₅=>∃m,m<n/\I m s₅) (λ_ _=>False) s₄) (λ_ _=>False) s₃
         else ∃m,m<n/\I m s₃) (λ_ _=>False) s₂) (λ_ _=>False) s₁') (λ_ _=>False) s₁) (λ_ _=>False) s)
   (n:Nat) (h:I n s):N7 (A7 prog w) A (.compLoop (LC2 ji t1 i1 t2 i2 jk scope pos) 1 it jl env) R s:=by
 refine codeAny_loop rfl I (λn s hI=>?_) n h;show A6 _ A ((compTurn (LC2 ji t1 i1 t2 i2 jk scope pos) 1 it jl env).onRaise (λx=>do noteFrame x env;theTreesLotGoes x)) _ _ s;refine wpAny_noted ?_;rw[Su];refine A0 (c0 (A0 (J1 (turn n s hI) (λr s₁ h₁=>?_) λ_ _ h'=>h'.elim)));cases r with
 |none=>exact A8 h₁
 | some v =>
  refine A0 (J1 h₁ (λ_ s₁' h₁'=>?_) λ_ _ h'=>h'.elim);refine A0 (J1 h₁' (λ_ s₂ h₂=>A0 (J1 h₂ (λok s₃ h₃=>?_) λ_ _ h'=>h'.elim)) λ_ _ h'=>h'.elim);cases ok with
  |false=>exact A8 ⟨rfl,h₃⟩
  | true =>
   exact A0 (A0 (J1 h₃ (λx s₄ h₄=>A0 (J1 h₄ (λ_ s₅ h₅=>A8 (A8 ⟨rfl,h₅⟩)) λ_ _ h'=>h'.elim)) λ_ _ h'=>h'.elim))
theorem Sv (h0:N7 (A7 prog w) A (.compLoop (LC2 ji t1 i1 t2 i2 jk scope pos) 1 it jl env) R s)
   (h:A6 (A7 prog w) A (pyIter it) (λit' s'=>N7 (A7 prog w) A (.compLoop (LC2 ji t1 i1 t2 i2 jk scope pos) 1 it' jl env) R s') (λ_ _=>False) s) :
   N7 (A7 prog w) A (.compStart (LC2 ji t1 i1 t2 i2 jk scope pos) 1 it jl env) R s:=by
 refine Cr ?_;show A6 _ _ ((compStart (LC2 ji t1 i1 t2 i2 jk scope pos) 1 it jl env).onRaise (λx=>do noteFrame x env;c7 theWindowsPlace)) _ _ s;refine wpAny_notedAt ?_;unfold compStart;show A6 _ _ (ask>>=_) _ _ s;refine A0 (D_ (wpAny_ite ?_))
 split
 ·first
    |exact A0 (A8 (A8 (And.intro rfl h0)))
    |exact A8 (And.intro rfl h0)
 ·first
    |exact A0 (Y3 (A0 (c0 (A0 (J1 h (λit' s' h'=>A8 (And.intro rfl h')) λ_ _ x=>x.elim)))))
    |(refine A0 (Y3 ?_);show A6 _ _ (c7 i2.pos>>=_) _ _ s;exact A0 (c0 (A0 (J1 h (λit' s' h'=>A8 (And.intro rfl h')) λ_ _ x=>x.elim))))
theorem loop_o (hs:∀x,T8 i2 env x=pure x)(I:Nat->A5->Prop)
   (turn:∀n s,I n s->A6 (A7 prog w) A (pyNext it) (fun r s₁=>match r with
    |none=>R (.ok .next) s₁
    |some v=>A6 (A7 prog w) A (v4 t1 it v) (λ_ s₁'=>A6 (A7 prog w) A (assign t1 env v) (λ_ s₂=>
        A6 (A7 prog w) A (eval i2 env) (λx s₃=>A6 (A7 prog w) A (pyIter x) (λit2 s₄=>
         N7 (A7 prog w) A (.compStart (LC2 ji t1 i1 t2 i2 jk scope pos) 1 it2 jl env) (λr s'=>r=.ok .next/\∃m,m<n/\I m s') s₄) (λ_ _=>False) s₃) (λ_ _=>False) s₂) (λ_ _=>False) s₁') (λ_ _=>False) s₁) (λ_ _=>False) s)
   (n:Nat) (h:I n s):N7 (A7 prog w) A (.compLoop (LC2 ji t1 i1 t2 i2 jk scope pos) 0 it jl env) R s:=by
 refine codeAny_loop rfl I (λn s hI=>?_) n h;show A6 _ A ((compTurn (LC2 ji t1 i1 t2 i2 jk scope pos) 0 it jl env).onRaise (λx=>do noteFrame x env;theTreesLotGoes x)) _ _ s;refine wpAny_noted ?_;unfold compTurn;show A6 _ _ (c7 i1.pos>>=_) _ _ s;refine A0 (c0 ?_);refine A0 (J1 (turn n s hI) (λr s₁ h₁=>?_) λ_ _ h'=>h'.elim);cases r with
 |none=>exact A8 h₁
 | some v =>
  refine A0 (J1 h₁ (λ_ s₁' h₁'=>?_) λ_ _ h'=>h'.elim);refine A0 (J1 h₁' (λ_ s₂ h₂=>A0 (wpAny_tests_nil ?_)) λ_ _ h'=>h'.elim);refine A0 (J1 h₂ (λx s₃ h₃=>?_) λ_ _ h'=>h'.elim);refine A0 (c0 ?_);show A6 _ _ (T8 i2 env x>>=λx=>(T9 [x] (pyIter x)>>=λit2=>(runOwn (.compStart (LC2 ji t1 i1 t2 i2 jk scope pos) 1 it2 jl env) env>>=λ_=>again (.compLoop (LC2 ji t1 i1 t2 i2 jk scope pos) 0 it jl env)))) _ _ _;refine A0 (K6 (hs x) (A0 (L6 (J1 h₃ (λit2 s₄ h₄=>?_) λ_ _ h'=>h'.elim))));refine A0 (wpAny_runOwn ?_);rw[Around.mark_none];refine Ao h₄ λr s' hr=>?_;obtain⟨rfl,hr⟩:=hr;exact A8 ⟨rfl,hr⟩
end
def LS (J:It)(g:TG)(tt:TT)(te:TE)(D:A1)(N:St->Hp->Prop)(σ:St)(H:Hp):Prop:=∃W:Nat->Nat->St->Hp->Prop,(∃m,W 0 m σ H)/\
 ∀i m σ' H',W i m σ' H'->(J.stop i H'/\N σ' H')\/(J.go i H'/\∀x H2,J.yld i H' x H2->g x σ' H2 fun σ3 H3=>tt σ3 H3 fun b H4=>
    if b=true then te σ3 H4 λv H5=>∃ys,H5 D=some (.lst ys)/\ys.length<B9/\∃m',m'<m/\W (i+1) m' σ3 (upd H5 D (.lst (ys++[v])))
    else ∃m',m'<m/\W (i+1) m' σ3 H4)
def Iw (J:It)(g1:TG)(wi2:TI)(g2:TG)(tt:TT)(te:TE)(Q:VK)(D:A1)(σc:St)(H1:Hp):Prop:=∃W:Nat->Nat->St->Hp->Prop,(∃m,W 0 m σc H1)/\
 ∀i m σ' H',W i m σ' H'->(J.stop i H'/\Q (.ref D) H')\/(J.go i H'/\∀x H2,J.yld i H' x H2->g1 x σ' H2 λσ3 H3=>wi2 σ3 H3 λJ2 H4=>LS J2 g2 tt te D (λσ5 H5=>∃m',m'<m/\W (i+1) m' σ5 H5) σ3 H4)
def tComp2 (cs:List (Option Nat))(wi:TI)(g1:TG)(wi2:TI)(g2:TG)(tt:TT)(te:TE):TE:=λσ H Q=>wi σ H λJ H1=>∀D,H1 D=none->Iw J g1 wi2 g2 tt te Q D (o9 cs σ) (upd H1 D (.lst []))
theorem loop2 {Y:Cx}{scope:K9}{ji t1 i1 t2 i2:Expr}{jk:List Expr}{pos:Pos}{wi2:TI}{g1 g2:TG}{tt:TT}{te:TE}{fp:List A1}{it D:A1}{tn:Nat->B6->Prop}{J:It}{s₃:A5}{H3:Hp}{σ3:St}{jb:List (A1×Obj)}{Q:VK}{R:Result->A5->Prop}(hx:Y.xe=λ_ _=>False)(hc:Y.calm=true)
   (hb:PG Y t1 g1/\PI Y t2 i2 wi2/\PG Y t2 g2/\PIf Y jk tt/\PE Y ji te) (hs2:∀x,T8 i2 Y.env x=pure x) (T:Turn Y.prog Y.w Y.K t1 J fp it tn) (stat:∀{H':Hp},(∀b∈fp,H' b=none)->∀b∈fp,FpOk Y jb H' b) (q:Iw J g1 wi2 g2 tt te Q D σ3 H3)
   (fin:∀s4 σ4 H4,Inv Y jb σ4 H4 s4->Q (.ref D) H4->R (.ok .next) s4) (Ic:Inv Y jb σ3 H3 s₃) (st1:tn 0 s₃.heap) (fr1:∀b∈fp,H3 b=none) :
   N7 (A7 Y.prog Y.w) Y.A (.compLoop (LC2 ji t1 i1 t2 i2 jk scope pos) 0 (.ref it) (.ref D) Y.env) R s₃:=by
 obtain⟨W,⟨m0,w0⟩,turn⟩:=q;obtain⟨hg,hi2,hg2,hf,he⟩:=hb;refine loop_o hs2 (λn s'=>∃i σ' H',Inv Y jb σ' H' s'/\tn i s'.heap/\(∀b∈fp,H' b=none)/\W i n σ' H') ?_ m0 ⟨0,_,_,Ic,st1,fr1,w0⟩;rintro n s3 ⟨i,σ3,H3,I3,st3,fr3,w3⟩;rcases turn i n σ3 H3 w3 with⟨stop,qn⟩|⟨go,step⟩
 ·refine thn (T.done Y rfl rfl rfl hc i jb s3 σ3 H3 (λ_ _=>False) I3 (stat fr3) st3 stop) λr s4 ⟨hr,I4⟩=>?_;subst hr;exact fin s4 _ _ I4 qn
 ·refine thn (T.item Y rfl rfl rfl hc i jb s3 σ3 H3 (λ_ _=>False) I3 (stat fr3) st3 go) λr s4 ⟨u,hr,h4⟩=>?_;subst hr;refine thn h4 λ_ s5 ⟨x,H5,I5,r5,y5,st5,fr5⟩=>?_;refine thn (hx▸hg _ s5 σ3 H5 x u _ (I5.pinned (stat fr5) (T.obj _ _ st5)) r5 (step x H5 y5)) λ_ s6 ⟨σ6,H6,I6,q6⟩=>?_;refine thn (hx▸hi2 _ s6 σ6 H6 _ I6 q6) λv7 s7 h7=>thn h7 λitv s8 h8=>?_;obtain⟨it2,fp2,tn2,J2,H8,rfl,I8,T2,st8,f8,W2,⟨m2,w2⟩,turn2⟩:=h8
  have inner:N7 (A7 Y.prog Y.w) Y.A (.compLoop (LC2 ji t1 i1 t2 i2 jk scope pos) 1 (.ref it2) (.ref D) Y.env) (λr s'=>r=.ok .next/\∃m,m<n/\∃i σ' H',Inv Y jb σ' H' s'/\tn i s'.heap/\(∀b∈fp,H' b=none)/\W i m σ' H') s8:=
   loop_i (λn s'=>∃i σ' H',Inv Y (jb++BH fp s5.heap) σ' H' s'/\tn2 i s'.heap/\(∀b∈fp2,H' b=none)/\W2 i n σ' H') (by rw[<- hx];exact Hn T2 hc (λhn b hb=>⟨hn b hb,(f8 b hb).2⟩) hg2 hf he (λs10 σ9 H9 I10 qn2=>⟨rfl,Hm T st5 I10 qn2⟩) turn2) m2 ⟨0,σ6,H8,I8,st8,λb hb=>(f8 b hb).1,w2⟩
  exact Sv inner (T2.self _ 0 _ _ _ st8 inner)
theorem Sw {X:Cx}{scope:K9}{cl:List (Str×A1)}{N:List Str}{cs:List (Option Nat)}{ji t1 i1 t2 i2:Expr}{jk:List Expr}{pos:Pos}{wi1 wi2:TI}{g1 g2:TG}{tt:TT}{te:TE}(S:o8 X scope cl N cs)(hc:X.calm=true)(hi:PI X t1 i1 wi1)
   (hb:∀(fp:List A1) (C:A1) (s:A5) (H:Hp),PG (G0 X scope cl N fp C s H) t1 g1/\PI (G0 X scope cl N fp C s H) t2 i2 wi2/\PG (G0 X scope cl N fp C s H) t2 g2/\PIf (G0 X scope cl N fp C s H) jk tt/\PE (G0 X scope cl N fp C s H) ji te)
   (hs2:∀fp C s H x,T8 i2 (G0 X scope cl N fp C s H).env x=pure x)
   (hs:∀x,T8 i1 X.env x=pure x:=by intro _;rfl) :
   PE X (LC2 ji t1 i1 t2 i2 jk scope pos) (tComp2 cs wi1 g1 wi2 g2 tt te):=by
 intro jb s σ H Q I h;rw[eval_ListComp];exact Ho S hc hi hs I h λfp it tn J s2 H2 s₃ T stat I2 f2 q Ic st1 fr1=>loop2 (Y:=G0 X scope cl N fp (s2.heap.objs.size+1) s2 H2) rfl hc (hb _ _ _ _) (hs2 _ _ _ _) T stat q (λs4 σ3 H3 I4 qn=>Kq I2 f2 I4 qn) Ic st1 fr1
end L2
end
section
namespace Pu
open PySem PySem.Spec L2
def AV (g:pG)(tt:pT)(te:pE):List PV->Env->Nat->(List PV->Env->Nat->Prop)->Prop
 |[],env,n,R=>R [] env n
 |x::xs,env,n,R=>g x env λjc=>tt jc n λb jd n2=>if b=true then te jd n2 λy je n3=>AV g tt te xs je n3 λys e m=>R (y::ys) e m else AV g tt te xs jd n2 R
def Ca (g1:pG)(pi2:pA)(g2:pG)(tt:pT)(te:pE):List PV->Env->Nat->(List PV->Nat->Prop)->Prop
 |[],_,n,R=>R [] n
 |x::xs,env,n,R=>g1 x env λjc=>pi2 jc n λys jd n2=>ys.length<=1000/\AV g2 tt te ys jd n2 λzs je n3=>Ca g1 pi2 g2 tt te xs je n3 λws n4=>R (zs++ws) n4
def DI (cs:List (Option Nat))(pi1:pA)(g1:pG)(pi2:pA)(g2:pG)(tt:pT)(te:pE):pA:=λenv n R=>pi1 env n λxs jc n1=>xs.length<=1000/\Ca g1 pi2 g2 tt te xs (capV cs jc) n1 λys n2=>R ys jc n2
theorem Sx {K:A9}{T:PotK}{J:It}{g:TG}{tt:TT}{te:TE}{pg:pG}{ptt:pT}{pte:pE}(hg:GOk K g pg)(ht:TOk K T tt ptt)(he:EOk K T te pte){G:Gh}{H1 H4:Hp}{ys:List PV}{D:A1}(hJ:ItR K ⟨D::G.M,G.pots⟩ H4 J ys)(nD:D∉G.pots)(hD:H1 D=none){σ:St}{env:Env}{n:Nat}{jl:List PV}{us:List V}{P:List PV->Env->Nat->Prop}{N:St->Hp->Prop}(c:CI K T G H1 D σ H4 env n jl us)(hl:jl.length+ys.length<=1001000)(hc:AV pg ptt pte ys env n P)
   (hN:∀zs env n us σ H,P zs env n->CI K T G H1 D σ H env n (jl++zs) us->zs.length<=ys.length->N σ H):LS J g tt te D N σ H4:=by
 refine⟨λj m σ H'=>m=ys.length-j/\j<=ys.length/\∃env n zs us2,CI K T G H1 D σ H' env n (jl++zs) us2/\Fr ⟨D::G.M,G.pots⟩ H4 H'/\zs.length<=j/\AV pg ptt pte (ys.drop j) env n λws e m=>P (zs++ws) e m,⟨ys.length,rfl,K3 _,env,n,[],us,by rw[X3];exact c,Fr.refl,B8 _,hc⟩,?_⟩;rintro j m σ5 H5 ⟨rfl,hj,env5,n5,zs,us5,c5,fr5,la5,hc5⟩;obtain⟨hgo5,hstop5⟩:=hJ _ H5 fr5 (λa ha=>.inl ha) (λ_ _ e=>e) λp hp=>c5.inn.sr.fresh hp
 by_cases hlt5:j<ys.length
 ·obtain⟨u1,u2⟩:=hgo5 j _ (D9 hlt5);refine .inr ⟨u1,λv6 H6 y6=>?_⟩;obtain⟨s6,rv6⟩:=u2 v6 H6 y6;rw[Bh hlt5] at hc5;have np:∀b,b∉D::G.M->b∉G.pots:=λb hb z=>hb (c5.inn.pots b z).1;refine hg _ _ σ5 H6 env5 n5 ys[j] v6 _ _ rfl (c5.inn.sr.same s6) rv6 hc5 λenv7 σ7 hc7 S7=>?_;refine ht _ _ σ7 H6 env7 n5 _ _ rfl rfl S7 hc7 λb env8 n8 H8 hc8 S8 f8=>?_;cases b with
  |false=>exact⟨ys.length-(j+1),CG _ _ hlt5,rfl,hlt5,env8,n8,zs,us5,c5.go nD S8,λb o hb e=>S8.frame b o (np b hb) (fr5 b o hb e),Nat.le_succ_of_le la5,hc8⟩
  | true =>
   refine he _ _ σ7 H8 env8 n8 _ _ rfl rfl S8 hc8 λy env9 n9 u H9 hc9 S9 r9 f9=>?_;have c9:=c5.go nD S9;have c10:=c9.add nD hD r9;rw[V6] at c10;refine⟨us5,c9.eD,by rw[<- c5.ra.length,E6];exact Bm (show _<=1001000 by omega) (by rw[Q4];decide),ys.length-(j+1),CG _ _ hlt5,rfl,hlt5,env9,n9,zs++[y],us5++[u],c10,Fr.trans (λb o hb e=>S9.frame b o (np b hb) (fr5 b o hb e)) (CI.fD _),by rw[E6];exact Nat.succ_le_succ la5,?_⟩;simp only[V6];exact hc9
 ·obtain rfl:j=ys.length:=Nat.le_antisymm hj (Av hlt5);rw[Ek] at hc5;have h5:P (zs++[]) env5 n5:=hc5;rw[X3] at h5;exact .inl ⟨hstop5 _ (B8 _),hN zs env5 n5 us5 σ5 H5 h5 c5 la5⟩
theorem Sy {K:A9}{T:PotK}{J:It}{g1 g2:TG}{wi2:TI}{tt:TT}{te:TE}{pg1 pg2:pG}{pi2:pA}{ptt:pT}{pte:pE}(hg1:GOk K g1 pg1)(hi2:IOk K T wi2 pi2)(hg2:GOk K g2 pg2)(ht:TOk K T tt ptt)(he:EOk K T te pte){G:Gh}{H1:Hp}{xs:List PV}(hJ:ItR K G H1 J xs)(hl:xs.length<=1000)
   {σc:St} {env:Env} {n:Nat} {R:List PV->Nat->Prop} {Q:VK} {D:A1} (hD:H1 D=none) (I0:Inn K T G σc H1 env n) (hp:Ca pg1 pi2 pg2 ptt pte xs env n R)
   (hQ:∀ys n' us H',R ys n'->(∀p∈G.pots,T.at_ (D::G.M) H' p n')->(∀b o,b∉G.pots->H1 b=some o->H' b=some o)->H' D=some (.lst us)->Reps K ⟨D::G.M,G.pots⟩ H' ys us->Q (.ref D) H') :
   Iw J g1 wi2 g2 tt te Q D σc (upd H1 D (.lst [])):=by
 have nD:D∉G.pots:=λz=>I0.sr.fresh hD (I0.pots D z).1;refine⟨λi m σ H=>m=xs.length-i/\i<=xs.length/\∃env n jl us,CI K T G H1 D σ H env n jl us/\jl.length<=1000*i/\Ca pg1 pi2 pg2 ptt pte (xs.drop i) env n λys n'=>R (jl++ys) n',⟨xs.length,rfl,K3 _,env,n,[],[],.start hD I0,B8 _,hp⟩,?_⟩;rintro i m σ H ⟨rfl,hi,env,n,jl,us,c,la,hc⟩;obtain⟨hgo,hstop⟩:=c.it hD hJ
 by_cases hlt:i<xs.length
 ·obtain⟨gg1,gg2⟩:=hgo i _ (D9 hlt);refine .inr ⟨gg1,λv H2 y=>?_⟩;obtain⟨s2,rv⟩:=gg2 v H2 y;rw[Bh hlt] at hc;refine hg1 _ _ σ H2 env n xs[i] v _ _ rfl (c.inn.sr.same s2) rv hc λjc σ1 hc1 S2=>?_;refine hi2 _ _ σ1 H2 jc n _ _ rfl rfl S2 hc1 λys jd n2 J2 H4 q4 S4 f4 hJ2=>?_;refine Sx hg2 ht he hJ2 nD hD (c.go nD S4) (by have:=q4.1;omega) q4.2 λzs env5 n5 us5 σ5 H5 h5 c5 lz=>⟨xs.length-(i+1),CG _ _ hlt,rfl,hlt,env5,n5,jl++zs,us5,c5,by rw[E6];have:=q4.1;omega,?_⟩;simp only[V6];exact h5
 ·obtain rfl:i=xs.length:=Nat.le_antisymm hi (Av hlt);rw[Ek] at hc;have hc':R (jl++[]) n:=hc;rw[X3] at hc';exact .inl ⟨hstop _ (B8 _),hQ _ n us H hc' (λp hp=>(c.inn.pots p hp).2) c.kp c.eD c.ra⟩
section
variable {T:PotK}{ι:Type}{K:A9}{F:ι->Cx}{pg1 pg2:pG}{pos:Pos}
theorem Ix {scope:K9}{cl:ι->List (Str×A1)}{N:List Str}{cs:List (Option Nat)}{ji t1 i1 t2 i2:Expr}{jk:List Expr}{pi1 pi2:pA}{ptt:pT}{pte:pE}(S:∀z,o8 (F z) scope (cl z) N cs)(hc:∀z,(F z).calm=true)(hi:QI T K F t1 i1 pi1)
   (hg:QG K (λy:ι×List A1×A1×A5×Hp=>G0 (F y.1) scope (cl y.1) N y.2.1 y.2.2.1 y.2.2.2.1 y.2.2.2.2) t1 pg1)
   (hi2:QI T K (λy:ι×List A1×A1×A5×Hp=>G0 (F y.1) scope (cl y.1) N y.2.1 y.2.2.1 y.2.2.2.1 y.2.2.2.2) t2 i2 pi2)
   (hg2:QG K (λy:ι×List A1×A1×A5×Hp=>G0 (F y.1) scope (cl y.1) N y.2.1 y.2.2.1 y.2.2.2.1 y.2.2.2.2) t2 pg2)
   (ht:QIf T K (λy:ι×List A1×A1×A5×Hp=>G0 (F y.1) scope (cl y.1) N y.2.1 y.2.2.1 y.2.2.2.1 y.2.2.2.2) jk ptt)
   (he:QE T K (λy:ι×List A1×A1×A5×Hp=>G0 (F y.1) scope (cl y.1) N y.2.1 y.2.2.1 y.2.2.2.1 y.2.2.2.2) ji pte)
   (hs:∀z x,T8 i1 (F z).env x=pure x:=by intro _ _;rfl) (hs2:∀z fp C s H x,T8 i2 (G0 (F z) scope (cl z) N fp C s H).env x=pure x:=by intro _ _ _ _ _ _;rfl):QN T K F (LC2 ji t1 i1 t2 i2 jk scope pos) (DI cs pi1 pg1 pi2 pg2 ptt pte):=by
 obtain⟨wi,i1',i2'⟩:=hi;obtain⟨g,hg0,hg⟩:=hg;obtain⟨wj,j1,j2⟩:=hi2;obtain⟨g2,hg20,hg2⟩:=hg2;obtain⟨tt,ht0,ht⟩:=ht;obtain⟨te,he0,he⟩:=he;refine⟨_,λz=>Sw (S z) (hc z) (i1' z) (λfp C s H=>⟨hg0 (z,fp,C,s,H),j1 (z,fp,C,s,H),hg20 (z,fp,C,s,H),ht0 (z,fp,C,s,H),he0 (z,fp,C,s,H)⟩) (hs2 z) (hs z),λC G σ H env n R Q hK hT S hp k=>?_⟩;refine i2' C G σ H env n _ _ hK hT S hp λxs jc n1 J H1 p1 S1 f1 hJ=>?_;intro D hD;have hDM:=S1.fresh hD;refine Sy (G:=G) hg j2 hg2 ht he hJ p1.1 hD (hT▸hK▸HE S1 cs) p1.2 λys n2 us H' rr hpots hk eD ry=>?_;have nD:∀b o,H1 b=some o->b≠D:=λb o e z=>by rw[z,hD] at e;cases e
 have hk2:∀b o,b∉G.pots->H1 b=some o->cutH H' D b=some o:=λb o hb e=>by rw[W4 (nD b o e)];exact hk b o hb e
 have nc:∀b,b∉D::G.M->b≠D:=λb hb z=>hb (by rw[z];exact C7);have np:∀p∈G.pots,p≠D:=λp hp z=>hDM (z▸(S1.pots p hp).1)
 have Sb:SR C G σ (cutH H' D) jc n2:=S1.call hk2 λp hp=>by
  subst hT;have h2:=C.T.keep (hpots p hp) (H':=cutH H' D) (W4 (np p hp)) λb o hb e=>by rw[W4 (nc b hb)];exact e
  exact C.T.more h2 λa ha=>.inl (C3 _ ha)
 have:=k ys jc n2 D us (cutH H' D) rr Sb (f1.trans λb o hb e=>hk2 b o (λz=>hb (S1.pots b z).1) e) (by unfold cutH;rw[jr rfl]) ?_
 ·rw[HF eD] at this;exact this
 ·exact Reps.mono (G:=⟨D::G.M,G.pots⟩) (λb o hb e=>by rw[W4 (nc b hb)];exact e) (λa ha=>.inl (C3 _ ha)) (λ_ _ e=>e) _ _ ry
end
end Pu
end
section
namespace L2
open PySem PySem.Spec PyProof.Rows
section
variable {X:Cx}{a b:Expr}{rest:List Expr}{ta tb:TE}{pos:Pos}
theorem pe_orT (ha:PE X a ta)(hb:PE X (.BoolOp .Or (b::rest) pos) tb):PE X (.BoolOp .Or (a::b::rest) pos) (λσ H Q=>ta σ H λx H1=>∃k,TruV X.K x H1 k/\if k=true then Q x H1 else tb σ H1 Q):=by
 intro jb s σ H Q I h;refine BoolOp_or (thn (ha jb s σ H _ I h) λv s1 ⟨x,H1,I1,r1,q1⟩=>?_);refine thn (JX jb s1 σ H1 x v (λk H=>if k=true then Q x H else tb σ H Q) I1 r1 q1) λc s2 ⟨H2,I2,q2⟩=>?_;cases c with
 |false=>exact hb jb s2 σ H2 Q I2 q2
 |true=>exact⟨x,H2,I2,r1,q2⟩
end
end L2
namespace Pu
open PySem PySem.Spec L2
section
variable {T:PotK}{ι:Type}{K:A9}{F:ι->Cx}{a b:Expr}{rest:List Expr}{pa pb:pE}{pos:Pos}
def qOrT (pa pb:pE):pE:=λenv n R=>pa env n λx jc n1=>match Fb x with|some b=>if b=true then R x jc n1 else pb jc n1 R|none=>False
theorem qe_orT (ha:QE T K F a pa)(hb:QE T K F (.BoolOp .Or (b::rest) pos) pb)(hK:∀z,(F z).K=K:=by intro _;rfl):QE T K F (.BoolOp .Or (a::b::rest) pos) (qOrT pa pb):=by
 obtain⟨t,a1,a2⟩:=ha;obtain⟨u,b1,b2⟩:=hb;refine⟨_,λz=>hK z▸pe_orT (a1 z) (b1 z),λC G σ H env n R Q hK hT S hp k=>?_⟩;refine a2 C G σ H env n _ _ hK hT S hp λx jc n1 v H1 q1 S1 r1 f1=>?_
 split at q1
 ·rename_i c ec;refine⟨c,KW ec (.inl r1),?_⟩;cases c with
  | true =>
   rw[jr rfl] at q1 ⊢;exact k _ _ _ _ _ q1 S1 r1 f1
  | false =>
   rw[jt L0] at q1 ⊢;exact b2 C G σ H1 jc n1 _ _ hK hT S1 q1 λy jd n2 w H2 q2 S2 r2 f2=>k _ _ _ _ _ q2 S2 r2 (f1.trans f2)
 ·exact q1.elim
end
end Pu
end
section
namespace L2
open PySem PySem.Spec PyProof.Rows
def insL {α:Type}(xs:List α)(k:Nat)(y:α):List α:=xs.take k++y::xs.drop k
theorem DJ {α:Type}(xs:List α)(k:Nat)(y:α):(insL xs k y).length=xs.length+1:=by
 unfold insL;rw[E6,E8,O5,P6];omega
section
variable {X:Cx}
def LT:V->List V->Hp->VK->Prop:=λx vs H Q=>∃l xs i y,x=.ref l/\vs=[.int i,y]/\H l=some (.lst xs)/\0<=i/\i<=1000000/\xs.length<B9/\Q .non (upd H l (.lst (insL xs i.toNat y)))
theorem Sz {u:A3}(h0:0<=i):(have k:=if i<0 then(i+((jf.toArray.size:Nat):Int)).toNat else min i.toNat jf.toArray.size;(jf.toArray.extract 0 k).push u++jf.toArray.extract k)=(insL jf i.toNat u).toArray:=by
 have e:(if i<0 then(i+((jf.toArray.size:Nat):Int)).toNat else min i.toNat jf.toArray.size)=min i.toNat jf.length:=by
  rw[jt (by omega)];simp
 show(jf.toArray.extract 0 (if i<0 then(i+((jf.toArray.size:Nat):Int)).toNat else min i.toNat jf.toArray.size)).push u++jf.toArray.extract (if i<0 then(i+((jf.toArray.size:Nat):Int)).toNat else min i.toNat jf.toArray.size)=_;rw[e];unfold insL;rcases CK i.toNat jf.length with h|h
 ·rw[Bo h];simp;exact k6 (by rw[P6];exact B8 _)
 ·rw[CJ h,k6 h,V5 h];simp
theorem SA:MtM X "list.insert" LT:=by
 intro jb s σ H x vs v us Q I rx rv h;obtain⟨l,xs,i,y,rfl,rfl,hH,h0,h1,hz,q⟩:=h;cases rx;cases rv with
 | cons ri rv =>
  obtain⟨t,rfl⟩:=ri;obtain⟨u,rfl,ru⟩:=Vals.one rv;obtain⟨z,jf,n,r,hl,e⟩:=I.lstM hH
  have hf:¬(!JM i)=true:=by
   simp only[JM];simp;omega
  refine call_meets F.slot_list_insert ⟨_,e,rfl⟩ F.entry_list_insert (F.args_list_insert_3 _ _ _) (PySem.AutoSeq1.list_insert_list_int_val_1 l jf.toArray n i t u hf (by rw[F7];omega)) ⟨e,?_⟩;refine⟨.non,_,I.lset (its':=insL jf i.toNat u) hH e (Sz h0) ?_ ?_,rfl,q⟩
  ·exact(r.take i.toNat).append (.cons ru (r.drop i.toNat))
  ·rw[DJ];omega
end
end L2
namespace Pu
open PySem PySem.Spec L2
section
variable {T:PotK}{ι:Type}{K:A9}{F:ι->Cx}{e ei:Expr}{pe pi:pE}{pos:Pos}
def DK (i:Nat)(pi pe:pE):pE:=λenv n R=>(∃xs,env[i]?=some (some (.ow .lst xs)))/\pi env n λj jc n1=>pe jc n1 λy jd n2=>match jd[i]?,j with|some (some (.ow .lst xs)),.int j=>(0<=j/\j<=1000000/\xs.length<1000000)/\R .non (jd.set i (some (.ow .lst (insL xs j.toNat y)))) n2|_,_=>False
theorem Iy (i:Nat)(hv:∀z,EW (F z) (.Name x p) (tVar i))(hi:QE T K F ei pi)(he:QE T K F e pe)(hs1:F5 ei=true:=by rfl)(hs:F5 e=true:=by rfl)(hbase:∀z,w5 (.Name x p) "insert" (F z).env (eval (.Name x p) (F z).env)=eval (.Name x p) (F z).env:=by intro _;rfl)(hline:(ap.endLine == pos.line)=true:=by rfl)
   (hfew:∀z,((backTo pos (E3 [ei,e] (F z).env)).all (λx=>!x.1)&&(backToKw pos (Ap [] (F z).env)).all (λx=>x.1.isSome)&&decide (([ei,e]:List Expr).length+([]:List V1).length+(if([]:List V1).isEmpty then 0 else 1)<30))=true:=by intro _;rfl)
   (hplain:∀z,(backTo pos (E3 [e] (F z).env)).any (·.1)=false:=by intro _;rfl) (hK:∀z,(F z).K=K:=by intro _;rfl):QE T K F (.Call (.Attribute (.Name x p) "insert" ap) [ei,e] [] pos) (DK i pi pe):=by
 obtain⟨ti,i1,i2⟩:=hi;obtain⟨t,a1,a2⟩:=he;refine⟨tBM K "list" LT (tVar i) (X6 ti (X6 t tNil)),λz=>hK z▸Dg CU PySem.F.slot_list_insert PySem.F.type_list_insert SA (hv z).h (E9 (i1 z) (E9 (a1 z) G7 (D0 hs)) (D0 hs1)) (hbase z) (hfew z) hline (D0 hs1) (hplain z),λC G σ H env n R Q hK hT S hp k=>?_⟩;obtain⟨⟨xs0,e0⟩,hp⟩:=hp;obtain⟨a,vs,ev,h1,h2,h3,h4,r⟩:=S.slots i _ e0;refine⟨.ref a,ev,.inl ⟨rfl,vs,SqL.of h4⟩,?_⟩;refine i2 C G σ H env n _ _ hK hT S hp λj jc n1 v H1 q1 S1 r1 f1=>?_;refine a2 C G σ H1 jc n1 _ _ hK hT S1 q1 λy jd n2 u H2 q2 S2 r2 f2=>?_
 split at q2
 ·rename_i xs j' ex;obtain⟨a',us,ev',g1,g2,g3,g4,r'⟩:=S2.slots i _ ex;rw[ev] at ev';cases ev';subst hK;obtain⟨S3,f3⟩:=S2.put ex ev ((r'.take j'.toNat).append (xs:=xs.take j'.toNat) (ys:=y::xs.drop j'.toNat) (us:=u::us.drop j'.toNat) ⟨u,_,rfl,r2,r'.drop j'.toNat⟩);exact⟨a,us,j',u,rfl,by rw[show v=.int j' from r1],g4,q2.1.1,q2.1.2.1,by rw[<- r'.length];exact mil' (by omega),k _ _ _ _ _ q2.2 S3 rfl ((f1.trans f2).trans f3)⟩
 ·exact q2.elim
end
end Pu
end
section
namespace Pu
open PySem PySem.Spec L2
def dPot (c:A1)(at_ left seed:Int):List (Key×V):=[(D8 (B0 "cells"),.ref c),(D8 (B0 "at"),.int at_),(D8 (B0 "left"),.int left),(D8 (B0 "seed"),.int seed)]
theorem q8 (h:a≠b)(e:(B0 a == B0 b)=false:=by decide):¬((D8 (B0 a):Key)=D8 (B0 b)):=λz=>by
 have:=Sum.inr.inj z;rw[this] at e;simp at e
theorem SC:valV (dPot c a l s) (D8 (B0 "cells"):Key)=some (.ref c):=BS rfl
theorem SD:valV (dPot c a l s) (D8 (B0 "at"):Key)=some (.int a):=by
 unfold dPot;rw[BT (q8 (by decide)),BS rfl]
theorem SE:valV (dPot c a l s) (D8 (B0 "left"):Key)=some (.int l):=by
 unfold dPot;rw[BT (q8 (by decide)),BT (q8 (by decide)),BS rfl]
theorem SF {c:A1}{a l s:Int}:valV (dPot c a l s) (D8 (B0 "seed"):Key)=some (.int s):=rfl
theorem SH {k:Key}{v:V}(h:(jg.any λkv=>decide (kv.1=k))=true):putK jg k v=jg.map (λkv=>if kv.1=k then(kv.1,v) else kv):=by unfold putK;rw[jr h]
theorem SI {c:A1}{a l s x:Int}:putK (dPot c a l s) (D8 (B0 "at"):Key) (.int x)=dPot c x l s:=rfl
theorem SJ {c:A1}{a l s x:Int}:putK (dPot c a l s) (D8 (B0 "left"):Key) (.int x)=dPot c a x s:=rfl
theorem SK:putK (dPot c a l s) (D8 (B0 "seed"):Key) (.int x)=dPot c a l x:=by
 rw[SH (by unfold dPot;simp)];unfold dPot;simp only[K7,w9];rw[jt (q8 (by decide)),jt (q8 (by decide)),jt (q8 (by decide)),jr trivial]
structure DM (cells:List Int)(at_ left seed:Int):Prop where
 c63:cells.length<=63
 a0:0<=at_
 l0:0<=left
 s0:0<=seed
 s1:seed<2 ^ 62
def DPotAt (M:List A1)(H:Hp)(p:A1):Prop:=∃(c:A1) (cells:List Int) (at_ left seed:Int),H p=some (.dK (dPot c at_ left seed))/\c∉M/\H c=some (.lst (cells.map V.int))/\DM cells at_ left seed
def potD:PotK where
 at_:=λM H p _=>DPotAt M H p
 mono:=λh _=>h
 keep:=λ⟨c,cells,a,l,s,h1,h2,h3,h4⟩ e k=>⟨c,cells,a,l,s,e.trans h1,h2,k c _ h2 h3,h4⟩
 more:=λ⟨c,cells,a,l,s,h1,h2,h3,h4⟩ k=>⟨c,cells,a,l,s,h1,λz=>(k c z).elim h2 λz=>(by rw[z] at h3;cases h3),h3,h4⟩
 mu:=λ⟨c,cells,a,l,s,h1,h2,h3,h4⟩=>⟨_,h1,trivial⟩
section
variable {P:C8}{w:C4}{K:A9}{mg:Str->Option A3}{base:B6}
def spNext:Sp:=λvs H Q _=>∃(p c:A1) (cells:List Int) (at_ left seed many:Int),vs=[.ref p,.int many]/\H p=some (.dK (dPot c at_ left seed))/\H c=some (.lst (cells.map V.int))/\DM cells at_ left seed/\0<many/\many<1000000/\
 ∀d at' left' seed',0<=d->d<many->DM cells at' left' seed'->Q (.int d) (upd H p (.dK (dPot c at' left' seed')))
theorem SM (G:Kn P w K mg base x k ps spNext):Kn P w K mg base x k ps (D6 K potD AQ):=G.imp λvs H Q E h=>by
 obtain⟨G,xs,n,R,hp,hm,_,r,hf,k⟩:=h;unfold AQ at hf
 split at hf
 ·rename_i kk m;obtain⟨v,rr,rfl,rv,u,r2,rfl,ru,rfl⟩:=r;obtain⟨p,ep,rfl⟩:=rv;obtain rfl:u=.int m:=ru;have pin:p∈G.pots:=J5 ep;obtain⟨pM,c,cells,a,l,s,e,hc,ec,ok⟩:=hp p pin;refine⟨p,c,cells,a,l,s,m,rfl,e,ec,ok,hf.1.1,hf.1.2.1,λd a' l' s' d0 d1 ok'=>?_⟩;refine k _ _ _ _ (hf.2 d d0 d1) rfl (λq hq=>?_) λb o hb eb=>?_
  ·by_cases hqp:q=p
   ·subst hqp;exact⟨c,cells,a',l',s',E4,hc,by rw[D4 λz=>hc (by rw[z];exact pM)];exact ec,ok'⟩
   ·obtain⟨_,c2,cells2,a2,l2,s2,e2,hc2,ec2,ok2⟩:=hp q hq;exact⟨c2,cells2,a2,l2,s2,by rw[D4 hqp];exact e2,hc2,by rw[D4 λz=>hc2 (by rw[z];exact pM)];exact ec2,ok2⟩
  ·rw[D4 (λz=>hb (by rw[z];exact pin))];exact eb
 ·exact hf.elim
def Fw (K:A9):Sp:=λvs H Q _=>∃(a:A1) (ns:List Int),vs=[.ref a]/\SqL K H a (ns.map V.int)/\ns.length<=63/\
 ∀(H':Hp) (p c:A1) (cells:List Int) (at_ left seed:Int),Same H H'->H p=none->H c=none->H' p=some (.dK (dPot c at_ left seed))->H' c=some (.lst (cells.map V.int))->DM cells at_ left seed->Q (.ref p) H'
end
section
variable {ι:Type}{K:A9}{F:ι->Cx}{e:Expr}{es:List Expr}{st:Stmt}{pos:Pos}{pl:pA}{pe pa pb:pE}
theorem SR.potG (S:SR C G σ H env n)(hn:C.np=true)(mo:MutO ob)(h:H p=none)(sm:Same H H')(h':H' p=some ob)(ok:C.T.at_ (p::G.M) H' p n) :
   SR C ⟨p::G.M,G.pots++[p]⟩ σ H' env n:=by
 have hM:∀a∈p::G.M,a∈G.M\/H a=none:=λa ha=>(C5.mp ha).elim (λz=>.inr (z▸h)) .inl
 have hp:∀(k:Nat) (q:A1),G.pots[k]?=some q->(G.pots++[p])[k]?=some q:=λk q e=>by
  obtain⟨hk,_⟩:=F6.mp e;rw[Y5 hk];exact e
 have mm:∀{x:PV} {v:V},Rep C.K G H x v->Rep C.K ⟨p::G.M,G.pots++[p]⟩ H' x v:=λr=>Rep.mono (G':=⟨p::G.M,G.pots++[p]⟩) (λb o _ e=>sm b o e) hM hp _ _ r;have mms:∀{x:List PV} {v:List V},Reps C.K G H x v->Reps C.K ⟨p::G.M,G.pots++[p]⟩ H' x v:=λr=>Reps.mono (G':=⟨p::G.M,G.pots++[p]⟩) (λb o _ e=>sm b o e) hM hp _ _ r;have pM:=S.fresh h
 exact {
  frame:=λb o hb e=>sm b o (S.frame b o hb e)
  sub:=λa ha=>(C5.mp ha).elim (λz=>.inr (z▸S.old h)) (S.sub a)
  sup:=λa ha=>C3 _ (S.sup a ha)
  pots:=λq hq=>by
   rcases M8.mp hq with z|z
   ·refine⟨C3 _ (S.pots q z).1,?_⟩;have h1:=C.T.more (M':=p::G.M) (S.pots q z).2 hM;obtain⟨o,e,_⟩:=C.T.mu h1;exact C.T.keep h1 (by rw[e,sm q o e]) λb o _ e=>sm b o e
   ·rw[K2.mp z];exact⟨C7,ok⟩
  pre:=by
   obtain⟨l,el,_⟩:=S.pre;exact⟨l++[p],by show G.pots++[p]=_;rw[el,V6],.inr hn⟩
  mu:=λa ha=>by
   rcases C5.mp ha with rfl|ha
   ·exact⟨ob,h',mo⟩
   ·obtain⟨o,e,m⟩:=S.mu a ha;exact⟨o,sm a o e,m⟩
  slots:=λi s e=>by
   cases s with
   | v x =>
    obtain⟨v,ev,r⟩:=S.slots i _ e;exact⟨v,ev,mm r⟩
   | ow kk xs =>
    obtain⟨b,us,ev,h1,h2,h3,h4,r⟩:=S.slots i _ e;refine⟨b,us,ev,C3 _ h1,h2,λz=>?_,sm _ _ h4,mms r⟩;rcases M8.mp z with z|z
    ·exact h3 z
    ·rw[K2.mp z] at h1;exact pM h1
  inj:=S.inj
  p0:=⟨S.p0.1,C.T.hasM S.p0.2 λz=>pM (S.pots p z).1⟩
  len:=S.len
  newp:=λq hq hn' hM=>by
   rcases M8.mp hq with z|z
   ·exact S.newp q z hn' hM
   ·rw[K2.mp z] at hM
    exact pM (S.sup p hM) }
def Iz (i:Nat)(pa:pE):pS:=λD env n=>pa env n λx jc n1=>match x with|.scr ns=>ns.length<=63/\∀q:Nat,D.nx (jc.set i (some (.v (.pot q)))) n1|_=>False
theorem SN (i:Nat)(h:∀z te,EW (F z) (.Call (.Name x p) [a] [] pos) te->SW (F z) st (tAsg te (O8 i)))(hG:∀z,Kn (F z).prog (F z).w (F z).K (F z).mg (F z).base x k ps (Fw K))(hr:∀z,Room j (F z).A)(hk:k<=j)(hg:∀z,Gl (F z) x)
   (ha:QE potD K F a pa) (n1:F5 a=true:=by rfl) (hdb:(x == ("__debug__":Str))=false:=by decide):QS potD true K F st (Iz i pa):=by
 obtain⟨t,a1,a2⟩:=ha;refine⟨_,λz=>(h z _ ⟨pe_fn (hG z) (hr z) hk (hg z) (E9 (a1 z) G7 (D0 n1)) hdb (D0 n1)⟩).h,λC G σ H env n PD D hK hT hn S hp L=>?_⟩;refine a2 C G σ H env n _ _ hK hT S hp λx jc n1 v H1 q1 S1 r1 f1=>?_
 split at q1
 ·rename_i ns;obtain⟨a,ev,hq⟩:=Dq (.inl r1);refine(show Fw K [v] H1 (λx H1=>O8 i x σ H1 D.nx) E0 from ?_);refine⟨a,ns,by rw[ev],hq,q1.1,λH2 p c cells a l s sm hp hc ep ec ok=>?_⟩
  have S2:=S1.potG hn (p:=p) (ob:=.dK (dPot c a l s)) trivial hp sm ep (by
   rw[hT];refine⟨c,cells,a,l,s,ep,λz=>?_,ec,ok⟩;rcases C5.mp z with rfl|z
   ·rw[ep] at ec;cases ec
   ·exact S1.fresh hc z)
  have S3:=S2.set i (x:=.pot G.pots.length) (v:=.ref p) ⟨p,by simp,rfl⟩;refine L.nx _ _ _ _ _ (q1.2 _) S3 ((Ext.fr f1).trans ⟨λb o _ e=>sm b o e,λc hc=>(C5.mp (show c∈p::G.M from hc)).elim (λz=>.inr (z▸hp)) .inl,λk q e=>?_⟩);obtain⟨hk,_⟩:=F6.mp e;show(G.pots++[p])[k]?=_;rw[Y5 hk];exact e
 ·exact q1.elim
end
end Pu
end
section
namespace Pu
open PySem PySem.Spec L2
section
variable {T:PotK}{np:Bool}{ι:Type}{K:A9}{F:ι->Cx}{a b ea eb:Expr}{st:Stmt}{pos:Pos}{pa pb pi pj:pE}
theorem LU (K:A9)(hc:X.calm=true)(h1:GW X x gx)(h2:GW X y gy)(hn:(G8 [x,y] X.env).length=2:=by rfl)(hst:(G8 [x,y] X.env).findIdx? (·.1)=none:=by rfl)
   (hs:(G8 [x,y] X.env).map (·.2)=assign x X.env::(G8 [y] X.env).map (·.2):=by rfl) (hs2:(G8 [y] X.env).map (·.2)=assign y X.env::(G8 [] X.env).map (·.2):=by rfl) (hK:X.K=K:=by rfl) :
   GW X (.Tuple [x,y] k pos) (gTup K 2 (Z4 gx (Z4 gy gNil))):=⟨hK▸GU hc (Db h1.h (Db h2.h GT hs2) hs) hn hst⟩
def Fx (i:Nat)(pa pb pi pj:pE):pS:=λD env n=>pa env n λx jc n1=>pb jc n1 λy jd n2=>(∃xs,jd[i]?=some (some (.ow .lst xs)))/\gAt i pi x jd n2 λje n3=>gAt i pj y je n3 D.nx
theorem LV (i:Nat){tg:Expr}{k:Nat}{p:Pos}(h:∀z te g,EW (F z) (.Tuple [a,b] k p) te->GW (F z) tg g->SW (F z) st (tAsg te g))(hg:∀z ti tj,EW (F z) ea ti->EW (F z) eb tj->GW (F z) tg (gTup K 2 (Z4 (gSub (tVar i) ti Df) (Z4 (gSub (tVar i) tj Df) gNil))))(h1:QE T K F a pa)(h2:QE T K F b pb)(h3:QE T K F ea pi)(h4:QE T K F eb pj)(n1:F5 a=true:=by rfl)(n2:F5 b=true:=by rfl):QS T np K F st (Fx i pa pb pi pj):=by
 obtain⟨t,a1,a2⟩:=h1;obtain⟨u,b1,b2⟩:=h2;obtain⟨ti,i1,i2⟩:=h3;obtain⟨tj,j1,j2⟩:=h4;refine⟨_,λz=>(h z _ _ ⟨Ha (E9 (a1 z) (E9 (b1 z) G7 (D0 n2)) (D0 n1))⟩ (hg z _ _ ⟨i1 z⟩ ⟨j1 z⟩)).h,λC G σ H env n PD D hK hT hn S hp L=>?_⟩;refine a2 C G σ H env n _ _ hK hT S hp λx jc n1 v H1 q1 S1 r1 f1=>?_;refine b2 C G σ H1 jc n1 _ _ hK hT S1 q1 λy jd n2 w H2 q2 S2 r2 f2=>?_;obtain⟨⟨xs0,e0⟩,q2⟩:=q2;refine⟨by show 2<=B9;decide,λp hn'=>⟨p,[v,w],rfl,SqT.of E4,rfl,v,[w],rfl,?_⟩⟩;have sm:Same H2 (upd H2 p (.tup [v,w])):=Same.lay1 hn';generalize upd H2 p (.tup [v,w])=H3 at sm ⊢;have S3:=S2.same sm;obtain⟨a,vs,ev,h1,h2,h3,h4,r⟩:=S3.slots i _ e0;refine⟨.ref a,ev,?_⟩;refine i2 C G σ H3 jd n2 _ _ hK hT S3 q2 λd je n3 ud H4 q3 S4 r4 f4=>?_
 split at q3
 ·rename_i xs d ex
  split at q3
  ·rename_i jj ej;obtain⟨a',us,ev',g1,g2,g3,g4,r'⟩:=S4.slots i _ ex;rw[ev] at ev';cases ev';subst hK;obtain⟨S5,f5⟩:=S4.put ex ev (r'.set jj (((r1.fr f2).same sm).fr f4));refine⟨a,us,d,jj,rfl,r4,g4,by rw[<- r'.length];exact ej,?_⟩;refine⟨w,[],rfl,.ref a,ev,?_⟩;refine j2 C G σ _ _ n3 _ _ rfl hT S5 q3 λd2 env5 n5 ud2 H5 q5 S6 r6 f6=>?_
   split at q5
   ·rename_i xs2 d2 ex2
    split at q5
    ·rename_i jj2 ej2;obtain⟨a',us2,ev',k1,k2,k3,k4,r7⟩:=S6.slots i _ ex2;rw[ev] at ev';cases ev';obtain⟨S7,f7⟩:=S6.put ex2 ev (r7.set jj2 ((((r2.same sm).fr f4).fr f5).fr f6));exact⟨a,us2,d2,jj2,rfl,r6,k4,by rw[<- r7.length];exact ej2,rfl,L.nx _ _ _ _ _ q5 S7 (Ext.fr ((((((f1.trans f2).trans (Fr.of sm)).trans f4).trans f5).trans f6).trans f7))⟩
    ·grind
   ·grind
  ·grind
 grind
end
end Pu
end
section
namespace Pu
open PySem L2
theorem LW (zs:List Int)(d:Nat):(zs.map PV.int).all (cmpb d)=true:=by
 rw[List.all_map,R4];intro x _;cases d <;> rfl
theorem u3 {tt:pT}{rest:Pu.Env}{α:Type}(f:α->PV)(c:α->Bool):∀(xs:List α) (s0:Option Slot) (n:Nat) (R:List PV->Nat->Prop),(∀x∈xs,∀m Q,Q (c x) (some (.v (f x))::rest) m->tt (some (.v (f x))::rest) m Q)->R ((xs.filter c).map f) n->U5 (gN 0) tt (qV 0) (xs.map f) (s0::rest) n R
 |[],_,_,_,_,h=>h
 | x :: xs, s0, n, R, ht, h => by
  show tt (some (.v (f x))::rest) n _;refine ht x C7 n _ ?_
  by_cases hc:c x=true
  ·rw[jr hc];rw[List.filter_cons,jr hc] at h;show U5 (gN 0) tt (qV 0) (xs.map f) (some (.v (f x))::rest) n _;exact u3 f c xs _ n _ (λy hy=>ht y (C3 _ hy)) h
  ·rw[jt hc];rw[List.filter_cons,jt hc] at h;exact u3 f c xs _ n _ (λy hy=>ht y (C3 _ hy)) h
end Pu
end
section
namespace Pu
open PySem PySem.Spec L2
def lt (f t:Int)(k:Nat):Nat:=97+((f+(k:Int)*t)%26).toNat
def AX:List Int:=[1,3,5,7,9,11,15,17,19,21,23,25]
theorem lt_ne (ht:t∈AX)(f0:0<=f)(hjk:j<k)(hk:k<26):lt f t j≠lt f t k:=λh=>by
 have inv:∀t∈AX,∃u∈AX,t*u=26*(t*u/26)+1:=by decide
 obtain⟨u,_,hu⟩:=inv t ht;have e:(f+(j:Int)*t)%26=(f+(k:Int)*t)%26:=by unfold lt at h;omega
 have d:(26:Int) ∣ ((k:Int)-j)*t:=by
  have:=Int.dvd_of_emod_eq_zero (Int.emod_eq_emod_iff_emod_sub_eq_zero.mp e.symm);rw[show f+(k:Int)*t-(f+(j:Int)*t)=((k:Int)-j)*t by rw[Int.sub_mul];omega] at this;exact this
 have d2:(26:Int) ∣ ((k:Int)-j)*t*u:=Int.dvd_trans d (Int.dvd_mul_right _ _);rw[Int.mul_assoc,hu,Int.mul_add,Int.mul_one,<- Int.mul_assoc,Int.mul_comm _ 26,Int.mul_assoc] at d2;have d3:(26:Int) ∣ (k:Int)-j:=(Int.dvd_add_right (Int.dvd_mul_right _ _)).mp d2;omega
theorem lt_ltr:Ltr (lt f t k):=by
 unfold lt Ltr;have:=Bv (f+(k:Int)*t) (show(26:Int)≠0 by decide);have:=Bu (f+(k:Int)*t) (show(0:Int)<26 by decide);omega
theorem lt_at {k:Nat}:atI LETS.cps.toList ((f+(k:Int)*t)%26)=some (lt f t k):=
 Lu (Bv _ (by decide)) (Bu _ (by decide))
theorem SO (ht:t∈AX):-(2 ^ 64)<t/\t<2 ^ 64:=by
 simp only[AX,C5,L9,or_false] at ht;rcases ht with rfl|rfl|rfl|rfl|rfl|rfl|rfl|rfl|rfl|rfl|rfl|rfl <;> decide
def LsE (m:Nat)(z:Str):Prop:=z.cps.toList.length=m/\∀c∈z.cps.toList,Ltr c
theorem LsE.more (h:LsE m z)(hc:Ltr c):LsE (m+1) (z++⟨#[c]⟩):=by
 refine⟨by rw[Di,E6,h.1];rfl,λd hd=>?_⟩;rw[Di] at hd;rcases M8.mp hd with hd|hd
 ·exact h.2 d hd
 ·have:d=c:=by simpa using hd
  rw[this];exact hc
theorem SQ (x:Str)(h:a<=b)(hb:b<=x.length):(W0 x (some (a:Int)) (some (b:Int))).cps.toList=(x.cps.toList.drop a).take (b-a):=by
 rw[Lr,StrLaws.sliceText_nat x h hb]
theorem SS {a b c:Nat}(hx:LsE 7 x)(ha:a<=b)(hb:b<=7)(hc:Ltr c) :
   b7 (W0 x none (some (a:Int))++⟨#[c]⟩++W0 x (some (a:Int)) (some (b:Int)))/\(W0 x none (some (a:Int))++⟨#[c]⟩++W0 x (some (a:Int)) (some (b:Int))).cps.toList[a]?=some c:=by
 have lx:x.length=7:=by rw[AF];exact hx.1
 have e:(W0 x none (some (a:Int))++⟨#[c]⟩++W0 x (some (a:Int)) (some (b:Int))).cps.toList=x.cps.toList.take a++c::(x.cps.toList.drop a).take (b-a):=by
  rw[Di,Di,RG x (by omega),SQ x ha (by omega)];simp
 have lt:(x.cps.toList.take a).length=a:=by rw[O5,hx.1];omega
 have hl:(x.cps.toList.take a++c::(x.cps.toList.drop a).take (b-a)).length=b+1:=by
  rw[E6,E8,lt,O5,P6,hx.1];omega
 refine⟨⟨by rw[e];omega,by rw[e,hl];omega,λd hd=>?_⟩,?_⟩
 ·rw[e] at hd;rcases M8.mp hd with hd|hd
  ·exact hx.2 d (Eg hd)
  ·rcases C5.mp hd with hd|hd
   ·rw[hd];exact hc
   ·exact hx.2 d (List.mem_of_mem_drop (Eg hd))
 ·rw[e,V4 (by omega),lt,Bq];rfl
structure NmA (f t:Int)(a:Nat)(zs:List Str)(i:Nat):Prop where
 len:zs.length=i
 nd:zs.Nodup
 own:∀(j:Nat) (z:Str),zs[j]?=some z->z.cps.toList[a]?=some (lt f t j)
 bt:∀z∈zs,b7 z
theorem NmA.more (h:NmA f t a zs i)(ht:t∈AX)(f0:0<=f)(hi:i<26)(hz:b7 z)(hc:z.cps.toList[a]?=some (lt f t i)):NmA f t a (zs++[z]) (i+1):=by
 refine⟨by rw[E6,h.len];rfl,?_,λj y e=>?_,λy hy=>?_⟩
 ·rw[Ej];refine⟨h.nd,by simp,λx hx y hy e=>?_⟩;rw[K2.mp hy] at e;obtain⟨j,hj,ej⟩:=GE.mp hx;have:=h.own j x (by rw[D9 hj,ej]);rw[e,hc] at this;exact lt_ne ht f0 (show j<i by rw[<- h.len];exact hj) hi (M9 this).symm
 ·by_cases c:j<zs.length
  ·rw[Y5 c] at e;exact h.own j y e
  ·have hl:=h.len
   have:j=i:=by
    obtain⟨hh,_⟩:=F6.mp e;rw[E6,e7] at hh;omega
   subst this;rw[V4 (by omega),hl,Bq] at e;have e':z=y:=by simpa using e
   rw[<- e'];exact hc
 ·rcases M8.mp hy with hy|hy
  ·exact h.bt y hy
  ·rw[K2.mp hy];exact hz
theorem Fy {zs:List Str}:memP (.str z) (zs.map PV.str)=decide (z∈zs):=by
 unfold memP;rw[List.any_map,Y9,l4,decide_eq_true_iff];constructor
 ·rintro⟨y,hy,e⟩;have e':decide (y=z)=true:=by rw[<- Dx];exact e
  rw[<- ju e'];exact hy
 ·intro h;refine⟨z,h,?_⟩;show eqP (.str z) (.str z)=true;rw[Dx];exact jp rfl
theorem Ad (zs:List Str)(d:Nat):(zs.map PV.str).all (cmpb d)=true:=by
 rw[List.all_map,R4];intro x _;cases d <;> rfl
theorem LX {zs:List Str}(hP:zs.map PV.str=P)(h:R (.bl (decide (z∈zs)))):wIn 4 false (.str z) (.tup P) R:=by
 subst hP;exact⟨rfl,Ad zs 4,by rw[Fy];exact h⟩
theorem Ae {zs:List Str}(hP:zs.map PV.str=P)(h:R (.bl (!decide (z∈zs)))):wIn 4 true (.str z) (.tup P) R:=by
 subst hP;exact⟨rfl,Ad zs 4,by rw[Fy];exact h⟩
theorem IA {zs:List Str}(hP:zs.map PV.str=P)(h:R (.bl (decide (z∈zs)))):wIn 4 false (.str z) (.lst P) R:=by
 subst hP;exact⟨rfl,Ad zs 4,by rw[Fy];exact h⟩
theorem IB {zs:List Str}(hP:zs.map PV.str=P)(h:R (.bl (!decide (z∈zs)))):wIn 4 true (.str z) (.lst P) R:=by
 subst hP;exact⟨rfl,Ad zs 4,by rw[Fy];exact h⟩
def RowS (zs:List Str):Prop:=zs.Nodup/\∀z∈zs,b7 z
abbrev rowP (zs:List Str):PV:=.tup (zs.map PV.str)
inductive Ev where
 |d (x:Str)|t (x y:Str)
abbrev DROP:Str:=B0 "drop"
abbrev u4:Str:=B0 "touch"
def evK:Ev->List Key
 |.d x=>[.inr DROP,.inr x]
 |.t x y=>[.inr u4,.inr x,.inr y]
def evP (e:Ev):PV:=tupP (evK e)
theorem IC (x:Str):evP (.d x)=.tup [.str DROP,.str x]:=rfl
theorem Af (x y:Str):evP (.t x y)=.tup [.str u4,.str x,.str y]:=rfl
def shP (es:List Ev):PV:=.tup (es.map evP)
def dayP (ds:List (List Ev)):PV:=.tup (ds.map shP)
theorem ev_al (a b:Ev):Al (evK a) (evK b):=by grind [Al,Ev,evK]
theorem LY (h:evK a=evK b):a=b:=by grind [Ev,evK]
theorem ev_ne (e:Ev):evK e≠[]:=by cases e <;> simp[evK]
theorem SU (h:tupP a=tupP b):a=b:=by
 have:=congrArg keyP h;unfold tupP at this;rw[U9,U9] at this;exact this
theorem SV (h:evP a=evP b):a=b:=LY (SU h)
theorem LZ (es:List Ev):∀ys:List PV,(∀y∈ys,y∈es.map evP)->∃es':List Ev,ys=es'.map evP/\∀e∈es',e∈es
 |[],_=>⟨[],rfl,λ_ z=>nomatch z⟩
 | y :: ys, h => by
  obtain⟨e,he,rfl⟩:=F3.mp (h y C7);obtain⟨es',rfl,h2⟩:=LZ es ys λz hz=>h z (C3 _ hz);exact⟨e::es',rfl,λz hz=>(C5.mp hz).elim (λe'=>e'▸he) (h2 z)⟩
theorem L_ (es:List Ev):Fu (es.map evP):=by
 refine .inr (.inr ⟨λx hx=>?_,λx hx y hy=>?_⟩)
 ·obtain⟨e,_,rfl⟩:=F3.mp hx;exact⟨evK e,rfl,ev_ne e⟩
 ·obtain⟨e,_,rfl⟩:=F3.mp hx;obtain⟨e',_,rfl⟩:=F3.mp hy;unfold evP tupP;rw[U9,U9];exact ev_al e e'
theorem SX (h:Srt ys (es.map evP)):∃es':List Ev,ys=es'.map evP/\es'.Perm es:=by
 obtain⟨es',rfl,_⟩:=LZ es ys λy hy=>h.1.mem_iff.mp hy;refine⟨es',rfl,?_⟩;have:=h.1;clear h
 have inj:∀{a b:List Ev},(a.map evP).Perm (b.map evP)->a.Perm b:=by
  intro a b p;have h1:=p.map λy=>(match y with|.tup [_,.str x]=>Ev.d x|.tup [_,.str x,.str y]=>Ev.t x y|_=>Ev.d (B0 ""));rw[U2,U2] at h1
  have e:((λy=>(match y with|PV.tup [_,.str x]=>Ev.d x|.tup [_,.str x,.str y]=>Ev.t x y|_=>Ev.d (B0 "")))∘evP)=id:=by
   funext e
   cases e <;> rfl
  rw[e,List.map_id,List.map_id] at h1;exact h1
 exact inj this
def evB:Ev->List Str
 |.d x=>[x]
 |.t x y=>[x,y]
theorem Ma {es es':List Ev}(h:es'.Perm es):(es'.flatMap evB).Perm (es.flatMap evB):=h.flatMap_right evB
theorem Cb {zs:List Str}(nd:zs.Nodup){i j:Nat}(h1:zs[i]?=some z)(h2:zs[j]?=some z):i=j:=by
 obtain⟨l1,e1⟩:=F6.mp h1;obtain⟨l2,e2⟩:=F6.mp h2;rcases l6 i j with h|h|h
 ·exact absurd (e1.trans e2.symm) (e6.mp nd i j l1 l2 h)
 ·exact h
 ·exact absurd (e2.trans e1.symm) (e6.mp nd j i l2 l1 h)
def ixS (zs:List Str)(z:Str):Nat:=zs.findIdx λy=>decide (y=z)
theorem T4 (h:z∈zs):zs[ixS zs z]?=some z/\∀i,i<ixS zs z->zs[i]?≠some z:=by
 unfold ixS;have hl:zs.findIdx (λy=>decide (y=z))<zs.length:=List.findIdx_lt_length_of_exists ⟨z,h,by simp⟩;refine⟨?_,λi hi e=>?_⟩
 ·rw[D9 hl];have:=List.findIdx_getElem (w:=hl);rw[ju this]
 ·have:=List.not_of_lt_findIdx hi;obtain⟨l1,e1⟩:=F6.mp e;rw[e1] at this;simp at this
theorem Q3 (h:z∈zs):ixS zs z<zs.length:=(F6.mp (T4 h).1).1
theorem m_ix (hP:zs.map PV.str=P)(h:z∈zs)(hl:zs.length<=1000000)(q:R (.int (ixS zs z))):p9 (.tup P) (.str z) R:=by
 subst hP;unfold p9;dsimp only;rw[KS];exact⟨hl,ixS zs z,(T4 h).1,(T4 h).2,q⟩
end Pu
end
section
namespace Pu
open PySem PySem.Spec L2
inductive Mk where
 |d|o|t|u
 deriving DecidableEq
def mkS:Mk->Str
 |.d=>B0 "d"
 |.o=>B0 "o"
 |.t=>B0 "t"
 |.u=>B0 "u"
def mkP (m:Mk):PV:=.str (mkS m)
theorem mk_t (m:Mk):decide (mkS m=B0 "t")=decide (m=.t):=by cases m <;> decide +kernel
theorem mk_u (m:Mk):decide (mkS m=B0 "u")=decide (m=.u):=by cases m <;> decide +kernel
theorem mk_d (m:Mk):decide (mkS m=B0 "d")=decide (m=.d):=by cases m <;> decide +kernel
def run (r:Int):Nat->List Nat->List Mk->Option (List Nat)
 |_,st,[]=>some st
 |k,st,.t::m=>run r (k+1) (k::st) m
 |k,st,.d::m=>run r (k+1) st m
 |k,[],.o::m=>run r (k+1) [] m
 |_,_::_,.o::_=>none
 |_,[],.u::_=>none
 |k,p::st,.u::m=>if(k:Int)-p-1<=r then run r (k+1) st m else none
theorem u5:∀(a:List Mk) (k:Nat) (st:List Nat) (b:List Mk),run r k st (a++b)=(run r k st a).bind λst'=>run r (k+a.length) st' b
 |[],k,st,b=>rfl
 | .t :: a, k, st, b => by
  rw[l5];show run r (k+1) (k::st) (a++b)=(run r (k+1) (k::st) a).bind _;rw[u5 a,E8,show k+1+a.length=k+(a.length+1) by omega]
 | .d :: a, k, st, b => by
  rw[l5];show run r (k+1) st (a++b)=(run r (k+1) st a).bind _;rw[u5 a,E8,show k+1+a.length=k+(a.length+1) by omega]
 | .o :: a, k, [], b => by
  rw[l5];show run r (k+1) [] (a++b)=(run r (k+1) [] a).bind _;rw[u5 a,E8,show k+1+a.length=k+(a.length+1) by omega]
 |.o::a,k,p::st,b=>rfl
 |.u::a,k,[],b=>rfl
 | .u :: a, k, p :: st, b => by
  rw[l5];show(if(k:Int)-p-1<=r then run r (k+1) st (a++b) else none)=(if(k:Int)-p-1<=r then run r (k+1) st a else none).bind _
  split
  ·rw[u5 a,E8,show k+1+a.length=k+(a.length+1) by omega]
  ·rfl
def Cl (r:Int)(k:Nat)(m:List Mk):Prop:=∀st,run r k st m=some st
theorem Cl.app (h1:Cl r k a)(h2:Cl r (k+a.length) b):Cl r k (a++b):=λst=>by rw[u5,h1 st];exact h2 st
theorem Cl.nil:Cl r k []:=λ_=>rfl
theorem Cl.d (h:Cl r (k+1) m):Cl r k (.d::m):=λst=>h st
theorem Cl.tu (h:Cl r (k+1) m)(hl:(m.length:Int)<=r):Cl r k (.t::m++[.u]):=λst=>by
 show run r (k+1) (k::st) (m++[.u])=some st;rw[u5,h (k::st)];show(if((k+1+m.length:Nat):Int)-k-1<=r then some st else none)=some st;rw[jr (by omega)]
def Seg (r:Int):List Nat->List Mk->Prop
 |[],m=>run r 0 [] m=some []
 |p::ps,m=>∃m1 m2,m=m1++.d::m2/\m1.length=p/\Cl r (p+1) m2/\Seg r ps m1
theorem Seg.app {r:Int}:∀{ps:List Nat} {m b:List Mk},Seg r ps m->Cl r m.length b->Seg r ps (m++b)
 | [], m, b, h, hb => by
  show run r 0 [] (m++b)=some [];rw[u5,show run r 0 [] m=some [] from h,J3];exact hb []
 | p :: ps, m, b, h, hb => by
  obtain⟨m1,m2,rfl,e,h2,h3⟩:=h;refine⟨m1,m2++b,by simp,e,h2.app ?_,h3⟩;rw[E6,E8,e] at hb;rw[show p+1+m2.length=p+(m2.length+1) by omega];exact hb
theorem Seg.wrd:∀{ps:List Nat} {m:List Mk},Seg r ps m->run r 0 [] m=some []
 |[],m,h=>h
 | p :: ps, m, h => by
  obtain⟨m1,m2,rfl,e,h2,h3⟩:=h;rw[u5,Seg.wrd h3,J3,e];exact h2 []
theorem Seg.len {r:Int}:∀{ps:List Nat} {m:List Mk},Seg r ps m->ps.length<=m.length:=by intro a;induction a <;> intros <;> grind [Mk,Seg]
theorem Seg.push (h:Seg r ps m):Seg r (m.length::ps) (m++[.d]):=⟨m,[],rfl,rfl,.nil,h⟩
theorem Seg.over (h:Seg r [] m):Seg r [] (m++[.o]):=by
 show run r 0 [] (m++[.o])=some [];rw[u5,show run r 0 [] m=some [] from h]
 rfl
theorem Seg.drop (h:Seg r ps m):Seg r ps (m++[.d]):=h.app (Cl.d .nil)
theorem Seg.popd (h:Seg r (p::ps) m):p<m.length/\m.set p .d=m/\Seg r ps m:=by
 obtain⟨m1,m2,rfl,rfl,h2,h3⟩:=h;refine⟨by simp,by simp,h3.app (Cl.d h2)⟩
theorem Seg.popt {r:Int}{p:Nat}{ps:List Nat}{m:List Mk}(h:Seg r (p::ps) m)(hr:(m.length:Int)-p-1<=r):p<m.length/\Seg r ps (m.set p .t++[.u]):=by
 obtain⟨m1,m2,rfl,rfl,h2,h3⟩:=h;refine⟨by simp,?_⟩;have e:(m1++Mk.d::m2).set m1.length .t++[.u]=m1++(.t::m2++[.u]):=by simp
 rw[e];refine h3.app (Cl.tu h2 ?_)
 grind
inductive PE where
 |d (i:Nat)|t (i j:Nat)
def peB:PE->List Nat
 |.d i=>[i]
 |.t i j=>[i,j]
def shE:Nat->List Nat->List Mk->List PE
 |_,_,[]=>[]
 |k,st,.t::m=>shE (k+1) (k::st) m
 |k,st,.d::m=>.d k::shE (k+1) st m
 |k,st,.o::m=>shE (k+1) st m
 |k,[],.u::m=>shE (k+1) [] m
 |k,p::st,.u::m=>.t k p::shE (k+1) st m
theorem Cc:∀(m:List Mk) (k:Nat) (st:List Nat),st.Nodup->(∀p∈st,p<k)->((shE k st m).flatMap peB).Nodup/\∀q∈(shE k st m).flatMap peB,q∈st\/(k<=q/\q<k+m.length)
 |[],k,st,_,_=>⟨by simp[shE],λq hq=>by simp[shE] at hq⟩
 | .t :: m, k, st, nd, hs => by
  obtain⟨h1,h2⟩:=Cc m (k+1) (k::st) (R5.mpr ⟨λz=>absurd (hs k z) (Y8 k),nd⟩) (λp hp=>(C5.mp hp).elim (λe=>by omega) λhp=>by have:=hs p hp;omega);refine⟨h1,λq hq=>?_⟩;rw[E8];rcases h2 q hq with h|h
  ·grind
  ·omega
 | .d :: m, k, st, nd, hs => by
  obtain⟨h1,h2⟩:=Cc m (k+1) st nd (λp hp=>by have:=hs p hp;omega);show((PE.d k::shE (k+1) st m).flatMap peB).Nodup/\∀q∈(PE.d k::shE (k+1) st m).flatMap peB,_;simp only[k8,peB,l5,w8];refine⟨R5.mpr ⟨λz=>?_,h1⟩,λq hq=>?_⟩
  ·grind
  ·grind
 | .o :: m, k, st, nd, hs => by
  obtain⟨h1,h2⟩:=Cc m (k+1) st nd (λp hp=>by have:=hs p hp;omega);refine⟨by unfold shE;exact h1,λq hq=>?_⟩;unfold shE at hq;rw[E8];rcases h2 q hq with h|h
  ·grind
  ·grind
 | .u :: m, k, [], nd, hs => by
  obtain⟨h1,h2⟩:=Cc m (k+1) [] nd (λp hp=>by have:=hs p hp;omega);refine⟨by unfold shE;exact h1,λq hq=>?_⟩;unfold shE at hq;rw[E8];rcases h2 q hq with h|h
  ·grind
  ·grind
 | .u :: m, k, p :: st, nd, hs => by
  obtain⟨np,nd'⟩:=R5.mp nd;have hp:=hs p C7;obtain⟨h1,h2⟩:=Cc m (k+1) st nd' (λq hq=>by have:=hs q (C3 _ hq);omega);show((PE.t k p::shE (k+1) st m).flatMap peB).Nodup/\∀q∈(PE.t k p::shE (k+1) st m).flatMap peB,_;simp only[k8,peB,l5,w8];refine⟨R5.mpr ⟨λz=>?_,R5.mpr ⟨λz=>?_,h1⟩⟩,λq hq=>?_⟩
  ·grind
  ·grind
  ·grind
def nm (zs:List Str)(i:Nat):Str:=zs.getD i (B0 "")
def evOf (zs:List Str):PE->Ev
 |.d i=>.d (nm zs i)
 |.t i j=>.t (nm zs i) (nm zs j)
theorem evB_of (zs:List Str)(e:PE):evB (evOf zs e)=(peB e).map (nm zs):=by cases e <;> rfl
theorem Mb (zs:List Str)(es:List PE):(es.map (evOf zs)).flatMap evB=(es.flatMap peB).map (nm zs):=by induction es <;> grind [PE,evB,evOf,nm,peB]
theorem Y1 {zs:List Str}{i:Nat}(h:i<zs.length):zs[i]?=some (nm zs i):=by grind [nm]
theorem Fz (h:i<zs.length):nm zs i∈zs:=J5 (Y1 h)
theorem nm_inj (nd:zs.Nodup)(hi:i<zs.length)(hj:j<zs.length)(h:nm zs i=nm zs j):i=j:=Cb nd (Y1 hi) (by rw[h];exact Y1 hj)
structure Fair (zs:List Str)(es:List Ev):Prop where
 nd:(es.flatMap evB).Nodup
 sub:∀b∈es.flatMap evB,b∈zs
theorem FA {α β:Type}(f:α->β):∀{l:List α},l.Nodup->(∀a∈l,∀b∈l,f a=f b->a=b)->(l.map f).Nodup
 |[],_,_=>by simp
 | a :: l, h, hf => by
  obtain⟨h1,h2⟩:=R5.mp h;rw[K7,R5];refine⟨λz=>?_,FA f h2 λx hx y hy=>hf x (C3 _ hx) y (C3 _ hy)⟩;obtain⟨b,hb,e⟩:=F3.mp z;exact h1 (hf b (C3 _ hb) a C7 e▸hb)
theorem SY (nd:zs.Nodup)(hl:m.length=zs.length):Fair zs ((shE 0 [] m).map (evOf zs)):=by
 obtain⟨h1,h2⟩:=Cc m 0 [] (by simp) (λ_ z=>nomatch z)
 have h3:∀q∈(shE 0 [] m).flatMap peB,q<zs.length:=λq hq=>by
  rcases h2 q hq with h|h
  ·cases h
  ·omega
 refine⟨?_,λb hb=>?_⟩
 ·rw[Mb];exact FA _ h1 λa ha b hb e=>nm_inj nd (h3 a ha) (h3 b hb) e
 ·rw[Mb] at hb;obtain⟨q,hq,rfl⟩:=F3.mp hb;exact Fz (h3 q hq)
theorem Fair.perm (h:Fair zs es)(p:es'.Perm es):Fair zs es':=
 ⟨(Ma p).nodup_iff.mpr h.nd,λb hb=>h.sub b ((Ma p).mem_iff.mp hb)⟩
def setE (st f:List Str):Ev->List Str
 |.d _=>f
 |.t x y=>(f.set (ixS st x) y).set (ixS st y) x
def exch (f:List Str)(i j:Nat):List Str:=(f.set i (nm f j)).set j (nm f i)
def exE (st f:List Str):Ev->List Str
 |.d _=>f
 |.t x y=>exch f (ixS st x) (ixS st y)
def aft (st:List Str)(es:List Ev):List Str:=es.foldl (setE st) st
def rbh (st:List Str)(es:List Ev):List Str:=es.foldl (exE st) st
theorem u6 (hx:x∈zs)(hy:y∈zs)(h:ixS zs x=ixS zs y):x=y:=by
 have h1:=(T4 hx).1;rw[h,(T4 hy).1] at h1;exact(M9 h1).symm
theorem ID:∀(es:List Ev) (f:List Str),(es.flatMap evB).Nodup->(∀b∈es.flatMap evB,b∈st/\f[ixS st b]?=some b)->es.foldl (setE st) f=es.foldl (exE st) f
 |[],f,_,_=>rfl
 | .d x :: es, f, nd, h => by
  simp only[k8,evB,l5,w8] at nd h;exact ID es f (R5.mp nd).2 λb hb=>h b (C3 _ hb)
 | .t x y :: es, f, nd, h => by
  simp only[k8,evB,l5,w8] at nd h;obtain⟨nx,nd1⟩:=R5.mp nd;obtain⟨ny,nd2⟩:=R5.mp nd1;obtain⟨hx1,hx2⟩:=h x C7;obtain⟨hy1,hy2⟩:=h y (C3 _ C7)
  have e:setE st f (.t x y)=exE st f (.t x y):=by
   show(f.set (ixS st x) y).set (ixS st y) x=exch f (ixS st x) (ixS st y);unfold exch nm;rw[d8,d8,hx2,hy2];rfl
  rw[Y7,Y7,e];refine ID es _ nd2 λb hb=>?_;obtain⟨hb1,hb2⟩:=h b (C3 _ (C3 _ hb));refine⟨hb1,?_⟩;rw[<- e];show((f.set (ixS st x) y).set (ixS st y) x)[ixS st b]?=some b;have bx:ixS st x≠ixS st b:=λz=>nx (by rw[u6 hx1 hb1 z];exact C3 _ hb);have by_:ixS st y≠ixS st b:=λz=>ny (by rw[u6 hy1 hb1 z];exact hb);rw[O4 by_,O4 bx];exact hb2
theorem IE (h:Fair st es):aft st es=rbh st es:=ID es st h.nd λb hb=>⟨h.sub b hb,(T4 (h.sub b hb)).1⟩
theorem Mc (st f:List Str)(e:Ev):(setE st f e).length=f.length:=by cases e <;> simp[setE]
theorem FB (st:List Str)(es:List Ev):(aft st es).length=st.length:=by
 unfold aft
 have:∀(es:List Ev) (f:List Str),(es.foldl (setE st) f).length=f.length:=by
  intro es
  induction es with
  |nil=>intro f;rfl
  |cons e es ih=>intro f;rw[Y7,ih,Mc]
 exact this es st
theorem SZ (hi:i<f.length)(hj:j<f.length):(exch f i j).Perm f:=by
 unfold exch nm;rw[d8,d8,D9 hi,D9 hj];show((f.set i f[j]).set j f[i]).Perm f;exact List.set_set_perm hi hj
theorem Md (h:∀b∈es.flatMap evB,b∈st):(rbh st es).Perm st:=by
 unfold rbh
 have:∀(es:List Ev) (f:List Str),(∀b∈es.flatMap evB,b∈st)->f.length=st.length->(es.foldl (exE st) f).Perm f:=by
  intro es
  induction es with
  |nil=>intro f _ _;exact CV _
  | cons e es ih =>
   intro f hb hl;rw[Y7]
   have p:(exE st f e).Perm f:=by
    cases e with
    |d x=>exact CV _
    |t x y=>exact SZ (by rw[hl];exact Q3 (hb x (by simp[evB]))) (by rw[hl];exact Q3 (hb y (by simp[evB])))
   exact(ih _ (λb h=>hb b (by rw[k8];exact Y6 _ h)) (by rw[p.length_eq,hl])).trans p
 exact this es st h rfl
theorem Cd {α β:Type}{f:α->β}{l:List α}{i:Nat}{y:β}(h:(l.map f)[i]?=some y):∃x,l[i]?=some x/\y=f x:=by
 rw[E7] at h;cases e:l[i]? with
 |none=>rw[e] at h;cases h
 |some x=>rw[e] at h;exact⟨x,rfl,(M9 h).symm⟩
theorem Ce {α:Type}{l:List α}{i:Nat}{x:α}(h:l[i]?=some x):l.take (i+1)=l.take i++[x]:=by
 rw[List.take_add_one,h];rfl
theorem FC (h:((D3 m).map λ(k:Nat)=>PV.int (j-1-k))[i]?=some x):i<m/\x=.int (j-1-i):=by
 rw[E7] at h;cases e:(D3 m)[i]? with
 |none=>rw[e] at h;cases h
 | some y =>
  rw[e] at h;obtain⟨h1,h2⟩:=F6.mp e;rw[List.getElem_range] at h2;subst h2;rw[e9] at h1;exact⟨h1,(M9 h).symm⟩
theorem FE:((D3 m).map λ(k:Nat)=>PV.int (j-1-k)).length=m:=by simp
theorem FG {α:Type}(xs:List α){a b:Nat}(h:b<=xs.length):cutP xs (some (a:Int)) (some (b:Int))=(xs.take b).drop a:=by
 unfold cutP;rw[HT.sIx_nat,HT.sIx_nat,Bo h,List.drop_take];rcases CK a xs.length with h2|h2
 ·rw[Bo h2]
 ·rw[CJ h2,V5 (B8 _),V5 h2];simp
theorem IF {α:Type}(xs:List α)(b:Nat):cutP xs none (some (b:Int))=xs.take b:=by
 unfold cutP;rw[HT.sIx_none,HT.sIx_nat,Au,Nat.sub_zero];rcases CK b xs.length with h2|h2
 ·rw[Bo h2]
 ·rw[CJ h2,k6 (B8 _),k6 h2]
theorem FH {α:Type}(xs:List α)(a:Nat):cutP xs (some (a:Int)) none=xs.drop a:=by
 unfold cutP;rw[HT.sIx_nat,HT.sIx_none];rcases CK a xs.length with h2|h2
 ·rw[Bo h2];exact k6 (by rw[P6];exact B8 _)
 ·rw[CJ h2,V5 h2,V5 (B8 _)];simp
def hiN (s n k:Nat):Nat:=min (k*s+s) (n-1)
def C2 (s n k:Nat)(row:List Str):List Str:=(row.take (hiN s n k+1)).drop (k*s)
def putN (s n k:Nat)(row b:List Str):List Str:=row.take (k*s)++b++row.drop (hiN s n k+1)
theorem startN_sub {s n k:Nat}{row:List Str}:∀z∈C2 s n k row,z∈row:=by grind [C2]
theorem Cf {s n k:Nat}{row:List Str}(h:RowS row):RowS (C2 s n k row):=by grind [RowS,C2]
theorem AY {s n k:Nat}{row:List Str}(hn:row.length=n)(h1:1<=n):(C2 s n k row).length=hiN s n k+1-k*s:=by grind [hiN,C2]
theorem S_ {s n k:Nat}{row b:List Str}(hn:row.length=n)(h1:1<=n)(hk:k*s<=hiN s n k)(hb:b.length=(C2 s n k row).length):(putN s n k row b).length=n:=by grind [hiN,putN,C2]
theorem Me (hk:k*s<=hiN s n k+1):row.take (k*s)++C2 s n k row++row.drop (hiN s n k+1)=row:=by
 unfold C2;have e1:row.take (k*s)=(row.take (hiN s n k+1)).take (k*s):=by rw[List.take_take,Bo hk]
 rw[e1,Cz,Cz]
theorem IG (hk:k*s<=hiN s n k+1)(p:b.Perm (C2 s n k row)):(putN s n k row b).Perm row:=by
 have h1:(putN s n k row b).Perm (row.take (k*s)++C2 s n k row++row.drop (hiN s n k+1)):=(p.append_left _).append_right _;rw[Me hk] at h1;exact h1
theorem RowS.perm {a b:List Str}(h:RowS a)(p:b.Perm a):RowS b:=by grind [RowS]
theorem at2_0 {α:Type}{a b:α}:atI [a,b] 0=some a:=rfl
theorem at2_1 {α:Type}{a b:α}:atI [a,b] 1=some b:=rfl
theorem at3_0 {α:Type}{a b c:α}:atI [a,b,c] 0=some a:=rfl
theorem at3_1 {α:Type}{a b c:α}:atI [a,b,c] 1=some b:=rfl
theorem at3_2 {α:Type}{a b c:α}:atI [a,b,c] 2=some c:=rfl
theorem Mf:decide (DROP=B0 "touch")=false:=by decide +kernel
def isTo:Ev->Bool
 |.d _=>false
 |.t _ _=>true
theorem Ta (st f:List Str)(e:Ev):(exE st f e).length=f.length:=by cases e <;> simp[exE,exch]
theorem IH (st:List Str):∀(es:List Ev) (f:List Str),(es.foldl (exE st) f).length=f.length
 |[],f=>rfl
 |e::es,f=>by rw[Y7,IH st es,Ta]
theorem II (st:List Str):∀(es:List Ev) (f:List Str),(es.filter isTo).foldl (exE st) f=es.foldl (exE st) f
 |[],f=>rfl
 |.d x::es,f=>II st es f
 | .t x y :: es, f => by
  rw[List.filter_cons,jr (show isTo (.t x y)=true from rfl),Y7,Y7];exact II st es _
end Pu
end
section
namespace Pu
open PySem PySem.Spec L2
inductive Dy (P:List Str->List Ev->Prop)(s n mx:Nat)(row:List Str):Nat->List (List Ev)->List (List Str)->List Str->Prop where
 |nil:Dy P s n mx row 0 [] [] row
 |cons {i:Nat} {ess:List (List Ev)} {sts:List (List Str)} {r:List Str} {es:List Ev} (h:Dy P s n mx row i ess sts r) (hi:i<mx) (hp:P (C2 s n (mx-1-i) r) es) :
     Dy P s n mx row (i+1) (es::ess) (C2 s n (mx-1-i) r::sts) (putN s n (mx-1-i) r (aft (C2 s n (mx-1-i) r) es))
section
variable {P:List Str->List Ev->Prop}{s n mx:Nat}{row:List Str}
theorem Dy.len (h:Dy P s n mx row i ess sts r):ess.length=i/\sts.length=i:=by
 induction h with
 |nil=>exact⟨rfl,rfl⟩
 |cons _ _ _ ih=>exact⟨by rw[E8,ih.1],by rw[E8,ih.2]⟩
theorem FI (h1:1<=s)(hn:1<=n)(hk:k<(n+s-1)/s):k*s<=n-1:=by
 have:(n+s-1)/s*s<=n+s-1:=Nat.div_mul_le_self _ _;have h2:(k+1)*s<=(n+s-1)/s*s:=Nat.mul_le_mul_right s hk;rw[Nat.add_mul,Nat.one_mul] at h2;omega
theorem Mg (h1:1<=s)(hn:1<=n):(n+s-1)/s<=n:=by
 refine Nat.div_le_of_le_mul ?_;obtain⟨n,rfl⟩:∃k,n=k+1:=⟨n-1,by omega⟩;have:s*(n+1)=s*n+s:=Nat.mul_succ s n;have:n<=s*n:=Nat.le_mul_of_pos_left n h1;omega
theorem FJ (h:k*s<=n-1):k*s<=hiN s n k:=by unfold hiN;omega
theorem Dy.rows (h1:1<=s)(hn:1<=n)(hmx:mx=(n+s-1)/s)(hf:∀st es,P st es->Fair st es)(hr:RowS row)(hl:row.length=n)(h:Dy P s n mx row i ess sts r):RowS r/\r.length=n:=by
 induction h with
 |nil=>exact⟨hr,hl⟩
 | @cons i ess sts r es h hi hp ih =>
  have f:=hf _ _ hp;have kh:=FJ (s:=s) (n:=n) (FI h1 hn (show mx-1-i<(n+s-1)/s by omega));refine⟨ih.1.perm (IG (by omega) ?_),S_ ih.2 hn kh (FB _ _)⟩;rw[IE f];exact Md f.sub
end
theorem Tc (h:b7 z):shw (.str z):=λc hc=>by
 have:=(h.2.2 c hc).2;omega
theorem Td (h:b7 z):cost (.str z)<=82:=by
 have:=h.2.1;have e:z.length=z.cps.toList.length:=AF z;show 10*z.length+2<=82;omega
structure Show (d c:Nat)(x:PV):Prop where
 sh:shw x
 de:dep x<=d
 co:cost x<=c
theorem Show.tup (h:∀x∈xs,Show d c x)(hl:xs.length<=l):Show (d+1) ((c+2)*l+3) (.tup xs):=by
 refine⟨Lm _ λx hx=>(h x hx).sh,?_,?_⟩
 ·have:=Ln d xs λx hx=>(h x hx).de;show deps xs+1<=d+1;omega
 ·have:=Lo c xs λx hx=>(h x hx).co;have h2:=Nat.mul_le_mul_left (c+2) hl;show j7 xs+3<=_;omega
theorem Show.lst (h:∀x∈xs,Show d c x)(hl:xs.length<=l):Show (d+1) ((c+2)*l+3) (.lst xs):=by
 have t:=Show.tup h hl;exact⟨t.sh,t.de,t.co⟩
theorem Show.le {d c d' c':Nat}{x:PV}(h:Show d c x)(hd:d<=d')(hc:c<=c'):Show d' c' x:=by grind [PV,Show]
theorem FK (h:b7 z):Show 0 82 (.str z):=⟨Tc h,B8 _,Td h⟩
theorem FM {zs:List Str}(h:∀z∈zs,b7 z)(hl:zs.length<=24):Show 1 2100 (rowP zs):=
 (Show.tup (d:=0) (c:=82) (l:=24) (xs:=zs.map PV.str) (λx hx=>by obtain⟨z,hz,rfl⟩:=F3.mp hx;exact FK (h z hz)) (by grind)).le (B8 _) (by decide)
theorem FN (z:Str)(h1:∀c∈z.cps.toList,c<16 ^ 8)(h2:z.length<=8):Show 0 82 (.str z):=⟨h1,B8 _,by show 10*z.length+2<=82;omega⟩
theorem Te (h:∀b∈evB e,b7 b):Show 1 260 (evP e):=by
 cases e with
 | d x =>
  rw[IC];refine(Show.tup (d:=0) (c:=82) (l:=3) (λy hy=>?_) (by simp)).le (B8 _) (by decide);simp only[C5,L9,or_false] at hy;rcases hy with rfl|rfl
  ·exact FN _ (by decide +kernel) (by decide +kernel)
  ·exact FK (h x (by simp[evB]))
 | t x y =>
  rw[Af];refine(Show.tup (d:=0) (c:=82) (l:=3) (λz hz=>?_) (by simp)).le (B8 _) (by decide);simp only[C5,L9,or_false] at hz;rcases hz with rfl|rfl|rfl
  ·exact FN _ (by decide +kernel) (by decide +kernel)
  ·exact FK (h _ (by simp[evB]))
  ·exact FK (h _ (by simp[evB]))
theorem Tf {es:List Ev}(h:∀b∈es.flatMap evB,b7 b)(hl:es.length<=24):Show 2 6300 (shP es):=
 (Show.tup (d:=1) (c:=260) (l:=24) (xs:=es.map evP) (λx hx=>by obtain⟨e,he,rfl⟩:=F3.mp hx;exact Te λb hb=>h b (V7.mpr ⟨e,he,hb⟩)) (by grind)).le (B8 _) (by decide)
theorem Mh (h:i.natAbs<1000):Show 0 61 (.int i):=⟨by show i.natAbs<10 ^ 60;omega,B8 _,B8 _⟩
theorem Tg {s r:Nat}(h1:s<1000)(h2:r<1000):Show 1 130 (.tup [.int (s:Int),.int (r:Int)]):=by
 refine(Show.tup (d:=0) (c:=61) (l:=2) (λy hy=>?_) (by simp)).le (B8 _) (by decide);simp only[C5,L9,or_false] at hy;rcases hy with rfl|rfl <;> exact Mh (by omega)
end Pu
end
section
namespace Pu
open PySem PySem.Spec L2
def btwU (st:List Str)(x y:Str):List Str:=(st.take (max (ixS st x) (ixS st y))).drop (min (ixS st x) (ixS st y)+1)
theorem FP {zs:List Str}(nd:zs.Nodup){i:Nat}(h:i<zs.length):ixS zs (nm zs i)=i:=Cb nd (T4 (Fz h)).1 (Y1 h)
theorem btw_len {st:List Str}{x y:Str}(hx:x∈st)(hy:y∈st)(h:ixS st y<ixS st x):(btwU st x y).length=ixS st x-ixS st y-1:=by
 have:=Q3 hx;unfold btwU
 grind
theorem IJ {st:List Str}(nd:st.Nodup){x y z:Str}(hx:x∈st)(hy:y∈st):z∈btwU st x y↔z∈st/\min (ixS st x) (ixS st y)<ixS st z/\ixS st z<max (ixS st x) (ixS st y):=by
 unfold btwU;constructor
 ·intro h;obtain⟨q,hq,e⟩:=Eh h;rw[P6,O5] at hq;rw[List.getElem_drop,List.getElem_take] at e;have hm:z∈st:=by rw[<- e];exact Bi _
  have ez:st[min (ixS st x) (ixS st y)+1+q]?=some z:=by rw[D9 (by omega),e]
  have:=Cb nd (T4 hm).1 ez;exact⟨hm,by omega,by omega⟩
 ·rintro⟨hm,h1,h2⟩;have hl:=Q3 hm;have e:=(T4 hm).1;refine J5 (i:=ixS st z-(min (ixS st x) (ixS st y)+1)) ?_;rw[List.getElem?_drop,show min (ixS st x) (ixS st y)+1+(ixS st z-(min (ixS st x) (ixS st y)+1))=ixS st z by omega,List.getElem?_take,jr h2];exact e
theorem Fair.tx {st:List Str}{es:List Ev}(h:Fair st es){x y:Str}(he:Ev.t x y∈es):x∈st/\y∈st:=
 ⟨h.sub x (V7.mpr ⟨_,he,by simp[evB]⟩),h.sub y (V7.mpr ⟨_,he,by simp[evB]⟩)⟩
end Pu
end
section
namespace SeT
open PySem PySem.SetTable L2
def lp (mask:Nat)(h:Int):Nat->Nat×Nat
 |0=>(bits h%(mask+1),bits h)
 |k+1=>leap mask (lp mask h k).1 (lp mask h k).2
def rn (mask i:Nat):Nat:=runEnd mask i-i
def vs (mask:Nat)(h:Int)(k off:Nat):Nat:=(lp mask h k).1+off
theorem IK (mask:Nat)(h:Int):∀k,(lp mask h k).1<=mask
 |0=>CH (Nat.mod_lt _ (Nat.succ_pos mask))
 |k+1=>CH (Nat.mod_lt _ (Nat.succ_pos mask))
theorem rn_9 (mask i:Nat):rn mask i<=9:=by unfold rn runEnd;split <;> omega
theorem IL {mask:Nat}(ho:off<=rn mask (lp mask h k).1):vs mask h k off<=mask:=by
 have:=IK mask h k;unfold rn runEnd at ho;unfold vs
 grind
theorem Mi (mask:Nat)(h:Int):∀k,(lp mask h k).2=bits h/32 ^ k
 |0=>by simp[lp]
 | k + 1 => by
  show(lp mask h k).2/32=_;rw[Mi mask h k,Nat.div_div_eq_div_mul,Nat.pow_succ]
theorem Th (h:Int):bits h<2 ^ 64:=by
 unfold bits
 grind
theorem pert_0 (mask:Nat)(h:Int)(k:Nat)(hk:13<=k):(lp mask h k).2=0:=by
 rw[Mi];refine Nat.div_eq_of_lt (O0 (Th h) ?_);exact M2 (by decide) (Nat.pow_le_pow_right (by decide) hk)
def orb (M:Nat):Nat->Nat
 |0=>0
 |m+1=>(orb M m*5+1)%M
def itr (M a:Nat):Nat->Nat
 |0=>a
 |m+1=>(itr M a m*5+1)%M
theorem IM (M m0:Nat):∀m,itr M (orb M m0) m=orb M (m0+m)
 |0=>rfl
 | m + 1 => by
  show(itr M (orb M m0) m*5+1)%M=(orb M (m0+m)*5+1)%M;rw[IM M m0 m]
theorem Mj {M:Nat}(h:orb M M=0):∀m,orb M (M+m)=orb M m
 |0=>h
 | m + 1 => by
  show(orb M (M+m)*5+1)%M=(orb M m*5+1)%M;rw[Mj h m]
theorem IN (mask:Nat)(h:Int):∀m,(lp mask h (13+m)).1=itr (mask+1) (lp mask h 13).1 m
 |0=>rfl
 | m + 1 => by
  show((lp mask h (13+m)).1*5+1+(lp mask h (13+m)).2/32)%(mask+1)=(itr (mask+1) (lp mask h 13).1 m*5+1)%(mask+1);rw[pert_0 mask h (13+m) (by omega),IN mask h m,Nat.zero_div,Nat.add_zero]
def Msk (mask:Nat):Prop:=mask=7\/mask=31\/mask=127
def chk (M:Nat):Bool:=(D3 M).all λe=>(D3 M).any λm=>orb M m == e
theorem chk8:chk 8=true:=by decide +kernel
theorem chk32:chk 32=true:=by decide +kernel
theorem chk128:chk 128=true:=by decide +kernel
theorem Ml (h:chk M=true)(he:e<M):∃m,m<M/\orb M m=e:=by simp_all [chk,orb]
theorem goes {mask:Nat}(hm:Msk mask)(h:Int)(he:e<=mask):∃K,K<=mask+14/\(lp mask h K).1=e:=by
 have ck:chk (mask+1)=true/\orb (mask+1) (mask+1)=0:=by
  rcases hm with rfl|rfl|rfl
  ·exact⟨chk8,by decide +kernel⟩
  ·exact⟨chk32,by decide +kernel⟩
  ·exact⟨chk128,by decide +kernel⟩
 obtain⟨m0,h0,e0⟩:=Ml ck.1 (Nat.lt_succ_of_le (IK mask h 13));obtain⟨m1,h1,e1⟩:=Ml ck.1 (Nat.lt_succ_of_le he)
 by_cases c:m0<=m1
 ·refine⟨13+(m1-m0),by omega,?_⟩;rw[IN,<- e0,IM,show m0+(m1-m0)=m1 by omega,e1]
 ·refine⟨13+(mask+1+m1-m0),by omega,?_⟩;rw[IN,<- e0,IM,show m0+(mask+1+m1-m0)=mask+1+m1 by omega,Mj ck.2,e1]
def Rise (xs:List Nat):Prop:=xs.Pairwise (· < ·)
theorem IP (xs:Array Nat)(j:Nat)(hr:Rise xs.toList):∀(fuel lo hi:Nat),lo<=hi->hi<=xs.size->hi-lo<=fuel->(∀(i:Nat) x,i<lo->xs[i]?=some x->x<j)->(∀(i:Nat) x,hi<=i->xs[i]?=some x->j<=x)->
   ∃p,below.go xs j fuel lo hi=p/\p<=xs.size/\(∀(i:Nat) x,i<p->xs[i]?=some x->x<j)/\(∀(i:Nat) x,p<=i->xs[i]?=some x->j<=x)
 |0,lo,hi,h1,h2,h3,h4,h5=>⟨lo,rfl,by omega,h4,λi x hi' e=>h5 i x (by omega) e⟩
 | fuel + 1, lo, hi, h1, h2, h3, h4, h5 => by
  unfold below.go
  by_cases c:lo<hi
  ·rw[jr c];have hm:(lo+hi)/2<xs.size:=by omega
   have hm1:lo<=(lo+hi)/2:=by omega
   have hm2:(lo+hi)/2<hi:=by omega
   dsimp only;generalize (lo+hi)/2=mid at hm hm1 hm2 ⊢;have eg:xs.getD mid j=xs[mid]:=by simp[Array.getD,hm]
   have em:xs[mid]?=some xs[mid]:=l8 hm
   have up:∀(a b:Nat) x y,a<b->xs[a]?=some x->xs[b]?=some y->x<y:=λa b x y hab ea eb=>by
    rw[<- V8] at ea eb;obtain⟨la,ea⟩:=F6.mp ea;obtain⟨lb,eb⟩:=F6.mp eb;rw[<- ea,<- eb];exact e6.mp hr a b la lb hab
   rw[eg]
   by_cases c2:xs[mid]<j
   ·rw[jr c2];refine IP xs j hr fuel (mid+1) hi (by omega) h2 (by omega) (λi x hi' e=>?_) h5;rcases CL i mid with h|h
    ·exact Bp (up i mid x _ h e em) c2
    ·have:i=mid:=by omega
     subst this;rw[em] at e;cases e;exact c2
   ·rw[jt c2];refine IP xs j hr fuel lo mid (by omega) (by omega) (by omega) h4 λi x hi' e=>?_;rcases CL mid i with h|h
    ·exact x4 (Bm (Av c2) (up mid i _ x h em e))
    ·have:i=mid:=by omega
     subst this;rw[em] at e;cases e;exact Av c2
  ·rw[jt c];exact⟨lo,rfl,by omega,h4,λi x hi' e=>h5 i x (by omega) e⟩
theorem DN (xs:Array Nat)(j:Nat)(hr:Rise xs.toList):below xs j<=xs.size/\(∀(i:Nat) x,i<below xs j->xs[i]?=some x->x<j)/\(∀(i:Nat) x,below xs j<=i->xs[i]?=some x->j<=x):=by
 obtain⟨p,e,h⟩:=IP xs j hr xs.size 0 xs.size (K3 _) (B8 _) (B8 _) (λi x hi _=>by omega) (λi x hi e=>by
  rw[Ep hi] at e;cases e)
 unfold below
 grind
theorem Ti (hr:Rise xs.toList)(h:xs[i]?=some j):below xs j=i:=by
 obtain⟨h1,h2,h3⟩:=DN xs j hr;rcases l6 (below xs j) i with c|c|c
 ·have hb:below xs j<xs.size:=Bp c (by
   obtain⟨l,_⟩:=Array.getElem?_eq_some_iff.mp h;exact l)
  have e:=l8 hb;have a1:=h3 _ _ (B8 _) e;have e':=e;rw[<- V8] at e' h;obtain⟨la,ea⟩:=F6.mp e';obtain⟨lb,eb⟩:=F6.mp h;have:=e6.mp hr _ _ la lb c;rw[ea,eb] at this;omega
 ·exact c
 grind
theorem Mm {α:Type}(xs:Array α)(p:Nat)(x:α)(hp:p<=xs.size):(insertAt xs p x).toList=insL xs.toList p x:=by
 unfold insertAt insL;simp;exact k6 (by grind)
theorem Tj (hr:Rise xs.toList)(hj:j∉xs.toList):Rise (insL xs.toList (below xs j) j):=by
 obtain⟨h1,h2,h3⟩:=DN xs j hr;unfold insL
 have mt:∀a∈xs.toList.take (below xs j),a<j:=λa ha=>by
  obtain⟨i,hi,e⟩:=GE.mp ha;rw[List.getElem_take] at e;rw[O5] at hi;exact h2 i a (by omega) (by grind)
 have md:∀a∈xs.toList.drop (below xs j),j<a:=λa ha=>by
  obtain⟨i,hi,e⟩:=GE.mp ha;rw[List.getElem_drop] at e;rw[P6] at hi;have hle:=h3 (below xs j+i) a (by omega) (by grind);have hne:a≠j:=λz=>hj (by grind);omega
 refine List.pairwise_append.mpr ⟨hr.sublist (List.take_sublist _ _),List.pairwise_cons.mpr ⟨md,hr.sublist (List.drop_sublist _ _)⟩,λa ha b hb=>?_⟩
 grind
end SeT
end
section
namespace SeT
open PySem PySem.SetTable L2
def Lx (k' o' k o:Nat):Prop:=k'<k\/(k'=k/\o'<o)
def Rch (mask:Nat)(O:Nat->Prop)(s:Nat)(h:Int):Prop:=∃k o,o<=rn mask (lp mask h k).1/\vs mask h k o=s/\∀k' o',o'<=rn mask (lp mask h k').1->Lx k' o' k o->O (vs mask h k' o')
theorem Rch.mono {mask:Nat}(r:Rch mask O s h)(f:∀x,O x->O' x):Rch mask O' s h:=by grind [Rch]
structure TOk (t:Q5)(hs:List Int):Prop where
 size:t.place.toList.length=hs.length
 dum:t.dummies=#[]
 mask:Msk t.mask
 rise:Rise t.place.toList
 lim:∀s∈t.place.toList,s<=t.mask
 room:hs.length<t.mask
 reach:∀(i:Nat) s h,t.place.toList[i]?=some s->hs[i]?=some h->Rch t.mask (·∈t.place.toList) s h
section
variable {t:Q5}{hs:List Int}{h:Int}
theorem TOk.fits (T:TOk t hs):t.fits hs.length=true:=by
 have h1:=T.size;have h2:=T.room;unfold SetTable.fits SetTable.fill;rw[T.dum]
 grind
theorem TOk.odd (T:TOk t hs):t.gaveWay=false:=by
 unfold SetTable.gaveWay;rcases T.mask with e|e|e <;> rw[e] <;> decide
theorem Mn (j:Nat):has #[] j=false:=by unfold has;simp
theorem TOk.slot_live (T:TOk t hs)(e:t.place.toList[i]?=some j):t.slot j=.live i:=by
 unfold SetTable.slot;have e':t.place[i]?=some j:=by rw[<- V8];exact e
 rw[Ti T.rise e'];simp[e']
theorem TOk.slot_empty (T:TOk t hs)(e:j∉t.place.toList):t.slot j=.empty:=by
 unfold SetTable.slot
 have:¬(t.place[below t.place j]? == some j)=true:=λz=>by
  have z':t.place[below t.place j]?=some j:=by simpa using z
  rw[<- V8] at z';exact e (J5 z')
 dsimp only;rw[jt this,T.dum,Mn]
 rfl
theorem TOk.free (T:TOk t hs):∃e,e<=t.mask/\e∉t.place.toList:=by
 refine Bw λz=>?_
 have sub:D3 (t.mask+1) ⊆ t.place.toList:=λx hx=>by
  refine Bw λy=>z ⟨x,CH (N9.mp hx),y⟩
 have:=(List.nodup_range (n:=t.mask+1)).length_le_of_subset sub;rw[e9,T.size] at this;have:=T.room;omega
def pb (mask:Nat)(h:Int)(k o:Nat):Probe:={ j:=vs mask h k o,more:=rn mask (lp mask h k).1-o,i:=(lp mask h k).1,perturb:=(lp mask h k).2,dummy:=none }
theorem pb_adv (t:Q5)(h:Int)(k o:Nat):t.advance (pb t.mask h k o)=if o<rn t.mask (lp t.mask h k).1 then pb t.mask h k (o+1) else pb t.mask h (k+1) 0:=by
 unfold SetTable.advance
 by_cases c:o<rn t.mask (lp t.mask h k).1
 ·rw[jr c,jr (show(pb t.mask h k o).more>0 by show rn t.mask (lp t.mask h k).1-o>0;omega)];unfold pb vs
  congr 1
 ·rw[jt c,jt (show ¬(pb t.mask h k o).more>0 by show ¬rn t.mask (lp t.mask h k).1-o>0;omega)]
  rfl
def nx (mask:Nat)(h:Int)(k o:Nat):Nat×Nat:=if o<rn mask (lp mask h k).1 then(k,o+1) else(k+1,0)
theorem pb_nx (t:Q5)(h:Int)(k o:Nat):t.advance (pb t.mask h k o)=pb t.mask h (nx t.mask h k o).1 (nx t.mask h k o).2:=by
 rw[pb_adv];unfold nx;split <;> rfl
theorem nx_ok {mask:Nat}(ho:o<=rn mask (lp mask h k).1):(nx mask h k o).2<=rn mask (lp mask h (nx mask h k o).1).1:=by grind [lp,nx,rn]
theorem nx_lx {mask:Nat}(ho:o<=rn mask (lp mask h k).1)(ho':o'<=rn mask (lp mask h k').1)(l:Lx k' o' (nx mask h k o).1 (nx mask h k o).2):Lx k' o' k o\/(k'=k/\o'=o):=by grind [Lx,lp,nx,rn]
def far (K k o:Nat):Nat:=10*(K-k)+1-o
theorem Mo {mask:Nat}(ho:o<=rn mask (lp mask h k).1)(hk:k<K):far K (nx mask h k o).1 (nx mask h k o).2<far K k o/\(nx mask h k o).1<=K/\((nx mask h k o).1=K->(nx mask h k o).2=0):=by
 have r9:=rn_9 mask (lp mask h k).1;unfold nx far
 grind
theorem Mp (T:TOk t hs)(at_:Nat->Int)(ha:∀(i:Nat) x,hs[i]?=some x->at_ i=x){K e:Nat}(hK:(lp t.mask h K).1=e)(he:e∉t.place.toList):∀(fuel k o:Nat),k<=K->(k=K->o=0)->o<=rn t.mask (lp t.mask h k).1->far K k o<=fuel->
   ∃ k2 o2, o2 <= rn t.mask (lp t.mask h k2).1 /\ k2 <= K /\ (k2 = K -> o2 = 0) /\ ¬ Lx k2 o2 k o /\ (∀ k' o', o' <= rn t.mask (lp t.mask h k').1 -> ¬ Lx k' o' k o -> Lx k' o' k2 o2 -> ∃ (i : Nat) (x : Int), t.place.toList[i]? = some (vs t.mask h k' o') /\ hs[i]? = some x /\ x ≠ h) /\
     ((vs t.mask h k2 o2∉t.place.toList/\probe.go t at_ h fuel (pb t.mask h k o)=some (.empty (vs t.mask h k2 o2) none))\/
       ∃i,k2<K/\t.place.toList[i]?=some (vs t.mask h k2 o2)/\hs[i]?=some h/\probe.go t at_ h fuel (pb t.mask h k o)=some (.candidate (vs t.mask h k2 o2) i (pb t.mask h (nx t.mask h k2 o2).1 (nx t.mask h k2 o2).2)))
 | 0, k, o, h1, h2, h3, h4 => by
  have r9:=rn_9 t.mask (lp t.mask h k).1;unfold far at h4;have:¬k=K:=λz=>by have:=h2 z;omega
  omega
 | fuel + 1, k, o, h1, h2, h3, h4 => by
  have irr:¬Lx k o k o:=λz=>z.elim (Y8 k) λz=>Y8 o z.2
  by_cases hm:vs t.mask h k o∈t.place.toList
  ·obtain⟨i,hi⟩:=CA.mp hm
   obtain⟨x,hx⟩:∃x,hs[i]?=some x:=by
    have:=(F6.mp hi).1;rw[T.size] at this;exact⟨_,D9 this⟩
   have hkK:k<K:=by
    refine Nat.lt_of_le_of_ne h1 λz=>?_;have o0:=h2 z;subst z;subst o0;exact he (by rw[<- hK];exact hm)
   have sl:=T.slot_live hi
   by_cases c:x=h
   ·subst c;refine⟨k,o,h3,h1,h2,irr,λk' o' _ n l=>absurd l n,.inr ⟨i,hkK,hi,hx,?_⟩⟩;unfold probe.go;rw[show(pb t.mask x k o).j=vs t.mask x k o from rfl,sl];dsimp only;rw[ha i x hx,beq_self_eq_true,jr rfl,pb_nx]
   ·obtain⟨f1,f2,f3⟩:=Mo (K:=K) h3 hkK;obtain⟨k2,o2,a1,a2,a3,a4,a5,a6⟩:=Mp T at_ ha hK he fuel (nx t.mask h k o).1 (nx t.mask h k o).2 f2 f3 (nx_ok h3) (by omega)
    have step:probe.go t at_ h (fuel+1) (pb t.mask h k o)=probe.go t at_ h fuel (pb t.mask h (nx t.mask h k o).1 (nx t.mask h k o).2):=by
     rw[<- pb_nx]
     conv=>lhs;unfold probe.go
     rw[show(pb t.mask h k o).j=vs t.mask h k o from rfl,sl];dsimp only;rw[ha i x hx,jt (by simpa using c)]
    rw[step];refine⟨k2,o2,a1,a2,a3,λz=>a4 ?_,λk' o' p1 p2 p3=>?_,a6⟩
    ·unfold nx
     split
     ·rcases z with z|⟨rfl,z⟩
      ·exact .inl z
      ·exact .inr ⟨rfl,by show o2<o+1;omega⟩
     ·rcases z with z|⟨rfl,z⟩
      ·exact .inl (by show k2<k+1;omega)
      ·exact .inl (by show k2<k2+1;omega)
    ·by_cases c2:Lx k' o' (nx t.mask h k o).1 (nx t.mask h k o).2
     ·rcases nx_lx h3 p1 c2 with c3|⟨rfl,rfl⟩
      ·exact absurd c3 p2
      ·exact⟨i,x,hi,hx,c⟩
     ·exact a5 k' o' p1 c2 p3
  ·refine⟨k,o,h3,h1,h2,irr,λk' o' _ n l=>absurd l n,.inl ⟨hm,?_⟩⟩;unfold probe.go;rw[show(pb t.mask h k o).j=vs t.mask h k o from rfl,T.slot_empty hm]
   rfl
theorem TOk.put (T:TOk t hs)(hs1:s∉t.place.toList)(hl:s<=t.mask)(hr:Rch t.mask (·∈t.place.toList) s h)(hroom:hs.length+1<t.mask) :
   (t.put s).2=below t.place s/\(t.put s).2<=hs.length/\(t.put s).1.plain=t.plain/\(t.put s).1.led=t.led/\TOk (t.put s).1 (insL hs (t.put s).2 h):=by
 have p1:=(DN t.place s T.rise).1;have sz:t.place.size=hs.length:=by rw[<- T.size,O6]
 have pl:(t.put s).1.place.toList=insL t.place.toList (below t.place s) s:=Mm _ _ _ p1;have mk:(t.put s).1.mask=t.mask:=rfl
 have dm:(t.put s).1.dummies=#[]:=by
  show(if has t.dummies s then eraseAt t.dummies (below t.dummies s) else t.dummies)=#[];rw[T.dum,Mn];rfl
 refine⟨rfl,by show below t.place s<=_;omega,rfl,rfl,?_⟩;have hp:(t.put s).2=below t.place s:=rfl;rw[hp]
 have mem:∀x,x∈t.place.toList->x∈insL t.place.toList (below t.place s) s:=λx hx=>by
  unfold insL;rw[<- Cz (below t.place s) t.place.toList] at hx;rcases M8.mp hx with hx|hx
  ·grind
  ·grind
 refine⟨?_,dm,by rw[mk];exact T.mask,by rw[pl];exact Tj T.rise hs1,λx hx=>?_,by rw[mk,DJ];exact hroom,λi x y ex ey=>?_⟩
 ·rw[pl,DJ,DJ,T.size]
 ·rw[pl] at hx;rw[mk];unfold insL at hx;rcases M8.mp hx with hx|hx
  ·exact T.lim x (Eg hx)
  ·rcases C5.mp hx with rfl|hx
   ·exact hl
   ·exact T.lim x (List.mem_of_mem_drop hx)
 ·rw[pl] at ex ⊢;rw[mk];generalize below t.place s=p at *;have lt:(t.place.toList.take p).length=p:=by rw[O5,T.size];omega
  have lh:(hs.take p).length=p:=by rw[O5];omega
  unfold insL at ex ey;rcases l6 i p with c|c|c
  ·rw[Y5 (by omega),List.getElem?_take,jr c] at ex ey;exact(T.reach i x y ex ey).mono mem
  ·subst c;rw[V4 (by omega),lt,Bq] at ex;rw[V4 (by omega),lh,Bq] at ey;cases ex;cases ey;exact hr.mono mem
  ·rw[V4 (by omega),lt,show i-p=(i-p-1)+1 by omega,Cw,List.getElem?_drop,show p+(i-p-1)=i-1 by omega] at ex;rw[V4 (by omega),lh,show i-p=(i-p-1)+1 by omega,Cw,List.getElem?_drop,show p+(i-p-1)=i-1 by omega] at ey;exact(T.reach (i-1) x y ex ey).mono mem
end
end SeT
end
section
namespace SeT
open PySem PySem.SetTable L2
structure Own (mask:Nat)(ow:Array (Option Nat))(sl:List Nat):Prop where
 size:ow.size=mask+1
 nd:sl.Nodup
 lim:∀s∈sl,s<=mask
 has:∀(k s:Nat),sl[k]?=some s->ow[s]?=some (some k)
 no:∀s,s<=mask->s∉sl->ow[s]?=some none
theorem Own.none {mask:Nat}(O:Own mask ow sl)(hs:s<=mask):(ow.getD s (some 0)).isNone=decide (s∉sl):=by
 rw[Ay]
 by_cases c:s∈sl
 ·obtain⟨k,hk⟩:=CA.mp c;rw[O.has k s hk,jq (not_not_intro c)];rfl
 ·rw[O.no s hs c,jp c];rfl
theorem Mq {mask:Nat}{ow:Array (Option Nat)}{sl:List Nat}{h:Int}(O:Own mask ow sl){K e:Nat}(hK:(lp mask h K).1=e)(he:e∉sl):∀(fuel k:Nat),k<=K->K-k<fuel->
   ∃k2 o2,o2<=rn mask (lp mask h k2).1/\layClean.free mask ow fuel (lp mask h k).1 (lp mask h k).2=some (vs mask h k2 o2)/\vs mask h k2 o2∉sl/\∀k' o',o'<=rn mask (lp mask h k').1->k<=k'->Lx k' o' k2 o2->vs mask h k' o'∈sl
 |0,k,_,h2=>absurd h2 (Eo _)
 | fuel + 1, k, h1, h2 => by
  have le:=IK mask h k;have ge:(lp mask h k).1<=runEnd mask (lp mask h k).1:=by unfold runEnd;split <;> omega
  have er:runEnd mask (lp mask h k).1+1-(lp mask h k).1=rn mask (lp mask h k).1+1:=by unfold rn;omega
  have isn:∀o,o<=rn mask (lp mask h k).1->(ow.getD ((lp mask h k).1+o) (some 0)).isNone=decide (vs mask h k o∉sl):=λo ho=>O.none (IL ho);unfold layClean.free;rw[er];cases ef:(D3 (rn mask (lp mask h k).1+1)).find? (λo=>(ow.getD ((lp mask h k).1+o) (some 0)).isNone) with
  | some o2 =>
   obtain⟨p1,p2,p3⟩:=List.find?_range_eq_some.mp ef;have ho2:o2<=rn mask (lp mask h k).1:=by have:=N9.mp p2;omega
   rw[isn o2 ho2] at p1;refine⟨k,o2,ho2,rfl,ju p1,λk' o' q1 q2 q3=>?_⟩;rcases q3 with q3|⟨rfl,q3⟩
   ·omega
   ·have:=p3 o' q3;rw[isn o' (by omega)] at this;exact Bw λz=>by rw[jp z] at this;cases this
  | none =>
   have all:∀o,o<=rn mask (lp mask h k).1->vs mask h k o∈sl:=λo ho=>by
    have:=List.find?_eq_none.mp ef o (N9.mpr (by omega));rw[isn o ho] at this;exact Bw λz=>this (jp z)
   have hkK:k<K:=by
    refine Nat.lt_of_le_of_ne h1 λz=>?_;subst z;exact he (by rw[<- hK];exact all 0 (K3 _))
   obtain⟨k2,o2,a1,a2,a3,a4⟩:=Mq O hK he fuel (k+1) hkK (by omega);refine⟨k2,o2,a1,a2,a3,λk' o' q1 q2 q3=>?_⟩;rcases CL k k' with c|c
   ·exact a4 k' o' q1 c q3
   ·have:k'=k:=by omega
    subst this;exact all o' q1
theorem Own.put {mask:Nat}{ow:Array (Option Nat)}{sl:List Nat}(O:Own mask ow sl){s:Nat}(hs:s<=mask)(hn:s∉sl):Own mask (ow.setIfInBounds s (some sl.length)) (sl++[s]) where
 size:=by rw[Array.size_setIfInBounds];exact O.size
 nd:=Ej.mpr ⟨O.nd,by simp,λa ha b hb e=>hn (by grind)⟩
 lim:=λx hx=>(M8.mp hx).elim (O.lim x) λz=>by rw[K2.mp z];exact hs
 has:=λk x e=>by
  have hsz:s<ow.size:=by rw[O.size];omega
  by_cases c:k<sl.length
  ·rw[Y5 c] at e;have hx:x∈sl:=J5 e;rw[Array.getElem?_setIfInBounds_ne (λz=>hn (by grind))];exact O.has k x e
  ·grind
 no:=λx hx hx'=>by
  have n1:x∉sl:=λz=>hx' (CB _ z);have n2:s≠x:=λz=>hx' (Y6 _ (by grind));rw[Array.getElem?_setIfInBounds_ne n2];exact O.no x hx n1
theorem Own.nil (mask:Nat):Own mask (Er (mask+1) (Option.none:Option Nat)) []:=by grind [Own]
def FQ (mask:Nat)(jl:Option (Array (Option Nat)×Nat))(h:Int):Option (Array (Option Nat)×Nat):=do
 let (owner,k) ← jl
 let j ← layClean.free mask owner (turns mask) (bits h%(mask+1)) (bits h)
 pure (owner.setIfInBounds j (some k),k+1)
theorem Mr {mask:Nat}(hm:Msk mask):∀(rest done:List Int) (ow:Array (Option Nat)) (sl:List Nat),Own mask ow sl->sl.length=done.length->done.length+rest.length<=mask->(∀(k s:Nat) h,sl[k]?=some s->done[k]?=some h->Rch mask (·∈sl) s h)->
   ∃ow' sl',rest.foldl (FQ mask) (some (ow,done.length))=some (ow',(done++rest).length)/\Own mask ow' sl'/\sl'.length=(done++rest).length/\∀(k s:Nat) h,sl'[k]?=some s->(done++rest)[k]?=some h->Rch mask (·∈sl') s h
 |[],done,ow,sl,O,hl,hle,hr=>⟨ow,sl,by simp,O,by simpa using hl,λk s h e1 e2=>hr k s h e1 (by simpa using e2)⟩
 | h :: rest, done, ow, sl, O, hl, hle, hr => by
  rw[E8] at hle
  obtain⟨e,he1,he2⟩:∃e,e<=mask/\e∉sl:=by
   refine Bw λz=>?_;have sub:D3 (mask+1) ⊆ sl:=λx hx=>Bw λy=>z ⟨x,CH (N9.mp hx),y⟩;have:=(List.nodup_range (n:=mask+1)).length_le_of_subset sub;rw[e9,hl] at this;omega
  obtain⟨K,hK1,hK2⟩:=goes hm h he1;obtain⟨k2,o2,a1,a2,a3,a4⟩:=Mq O hK2 he2 (turns mask) 0 (K3 _) (by unfold turns;omega);have O':=O.put (IL a1) a3
  have st:FQ mask (some (ow,done.length)) h=some (ow.setIfInBounds (vs mask h k2 o2) (some sl.length),(done++[h]).length):=by
   unfold FQ;show(layClean.free mask ow (turns mask) (lp mask h 0).1 (lp mask h 0).2).bind _=_;rw[a2,hl,E6]
   rfl
  have mem:∀x,x∈sl->x∈sl++[vs mask h k2 o2]:=λx hx=>CB _ hx
  obtain⟨ow',sl',b1,b2,b3,b4⟩:=Mr hm rest (done++[h]) _ _ O' (by rw[E6,E6,hl];rfl) (by rw[E6,e7];omega) λk s x e1 e2=>by
   by_cases c:k<sl.length
   ·rw[Y5 c] at e1;rw[Y5 (by omega)] at e2;exact(hr k s x e1 e2).mono mem
   ·have hk:k=sl.length:=by
     have:=(F6.mp e1).1;rw[E6,e7] at this;omega
    subst hk;rw[V4 (B8 _),Bq] at e1;rw[V4 (by omega),hl,Bq] at e2;cases e1;cases e2;exact⟨k2,o2,a1,rfl,λk' o' q1 q2=>mem _ (a4 k' o' q1 (K3 _) q2)⟩
  refine⟨ow',sl',?_,b2,by rw[b3,V6];rfl,λk s x e1 e2=>b4 k s x e1 (by rw[V6];exact e2)⟩;rw[Y7,st,b1,V6];rfl
theorem Tm (mask:Nat)(hs:Array Int):layClean mask hs=(hs.toList.foldl (FQ mask) (some (Er (mask+1) none,0))).map (·.1):=by
 unfold layClean;rw[<- Array.foldl_toList]
 rfl
def live (mask:Nat)(ow:Array (Option Nat)):List (Nat×Nat):=(D3 (mask+1)).filterMap λj=>(ow.getD j none).map (j,·)
theorem AZ {mask:Nat}(O:Own mask ow sl):(j,k)∈live mask ow↔sl[k]?=some j:=by
 unfold live;rw[List.mem_filterMap];constructor
 ·rintro⟨x,hx,e⟩;have hxm:x<=mask:=CH (N9.mp hx)
  by_cases c:x∈sl
  ·obtain⟨q,hq⟩:=CA.mp c;rw[Ay,O.has q x hq] at e;have e':(x,q)=(j,k):=by simpa using e
   cases e';exact hq
  ·rw[Ay,O.no x hxm c] at e;cases e
 ·intro h;have hj:=O.lim j (J5 h);refine⟨j,N9.mpr (by omega),?_⟩;rw[Ay,O.has k j h];rfl
theorem Ms (mask:Nat)(ow:Array (Option Nat)):Rise ((live mask ow).map (·.1)):=by
 unfold live Rise;rw[k9];refine List.Pairwise.filterMap _ (R:=(· < ·)) (λa b hab x hx y hy=>?_) List.pairwise_lt_range;cases e1:ow.getD a none with
 |none=>rw[e1] at hx;cases hx
 | some p =>
  cases e2:ow.getD b none with
  |none=>rw[e2] at hy;cases hy
  | some q =>
   rw[e1] at hx;rw[e2] at hy;have hx':(a,p)=x:=by simpa using hx
   have hy':(b,q)=y:=by simpa using hy
   rw[<- hx',<- hy'];exact hab
theorem Tn {mask:Nat}(O:Own mask ow sl):((live mask ow).map (·.2)).Perm (D3 sl.length):=by
 have nd:((live mask ow).map (·.2)).Nodup:=by
  have h1:(live mask ow).Pairwise λa b=>a.1<b.1:=k9.mp (Ms mask ow);rw[G9,k9];refine List.Pairwise.imp_of_mem (λ{a b} ha hb hab e=>?_) h1;have x1:=(AZ (j:=a.1) (k:=a.2) O).mp ha;have x2:=(AZ (j:=b.1) (k:=b.2) O).mp hb;rw[e] at x1;rw[x1] at x2;have:=M9 x2;omega
 refine(GA nd List.nodup_range).mpr λk=>?_;rw[N9,F3];constructor
 ·rintro⟨⟨j,k'⟩,h,rfl⟩;exact(F6.mp ((AZ O).mp h)).1
 ·intro h;exact⟨(sl[k],k),(AZ O).mpr (D9 h),rfl⟩
theorem Tp {mask fi mo:Nat}{led pl:Bool}(hm:Msk mask)(hs:Array Int)(hl:hs.toList.length<mask) :
   ∃t' order,laid mask fi mo led pl hs=some (t',order)/\order.toList.Perm (D3 hs.toList.length)/\t'.led=led/\t'.plain=pl/\t'.mask=mask/\TOk t' (order.toList.map λk=>hs.toList.getD k 0):=by
 obtain⟨ow,sl,e,O,l,r⟩:=Mr hm hs.toList [] _ [] (Own.nil mask) rfl (by grind) (λk s h e=>by simp at e);rw[w8] at e l r
 have el:laid mask fi mo led pl hs=some ({ mask,place:=((live mask ow).map (·.1)).toArray,dummies:=#[],finger:=fi,led,moves:=mo,plain:=pl },((live mask ow).map (·.2)).toArray):=by
  unfold laid;rw[Tm,show(some (Er (mask+1) (none:Option Nat),0))=some (Er (mask+1) none,([]:List Int).length) from rfl,e]
  rfl
 have po:=Tn O;rw[l] at po;refine⟨_,_,el,po,rfl,rfl,rfl,?_⟩
 have ml:∀x,x∈(live mask ow).map (·.1)↔x∈sl:=λx=>by
  rw[F3];constructor
  ·rintro⟨⟨j,k⟩,h,rfl⟩;exact J5 ((AZ O).mp h)
  ·intro h;obtain⟨k,hk⟩:=CA.mp h;exact⟨(x,k),(AZ O).mpr hk,rfl⟩
 refine⟨by simp,rfl,hm,Ms mask ow,λs h=>O.lim s ((ml s).mp h),?_,λi s h e1 e2=>?_⟩
 ·rw[B4,po.length_eq,e9];exact hl
 ·have e1':((live mask ow).map (·.1))[i]?=some s:=e1;have e2':(((live mask ow).map (·.2)).map λk=>hs.toList.getD k 0)[i]?=some h:=e2;rw[E7] at e1';rw[E7,E7] at e2';cases ex:(live mask ow)[i]? with
  |none=>rw[ex] at e1';cases e1'
  | some y =>
   rw[ex] at e1' e2';have a1:y.1=s:=by simpa using e1'
   have a2:hs.toList.getD y.2 0=h:=by simpa using e2'
   have my:=(AZ (j:=y.1) (k:=y.2) O).mp (J5 ex);have lk:y.2<hs.toList.length:=by rw[<- l];exact(F6.mp my).1
   have hk:hs.toList[y.2]?=some h:=by rw[<- a2,d8,D9 lk];rfl
   rw[a1] at my;exact(r y.2 s h my hk).mono λx hx=>(ml x).mpr hx
end SeT
end
section
namespace SeT
open PySem PySem.Spec PyProof.Rows L2
section
variable (prog:C8)(w:C4)
abbrev TK:HeapKind prog w (List Key):=tupleKind (G5 prog w)
def enS (x:List Key×A1):Int×A3:=((TK prog w).hash x.1,.ref x.2)
structure SetK (h:B6)(a:A1)(o:Obj)(es:Array (Int×A3))(ep:Nat)(t:Q5)(xs:List (List Key×A1)):Prop where
 ho:h.get? a=some o
 ex:o.ExactSet
 hd:o.data=.set es ep t
 hes:es.toList=xs.map (enS prog w)
 hk:∀x∈xs,(TK prog w).is h x.1 x.2
 nd:(xs.map (·.1)).Nodup
 tb:TOk t (xs.map λx=>(TK prog w).hash x.1)
 few:5*xs.length<3*t.mask
 led:t.led=!(w.params.followText "set-order")
end
section
variable {prog:C8}{w:C4}{A:D5}{E:A3->A5->Prop}{s:A5}{a:A1}{o:Obj}{es:Array (Int×A3)}{ep:Nat}{t:Q5}{xs:List (List Key×A1)}
theorem SetK.sz (S:SetK prog w h a o es ep t xs):es.size=xs.length:=by rw[<- O6,S.hes,B4]
theorem SetK.fits (S:SetK prog w h a o es ep t xs):t.fits es.size=true:=by
 have:=S.tb.fits;rw[B4] at this;rw[S.sz];exact this
theorem SetK.at (S:SetK prog w h a o es ep t xs){i:Nat}(e:xs[i]?=some y):es[i]?=some (enS prog w y):=by
 rw[<- V8,S.hes,E7,e];rfl
theorem Mt {vs:List A3}(h:ItemsAre (G5 prog w) ks vs):∀v∈vs,(∃i t,v=.int i t)\/∃x t,v=.str x t:=by
 induction h with
 |nil=>intro v hv;cases hv
 | @cons k v ks vs h1 _ ih =>
  intro u hu;rcases C5.mp hu with rfl|hu
  ·rcases Z1 h1 with⟨i,t,_,rfl⟩|⟨x,t,_,rfl⟩
   ·simp
   ·simp
  ·grind
theorem Mu (hk:(TK prog w).is s.heap k r)(h:Q false s):A6 (A7 prog w) A (ofAClassStatement 8 (.ref r)) Q E s:=by
 obtain⟨ob,items,n,e,c,d,jf⟩:=hk;unfold ofAClassStatement;refine A0 (w6 (⟨ob,e,c⟩:s.TypeIs (.ref r) "tuple") ?_);dsimp only;simp only[beq_self_eq_true,↓reduceIte];refine A0 (A8 ?_);simp only[l7,L3,↓reduceIte];refine A0 (W9 e d ?_);dsimp only;refine A0 ?_;rw[<- Array.forIn_toList];refine Eb _ (λrest r s'=>r.1=none/\s'=s/\∀v∈rest,(∃i t,v=.int i t)\/∃x t,v=.str x t) _ ?_ ?_ _ _ ⟨rfl,rfl,Mt jf⟩
 ·rintro v rest r s' ⟨hr,rfl,all⟩
  have e0:ofAClassStatement 7 v=pure false:=by
   rcases all v C7 with⟨i,t,rfl⟩|⟨x,t,rfl⟩ <;> rfl
  rw[e0];refine A0 (A8 ?_);simp only[L3,↓reduceIte];exact A8 ⟨rfl,rfl,λu hu=>all u (C3 _ hu)⟩
 ·rintro⟨r1,r2⟩ s' ⟨hr,rfl,_⟩;simp only at hr;subst hr;exact A8 h
theorem Tq (hu:A.units<cLine)(hk:(TK prog w).is s.heap k r):∀(l:List A3),(∀v∈l,∃b kb,v=.ref b/\(TK prog w).is s.heap kb b)->∀{Q:Bool->A5->Prop},Q false s->A6 (A7 prog w) A (searchCouldBeSeen (.ref r) l) Q E s:=by
 intro l hl Q h;unfold searchCouldBeSeen;refine A0 ?_;refine Eb _ (λrest r s'=>r.1=none/\s'=s/\∀v∈rest,∃b kb,v=.ref b/\(TK prog w).is s.heap kb b) _ ?_ ?_ _ _ ⟨rfl,rfl,hl⟩
 ·rintro v rest q s' ⟨hr,rfl,all⟩;obtain⟨b,kb,rfl,hb⟩:=all v C7;have fin:∀v∈rest,∃b kb,v=K8 b/\(TK prog w).is s'.heap kb b:=λu hu=>all u (C3 _ hu);dsimp only
  split
  ·exact A8 ⟨rfl,rfl,fin⟩
  ·refine A0 ((TK prog w).quiet hk ?_);simp only[l7,L3,↓reduceIte];refine A0 ((TK prog w).quiet hb ?_);simp only[l7,L3,↓reduceIte];refine A0 (Mu hk ?_);simp only[L3,↓reduceIte];refine A0 (Mu hb ?_);simp only[L3,↓reduceIte];exact A8 ⟨rfl,rfl,fin⟩
 ·rintro⟨r1,r2⟩ s' ⟨hr,rfl,_⟩;simp only at hr;subst hr;exact A8 h
theorem Tr (h:Q true s):A6 (A7 prog w) A (isSame (.ref b) (.ref b)) Q E s:=by
 show A6 _ A (if(b == b)=true then pure true else _) Q E s;rw[jr (by simp)];exact A8 h
theorem Ts {α:Type}{b:Bool}{m:Sem Bool}{u v:Sem α}{Q:α->A5->Prop}(hm:∀Q':Bool->A5->Prop,Q' false s->A6 (A7 prog w) A m Q' E s)(hv:A6 (A7 prog w) A v Q E s):A6 (A7 prog w) A (if b=true then(do let x ← m;if x=true then u else v) else v) Q E s:=by
 split
 ·refine A0 (hm _ ?_);simp only[L3,↓reduceIte];exact hv
 ·exact hv
theorem Mv {r:A1}{k:List Key}(hu:A.units < cLine)(S:SetK prog w s.heap a o es ep t xs)(hk:(TK prog w).is s.heap k r){K e:Nat}(hK:(lp t.mask ((TK prog w).hash k) K).1=e)(he:e∉t.place.toList)(hK2:K<=t.mask + 14){Q:SetFound->A5->Prop}
   (hQ1:k∈xs.map (·.1)->Q (.there none) s) (hQ2:∀sl,sl∉t.place.toList->sl<=t.mask->Rch t.mask (·∈t.place.toList) sl ((TK prog w).hash k)->k∉xs.map (·.1)->Q (.free sl false) s) :
   ∀ (fuel kk oo : Nat) (st : Option SetTable.Probe), st.getD (t.probeStart ((TK prog w).hash k)) = pb t.mask ((TK prog w).hash k) kk oo -> kk <= K -> (kk = K -> oo = 0) -> oo <= rn t.mask (lp t.mask ((TK prog w).hash k) kk).1 -> far K kk oo <= fuel ->
     (∀k' o',o'<=rn t.mask (lp t.mask ((TK prog w).hash k) k').1->Lx k' o' kk oo->∃(i:Nat) (y:List Key×A1),t.place.toList[i]?=some (vs t.mask ((TK prog w).hash k) k' o')/\xs[i]?=some y/\y.1≠k)->
     A6 (A7 prog w) A (setSearchFrom a (.ref r) ((TK prog w).hash k) true fuel st) Q E s
 | 0, kk, oo, st, _, h1, h2, h3, h4, _ => by
  have r9:=rn_9 t.mask (lp t.mask ((TK prog w).hash k) kk).1;unfold far at h4;have:¬kk=K:=λz=>by have:=h2 z;omega
  omega
 | fuel + 1, kk, oo, st, hst, h1, h2, h3, h4, done => by
  have farK:far K kk oo<=10*SetTable.turns t.mask:=by unfold far SetTable.turns;omega
  have hat:∀(i:Nat) x,(xs.map λx=>(TK prog w).hash x.1)[i]?=some x->(es[i]?.map (·.1)).getD 0=x:=λi x e=>by
   rw[E7] at e;cases ex:xs[i]? with
   |none=>rw[ex] at e;cases e
   | some y =>
    rw[ex] at e;rw[S.at ex];exact M9 e
  obtain⟨k2,o2,a1,a2,a3,a4,a5,a6⟩:=Mp S.tb (λi=>(es[i]?.map (·.1)).getD 0) hat hK he (10*SetTable.turns t.mask) kk oo h1 h2 h3 farK
  have done2:∀k' o',o'<=rn t.mask (lp t.mask ((TK prog w).hash k) k').1->Lx k' o' k2 o2->∃(i:Nat) (y:List Key×A1),t.place.toList[i]?=some (vs t.mask ((TK prog w).hash k) k' o')/\xs[i]?=some y/\y.1≠k:=λk' o' p1 p2=>by
   by_cases c:Lx k' o' kk oo
   ·exact done k' o' p1 c
   ·obtain⟨i,x,q1,q2,q3⟩:=a5 k' o' p1 c p2;rw[E7] at q2;cases ex:xs[i]? with
    |none=>rw[ex] at q2;cases q2
    | some y =>
     rw[ex] at q2;have q2':(TK prog w).hash y.1=x:=by simpa using q2
     exact⟨i,y,q1,ex,λz=>q3 (by rw[<- q2',z])⟩
  unfold setSearchFrom;refine A0 (W8 S.ho S.hd S.fits ?_);dsimp only;rw[S.tb.odd];simp only[L3,↓reduceIte];refine A0 (A8 ?_);rw[hst];generalize hpr:t.probe _ ((TK prog w).hash k) (pb t.mask ((TK prog w).hash k) kk oo)=pr;rcases a6 with⟨em,ep2⟩|⟨i,hkK,pi,hi,ep2⟩
  ·have epr:pr=some (.empty (vs t.mask ((TK prog w).hash k) k2 o2) none):=by rw[<- hpr];exact ep2
   rw[epr];dsimp only;refine A8 (hQ2 _ em (IL a1) ⟨k2,o2,a1,rfl,λk' o' p1 p2=>?_⟩ λhin=>?_)
   ·obtain⟨i,y,q1,_⟩:=done2 k' o' p1 p2;exact J5 q1
   ·obtain⟨y,hy,ey⟩:=F3.mp hin;obtain⟨iy,hiy⟩:=CA.mp hy
    obtain⟨sy,hsy⟩:∃sy,t.place.toList[iy]?=some sy:=by
     have:=(F6.mp hiy).1;have h2:=S.tb.size;rw[B4] at h2;exact⟨_,D9 (by omega)⟩
    obtain⟨ky,oy,b1,b2,b3⟩:=S.tb.reach iy sy ((TK prog w).hash k) hsy (by rw[E7,hiy];show some ((TK prog w).hash y.1)=_;rw[ey])
    -- the empty place is not ahead of y's
    have nl:¬Lx k2 o2 ky oy:=λz=>em (b3 k2 o2 a1 z);have ne:¬(k2=ky/\o2=oy):=λ⟨z1,z2⟩=>em (by rw[z1,z2,b2];exact J5 hsy)
    have lt:Lx ky oy k2 o2:=by
     rcases l6 ky k2 with c|c|c
     ·exact .inl c
     ·subst c;rcases l6 oy o2 with d|d|d
      ·exact .inr ⟨rfl,d⟩
      ·exact absurd ⟨rfl,d.symm⟩ ne
      ·exact absurd (.inr ⟨rfl,d⟩) nl
     ·exact absurd (.inl c) nl
    obtain⟨i',y',q1,q2,q3⟩:=done2 ky oy b1 lt;rw[b2] at q1
    have ii:i'=iy:=by
     obtain⟨l1,e1⟩:=F6.mp q1;obtain⟨l2,e2⟩:=F6.mp hsy;rcases l6 i' iy with c|c|c
     ·have:=e6.mp S.tb.rise _ _ l1 l2 c;omega
     ·exact c
     ·have:=e6.mp S.tb.rise _ _ l2 l1 c;omega
    rw[ii,hiy] at q2;cases q2;exact q3 ey
  ·have epr:pr=some (.candidate (vs t.mask ((TK prog w).hash k) k2 o2) i (pb t.mask ((TK prog w).hash k) (nx t.mask ((TK prog w).hash k) k2 o2).1 (nx t.mask ((TK prog w).hash k) k2 o2).2)):=by rw[<- hpr];exact ep2
   rw[epr];dsimp only
   obtain⟨y,hy⟩:∃y,xs[i]?=some y:=by
    rw[E7] at hi;cases ex:xs[i]? with
    |none=>rw[ex] at hi;cases hi
    |some y=>exact⟨y,rfl⟩
   have hyk:=S.hk y (J5 hy);have hey:=S.at hy;refine Ts (λQ' h=>Tq hu hk _ (λv hv=>?_) h) ?_
   ·obtain⟨z,hz,rfl⟩:=F3.mp hv
    have hz':z∈es.toList:=by
     rw[Array.toList_filter] at hz;exact(J9.mp hz).1
    rw[S.hes] at hz';obtain⟨y',hy',rfl⟩:=F3.mp hz';exact⟨y'.2,y'.1,rfl,S.hk y' hy'⟩
   rw[hey];show A6 (A7 prog w) A (T9 [.ref y.2] (eqBool (.ref y.2) (.ref r))>>=_) Q E s;refine A0 (L6 ((TK prog w).eqBool hu hyk hk ?_));refine A0 (W8 S.ho S.hd S.fits ?_);dsimp only
   by_cases c:y.1=k
   ·rw[jp c];simp only[Bool.and_self,↓reduceIte];exact A8 (hQ1 (F3.mpr ⟨y,J5 hy,c⟩))
   ·rw[jq c];simp only[CO,L3,↓reduceIte];have sm:t.sameMemory t.moves t.mask=some true:=by unfold SetTable.sameMemory;simp
    rw[sm];simp only[↓reduceIte];rw[S.tb.slot_live pi];dsimp only;rw[hey];show A6 (A7 prog w) A (isSame (.ref y.2) (.ref y.2)>>=_) Q E s;refine A0 (Tr ?_);refine A0 (A8 ?_);simp only[↓reduceIte];obtain⟨f1,f2,f3⟩:=Mo (K:=K) a1 hkK
    have fle:far K k2 o2<=far K kk oo:=by
     unfold far;have r9:=rn_9 t.mask (lp t.mask ((TK prog w).hash k) kk).1;rcases l6 k2 kk with c|c|c
     ·exact absurd (.inl c) a4
     ·subst c;have:¬o2<oo:=λz=>a4 (.inr ⟨rfl,z⟩);omega
     ·omega
    refine Mv hu S hk hK he hK2 hQ1 hQ2 fuel _ _ _ rfl f2 f3 (nx_ok a1) (by omega) λk' o' p1 p2=>?_;rcases nx_lx a1 p1 p2 with q|⟨rfl,rfl⟩
    ·exact done2 k' o' p1 q
    ·exact⟨i,y,pi,hy,c⟩
end
end SeT
end
section
namespace SeT
open PySem PySem.Spec PyProof.Rows L2
section
variable {prog:C8}{w:C4}{A:D5}{E:A3->A5->Prop}{s:A5}{a:A1}{o:Obj}{es:Array (Int×A3)}{ep:Nat}{t:Q5}{xs:List (List Key×A1)}
theorem hbv (hk:(TK prog w).is s.heap k r)(h:∀b,Q b s):A6 (A7 prog w) A (hashByValue 8 (.ref r)) Q E s:=by
 have hT:s.TypeIs (.ref r) "tuple":=IsTupleKey.typeIs hk;obtain⟨ob,items,n,e,c,d,jf⟩:=hk;unfold hashByValue;refine A0 (Be hT F.slot_tuple_hash.lookup ?_);dsimp only;refine A0 (W9 e d ?_);refine A0 ?_;show A6 _ _ (forIn items _ _) _ _ s;rw[<- Array.forIn_toList];refine Eb _ (λrest q s'=>q.1=none/\s'=s/\∀v∈rest,(∃i t,v=.int i t)\/∃x t,v=.str x t) _ ?_ ?_ _ _ ⟨rfl,rfl,Mt jf⟩
 ·rintro v rest q s' ⟨hr,rfl,all⟩
  have e0:∃b,hashByValue 7 v=pure b:=by
   rcases all v C7 with⟨i,t,rfl⟩|⟨x,t,rfl⟩
   ·exact⟨true,rfl⟩
   ·exact⟨false,rfl⟩
  obtain⟨b,e0⟩:=e0;rw[e0];refine A0 (A8 ?_);cases b with
  | true =>
   simp only[l7,L3,↓reduceIte];exact A8 ⟨rfl,rfl,λu hu=>all u (C3 _ hu)⟩
  | false =>
   simp only[Bool.not_false,↓reduceIte];exact A8 (A8 (h _))
 ·rintro⟨r1,r2⟩ s' ⟨hr,rfl,_⟩;simp only at hr;subst hr;exact A8 (h _)
theorem Mw (hk:(TK prog w).is h k r)(ho:h.get? a=some o)(ex:o.ExactSet)(sb:X2 a h h'):(TK prog w).is h' k r:=by
 obtain⟨ob,items,n,e,c,d,jf⟩:=hk
 have ne:r≠a:=λz=>by
  rw[z,ho] at e;cases e;rw[ex.1] at c;exact absurd c (by decide)
 exact⟨ob,items,n,(sb.2 r ne).trans e,c,d,jf⟩
theorem TOk.pl (T:TOk t hs)(b:Bool):TOk { t with plain:=b } hs:=⟨T.size,T.dum,T.mask,T.rise,T.lim,T.room,T.reach⟩
theorem Tt (hm:Msk m)(h:5*n<3*m):n+1<m:=by grind [Msk]
theorem Mx {h:B6}(ho:h.get? a=some o)(hd:o.data=.set es ep t):(h.update a (Obj.putSet es' t')).get? a=some { o with data:=.set es' (ep+1) t' }:=by
 have:=Bg (Obj.putSet es' t') ho (by rw[putSet_of es' t' hd];rfl);rw[putSet_of es' t' hd] at this;exact this
theorem My {α β:Type}(f:α->β)(l:List α)(p:Nat)(x:α):(insL l p x).map f=insL (l.map f) p (f x):=by simp[insL]
theorem Tu {α:Type}(l:List α)(p:Nat)(x:α):(insL l p x).Perm (x::l):=by
 unfold insL;have h1:(l.take p++x::l.drop p).Perm (x::(l.take p++l.drop p)):=List.perm_middle
 simp_all
theorem Mz {α:Type}(l:List α)(ord:List Nat)(d:α)(p:ord.Perm (D3 l.length)):ord.filterMap (λk=>l[k]?)=ord.map (λk=>l.getD k d)/\(ord.map λk=>l.getD k d).Perm l:=by
 have lt:∀k∈ord,k<l.length:=λk hk=>N9.mp (p.mem_iff.mp hk);constructor
 ·clear p
  induction ord with
  |nil=>rfl
  | cons k ord ih =>
   have hk:=lt k C7;rw[As,D9 hk,K7,ih λj hj=>lt j (C3 _ hj),d8,D9 hk]
   rfl
 ·have h1:=p.map λk=>l.getD k d
  have h2:(D3 l.length).map (λk=>l.getD k d)=l:=by
   apply CD
   intro i;rw[E7]
   by_cases c:i<l.length
   ·grind
   ·grind
  rw[h2] at h1;exact h1
theorem relay (ho:s.heap.get? a=some o)(ex:o.ExactSet)(hd:o.data=.set es ep t)(hes:es.toList=xs.map (enS prog w))(hk:∀x∈xs,(TK prog w).is s.heap x.1 x.2)(nd:(xs.map (·.1)).Nodup)(tb:TOk t (xs.map λx=>(TK prog w).hash x.1))(led:t.led=!(w.params.followText "set-order"))
   (hn:n=xs.length) (hfull:(t.mask=7/\n=5)\/(t.mask=31/\n=19))
   (h:∀h' o' es' ep' t' xs',X2 a s.heap h'->SetK prog w h' a o' es' ep' t' xs'->xs'.Perm xs->Q () { s with heap:=h' }):A6 (A7 prog w) A (setRelay a (CW n)) Q E s:=by
 have sz:es.size=xs.length:=by rw[<- O6,hes,B4]
 have fit:t.fits es.size=true:=by
  have:=tb.fits;rw[B4] at this;rw[sz];exact this
 obtain⟨m',hm',sa,fewm,lt⟩:∃m',Msk m'/\SetTable.sizeAbove (CW n)-1=m'/\5*n<3*m'/\SetTable.sizeAbove (CW n)<=128:=by
  rcases hfull with⟨_,rfl⟩|⟨_,rfl⟩
  ·exact⟨31,.inr (.inl rfl),by decide,by decide,by decide⟩
  ·exact⟨127,.inr (.inr rfl),by decide,by decide,by decide⟩
 have hsl:(es.map (·.1)).toList=xs.map λx=>(TK prog w).hash x.1:=by
  rw[Array.toList_map,hes,U2];rfl
 have hll:(es.map (·.1)).toList.length=n:=by rw[hsl,B4,hn]
 obtain⟨t',ord,el,po,l1,l2,l3,T'⟩:=Tp (fi:=t.finger) (mo:=t.movedTo m') (led:=t.led) (pl:=t.plain) hm' (es.map (·.1)) (by grind)
 have er:t.relaid (es.map (·.1)) (CW n)=some (t',ord):=by
  unfold SetTable.relaid;rw[sa];exact el
 rw[hll] at po;have po':ord.toList.Perm (D3 xs.length):=by rw[<- hn];exact po
 obtain⟨x0,hx0⟩:∃x0:List Key×A1,True:=⟨([],0),trivial⟩;have ol:=Mz xs ord.toList x0 po';have lt2:∀k∈ord.toList,k<xs.length:=λk hk=>N9.mp (po'.mem_iff.mp hk)
 have es2:(ord.filterMap (es[·]?)).toList=(ord.toList.map λk=>xs.getD k x0).map (enS prog w):=by
  rw[Array.toList_filterMap,U2]
  have:∀l:List Nat,(∀k∈l,k < xs.length)->l.filterMap (fun k=>es[k]?)=l.map ((enS prog w)∘fun k=>xs.getD k x0):=by
   intro l
   induction l with
   |nil=>intro _;rfl
   | cons k l ih =>
    intro hl;have hk:=hl k C7
    have e1:es[k]?=some (enS prog w (xs.getD k x0)):=by
     rw[<- V8,hes,E7,D9 hk,d8,D9 hk];rfl
    rw[As,e1,K7,ih λj hj=>hl j (C3 _ hj)]
    rfl
  exact this ord.toList lt2
 have z2:(ord.filterMap (es[·]?)).size=es.size:=by
  rw[<- O6,es2,B4,B4,po'.length_eq,e9,sz]
 unfold setRelay;refine A0 (W8 ho hd fit ?_);dsimp only;rw[jt (by rw[Q4];omega),er]
 show A6 (A7 prog w) A ((do
  let es':=ord.filterMap (es[·]?)
  if es'.size != es.size then unsupported "internal:set-table-lost-an-element"
  pure (es',t'))>>=λ(x:Array (Int×A3)×Q5)=>storeSet a x.1 x.2) Q E s
 dsimp only;rw[jt (by grind)];refine A0 (A0 (A8 (A8 ?_)));have fz:(ord.filterMap (es[·]?)).size<=B9:=by rw[z2,sz,<- hn,Q4];rcases hfull with⟨_,rfl⟩|⟨_,rfl⟩ <;> decide
 refine wpAny_storeSet_of ho hd ?_ fz;have sb:=X4 s.heap a (Obj.putSet (ord.filterMap (es[·]?)) t');have pk:=po';refine h _ _ _ _ _ (ord.toList.map λk=>xs.getD k x0) sb ⟨Mx ho hd,ex,rfl,es2,λx hx=>?_,?_,?_,?_,by rw[l1];exact led⟩ ol.2
 ·exact Mw (hk x (ol.2.mem_iff.mp hx)) ho ex sb
 ·grind
 ·have e3:(ord.toList.map λk=>xs.getD k x0).map (λx=>(TK prog w).hash x.1)=ord.toList.map λk=>(es.map (·.1)).toList.getD k 0:=by
   rw[U2,hsl];refine List.map_congr_left λk hk=>?_;have hk':=lt2 k hk;show(TK prog w).hash (xs.getD k x0).1=_;rw[d8,d8,E7,D9 hk'];rfl
  rw[e3];exact T'
 ·rw[B4,po'.length_eq,e9,<- hn];show 5*n<3*t'.mask;omega
theorem add (hu:A.units<cLine)(S:SetK prog w s.heap a o es ep t xs)(hk:(TK prog w).is s.heap k r)(h63:xs.length+1<=63)
   (h1:k∈xs.map (·.1)->Q false s) (h2:k∉xs.map (·.1)->∀h' o' es' ep' t' xs',X2 a s.heap h'->SetK prog w h' a o' es' ep' t' xs'->xs'.Perm ((k,r)::xs)->Q true { s with heap:=h' }) :
   A6 (A7 prog w) A (setAddHashed a (.ref r) ((TK prog w).hash k)) Q E s:=by
 unfold setAddHashed setAddHashedIn;refine L6 (A0 (W8 S.ho S.hd S.fits ?_));dsimp only;have nb:byScan (.ref r) es=false:=by unfold byScan Value.scannable;simp
 rw[nb];simp only[L3,↓reduceIte];obtain⟨e,he1,he2⟩:=S.tb.free;obtain⟨K,hK1,hK2⟩:=goes S.tb.mask ((TK prog w).hash k) he1
 have f0:far K 0 0<=100000:=by
  unfold far;rcases S.tb.mask with z|z|z <;> rw[z] at hK1 <;> omega
 refine A0 ?_;unfold setSearch;refine Mv hu S hk hK2 he2 hK1 (λhin=>?_) (λsl n1 n2 n3 n4=>?_) 100000 0 0 none rfl (K3 _) (λ_=>rfl) (K3 _) f0 (λk' o' _ l=>?_)
 ·exact A8 (h1 hin)
 ·dsimp only;refine A0 (W8 S.ho S.hd S.fits ?_);have hr:=Tt S.tb.mask (by have:=S.few;exact this);obtain⟨p1,p2,p3,p4,T1⟩:=S.tb.put n1 n2 n3 (by grind);rw[B4] at p2;have ek:insL (xs.map λx=>(TK prog w).hash x.1) (t.put sl).2 ((TK prog w).hash k)=(insL xs (t.put sl).2 (k,r)).map λx=>(TK prog w).hash x.1:=(My (λx:List Key×A1=>(TK prog w).hash x.1) xs (t.put sl).2 (k,r)).symm;rw[ek] at T1
  have es1:(SetTable.insertAt es (t.put sl).2 ((TK prog w).hash k,.ref r)).toList=(insL xs (t.put sl).2 (k,r)).map (enS prog w):=by
   rw[Mm _ _ _ (by rw[S.sz];exact p2),S.hes,My];rfl
  have pm:=Tu xs (t.put sl).2 (k,r);have mk1:(t.put sl).1.mask=t.mask:=rfl
  have nd1:((insL xs (t.put sl).2 (k,r)).map (·.1)).Nodup:=by
   refine((pm.map (·.1)).nodup_iff).mpr ?_;rw[K7,R5];exact⟨n4,S.nd⟩
  have hk1:∀x∈insL xs (t.put sl).2 (k,r),(TK prog w).is s.heap x.1 x.2:=λx hx=>by
   rcases C5.mp (pm.mem_iff.mp hx) with rfl|hx
   ·exact hk
   ·exact S.hk x hx
  have len1:(insL xs (t.put sl).2 (k,r)).length=xs.length+1:=DJ _ _ _
  have fill1:∀b,({ (t.put sl).1 with plain:=b }:Q5).fill=xs.length+1:=λb=>by
   show(t.put sl).1.place.size+(t.put sl).1.dummies.size=_;rw[T1.dum,<- O6,T1.size,B4,len1];rfl
  dsimp only;generalize (t.put sl).2=p at *;generalize ht1:(t.put sl).1=t1 at *;generalize hes1:SetTable.insertAt es p ((TK prog w).hash k,.ref r)=esN at *;generalize hxs1:insL xs p (k,r)=xs1 at *
  -- what follows, whatever is said of the hash
  have tail:∀b:Bool,A6 (A7 prog w) A (do
      storeSet a esN { t1 with plain:=b }
      if(!false&&({ t1 with plain:=b }:Q5).tooFull)=true then do
       setRelay a (CW (es.size+1))
       pure true
      else pure true) Q E s:=λb=>by
    have ez:esN.size<=B9:=by rw[<- O6,es1,B4,len1,Q4];omega
    refine A0 (wpAny_storeSet_of S.ho S.hd ?_ ez);have sb:=X4 s.heap a (Obj.putSet esN { t1 with plain:=b });have hk2:∀x∈xs1,(TK prog w).is (s.heap.update a (Obj.putSet esN { t1 with plain:=b })) x.1 x.2:=λx hx=>Mw (hk1 x hx) S.ho S.ex sb;have ob:=Mx (es':=esN) (t':={ t1 with plain:=b }) S.ho S.hd;have T2:=TOk.pl T1 b
    by_cases c:({ t1 with plain:=b }:Q5).tooFull=true
    ·rw[jr (by grind)]
     have c':(xs.length+1)*5>=t.mask*3:=by
      unfold SetTable.tooFull at c;rw[fill1 b] at c;have:=ju c;rw[<- mk1];exact this
     have few:=S.few;refine A0 (relay (n:=es.size+1) ob S.ex rfl es1 hk2 nd1 T2 (by show t1.led=_;rw[p4];exact S.led) (by rw[S.sz,len1]) ?_ λh' o' es' ep' t' xs' sb' S' p'=>?_)
     ·show(t1.mask=7/\_)\/(t1.mask=31/\_);rw[mk1,S.sz];rcases S.tb.mask with z|z|z
      ·omega
      ·omega
      ·omega
     ·exact A8 (h2 n4 _ _ _ _ _ _ (sb.trans sb') S' (p'.trans pm))
    ·rw[jt (by grind)];refine A8 (h2 n4 _ _ _ _ _ xs1 sb ⟨ob,S.ex,rfl,es1,hk2,nd1,T2,?_,by show t1.led=_;rw[p4];exact S.led⟩ pm)
     have:¬((xs.length+1)*5>=t.mask*3):=λz=>c (by
      unfold SetTable.tooFull;rw[fill1 b]
      exact jp (by grind))
     show 5*xs1.length<3*t1.mask;rw[len1,mk1];omega
  split
  ·refine A0 (hbv hk λb=>?_);cases b with
   | true =>
    simp only[↓reduceIte];exact tail t1.plain
   | false =>
    simp only[L3,↓reduceIte];exact tail false
  ·refine A0 (A8 ?_);simp only[↓reduceIte];exact tail t1.plain
 ·rcases l with l|⟨_,l⟩
  ·grind
  ·omega
end
end SeT
end
section
namespace SeT
open PySem PySem.Spec PyProof.Rows L2
def Holds (prog:C8)(w:C4)(h:B6)(S:A1)(rs:List (List Key×A1)):Prop:=
 ∃o es ep t xs,SetK prog w h S o es ep t xs/\(∀x∈xs,x∈rs)/\∀x∈rs,x.1∈xs.map (·.1)
theorem FR (hk:(TK prog w).is h k r)(kp:∀o,h.get? r=some o->h'.get? r=some o):(TK prog w).is h' k r:=by
 obtain⟨ob,items,n,e,c,d,jf⟩:=hk;exact⟨ob,items,n,kp _ e,c,d,jf⟩
theorem SetK.at' (S:SetK prog w h a o es ep t xs)(k0:h'.get? a=some o)(kp:∀x∈xs,∀o,h.get? x.2=some o->h'.get? x.2=some o):SetK prog w h' a o es ep t xs:=
 ⟨k0,S.ex,S.hd,S.hes,(λx hx=>FR (S.hk x hx) (kp x hx)),S.nd,S.tb,S.few,S.led⟩
theorem Holds.at' (S:Holds prog w h a rs)(k0:∀o,h.get? a=some o->h'.get? a=some o)(kp:∀x∈rs,∀o,h.get? x.2=some o->h'.get? x.2=some o):Holds prog w h' a rs:=by
 obtain⟨o,es,ep,t,xs,S1,S2,S3⟩:=S;exact⟨o,es,ep,t,xs,S1.at' (k0 o S1.ho) λx hx=>kp x (S2 x hx),S2,S3⟩
theorem Holds.len {xs rs:List (List Key×A1)}(S:SetK prog w h a o es ep t xs)(hs:∀x∈xs,x∈rs):xs.length<=rs.length:=by
 have n1:xs.Nodup:=(k9.mp S.nd).imp λh e=>h (by rw[e]);exact n1.length_le_of_subset hs
section
variable {prog:C8}{w:C4}{A:D5}{R:Result->A5->Prop}{I:A1}{fp wr:List A1}{G:Array GenState->Array GenState->Prop}{n:Nat}{P:Nat->A3->Prop}{St:Nat->A5->Prop}
theorem Tv {rs:List (List Key×A1)}(hy:rs[i]?=some y)(S1:SetK prog w h S o es ep t xs)(S2:∀x∈xs,x∈rs.take i)(S3:∀x∈rs.take i,x.1∈xs.map (·.1))(hin:y.1∈xs.map (·.1)):Holds prog w h S (rs.take (i+1)):=by
 have e:rs.take (i+1)=rs.take i++[y]:=by rw[List.take_succ,hy];rfl
 rw[e];exact⟨o,es,ep,t,xs,S1,λx hx=>CB _ (S2 x hx),λx hx=>(M8.mp hx).elim (S3 x) λz=>by rw[K2.mp z];exact hin⟩
theorem Tw (Wk:WalksS prog w A.in1 I fp wr G n P St)(S:A1)(nf:S∉fp)(rs:List (List Key×A1))(hn:rs.length=n)(hv:∀i v,P i v->∃y,rs[i]?=some y/\v=.ref y.2)(ap:∀y∈rs,y.2∉wr/\y.2≠S)(hu:A.in1.units<cLine)(room:n<=63) :
   ∀ (k i : Nat) (s : A5), n - i = k -> i <= n -> St i s -> (∀ y ∈ rs, (TK prog w).is s.heap y.1 y.2) -> Holds prog w s.heap S (rs.take i) ->
     (∀s',Moved (S::wr) G s s'->Holds prog w s'.heap S rs->R (.ok (.ret .none)) s')->
     N7 (A7 prog w) A (.builtin "set.update.loop" ⟨[.ref S,.ref I],[]⟩) R s:=by
 have nw:S∉wr:=λh=>nf (Wk.sub _ h);have sub:∀b∈wr,b∈S::wr:=λb hb=>C3 _ hb;intro k
 induction k with
 | zero =>
  intro i s hk hi st jf so fin;have ei:i=n:=by omega
  subst ei;refine b9 Ew ?_;rw[n6 Az _];refine A0 (m:=pyNext (.ref I)) (Wk.done s _ _ st λs' mv=>?_);refine A8 (fin s' (mv.mono sub) ?_);rw[k6 (by omega)] at so;exact so.at' (λo e=>mv.heap S _ nw e) λx hx o e=>mv.heap _ _ (ap x hx).1 e
 | succ k ih =>
  intro i s hk hi st jf so fin;have lt:i<n:=by omega
  refine b9 Ew ?_;rw[n6 Az _];refine A0 (m:=pyNext (.ref I)) (Wk.item i s _ _ lt st λv s' pv' st' mv=>?_);obtain⟨y,hy,rfl⟩:=hv i v pv';have my:y∈rs:=J5 hy;have its':∀y∈rs,(TK prog w).is s'.heap y.1 y.2:=λy hy=>FR (jf y hy) λo e=>mv.heap _ _ (ap y hy).1 e;have so':Holds prog w s'.heap S (rs.take i):=so.at' (λo e=>mv.heap S _ nw e) λx hx o e=>mv.heap _ _ (ap x (Eg hx)).1 e;refine A0 (m:=T9 [.ref y.2] (setAdd S (.ref y.2))) (L6 ?_);unfold setAdd;refine L6 (A0 ((TK prog w).pyHash hu (its' y my) ?_));obtain⟨o,es,ep,t,xs,S1,S2,S3⟩:=so'
  have l63:xs.length+1<=63:=by
   have:=Holds.len S1 S2;rw[O5] at this;omega
  have next:∀h',X2 S s'.heap h'->Holds prog w h' S (rs.take (i+1))->N7 (A7 prog w) A (.builtin "set.update.loop" ⟨[.ref S,.ref I],[]⟩) R { s' with heap:=h',toks:=s'.toks+(TK prog w).draws y.1 }:=λh' sb so3=>by
   refine ih (i+1) _ (by omega) lt (Wk.frame _ s' _ _ st' (Nat.le_add_right _ _) λb hb o e=>?_) (λz hz=>FR (its' z hz) λo e=>?_) so3 λs2 mv2 so4=>?_
   ·rw[sb.2 b (λz:b=S=>nf (by grind))];exact e
   ·rw[sb.2 z.2 (ap z hz).2];exact e
   ·refine fin s2 (Moved.trans Wk.gtrans ((mv.mono sub).then_heap (Nat.le_add_right _ _) λb o hb e=>?_) mv2) so4;rw[sb.2 b (λz:b=S=>hb (by grind))];exact e
  refine add (s:={ s' with toks:=s'.toks+(TK prog w).draws y.1 }) hu S1 (its' y my) l63 (λhin=>?_) λhin h' o' es' ep' t' xs' sb S1' pm=>?_
  ·exact A8 ⟨k5 Az _,next s'.heap (Heap.SameBut.refl _ _) (Tv hy S1 S2 S3 hin)⟩
  ·refine A8 ⟨k5 Az _,next h' sb ⟨o',es',ep',t',xs',S1',λx hx=>?_,λx hx=>?_⟩⟩
   ·rw[List.take_succ,hy];rcases C5.mp (pm.mem_iff.mp hx) with rfl|z
    ·grind
    ·grind
   ·rw[List.take_succ,hy] at hx;rw[(pm.map (·.1)).mem_iff,K7];rcases M8.mp hx with z|z
    ·grind
    ·grind
end
end SeT
end
section
namespace SeT
open PySem PySem.Spec PyProof.Rows L2
section
variable {prog:C8}{w:C4}{A:D5}{E:A3->A5->Prop}{s:A5}
theorem Tx (h:B6)(S:A1)(led:Bool)(hl:led=!(w.params.followText "set-order"))(e:h.get? S=some { cls:=.type "set",dict:=none,data:=.set #[] 0 (.fresh 0 0 led) }):Holds prog w h S []:=by
 refine⟨_,#[],0,.fresh 0 0 led,[],⟨e,⟨rfl,rfl,rfl⟩,rfl,rfl,(λ_ z=>nomatch z),by simp,⟨rfl,rfl,.inl rfl,by unfold Rise;exact GO,(λ_ z=>nomatch z),(show 0<7 by decide),λi s h e=>?_⟩,(show 5*0<3*7 by decide),hl⟩,(λ_ z=>nomatch z),λ_ z=>nomatch z⟩
 grind
theorem MA (hd:A.handled=none)(hu:A.units+64<cLine)(ht:s.heap.IsList a jf\/s.heap.IsTuple a jf)(hv:jf.toList=rs.map λy=>K8 y.2)(hk:∀y∈rs,(TK prog w).is s.heap y.1 y.2)(room:rs.length<=63)
   (fin:∀(h':B6) (tk:Nat),Holds prog w h' s.heap.objs.size rs->
     (∀b o,b<s.heap.objs.size->s.heap.get? b=some o->h'.get? b=some o)->Q (.ref s.heap.objs.size) { s with heap:=h',toks:=tk }):A6 (A7 prog w) A (call (.type "set") [.ref a]) Q E s:=by
 have sz:rs.length=jf.size:=by rw[<- O6,hv,B4]
 have lo:∀y∈rs,y.2<s.heap.objs.size:=λy hy=>by
  obtain⟨ob,items,n,e,_⟩:=hk y hy;exact D1 e
 refine Lq hd ht (λI St fp G s1 R led hl lI Wk nf h0 g1 kp k=>?_) fin;refine Tw Wk _ nf rs sz (λi v e=>?_) (λy hy=>⟨λz=>?_,F4 (lo y hy)⟩) (by grind) (by omega) (jf.size-0) 0 s1 rfl (K3 _) h0 (λy hy=>FR (hk y hy) λo e=>kp _ _ e) (Tx _ _ led hl g1) k
 ·rw[<- V8,hv,E7] at e;cases er:rs[i]? with
  |none=>rw[er] at e;cases e
  |some y=>rw[er] at e;cases e;exact⟨y,rfl,rfl⟩
 grind
end
end SeT
end
section
namespace SeT
open PySem PySem.Spec PyProof.Rows L2
theorem b8:Slot "set_iterator" "__next__" "set_iterator.__next__":=.of (owner:="set_iterator") (n:="__next__")
 (by rw[typeLookup_type,builtinLookup_eq_fast];kernel_rfl)
 (by decide +kernel)
 (by decide +kernel)
 (by decide +kernel)
 (by first|exact .inl (by decide +kernel)|exact .inr (by grind))
 (by rw[v5];kernel_rfl)
theorem MB:Slot "set_iterator" "__iter__" "set_iterator.__iter__":=.of (owner:="set_iterator") (n:="__iter__")
 (by rw[typeLookup_type,builtinLookup_eq_fast];kernel_rfl)
 (by decide +kernel)
 (by decide +kernel)
 (by decide +kernel)
 (by first|exact .inl (by decide +kernel)|exact .inr (by grind))
 (by rw[v5];kernel_rfl)
theorem FS:entryFor table "set_iterator.__next__"=some L8.«set_iterator.__next__»:=entryFor_of_tree (by kernel_rfl)
theorem Ty:entryFor table "set_iterator.__iter__"=some L8.«dict_keyiterator.__iter__»:=
 entryFor_alias (id':="dict_keyiterator.__iter__") (by kernel_rfl) rfl (by decide +kernel) (by kernel_rfl)
theorem Tz:entryFor table "set.__iter__"=some L8.«frozenset.__iter__»:=
 entryFor_alias (id':="frozenset.__iter__") (by kernel_rfl) rfl (by decide +kernel) (by kernel_rfl)
theorem ow_it:Manifest.owners.lookup (String.ofList (['r','o','t','a','r','e','t','i','_','t','e','s']).reverse)=some Manifest.sig_set_iterator:=by kernel_rfl
theorem FT (x:A3):argsOk "set_iterator.__next__" ⟨[x],[]⟩:=rfl
theorem TB (x:A3):argsOk "set_iterator.__iter__" ⟨[x],[]⟩:=rfl
theorem FU {α:Type}:∀(l:List α) (i:Nat) (x:α),l[i]?=some x->(x::l.eraseIdx i).Perm l
 |[],i,x,e=>by simp at e
 | y :: l, 0, x, e => by
  have:y=x:=by simpa using e
  rw[this];exact .refl _
 | y :: l, i + 1, x, e => by
  have h:=FU l i x (by simpa using e);show(x::y::l.eraseIdx i).Perm (y::l);exact(List.Perm.swap y x _).trans (h.cons y)
theorem MC {α:Type}(next:Nat->Nat):∀(fuel k:Nat) (left:List α) (out:Array α),fuel=left.length->(pickOrder.go next fuel k left out).toList.Perm (out.toList++left)
 | 0, k, left, out, h => by
  have:left=[]:=Cv h.symm;subst this;unfold pickOrder.go;rw[X3]
 | fuel + 1, k, left, out, h => by
  have lt:next k%left.length<left.length:=Nat.mod_lt _ (by omega)
  have e:left[next k%left.length]?=some left[next k%left.length]:=D9 lt;unfold pickOrder.go;rw[e];dsimp only;have le:(left.eraseIdx (next k%left.length)).length=fuel:=by rw[GB lt];omega
  refine(MC next fuel (k+1) _ _ le.symm).trans ?_;rw[Array.toList_push,V6];exact List.Perm.append_left _ (FU _ _ _ e)
theorem TC {α:Type}(next:Nat->Nat)(xs:Array α):(pickOrder next xs).toList.Perm xs.toList:=by
 have:=MC next xs.size 0 xs.toList #[] (by simp)
 exact this
section
variable {prog:C8}{w:C4}{A:D5}{E:A3->A5->Prop}{s:A5}
theorem chosen (hn:0<n)(h:∀i d,i<n->Q i { s with drawn:=d }):A6 (A7 prog w) A (choose src n) Q E s:=by
 intro Γ p _;unfold choose;rw[Sem.wp];refine⟨by omega,?_⟩;rw[Sem.wp];exact h _ _ (Nat.mod_lt _ hn)
theorem MD {α:Type}:∀(n:Nat) (xs:List α) (s:A5) (Q:List α->A5->Prop),n=xs.length->(∀ys d,ys.Perm xs->Q ys { s with drawn:=d })->A6 (A7 prog w) A (drawOrder n xs) Q E s
 | 0, xs, s, Q, hn, h => by
  have:xs=[]:=Cv hn.symm;subst this;exact A8 (h [] s.drawn (.refl _))
 |n+1,[],s,Q,hn,h=>by simp at hn
 | n + 1, x :: xs, s, Q, hn, h => by
  unfold drawOrder;refine A0 (chosen (by simp) λi d hi=>?_);have e:(x::xs)[i]?=some (x::xs)[i]:=D9 hi;rw[e];dsimp only;have le:((x::xs).eraseIdx i).length=n:=by rw[GB hi];omega
  refine A0 (MD n _ _ _ le.symm λys d2 hp=>A8 ?_);exact h _ d2 ((hp.cons _).trans (FU _ _ _ e))
def R3 (h:B6)(I a:A1)(fst:A3)(i n ep:Nat):Prop:=∃o,h.get? I=some o/\o.cls=.type "set_iterator"/\o.data=.fields #[fst,.int i 0,.ref a,.int n 0,.int ep 0]
theorem R3.ty (x:R3 s.heap I a fst i n ep):s.TypeIs (.ref I) "set_iterator":=by
 obtain⟨o,ho,hc,_⟩:=x;exact⟨o,ho,hc⟩
theorem R3.at' (x:R3 h I a fst i n ep)(e:∀o,h.get? I=some o->h'.get? I=some o):R3 h' I a fst i n ep:=by grind [R3]
theorem R3.put (x:R3 h I a fst i n ep)(k:Nat)(v:A3):∃o,(h.update I (Obj.mapFields (·.setIfInBounds k v))).get? I=some o/\o.cls=.type "set_iterator"/\o.data=.fields (#[fst,.int i 0,.ref a,.int n 0,.int ep 0].setIfInBounds k v):=by
 obtain⟨o,ho,hc,hd⟩:=x;exact⟨_,Bg _ ho (Obj.isFreed_of_fields (Ez hd _)),(Obj.cls_mapFields ..).trans hc,Ez hd _⟩
theorem ME (x:R3 s.heap I a fst i n ep)(h:Q (.ref I) s):A6 (A7 prog w) A (pyIter (.ref I)) Q E s:=by
 refine wpAny_pyIter_slot x.ty MB (P3 MB x.ty Ty (show A6 (A7 prog w) _ (ret (.ref I)) _ _ s from ?_) (TB _));exact A8 ⟨_,rfl,"set_iterator",_,x.ty,b8.lookup,h⟩
theorem MF {Q:Option A3->A5->Prop}(hh:A.handled=none)(h:∀h',(∀b o,h1.get? b=some o->h'.get? b=some o)->Q none { s with heap:=h' }) :
   A6 (A7 prog w) A.in1 ((newExc (.type "StopIteration") []>>=λx=>raiseNew x:Sem PySem.Fin)) Q0 (λe s'=>A6 (A7 prog w) A (do if ← isInstance e (.type "StopIteration") then pure none else throw e) Q E s') { s with heap:=h1 }:=by
 refine A0 ?_;simp only[newExc,newTuple];refine A0 (P2 ?_ (by size_fits));refine A0 (m:=firstArgMember _ _) (K6 (a:=Q8) (by first|rfl|(simp only[firstArgMember];rfl)) ?_);refine P2 ?_ (by size_fits);simp only[raiseNew];refine A0 (wpAny_handled ?_);rw[show A.in1.handled=none from hh];refine A0 (A8 (wpAny_throw ?_));refine A0 (Ea (T:="StopIteration") (b:=true) ⟨_,F2 _ rfl,rfl⟩ isSubtype_stop ?_);exact A8 (h _ λb o e=>C0 _ (C0 _ e))
end
end SeT
end
section
namespace SeT
open PySem PySem.Spec PyProof.Rows L2
section
variable {prog:C8}{w:C4}{A:D5}{E:A3->A5->Prop}{s:A5}{I a:A1}{n i ep:Nat}{o:Obj}{es:Array (Int×A3)}{t:Q5}
theorem TD {slot nx:Nat}(hit:R3 s.heap I a (.int slot 0) i n ep)(ho:s.heap.get? a=some o)(hd:o.data=.set es ep t)(hf:t.fits es.size=true)(hn:es.size=n)
   (hs:∀(A:D5) (E:A3->A5->Prop) (Q':Option (A3×Nat)->A5->Prop),Q' (some (x,nx)) s->A6 (A7 prog w) A (setNext a slot i ep) Q' E s)
   (hQ:∀h',R3 h' I a (.int nx 0) (i+1) n ep->X2 I s.heap h'->Q (some x) { s with heap:=h' }):A6 (A7 prog w) A (pyNext (.ref I)) Q E s:=by
 obtain⟨oi,hoi,hci,hdi⟩:=id hit;unfold pyNext;refine A0 (An (W7 (name:=B0 "__next__") hit.ty b8 (P3 b8 hit.ty FS ?_ (FT _))));unfold L8.«set_iterator.__next__»;refine A0 (A8 ?_);refine A0 (wpAny_fieldsOf hoi hdi ?_);dsimp only;refine A0 (Cp ho hd hf ?_);rw[jt (by grind)];refine A0 (hs _ _ _ ?_);dsimp only;refine A0 (w4 hoi hdi (by simp) ?_);obtain⟨o1,e1,c1,d1⟩:=hit.put 0 (rawInt nx);have h1:R3 (s.heap.update I (Obj.mapFields (·.setIfInBounds 0 (rawInt nx)))) I a (.int nx 0) i n ep:=⟨o1,e1,c1,by rw[d1];simp[rawInt]⟩;refine A0 (w4 (s:={ s with heap:=s.heap.update I (Obj.mapFields (·.setIfInBounds 0 (rawInt nx))) }) e1 d1 (by simp) ?_);obtain⟨o2,e2,c2,d2⟩:=h1.put 1 (rawInt (i+1));refine A8 ⟨_,rfl,A8 (hQ _ ⟨o2,e2,c2,by rw[d2];simp[rawInt]⟩ ?_)⟩;exact(X4 s.heap I _).trans (X4 _ I _)
theorem TF {slot:Nat}(hh:A.handled=none)(hit:R3 s.heap I a (.int slot 0) i n ep)(ho:s.heap.get? a=some o)(hd:o.data=.set es ep t)(hf:t.fits es.size=true)(hn:es.size=n)
   (hs:∀(A:D5) (E:A3->A5->Prop) (Q':Option (A3×Nat)->A5->Prop),Q' none s->A6 (A7 prog w) A (setNext a slot i ep) Q' E s)
   (hQ:∀h',(∀b o,b≠I->s.heap.get? b=some o->h'.get? b=some o)->Q none { s with heap:=h' }):A6 (A7 prog w) A (pyNext (.ref I)) Q E s:=by
 obtain⟨oi,hoi,hci,hdi⟩:=id hit;unfold pyNext;refine A0 (An (W7 (name:=B0 "__next__") hit.ty b8 (P3 b8 hit.ty FS ?_ (FT _))));unfold L8.«set_iterator.__next__»;refine A0 (A8 ?_);refine A0 (wpAny_fieldsOf hoi hdi ?_);dsimp only;refine A0 (Cp ho hd hf ?_);rw[jt (by grind)];refine A0 (hs _ _ _ ?_);dsimp only;refine A0 (w4 hoi hdi (by simp) ?_);exact MF hh λh' k=>hQ h' λb o hb e=>k b o (((X4 s.heap I _).2 b hb).trans e)
end
end SeT
end
section
namespace SeT
open PySem PySem.Spec PyProof.Rows L2
section
variable {prog:C8}{w:C4}{A:D5}{E:A3->A5->Prop}{s:A5}{I a tp:A1}{n i ep:Nat}{o:Obj}{es:Array (Int×A3)}{t:Q5}{ps:Array A3}
theorem TH {p:Nat}(hit:R3 s.heap I a (.ref tp) i n ep)(ht:s.heap.IsTuple tp ps)(ho:s.heap.get? a=some o)(hd:o.data=.set es ep t)(hf:t.fits es.size=true)(hn:es.size=n)
   (hp:ps[i]?=some (.int p 0)) (he:es[p]?=some (hx,x))
   (hQ:∀h',R3 h' I a (.ref tp) (i+1) n ep->X2 I s.heap h'->Q (some x) { s with heap:=h' }):A6 (A7 prog w) A (pyNext (.ref I)) Q E s:=by
 obtain⟨oi,hoi,hci,hdi⟩:=id hit;obtain⟨ot,hot,hct,nt,hdt⟩:=ht;unfold pyNext;refine A0 (An (W7 (name:=B0 "__next__") hit.ty b8 (P3 b8 hit.ty FS ?_ (FT _))));unfold L8.«set_iterator.__next__»;refine A0 (A8 ?_);refine A0 (wpAny_fieldsOf hoi hdi ?_);dsimp only;refine A0 (Cp ho hd hf ?_);rw[jt (by grind)];refine A0 (W9 hot hdt ?_);dsimp only;rw[show((i:Int).toNat)=i from rfl,hp];dsimp only;refine A0 (m:=setNextDrawn a _ _) (A0 (W8 ho hd hf ?_));dsimp only;rw[jt (by simp)];rw[show((p:Int).toNat)=p from rfl,he];dsimp only;refine A8 ?_;refine A0 (w4 hoi hdi (by simp) ?_);obtain⟨o2,e2,c2,d2⟩:=hit.put 1 (rawInt (i+1));refine A8 ⟨_,rfl,A8 (hQ _ ⟨o2,e2,c2,by rw[d2];simp[rawInt]⟩ ?_)⟩;exact X4 s.heap I _
theorem TJ (hh:A.handled=none)(hit:R3 s.heap I a (.ref tp) i n ep)(ht:s.heap.IsTuple tp ps)(ho:s.heap.get? a=some o)(hd:o.data=.set es ep t)(hf:t.fits es.size=true)(hn:es.size=n)
   (hp:ps[i]?=none)
   (hQ:∀h',(∀b o,b≠I->s.heap.get? b=some o->h'.get? b=some o)->Q none { s with heap:=h' }):A6 (A7 prog w) A (pyNext (.ref I)) Q E s:=by
 obtain⟨oi,hoi,hci,hdi⟩:=id hit;obtain⟨ot,hot,hct,nt,hdt⟩:=ht;unfold pyNext;refine A0 (An (W7 (name:=B0 "__next__") hit.ty b8 (P3 b8 hit.ty FS ?_ (FT _))));unfold L8.«set_iterator.__next__»;refine A0 (A8 ?_);refine A0 (wpAny_fieldsOf hoi hdi ?_);dsimp only;refine A0 (Cp ho hd hf ?_);rw[jt (by grind)];refine A0 (W9 hot hdt ?_);dsimp only;rw[show((i:Int).toNat)=i from rfl,hp];dsimp only;refine A0 (w4 hoi hdi (by simp) ?_);obtain⟨o2,e2,c2,d2⟩:=hit.put 0 (rawInt 0);refine A0 (w4 (s:={ s with heap:=s.heap.update I (Obj.mapFields (·.setIfInBounds 0 (rawInt 0))) }) e2 d2 (by simp) ?_);exact MF hh λh' k=>hQ h' λb o hb e=>k b o (((X4 _ I _).2 b hb).trans (((X4 s.heap I _).2 b hb).trans e))
theorem TM (hh:A.handled=none){ys:List A3}{sl:Nat->Nat}(hn:es.size=ys.length)(ne:a≠I)(hd:o.data=.set es ep t)(hf:t.fits es.size=true)
   (hs:∀(i:Nat) (s:A5) (A:D5) (E:A3->A5->Prop) (Q':Option (A3×Nat)->A5->Prop),s.heap.get? a=some o->i<=ys.length->Q' (ys[i]?.map λx=>(x,sl (i+1))) s->A6 (A7 prog w) A (setNext a (sl i) i ep) Q' E s) :
   Walks prog w A I [I,a] [I] ys.length (λi v=>ys[i]?=some v) (λi h=>R3 h I a (.int (sl i) 0) i ys.length ep/\h.get? a=some o) where
 sub:=λb hb=>by rw[K2.mp hb];exact C7
 frame:=λ_ _ _ st hk=>⟨st.1.at' λo e=>hk I C7 o e,hk a (C3 _ (K2.mpr rfl)) o st.2⟩
 item:=λi s Q E hi st hQ=>by
  have e:ys[i]?=some ys[i]:=D9 hi;refine TD st.1 st.2 hd hf hn (x:=ys[i]) (nx:=sl (i+1)) (λA E Q' q=>hs i s A E Q' st.2 (x4 hi) (by rw[e];exact q)) λh' hit' sb=>?_;exact hQ _ h' s.toks e ⟨hit',(sb.2 a ne).trans st.2⟩ λb o hb e=>(sb.2 b (λz=>hb (K2.mpr z))).trans e
 done:=λs Q E st hQ=>TF hh st.1 st.2 hd hf hn (λA E Q' q=>hs _ s A E Q' st.2 (B8 _) (by rw[R9 (B8 _)];exact q)) λh' k=>hQ h' s.toks λb o hb e=>k b o (λz=>hb (K2.mpr z)) e
 self:=λ_ _ _ _ st hQ=>ME st.1 hQ
theorem TN (hh:A.handled=none){pl:List Nat}(hn:es.size=pl.length)(ne:a≠I)(nt:tp≠I)(hd:o.data=.set es ep t)(hf:t.fits es.size=true)(hps:ps=(pl.map λ(i:Nat)=>rawInt i).toArray)(hpl:∀p∈pl,p<es.size) :
   Walks prog w A I [I,a,tp] [I] pl.length (λi v=>∃p x,pl[i]?=some p/\es[p]?=some x/\v=x.2) (λi h=>R3 h I a (.ref tp) i pl.length ep/\h.get? a=some o/\h.IsTuple tp ps) where
 sub:=λb hb=>by rw[K2.mp hb];exact C7
 frame:=λ_ _ _ st hk=>⟨st.1.at' λo e=>hk I C7 o e,hk a (by simp) o st.2.1,st.2.2.at λo e=>hk tp (by simp) o e⟩
 item:=λi s Q E hi st hQ=>by
  have e:pl[i]?=some pl[i]:=D9 hi;have lt:=hpl _ (J5 e);have ep':ps[i]?=some (.int (pl[i]:Nat) 0):=by rw[hps,List.getElem?_toArray,E7,e];rfl
  have ex:es[pl[i]]?=some es[pl[i]]:=l8 lt;refine TH st.1 st.2.2 st.2.1 hd hf hn ep' (hx:=es[pl[i]].1) (x:=es[pl[i]].2) ex λh' hit' sb=>?_;exact hQ _ h' s.toks ⟨_,_,e,ex,rfl⟩ ⟨hit',(sb.2 a ne).trans st.2.1,st.2.2.at λo e=>(sb.2 tp nt).trans e⟩ λb o hb e=>(sb.2 b (λz=>hb (K2.mpr z))).trans e
 done:=λs Q E st hQ=>TJ hh st.1 st.2.2 st.2.1 hd hf hn (by grind) λh' k=>hQ h' s.toks λb o hb e=>k b o (λz=>hb (K2.mpr z)) e
 self:=λ_ _ _ _ st hQ=>ME st.1 hQ
end
end SeT
end
section
namespace SeT
open PySem PySem.Spec PyProof.Rows L2
def Ag (pl:Array Nat):Nat->Nat
 |0=>0
 |i+1=>pl.getD i 0+1
theorem TQ {pl:Array Nat}(hr:Rise pl.toList):∀{i:Nat},i<=pl.size->SetTable.below pl (Ag pl i)=i
 | 0, _ => by
  obtain⟨h1,h2,h3⟩:=DN pl (Ag pl 0) hr;refine Nat.eq_zero_of_not_pos λc=>?_;have lt:0<pl.size:=by omega
  have:=h2 0 pl[0] c (l8 lt);exact Eo _ this
 | i + 1, hi => by
  have lt:i<pl.size:=hi;have e:Ag pl (i+1)=pl[i]+1:=by show pl.getD i 0+1=_;rw[Ay,l8 lt];rfl
  obtain⟨h1,h2,h3⟩:=DN pl (Ag pl (i+1)) hr;rw[e] at h1 h2 h3 ⊢
  have a1:¬SetTable.below pl (pl[i]+1)<=i:=λc=>by
   have:=h3 i pl[i] c (l8 lt);omega
  have a2:¬i+1<SetTable.below pl (pl[i]+1):=λc=>by
   have l2:i+1<pl.size:=by omega
   have:=h2 (i+1) pl[i+1] c (l8 l2);have l2':i+1<pl.toList.length:=by simpa using l2
   have:=e6.mp hr i (i+1) (by omega) l2' (by omega);simp only[Array.getElem_toList] at this;omega
  omega
theorem A_ {α β:Type}{f:α->β}:∀{ys:List β} {xs:List α},ys.Perm (xs.map f)->∃zs:List α,zs.Perm xs/\ys=zs.map f:=by
 intro ys xs h;generalize e:xs.map f=l at h
 induction h generalizing xs with
 | nil =>
  have:xs=[]:=by simpa using e
  subst this;exact⟨[],.refl _,rfl⟩
 | @cons b l1 l2 h1 ih =>
  match xs,e with
  | x :: xs, e =>
   rw[K7] at e;injection e with ea eb;obtain⟨zs,z1,z2⟩:=ih eb;exact⟨x::zs,z1.cons x,by rw[z2,K7,ea]⟩
 | swap a b l =>
  match xs,e with
  | x :: y :: xs, e =>
   rw[K7,K7] at e;injection e with ea eb;injection eb with ec ed;exact⟨y::x::xs,List.Perm.swap x y xs,by rw[K7,K7,ea,ec,ed]⟩
 | trans h1 h2 ih1 ih2 =>
  obtain⟨zs,z1,z2⟩:=ih2 e;obtain⟨us,u1,u2⟩:=ih1 z2.symm;exact⟨us,u1.trans z1,u2⟩
def dr (es:Array (Int×A3))(t:Q5):Bool:=!t.plain&&decide (es.size>1)
structure SetV (w:C4)(h:B6)(a:A1)(o:Obj)(es:Array (Int×A3))(ep:Nat)(t:Q5):Prop where
 ho:h.get? a=some o
 ex:o.ExactSet
 hd:o.data=.set es ep t
 fits:t.fits es.size=true
 few:es.size<=127
 led:t.led=!(w.params.followText "set-order")
 rise:dr es t=false->Rise t.place.toList
abbrev vls (es:Array (Int×A3)):List A3:=es.toList.map (·.2)
section
variable {prog:C8}{w:C4}{A:D5}{E:A3->A5->Prop}{s:A5}{a:A1}{ep:Nat}{o:Obj}{es:Array (Int×A3)}{t:Q5}
theorem SetK.toV (S:SetK prog w h a o es ep t xs):SetV w h a o es ep t:=⟨S.ho,S.ex,S.hd,S.fits,by
 have:=S.few;rw[S.sz]
 rcases S.tb.mask with z|z|z <;> rw[z] at this <;> omega,S.led,λ_=>S.tb.rise⟩
theorem FV (h:Q (w.params.followText "set-order") s):A6 (A7 prog w) A setsByText Q E s:=A0 (D_ (A8 h))
theorem TR (S:SetV w h0 a o es ep t)(ho:s.heap.get? a=some o)(hb:w.params.followText "set-order"=false)(hd:dr es t=false)(hi:i<=es.size)
   (h:Q ((vls es)[i]?.map λx=>(x,Ag t.place (i+1))) s):A6 (A7 prog w) A (setNext a (Ag t.place i) i ep) Q E s:=by
 have sp:t.place.size=es.size:=by
  have:=S.fits;unfold SetTable.fits at this;simp only[h9,beq_iff_eq] at this;exact this.1
 unfold setNext;refine A0 (W8 ho S.hd S.fits ?_);dsimp only;refine A0 (FV ?_);rw[hb];simp only[L3,↓reduceIte];have e1:(!t.plain&&decide (es.size>1))=false:=hd;show A6 _ _ (if(!t.plain&&decide (es.size>1))=true then _ else _) _ _ _;rw[e1];simp only[L3,↓reduceIte];have el:t.led=true:=by rw[S.led,hb];rfl
 refine A0 (show A6 _ _ (if(!t.led&&!es.isEmpty)=true then _ else _) _ _ _ from ?_);rw[el];simp only[l7,CN,L3,↓reduceIte];refine A8 ?_;rw[TQ (S.rise hd) (by omega)];refine A8 ?_;rw[E7,V8] at h;cases ex:es[i]? with
 |none=>rw[ex] at h;exact h
 | some y =>
  rw[ex] at h;have lt:i<t.place.size:=by rw[sp];exact(Array.getElem?_eq_some_iff.mp ex).1
  rw[l8 lt];have:Ag t.place (i+1)=t.place[i]+1:=by show t.place.getD i 0+1=_;rw[Ay,l8 lt];rfl
  rw[this] at h;exact h
theorem TU (S:SetV w h0 a o es ep t)(ho:s.heap.get? a=some o)(hb:w.params.followText "set-order"=true)
   (h:Q ((vls (pickOrder (w.params.setOrder a ep) es))[i]?.map λx=>(x,0)) s):A6 (A7 prog w) A (setNext a 0 i ep) Q E s:=by
 unfold setNext;refine A0 (W8 ho S.hd S.fits ?_);dsimp only;refine A0 (FV ?_);rw[hb];simp only[↓reduceIte];rw[jt (by simp)];refine A0 (m:=setWalk a) ?_;unfold setWalk;refine A0 (W8 ho S.hd S.fits ?_);dsimp only;refine A0 (FV ?_);rw[hb];simp only[↓reduceIte];refine A0 (D_ (A8 (A8 ?_)));rw[E7,V8,Option.map_map] at h;exact h
theorem TW (hh:A.handled=none)(S:SetV w s.heap a o es ep t)
   (hQ:∀(h':B6) (d:_) (I:A1) (fp:List A1) (ys:List A3) (P:Nat->A3->Prop) (St:Nat->B6->Prop),(∀b o,s.heap.get? b=some o->h'.get? b=some o)->s.heap.objs.size<=I->I<h'.objs.size->(∀b∈fp,b=a\/s.heap.objs.size<=b)->ys.Perm (vls es)->
     (∀i v,P i v->ys[i]?=some v)->Walks prog w A I fp [I] es.size P St->St 0 h'->Q (.ref I) { s with heap:=h',drawn:=d }):A6 (A7 prog w) A (pyIter (.ref a)) Q E s:=by
 have hT:s.TypeIs (.ref a) "set":=⟨o,S.ho,S.ex.1⟩;have la:a<s.heap.objs.size:=D1 S.ho;refine wpAny_pyIter_slot hT F.slot_set_iter (P3 F.slot_set_iter hT Tz ?_ (F.args_set_iter_1 _));unfold L8.«frozenset.__iter__» Builtin.Frozenset.slot0 Builtin.Frozenset.sizeOf;refine A0 (A0 (A8 (A8 ?_)));refine A0 (A0 (Cp S.ho S.hd S.fits (A8 ?_)));unfold setDrawn;refine A0 (A0 (W8 S.ho S.hd S.fits ?_));dsimp only;refine A0 (FV (A8 ?_));show A6 _ _ (if(!(w.params.followText "set-order")&&dr es t)=true then _ else _) _ _ _
 by_cases c:(!(w.params.followText "set-order")&&dr es t)=true
 ·rw[jr c];refine A0 (MD es.size (D3 es.size) _ _ (by simp) λpl d hp=>?_);have lp:pl.length=es.size:=by rw[hp.length_eq,e9]
  have lt:∀p∈pl,p<es.size:=λp h=>N9.mp (hp.mem_iff.mp h);have few:=S.few;refine A0 (wpAny_newTuple ?_ (by rw[Q4,B4];omega));have g1:(s.heap.push { cls:=.type "tuple",data:=.seq (pl.map λ(i:Nat)=>rawInt i).toArray }).get? a=some o:=C0 _ S.ho;refine A0 (m:=setEpoch a) (A0 (W8 (s:={ s with drawn:=d,heap:=s.heap.push { cls:=.type "tuple",data:=.seq (pl.map λ(i:Nat)=>rawInt i).toArray } }) g1 S.hd S.fits (A8 ?_)));refine A0 (P2 (A8 ⟨_,rfl,"set_iterator",_,⟨_,F2 _ rfl,rfl⟩,b8.lookup,?_⟩));have sz1:(s.heap.push { cls:=.type "tuple",data:=.seq (pl.map λ(i:Nat)=>rawInt i).toArray }).objs.size=s.heap.objs.size+1:=d7 ..;refine hQ _ d (s.heap.push { cls:=.type "tuple",data:=.seq (pl.map λ(i:Nat)=>rawInt i).toArray }).objs.size [(s.heap.push { cls:=.type "tuple",data:=.seq (pl.map λ(i:Nat)=>rawInt i).toArray }).objs.size,a,s.heap.objs.size] (pl.map λp=>(vls es).getD p .none) _ _ (λb o e=>C0 _ (C0 _ e)) (by simp) (Nat.lt_of_lt_of_eq (Em _) (d7 ..).symm) (λb hb=>?_) ?_ ?_ (lp▸TN (es:=es) (o:=o) (t:=t) (ep:=ep) (tp:=s.heap.objs.size) (pl:=pl) hh lp.symm (by grind) (by simp) S.hd S.fits rfl lt) ?_
  ·grind
  ·exact(Mz (vls es) pl .none (by grind)).2
  ·grind
  ·refine⟨⟨_,F2 _ rfl,rfl,?_⟩,C0 _ g1,⟨_,C0 _ (F2 _ rfl),rfl,0,rfl⟩⟩;show BF _=BF _
   first|rfl|(rw[lp];rfl)
 ·rw[jt c];refine A0 (A8 ?_);refine A0 (m:=setEpoch a) (A0 (W8 S.ho S.hd S.fits (A8 ?_)));refine A0 (P2 (A8 ⟨_,rfl,"set_iterator",_,⟨_,F2 _ rfl,rfl⟩,b8.lookup,?_⟩))
  have go:∀(ys:List A3) (sl:Nat->Nat),sl 0=0->ys.Perm (vls es)->(∀(i:Nat) (s:A5) (A:D5) (E:A3->A5->Prop) (Q':Option (A3×Nat)->A5->Prop),s.heap.get? a=some o->i<=ys.length->Q' (ys[i]?.map λx=>(x,sl (i+1))) s->A6 (A7 prog w) A (setNext a (sl i) i ep) Q' E s)->Q (.ref s.heap.objs.size) { s with heap:=s.heap.push { cls:=.type "set_iterator",data:=.fields #[rawInt 0,rawInt 0,.ref a,rawInt es.size,rawInt ep] } }:=by
   intro ys sl h0 pm hs;have lp:ys.length=es.size:=by rw[pm.length_eq,B4,O6]
   refine hQ _ s.drawn s.heap.objs.size [s.heap.objs.size,a] ys (λi v=>ys[i]?=some v) _ (λb o e=>C0 _ e) (B8 _) (by simp) (λb hb=>?_) pm (λ_ _ e=>e) (lp▸TM (es:=es) (o:=o) (t:=t) (ep:=ep) (ys:=ys) (sl:=sl) hh lp.symm (F4 la) S.hd S.fits hs) ?_
   ·grind
   ·refine⟨⟨_,F2 _ rfl,rfl,?_⟩,C0 _ S.ho⟩;show BF _=BF _;rw[h0]
    rfl
  by_cases cb:w.params.followText "set-order"=true
  ·exact go (vls (pickOrder (w.params.setOrder a ep) es)) (λ_=>0) rfl ((TC (w.params.setOrder a ep) es).map _) λi s' A E Q' e hi q=>TU S e cb q
  ·have cb':w.params.followText "set-order"=false:=by simpa using cb
   have cd:dr es t=false:=by
    rw[cb'] at c
    simpa using c
   exact go (vls es) (Ag t.place) rfl (.refl _) λi s' A E Q' e hi q=>TR S e cb' cd (by grind) q
end
end SeT
end
section
namespace SeT
open PySem PySem.W PySem.Spec PyProof.Rows L2
section
variable {prog:C8}{w:C4}{A:D5}{E:A3->A5->Prop}{s:A5}{a:A1}{ep:Nat}{o:Obj}{es:Array (Int×A3)}{t:Q5}
theorem TX (hT:s.TypeIs (.ref r) "set")(h:Q false s):A6 (A7 prog w) A (JK (.ref r)) Q E s:=by
 unfold JK;refine A0 (Be hT PySem.F.slot_set_len.lookup ?_);generalize hid:("set.__len__":String)=id0
 wp_delta
 rw[show splitId id0=some ("set","__len__") from by subst hid;decide +kernel];subst hid;refine A0 (Ea (T:="set") (b:=true) hT (by rw[v5];kernel_rfl) ?_);refine wpAny_ite_split (λz=>absurd z (by decide)) λ_=>?_;refine wpAny_ite_split (λ_=>A0 (w6 hT (A8 h))) λz=>absurd (by decide +kernel) z
theorem TY (S:SetV w s.heap a o es ep t)(hh:A.handled=none)(L:A1)(ne:L≠a)(res:A3)(c₀:Nat)(hL:s.heap.get? L=some { cls:=.type "list",data:=.seq #[] c₀ })
   (hR:∀h' d tk c' (ys:List A3),(∀b o,b≠L->s.heap.get? b=some o->h'.get? b=some o)->h'.get? L=some { cls:=.type "list",dict:=none,data:=.seq ys.toArray c',slots:=#[] }->ys.Perm (vls es)->R (.ok (.ret res)) { s with heap:=h',drawn:=d,toks:=tk }) :
   A6 (A7 prog w) A.in1 (JL (.ref L) (.ref a) res)
     (λfin s'=>match fin with|.done f=>R (.ok f) s'|.again c'=>c'.quiet=true/\N7 (A7 prog w) A c' R s') (λe s'=>R (.error e) s') s:=by
 have hT:s.TypeIs (.ref a) "set":=⟨o,S.ho,S.ex.1⟩;have lL:L<s.heap.objs.size:=D1 hL
 have few:es.size<=B9:=by
  have:=S.few;rw[Q4];omega
 unfold JL;refine A0 (w6 (T:="set") hT ?_);have h1:Builtin.List.listSameRef (.ref L) (.ref a)=false:=by simp[Builtin.List.listSameRef,ne]
 have h2:(K1 "set" == K1 "list")=false:=by decide
 have h3:(K1 "set" == K1 "tuple")=false:=by decide
 simp only[h1,h2,h3,Ax,L3,if_false];refine A0 (TW (A:=A.in1) hh S λh1 d I fp ys P St k1 hI hI2 hfp pm hP W st=>?_);have nI:L≠I:=F4 (O0 lL hI);have nf:L∉fp:=λz=>(hfp L z).elim ne λz=>absurd lL (Nat.not_lt.mpr z);have hL1:=k1 _ _ hL
 have key:∀(h:B6) (c₁ tk:Nat),St 0 h->(∀b o,b≠L->s.heap.get? b=some o->h.get? b=some o)->
     h.get? L=some { cls:=.type "list",data:=.seq #[] c₁ }->N7 (A7 prog w) A (.builtin "list.extend.loop" ⟨[.ref L,.ref I,res],[]⟩) R { s with heap:=h,drawn:=d,toks:=tk }:=by
   intro h c₁ tk hst hk hS₁;refine codeAny_extend_loopS W.toS few L nf res es.size 0 _ #[] c₁ rfl (K3 _) hst hS₁ (ItemsOf.nil _) λs' acc' c' hm hS' hacc=>?_;rw[Moved.eq_with hm]
   have ea:acc'=ys.toArray:=by
    apply Array.toList_inj.mp
    rw[GF]
    apply CD
    intro i;rw[V8];cases e:acc'[i]? with
    | none =>
     symm
     rw[List.getElem?_eq_none_iff,pm.length_eq,B4,O6];have:=Array.getElem?_eq_none_iff.mp e;rw[hacc.1] at this;exact this
    |some v=>exact(hP i v (hacc.2 i v e)).symm
   refine hR s'.heap d s'.toks c' ys (λb o hb e=>hm.heap b o (λhmem=>?_) (hk b o hb e)) (by grind) pm;rcases C5.mp hmem with e'|hmem
   ·grind
   ·exact absurd (D1 e) (by grind)
 refine A0 (L6 (TX (s:={ s with heap:=h1,drawn:=d }) ⟨o,k1 _ _ S.ho,S.ex.1⟩ ?_));refine wpAny_ite_split (λ_=>?_) (λ_=>A8 ⟨k5 PySem.F.plain_extend_loop _,key _ c₀ _ st (λb o _ e=>k1 b o e) hL1⟩);refine A0 (Y3 ?_);refine A0 (show A6 (A7 prog w) _ (updateSeq L (·.push .none)>>=λ_=>updateSeq L (·.pop)) _ _ _ from ?_);refine A0 (wpAny_updateSeq hL1 rfl ?_);have hS₂:=Bg (T0 (·.push Q8)) hL1 rfl;refine wpAny_updateSeq (hz:=by seq_fits) hS₂ rfl ?_;have hS₃:=Bg (T0 (·.pop)) hS₂ rfl;refine A8 ⟨k5 PySem.F.plain_extend_loop _,key _ _ _ ?_ (λb o hb e=>?_) hS₃⟩
 ·refine W.frame 0 _ _ st λb hb o e=>?_;have hbS:b≠L:=λh=>nf (h▸hb);exact(Bf _ _ (Ne.symm hbS)).trans ((Bf _ _ (Ne.symm hbS)).trans e)
 ·exact(Bf _ _ (Ne.symm hb)).trans ((Bf _ _ (Ne.symm hb)).trans (k1 b o e))
theorem TZ (S:SetV w s.heap a o es ep t)(hh:A.handled=none)
   (h:∀(h':B6) (d:_) (tk:Nat) (ys:List A3),(∀b o,s.heap.get? b=some o->h'.get? b=some o)->s.heap.objs.size<=h'.objs.size->ys.Perm (vls es)->R ys { s with heap:=h',drawn:=d,toks:=tk }) :
   A6 (A7 prog w) A (collect (.ref a)) R E s:=by
 unfold collect;refine A0 (wpAny_runValue (b9 entry_proto_collect' ?_));rw[n6 PySem.F.plain_proto_collect _];refine(show A6 (A7 prog w) A.in1 (newList []>>=λl=>again (.builtin "list.__iadd__" ⟨[l,.ref a],[]⟩)) _ _ s from ?_);refine A0 (P2 (A8 ⟨k5 PySem.F.plain_list_iadd _,b9 entry_list_iadd' ?_⟩));rw[n6 PySem.F.plain_list_iadd _];have hS:(s.heap.push { cls:=.type "list",data:=.seq ([]:List A3).toArray }).get? s.heap.objs.size=some { cls:=.type "list",data:=.seq #[] }:=F2 _ rfl;have S1:SetV w (s.heap.push { cls:=.type "list",data:=.seq ([]:List A3).toArray }) a o es ep t:=⟨C0 _ S.ho,S.ex,S.hd,S.fits,S.few,S.led,S.rise⟩
 have key:=TY (prog:=prog) (A:=A) (s:={ s with heap:=s.heap.push { cls:=.type "list",data:=.seq ([]:List A3).toArray } })
   (R:=λ(q:Result) (s':A5)=>∃(h':B6) (d:_) (tk:Nat) (ys:List A3) (c:Nat),q=.ok (.ret (.ref s.heap.objs.size))/\s'={ s with heap:=h',drawn:=d,toks:=tk }/\
     (∀b o,s.heap.get? b=some o->h'.get? b=some o)/\h'.get? s.heap.objs.size=some { cls:=.type "list",dict:=none,data:=.seq ys.toArray c,slots:=#[] }/\ys.Perm (vls es))
   S1 hh s.heap.objs.size (Aw (D1 S.ho)) (.ref s.heap.objs.size) 0 hS
   (λh' d tk c ys hk hS' hp=>⟨h',d,tk,ys,c,rfl,rfl,λb o e=>hk b o (F4 (D1 e)) (C0 _ e),hS',hp⟩)
 refine J1 key (λfin s' x=>?_) λe s' x=>?_
 ·cases fin with
  | done f =>
   obtain⟨h',d,tk,ys,c,e,rfl,hk,hS',hp⟩:=x;cases e;refine A0 (wpAny_load hS' (A8 ?_));have:=h h' d tk ys hk (x4 (D1 hS')) hp
   simpa using this
  | again c₁ =>
   refine⟨x.1,Ao x.2 λq s₂ y=>?_⟩;obtain⟨h',d,tk,ys,c,rfl,rfl,hk,hS',hp⟩:=y;refine A0 (wpAny_load hS' (A8 ?_));have:=h h' d tk ys hk (x4 (D1 hS')) hp
   simpa using this
 grind
end
end SeT
end
section
namespace SeT
open PySem PySem.W PySem.Spec PyProof.Rows L2
abbrev rfs (ys:List (List Key×A1)):List A3:=ys.map λy=>K8 y.2
abbrev kks (ys:List (List Key×A1)):List (List Key):=ys.map (·.1)
section
variable {prog:C8}{w:C4}{A:D5}{E:A3->A5->Prop}{s:A5}{a:A1}{ep:Nat}{o:Obj}{es:Array (Int×A3)}{t:Q5}
theorem T_ {α:Type}{m:Nat}{Q:A3->A5->Prop}(S:SetV w s.heap a o es ep t)(hh:A.handled=none)(xs:List α)(f:α->A3)(g:α->List Key)(ev:vls es=xs.map f)(h64:xs.length<64)(pk:∀x∈xs,Kv1 s.heap m (f x) (g x))(al:Aa (xs.map g))
   (h:∀ys h2 d tk D e,List.Perm ys xs->(∀b o,s.heap.get? b=some o->h2.get? b=some o)->s.heap.objs.size<=D->h2.get? D=some (seqObj "list" (U8 (ltIx (ys.map g)) (ys.map f)).toArray e)->Q (.ref D) { s with heap:=h2,drawn:=d,toks:=tk }) :
   A6 (A7 prog w) A (call (.builtin "sorted") [.ref a]) Q E s:=by
 refine Calls.call_function_entry kind_sorted plain_sorted entry_sorted (args_sorted1 _) ?_;unfold L8.«sorted»;refine A0 (m:=checkCount "sorted" 1 1 _) (A8 ?_);refine A0 (TZ (A:=A.in1) S hh λh1 d tk vs k1 z1 pv=>?_);rw[ev] at pv;obtain⟨ys,pm,rfl⟩:=A_ pv;have ly:=pm.length_eq;refine A0 (wpAny_newList ?_ (by rw[Q4,B4];omega));have hoL:(h1.push (seqObj "list" (ys.map f).toArray 0)).get? h1.objs.size=some (seqObj "list" (ys.map f).toArray 0):=F2 _ rfl;have kL:∀b o,s.heap.get? b=some o->(h1.push (seqObj "list" (ys.map f).toArray 0)).get? b=some o:=λb o e=>C0 _ (k1 b o e);have ne:∀b o,s.heap.get? b=some o->b≠h1.objs.size:=λb o e=>F4 (O0 (D1 e) z1)
 have pk1:Paired (Kv1 s.heap m) (ys.map f) (ys.map g):=by
  have hy:∀y∈ys,Kv1 s.heap m (f y) (g y):=λy hy=>pk y (pm.mem_iff.mp hy);clear hoL kL pm ly pv
  induction ys with
  |nil=>exact .nil
  |cons y ys ih=>exact .cons (hy y C7) (ih λz hz=>hy z (C3 _ hz))
 have al1:Aa (ys.map g):=λx hx y hy=>al x ((pm.map g).mem_iff.mp hx) y ((pm.map g).mem_iff.mp hy);refine A0 (L6 (P3 slot_list_sort ⟨_,hoL,rfl⟩ entry_list_sort ?body (args_list_sort _)))
 case body=>
  refine LH (lt:=ltIx (ys.map g)) (s:={ s with heap:=h1.push (seqObj "list" (ys.map f).toArray 0),drawn:=d,toks:=tk }) hoL (by grind) (λl2 h3 k3=>?_) λh3 e k3 e3=>?_
  ·exact LK (s:={ s with drawn:=d }) l2 pk1 al1 _ _ h3 tk λb o x=>k3 b o (ne b o x) (kL b o x)
  ·exact⟨_,rfl,A8 ⟨_,rfl,h ys h3 d tk _ e pm (λb o x=>k3 b o (ne b o x) (kL b o x)) z1 e3⟩⟩
end
theorem Ua (h:us.length<64):(outV (ltIx jo) us).length<=B9:=by
 rw[Q4];unfold outV
 split
 ·omega
 ·rw[B4,O6,(Kr.sort_ok (Fs jo) (by omega)).2.1];omega
theorem items_are {prog:C8}{w:C4}:∀{ks:List Key} {vs:List A3},z9 ks vs->ItemsAre (G5 prog w) ks vs:=by
 intro ks vs h
 induction h with
 |nil=>exact .nil
 | @cons k v ks vs h1 _ ih =>
  refine .cons ?_ ih
  match k,h1 with
  |.inl i,⟨t,e⟩=>subst e;exact JN _ _ _ _
  |.inr z,⟨t,e⟩=>subst e;exact GP _ _ _ _
theorem is_of (x:TupK h (.ref r) k):(TK prog w).is h k r:=by
 obtain⟨a,o,items,n,e,ho,hc,hd,hk⟩:=x;cases e;exact⟨o,items,n,ho,hc,hd,items_are hk⟩
section
variable {X:Cx}
def SetO (X:Cx)(p:A1)(rs:List (List Key×A1)):HO:=.ext λh=>∃h0 o es ep t xs,SetK X.prog X.w h0 p o es ep t xs/\h.get? p=some o/\(∀x∈xs,x∈rs)/\∀x∈rs,x.1∈kks xs
theorem Ub {K:A9}(p:Paired (KM K H 2) ys jo):∃rs:List (List Key×A1),kks rs=jo/\(rs.map λy=>V.ref y.2)=ys/\∀y∈rs,SqT K H y.2 (y.1.map kV)/\y.1≠[]:=by
 induction p with
 |nil=>exact⟨[],rfl,rfl,λ_ z=>nomatch z⟩
 | cons h1 _ ih =>
  obtain⟨rs,e1,e2,e3⟩:=ih;obtain⟨a,rfl,hq,hne⟩:=h1;refine⟨(_,a)::rs,by rw[<- e1];rfl,by rw[<- e2];rfl,λy hy=>?_⟩;rcases C5.mp hy with rfl|hy
  ·grind
  ·grind
theorem IQ:∀(rs:List (List Key×A1)) {jf:List A3},Vals (rs.map λy=>V.ref y.2) jf->jf=rfs rs
 |[],_,h=>by cases h;rfl
 | y :: rs, _, h => by
  cases h with
  |cons h1 h2=>rw[IQ rs h2,show _=K8 y.2 from h1];rfl
theorem Uc (hc:X.calm=true)(hu:X.A.units+64<cLine):N1 X (.type "set") (λvs H Q=>∃a ys jo,vs=[.ref a]/\(SqL X.K H a ys\/SqT X.K H a ys)/\Paired (KM X.K H 2) ys jo/\ys.length<=63/\
   ∀p rs,H p=none->kks rs=jo->(rs.map λy=>V.ref y.2)=ys->(∀y∈rs,SqT X.K H y.2 (y.1.map kV)/\y.1≠[])->Q (.ref p) (upd H p (SetO X p rs))):=by
 intro jb s σ H vs us Q I rv h;obtain⟨a,ys,jo,rfl,hq,hp,hl,q⟩:=h;obtain⟨u,rfl,ru⟩:=rv.one;obtain rfl:u=.ref a:=ru;obtain⟨rs,e1,rfl,e3⟩:=Ub hp;have hk:∀y∈rs,(TK X.prog X.w).is s.heap y.1 y.2:=λy hy=>is_of (Ir I (e3 y hy).1);rw[B4] at hl
 have fin:∀(h':B6) (tk:Nat),Holds X.prog X.w h' s.heap.objs.size rs->(∀b o,b<s.heap.objs.size->s.heap.get? b=some o->h'.get? b=some o)->EP X jb σ Q (.ref s.heap.objs.size) { s with heap:=h',toks:=tk }:=λh' tk so kp=>by
  obtain⟨o,es,ep,t,xs,S1,S2,S3⟩:=so
  have I1:Inv X jb σ (upd H s.heap.objs.size (SetO X s.heap.objs.size rs)) { s with heap:=h',toks:=tk }:=
   I.laid (fun b o e=>kp b o (D1 e) e) (B8 _) ⟨⟨h',o,es,ep,t,xs,S1,S1.ho,S2,S3⟩,⟨o,S1.ho⟩,fun h1 h2 x k2=>by
    obtain⟨h0,o,es,ep,t,xs,S1,g,S2,S3⟩:=x
    exact⟨h0,o,es,ep,t,xs,S1,k2 o g,S2,S3⟩⟩
  exact⟨.ref s.heap.objs.size,_,I1,rfl,q _ rs (I.hok.fresh (B8 _)) e1 rfl e3⟩
 rcases hq with hq|hq
 ·obtain⟨jf,r,pl,_⟩:=I.list hq;refine MA (rs:=rs) (I.ok.hd hc) hu (.inl pl.isList) ?_ hk hl fin;rw[GF];exact IQ rs r
 ·obtain⟨jf,r,ht,_⟩:=I.tuple hq;refine MA (rs:=rs) (I.ok.hd hc) hu (.inr ht) ?_ hk hl fin;rw[GF];exact IQ rs r
theorem inv_dr (I:Inv X jb σ H s)(d:_):Inv X jb σ H { s with drawn:=d }:=⟨I.ok,I.os,I.bare,I.base,I.loc,I.cell,I.free,I.freeC,I.pin,I.hok,I.len⟩
theorem Ud (hc:X.calm=true):N1 X (.builtin "sorted") (λvs H Q=>∃p rs,vs=[.ref p]/\H p=some (SetO X p rs)/\rs.length<64/\(∀y∈rs,SqT X.K H y.2 (y.1.map kV)/\y.1≠[])/\Aa (kks rs)/\
   ∀l zs,H l=none->(kks zs).Nodup->(∀z∈zs,z∈rs)->(∀y∈rs,y.1∈kks zs)->Q (.ref l) (upd H l (.lst (outV (ltIx (kks zs)) (zs.map λz=>V.ref z.2))))):=by
 intro jb s σ H vs us Q I rv h;obtain⟨p,rs,rfl,e,h64,hk,al,q⟩:=h;obtain⟨u,rfl,ru⟩:=rv.one;obtain rfl:u=.ref p:=ru;obtain⟨⟨h0,o,es,ep,t,xs,S0,g,S2,S3⟩,_,_⟩:=I.hok p _ e;have tk:∀x∈xs,TupK s.heap (.ref x.2) x.1:=λx hx=>Ir I (hk x (S2 x hx)).1;have S:SetK X.prog X.w s.heap p o es ep t xs:=⟨g,S0.ex,S0.hd,S0.hes,(λx hx=>is_of (tk x hx)),S0.nd,S0.tb,S0.few,S0.led⟩;have lx:xs.length<64:=Bm (Holds.len S S2) h64;refine T_ (m:=2) S.toV (I.ok.hd hc) xs (λx=>K8 x.2) (·.1) (by unfold vls;rw[S.hes,U2];rfl) lx (λx hx=>⟨tk x hx,(hk x (S2 x hx)).2⟩) (λx hx y hy=>?_) λys h2 d t2 D e pm k hD ho=>?_
 ·obtain⟨x',hx',rfl⟩:=F3.mp hx;obtain⟨y',hy',rfl⟩:=F3.mp hy;exact al _ (F3.mpr ⟨x',S2 x' hx',rfl⟩) _ (F3.mpr ⟨y',S2 y' hy',rfl⟩)
 ·have vv:Vals (ys.map λy=>V.ref y.2) (rfs ys):=by
   clear pm ho
   induction ys with
   |nil=>exact .nil
   |cons y ys ih=>exact .cons rfl ih
  have vo:=LL vv (Fs (kks ys));have ly:ys.length=xs.length:=pm.length_eq;have hlo:(outV (ltIx (kks ys)) (ys.map λy=>V.ref y.2)).length<=B9:=Ua (by grind);have I1:=inv_dr (I.laid (t':=t2) k hD (show F9 X.prog X.w _ h2 _ (.lst _) from⟨hlo,_,e,vo,ho⟩)) d;exact⟨.ref D,_,I1,rfl,q _ ys (I.hok.fresh hD) ((pm.map (·.1)).nodup_iff.mpr S.nd) (λz hz=>S2 z (pm.mem_iff.mp hz)) λy hy=>(pm.map (·.1)).mem_iff.mpr (S3 y hy)⟩
end
end SeT
end
section
namespace SeT
open PySem PySem.W PySem.Spec PyProof.Rows L2
section
variable {X:Cx}
def tMo (t:TE):TE:=λσ H Q=>∃Q',t σ H Q'/\∀v H',Q' v H'->Q v H'
theorem pe_mo (h:PE X e t):PE X e (tMo t):=by
 intro jb s σ H Q I ⟨Q',h1,h2⟩;exact J1 (h jb s σ H Q' I h1) (λu s' ⟨v,H',I',r,q⟩=>⟨v,H',I',r,h2 _ _ q⟩) λ_ _ e=>e
def Ue (K:A9)(t:TE):TE:=λσ H Q=>∃Q',t σ H Q'/\∀x H1,Q' x H1->∃a ys jo,x=.ref a/\(SqL K H1 a ys\/SqT K H1 a ys)/\Paired (KM K H1 2) ys jo/\ys.length<=63/\Aa jo/\
 ∀H2 l rs zs,Same H1 H2->H2 l=none->kks rs=jo->(rs.map λy=>V.ref y.2)=ys->(kks zs).Nodup->(∀z∈zs,z∈rs)->(∀y∈rs,y.1∈kks zs)->Q (.ref l) (upd H2 l (.lst (outV (ltIx (kks zs)) (zs.map λz=>V.ref z.2))))
theorem Uf {K:A9}(h:SqT K H a xs)(s:Same H H'):SqT K H' a xs:=by
 rcases h with h|h
 ·left;rcases h with h|⟨o,h⟩
  ·exact .inl (s _ _ h)
  ·exact .inr ⟨o,s _ _ h⟩
 ·exact .inr h
theorem Ug (hc:X.calm=true)(hr:Room k X.A)(g1:Gl X "sorted")(m1:X.mg "sorted"=none)(g2:Gl X "set")(m2:X.mg "set"=none)(he:PE X e t)(hs:E3 [e] X.env=(false,eval e X.env)::E3 [] X.env) :
   PE X (.Call (.Name "sorted" p1) [.Call (.Name "set" p2) [e] [] pos2] [] pos) (Ue X.K t):=by
 have i1:=BK (p:=p2) (pos:=pos2) (Uc hc hr.units) g2 m2 Kx (E9 (pe_mo he) G7 hs) (by decide) (by decide) hs rfl;have i2:=y0 (p:=p1) (pos:=pos) (Ud hc) g1 m1 Ku (E9 i1 G7 rfl) (by decide) (by decide) rfl rfl;intro jb s σ H Q I ⟨Q',h1,h2⟩;refine i2 jb s σ H Q I ⟨Q',h1,λx H1 hx=>?_⟩;obtain⟨a,ys,jo,rfl,hq,hp,hl,al,q⟩:=h2 x H1 hx;refine⟨a,ys,jo,rfl,hq,hp,hl,λp rs hn ek eu hk=>?_⟩;have sm:Same H1 (upd H1 p (SetO X p rs)):=(Same.refl _).lay hn;refine⟨p,rs,rfl,E4,?_,λy hy=>⟨Uf (hk y hy).1 sm,(hk y hy).2⟩,by rw[ek];exact al,λl zs hl nd z1 z2=>q _ l rs zs sm hl ek eu nd z1 z2⟩;have:rs.length=ys.length:=by rw[<- eu,B4]
 omega
end
end SeT
namespace Pu
open PySem PySem.Spec L2
def SetOk (xs:List PV):Prop:=(∀x∈xs,∃ks,x=.tup (ks.map kP)/\ks≠[])/\∀x∈xs,∀y∈xs,Al (keyP x) (keyP y)
def SrtS (ys xs:List PV):Prop:=ys.Nodup/\(∀y,y∈ys↔y∈xs)/\ys.Pairwise λa b=>lexK (keyP b) (keyP a)=false
def wSet (R:List PV->Prop)(xs:List PV):Prop:=xs.length<=63/\SetOk xs/\∀ys,SrtS ys xs->R ys
def IR (pe:pE):pA:=λenv n R=>pe env n λx jc n1=>match x with|.lst xs=>wSet (λys=>R ys jc n1) xs|.tup xs=>wSet (λys=>R ys jc n1) xs|_=>False
abbrev zP (z:List Key×A1):PV:=.tup (z.1.map kP)
theorem keyP_z (z:List Key×A1):keyP (zP z)=z.1:=U9 z.1
theorem zP_inj {ks js:List Key}(h:(PV.tup (ks.map kP))=.tup (js.map kP)):ks=js:=by rw[<- U9 ks,h,U9]
section
variable {T:PotK}{ι:Type}{K:A9}{F:ι->Cx}{e:Expr}{pe:pE}{pos:Pos}
theorem MG:∀{xs:List PV} {rs:List (List Key×A1)},Reps K G H xs (rs.map λy=>V.ref y.2)->SeT.kks rs=xs.map keyP->(∀x∈xs,∃ks,x=.tup (ks.map kP)/\ks≠[])->xs=rs.map zP/\∀z∈rs,Rep K G H (zP z) (.ref z.2)
 |[],[],_,_,_=>⟨rfl,λ_ z=>nomatch z⟩
 |[],_::_,h,_,_=>by cases h
 | x :: xs, [], h, _, _ => by
  obtain⟨_,_,e,_⟩:=h;cases e
 | x :: xs, r :: rs, h, hk, hx => by
  obtain⟨v,t,e,h1,h2⟩:=h;rw[K7] at e;injection e with e1 e2;subst e1;subst e2;have hk':r.1::SeT.kks rs=keyP x::xs.map keyP:=hk;injection hk' with k1 k2;obtain⟨a1,a2⟩:=MG h2 k2 λy hy=>hx y (C3 _ hy);obtain⟨ks,rfl,_⟩:=hx x C7;rw[U9] at k1;have ez:zP r=.tup (ks.map kP):=by show PV.tup (r.1.map kP)=_;rw[k1]
  refine⟨by rw[K7,ez,<- a1],λz hz=>?_⟩;rcases C5.mp hz with rfl|hz
  ·rw[ez];exact h1
  ·exact a2 z hz
theorem MH {G:Gh}{H:Hp}:∀(zs:List (List Key×A1)),(∀z∈zs,Rep K G H (zP z) (.ref z.2))->Reps K G H (zs.map zP) (zs.map λz=>V.ref z.2)
 |[],_=>rfl
 |z::zs,h=>⟨_,_,rfl,h z C7,MH zs λy hy=>h y (C3 _ hy)⟩
theorem SrtS.of {rs:List (List Key×A1)}(e:xs=rs.map zP)(nd:(SeT.kks zs).Nodup)(h1:∀z∈zs,z∈rs)(h2:∀y∈rs,y.1∈SeT.kks zs):SrtS (outP (zs.map zP)) xs:=by
 obtain⟨p,pw⟩:=Fv (zs.map zP);refine⟨p.nodup_iff.mpr ?_,λy=>?_,pw⟩
 ·rw[G9,k9];have:zs.Pairwise λa b=>a.1≠b.1:=k9.mp nd;exact this.imp λhab h=>hab (zP_inj h)
 grind
theorem Uh (hc:∀z,(F z).calm=true)(hr:∀z,Room k (F z).A)(hg:∀z,Gl (F z) "sorted")(hm:∀z,(F z).mg "sorted"=none)(hg2:∀z,Gl (F z) "set")(hm2:∀z,(F z).mg "set"=none)(ha:QR T K F e pe)(hs:F5 e=true:=by rfl)(hK:∀z,(F z).K=K:=by intro _;rfl) :
   QN T K F (.Call (.Name "sorted" p) [.Call (.Name "set" p2) [e] [] pos2] [] pos) (IR pe):=by
 obtain⟨t,h1,h2⟩:=ha;refine⟨_,λz=>hK z▸SeT.Ug (hc z) (hr z) (hg z) (hm z) (hg2 z) (hm2 z) (h1 z) (D0 hs),λC G σ H env n R Q hK hT S hp k=>?_⟩;refine⟨λv H1=>∃x jc n1,(match x with|PV.lst xs=>wSet (λys=>R ys jc n1) xs|.tup xs=>wSet (λys=>R ys jc n1) xs|_=>False)/\SR C G σ H1 jc n1/\RdS C G σ H1 jc x v/\Fr G H H1,h2 C G σ H env n _ _ hK hT S hp λx jc n1 v H1 p1 S1 r1 f1=>⟨x,jc,n1,p1,S1,r1,f1⟩,λv H1 ⟨x,jc,n1,p1,S1,r1,f1⟩=>?_⟩;have rd:RdV K G H1 x v:=hK▸r1.rd S1
 have main:∀(xs:List PV) (a:A1) (us:List V),wSet (λys=>R ys jc n1) xs->(SqL K H1 a us\/SqT K H1 a us)->Reps K G H1 xs us->∃a' ys jo,V.ref a=.ref a'/\(SqL K H1 a' ys\/SqT K H1 a' ys)/\Paired (KM K H1 2) ys jo/\ys.length<=63/\Aa jo/\
     ∀H2 l rs zs,Same H1 H2->H2 l=none->SeT.kks rs=jo->(rs.map λy=>V.ref y.2)=ys->(SeT.kks zs).Nodup->(∀z∈zs,z∈rs)->(∀y∈rs,y.1∈SeT.kks zs)->Q (.ref l) (upd H2 l (.lst (outV (ltIx (SeT.kks zs)) (zs.map λz=>V.ref z.2)))):=by
   intro xs a us ⟨h63,ok,q⟩ hq r;obtain⟨m,pk,al⟩:=km_of r (.inr (.inr ok))
   have pk2:Paired (KM K H1 2) us (xs.map keyP):=Paired.imp' (λv ks ⟨_,_,hp⟩=>hp) (DG (P:=λ_ v ks=>KM K H1 2 v ks) xs r λx hx v hv=>by
    obtain⟨ks,rfl,hne⟩:=ok.1 x hx;obtain⟨a,vs,rfl,at',rr⟩:=hv;rw[U9];refine⟨a,rfl,?_,hne⟩;rw[Ft ks rr] at at'
    exact SqT.of at'.2)
   refine⟨a,us,xs.map keyP,rfl,hq,pk2,by rw[<- r.length];exact h63,al,λH2 l rs zs sm hl ek eu nd z1 z2=>?_⟩;subst eu;obtain⟨ex,rz⟩:=MG r ek ok.1;have rr:Reps K G H2 (zs.map zP) (zs.map λz=>V.ref z.2):=(MH zs λz hz=>rz z (z1 z hz)).same sm;have ro:=LN rr;have ekz:(zs.map zP).map keyP=SeT.kks zs:=by rw[U2];exact List.map_congr_left λz _=>keyP_z z
   rw[ekz] at ro;exact k _ _ _ _ _ _ (q _ (SrtS.of ex nd z1 z2)) (S1.same sm) (f1.trans (Fr.of sm)) hl ro
 cases x with
 | lst xs =>
  obtain⟨a,us,rfl,hq,r⟩:=rd.lst;exact main xs a us p1 (.inl hq) r
 | tup xs =>
  obtain⟨a,us,rfl,hq,r⟩:=rd.tup;exact main xs a us p1 (.inr hq) r
 |_=>exact p1.elim
end
end Pu
end
section
namespace L2
open PySem PySem.Spec PyProof.Rows
section
variable {X:Cx}
theorem Ui (hc:X.calm=true):N1 X (.type "set") (λvs H Q=>∃(a:A1) (ys:List Str),vs=[.ref a]/\SqL X.K H a (ys.map V.str)/\ys.length<=1000/\∀p,H p=none->Q (.ref p) (upd H p (SetX X p (λq=>(met (L5 ys) ys.length).any (λy=>decide (y=q))) (met (L5 ys) ys.length).length))):=by
 intro jb s σ H vs us Q I rv h;obtain⟨a,ys,rfl,hq,hl,k⟩:=h;obtain⟨u,rfl,ru⟩:=rv.one;obtain rfl:u=.ref a:=ru;obtain⟨jf,r,ht,_⟩:=I.list hq;have sz:jf.toArray.size=ys.length:=by have:=r.length;rw[B4] at this;simpa using this.symm
 refine RD (val:=L5 ys) (I.ok.hd hc) (.inl ht.isList) (λi v e=>?_) (by rw[sz];unfold scanBound;omega) λh' tk so kp=>?_
 ·obtain⟨t,rfl⟩:=RE r (by simpa using e);exact⟨GP _ _ _ _,rfl⟩
 ·rw[sz] at so
  have I1:Inv X jb σ (upd H s.heap.objs.size (SetX X s.heap.objs.size (λq=>(met (L5 ys) ys.length).any (λy=>decide (y=q))) (met (L5 ys) ys.length).length)) { s with heap:=h',toks:=tk }:=
   I.laid (fun b o e=>kp b o (D1 e) e) (B8 _) ⟨so,by obtain⟨o,_,_,_,e,_⟩:=so;exact⟨o,e⟩,fun h1 h2 x k2=>by
    obtain⟨o,es,ep,t,e,more⟩:=x
    exact⟨o,es,ep,t,k2 o e,more⟩⟩
  exact⟨.ref s.heap.objs.size,_,I1,rfl,k _ (I.hok.fresh (B8 _))⟩
def Uj (K:A9)(t:TE):TE:=λσ H Q=>∃Q',t σ H Q'/\∀x H1,Q' x H1->∃(a:A1) (ys:List Str),x=.ref a/\SqL K H1 a (ys.map V.str)/\ys.length<=1000/\∀H2,Same H1 H2->Q (.int (met (L5 ys) ys.length).length) H2
theorem Uk {e:Expr}{t:TE}{p1 p2 pos pos2:Pos}(hc:X.calm=true)(g1:Gl X "len")(m1:X.mg "len"=none)(g2:Gl X "set")(m2:X.mg "set"=none)(he:PE X e t)(hs:E3 [e] X.env=(false,eval e X.env)::E3 [] X.env) :
   PE X (.Call (.Name "len" p1) [.Call (.Name "set" p2) [e] [] pos2] [] pos) (Uj X.K t):=by
 have i1:=BK (p:=p2) (pos:=pos2) (Ui hc) g2 m2 Kx (E9 (SeT.pe_mo he) G7 hs) (by decide) (by decide) hs rfl;have i2:=y0 (p:=p1) (pos:=pos) RF g1 m1 EI (E9 i1 G7 rfl) (by decide) (by decide) rfl rfl;intro jb s σ H Q I ⟨Q',h1,h2⟩;refine i2 jb s σ H Q I ⟨Q',h1,λx H1 hx=>?_⟩;obtain⟨a,ys,rfl,hq,hl,k⟩:=h2 x H1 hx;exact⟨a,ys,rfl,hq,hl,λp hn=>⟨p,_,_,rfl,E4,k _ ((Same.refl _).lay hn)⟩⟩
end
end L2
namespace Pu
open PySem PySem.Spec L2
section
variable {T:PotK}{ι:Type}{K:A9}{F:ι->Cx}{pos:Pos}{e:Expr}{pe:pE}
def DO:w1:=λx R=>match x with|.lst xs=>(match X5 xs with|some ys=>ys.length<=1000/\R (.int (met (L5 ys) ys.length).length)|none=>False)|_=>False
theorem Ul {p1 p2 pos2:Pos}(hc:∀z,(F z).calm=true)(g1:∀z,Gl (F z) "len")(m1:∀z,(F z).mg "len"=none)(g2:∀z,Gl (F z) "set")(m2:∀z,(F z).mg "set"=none)(he:QE T K F e pe)(hs:F5 e=true:=by rfl)(hK:∀z,(F z).K=K:=by intro _;rfl) :
   QE T K F (.Call (.Name "len" p1) [.Call (.Name "set" p2) [e] [] pos2] [] pos) (qUn DO pe):=by
 obtain⟨t,h1,h2⟩:=he;refine⟨_,λz=>hK z▸Uk (hc z) (g1 z) (m1 z) (g2 z) (m2 z) (h1 z) (D0 hs),λC G σ H env n R Q hK hT S hp k=>?_⟩;refine⟨_,h2 C G σ H env n _ (λv H'=>∃x jh n',DO x (λr=>R r jh n')/\SR C G σ H' jh n'/\Rep K G H' x v/\Fr G H H') hK hT S hp (λx jh n' v H' r S' rv f=>⟨x,jh,n',r,S',rv,f⟩),λv H1 hx=>?_⟩;obtain⟨x,jc,n1,r,S1,rv,f1⟩:=hx;unfold DO at r
 split at r
 ·rename_i xs
  split at r
  ·rename_i ys ey;obtain⟨a,vs,rfl,t,rs⟩:=rv;exact⟨a,ys,rfl,HM ey rs▸t.sq,r.1,λH2 s2=>k _ _ _ _ _ r.2 (S1.same s2) rfl (f1.trans (Fr.of s2))⟩
  ·exact r.elim
 ·exact r.elim
end
end Pu
end
section
namespace L2
open PySem PySem.Spec PyProof.Rows
theorem Um (l:A1)(items:Array A3)(n:Nat)(b:A1)(items2:Array A3)(hs0:¬(!items.isEmpty&&CT (items.size+items2.size))=true)(hs1:items.size<=B9)(hs2:items.size+items2.size<=B9+1) :
   Meets (L8.«list.extend» ⟨[.ref l,.ref b],[]⟩) (λ_ R s=>s.heap.get? l=some { cls:=.type "list",dict:=none,data:=.seq items n,slots:=#[] }/\s.heap.IsTuple b items2/\R (.ok (.ret Q8)) { s with heap:=s.heap.update l (T0 λx=>x++items2),toks:=s.toks }):=
 .of_wp λprog w A R s h=>by
  obtain⟨hp,g,d,tk,os⟩:=s;obtain⟨hl,⟨⟨oc,od,odt,os'⟩,hb,hc,n2,hd⟩,h⟩:=h;cases hc;cases hd;have f1:=AutoSeq1.idx_int;have f2:=AutoSeq1.sub_tuple_tuple;have f3:=AutoSeq1.sub_list_list;have f4:=AutoSeq1.sub_tuple_list;have f5:=AutoSeq1.sub_list_tuple;have hz':(items++items2).size<=B9+1:=by rw[Array.size_append];exact hs2
  wp_walk using(wpAny_updateSeq hl rfl (hz:=hs1) (_hz':=hz')),wpAny_loadPart' hl,wpAny_loadPart' hb
  exact⟨_,rfl,h⟩
section
variable {X:Cx}
def rExtT (K:A9):V->List V->Hp->VK->Prop:=λx vs H Q=>∃l b xs zs,x=.ref l/\vs=[.ref b]/\H l=some (.lst xs)/\SqT K H b zs/\xs.length+zs.length<=B9/\Q .non (upd H l (.lst (xs++zs)))
theorem Uo:MtM X "list.extend" (rExtT X.K):=by
 intro jb s σ H x vs v us Q I rx rv h;obtain⟨l,b,xs,zs,rfl,rfl,hH,hB,hz,q⟩:=h;cases rx;obtain⟨u,rfl,ru⟩:=rv.one;cases ru;obtain⟨z,jf,n,r,hl,e⟩:=I.lstM hH;obtain⟨its2,r2,ht,hl2⟩:=I.tuple hB;have l2:=r2.length;have hsz:jf.toArray.size+its2.toArray.size<=B9:=by rw[F7,F7];omega
 have hlong:¬(!jf.toArray.isEmpty&&CT (jf.toArray.size+its2.toArray.size))=true:=by
  rw[Kk hsz,CO];exact L0
 refine call_meets F.slot_list_extend ⟨_,e,rfl⟩ F.entry_list_extend (F.args_list_extend_2 _ _) (Um l jf.toArray n b its2.toArray hlong (by rw[F7];omega) (by omega)) ⟨e,ht,?_⟩;refine⟨.non,_,I.lset (its':=jf++its2) hH e (by simp) (r.append r2) ?_,rfl,q⟩;rw[E6];omega
end
end L2
namespace Pu
open PySem PySem.Spec L2
section
variable {T:PotK}{ι:Type}{K:A9}{F:ι->Cx}{e:Expr}{pe:pE}{pos:Pos}
def IS (i:Nat)(pe:pE):pE:=λenv n R=>(∃xs,env[i]?=some (some (.ow .lst xs)))/\pe env n λy jc n1=>match jc[i]?,y with|some (some (.ow .lst xs)),.tup ys=>xs.length+ys.length<=1000000/\R .non (jc.set i (some (.ow .lst (xs++ys)))) n1|_,_=>False
theorem Up (i:Nat)(hv:∀z,EW (F z) (.Name x p) (tVar i))(he:QE T K F e pe)(hs:F5 e=true:=by rfl)(hbase:∀z,w5 (.Name x p) "extend" (F z).env (eval (.Name x p) (F z).env)=eval (.Name x p) (F z).env:=by intro _;rfl)(hline:(ap.endLine == pos.line)=true:=by rfl)
   (hfew:∀z,((backTo pos (E3 [e] (F z).env)).all (λx=>!x.1)&&(backToKw pos (Ap [] (F z).env)).all (λx=>x.1.isSome)&&decide (([e]:List Expr).length+([]:List V1).length+(if([]:List V1).isEmpty then 0 else 1)<30))=true:=by intro _;rfl) (hK:∀z,(F z).K=K:=by intro _;rfl):QE T K F (.Call (.Attribute (.Name x p) "extend" ap) [e] [] pos) (IS i pe):=by
 obtain⟨t,a1,a2⟩:=he;refine⟨tBM K "list" (rExtT K) (tVar i) (X6 t tNil),λz=>hK z▸Dg CU PySem.F.slot_list_extend PySem.F.type_list_extend Uo (hv z).h (E9 (a1 z) G7 (D0 hs)) (hbase z) (hfew z) hline (D0 hs),λC G σ H env n R Q hK hT S hp k=>?_⟩;obtain⟨⟨xs0,e0⟩,hp⟩:=hp;obtain⟨a,vs,ev,h1,h2,h3,h4,r⟩:=S.slots i _ e0;refine⟨.ref a,ev,.inl ⟨rfl,vs,SqL.of h4⟩,?_⟩;refine a2 C G σ H env n _ _ hK hT S hp λy jc n1 v H1 q1 S1 r1 f1=>?_
 split at q1
 ·rename_i xs ys ex;obtain⟨a',us,ev',g1,g2,g3,g4,r'⟩:=S1.slots i _ ex;rw[ev] at ev';cases ev';subst hK;obtain⟨b,ws,rfl,tb,rb⟩:=r1;obtain⟨S2,f2⟩:=S1.put ex ev (r'.append rb);exact⟨a,b,us,ws,rfl,rfl,g4,SqT.of tb.2,by rw[<- r'.length,<- rb.length];exact mil q1.1,k _ _ _ _ _ q1.2 S2 rfl (f1.trans f2)⟩
 ·exact q1.elim
end
end Pu
end
section
namespace L2
open PySem PySem.Spec PyProof.Rows
def Cg (i n:Int):Obj:={ cls:=.type "range_iterator",data:=.fields #[rawInt (i+(n-i-1)*1),rawInt (n-i),rawInt (-1)] }
section
variable {prog:C8}{w:C4}{A:D5}{E:A3->A5->Prop}{s:A5}
theorem Uq {r:A1}{i n:Int}{t u v:Tok}{Q:A3->A5->Prop}(h0:i<=n)(h1:n<=1000000)(hi:-1000000<=i)(hr:s.heap.get? r=some { cls:=.type "range",data:=.fields #[.int i t,.int n u,.int 1 v] })
   (h:Q (.ref s.heap.objs.size) { s with heap:=s.heap.push (Cg i n) }):A6 (A7 prog w) A (call (.builtin "range.__reversed__") [.ref r]) Q E s:=by
 have hT:s.TypeIs (.ref r) "range":=⟨_,hr,rfl⟩;refine P3 F.slot_range_reversed hT F.entry_range_reversed ?_ (F.args_range_reversed_1 _);unfold L8.«range.__reversed__»;refine A0 (K6 (a:=K8 r) rfl ?_);refine A0 ?_;unfold JH;refine A0 (K5 hr rfl (x:=.int i t) rfl ?_);refine A0 (K6 (a:=some i) rfl ?_);refine A0 (K5 hr rfl (x:=.int n u) rfl ?_);refine A0 (K6 (a:=some n) rfl ?_);refine A0 (K5 hr rfl (x:=.int 1 v) rfl ?_);refine A0 (K6 (a:=some (1:Int)) rfl ?_);refine A8 ?_
 have hs:CP i n 1=n-i:=by
  unfold CP;rw[jr (by decide),Int.ediv_one]
  split <;> omega
 dsimp only;rw[hs]
 have sm:(U3 i&&U3 n&&U3 1&&U3 (-1)&&U3 (i-1)&&U3 (n-i))=true:=by
  simp only[U3,h9,decide_eq_true_eq];omega
 rw[sm];simp only[l7,L3,if_false,if_true];exact A0 (P2 (A8 ⟨_,rfl,h⟩))
theorem Ur {r:A1}{i n:Int}{t u v:Tok}{Q:A3->A5->Prop}(h0:i<=n)(h1:n<=1000000)(hi:-1000000<=i)(hr:s.heap.get? r=some { cls:=.type "range",data:=.fields #[.int i t,.int n u,.int 1 v] })
   (h:Q (.ref s.heap.objs.size) { s with heap:=s.heap.push (Cg i n) }):A6 (A7 prog w) A (call (.type "reversed") [.ref r]) Q E s:=by
 have hT:s.TypeIs (.ref r) "range":=⟨_,hr,rfl⟩;refine callType_other (U:="range_iterator") (Q₁:=λobj s₁=>obj=.ref s.heap.objs.size/\s₁={ s with heap:=s.heap.push (Cg i n) }) (by decide +kernel) F.create_reversed ⟨_,_,F.mro_reversed⟩ F.made_reversed LP (F.typeCall_reversed_1 _) ?_ ?_
 ·refine Cr ?_;show A6 _ A.in1.in1 (do checkBuiltinCall "reversed.__new__" ⟨[.type "reversed",.ref r],[]⟩;again (.builtin "reversed.__new__" ⟨[.type "reversed",.ref r],[]⟩)) _ _ s;refine A0 (K6 (F.newCall_reversed_1 _) (A8 ⟨k5 EB _,b9 F.entry_reversed_new ?_⟩));rw[n6 EB _];unfold L8.«reversed.__new__»;refine A0 (K6 (newClass_reversed _) ?_)
  try dsimp only
  refine A0 (K6 (a:=()) (by first|rfl|kernel_rfl) ?_);refine A0 (K6 (a:=()) (by first|rfl|kernel_rfl) ?_)
  try dsimp only
  refine A0 (Be hT F.slot_range_reversed.lookup ?_)
  try dsimp only
  refine A0 (K6 (F.slot_range_reversed.bind _) ?_)
  try dsimp only
  first
  |rw[jt (show ¬((Bt "range.__reversed__" == Q8)=true) from L0)]
  |(show A6 _ _ (if(Bt "range.__reversed__" == Q8)=true then _ else _) _ _ _;rw[jt (show ¬((Bt "range.__reversed__" == Q8)=true) from L0)])
  refine A0 (Y3 ?_);refine A0 (m:=runValue (.call (.builtin "range.__reversed__") ⟨[.ref r],[]⟩)) (show A6 _ _ (call (.builtin "range.__reversed__") [.ref r]) _ _ _ from Uq h0 h1 hi hr ?_)
  first
  |exact A8 ⟨rfl,rfl⟩
  |exact A0 (A8 (A8 ⟨rfl,rfl⟩))
 ·rintro obj s₁ ⟨rfl,rfl⟩;exact⟨⟨_,F2 _ rfl,rfl⟩,h⟩
end
section
variable {X:Cx}{tg:Expr}
def tRng2 (ta:TA):TE:=λσ H Q=>ta σ H λvs H1=>∃i j:Int,vs=[.int i,.int j]/\∀p,H1 p=none->Q (.ref p) (upd H1 p (.rng i j))
theorem Us {a b:Expr}{ta:TA}{p pos:Pos}(hg:Gl X "range")(hm:X.mg "range"=none)(ha:PA X [a,b] ta)(hs:E3 [a,b] X.env=[(false,eval a X.env),(false,eval b X.env)])(hs2:E3 [b] X.env=[(false,eval b X.env)]):PE X (.Call (.Name "range" p) [a,b] [] pos) (tRng2 ta):=by
 intro jb s σ H Q I h;refine Call_ (i6 I hg hm boot_range (x5 (thn (ha pos jb s σ H _ I h) λus s1 ⟨vs,H1,I1,r1,q1⟩=>?_) (by rw[hs,hs2]) (by rw[hs2];rfl)));obtain⟨i,j,e,q⟩:=q1;subst e;cases r1 with
 | cons r rr =>
  cases rr with
  | cons r' rr =>
   cases rr;obtain⟨t,rfl⟩:=r;obtain⟨t',rfl⟩:=r';refine call_range_2 ?_;exact⟨.ref s1.heap.objs.size,_,I1.laid (a:=s1.heap.objs.size) (o:=.rng i j) (λb o e=>C0 _ e) (B8 _) ⟨_,_,_,F2 _ rfl⟩,rfl,q _ (I1.hok.fresh (B8 _))⟩
def iRevS (ta:TA):TI:=λσ H R=>ta σ H λvs H1=>∃(r:A1) (i n:Int),vs=[.ref r]/\H1 r=some (.rng i n)/\i<=n/\n<=1000000/\-1000000<=i/\R (Itd (n-1) (n-i).toNat) H1
theorem Ut {e:Expr}{ta:TA}{p pos:Pos}(hg:Gl X "reversed")(hm:X.mg "reversed"=none)(ha:PA X [e] ta)(hs:E3 [e] X.env=[(false,eval e X.env)]:=by rfl):PI X tg (.Call (.Name "reversed" p) [e] [] pos) (iRevS ta):=by
 intro jb s σ H R I h;refine Call_ (i6 I hg hm LO (x5 (thn (ha pos jb s σ H _ I h) λus s1 ⟨vs,H1,I1,r1,q1⟩=>?_) hs rfl));obtain⟨r,i,n,e,hr,h0,h2,hi,q⟩:=q1;subst e;cases r1 with
 | cons rr0 rr =>
  cases rr;cases rr0;obtain⟨t,u,v,ho⟩:=(show F9 X.prog X.w H1 s1.heap r (.rng i n) from I1.hok r _ hr);refine Ur h0 h2 hi ho ?_;have I2:Inv X jb σ H1 { s1 with heap:=s1.heap.push (Cg i n) }:=I1.kept (t':=s1.toks) λb o e=>C0 _ e
  have st:IsRangeIter (s1.heap.push (Cg i n)) s1.heap.objs.size (n-1+((0:Nat):Int) * -1) (((n-i).toNat:Int)-((0:Nat):Int)) (-1):=by
   have e1:n-1+((0:Nat):Int) * -1=i+(n-i-1)*1:=by omega
   have e2:((n-i).toNat:Int)-((0:Nat):Int)=n-i:=by omega
   rw[e1,e2];exact F2 _ rfl
  refine DZ (s:={ s1 with heap:=s1.heap.push (Cg i n) }) st ?_;refine⟨s1.heap.objs.size,[s1.heap.objs.size],_,_,H1,rfl,I2,Le _ (n-1) (n-i).toNat,st,λb hb=>?_,q⟩;have e:b=s1.heap.objs.size:=by simpa using hb
  subst e;exact I1.fpOk (B8 _) (I1.hok.fresh (B8 _))
end
end L2
namespace Pu
open PySem PySem.Spec L2
section
variable {T:PotK}{ι:Type}{K:A9}{F:ι->Cx}{tg a b:Expr}{pa pb:pE}{pos:Pos}
def IT (pa pb:pE):pA:=λenv n R=>pa env n λx jc n1=>pb jc n1 λy jd n2=>match x,y with|.int i,.int j=>(i<=j/\j<=1000000/\-1000000<=i)/\R ((D3 (j-i).toNat).map λ(k:Nat)=>PV.int (j-1-k)) jd n2|_,_=>False
theorem Uu {p p2 pos2:Pos}(hg:∀z,Gl (F z) "reversed")(hm:∀z,(F z).mg "reversed"=none)(hg2:∀z,Gl (F z) "range")(hm2:∀z,(F z).mg "range"=none)(ha:QE T K F a pa)(hb:QE T K F b pb)(hs:F5 a=true:=by rfl)(hs2:F5 b=true:=by rfl):QI T K F tg (.Call (.Name "reversed" p) [.Call (.Name "range" p2) [a,b] [] pos2] [] pos) (IT pa pb):=by
 obtain⟨t,h1,h2⟩:=ha;obtain⟨u,h3,h4⟩:=hb;refine⟨_,λz=>Ut (hg z) (hm z) (E9 (Us (hg2 z) (hm2 z) (E9 (h1 z) (E9 (h3 z) G7 (D0 hs2)) (D0 hs)) (by rw[D0 hs,D0 hs2];rfl) (D0 hs2)) G7 (D0 rfl)) (D0 rfl),λC G σ H env n R Q hK hT S hp k=>?_⟩;refine h2 C G σ H env n _ _ hK hT S hp λx jc n1 v H1 p1 S1 r1 f1=>?_;refine h4 C G σ H1 jc n1 _ _ hK hT S1 p1 λy jd n2 v2 H2 p2 S2 r2 f2=>?_;cases x with
 | int i =>
  cases y with
  | int j =>
   refine⟨i,j,by rw[show v=.int i from r1,show v2=.int j from r2],λp hn=>⟨p,i,j,rfl,E4,p2.1.1,p2.1.2.1,p2.1.2.2,?_⟩⟩;exact k _ _ _ _ _ p2.2 (S2.same (Same.lay1 hn)) ((f1.trans f2).trans (Fr.of (Same.lay1 hn))) (Lf (j-1) _)
  |_=>exact p2.elim
 |_=>exact p2.elim
end
end Pu
end
section
namespace Pu
open PySem PySem.Spec L2
section
variable {T:PotK}{np:Bool}{ι:Type}{K:A9}{F:ι->Cx}{e a b:Expr}{st:Stmt}{pe pa pb:pE}{pos:Pos}
def IU:w2:=wI CMul λi j=>.int (i*j)
theorem Uv (i:Nat)(h:∀z te,EW (F z) e te->SW (F z) st (tAug i te (rI CMul λi j=>.int (i*j))))(he:QE T K F e pe):QS T np K F st (qAug i IU pe):=qs_aug i (W2.I λ_ _ _ _=>rfl) h he
end
end Pu
end
section
namespace Tb
open PySem L2 Pu
abbrev M6:pF:=AQ
def MI:pS:=(qSeq (qPar 2 3 (sV (qC (.str (B0 "abcdefghijklmnopqrstuvwxyz")))) (sV (qC (.str (B0 "")))))
   (qSeq (qSet 4 (qOp wIx (qL (qLst (A2 (qC (.int 1)) (A2 (qC (.int 3)) (A2 (qC (.int 5)) (A2 (qC (.int 7)) (A2 (qC (.int 9)) (A2 (qC (.int 11)) (A2 (qC (.int 15)) (A2 (qC (.int 17)) (A2 (qC (.int 19)) (A2 (qC (.int 21)) qNil)))))))))))) (B7 M6 (A2 (qV 0) (A2 (qC (.int 10)) qNil)))))
   (qSeq (qSet 5 (B7 M6 (A2 (qV 0) (A2 (qC (.int 26)) qNil))))
   (qSeq (qFor (AK (qC (.int 7))) (gN 6) (qSet 3 (qOp wAdd (qV 3) (qOp wIx (qV 2) (B7 M6 (A2 (qV 0) (A2 (qC (.int 26)) qNil)))))))
   (qSeq (qSet 7 (B7 M6 (A2 (qV 0) (A2 (qC (.int 8)) qNil))))
   (qSeq (qOwn 8 (qLst qNil))
   (qSeq (qFor (AK (qV 1)) (gN 6) (qSeq (qPar 9 10 (sV (qOp wAdd (qV 7) (B7 M6 (A2 (qV 0) (A2 (qOp wSub (qC (.int 8)) (qV 7)) qNil))))) (sV (qOp wIx (qV 2) (qOp wMod (qOp wAdd (qV 5) (qOp wMul (qV 4) (qV 6))) (qC (.int 26))))))
   (L4 (P9 8 (qOp wAdd (qOp wAdd (qSl (qV 3) qNo (J0 (qV 7))) (qV 10)) (qSl (qV 3) (J0 (qV 7)) (J0 (qV 9))))))))
   (qSeq (qSet 11 (qOp wIx (qL (qLst (A2 (qC (.str (B0 "drop"))) (A2 (qC (.str (B0 "touch"))) (A2 (qC (.str (B0 "none"))) (A2 (qC (.str (B0 "d"))) (A2 (qC (.str (B0 "u"))) (A2 (qC (.str (B0 "t"))) (A2 (qC (.str (B0 "o"))) qNil))))))))) (B7 M6 (A2 (qV 0) (A2 (qC (.int 7)) qNil)))))
   (qSeq (qIfS (qAnd (qB (qOp (wIn 4 true) (qV 11) (qO 8))) (qB (qOp (wEq 4) (B7 M6 (A2 (qV 0) (A2 (qC (.int 3)) qNil))) (qC (.int 0))))) (qPut 8 (qV 11) (B7 M6 (A2 (qV 0) (A2 (qV 1) qNil)))) qNx)
   (qRet (qUn O3 (qO 8))))))))))))
def IV:pF:=fnP ["_law_draws","_law_many","_law_letters","_law_stem","_law_step","_law_first","_law_k","_law_at","_law_found","_law_far","_law_sign","_law_word_here"] ["_law_draws","_law_many"] MI
def MJ:pS:=(qSeq (qSet 2 (qTup (A2 (qOp wAdd (qC (.int 1)) (B7 M6 (A2 (qV 0) (A2 (qC (.int 8)) qNil)))) (A2 (qOp wIx (qL (qLst (A2 (qC (.int 0)) (A2 (qC (.int 1)) (A2 (qC (.int 7)) (A2 (B7 M6 (A2 (qV 0) (A2 (qC (.int 8)) qNil))) qNil)))))) (B7 M6 (A2 (qV 0) (A2 (qC (.int 4)) qNil)))) qNil))))
   (qSeq (qSet 3 (qOp wIx (qL (qLst (A2 (qOp wAdd (qC (.int 1)) (B7 M6 (A2 (qV 0) (A2 (qV 1) qNil)))) (A2 (qOp wAdd (qC (.int 1)) (B7 M6 (A2 (qV 0) (A2 (qOp wMin (qV 1) (qC (.int 6))) qNil)))) qNil)))) (B7 M6 (A2 (qV 0) (A2 (qC (.int 2)) qNil)))))
   (qRet (qTup (A2 (qV 2) (A2 (B7 IV (A2 (qV 0) (A2 (qV 3) qNil))) qNil))))))
def IW:pF:=fnP ["_law_draws","_law_most","_law_meeting","_law_many"] ["_law_draws","_law_most"] MJ
def MK:pS:=(qSeq (qSet 3 (qOp wIx (qV 0) (qC (.int 0))))
   (qSeq (qSet 4 (qOp wMul (qV 2) (qV 3)))
   (qRet (qTup (A2 (qV 4) (A2 (qOp wMin (qOp wAdd (qV 4) (qV 3)) (qOp wSub (qV 1) (qC (.int 1)))) qNil))))))
def FW:pF:=fnP ["meeting","n","k","size","first"] ["meeting","n","k"] MK
def MM:pS:=(qSeq (qAsg (B7 FW (A2 (qV 0) (A2 (qUn wLen (qV 1)) (A2 (qV 2) qNil)))) (gTp 2 (gCn (gN 3) (gCn (gN 4) gNl))))
   (qRet (qSl (qV 1) (J0 (qV 3)) (J0 (qOp wAdd (qV 4) (qC (.int 1)))))))
def u7:pF:=fnP ["meeting","row","k","first","last"] ["meeting","row","k"] MM
def MN:pS:=(qRet (qL (P0 [none,some 1] (qIt (qSl (B7 u7 (A2 (qV 0) (A2 (qV 2) (A2 (qV 3) qNil)))) (J0 (qC (.int 1))) qNo)) (gN 0) (qB (qOp (wIn 4 true) (qV 0) (qV 1))) (qTup (A2 (qC (.str (B0 "from"))) (A2 (qV 0) qNil))))))
def FX:pF:=fnP ["meeting","start","other","k"] ["meeting","start","other","k"] MN
def MO:pS:=(qSeq (qSet 4 (qSl (B7 u7 (A2 (qV 0) (A2 (qV 2) (A2 (qV 3) qNil)))) (J0 (qC (.int 1))) qNo))
   (qRet (qOp wAdd (qUn O3 (qL (P0 [none,some 4] (qIt (qV 1)) (gN 0) (qB (qOp (wIn 4 true) (qV 0) (qV 1))) (qV 0)))) (qV 4))))
def Ch:pF:=fnP ["meeting","start","other","k","behind"] ["meeting","start","other","k"] MO
def MP:pS:=(qSeq (qSet 3 (qOp wIx (qV 0) (Q2 (qV 1) (qV 2))))
   (qRet (qOp (wNe 4) (Q2 (qV 1) (qV 3)) (Q2 (qV 0) (qV 2)))))
def FY:pF:=fnP ["start","goal","x","there"] ["start","goal","x"] MP
def MQ:pS:=(qRet (qL (P0 [none,some 0,some 1] (qIt (qV 0)) (gN 0) (qB (B7 FY (A2 (qV 1) (A2 (qV 2) (A2 (qV 0) qNil))))) (qTup (A2 (qC (.str (B0 "round"))) (A2 (qV 0) qNil))))))
def FZ:pF:=fnP ["start","goal"] ["start","goal"] MQ
def MR:pS:=(qSeq (qAsg (qL (Ac (qL (qLst (A2 (Q2 (qV 0) (qOp wIx (qV 1) (qC (.int 1)))) (A2 (Q2 (qV 0) (qOp wIx (qV 1) (qC (.int 2)))) qNil)))))) (gTl 2 (gCn (gN 2) (gCn (gN 3) gNl))))
   (qRet (qSl (qV 0) (J0 (qOp wAdd (qV 2) (qC (.int 1)))) (J0 (qV 3)))))
def Ba:pF:=fnP ["start","touch","low","high"] ["start","touch"] MR
def MS:pS:=(qRet (qOp wGt (qUn wLen (B7 Ba (A2 (qV 0) (A2 (qV 2) qNil)))) (qV 1)))
def F_:pF:=fnP ["start","reach","touch"] ["start","reach","touch"] MS
def MT:pS:=(qRet (qL (DI [none,none] (qIt (qV 0)) (gN 0) (qIt (qSl (qV 0) (J0 (qC (.int 1))) qNo)) (gN 1) qTru (qV 1))))
def Ci:pF:=fnP ["events"] ["events"] MT
def MU:pS:=(qSeq (qIfS (qB (qOp (wNe 4) (qUn DO (B7 Ci (A2 (qTup (A2 (qV 1) (A2 (qV 2) qNil))) qNil))) (qC (.int 4)))) (qRet (qC (.bl false))) qNx)
   (qSeq (qSet 3 (B7 Ba (A2 (qV 0) (A2 (qV 1) qNil))))
   (qRet (qOp (wNe 4) (qOp (wIn 4 false) (qOp wIx (qV 2) (qC (.int 1))) (qV 3)) (qOp (wIn 4 false) (qOp wIx (qV 2) (qC (.int 2))) (qV 3))))))
def Ga:pF:=fnP ["start","one","other","inner"] ["start","one","other"] MU
def MV:pS:=(qSeq (qOwn 3 (P0 [none,some 0,some 1] (qIt (qV 2)) (gN 0) (qB (B7 F_ (A2 (qV 1) (A2 (qV 2) (A2 (qV 0) qNil))))) (qTup (A2 (qC (.str (B0 "far"))) (A2 (qV 0) qNil)))))
   (qSeq (H_ 3 (qL (DI [none,none,some 2,some 0] (qIt (qV 2)) (gN 0) (qIt (qV 2)) (gN 1) (qB (B7 Ga (A2 (qV 3) (A2 (qV 0) (A2 (qV 1) qNil))))) (qTup (A2 (qC (.str (B0 "cross"))) (A2 (qV 0) (A2 (qV 1) qNil)))))))
   (BR 3)))
def Gb:pF:=fnP ["start","reach","touches","reasons"] ["start","reach","touches"] MV
def MW:pS:=(qRet (qUn O3 (qL (IR (qV 0)))))
def IX:pF:=fnP ["events"] ["events"] MW
def MX:pS:=(qRet (B7 IX (A2 (qL (P0 [none,none,some 1,some 0] (qZip false false (qV 1) (qV 0)) (gTp 2 (gCn (gN 0) (gCn (gN 1) gNl))) (qB (qOp wLt (Q2 (qV 2) (qV 0)) (Q2 (qV 3) (qV 0)))) (qTup (A2 (qC (.str (B0 "touch"))) (A2 (qV 0) (A2 (qV 1) qNil)))))) qNil)))
def Cj:pF:=fnP ["start","goal"] ["start","goal"] MX
def MY:pS:=(qSeq (qSet 4 (B7 FX (A2 (qV 0) (A2 (qV 1) (A2 (qV 2) (A2 (qV 3) qNil))))))
   (qSeq (qIfS (Dv (qV 4)) (qRet (qV 4)) qNx)
   (qSeq (qSet 5 (B7 Ch (A2 (qV 0) (A2 (qV 1) (A2 (qV 2) (A2 (qV 3) qNil))))))
   (qRet (qOrT (B7 FZ (A2 (qV 1) (A2 (qV 5) qNil))) (B7 Gb (A2 (qV 1) (A2 (qOp wIx (qV 0) (qC (.int 1))) (A2 (B7 Cj (A2 (qV 1) (A2 (qV 5) qNil))) qNil)))))))))
def Gc:pF:=fnP ["meeting","start","other","k","reasons","goal"] ["meeting","start","other","k"] MY
def MZ:pS:=(qSeq (qAsg (B7 FW (A2 (qV 0) (A2 (qUn wLen (qV 1)) (A2 (qV 2) qNil)))) (gTp 2 (gCn (gN 4) (gCn (gN 5) gNl))))
   (qRet (qOp wAdd (qOp wAdd (qSl (qV 1) qNo (J0 (qV 4))) (qV 3)) (qSl (qV 1) (J0 (qOp wAdd (qV 5) (qC (.int 1)))) qNo))))
def IY:pF:=fnP ["meeting","row","k","boats","first","last"] ["meeting","row","k","boats"] MZ
def M_:pS:=(qRet (qL (P0 [none] (qIt (qV 0)) (gN 0) (qB (qOp (wEq 4) (qOp wIx (qV 0) (qC (.int 0))) (qC (.str (B0 "touch"))))) (qV 0))))
def IZ:pF:=fnP ["events"] ["events"] M_
def Na:pS:=(qSeq (qOwn 3 (BQ (qV 0)))
   (qSeq (Fx 3 (qOp wIx (qV 0) (qV 2)) (qOp wIx (qV 0) (qV 1)) (qV 1) (qV 2))
   (qRet (qUn O3 (qO 3)))))
def I_:pF:=fnP ["row","one","other","boats"] ["row","one","other"] Na
def Nb:pS:=(qSeq (qSet 2 (qV 0))
   (qSeq (qFor (qIl (B7 IZ (A2 (qV 1) qNil))) (gN 3) (qSet 2 (B7 I_ (A2 (qV 2) (A2 (Q2 (qV 0) (qOp wIx (qV 3) (qC (.int 1)))) (A2 (Q2 (qV 0) (qOp wIx (qV 3) (qC (.int 2)))) qNil))))))
   (qRet (qV 2))))
def Ja:pF:=fnP ["start","sheet","row","touch"] ["start","sheet"] Nb
def Nc:pS:=(qRet (B7 IY (A2 (qV 0) (A2 (qV 1) (A2 (qV 2) (A2 (B7 Ja (A2 (B7 u7 (A2 (qV 0) (A2 (qV 1) (A2 (qV 2) qNil)))) (A2 (qV 3) qNil))) qNil))))))
def Gd:pF:=fnP ["meeting","row","k","sheet"] ["meeting","row","k","sheet"] Nc
def Nd:pS:=(qSeq (qSet 2 (qOp wIx (qV 0) (qC (.int 0))))
   (qRet (qOp EM (qOp wSub (qOp wAdd (qV 1) (qV 2)) (qC (.int 1))) (qV 2))))
def Jb:pF:=fnP ["meeting","n","size"] ["meeting","n"] Nd
def Nf:pS:=(qSeq (qSet 2 (B7 Ci (A2 (qV 1) qNil)))
   (qSeq (qSet 3 (qL (DI [none,none,some 0] (qIt (qV 1)) (gN 0) (qIt (B7 Ba (A2 (qV 2) (A2 (qV 0) qNil)))) (gN 1) qTru (qV 1))))
   (qSeq (qSet 4 (qL (Ac (qL (P0 [none,some 2] (qIt (qV 0)) (gN 0) (qB (qOp (wIn 4 true) (qV 0) (qV 1))) (qV 0))))))
   (qSeq (qSet 5 (qL (P0 [none,some 3] (qIl (qV 4)) (gN 0) (qB (qOp (wIn 4 false) (qV 0) (qV 1))) (qV 0))))
   (qSeq (qSet 6 (qL (P0 [none,some 3] (qIl (qV 4)) (gN 0) (qB (qOp (wIn 4 true) (qV 0) (qV 1))) (qV 0))))
   (qRet (qTup (A2 (qV 1) (A2 (qUn O3 (qV 5)) (A2 (qUn O3 (qV 6)) qNil))))))))))
def Ge:pF:=fnP ["start","touches","touching","passed","others","drops","free"] ["start","touches"] Nf
def Ng:pS:=(qSeq (qOwn 3 (qLst qNil))
   (qSeq (qSet 4 (qV 1))
   (qSeq (qFor (DH (B7 Jb (A2 (qV 0) (A2 (qUn wLen (qV 1)) qNil)))) (gN 5) (qSeq (qSet 6 (B7 u7 (A2 (qV 0) (A2 (qV 4) (A2 (qV 5) qNil)))))
   (qSeq (qSet 7 (B7 Gc (A2 (qV 0) (A2 (qV 6) (A2 (qV 2) (A2 (qV 5) qNil))))))
   (qSeq (qIfS (Dv (qV 7)) (Du 3 (qRet (qTup (A2 (qV 3) (A2 (qL (P0 [none,some 5] (qIl (qV 7)) (gN 0) qTru (qTup (A2 (qC (.str (B0 "untold"))) (A2 (qV 1) (A2 (qV 0) qNil)))))) qNil))))) qNx)
   (qSeq (qSet 8 (B7 Cj (A2 (qV 6) (A2 (B7 Ch (A2 (qV 0) (A2 (qV 6) (A2 (qV 2) (A2 (qV 5) qNil))))) qNil))))
   (qSeq (L4 (P9 3 (B7 Ge (A2 (qV 6) (A2 (qV 8) qNil)))))
   (qSet 4 (B7 Gd (A2 (qV 0) (A2 (qV 4) (A2 (qV 5) (A2 (qV 8) qNil))))))))))))
   (Du 3 (qRet (qTup (A2 (qV 3) (A2 (qL (qLst qNil)) qNil))))))))
def Jc:pF:=fnP ["meeting","row","other","races","stands","k","start","reasons","touches"] ["meeting","row","other"] Ng
def Nh:pS:=(qSeq (qAsg (B7 Jc (A2 (qV 0) (A2 (qV 1) (A2 (qV 2) qNil)))) (gTp 2 (gCn (gN 3) (gCn (gN 4) gNl))))
   (qSeq (qIfS (Dv (qV 4)) (qRet (qOp wIx (qV 4) (qC (.int 0)))) qNx)
   (qRet (qTup (A2 (qC (.str (B0 "told"))) (A2 (qUn O3 (qUn wRev (qV 3))) qNil))))))
def DP:pF:=fnP ["meeting","row","other","races","untold"] ["meeting","row","other"] Nh
def Ni:pS:=(qSeq (qSet 3 (B7 DP (A2 (qV 0) (A2 (qV 1) (A2 (qV 2) qNil)))))
   (qSeq (qIfS (qB (qOp (wEq 4) (qOp wIx (qV 3) (qC (.int 0))) (qC (.str (B0 "untold"))))) (qRet (qC (.int 0))) qNx)
   (qSeq (qSet 4 (qC (.int 1)))
   (qSeq (qFor (qIt (qOp wIx (qV 3) (qC (.int 1)))) (gN 5) (qFor (qIt (qOp wIx (qV 5) (qC (.int 2)))) (gN 6) (qAug 4 IU (qC (.int 2)))))
   (qRet (qV 4))))))
def Gf:pF:=fnP ["meeting","row","other","told","many","race","boat"] ["meeting","row","other"] Ni
def Nj:pS:=(qSeq (qSet 3 (qOp wIx (qV 0) (qC (.int 0))))
   (qSeq (qSet 4 (qOp wMul (qV 2) (qV 3)))
   (qRet (qTup (A2 (qV 4) (A2 (qIf (qB (qOp wLt (qOp wAdd (qV 4) (qV 3)) (qV 1))) (qOp wAdd (qV 4) (qV 3)) (qOp wSub (qV 1) (qC (.int 1)))) qNil))))))
def Ck:pF:=fnP ["_law_meeting","_law_n","_law_k","_law_size","_law_first"] ["_law_meeting","_law_n","_law_k"] Nj
def Nk:pS:=(qSeq (qAsg (B7 Ck (A2 (qV 0) (A2 (qUn wLen (qV 1)) (A2 (qV 3) qNil)))) (gTp 2 (gCn (gN 4) (gCn (gN 5) gNl))))
   (qSeq (qAsg (qTup (A2 (qSl (qV 1) (J0 (qV 4)) (J0 (qOp wAdd (qV 5) (qC (.int 1))))) (A2 (qSl (qV 2) (J0 (qV 4)) (J0 (qOp wAdd (qV 5) (qC (.int 1))))) qNil))) (gTp 2 (gCn (gN 6) (gCn (gN 7) gNl))))
   (qRet (qTup (A2 (qV 6) (A2 (qV 7) (A2 (qIf (qB (qOp wGt (qV 3) (qC (.int 0)))) (qL (P0 [none,some 6] (qIt (qSl (qV 7) (J0 (qC (.int 1))) qNo)) (gN 0) (qB (qOp (wIn 4 true) (qV 0) (qV 1))) (qV 0))) (qL (qLst qNil))) qNil)))))))
def Ah:pF:=fnP ["_law_meeting","_law_row","_law_other_here","_law_k","_law_first","_law_last","_law_start","_law_there"] ["_law_meeting","_law_row","_law_other_here","_law_k"] Nk
def Nl:pS:=(qSeq (qIfS (qB (qOp (wEq 4) (qV 2) (qC (.int 0)))) (qRet (qV 1)) qNx)
   (qRet (qOp wAdd (qUn O3 (qL (P0 [none,some 1] (qIt (qV 0)) (gN 0) (qB (qOp (wIn 4 true) (qV 0) (qSl (qV 1) (J0 (qC (.int 1))) qNo))) (qV 0)))) (qSl (qV 1) (J0 (qC (.int 1))) qNo))))
def u8:pF:=fnP ["_law_start","_law_there","_law_k"] ["_law_start","_law_there","_law_k"] Nl
def Nm:pS:=(qRet (qOp EM (qOp wSub (qOp wAdd (qV 1) (qOp wIx (qV 0) (qC (.int 0)))) (qC (.int 1))) (qOp wIx (qV 0) (qC (.int 0)))))
def DQ:pF:=fnP ["_law_meeting","_law_n"] ["_law_meeting","_law_n"] Nm
def Nn:pS:=(qSeq (qOwn 2 (qLst qNil))
   (qSeq (qFor (qIl (qV 1)) (gN 3) (L4 (IS 2 (qV 3))))
   (qSeq (qPar 4 5 (sO (qLst qNil)) (sO (qLst qNil)))
   (qSeq (qFor (DC (qV 0)) (gTp 2 (gCn (gN 6) (gCn (gN 7) gNl))) (qIfS (qAnd (qB (qUn wAny (qL (P0 [none,none,some 6] (qIl (qV 1)) (gTp 2 (gCn (gN 0) (gCn (gN 1) gNl))) qTru (y7 wLt wLt (qV 0) (qV 2) (qV 1)))))) (qB (qOp (wIn 4 true) (qV 6) (qO 2)))) (L4 (P9 4 (qV 7))) (qIfS (qB (qOp (wIn 4 true) (qV 6) (qO 2))) (L4 (P9 5 (qV 7))) qNx)))
   (qSeq (qSet 8 (qL (Ac (qL (P0 [none,none,some 0] (qIl (qV 1)) (gTp 2 (gCn (gN 0) (gCn (gN 1) gNl))) qTru (qTup (A2 (qC (.str (B0 "touch"))) (A2 (qOp wIx (qV 2) (qV 1)) (A2 (qOp wIx (qV 2) (qV 0)) qNil)))))))))
   (qRet (qTup (A2 (qUn O3 (qV 8)) (A2 (qUn O3 (qL (Ac (qO 4)))) (A2 (qUn O3 (qL (Ac (qO 5)))) qNil))))))))))
def Gg:pF:=fnP ["_law_start","_law_pairs_here","_law_met","_law_places","_law_drops","_law_free","_law_p","_law_boat","_law_touches"] ["_law_start","_law_pairs_here"] Nn
def No:pS:=(qSeq (qOwn 2 (qLst qNil))
   (qSeq (qFor (DC (qV 0)) (gTp 2 (gCn (gN 3) (gCn (gN 4) gNl))) (qSeq (qSet 5 (Q2 (qV 1) (qV 4)))
   (qSeq (qIfS (qB (qOp (wNe 4) (qOp wIx (qV 0) (qV 5)) (qOp wIx (qV 1) (qV 3)))) (qRet (qC .non)) qNx)
   (qIfS (qB (qOp wLt (qV 3) (qV 5))) (L4 (P9 2 (qTup (A2 (qV 3) (A2 (qV 5) qNil))))) qNx))))
   (BR 2)))
def Cm:pF:=fnP ["_law_start","_law_goal_here","_law_found","_law_p","_law_boat","_law_q"] ["_law_start","_law_goal_here"] No
def Np:pS:=(qRet (qOp (wNe 4) (y7 wLt wLt (qOp wIx (qV 0) (qC (.int 0))) (qOp wIx (qV 1) (qC (.int 0))) (qOp wIx (qV 0) (qC (.int 1)))) (y7 wLt wLt (qOp wIx (qV 0) (qC (.int 0))) (qOp wIx (qV 1) (qC (.int 1))) (qOp wIx (qV 0) (qC (.int 1))))))
def DR:pF:=fnP ["_law_one","_law_other_here"] ["_law_one","_law_other_here"] Np
def Nq:pS:=(qSeq (qFor (qIl (qV 0)) (gN 1) (qIfS (qB (qUn wAny (qL (P0 [none,some 1] (qIl (qV 0)) (gN 0) qTru (B7 DR (A2 (qV 1) (A2 (qV 0) qNil))))))) (qRet (qC (.bl false))) qNx))
   (qRet (qC (.bl true))))
def Gi:pF:=fnP ["_law_pairs_here","_law_one"] ["_law_pairs_here"] Nq
def Nr:pS:=(qSeq (qSet 3 (B7 Cm (A2 (qV 0) (A2 (qV 1) qNil))))
   (qSeq (qIfS (qOr (qB (qOp wIsN (qV 3) (qC .non))) (qB (qUn wAny (qL (P0 [none,none,some 2] (qIl (qV 3)) (gTp 2 (gCn (gN 0) (gCn (gN 1) gNl))) qTru (qOp wGt (qOp wSub (qOp wSub (qV 1) (qV 0)) (qC (.int 1))) (qV 2))))))) (qRet (qC (.bl false))) qNx)
   (qRet (B7 Gi (A2 (qV 3) qNil)))))
def Gj:pF:=fnP ["_law_start","_law_goal_here","_law_reach","_law_pairs_here"] ["_law_start","_law_goal_here","_law_reach"] Nr
def Nt:pS:=(qSeq (qOwn 3 (qLst qNil))
   (qSeq (qFor (DH (B7 DQ (A2 (qV 0) (A2 (qUn wLen (qV 1)) qNil)))) (gN 4) (qSeq (qAsg (B7 Ah (A2 (qV 0) (A2 (qV 1) (A2 (qV 2) (A2 (qV 4) qNil))))) (gTp 3 (gCn (gN 5) (gCn (gN 6) (gCn (gN 7) gNl)))))
   (qSeq (qIfS (qOr (qB (qOp (wNe 4) (qV 7) (qL (qLst qNil)))) (qNot (qB (B7 Gj (A2 (qV 5) (A2 (B7 u8 (A2 (qV 5) (A2 (qV 6) (A2 (qV 4) qNil)))) (A2 (qOp wIx (qV 0) (qC (.int 1))) qNil))))))) (qRet (qV 4)) qNx)
   (qSeq (qSet 8 (B7 u8 (A2 (qV 5) (A2 (qV 6) (A2 (qV 4) qNil)))))
   (qSeq (L4 (DK 3 (qC (.int 0)) (B7 Gg (A2 (qV 5) (A2 (B7 Cm (A2 (qV 5) (A2 (qV 8) qNil))) qNil)))))
   (qSeq (qAsg (B7 Ck (A2 (qV 0) (A2 (qUn wLen (qV 1)) (A2 (qV 4) qNil)))) (gTp 2 (gCn (gN 9) (gCn (gN 10) gNl))))
   (qSet 1 (qOp wAdd (qOp wAdd (qSl (qV 1) qNo (J0 (qV 9))) (qV 8)) (qSl (qV 1) (J0 (qOp wAdd (qV 10) (qC (.int 1)))) qNo)))))))))
   (qRet (qUn O3 (qO 3)))))
def DS:pF:=fnP ["_law_meeting","_law_row","_law_other_here","_law_found","_law_k","_law_start","_law_there","_law_strange","_law_goal_here","_law_first","_law_last"] ["_law_meeting","_law_row","_law_other_here"] Nt
def Nu:pS:=(qSeq (qIfS (qOr (qNot (qB (qUn (wIsi "tuple") (qV 2)))) (qOr (qB (qOp (wNe 4) (qUn wLen (qV 2)) (qC (.int 3)))) (qB (qOp (wNe 4) (qOp wIx (qV 2) (qC (.int 0))) (qC (.str (B0 "touch"))))))) (qRet (qC .non)) qNx)
   (qSeq (qIfS (qOr (qB (qOp (wIn 4 true) (qOp wIx (qV 2) (qC (.int 1))) (qV 0))) (qB (qOp (wIn 4 true) (qOp wIx (qV 2) (qC (.int 2))) (qV 0)))) (qRet (qC .non)) qNx)
   (qSeq (qPar 3 4 (sV (Q2 (qV 0) (qOp wIx (qV 2) (qC (.int 2))))) (sV (Q2 (qV 0) (qOp wIx (qV 2) (qC (.int 1))))))
   (qRet (qIf (qAnd (qB (qOp wLt (qV 3) (qV 4))) (qAnd (qB (qOp (wEq 4) (qOp wIx (qV 1) (qV 3)) (qOp wIx (qV 2) (qC (.int 1))))) (qB (qOp (wEq 4) (qOp wIx (qV 1) (qV 4)) (qOp wIx (qV 2) (qC (.int 2))))))) (qTup (A2 (qV 3) (A2 (qV 4) qNil))) (qC .non))))))
def DT:pF:=fnP ["_law_start","_law_goal_here","_law_thing","_law_p","_law_q"] ["_law_start","_law_goal_here","_law_thing"] Nu
def Nv:pS:=(qSeq (qSet 4 (qL (P0 [none,none,some 0,some 1] (DC (qV 0)) (gTp 2 (gCn (gN 0) (gCn (gN 1) gNl))) (qB (qOp (wNe 4) (qOp wIx (qV 2) (Q2 (qV 3) (qV 1))) (qOp wIx (qV 3) (qV 0)))) (qV 1))))
   (qSeq (qIfS (qB (qOp (wEq 4) (qOp wIx (qV 3) (qC (.int 0))) (qC (.str (B0 "round"))))) (qRet (i9 (qOp (wEq 4) (qUn wLen (qV 3)) (qC (.int 2))) (qOp (wIn 4 false) (qOp wIx (qV 3) (qC (.int 1))) (qV 4)))) qNx)
   (qSeq (qIfS (qOr (qB (qOp (wNe 4) (qV 4) (qL (qLst qNil)))) (qB (qOp (wIn 4 true) (qOp wIx (qV 3) (qC (.int 0))) (qTup (A2 (qC (.str (B0 "far"))) (A2 (qC (.str (B0 "cross"))) qNil)))))) (qRet (qC (.bl false))) qNx)
   (qSeq (qSet 5 (B7 DT (A2 (qV 0) (A2 (qV 1) (A2 (qOp wIx (qV 3) (qC (.int 1))) qNil)))))
   (qSeq (qIfS (qB (qOp (wEq 4) (qOp wIx (qV 3) (qC (.int 0))) (qC (.str (B0 "far"))))) (qRet (i9 (qOp (wEq 4) (qUn wLen (qV 3)) (qC (.int 2))) (i9 (qOp AH (qV 5) (qC .non)) (qOp wGt (qOp wSub (qOp wSub (qOp wIx (qV 5) (qC (.int 1))) (qOp wIx (qV 5) (qC (.int 0)))) (qC (.int 1))) (qV 2))))) qNx)
   (qSeq (qSet 6 (B7 DT (A2 (qV 0) (A2 (qV 1) (A2 (qOp wIx (qV 3) (qC (.int 2))) qNil)))))
   (qRet (i9 (qOp (wEq 4) (qUn wLen (qV 3)) (qC (.int 3))) (i9 (qOp AH (qV 5) (qC .non)) (i9 (qOp AH (qV 6) (qC .non)) (B7 DR (A2 (qV 5) (A2 (qV 6) qNil)))))))))))))
def Gk:pF:=fnP ["_law_start","_law_goal_here","_law_reach","_law_reason","_law_rounds","_law_one","_law_two"] ["_law_start","_law_goal_here","_law_reach","_law_reason"] Nv
def Nw:pS:=(qSeq (qSet 4 (B7 DS (A2 (qV 0) (A2 (qV 1) (A2 (qV 2) qNil)))))
   (qSeq (qIfS (qB (qUn (wIsi "tuple") (qV 4))) (qRet (qOp (wEq 4) (qUn j6 (qV 3)) (qUn j6 (qTup (A2 (qC (.str (B0 "told"))) (A2 (qV 4) qNil)))))) qNx)
   (qSeq (qIfS (qOr (qNot (qB (qUn (wIsi "tuple") (qV 3)))) (qOr (qB (qOp (wNe 4) (qUn wLen (qV 3)) (qC (.int 3)))) (qB (qOp (wNe 4) (qUn j6 (qSl (qV 3) qNo (J0 (qC (.int 2))))) (qUn j6 (qTup (A2 (qC (.str (B0 "untold"))) (A2 (qV 4) qNil)))))))) (qRet (qC (.bl false))) qNx)
   (qSeq (qFor (IT (qOp wAdd (qV 4) (qC (.int 1))) (B7 DQ (A2 (qV 0) (A2 (qUn wLen (qV 1)) qNil)))) (gN 5) (qSeq (qAsg (B7 Ah (A2 (qV 0) (A2 (qV 1) (A2 (qV 2) (A2 (qV 5) qNil))))) (gTp 3 (gCn (gN 6) (gCn (gN 7) (gCn (gN 8) gNl)))))
   (qSeq (qAsg (B7 Ck (A2 (qV 0) (A2 (qUn wLen (qV 1)) (A2 (qV 5) qNil)))) (gTp 2 (gCn (gN 9) (gCn (gN 10) gNl))))
   (qSet 1 (qOp wAdd (qOp wAdd (qSl (qV 1) qNo (J0 (qV 9))) (B7 u8 (A2 (qV 6) (A2 (qV 7) (A2 (qV 5) qNil))))) (qSl (qV 1) (J0 (qOp wAdd (qV 10) (qC (.int 1)))) qNo))))))
   (qSeq (qAsg (B7 Ah (A2 (qV 0) (A2 (qV 1) (A2 (qV 2) (A2 (qV 4) qNil))))) (gTp 3 (gCn (gN 6) (gCn (gN 7) (gCn (gN 8) gNl)))))
   (qSeq (qIfS (qOr (qNot (qB (qUn (wIsi "tuple") (qOp wIx (qV 3) (qC (.int 2)))))) (qNot (qB (y7 wLe wLe (qC (.int 2)) (qUn wLen (qOp wIx (qV 3) (qC (.int 2)))) (qC (.int 3)))))) (qRet (qC (.bl false))) qNx)
   (qSeq (qIfS (qB (qOp (wNe 4) (qV 8) (qL (qLst qNil)))) (qRet (i9 (qOp (wEq 4) (qUn wLen (qOp wIx (qV 3) (qC (.int 2)))) (qC (.int 2))) (i9 (qOp (wEq 4) (qOp wIx (qOp wIx (qV 3) (qC (.int 2))) (qC (.int 0))) (qC (.str (B0 "from")))) (qOp (wIn 4 false) (qOp wIx (qOp wIx (qV 3) (qC (.int 2))) (qC (.int 1))) (qV 8))))) qNx)
   (qRet (B7 Gk (A2 (qV 6) (A2 (B7 u8 (A2 (qV 6) (A2 (qV 7) (A2 (qV 4) qNil)))) (A2 (qOp wIx (qV 0) (qC (.int 1))) (A2 (qOp wIx (qV 3) (qC (.int 2))) qNil)))))))))))))
def Gm:pF:=fnP ["_law_meeting","_law_row","_law_other_here","_law_told_here","_law_due","_law_k","_law_start","_law_there","_law_strange","_law_first","_law_last"] ["_law_meeting","_law_row","_law_other_here","_law_told_here"] Nw
def Nx:pS:=(qSeq (qPar 2 3 (sO (qLst qNil)) (sO (qLst qNil)))
   (qSeq (qFor (qZip false true (qV 0) (qV 1)) (gTp 2 (gCn (gN 4) (gCn (gN 5) gNl))) (qIfS (qB (qOp (wEq 4) (qV 5) (qC (.str (B0 "t"))))) (L4 (P9 2 (qV 4))) (qIfS (qB (qOp (wEq 4) (qV 5) (qC (.str (B0 "u"))))) (L4 (P9 3 (qTup (A2 (qC (.str (B0 "touch"))) (A2 (qV 4) (A2 (qPop 2) qNil)))))) (qIfS (qB (qOp (wEq 4) (qV 5) (qC (.str (B0 "d"))))) (L4 (P9 3 (qTup (A2 (qC (.str (B0 "drop"))) (A2 (qV 4) qNil))))) qNx))))
   (qRet (qUn O3 (qL (Ac (qO 3)))))))
def Jd:pF:=fnP ["_law_start","_law_marks","_law_pile","_law_events","_law_boat","_law_mark"] ["_law_start","_law_marks"] Nx
def Ny:pS:=(qSeq (qPar 3 4 (sO (qLst qNil)) (sO (qLst qNil)))
   (qSeq (qFor (AK (qV 1)) (gN 5) (qSeq (E_ (qAnd (qB (qOpR (wNe 4) (qO 4) (qL (qLst qNil)))) (qB (qOp wGt (qOp wSub (qOp wSub (qV 5) (qOpR wIx (qO 4) (qUn wNeg (qC (.int 1))))) (qC (.int 1))) (qV 2)))) (qPut 3 (qC (.str (B0 "d"))) (qPop 4)))
   (qSeq (qSet 6 (B7 M6 (A2 (qV 0) (A2 (qC (.int 5)) qNil))))
   (qIfS (qAnd (qB (qOpR (wNe 4) (qO 4) (qL (qLst qNil)))) (qB (qOp wLt (qV 6) (qC (.int 2))))) (qSeq (qPut 3 (qC (.str (B0 "t"))) (qPop 4))
   (L4 (P9 3 (qC (.str (B0 "u")))))) (qIfS (qOr (qB (qOp (wEq 4) (qV 6) (qC (.int 2)))) (qB (qOp (wEq 4) (qV 6) (qC (.int 3))))) (qSeq (L4 (P9 4 (qV 5)))
   (L4 (P9 3 (qC (.str (B0 "d")))))) (L4 (P9 3 (qIf (qB (qOpR (wNe 4) (qO 4) (qL (qLst qNil)))) (qC (.str (B0 "d"))) (qOp wIx (qL (qLst (A2 (qC (.str (B0 "o"))) (A2 (qC (.str (B0 "o"))) (A2 (qC (.str (B0 "d"))) qNil))))) (B7 M6 (A2 (qV 0) (A2 (qC (.int 3)) qNil))))))))))))
   (BR 3)))
def Je:pF:=fnP ["_law_draws","_law_many","_law_reach","_law_marks","_law_pile","_law_k","_law_way"] ["_law_draws","_law_many","_law_reach"] Ny
def Nz:pS:=(qSeq (qOwn 2 (BQ (qV 0)))
   (qSeq (qFor (qIt (qV 1)) (gN 3) (qIfS (qB (qOp (wEq 4) (qOp wIx (qV 3) (qC (.int 0))) (qC (.str (B0 "touch"))))) (qSeq (qPut 2 (qOp wIx (qV 3) (qC (.int 2))) (Q2 (qV 0) (qOp wIx (qV 3) (qC (.int 1)))))
   (qPut 2 (qOp wIx (qV 3) (qC (.int 1))) (Q2 (qV 0) (qOp wIx (qV 3) (qC (.int 2)))))) qNx))
   (qRet (qUn O3 (qO 2)))))
def Jf:pF:=fnP ["_law_start","_law_sheet_here","_law_found","_law_event"] ["_law_start","_law_sheet_here"] Nz
def NA:pS:=(qSeq (qPar 3 4 (sO (qLst qNil)) (sO (qLst qNil)))
   (qSeq (qFor (DH (B7 DQ (A2 (qV 1) (A2 (qUn wLen (qV 2)) qNil)))) (gN 5) (qSeq (qAsg (B7 Ck (A2 (qV 1) (A2 (qUn wLen (qV 2)) (A2 (qV 5) qNil)))) (gTp 2 (gCn (gN 6) (gCn (gN 7) gNl))))
   (qSeq (qSet 8 (qSl (qV 2) (J0 (qV 6)) (J0 (qOp wAdd (qV 7) (qC (.int 1))))))
   (qSeq (qSet 9 (B7 Jd (A2 (qV 8) (A2 (B7 Je (A2 (qV 0) (A2 (qUn wLen (qV 8)) (A2 (qOp wIx (qV 1) (qC (.int 1))) qNil)))) qNil))))
   (qSeq (qSet 2 (qOp wAdd (qOp wAdd (qSl (qV 2) qNo (J0 (qV 6))) (B7 Jf (A2 (qV 8) (A2 (qV 9) qNil)))) (qSl (qV 2) (J0 (qOp wAdd (qV 7) (qC (.int 1)))) qNo)))
   (qSeq (L4 (DK 3 (qC (.int 0)) (qV 9)))
   (L4 (DK 4 (qC (.int 0)) (qV 8)))))))))
   (qRet (qTup (A2 (qUn O3 (qO 3)) (A2 (qUn O3 (qO 4)) (A2 (qV 2) qNil)))))))
def Gn:pF:=fnP ["_law_draws","_law_meeting","_law_row","_law_sheets","_law_starts","_law_k","_law_first","_law_last","_law_start","_law_sheet_here"] ["_law_draws","_law_meeting","_law_row"] NA
def NB:pS:=(qSeq (qSet 3 (B7 M6 (A2 (qV 0) (A2 (qC (.int 6)) qNil))))
   (qSeq (qAsg (B7 Gn (A2 (qV 0) (A2 (qV 1) (A2 (qV 2) qNil)))) (gTp 3 (gCn (gN 4) (gCn (gN 5) (gCn (gN 6) gNl)))))
   (qSeq (qIfS (qB (qOp (wEq 4) (qV 3) (qC (.int 0)))) (qSeq (qPar 7 8 (sO (BQ (qV 2))) (sO (qLst qNil)))
   (qSeq (E_ (qB (qOpR (wNe 4) (qO 7) (qL (qLst qNil)))) (L4 (P9 8 (HP 7 (B7 M6 (A2 (qV 0) (A2 (qUn wLen (qO 7)) qNil)))))))
   (qRet (qUn O3 (qO 8))))) qNx)
   (qSeq (qOwn 8 (BQ (qV 6)))
   (qSeq (qFor (AK (qOp wIx (qL (qLst (A2 (qC (.int 0)) (A2 (qC (.int 0)) (A2 (qC (.int 1)) (A2 (qC (.int 1)) (A2 (qC (.int 2)) (A2 (qC (.int 3)) qNil)))))))) (qV 3))) (gN 9) (qSeq (qSet 10 (B7 M6 (A2 (qV 0) (A2 (qUn wLen (qO 8)) qNil))))
   (qSeq (qSet 11 (qOp wIx (qL (qLst (A2 (qOp wMin (qOp wAdd (qOp wAdd (qV 10) (qC (.int 1))) (B7 M6 (A2 (qV 0) (A2 (qC (.int 3)) qNil)))) (qOp wSub (qUn wLen (qO 8)) (qC (.int 1)))) (A2 (B7 M6 (A2 (qV 0) (A2 (qUn wLen (qO 8)) qNil))) qNil)))) (B7 M6 (A2 (qV 0) (A2 (qC (.int 2)) qNil)))))
   (Fx 8 (qOpR wIx (qO 8) (qV 11)) (qOpR wIx (qO 8) (qV 10)) (qV 10) (qV 11)))))
   (qRet (qUn O3 (qO 8))))))))
def Go:pF:=fnP ["_law_draws","_law_meeting","_law_row","_law_way","_law_day_here","_law_starts","_law_found","_law_left","_law_some","_law_turn","_law_one","_law_two"] ["_law_draws","_law_meeting","_law_row"] NB
def Jg:pS:=(qSeq (Iz 1 (qV 0))
   (qSeq (qOwn 2 (qLst qNil))
   (qSeq (qFor (AK (qC (.int 4))) (gN 3) (qSeq (qAsg (B7 IW (A2 (qV 1) (A2 (qC (.int 24)) qNil))) (gTp 2 (gCn (gN 4) (gCn (gN 5) gNl))))
   (L4 (P9 2 (qTup (A2 (qV 4) (A2 (qV 5) (A2 (B7 Go (A2 (qV 1) (A2 (qV 4) (A2 (qV 5) qNil)))) qNil))))))))
   (qSeq (qSet 6 (qUn j6 (qO 2)))
   (qSeq (Du 2 (qFor (qIl (qV 2)) (gTp 3 (gCn (gN 4) (gCn (gN 5) (gCn (gN 7) gNl)))) (qSeq (qIfS (qNot (qB (B7 Gm (A2 (qV 4) (A2 (qV 5) (A2 (qV 7) (A2 (B7 DP (A2 (qV 4) (A2 (qV 5) (A2 (qV 7) qNil)))) qNil))))))) (qRet (qC (.bl false))) qNx)
   (qSeq (qSet 8 (B7 Gf (A2 (qV 4) (A2 (qV 5) (A2 (qV 7) qNil)))))
   (qSeq (qIfS (qOr (qB (qUn (wIsi "bool") (qV 8))) (qNot (qB (qUn (wIsi "int") (qV 8))))) (qRet (qC (.bl false))) qNx)
   (qIfS (qB (qOp (wEq 4) (qOp (wEq 4) (qV 8) (qC (.int 0))) (qUn (wIsi "tuple") (B7 DS (A2 (qV 4) (A2 (qV 5) (A2 (qV 7) qNil))))))) (qRet (qC (.bl false))) qNx))))))
   (qRet (qOp (wEq 4) (qUn j6 (qV 2)) (qV 6))))))))
end Tb
end
section
namespace Tb
open PySem L2 Pu
def top (i:Nat):Stmt:=PySem.Challenge.pw_touchboats_k26_rows_that_no_day_makes.main.body.getD i (.Pass ⟨0,0,0,0⟩)
end Tb
end
section
namespace Tb
open PySem L2 Pu
theorem DU (a b:Int):eqP (.int a) (.int b)=decide (a=b):=by
 show(a == b)=_;rw[CM]
theorem Bb (a b:Str):eqP (.str a) (.str b)=decide (a=b):=by
 show(a == b)=_;rw[CM]
theorem NC (a b:Bool):eqP (.bl a) (.bl b)=decide (a=b):=by
 show(a == b)=_;rw[CM]
set_option compiler.extract_closed false in
set_option hygiene false in
local macro_rules | `(tactic| walk_at "pd")=>`(tactic| dsimp only [dreduceIte,true_and,and_true,L3,beq_self_eq_true,Nat.reduceLeDiff,Nat.reduceLT,Int.reduceLT,Int.reduceLE,K3,DU,Bb,NC,qSeq,qNx,qSet,qOwn,qAsg,L4,qRet,BR,qIfS,qPar,sV,sO,qPut,gAt,Du,Fa,qV,qO,qC,qOp,qOpR,qUn,wI,wI0,wAdd,wSub,wMul,EM,wMod,wEq,wNe,wLt,wLe,wGt,wIsN,AH,qB,y7,qAnd,qOr,qNot,i9,qIf,qNil,A2,qTup,qLst,qL,wIx,qNo,J0,qSl,wSl,wLen,wAll,wAny,O3,BQ,wIsi,wMin,B7,gN,gNl,gCn,gTp,qIl,qIt,AK,capV,capS,qTru,P0,Dv,wNeg,P9,HH,qPop,HP,HJ,z0,tyP,isT,List.map,List.set,E8,List.length_nil,GD,Cw,l5,w8,List.replicate,Nat.reduceSub,Nat.reduceAdd,Option.bind,l7,Bool.not_false,Bool.true_or,Bool.false_or,Ax,Bool.true_and,CN,String.reduceBEq,cmpb,y4,eqP_ll,eqP_tt,QY,QZ,decide_true,decide_false,AQ,Fb,IS,wRev,H_,qAug,DC,qZip,qFor,Ac,Ab,DH,DK,Q2,Fx,Iz,M6,at2_0,at2_1,at3_0,at3_1,at3_2,grd_t,IR,wSet,gTl,DI,qOrT,IU,IT,DO,E_])
set_option hygiene false in
local macro_rules | `(tactic| walk_at "pu")=>`(tactic| (try walk_at "pd") <;> (try simp only [DU,Bb,NC,decide_true,decide_false,true_and,and_true,reduceIte,Nat.reduceLeDiff,Nat.reduceLT,Int.reduceLT,Int.reduceLE,K3,beq_self_eq_true,L3]))
theorem Uw (h0:1<=many)(h1:many<=24)(hn:n<=999900000)(h:∀zs n',(zs.length:Int)=many->RowS zs->n'<=n + 100->R (rowP zs) n'):IV [.pot q,.int many] n R:=by
 refine⟨rfl,?_⟩;unfold MI;have ll:LETS.length<=1000000:=by rw[Ls];decide
 have lc:∀c:Nat,(⟨#[c]⟩:Str).length=1:=λ_=>rfl;walk_at "pu";refine⟨by omega,λd d0 d1=>?_⟩;obtain⟨tv,htv,etv⟩:=AR (xs:=[PV.int 1,PV.int 3,PV.int 5,PV.int 7,PV.int 9,PV.int 11,PV.int 15,PV.int 17,PV.int 19,PV.int 21]) d0 (by simpa using d1)
 obtain⟨t,rfl,ht⟩:∃t:Int,tv=.int t/\t∈AX:=by
  simp only[C5,L9,or_false] at htv;rcases htv with rfl|rfl|rfl|rfl|rfl|rfl|rfl|rfl|rfl|rfl <;> exact⟨_,rfl,by decide⟩
 have t30:=SO ht;rw[etv];dsimp only;refine⟨by omega,λfi f0 f1=>?_⟩;refine Q1 (λi env m=>∃z s6,env=[some (.v (.pot q)),some (.v (.int many)),some (.v (.str LETS)),some (.v (.str z)),some (.v (.int t)),some (.v (.int fi)),s6,none,none,none,none,none]/\LsE i z/\m<=n+2+i) _ 0 _ _ ⟨B0 "",none,rfl,⟨rfl,(λc hc=>by rw[show(B0 "").cps.toList=[] from rfl] at hc;cases hc)⟩,by omega⟩ (λi x env m N ex hI hN=>?_) (λenv m hI=>?_)
 ·obtain⟨z,s6,rfl,hz,hm⟩:=hI;obtain⟨hi,rfl⟩:=Dw ex;rw[J3] at hz hm hN;have hi7:i<7:=hi;walk_at "pu";refine⟨by omega,λu u0 u1=>⟨ll,?_⟩⟩;rw[Lu u0 u1];dsimp only;have zl:z.length=i:=by rw[AF];exact hz.1
  refine⟨by rw[zl,lc];omega,?_⟩;exact hN _ _ ⟨_,_,rfl,hz.more ⟨by omega,by omega⟩,by omega⟩
 ·obtain⟨z,s6,rfl,hz,hm⟩:=hI;rw[Fc,J3] at hz hm;have hz7:LsE 7 z:=hz
  have hm7:m<=n+9:=by
   have:(7:Int).toNat=7:=rfl;omega
  have zl:z.length=7:=by rw[AF];exact hz7.1
  walk_at "pu";refine⟨by omega,λat_ a0 a1=>?_⟩;obtain⟨a,rfl⟩:=Et a0;refine⟨⟨by omega,by omega⟩,?_⟩;refine Q1 (λi env m'=>∃zs s6 s9 s10,env=[some (.v (.pot q)),some (.v (.int many)),some (.v (.str LETS)),some (.v (.str z)),some (.v (.int t)),some (.v (.int fi)),s6,some (.v (.int (a:Int))),some (.own (zs.map PV.str)),s9,s10,none]/\NmA fi t a zs i/\m'<=n+10+i) _ 0 _ _ ⟨[],_,_,_,rfl,⟨rfl,List.nodup_nil,(λj z e=>by simp at e),(λ_ z=>nomatch z)⟩,by omega⟩ (λi x env m' N ex hI hN=>?_) (λenv m' hI=>?_)
  ·obtain⟨zs,s6,s9,s10,rfl,hs,hm'⟩:=hI;obtain⟨hi,rfl⟩:=Dw ex;rw[J3] at hs hm' hN;have sl:=hs.len;walk_at "pu";refine⟨⟨by omega,by omega,by omega⟩,λu u0 u1=>?_⟩;obtain⟨b,rfl⟩:=Et u0;have em:fi+t*(0+(i:Int))=fi+(i:Int)*t:=by rw[Int.zero_add,Int.mul_comm]
   rw[em,lt_at];dsimp only;have eab:(a:Int)+(b:Int)=((a+b:Nat):Int):=by omega
   rw[eab];have cl:=SS hz7 (show a<=a+b by omega) (show a+b<=7 by omega) (lt_ltr (f:=fi) (t:=t) (k:=i));have k1:=BA z none (some (a:Int));have k2:=BA z (some (a:Int)) (some ((a+b:Nat):Int));have k3:(W0 z none (some (a:Int))++⟨#[lt fi t i]⟩).length=(W0 z none (some (a:Int))).length+1:=by rw[AF,Di,E6,<- AF];rfl
   refine⟨.inl ⟨by omega,by omega⟩,ll,⟨_,rfl⟩,by omega,by rw[lc];omega,by omega,by omega,by rw[B4];omega,?_⟩;refine hN _ _ ⟨zs++[_],_,_,_,by rw[N8];rfl,hs.more ht f0 (by omega) cl.1 cl.2,by omega⟩
  ·obtain⟨zs,s6,s9,s10,rfl,hs,hm'⟩:=hI;rw[Fc,J3] at hs hm';have sl:=hs.len;generalize hZ:zs.map PV.str=Z;have Zl:Z.length=zs.length:=by rw[<- hZ,B4]
   walk_at "pu";refine⟨by omega,λe e0 e1=>?_⟩;obtain⟨x,hx,ex⟩:=AR (xs:=[PV.str (B0 "drop"),PV.str (B0 "touch"),PV.str (B0 "none"),PV.str (B0 "d"),PV.str (B0 "u"),PV.str (B0 "t"),PV.str (B0 "o")]) e0 (by simpa using e1);rw[ex]
   obtain⟨y,rfl,by_⟩:∃z,x=.str z/\b7 z:=by
    simp only[C5,L9,or_false] at hx;rcases hx with rfl|rfl|rfl|rfl|rfl|rfl|rfl <;> exact⟨_,rfl,by decide,by decide,by unfold Ltr;decide⟩
   dsimp only;have fin:∀m2,m2<=n+100->R (.tup Z) m2:=λm2 h2=>by rw[<- hZ];exact h zs m2 (by omega) ⟨hs.nd,hs.bt⟩ h2
   refine IB hZ ?_
   by_cases c:y∈zs
   ·exact if_f (by simp[c]) (fin _ (by omega))
   ·refine if_t (by simp[c]) ⟨by omega,λd2 d20 d21=>?_⟩
    by_cases c2:d2=0
    ·refine if_t (jp c2) ⟨⟨_,rfl⟩,⟨by omega,by omega,by omega⟩,λj j0 j1=>?_⟩;rw[Z6 j0 (by omega)];dsimp only;have es:Z.set j.toNat (.str y)=(zs.set j.toNat y).map PV.str:=by rw[<- hZ,Bk]
     rw[es];refine h _ _ (by rw[M1];omega) ⟨?_,λw hw=>?_⟩ (by omega)
     ·exact RI hs.nd c j.toNat
     ·rcases List.mem_or_eq_of_mem_set hw with hw|hw
      ·exact hs.bt w hw
      ·rw[hw];exact by_
    ·exact if_f (jq c2) (fin _ (by omega))
abbrev pin (p:Nat):PV:=.int (p:Int)
theorem ND (ms:List Mk)(p:Nat)(m:Mk):(ms.map mkP).set p (mkP m)=(ms.set p m).map mkP:=(Bk).symm
theorem Ux:atI ((p::ps).reverse.map pin) (-1)=some (pin p):=by
 rw[k7,N8];exact PN (ps.reverse.map pin) (pin p)
theorem NE:((p::ps).reverse.map pin)[((p::ps).reverse.map pin).length-1]?=some (pin p)/\((p::ps).reverse.map pin).dropLast=ps.reverse.map pin:=by
 rw[k7,N8];refine⟨?_,by simp⟩;rw[V4 (by simp)];simp
abbrev wEnv (q:Nat)(many r:Int)(ms:List Mk)(ps:List Nat)(s5 s6:Option Pu.Slot):Pu.Env:=[some (.v (.pot q)),some (.v (.int many)),some (.v (.int r)),some (.own (ms.map mkP)),some (.own (ps.reverse.map pin)),s5,s6]
theorem NF {i m:Nat}:∀(ps:List Nat),Seg r ps ms->(∀ps',Seg r ps' ms->(∀p ps'',ps'=p::ps''->(i:Int)-p-1<=r)->D.nx (wEnv q many r ms ps' (some (.v (.int (i:Int)))) s6) m)->
   Y0 (qAnd (qB (qOpR (wNe 4) (qO 4) (qL (qLst qNil)))) (qB (qOp wGt (qOp wSub (qOp wSub (qV 5) (qOpR wIx (qO 4) (qUn wNeg (qC (.int 1))))) (qC (.int 1))) (qV 2)))) (qPut 3 (qC (.str (B0 "d"))) (qPop 4)) D (ps.length+1) (wEnv q many r ms ps (some (.v (.int (i:Int)))) s6) m
 | [], hs, h => by
  unfold Y0 wEnv;walk_at "pu";exact h [] hs (λ_ _ e=>nomatch e)
 | p :: ps, hs, h => by
  have tp:=Ux (p:=p) (ps:=ps);have pp:=NE (p:=p) (ps:=ps)
  have pa:((p::ps).reverse.map pin).all (cmpb 3)=true:=by
   have e:(p::ps).reverse.map pin=((p::ps).reverse.map λp=>((p:Nat):Int)).map PV.int:=by rw[U2];rfl
   rw[e];exact LW _ 3
  have pe:eqPs ((p::ps).reverse.map pin) []=false:=by
   cases hh:(p::ps).reverse.map pin with
   |nil=>simp at hh
   |cons a l=>rfl
  have base:=λc=>h (p::ps) hs c;obtain⟨hlt,hset,hs'⟩:=hs.popd;have rec_:=NF (q:=q) (many:=many) (i:=i) (m:=m) (s6:=s6) (D:=D) ps hs' h;show Y0 _ _ _ (ps.length+1+1) _ _;unfold wEnv at *;generalize (p::ps).reverse.map pin=PL at *;generalize hM:ms.map mkP=ML at *;have ml:ML.length=ms.length:=by rw[<- hM,B4]
  have mset:ML.set p (.str (B0 "d"))=ML:=by rw[<- hM];exact(ND ms p .d).trans (by rw[hset])
  unfold Y0;walk_at "pu";refine gd2 pa rfl (if_t (by rw[pe];rfl) ?_);rw[tp];dsimp only
  by_cases c:r<(i:Int)-p-1
  ·refine if_t (jp c) ⟨⟨_,rfl⟩,?_⟩;rw[pp.1];dsimp only;rw[Z6 (by omega) (by omega)];dsimp only;rw[V9,mset,pp.2];exact rec_
  ·exact if_f (jq c) (base λp' ps'' e=>by cases e;omega)
theorem m_word {q n many:Nat}(h24:many<=24)(hn:n<=999900000)(h:∀ms n',ms.length=many->run r 0 [] ms=some []->n'<=n+50->R (.lst (ms.map mkP)) n'):Je [.pot q,.int (many:Int),.int r] n R:=by
 refine⟨rfl,?_⟩;unfold Ny;walk_at "pu";refine⟨⟨by omega,by omega⟩,?_⟩;rw[V9];refine Q1 (λi env m=>∃ms ps s5 s6,env=wEnv q many r ms ps s5 s6/\Seg r ps ms/\ms.length=i/\m<=n+2*i) _ 0 _ _ ⟨[],[],none,none,rfl,rfl,rfl,by omega⟩ (λi x env m N ex hI hN=>?_) (λenv m hI=>?_)
 ·obtain⟨ms,ps,s5,s6,rfl,hs,hl,hm⟩:=hI;obtain⟨hi,rfl⟩:=Dw ex;rw[J3] at hl hm hN;have ei:(0:Int)+(i:Int)=(i:Int):=by omega
  rw[ei];have w:=λD=>NF (q:=q) (many:=(many:Int)) (r:=r) (i:=i) (m:=m) (s6:=s6) (ms:=ms) (D:=D) ps hs;unfold wEnv at w ⊢;walk_at "pu";refine⟨ps.length+1,w _ λps' hs' top=>?_⟩;clear w hs;generalize hP:ps'.reverse.map pin=PL;generalize hM:ms.map mkP=ML;have ml:ML.length=ms.length:=by rw[<- hM,B4]
  walk_at "pu";refine⟨by omega,λw w0 w1=>?_⟩
  have pl:PL.length<=24:=by
   rw[<- hP,B4,At];have:=hs'.len;omega
  have pa:PL.all (cmpb 3)=true:=by
   have e:ps'.reverse.map pin=(ps'.reverse.map λp=>((p:Nat):Int)).map PV.int:=by rw[U2];rfl
   rw[<- hP,e];exact LW _ 3
  have em:∀k:Pu.Mk,ML++[mkP k]=(ms++[k]).map mkP:=λk=>by rw[N8,hM];rfl
  have emd:ML++[PV.str (B0 "d")]=(ms++[Pu.Mk.d]).map mkP:=em Pu.Mk.d;have emo:ML++[PV.str (B0 "o")]=(ms++[Pu.Mk.o]).map mkP:=em Pu.Mk.o
  have push:∀s5 s6 m',m'<=m+2->N [some (.v (.pot q)),some (.v (.int (many:Int))),some (.v (.int r)),some (.own (ML++[PV.str (B0 "d")])),some (.own (PL++[PV.int (i:Int)])),s5,s6] m':=λs5 s6 m' hm'=>by
   have e2:PL++[PV.int (i:Int)]=(ms.length::ps').reverse.map pin:=by rw[k7,N8,hP,hl];rfl
   rw[emd,e2];exact hN _ _ ⟨_,_,_,_,rfl,hs'.push,by rw[E6,hl];rfl,by omega⟩
  have stay:∀s5 s6 m',m'<=m+2->N [some (.v (.pot q)),some (.v (.int (many:Int))),some (.v (.int r)),some (.own (ML++[PV.str (B0 "d")])),some (.own PL),s5,s6] m':=λs5 s6 m' hm'=>by
   rw[emd,<- hP];exact hN _ _ ⟨_,_,_,_,rfl,hs'.drop,by rw[E6,hl];rfl,by omega⟩
  refine gd2 pa rfl ?_;cases ps' with
  | nil =>
   have eP:PL=[]:=by rw[<- hP];rfl
   refine if_f (by rw[eP];rfl) ?_
   by_cases c2:w=2
   ·exact if_t (jp c2) ⟨⟨_,rfl⟩,by omega,⟨_,rfl⟩,by omega,push _ _ _ (by omega)⟩
   refine if_f (jq c2) ?_
   by_cases c3:w=3
   ·exact if_t (jp c3) ⟨⟨_,rfl⟩,by omega,⟨_,rfl⟩,by omega,push _ _ _ (by omega)⟩
   refine if_f (jq c3) ⟨⟨_,rfl⟩,gd2 pa rfl (if_f (by rw[eP];rfl) ⟨by omega,λd d0 d1=>?_⟩)⟩;obtain⟨z,hz,ez⟩:=AR (xs:=[PV.str (B0 "o"),PV.str (B0 "o"),PV.str (B0 "d")]) d0 (by simpa using d1);rw[ez];dsimp only;refine⟨by omega,?_⟩
   have hz':z=PV.str (B0 "o")\/z=PV.str (B0 "d"):=by
    simp only[C5,L9,or_false] at hz;rcases hz with h|h|h
    ·exact .inl h
    ·exact .inl h
    ·exact .inr h
   rcases hz' with rfl|rfl
   ·rw[emo,<- hP];exact hN _ _ ⟨_,_,_,_,rfl,hs'.over,by rw[E6,hl];rfl,by omega⟩
   ·exact stay _ _ _ (by omega)
  | cons p ps' =>
   have pe:eqPs PL []=false:=by
    rw[<- hP];cases hh:(p::ps').reverse.map pin with
    |nil=>simp at hh
    |cons a l=>rfl
   refine if_t (by rw[pe];rfl) ?_
   by_cases c1:w<2
   ·refine if_t (jp c1) ⟨⟨_,rfl⟩,?_⟩;obtain⟨pp1,pp2⟩:=NE (p:=p) (ps:=ps');rw[hP] at pp1 pp2;rw[pp1];dsimp only;obtain⟨hlt,hs2⟩:=hs'.popt (by rw[hl];exact top p ps' rfl);rw[Z6 (by omega) (by omega)];dsimp only;rw[V9,pp2]
    have e3:ML.set p (PV.str (B0 "t"))++[PV.str (B0 "u")]=(ms.set p Pu.Mk.t++[Pu.Mk.u]).map mkP:=by
     rw[N8,<- ND,hM];rfl
    rw[e3];refine⟨⟨_,rfl⟩,by rw[M1];omega,?_⟩;exact hN _ _ ⟨_,_,_,_,rfl,hs2,by rw[E6,M1,hl];rfl,by omega⟩
   refine if_f (jq c1) ?_
   by_cases c2:w=2
   ·exact if_t (jp c2) ⟨⟨_,rfl⟩,by omega,⟨_,rfl⟩,by omega,push _ _ _ (by omega)⟩
   refine if_f (jq c2) ?_
   by_cases c3:w=3
   ·exact if_t (jp c3) ⟨⟨_,rfl⟩,by omega,⟨_,rfl⟩,by omega,push _ _ _ (by omega)⟩
   exact if_f (jq c3) ⟨⟨_,rfl⟩,gd2 pa rfl (if_t (by rw[pe];rfl) ⟨by omega,stay _ _ _ (by omega)⟩)⟩
 ·obtain⟨ms,ps,s5,s6,rfl,hs,hl,hm⟩:=hI;rw[J3,Fc] at hl hm;have:=h ms m (by simpa using hl) hs.wrd (by omega);unfold wEnv;generalize hM:ms.map mkP=ML at *;walk_at "pu";exact this
theorem Uy (hk:k<zs.length)(m:Pu.Mk)(ms:List Pu.Mk):zipP ((zs.drop k).map PV.str) ((m::ms).map mkP)=.tup [.str (nm zs k),mkP m]::zipP ((zs.drop (k+1)).map PV.str) (ms.map mkP):=by
 have e:zs.drop k=nm zs k::zs.drop (k+1):=by
  rw[Bh hk];have:=Y1 hk;rw[D9 hk] at this;rw[M9 this]
 rw[e];rfl
abbrev pst (zs:List Str)(st:List Nat):List PV:=st.reverse.map λp=>PV.str (nm zs p)
theorem Uz:(pst zs (p::ps))[(pst zs (p::ps)).length-1]?=some (.str (nm zs p))/\(pst zs (p::ps)).dropLast=pst zs ps:=by
 unfold pst;rw[k7,N8];refine⟨?_,by simp⟩;rw[V4 (by simp)];simp
theorem NG:∀(ms:List Pu.Mk) (k:Nat) (st:List Nat) (jl:List Ev) (s4 s5:Option Pu.Slot),run r k st ms=some []->k+ms.length=zs.length->jl.length<=k->st.length<=k->zs.length<=24->
   (∀s4 s5 pl,D.nx [some (.v (rowP zs)),some (.v X),some (.own pl),some (.own ((jl++(shE k st ms).map (evOf zs)).map evP)),s4,s5] n)->
   forL (gTp 2 (gCn (gN 4) (gCn (gN 5) gNl))) (qIfS (qB (qOp (wEq 4) (qV 5) (qC (.str (B0 "t"))))) (L4 (P9 2 (qV 4))) (qIfS (qB (qOp (wEq 4) (qV 5) (qC (.str (B0 "u"))))) (L4 (P9 3 (qTup (A2 (qC (.str (B0 "touch"))) (A2 (qV 4) (A2 (qPop 2) qNil)))))) (qIfS (qB (qOp (wEq 4) (qV 5) (qC (.str (B0 "d"))))) (L4 (P9 3 (qTup (A2 (qC (.str (B0 "drop"))) (A2 (qV 4) qNil))))) qNx))) D
     (zipP ((zs.drop k).map PV.str) (ms.map mkP)) [some (.v (rowP zs)),some (.v X),some (.own (pst zs st)),some (.own (jl.map evP)),s4,s5] n
 | [], k, st, jl, s4, s5, hr, hk, _, _, _, h => by
  have:zipP ((zs.drop k).map PV.str) ([]:List PV)=[]:=by unfold zipP;simp
  rw[w9,this];have:=h s4 s5 (pst zs st);simp only[shE,w9,X3] at this;exact this
 | m :: ms, k, st, jl, s4, s5, hr, hk, ha, hs, h24, h => by
  rw[E8] at hk;rw[Uy (by omega)];have go:=NG (zs:=zs) (r:=r) (n:=n) (D:=D) (X:=X) ms (k+1);have pl:(pst zs st).length<=24:=by unfold pst;rw[B4,At];omega
  have al:(jl.map evP).length<=24:=by rw[B4];omega
  have e1:∀e:Ev,jl.map evP++[evP e]=(jl++[e]).map evP:=λe=>by rw[N8];rfl
  unfold rowP at *;generalize hZ:zs.map PV.str=Z at *;generalize hA:jl.map evP=AL at *;unfold forL;have nt:∀z,(decide (mkS m=z))=decide (mkS m=z):=λ_=>rfl;cases m with
  | t =>
   have h':=go (k::st) jl (some (.v (.str (nm zs k)))) (some (.v (mkP .t))) hr (by omega) (by omega) (by rw[E8];omega) h24 h;have e2:pst zs st++[.str (nm zs k)]=pst zs (k::st):=by unfold pst;rw[k7,N8];rfl
   rw[hA,<- e2] at h';generalize pst zs st=PS at *;rw[show mkP .t=.str (mkS .t) from rfl] at *;walk_at "pu";refine(if_t (by rw[mk_t];rfl) ⟨⟨_,rfl⟩,by omega,h'⟩)
  | o =>
   cases st with
   |cons p st=>cases hr
   | nil =>
    have h':=go [] jl (some (.v (.str (nm zs k)))) (some (.v (mkP .o))) hr (by omega) (by omega) (by simp) h24 h;rw[hA] at h';generalize pst zs []=PS at *;rw[show mkP .o=.str (mkS .o) from rfl] at *;walk_at "pu";refine(if_f (by rw[mk_t];rfl) ((if_f (by rw[mk_u];rfl) ((if_f (by rw[mk_d];rfl) h')))))
  | d =>
   have h':=go st (jl++[.d (nm zs k)]) (some (.v (.str (nm zs k)))) (some (.v (mkP .d))) hr (by omega) (by rw[E6,e7];omega) (by omega) h24 (by
    intro s4 s5 pl;have:=h s4 s5 pl;rw[V6]
    exact this)
   rw[<- e1] at h';generalize pst zs st=PS at *;rw[show mkP .d=.str (mkS .d) from rfl] at *;walk_at "pu";refine(if_f (by rw[mk_t];rfl) ((if_f (by rw[mk_u];rfl) ((if_t (by rw[mk_d];rfl) ⟨⟨_,rfl⟩,by omega,h'⟩)))))
  | u =>
   cases st with
   |nil=>cases hr
   | cons p st =>
    have hr':run r (k+1) st ms=some []:=by
     have:(if(k:Int)-p-1<=r then run r (k+1) st ms else none)=some []:=hr
     split at this
     ·exact this
     ·cases this
    have h':=go st (jl++[.t (nm zs k) (nm zs p)]) (some (.v (.str (nm zs k)))) (some (.v (mkP .u))) hr' (by omega) (by rw[E6,e7];omega) (by rw[E8] at hs;omega) h24 (by
     intro s4 s5 pl;have:=h s4 s5 pl;rw[V6]
     exact this)
    rw[<- e1] at h';obtain⟨pp1,pp2⟩:=Uz (zs:=zs) (p:=p) (ps:=st);rw[<- pp2] at h';generalize pst zs (p::st)=PS at *;rw[show mkP .u=.str (mkS .u) from rfl] at *;walk_at "pu";refine(if_f (by rw[mk_t];rfl) ((if_t (by rw[mk_u];rfl) ⟨⟨_,rfl⟩,?_⟩)));rw[pp1];dsimp only;exact⟨by omega,h'⟩
theorem Cn:∀(m:List Pu.Mk) (k:Nat) (st:List Nat),(shE k st m).length<=m.length
 |[],_,_=>by simp[shE]
 |.t::m,k,st=>by have:=Cn m (k+1) (k::st);show(shE (k+1) (k::st) m).length<=m.length+1;omega
 |.d::m,k,st=>by have:=Cn m (k+1) st;show(PE.d k::shE (k+1) st m).length<=m.length+1;rw[E8];omega
 |.o::m,k,st=>by have:=Cn m (k+1) st;unfold shE;rw[E8];omega
 |.u::m,k,[]=>by have:=Cn m (k+1) [];unfold shE;rw[E8];omega
 |.u::m,k,p::st=>by have:=Cn m (k+1) st;show(PE.t k p::shE (k+1) st m).length<=m.length+1;rw[E8];omega
theorem UA {zs:List Str}{ms:List Pu.Mk}{r:Int}{n:Nat}{R:PV->Nat->Prop}(hl:ms.length=zs.length)(h24:zs.length<=24)(hw:run r 0 [] ms=some [])(h:∀es:List Ev,es.Perm ((shE 0 [] ms).map (evOf zs))->Srt (es.map evP) (((shE 0 [] ms).map (evOf zs)).map evP)->R (shP es) n):Jd [rowP zs,.lst (ms.map mkP)] n R:=by
 refine⟨rfl,?_⟩;unfold Nx;have go:=λD s4 s5=>NG (zs:=zs) (r:=r) (n:=n) (D:=D) (X:=.lst (ms.map mkP)) ms 0 [] [] s4 s5 hw (by omega) (by simp) (by simp) h24;simp only[Au,w8] at go;unfold rowP at *;generalize hM:ms.map mkP=ML at *;generalize hZ:zs.map PV.str=Z at *;walk_at "pu";unfold BW;refine go _ _ _ λs4 s5 pl=>?_;have so:=L_ ((shE 0 [] ms).map (evOf zs));have sl:=Cn ms 0 []
 have hh:∀ys,Srt ys (((shE 0 [] ms).map (evOf zs)).map evP)->R (.tup ys) n:=λys hy=>by
  obtain⟨es,rfl,p⟩:=SX hy;exact h es p hy
 grind
theorem UB {zs:List Str}{es:List Ev}{n:Nat}{R:PV->Nat->Prop}(h24:zs.length<=1000)(hb:∀b∈es.flatMap evB,b∈zs)(h:R (rowP (aft zs es)) n):Jf [rowP zs,shP es] n R:=by
 refine⟨rfl,?_⟩;unfold Nz;unfold rowP shP at *;have hix:∀z∈zs,∀{R:PV->Prop},R (.int (ixS zs z))->p9 (.tup (zs.map PV.str)) (.str z) R:=λz hz {R} q=>m_ix rfl hz (by omega) q
 have go:∀(D:y9) (hD:∀s3,D.nx [some (.v (.tup (zs.map PV.str))),some (.v (.tup (es.map evP))),some (.own ((es.foldl (setE zs) zs).map PV.str)),s3] n),forL (gN 3) (qIfS (qB (qOp (wEq 4) (qOp wIx (qV 3) (qC (.int 0))) (qC (.str (B0 "touch"))))) (qSeq (qPut 2 (qOp wIx (qV 3) (qC (.int 2))) (Q2 (qV 0) (qOp wIx (qV 3) (qC (.int 1))))) (qPut 2 (qOp wIx (qV 3) (qC (.int 1))) (Q2 (qV 0) (qOp wIx (qV 3) (qC (.int 2)))))) qNx) D (es.map evP) [some (.v (.tup (zs.map PV.str))),some (.v (.tup (es.map evP))),some (.own (zs.map PV.str)),none] n:=by
  intro D hD;have hbe:∀e∈es,∀b∈evB e,b∈zs:=λe he b hb'=>hb b (V7.mpr ⟨e,he,hb'⟩);generalize hZ:zs.map PV.str=Z at *;generalize hE:es.map evP=E at *;refine Q1 (λi env m=>∃s3,env=[some (.v (.tup Z)),some (.v (.tup E)),some (.own (((es.take i).foldl (setE zs) zs).map PV.str)),s3]/\m=n) _ 0 _ _ ⟨none,by rw[List.take_zero,List.foldl_nil,hZ],rfl⟩ (λi x env m N ex hI hN=>?_) (λenv m hI=>?_)
  ·obtain⟨s3,rfl,rfl⟩:=hI;rw[<- hE] at ex;obtain⟨e,ee,rfl⟩:=Cd ex;rw[J3] at hN ⊢;have st:(es.take (i+1)).foldl (setE zs) zs=setE zs ((es.take i).foldl (setE zs) zs) e:=by rw[Ce ee,List.foldl_append];rfl
   have fl:((es.take i).foldl (setE zs) zs).length=zs.length:=FB zs (es.take i);rw[st] at hN;generalize (es.take i).foldl (setE zs) zs=f at *;have em:=hbe e (J5 ee);generalize hF:f.map PV.str=FL at *;have FLl:FL.length=zs.length:=by rw[<- hF,B4];exact fl
   cases e with
   | d x =>
    rw[IC];walk_at "pu";exact if_f Mf (hN _ _ ⟨_,by rw[show setE zs f (.d x)=f from rfl,hF],rfl⟩)
   | t x y =>
    have hx:=em x (by simp[evB]);have hy:=em y (by simp[evB]);have lx:=Q3 hx;have ly:=Q3 hy;rw[Af];walk_at "pu";refine⟨⟨_,rfl⟩,?_⟩;refine⟨⟨_,rfl⟩,hix x hx ?_⟩;dsimp only;rw[Z6 (by omega) (by omega)];dsimp only;refine⟨⟨_,rfl⟩,⟨_,rfl⟩,hix y hy ?_⟩;dsimp only;rw[Z6 (by omega) (by grind)];dsimp only;rw[V9,V9]
    have e3:(FL.set (ixS zs x) (.str y)).set (ixS zs y) (.str x)=(setE zs f (.t x y)).map PV.str:=by
     show _=((f.set (ixS zs x) y).set (ixS zs y) x).map PV.str;rw[Bk,Bk,hF]
    rw[e3];exact hN _ _ ⟨_,rfl,rfl⟩
  ·grind
 generalize hE:es.map evP=E at *;generalize hZ:zs.map PV.str=Z at *;walk_at "pu";refine go _ λs3=>?_;have h':=h;unfold aft at h';generalize (es.foldl (setE zs) zs).map PV.str=FL at *;walk_at "pu";exact h'
theorem Jh {R:PV->Nat->Prop}(h1:1<=s)(hn:1<=n)(h:R (.int (((n+s-1)/s:Nat):Int)) m)(h8:s<=8):DQ [.tup [.int (s:Int),.int r],.int (n:Int)] m R:=by
 refine⟨rfl,?_⟩;unfold Nm;walk_at "pu";refine⟨⟨by omega,by omega⟩,?_⟩
 have e:((n:Int)+s-1)/s=(((n+s-1)/s:Nat):Int):=by
  rw[show(n:Int)+s-1=((n+s-1:Nat):Int) by omega]
  rfl
 rw[e];exact h
theorem Gp {R:PV->Nat->Prop}(h8:s<=8)(hn:1<=n)(hk:k<=1000)(h:R (.tup [.int ((k*s:Nat):Int),.int ((hiN s n k:Nat):Int)]) m):Ck [.tup [.int (s:Int),.int r],.int (n:Int),.int (k:Int)] m R:=by
 refine⟨rfl,?_⟩;unfold Nj;walk_at "pu";refine⟨.inr ⟨by omega,by omega⟩,?_⟩;have e2:(k:Int)*s=((k*s:Nat):Int):=(Int.natCast_mul k s).symm;rw[e2];unfold hiN at h
 by_cases c:k*s+s<n
 ·refine if_t (jp (by omega)) ?_
  try dsimp only
  rw[show((k*s:Nat):Int)+(s:Int)=((min (k*s+s) (n-1):Nat):Int) by omega];exact h
 ·refine if_f (jq (by omega)) ?_
  try dsimp only
  rw[show(n:Int)-1=((min (k*s+s) (n-1):Nat):Int) by omega];exact h
theorem NH {R:PV->Nat->Prop}(h8:s<=8)(hn:1<=n)(hk:k<=1000)(h:R (.tup [.int ((k*s:Nat):Int),.int ((hiN s n k:Nat):Int)]) m):FW [.tup [.int (s:Int),.int r],.int (n:Int),.int (k:Int)] m R:=by
 refine⟨rfl,?_⟩;unfold MK;walk_at "pu";refine⟨.inr ⟨by omega,by omega⟩,?_⟩;have e2:(k:Int)*s=((k*s:Nat):Int):=(Int.natCast_mul k s).symm
 have e:(if(n:Int)-1<(k:Int)*s+s then(n:Int)-1 else(k:Int)*s+s)=((hiN s n k:Nat):Int):=by
  rw[e2];unfold hiN
  split <;> omega
 try dsimp only
 rw[e,e2];exact h
theorem UC (hl:es.length<=1000000)(h:R (.lst ((es.filter isTo).map evP)) n):IZ [shP es] n R:=by
 refine⟨rfl,?_⟩;unfold M_ shP;generalize hE:es.map evP=E;have El:E.length=es.length:=by rw[<- hE,B4]
 walk_at "pu";refine⟨by omega,?_⟩;rw[<- hE];refine u3 evP isTo _ _ _ _ (λe he m Q hQ=>?_) h;cases e with
 | d x =>
  rw[IC] at *;walk_at "pu";rw[Mf];exact hQ
 | t x y =>
  rw[Af] at *;walk_at "pu";exact hQ
theorem UD {R:PV->Nat->Prop}(hi:i<f.length)(hj:j<f.length)(h:R (rowP (exch f i j)) n):I_ [rowP f,.int (i:Int),.int (j:Int)] n R:=by
 refine⟨rfl,?_⟩;unfold Na;unfold rowP at *;have ai:∀{k:Nat},k<f.length->atI (f.map PV.str) (k:Int)=some (.str (nm f k)):=λ{k} hk=>BL (by rw[E7,Y1 hk];rfl);have e:((f.map PV.str).set i (.str (nm f j))).set j (.str (nm f i))=(exch f i j).map PV.str:=by unfold exch;rw[Bk,Bk]
 generalize hF:f.map PV.str=F at *;have Fl:F.length=f.length:=by rw[<- hF,B4]
 walk_at "pu";rw[ai hj];dsimp only;rw[ai hi];dsimp only;refine⟨⟨_,rfl⟩,?_⟩;rw[Z6 (by omega) (by omega)];dsimp only;rw[Z6 (by omega) (by rw[M1];omega)];dsimp only;rw[V9,V9,e];exact h
theorem m_rowb (h24:zs.length<=1000)(hl:es.length<=1000)(hb:∀b∈es.flatMap evB,b∈zs)(h:R (rowP (rbh zs es)) n):Ja [rowP zs,shP es] n R:=by
 refine⟨rfl,?_⟩;unfold Nb;have hix:∀z∈zs,∀{R:PV->Prop},R (.int (ixS zs z))->p9 (.tup (zs.map PV.str)) (.str z) R:=λz hz {R} q=>m_ix rfl hz (by omega) q;have hbe:∀e∈es,∀b∈evB e,b∈zs:=λe he b hb'=>hb b (V7.mpr ⟨e,he,hb'⟩);generalize hS:shP es=S;have hr0:rowP zs=.tup (zs.map PV.str):=rfl;generalize hZ:zs.map PV.str=Z at *;rw[hr0];walk_at "pu";rw[<- hS];refine UC (by omega) ?_;dsimp only;rw[hS];refine Q1 (λi env m=>∃s3,env=[some (.v (.tup Z)),some (.v S),some (.v (rowP (((es.filter isTo).take i).foldl (exE zs) zs))),s3]/\m=n) _ 0 _ _ ⟨none,by rw[List.take_zero,List.foldl_nil,hr0],rfl⟩ (λi x env m N ex hI hN=>?_) (λenv m hI=>?_)
 ·obtain⟨s3,rfl,rfl⟩:=hI;obtain⟨e,ee,rfl⟩:=Cd ex;rw[J3] at hN ⊢;have st:((es.filter isTo).take (i+1)).foldl (exE zs) zs=exE zs (((es.filter isTo).take i).foldl (exE zs) zs) e:=by rw[Ce ee,List.foldl_append];rfl
  have fl:(((es.filter isTo).take i).foldl (exE zs) zs).length=zs.length:=IH zs _ _;rw[st] at hN;generalize ((es.filter isTo).take i).foldl (exE zs) zs=f at *;obtain⟨he,ht⟩:=J9.mp (J5 ee);have em:=hbe e he;cases e with
  |d x=>cases ht
  | t x y =>
   have hx:=em x (by simp[evB]);have hy:=em y (by simp[evB]);have lx:=Q3 hx;have ly:=Q3 hy;rw[Af];generalize hF:rowP f=F;walk_at "pu";refine⟨⟨_,rfl⟩,hix x hx ?_⟩;refine⟨⟨_,rfl⟩,hix y hy ?_⟩;rw[<- hF];refine UD (by omega) (by omega) ?_;exact hN _ _ ⟨_,rfl,rfl⟩
 ·obtain⟨s3,rfl,rfl⟩:=hI;rw[J3,B4,CF,II];have h':R (rowP (es.foldl (exE zs) zs)) m:=h;generalize rowP (es.foldl (exE zs) zs)=F at *;walk_at "pu";exact h'
theorem Ai (hn:1<=n):hiN s n k+1<=n:=by unfold hiN;omega
theorem Gq {row:List Str}{R:PV->Nat->Prop}(h8:s<=8)(hn:1<=n)(hl:row.length=n)(hk:k<=1000)(h:R (rowP (C2 s n k row)) m):u7 [.tup [.int (s:Int),.int r],rowP row,.int (k:Int)] m R:=by
 refine⟨rfl,?_⟩;unfold MM
 have e:cutP (row.map PV.str) (some ((k*s:Nat):Int)) (some (((hiN s n k:Nat):Int)+1))=(C2 s n k row).map PV.str:=by
  rw[Z8,show((hiN s n k:Nat):Int)+1=((hiN s n k+1:Nat):Int) by omega,FG row (by rw[hl];exact Ai hn)]
  rfl
 unfold rowP at *;generalize hZ:row.map PV.str=Z at *;have Zl:Z.length=n:=by rw[<- hZ,B4];exact hl
 walk_at "pu";rw[Zl];refine NH h8 hn hk ?_;walk_at "pu";rw[e];exact h
theorem m_put {row b:List Str}{R:PV->Nat->Prop}(h8:s<=8)(hn:1<=n)(h24:n<=1000)(hl:row.length=n)(hb:b.length<=1000)(hk:k<=1000)(h:R (rowP (putN s n k row b)) m):IY [.tup [.int (s:Int),.int r],rowP row,.int (k:Int),rowP b] m R:=by
 refine⟨rfl,?_⟩;unfold MZ;have e1:cutP (row.map PV.str) none (some ((k*s:Nat):Int))=(row.take (k*s)).map PV.str:=by rw[Z8,IF]
 have e2:cutP (row.map PV.str) (some (((hiN s n k:Nat):Int)+1)) none=(row.drop (hiN s n k+1)).map PV.str:=by
  rw[Z8,show((hiN s n k:Nat):Int)+1=((hiN s n k+1:Nat):Int) by omega,FH]
 have l1:((row.take (k*s)).map PV.str).length<=1000:=by rw[B4,O5];omega
 have l2:((row.drop (hiN s n k+1)).map PV.str).length<=1000:=by rw[B4,P6];omega
 have e3:(row.take (k*s)).map PV.str++b.map PV.str++(row.drop (hiN s n k+1)).map PV.str=(putN s n k row b).map PV.str:=by unfold putN;rw[N8,N8]
 unfold rowP at *;generalize hZ:row.map PV.str=Z at *;generalize hB:b.map PV.str=B at *;have Bl:B.length=b.length:=by rw[<- hB,B4]
 have Zl:Z.length=n:=by rw[<- hZ,B4];exact hl
 walk_at "pu";rw[Zl];refine NH h8 hn hk ?_;walk_at "pu";rw[e1,e2];refine⟨by omega,by rw[E6];omega,?_⟩;rw[e3];exact h
theorem UE (h8:s<=8)(hn:1<=n)(h24:n<=1000)(hl:row.length=n)(hk:k<=1000)(he:es.length<=1000)(hb:∀b∈es.flatMap evB,b∈C2 s n k row)(h:R (rowP (putN s n k row (rbh (C2 s n k row) es))) m):Gd [.tup [.int (s:Int),.int r],rowP row,.int (k:Int),shP es] m R:=by
 refine⟨rfl,?_⟩;unfold Nc;have sl:(C2 s n k row).length<=1000:=by rw[AY hl hn];have:=Ai (s:=s) (k:=k) hn;omega
 have rl:(rbh (C2 s n k row) es).length<=1000:=by rw[show(rbh (C2 s n k row) es).length=_ from IH _ _ _];exact sl
 generalize hS:shP es=S;generalize hW:rowP row=W;walk_at "pu";rw[<- hW];refine Gq h8 hn hl hk ?_;rw[<- hS];refine m_rowb sl he hb ?_;exact m_put h8 hn h24 hl rl hk h
theorem ins0 {α:Type}(xs:List α)(y:α):insL xs (0:Int).toNat y=y::xs:=rfl
theorem m_day
   (hP:∀st ms es,RowS st->st.length<=n->ms.length=st.length->run r 0 [] ms=some []->es.Perm ((shE 0 [] ms).map (evOf st))->Srt (es.map evP) (((shE 0 [] ms).map (evOf st)).map evP)->P st es) (hf:∀st es,P st es->Fair st es)
   (h1:1<=s) (h8:s<=8) (hn:1<=n) (h24:n<=24) (hr:RowS row) (hl:row.length=n) (hn0:n0<=999000000)
   (h:∀ess sts r' n',Dy P s n ((n+s-1)/s) row ((n+s-1)/s) ess sts r'->n'<=n0+2000->R (.tup [dayP ess,.tup (sts.map rowP),rowP r']) n'):Gn [.pot q,.tup [.int (s:Int),.int r],rowP row] n0 R:=by
 refine⟨rfl,?_⟩;unfold NA;have rl:(row.map PV.str).length=n:=by rw[B4];exact hl
 have mle:=Mg (s:=s) (n:=n) h1 hn;generalize hW:rowP row=W;have hW':W=.tup (row.map PV.str):=by rw[<- hW]
 walk_at "pu";rw[hW'];simp only[wLen,rl];refine Jh h1 hn ?_ h8;generalize hmx:(n+s-1)/s=mx at *;refine⟨⟨by omega,by omega⟩,?_⟩;rw[V9];refine Q1 (λi env m=>∃ess sts r' s5 s6 s7 s8 s9,env=[some (.v (.pot q)),some (.v (.tup [.int (s:Int),.int r])),some (.v (rowP r')),some (.own (ess.map shP)),some (.own (sts.map rowP)),s5,s6,s7,s8,s9]/\Dy P s n mx row i ess sts r'/\m<=n0+50*i) _ 0 _ _ ⟨[],[],row,_,_,_,_,_,rfl,.nil,by omega⟩ (λi x env m N ex hI hN=>?_) (λenv m hI=>?_)
 ·obtain⟨ess,sts,r',s5,s6,s7,s8,s9,rfl,hd,hm⟩:=hI;obtain⟨hi,rfl⟩:=FC ex;rw[J3] at hd hm hN;obtain⟨rS,rL⟩:=hd.rows h1 hn hmx.symm hf hr hl;have el:=hd.len;have ek:(mx:Int)-1-i=((mx-1-i:Nat):Int):=by omega
  have kp:(mx-1-i)*s<=n-1:=FI h1 hn (by omega);rw[ek];have step:=λes hp=>Dy.cons (es:=es) hd hi hp;generalize mx-1-i=k at *;have kh:=FJ (s:=s) (n:=n) kp;have hh:=Ai (s:=s) (k:=k) hn
  have e1:cutP (r'.map PV.str) (some ((k*s:Nat):Int)) (some (((hiN s n k:Nat):Int)+1))=(C2 s n k r').map PV.str:=by
   rw[Z8,show((hiN s n k:Nat):Int)+1=((hiN s n k+1:Nat):Int) by omega,FG r' (by rw[rL];exact hh)]
   rfl
  have e2:cutP (r'.map PV.str) none (some ((k*s:Nat):Int))=(r'.take (k*s)).map PV.str:=by rw[Z8,IF]
  have e3:cutP (r'.map PV.str) (some (((hiN s n k:Nat):Int)+1)) none=(r'.drop (hiN s n k+1)).map PV.str:=by
   rw[Z8,show((hiN s n k:Nat):Int)+1=((hiN s n k+1:Nat):Int) by omega,FH]
  have stS:=Cf (s:=s) (n:=n) (k:=k) rS;have stL:=AY (s:=s) (k:=k) rL hn;have l1:((r'.take (k*s)).map PV.str).length<=24:=by rw[B4,O5];omega
  have l2:((r'.drop (hiN s n k+1)).map PV.str).length<=24:=by rw[B4,P6];omega
  have aL:∀es,((aft (C2 s n k r') es).map PV.str).length<=24:=λes=>by rw[B4,FB];omega
  have e4:∀es,(r'.take (k*s)).map PV.str++(aft (C2 s n k r') es).map PV.str++(r'.drop (hiN s n k+1)).map PV.str=(putN s n k r' (aft (C2 s n k r') es)).map PV.str:=λes=>by unfold putN;rw[N8,N8]
  have sl:((C2 s n k r').map PV.str).length=(C2 s n k r').length:=by rw[B4]
  have rl':(r'.map PV.str).length=n:=by rw[B4];exact rL
  have hE:(ess.map shP).length<1000000:=by rw[B4];omega
  have hS:(sts.map rowP).length<1000000:=by rw[B4];omega
  have ec:∀es,shP es::ess.map shP=(es::ess).map shP:=λ_=>rfl;have ed:∀st,rowP st::sts.map rowP=(st::sts).map rowP:=λ_=>rfl;generalize hES:ess.map shP=ES at *;generalize hST:sts.map rowP=ST at *;unfold rowP at *;generalize hZ:r'.map PV.str=Z at *;walk_at "pu";rw[rl'];refine Gp h8 hn (by omega) ?_;walk_at "pu";rw[e1];generalize hG:C2 s n k r'=st at *;generalize hQ:st.map PV.str=SP at *;rw[sl];refine m_word (by omega) (by omega) λms n' hml hw hn'=>?_;rw[<- hQ];refine UA hml (by omega) hw λes pe se=>?_;have hp:=hP st ms es stS (by omega) hml hw pe se;have fr:=hf st es hp;refine UB (by omega) fr.sub ?_
  try dsimp only
  have aL':=aL es;rw[e2,e3];refine⟨by omega,by rw[E6];omega,?_⟩;rw[e4];refine⟨⟨_,rfl⟩,hE,⟨_,rfl⟩,hS,?_⟩;have stp:=step es hp;have x1:insL ES (0:Int).toNat (shP es)=(es::ess).map shP:=by rw[ins0,<- hES];rfl
  have x2:insL ST (0:Int).toNat (PV.tup (st.map PV.str))=(st::sts).map rowP:=by rw[ins0,<- hST];rfl
  rw[x1,x2];exact hN _ _ ⟨_,_,_,_,_,_,_,_,rfl,stp,by omega⟩
 ·obtain⟨ess,sts,r',s5,s6,s7,s8,s9,rfl,hd,hm⟩:=hI;rw[J3,FE] at hd hm;have:=h ess sts r' m hd (by omega);unfold dayP at this;generalize ess.map shP=ES at *;generalize sts.map rowP=ST at *;generalize rowP r'=RP at *;walk_at "pu";exact this
theorem m_meet (hn0:n0<=999000000)(h:∀(s r:Nat) zs n',1<=s->s<=8->r<=7->1<=zs.length->zs.length<=24->RowS zs->n'<=n0+200->R (.tup [.tup [.int (s:Int),.int (r:Int)],rowP zs]) n'):IW [.pot q,.int 24] n0 R:=by
 refine⟨rfl,?_⟩;unfold MJ;walk_at "pu";refine⟨by omega,λd0 d00 d01=>⟨by omega,λd1 d10 d11=>⟨by omega,λd2 d20 d21=>?_⟩⟩⟩;obtain⟨x,hx,ex⟩:=AR (xs:=[PV.int 0,PV.int 1,PV.int 7,PV.int d1]) d20 (by simpa using d21)
 obtain⟨r,rfl,r0,r7⟩:∃v:Int,x=.int v/\0<=v/\v<=7:=by
  simp only[C5,L9,or_false] at hx;rcases hx with rfl|rfl|rfl|rfl <;> exact⟨_,rfl,by omega,by omega⟩
 rw[ex];dsimp only;obtain⟨s,rfl⟩:=Et d00;obtain⟨r,rfl⟩:=Et r0;refine⟨by omega,λd3 d30 d31=>⟨by omega,λd4 d40 d41=>⟨by omega,λd5 d50 d51=>?_⟩⟩⟩
 have d41':d4<6:=by
  have:(if(6:Int)<24 then(6:Int) else 24)=6:=rfl;omega
 obtain⟨y,hy,ey⟩:=AR (xs:=[PV.int (1+d3),PV.int (1+d4)]) d50 (by simpa using d51)
 obtain⟨many,rfl,m0,m1⟩:∃v:Int,y=.int v/\1<=v/\v<=24:=by
  simp only[C5,L9,or_false] at hy;rcases hy with rfl|rfl <;> exact⟨_,rfl,by omega,by omega⟩
 rw[ey];dsimp only;refine Uw m0 m1 (by omega) λzs n' zl zr hn'=>?_;have e:(1:Int)+(s:Int)=((1+s:Nat):Int):=by omega
 rw[e];exact h (1+s) r zs n' (by omega) (by omega) (by omega) (by omega) (by omega) zr (by omega)
theorem UF (h:Srt ys [.int a,.int b]):ys=[.int (min a b),.int (max a b)]:=by
 obtain⟨p,q⟩:=h;have l:=p.length_eq
 match ys,l with
 | [u, v], _ =>
  have hq:lexK (keyP v) (keyP u)=false:=by simpa using q
  have two:(u=.int a/\v=.int b)\/(u=.int b/\v=.int a):=by
   have hu:u∈[PV.int a,PV.int b]:=p.mem_iff.mp (by simp);rcases C5.mp hu with e|hu
   ·subst e;exact .inl ⟨rfl,by simpa using(List.perm_cons _).mp p⟩
   ·have e:u=.int b:=by simpa using hu
    subst e;have p2:=p.trans (List.Perm.swap (PV.int b) (PV.int a) []);exact .inr ⟨rfl,by simpa using(List.perm_cons _).mp p2⟩
  rcases two with⟨rfl,rfl⟩|⟨rfl,rfl⟩
  ·have:¬b<a:=by
    intro c
    have e:lexK [O7 b] [O7 a]=true:=by
     show(if(O7 b:Key)=O7 a then lexK [] [] else decide (b<a))=true;rw[jt (by intro z;cases z;omega)];exact jp c
    rw[show keyP (PV.int b)=[O7 b] from rfl,show keyP (PV.int a)=[O7 a] from rfl,e] at hq;cases hq
   rw[show min a b=a by omega,show max a b=b by omega]
  ·have:¬a<b:=by
    intro c
    have e:lexK [O7 a] [O7 b]=true:=by
     show(if(O7 a:Key)=O7 b then lexK [] [] else decide (a<b))=true;rw[jt (by intro z;cases z;omega)];exact jp c
    rw[show keyP (PV.int b)=[O7 b] from rfl,show keyP (PV.int a)=[O7 a] from rfl,e] at hq;cases hq
   rw[show min a b=b by omega,show max a b=a by omega]
theorem Ji (hs:st.length<=100)(hx:x∈st)(hy:y∈st)(h:R (rowP (btwU st x y)) n):Ba [rowP st,evP (.t x y)] n R:=by
 refine⟨rfl,?_⟩;unfold MR;have hix:∀z∈st,∀{R:PV->Prop},R (.int (ixS st z))->p9 (.tup (st.map PV.str)) (.str z) R:=λz hz {R} q=>m_ix rfl hz (by omega) q;have hr0:rowP st=.tup (st.map PV.str):=rfl;have lx:=Q3 hx;have ly:=Q3 hy
 have hcut:cutP (st.map PV.str) (some (min (ixS st x:Int) (ixS st y)+1)) (some (max (ixS st x:Int) (ixS st y)))=(btwU st x y).map PV.str:=by
  have:=FG (st.map PV.str) (a:=min (ixS st x) (ixS st y)+1) (b:=max (ixS st x) (ixS st y)) (by rw[B4];omega);unfold btwU;rw[List.map_drop,List.map_take,<- this]
  congr 2 <;> omega
 generalize hZ:st.map PV.str=Z at *;rw[hr0,Af];walk_at "pu";refine⟨⟨_,rfl⟩,hix x hx ?_⟩;refine⟨⟨_,rfl⟩,hix y hy ?_⟩;refine⟨.inl (by simp),λys hys=>?_⟩;rw[UF hys];refine⟨rfl,?_⟩;walk_at "pu";rw[hcut];exact h
theorem m_far (hs:st.length<=100)(hx:x∈st)(hy:y∈st)(h:R (.bl (decide (r<((btwU st x y).length:Int)))) n):F_ [rowP st,.int r,evP (.t x y)] n R:=by
 refine⟨rfl,?_⟩;unfold MS;generalize hS:rowP st=S;generalize hT:evP (.t x y)=T;walk_at "pu";subst hS hT;refine Ji hs hx hy ?_;dsimp only;rw[B4];exact h
theorem NI {rest:Pu.Env}{pi:pA}{α:Type}(f:α->PV)(g:α->List PV):∀(xs:List α) (s0 s1:Option Pu.Slot) (n:Nat) (R:List PV->Nat->Prop),(∀x∈xs,∀s1 m Q,Q (g x) (some (.v (f x))::s1::rest) m->pi (some (.v (f x))::s1::rest) m Q)->(∀x∈xs,(g x).length<=1000)->R (xs.flatMap g) n->Ca (gN 0) pi (gN 1) qTru (qV 1) (xs.map f) (s0::s1::rest) n R:=by
 intro xs
 induction xs with
 |nil=>intro _ _ _ _ _ _ h;exact h
 | cons x xs ih =>
  intro s0 s1 n R hp hl h;show pi (some (.v (f x))::s1::rest) n _;refine hp x C7 _ _ _ ⟨hl x C7,?_⟩
  have inner:∀(ys:List PV) (a s1:Option Pu.Slot) (Q:List PV->Pu.Env->Nat->Prop),(∀s1,Q ys (a::s1::rest) n)->AV (gN 1) qTru (qV 1) ys (a::s1::rest) n Q:=by
   intro ys
   induction ys with
   |nil=>intro a s1 Q q;exact q s1
   |cons y ys ih2=>intro a s1 Q q;exact ih2 a _ _ λs1=>q s1
  exact inner _ _ _ _ λs1'=>ih _ _ _ _ (λu hu=>hp u (C3 _ hu)) (λu hu=>hl u (C3 _ hu)) h
theorem NJ (hl:es.length<=1000)(h:R (.lst ((es.flatMap evB).map PV.str)) n):Ci [shP es] n R:=by
 refine⟨rfl,?_⟩;unfold MT shP;rw[List.map_flatMap] at h;have El:(es.map evP).length<=1000:=by rw[B4];exact hl
 walk_at "pu";refine⟨El,NI evP (λe=>(evB e).map PV.str) es _ _ _ _ (λe he s1 m Q q=>?_) (λe _=>?_) h⟩
 ·cases e with
  |d x=>exact q
  |t x y=>exact q
 ·cases e <;> (show _<=1000;simp[evB])
abbrev four (x y x' y':Str):Prop:=((met (L5 [x,y,x',y']) [x,y,x',y'].length).length:Int)=4
theorem UG {st:List Str}{x y x' y':Str}{n:Nat}{R:PV->Nat->Prop}(hs:st.length<=100)(hx:x∈st)(hy:y∈st)(h:(four x y x' y'->(x'∈btwU st x y↔y'∈btwU st x y))->R (.bl false) n)(h1:four x y x' y'->¬(x'∈btwU st x y↔y'∈btwU st x y)->R (.bl true) n):Ga [rowP st,evP (.t x y),evP (.t x' y')] n R:=by
 refine⟨rfl,?_⟩;unfold MU;have mb:∀{R:PV->Nat->Prop},R (.lst [.str x,.str y,.str x',.str y']) n->Ci [.tup [.tup [.str u4,.str x,.str y],.tup [.str u4,.str x',.str y']]] n R:=λq=>NJ (es:=[.t x y,.t x' y']) (by simp) q;have mw:∀{R:PV->Nat->Prop},R (rowP (btwU st x y)) n->Ba [rowP st,.tup [.str u4,.str x,.str y]] n R:=λq=>Ji hs hx hy q;generalize hW:rowP st=W at *;rw[Af,Af];walk_at "pu";refine mb ?_;have tx:X5 [.str x,.str y,.str x',.str y']=some [x,y,x',y']:=rfl;dsimp only;rw[tx];dsimp only;refine⟨by simp,?_⟩
 by_cases c:four x y x' y'
 ·refine if_f (by rw[jp (show((met (L5 [x,y,x',y']) [x,y,x',y'].length).length:Int)=4 from c)];rfl) ?_;refine mw ?_;refine LX rfl ?_;refine LX rfl ?_;rw[eqP_bb]
  by_cases c2:x'∈btwU st x y↔y'∈btwU st x y
  ·rw[decide_eq_decide.mpr c2];have:=h λ_=>c2;generalize decide (y'∈btwU st x y)=b;cases b <;> exact this
  ·have e:decide (decide (x'∈btwU st x y)=decide (y'∈btwU st x y))=false:=jq λz=>c2 (decide_eq_decide.mp z);rw[e];exact h1 c c2
 ·refine if_t (by rw[jq (show ¬((met (L5 [x,y,x',y']) [x,y,x',y'].length).length:Int)=4 from c)];rfl) ?_;exact h λz=>absurd z c
theorem Jj {st:List Str}{b:Str}(hb:b∈st):∀(es:List Ev) (f:List Str),(∀z∈es.flatMap evB,z∈st)->(∀x y,Ev.t x y∈es->b≠x/\b≠y)->(es.foldl (setE st) f)[ixS st b]?=f[ixS st b]?:=by
 intro es
 induction es with
 |nil=>intro f _ _;rfl
 | cons e es ih =>
  intro f hs hn;rw[Y7,ih _ (λz hz=>hs z (by grind)) (λx y h=>hn x y (C3 _ h))];cases e with
  |d x=>rfl
  | t x y =>
   obtain⟨n1,n2⟩:=hn x y C7;have hx:x∈st:=hs x (by simp[evB]);have hy:y∈st:=hs y (by simp[evB]);show((f.set (ixS st x) y).set (ixS st y) x)[ixS st b]?=_;rw[O4 (λz=>n2 (u6 hy hb z).symm),O4 (λz=>n1 (u6 hx hb z).symm)]
theorem NK {st:List Str}{x y:Str}:∀(es:List Ev) (f:List Str),f.length=st.length->(es.flatMap evB).Nodup->(∀z∈es.flatMap evB,z∈st)->Ev.t x y∈es->(es.foldl (setE st) f)[ixS st x]?=some y/\(es.foldl (setE st) f)[ixS st y]?=some x:=by
 intro es
 induction es with
 |nil=>intro f _ _ _ h;cases h
 | cons e es ih =>
  intro f hl nd hs he;rw[k8] at nd hs;obtain⟨n1,n2,n3⟩:=Ej.mp nd;have hs':∀z∈es.flatMap evB,z∈st:=λz hz=>hs z (Y6 _ hz);rw[Y7]
  by_cases c:Ev.t x y∈es
  ·exact ih _ (by rw[Mc];exact hl) n2 hs' c
  ·have e1:Ev.t x y=e:=(C5.mp he).resolve_right c;subst e1;have hx:x∈st:=hs x (by simp[evB]);have hy:y∈st:=hs y (by simp[evB]);have lx:=Q3 hx;have ly:=Q3 hy
   have nxy:x≠y:=by
    have n1':[x,y].Nodup:=n1
    simpa using n1'
   have out:∀b,b∈[x,y]->∀u v,Ev.t u v∈es->b≠u/\b≠v:=λb hb u v h=>
    ⟨λz=>n3 b hb u (V7.mpr ⟨_,h,by simp[evB]⟩) z,λz=>n3 b hb v (V7.mpr ⟨_,h,by simp[evB]⟩) z⟩
   rw[Jj hx es _ hs' (out x (by simp)),Jj hy es _ hs' (out y (by simp))];show((f.set (ixS st x) y).set (ixS st y) x)[ixS st x]?=some y/\((f.set (ixS st x) y).set (ixS st y) x)[ixS st y]?=some x;have ne:ixS st y≠ixS st x:=λz=>nxy (u6 hx hy z.symm);constructor
   ·grind
   ·grind
def SrP (xs:List PV):Prop:=xs.Pairwise λa b=>lexK (keyP b) (keyP a)=false
theorem UH (zs:List Str):∀x∈zs.map PV.str,∀y∈zs.map PV.str,keyP x=keyP y->x=y:=λx hx y hy e=>by
 obtain⟨u,_,rfl⟩:=F3.mp hx;obtain⟨v,_,rfl⟩:=F3.mp hy;have e':[(.inr u:Key)]=[.inr v]:=e;cases e'
 rfl
theorem NL (es:List Ev):∀x∈es.map evP,∀y∈es.map evP,keyP x=keyP y->x=y:=λx hx y hy e=>by
 obtain⟨u,_,rfl⟩:=F3.mp hx;obtain⟨v,_,rfl⟩:=F3.mp hy;rw[show keyP (evP u)=evK u from U9 _,show keyP (evP v)=evK v from U9 _] at e;rw[LY e]
theorem UI (h:SrtS ys xs)(nd:zs.Nodup)(hm:∀y,y∈zs↔y∈xs)(sz:SrP zs)(inj:∀x∈zs,∀y∈zs,keyP x=keyP y->x=y):ys=zs:=
 have p:=(GA nd h.1).mpr λy=>(hm y).trans (h.2.1 y).symm
 (p.eq_of_pairwise (λa b ha hb e1 e2=>inj a ha b (p.mem_iff.mpr hb) (Io e2 e1)) sz h.2.2).symm
theorem NM {tt:pT}{te:pE}{rest:Pu.Env}{α:Type}(u v:α->PV)(c:α->Bool)(f:α->PV):∀(xs:List α) (s0 s1:Option Pu.Slot) (n:Nat) (R:List PV->Nat->Prop),(∀x∈xs,∀m Q,Q (c x) (some (.v (u x))::some (.v (v x))::rest) m->tt (some (.v (u x))::some (.v (v x))::rest) m Q)->(∀x∈xs,∀m Q,Q (f x) (some (.v (u x))::some (.v (v x))::rest) m->te (some (.v (u x))::some (.v (v x))::rest) m Q)->R ((xs.filter c).map f) n->U5 (gTp 2 (gCn (gN 0) (gCn (gN 1) gNl))) tt te (xs.map λx=>.tup [u x,v x]) (s0::s1::rest) n R:=by
 intro xs
 induction xs with
 |nil=>intro _ _ _ _ _ _ h;exact h
 | cons x xs ih =>
  intro s0 s1 n R ht he h;have ht':=λy hy=>ht y (C3 _ hy);have he':=λy hy=>he y (C3 _ hy);refine⟨rfl,?_⟩;show tt (some (.v (u x))::some (.v (v x))::rest) n _;refine ht x C7 _ _ ?_;cases e:c x with
  | true =>
   rw[Cy (by rw[e])] at h;exact if_t rfl (he x C7 _ _ (ih _ _ _ _ ht' he' h))
  | false =>
   rw[Ef (by rw[e];decide)] at h;exact if_f rfl (ih _ _ _ _ ht' he' h)
theorem UJ {L:List Ev}(hl:L.length<=63)(h:∀ys,SrtS ys (L.map evP)->R (.tup ys) n):IX [.lst (L.map evP)] n R:=by
 refine⟨rfl,?_⟩;unfold MW
 have ok:SetOk (L.map evP):=⟨λx hx=>by
  obtain⟨e,_,rfl⟩:=F3.mp hx;exact⟨evK e,rfl,ev_ne e⟩,λx hx y hy=>by
  obtain⟨e,_,rfl⟩:=F3.mp hx;obtain⟨e',_,rfl⟩:=F3.mp hy;unfold evP tupP;rw[U9,U9]
  exact ev_al e e'⟩
 have ll:(L.map evP).length<=63:=by rw[B4];exact hl
 generalize L.map evP=X at *;walk_at "pu";exact⟨ll,ok,λys hy=>h ys hy⟩
theorem D2 (h:∀U:pS,U=q->p { D with nx:=λe m=>U D e m } env n):qSeq p q D env n:=h q rfl
def pal (st g:List Str)(y:Str):Str:=nm g (ixS st y)
def org (st g:List Str)(y:Str):Str:=nm st (ixS g y)
def rdB (st g:List Str)(y:Str):Bool:=!decide (org st g y=pal st g y)
def cT (st g:List Str)(y:Str):Bool:=decide (ixS st y<ixS st (pal st g y))
def TL (st g:List Str):List Ev:=(st.filter (cT st g)).map λy=>Ev.t (pal st g y) y
structure Gl (st g:List Str):Prop where
 nd:st.Nodup
 pm:g.Perm st
 l9:st.length<=9
section
variable {st g:List Str}{x y:Str}
theorem Gl.len (G:Gl st g):g.length=st.length:=G.pm.length_eq
theorem Gl.ng (G:Gl st g):g.Nodup:=G.pm.nodup_iff.mpr G.nd
theorem Gl.at (G:Gl st g)(hy:y∈st):g[ixS st y]?=some (pal st g y):=Y1 (by rw[G.len];exact Q3 hy)
theorem Gl.pl (G:Gl st g)(hy:y∈st):pal st g y∈st/\ixS g (pal st g y)=ixS st y:=
 have h:=J5 (G.at hy)
 ⟨G.pm.mem_iff.mp h,Cb G.ng (T4 h).1 (G.at hy)⟩
theorem Gl.og (G:Gl st g)(hy:y∈st):org st g y∈st/\ixS st (org st g y)=ixS g y:=by
 have h:ixS g y<st.length:=by rw[<- G.len];exact Q3 (G.pm.mem_iff.mpr hy)
 exact⟨Fz h,FP G.nd h⟩
theorem Gl.inj (G:Gl st g)(hx:x∈st)(hy:y∈st)(e:pal st g x=pal st g y):x=y:=u6 hx hy (by rw[<- (G.pl hx).2,<- (G.pl hy).2,e])
def NR (st g:List Str):Prop:=∀y∈st,org st g y=pal st g y
theorem Gl.two (G:Gl st g)(nr:NR st g)(hy:y∈st):pal st g (pal st g y)=y:=by
 rw[<- nr _ (G.pl hy).1];unfold org;rw[(G.pl hy).2];exact M9 ((Y1 (Q3 hy)).symm.trans (T4 hy).1)
theorem NN {st g:List Str}{x y:Str}:Ev.t x y∈TL st g↔y∈st/\x=pal st g y/\ixS st y<ixS st x:=by
 unfold TL;rw[F3];constructor
 ·rintro⟨z,hz,e⟩;cases e;obtain⟨h1,h2⟩:=J9.mp hz;exact⟨h1,rfl,ju h2⟩
 ·rintro⟨h1,rfl,h2⟩;exact⟨y,J9.mpr ⟨h1,jp h2⟩,rfl⟩
theorem TL_to {e:Ev}(h:e∈TL st g):∃y,y∈st/\e=.t (pal st g y) y/\ixS st y<ixS st (pal st g y):=by
 obtain⟨z,hz,rfl⟩:=F3.mp h;obtain⟨h1,h2⟩:=J9.mp hz;exact⟨z,h1,rfl,ju h2⟩
theorem Gl.fair (G:Gl st g)(nr:NR st g):Fair st (TL st g):=by
 refine⟨?_,λb hb=>?_⟩
 ·unfold TL;rw[List.flatMap_map];refine List.pairwise_flatMap.mpr ⟨λy hy=>?_,((G.nd.filter _).imp_of_mem ?_)⟩
  ·obtain⟨h1,h2⟩:=J9.mp hy;have:=ju h2;simp only[evB,List.pairwise_cons,K2,forall_eq,L9,false_imp_iff,implies_true,GO,and_true];exact λe=>by rw[e] at this;omega
  ·intro a b ha hb ab u hu v hv e;obtain⟨a1,a2⟩:=J9.mp ha;obtain⟨b1,b2⟩:=J9.mp hb;have a2:=ju a2;have b2:=ju b2;subst e;simp only[evB,C5,L9,or_false] at hu hv;rcases hu with rfl|rfl
   ·rcases hv with e|e
    ·exact ab (G.inj a1 b1 e)
    ·rw[e] at a2;rw[<- e,G.two nr a1,e] at b2;omega
   ·rcases hv with e|e
    ·rw[e,G.two nr b1] at a2;omega
    ·exact ab e
 ·obtain⟨e,he,hb⟩:=V7.mp hb;obtain⟨y,hy,rfl,_⟩:=TL_to he;rcases C5.mp hb with rfl|hb
  ·exact(G.pl hy).1
  ·rw[K2.mp hb];exact hy
theorem Gl.rb (G:Gl st g)(nr:NR st g){T:List Ev}(p:T.Perm (TL st g)):rbh st T=g:=by
 have fr:=(G.fair nr).perm p;rw[<- IE fr]
 apply CD
 intro i
 by_cases c:i<st.length
 ·have hy:nm st i∈st:=Fz c;have ei:i=ixS st (nm st i):=(FP G.nd c).symm;generalize nm st i=y at hy ei;subst ei;rw[G.at hy];have mT:=λa b=>(p.mem_iff (a:=Ev.t a b)).trans NN;rcases l6 (ixS st y) (ixS st (pal st g y)) with h|h|h
  ·exact(NK T st rfl fr.nd fr.sub ((mT _ _).mpr ⟨hy,rfl,h⟩)).2
  ·have e:=u6 hy (G.pl hy).1 h;refine Eq.trans (Jj hy T st fr.sub λa b hab=>?_) ((T4 hy).1.trans (congrArg some e));obtain⟨hb,rfl,hl⟩:=(mT a b).mp hab;constructor
   ·intro z;have:=G.inj hy hb (e.symm.trans z);rw[<- this,<- e] at hl;omega
   ·intro z;rw[<- z,<- e] at hl;omega
  ·exact(NK T st rfl fr.nd fr.sub ((mT y (pal st g y)).mpr ⟨(G.pl hy).1,(G.two nr hy).symm,h⟩)).1
 ·rw[R9 (by rw[FB];omega),R9 (by rw[G.len];omega)]
end
def Crs (a b c d:Nat):Prop:=¬((a<c/\c<b)↔(a<d/\d<b))
structure Ok (r:Nat)(st g:List Str):Prop where
 nr:NR st g
 near:∀y∈st,ixS st y<ixS st (pal st g y)->ixS st (pal st g y)-ixS st y-1<=r
 plain:∀y∈st,ixS st y<ixS st (pal st g y)->∀z∈st,ixS st z<ixS st (pal st g z)->¬Crs (ixS st y) (ixS st (pal st g y)) (ixS st z) (ixS st (pal st g z))
theorem btw_len {st:List Str}{x y:Str}(hx:x∈st)(h:ixS st y<ixS st x):(btwU st x y).length=ixS st x-ixS st y-1:=by
 have:=Q3 hx;unfold btwU;rw[P6,O5];omega
theorem UK {x y x' y':Str}(h:[x,y,x',y'].Nodup):four x y x' y':=by
 simp only[R5,C5,L9,or_false,not_or,List.nodup_nil,and_true] at h;obtain⟨⟨h1,h2,h3⟩,⟨h4,h5⟩,h6,_⟩:=h
 have e:met (L5 [x,y,x',y']) 4=[.inr x,.inr y,.inr x',.inr y']:=by
  have k:∀{a b:Str},a≠b->decide ((.inr a:Key)=.inr b)=false:=λh=>jq λz=>h (Sum.inr.inj z);have a1:met (L5 [x,y,x',y']) 1=[.inr x]:=rfl
  have a2:met (L5 [x,y,x',y']) 2=[.inr x,.inr y]:=by
   show(if(met (L5 [x,y,x',y']) 1).any (λz=>decide (z=.inr y)) then met (L5 [x,y,x',y']) 1 else met (L5 [x,y,x',y']) 1++[.inr y])=_;rw[a1];simp[k,h1]
  have a3:met (L5 [x,y,x',y']) 3=[.inr x,.inr y,.inr x']:=by
   show(if(met (L5 [x,y,x',y']) 2).any (λz=>decide (z=.inr x')) then met (L5 [x,y,x',y']) 2 else met (L5 [x,y,x',y']) 2++[.inr x'])=_;rw[a2];simp[k,h2,h4]
  show(if(met (L5 [x,y,x',y']) 3).any (λz=>decide (z=.inr y')) then met (L5 [x,y,x',y']) 3 else met (L5 [x,y,x',y']) 3++[.inr y'])=_;rw[a3];simp[k,h3,h5,h6]
 show((met (L5 [x,y,x',y']) 4).length:Int)=4;rw[e];rfl
theorem Gl.cross {st g:List Str}(G:Gl st g)(nr:NR st g){y z:Str}(hy:y∈st)(ly:ixS st y<ixS st (pal st g y))(hz:z∈st)(lz:ixS st z<ixS st (pal st g z)):(four (pal st g y) y (pal st g z) z/\¬(pal st g z∈btwU st (pal st g y) y↔z∈btwU st (pal st g y) y))↔Crs (ixS st y) (ixS st (pal st g y)) (ixS st z) (ixS st (pal st g z)):=by
 have bx:=IJ (z:=pal st g z) G.nd (G.pl hy).1 hy;have by_:=IJ (z:=z) G.nd (G.pl hy).1 hy;rw[show min (ixS st (pal st g y)) (ixS st y)=ixS st y by omega,show max (ixS st (pal st g y)) (ixS st y)=ixS st (pal st g y) by omega] at bx by_;rw[bx,by_];simp only[(G.pl hz).1,hz,true_and];unfold Crs;constructor
 ·exact λh e=>h.2 e.symm
 ·intro h;refine⟨UK ?_,λe=>h e.symm⟩;have e1:y≠z:=λe=>by subst e;exact h ⟨λq=>by omega,λq=>by omega⟩
  have p1:pal st g y≠pal st g z:=λe=>e1 (G.inj hy hz e);have e2:pal st g y≠y:=λe=>by rw[e] at ly;omega
  have e3:pal st g z≠z:=λe=>by rw[e] at lz;omega
  have e4:pal st g y≠z:=λe=>by rw[e] at ly;rw[<- e,G.two nr hy,e] at lz;omega
  have e5:y≠pal st g z:=λe=>by rw[e,G.two nr hz] at ly;rw[<- e] at lz ly;omega
  simp[*,e1]
theorem Jk {tt:pT}{te:pE}{rest:Pu.Env}{α:Type}(u:α->PV)(c:α->Bool)(f:α->PV):∀(xs:List α) (s0:Option Pu.Slot) (n:Nat) (R:List PV->Nat->Prop),(∀x∈xs,∀m Q,Q (c x) (some (.v (u x))::rest) m->tt (some (.v (u x))::rest) m Q)->(∀x∈xs,∀m Q,Q (f x) (some (.v (u x))::rest) m->te (some (.v (u x))::rest) m Q)->R ((xs.filter c).map f) n->U5 (gN 0) tt te (xs.map u) (s0::rest) n R:=by
 intro xs
 induction xs with
 |nil=>intro _ _ _ _ _ h;exact h
 | cons x xs ih =>
  intro s0 n R ht he h;have ht':=λy hy=>ht y (C3 _ hy);have he':=λy hy=>he y (C3 _ hy);show tt (some (.v (u x))::rest) n _;refine ht x C7 _ _ ?_;cases e:c x with
  | true =>
   rw[Cy (by rw[e])] at h;exact if_t rfl (he x C7 _ _ (ih _ _ _ ht' he' h))
  | false =>
   rw[Ef (by rw[e];decide)] at h;exact if_f rfl (ih _ _ _ ht' he' h)
def j9 (w:String)(x:Str):PV:=.tup [.str (B0 w),.str x]
def strg (st th:List Str):List Str:=(th.drop 1).filter λx=>!decide (x∈st)
def P1 (st th:List Str):List Str:=st.filter (λb=>!decide (b∈th.drop 1))++th.drop 1
theorem Gr (xs:List Str):cutP (xs.map PV.str) (some 1) none=(xs.drop 1).map PV.str:=by rw[Z8];exact congrArg _ (FH xs 1)
theorem m_from {s n k m:Nat}{r:Int}{st row':List Str}{R:PV->Nat->Prop}(h8:s<=8)(hn:1<=n)(h24:n<=24)(hl:row'.length=n)(hk:k<=1000)(h:R (.lst ((strg st (C2 s n k row')).map (j9 "from"))) m):FX [.tup [.int (s:Int),.int r],rowP st,rowP row',.int (k:Int)] m R:=by
 refine⟨rfl,?_⟩;unfold MN;have ms:∀{m:Nat} {R:PV->Nat->Prop},R (rowP (C2 s n k row')) m->u7 [.tup [.int (s:Int),.int r],rowP row',.int (k:Int)] m R:=λq=>Gq h8 hn hl hk q;have tl:(C2 s n k row').length<=24:=by rw[AY hl hn];have:=Ai (s:=s) (k:=k) hn;omega
 have dc:=Gr (C2 s n k row');unfold rowP at ms ⊢;generalize hZ:st.map PV.str=Z at *;generalize row'.map PV.str=W at *;generalize hA:(C2 s n k row').map PV.str=A at *;walk_at "pu";refine ms ?_;walk_at "pu";rw[dc];refine⟨by rw[B4,P6];omega,?_⟩;refine Jk PV.str (λx=>!decide (x∈st)) (j9 "from") _ _ _ _ (λx hx m Q q=>?_) (λx hx m Q q=>?_) h
 ·walk_at "pu";exact Ae hZ q
 ·walk_at "pu";exact q
theorem NO {s n k m:Nat}{r:Int}{st row':List Str}{R:PV->Nat->Prop}(h8:s<=8)(hn:1<=n)(h24:n<=24)(hl:row'.length=n)(hk:k<=1000)(hst:st.length<=24)(h:R (rowP (P1 st (C2 s n k row'))) m):Ch [.tup [.int (s:Int),.int r],rowP st,rowP row',.int (k:Int)] m R:=by
 refine⟨rfl,?_⟩;unfold MO;have ms:∀{m:Nat} {R:PV->Nat->Prop},R (rowP (C2 s n k row')) m->u7 [.tup [.int (s:Int),.int r],rowP row',.int (k:Int)] m R:=λq=>Gq h8 hn hl hk q;have tl:(C2 s n k row').length<=24:=by rw[AY hl hn];have:=Ai (s:=s) (k:=k) hn;omega
 have dc:=Gr (C2 s n k row');unfold P1 rowP at h;unfold rowP at ms ⊢;have Zl:(st.map PV.str).length<=24:=by rw[B4];exact hst
 have Al:(((C2 s n k row').drop 1).map PV.str).length<=24:=by rw[B4,P6];omega
 rw[N8] at h;have fl:=Q7 (λb=>!decide (b∈(C2 s n k row').drop 1)) st;generalize hZ:st.map PV.str=Z at *;generalize row'.map PV.str=W at *;generalize hD:((C2 s n k row').drop 1).map PV.str=D at *;generalize hA:(C2 s n k row').map PV.str=A at *;walk_at "pu";refine ms ?_;walk_at "pu";rw[dc];refine⟨by omega,?_⟩;rw[<- hZ];refine u3 PV.str (λb=>!decide (b∈(C2 s n k row').drop 1)) st _ _ _ (λz hz m Q q=>?_) ⟨by rw[B4];omega,h⟩;walk_at "pu";exact Ae hD q
section
variable {st g:List Str}{n:Nat}{R:PV->Nat->Prop}
theorem Gl.ix (G:Gl st g):(∀z∈st,∀{R:PV->Prop},R (.int (ixS st z))->p9 (.tup (st.map PV.str)) (.str z) R)/\∀z∈st,∀{R:PV->Prop},R (.int (ixS g z))->p9 (.tup (g.map PV.str)) (.str z) R:=
 have l:=G.l9;have l':=G.len
 ⟨λz hz {R} q=>m_ix rfl hz (by omega) q,λz hz {R} q=>m_ix rfl (G.pm.mem_iff.mpr hz) (by omega) q⟩
theorem m_goes (G:Gl st g){x:Str}(hx:x∈st)(h:R (.bl (rdB st g x)) n):FY [rowP st,rowP g,.str x] n R:=by
 refine⟨rfl,?_⟩;unfold MP;obtain⟨i1,i2⟩:=G.ix;obtain⟨o1,o2⟩:=G.og hx;have a1:atI (st.map PV.str) (ixS g x:Int)=some (.str (org st g x)):=BL (by rw[E7,Y1 (by rw[<- o2];exact Q3 o1)];rfl)
 have e:rdB st g x=!decide ((ixS g (org st g x):Int)=(ixS st x:Int)):=by
  unfold rdB
  congr 1
  rw[decide_eq_decide]
  exact⟨λe=>by rw[e,(G.pl hx).2],λe=>by
   have:=(T4 (G.pm.mem_iff.mpr o1)).1;rw[Int.ofNat.inj e,G.at hx] at this
   exact(M9 this).symm⟩
 unfold rowP;generalize st.map PV.str=Z at *;generalize g.map PV.str=W at *;walk_at "pu";refine⟨⟨_,rfl⟩,i2 x hx ?_⟩;dsimp only;rw[a1];refine⟨⟨_,rfl⟩,i2 _ o1 ⟨⟨_,rfl⟩,i1 x hx ?_⟩⟩;show R (.bl (!eqP (.int _) (.int _))) n;rw[DU,<- e];exact h
theorem UL (G:Gl st g)(h:R (.lst ((st.filter (rdB st g)).map (j9 "round"))) n):FZ [rowP st,rowP g] n R:=by
 refine⟨rfl,?_⟩;unfold MQ;have go:∀x∈st,∀{m:Nat} {R:PV->Nat->Prop},R (.bl (rdB st g x)) m->FY [.tup (st.map PV.str),rowP g,.str x] m R:=λx hx {m R} q=>m_goes G hx q;have hS:rowP st=.tup (st.map PV.str):=rfl;have Zl:(st.map PV.str).length<=9:=by rw[B4];exact G.l9
 generalize hZ:st.map PV.str=Z at *;generalize rowP g=W at *;rw[hS];walk_at "pu";refine⟨by omega,?_⟩;rw[<- hZ] at *;refine Jk PV.str (rdB st g) (j9 "round") st _ _ _ (λz hz m Q q=>?_) (λz hz m Q q=>?_) h
 ·generalize st.map PV.str=Z at *;walk_at "pu";exact go z hz q
 ·generalize st.map PV.str=Z at *;walk_at "pu";exact q
theorem g_map (G:Gl st g):g=st.map (pal st g):=by
 apply CD
 intro i;rw[E7]
 by_cases c:i<st.length
 ·rw[Y1 c];show _=some (nm g (ixS st (nm st i)));rw[FP G.nd c];exact Y1 (by rw[G.len];exact c)
 ·rw[R9 (by rw[G.len];omega),R9 (by omega)];rfl
structure To (st g:List Str)(T:List Ev):Prop where
 p:T.Perm (TL st g)
 s:SrP (T.map evP)
theorem Jl:∃T,To st g T:=by
 obtain⟨p,s⟩:=Fv ((TL st g).map evP);obtain⟨T,pT,e⟩:=SeT.A_ p;exact⟨T,pT,e▸s⟩
theorem TL_nd (G:Gl st g):(TL st g).Nodup:=FA _ (G.nd.filter _) λa _ b _ e=>(Ev.t.inj e).2
theorem evs_nd {es:List Ev}(h:es.Nodup):(es.map evP).Nodup:=FA _ h λa _ b _ e=>SV e
theorem To.len {T:List Ev}(G:Gl st g)(t:To st g T):T.length<=9:=by
 rw[t.p.length_eq];unfold TL;rw[B4];exact M2 (Q7 _ _) G.l9
theorem To.mem {T:List Ev}(t:To st g T){e:Ev}(h:e∈T):∃y,y∈st/\e=.t (pal st g y) y/\ixS st y<ixS st (pal st g y):=TL_to (t.p.mem_iff.mp h)
theorem NP {T:List Ev}(G:Gl st g)(t:To st g T)(h:R (shP T) n):Cj [rowP st,rowP g] n R:=by
 refine⟨rfl,?_⟩;unfold MX;have l9:=G.l9;obtain⟨i1,i2⟩:=G.ix;have fin:∀ys,SrtS ys ((TL st g).map evP)->ys=T.map evP:=λys hy=>UI hy (evs_nd (t.p.nodup_iff.mpr (TL_nd G))) (λv=>(t.p.map evP).mem_iff) t.s (NL _)
 have ez:zipP (g.map PV.str) (st.map PV.str)=st.map λy=>.tup [.str (pal st g y),.str y]:=by
  unfold zipP;rw[g_map G,U2,List.zip_map',U2,<- g_map G]
  rfl
 have ll:(TL st g).length<=63:=by
  have:=t.len G;rw[t.p.length_eq] at this;omega
 have zl:(st.map λy=>PV.tup [.str (pal st g y),.str y]).length<=24:=by rw[B4];omega
 have fe:((st.filter (cT st g)).map λy=>PV.tup [.str u4,.str (pal st g y),.str y])=(TL st g).map evP:=by unfold TL;rw[U2];rfl
 unfold rowP;generalize hZ:st.map PV.str=Z at *;generalize hG:g.map PV.str=W at *;walk_at "pu";refine(show(zipP W Z).length<=1000000/\U5 _ _ _ (zipP W Z) [none,none,some (.v (.tup W)),some (.v (.tup Z))] n _ from ?_);rw[ez];refine⟨by omega,?_⟩;refine NM (λy=>.str (pal st g y)) PV.str (cT st g) (λy=>.tup [.str u4,.str (pal st g y),.str y]) st _ _ _ _ (λy hy m Q q=>?_) (λy hy m Q q=>?_) ?_
 ·obtain⟨a,b⟩:=G.pl hy;walk_at "pu";refine⟨⟨_,rfl⟩,i2 _ a ⟨⟨_,rfl⟩,i1 _ a ?_⟩⟩;dsimp only;rw[b,show decide ((ixS st y:Int)<(ixS st (pal st g y):Int))=cT st g y from decide_eq_decide.mpr (by omega)];exact q
 ·walk_at "pu";exact q
 ·rw[fe];refine UJ ll λys hy=>?_;rw[fin ys hy];exact h
end
theorem Jm {α β:Type}{c:Nat}{f:α->List β}:∀(xs:List α),(∀x∈xs,(f x).length<=c)->(xs.flatMap f).length<=c*xs.length:=by
 intro xs
 induction xs with
 |nil=>intro _;exact K3 _
 | cons x xs ih =>
  intro h;rw[k8,E6,E8,Nat.mul_succ];have:=h x C7;have:=ih λy hy=>h y (C3 _ hy);omega
theorem UM {tt:pT}{te:pE}{rest:Pu.Env}{pi:pA}{α:Type}(f:α->PV)(c:α->α->Bool)(k:α->α->PV)(ys:List α)(hy:ys.length<=1000)(hp:∀s0 s1 n Q,Q (ys.map f) (s0::s1::rest) n->pi (s0::s1::rest) n Q):∀(xs:List α) (s0 s1:Option Pu.Slot) (n:Nat) (R:List PV->Nat->Prop),(∀x∈xs,∀y∈ys,∀m Q,Q (c x y) (some (.v (f x))::some (.v (f y))::rest) m->tt (some (.v (f x))::some (.v (f y))::rest) m Q)->(∀x y,∀m Q,Q (k x y) (some (.v (f x))::some (.v (f y))::rest) m->te (some (.v (f x))::some (.v (f y))::rest) m Q)->R (xs.flatMap λx=>(ys.filter (c x)).map (k x)) n->Ca (gN 0) pi (gN 1) tt te (xs.map f) (s0::s1::rest) n R:=by
 intro xs
 induction xs with
 |nil=>intro _ _ _ _ _ _ h;exact h
 | cons x xs ih =>
  intro s0 s1 n R ht he h;show pi (some (.v (f x))::s1::rest) n _;refine hp _ _ _ _ ⟨by rw[B4];exact hy,?_⟩
  have inner:∀(zs:List α) (s1:Option Pu.Slot) (Q:List PV->Pu.Env->Nat->Prop),(∀z∈zs,z∈ys)->(∀s1,Q ((zs.filter (c x)).map (k x)) (some (.v (f x))::s1::rest) n)->AV (gN 1) tt te (zs.map f) (some (.v (f x))::s1::rest) n Q:=by
   intro zs
   induction zs with
   |nil=>intro s1 Q _ q;exact q s1
   | cons z zs ih2 =>
    intro s1 Q hz q;show tt (some (.v (f x))::some (.v (f z))::rest) n _;refine ht x C7 z (hz z C7) _ _ ?_;have hz':=λu hu=>hz u (C3 _ hu);cases e:c x z with
    | true =>
     rw[Cy (by rw[e])] at q;exact if_t rfl (he x z _ _ (ih2 _ _ hz' λs1=>q s1))
    | false =>
     rw[Ef (by rw[e];decide)] at q;exact if_f rfl (ih2 _ _ hz' q)
  rw[k8] at h;exact inner ys _ _ (λ_ z=>z) λs1'=>ih _ _ _ _ (λu hu=>ht u (C3 _ hu)) he h
def farE (r:Nat)(st:List Str):Ev->Bool
 |.t x y=>decide ((r:Int)<((btwU st x y).length:Int))
 |.d _=>false
def crE (st:List Str):Ev->Ev->Bool
 |.t x y,.t x' y'=>decide (four x y x' y')&&!decide (x'∈btwU st x y↔y'∈btwU st x y)
 |_,_=>false
def farP (e:Ev):PV:=.tup [.str (B0 "far"),evP e]
def crP (e e':Ev):PV:=.tup [.str (B0 "cross"),evP e,evP e']
section
variable {st g:List Str}{n r:Nat}{R:PV->Nat->Prop}
theorem UN {T:List Ev}(G:Gl st g)(t:To st g T)(h:R (.lst ((T.filter (farE r st)).map farP++T.flatMap λe=>(T.filter (crE st e)).map (crP e))) n):Gb [rowP st,.int (r:Int),shP T] n R:=by
 refine⟨rfl,?_⟩;unfold MV;have t9:=t.len G;have l9:=G.l9
 have mf:∀e∈T,∀{m:Nat} {R:PV->Nat->Prop},R (.bl (farE r st e)) m->F_ [rowP st,.int (r:Int),evP e] m R:=λe he {m R} q=>by
  obtain⟨y,hy,rfl,_⟩:=t.mem he;exact m_far (by omega) (G.pl hy).1 hy q
 have mc:∀e∈T,∀e'∈T,∀{m:Nat} {R:PV->Nat->Prop},R (.bl (crE st e e')) m->Ga [rowP st,evP e,evP e'] m R:=λe he e' he' {m R} q=>by
  obtain⟨y,hy,rfl,_⟩:=t.mem he;obtain⟨z,hz,rfl,_⟩:=t.mem he';have q:R (.bl (decide (four (pal st g y) y (pal st g z) z)&&!decide (pal st g z∈btwU st (pal st g y) y↔z∈btwU st (pal st g y) y))) m:=q;refine UG (by omega) (G.pl hy).1 hy (λh=>?_) λh h'=>?_
  ·by_cases c:four (pal st g y) y (pal st g z) z
   ·rw[jp (h c),l7,CO] at q;exact q
   ·rw[jq c,CN] at q;exact q
  ·rw[jp h,jq h'] at q;exact q
 have cl:(T.flatMap λe=>(T.filter (crE st e)).map (crP e)).length<=9*T.length:=Jm T λe he=>by
  rw[B4];exact M2 (Q7 _ _) t9
 unfold shP;have Tl:(T.map evP).length<=9:=by rw[B4];omega
 have fl:=Q7 (farE r st) T;generalize rowP st=S at *;generalize hX:T.map evP=X at *;walk_at "pu";refine⟨by omega,?_⟩;rw[<- hX] at Tl ⊢;refine Jk evP (farE r st) farP T _ _ _ (λe he m Q q=>?_) (λe he m Q q=>?_) ?_
 ·generalize hp:evP e=E;walk_at "pu";rw[<- hp];exact mf e he q
 ·unfold farP at q;generalize evP e=E at *;walk_at "pu";exact q
 ·have Al:((T.filter (farE r st)).map farP).length<=9:=by rw[B4];omega
  generalize (T.filter (farE r st)).map farP=A at *;walk_at "pu";refine⟨⟨_,rfl⟩,by omega,?_⟩;refine UM evP (crE st) crP T (by omega) (λs0 s1 n Q q=>q) T _ _ _ _ (λe he e' he' m Q q=>?_) (λe e' m Q q=>?_) ⟨by omega,h⟩
  ·generalize hp:evP e=E;generalize hp':evP e'=E';walk_at "pu";rw[<- hp,<- hp'];exact mc e he e' he' q
  ·unfold crP at q;generalize evP e=E at *;generalize evP e'=E' at *;generalize T.map evP=X at *;walk_at "pu";exact q
inductive ReV (r:Nat)(st g:List Str):PV->Prop
 |round {x:Str} (hx:x∈st) (h:org st g x≠pal st g x):ReV r st g (j9 "round" x)
 |far {y:Str} (nr:NR st g) (hy:y∈st) (ly:ixS st y<ixS st (pal st g y)) (h:r<ixS st (pal st g y)-ixS st y-1):ReV r st g (farP (.t (pal st g y) y))
 |cross {y z:Str} (nr:NR st g) (hy:y∈st) (ly:ixS st y<ixS st (pal st g y)) (hz:z∈st) (lz:ixS st z<ixS st (pal st g z)) (h:Crs (ixS st y) (ixS st (pal st g y)) (ixS st z) (ixS st (pal st g z))):ReV r st g (crP (.t (pal st g y) y) (.t (pal st g z) z))
theorem NQ {th:List Str}(nd:st.Nodup)(nt:th.Nodup)(l9:st.length<=9)(h:strg st th=[]):Gl st (P1 st th):=by
 have nD:(th.drop 1).Nodup:=nt.sublist (List.drop_sublist _ _)
 have hs:∀x∈th.drop 1,x∈st:=λx hx=>by
  have:=Ar.mp h x hx
  simpa using this
 unfold P1;refine⟨nd,(GA ?_ nd).mpr λx=>?_,l9⟩
 ·refine Ej.mpr ⟨nd.filter _,nD,λa ha b hb e=>?_⟩;subst e;have:=(J9.mp ha).2;rw[jp hb] at this;cases this
 ·rw[M8,J9];constructor
  ·rintro(h|h)
   ·exact h.1
   ·exact hs x h
  ·intro h
   by_cases c:x∈th.drop 1
   ·exact .inr c
   ·exact .inl ⟨h,by rw[jq c];rfl⟩
theorem UO {α:Type}{P:List α->Prop}(L:List α)(h0:L=[]->P [])(h1:∀v L',v∈L->L'.length<L.length->P (v::L')):P L:=by
 cases L with
 |nil=>exact h0 rfl
 |cons v L=>exact h1 v L C7 (Em _)
theorem UP {T:List Ev}(G:Gl st g)(t:To st g T)(nr:NR st g){P:List PV->Prop}(h0:Ok r st g->P [])(h1:∀v L,ReV r st g v->L.length<=1000->P (v::L)):P ((T.filter (farE r st)).map farP++T.flatMap λe=>(T.filter (crE st e)).map (crP e)):=by
 have far:∀y,y∈st->ixS st y<ixS st (pal st g y)->(farE r st (.t (pal st g y) y)=true↔r<ixS st (pal st g y)-ixS st y-1):=λy hy ly=>by
  show decide ((r:Int)<((btwU st (pal st g y) y).length:Int))=true↔_;rw[decide_eq_true_eq,btw_len (G.pl hy).1 ly];omega
 have crs:∀y z,y∈st->z∈st->ixS st y<ixS st (pal st g y)->ixS st z<ixS st (pal st g z)->(crE st (.t (pal st g y) y) (.t (pal st g z) z)=true↔Crs (ixS st y) (ixS st (pal st g y)) (ixS st z) (ixS st (pal st g z))):=λy z hy hz ly lz=>by
  rw[<- G.cross nr hy ly hz lz];show(decide (four (pal st g y) y (pal st g z) z)&&!decide (pal st g z∈btwU st (pal st g y) y↔z∈btwU st (pal st g y) y))=true↔_;rw[h9,decide_eq_true_eq,Bool.not_eq_true',decide_eq_false_iff_not]
 have mT:∀y,y∈st->ixS st y<ixS st (pal st g y)->Ev.t (pal st g y) y∈T:=λy hy ly=>t.p.mem_iff.mpr (NN.mpr ⟨hy,rfl,ly⟩);have t9:=t.len G
 have cl:(T.flatMap λe=>(T.filter (crE st e)).map (crP e)).length<=9*T.length:=Jm T λe he=>by
  rw[B4];exact M2 (Q7 _ _) t9
 have fl:=Q7 (farE r st) T;refine UO (P:=P) _ (λe=>?_) λv L hv hL=>?_
 ·obtain⟨e1,e2⟩:=List.append_eq_nil_iff.mp e;have e1:=Ar.mp (List.map_eq_nil_iff.mp e1);refine h0 ⟨nr,λy hy ly=>?_,λy hy ly z hz lz c=>?_⟩
  ·exact Av λq=>e1 _ (mT y hy ly) ((far y hy ly).mpr q)
  ·have:=List.flatMap_eq_nil_iff.mp e2 _ (mT y hy ly);exact Ar.mp (List.map_eq_nil_iff.mp this) _ (mT z hz lz) ((crs y z hy hz ly lz).mpr c)
 ·rw[E6,B4] at hL;have hL:L.length<=1000:=by omega
  rcases M8.mp hv with hv|hv
  ·obtain⟨e,he,rfl⟩:=F3.mp hv;obtain⟨he,hf⟩:=J9.mp he;obtain⟨y,hy,rfl,ly⟩:=t.mem he;exact h1 _ _ (.far nr hy ly ((far y hy ly).mp hf)) hL
  ·obtain⟨e,he,hv⟩:=V7.mp hv;obtain⟨e',he',rfl⟩:=F3.mp hv;obtain⟨y,hy,rfl,ly⟩:=t.mem he;obtain⟨hf',hf⟩:=J9.mp he';obtain⟨z,hz,rfl,lz⟩:=t.mem hf';exact h1 _ _ (.cross nr hy ly hz lz ((crs y z hy hz ly lz).mp hf)) hL
theorem UQ {s n k m:Nat}{row':List Str}(nd:st.Nodup)(l9:st.length<=9)(nr':row'.Nodup)(h8:s<=8)(hn:1<=n)(h24:n<=24)(hl:row'.length=n)(hk:k<=1000)
   (hA:∀x L,x∈strg st (C2 s n k row')->L.length<=1000->R (.lst (j9 "from" x::L)) m) (hB:strg st (C2 s n k row')=[]->∀v L,ReV r st (P1 st (C2 s n k row')) v->L.length<=1000->R (.lst (v::L)) m) (hC:strg st (C2 s n k row')=[]->Ok r st (P1 st (C2 s n k row'))->R (.lst []) m):Gc [.tup [.int (s:Int),.int (r:Int)],rowP st,rowP row',.int (k:Int)] m R:=by
 refine⟨rfl,?_⟩;unfold MY;have nt:(C2 s n k row').Nodup:=nr'.sublist ((List.drop_sublist _ _).trans (List.take_sublist _ _));have m1:∀{m:Nat} {R:PV->Nat->Prop},R (.lst ((strg st (C2 s n k row')).map (j9 "from"))) m->FX [.tup [.int (s:Int),.int (r:Int)],rowP st,rowP row',.int (k:Int)] m R:=λq=>m_from h8 hn h24 hl hk q;have m2:∀{m:Nat} {R:PV->Nat->Prop},R (rowP (P1 st (C2 s n k row'))) m->Ch [.tup [.int (s:Int),.int (r:Int)],rowP st,rowP row',.int (k:Int)] m R:=λq=>NO h8 hn h24 hl hk (by omega) q;have tl:(C2 s n k row').length<=24:=by rw[AY hl hn];have:=Ai (s:=s) (k:=k) hn;omega
 generalize C2 s n k row'=th at *;refine D2 λU hU=>?_;generalize hS:rowP st=S at *;generalize rowP row'=W at *;walk_at "pu";refine m1 ?_;subst hU;refine D2 λU hU=>?_;walk_at "pu";cases hs:strg st th with
 |cons x L=>exact if_t rfl (hA x _ (by rw[hs];exact C7) (by
     have h1:(strg st th).length<=(th.drop 1).length:=Q7 _ _;rw[hs,E8,P6] at h1;rw[B4]
     omega))
 | nil =>
  have G:=NQ nd nt l9 hs;have hB:=hB hs;have hC:=hC hs;have m3:∀{m:Nat} {R:PV->Nat->Prop},R (.lst ((st.filter (rdB st (P1 st th))).map (j9 "round"))) m->FZ [S,rowP (P1 st th)] m R:=λq=>by rw[<- hS];exact UL G q
  obtain⟨T,t⟩:=@Jl st (P1 st th);have m4:∀{m:Nat} {R:PV->Nat->Prop},R (shP T) m->Cj [S,rowP (P1 st th)] m R:=λq=>by rw[<- hS];exact NP G t q
  have m5:∀{m:Nat} {R:PV->Nat->Prop},R (.lst ((T.filter (farE r st)).map farP++T.flatMap λe=>(T.filter (crE st e)).map (crP e))) m->Gb [S,.int (r:Int),shP T] m R:=λq=>by rw[<- hS];exact UN G t q
  refine if_f rfl ?_;subst hU;refine D2 λU hU=>?_;walk_at "pu";refine m2 ?_;generalize P1 st th=g at *;generalize rowP g=Q at *;subst hU;walk_at "pu";refine m3 ?_;cases hr:st.filter (rdB st g) with
  | cons x L =>
   obtain⟨hx,hf⟩:=J9.mp (show x∈st.filter (rdB st g) by rw[hr];exact C7);have hf:(!decide (org st g x=pal st g x))=true:=hf;rw[Bool.not_eq_true',decide_eq_false_iff_not] at hf;have h1:=Q7 (rdB st g) st;rw[hr,E8] at h1;exact if_t rfl (hB _ _ (.round hx hf) (by rw[B4];omega))
  | nil =>
   have nr:NR st g:=λy hy=>by
    have:=Ar.mp hr y hy;unfold rdB at this
    simpa using this
   refine if_f rfl (m4 (m5 ?_));exact UP G t nr (P:=λL=>R (.lst L) m) hC hB
end
def btE (st:List Str)(e:Ev):List Str:=match e with|.t x y=>btwU st x y|.d _=>[]
def witB (st:List Str)(T:List Ev):List Str:=T.flatMap (btE st)
def Jn (st:List Str)(T:List Ev)(v:PV):Prop:=∃D F:List Str,v=.tup [shP T,rowP D,rowP F]/\(D.Perm (st.filter λz=>decide (z∈witB st T)&&!decide (z∈T.flatMap evB))/\SrP (D.map PV.str))/\F.Perm (st.filter λz=>!decide (z∈witB st T)&&!decide (z∈T.flatMap evB))/\SrP (F.map PV.str)
theorem NT {a b:List Str}(h:a.Perm b)(sa:SrP (a.map PV.str))(sb:SrP (b.map PV.str)):rowP a=rowP b:=by
 have p:=h.map PV.str;exact congrArg PV.tup (p.eq_of_pairwise (λx y hx hy e1 e2=>UH a x hx y (p.mem_iff.mpr hy) (Io e2 e1)) sa sb)
noncomputable def Co (st:List Str) (T:List Ev):PV:=@Classical.epsilon PV ⟨.non⟩ (Jn st T)
theorem Jo {st:List Str}{T:List Ev}{v:PV}(h:Jn st T v):Co st T=v:=by
 obtain⟨D,F,rfl,⟨d1,d2⟩,f1,f2⟩:=id h;obtain⟨D',F',e,⟨d1',d2'⟩,f1',f2'⟩:=@Classical.epsilon_spec_aux PV ⟨.non⟩ (Jn st T) ⟨_,h⟩;refine Eq.trans e ?_;rw[NT (d1'.trans d1.symm) d2' d2,NT (f1'.trans f1.symm) f2' f2]
theorem NU (zs:List Str):Fu (zs.map PV.str):=.inr (.inl λx hx=>by
 obtain⟨z,_,rfl⟩:=F3.mp hx
 exact⟨z,rfl⟩)
section
variable {st g:List Str}{T:List Ev}{n:Nat}{R:PV->Nat->Prop}
theorem NV:∃D F:List Str,Co st T=.tup [shP T,rowP D,rowP F]/\D.length<=st.length/\F.length<=st.length/\(∀z∈D,z∈st)/\∀z∈F,z∈st:=by
 have one:∀p:Str->Bool,∃O:List Str,O.Perm (st.filter p)/\SrP (O.map PV.str):=λp=>by
  obtain⟨a,b⟩:=Fv ((st.filter p).map PV.str);obtain⟨O,q,e⟩:=SeT.A_ a;exact⟨O,q,e▸b⟩
 obtain⟨D,d1,d2⟩:=one λz=>decide (z∈witB st T)&&!decide (z∈T.flatMap evB);obtain⟨F,f1,f2⟩:=one λz=>!decide (z∈witB st T)&&!decide (z∈T.flatMap evB);exact⟨D,F,Jo ⟨D,F,rfl,⟨d1,d2⟩,f1,f2⟩,by rw[d1.length_eq];exact Q7 _ _,by rw[f1.length_eq];exact Q7 _ _,λz hz=>(J9.mp (d1.mem_iff.mp hz)).1,λz hz=>(J9.mp (f1.mem_iff.mp hz)).1⟩
theorem m_race (G:Gl st g)(t:To st g T)(h:R (Co st T) n):Ge [rowP st,shP T] n R:=by
 refine⟨rfl,?_⟩;unfold Nf;have t9:=t.len G;have s9:=G.l9;have mb:∀{m:Nat} {R:PV->Nat->Prop},R (.lst ((T.flatMap evB).map PV.str)) m->Ci [shP T] m R:=λq=>NJ (by omega) q
 have mw:∀e∈T,∀{m:Nat} {R:PV->Nat->Prop},R (rowP (btE st e)) m->Ba [.tup (st.map PV.str),evP e] m R:=λe he {m R} q=>by
  obtain⟨y,hy,rfl,_⟩:=t.mem he;exact Ji (by omega) (G.pl hy).1 hy q
 have bl:∀e∈T,(btE st e).length<=9:=λe he=>by
  obtain⟨y,hy,rfl,ly⟩:=t.mem he;show(btwU st (pal st g y) y).length<=9;have:=Q3 (G.pl hy).1;rw[btw_len (G.pl hy).1 ly];omega
 have fin:∀O:List Str,O.Perm (st.filter λb=>!decide (b∈T.flatMap evB))->SrP (O.map PV.str)->R (.tup [shP T,rowP (O.filter λb=>decide (b∈witB st T)),rowP (O.filter λb=>!decide (b∈witB st T))]) n:=λO p so=>by
  have so':=k9.mp so;have:=h;rw[Jo ⟨_,_,rfl,⟨(p.filter λb=>decide (b∈witB st T)).trans (by rw[List.filter_filter]),k9.mpr (so'.filter _)⟩,(p.filter λb=>!decide (b∈witB st T)).trans (by rw[List.filter_filter]),k9.mpr (so'.filter _)⟩] at this;exact this
 have hS:rowP st=.tup (st.map PV.str):=rfl;have hP:(T.flatMap λe=>(btE st e).map PV.str)=(witB st T).map PV.str:=by unfold witB;rw[List.map_flatMap]
 have hT:shP T=.tup (T.map evP):=rfl;have Zl:(st.map PV.str).length<=9:=by rw[B4];exact s9
 have Fl:∀p:Str->Bool,((st.filter p).map PV.str).length<=9:=λp=>by
  rw[B4];have:=Q7 p st;omega
 have ok:=λp:Str->Bool=>NU (st.filter p);generalize hM:(T.flatMap evB).map PV.str=M at *;generalize hZ:st.map PV.str=Z at *;rw[hS];generalize hG:shP T=H at *;walk_at "pu";refine mb ?_;rw[hT];refine⟨by rw[B4];omega,?_⟩;refine NI evP (λe=>(btE st e).map PV.str) T _ _ _ _ (λe he s1 m Q q=>?_) (λe he=>by rw[B4];have:=bl e he;omega) ?_
 ·generalize hp:evP e=E;walk_at "pu";rw[<- hp];exact mw e he q
 ·rw[hP];generalize hW:(witB st T).map PV.str=W;refine⟨by omega,?_⟩;rw[<- hZ];refine u3 PV.str (λb=>!decide (b∈T.flatMap evB)) st _ _ _ (λz hz m Q q=>?_) ?_
  ·walk_at "pu";exact IB hM q
  ·refine⟨Bm (Fl _) (by decide),ok _,λys hy=>?_⟩;obtain⟨O,po,rfl⟩:=SeT.A_ hy.1;have ol:(O.map PV.str).length<=1000000:=by rw[hy.1.length_eq];exact M2 (Fl _) (by decide)
   refine⟨ol,u3 PV.str (λb=>decide (b∈witB st T)) O _ _ _ (λz hz m Q q=>?_) ⟨ol,u3 PV.str (λb=>!decide (b∈witB st T)) O _ _ _ (λz hz m Q q=>?_) ?_⟩⟩
   ·walk_at "pu";exact IA hW q
   ·walk_at "pu";exact IB hW q
   ·rw[<- hT];exact fin O po hy.2
def prP (st g:List Str)(y:Str):PV:=.tup [.int (ixS st y:Int),.int (ixS st (pal st g y):Int)]
def prs (st g:List Str):List PV:=(st.filter (cT st g)).map (prP st g)
theorem at_g (G:Gl st g){y:Str}(hy:y∈st):atI (g.map PV.str) (ixS st y:Int)=some (.str (pal st g y)):=BL (by rw[E7,G.at hy];rfl)
theorem Gs {y:Str}(hy:y∈st):atI (st.map PV.str) (ixS st y:Int)=some (.str y):=BL (by rw[E7,(T4 hy).1];rfl)
theorem NW (G:Gl st g)(h0:∀x∈st,org st g x≠pal st g x->R .non n)(h1:NR st g->R (.lst (prs st g)) n):Cm [rowP st,rowP g] n R:=by
 refine⟨rfl,?_⟩;unfold No;have l9:=G.l9;obtain⟨i1,i2⟩:=G.ix;have ag:=λy hy=>@at_g st g G y hy;have ao:∀y∈st,atI (st.map PV.str) (ixS g y:Int)=some (.str (org st g y)):=λy hy=>by rw[<- (G.og hy).2];exact Gs (G.og hy).1
 have Zl:(st.map PV.str).length=st.length:=B4 ..;unfold rowP;generalize hZ:st.map PV.str=Z at *;generalize g.map PV.str=W at *;walk_at "pu";refine Q1 (λi env m=>∃s3 s4 s5,env=[some (.v (.tup Z)),some (.v (.tup W)),some (.own (((st.take i).filter (cT st g)).map (prP st g))),s3,s4,s5]/\m=n/\∀y∈st.take i,org st g y=pal st g y) _ 0 _ _ ⟨none,none,none,rfl,rfl,λy hy=>by simp at hy⟩ (λi x env m N ex hI hN=>?_) (λenv m hI=>?_)
 ·obtain⟨y,ey,rfl⟩:=HC ex;rw[<- hZ] at ey;obtain⟨z,ez,rfl⟩:=Cd ey;obtain⟨s3,s4,s5,rfl,rfl,hI⟩:=hI;rw[J3] at hN hI ⊢;have hz:=J5 ez;have hi:i=ixS st z:=Cb G.nd ez (T4 hz).1
  have fl:(((st.take i).filter (cT st g)).map (prP st g)).length<=9:=by
   rw[B4];have a:=Q7 (cT st g) (st.take i);rw[O5] at a;omega
  rw[Ce ez,List.filter_append,N8] at hN;generalize ((st.take i).filter (cT st g)).map (prP st g)=A at *;have a1:=ag z hz;have a2:=ao z hz;rw[<- hi] at a1;walk_at "pu";refine⟨⟨_,rfl⟩,i2 z hz ?_⟩;dsimp only;rw[a2,a1];dsimp only
  by_cases c:org st g z=pal st g z
  ·refine if_f (by rw[Bb,jp c];rfl) ?_;have eo:ixS g z=ixS st (pal st g z):=by rw[<- c];exact(G.og hz).2.symm
   have nx:∀y∈st.take i++[z],org st g y=pal st g y:=λy hy=>(M8.mp hy).elim (hI y) λe=>by rw[K2.mp e];exact c
   rw[eo]
   by_cases c2:ixS st z<ixS st (pal st g z)
   ·have f1:[z].filter (cT st g)=[z]:=Cy (jp c2);rw[f1,show [z].map (prP st g)=[.tup [.int (i:Int),.int (ixS st (pal st g z):Int)]] by rw[hi];rfl] at hN;exact if_t (jp (by omega)) ⟨⟨_,rfl⟩,by omega,hN _ _ ⟨_,_,_,rfl,rfl,nx⟩⟩
   ·have f1:[z].filter (cT st g)=[]:=Ef (by rw[show cT st g z=false from jq c2];decide);rw[f1,w9,X3] at hN;exact if_f (jq (by omega)) (hN _ _ ⟨_,_,_,rfl,rfl,nx⟩)
  ·exact if_t (by rw[Bb,jq c];rfl) (h0 z hz c)
 ·obtain⟨s3,s4,s5,rfl,rfl,hI⟩:=hI;rw[HD,J3,Zl,CF] at hI ⊢;have:=h1 hI;unfold prs at this;generalize (st.filter (cT st g)).map (prP st g)=A at *;walk_at "pu";exact this
end
theorem Jp {α:Type}(xs:List α)(f:α->Bool):j3 (xs.map λx=>PV.bl (f x))=some (xs.map f):=by
 rw[<- KL (xs.map f),U2];rfl
theorem Jq {α:Type}(xs:List α)(f:α->Bool):(xs.map f).any id=xs.any f:=by rw[List.any_map];rfl
theorem NX {a b c d n:Nat}{R:PV->Nat->Prop}(h:R (.bl (!decide ((a<c/\c<b)↔(a<d/\d<b)))) n):DR [.tup [.int (a:Int),.int (b:Int)],.tup [.int (c:Int),.int (d:Int)]] n R:=by
 refine⟨rfl,?_⟩;unfold Np
 have fin:∀u v:Bool,(u=true↔a<c/\c<b)->(v=true↔a<d/\d<b)->R (.bl (!decide (u=v))) n:=λu v hu hv=>by
  have e:decide (u=v)=decide ((a<c/\c<b)↔(a<d/\d<b)):=by rw[decide_eq_decide,<- hu,<- hv];exact Y9
  rw[e];exact h
 walk_at "pu"
 by_cases h1:a<c
 ·refine if_t (jp (by omega)) ?_
  by_cases h2:a<d
  ·exact if_t (jp (by omega)) (fin _ _ (by simp[h1]) (by simp[h2]))
  ·exact if_f (jq (by omega)) (fin _ false (by simp[h1]) (by simp[h2]))
 ·refine if_f (jq (by omega)) ?_
  by_cases h2:a<d
  ·exact if_t (jp (by omega)) (fin false _ (by simp[h1]) (by simp[h2]))
  ·exact if_f (jq (by omega)) (fin false false (by simp[h1]) (by simp[h2]))
section
variable {st g:List Str}{T:List Ev}{n r:Nat}{R:PV->Nat->Prop}
def crB (st g:List Str)(y z:Str):Bool:=!decide ((ixS st y<ixS st z/\ixS st z<ixS st (pal st g y))↔(ixS st y<ixS st (pal st g z)/\ixS st (pal st g z)<ixS st (pal st g y)))
theorem Jr (G:Gl st g):(prs st g).length<=9:=by
 unfold prs;rw[B4];exact M2 (Q7 _ _) G.l9
theorem UR (G:Gl st g)(h:R (.bl (decide (∀y∈st.filter (cT st g),∀z∈st.filter (cT st g),crB st g y z=false))) n):Gi [.lst (prs st g)] n R:=by
 refine⟨rfl,?_⟩;unfold Nq;have pl:=Jr G;unfold prs at *;generalize st.filter (cT st g)=Y at *;have hY:(Y.map (prP st g)).length=Y.length:=B4 ..;generalize hX:Y.map (prP st g)=X at *;walk_at "pu";refine Q1 (λi env m=>∃s1,env=[some (.v (.lst X)),s1]/\m=n/\∀y∈Y.take i,∀z∈Y,crB st g y z=false) _ 0 _ _ ⟨none,rfl,rfl,λy hy=>by simp at hy⟩ (λi x env m N ex hI hN=>?_) (λenv m hI=>?_)
 ·obtain⟨s1,rfl,rfl,hI⟩:=hI;rw[<- hX] at ex;obtain⟨y,ey,rfl⟩:=Cd ex;rw[J3] at hI hN;rw[Ce ey] at hN;generalize hP:prP st g y=P;walk_at "pu";refine⟨by omega,?_⟩;rw[<- hX];refine LA (prP st g) (λz=>.bl (crB st g y z)) Y _ m _ (λz hz m' Q q=>?_) ?_
  ·generalize hP':prP st g z=P' at *;walk_at "pu";subst hP hP';exact NX q
  ·rw[Jp];dsimp only;rw[Jq,hX];cases ha:Y.any (crB st g y) with
   | true =>
    obtain⟨z,hz,c⟩:=l4.mp ha;refine if_t rfl ?_;rw[jq λq=>by rw[q y (J5 ey) z hz] at c;cases c] at h;exact h
   | false =>
    refine if_f rfl (hN _ _ ⟨_,rfl,rfl,λu hu=>?_⟩);rcases M8.mp hu with hu|hu
    ·exact hI u hu
    ·rw[K2.mp hu];exact λz hz=>by simpa using Ei.mp ha z hz
 ·obtain⟨s1,rfl,rfl,hI⟩:=hI;rw[J3,hY,CF] at hI;walk_at "pu";rw[jp hI] at h;exact h
theorem m_lcan (G:Gl st g)(h:∀b:Bool,(b=true↔Ok r st g)->R (.bl b) n):Gj [rowP st,rowP g,.int (r:Int)] n R:=by
 refine⟨rfl,?_⟩;unfold Nr;have mp:∀{m:Nat} {R:PV->Nat->Prop},(∀x∈st,org st g x≠pal st g x->R .non m)->(NR st g->R (.lst (prs st g)) m)->Cm [rowP st,rowP g] m R:=λa b=>NW G a b;have mn:∀{m:Nat} {R:PV->Nat->Prop},R (.bl (decide (∀y∈st.filter (cT st g),∀z∈st.filter (cT st g),crB st g y z=false))) m->Gi [.lst (prs st g)] m R:=λq=>UR G q;have pl:=Jr G;have hX:prs st g=(st.filter (cT st g)).map (prP st g):=rfl;have mY:∀y,y∈st.filter (cT st g)↔y∈st/\ixS st y<ixS st (pal st g y):=λy=>by rw[J9];unfold cT;rw[decide_eq_true_iff]
 generalize rowP st=S at *;generalize rowP g=W at *;refine D2 λU hU=>?_;walk_at "pu";refine mp (λx hx c=>?_) λnr=>?_
 ·subst hU;walk_at "pu";exact h false ⟨nofun,λo=>absurd (o.nr x hx) c⟩
 ·generalize prs st g=X at *;subst hU;refine D2 λU hU=>?_;walk_at "pu";refine⟨by omega,?_⟩;rw[hX];refine Fm (λy:Str=>PV.int (ixS st y:Int)) (λy=>PV.int (ixS st (pal st g y):Int)) (λy=>PV.bl (decide (r<ixS st (pal st g y)-ixS st y-1))) (st.filter (cT st g)) _ _ _ _ (λy hy m Q q=>?_) ?_
  ·have:=(mY y).mp hy;walk_at "pu";rw[show decide ((r:Int)<(ixS st (pal st g y):Int)-(ixS st y:Int)-1)=decide (r<ixS st (pal st g y)-ixS st y-1) from decide_eq_decide.mpr (by omega)];exact q
  ·rw[Jp];dsimp only;rw[Jq,<- hX];cases ha:(st.filter (cT st g)).any λy=>decide (r<ixS st (pal st g y)-ixS st y-1) with
   | true =>
    obtain⟨y,hy,c⟩:=l4.mp ha;have c:=ju c;refine if_t rfl (h false ⟨nofun,λo=>?_⟩);have:=o.near y ((mY y).mp hy).1 ((mY y).mp hy).2;omega
   | false =>
    refine if_f rfl ?_;subst hU;walk_at "pu";refine mn (h _ ?_);rw[decide_eq_true_iff]
    have cr:∀y z,crB st g y z=false↔¬Crs (ixS st y) (ixS st (pal st g y)) (ixS st z) (ixS st (pal st g z)):=λy z=>by
     unfold crB Crs;rw[Bool.not_eq_false',decide_eq_true_iff,Classical.not_not]
    constructor
    ·intro q;refine⟨nr,λy hy ly=>?_,λy hy ly z hz lz=>(cr y z).mp (q y ((mY y).mpr ⟨hy,ly⟩) z ((mY z).mpr ⟨hz,lz⟩))⟩;have:=Ei.mp ha y ((mY y).mpr ⟨hy,ly⟩)
     simpa using this
    ·exact λo y hy z hz=>(cr y z).mpr (o.plain y ((mY y).mp hy).1 ((mY y).mp hy).2 z ((mY z).mp hz).1 ((mY z).mp hz).2)
end
section
variable {st g:List Str}{T:List Ev}{n r:Nat}{R:PV->Nat->Prop}
def metI (st g:List Str)(Y:List Str):List PV:=Y.flatMap λy=>[.int (ixS st y:Int),.int (ixS st (pal st g y):Int)]
theorem US {Y:List Str}{k:Nat}:memP (.int (k:Int)) (metI st g Y)=true↔∃y∈Y,k=ixS st y\/k=ixS st (pal st g y):=by
 unfold memP metI;rw[List.any_flatMap,l4];refine exists_congr λy=>and_congr_right λ_=>?_;show(eqP (.int (ixS st y:Int)) (.int (k:Int))||(eqP (.int (ixS st (pal st g y):Int)) (.int (k:Int))||false))=true↔_;rw[DU,DU,Ax,Bool.or_eq_true,decide_eq_true_iff,decide_eq_true_iff];omega
theorem UT (Y:List Str):(metI st g Y).all (cmpb 4)=true:=R4.mpr λv hv=>by
 obtain⟨y,_,hv⟩:=V7.mp hv;simp only[C5,L9,or_false] at hv;rcases hv with rfl|rfl <;> rfl
theorem To.met (G:Gl st g)(t:To st g T){z:Str}(hz:z∈st):z∈T.flatMap evB↔∃y∈st.filter (cT st g),ixS st z=ixS st y\/ixS st z=ixS st (pal st g y):=by
 rw[(t.p.flatMap_right evB).mem_iff];unfold TL;rw[List.flatMap_map,V7];refine exists_congr λy=>and_congr_right λhy=>?_;have hy:=(J9.mp hy).1;simp only[evB,C5,L9,or_false];constructor
 ·rintro(rfl|rfl)
  ·exact .inr rfl
  ·exact .inl rfl
 ·rintro(e|e)
  ·exact .inr (u6 hz hy e)
  ·exact .inl (u6 hz (G.pl hy).1 e)
theorem To.wit (G:Gl st g)(t:To st g T){z:Str}(hz:z∈st):z∈witB st T↔∃y∈st.filter (cT st g),ixS st y<ixS st z/\ixS st z<ixS st (pal st g y):=by
 unfold witB;rw[(t.p.flatMap_right (btE st)).mem_iff];unfold TL;rw[List.flatMap_map,V7];refine exists_congr λy=>and_congr_right λhy=>?_;obtain⟨hy,c⟩:=J9.mp hy;have c:=ju c;show z∈btwU st (pal st g y) y↔_;rw[IJ G.nd (G.pl hy).1 hy,show min (ixS st (pal st g y)) (ixS st y)=ixS st y by omega,show max (ixS st (pal st g y)) (ixS st y)=ixS st (pal st g y) by omega];exact and_iff_right hz
theorem UU (G:Gl st g)(t:To st g T)(h:R (Co st T) n):Gg [rowP st,.lst (prs st g)] n R:=by
 refine⟨rfl,?_⟩;unfold Nn;have l9:=G.l9;have pl:=Jr G
 have fin:∀X D F:List PV,Srt X ((TL st g).map evP)->Srt D ((st.filter λz=>decide (z∈witB st T)&&!decide (z∈T.flatMap evB)).map PV.str)->Srt F ((st.filter λz=>!decide (z∈witB st T)&&!decide (z∈T.flatMap evB)).map PV.str)->R (.tup [.tup X,.tup D,.tup F]) n:=λX D F hX hD hF=>by
  obtain⟨D,pD,rfl⟩:=SeT.A_ hD.1;obtain⟨F,pF,rfl⟩:=SeT.A_ hF.1
  have e:X=T.map evP:=by
   have p:X.Perm (T.map evP):=hX.1.trans (t.p.map evP).symm;exact p.eq_of_pairwise (λx y hx hy e1 e2=>NL T x (p.mem_iff.mp hx) y hy (Io e2 e1)) hX.2 t.s
  have:=h;rw[Jo ⟨D,F,rfl,⟨pD,hD.2⟩,pF,hF.2⟩] at this;rw[e];exact this
 have mt:=λz hz=>@US st g (st.filter (cT st g)) (ixS st z) |>.trans (t.met G (z:=z) hz).symm;have mw:=λz hz=>t.wit G (z:=z) hz;have mc:=@UT st g (st.filter (cT st g));have hTL:(TL st g).map evP=(st.filter (cT st g)).map λy=>PV.tup [.str u4,.str (pal st g y),.str y]:=by unfold TL;rw[U2];rfl
 have tl9:((TL st g).map evP).length<=9:=by rw[B4,<- t.p.length_eq];exact t.len G
 have ay:∀y∈st.filter (cT st g),atI (st.map PV.str) (ixS st y:Int)=some (.str y)/\atI (st.map PV.str) (ixS st (pal st g y):Int)=some (.str (pal st g y)):=λy hy=>
  have hy:=(J9.mp hy).1
  ⟨Gs hy,Gs (G.pl hy).1⟩
 have Zl:(st.map PV.str).length=st.length:=B4 ..;have Yl:=Q7 (cT st g) st;unfold prs at *;unfold rowP;generalize hY:st.filter (cT st g)=Y at *;have hYl:(Y.map (prP st g)).length=Y.length:=B4 ..;generalize hX:Y.map (prP st g)=X at *;generalize hZ:st.map PV.str=Z at *;refine D2 λU hU=>?_;walk_at "pu";subst hU;refine D2 λU hU=>?_;walk_at "pu";refine Q1 (λi env m=>∃s3,env=[some (.v (.tup Z)),some (.v (.lst X)),some (.own (metI st g (Y.take i))),s3,none,none,none,none,none]/\m=n) _ 0 _ _ ⟨none,rfl,rfl⟩ (λi x env m N ex hI hN=>?_) (λenv m hI=>?_)
 ·obtain⟨s3,rfl,rfl⟩:=hI;rw[<- hX] at ex;obtain⟨y,ey,rfl⟩:=Cd ex;rw[J3] at hN ⊢
  have e:metI st g (Y.take (i+1))=metI st g (Y.take i)++[.int (ixS st y:Int),.int (ixS st (pal st g y):Int)]:=by
   unfold metI;rw[Ce ey,List.flatMap_append,k8,List.flatMap_nil,X3]
  have ml:(metI st g (Y.take i)).length<=2*(Y.take i).length:=Jm _ λy _=>by simp
  rw[O5] at ml;rw[e] at hN;generalize metI st g (Y.take i)=A at *;unfold prP;walk_at "pu";exact⟨⟨_,rfl⟩,by omega,hN _ _ ⟨_,rfl,rfl⟩⟩
 ·obtain⟨s3,rfl,rfl⟩:=hI;rw[J3,hYl,CF];generalize metI st g Y=A at *;subst hU;refine D2 λU hU=>?_;walk_at "pu";subst hU;refine D2 λU hU=>?_;walk_at "pu";subst hU;refine D2 λU hU=>?_;walk_at "pu";refine Q1 (λi env m'=>∃s6 s7,env=[some (.v (.tup Z)),some (.v (.lst X)),some (.own A),s3,some (.own (((st.take i).filter λz=>decide (z∈witB st T)&&!decide (z∈T.flatMap evB)).map PV.str)),some (.own (((st.take i).filter λz=>!decide (z∈witB st T)&&!decide (z∈T.flatMap evB)).map PV.str)),s6,s7,none]/\m'=m) _ 0 _ _ ⟨none,none,rfl,rfl⟩ (λi x env m' N ex hI hN=>?_) (λenv m' hI=>?_)
  ·obtain⟨y,ey,rfl⟩:=HC ex;rw[<- hZ] at ey;obtain⟨z,ez,rfl⟩:=Cd ey;obtain⟨s6,s7,rfl,rfl⟩:=hI;rw[J3] at hN ⊢;have hz:=J5 ez;have hi:i=ixS st z:=Cb G.nd ez (T4 hz).1;have lz:=Q3 hz;have mt:=mt z hz;have mw:=mw z hz;rw[<- hi] at mt mw;rw[Ce ez,List.filter_append,List.filter_append,N8,N8] at hN
   have d9:∀p:Str->Bool,(((st.take i).filter p).map PV.str).length<=9:=λp=>by
    rw[B4];have a:=Q7 p (st.take i);rw[O5] at a;omega
   have d1:=d9 λz=>decide (z∈witB st T)&&!decide (z∈T.flatMap evB);have d2:=d9 λz=>!decide (z∈witB st T)&&!decide (z∈T.flatMap evB);generalize ((st.take i).filter λz=>decide (z∈witB st T)&&!decide (z∈T.flatMap evB)).map PV.str=DD at *;generalize ((st.take i).filter λz=>!decide (z∈witB st T)&&!decide (z∈T.flatMap evB)).map PV.str=FF at *;walk_at "pu";refine⟨by omega,?_⟩;rw[<- hX];refine Fm (λy:Str=>PV.int (ixS st y:Int)) (λy=>PV.int (ixS st (pal st g y):Int)) (λy=>PV.bl (decide (ixS st y<i)&&decide (i<ixS st (pal st g y)))) Y _ _ _ _ (λy hy m Q q=>?_) ?_
   ·walk_at "pu"
    by_cases c1:ixS st y<i
    ·rw[jr (jp (by omega))];rw[jp c1,Bool.true_and] at q;rw[show decide ((i:Int)<(ixS st (pal st g y):Int))=decide (i<ixS st (pal st g y)) by rw[decide_eq_decide];omega];exact q
    ·rw[jt (by simp;omega)];rw[jq c1,CN] at q;exact q
   ·rw[Jp];dsimp only;rw[Jq,hX]
    have ew:(Y.any λy=>decide (ixS st y<i)&&decide (i<ixS st (pal st g y)))=decide (z∈witB st T):=by
     rw[Y9,decide_eq_true_iff,mw,l4];simp only[h9,decide_eq_true_iff]
    have em:memP (.int (i:Int)) A=decide (z∈T.flatMap evB):=by rw[Y9,decide_eq_true_iff,mt]
    rw[ew];have wi:∀{R:PV->Prop},R (.bl (!decide (z∈T.flatMap evB)))->wIn 4 true (.int (i:Int)) (.lst A) R:=λq=>⟨rfl,mc,by rw[em];exact q⟩;have f1:∀p:Str->Bool,[z].filter p=if p z then [z] else []:=λp=>by cases e:p z <;> simp[e]
    rw[f1,f1] at hN;generalize decide (z∈witB st T)=bw at *;generalize decide (z∈T.flatMap evB)=bm at *;cases bw with
    | true =>
     refine if_t rfl (wi ?_);cases bm with
     |true=>exact if_f rfl (wi (if_f rfl (hN _ _ ⟨_,_,by simp;exact⟨rfl,rfl⟩,rfl⟩)))
     |false=>exact if_t rfl ⟨⟨_,rfl⟩,by omega,hN _ _ ⟨_,_,by simp;exact⟨rfl,rfl⟩,rfl⟩⟩
    | false =>
     refine if_f rfl (wi ?_);cases bm with
     |true=>exact if_f rfl (hN _ _ ⟨_,_,by simp;exact⟨rfl,rfl⟩,rfl⟩)
     |false=>exact if_t rfl ⟨⟨_,rfl⟩,by omega,hN _ _ ⟨_,_,by simp;exact⟨rfl,rfl⟩,rfl⟩⟩
  ·obtain⟨s6,s7,rfl,rfl⟩:=hI;rw[HD,J3,Zl,CF];have ok:=λp:Str->Bool=>NU (st.filter p)
   have sl:∀p:Str->Bool,((st.filter p).map PV.str).length<64:=λp=>by
    rw[B4];have:=Q7 p st;omega
   have s1:=sl λz=>decide (z∈witB st T)&&!decide (z∈T.flatMap evB);have s2:=sl λz=>!decide (z∈witB st T)&&!decide (z∈T.flatMap evB);have k1:=ok λz=>decide (z∈witB st T)&&!decide (z∈T.flatMap evB);have k2:=ok λz=>!decide (z∈witB st T)&&!decide (z∈T.flatMap evB);generalize (st.filter λz=>decide (z∈witB st T)&&!decide (z∈T.flatMap evB)).map PV.str=DD at *;generalize (st.filter λz=>!decide (z∈witB st T)&&!decide (z∈T.flatMap evB)).map PV.str=FF at *;subst hU;refine D2 λU hU=>?_;walk_at "pu";subst hU;refine D2 λU hU=>?_;walk_at "pu";refine⟨by omega,?_⟩;rw[<- hX];refine Fm (λy:Str=>PV.int (ixS st y:Int)) (λy=>PV.int (ixS st (pal st g y):Int)) (λy=>PV.tup [.str u4,.str (pal st g y),.str y]) Y _ _ _ _ (λy hy m Q q=>?_) ?_
   ·obtain⟨a1,a2⟩:=ay y hy;walk_at "pu";rw[a2,a1];exact q
   ·rw[<- hTL,hX];refine⟨by omega,L_ _,λV hV=>?_⟩;subst hU;walk_at "pu";exact⟨s1,k1,λD hD=>⟨s2,k2,λF hF=>fin V D F hV hD hF⟩⟩
end
theorem UV {st g:List Str}{a:Str}(nd:(a::g).Nodup)(p:(a::g).Perm st):st.filter (λb=>!decide (b∈g))=[a]:=by
 have h1:=p.filter (λb=>!decide (b∈g));obtain⟨na,_⟩:=R5.mp nd;rw[Cy (by grind),Ar.mpr (λb hb=>by rw[jp hb];decide)] at h1;exact(List.singleton_perm.mp h1).symm
theorem NY {α:Type}{A B E:List α}{k:Nat}(hA:A.length=k)(hB:1<=B.length):(A++B++E).drop (k+1)=B.drop 1++E:=by
 rw[V6,List.drop_append,V5 (by omega),hA,w8,show k+1-k=1 by omega,List.drop_append,show 1-B.length=0 by omega,Au]
structure Se (s n mx:Nat)(row oth:List Str):Prop where
 h1:1<=s
 h8:s<=8
 hn:1<=n
 h24:n<=24
 hl:row.length=n
 hr:RowS row
 hp:oth.Perm row
 hmx:mx=(n+s-1)/s
def rowI (s n mx:Nat)(row oth:List Str):Nat->List Str
 |0=>row
 |i+1=>putN s n (mx-1-i) (rowI s n mx row oth i) (P1 (C2 s n (mx-1-i) (rowI s n mx row oth i)) (C2 s n (mx-1-i) oth))
abbrev stI (s n mx:Nat)(row oth:List Str)(i:Nat):List Str:=C2 s n (mx-1-i) (rowI s n mx row oth i)
abbrev thI (s n mx:Nat)(oth:List Str)(i:Nat):List Str:=C2 s n (mx-1-i) oth
abbrev gI (s n mx:Nat)(row oth:List Str)(i:Nat):List Str:=P1 (stI s n mx row oth i) (thI s n mx oth i)
def okI (r s n mx:Nat)(row oth:List Str)(i:Nat):Prop:=strg (stI s n mx row oth i) (thI s n mx oth i)=[]/\Ok r (stI s n mx row oth i) (gI s n mx row oth i)
noncomputable def toT (st g:List Str):List Ev:=Classical.choose (@Jl st g)
theorem DV {st g:List Str}:To st g (toT st g):=Classical.choose_spec Jl
noncomputable def rcI (s n mx:Nat) (row oth:List Str) (i:Nat):PV:=Co (stI s n mx row oth i) (toT (stI s n mx row oth i) (gI s n mx row oth i))
section
variable {s n mx r i:Nat}{row oth:List Str}
theorem Se.mle (S:Se s n mx row oth):mx<=n:=by rw[S.hmx];exact Mg S.h1 S.hn
theorem Se.ol (S:Se s n mx row oth):oth.length=n:=by rw[S.hp.length_eq,S.hl]
theorem Se.no (S:Se s n mx row oth):RowS oth:=S.hr.perm S.hp
theorem Se.kp (S:Se s n mx row oth)(hi:i<mx):(mx-1-i)*s<=n-1/\(mx-1-i)*s<=hiN s n (mx-1-i)/\hiN s n (mx-1-i)+1<=n:=by
 have h:=FI S.h1 S.hn (k:=mx-1-i) (by have:=S.hmx;omega);exact⟨h,FJ h,Ai S.hn⟩
theorem Se.slen (S:Se s n mx row oth)(hi:i<mx){q:List Str}(hq:q.length=n):1<=(C2 s n (mx-1-i) q).length/\(C2 s n (mx-1-i) q).length<=9/\(C2 s n (mx-1-i) q).length=hiN s n (mx-1-i)+1-(mx-1-i)*s:=by
 have e:=AY (s:=s) (k:=mx-1-i) hq S.hn;have:=S.kp hi;have:=S.h8;rw[e];unfold hiN at *;omega
theorem Se.gl (S:Se s n mx row oth)(hi:i<mx)(p:(rowI s n mx row oth i).Perm row)(h:strg (stI s n mx row oth i) (thI s n mx oth i)=[]):Gl (stI s n mx row oth i) (gI s n mx row oth i):=
 NQ (Cf (S.hr.perm p)).1 (Cf S.no).1 (S.slen hi (by rw[p.length_eq,S.hl])).2.1 h
theorem Se.rows (S:Se s n mx row oth):∀(i:Nat),i<=mx->(∀j<i,okI r s n mx row oth j)->(rowI s n mx row oth i).Perm row/\(rowI s n mx row oth i).drop ((mx-i)*s+1)=oth.drop ((mx-i)*s+1):=by
 intro i
 induction i with
 | zero =>
  intro _ _;refine⟨CV _,?_⟩
  have:n<=mx*s:=by
   have:=S.hmx;have:=Nat.div_add_mod (n+s-1) s;have:=Nat.mod_lt (n+s-1) (show 0<s from S.h1);rw[S.hmx,Nat.mul_comm];omega
  rw[Nat.sub_zero,V5 (by show row.length<=_;rw[S.hl];omega),V5 (by rw[S.ol];omega)]
 | succ i ih =>
  intro hi ok;obtain⟨p,dr⟩:=ih (by omega) λj hj=>ok j (by omega);have hi:i<mx:=by omega
  obtain⟨os,oo⟩:=ok i (by omega);have G:=S.gl hi p os;obtain⟨k1,k2,k3⟩:=S.kp hi;have rl:(rowI s n mx row oth i).length=n:=by rw[p.length_eq,S.hl]
  have sl:(stI s n mx row oth i).length=_:=(S.slen hi rl).2.2;have tl:1<=(thI s n mx oth i).length/\(thI s n mx oth i).length<=9/\(thI s n mx oth i).length=_:=S.slen hi S.ol;have gp:(gI s n mx row oth i).length=(stI s n mx row oth i).length:=G.len;refine⟨(IG (by omega) G.pm).trans p,?_⟩;show(putN s n (mx-1-i) (rowI s n mx row oth i) (gI s n mx row oth i)).drop _=_;have e0:(mx-i)*s=(mx-1-i)*s+s:=by rw[show mx-i=mx-1-i+1 by omega,Nat.add_mul,Nat.one_mul]
  rw[show mx-(i+1)=mx-1-i by omega];rw[e0] at dr;unfold gI P1 at gp ⊢;rw[E6,P6] at gp;generalize (stI s n mx row oth i).filter (λb=>!decide (b∈(thI s n mx oth i).drop 1))=F at *
  have fl:F.length=1:=by
   omega
  have dr2:(rowI s n mx row oth i).drop (hiN s n (mx-1-i)+1)=oth.drop (hiN s n (mx-1-i)+1):=by
   by_cases c:(mx-1-i)*s+s<=n-1
   ·rw[show hiN s n (mx-1-i)+1=(mx-1-i)*s+s+1 by unfold hiN;omega];exact dr
   ·rw[V5 (by rw[rl];unfold hiN;omega),V5 (by rw[S.ol];unfold hiN;omega)]
  have rp:=Me (s:=s) (n:=n) (k:=mx-1-i) (row:=oth) (by omega);unfold putN;rw[dr2];have ta:∀{q:List Str},q.length=n->(q.take ((mx-1-i)*s)).length=(mx-1-i)*s:=λh=>by rw[O5];omega
  generalize oth.drop (hiN s n (mx-1-i)+1)=E at *
  conv=>rhs;rw[<- rp]
  rw[NY (ta rl) (by rw[E6];omega),NY (ta S.ol) tl.1,List.drop_append,fl,V5 (by omega)]
  rfl
theorem Se.first (S:Se s n mx row oth)(ok:∀j<i,okI r s n mx row oth j)(hi:i<mx)(h0:mx-1-i=0):strg (stI s n mx row oth i) (thI s n mx oth i)=[]/\gI s n mx row oth i=thI s n mx oth i:=by
 obtain⟨p,dr⟩:=S.rows i (by omega) ok;have rl:(rowI s n mx row oth i).length=n:=by rw[p.length_eq,S.hl]
 have pe:(stI s n mx row oth i).Perm (thI s n mx oth i):=by
  unfold stI thI C2;rw[h0,Nat.zero_mul,Au,Au]
  have dr2:(rowI s n mx row oth i).drop (hiN s n 0+1)=oth.drop (hiN s n 0+1):=by
   by_cases c:s<=n-1
   ·rw[show hiN s n 0+1=(mx-i)*s+1 by rw[show mx-i=1 by omega];unfold hiN;omega];exact dr
   ·rw[V5 (by rw[rl];unfold hiN;omega),V5 (by rw[S.ol];unfold hiN;omega)]
  have q:=p.trans S.hp.symm;generalize rowI s n mx row oth i=w at *;rw[<- Cz (hiN s n 0+1) w,<- Cz (hiN s n 0+1) oth,dr2] at q;exact(List.perm_append_right_iff _).mp q
 have tl:=S.slen hi S.ol;have nt:=(Cf (s:=s) (n:=n) (k:=mx-1-i) S.no).1;unfold gI strg P1;generalize stI s n mx row oth i=st at *;unfold thI at *;generalize C2 s n (mx-1-i) oth=th at *
 match th,tl with
 | a :: D, _ =>
  refine⟨Ar.mpr λx hx=>?_,?_⟩
  ·rw[jp (pe.mem_iff.mpr (C3 _ hx))];decide
  ·show st.filter (λb=>!decide (b∈D))++D=a::D;rw[UV nt pe.symm];rfl
end
theorem UW {R:PV->Nat->Prop}(h1:1<=s)(hn:1<=n)(h8:s<=8)(h:R (.int (((n+s-1)/s:Nat):Int)) m):Jb [.tup [.int (s:Int),.int r],.int (n:Int)] m R:=by
 refine⟨rfl,?_⟩;unfold Nd;walk_at "pu";refine⟨⟨by omega,by omega⟩,?_⟩
 have e:((n:Int)+s-1)/s=(((n+s-1)/s:Nat):Int):=by
  rw[show(n:Int)+s-1=((n+s-1:Nat):Int) by omega]
  rfl
 rw[e];exact h
def Bad (r s n mx:Nat)(row oth:List Str)(i:Nat)(v:PV):Prop:=(∃x∈strg (stI s n mx row oth i) (thI s n mx oth i),v=j9 "from" x)\/(strg (stI s n mx row oth i) (thI s n mx oth i)=[]/\ReV r (stI s n mx row oth i) (gI s n mx row oth i) v)
section
variable {s n mx r m:Nat}{row oth:List Str}{R:PV->Nat->Prop}
theorem Js {i:Nat}{v:PV}(h:Bad r s n mx row oth i v):¬okI r s n mx row oth i:=λ⟨o1,o2⟩=>by
 rcases h with⟨x,hx,_⟩|⟨_,h⟩
 ·rw[o1] at hx;cases hx
 ·cases h with
  |round hx h=>exact h (o2.nr _ hx)
  |far nr hy ly h=>have:=o2.near _ hy ly;omega
  |cross nr hy ly hz lz h=>exact o2.plain _ hy ly _ hz lz h
theorem NZ {α:Type}(f:Nat->α)(i:Nat):(D3 (i+1)).map f=(D3 i).map f++[f i]:=by rw[List.range_succ,N8];rfl
theorem UX (S:Se s n mx row oth)(h0:(∀j<mx,okI r s n mx row oth j)->R (.tup [.lst ((D3 mx).map (rcI s n mx row oth)),.lst []]) m)(h1:∀i v X L,i<mx->(∀j<i,okI r s n mx row oth j)->Bad r s n mx row oth i v->R (.tup [X,.lst (.tup [.str (B0 "untold"),.int ((mx-1-i:Nat):Int),v]::L)]) m):Jc [.tup [.int (s:Int),.int (r:Int)],rowP row,rowP oth] m R:=by
 refine⟨rfl,?_⟩;unfold Ng;have mle:=S.mle;have n24:=S.h24;have rl:(row.map PV.str).length=n:=by rw[B4];exact S.hl
 have hW':rowP row=.tup (row.map PV.str):=rfl;generalize hW:rowP row=W at *;generalize hO:rowP oth=O;refine D2 λU hU=>?_;walk_at "pu";subst hU;refine D2 λU hU=>?_;walk_at "pu";subst hU;refine D2 λU hU=>?_;walk_at "pd";rw[hW'];dsimp only;rw[rl];refine UW S.h1 S.hn S.h8 ?_;rw[<- S.hmx];refine⟨⟨by omega,by omega⟩,?_⟩;rw[V9,<- hW'];refine Q1 (λi env m'=>∃s5 s6 s7 s8,env=[some (.v (.tup [.int (s:Int),.int (r:Int)])),some (.v W),some (.v O),some (.own ((D3 i).map (rcI s n mx row oth))),some (.v (rowP (rowI s n mx row oth i))),s5,s6,s7,s8]/\(∀j<i,okI r s n mx row oth j)/\m'=m) _ 0 _ _ ⟨_,_,_,_,by rw[<- hW];rfl,λj hj=>absurd hj (by omega),rfl⟩ (λi x env m' N ex hI hN=>?_) (λenv m' hI=>?_)
 ·obtain⟨s5,s6,s7,s8,rfl,ok,rfl⟩:=hI;obtain⟨hi,rfl⟩:=FC ex;rw[J3] at ok hN ⊢;obtain⟨p,_⟩:=S.rows i (by omega) ok;have rL:(rowI s n mx row oth i).length=n:=by rw[p.length_eq,S.hl]
  have rS:=S.hr.perm p;have ek:(mx:Int)-1-i=((mx-1-i:Nat):Int):=by omega
  rw[ek];have sl:=S.slen hi rL;have k24:mx-1-i<=1000:=by omega
  have ns:=(Cf (s:=s) (n:=n) (k:=mx-1-i) rS).1;have m1:∀{m:Nat} {R:PV->Nat->Prop},R (rowP (stI s n mx row oth i)) m->u7 [.tup [.int (s:Int),.int (r:Int)],rowP (rowI s n mx row oth i),.int ((mx-1-i:Nat):Int)] m R:=λq=>Gq S.h8 S.hn rL k24 q
  have m2:∀{m:Nat} {R:PV->Nat->Prop},(∀v L,Bad r s n mx row oth i v->L.length<=1000->R (.lst (v::L)) m)->(okI r s n mx row oth i->R (.lst []) m)->Gc [.tup [.int (s:Int),.int (r:Int)],rowP (stI s n mx row oth i),O,.int ((mx-1-i:Nat):Int)] m R:=λq q'=>by
   rw[<- hO];exact UQ ns sl.2.1 S.no.1 S.h8 S.hn S.h24 S.ol k24 (λx L hx=>q _ L (.inl ⟨x,hx,rfl⟩)) (λe v L hv=>q v L (.inr ⟨e,hv⟩)) λe o=>q' ⟨e,o⟩
  have m3:∀{m:Nat} {R:PV->Nat->Prop},R (rowP (gI s n mx row oth i)) m->Ch [.tup [.int (s:Int),.int (r:Int)],rowP (stI s n mx row oth i),O,.int ((mx-1-i:Nat):Int)] m R:=λq=>by
   rw[<- hO];exact NO S.h8 S.hn S.h24 S.ol k24 (M2 sl.2.1 (by decide)) q
  have hG:=λo:okI r s n mx row oth i=>S.gl hi p o.1;have m4:okI r s n mx row oth i->∀{m:Nat} {R:PV->Nat->Prop},R (shP (toT (stI s n mx row oth i) (gI s n mx row oth i))) m->Cj [rowP (stI s n mx row oth i),rowP (gI s n mx row oth i)] m R:=λo {m R} q=>NP (hG o) DV q;have m5:okI r s n mx row oth i->∀{m:Nat} {R:PV->Nat->Prop},R (rcI s n mx row oth i) m->Ge [rowP (stI s n mx row oth i),shP (toT (stI s n mx row oth i) (gI s n mx row oth i))] m R:=λo {m R} q=>m_race (hG o) DV q
  have m6:okI r s n mx row oth i->∀{m:Nat} {R:PV->Nat->Prop},R (rowP (rowI s n mx row oth (i+1))) m->Gd [.tup [.int (s:Int),.int (r:Int)],rowP (rowI s n mx row oth i),.int ((mx-1-i:Nat):Int),shP (toT (stI s n mx row oth i) (gI s n mx row oth i))] m R:=λo {m R} q=>by
   have t:=@DV (stI s n mx row oth i) (gI s n mx row oth i);have:=t.len (hG o);exact UE S.h8 S.hn (by omega) rL k24 (by omega) (((hG o).fair o.2.nr).perm t.p).sub (by rw[show rbh (C2 s n (mx-1-i) (rowI s n mx row oth i)) _=_ from(hG o).rb o.2.nr t.p];exact q)
  have hN':=λ(o:okI r s n mx row oth i) s5 s6 s7 s8=>hN _ m' ⟨s5,s6,s7,s8,rfl,(λj hj=>(CL j i).elim (ok j) λz=>by rw[show j=i by omega];exact o),rfl⟩;have h1':=λv X L=>h1 i v X L hi ok;rw[NZ] at hN';have al:((D3 i).map (rcI s n mx row oth)).length=i:=by rw[B4,e9]
  clear hN h1 hG;generalize (D3 i).map (rcI s n mx row oth)=GL at *;generalize rowP (rowI s n mx row oth (i+1))=V2 at *;generalize rcI s n mx row oth i=RV at *;generalize shP (toT (stI s n mx row oth i) (gI s n mx row oth i))=T at *;generalize rowP (gI s n mx row oth i)=G at *;generalize rowP (stI s n mx row oth i)=S at *;generalize rowP (rowI s n mx row oth i)=V at *;generalize ((mx-1-i:Nat):Int)=k at *;refine D2 λU hU=>?_;walk_at "pu";refine m1 ?_;subst hU;refine D2 λU hU=>?_;walk_at "pu";refine m2 (λv L hv hL=>?_) λo=>?_
  ·subst hU;refine D2 λU hU=>?_;walk_at "pu";refine if_t rfl ⟨by omega,?_⟩;refine KY (λv=>.tup [.str (B0 "untold"),.int k,v]) (v::L) _ _ _ (λu hu m Q q=>?_) (h1' _ _ _ hv);walk_at "pu";exact q
  ·subst hU;walk_at "pu";exact m3 (m4 o ⟨⟨_,rfl⟩,m5 o ⟨by omega,m6 o (hN' o _ _ _ _)⟩⟩)
 ·obtain⟨s5,s6,s7,s8,rfl,ok,rfl⟩:=hI;rw[J3,FE] at ok ⊢;have:=h0 ok;generalize (D3 mx).map (rcI s n mx row oth)=GL at *;subst hU;walk_at "pu";exact this
end
theorem UY:decide (B0 "told"=B0 "untold")=false:=by decide +kernel
noncomputable def R7 (s n mx:Nat) (row oth:List Str) (i:Nat):List PV:=((D3 i).map (rcI s n mx row oth)).reverse
section
variable {s n mx r m:Nat}{row oth:List Str}{R:PV->Nat->Prop}
theorem N_ (S:Se s n mx row oth)(h0:(∀j<mx,okI r s n mx row oth j)->R (.tup [.str (B0 "told"),.tup (R7 s n mx row oth mx)]) m)(h1:∀i v,i<mx->(∀j<i,okI r s n mx row oth j)->Bad r s n mx row oth i v->R (.tup [.str (B0 "untold"),.int ((mx-1-i:Nat):Int),v]) m):DP [.tup [.int (s:Int),.int (r:Int)],rowP row,rowP oth] m R:=by
 refine⟨rfl,?_⟩;unfold Nh;have up:=λ{m:Nat} {R:PV->Nat->Prop} q q'=>UX (r:=r) (m:=m) (R:=R) S q q';unfold R7 at h0;generalize rowP row=W at *;generalize rowP oth=O at *;generalize (D3 mx).map (rcI s n mx row oth)=GL at *;refine D2 λU hU=>?_;walk_at "pu";refine up (λok=>?_) λi v X L hi ok hb=>?_
 ·have h0:=h0 ok;subst hU;walk_at "pu";exact h0
 ·have h1:=h1 i v hi ok hb;subst hU;refine⟨rfl,?_⟩;generalize ((mx-1-i:Nat):Int)=k at *;generalize hT:PV.tup [.str (B0 "untold"),.int k,v]=T at *;walk_at "pu";refine if_t rfl ?_;rw[show atI (T::L) 0=some T from BL (j:=0) rfl];exact h1
theorem m_days (S:Se s n mx row oth)(h0:(∀j<mx,okI r s n mx row oth j)->∀q:Int,1<=q->R (.int q) m)(h1:∀i v,i<mx->(∀j<i,okI r s n mx row oth j)->Bad r s n mx row oth i v->R (.int 0) m):Gf [.tup [.int (s:Int),.int (r:Int)],rowP row,rowP oth] m R:=by
 refine⟨rfl,?_⟩;unfold Ni;have up:=λ{m:Nat} {R:PV->Nat->Prop} q q'=>N_ (r:=r) (m:=m) (R:=R) S q q'
 have fr:∀v∈R7 s n mx row oth mx,∃T:List Ev,∃D F:List Str,v=.tup [shP T,rowP D,rowP F]:=λv hv=>by
  obtain⟨i,_,rfl⟩:=F3.mp (List.mem_reverse.mp hv);obtain⟨D,F,e,_⟩:=@NV (stI s n mx row oth i) (toT (stI s n mx row oth i) (gI s n mx row oth i));exact⟨_,D,F,e⟩
 generalize rowP row=W at *;generalize rowP oth=O at *;generalize R7 s n mx row oth mx=V at *;refine D2 λU hU=>?_;walk_at "pu";refine up (λok=>?_) λi v hi ok hb=>?_
 ·have h0:=h0 ok;subst hU;refine D2 λU hU=>?_;walk_at "pu";refine if_f UY ?_;subst hU;refine D2 λU hU=>?_;walk_at "pu";subst hU;refine D2 λU hU=>?_;walk_at "pu";refine Q1 (λi env m'=>∃q s5 s6,env=[some (.v (.tup [.int (s:Int),.int (r:Int)])),some (.v W),some (.v O),some (.v (.tup [.str (B0 "told"),.tup V])),some (.v (.int q)),s5,s6]/\1<=q/\m'=m) _ 0 _ _ ⟨1,_,_,rfl,by decide,rfl⟩ (λi x env m' N ex hI hN=>?_) (λenv m' hI=>?_)
  ·obtain⟨q,s5,s6,rfl,hq,rfl⟩:=hI;obtain⟨T,D,F,rfl⟩:=fr x (J5 ex);unfold rowP;generalize F.map PV.str=FL at *;generalize D.map PV.str=DL at *;generalize shP T=T at *;generalize hT:PV.tup [.str (B0 "told"),.tup V]=TV at *;walk_at "pu";refine Q1 (λj env m2=>∃q s6,env=[some (.v (.tup [.int (s:Int),.int (r:Int)])),some (.v W),some (.v O),some (.v TV),some (.v (.int q)),some (.v (.tup [T,.tup DL,.tup FL])),s6]/\1<=q/\m2=m') _ 0 _ _ ⟨q,s6,rfl,hq,rfl⟩ (λj x env m2 N2 ex2 hI hN2=>?_) (λenv m2 hI=>?_)
   ·obtain⟨q,s6,rfl,hq,rfl⟩:=hI;walk_at "pu";exact⟨.inr ⟨by decide,by decide⟩,hN2 _ _ ⟨_,_,rfl,by omega,rfl⟩⟩
   ·obtain⟨q,s6,rfl,hq,rfl⟩:=hI;exact hN _ _ ⟨_,_,_,rfl,hq,rfl⟩
  ·obtain⟨q,s5,s6,rfl,hq,rfl⟩:=hI;subst hU;walk_at "pu";exact h0 q hq
 ·have h1:=h1 i v hi ok hb;generalize ((mx-1-i:Nat):Int)=k at *;subst hU;walk_at "pu";exact h1
theorem Jt {k:Nat}{w:List Str}(S:Se s n mx row oth)(hw:w.length=n)(hk:k<=24)(h0:k=0->strg (C2 s n k w) (C2 s n k oth)=[])(h:R (.tup [rowP (C2 s n k w),rowP (C2 s n k oth),.lst ((strg (C2 s n k w) (C2 s n k oth)).map PV.str)]) m):Ah [.tup [.int (s:Int),.int (r:Int)],rowP w,rowP oth,.int (k:Int)] m R:=by
 refine⟨rfl,?_⟩;unfold Nk;have n24:=S.h24;have hh:=Ai (s:=s) (k:=k) S.hn
 have e:∀{q:List Str},q.length=n->cutP (q.map PV.str) (some ((k*s:Nat):Int)) (some (((hiN s n k:Nat):Int)+1))=(C2 s n k q).map PV.str:=λ{q} hq=>by
  rw[Z8,show((hiN s n k:Nat):Int)+1=((hiN s n k+1:Nat):Int) by omega,FG q (by rw[hq];exact hh)]
  rfl
 have e1:=e hw;have e2:=e S.ol;have dc:=Gr (C2 s n k oth);have tl:(C2 s n k oth).length<=24:=by rw[AY S.ol S.hn];omega
 have wl:(w.map PV.str).length=n:=by rw[B4];exact hw
 unfold rowP at *;generalize w.map PV.str=Z at *;generalize oth.map PV.str=O at *;generalize C2 s n k w=st at *;generalize C2 s n k oth=th at *;generalize hA:st.map PV.str=A at *;generalize hB:th.map PV.str=B at *;walk_at "pu";rw[wl];refine Gp S.h8 S.hn (by omega) ?_;walk_at "pu";rw[e1,e2]
 by_cases c:(0:Int)<k
 ·refine if_t (jp c) ?_;rw[dc];refine⟨by rw[B4,P6];omega,?_⟩;refine u3 PV.str (λx=>!decide (x∈st)) (th.drop 1) _ _ _ (λz hz m Q q=>?_) h;walk_at "pu";exact Ae hA q
 ·refine if_f (jq c) ?_;rw[h0 (by omega)] at h;exact h
theorem Ju {k:Nat}{st th:List Str}(hs:st.length<=24)(ht:th.length<=24)(h0:k=0->P1 st th=th)(h:R (rowP (P1 st th)) m):u8 [rowP st,rowP th,.int (k:Int)] m R:=by
 refine⟨rfl,?_⟩;unfold Nl;have dc:=Gr th
 by_cases c:k=0
 ·rw[h0 c] at h;subst c;generalize rowP st=A at *;generalize rowP th=B at *;walk_at "pu";exact h
 ·unfold P1 rowP at h;unfold rowP;rw[N8] at h;have Zl:(st.map PV.str).length<=24:=by rw[B4];exact hs
  have Al:((th.drop 1).map PV.str).length<=24:=by rw[B4,P6];omega
  have fl:=Q7 (λb=>!decide (b∈th.drop 1)) st;generalize hZ:st.map PV.str=Z at *;generalize hD:(th.drop 1).map PV.str=D at *;generalize hA:th.map PV.str=A at *;walk_at "pu";refine if_f (jq (by omega)) ?_;rw[dc];refine⟨by omega,?_⟩;rw[<- hZ];refine u3 PV.str (λb=>!decide (b∈th.drop 1)) st _ _ _ (λz hz m Q q=>?_) ⟨by rw[B4];omega,h⟩;walk_at "pu";rw[dc];exact Ae hD q
end
section
variable {s n mx r m:Nat}{row oth:List Str}{R:PV->Nat->Prop}
theorem Oa {k:Nat}{w g:List Str}(hw:w.length=n)(hg:g.length<=24)(n24:n<=24):(cutP (w.map PV.str) none (some ((k*s:Nat):Int))).length+(g.map PV.str).length<=1000000/\(cutP (w.map PV.str) none (some ((k*s:Nat):Int))++g.map PV.str).length+(cutP (w.map PV.str) (some (((hiN s n k:Nat):Int)+1)) none).length<=1000000/\cutP (w.map PV.str) none (some ((k*s:Nat):Int))++g.map PV.str++cutP (w.map PV.str) (some (((hiN s n k:Nat):Int)+1)) none=(putN s n k w g).map PV.str:=by
 have e1:cutP (w.map PV.str) none (some ((k*s:Nat):Int))=(w.take (k*s)).map PV.str:=by rw[Z8,IF]
 have e2:cutP (w.map PV.str) (some (((hiN s n k:Nat):Int)+1)) none=(w.drop (hiN s n k+1)).map PV.str:=by
  rw[Z8,show((hiN s n k:Nat):Int)+1=((hiN s n k+1:Nat):Int) by omega,FH]
 rw[e1,e2];refine⟨?_,?_,?_⟩
 ·rw[B4,B4,O5];omega
 ·rw[E6,B4,B4,B4,O5,P6];omega
 ·unfold putN;rw[N8,N8]
theorem Se.gl24 (S:Se s n mx row oth){i:Nat}(hi:i<mx)(p:(rowI s n mx row oth i).Perm row):(gI s n mx row oth i).length<=24:=by
 have a:=(S.slen hi (q:=rowI s n mx row oth i) (by rw[p.length_eq,S.hl])).2.1;have b:=(S.slen hi S.ol).2.1;have f:=Q7 (λb=>!decide (b∈(thI s n mx oth i).drop 1)) (stI s n mx row oth i);unfold gI P1;rw[E6,P6];have a:(stI s n mx row oth i).length<=9:=a;have b:(thI s n mx oth i).length<=9:=b;omega
theorem Ob (S:Se s n mx row oth)(h0:(∀j<mx,okI r s n mx row oth j)->R (.tup (R7 s n mx row oth mx)) m)(h1:∀i,i<mx->(∀j<i,okI r s n mx row oth j)->¬okI r s n mx row oth i->R (.int ((mx-1-i:Nat):Int)) m):DS [.tup [.int (s:Int),.int (r:Int)],rowP row,rowP oth] m R:=by
 refine⟨rfl,?_⟩;unfold Nt;have mle:=S.mle;have n24:=S.h24;have rl:(row.map PV.str).length=n:=by rw[B4];exact S.hl
 have hW':rowP row=.tup (row.map PV.str):=rfl;generalize hO:rowP oth=O;refine D2 λU hU=>?_;generalize hW:rowP row=W at *;walk_at "pu";subst hU;refine D2 λU hU=>?_;walk_at "pd";rw[hW'];dsimp only;rw[rl];refine Jh S.h1 S.hn ?_ S.h8;rw[<- S.hmx];refine⟨⟨by omega,by omega⟩,?_⟩;rw[V9,<- hW',<- hW];refine Q1 (λi env m'=>∃s4 s5 s6 s7 s8 s9 s10,env=[some (.v (.tup [.int (s:Int),.int (r:Int)])),some (.v (rowP (rowI s n mx row oth i))),some (.v O),some (.own (R7 s n mx row oth i)),s4,s5,s6,s7,s8,s9,s10]/\(∀j<i,okI r s n mx row oth j)/\m'=m) _ 0 _ _ ⟨_,_,_,_,_,_,_,rfl,λj hj=>absurd hj (by omega),rfl⟩ (λi x env m' N ex hI hN=>?_) (λenv m' hI=>?_)
 ·obtain⟨s4,s5,s6,s7,s8,s9,s10,rfl,ok,rfl⟩:=hI;obtain⟨hi,rfl⟩:=FC ex;rw[J3] at ok hN ⊢;obtain⟨p,_⟩:=S.rows i (by omega) ok;have rL:(rowI s n mx row oth i).length=n:=by rw[p.length_eq,S.hl]
  have ek:(mx:Int)-1-i=((mx-1-i:Nat):Int):=by omega
  rw[ek];have sl:(stI s n mx row oth i).length<=9:=(S.slen hi rL).2.1;have tl:(thI s n mx oth i).length<=9:=(S.slen hi S.ol).2.1;have fi:=S.first ok hi
  have hG:=λo=>S.gl hi p o
  have m1:∀{m:Nat} {R:PV->Nat->Prop},R (.tup [rowP (stI s n mx row oth i),rowP (thI s n mx oth i),.lst ((strg (stI s n mx row oth i) (thI s n mx oth i)).map PV.str)]) m->Ah [.tup [.int (s:Int),.int (r:Int)],rowP (rowI s n mx row oth i),O,.int ((mx-1-i:Nat):Int)] m R:=λq=>by
   rw[<- hO];exact Jt S rL (by omega) (λz=>(fi z).1) q
  have m2:∀{m:Nat} {R:PV->Nat->Prop},R (rowP (gI s n mx row oth i)) m->u8 [rowP (stI s n mx row oth i),rowP (thI s n mx oth i),.int ((mx-1-i:Nat):Int)] m R:=λq=>Ju (by omega) (by omega) (λz=>(fi z).2) q;have m3:strg (stI s n mx row oth i) (thI s n mx oth i)=[]->∀{m:Nat} {R:PV->Nat->Prop},(∀b:Bool,(b=true↔okI r s n mx row oth i)->R (.bl b) m)->Gj [rowP (stI s n mx row oth i),rowP (gI s n mx row oth i),.int (r:Int)] m R:=λe {m R} q=>m_lcan (hG e) λb hb=>q b (hb.trans ⟨λo=>⟨e,o⟩,λo=>o.2⟩);have m4:okI r s n mx row oth i->∀{m:Nat} {R:PV->Nat->Prop},R (.lst (prs (stI s n mx row oth i) (gI s n mx row oth i))) m->Cm [rowP (stI s n mx row oth i),rowP (gI s n mx row oth i)] m R:=λo {m R} q=>NW (hG o.1) (λx hx c=>absurd (o.2.nr x hx) c) λ_=>q;have m5:okI r s n mx row oth i->∀{m:Nat} {R:PV->Nat->Prop},R (rcI s n mx row oth i) m->Gg [rowP (stI s n mx row oth i),.lst (prs (stI s n mx row oth i) (gI s n mx row oth i))] m R:=λo {m R} q=>UU (hG o.1) DV q;obtain⟨p1,p2,p3⟩:=Oa (s:=s) (k:=mx-1-i) (g:=gI s n mx row oth i) rL (S.gl24 hi p) n24;have hN':=λ(o:okI r s n mx row oth i) s4 s5 s6 s7 s8 s9 s10=>hN _ m' ⟨s4,s5,s6,s7,s8,s9,s10,rfl,(λj hj=>(CL j i).elim (ok j) λz=>by rw[show j=i by omega];exact o),rfl⟩;have fe:R7 s n mx row oth (i+1)=rcI s n mx row oth i::R7 s n mx row oth i:=by unfold R7;rw[NZ,List.reverse_append];rfl
  have re:rowP (rowI s n mx row oth (i+1))=.tup ((putN s n (mx-1-i) (rowI s n mx row oth i) (gI s n mx row oth i)).map PV.str):=rfl;rw[fe,re,<- p3] at hN';have h1:=h1 i hi ok;have fl:(R7 s n mx row oth i).length=i:=by unfold R7;rw[At,B4,e9]
  have rl':((rowI s n mx row oth i).map PV.str).length=n:=by rw[B4];exact rL
  have ro:rowP (rowI s n mx row oth i)=.tup ((rowI s n mx row oth i).map PV.str):=rfl;have go:rowP (gI s n mx row oth i)=.tup ((gI s n mx row oth i).map PV.str):=rfl;rw[go] at m2 m3 m4;rw[ro] at m1 ⊢;have cs:((strg (stI s n mx row oth i) (thI s n mx oth i)).map PV.str).all (cmpb 3)=true:=Ad _ 3;have es:∀L:List Str,eqPs (L.map PV.str) []=L.isEmpty:=λL=>by cases L <;> rfl
  have es:=es (strg (stI s n mx row oth i) (thI s n mx oth i));have eo:(strg (stI s n mx row oth i) (thI s n mx oth i)).isEmpty=false->¬okI r s n mx row oth i:=λe o=>by rw[o.1] at e;cases e
  have ee:(strg (stI s n mx row oth i) (thI s n mx oth i)).isEmpty=true->strg (stI s n mx row oth i) (thI s n mx oth i)=[]:=List.isEmpty_iff.mp;have sp:=λ{m:Nat} {R:PV->Nat->Prop}=>Gp (s:=s) (n:=n) (k:=mx-1-i) (m:=m) (r:=(r:Int)) (R:=R) S.h8 S.hn (by omega);clear hN hG go ro re fe p3 fi;generalize R7 s n mx row oth i=FD at *;generalize rcI s n mx row oth i=RV at *;generalize (gI s n mx row oth i).map PV.str=G at *;generalize (rowI s n mx row oth i).map PV.str=V at *;generalize (strg (stI s n mx row oth i) (thI s n mx oth i)).isEmpty=emp at *;generalize (strg (stI s n mx row oth i) (thI s n mx oth i)).map PV.str=SL at *;generalize prs (stI s n mx row oth i) (gI s n mx row oth i)=PR at *;generalize rowP (stI s n mx row oth i)=A at *;generalize rowP (thI s n mx oth i)=B at *;generalize mx-1-i=k at *;refine D2 λU hU=>?_;walk_at "pu";refine m1 ⟨rfl,?_⟩;subst hU;refine D2 λU hU=>?_;walk_at "pu";refine gd2 cs rfl ?_;cases emp with
  |false=>exact if_t (by rw[es];rfl) (h1 (eo rfl))
  | true =>
   refine if_f (by rw[es];rfl) (m2 (m3 (ee rfl) λb hb=>?_));cases b with
   |false=>exact if_t rfl (h1 λo=>nomatch hb.mpr o)
   | true =>
    have o:=hb.mp rfl;refine if_f rfl ?_;subst hU;refine D2 λU hU=>?_;walk_at "pu";refine m2 ?_;subst hU;refine D2 λU hU=>?_;walk_at "pu";refine⟨⟨_,rfl⟩,m4 o (m5 o ⟨by omega,?_⟩)⟩;subst hU;refine D2 λU hU=>?_;walk_at "pu";rw[rl'];refine sp ?_;subst hU;walk_at "pu";exact⟨p1,p2,hN' o _ _ _ _ _ _ _⟩
 ·obtain⟨s4,s5,s6,s7,s8,s9,s10,rfl,ok,rfl⟩:=hI;rw[J3,FE] at ok ⊢;have:=h0 ok;generalize R7 s n mx row oth mx=FD at *;subst hU;walk_at "pu";exact this
end
section
variable {st g:List Str}{n r:Nat}{R:PV->Nat->Prop}
theorem UZ (nd:st.Nodup):p6 (st.map PV.str)=st.map λz=>.tup [.int (ixS st z:Int),.str z]:=by
 apply CD
 intro i;unfold p6;rw[E7,E7]
 by_cases c:i<st.length
 ·rw[List.getElem?_zipIdx,E7,Y1 c];show some (PV.tup [.int ((0+i:Nat):Int),.str (nm st i)])=some (PV.tup [.int (ixS st (nm st i):Int),.str (nm st i)]);rw[FP nd c,J3]
 ·rw[R9 (by rw[List.length_zipIdx,B4];omega),R9 (by omega)];rfl
theorem U_ (G:Gl st g)(nr:NR st g){y:Str}(hy:y∈st)(ly:ixS st y<ixS st (pal st g y))(h:R (prP st g y) n):DT [rowP st,rowP g,evP (.t (pal st g y) y)] n R:=by
 refine⟨rfl,?_⟩;unfold Nu;obtain⟨i1,_⟩:=G.ix;have hp:=(G.pl hy).1;have a1:=at_g G hy;have a2:=at_g G hp;rw[G.two nr hy] at a2;unfold rowP;unfold prP at h;rw[Af];generalize hZ:st.map PV.str=Z at *;generalize g.map PV.str=W at *;generalize pal st g y=x at *;walk_at "pu";refine if_f (by decide) ?_;refine Ae hZ (if_f (by rw[jp hp];rfl) (Ae hZ (if_f (by rw[jp hy];rfl) ⟨⟨_,rfl⟩,i1 y hy ⟨⟨_,rfl⟩,i1 x hp ?_⟩⟩)));dsimp only;refine if_t (jp (by omega)) ?_;rw[a1];refine ER rfl (if_t (by rw[Bb];exact jp rfl) ?_);rw[a2];exact ER rfl (if_t (by rw[Bb];exact jp rfl) h)
theorem rd_mem {x:Str}:x∈st.filter (rdB st g)↔x∈st/\org st g x≠pal st g x:=by
 rw[J9];unfold rdB;rw[Bool.not_eq_true',decide_eq_false_iff_not]
theorem Va {v:PV}(G:Gl st g)(hv:ReV r st g v)(h:R (.bl true) n):Gk [rowP st,rowP g,.int (r:Int),v] n R:=by
 refine⟨rfl,?_⟩;unfold Nv;obtain⟨i1,i2⟩:=G.ix;have ag:=λy hy=>@at_g st g G y hy;have ao:∀y∈st,atI (st.map PV.str) (ixS g y:Int)=some (.str (org st g y)):=λy hy=>by rw[<- (G.og hy).2];exact Gs (G.og hy).1
 have ee:=UZ G.nd;have l9:=G.l9;have mt:∀{y:Str} {m:Nat} {R:PV->Nat->Prop},NR st g->y∈st->ixS st y<ixS st (pal st g y)->R (prP st g y) m->DT [.tup (st.map PV.str),.tup (g.map PV.str),evP (.t (pal st g y) y)] m R:=λnr hy ly q=>U_ G nr hy ly q;unfold rowP;have rm:=λx=>@rd_mem st g x
 have nf:NR st g->st.filter (rdB st g)=[]:=λnr=>Ar.mpr λx hx=>by
  unfold rdB;rw[jp (nr x hx)];decide
 generalize hZ:st.map PV.str=Z at *;generalize g.map PV.str=W at *;refine D2 λU hU=>?_;walk_at "pd";refine(show(p6 Z).length<=1000000/\U5 _ _ _ (p6 Z) [none,none,some (.v (.tup Z)),some (.v (.tup W))] n _ from ?_);rw[ee];refine⟨by rw[B4];omega,?_⟩;refine NM (λz=>.int (ixS st z:Int)) PV.str (rdB st g) PV.str st _ _ _ _ (λz hz m Q q=>?_) (λz hz m Q q=>?_) ?_
 ·have a1:=ag z hz;have a2:=ao z hz;walk_at "pu";refine⟨⟨_,rfl⟩,i2 z hz ?_⟩;dsimp only;rw[a2,a1];refine gd2 rfl rfl ?_;rw[Bb];exact q
 ·walk_at "pu";exact q
 ·have es:∀L:List Str,L=[]->eqPs (L.map PV.str) []=true:=λL e=>by rw[e];rfl
  have cs:=λL:List Str=>Ad L 3;generalize st.filter (rdB st g)=F at *;subst hU;cases hv with
  | @round x hx c =>
   have hm:=(rm x).mpr ⟨hx,c⟩;unfold j9;generalize hL:F.map PV.str=L at *;refine D2 λU hU=>?_;walk_at "pu";refine if_t (jp rfl) (IA hL ?_);rw[jp hm];exact h
  | @far y nr hy ly c =>
   have hF:=nf nr;subst hF;have mt:=λm R=>@mt y m R nr hy ly;unfold farP;unfold prP at mt;generalize evP (.t (pal st g y) y)=E at *;walk_at "pu";refine if_f (by decide) (gd2 rfl rfl (Ae (zs:=[B0 "far",B0 "cross"]) rfl (if_f (by decide) (mt _ _ (if_t (jp rfl) (if_t rfl ?_))))));walk_at "pu";rw[jp (show(r:Int)<(ixS st (pal st g y):Int)-(ixS st y:Int)-1 by omega)];exact h
  | @cross y z nr hy ly hz lz c =>
   have hF:=nf nr;subst hF;have m1:=λm R=>@mt y m R nr hy ly;have m2:=λm R=>@mt z m R nr hz lz;unfold crP
   have mc:DR [prP st g y,prP st g z] n R:=NX (by
    have c:¬_:=c;rw[jq c]
    exact h)
   generalize hP:prP st g y=P at *;generalize hQ:prP st g z=Q at *;have nP:Dn P=false:=by rw[<- hP];rfl
   have nQ:Dn Q=false:=by rw[<- hQ];rfl
   generalize evP (.t (pal st g y) y)=E at *;generalize evP (.t (pal st g z) z)=E' at *;walk_at "pu";refine if_f (by decide) (gd2 rfl rfl (Ae (zs:=[B0 "far",B0 "cross"]) rfl (if_f (by decide) (m1 _ _ (if_f (by decide) (m2 _ _ ?_))))));rw[nP,nQ];exact mc
end
section
variable {s n mx r m:Nat}{row oth:List Str}{R:PV->Nat->Prop}
theorem Vb {st g:List Str}(G:Gl st g)(hb:RowS st){T:List Ev}(t:To st g T):Show 3 18910 (Co st T):=by
 obtain⟨D,F,e,lD,lF,mD,mF⟩:=@NV st T;have s9:=G.l9;have t9:=t.len G;rw[e];refine(Show.tup (d:=2) (c:=6300) (l:=3) (λy hy=>?_) (by simp)).le (B8 _) (by decide);simp only[C5,L9,or_false] at hy;rcases hy with rfl|rfl|rfl
 ·refine Tf (λb h=>?_) (by omega);obtain⟨x,hx,hb'⟩:=V7.mp h;obtain⟨y,hy,rfl,_⟩:=t.mem hx;rcases C5.mp hb' with rfl|hb'
  ·exact hb.2 _ (G.pl hy).1
  ·rw[K2.mp hb'];exact hb.2 _ hy
 ·exact(FM (λz hz=>hb.2 z (mD z hz)) (by omega)).le (by decide) (by decide)
 ·exact(FM (λz hz=>hb.2 z (mF z hz)) (by omega)).le (by decide) (by decide)
theorem Se.show (S:Se s n mx row oth)(ok:∀j<mx,okI r s n mx row oth j):Show 5 908100 (.tup [.str (B0 "told"),.tup (R7 s n mx row oth mx)]):=by
 have mle:=S.mle;have n24:=S.h24;refine(Show.tup (d:=4) (c:=454000) (l:=2) (λy hy=>?_) (by simp)).le (B8 _) (by decide);simp only[C5,L9,or_false] at hy;rcases hy with rfl|rfl
 ·exact(FN _ (by decide +kernel) (by decide +kernel)).le (by decide) (by decide)
 ·refine(Show.tup (d:=3) (c:=18910) (l:=24) (λy hy=>?_) ?_).le (B8 _) (by decide)
  ·obtain⟨i,hi,rfl⟩:=F3.mp (List.mem_reverse.mp hy);have hi:=N9.mp hi;obtain⟨p,_⟩:=S.rows i (by omega) λj hj=>ok j (by omega);exact Vb (S.gl hi p (ok i hi).1) (Cf (S.hr.perm p)) DV
  ·unfold R7;rw[At,B4,e9];omega
def Jv (r s n mx:Nat)(row oth:List Str)(v:PV):Prop:=((∀j<mx,okI r s n mx row oth j)/\v=.tup [.str (B0 "told"),.tup (R7 s n mx row oth mx)])\/∃i w,i<mx/\(∀j<i,okI r s n mx row oth j)/\Bad r s n mx row oth i w/\v=.tup [.str (B0 "untold"),.int ((mx-1-i:Nat):Int),w]
theorem Vc {P:Nat->Prop}{i j:Nat}(a:∀k<i,P k)(b:¬P i)(c:∀k<j,P k)(d:¬P j):i=j:=by
 rcases l6 i j with h|h|h
 ·exact absurd (c i h) b
 ·exact h
 ·exact absurd (a j h) d
theorem Vd {v:PV}(S:Se s n mx row oth)(r7:r<=7)(hv:Jv r s n mx row oth v)(h:R (.bl true) m):Gm [.tup [.int (s:Int),.int (r:Int)],rowP row,rowP oth,v] m R:=by
 refine⟨rfl,?_⟩;unfold Nw;have md:=λ{m:Nat} {R:PV->Nat->Prop} q q'=>Ob (r:=r) (m:=m) (R:=R) S q q';refine D2 λU hU=>?_;have hW':rowP row=.tup (row.map PV.str):=rfl;generalize hW:rowP row=W at *;generalize hO:rowP oth=O at *;walk_at "pu";rcases hv with⟨ok,rfl⟩|⟨i,w,hi,ok,hb,rfl⟩
 ·refine md (λ_=>?_) λi hi _ no=>absurd (ok i hi) no;have sh:=S.show ok;generalize R7 s n mx row oth mx=FD at *;generalize hT:PV.tup [.str (B0 "told"),.tup FD]=TV at *;subst hU;refine D2 λU hU=>?_;walk_at "pu";rw[hT];refine BV sh.sh (by have:=sh.de;omega) (by have:=sh.co;omega) (BV sh.sh (by have:=sh.de;omega) (by have:=sh.co;omega) ?_);rw[Dx,jp rfl];exact h
 ·refine md (λok'=>absurd (ok' i hi) (Js hb)) λi' hi' ok' no=>?_;have e:=Vc ok' no ok (Js hb);subst e;have mle:=S.mle;have n24:=S.h24
  have sh:Show 1 300 (.tup [.str (B0 "untold"),.int ((mx-1-i':Nat):Int)]):=by
   refine(Show.tup (d:=0) (c:=100) (l:=2) (λy hy=>?_) (by simp)).le (B8 _) (by decide);simp only[C5,L9,or_false] at hy;rcases hy with rfl|rfl
   ·exact(FN _ (by decide +kernel) (by decide +kernel)).le (by decide) (by decide)
   ·exact(Mh (by omega)).le (by decide) (by decide)
  subst hU;refine D2 λU hU=>?_;walk_at "pu";subst hU;refine D2 λU hU=>?_;walk_at "pu";refine if_f (by decide) ?_;rw[show cutP [PV.str (B0 "untold"),.int ((mx-1-i':Nat):Int),w] none (some 2)=[PV.str (B0 "untold"),.int ((mx-1-i':Nat):Int)] from rfl];refine BV sh.sh (by have:=sh.de;omega) (by have:=sh.co;omega) (BV sh.sh (by have:=sh.de;omega) (by have:=sh.co;omega) (gd2 rfl rfl (if_f (by rw[Dx,jp rfl];rfl) ?_)));obtain⟨p,_⟩:=S.rows i' (by omega) ok;have rL:(rowI s n mx row oth i').length=n:=by rw[p.length_eq,S.hl]
  have fi:=S.first ok hi
  have sl:(stI s n mx row oth i').length<=9:=(S.slen hi rL).2.1;have tl:(thI s n mx oth i').length<=9:=(S.slen hi S.ol).2.1;subst hU;refine D2 λU hU=>?_;have rl:(row.map PV.str).length=n:=by rw[B4];exact S.hl
  generalize hT:PV.tup [.str (B0 "untold"),.int ((mx-1-i':Nat):Int),w]=T at *;walk_at "pd";rw[hW'];dsimp only;rw[rl];refine Jh S.h1 S.hn ?_ S.h8;rw[<- S.hmx];refine⟨⟨by omega,by omega,by omega⟩,?_⟩;rw[<- hW',<- hW,show((mx:Int)-(((mx-1-i':Nat):Int)+1)).toNat=i' by omega];refine Q1 (λj env m'=>∃s5 s6 s7 s8 s9 s10,env=[some (.v (.tup [.int (s:Int),.int (r:Int)])),some (.v (rowP (rowI s n mx row oth j))),some (.v O),some (.v T),some (.v (.int ((mx-1-i':Nat):Int))),s5,s6,s7,s8,s9,s10]/\m'=m) _ 0 _ _ ⟨_,_,_,_,_,_,rfl,rfl⟩ (λj x env m' N ex hI hN=>?_) (λenv m' hI=>?_)
  ·obtain⟨s5,s6,s7,s8,s9,s10,rfl,rfl⟩:=hI;obtain⟨hj,rfl⟩:=FC ex;rw[J3] at hN ⊢;have okj:∀k<j,okI r s n mx row oth k:=λk hk=>ok k (by omega);have hj':j<mx:=by omega
   obtain⟨pj,_⟩:=S.rows j (by omega) okj;have rj:(rowI s n mx row oth j).length=n:=by rw[pj.length_eq,S.hl]
   have fj:=S.first okj hj'
   have ek:(mx:Int)-1-j=((mx-1-j:Nat):Int):=by omega
   rw[ek];have sj:(stI s n mx row oth j).length<=9:=(S.slen hj' rj).2.1;have tj:(thI s n mx oth j).length<=9:=(S.slen hj' S.ol).2.1
   have m1:∀{m:Nat} {R:PV->Nat->Prop},R (.tup [rowP (stI s n mx row oth j),rowP (thI s n mx oth j),.lst ((strg (stI s n mx row oth j) (thI s n mx oth j)).map PV.str)]) m->Ah [.tup [.int (s:Int),.int (r:Int)],rowP (rowI s n mx row oth j),O,.int ((mx-1-j:Nat):Int)] m R:=λq=>by
    rw[<- hO];exact Jt S rj (by omega) (λz=>(fj z).1) q
   have m2:∀{m:Nat} {R:PV->Nat->Prop},R (rowP (gI s n mx row oth j)) m->u8 [rowP (stI s n mx row oth j),rowP (thI s n mx oth j),.int ((mx-1-j:Nat):Int)] m R:=λq=>Ju (by omega) (by omega) (λz=>(fj z).2) q;obtain⟨p1,p2,p3⟩:=Oa (s:=s) (k:=mx-1-j) (g:=gI s n mx row oth j) rj (S.gl24 hj' pj) n24;have hN':=λs5 s6 s7 s8 s9 s10=>hN _ m' ⟨s5,s6,s7,s8,s9,s10,rfl,rfl⟩;have re:rowP (rowI s n mx row oth (j+1))=.tup ((putN s n (mx-1-j) (rowI s n mx row oth j) (gI s n mx row oth j)).map PV.str):=rfl;rw[re,<- p3] at hN';have rl':((rowI s n mx row oth j).map PV.str).length=n:=by rw[B4];exact rj
   have ro:rowP (rowI s n mx row oth j)=.tup ((rowI s n mx row oth j).map PV.str):=rfl;have go:rowP (gI s n mx row oth j)=.tup ((gI s n mx row oth j).map PV.str):=rfl;rw[go] at m2;rw[ro] at m1 ⊢;have sp:=λ{m:Nat} {R:PV->Nat->Prop}=>Gp (s:=s) (n:=n) (k:=mx-1-j) (m:=m) (r:=(r:Int)) (R:=R) S.h8 S.hn (by omega);clear hN go ro re p3 fj;generalize (gI s n mx row oth j).map PV.str=G at *;generalize (rowI s n mx row oth j).map PV.str=V at *;generalize (strg (stI s n mx row oth j) (thI s n mx oth j)).map PV.str=SL at *;generalize rowP (stI s n mx row oth j)=A at *;generalize rowP (thI s n mx oth j)=B at *;generalize mx-1-j=k at *;generalize ((mx-1-i':Nat):Int)=kk at *;refine D2 λU hU=>?_;walk_at "pu";refine m1 ⟨rfl,?_⟩;subst hU;refine D2 λU hU=>?_;walk_at "pu";rw[rl'];refine sp ?_;subst hU;walk_at "pu";exact m2 ⟨p1,p2,hN' _ _ _ _ _ _⟩
  ·obtain⟨s5,s6,s7,s8,s9,s10,rfl,rfl⟩:=hI;rw[J3,FE]
   have m1:∀{m:Nat} {R:PV->Nat->Prop},R (.tup [rowP (stI s n mx row oth i'),rowP (thI s n mx oth i'),.lst ((strg (stI s n mx row oth i') (thI s n mx oth i')).map PV.str)]) m->Ah [.tup [.int (s:Int),.int (r:Int)],rowP (rowI s n mx row oth i'),O,.int ((mx-1-i':Nat):Int)] m R:=λq=>by
    rw[<- hO];exact Jt S rL (by omega) (λz=>(fi z).1) q
   have m2:∀{m:Nat} {R:PV->Nat->Prop},R (rowP (gI s n mx row oth i')) m->u8 [rowP (stI s n mx row oth i'),rowP (thI s n mx oth i'),.int ((mx-1-i':Nat):Int)] m R:=λq=>Ju (by omega) (by omega) (λz=>(fi z).2) q;have cs:((strg (stI s n mx row oth i') (thI s n mx oth i')).map PV.str).all (cmpb 3)=true:=Ad _ 3
   have form:∃ws,w=.tup ws/\2<=ws.length/\ws.length<=3:=by
    rcases hb with⟨x,_,rfl⟩|⟨_,h⟩
    ·exact⟨_,rfl,by simp,by simp⟩
    ·cases h <;> exact⟨_,rfl,by simp,by simp⟩
   obtain⟨ws,rfl,w2,w3⟩:=form
   have m3:strg (stI s n mx row oth i') (thI s n mx oth i')=[]->Gk [rowP (stI s n mx row oth i'),rowP (gI s n mx row oth i'),.int (r:Int),.tup ws] m' R:=λe=>by
    rcases hb with⟨x,hx,_⟩|⟨_,hv⟩
    ·rw[e] at hx;cases hx
    ·exact Va (S.gl hi p e) hv h
   have m4:strg (stI s n mx row oth i') (thI s n mx oth i')≠[]->∃x∈strg (stI s n mx row oth i') (thI s n mx oth i'),ws=[.str (B0 "from"),.str x]:=λe=>by
    rcases hb with⟨x,hx,q⟩|⟨q,_⟩
    ·exact⟨x,hx,PV.tup.inj q⟩
    ·exact absurd q e
   have hT':=hT.symm;clear md hb fi;subst hU;generalize strg (stI s n mx row oth i') (thI s n mx oth i')=SG at *;generalize rowP (stI s n mx row oth i')=A at *;generalize rowP (thI s n mx oth i')=B at *;generalize rowP (gI s n mx row oth i')=G at *;generalize rowP (rowI s n mx row oth i')=V at *;generalize ((mx-1-i':Nat):Int)=k at *;dsimp only;refine D2 λU hU=>?_;walk_at "pu";refine m1 ⟨rfl,?_⟩;rw[hT'];subst hU;refine D2 λU hU=>?_;walk_at "pu";refine if_t (jp (by omega)) (if_f (by rw[jp (by omega)];rfl) ?_);subst hU;refine D2 λU hU=>?_
   by_cases e:SG=[]
   ·subst e;walk_at "pu";subst hU;walk_at "pu";exact m2 (m3 rfl)
   ·obtain⟨x,hx,rfl⟩:=m4 e;generalize hL:SG.map PV.str=L at *;walk_at "pu";refine gd2 cs rfl (if_t ?_ (if_t (jp rfl) (IA hL ?_)))
    ·cases SG with
     |nil=>exact absurd rfl e
     |cons a b=>rw[<- hL];rfl
    ·rw[jp hx];exact h
end
theorem Ve {P:List Str->List Ev->Prop}{s n mx i:Nat}{row:List Str}(h1:1<=s)(hn:1<=n)(hmx:mx=(n+s-1)/s)(hf:∀st es,P st es->Fair st es){ess:List (List Ev)}{sts:List (List Str)}{r:List Str}(h:Dy P s n mx row i ess sts r):r.Perm row:=by
 induction h with
 |nil=>exact CV _
 | @cons i ess sts r es h hi hp ih =>
  have f:=hf _ _ hp;have kh:=FJ (s:=s) (n:=n) (FI h1 hn (show mx-1-i<(n+s-1)/s by omega));refine(IG (by omega) ?_).trans ih;rw[IE f];exact Md f.sub
theorem m_mix {q:Nat}{a1 a2 a3 a4 a5 a6:Option Pu.Slot}{D:y9}(N:Nat)(hN:N<=999999000):∀(m:Nat) (left found:List PV) (n:Nat),left.length=m->found.length+left.length<=1000->left.all (cmpb 3)=true->n+left.length<=N->
   (∀ys n',ys.Perm (found++left)->n'<=n+left.length->D.nx [some (.v (.pot q)),a1,a2,a3,a4,a5,a6,some (.own []),some (.own ys),none,none,none] n')->
   Y0 (qB (qOpR (wNe 4) (qO 7) (qL (qLst qNil)))) (L4 (P9 8 (HP 7 (B7 AQ (A2 (qV 0) (A2 (qUn wLen (qO 7)) qNil)))))) D (m+1) [some (.v (.pot q)),a1,a2,a3,a4,a5,a6,some (.own left),some (.own found),none,none,none] n:=by
 intro m
 induction m with
 | zero =>
  intro left found n hl hs pl hn hD;have:left=[]:=Cv hl;subst this;simp only[Y0];walk_at "pu";exact hD found n (by simp) (by omega)
 | succ m ih =>
  intro left found n hl hs pl hn hD;cases left with
  |nil=>cases hl
  | cons y r =>
   rw[Y0];have hl':r.length=m:=by simpa using hl
   rw[E8] at hs hn;walk_at "pu";refine gd2 pl rfl (if_t rfl ⟨⟨_,rfl⟩,⟨_,rfl⟩,⟨by omega,by omega,by omega⟩,λd d0 d1=>⟨by omega,?_⟩⟩);rw[Z6 (n:=r.length+1) d0 d1];have hk:d.toNat<(y::r).length:=by rw[E8];omega
   dsimp only;rw[D9 hk];refine⟨by omega,?_⟩;have le:((y::r).eraseIdx d.toNat).length=r.length:=by rw[GB hk];rfl
   refine ih ((y::r).eraseIdx d.toNat) (found++[(y::r)[d.toNat]]) (n+1) (by omega) (by rw[E6,e7,le];omega) (R4.mpr λz hz=>R4.mp pl z (List.mem_of_mem_eraseIdx hz)) (by omega) λys n' p h'=>?_;rw[le] at h';refine hD ys n' (p.trans ?_) (by rw[E8];omega);rw[V6];exact(SeT.FU _ _ _ (D9 hk)).append_left found
theorem Vf {α:Type}{l:List α}{i j:Nat}{a b:α}(hi:l[i]?=some a)(hj:l[j]?=some b):((l.set i b).set j a).Perm l:=by
 obtain⟨h1,e1⟩:=F6.mp hi;obtain⟨h2,e2⟩:=F6.mp hj;rw[<- e1,<- e2];exact List.set_set_perm h1 h2
theorem Vg {q s n r m:Nat}{row:List Str}{R:PV->Nat->Prop}(h1:1<=s)(h8:s<=8)(hn:1<=n)(h24:n<=24)(hr:RowS row)(hl:row.length=n)(hm:m<=998000000)(h:∀oth n',oth.Perm row->n'<=m+2200->R (rowP oth) n'):Go [.pot q,.tup [.int (s:Int),.int (r:Int)],rowP row] m R:=by
 refine⟨rfl,?_⟩;unfold NB;have hW':rowP row=.tup (row.map PV.str):=rfl;have md:∀{m:Nat} {R:PV->Nat->Prop},m<=998000001->(∀X Y oth n',oth.Perm row->n'<=m+2000->R (.tup [X,Y,rowP oth]) n')->Gn [.pot q,.tup [.int (s:Int),.int (r:Int)],rowP row] m R:=λhm h=>m_day (P:=Fair) (n:=n) (λst ms es hs hsl hl' hw p se=>(SY hs.1 hl').perm p) (λ_ _ p=>p) h1 h8 hn h24 hr hl (by omega) λess sts r' n2 hd hn2=>h _ _ r' n2 (Ve h1 hn rfl (λ_ _ p=>p) hd) hn2;rw[hW'] at md ⊢;have Zl:(row.map PV.str).length=n:=by rw[B4];exact hl
 have cz:=Ad row 3
 have h:∀ys n',ys.Perm (row.map PV.str)->n'<=m+2200->R (.tup ys) n':=λys n' p hn'=>by
  obtain⟨o,po,rfl⟩:=SeT.A_ p;exact h o n' po hn'
 refine D2 λU hU=>?_;generalize hZ:row.map PV.str=Z at *;walk_at "pu";refine⟨by omega,λw w0 w1=>?_⟩;subst hU;refine D2 λU hU=>?_;walk_at "pu";refine md (by omega) λX Y fo n1 pf hn1=>⟨rfl,?_⟩;have pf:=pf.map PV.str;rw[hZ] at pf;subst hU;refine D2 λU hU=>?_
 by_cases c:w=0
 ·subst c;walk_at "pu";exact⟨Z.length+1,m_mix 999000000 (by omega) Z.length Z [] n1 rfl (by rw[Zl];simp;omega) cz (by omega) λys n' p hn'=>h ys n' p (by omega)⟩
 ·unfold rowP;generalize fo.map PV.str=FO at *;walk_at "pu";refine if_f (jq c) ?_;subst hU;refine D2 λU hU=>?_;walk_at "pu";subst hU;refine D2 λU hU=>?_;walk_at "pu";obtain⟨v,hv,ev⟩:=AR (xs:=[PV.int 0,PV.int 0,PV.int 1,PV.int 1,PV.int 2,PV.int 3]) w0 w1
  obtain⟨t,rfl,t0,t1⟩:∃t:Int,v=.int t/\0<=t/\t<=3:=by
   simp only[C5,L9,or_false] at hv;rcases hv with rfl|rfl|rfl|rfl|rfl|rfl <;> exact⟨_,rfl,by decide,by decide⟩
  rw[ev];refine⟨by omega,?_⟩;refine Q1 (λi env m'=>∃S s9 s10 s11,env=[some (.v (.pot q)),some (.v (.tup [.int (s:Int),.int (r:Int)])),some (.v (.tup Z)),some (.v (.int w)),some (.v X),some (.v Y),some (.v (.tup FO)),none,some (.own S),s9,s10,s11]/\S.Perm Z/\m'<=n1+4*i) _ 0 _ _ ⟨FO,none,none,none,rfl,pf,by omega⟩ (λi x env m' N ex hI hN=>?_) (λenv m' hI=>?_)
  ·obtain⟨hi,rfl⟩:=Dw ex;obtain⟨S,s9,s10,s11,rfl,pS,hm'⟩:=hI;have Sl:S.length=n:=by rw[pS.length_eq,Zl]
   refine D2 λU hU=>?_;walk_at "pu";refine⟨⟨by omega,by omega,by omega⟩,λa a0 a1=>?_⟩;subst hU;refine D2 λU hU=>?_;walk_at "pu";refine⟨by omega,λd d0 d1=>⟨⟨by omega,by omega,by omega⟩,λe e0 e1=>⟨by omega,λf f0 f1=>?_⟩⟩⟩;obtain⟨v,hv,ev⟩:=AR (xs:=[PV.int (if(S.length:Int)-1<a+1+d then(S.length:Int)-1 else a+1+d),PV.int e]) f0 f1
   obtain⟨b,rfl,b0,b1⟩:∃b:Int,v=.int b/\0<=b/\b<S.length:=by
    simp only[C5,L9,or_false] at hv;rcases hv with rfl|rfl
    ·exact⟨_,rfl,by split <;> omega,by split <;> omega⟩
    ·exact⟨_,rfl,e0,e1⟩
   rw[ev];obtain⟨xa,ea,ta⟩:=EK a0 a1;obtain⟨xb,eb,tb⟩:=EK b0 b1;subst hU;walk_at "pu";rw[tb];dsimp only;rw[ta];refine⟨⟨_,rfl⟩,?_⟩;rw[Z6 a0 a1];dsimp only;rw[Z6 b0 (by rw[M1];exact b1)];exact hN _ _ ⟨_,_,_,_,rfl,(Vf ea eb).trans pS,by omega⟩
  ·obtain⟨S,s9,s10,s11,rfl,pS,hm'⟩:=hI;rw[Fc] at hm';subst hU;walk_at "pu";exact h S _ pS (by omega)
def askP (y:PV):Prop:=∃(s r n:Nat) (row oth:List Str),Se s n ((n+s-1)/s) row oth/\r<=7/\y=.tup [.tup [.int (s:Int),.int (r:Int)],rowP row,rowP oth]
theorem Vh {y:PV}(h:askP y):Show 2 6400 y:=by
 obtain⟨s,r,n,row,oth,S,r7,rfl⟩:=h;have h8:=S.h8;have n24:=S.h24;refine(Show.tup (d:=1) (c:=2100) (l:=3) (λx hx=>?_) (by simp)).le (B8 _) (by decide);simp only[C5,L9,or_false] at hx;rcases hx with rfl|rfl|rfl
 ·exact(Tg (by omega) (by omega)).le (by decide) (by decide)
 ·exact FM S.hr.2 (by rw[S.hl];exact n24)
 ·exact FM S.no.2 (by rw[S.ol];exact n24)
theorem m_law (ns:List Int)(hl:ns.length<=63):Jg ⟨λ_ _=>False,λr _=>r=.bl true,λ_ _=>False,λ_ _=>False⟩ (z0 ["_law_script","_law_draws","_law_asks","_law_turn","_law_meeting","_law_row","_law_held","_law_other_here","_law_many"] [.scr ns]) 0:=by
 unfold Jg;refine D2 λU hU=>?_;walk_at "pu";refine⟨hl,λq=>?_⟩;subst hU;refine D2 λU hU=>?_;walk_at "pu";subst hU;refine D2 λU hU=>?_;walk_at "pd";refine⟨by decide,?_⟩;refine Q1 (λi env m=>∃ys s3 s4 s5,env=[some (.v (.scr ns)),some (.v (.pot q)),some (.own ys),s3,s4,s5,none,none,none]/\ys.length=i/\(∀y∈ys,askP y)/\m<=3000*i) _ 0 _ _ ⟨[],_,_,_,rfl,rfl,(λ_ z=>nomatch z),by omega⟩ (λi x env m N ex hI hN=>?_) (λenv m hI=>?_)
 ·obtain⟨ys,s3,s4,s5,rfl,hi,hy,hm⟩:=hI;obtain⟨hj,rfl⟩:=Dw ex;rw[J3] at hi hm hN;have hj3:i<4:=hj;refine D2 λU hU=>?_;walk_at "pd";refine m_meet (by omega) λs r zs n' h1 h8 r7 z1 z24 zr hn'=>?_;subst hU;have mo:∀{m:Nat} {R:PV->Nat->Prop},m<=998000000->(∀oth n',oth.Perm zs->n'<=m+2200->R (rowP oth) n')->Go [.pot q,.tup [.int (s:Int),.int (r:Int)],rowP zs] m R:=λhm h=>Vg h1 h8 z1 z24 zr rfl hm h;refine⟨rfl,?_⟩;have ask:=λoth (p:oth.Perm zs)=>(⟨s,r,zs.length,zs,oth,⟨h1,h8,z1,z24,rfl,zr,p,rfl⟩,r7,rfl⟩:askP (.tup [.tup [.int (s:Int),.int (r:Int)],rowP zs,rowP oth]));generalize rowP zs=Z at *;walk_at "pu";refine⟨⟨_,rfl⟩,mo (by omega) λoth n2 p hn2=>⟨by omega,hN _ _ ⟨_,_,_,_,rfl,by rw[E6,hi];rfl,λz hz=>?_,by omega⟩⟩⟩;rcases M8.mp hz with hz|hz
  ·exact hy z hz
  ·rw[K2.mp hz];exact ask oth p
 ·obtain⟨ys,s3,s4,s5,rfl,hi,hy,hm⟩:=hI;have hi4:ys.length=4:=by rw[hi];simp
  have ysS:Show 3 26000 (.lst ys):=(Show.lst (d:=2) (c:=6400) (l:=4) (λy h=>Vh (hy y h)) (by omega)).le (B8 _) (by decide);subst hU;dsimp only;refine D2 λU hU=>?_;walk_at "pu";refine BV ysS.sh (by have:=ysS.de;omega) (by have:=ysS.co;omega) ?_;subst hU;refine D2 λU hU=>?_;walk_at "pd";refine Q1 (λi env m=>∃s3 s4 s5 s7 s8,env=[some (.v (.scr ns)),some (.v (.pot q)),some (.v (.lst ys)),s3,s4,s5,some (.v (.str (Ib (.lst ys)))),s7,s8]) _ 0 _ _ ⟨_,_,_,_,_,rfl⟩ (λi x env m N ex hI hN=>?_) (λenv m hI=>?_)
  rotate_left
  ·obtain⟨s3,s4,s5,s7,s8,rfl⟩:=hI;subst hU;walk_at "pu";refine BV ysS.sh (by have:=ysS.de;omega) (by have:=ysS.co;omega) ?_;rw[Dx,jp rfl]
   rfl
  obtain⟨s3,s4,s5,s7,s8,rfl⟩:=hI;obtain⟨s,r,n,row,oth,S,r7,rfl⟩:=hy x (J5 ex);generalize (n+s-1)/s=mx at *;have mt:∀{m:Nat} {R:PV->Nat->Prop},(∀v,Jv r s n mx row oth v->R v m)->DP [.tup [.int (s:Int),.int (r:Int)],rowP row,rowP oth] m R:=λq=>N_ S (λok=>q _ (.inl ⟨ok,rfl⟩)) λi v hi ok hb=>q _ (.inr ⟨i,v,hi,ok,hb,rfl⟩);have mr:∀{v:PV} {m:Nat} {R:PV->Nat->Prop},Jv r s n mx row oth v->R (.bl true) m->Gm [.tup [.int (s:Int),.int (r:Int)],rowP row,rowP oth,v] m R:=λhv q=>Vd S r7 hv q;have md:∀{m:Nat} {R:PV->Nat->Prop},(∀(z:Int) (b:Bool),(decide (z=0)=b)->(b=true↔∃i,i<mx/\(∀j<i,okI r s n mx row oth j)/\¬okI r s n mx row oth i)->R (.int z) m)->Gf [.tup [.int (s:Int),.int (r:Int)],rowP row,rowP oth] m R:=λq=>m_days S (λok z hz=>q z false (jq (by omega)) ⟨nofun,λ⟨i,hi,_,no⟩=>absurd (ok i hi) no⟩) λi v hi ok hb=>q 0 true rfl ⟨λ_=>⟨i,hi,ok,Js hb⟩,λ_=>rfl⟩;have mc:∀{m:Nat} {R:PV->Nat->Prop},(∀v,(∃X,v=.tup X)->(∀j<mx,okI r s n mx row oth j)->R v m)->(∀i (k:Int),i<mx->(∀j<i,okI r s n mx row oth j)->¬okI r s n mx row oth i->R (.int k) m)->DS [.tup [.int (s:Int),.int (r:Int)],rowP row,rowP oth] m R:=λq q'=>Ob S (λok=>q _ ⟨_,rfl⟩ ok) λi hi ok no=>q' i _ hi ok no
  generalize rowP row=W at *;generalize rowP oth=O at *;refine⟨rfl,?_⟩;dsimp only[gCn,gN,gNl,gAt,List.set];refine D2 λU hU=>?_;walk_at "pu";refine mt λv hv=>mr hv (if_f rfl ?_);subst hU;refine D2 λU hU=>?_;walk_at "pu";refine md λz b eb hb=>?_;subst hU;refine D2 λU hU=>?_;walk_at "pu";subst hU;have fin:=λt3 t4 t5 t7 t8=>hN _ m ⟨t3,t4,t5,t7,t8,rfl⟩;clear hN;walk_at "pu";refine mc (λv ⟨X,e⟩ ok=>?_) λi k hi ok no=>?_
  ·subst e;have:b=false:=by cases b with|false=>rfl|true=>obtain⟨i,hi,_,no⟩:=hb.mp rfl;exact absurd (ok i hi) no
   subst this;walk_at "pu";exact if_f (by rw[eb];rfl) (fin _ _ _ _ _)
  ·have:b=true:=hb.mpr ⟨i,hi,ok,no⟩;subst this;walk_at "pu";exact if_f (by rw[eb];rfl) (fin _ _ _ _ _)
end Tb
end
section
namespace Tb
open PySem L2 Pu
section
variable {P:C8}{w:C4}{K:A9}{mg:Str->Option A3}{base:B6}
theorem Oc (h:SqL K H a xs)(s:Same H H'):SqL K H' a xs:=h.elim (λh=>.inl (Rd.keep h λo e=>s a o e)) .inr
theorem Vi (s:Same H H')(h:H' c=none):H c=none:=by
 cases e:H c with
 |none=>rfl
 |some o=>rw[s c o e] at h;cases h
theorem putK_new {jg:List (Key×V)}{k:Key}{v:V}(h:∀kv∈jg,¬kv.1=k):putK jg k v=jg++[(k,v)]:=by
 unfold putK;rw[jt];rw[Bool.not_eq_true,Ei];intro x hx;rw[decide_eq_true_iff];exact h x hx
theorem Vj:AS [] (dPot c a l s)=dPot c a l s:=by
 unfold AS dPot;simp only[Y7,List.foldl_nil];have e1:putK ([]:List (Key×V)) (D8 (B0 "cells")) (V.ref c)=[(D8 (B0 "cells"),V.ref c)]:=putK_new (λ_ z=>nomatch z);have e2:putK [((D8 (B0 "cells"):Key),V.ref c)] (D8 (B0 "at")) (V.int a)=[(D8 (B0 "cells"),V.ref c),(D8 (B0 "at"),V.int a)]:=putK_new (λkv hkv=>by rw[K2.mp hkv];exact q8 (by decide))
 have e3:putK [((D8 (B0 "cells"):Key),V.ref c),(D8 (B0 "at"),V.int a)] (D8 (B0 "left")) (V.int l)=[(D8 (B0 "cells"),V.ref c),(D8 (B0 "at"),V.int a),(D8 (B0 "left"),V.int l)]:=putK_new (λkv hkv=>by
  simp only[C5,L9,or_false] at hkv
  rcases hkv with rfl|rfl <;> exact q8 (by decide))
 have e4:putK [((D8 (B0 "cells"):Key),V.ref c),(D8 (B0 "at"),V.int a),(D8 (B0 "left"),V.int l)] (D8 (B0 "seed")) (V.int s)=[(D8 (B0 "cells"),V.ref c),(D8 (B0 "at"),V.int a),(D8 (B0 "left"),V.int l),(D8 (B0 "seed"),V.int s)]:=putK_new (λkv hkv=>by
  simp only[C5,L9,or_false] at hkv
  rcases hkv with rfl|rfl|rfl <;> exact q8 (by decide))
 rw[e1,e2,e3,e4]
theorem Vk (F:Fn0 K mg "_law_begin" (top 29))(m_len:mg "len"=none)(m_list:mg "list"=none):Kn P w K mg base "_law_begin" 1 ["_law_script"] (Pu.Fw K):=by
 have sc:Z5 ["_law_script"] ["_law_script"] (J4 (top 29)):=⟨rfl,rfl,rfl,by decide +kernel,rfl,by decide +kernel,by decide +kernel⟩;refine F.ok sc (λvs H Q E h=>?_) (λ_ _ _ _ _ _=>bd1 λ_=>rfl) (λf jn A outer s H vs Q E hr h=>?_)
 ·obtain⟨a,ns,rfl,_⟩:=h
  rfl
 obtain⟨a,ns,rfl,hS,hl63,q⟩:=h;refine⟨_,C_ (Da (Rg (Fe M3 (BK Ki rfl m_list Kw (E9 (Hf Hk (pv 0) Hd (He N0)) G7)) (Fe M3 N0 (Fe M3 N0 (Fe M3 (O1 BI N0 (y0 Hl rfl m_len EI (E9 (Hf Hk (pv 0) Hd (He N0)) G7))) Rf)))) rfl rfl (by simp) (by simp))),?_⟩
 have cut:cutV (ns.map V.int) none (some 63)=ns.map V.int:=by
  unfold cutV;rw[HT.sIx_none,show(some (63:Int))=some ((63:Nat):Int) from rfl,HT.sIx_nat,Au,B4,CJ hl63];exact k6 (by rw[B4];omega)
 intro p hp;have sm0:Same H (upd H p (.dK [])):=Same.lay1 hp;refine⟨_,rfl,63,rfl,a,_,rfl,Oc hS sm0,λp0 hp0=>?_⟩;have sm1:=sm0.trans (Same.lay1 (o:=.lst (cutV (ns.map V.int) none (some 63))) hp0);have at1:upd (upd H p (.dK [])) p0 (.lst (cutV (ns.map V.int) none (some 63))) p=some (.dK []):=Same.lay1 hp0 p _ E4;refine⟨p0,_,rfl,.inl (SqL.of E4),λc hc=>?_⟩;have sm2:=sm1.trans (Same.lay1 (o:=.lst (cutV (ns.map V.int) none (some 63))) hc);have at2:=Same.lay1 (o:=.lst (cutV (ns.map V.int) none (some 63))) hc p _ at1;have cn:=Vi sm1 hc;refine⟨_,rfl,63,rfl,a,_,rfl,Oc hS sm2,λp1 hp1=>?_⟩;have sm3:=sm2.trans (Same.lay1 (o:=.lst (cutV (ns.map V.int) none (some 63))) hp1);have at3:=Same.lay1 (o:=.lst (cutV (ns.map V.int) none (some 63))) hp1 p _ at2;have ct3:=Same.lay1 (o:=.lst (cutV (ns.map V.int) none (some 63))) hp1 c _ E4;refine⟨p1,_,rfl,.inl (SqL.of E4),_,_,rfl,rfl,at3,dPot c 0 0 (1000003+((cutV (ns.map V.int) none (some 63)).length:Nat)),rfl,by show 4<=15;decide,?_⟩;rw[Vj];have ncp:c≠p:=λz=>by rw[z] at hc;rw[at1] at hc;cases hc
 refine q _ p c ns 0 0 _ (λb o e=>?_) hp cn E4 (by rw[D4 ncp];rw[ct3,cut]) ⟨hl63,by omega,by omega,by omega,?_⟩
 ·have nbp:b≠p:=λz=>by rw[z,hp] at e;cases e
  rw[D4 nbp];exact sm3 b o e
 ·rw[cut,B4];omega
theorem upd_id (h:H p=some o):upd H p o=H:=by
 funext b
 by_cases e:b=p
 ·rw[e,E4,h]
 ·rw[D4 e]
theorem Od (h:H p=some (.dK (dPot c a l s))):DGet H p (.str (B0 "cells")) (some (.ref c)):=SC (a:=a) (l:=l) (s:=s)▸DGet.k (k:=D8 (B0 "cells")) h
theorem dgAt (h:H p=some (.dK (dPot c a l s))):DGet H p (.str (B0 "at")) (some (.int a)):=SD (c:=c) (l:=l) (s:=s)▸DGet.k (k:=D8 (B0 "at")) h
theorem Gu (h:H p=some (.dK (dPot c a l s))):DGet H p (.str (B0 "left")) (some (.int l)):=SE (c:=c) (a:=a) (s:=s)▸DGet.k (k:=D8 (B0 "left")) h
theorem Gv (h:H p=some (.dK (dPot c a l s))):DGet H p (.str (B0 "seed")) (some (.int s)):=SF (c:=c) (a:=a) (l:=l)▸DGet.k (k:=D8 (B0 "seed")) h
theorem Jw:(dPot c a l s).length<B9:=by show 4<B9;decide
theorem dpAt (h:H p=some (.dK (dPot c a l s))):DPut H p (.str (B0 "at")) (.int x) (upd H p (.dK (dPot c x l s))):=SI (c:=c) (a:=a) (l:=l) (s:=s)▸DPut.k (k:=D8 (B0 "at")) h Jw
theorem Oe (h:H p=some (.dK (dPot c a l s))):DPut H p (.str (B0 "left")) (.int x) (upd H p (.dK (dPot c a x s))):=SJ (c:=c) (a:=a) (l:=l) (s:=s)▸DPut.k (k:=D8 (B0 "left")) h Jw
theorem Of (h:H p=some (.dK (dPot c a l s))):DPut H p (.str (B0 "seed")) (.int x) (upd H p (.dK (dPot c a l x))):=SK (c:=c) (a:=a) (l:=l) (s:=s)▸DPut.k (k:=D8 (B0 "seed")) h Jw
theorem Vl (F:Fn0 K mg "_law_next" (top 30))(m_len:mg "len"=none)(m_int:mg "int"=none):Kn P w K mg base "_law_next" 1 ["_law_draws","_law_many"] (D6 K potD AQ):=by
 refine SM ?_;have sc:Z5 ["_law_draws","_law_many","_law_cell","_law_digit"] ["_law_draws","_law_many"] (J4 (top 30)):=⟨rfl,rfl,rfl,by decide +kernel,rfl,by decide +kernel,by decide +kernel⟩;refine F.ok sc (λvs H Q E h=>?_) (λ_ _ _ _ _ _=>bd2 λ_ _=>rfl) (λf jn A outer s H vs Q E hr h=>?_)
 ·obtain⟨p,c,cells,a,l,s,many,rfl,_⟩:=h
  rfl
 obtain⟨p,c,cells,a,l,sd,many,rfl,hp,hc,⟨c63,a0,l0,s0,s1⟩,n0,n1,q⟩:=h;have hu:=hu_of hr
 refine⟨_,(o7 (GS (PW.pt (JS (Dd op_eq (W6 hu (pv 0) M3 (λ_ _=>rfl)) N0 (C9 _)) (JR (Dd op_lt (W6 hu (pv 0) M3 (λ_ _=>rfl)) (y0 Hl rfl m_len EI (E9 (W6 hu (pv 0) M3 (λ_ _=>rfl)) G7)) (C9 _)))))
       (o7 (GV (i:=2) sc.nd rfl (Or.inl rfl) (Hj Kf (W6 hu (pv 0) M3 (λ_ _=>rfl)) (W6 hu (pv 0) M3 (λ_ _=>rfl)) (λ_ _=>rfl)))
       (o7 (Dz hu (pv 0) M3 (O1 BI (W6 hu (pv 0) M3 (λ_ _=>rfl)) N0) rfl)
       (o7 (Dz hu (pv 0) M3 (O1 AC (O1 BI (O1 BI (O1 Dc (W6 hu (pv 0) M3 (λ_ _=>rfl)) N0) (O1 AC (pv 2) (O1 JT N0 N0))) N0) N0) rfl)
       (C_ (Dz hu (pv 0) M3 (O1 Dc (pv 2) (BK Pv rfl m_int Kv (E9 (JV op_ge (pv 2) (O1 JT N0 N0) (C9 _)) G7))) rfl))))) GQ)
     (o7 (GS (Dd op_gt (W6 hu (pv 0) M3 (λ_ _=>rfl)) N0 (C9 _))
       (o7 (GV (i:=3) sc.nd rfl (Or.inl rfl) (O1 AC (W6 hu (pv 0) M3 (λ_ _=>rfl)) (pv 1)))
       (o7 (Dz hu (pv 0) M3 (O1 GY (W6 hu (pv 0) M3 (λ_ _=>rfl)) (pv 1)) rfl)
       (C_ (Da (pv 3))))) GQ)
     (o7 (Dz hu (pv 0) M3 (O1 AC (O1 BI (O1 Dc (W6 hu (pv 0) M3 (λ_ _=>rfl)) N0) N0) N0) rfl)
     (C_ (Da (O1 AC (O1 GY (O1 AC (O1 Dc (W6 hu (pv 0) M3 (λ_ _=>rfl)) (W6 hu (pv 0) M3 (λ_ _=>rfl))) N0) N0) (pv 1))))))),?_⟩
 have sl:(dPot c a l sd).length<B9:=by show 4<B9;decide
 have cp:c≠p:=λz=>by rw[z,hp] at hc;cases hc
 refine Qv (λσ' H'=>∃a' l' s' s2,σ'=[some (.ref p),some (.int many),s2,none]/\DM cells a' l' s'/\H'=upd H p (.dK (dPot c a' l' s'))) (λkey=>?_) ?_
 ·have stay:=key _ _ ⟨a,l,sd,none,rfl,⟨c63,a0,l0,s0,s1⟩,(upd_id hp).symm⟩;refine⟨_,rfl,p,_,rfl,Gu hp,rfl,_,rfl,?_⟩;refine ite2 (λc1=>?_) (λc1=>stay);refine⟨_,rfl,p,_,rfl,dgAt hp,_,rfl,p,_,rfl,Od hp,c,_,rfl,.inl (SqL.of hc),_,_,rfl,rfl,_,rfl,?_⟩;refine ite2 (λc2=>?_) (λc2=>stay);have c2':a<(((cells.map V.int).length:Nat):Int):=ju c2;rw[B4] at c2';obtain⟨v,qa⟩:=at_map (ns:=cells) a0 c2';refine⟨_,rfl,p,_,rfl,Od hp,_,rfl,p,_,rfl,dgAt hp,c,_,_,_,rfl,rfl,SqL.of hc,qa,?_⟩;refine⟨_,rfl,p,_,rfl,dgAt hp,_,_,rfl,rfl,_,rfl,p,_,rfl,dpAt hp,?_⟩;refine⟨_,rfl,p,_,rfl,Gv E4,_,_,rfl,rfl,.inl ⟨by omega,by omega⟩,_,rfl,_,_,rfl,rfl,⟨by decide,by decide,by decide⟩,_,_,rfl,rfl,(by show(0:Int)<10 ^ Int.toNat 30;decide +kernel),_,_,rfl,rfl,_,_,rfl,rfl,_,_,rfl,rfl,(by show(0:Int)<2305843009213693951;decide),_,rfl,p,_,rfl,Of E4,?_⟩;rw[EG];refine⟨_,rfl,_,rfl,_,_,rfl,rfl,⟨by decide,by decide,by decide⟩,_,_,rfl,rfl,?_⟩;refine .inr ⟨_,rfl,?_⟩
  have hz:0<=v*(if decide ((10:Int) ^ Int.toNat 18<=v)=true then(1:Int) else 0):=by
   by_cases hb:(10:Int) ^ Int.toNat 18<=v
   ·rw[jr (jp hb),Int.mul_one];exact Int.le_trans (by decide +kernel) hb
   ·rw[jt (by simpa using hb),Int.mul_zero];exact Int.le_refl _
  have hz2:(0:Int)<=(if decide ((10:Int) ^ Int.toNat 18<=v)=true then(1:Int) else 0)/\(if decide ((10:Int) ^ Int.toNat 18<=v)=true then(1:Int) else 0)<2 ^ 64:=by split <;> decide
  refine⟨_,_,rfl,rfl,.inr ⟨by have:=hz2.1;omega,hz2.2⟩,_,rfl,p,_,rfl,Oe E4,?_⟩;rw[EG];exact key _ _ ⟨_,_,_,_,rfl,⟨c63,by omega,hz,Bv _ (by decide),Int.lt_of_lt_of_le (Bu _ (by decide)) (by decide)⟩,rfl⟩
 rintro σ' H' ⟨a',l',s',s2,rfl,⟨_,a0',l0',s0',s1'⟩,rfl⟩;refine⟨_,rfl,p,_,rfl,Gu E4,_,_,rfl,rfl,_,rfl,?_⟩;refine ite2 (λc1=>?_) (λc1=>?_)
 ·refine⟨_,rfl,p,_,rfl,Gu E4,_,rfl,_,_,rfl,rfl,n0,?_⟩;refine⟨_,rfl,p,_,rfl,Gu E4,_,rfl,_,_,rfl,rfl,⟨n0,by omega⟩,_,rfl,p,_,rfl,Oe E4,?_⟩;rw[EG];refine⟨_,rfl,?_⟩;exact q _ _ _ _ (Bv _ (by omega)) (Bu _ n0) ⟨c63,a0',Int.ediv_nonneg l0' (by omega),s0',s1'⟩
 ·refine⟨_,rfl,p,_,rfl,Gv E4,_,_,rfl,rfl,.inl ⟨by omega,by omega⟩,_,_,rfl,rfl,_,_,rfl,rfl,(by show(0:Int)<2305843009213693951;decide),_,rfl,p,_,rfl,Of E4,?_⟩;rw[EG];have m0:=Bv (s'*1181783497276652981+12345678910987) (show(2305843009213693951:Int)≠0 by decide);have m1:=Bu (s'*1181783497276652981+12345678910987) (show(0:Int)<2305843009213693951 by decide);generalize (s'*1181783497276652981+12345678910987)%2305843009213693951=z at m0 m1 ⊢;refine⟨_,rfl,p,_,rfl,Gv E4,_,rfl,p,_,rfl,Gv E4,_,_,rfl,rfl,.inl ⟨by omega,by omega⟩,_,_,rfl,rfl,(by show(0:Int)<2305843009213693921;decide),_,_,rfl,rfl,⟨by decide,by decide⟩,_,rfl,_,_,rfl,rfl,n0,?_⟩;exact q _ _ _ _ (Bv _ (by omega)) (Bu _ n0) ⟨c63,a0',l0',m0,by omega⟩
end
end Tb
end
section
namespace Pu
open PySem PySem.Spec L2
section
variable {T:PotK}{ι:Type}{K:A9}{F:ι->Cx}{e:Expr}{es:List Expr}{st:Stmt}{pe:pE}{pl:pA}{pos:Pos}{np:Bool}{x:Str}
theorem qv (i:Nat)(h:∀z,EW (F z) (.Name x pos) (tVar i):=by exact λ_=>vw _):QE T K F (.Name x pos) (qV i):=qe_var i h
theorem qf {p:Pos}{f:pF}{ps:List Str}{k j:Nat}{P:C8}{w:C4}{K0:A9}{mg:Str->Option A3}{base:B6}{A:D5}(hG:Kn P w K0 mg base x k ps (D6 K T f))(hr:Room j A)(ha:QA T K F (e::es) pl)(hF:∀z,(F z).prog=P/\(F z).w=w/\(F z).K=K0/\(F z).mg=mg/\(F z).base=base/\(F z).A=A:=by exact λ_=>⟨rfl,rfl,rfl,rfl,rfl,rfl⟩)(hk:k<=j:=by decide)(hg:∀z,Gl (F z) x:=by intro _;rfl)(hdb:(x == ("__debug__":Str))=false:=by decide)(hs:F5 e=true:=by rfl)(hpl:∀z,(backTo pos (E3 es (F z).env)).any (·.1)=false:=by intro _;rfl):QE T K F (.Call (.Name x p) (e::es) [] pos) (B7 f pl):=qe_fn (λz=>by obtain⟨h1,h2,h3,h4,h5,_⟩:=hF z;rw[h1,h2,h3,h4,h5];exact hG) (λz=>by rw[(hF z).2.2.2.2.2];exact hr) hk hg ha hdb hs hpl
theorem gn (i:Nat){N:List Str}(hN:N.Nodup)(hNF:∀z,(F z).N=N:=by exact λ_=>rfl)(hi:∀z,(F z).N[i]?=some x:=by intro _;rfl)(hx:∀z,Loc (F z).env.scope x:=by intro _;first|exact Or.inl rfl|exact Or.inr rfl)(hf:∀z,(F z).fn x=true\/(F z).env.scope.names.lookup x=some .local:=by intro _;first|exact .inl rfl|exact .inr rfl|assumption):QG K F (.Name x pos) (gN i):=QH λz=>HB i (hNF z▸hN) (hi z) (hx z) (hf z)
theorem sws (i:Nat){pos':Pos}{N:List Str}(hN:N.Nodup)(hNF:∀z,(F z).N=N:=by exact λ_=>rfl)(hi:∀z,(F z).N[i]?=some x:=by intro _;rfl)(hx:∀z,Loc (F z).env.scope x:=by intro _;first|exact Or.inl rfl|exact Or.inr rfl)(hs:∀z,c6 e (some (.Name x pos')) pos.line (F z).env=pure false:=by intro _;rfl)(hf:∀z,(F z).fn x=true\/(F z).env.scope.names.lookup x=some .local:=by intro _;first|exact .inl rfl|exact .inr rfl|assumption)(z:ι)(te:TE)(h:EW (F z) e te):SW (F z) (.Assign [.Name x pos'] e pos) (tAsg te (O8 i)):=sw_set (hNF z▸hN) (hi z) (hx z) (hs z) (hf z) te h
end
section
variable {P:C8}{w:C4}{K:A9}{mg:Str->Option A3}{base:B6}{T:PotK}{x:Str}{st:Stmt}{N ps:List Str}{k:Nat}{body:pS}
theorem fnk (F0:Fn0 K mg x st)(h:Z5 N ps (J4 st)->∀(f:A1) (jn:A3) (A:D5) (outer:List PySem.Env) (s:A5) (H:Hp) (E:XK),Room k (A.deeper (GH x (J4 st) s.heap.objs.size f jn))->
     QSs T false K (λ_:Unit=>(cxOf CX0 P w K mg base N x (J4 st) f jn A outer s H E).nox) (T6 st) body) (sc:Z5 N ps (J4 st):=by exact⟨rfl,rfl,rfl,by decide +kernel,rfl,by decide +kernel,by decide +kernel⟩)
   (bd:∀(kV doc pm:A3) (an:Option A1) (jn ct:A3) (us:List A3),us.length=ps.length->bindArgs (X1 x x (i7 st) (T6 st) (J4 st) .none kV doc pm an jn ct) ⟨us,[]⟩=pure (ps.zip us):=by intro _ _ _ _ _ _;first|exact bd1 λ_=>rfl|exact bd2 λ_ _=>rfl|exact bd3 λ_ _ _=>rfl|exact bd4 λ_ _ _ _=>rfl|exact bd5 λ_ _ _ _ _=>rfl) :
   Kn P w K mg base x (k+1) ps (D6 K T (fnP N ps body)):=fn_ok F0 sc bd (h sc)
end
end Pu
end
section
namespace Tb
open PySem L2 Pu
section
variable (P:C8)(w:C4)(K:A9)(mg:Str->Option A3)(base:B6)(Pt:A1)
abbrev Vm:Prop:=Kn P w K mg base "_law_begin" 1 ["_law_script"] (Fw K)
abbrev Gw:Prop:=Kn P w K mg base "_law_next" 1 ["_law_draws","_law_many"] (D6 K potD AQ)
abbrev Og:Prop:=Kn P w K mg base "_law_names" 2 ["_law_draws","_law_many"] (D6 K potD IV)
abbrev Oh:Prop:=Kn P w K mg base "_law_meet" 3 ["_law_draws","_law_most"] (D6 K potD IW)
abbrev Jx:Prop:=Kn P w K mg base "span" 1 ["meeting","n","k"] (D6 K potD FW)
abbrev DW:Prop:=Kn P w K mg base "start_on" 2 ["meeting","row","k"] (D6 K potD u7)
abbrev Oi:Prop:=Kn P w K mg base "from_reasons" 3 ["meeting","start","other","k"] (D6 K potD FX)
abbrev Jy:Prop:=Kn P w K mg base "goal_of" 3 ["meeting","start","other","k"] (D6 K potD Ch)
abbrev Oj:Prop:=Kn P w K mg base "goes_round" 1 ["start","goal","x"] (D6 K potD FY)
abbrev Ol:Prop:=Kn P w K mg base "round_reasons" 2 ["start","goal"] (D6 K potD FZ)
abbrev Gx:Prop:=Kn P w K mg base "between" 1 ["start","touch"] (D6 K potD Ba)
abbrev Om:Prop:=Kn P w K mg base "is_far" 2 ["start","reach","touch"] (D6 K potD F_)
abbrev Jz:Prop:=Kn P w K mg base "boats_of" 1 ["events"] (D6 K potD Ci)
abbrev On:Prop:=Kn P w K mg base "is_cross" 2 ["start","one","other"] (D6 K potD Ga)
abbrev Oo:Prop:=Kn P w K mg base "touch_reasons" 3 ["start","reach","touches"] (D6 K potD Gb)
abbrev Op:Prop:=Kn P w K mg base "sheet_of" 1 ["events"] (D6 K potD IX)
abbrev JA:Prop:=Kn P w K mg base "touches_to" 2 ["start","goal"] (D6 K potD Cj)
abbrev Oq:Prop:=Kn P w K mg base "reasons_at" 4 ["meeting","start","other","k"] (D6 K potD Gc)
abbrev Os:Prop:=Kn P w K mg base "put_on" 2 ["meeting","row","k","boats"] (D6 K potD IY)
abbrev Ot:Prop:=Kn P w K mg base "touches_of" 1 ["events"] (D6 K potD IZ)
abbrev Ou:Prop:=Kn P w K mg base "exchanged" 1 ["row","one","other"] (D6 K potD I_)
abbrev Ov:Prop:=Kn P w K mg base "row_behind" 2 ["start","sheet"] (D6 K potD Ja)
abbrev Ow:Prop:=Kn P w K mg base "raced" 3 ["meeting","row","k","sheet"] (D6 K potD Gd)
abbrev Ox:Prop:=Kn P w K mg base "races_of" 1 ["meeting","n"] (D6 K potD Jb)
abbrev Oy:Prop:=Kn P w K mg base "race_told" 2 ["start","touches"] (D6 K potD Ge)
abbrev Oz:Prop:=Kn P w K mg base "told_upward" 5 ["meeting","row","other"] (D6 K potD Jc)
abbrev JB:Prop:=Kn P w K mg base "told_by" 6 ["meeting","row","other"] (D6 K potD DP)
abbrev OA:Prop:=Kn P w K mg base "days_between" 7 ["meeting","row","other"] (D6 K potD Gf)
abbrev DX:Prop:=Kn P w K mg base "_law_span" 1 ["_law_meeting","_law_n","_law_k"] (D6 K potD Ck)
abbrev JC:Prop:=Kn P w K mg base "_law_stand" 2 ["_law_meeting","_law_row","_law_other_here","_law_k"] (D6 K potD Ah)
abbrev JD:Prop:=Kn P w K mg base "_law_goal" 1 ["_law_start","_law_there","_law_k"] (D6 K potD u8)
abbrev Gy:Prop:=Kn P w K mg base "_law_races" 1 ["_law_meeting","_law_n"] (D6 K potD DQ)
abbrev OB:Prop:=Kn P w K mg base "_law_told" 1 ["_law_start","_law_pairs_here"] (D6 K potD Gg)
abbrev JE:Prop:=Kn P w K mg base "_law_pairs" 1 ["_law_start","_law_goal_here"] (D6 K potD Cm)
abbrev JF:Prop:=Kn P w K mg base "_law_is_crossed" 1 ["_law_one","_law_other_here"] (D6 K potD DR)
abbrev OC:Prop:=Kn P w K mg base "_law_no_cross" 2 ["_law_pairs_here"] (D6 K potD Gi)
abbrev OD:Prop:=Kn P w K mg base "_law_can_be" 3 ["_law_start","_law_goal_here","_law_reach"] (D6 K potD Gj)
abbrev JG:Prop:=Kn P w K mg base "_law_decoded" 4 ["_law_meeting","_law_row","_law_other_here"] (D6 K potD DS)
abbrev OE:Prop:=Kn P w K mg base "_law_touch" 1 ["_law_start","_law_goal_here","_law_thing"] (D6 K potD DT)
abbrev OF:Prop:=Kn P w K mg base "_law_is_reason" 2 ["_law_start","_law_goal_here","_law_reach","_law_reason"] (D6 K potD Gk)
abbrev OG:Prop:=Kn P w K mg base "_law_right" 5 ["_law_meeting","_law_row","_law_other_here","_law_told_here"] (D6 K potD Gm)
abbrev OH:Prop:=Kn P w K mg base "_law_sheet" 1 ["_law_start","_law_marks"] (D6 K potD Jd)
abbrev OI:Prop:=Kn P w K mg base "_law_word" 2 ["_law_draws","_law_many","_law_reach"] (D6 K potD Je)
abbrev OJ:Prop:=Kn P w K mg base "_law_after" 1 ["_law_start","_law_sheet_here"] (D6 K potD Jf)
abbrev OL:Prop:=Kn P w K mg base "_law_day" 3 ["_law_draws","_law_meeting","_law_row"] (D6 K potD Gn)
abbrev OM:Prop:=Kn P w K mg base "_law_other" 4 ["_law_draws","_law_meeting","_law_row"] (D6 K potD Go)
end
section
variable {P:C8}{w:C4}{K:A9}{mg:Str->Option A3}{base:B6}{Pt cd:A1}
theorem Vn (F0:Fn0 K mg "_law_names" (top 31))(g1:Gw P w K mg base)(m8:mg "range"=none)(m13:mg "tuple"=none):Og P w K mg base:=fnk F0 λsc _ _ _ _ _ _ _ hr=>(B3 (Q_ 2 3 (λ_=>N5) (λ_=>gw_two K 2 3 rfl (HB 2 sc.nd rfl (Or.inl rfl)) (HB 3 sc.nd rfl (Or.inl rfl))) (ql_v E5) (ql_v E5))
   (B3 (E2 4 (sws 4 sc.nd) (C1 (QN.ee (G6 (A4 B2 (A4 B2 (A4 B2 (A4 B2 (A4 B2 (A4 B2 (A4 B2 (A4 B2 (A4 B2 (A4 B2 B1)))))))))))) (qf g1 hr (A4 (qv 0) (A4 B2 B1)))))
   (B3 (E2 5 (sws 5 sc.nd) (qf g1 hr (A4 (qv 0) (A4 B2 B1))))
   (B3 (P8 (λ_=>rfl) (Dr (λ_=>rfl) (λ_=>m8) B2) (gn 6 sc.nd) (B5 (E2 3 (sws 3 sc.nd) (F8 (qv 3) (C1 (qv 2) (qf g1 hr (A4 (qv 0) (A4 B2 B1))))))))
   (B3 (E2 7 (sws 7 sc.nd) (qf g1 hr (A4 (qv 0) (A4 B2 B1))))
   (B3 (p7 8 (sws 8 sc.nd) (G6 B1))
   (B3 (P8 (λ_=>rfl) (Dr (λ_=>rfl) (λ_=>m8) (qv 1)) (gn 6 sc.nd) (B3 (AO 9 10 (λ_=>AN (i:=9) (j:=10) rfl sc.nd rfl rfl (by decide) rfl rfl rfl) (ql_v (F8 (qv 7) (qf g1 hr (A4 (qv 0) (A4 (X7 B2 (qv 7)) B1))))) (ql_v (C1 (qv 2) (qe_mod (F8 (qv 5) (Hq (qv 4) (qv 6))) B2))))
   (B5 (R1 (λ_=>R0) (U7 8 (λ_=>vw 8) (F8 (F8 (N3 (qv 3) T3 (J7 (qv 7))) (qv 10)) (N3 (qv 3) (J7 (qv 7)) (J7 (qv 9)))))))))
   (B3 (E2 11 (sws 11 sc.nd) (C1 (QN.ee (G6 (A4 E5 (A4 E5 (A4 E5 (A4 E5 (A4 E5 (A4 E5 (A4 E5 B1))))))))) (qf g1 hr (A4 (qv 0) (A4 B2 B1)))))
   (B3 (G4 (QW.qt (BP (E1 (X9 4 λ_=>hr) (qv 11) (K4 8 λ_=>vw 8) rfl) (Do (E1 (cEq 4 λ_=>hr) (qf g1 hr (A4 (qv 0) (A4 B2 B1))) (QE.r B2) (C9 _))))) (B5 (Dt 8 (λ_=>N5) (qv 11) (λ_=>p8 (vw 8)) (qf g1 hr (A4 (qv 0) (A4 (qv 1) B1))))) J8)
   (B5 (C6 (Q9 (λ_=>rfl) (λ_=>m13) (K4 8 λ_=>vw 8)))))))))))))
theorem Vo (F0:Fn0 K mg "_law_meet" (top 38))(g1:Gw P w K mg base)(g2:Og P w K mg base)(m7:mg "min"=none):Oh P w K mg base:=fnk F0 λsc _ _ _ _ _ _ _ hr=>(B3 (E2 2 (sws 2 sc.nd) (J6 (A4 (F8 B2 (qf g1 hr (A4 (qv 0) (A4 B2 B1)))) (A4 (C1 (QN.ee (G6 (A4 B2 (A4 B2 (A4 B2 (A4 (qf g1 hr (A4 (qv 0) (A4 B2 B1))) B1)))))) (qf g1 hr (A4 (qv 0) (A4 B2 B1)))) B1))))
   (B3 (E2 3 (sws 3 sc.nd) (C1 (QN.ee (G6 (A4 (F8 B2 (qf g1 hr (A4 (qv 0) (A4 (qv 1) B1)))) (A4 (F8 B2 (qf g1 hr (A4 (qv 0) (A4 (HA (λ_=>rfl) (λ_=>rfl) (λ_=>m7) (qv 1) B2) B1)))) B1)))) (qf g1 hr (A4 (qv 0) (A4 B2 B1)))))
   (B5 (C6 (J6 (A4 (qv 2) (A4 (qf g2 hr (A4 (qv 0) (A4 (qv 3) B1))) B1)))))))
theorem k_span (F0:Fn0 K mg "span" (top 2))(m7:mg "min"=none):Jx P w K mg base:=fnk F0 λsc _ _ _ _ _ _ _ hr=>(B3 (E2 3 (sws 3 sc.nd) (C1 (qv 0) B2))
   (B3 (E2 4 (sws 4 sc.nd) (Hq (qv 2) (qv 3)))
   (B5 (C6 (J6 (A4 (qv 4) (A4 (HA (λ_=>rfl) (λ_=>rfl) (λ_=>m7) (F8 (qv 4) (qv 3)) (X7 (qv 1) B2)) B1)))))))
theorem Vp (F0:Fn0 K mg "start_on" (top 13))(g4:Jx P w K mg base)(m5:mg "len"=none):DW P w K mg base:=fnk F0 λsc _ _ _ _ _ _ _ hr=>(B3 (U6 (λ_=>N5) (qf g4 hr (A4 (qv 0) (A4 (M4 (λ_=>rfl) (λ_=>m5) (QE.r (qv 1))) (A4 (qv 2) B1)))) (N4 (λ_=>rfl) (D7 (gn 3 sc.nd) (D7 (gn 4 sc.nd) M5))))
   (B5 (C6 (N3 (qv 1) (J7 (qv 3)) (J7 (F8 (qv 4) B2))))))
theorem Vq (F0:Fn0 K mg "from_reasons" (top 17))(g5:DW P w K mg base):Oi P w K mg base:=fnk F0 λsc _ _ _ _ _ _ _ hr=>(B5 (C6 (QN.ee (W5 (N:=["x","start"]) (cs:=[none,some 1]) (λ_=>O9 rfl rfl rfl rfl ⟨rfl,trivial⟩ rfl rfl rfl) (λ_=>rfl) (R6 (N3 (qf g5 hr (A4 (qv 0) (A4 (qv 2) (A4 (qv 3) B1)))) (J7 B2) T3)) (gn 0 (show G9 (["x","start"]:List Str) by decide +kernel)) (W3 (E1 (X9 4 λ_=>hr) (qv 0) (QE.r (qv 1)) rfl)) (J6 (A4 E5 (A4 (qv 0) B1)))))))
theorem Vr (F0:Fn0 K mg "goal_of" (top 18))(g5:DW P w K mg base)(m13:mg "tuple"=none):Jy P w K mg base:=fnk F0 λsc _ _ _ _ _ _ _ hr=>(B3 (E2 4 (sws 4 sc.nd) (N3 (qf g5 hr (A4 (qv 0) (A4 (qv 2) (A4 (qv 3) B1)))) (J7 B2) T3))
   (B5 (C6 (F8 (Q9 (λ_=>rfl) (λ_=>m13) (QE.r (QN.ee (W5 (N:=["boat","behind"]) (cs:=[none,some 4]) (λ_=>O9 rfl rfl rfl rfl ⟨rfl,trivial⟩ rfl rfl rfl) (λ_=>rfl) (R6 (qv 1)) (gn 0 (show G9 (["boat","behind"]:List Str) by decide +kernel)) (W3 (E1 (X9 4 λ_=>hr) (qv 0) (QE.r (qv 1)) rfl)) (qv 0))))) (qv 4)))))
theorem Vs (F0:Fn0 K mg "goes_round" (top 19)):Oj P w K mg base:=fnk F0 λsc _ _ _ _ _ _ _ hr=>(B3 (E2 3 (sws 3 sc.nd) (C1 (qv 0) (T7 (qv 1) (qv 2))))
   (B5 (C6 (O2 (cNe 4 λ_=>hr) (T7 (qv 1) (qv 3)) (QE.r (T7 (qv 0) (qv 2))) (C9 _)))))
theorem Vt (F0:Fn0 K mg "round_reasons" (top 20))(g8:Oj P w K mg base):Ol P w K mg base:=fnk F0 λsc _ _ _ _ _ _ _ hr=>(B5 (C6 (QN.ee (W5 (N:=["x","start","goal"]) (cs:=[none,some 0,some 1]) (λ_=>O9 rfl rfl rfl rfl ⟨rfl,⟨rfl,trivial⟩⟩ rfl rfl rfl) (λ_=>rfl) (R6 (qv 0)) (gn 0 (show G9 (["x","start","goal"]:List Str) by decide +kernel)) (W3 (U4 (qf g8 hr (A4 (qv 1) (A4 (qv 2) (A4 (qv 0) B1)))))) (J6 (A4 E5 (A4 (qv 0) B1)))))))
theorem Vu (F0:Fn0 K mg "between" (top 8))(m12:mg "sorted"=none):Gx P w K mg base:=fnk F0 λsc _ _ _ _ _ _ _ hr=>(B3 (U6 (λ_=>N5) (QN.ee (BZ (λ_=>rfl) (λ_=>m12) (QE.r (QN.ee (G6 (A4 (T7 (qv 0) (C1 (qv 1) B2)) (A4 (T7 (qv 0) (C1 (qv 1) B2)) B1))))))) (qg_lst (λ_=>rfl) (D7 (gn 2 sc.nd) (D7 (gn 3 sc.nd) M5))))
   (B5 (C6 (N3 (qv 0) (J7 (F8 (qv 2) B2)) (J7 (qv 3))))))
theorem Vv (F0:Fn0 K mg "is_far" (top 9))(g10:Gx P w K mg base)(m5:mg "len"=none):Om P w K mg base:=fnk F0 λsc _ _ _ _ _ _ _ hr=>(B5 (C6 (O2 cGt (M4 (λ_=>rfl) (λ_=>m5) (QE.r (qf g10 hr (A4 (qv 0) (A4 (qv 2) B1))))) (QE.r (qv 1)) (C9 _))))
theorem Vw (F0:Fn0 K mg "boats_of" (top 6)):Jz P w K mg base:=fnk F0 λsc _ _ _ _ _ _ _ hr=>(B5 (C6 (QN.ee (Ix (N:=["event","boat"]) (cs:=[none,none]) (λ_=>O9 rfl rfl rfl rfl trivial rfl rfl rfl) (λ_=>rfl) (R6 (qv 0)) (gn 0 (show G9 (["event","boat"]:List Str) by decide +kernel)) (R6 (N3 (qv 0) (J7 B2) T3)) (gn 1 (show G9 (["event","boat"]:List Str) by decide +kernel)) AM (qv 1)))))
theorem Vx (F0:Fn0 K mg "is_cross" (top 10))(g12:Jz P w K mg base)(g10:Gx P w K mg base)(m5:mg "len"=none)(m11:mg "set"=none):On P w K mg base:=fnk F0 λsc _ _ _ _ _ _ _ hr=>(B3 (G4 (E1 (cNe 4 λ_=>hr) (Ul (λ_=>rfl) (λ_=>rfl) (λ_=>m5) (λ_=>rfl) (λ_=>m11) (qf g12 hr (A4 (J6 (A4 (qv 1) (A4 (qv 2) B1))) B1))) (QE.r B2) (C9 _)) (B5 (C6 i8)) J8)
   (B3 (E2 3 (sws 3 sc.nd) (qf g10 hr (A4 (qv 0) (A4 (qv 1) B1))))
   (B5 (C6 (O2 (cNe 4 λ_=>hr) (O2 (cIn 4 λ_=>hr) (C1 (qv 2) B2) (QE.r (qv 3)) rfl) (QE.r (O2 (cIn 4 λ_=>hr) (C1 (qv 2) B2) (QE.r (qv 3)) rfl)) (C9 _))))))
theorem Vy (F0:Fn0 K mg "touch_reasons" (top 22))(g11:Om P w K mg base)(g13:On P w K mg base):Oo P w K mg base:=fnk F0 λsc _ _ _ _ _ _ _ hr=>(B3 (Rt 3 (Ff (N:=["e","start","reach"]) (cs:=[none,some 0,some 1]) (λ_=>O9 rfl rfl rfl rfl ⟨rfl,⟨rfl,trivial⟩⟩ rfl rfl rfl) (λ_=>rfl) (R6 (qv 2)) (gn 0 (show G9 (["e","start","reach"]:List Str) by decide +kernel)) (W3 (U4 (qf g11 hr (A4 (qv 1) (A4 (qv 2) (A4 (qv 0) B1)))))) (J6 (A4 E5 (A4 (qv 0) B1)))) (λ_=>sc.nd) (λ_=>rfl) (λ_=>Or.inl rfl))
   (B3 (Rq 3 (λ_=>Li (i:=3) sc.nd rfl (Or.inl rfl) Rp) (QN.ee (Ix (N:=["e","g","touches","start"]) (cs:=[none,none,some 2,some 0]) (λ_=>O9 rfl rfl rfl rfl ⟨rfl,⟨rfl,trivial⟩⟩ rfl rfl rfl) (λ_=>rfl) (R6 (qv 2)) (gn 0 (show G9 (["e","g","touches","start"]:List Str) by decide +kernel)) (R6 (qv 2)) (gn 1 (show G9 (["e","g","touches","start"]:List Str) by decide +kernel)) (W3 (U4 (qf g13 hr (A4 (qv 3) (A4 (qv 0) (A4 (qv 1) B1)))))) (J6 (A4 E5 (A4 (qv 0) (A4 (qv 1) B1)))))))
   (B5 (HG 3 λ_=>vw 3))))
theorem Vz (F0:Fn0 K mg "sheet_of" (top 5))(m11:mg "set"=none)(m12:mg "sorted"=none)(m13:mg "tuple"=none):Op P w K mg base:=fnk F0 λsc _ _ _ _ _ _ _ hr=>(B5 (C6 (Q9 (λ_=>rfl) (λ_=>m13) (QE.r (QN.ee (Uh (λ_=>rfl) (λ_=>hr) (λ_=>rfl) (λ_=>m12) (λ_=>rfl) (λ_=>m11) (QE.r (qv 0))))))))
theorem VA (F0:Fn0 K mg "touches_to" (top 21))(g15:Op P w K mg base)(m14:mg "zip"=none):JA P w K mg base:=fnk F0 λsc _ _ _ _ _ _ _ hr=>(B5 (C6 (qf g15 hr (A4 (QN.ee (W5 (N:=["x","y","goal","start"]) (cs:=[none,none,some 1,some 0]) (λ_=>O9 rfl rfl rfl rfl ⟨rfl,⟨rfl,trivial⟩⟩ rfl rfl rfl) (λ_=>rfl) (Lz false false (λ_=>rfl) (λ_=>m14) (qv 1) (qv 0)) (N4 (λ_=>rfl) (D7 (gn 0 (show G9 (["x","y","goal","start"]:List Str) by decide +kernel)) (D7 (gn 1 (show G9 (["x","y","goal","start"]:List Str) by decide +kernel)) M5))) (W3 (E1 cLt (T7 (qv 2) (qv 0)) (QE.r (T7 (qv 3) (qv 0))) (C9 _))) (J6 (A4 E5 (A4 (qv 0) (A4 (qv 1) B1)))))) B1))))
theorem VB (F0:Fn0 K mg "reasons_at" (top 23))(g6:Oi P w K mg base)(g7:Jy P w K mg base)(g16:JA P w K mg base)(g14:Oo P w K mg base)(g9:Ol P w K mg base):Oq P w K mg base:=fnk F0 λsc _ _ _ _ _ _ _ hr=>(B3 (E2 4 (sws 4 sc.nd) (qf g6 hr (A4 (qv 0) (A4 (qv 1) (A4 (qv 2) (A4 (qv 3) B1))))))
   (B3 (G4 (HN (QE.r (qv 4))) (B5 (C6 (qv 4))) J8)
   (B3 (E2 5 (sws 5 sc.nd) (qf g7 hr (A4 (qv 0) (A4 (qv 1) (A4 (qv 2) (A4 (qv 3) B1))))))
   (B5 (C6 (qe_orT (qf g9 hr (A4 (qv 1) (A4 (qv 5) B1))) (Dp (qf g14 hr (A4 (qv 1) (A4 (C1 (qv 0) B2) (A4 (qf g16 hr (A4 (qv 1) (A4 (qv 5) B1))) B1)))))))))))
theorem VC (F0:Fn0 K mg "put_on" (top 14))(g4:Jx P w K mg base)(m5:mg "len"=none):Os P w K mg base:=fnk F0 λsc _ _ _ _ _ _ _ hr=>(B3 (U6 (λ_=>N5) (qf g4 hr (A4 (qv 0) (A4 (M4 (λ_=>rfl) (λ_=>m5) (QE.r (qv 1))) (A4 (qv 2) B1)))) (N4 (λ_=>rfl) (D7 (gn 4 sc.nd) (D7 (gn 5 sc.nd) M5))))
   (B5 (C6 (F8 (F8 (N3 (qv 1) T3 (J7 (qv 4))) (qv 3)) (N3 (qv 1) (J7 (F8 (qv 5) B2)) T3)))))
theorem VD (F0:Fn0 K mg "touches_of" (top 7)):Ot P w K mg base:=fnk F0 λsc _ _ _ _ _ _ _ hr=>(B5 (C6 (QN.ee (W5 (N:=["event"]) (cs:=[none]) (λ_=>O9 rfl rfl rfl rfl trivial rfl rfl rfl) (λ_=>rfl) (R6 (qv 0)) (gn 0 (show G9 (["event"]:List Str) by decide +kernel)) (W3 (E1 (cEq 4 λ_=>hr) (C1 (qv 0) B2) (QE.r E5) (C9 _))) (qv 0)))))
theorem VE (F0:Fn0 K mg "exchanged" (top 3))(m6:mg "list"=none)(m13:mg "tuple"=none):Ou P w K mg base:=fnk F0 λsc _ _ _ _ _ _ _ hr=>(B3 (p7 3 (sws 3 sc.nd) (EY (λ_=>rfl) (λ_=>m6) (QE.r (qv 0))))
   (B3 (LV 3 (λ_=>N5) (λ_ _ _ h1 h2=>LU K rfl (p8 (vw 3) (by intro _;rfl) _ h1) (p8 (vw 3) (by intro _;rfl) _ h2)) (C1 (qv 0) (qv 2)) (C1 (qv 0) (qv 1)) (qv 1) (qv 2))
   (B5 (C6 (Q9 (λ_=>rfl) (λ_=>m13) (K4 3 λ_=>vw 3))))))
theorem VF (F0:Fn0 K mg "row_behind" (top 11))(g19:Ot P w K mg base)(g20:Ou P w K mg base):Ov P w K mg base:=fnk F0 λsc _ _ _ _ _ _ _ hr=>(B3 (E2 2 (sws 2 sc.nd) (qv 0))
   (B3 (P8 (λ_=>rfl) (Z9 (qf g19 hr (A4 (qv 1) B1))) (gn 3 sc.nd) (B5 (E2 2 (sws 2 sc.nd) (qf g20 hr (A4 (qv 2) (A4 (T7 (qv 0) (C1 (qv 3) B2)) (A4 (T7 (qv 0) (C1 (qv 3) B2)) B1)))))))
   (B5 (C6 (qv 2)))))
theorem VG (F0:Fn0 K mg "raced" (top 15))(g5:DW P w K mg base)(g21:Ov P w K mg base)(g18:Os P w K mg base):Ow P w K mg base:=fnk F0 λsc _ _ _ _ _ _ _ hr=>(B5 (C6 (qf g18 hr (A4 (qv 0) (A4 (qv 1) (A4 (qv 2) (A4 (qf g21 hr (A4 (qf g5 hr (A4 (qv 0) (A4 (qv 1) (A4 (qv 2) B1)))) (A4 (qv 3) B1))) B1)))))))
theorem VH (F0:Fn0 K mg "races_of" (top 1)):Ox P w K mg base:=fnk F0 λsc _ _ _ _ _ _ _ hr=>(B3 (E2 2 (sws 2 sc.nd) (C1 (qv 0) B2))
   (B5 (C6 (KA (X7 (F8 (qv 1) (qv 2)) B2) (qv 2)))))
theorem VI (F0:Fn0 K mg "race_told" (top 24))(g12:Jz P w K mg base)(g10:Gx P w K mg base)(m12:mg "sorted"=none)(m13:mg "tuple"=none):Oy P w K mg base:=fnk F0 λsc _ _ _ _ _ _ _ hr=>(B3 (E2 2 (sws 2 sc.nd) (qf g12 hr (A4 (qv 1) B1)))
   (B3 (E2 3 (sws 3 sc.nd) (QN.ee (Ix (N:=["touch","boat","start"]) (cs:=[none,none,some 0]) (λ_=>O9 rfl rfl rfl rfl ⟨rfl,trivial⟩ rfl rfl rfl) (λ_=>rfl) (R6 (qv 1)) (gn 0 (show G9 (["touch","boat","start"]:List Str) by decide +kernel)) (R6 (qf g10 hr (A4 (qv 2) (A4 (qv 0) B1)))) (gn 1 (show G9 (["touch","boat","start"]:List Str) by decide +kernel)) AM (qv 1))))
   (B3 (E2 4 (sws 4 sc.nd) (QN.ee (BZ (λ_=>rfl) (λ_=>m12) (QE.r (QN.ee (W5 (N:=["boat","touching"]) (cs:=[none,some 2]) (λ_=>O9 rfl rfl rfl rfl ⟨rfl,trivial⟩ rfl rfl rfl) (λ_=>rfl) (R6 (qv 0)) (gn 0 (show G9 (["boat","touching"]:List Str) by decide +kernel)) (W3 (E1 (X9 4 λ_=>hr) (qv 0) (QE.r (qv 1)) rfl)) (qv 0)))))))
   (B3 (Ia 5 (Ff (N:=["boat","passed"]) (cs:=[none,some 3]) (λ_=>O9 rfl rfl rfl rfl ⟨rfl,trivial⟩ rfl rfl rfl) (λ_=>rfl) (Z9 (qv 4)) (gn 0 (show G9 (["boat","passed"]:List Str) by decide +kernel)) (W3 (E1 (cIn 4 λ_=>hr) (qv 0) (QE.r (qv 1)) rfl)) (qv 0)) (λ_=>sc.nd) (λ_=>rfl) (λ_=>Or.inl rfl))
   (B3 (Ia 6 (Ff (N:=["boat","passed"]) (cs:=[none,some 3]) (λ_=>O9 rfl rfl rfl rfl ⟨rfl,trivial⟩ rfl rfl rfl) (λ_=>rfl) (Z9 (qv 4)) (gn 0 (show G9 (["boat","passed"]:List Str) by decide +kernel)) (W3 (E1 (X9 4 λ_=>hr) (qv 0) (QE.r (qv 1)) rfl)) (qv 0)) (λ_=>sc.nd) (λ_=>rfl) (λ_=>Or.inl rfl))
   (B5 (C6 (J6 (A4 (qv 1) (A4 (Q9 (λ_=>rfl) (λ_=>m13) (QE.r (qv 5))) (A4 (Q9 (λ_=>rfl) (λ_=>m13) (QE.r (qv 6))) B1)))))))))))
theorem VJ (F0:Fn0 K mg "told_upward" (top 25))(g23:Ox P w K mg base)(g5:DW P w K mg base)(g17:Oq P w K mg base)(g7:Jy P w K mg base)(g16:JA P w K mg base)(g24:Oy P w K mg base)(g22:Ow P w K mg base)(m5:mg "len"=none)(m8:mg "range"=none)(m10:mg "reversed"=none):Oz P w K mg base:=fnk F0 λsc _ _ _ _ _ _ _ hr=>(B3 (p7 3 (sws 3 sc.nd) (G6 B1))
   (B3 (E2 4 (sws 4 sc.nd) (qv 1))
   (B3 (P8 (λ_=>rfl) (Iv (λ_=>rfl) (λ_=>m10) (λ_=>rfl) (λ_=>m8) (qf g23 hr (A4 (qv 0) (A4 (M4 (λ_=>rfl) (λ_=>m5) (QE.r (qv 1))) B1)))) (gn 5 sc.nd) (B3 (E2 6 (sws 6 sc.nd) (qf g5 hr (A4 (qv 0) (A4 (qv 4) (A4 (qv 5) B1)))))
   (B3 (E2 7 (sws 7 sc.nd) (qf g17 hr (A4 (qv 0) (A4 (qv 6) (A4 (qv 2) (A4 (qv 5) B1))))))
   (B3 (G4 (HN (QE.r (qv 7))) (B5 (HL 3 (C6 (J6 (A4 (qv 3) (A4 (QN.ee (W5 (N:=["reason","k"]) (cs:=[none,some 5]) (λ_=>O9 rfl rfl rfl rfl ⟨rfl,trivial⟩ rfl rfl rfl) (λ_=>rfl) (Z9 (qv 7)) (gn 0 (show G9 (["reason","k"]:List Str) by decide +kernel)) AM (J6 (A4 E5 (A4 (qv 1) (A4 (qv 0) B1)))))) B1)))))) J8)
   (B3 (E2 8 (sws 8 sc.nd) (qf g16 hr (A4 (qv 6) (A4 (qf g7 hr (A4 (qv 0) (A4 (qv 6) (A4 (qv 2) (A4 (qv 5) B1))))) B1))))
   (B3 (R1 (λ_=>R0) (U7 3 (λ_=>vw 3) (qf g24 hr (A4 (qv 6) (A4 (qv 8) B1)))))
   (B5 (E2 4 (sws 4 sc.nd) (qf g22 hr (A4 (qv 0) (A4 (qv 4) (A4 (qv 5) (A4 (qv 8) B1)))))))))))))
   (B5 (HL 3 (C6 (J6 (A4 (qv 3) (A4 (QN.ee (G6 B1)) B1)))))))))
theorem VL (F0:Fn0 K mg "told_by" (top 26))(g25:Oz P w K mg base)(m13:mg "tuple"=none):JB P w K mg base:=fnk F0 λsc _ _ _ _ _ _ _ hr=>(B3 (U6 (λ_=>N5) (qf g25 hr (A4 (qv 0) (A4 (qv 1) (A4 (qv 2) B1)))) (N4 (λ_=>rfl) (D7 (gn 3 sc.nd) (D7 (gn 4 sc.nd) M5))))
   (B3 (G4 (HN (QE.r (qv 4))) (B5 (C6 (C1 (qv 4) B2))) J8)
   (B5 (C6 (J6 (A4 E5 (A4 (Q9 (λ_=>rfl) (λ_=>m13) (QE.r (qe_rev (QE.r (qv 3))))) B1)))))))
theorem VM (F0:Fn0 K mg "days_between" (top 27))(g26:JB P w K mg base):OA P w K mg base:=fnk F0 λsc _ _ _ _ _ _ _ hr=>(B3 (E2 3 (sws 3 sc.nd) (qf g26 hr (A4 (qv 0) (A4 (qv 1) (A4 (qv 2) B1)))))
   (B3 (G4 (E1 (cEq 4 λ_=>hr) (C1 (qv 3) B2) (QE.r E5) (C9 _)) (B5 (C6 B2)) J8)
   (B3 (E2 4 (sws 4 sc.nd) B2)
   (B3 (P8 (λ_=>rfl) (R6 (C1 (qv 3) B2)) (gn 5 sc.nd) (B5 (P8 (λ_=>rfl) (R6 (C1 (qv 5) B2)) (gn 6 sc.nd) (B5 (Uv 4 (λ_=>Li (i:=4) sc.nd rfl (Or.inl rfl) Pg) B2)))))
   (B5 (C6 (qv 4)))))))
theorem VN (F0:Fn0 K mg "_law_span" (top 32)):DX P w K mg base:=fnk F0 λsc _ _ _ _ _ _ _ hr=>(B3 (E2 3 (sws 3 sc.nd) (C1 (qv 0) B2))
   (B3 (E2 4 (sws 4 sc.nd) (Hq (qv 2) (qv 3)))
   (B5 (C6 (J6 (A4 (qv 4) (A4 (EV (E1 cLt (F8 (qv 4) (qv 3)) (QE.r (qv 1)) (C9 _)) (F8 (qv 4) (qv 3)) (X7 (qv 1) B2)) B1)))))))
theorem VO (F0:Fn0 K mg "_law_stand" (top 42))(g28:DX P w K mg base)(m5:mg "len"=none):JC P w K mg base:=fnk F0 λsc _ _ _ _ _ _ _ hr=>(B3 (U6 (λ_=>N5) (qf g28 hr (A4 (qv 0) (A4 (M4 (λ_=>rfl) (λ_=>m5) (QE.r (qv 1))) (A4 (qv 3) B1)))) (N4 (λ_=>rfl) (D7 (gn 4 sc.nd) (D7 (gn 5 sc.nd) M5))))
   (B3 (U6 (λ_=>N5) (J6 (A4 (N3 (qv 1) (J7 (qv 4)) (J7 (F8 (qv 5) B2))) (A4 (N3 (qv 2) (J7 (qv 4)) (J7 (F8 (qv 5) B2))) B1))) (N4 (λ_=>rfl) (D7 (gn 6 sc.nd) (D7 (gn 7 sc.nd) M5))))
   (B5 (C6 (J6 (A4 (qv 6) (A4 (qv 7) (A4 (EV (E1 cGt (qv 3) (QE.r B2) (C9 _)) (QN.ee (W5 (N:=["_law_boat","_law_start"]) (cs:=[none,some 6]) (λ_=>O9 rfl rfl rfl rfl ⟨rfl,trivial⟩ rfl rfl rfl) (λ_=>rfl) (R6 (N3 (qv 7) (J7 B2) T3)) (gn 0 (show G9 (["_law_boat","_law_start"]:List Str) by decide +kernel)) (W3 (E1 (X9 4 λ_=>hr) (qv 0) (QE.r (qv 1)) rfl)) (qv 0))) (QN.ee (G6 B1))) B1))))))))
theorem VP (F0:Fn0 K mg "_law_goal" (top 43))(m13:mg "tuple"=none):JD P w K mg base:=fnk F0 λsc _ _ _ _ _ _ _ hr=>(B3 (G4 (E1 (cEq 4 λ_=>hr) (qv 2) (QE.r B2) (C9 _)) (B5 (C6 (qv 1))) J8)
   (B5 (C6 (F8 (Q9 (λ_=>rfl) (λ_=>m13) (QE.r (QN.ee (W5 (N:=["_law_boat","_law_there"]) (cs:=[none,some 1]) (λ_=>O9 rfl rfl rfl rfl ⟨rfl,trivial⟩ rfl rfl rfl) (λ_=>rfl) (R6 (qv 0)) (gn 0 (show G9 (["_law_boat","_law_there"]:List Str) by decide +kernel)) (W3 (E1 (X9 4 λ_=>hr) (qv 0) (QE.r (N3 (qv 1) (J7 B2) T3)) rfl)) (qv 0))))) (N3 (qv 1) (J7 B2) T3)))))
theorem VQ (F0:Fn0 K mg "_law_races" (top 33)):Gy P w K mg base:=fnk F0 λsc _ _ _ _ _ _ _ hr=>(B5 (C6 (KA (X7 (F8 (qv 1) (C1 (qv 0) B2)) B2) (C1 (qv 0) B2))))
theorem VR (F0:Fn0 K mg "_law_told" (top 41))(m0:mg "any"=none)(m2:mg "enumerate"=none)(m12:mg "sorted"=none)(m13:mg "tuple"=none):OB P w K mg base:=fnk F0 λsc _ _ _ _ _ _ _ hr=>(B3 (p7 2 (sws 2 sc.nd) (G6 B1))
   (B3 (P8 (λ_=>rfl) (Z9 (qv 1)) (gn 3 sc.nd) (B5 (R1 (λ_=>R0) (Up 2 (λ_=>vw 2) (qv 3)))))
   (B3 (AO 4 5 (λ_=>AN (i:=4) (j:=5) rfl sc.nd rfl rfl (by decide) rfl rfl rfl) (ql_o (G6 B1)) (ql_o (G6 B1)))
   (B3 (P8 (λ_=>rfl) (Ie (λ_=>rfl) (λ_=>m2) (qv 0)) (N4 (λ_=>rfl) (D7 (gn 6 sc.nd) (D7 (gn 7 sc.nd) M5))) (B5 (G4 (QW.qt (BP (U4 (Hz (λ_=>rfl) (λ_=>rfl) (λ_=>m0) (QE.r (QN.ee (W5 (N:=["_law_one","_law_other_here","_law_p"]) (cs:=[none,none,some 6]) (λ_=>O9 rfl rfl rfl rfl ⟨rfl,trivial⟩ rfl rfl rfl) (λ_=>rfl) (Z9 (qv 1)) (N4 (λ_=>rfl) (D7 (gn 0 (show G9 (["_law_one","_law_other_here","_law_p"]:List Str) by decide +kernel)) (D7 (gn 1 (show G9 (["_law_one","_law_other_here","_law_p"]:List Str) by decide +kernel)) M5))) AM (Hv cLt cLt (qv 0) (qv 2) (qv 1))))))) (Do (E1 (X9 4 λ_=>hr) (qv 6) (K4 2 λ_=>vw 2) rfl)))) (B5 (R1 (λ_=>R0) (U7 4 (λ_=>vw 4) (qv 7)))) (B5 (G4 (E1 (X9 4 λ_=>hr) (qv 6) (K4 2 λ_=>vw 2) rfl) (B5 (R1 (λ_=>R0) (U7 5 (λ_=>vw 5) (qv 7)))) J8)))))
   (B3 (E2 8 (sws 8 sc.nd) (QN.ee (BZ (λ_=>rfl) (λ_=>m12) (QE.r (QN.ee (W5 (N:=["_law_p","_law_q","_law_start"]) (cs:=[none,none,some 0]) (λ_=>O9 rfl rfl rfl rfl ⟨rfl,trivial⟩ rfl rfl rfl) (λ_=>rfl) (Z9 (qv 1)) (N4 (λ_=>rfl) (D7 (gn 0 (show G9 (["_law_p","_law_q","_law_start"]:List Str) by decide +kernel)) (D7 (gn 1 (show G9 (["_law_p","_law_q","_law_start"]:List Str) by decide +kernel)) M5))) AM (J6 (A4 E5 (A4 (C1 (qv 2) (qv 1)) (A4 (C1 (qv 2) (qv 0)) B1))))))))))
   (B5 (C6 (J6 (A4 (Q9 (λ_=>rfl) (λ_=>m13) (QE.r (qv 8))) (A4 (Q9 (λ_=>rfl) (λ_=>m13) (QE.r (QN.ee (BZ (λ_=>rfl) (λ_=>m12) (K4 4 λ_=>vw 4))))) (A4 (Q9 (λ_=>rfl) (λ_=>m13) (QE.r (QN.ee (BZ (λ_=>rfl) (λ_=>m12) (K4 5 λ_=>vw 5))))) B1)))))))))))
theorem VS (F0:Fn0 K mg "_law_pairs" (top 39))(m2:mg "enumerate"=none):JE P w K mg base:=fnk F0 λsc _ _ _ _ _ _ _ hr=>(B3 (p7 2 (sws 2 sc.nd) (G6 B1))
   (B3 (P8 (λ_=>rfl) (Ie (λ_=>rfl) (λ_=>m2) (qv 0)) (N4 (λ_=>rfl) (D7 (gn 3 sc.nd) (D7 (gn 4 sc.nd) M5))) (B3 (E2 5 (sws 5 sc.nd) (T7 (qv 1) (qv 4)))
   (B3 (G4 (E1 (cNe 4 λ_=>hr) (C1 (qv 0) (qv 5)) (QE.r (C1 (qv 1) (qv 3))) (C9 _)) (B5 (C6 y3)) J8)
   (B5 (G4 (E1 cLt (qv 3) (QE.r (qv 5)) (C9 _)) (B5 (R1 (λ_=>R0) (U7 2 (λ_=>vw 2) (J6 (A4 (qv 3) (A4 (qv 5) B1)))))) J8)))))
   (B5 (HG 2 λ_=>vw 2))))
theorem VT (F0:Fn0 K mg "_law_is_crossed" (top 40)):JF P w K mg base:=fnk F0 λsc _ _ _ _ _ _ _ hr=>(B5 (C6 (O2 (cNe 4 λ_=>hr) (Hv cLt cLt (C1 (qv 0) B2) (C1 (qv 1) B2) (C1 (qv 0) B2)) (QE.r (Hv cLt cLt (C1 (qv 0) B2) (C1 (qv 1) B2) (C1 (qv 0) B2))) (C9 _))))
theorem VU (F0:Fn0 K mg "_law_no_cross" (top 45))(g34:JF P w K mg base)(m0:mg "any"=none):OC P w K mg base:=fnk F0 λsc _ _ _ _ _ _ _ hr=>(B3 (P8 (λ_=>rfl) (Z9 (qv 0)) (gn 1 sc.nd) (B5 (G4 (U4 (Hz (λ_=>rfl) (λ_=>rfl) (λ_=>m0) (QE.r (QN.ee (W5 (N:=["_law_two","_law_one"]) (cs:=[none,some 1]) (λ_=>O9 rfl rfl rfl rfl ⟨rfl,trivial⟩ rfl rfl rfl) (λ_=>rfl) (Z9 (qv 0)) (gn 0 (show G9 (["_law_two","_law_one"]:List Str) by decide +kernel)) AM (qf g34 hr (A4 (qv 1) (A4 (qv 0) B1)))))))) (B5 (C6 i8)) J8)))
   (B5 (C6 i8)))
theorem VW (F0:Fn0 K mg "_law_can_be" (top 44))(g33:JE P w K mg base)(g35:OC P w K mg base)(m0:mg "any"=none):OD P w K mg base:=fnk F0 λsc _ _ _ _ _ _ _ hr=>(B3 (E2 3 (sws 3 sc.nd) (qf g33 hr (A4 (qv 0) (A4 (qv 1) B1))))
   (B3 (G4 (QW.qt (Z7 (E1 cIs (qv 3) (QE.r y3) (C9 _)) (p5 (U4 (Hz (λ_=>rfl) (λ_=>rfl) (λ_=>m0) (QE.r (QN.ee (W5 (N:=["_law_p","_law_q","_law_reach"]) (cs:=[none,none,some 2]) (λ_=>O9 rfl rfl rfl rfl ⟨rfl,trivial⟩ rfl rfl rfl) (λ_=>rfl) (Z9 (qv 3)) (N4 (λ_=>rfl) (D7 (gn 0 (show G9 (["_law_p","_law_q","_law_reach"]:List Str) by decide +kernel)) (D7 (gn 1 (show G9 (["_law_p","_law_q","_law_reach"]:List Str) by decide +kernel)) M5))) AM (O2 cGt (X7 (X7 (qv 1) (qv 0)) B2) (QE.r (qv 2)) (C9 _)))))))))) (B5 (C6 i8)) J8)
   (B5 (C6 (qf g35 hr (A4 (qv 3) B1))))))
theorem VX (F0:Fn0 K mg "_law_decoded" (top 46))(g31:Gy P w K mg base)(g29:JC P w K mg base)(g30:JD P w K mg base)(g36:OD P w K mg base)(g33:JE P w K mg base)(g32:OB P w K mg base)(g28:DX P w K mg base)(m5:mg "len"=none)(m8:mg "range"=none)(m10:mg "reversed"=none)(m13:mg "tuple"=none):JG P w K mg base:=fnk F0 λsc _ _ _ _ _ _ _ hr=>(B3 (p7 3 (sws 3 sc.nd) (G6 B1))
   (B3 (P8 (λ_=>rfl) (Iv (λ_=>rfl) (λ_=>m10) (λ_=>rfl) (λ_=>m8) (qf g31 hr (A4 (qv 0) (A4 (M4 (λ_=>rfl) (λ_=>m5) (QE.r (qv 1))) B1)))) (gn 4 sc.nd) (B3 (U6 (λ_=>N5) (qf g29 hr (A4 (qv 0) (A4 (qv 1) (A4 (qv 2) (A4 (qv 4) B1))))) (N4 (λ_=>rfl) (D7 (gn 5 sc.nd) (D7 (gn 6 sc.nd) (D7 (gn 7 sc.nd) M5)))))
   (B3 (G4 (QW.qt (Z7 (E1 (cNe 4 λ_=>hr) (qv 7) (QE.r (QN.ee (G6 B1))) (C9 _)) (p5 (AI (U4 (qf g36 hr (A4 (qv 5) (A4 (qf g30 hr (A4 (qv 5) (A4 (qv 6) (A4 (qv 4) B1)))) (A4 (C1 (qv 0) B2) B1))))))))) (B5 (C6 (qv 4))) J8)
   (B3 (E2 8 (sws 8 sc.nd) (qf g30 hr (A4 (qv 5) (A4 (qv 6) (A4 (qv 4) B1)))))
   (B3 (R1 (λ_=>R0) (Iy 3 (λ_=>vw 3) B2 (qf g32 hr (A4 (qv 5) (A4 (qf g33 hr (A4 (qv 5) (A4 (qv 8) B1))) B1)))))
   (B3 (U6 (λ_=>N5) (qf g28 hr (A4 (qv 0) (A4 (M4 (λ_=>rfl) (λ_=>m5) (QE.r (qv 1))) (A4 (qv 4) B1)))) (N4 (λ_=>rfl) (D7 (gn 9 sc.nd) (D7 (gn 10 sc.nd) M5))))
   (B5 (E2 1 (sws 1 sc.nd) (F8 (F8 (N3 (qv 1) T3 (J7 (qv 9))) (qv 8)) (N3 (qv 1) (J7 (F8 (qv 10) B2)) T3))))))))))
   (B5 (C6 (Q9 (λ_=>rfl) (λ_=>m13) (K4 3 λ_=>vw 3))))))
theorem VY (F0:Fn0 K mg "_law_touch" (top 48))(m4:mg "isinstance"=none)(m5:mg "len"=none)(m13:mg "tuple"=none):OE P w K mg base:=fnk F0 λsc _ _ _ _ _ _ _ hr=>(B3 (G4 (QW.qt (Z7 (AI (U4 (AJ (n:="tuple") (by decide) (λ_=>rfl) (λ_=>m4) (qv 2) (λ_=>tyw rfl m13 BM)))) (Z7 (E1 (cNe 4 λ_=>hr) (M4 (λ_=>rfl) (λ_=>m5) (QE.r (qv 2))) (QE.r B2) (C9 _)) (p5 (E1 (cNe 4 λ_=>hr) (C1 (qv 2) B2) (QE.r E5) (C9 _)))))) (B5 (C6 y3)) J8)
   (B3 (G4 (QW.qt (Z7 (E1 (X9 4 λ_=>hr) (C1 (qv 2) B2) (QE.r (qv 0)) rfl) (p5 (E1 (X9 4 λ_=>hr) (C1 (qv 2) B2) (QE.r (qv 0)) rfl)))) (B5 (C6 y3)) J8)
   (B3 (AO 3 4 (λ_=>AN (i:=3) (j:=4) rfl sc.nd rfl rfl (by decide) rfl rfl rfl) (ql_v (T7 (qv 0) (C1 (qv 2) B2))) (ql_v (T7 (qv 0) (C1 (qv 2) B2))))
   (B5 (C6 (EV (QW.qt (BP (E1 cLt (qv 3) (QE.r (qv 4)) (C9 _)) (BP (E1 (cEq 4 λ_=>hr) (C1 (qv 1) (qv 3)) (QE.r (C1 (qv 2) B2)) (C9 _)) (Do (E1 (cEq 4 λ_=>hr) (C1 (qv 1) (qv 4)) (QE.r (C1 (qv 2) B2)) (C9 _)))))) (J6 (A4 (qv 3) (A4 (qv 4) B1))) y3))))))
theorem VZ (F0:Fn0 K mg "_law_is_reason" (top 49))(g38:OE P w K mg base)(g34:JF P w K mg base)(m2:mg "enumerate"=none)(m5:mg "len"=none):OF P w K mg base:=fnk F0 λsc _ _ _ _ _ _ _ hr=>(B3 (Ia 4 (Ff (N:=["_law_p","_law_boat","_law_start","_law_goal_here"]) (cs:=[none,none,some 0,some 1]) (λ_=>O9 rfl rfl rfl rfl ⟨rfl,⟨rfl,trivial⟩⟩ rfl rfl rfl) (λ_=>rfl) (Ie (λ_=>rfl) (λ_=>m2) (qv 0)) (N4 (λ_=>rfl) (D7 (gn 0 (show G9 (["_law_p","_law_boat","_law_start","_law_goal_here"]:List Str) by decide +kernel)) (D7 (gn 1 (show G9 (["_law_p","_law_boat","_law_start","_law_goal_here"]:List Str) by decide +kernel)) M5))) (W3 (E1 (cNe 4 λ_=>hr) (C1 (qv 2) (T7 (qv 3) (qv 1))) (QE.r (C1 (qv 3) (qv 0))) (C9 _))) (qv 1)) (λ_=>sc.nd) (λ_=>rfl) (λ_=>Or.inl rfl))
   (B3 (G4 (E1 (cEq 4 λ_=>hr) (C1 (qv 3) B2) (QE.r E5) (C9 _)) (B5 (C6 (y8 (O2 (cEq 4 λ_=>hr) (M4 (λ_=>rfl) (λ_=>m5) (QE.r (qv 3))) (QE.r B2) (C9 _)) (Dp (O2 (cIn 4 λ_=>hr) (C1 (qv 3) B2) (QE.r (qv 4)) rfl))))) J8)
   (B3 (G4 (QW.qt (Z7 (E1 (cNe 4 λ_=>hr) (qv 4) (QE.r (QN.ee (G6 B1))) (C9 _)) (p5 (E1 (X9 4 λ_=>hr) (C1 (qv 3) B2) (QE.r (J6 (A4 E5 (A4 E5 B1)))) rfl)))) (B5 (C6 i8)) J8)
   (B3 (E2 5 (sws 5 sc.nd) (qf g38 hr (A4 (qv 0) (A4 (qv 1) (A4 (C1 (qv 3) B2) B1)))))
   (B3 (G4 (E1 (cEq 4 λ_=>hr) (C1 (qv 3) B2) (QE.r E5) (C9 _)) (B5 (C6 (y8 (O2 (cEq 4 λ_=>hr) (M4 (λ_=>rfl) (λ_=>m5) (QE.r (qv 3))) (QE.r B2) (C9 _)) (y8 (O2 Ht (qv 5) (QE.r y3) (C9 _)) (Dp (O2 cGt (X7 (X7 (C1 (qv 5) B2) (C1 (qv 5) B2)) B2) (QE.r (qv 2)) (C9 _))))))) J8)
   (B3 (E2 6 (sws 6 sc.nd) (qf g38 hr (A4 (qv 0) (A4 (qv 1) (A4 (C1 (qv 3) B2) B1)))))
   (B5 (C6 (y8 (O2 (cEq 4 λ_=>hr) (M4 (λ_=>rfl) (λ_=>m5) (QE.r (qv 3))) (QE.r B2) (C9 _)) (y8 (O2 Ht (qv 5) (QE.r y3) (C9 _)) (y8 (O2 Ht (qv 6) (QE.r y3) (C9 _)) (Dp (qf g34 hr (A4 (qv 5) (A4 (qv 6) B1)))))))))))))))
theorem V_ (F0:Fn0 K mg "_law_right" (top 50))(g37:JG P w K mg base)(g31:Gy P w K mg base)(g29:JC P w K mg base)(g28:DX P w K mg base)(g30:JD P w K mg base)(g39:OF P w K mg base)(m4:mg "isinstance"=none)(m5:mg "len"=none)(m8:mg "range"=none)(m9:mg "repr"=none)(m10:mg "reversed"=none)(m13:mg "tuple"=none):OG P w K mg base:=fnk F0 λsc _ _ _ _ _ _ _ hr=>(B3 (E2 4 (sws 4 sc.nd) (qf g37 hr (A4 (qv 0) (A4 (qv 1) (A4 (qv 2) B1)))))
   (B3 (G4 (U4 (AJ (n:="tuple") (by decide) (λ_=>rfl) (λ_=>m4) (qv 4) (λ_=>tyw rfl m13 BM))) (B5 (C6 (O2 (cEq 4 λ_=>hr) (BU (λ_=>hr) (λ_=>rfl) (λ_=>m9) (QE.r (qv 3))) (QE.r (BU (λ_=>hr) (λ_=>rfl) (λ_=>m9) (QE.r (J6 (A4 E5 (A4 (qv 4) B1)))))) (C9 _)))) J8)
   (B3 (G4 (QW.qt (Z7 (AI (U4 (AJ (n:="tuple") (by decide) (λ_=>rfl) (λ_=>m4) (qv 3) (λ_=>tyw rfl m13 BM)))) (Z7 (E1 (cNe 4 λ_=>hr) (M4 (λ_=>rfl) (λ_=>m5) (QE.r (qv 3))) (QE.r B2) (C9 _)) (p5 (E1 (cNe 4 λ_=>hr) (BU (λ_=>hr) (λ_=>rfl) (λ_=>m9) (QE.r (N3 (qv 3) T3 (J7 B2)))) (QE.r (BU (λ_=>hr) (λ_=>rfl) (λ_=>m9) (QE.r (J6 (A4 E5 (A4 (qv 4) B1)))))) (C9 _)))))) (B5 (C6 i8)) J8)
   (B3 (P8 (λ_=>rfl) (Uu (λ_=>rfl) (λ_=>m10) (λ_=>rfl) (λ_=>m8) (F8 (qv 4) B2) (qf g31 hr (A4 (qv 0) (A4 (M4 (λ_=>rfl) (λ_=>m5) (QE.r (qv 1))) B1)))) (gn 5 sc.nd) (B3 (U6 (λ_=>N5) (qf g29 hr (A4 (qv 0) (A4 (qv 1) (A4 (qv 2) (A4 (qv 5) B1))))) (N4 (λ_=>rfl) (D7 (gn 6 sc.nd) (D7 (gn 7 sc.nd) (D7 (gn 8 sc.nd) M5)))))
   (B3 (U6 (λ_=>N5) (qf g28 hr (A4 (qv 0) (A4 (M4 (λ_=>rfl) (λ_=>m5) (QE.r (qv 1))) (A4 (qv 5) B1)))) (N4 (λ_=>rfl) (D7 (gn 9 sc.nd) (D7 (gn 10 sc.nd) M5))))
   (B5 (E2 1 (sws 1 sc.nd) (F8 (F8 (N3 (qv 1) T3 (J7 (qv 9))) (qf g30 hr (A4 (qv 6) (A4 (qv 7) (A4 (qv 5) B1))))) (N3 (qv 1) (J7 (F8 (qv 10) B2)) T3)))))))
   (B3 (U6 (λ_=>N5) (qf g29 hr (A4 (qv 0) (A4 (qv 1) (A4 (qv 2) (A4 (qv 4) B1))))) (N4 (λ_=>rfl) (D7 (gn 6 sc.nd) (D7 (gn 7 sc.nd) (D7 (gn 8 sc.nd) M5)))))
   (B3 (G4 (QW.qt (Z7 (AI (U4 (AJ (n:="tuple") (by decide) (λ_=>rfl) (λ_=>m4) (C1 (qv 3) B2) (λ_=>tyw rfl m13 BM)))) (p5 (AI (QB cLe cLe B2 (M4 (λ_=>rfl) (λ_=>m5) (QE.r (C1 (qv 3) B2))) B2))))) (B5 (C6 i8)) J8)
   (B3 (G4 (E1 (cNe 4 λ_=>hr) (qv 8) (QE.r (QN.ee (G6 B1))) (C9 _)) (B5 (C6 (y8 (O2 (cEq 4 λ_=>hr) (M4 (λ_=>rfl) (λ_=>m5) (QE.r (C1 (qv 3) B2))) (QE.r B2) (C9 _)) (y8 (O2 (cEq 4 λ_=>hr) (C1 (C1 (qv 3) B2) B2) (QE.r E5) (C9 _)) (Dp (O2 (cIn 4 λ_=>hr) (C1 (C1 (qv 3) B2) B2) (QE.r (qv 8)) rfl)))))) J8)
   (B5 (C6 (qf g39 hr (A4 (qv 6) (A4 (qf g30 hr (A4 (qv 6) (A4 (qv 7) (A4 (qv 4) B1)))) (A4 (C1 (qv 0) B2) (A4 (C1 (qv 3) B2) B1))))))))))))))
theorem Wa (F0:Fn0 K mg "_law_sheet" (top 35))(m12:mg "sorted"=none)(m13:mg "tuple"=none)(m14:mg "zip"=none):OH P w K mg base:=fnk F0 λsc _ _ _ _ _ _ _ hr=>(B3 (AO 2 3 (λ_=>AN (i:=2) (j:=3) rfl sc.nd rfl rfl (by decide) rfl rfl rfl) (ql_o (G6 B1)) (ql_o (G6 B1)))
   (B3 (P8 (λ_=>rfl) (Lz false true (λ_=>rfl) (λ_=>m14) (qv 0) (qv 1)) (N4 (λ_=>rfl) (D7 (gn 4 sc.nd) (D7 (gn 5 sc.nd) M5))) (B5 (G4 (E1 (cEq 4 λ_=>hr) (qv 5) (QE.r E5) (C9 _)) (B5 (R1 (λ_=>R0) (U7 2 (λ_=>vw 2) (qv 4)))) (B5 (G4 (E1 (cEq 4 λ_=>hr) (qv 5) (QE.r E5) (C9 _)) (B5 (R1 (λ_=>R0) (U7 3 (λ_=>vw 3) (J6 (A4 E5 (A4 (qv 4) (A4 (HI 2 λ_=>vw 2) B1))))))) (B5 (G4 (E1 (cEq 4 λ_=>hr) (qv 5) (QE.r E5) (C9 _)) (B5 (R1 (λ_=>R0) (U7 3 (λ_=>vw 3) (J6 (A4 E5 (A4 (qv 4) B1)))))) J8)))))))
   (B5 (C6 (Q9 (λ_=>rfl) (λ_=>m13) (QE.r (QN.ee (BZ (λ_=>rfl) (λ_=>m12) (K4 3 λ_=>vw 3)))))))))
theorem Wb (F0:Fn0 K mg "_law_word" (top 34))(g1:Gw P w K mg base)(m8:mg "range"=none):OI P w K mg base:=fnk F0 λsc _ _ _ _ _ _ _ hr=>(B3 (AO 3 4 (λ_=>AN (i:=3) (j:=4) rfl sc.nd rfl rfl (by decide) rfl rfl rfl) (ql_o (G6 B1)) (ql_o (G6 B1)))
   (B3 (P8 (λ_=>rfl) (Dr (λ_=>rfl) (λ_=>m8) (qv 1)) (gn 5 sc.nd) (B3 (KO (QW.qt (BP (EU (cNe 4 λ_=>hr) (K4 4 λ_=>vw 4) (QE.r (QN.ee (G6 B1))) (C9 _)) (Do (E1 cGt (X7 (X7 (qv 5) (Hw (K4 4 λ_=>vw 4) (qe_neg B2))) B2) (QE.r (qv 2)) (C9 _))))) (B5 (Dt 3 (λ_=>N5) E5 (λ_=>p8 (vw 3)) (HI 4 λ_=>vw 4))))
   (B3 (E2 6 (sws 6 sc.nd) (qf g1 hr (A4 (qv 0) (A4 B2 B1))))
   (B5 (G4 (QW.qt (BP (EU (cNe 4 λ_=>hr) (K4 4 λ_=>vw 4) (QE.r (QN.ee (G6 B1))) (C9 _)) (Do (E1 cLt (qv 6) (QE.r B2) (C9 _))))) (B3 (Dt 3 (λ_=>N5) E5 (λ_=>p8 (vw 3)) (HI 4 λ_=>vw 4))
   (B5 (R1 (λ_=>R0) (U7 3 (λ_=>vw 3) E5)))) (B5 (G4 (QW.qt (Z7 (E1 (cEq 4 λ_=>hr) (qv 6) (QE.r B2) (C9 _)) (p5 (E1 (cEq 4 λ_=>hr) (qv 6) (QE.r B2) (C9 _))))) (B3 (R1 (λ_=>R0) (U7 4 (λ_=>vw 4) (qv 5)))
   (B5 (R1 (λ_=>R0) (U7 3 (λ_=>vw 3) E5)))) (B5 (R1 (λ_=>R0) (U7 3 (λ_=>vw 3) (EV (EU (cNe 4 λ_=>hr) (K4 4 λ_=>vw 4) (QE.r (QN.ee (G6 B1))) (C9 _)) E5 (C1 (QN.ee (G6 (A4 E5 (A4 E5 (A4 E5 B1))))) (qf g1 hr (A4 (qv 0) (A4 B2 B1)))))))))))))))
   (B5 (HG 3 λ_=>vw 3))))
theorem Wc (F0:Fn0 K mg "_law_after" (top 36))(m6:mg "list"=none)(m13:mg "tuple"=none):OJ P w K mg base:=fnk F0 λsc _ _ _ _ _ _ _ hr=>(B3 (p7 2 (sws 2 sc.nd) (EY (λ_=>rfl) (λ_=>m6) (QE.r (qv 0))))
   (B3 (P8 (λ_=>rfl) (R6 (qv 1)) (gn 3 sc.nd) (B5 (G4 (E1 (cEq 4 λ_=>hr) (C1 (qv 3) B2) (QE.r E5) (C9 _)) (B3 (Dt 2 (λ_=>N5) (C1 (qv 3) B2) (λ_=>p8 (vw 2)) (T7 (qv 0) (C1 (qv 3) B2)))
   (B5 (Dt 2 (λ_=>N5) (C1 (qv 3) B2) (λ_=>p8 (vw 2)) (T7 (qv 0) (C1 (qv 3) B2))))) J8)))
   (B5 (C6 (Q9 (λ_=>rfl) (λ_=>m13) (K4 2 λ_=>vw 2))))))
theorem Wd (F0:Fn0 K mg "_law_day" (top 37))(g31:Gy P w K mg base)(g28:DX P w K mg base)(g42:OI P w K mg base)(g41:OH P w K mg base)(g43:OJ P w K mg base)(m5:mg "len"=none)(m8:mg "range"=none)(m10:mg "reversed"=none)(m13:mg "tuple"=none):OL P w K mg base:=fnk F0 λsc _ _ _ _ _ _ _ hr=>(B3 (AO 3 4 (λ_=>AN (i:=3) (j:=4) rfl sc.nd rfl rfl (by decide) rfl rfl rfl) (ql_o (G6 B1)) (ql_o (G6 B1)))
   (B3 (P8 (λ_=>rfl) (Iv (λ_=>rfl) (λ_=>m10) (λ_=>rfl) (λ_=>m8) (qf g31 hr (A4 (qv 1) (A4 (M4 (λ_=>rfl) (λ_=>m5) (QE.r (qv 2))) B1)))) (gn 5 sc.nd) (B3 (U6 (λ_=>N5) (qf g28 hr (A4 (qv 1) (A4 (M4 (λ_=>rfl) (λ_=>m5) (QE.r (qv 2))) (A4 (qv 5) B1)))) (N4 (λ_=>rfl) (D7 (gn 6 sc.nd) (D7 (gn 7 sc.nd) M5))))
   (B3 (E2 8 (sws 8 sc.nd) (N3 (qv 2) (J7 (qv 6)) (J7 (F8 (qv 7) B2))))
   (B3 (E2 9 (sws 9 sc.nd) (qf g41 hr (A4 (qv 8) (A4 (qf g42 hr (A4 (qv 0) (A4 (M4 (λ_=>rfl) (λ_=>m5) (QE.r (qv 8))) (A4 (C1 (qv 1) B2) B1)))) B1))))
   (B3 (E2 2 (sws 2 sc.nd) (F8 (F8 (N3 (qv 2) T3 (J7 (qv 6))) (qf g43 hr (A4 (qv 8) (A4 (qv 9) B1)))) (N3 (qv 2) (J7 (F8 (qv 7) B2)) T3)))
   (B3 (R1 (λ_=>R0) (Iy 3 (λ_=>vw 3) B2 (qv 9)))
   (B5 (R1 (λ_=>R0) (Iy 4 (λ_=>vw 4) B2 (qv 8))))))))))
   (B5 (C6 (J6 (A4 (Q9 (λ_=>rfl) (λ_=>m13) (K4 3 λ_=>vw 3)) (A4 (Q9 (λ_=>rfl) (λ_=>m13) (K4 4 λ_=>vw 4)) (A4 (qv 2) B1))))))))
theorem We (F0:Fn0 K mg "_law_other" (top 47))(g1:Gw P w K mg base)(g44:OL P w K mg base)(m5:mg "len"=none)(m6:mg "list"=none)(m7:mg "min"=none)(m8:mg "range"=none)(m13:mg "tuple"=none):OM P w K mg base:=fnk F0 λsc _ _ _ _ _ _ _ hr=>(B3 (E2 3 (sws 3 sc.nd) (qf g1 hr (A4 (qv 0) (A4 B2 B1))))
   (B3 (U6 (λ_=>N5) (qf g44 hr (A4 (qv 0) (A4 (qv 1) (A4 (qv 2) B1)))) (N4 (λ_=>rfl) (D7 (gn 4 sc.nd) (D7 (gn 5 sc.nd) (D7 (gn 6 sc.nd) M5)))))
   (B3 (G4 (E1 (cEq 4 λ_=>hr) (qv 3) (QE.r B2) (C9 _)) (B3 (AO 7 8 (λ_=>AN (i:=7) (j:=8) rfl sc.nd rfl rfl (by decide) rfl rfl rfl) (ql_o (EY (λ_=>rfl) (λ_=>m6) (QE.r (qv 2)))) (ql_o (G6 B1)))
   (B3 (KO (EU (cNe 4 λ_=>hr) (K4 7 λ_=>vw 7) (QE.r (QN.ee (G6 B1))) (C9 _)) (B5 (R1 (λ_=>R0) (U7 8 (λ_=>vw 8) (QV 7 (λ_=>vw 7) (qf g1 hr (A4 (qv 0) (A4 (M4 (λ_=>rfl) (λ_=>m5) (K4 7 λ_=>vw 7)) B1))))))))
   (B5 (C6 (Q9 (λ_=>rfl) (λ_=>m13) (K4 8 λ_=>vw 8)))))) J8)
   (B3 (p7 8 (sws 8 sc.nd) (EY (λ_=>rfl) (λ_=>m6) (QE.r (qv 6))))
   (B3 (P8 (λ_=>rfl) (Dr (λ_=>rfl) (λ_=>m8) (C1 (QN.ee (G6 (A4 B2 (A4 B2 (A4 B2 (A4 B2 (A4 B2 (A4 B2 B1)))))))) (qv 3))) (gn 9 sc.nd) (B3 (E2 10 (sws 10 sc.nd) (qf g1 hr (A4 (qv 0) (A4 (M4 (λ_=>rfl) (λ_=>m5) (K4 8 λ_=>vw 8)) B1))))
   (B3 (E2 11 (sws 11 sc.nd) (C1 (QN.ee (G6 (A4 (HA (λ_=>rfl) (λ_=>rfl) (λ_=>m7) (F8 (F8 (qv 10) B2) (qf g1 hr (A4 (qv 0) (A4 B2 B1)))) (X7 (M4 (λ_=>rfl) (λ_=>m5) (K4 8 λ_=>vw 8)) B2)) (A4 (qf g1 hr (A4 (qv 0) (A4 (M4 (λ_=>rfl) (λ_=>m5) (K4 8 λ_=>vw 8)) B1))) B1)))) (qf g1 hr (A4 (qv 0) (A4 B2 B1)))))
   (B5 (LV 8 (λ_=>N5) (λ_ _ _ h1 h2=>LU K rfl (p8 (vw 8) (by intro _;rfl) _ h1) (p8 (vw 8) (by intro _;rfl) _ h2)) (Hw (K4 8 λ_=>vw 8) (qv 11)) (Hw (K4 8 λ_=>vw 8) (qv 10)) (qv 10) (qv 11))))))
   (B5 (C6 (Q9 (λ_=>rfl) (λ_=>m13) (K4 8 λ_=>vw 8)))))))))
theorem k_law (F0:Fn0 K mg "law" (top 51))(g0:Vm P w K mg base)(g3:Oh P w K mg base)(g45:OM P w K mg base)(g26:JB P w K mg base)(g40:OG P w K mg base)(g27:OA P w K mg base)(g37:JG P w K mg base)(m1:mg "bool"=none)(m3:mg "int"=none)(m4:mg "isinstance"=none)(m8:mg "range"=none)(m9:mg "repr"=none)(m13:mg "tuple"=none):Kn P w K mg base "law" 8 ["_law_script"] (EJ K):=by
 have sc:Z5 ["_law_script","_law_draws","_law_asks","_law_turn","_law_meeting","_law_row","_law_held","_law_other_here","_law_many"] ["_law_script"] (J4 (top 51)):=⟨rfl,rfl,rfl,by decide +kernel,rfl,by decide +kernel,by decide +kernel⟩
 exact law_ok (T:=potD) F0 sc (λ_ _ _ _ _ _=>bd1 λ_=>rfl) (k:=7) (body:=Jg) (λ_ _ _ _ _ _ _ hr=>(B3 (SN 1 (sws 1 sc.nd) (λ_=>g0) (λ_=>hr) (by decide) (λ_=>rfl) (qv 0))
   (B3 (p7 2 (sws 2 sc.nd) (G6 B1))
   (B3 (P8 (λ_=>rfl) (Dr (λ_=>rfl) (λ_=>m8) B2) (gn 3 sc.nd) (B3 (U6 (λ_=>N5) (qf g3 hr (A4 (qv 1) (A4 B2 B1))) (N4 (λ_=>rfl) (D7 (gn 4 sc.nd) (D7 (gn 5 sc.nd) M5))))
   (B5 (R1 (λ_=>R0) (U7 2 (λ_=>vw 2) (J6 (A4 (qv 4) (A4 (qv 5) (A4 (qf g45 hr (A4 (qv 1) (A4 (qv 4) (A4 (qv 5) B1)))) B1)))))))))
   (B3 (E2 6 (sws 6 sc.nd) (BU (λ_=>hr) (λ_=>rfl) (λ_=>m9) (K4 2 λ_=>vw 2)))
   (B3 (HL 2 (P8 (λ_=>rfl) (Z9 (qv 2)) (N4 (λ_=>rfl) (D7 (gn 4 sc.nd) (D7 (gn 5 sc.nd) (D7 (gn 7 sc.nd) M5)))) (B3 (G4 (AI (U4 (qf g40 hr (A4 (qv 4) (A4 (qv 5) (A4 (qv 7) (A4 (qf g26 hr (A4 (qv 4) (A4 (qv 5) (A4 (qv 7) B1)))) B1))))))) (B5 (C6 i8)) J8)
   (B3 (E2 8 (sws 8 sc.nd) (qf g27 hr (A4 (qv 4) (A4 (qv 5) (A4 (qv 7) B1)))))
   (B3 (G4 (QW.qt (Z7 (U4 (AJ (n:="bool") (by decide) (λ_=>rfl) (λ_=>m4) (qv 8) (λ_=>tyw rfl m1 Qs))) (p5 (AI (U4 (AJ (n:="int") (by decide) (λ_=>rfl) (λ_=>m4) (qv 8) (λ_=>tyw rfl m3 Kv))))))) (B5 (C6 i8)) J8)
   (B5 (G4 (E1 (cEq 4 λ_=>hr) (O2 (cEq 4 λ_=>hr) (qv 8) (QE.r B2) (C9 _)) (QE.r (AJ (n:="tuple") (by decide) (λ_=>rfl) (λ_=>m4) (qf g37 hr (A4 (qv 4) (A4 (qv 5) (A4 (qv 7) B1)))) (λ_=>tyw rfl m13 BM))) (C9 _)) (B5 (C6 i8)) J8)))))))
   (B5 (C6 (O2 (cEq 4 λ_=>hr) (BU (λ_=>hr) (λ_=>rfl) (λ_=>m9) (QE.r (qv 2))) (QE.r (qv 6)) (C9 _)))))))))) m_law
end
end Tb
open PySem PySem.W PyProof.Rows L2 Tb
set_option hygiene false in
local macro_rules | `(tactic| walk_at "F")=>`(tactic| (dsimp only [KOf];refine' fn0_mk KX G ?a ?l ?c ?k;(case a=>k_is);(case l=>k_is);(case c=>k_is);(case k=>k_is)))
set_option hygiene false in
local macro_rules | `(tactic| walk_at "Z")=>`(tactic| (refine PySem.W.mg_none_of (K:=KOf KX) KX G ?_;dsimp only [KOf];k_is))
abbrev Tb.rwp:=PySem.Challenge.rw_touchboats_k26_rows_that_no_day_makes.prog
set_option maxRecDepth 100000 in
set_option maxHeartbeats 0 in
theorem PySem.Challenge.cw_touchboats_k26_rows_that_no_day_makes_holds : PySem.Challenge.rw_touchboats_k26_rows_that_no_day_makes.Holds := by
 w_on;o_law;k_head;(case hw=>w_witness2)
 k_fill
 refine Qt (l:=PySem.Challenge.rw_touchboats_k26_rows_that_no_day_makes) (x:="_law_script") (k:=8) rfl rfl ⟨rfl,by decide,by decide,rfl⟩ (λw h Y=>PySem.W.kIn_of Y) ?F
 case F=>
  intro w mg h KX G;have f0:Fn0 (KOf KX) mg "_law_begin" (top 29):=by walk_at "F"
  have f1:Fn0 (KOf KX) mg "_law_next" (top 30):=by walk_at "F"
  have f2:Fn0 (KOf KX) mg "_law_names" (top 31):=by walk_at "F"
  have f3:Fn0 (KOf KX) mg "_law_meet" (top 38):=by walk_at "F"
  have f4:Fn0 (KOf KX) mg "span" (top 2):=by walk_at "F"
  have f5:Fn0 (KOf KX) mg "start_on" (top 13):=by walk_at "F"
  have f6:Fn0 (KOf KX) mg "from_reasons" (top 17):=by walk_at "F"
  have f7:Fn0 (KOf KX) mg "goal_of" (top 18):=by walk_at "F"
  have f8:Fn0 (KOf KX) mg "goes_round" (top 19):=by walk_at "F"
  have f9:Fn0 (KOf KX) mg "round_reasons" (top 20):=by walk_at "F"
  have f10:Fn0 (KOf KX) mg "between" (top 8):=by walk_at "F"
  have f11:Fn0 (KOf KX) mg "is_far" (top 9):=by walk_at "F"
  have f12:Fn0 (KOf KX) mg "boats_of" (top 6):=by walk_at "F"
  have f13:Fn0 (KOf KX) mg "is_cross" (top 10):=by walk_at "F"
  have f14:Fn0 (KOf KX) mg "touch_reasons" (top 22):=by walk_at "F"
  have f15:Fn0 (KOf KX) mg "sheet_of" (top 5):=by walk_at "F"
  have f16:Fn0 (KOf KX) mg "touches_to" (top 21):=by walk_at "F"
  have f17:Fn0 (KOf KX) mg "reasons_at" (top 23):=by walk_at "F"
  have f18:Fn0 (KOf KX) mg "put_on" (top 14):=by walk_at "F"
  have f19:Fn0 (KOf KX) mg "touches_of" (top 7):=by walk_at "F"
  have f20:Fn0 (KOf KX) mg "exchanged" (top 3):=by walk_at "F"
  have f21:Fn0 (KOf KX) mg "row_behind" (top 11):=by walk_at "F"
  have f22:Fn0 (KOf KX) mg "raced" (top 15):=by walk_at "F"
  have f23:Fn0 (KOf KX) mg "races_of" (top 1):=by walk_at "F"
  have f24:Fn0 (KOf KX) mg "race_told" (top 24):=by walk_at "F"
  have f25:Fn0 (KOf KX) mg "told_upward" (top 25):=by walk_at "F"
  have f26:Fn0 (KOf KX) mg "told_by" (top 26):=by walk_at "F"
  have f27:Fn0 (KOf KX) mg "days_between" (top 27):=by walk_at "F"
  have f28:Fn0 (KOf KX) mg "_law_span" (top 32):=by walk_at "F"
  have f29:Fn0 (KOf KX) mg "_law_stand" (top 42):=by walk_at "F"
  have f30:Fn0 (KOf KX) mg "_law_goal" (top 43):=by walk_at "F"
  have f31:Fn0 (KOf KX) mg "_law_races" (top 33):=by walk_at "F"
  have f32:Fn0 (KOf KX) mg "_law_told" (top 41):=by walk_at "F"
  have f33:Fn0 (KOf KX) mg "_law_pairs" (top 39):=by walk_at "F"
  have f34:Fn0 (KOf KX) mg "_law_is_crossed" (top 40):=by walk_at "F"
  have f35:Fn0 (KOf KX) mg "_law_no_cross" (top 45):=by walk_at "F"
  have f36:Fn0 (KOf KX) mg "_law_can_be" (top 44):=by walk_at "F"
  have f37:Fn0 (KOf KX) mg "_law_decoded" (top 46):=by walk_at "F"
  have f38:Fn0 (KOf KX) mg "_law_touch" (top 48):=by walk_at "F"
  have f39:Fn0 (KOf KX) mg "_law_is_reason" (top 49):=by walk_at "F"
  have f40:Fn0 (KOf KX) mg "_law_right" (top 50):=by walk_at "F"
  have f41:Fn0 (KOf KX) mg "_law_sheet" (top 35):=by walk_at "F"
  have f42:Fn0 (KOf KX) mg "_law_word" (top 34):=by walk_at "F"
  have f43:Fn0 (KOf KX) mg "_law_after" (top 36):=by walk_at "F"
  have f44:Fn0 (KOf KX) mg "_law_day" (top 37):=by walk_at "F"
  have f45:Fn0 (KOf KX) mg "_law_other" (top 47):=by walk_at "F"
  have f46:Fn0 (KOf KX) mg "law" (top 51):=by walk_at "F"
  have m0:mg "any"=none:=by walk_at "Z"
  have m1:mg "bool"=none:=by walk_at "Z"
  have m2:mg "enumerate"=none:=by walk_at "Z"
  have m3:mg "int"=none:=by walk_at "Z"
  have m4:mg "isinstance"=none:=by walk_at "Z"
  have m5:mg "len"=none:=by walk_at "Z"
  have m6:mg "list"=none:=by walk_at "Z"
  have m7:mg "min"=none:=by walk_at "Z"
  have m8:mg "range"=none:=by walk_at "Z"
  have m9:mg "repr"=none:=by walk_at "Z"
  have m10:mg "reversed"=none:=by walk_at "Z"
  have m11:mg "set"=none:=by walk_at "Z"
  have m12:mg "sorted"=none:=by walk_at "Z"
  have m13:mg "tuple"=none:=by walk_at "Z"
  have m14:mg "zip"=none:=by walk_at "Z"
  refine⟨top 51,f46,λ_ _ _ _ _ _ s u=>.of_eq rfl,λbase kb nb=>?_⟩;have g0:=Vk (P:=rwp) (w:=w) (base:=base) f0 m5 m6;have g1:=Vl (P:=rwp) (w:=w) (base:=base) f1 m5 m3;have g2:=Vn (P:=rwp) (w:=w) (base:=base) f2 g1 m8 m13;have g3:=Vo (P:=rwp) (w:=w) (base:=base) f3 g1 g2 m7;have g4:=k_span (P:=rwp) (w:=w) (base:=base) f4 m7;have g5:=Vp (P:=rwp) (w:=w) (base:=base) f5 g4 m5;have g6:=Vq (P:=rwp) (w:=w) (base:=base) f6 g5;have g7:=Vr (P:=rwp) (w:=w) (base:=base) f7 g5 m13;have g8:=Vs (P:=rwp) (w:=w) (base:=base) f8;have g9:=Vt (P:=rwp) (w:=w) (base:=base) f9 g8;have g10:=Vu (P:=rwp) (w:=w) (base:=base) f10 m12;have g11:=Vv (P:=rwp) (w:=w) (base:=base) f11 g10 m5;have g12:=Vw (P:=rwp) (w:=w) (base:=base) f12;have g13:=Vx (P:=rwp) (w:=w) (base:=base) f13 g12 g10 m5 m11;have g14:=Vy (P:=rwp) (w:=w) (base:=base) f14 g11 g13;have g15:=Vz (P:=rwp) (w:=w) (base:=base) f15 m11 m12 m13;have g16:=VA (P:=rwp) (w:=w) (base:=base) f16 g15 m14;have g17:=VB (P:=rwp) (w:=w) (base:=base) f17 g6 g7 g16 g14 g9;have g18:=VC (P:=rwp) (w:=w) (base:=base) f18 g4 m5;have g19:=VD (P:=rwp) (w:=w) (base:=base) f19;have g20:=VE (P:=rwp) (w:=w) (base:=base) f20 m6 m13
  have g21:=VF (P:=rwp) (w:=w) (base:=base) f21 g19 g20;have g22:=VG (P:=rwp) (w:=w) (base:=base) f22 g5 g21 g18;have g23:=VH (P:=rwp) (w:=w) (base:=base) f23;have g24:=VI (P:=rwp) (w:=w) (base:=base) f24 g12 g10 m12 m13;have g25:=VJ (P:=rwp) (w:=w) (base:=base) f25 g23 g5 g17 g7 g16 g24 g22 m5 m8 m10;have g26:=VL (P:=rwp) (w:=w) (base:=base) f26 g25 m13;have g27:=VM (P:=rwp) (w:=w) (base:=base) f27 g26;have g28:=VN (P:=rwp) (w:=w) (base:=base) f28;have g29:=VO (P:=rwp) (w:=w) (base:=base) f29 g28 m5;have g30:=VP (P:=rwp) (w:=w) (base:=base) f30 m13;have g31:=VQ (P:=rwp) (w:=w) (base:=base) f31;have g32:=VR (P:=rwp) (w:=w) (base:=base) f32 m0 m2 m12 m13;have g33:=VS (P:=rwp) (w:=w) (base:=base) f33 m2;have g34:=VT (P:=rwp) (w:=w) (base:=base) f34;have g35:=VU (P:=rwp) (w:=w) (base:=base) f35 g34 m0;have g36:=VW (P:=rwp) (w:=w) (base:=base) f36 g33 g35 m0;have g37:=VX (P:=rwp) (w:=w) (base:=base) f37 g31 g29 g30 g36 g33 g32 g28 m5 m8 m10 m13;have g38:=VY (P:=rwp) (w:=w) (base:=base) f38 m4 m5 m13;have g39:=VZ (P:=rwp) (w:=w) (base:=base) f39 g38 g34 m2 m5;have g40:=V_ (P:=rwp) (w:=w) (base:=base) f40 g37 g31 g29 g28 g30 g39 m4 m5 m8 m9 m10 m13
  have g41:=Wa (P:=rwp) (w:=w) (base:=base) f41 m12 m13 m14;have g42:=Wb (P:=rwp) (w:=w) (base:=base) f42 g1 m8;have g43:=Wc (P:=rwp) (w:=w) (base:=base) f43 m6 m13;have g44:=Wd (P:=rwp) (w:=w) (base:=base) f44 g31 g28 g42 g41 g43 m5 m8 m10 m13;have g45:=We (P:=rwp) (w:=w) (base:=base) f45 g1 g44 m5 m6 m7 m8 m13;exact k_law (P:=rwp) (w:=w) (base:=base) f46 g0 g3 g45 g26 g40 g27 g37 m1 m3 m4 m8 m9 m13
end
