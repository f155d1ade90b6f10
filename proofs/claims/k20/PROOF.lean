import PyProof.Rows.All
import Wide.All
import OpenK.AllK
import Wide.FinOn
import PyProof.EqAt
import PyProof.EqKinds
import PyProof.TupleCall
import PyProof.NeKinds
import PyProof.EnumMake
import PyProof.ConsumeWalk
import KE.LcSums
import PyProof.ReprLen
import PyProof.StrLawsRepr
import PyProof.Rows.StrNews2
import PyProof.Rows.SetFrom
import PyProof.WalksMore
import PyProof.StrLawsChain
import PyProof.StrLawsTight
import PyProof.StrLawsIdx
import PyProof.ZipIter
import PyProof.Draws
import PyProof.Rows.FactsT2
import PyProof.ListStr
import PyProof.Rows.StrPartPair
import KE.KSortTup
import KE.KDictSum
import KE.KRevIter
import KE.KSortKey
import KE.KLam
import KE.KNestM
import PyProof.DictItems
import KE.KPairComp
import PyProof.AutoSeq1
import PyProof.SetNew
import PyProof.AttrMissHeap
import KE.KDictOf
import PyProof.ListRange
import Lean
import PySem.Challenge.RW_touchboats_k20_days_that_are_not_sound
set_option Elab.async false
set_option linter.all false
set_option maxRecDepth 100000
set_option maxHeartbeats 4000000
namespace PySem.W.Fast
def tw3473698188850739320:=0
def tw7757488928565213128:=0
def tw10201558229273685597:=0
def tw2398948608836385725:=0
def tw17498250676773604472:=0
def tw14340830407249116529:=0
def tw18023444873728427774:=0
def tw7892989564592456030:=0
def tw2473776347087133224:=0
def tw12577449704309462887:=0
def tw6610848834865023329:=0
def tw9898319773970500550:=0
def tw16990588892109808488:=0
def tw6233835404357620178:=0
def tw14354516888155069251:=0
def tw5315129173208257336:=0
def tw8158912725824362509:=0
def tw11626059854901952933:=0
def tw6158311829315106702:=0
def tw14366308316522459841:=0
def tw3125182644027854241:=0
def tw430317554600460231:=0
def tw3304608703393412834:=0
def tw16699803552522350185:=0
def tw5162037673408270739:=0
def tw105047158708540083:=0
def tw7892847580823322348:=0
def tw16198240624034285423:=0
def tw10704883008680054271:=0
def tw5173649604062450211:=0
def tw5542169498745645661:=0
def tw7166769289795438920:=0
def tw8377231489528900609:=0
def tw4039670736184893522:=0
def tw18022392371525649220:=0
def tw6139726550228701760:=0
def tw13359560792776273266:=0
def tw3609874902316220292:=0
def tw8470364579258191688:=0
def tw14851858604816174463:=0
def tw10777052495758647258:=0
def tw12699964426883789820:=0
def tw10971647727567551341:=0
def tw16600242151180912694:=0
end PySem.W.Fast
open PySem renaming wpAny_bind->A2,wpAny_pure->B0,Value->A1,Shared->A6,wpAny->A7,sizeLine->C2,Addr->A0,model->A8,Program->D2,wpAny_holding->M8,wpAny_mono->K1,sizeLine_eq->L0,starEach->E6,assignEach->K5,wpAny_call_entry->R5,bootBuiltins->M9,wpAny_callSpecial?_slot->Z8,wpAny_newObj_type->T9,foldedSetIterable->U1,sysModules->L9,wpAny_setState_of->W9,Around->D8,mem_of_lookup->k9,wpAny_field->Q4,World->C9,wpAny_seqItems->X0,compareOp->P7,wpAny_of_eq->U2,codeAny_builtin->l4,Heap->B7,wpAny_standAt->Z9,wpAny_truthy_bool->Ag,mainGlobals->X1,letOwnedTupleGo->v5,attributeBase->l5,wpAny_setField_rec->A_,SetTable->Q5,isSubtype_type->w4,Builtin->N5,wpAny_setField->w5,wpAny_passesOwn->Ah,wpAny_pyIter_list->Ba,codeAny->O0,keywordEach->b7,wpAny_getItem_str_slice->DV,plainId_quiet->w6,wpAny_setEntries_of->Ch,wpAny_rule->b8,binaryOp->U3,behindInMarks->Ai,wpAny_attempt->Aj,Scope->J7,codeAny_mono->Ak,wpAny_Call_Name_kw->DW,Keyword->T0,wpAny_specialOf->Ci,wpAny_pyIter_rangeiter->Gd,sliceBounds->Am,bindArgs->Y1,swapsWith->l6,wpAny_typeOf->Bb,wpAny_askSetting->DX,wpAny_forIn_list->DY,backToKw->b9,wpAny_newList->Cj,holding->X2,wpAny_execs_nil->DZ,post_val_or_str->D_,codeAny_of_tree->Ea,getItem->c6
open PySem.W renaming Frag->A9,kia_one->Y2,fnOf->X3,kas_place->V3,kas_rev->Q6,kas_sort->R6,kas_asc->U4,kitOne->Ck,keepIn->Cm,kas_desc->c7,codeIn->Eb,methodObj->Ge
open PySem.Heap renaming get?_push_of_some->C7,get?_push_size->G7,lt_size->D1,SameBut->V4,get?_update_other->Bc,get?_update_self->Bd,size_push->l7
open PySem.Str renaming ofString->A5
open List renaming mem_cons_of_mem->C5,length_map->B6,getElem?_eq_getElem->D4,mem_cons_self->C8,mem_cons->C3,getElem?_eq_some_iff->J5,length_append->E7,length_cons->E8,size_toArray->F9,getElem?_map->G0,mem_singleton->J6,mem_of_getElem?->K8,map_cons->G9,getElem?_set_self->P8,mem_append_right->O9,mem_append->K9,getD_eq_getElem?_getD->T3,length_set->L4,mem_map->J1,range->E9,getElem?_set_ne->Q7,getElem?_append_right->V5,all_eq_true->N0,pairwise_iff_getElem->V6,map_append->N1,length_singleton->T4,not_mem_nil->P9,getElem?_append_left->Y3,mem_range->O1,mem_filter->Q8,nodup_cons->Q9,getElem?_eq_none->Y4,length_take->T5,getElem_mem->U5,take_of_length_le->l8,append_assoc->X4,length_drop->X5,drop_eq_getElem_cons->An,flatMap_cons->Y5,mem_append_left->w8,zip_cons_cons->l9,append_nil->Y6,map_map->U6,pairwise_map->n6,cons_append->o5,drop_of_length_le->Be,foldl_cons->o6,eq_nil_of_length_eq_zero->Ec,take_length->w9,getElem?_cons_succ->Cn,length_range->Ao,take_append_drop->Co,mem_iff_getElem?->Cp,map_set->c8,mem_of_mem_take->Cq,nil_append->Ap,filterMap_cons->Cr,getElem_of_mem->Cs,flatMap_append->Cu,any_eq_true->Bf,mem_flatMap->Bg,Nodup->Y7,find?_cons->Bh,nodup_append->Cv,reverse_cons->Cw,length_eraseIdx->Ed,toList_toArray->Ee,map_nil->Aq,mem_of_mem_eraseIdx->Gf,getElem?_replicate->Gg,getElem?_cons_zero->Gi,length_filter_le->Gj,drop_length->Ef,filter_cons->Eg,mem_of_mem_drop->Gk,mem_iff_getElem->Gm,drop_zero->Eh
open Nat renaming le_refl->B8,ne_of_lt->E3,lt_of_lt_of_le->L3,zero_add->J3,zero_le->K4,le_trans->N6,lt_succ_of_lt->o7,lt_trichotomy->o8,lt_irrefl->Y8,le_of_lt->d7,sub_succ_lt_self->Cy,ne_of_gt->p5,le_of_not_lt->Bi,lt_of_le_of_lt->Cz,min_eq_left->Bj,le_of_lt_succ->CA,min_eq_right->CB,not_lt_zero->CC,lt_trans->Bk,le_total->Bm,sub_self->Bn,min_self->CD,le_succ->CF
open Bool renaming false_eq_true->M1,false_ne_true->O2,eq_iff_iff->d8,beq_eq_decide_eq->CG,and_eq_true->Bo,not_true->Ar,or_false->Bp,or_eq_true->Ei
open Array renaming length_toList->O3,getElem?_toList->T6,getElem?_eq_getElem->p6,getD_eq_getD_getElem?->As,perm_iff_toList_perm->Gn,forIn_toList->Ej,getElem?_eq_none->Go,replicate->Ek
open Int renaming toNat_natCast->O4,eq_ofNat_of_zero_le->x4,emod_lt_of_pos->Bq,emod_nonneg->Br
open PySem.Obj renaming mapSeq->G8,data_mapFields->Em
open PySem.Heap.SameBut renaming update->R7
open Option.some renaming inj->P0
open PySem.Builtin.SmallTypes renaming nextOf->d9,ownedTupleIsFree->Eo,ownedTupleHandOut->Jo
open Sum renaming inr->E2,inl->P1
open PySem.Value renaming type->M6,ref->M3,none->T7
open PySem.Builtin.Range renaming rangeFitsLong->At,rangeSize->Gp
open Classical renaming byContradiction->Au
open PyProof.Rows.F renaming plain_set_update_loop->Av,entry_set_update_loop->Ep
open PySem.Around renaming under_plainId->x5
open PyProof.Rows renaming callWith_type1->CH,slot_tuple_getitem->Er,get?_update_seq->Bs,listUpdate_at->Aw,envOfC->Es
open PySem.Builtin.Str renaming occurrences->Bt
open PySem.F renaming plainAttrs_list->Bu,slot_tuple_iterator_next->Et,args_tuple_add_2->Gq,entry_tuple_add->Gr,slot_tuple_add->Gs,slot_zip_next->Eu
open PySem.PyData renaming showable->e6,showableAll->Bv,shownAll->Ax,depth->p7,shown->p8,shownKv->Bw,depthAll->CJ,showableKv->Ew,depthKv->Ex
open ForInStep renaming yield->x6
open Array.Perm renaming refl->x8
open PySem.Builtin.Slice renaming slicePlaces->Ey,sliceAdjust->Gu,sliceApplied->Jp
open Option renaming isSome_iff_exists->Ez,getD_some->CK
open PySem.Builtin.Tuple renaming tupleExact->EA,tupleItemsOf->Jq
open PySem.Builtin.List renaming listTooLong->EB,listLengthHint->Jr,listExtendWith->Js,listFitsIndex->Jt
open PySem.Txt renaming slice->V7,slice_le->Bx
open True renaming intro->Y9
open False renaming elim->e7
open PySem.StrLaws renaming sliceText->EC
open PySem.SetTable renaming grown->CL
open PySem.SeqAt renaming RcNeAt->By,EqAt->Ay,RcAt->Bz
open PySem.Paired renaming length->CM
open Prod.mk renaming inj->BA
open PySem.Data renaming fields->BB
open List.Pairwise renaming nil->Gv
theorem jp{p:Prop}[Decidable p](h:p):decide p=true:=decide_eq_true h
theorem jq{p:Prop}[Decidable p](h:¬p):decide p=false:=decide_eq_false h
theorem jr{c:Prop}{h:Decidable c}(i:c){α:Type}{t e:α}:ite c t e=t:=if_pos i
theorem jt{c:Prop}{h:Decidable c}(i:¬c){α:Type}{t e:α}:ite c t e=e:=if_neg i
theorem ju{p:Prop}[Decidable p](h:decide p=true):p:=of_decide_eq_true h
local macro_rules|`(tactic|omega)=>`(tactic|lia)
section
namespace L2
open PySem PySem.Spec PyProof.Rows
abbrev Key:=Sum Int Str
def BC:Key->A1->Bool
 |.inl k,v=>Value.isInt k v
 |.inr x,v=>Value.isStrOf x v
def keyH (w:C9):Key->Int
 |.inl k=>hashInt k
 |.inr x=>hashStr w x
theorem Z0:∀{k:Key} {v:A1},BC k v=true->(∃i t,k=P1 i/\v=Value.int i t)\/(∃x t,k=E2 x/\v=Value.str x t)
 | .inl i, v, h => by
  obtain⟨t,e⟩:=Value.isInt_shape (k:=i) (v:=v) h;exact .inl ⟨i,t,rfl,e⟩
 | .inr x, v, h => by
  obtain⟨t,e⟩:=Value.isStrOf_shape (x:=x) (v:=v) h;exact .inr ⟨x,t,rfl,e⟩
theorem Og (i:Int)(t:Tok):BC (.inl i) (.int i t)=true:=by simp[BC,Value.isInt]
theorem Oh (x:Str)(t:Tok):BC (.inr x) (.str x t)=true:=by simp[BC,Value.isStrOf]
theorem key_ll (a b:Int):decide ((P1 a:Key)=P1 b)=(a == b):=by grind
theorem key_rr (a b:Str):decide ((E2 a:Key)=E2 b)=decide (a=b):=by simp
theorem key_lr (a:Int)(b:Str):decide ((P1 a:Key)=E2 b)=false:=rfl
theorem key_rl (a:Str)(b:Int):decide ((E2 a:Key)=P1 b)=false:=rfl
def K2 (prog:D2)(w:C9):PySem.KeyKind prog w Key where
 is:=BC
 hash:=keyH w
 inj:=fun v a b ha hb=>by
  rcases Z0 ha with⟨i,t,rfl,rfl⟩|⟨x,t,rfl,rfl⟩
  ·rcases Z0 hb with⟨j,u,rfl,e⟩|⟨y,u,rfl,e⟩
   ·injection e with e1 _;rw[e1]
   ·exact nomatch e
  ·rcases Z0 hb with⟨j,u,rfl,e⟩|⟨y,u,rfl,e⟩
   ·exact nomatch e
   ·injection e with e1 _;rw[e1]
 byValue:=λk v h=>by
  rcases Z0 h with⟨i,t,rfl,rfl⟩|⟨x,t,rfl,rfl⟩ <;> rfl
 pyHash:=λhv h=>by
  rcases Z0 hv with⟨i,t,rfl,rfl⟩|⟨x,t,rfl,rfl⟩
  ·exact wpAny_pyHash_int h
  ·exact wpAny_pyHash_str h
 eqBool:=λhu hv h=>by
  rcases Z0 hu with⟨i,t,rfl,rfl⟩|⟨x,t,rfl,rfl⟩
  ·rcases Z0 hv with⟨j,u,rfl,rfl⟩|⟨y,u,rfl,rfl⟩
   ·rw[key_ll] at h;exact wpAny_eqBool_int h
   ·rw[key_lr] at h;exact SeqAt.EqAt.int_str i t y u _ _ _ _ h
  ·rcases Z0 hv with⟨j,u,rfl,rfl⟩|⟨y,u,rfl,rfl⟩
   ·rw[key_rl] at h;exact SeqAt.EqAt.str_int x t j u _ _ _ _ h
   ·rw[key_rr] at h;exact wpAny_eqBool_str h
 «strs»:=λk x t v h=>by
  rcases Z0 h with⟨i,u,rfl,e⟩|⟨y,u,rfl,e⟩
  ·exact nomatch e
  ·injection e with e1 _;subst e1;cases v <;> rfl
theorem Ju (prog:D2)(w:C9)(i:Int)(t:Tok):(K2 prog w).is (.inl i) (.int i t)=true:=Og i t
theorem ED (prog:D2)(w:C9)(x:Str)(t:Tok):(K2 prog w).is (.inr x) (.str x t)=true:=Oh x t
inductive V where
 |non|bl (b:Bool)|int (i:Int)|str (x:Str)|byt (b:Array UInt8)|flt (b:UInt64)|ref (a:A0)|ty (n:String)
 deriving DecidableEq
def RelV:V->A1->Prop
 |.non,u=>u=T7
 |.bl b,u=>u=Value.bool b
 |.int i,u=>∃t,u=Value.int i t
 |.str x,u=>∃t,u=Value.str x t
 |.byt b,u=>∃t,u=Value.bytes b t
 |.flt b,u=>∃t,u=Value.float b t
 |.ref a,u=>u=M3 a
 |.ty n,u=>u=M6 n
abbrev Vals:List V->List A1->Prop:=Paired RelV
theorem Vals.length (r:Vals xs us):xs.length=us.length:=CM r
theorem Vals.get:∀{xs:List V} {us:List A1} {i:Nat} {x:V},Vals xs us->xs[i]?=some x->∃u,us[i]?=some u/\RelV x u
 |_,_,_,_,.nil,e=>by simp at e
 |_,_,0,_,.cons r _,e=>by simp at e;subst e;exact⟨_,rfl,r⟩
 | _, _, i + 1, x, .cons _ t, e => by
  obtain⟨u,h1,h2⟩:=Vals.get (i:=i) (x:=x) t (by grind);exact⟨u,by simpa using h1,h2⟩
theorem Vals.set (r:RelV x u):∀{xs:List V} {us:List A1} (i:Nat),Vals xs us->Vals (xs.set i x) (us.set i u)
 |_,_,_,.nil=>.nil
 |_,_,0,.cons _ t=>.cons r t
 |_,_,i+1,.cons q t=>.cons q (Vals.set r i t)
theorem Vals.append (h:Vals xs us)(s:Vals ys ws):Vals (xs++ys) (us++ws):=by
 induction h with
 |nil=>exact s
 |cons r _ ih=>exact .cons r ih
theorem Vals.take:∀{xs:List V} {us:List A1} (n:Nat),Vals xs us->Vals (xs.take n) (us.take n)
 |_,_,0,_=>.nil
 |_,_,_+1,.nil=>.nil
 |_,_,n+1,.cons r t=>.cons r (Vals.take n t)
theorem Vals.drop:∀{xs:List V} {us:List A1} (n:Nat),Vals xs us->Vals (xs.drop n) (us.drop n)
 |_,_,0,r=>r
 |_,_,_+1,.nil=>.nil
 |_,_,n+1,.cons _ t=>Vals.drop n t
def RelO:Option V->Option A1->Prop
 |some v,some u=>RelV v u
 |none,none=>True
 |_,_=>False
def KV {κ:Type}:List (κ×V)->List (κ×A1)->Prop:=Paired λ(p:κ×V) (q:κ×A1)=>p.1=q.1/\RelV p.2 q.2
def kV:Key->V
 |.inl i=>.int i
 |.inr x=>.str x
inductive HO where
 /-- a list -/
 |lst (xs:List V)
 /-- a tuple (never changes) -/
 |tup (xs:List V)
 /-- a dict whose keys are ints and R8; one whose keys are tuples of ints and R8 (the empty one is both) -/
 |dK (jg:List (Key×V))|dT (jg:List (List Key×V))
 /-- a set of ints: jf members, jf size -/
 |set (S:Key->Bool) (n:Nat)
 /-- an instance of the class at C, jf dict at dx, jf attributes -/
 |ins (C dx:A0) (fs:List (Str×V))
 /-- the dict of the instance at x -/
 |own (x:A0)
 /-- the dict of an exception -/
 |xd (fs:List (Str×V))
 /-- a bound method, f of x -/
 |met (f x:A0)
 /-- a range object lo, lo + 1, .. below hi -/
 |rng (lo hi:Int)
 /-- a thing that is known to the object (the script; a dict while a loop walks it): read, never written while it is so -/
 |frz (o:Obj) (u:HO)
 /-- a code object's table -/
 |tbl (ps:Array A1)
 /-- any ja thing, by what is true of jf one object (a def of one's own: SetO a S n := HO.ext fun h => ..) -/
 |ext (φ:B7->Prop)
abbrev Hp:=A0->Option HO
def upd (H:Hp)(a:A0)(o:HO):Hp:=λb=>if b=a then some o else H b
theorem D9:upd H a o a=some o:=by unfold upd;rw[jr rfl]
theorem C4 (h:b≠a):upd H a o b=H b:=by unfold upd;rw[jt h]
theorem EE:upd (upd H a o) a u=upd H a u:=by
 funext b;unfold upd;split <;> rfl
theorem ne_of {H:Hp}(h:H a=some o)(h':H b=some u)(d:o≠u):a≠b:=by
 intro e;subst e;rw[h] at h';exact d (P0 h')
theorem Z1 {H:Hp}(h:H a=some o)(h':H b=none):a≠b:=by
 intro e;subst e;rw[h] at h';cases h'
def e9 (h:B7)(a:A0)(items:Array A1):Prop:=∃o,h.get? a=some o/\(o.cls,o.dict)=(M6 "tuple",none)/\∃n,o.data=.seq items n
theorem e9.is (x:e9 h a items):IsTup h a items:=let ⟨o,e,c,r⟩:=x;⟨o,e,(BA c).1,r⟩
theorem e9.lt (x:e9 h a items):a<h.objs.size:=let ⟨_,e,_⟩:=x;D1 e
theorem e9.new (h:B7)(items:Array A1):e9 (h.push { cls:=.type "tuple",data:=.seq items }) h.objs.size items:=⟨_,G7 _ rfl,rfl,_,rfl⟩
section
variable (P:D2)(w:C9)
def J0 (H:Hp)(h:B7)(a:A0):HO->Prop
 |.lst xs=>xs.length<=C2/\∃(jf:List A1) (n:Nat),Vals xs jf/\h.get? a=some { cls:=.type "list",data:=.seq jf.toArray n }
 |.tup xs=>xs.length<=C2/\∃jf:List A1,Vals xs jf/\e9 h a jf.toArray
 |.dK jg=>jg.length<=C2/\(a == L9)=false/\∃vs,KV jg vs/\h.DictOf (K2 P w) a vs
 |.dT jg=>jg.length<=C2/\(a == L9)=false/\∃xs:List (List Key×A0×A1),
     Paired (λ(p:List Key×V) (q:List Key×A0×A1)=>p.1=q.1/\H q.2.1=some (.tup (p.1.map kV))/\RelV p.2 q.2.2) jg xs/\
     ∃o es ep,h.get? a=some o/\o.ExactDict/\o.data=.dict es ep/\es.toList=xs.map (entryOfKey (tupleKind (K2 P w)))/\(xs.map (·.1)).Nodup
 |.set S n=>h.SetOf (K2 P w) a S n
 |.ins C dx fs=>H dx=some (.own a)/\fs.length<=1000/\dx≠a/\h.get? a=some (PySem.W.instObj C dx)/\
     ∃mA,h.Ns1 dx mA/\(∀f,RelO (fs.lookup f) (mA f))/\PySem.Within mA (fs.map (·.1))
 |.own _=>∃o,h.get? a=some o
 |.xd fs=>∃mA,h.Ns1 a mA/\∀f,RelO (fs.lookup f) (mA f)
 |.rng lo hi=>∃t u v,h.get? a=some { cls:=.type "range",data:=.fields #[.int lo t,.int hi u,.int 1 v] }
 |.frz o u=>h.get? a=some o/\J0 H h a u
 |.tbl ps=>h.get? a=some { cls:=.none,data:=.fields ps }
 |.met f x=>h.get? a=some (Ge (.ref f) (.ref x))
 |.ext φ=>φ h/\(∃o,h.get? a=some o)/\∀h1 h2:B7,φ h1->(∀o,h1.get? a=some o->h2.get? a=some o)->φ h2
def HOk (H:Hp)(h:B7):Prop:=∀a o,H a=some o->J0 P w H h a o
end
section
variable {P:D2}{w:C9}{H H':Hp}{h h':B7}{a:A0}{o:HO}
theorem J0.lt (x:J0 P w H h a o):a<h.objs.size:=by
 cases o with
 |lst xs=>obtain⟨_,_,_,_,e⟩:=x;exact D1 e
 |tup xs=>obtain⟨_,_,_,p⟩:=x;exact p.lt
 |dK jg=>obtain⟨_,_,_,_,o,_,_,e,_⟩:=x;exact D1 e
 |dT jg=>obtain⟨_,_,_,_,o,_,_,e,_⟩:=x;exact D1 e
 |set S n=>obtain⟨o,_,_,_,e,_⟩:=x;exact D1 e
 |ins C dx fs=>obtain⟨_,_,_,e,_⟩:=x;exact D1 e
 |own y=>obtain⟨_,e⟩:=x;exact D1 e
 |xd fs=>obtain⟨_,⟨_,_,_,e,_⟩,_⟩:=x;exact D1 e
 |rng lo hi=>obtain⟨_,_,_,e⟩:=x;exact D1 e
 |frz ob u=>obtain⟨e,_⟩:=x;exact D1 e
 |tbl ps=>exact D1 (show h.get? a=some _ from x)
 |met f y=>exact D1 (show h.get? a=some _ from x)
 |ext φ=>obtain⟨_,⟨_,e⟩,_⟩:=x;exact D1 e
theorem Paired.mapP {α β:Type}{F G:α->β->Prop}{l₁:List α}{l₂:List β}(h:Paired F l₁ l₂)(f:∀a b,F a b->G a b):Paired G l₁ l₂:=by
 induction h with
 |nil=>exact .nil
 |cons r _ ih=>exact .cons (f _ _ r) ih
theorem Paired.imp' {α β:Type}{F G:α->β->Prop}(f:∀a b,F a b->G a b){l₁:List α}{l₂:List β}(r:Paired F l₁ l₂):Paired G l₁ l₂:=Paired.mapP r f
theorem J0.stay (x:J0 P w H h a o)(k:∀b u,(b=a\/H b=some (.own a))->h.get? b=some u->h'.get? b=some u)
   (ho:∀b,H b=some (.own a)->H' b=some (.own a)) (ht:∀b xs,H b=some (.tup xs)->H' b=some (.tup xs)):J0 P w H' h' a o:=by
 induction o with
 |lst xs=>obtain⟨z,jf,n,r,e⟩:=x;exact⟨z,jf,n,r,k _ _ (.inl rfl) e⟩
 |tup xs=>obtain⟨z,jf,r,ob,e,c⟩:=x;exact⟨z,jf,r,ob,k _ _ (.inl rfl) e,c⟩
 |dK jg=>obtain⟨z,y,vs,r,ob,es,ep,e,c⟩:=x;exact⟨z,y,vs,r,ob,es,ep,k _ _ (.inl rfl) e,c⟩
 | dT jg =>
  obtain⟨z,y,xs,r,ob,es,ep,e,c⟩:=x;exact⟨z,y,xs,Paired.mapP r λp q z=>⟨z.1,ht _ _ z.2.1,z.2.2⟩,ob,es,ep,k _ _ (.inl rfl) e,c⟩
 |set S n=>obtain⟨ob,es,ep,t,e,c⟩:=x;exact⟨ob,es,ep,t,k _ _ (.inl rfl) e,c⟩
 | ins C dx fs =>
  obtain⟨d,z,ne,e,mA,⟨od,es,ep,e2,c⟩,r⟩:=x;exact⟨ho _ d,z,ne,k _ _ (.inl rfl) e,mA,⟨od,es,ep,k _ _ (.inr d) e2,c⟩,r⟩
 |own y=>obtain⟨ob,e⟩:=x;exact⟨ob,k _ _ (.inl rfl) e⟩
 |xd fs=>obtain⟨mA,⟨od,es,ep,e,c⟩,r⟩:=x;exact⟨mA,⟨od,es,ep,k _ _ (.inl rfl) e,c⟩,r⟩
 |rng lo hi=>obtain⟨t,u,v,e⟩:=x;exact⟨t,u,v,k _ _ (.inl rfl) e⟩
 |frz ob u ih=>obtain⟨e,q⟩:=x;exact⟨k _ _ (.inl rfl) e,ih q⟩
 | tbl ps =>
  have e:h.get? a=some { cls:=.none,data:=.fields ps }:=x;show h'.get? a=some { cls:=.none,data:=.fields ps };exact k a _ (.inl rfl) e
 | met f y =>
  have e:h.get? a=some (Ge (.ref f) (.ref y)):=x;show h'.get? a=some (Ge (.ref f) (.ref y));exact k a _ (.inl rfl) e
 |ext φ=>obtain⟨p,⟨o,e⟩,st⟩:=x;exact⟨st _ _ p λo q=>k _ _ (.inl rfl) q,⟨o,k _ _ (.inl rfl) e⟩,st⟩
theorem HOk.lt (x:HOk P w H h)(e:H a=some o):a<h.objs.size:=(x a o e).lt
theorem HOk.fresh (x:HOk P w H h)(e:h.objs.size<=a):H a=none:=by
 cases q:H a with
 |none=>rfl
 |some u=>exact absurd (L3 (x.lt q) e) (Y8 _)
theorem HOk.kept (x:HOk P w H h)(k:∀b u,h.get? b=some u->h'.get? b=some u):HOk P w H h':=λa o e=>
 (x a o e).stay (λb u _ q=>k b u q) (λ_ q=>q) λ_ _ q=>q
theorem HOk.laid (x:HOk P w H h)(k:∀b u,h.get? b=some u->h'.get? b=some u)(hp:h.objs.size<=a)(new:J0 P w (upd H a o) h' a o):HOk P w (upd H a o) h':=λb u e=>by
 have hn:=x.fresh hp
 by_cases hb:b=a
 ·subst hb;rw[D9] at e;cases e;exact new
 ·rw[C4 hb] at e;exact(x b u e).stay (λc v _ q=>k c v q) (λc q=>by rw[C4 (Z1 q hn)];exact q) λc xs q=>by rw[C4 (Z1 q hn)];exact q
end
def Rd (H:Hp)(a:A0)(u:HO):Prop:=H a=some u\/∃o,H a=some (.frz o u)
theorem Rd.ok (r:Rd H a u)(x:HOk P w H h):J0 P w H h a u:=by
 rcases r with r|⟨o,r⟩
 ·exact x a u r
 ·obtain⟨_,q⟩:=x a _ r;exact q
def Mut:Option HO->Prop
 |some (.lst _)=>True
 |some (.dK _)=>True
 |some (.dT _)=>True
 |some (.set _ _)=>True
 |some (.ins _ _ _)=>True
 |some (.ext _)=>True
 |_=>False
section
variable {P:D2}{w:C9}{H:Hp}{h h':B7}{x e:A0}{o':HO}
theorem HOk.write (ok:HOk P w H h)(mu:Mut (H x))(he:e=x\/H e=some (.own x))(k:∀b u,b≠e->h.get? b=some u->h'.get? b=some u)(heo:∃u,h'.get? e=some u)
   (new:J0 P w (upd H x o') h' x o'):HOk P w (upd H x o') h':=λb u q=>by
 have nown:∀c y,H c=some (.own y)->c≠x:=λc y r z=>by subst z;rw[r] at mu;exact mu
 have ntup:∀c xs,H c=some (.tup xs)->c≠x:=λc xs r z=>by subst z;rw[r] at mu;exact mu
 by_cases hb:b=x
 ·subst hb;rw[D9] at q;cases q;exact new
 ·rw[C4 hb] at q
  by_cases hbe:b=e
  ·have q':H b=some (.own x):=by
    rcases he with z|z
    ·exact absurd (hbe.trans z) hb
    ·rw[hbe];exact z
   rw[q] at q';cases q';obtain⟨v,hv⟩:=heo;exact⟨v,by rw[hbe];exact hv⟩
  ·refine(ok b u q).stay (λc v hc r=>k c v ?_ r) (λc r=>by rw[C4 (nown c b r)];exact r) λc xs r=>by rw[C4 (ntup c xs r)];exact r
   rcases hc with rfl|hc
   ·exact hbe
   ·rintro rfl;rcases he with z|z
    ·exact nown c b hc z
    ·rw[hc] at z;cases z;exact hb rfl
end
def NS (H:Hp):Prop:=H L9=none\/∃o u,H L9=some (.frz o u)
structure Un (fs ex:List A0)(H H':Hp)(h h':B7):Prop where
 keep:∀b o,h.get? b=some o->H b=none->b∉fs->b∉ex->h'.get? b=some o
 slot:∀b o,h.get? b=some o->H b=none->b∈fs->b∉ex->∃sl,h'.get? b=some { o with slots:=sl }
 free:∀b o,h.get? b=some o->H b=none->b∉ex->H' b=none
 there:∀b o,h.get? b=some o->b∉ex->∃o',h'.get? b=some o'
 tups:∀b xs,H b=some (.tup xs)->H' b=some (.tup xs)
 frzs:∀b o u,H b=some (.frz o u)->H' b=some (.frz o u)
 tbls:∀b ps,H b=some (.tbl ps)->∃more,H' b=some (.tbl (ps++more))
 sys:NS H->NS H'
section
variable {fs fs' ex ex':List A0}{H H1 H2:Hp}{h h1 h2 h':B7}{a x e:A0}{o:HO}
theorem Un.any (u:Un fs ex H H1 h h1)(q:h.get? b=some ob)(n:H b=none)(hx:b∉ex):∃sl,h1.get? b=some { ob with slots:=sl }:=by
 by_cases hb:b∈fs
 ·exact u.slot b ob q n hb hx
 ·exact⟨ob.slots,u.keep b ob q n hb hx⟩
theorem Un.kept (k:∀b u,h.get? b=some u->h'.get? b=some u):Un fs ex H H h h':=
 ⟨λb ob q _ _ _=>k b ob q,λb ob q _ _ _=>⟨ob.slots,k b ob q⟩,λ_ _ _ n _=>n,λb ob q _=>⟨ob,k b ob q⟩,λ_ _ q=>q,λ_ _ _ q=>q,λ_ ps q=>⟨#[],by rw[q];simp⟩,λz=>z⟩
theorem Un.refl:Un fs ex H H h h:=Un.kept λ_ _ q=>q
theorem Un.laid (k:∀b u,h.get? b=some u->h'.get? b=some u)(hp:h.objs.size<=a)(hn:H a=none)(hy:L9<h.objs.size):Un fs ex H (upd H a o) h h' where
 keep:=λb u q _ _ _=>k b u q
 slot:=λb u q _ _ _=>⟨u.slots,k b u q⟩
 free:=λb u q n _=>by rw[C4 (E3 (L3 (D1 q) hp))];exact n
 there:=λb u q _=>⟨u,k b u q⟩
 tups:=λb xs q=>by rw[C4 (Z1 q hn)];exact q
 frzs:=λb u xs q=>by rw[C4 (Z1 q hn)];exact q
 tbls:=λb ps q=>⟨#[],by rw[C4 (Z1 q hn),q];simp⟩
 sys:=λz=>by unfold NS;rw[C4 (E3 (L3 hy hp))];exact z
theorem Un.write (mu:Mut (H x))(he:e=x\/H e=some (.own x))(k:∀b u,b≠e->h.get? b=some u->h'.get? b=some u)(heo:∃u,h'.get? e=some u):Un fs ex H (upd H x o) h h':=by
 have hx:∀b,H b=none->b≠x:=λb n z=>by subst z;rw[n] at mu;exact mu
 have hb:∀b,H b=none->b≠e:=λb n z=>by
  subst z;rcases he with r|r
  ·exact hx b n r
  ·rw[n] at r;cases r
 have hm:∀b u,H b=some u->¬Mut (some u)->b≠x:=λb u q nm z=>by subst z;rw[q] at mu;exact nm mu
 refine⟨λb u q n _ _=>k b u (hb b n) q,λb u q n _ _=>⟨u.slots,k b u (hb b n) q⟩,λb u q n _=>by rw[C4 (hx b n)];exact n,λb u q _=>?_,
  λb xs q=>by rw[C4 (hm b _ q λz=>z)];exact q,λb u xs q=>by rw[C4 (hm b _ q λz=>z)];exact q,λb ps q=>⟨#[],by rw[C4 (hm b _ q λz=>z),q];simp⟩,λz=>by
   rcases z with z|⟨ob,u,z⟩
   ·exact .inl (by rw[C4 (hx _ z)];exact z)
   ·exact .inr ⟨ob,u,by rw[C4 (hm _ _ z λz=>z)];exact z⟩⟩
 by_cases hbe:b=e
 ·subst hbe;exact heo
 ·exact⟨u,k b u hbe q⟩
end
def trk (h:B7)(H:Hp):List A0:=(E9 h.objs.size).filter λa=>(H a).isSome
def hidT (h:B7)(H:Hp):B7:=PySem.W.hideAll h (trk h H)
theorem Oi (h:B7)(H:Hp):(hidT h H).objs.size=h.objs.size:=PySem.W.hideAll_size _ _
theorem Oj (e:h.get? b=some o)(n:H b=none):(hidT h H).get? b=some o:=
 PySem.W.hideAll_get _ e λhm=>by
  have q:(H b).isSome=true:=(Q8.mp hm).2;rw[n] at q;simp at q
theorem Ol (e:(hidT h H).get? b=some o):h.get? b=some o/\H b=none:=by
 have e':h.get? b=some o:=PySem.W.of_hideAll (trk h H) e;refine⟨e',?_⟩;cases q:H b with
 |none=>rfl
 | some x =>
  have hm:b∈trk h H:=Q8.mpr ⟨O1.mpr (D1 e'),by simp[q]⟩;have z:(hidT h H).get? b=none:=PySem.W.hideAll_none (trk h H) hm;rw[z] at e;cases e
def Om (g h:B7)(L:A0):List (A0×Obj):=(E9 h.objs.size).filterMap λa=>if a=L\/(g.get? a).isSome=true then none else(h.get? a).map λo=>(a,o)
def rest (g h:B7)(L d:A0):List (A0×Obj):=(Om g h L).filter λp=>decide (p.1≠d)
structure Mod (K:A9)(mg:Str->Option A1)(base:B7):Prop where
 kin:K.In base
 glob:base.Ns X1 mg
 blt:∃mb,base.Ns builtinsNs mb/\∀x:Str,x≠"__name__"->mb x=M9 x
 nolimit:base.NoLimit
structure Cx where
 prog:D2
 w:C9
 K:A9
 mg:Str->Option A1
 base:B7
 A:D8
 N:List Str
 s₀:A6
 H₀:Hp
 env:Env
 outer:List Env
 stack:List Env
 ex:List A0
 fn:Str->Bool
 calm:Bool
 pn:List (A0×Obj)
 xe:A1->A6->Prop
def frs (l:List Env):List A0:=l.filterMap (·.frame)
abbrev Cx.fs (X:Cx):List A0:=frs X.outer
def Vis (sc:J7)(x:Str):Prop:=sc.names.lookup x=some .local\/sc.names.lookup x=some .cell\/sc.names.lookup x=some .free
def Loc (sc:J7)(x:Str):Prop:=sc.names.lookup x=some .local\/sc.names.lookup x=some .cell
def Look (env:Env)(h:B7)(m:Str->Option A1)(x:Str)(u:A1):Prop:=
 (env.kindOf x=some .local/\m x=some u)\/((env.kindOf x=some .cell\/env.kindOf x=some .free)/\∃c,env.cells.lookup x=some c/\h.IsCell c (some u))
structure Cx.Ok (X:Cx):Prop where
 mod:Mod X.K X.mg X.base
 kind:X.env.scope.kind=.function
 glob:X.env.globals=X1
 blt:X.env.builtins=builtinsNs
 above:X.s₀.heap.objs.size<=X.env.locals
 inj:∀x y c,X.env.cells.lookup x=some c->X.env.cells.lookup y=some c->x=y
 has:∀x,(X.env.kindOf x=some .cell\/X.env.kindOf x=some .free)->∃c,X.env.cells.lookup x=some c
 cab:∀x c,X.fn x=true->X.env.cells.lookup x=some c->X.s₀.heap.objs.size<=c
 hd:X.calm=true->X.A.handled=none
 frames:X.A.frames=some X.stack
 stk:X.stack=X.outer\/(X.stack=X.env::X.outer/\X.env.frame=some X.env.locals)
 exf:∀b∈X.ex,b≠X.env.locals/\∀x c,X.env.cells.lookup x=some c->c≠b
 bs:∀b o,X.base.get? b=some o->X.s₀.heap.get? b=some o/\X.H₀ b=none
 bsz:X.base.objs.size<=X.s₀.heap.objs.size
 noex:∀b o,X.base.get? b=some o->b∉X.ex
 exfs:∀b∈X.ex,b∉X.fs
 funs:X.s₀.heap.FunFrames X.base X.outer
 frf:∀b∈X.fs,X.H₀ b=none
 nos:NS X.H₀
structure Inv (X:Cx)(jb:List (A0×Obj))(σ:List (Option V))(H:Hp)(s:A6):Prop where
 ok:X.Ok
 os:s.os=X.s₀.os
 bare:AllBare s.gens
 base:Un X.fs X.ex X.H₀ H X.s₀.heap s.heap
 loc:∃m,s.heap.Ns X.env.locals m/\∀(i:Nat) (x:Str) (v:V),X.N[i]?=some x->σ[i]?=some (some v)->Vis X.env.scope x->∃u,RelV v u/\Look X.env s.heap m x u
 cell:∀x c,X.env.cells.lookup x=some c->∃v,s.heap.IsCell c v
 free:H X.env.locals=none
 freeC:∀x c,X.env.cells.lookup x=some c->H c=none
 pin:∀p∈X.pn++jb,s.heap.get? p.1=some p.2/\H p.1=none/\p.1≠X.env.locals/\p.1∉X.fs/\∀v,p.2.data≠.cell v
 hok:HOk X.prog X.w H s.heap
 len:σ.length=X.N.length
section
variable {X:Cx}{jb:List (A0×Obj)}{σ:List (Option V)}{H H':Hp}{s:A6}{h':B7}
theorem Cx.Ok.nofr (ok:X.Ok)(e:X.base.get? b=some o):b∉X.fs:=λhb=>by
 have:=(ok.funs.mem hb).1;rw[e] at this;cases this
theorem Inv.bs (I:Inv X jb σ H s):∀b o,X.base.get? b=some o->s.heap.get? b=some o/\H b=none:=λb o e=>
 ⟨I.base.keep b o (I.ok.bs b o e).1 (I.ok.bs b o e).2 (I.ok.nofr e) (I.ok.noex b o e),I.base.free b o (I.ok.bs b o e).1 (I.ok.bs b o e).2 (I.ok.noex b o e)⟩
theorem Inv.bk (I:Inv X jb σ H s):∀b o,X.base.get? b=some o->s.heap.get? b=some o:=λb o e=>(I.bs b o e).1
theorem Inv.mod (I:Inv X jb σ H s):Mod X.K X.mg X.base:=I.ok.mod
theorem Inv.nos (I:Inv X jb σ H s):NS H:=I.base.sys I.ok.nos
theorem Inv.bigS (I:Inv X jb σ H s):L9<s.heap.objs.size:=Bk (by decide) (I.mod.glob.keeps I.bk).lt
theorem Inv.kIn (I:Inv X jb σ H s):X.K.In s.heap:=I.ok.mod.kin.keeps I.bk
theorem Inv.nolimit (I:Inv X jb σ H s):s.heap.NoLimit:=I.ok.mod.nolimit.keeps I.bk
theorem Inv.lt (I:Inv X jb σ H s):X.env.locals<s.heap.objs.size:=let ⟨_,hn,_⟩:=I.loc;hn.lt
theorem Inv.sz (I:Inv X jb σ H s):X.s₀.heap.objs.size<=s.heap.objs.size:=N6 I.ok.above (d7 I.lt)
theorem Inv.nofs (I:Inv X jb σ H s)(h:s.heap.objs.size<=a):a∉X.fs:=λhb=>by
 obtain⟨_,o,ho,_⟩:=I.ok.funs.mem hb;exact absurd (L3 (D1 ho) (N6 I.sz h)) (Y8 _)
theorem Inv.cne (I:Inv X jb σ H s):∀x c,X.env.cells.lookup x=some c->c≠X.env.locals:=λx c e z=>by
 obtain⟨v,o,ho,hd⟩:=I.cell x c e;obtain⟨m,⟨o',es,ep,ho',hd',_⟩,_⟩:=I.loc;rw[z,ho'] at ho;cases ho;rw[hd'] at hd;cases hd
theorem Inv.funs (I:Inv X jb σ H s):s.heap.FunFrames X.base X.outer:=by
 have all:∀(l:List Env),(∀b∈frs l,b∈X.fs)->X.s₀.heap.FunFrames X.base l->s.heap.FunFrames X.base l:=by
  intro l
  induction l with
  |nil=>intro _ _;trivial
  | cons env r ih =>
   intro hs hl;obtain⟨hk,⟨L,o,hf,hn,ho,hd⟩,hr⟩:=hl;have hL:L∈X.fs:=hs L (by unfold frs;rw[Cr,hf];exact C8);obtain⟨sl,e⟩:=I.base.slot L o ho (I.ok.frf L hL) hL λz=>I.ok.exfs L z hL;exact⟨hk,⟨L,_,hf,hn,e,hd⟩,ih (λb hb=>hs b (by unfold frs;rw[Cr,hf];exact C5 _ hb)) hr⟩
 exact all X.outer (λ_ hb=>hb) I.ok.funs
theorem Inv.stack (I:Inv X jb σ H s):s.heap.FunFrames X.base X.stack:=by
 rcases I.ok.stk with e|⟨e,hf⟩
 ·rw[e];exact I.funs
 ·rw[e];obtain⟨m,hn,_⟩:=I.loc;refine .cons (by rw[I.ok.kind];decide) hf hn ?_ I.funs;exact Heap.get?_none_of_le (N6 I.ok.bsz I.ok.above)
theorem Inv.stkSub (I:Inv X jb σ H s):∀b∈frs X.stack,b∈X.env.locals::X.fs:=λb hb=>by
 rcases I.ok.stk with e|⟨e,hf⟩
 ·rw[e] at hb;exact C5 _ hb
 ·rw[e] at hb;unfold frs at hb;rw[Cr,hf] at hb;exact hb
theorem Inv.stkFree (I:Inv X jb σ H s):∀b∈frs X.stack,H b=none:=λb hb=>by
 rcases C3.mp (I.stkSub b hb) with e|hb
 ·rw[e];exact I.free
 ·obtain⟨_,o,ho,_⟩:=I.ok.funs.mem hb;exact I.base.free b o ho (I.ok.frf b hb) λz=>I.ok.exfs b z hb
theorem Inv.step {ch:List A0}(I:Inv X jb σ H s)
   (hch:∀b∈ch,(b∈X.ex\/X.s₀.heap.objs.size<=b)/\b≠X.env.locals/\(∀x c,X.env.cells.lookup x=some c->c≠b)/\∀p∈X.pn++jb,p.1≠b)
   (keep:∀b o,b≠X.env.locals->b∉X.fs->b∉ch->s.heap.get? b=some o->H b=none->h'.get? b=some o)
   (slot:∀b o,b≠X.env.locals->b∈X.fs->b∉ch->s.heap.get? b=some o->H b=none->∃sl,h'.get? b=some { o with slots:=sl }) (free:∀b o,b∉ch->s.heap.get? b=some o->H b=none->H' b=none)
   (there:∀b o,b∉ch->s.heap.get? b=some o->∃o',h'.get? b=some o')
   (tups:∀b xs,H b=some (.tup xs)->H' b=some (.tup xs)) (frzs:∀b o u,H b=some (.frz o u)->H' b=some (.frz o u)) (tbls:∀b ps,H b=some (.tbl ps)->∃more,H' b=some (.tbl (ps++more))) (sys:NS H->NS H')
   (ns:∀m,s.heap.Ns X.env.locals m->h'.Ns X.env.locals m) (hok:HOk X.prog X.w H' h') (hg:AllBare g') :
   Inv X jb σ H' { s with heap:=h',gens:=g',drawn:=d',toks:=t' }:=by
 have neL:∀b o,X.s₀.heap.get? b=some o->b≠X.env.locals:=λb o e=>E3 (L3 (D1 e) I.ok.above)
 have neC:∀b o,X.s₀.heap.get? b=some o->b∉X.ex->b∉ch:=λb o e hx hb=>by
  rcases(hch b hb).1 with z|z
  ·exact hx z
  ·exact absurd (L3 (D1 e) z) (Y8 _)
 have cellK:∀x c,X.env.cells.lookup x=some c->∀v,s.heap.IsCell c v->h'.IsCell c v:=λx c e v ⟨o,ho,hd⟩=>by
  have nch:c∉ch:=λz=>(hch c z).2.2.1 x c e rfl
  by_cases hc:c∈X.fs
  ·obtain⟨sl,q⟩:=slot c o (I.cne x c e) hc nch ho (I.freeC x c e);exact⟨_,q,hd⟩
  ·exact⟨o,keep c o (I.cne x c e) hc nch ho (I.freeC x c e),hd⟩
 refine⟨I.ok,I.os,hg,⟨λb o e n hb hx=>?_,λb o e n hb hx=>?_,λb o e n hx=>?_,λb o e hx=>?_,λb xs e=>tups b xs (I.base.tups b xs e),λb o xs e=>frzs b o xs (I.base.frzs b o xs e),λb ps e=>?_,λz=>sys (I.base.sys z)⟩,?_,λx c e=>?_,?_,λx c e=>?_,λp hp=>?_,hok,I.len⟩
 ·exact keep b o (neL b o e) hb (neC b o e hx) (I.base.keep b o e n hb hx) (I.base.free b o e n hx)
 ·obtain⟨sl,e1⟩:=I.base.slot b o e n hb hx;obtain⟨sl',e2⟩:=slot b _ (neL b o e) hb (neC b o e hx) e1 (I.base.free b o e n hx);exact⟨sl',e2⟩
 ·obtain⟨o',e1⟩:=I.base.there b o e hx;exact free b o' (neC b o e hx) e1 (I.base.free b o e n hx)
 ·obtain⟨o',e1⟩:=I.base.there b o e hx;exact there b o' (neC b o e hx) e1
 ·obtain⟨m1,e1⟩:=I.base.tbls b ps e;obtain⟨m2,e2⟩:=tbls b _ e1;exact⟨m1++m2,by rw[e2,Array.append_assoc]⟩
 ·obtain⟨m,hn,hl⟩:=I.loc;refine⟨m,ns m hn,λi x v e1 e2 e3=>?_⟩;obtain⟨u,r,l⟩:=hl i x v e1 e2 e3;refine⟨u,r,?_⟩;rcases l with l|⟨k,c,e,z⟩
  ·exact .inl l
  ·exact .inr ⟨k,c,e,cellK x c e _ z⟩
 ·obtain⟨v,z⟩:=I.cell x c e;exact⟨v,cellK x c e v z⟩
 ·obtain⟨m,⟨o,_,_,ho,_⟩,_⟩:=I.loc;exact free _ o (λz=>(hch _ z).2.1 rfl) ho I.free
 ·obtain⟨v,o,ho,hd⟩:=I.cell x c e;exact free c o (λz=>(hch c z).2.2.1 x c e rfl) ho (I.freeC x c e)
 ·obtain⟨e,n,ne,nf,d⟩:=I.pin p hp;have nch:p.1∉ch:=λz=>(hch p.1 z).2.2.2 p hp rfl;exact⟨keep p.1 p.2 ne nf nch e n,free p.1 p.2 nch e n,ne,nf,d⟩
theorem Inv.un (I:Inv X jb σ H s)(u:Un X.fs [] H H' s.heap h')(hok:HOk X.prog X.w H' h'):Inv X jb σ H' { s with heap:=h',toks:=t' }:=by
 obtain⟨m,⟨o,es,ep,ho,r⟩,_⟩:=id I.loc;obtain⟨sl,hL⟩:=u.any ho I.free (by simp)
 exact I.step (g':=s.gens) (d':=s.drawn) (ch:=[]) (λ_ z=>nomatch z) (λb o _ hb _ e n=>u.keep b o e n hb (by simp)) (λb o _ hb _ e n=>u.slot b o e n hb (by simp)) (λb o _ e n=>u.free b o e n (by simp)) (λb o _ e=>u.there b o e (by simp)) u.tups u.frzs u.tbls u.sys (λm' hm=>by
  obtain⟨o',es',ep',ho',r'⟩:=hm;rw[ho] at ho';cases ho'
  exact⟨_,es',ep',hL,r'⟩) hok I.bare
theorem Inv.call (I:Inv X jb σ H s)(u:Un (frs X.stack) ch H H' s.heap h')(hok:HOk X.prog X.w H' h')(hg:AllBare g')
   (hch:∀b∈ch,(b∈X.ex\/X.s₀.heap.objs.size<=b)/\b≠X.env.locals/\(∀x c,X.env.cells.lookup x=some c->c≠b)/\∀p∈X.pn++jb,p.1≠b) :
   Inv X jb σ H' { s with heap:=h',gens:=g',drawn:=d',toks:=t' }:=by
 obtain⟨m,⟨o,es,ep,ho,r⟩,_⟩:=id I.loc;obtain⟨sl,hL⟩:=u.any ho I.free λz=>(hch _ z).2.1 rfl
 exact I.step (ch:=ch) hch (λb o hL hb hc e n=>u.keep b o e n (λz=>(C3.mp (I.stkSub b z)).elim hL hb) hc) (λb o _ _ hc e n=>u.any e n hc) (λb o hc e n=>u.free b o e n hc) (λb o hc e=>u.there b o e hc) u.tups u.frzs u.tbls u.sys (λm' hm=>by
  obtain⟨o',es',ep',ho',r'⟩:=hm;rw[ho] at ho';cases ho'
  exact⟨_,es',ep',hL,r'⟩) hok hg
theorem Inv.turned {t':Nat}{it:A0}(I:Inv X jb σ H s)(k:∀b o,b≠it->s.heap.get? b=some o->h'.get? b=some o)(hn:H it=none)(hL:it≠X.env.locals)
   (h1:it∈X.ex\/X.s₀.heap.objs.size<=it) (h2:∀x c,X.env.cells.lookup x=some c->c≠it) (h3:∀p∈X.pn++jb,p.1≠it):Inv X jb σ H { s with heap:=h',toks:=t' }:=by
 have nit:∀b u,H b=some u->b≠it:=λb u e z=>by rw[z,hn] at e;cases e
 refine I.step (g':=s.gens) (d':=s.drawn) (ch:=[it]) (λb hb=>?_) (λb o _ _ hc e _=>k b o (λz=>hc (by simp[z])) e) (λb o _ _ hc e _=>⟨o.slots,k b o (λz=>hc (by simp[z])) e⟩) (λ_ _ _ _ n=>n)
   (λb o hc e=>⟨o,k b o (λz=>hc (by simp[z])) e⟩) (λ_ _ e=>e) (λ_ _ _ e=>e) (λb ps e=>⟨#[],by rw[e];simp⟩) (λz=>z) (λm hm=>?_) (λb u e=>?_) I.bare
 ·grind
 ·obtain⟨o,es,ep,ho,r⟩:=hm;exact⟨o,es,ep,k _ o (Ne.symm hL) ho,r⟩
 ·refine(I.hok b u e).stay (λc v hc q=>k c v ?_ q) (λ_ q=>q) λ_ _ q=>q;rcases hc with z|z
  ·grind
  ·grind
theorem Inv.tok (I:Inv X jb σ H s)(t:Nat):Inv X jb σ H { s with toks:=t }:=I.un (h':=s.heap) (t':=t) Un.refl I.hok
theorem Inv.kept (I:Inv X jb σ H s)(k:∀b u,s.heap.get? b=some u->h'.get? b=some u):Inv X jb σ H { s with heap:=h',toks:=t' }:=I.un (Un.kept k) (I.hok.kept k)
theorem Inv.laid (I:Inv X jb σ H s)(k:∀b u,s.heap.get? b=some u->h'.get? b=some u)(hp:s.heap.objs.size<=a)(new:J0 X.prog X.w (upd H a o) h' a o) :
   Inv X jb σ (upd H a o) { s with heap:=h',toks:=t' }:=I.un (Un.laid k hp (I.hok.fresh hp) I.bigS) (I.hok.laid k hp new)
theorem Inv.write (I:Inv X jb σ H s)(mu:Mut (H x))(he:e=x\/H e=some (.own x))(k:∀b u,b≠e->s.heap.get? b=some u->h'.get? b=some u)(heo:∃u,h'.get? e=some u)
   (new:J0 X.prog X.w (upd H x o) h' x o):Inv X jb σ (upd H x o) { s with heap:=h',toks:=t' }:=I.un (Un.write mu he k heo) (I.hok.write mu he k heo new)
theorem Inv.pins_of (I:Inv X jb σ H s)(h:∀p∈pins',s.heap.get? p.1=some p.2/\H p.1=none/\p.1≠X.env.locals/\p.1∉X.fs/\∀v,p.2.data≠.cell v):Inv X pins' σ H s:=
 ⟨I.ok,I.os,I.bare,I.base,I.loc,I.cell,I.free,I.freeC,λp hp=>(K9.mp hp).elim (λz=>I.pin p (w8 _ z)) (h p),I.hok,I.len⟩
theorem nodup_ix {N:List Str}(hN:N.Nodup){i j:Nat}{x:Str}(a:N[i]?=some x)(b:N[j]?=some x):i=j:=by
 obtain⟨h1,e1⟩:=J5.mp a;obtain⟨h2,e2⟩:=J5.mp b;exact(List.getElem_inj hN).mp (e1.trans e2.symm)
theorem Jv (I:Inv X jb σ H s)(hN:X.N.Nodup)(hi:X.N[i]?=some x)(hx:Loc X.env.scope x)(r:RelV v u)
   (h:∀s',Inv X jb (σ.set i (some v)) H s'->(∃a,V4 a s.heap s'.heap/\(a=X.env.locals\/X.env.cells.lookup x=some a))->Q () s') (hf:X.fn x=true\/X.env.scope.names.lookup x=some .local:=by first|exact .inl rfl|exact .inr rfl|assumption):A7 M A (storeName X.env x u) Q E s:=by
 obtain⟨m,hn,hl⟩:=id I.loc;have hcls:(X.env.scope.kind == .class||(X.env.scope.kind == .module&&X.env.locals != X.env.globals))=false:=by rw[I.ok.kind];rfl
 have hiσ:i<σ.length:=by rw[I.len];exact(J5.mp hi).1
 have cne:=I.cne
 have tracked:∀{a:A0} {h':B7},(∃o,s.heap.get? a=some o/\H a=none)->V4 a s.heap h'->HOk X.prog X.w H h':=λ{a h'} ha hs b ob e=>by
  obtain⟨_,_,hfree⟩:=ha;refine(I.hok b ob e).stay (λc w' hc q=>(hs.2 c ?_).trans q) (λ_ q=>q) λ_ _ q=>q;rintro rfl;rcases hc with rfl|hc
  ·rw[hfree] at e;cases e
  ·rw[hfree] at hc;cases hc
 rcases hx with hk|hk
 ·refine wpAny_storeName_local hk hn (λh' hn' hs=>?_) hcls;obtain⟨oL,_,_,hoL,_⟩:=id hn;refine h _ ⟨I.ok,I.os,I.bare,⟨λb o e n hb hx=>?_,λb o e n hb hx=>?_,I.base.free,λb o e hx=>?_,I.base.tups,I.base.frzs,I.base.tbls,I.base.sys⟩,⟨_,hn',λj y v' e1 e2 e3=>?_⟩,λy c e=>?_,I.free,I.freeC,λp hp=>?_,tracked ⟨oL,hoL,I.free⟩ hs,by simpa using I.len⟩ ⟨_,hs,.inl rfl⟩
  ·exact(hs.2 b (E3 (L3 (D1 e) I.ok.above))).trans (I.base.keep b o e n hb hx)
  ·obtain⟨sl,e1⟩:=I.base.slot b o e n hb hx;exact⟨sl,(hs.2 b (E3 (L3 (D1 e) I.ok.above))).trans e1⟩
  ·obtain⟨o',e1⟩:=I.base.there b o e hx;exact⟨o',(hs.2 b (E3 (L3 (D1 e) I.ok.above))).trans e1⟩
  ·by_cases hj:j=i
   ·subst hj;rw[hi] at e1;cases e1;rw[P8 hiσ] at e2;cases e2;exact⟨u,r,.inl ⟨hk,by simp⟩⟩
   ·rw[Q7 (Ne.symm hj)] at e2;obtain⟨u',r',q⟩:=hl j y v' e1 e2 e3;refine⟨u',r',?_⟩;rcases q with⟨k,e⟩|⟨k,c,e,z⟩
    ·refine .inl ⟨k,?_⟩;have:y≠x:=λe=>hj (nodup_ix hN e1 (e▸hi));simp[this,e]
    ·exact .inr ⟨k,c,e,z.sameBut hs (cne y c e)⟩
  ·obtain⟨w',z⟩:=I.cell y c e;exact⟨w',z.sameBut hs (cne y c e)⟩
  ·obtain⟨e,n,ne,nf,d⟩:=I.pin p hp;exact⟨(hs.2 p.1 ne).trans e,n,ne,nf,d⟩
 ·have hfn:X.fn x=true:=by
   rcases hf with z|z
   ·exact z
   ·rw[z] at hk;cases hk
  obtain⟨c,hc⟩:=I.ok.has x (.inl hk);obtain⟨w',z⟩:=I.cell x c hc;refine wpAny_storeName_cell I.ok.kind hk hc z (λh' hc' hs=>?_);obtain⟨oc,hoc,hocd⟩:=id z;refine h { s with heap:=h' } ⟨I.ok,I.os,I.bare,⟨λb o e n hb hx=>?_,λb o e n hb hx=>?_,I.base.free,λb o e hx=>?_,I.base.tups,I.base.frzs,I.base.tbls,I.base.sys⟩,⟨m,hn.sameBut hs (Ne.symm (cne x c hc)),λj y v' e1 e2 e3=>?_⟩,λy c' e=>?_,I.free,I.freeC,λp hp=>?_,tracked ⟨oc,hoc,I.freeC x c hc⟩ hs,by simpa using I.len⟩ ⟨c,hs,.inr hc⟩
  ·exact(hs.2 b (E3 (L3 (D1 e) (I.ok.cab x c hfn hc)))).trans (I.base.keep b o e n hb hx)
  ·obtain⟨sl,e1⟩:=I.base.slot b o e n hb hx;exact⟨sl,(hs.2 b (E3 (L3 (D1 e) (I.ok.cab x c hfn hc)))).trans e1⟩
  ·obtain⟨o',e1⟩:=I.base.there b o e hx;exact⟨o',(hs.2 b (E3 (L3 (D1 e) (I.ok.cab x c hfn hc)))).trans e1⟩
  ·by_cases hj:j=i
   ·subst hj;rw[hi] at e1;cases e1;rw[P8 hiσ] at e2;cases e2;exact⟨u,r,.inr ⟨.inl hk,c,hc,hc'⟩⟩
   ·rw[Q7 (Ne.symm hj)] at e2;obtain⟨u',r',q⟩:=hl j y v' e1 e2 e3;refine⟨u',r',?_⟩;rcases q with q|⟨k,c',e,z'⟩
    ·exact .inl q
    ·refine .inr ⟨k,c',e,z'.sameBut hs ?_⟩;rintro rfl;exact hj (nodup_ix hN e1 (I.ok.inj _ _ _ e hc▸hi))
  ·by_cases hcc:c'=c
   ·subst hcc;exact⟨_,hc'⟩
   ·obtain⟨w2,z2⟩:=I.cell y c' e;exact⟨w2,z2.sameBut hs hcc⟩
  ·obtain⟨e,n,ne,nf,d⟩:=I.pin p hp;refine⟨(hs.2 p.1 ?_).trans e,n,ne,nf,d⟩;intro q;rw[q,hoc] at e;have q':oc=p.2:=P0 e;exact d w' (by rw[<- q'];exact hocd)
theorem EF (I:Inv X jb σ H s)(hN:X.N.Nodup)(hi:X.N[i]?=some x)(hx:Loc X.env.scope x)(r:RelV v u)
   (h:∀s',Inv X jb (σ.set i (some v)) H s'->Q () s') (hf:X.fn x=true\/X.env.scope.names.lookup x=some .local:=by first|exact .inl rfl|exact .inr rfl|assumption):A7 M A (storeName X.env x u) Q E s:=
 Jv I hN hi hx r (λs' I' _=>h s' I') hf
end
abbrev XK:=A1->Option A0->Hp->Prop
abbrev St:=List (Option V)
abbrev VK:=V->Hp->Prop
abbrev TE:=St->Hp->VK->Prop
abbrev TT:=St->Hp->(Bool->Hp->Prop)->Prop
abbrev TA:=St->Hp->(List V->Hp->Prop)->Prop
structure Ends where
 nx:St->Hp->Prop
 rt:VK
 bk:St->Hp->Prop:=λ_ _=>False
 ct:St->Hp->Prop:=λ_ _=>False
abbrev TS:=Ends->St->Hp->Prop
def EP (X:Cx)(jb:List (A0×Obj))(σ:St)(Q:VK)(u:A1)(s':A6):Prop:=∃v H',Inv X jb σ H' s'/\RelV v u/\Q v H'
def TP (X:Cx)(jb:List (A0×Obj))(σ:St)(Q:Bool->Hp->Prop)(b:Bool)(s':A6):Prop:=∃H',Inv X jb σ H' s'/\Q b H'
def AP (X:Cx)(jb:List (A0×Obj))(σ:St)(Q:List V->Hp->Prop)(us:List A1)(s':A6):Prop:=∃vs H',Inv X jb σ H' s'/\Vals vs us/\Q vs H'
def SP (X:Cx)(jb:List (A0×Obj))(D:Ends)(f:Flow)(s':A6):Prop:=
 match f with
 |.next=>∃σ' H',Inv X jb σ' H' s'/\D.nx σ' H'
 |.brk=>∃σ' H',Inv X jb σ' H' s'/\D.bk σ' H'
 |.cont=>∃σ' H',Inv X jb σ' H' s'/\D.ct σ' H'
 |.ret u=>∃v σ' H',Inv X jb σ' H' s'/\RelV v u/\D.rt v H'
def PE (X:Cx)(e:Expr)(t:TE):Prop:=
 ∀(jb:List (A0×Obj)) (s:A6) (σ:St) (H:Hp) (Q:VK),Inv X jb σ H s->t σ H Q->A7 (A8 X.prog X.w) X.A (eval e X.env) (EP X jb σ Q) X.xe s
def PT (X:Cx)(e:Expr)(t:TT):Prop:=
 ∀(jb:List (A0×Obj)) (s:A6) (σ:St) (H:Hp) (Q:Bool->Hp->Prop),Inv X jb σ H s->t σ H Q->A7 (A8 X.prog X.w) X.A (isTrue e X.env (eval e X.env)) (TP X jb σ Q) X.xe s
def PW (X:Cx)(e:Expr)(t:TT):Prop:=
 ∀(whole:Sem A1) (jb:List (A0×Obj)) (s:A6) (σ:St) (H:Hp) (Q:Bool->Hp->Prop),Inv X jb σ H s->t σ H Q->A7 (A8 X.prog X.w) X.A (isTrue e X.env whole) (TP X jb σ Q) X.xe s
theorem PW.pt (h:PW X e t):PT X e t:=h _
def PA (X:Cx)(es:List Expr)(t:TA):Prop:=
 ∀(pos:Pos) (jb:List (A0×Obj)) (s:A6) (σ:St) (H:Hp) (Q:List V->Hp->Prop),Inv X jb σ H s->t σ H Q->A7 (A8 X.prog X.w) X.A (spliced (backTo pos (E6 es X.env))) (AP X jb σ Q) X.xe s
def PS (X:Cx)(st:Stmt)(t:TS):Prop:=
 ∀(jb:List (A0×Obj)) (s:A6) (σ:St) (H:Hp) (D:Ends),Inv X jb σ H s->t D σ H->A7 (A8 X.prog X.w) X.A (exec st X.env) (SP X jb D) X.xe s
def PSs (X:Cx)(st:List Stmt)(t:TS):Prop:=
 ∀(jb:List (A0×Obj)) (s:A6) (σ:St) (H:Hp) (D:Ends),Inv X jb σ H s->t D σ H->A7 (A8 X.prog X.w) X.A (execs st X.env) (SP X jb D) X.xe s
theorem thn {α:Type}{t:Sem α}{Q Q':α->A6->Prop}{M:Model}{A:D8}{E:A1->A6->Prop}{s:A6}(h:A7 M A t Q E s)(hQ:∀a s,Q a s->Q' a s):A7 M A t Q' E s:=K1 h hQ λ_ _ x=>x
section
variable {X:Cx}
def tVar (i:Nat):TE:=λσ H Q=>∃v,σ[i]?=some (some v)/\Q v H
def tC (v:V):TE:=λ_ H Q=>Q v H
theorem Jw (hN:X.N[i]?=some x)(hv:Vis X.env.scope x)(hd:(x == ("__debug__":Str))=false:=by decide)(hcd:(x == ("__classdict__":Str))=false:=by decide):PE X (.Name x pos) (tVar i):=by
 intro jb s σ H Q I h;obtain⟨v,e,h⟩:=h;obtain⟨m,hn,hl⟩:=I.loc;obtain⟨u,r,l⟩:=hl i x v hN e hv;have fin:EP X jb σ Q u s:=⟨v,H,I,r,h⟩;rcases l with⟨hk,hm⟩|⟨hk,c,hc,hcell⟩
 ·exact wpAny_Name (wpAny_loadName_local I.ok.kind hk hn hm fin) hd
 ·rcases hk with hk|hk
  ·exact wpAny_Name (wpAny_loadName_cell I.ok.kind hk hc hcell fin) hd
  ·exact wpAny_Name (wpAny_loadName_free I.ok.kind hk hc hcell fin hcd) hd
theorem O5 {i j pos}:PE X (.Constant (.int i) j pos) (tC (.int i)):=λ_ _ _ H _ I h=>wpAny_Constant_int ⟨.int i,H,I.tok _,⟨_,rfl⟩,h⟩
theorem pe_bl {b j pos}:PE X (.Constant (.bool b) j pos) (tC (.bl b)):=λ_ _ _ H _ I h=>Constant_bool ⟨.bl b,H,I,rfl,h⟩
theorem pe_non {j pos}:PE X (.Constant .none j pos) (tC .non):=λ_ _ _ H _ I h=>Constant_none ⟨.non,H,I,rfl,h⟩
theorem N3 {x j pos}:PE X (.Constant (.str x) j pos) (tC (.str x)):=λ_ _ _ H _ I h=>Calls.Constant_str ⟨.str x,H,I.tok _,⟨_,rfl⟩,h⟩
def Gl (X:Cx)(x:Str):Prop:=X.env.kindOf x=some .globalImplicit
theorem On (I:Inv X jb σ H s)(hg:Gl X x)(hm:X.mg x=some u)(h:Q u s)
   (hd:(x == ("__debug__":Str))=false:=by decide):A7 (A8 X.prog X.w) X.A (eval (.Name x pos) X.env) Q E s:=
 Calls.Name_function_global I.ok.kind hg (Calls.loadGlobal_global (by rw[I.ok.glob];exact I.mod.glob.keeps I.bk) hm h) hd
theorem x9 (I:Inv X jb σ H s)(hg:Gl X x)(hm:X.mg x=none)(hv:M9 x=some u)(h:Q u s)
   (hn:x≠"__name__":=by decide) (hd:(x == ("__debug__":Str))=false:=by decide):A7 (A8 X.prog X.w) X.A (eval (.Name x pos) X.env) Q E s:=by
 obtain⟨mb,h1,h2⟩:=I.mod.blt;exact Calls.Name_function_global I.ok.kind hg (Calls.loadGlobal_builtin (by rw[I.ok.glob];exact I.mod.glob.keeps I.bk) hm (by rw[I.ok.blt];exact h1.keeps I.bk) ((h2 x hn).trans hv) h) hd
theorem Oo (hg:Gl X x)(hm:X.mg x=none)(hv:M9 x=some u)(r:RelV v u)(hn:x≠"__name__":=by decide)(hd:(x == ("__debug__":Str))=false:=by decide):PE X (.Name x pos) (tC v):=
 λ_ _ _ H _ I h=>x9 I hg hm hv ⟨v,H,I,r,h⟩ hn hd
variable {a b:Expr}{ta tb:TE}{pos:Pos}
def tB (t:TE):TT:=λσ H Q=>t σ H λx H1=>∃c,x=.bl c/\Q c H1
theorem pt_val (h:PE X e t)(he:∀whole,isTrue e X.env whole=(do let v ← whole;standAt e.pos;X2 [v] (truthy v)):=by intro _;rfl):PT X e (tB t):=by
 intro jb s σ H Q I hw;refine isTrue_plain (thn (h jb s σ H _ I hw) λv s1 ⟨x,H1,I1,r1,q1⟩=>?_) (he _);obtain⟨d,rfl,q⟩:=q1;cases r1;exact Ag ⟨H1,I1,q⟩
variable {tA tB':TT}{rest:List Expr}
def tAnd (t u:TT):TT:=λσ H Q=>t σ H λc H1=>if c=true then u σ H1 Q else Q false H1
def tOr (t u:TT):TT:=λσ H Q=>t σ H λc H1=>if c=true then Q true H1 else u σ H1 Q
def tNot (t:TT):TT:=λσ H Q=>t σ H λc H1=>Q (!c) H1
theorem Jx (ha:PT X a tA):PW X (.BoolOp .And [a] pos) tA:=by
 intro wh jb s σ H Q I h;refine isTrue_and (thn (ha jb s σ H Q I h) λc s1 e=>?_);cases c with
 |true=>exact isTrue_and_nil e
 |false=>exact e
theorem pw_or1 (ha:PT X a tA):PW X (.BoolOp .Or [a] pos) tA:=by
 intro wh jb s σ H Q I h;refine isTrue_or (thn (ha jb s σ H Q I h) λc s1 e=>?_);cases c with
 |false=>exact isTrue_or_nil e
 |true=>exact e
theorem Jy (ha:PT X a tA)(hb:PW X (.BoolOp .And (b::rest) pos) tB'):PW X (.BoolOp .And (a::b::rest) pos) (tAnd tA tB'):=by
 intro wh jb s σ H Q I h;refine isTrue_and (thn (ha jb s σ H _ I h) λc s1 ⟨H1,I1,q1⟩=>?_);cases c with
 |true=>exact hb wh jb s1 σ H1 Q I1 q1
 |false=>exact⟨H1,I1,q1⟩
theorem pw_or (ha:PT X a tA)(hb:PW X (.BoolOp .Or (b::rest) pos) tB'):PW X (.BoolOp .Or (a::b::rest) pos) (tOr tA tB'):=by
 intro wh jb s σ H Q I h;refine isTrue_or (thn (ha jb s σ H _ I h) λc s1 ⟨H1,I1,q1⟩=>?_);cases c with
 |true=>exact⟨H1,I1,q1⟩
 |false=>exact hb wh jb s1 σ H1 Q I1 q1
theorem pt_not (ha:PT X a tA):PT X (.UnaryOp .Not a pos) (tNot tA):=by
 intro jb s σ H Q I h;exact isTrue_not (ha jb s σ H (λc H1=>Q (!c) H1) I h)
def tAndV (ta tb:TE):TE:=λσ H Q=>ta σ H λx H1=>∃c,x=.bl c/\if c=true then tb σ H1 Q else Q (.bl false) H1
theorem pe_one {op}{t:TE}(h:PE X a t):PE X (.BoolOp op [a] pos) t:=λjb s σ H Q I hw=>BoolOp_one (h jb s σ H Q I hw)
theorem pe_and (ha:PE X a ta)(hb:PE X (.BoolOp .And (b::rest) pos) tb):PE X (.BoolOp .And (a::b::rest) pos) (tAndV ta tb):=by
 intro jb s σ H Q I h;refine BoolOp_and (thn (ha jb s σ H _ I h) λv s1 ⟨x,H1,I1,r1,q1⟩=>?_);obtain⟨c,rfl,q1⟩:=q1;cases r1;refine Ag ?_;cases c with
 |true=>exact hb jb s1 σ H1 Q I1 q1
 |false=>exact⟨.bl false,H1,I1,rfl,q1⟩
def tIf (t:TT)(ta tb:TE):TE:=λσ H Q=>t σ H λc H1=>if c=true then ta σ H1 Q else tb σ H1 Q
theorem Op (hc:PT X c tA)(ha:PE X a ta)(hb:PE X b tb):PE X (.IfExp c a b pos) (tIf tA ta tb):=by
 intro jb s σ H Q I h;refine wpAny_IfExp (thn (hc jb s σ H _ I h) λd s1 ⟨H1,I1,q1⟩=>?_);cases d with
 |true=>exact ha jb s1 σ H1 Q I1 q1
 |false=>exact hb jb s1 σ H1 Q I1 q1
end
def SqL (K:A9)(H:Hp)(a:A0)(xs:List V):Prop:=
 Rd H a (.lst xs)\/
   ∃(o:Obj) (jf:Array A1) (n:Nat),K.lookup a=some o/\o.cls=.type "list"/\o.dict=none/\o.data=.seq jf n/\jf.size<=C2/\Vals xs jf.toList
def SqT (K:A9)(H:Hp)(a:A0)(xs:List V):Prop:=
 Rd H a (.tup xs)\/
   ∃(o:Obj) (jf:Array A1) (n:Nat),K.lookup a=some o/\o.cls=.type "tuple"/\o.data=.seq jf n/\jf.size<=C2/\Vals xs jf.toList
def absV:A1->Option V
 |.none=>some .non
 |.bool b=>some (.bl b)
 |.int i _=>some (.int i)
 |.str x _=>some (.str x)
 |.bytes b _=>some (.byt b)
 |.float b _=>some (.flt b)
 |.ref a=>some (.ref a)
 |.type n=>some (.ty n)
 |_=>none
theorem RelV.abs {x:V}{u:A1}(r:RelV x u):absV u=some x:=by grind [RelV,V,absV]
theorem RelV.inj {x y:V}{u:A1}(r:RelV x u)(q:RelV y u):x=y:=by grind [RelV,V]
theorem Vals.inj (h:Vals xs us)(h':Vals ys us):xs=ys:=by
 induction h generalizing ys with
 |nil=>cases h';rfl
 |cons r t ih=>cases h' with|cons r' t'=>rw[r.inj r',ih t']
section
variable {X:Cx}{jb:List (A0×Obj)}{σ:St}{H:Hp}{s:A6}{a:A0}{xs ys:List V}
theorem SqL.of {K:A9}(h:H a=some (.lst xs)):SqL K H a xs:=.inl (.inl h)
theorem SqT.of {K:A9}(h:H a=some (.tup xs)):SqT K H a xs:=.inl (.inl h)
theorem Inv.list (I:Inv X jb σ H s)(h:SqL X.K H a xs):∃jf:List A1,Vals xs jf/\PlainL s.heap a jf.toArray/\xs.length<=C2:=by
 rcases h with h|⟨o,jf,n,hk,hc,hd,hs,hz,r⟩
 ·obtain⟨z,jf,n,r,e⟩:=h.ok I.hok;exact⟨jf,r,⟨_,n,e,rfl,rfl,rfl⟩,z⟩
 ·refine⟨jf.toList,r,⟨o,n,I.kIn a o hk,hc,hd,by simpa using hs⟩,?_⟩;have e:=r.length;simp only[O3] at e;omega
theorem Inv.tuple (I:Inv X jb σ H s)(h:SqT X.K H a xs):∃jf:List A1,Vals xs jf/\IsTup s.heap a jf.toArray/\xs.length<=C2:=by
 rcases h with h|⟨o,jf,n,hk,hc,hs,hz,r⟩
 ·obtain⟨z,jf,r,p⟩:=h.ok I.hok;exact⟨jf,r,p.is,z⟩
 ·refine⟨jf.toList,r,⟨o,I.kIn a o hk,hc,n,by simpa using hs⟩,?_⟩;have e:=r.length;simp only[O3] at e;omega
theorem Inv.list_inj (I:Inv X jb σ H s)(h:SqL X.K H a xs)(h':SqL X.K H a ys):xs=ys:=by
 obtain⟨jf,r,⟨o,n,e,_,_,d⟩,_⟩:=I.list h;obtain⟨its',r',⟨o',n',e',_,_,d'⟩,_⟩:=I.list h';rw[e] at e';cases e';rw[d] at d';injection d' with d1 _;have:jf=its':=by simpa using congrArg Array.toList d1
 subst this;exact r.inj r'
theorem Inv.tuple_inj (I:Inv X jb σ H s)(h:SqT X.K H a xs)(h':SqT X.K H a ys):xs=ys:=by
 obtain⟨jf,r,⟨o,e,_,n,d⟩,_⟩:=I.tuple h;obtain⟨its',r',⟨o',e',_,n',d'⟩,_⟩:=I.tuple h';rw[e] at e';cases e';rw[d] at d';injection d' with d1 _;have:jf=its':=by simpa using congrArg Array.toList d1
 subst this;exact r.inj r'
end
abbrev Cx.wish (X:Cx)(E:A1->A6->Prop):Cx:={ X with xe:=E }
abbrev Cx.nox (X:Cx):Cx:=X.wish λ_ _=>False
theorem Cx.Ok.wish {X:Cx}(ok:X.Ok)(E:A1->A6->Prop):(X.wish E).Ok:=
 ⟨ok.mod,ok.kind,ok.glob,ok.blt,ok.above,ok.inj,ok.has,ok.cab,ok.hd,ok.frames,ok.stk,ok.exf,ok.bs,ok.bsz,ok.noex,ok.exfs,ok.funs,ok.frf,ok.nos⟩
theorem Cx.Ok.unwish {X:Cx}(ok:(X.wish E).Ok):X.Ok:=
 ⟨ok.mod,ok.kind,ok.glob,ok.blt,ok.above,ok.inj,ok.has,ok.cab,ok.hd,ok.frames,ok.stk,ok.exf,ok.bs,ok.bsz,ok.noex,ok.exfs,ok.funs,ok.frf,ok.nos⟩
section
variable {X:Cx}{jb:List (A0×Obj)}{σ:St}{H:Hp}{s:A6}{E:A1->A6->Prop}
theorem Inv.wish (I:Inv X jb σ H s)(E:A1->A6->Prop):Inv (X.wish E) jb σ H s:=⟨I.ok.wish E,I.os,I.bare,I.base,I.loc,I.cell,I.free,I.freeC,I.pin,I.hok,I.len⟩
theorem Inv.unwish (I:Inv (X.wish E) jb σ H s):Inv X jb σ H s:=⟨I.ok.unwish,I.os,I.bare,I.base,I.loc,I.cell,I.free,I.freeC,I.pin,I.hok,I.len⟩
theorem SP.unwish (h:SP (X.wish E) jb D f s'):SP X jb D f s':=by
 cases f with
 |next=>obtain⟨σ',H',I,q⟩:=h;exact⟨σ',H',I.unwish,q⟩
 |brk=>obtain⟨σ',H',I,q⟩:=h;exact⟨σ',H',I.unwish,q⟩
 |cont=>obtain⟨σ',H',I,q⟩:=h;exact⟨σ',H',I.unwish,q⟩
 |ret u=>obtain⟨v,σ',H',I,r,q⟩:=h;exact⟨v,σ',H',I.unwish,r,q⟩
theorem PSs.nox {st:List Stmt}(h:PSs X.nox st t):PSs X st t:=λjb s σ H D I hw=>
 K1 (h jb s σ H D (I.wish _) hw) (λ_ _ q=>q.unwish) λ_ _ z=>e7 z
end
section
variable {X:Cx}{st:Stmt}{rest:List Stmt}{t u:TS}{e:Expr}{te:TE}{pos:Pos}
def tNext:TS:=λD σ H=>D.nx σ H
def tSeq (t u:TS):TS:=λD σ H=>t { D with nx:=u D } σ H
theorem Gw:PSs X [] tNext:=λ_ _ σ H _ I h=>DZ ⟨σ,H,I,h⟩
theorem p9 (h1:PS X st t)(h2:PSs X rest u):PSs X (st::rest) (tSeq t u):=by
 intro jb s σ H D I h;refine wpAny_execs_cons (thn (h1 jb s σ H { D with nx:=u D } I h) λf s1 q=>?_);cases f with
 | next =>
  obtain⟨σ',H',I',q⟩:=q;exact h2 jb s1 σ' H' D I' q
 |ret v=>exact q
 |brk=>exact q
 |cont=>exact q
theorem CN (h1:PS X st t):PSs X [st] t:=by
 intro jb s σ H D I h;refine wpAny_execs_cons (thn (h1 jb s σ H D I h) λf s1 q=>?_);cases f with
 |next=>exact DZ q
 |ret v=>exact q
 |brk=>exact q
 |cont=>exact q
theorem Inv.quiet (I:Inv X jb σ H s):interactive X.env=false:=by simp[interactive,I.ok.kind]
def Gx (te:TE):TS:=λD σ H=>te σ H λ_ H1=>D.nx σ H1
theorem Oq (he:PE X e te)(hs:l6 e none pos.line X.env=pure false:=by rfl):PS X (.Expr e pos) (Gx te):=by
 intro jb s σ H D I h;exact wpAny_Expr_any (thn (he jb s σ H _ I h) λv s1 ⟨x,H1,I1,r1,q1⟩=>⟨σ,H1,I1,q1⟩) I.quiet hs
def tRet (te:TE):TS:=λD σ H=>te σ H D.rt
theorem CO (he:PE X e te):PS X (.Return (some e) pos) (tRet te):=by
 intro jb s σ H D I h;exact wpAny_Return_some (thn (he jb s σ H _ I h) λv s1 ⟨x,H1,I1,r1,q1⟩=>⟨x,σ,H1,I1,r1,q1⟩)
def tIfS (c:TT)(t u:TS):TS:=λD σ H=>c σ H λb H1=>if b=true then t D σ H1 else u D σ H1
theorem Gy (hc:PT X c tc)(ha:PSs X a t)(hb:PSs X b u):PS X (.If c a b pos) (tIfS tc t u):=by
 intro jb s σ H D I h;refine wpAny_If (thn (hc jb s σ H _ I h) λd s1 ⟨H1,I1,q1⟩=>?_);cases d with
 |true=>exact ha jb s1 σ H1 D I1 q1
 |false=>exact hb jb s1 σ H1 D I1 q1
end
abbrev TG:=V->St->Hp->(St->Hp->Prop)->Prop
abbrev TGs:=List V->St->Hp->(St->Hp->Prop)->Prop
def PG (X:Cx)(target:Expr)(t:TG):Prop:=
 ∀ (jb : List (A0 × Obj)) (s : A6) (σ : St) (H : Hp) (v : V) (u : A1) (Q : St -> Hp -> Prop), Inv X jb σ H s -> RelV v u -> t v σ H Q ->
   A7 (A8 X.prog X.w) X.A (assign target X.env u) (λ_ s'=>∃σ' H',Inv X jb σ' H' s'/\Q σ' H') X.xe s
def PGs (X:Cx)(ts:List Expr)(t:TGs):Prop:=
 ∀ (jb : List (A0 × Obj)) (s : A6) (σ : St) (H : Hp) (vs : List V) (us : List A1) (Q : St -> Hp -> Prop), Inv X jb σ H s -> Vals vs us -> t vs σ H Q ->
   A7 (A8 X.prog X.w) X.A (assignInOrder ((K5 ts X.env).map (·.2)) us) (λ_ s'=>∃σ' H',Inv X jb σ' H' s'/\Q σ' H') X.xe s
abbrev TSet:=V->V->V->Hp->(Hp->Prop)->Prop
def PSet (X:Cx)(t:TSet):Prop:=
 ∀ (jb : List (A0 × Obj)) (s : A6) (σ : St) (H : Hp) (o i v : V) (ov iv u : A1) (Q : Hp -> Prop), Inv X jb σ H s -> RelV o ov -> RelV i iv -> RelV v u -> t o i v H Q ->
   A7 (A8 X.prog X.w) X.A (setItem ov iv u) (λ_ s'=>∃H',Inv X jb σ H' s'/\Q H') X.xe s
section
variable {X:Cx}{pos:Pos}
def P2 (i:Nat):TG:=λv σ H Q=>Q (σ.set i (some v)) H
theorem Os (hN:X.N.Nodup)(hi:X.N[i]?=some x)(hx:Loc X.env.scope x)(hf:X.fn x=true\/X.env.scope.names.lookup x=some .local:=by first|exact .inl rfl|exact .inr rfl|assumption):PG X (.Name x pos) (P2 i):=by
 intro jb s σ H v u Q I r h;exact wpAny_assign_Name (EF I hN hi hx r (λs' I'=>⟨_,H,I',h⟩) hf)
def gNil:TGs:=λvs σ H Q=>vs=[]/\Q σ H
def Z2 (t:TG)(u:TGs):TGs:=λvs σ H Q=>∃v r,vs=v::r/\t v σ H λσ' H'=>u r σ' H' Q
theorem Gz:PGs X [] gNil:=by
 intro jb s σ H vs us Q I r h;obtain⟨e,h⟩:=h;subst e;cases r;exact assignInOrder_nil ⟨σ,H,I,h⟩
theorem CP (h1:PG X e t)(h2:PGs X es u)
   (hs:(K5 (e::es) X.env).map (·.2)=assign e X.env::(K5 es X.env).map (·.2):=by rfl):PGs X (e::es) (Z2 t u):=by
 intro jb s σ H vs us Q I r h;obtain⟨v,vr,e1,h⟩:=h;subst e1;cases r with
 | cons r rr =>
  rw[hs];refine assignInOrder_cons (thn (h1 jb s σ H _ _ _ I r h) λ_ s1 ⟨σ1,H1,I1,q1⟩=>?_);exact h2 jb s1 σ1 H1 _ _ Q I1 rr q1
def gTup (K:A9)(n:Nat)(t:TGs):TG:=λv σ H Q=>∃a xs,v=.ref a/\SqT K H a xs/\xs.length=n/\t xs σ H Q
theorem GA (hc:X.calm=true)(h:PGs X es t)
   (hn:(K5 es X.env).length=n:=by rfl) (hst:(K5 es X.env).findIdx? (·.1)=none:=by rfl):PG X (.Tuple es k pos) (gTup X.K n t):=by
 intro jb s σ H v u Q I r hw;obtain⟨a,xs,e1,hq,hl,hw⟩:=hw;subst e1;cases r;obtain⟨jf,rv,ht,hz⟩:=I.tuple hq;refine assign_Tuple_tuple (I.ok.hd hc) ht (by simp[hn,<- hl,rv.length]) hst λh' hx=>?_;have I1:Inv X jb σ H { s with heap:=h' }:=I.kept (t':=s.toks) λb o e=>hx b o (E3 (D1 e)) e;exact h jb _ σ H xs _ Q I1 (by simpa using rv) hw
def gSub (to ti:TE)(t:TSet):TG:=λv σ H Q=>to σ H λo H1=>ti σ H1 λi H2=>t o i v H2 λH3=>Q σ H3
theorem pg_sub (ho:PE X o to)(hi:PE X i ti)(hs:PSet X t)
   (ha:∀v,assign (.Subscript o i pos) X.env v=(do
    let ov ← X2 [v] (eval o X.env)
    let iv ← X2 [v,ov] (eval i X.env)
    standAt pos
    X2 [v,ov,iv] (setItem ov iv v)
    release [v,ov,iv] []):=by intro _;rfl):PG X (.Subscript o i pos) (gSub to ti t):=by
 intro jb s σ H v u Q I r h;rw[ha];refine A2 (M8 (thn (ho jb s σ H _ I h) λov s1 ⟨x,H1,I1,r1,q1⟩=>?_));refine A2 (M8 (thn (hi jb s1 σ H1 _ I1 q1) λiv s2 ⟨y,H2,I2,r2,q2⟩=>?_));refine A2 (Z9 (A2 (M8 (thn (hs jb s2 σ H2 x y v ov iv u _ I2 r1 r2 r q2) λ_ s3 ⟨H3,I3,q3⟩=>?_))));exact wpAny_release ⟨σ,H3,I3,q3⟩
def tAsg (te:TE)(g:TG):TS:=λD σ H=>te σ H λx H1=>g x σ H1 D.nx
theorem ps_asg (he:PE X e te)(hg:PG X tg g)(hs:swapsWithSole [tg] e pos.line X.env=pure false:=by rfl)(hw:swappedStores [tg] e X.env=pure none:=by rfl)
   (h1:(K5 [tg] X.env).map (·.2)=[assign tg X.env]:=by rfl):PS X (.Assign [tg] e pos) (tAsg te g):=by
 intro jb s σ H D I h;refine wpAny_Assign_stores (thn (he jb s σ H _ I h) λv s1 ⟨x,H1,I1,r1,q1⟩=>?_) hs hw;rw[h1];exact thn (hg jb s1 σ H1 x v _ I1 r1 q1) λ_ s2 q=>q
theorem GB (hN:X.N.Nodup)(hi:X.N[i]?=some x)(hx:Loc X.env.scope x)(he:PE X e te)(hs:l6 e (some (.Name x pos')) pos.line X.env=pure false:=by rfl)(hf:X.fn x=true\/X.env.scope.names.lookup x=some .local:=by first|exact .inl rfl|exact .inr rfl|assumption) :
   PS X (.Assign [.Name x pos'] e pos) (tAsg te (P2 i)):=by
 intro jb s σ H D I h;refine wpAny_Assign_Name (thn (he jb s σ H _ I h) λv s1 ⟨y,H1,I1,r1,q1⟩=>?_) hs;exact EF I1 hN hi hx r1 (λs2 I2=>⟨_,H1,I2,q1⟩) hf
def tPar (i j:Nat)(ta:TA):TS:=λD σ H=>ta σ H λvs H1=>∃v w,vs=[v,w]/\D.nx ((σ.set i (some v)).set j (some w)) H1
theorem ps_par {i j:Nat}{x y:Str}{a b:Expr}{ta:TA}{px py pt:Pos}{kt k2 pt2}(hc:X.calm=true)(hN:X.N.Nodup)(hi:X.N[i]?=some x)(hj:X.N[j]?=some y)(hij:i≠j)
   (hx:X.env.scope.names.lookup x=some .local) (hy:X.env.scope.names.lookup y=some .local) (ha:PA X [a,b] ta)
   (hw:swappedStores [.Tuple [.Name x px,.Name y py] kt pt] (.Tuple [a,b] k2 pt2) X.env=pure (some [x,y]))
   (hs:swapsWithSole [.Tuple [.Name x px,.Name y py] kt pt] (.Tuple [a,b] k2 pt2) pos.line X.env=pure false:=by rfl) :
   PS X (.Assign [.Tuple [.Name x px,.Name y py] kt pt] (.Tuple [a,b] k2 pt2) pos) (tPar i j ta):=by
 intro jb s σ H D I h;rw[exec_Assign_arm];refine A2 (Z9 ?_);rw[hs];refine A2 (B0 ?_);rw[jt (by decide)];refine A2 (Tuple_ (thn (ha _ jb s σ H _ I h) λus s1 ⟨vs,H1,I1,r1,q1⟩=>?_));obtain⟨v,w,e1,q1⟩:=q1;subst e1
 obtain⟨u1,u2,rfl,rv,rw'⟩:∃u1 u2,us=[u1,u2]/\RelV v u1/\RelV w u2:=by
  cases r1 with
  | cons p q =>
   cases q with
   | cons p' q' =>
    cases q';exact⟨_,_,rfl,p,p'⟩
 refine T9 ?_ (by show 2<=C2;decide);have I2:Inv X jb σ H1 { s1 with heap:=s1.heap.push { cls:=.type "tuple",data:=.seq [u1,u2].toArray } }:=I1.kept (t':=s1.toks) λb o e=>C7 _ e;rw[hw];refine A2 (B0 ?_);show A7 (A8 X.prog X.w) X.A (do rule "assign.swapped-stores";let items ← unpackItems (.ref s1.heap.objs.size) 2 none;assignInOrder [λv=>bindName X.env y v,λv=>bindName X.env x v] items.reverse;pure Flow.next) _ _ _;refine A2 (b8 (A2 (unpackItems_tuple (items:=#[u1,u2]) (I.ok.hd hc) (IsTup.new s1.heap _) λh' hx'=>?_)));have I3:=I2.kept (h':=h') (t':=s1.toks) λb o e=>hx' b o (E3 (D1 e)) e;show A7 _ _ (assignInOrder [λv=>bindName X.env y v,λv=>bindName X.env x v] [u2,u1]>>=λ_=>pure Flow.next) _ _ _;refine A2 (assignInOrder_cons (wpAny_bindName (EF I3 hN hj (.inl hy) rw' (λs2 I4=>?_) (.inr hy))));refine assignInOrder_cons (wpAny_bindName (EF I4 hN hi (.inl hx) rv (λs3 I5=>assignInOrder_nil (B0 ?_)) (.inr hx)));rw[List.set_comm _ _ (Ne.symm hij)] at I5;exact⟨_,H1,I5,q1⟩
end
section
variable {X:Cx}{pos:Pos}
def tWhile (c:TT)(tb:TS):TS:=λD σ H=>∃W:Nat->St->Hp->Prop,(∃m,W m σ H)/\∀m σ H,W m σ H->
 c σ H λb H1=>if b=true then ∃N:St->Hp->Prop,(∀σ' H',N σ' H'->∃m',m'<m/\W m' σ' H')/\tb { D with nx:=N,ct:=N,bk:=D.nx } σ H1 else D.nx σ H1
theorem Ot (hp:PassesOwn (A8 X.prog X.w) X.A X.env X.xe)(hc:PT X c tc)(hb:PSs X body tb):PS X (.While c body [] pos) (tWhile tc tb):=by
 intro jb s σ H D I h;obtain⟨W,⟨m0,w0⟩,turn⟩:=h;refine wpAny_While (codeAny_whileLoop (λn s'=>∃σ' H',Inv X jb σ' H' s'/\W n σ' H') ?_ m0 ⟨σ,H,I,w0⟩);rintro n s1 ⟨σ1,H1,I1,w1⟩;refine Ah hp (thn (hc jb s1 σ1 H1 _ I1 (turn n σ1 H1 w1)) λb s2 ⟨H2,I2,q2⟩=>?_);cases b with
 | true =>
  obtain⟨N,hN,q2⟩:=q2;rw[jr rfl];refine Ah hp (thn (hb jb s2 σ1 H2 _ I2 q2) λf s3 q3=>?_);cases f with
  | next =>
   obtain⟨σ3,H3,I3,n3⟩:=q3;obtain⟨m',hm,w3⟩:=hN σ3 H3 n3;exact⟨m',hm,σ3,H3,I3,w3⟩
  | cont =>
   obtain⟨σ3,H3,I3,n3⟩:=q3;obtain⟨m',hm,w3⟩:=hN σ3 H3 n3;exact⟨m',hm,σ3,H3,I3,w3⟩
  |brk=>exact q3
  |ret v=>exact q3
 | false =>
  rw[jt O2];exact DZ ⟨σ1,H2,I2,q2⟩
end
structure It where
 go:Nat->Hp->Prop
 yld:Nat->Hp->V->Hp->Prop
 stop:Nat->Hp->Prop
def FpOk (X:Cx)(jb:List (A0×Obj))(H:Hp)(b:A0):Prop:=
 H b=none/\b≠X.env.locals/\b∉X.fs/\(b∈X.ex\/X.s₀.heap.objs.size<=b)/\(∀x c,X.env.cells.lookup x=some c->c≠b)/\∀p∈X.pn++jb,p.1≠b
theorem Inv.fpOk (I:Inv X jb σ H s)(hb:s.heap.objs.size<=b)(hn:H' b=none):FpOk X jb H' b:=by
 refine⟨hn,p5 (L3 I.lt hb),I.nofs hb,.inr (N6 I.sz hb),λx c e z=>?_,λp hp z=>?_⟩
 ·obtain⟨v,q⟩:=I.cell x c e;exact absurd (L3 q.lt (by rw[z];exact hb)) (Y8 _)
 ·exact absurd (L3 (D1 (I.pin p hp).1) (by rw[z];exact hb)) (Y8 _)
structure Turn (P:D2)(w:C9)(K:A9)(tg:Expr)(J:It)(fp:List A0)(it:A0)(tn:Nat->B7->Prop):Prop where
 mem:it∈fp
 obj:∀i h,tn i h->∀b∈fp,∃o,h.get? b=some o/\∀v,o.data≠.cell v
 keep:∀i h h',tn i h->(∀b∈fp,∀o,h.get? b=some o->h'.get? b=some o)->tn i h'
 item:∀(X:Cx),X.prog=P->X.w=w->X.K=K->X.calm=true->∀(i:Nat) (jb:List (A0×Obj)) (s:A6) (σ:St) (H:Hp) (E:A1->A6->Prop),Inv X jb σ H s->(∀b∈fp,FpOk X jb H b)->tn i s.heap->J.go i H->
   A7 (A8 P w) X.A (pyNext (.ref it)) (λr s1=>∃u,r=some u/\
     A7 (A8 P w) X.A (v5 tg (.ref it) u) (λ_ s2=>∃x H',Inv X jb σ H' s2/\RelV x u/\J.yld i H x H'/\tn (i+1) s2.heap/\∀b∈fp,H' b=none) E s1) E s
 done:∀(X:Cx),X.prog=P->X.w=w->X.K=K->X.calm=true->∀(i:Nat) (jb:List (A0×Obj)) (s:A6) (σ:St) (H:Hp) (E:A1->A6->Prop),Inv X jb σ H s->(∀b∈fp,FpOk X jb H b)->tn i s.heap->J.stop i H->
   A7 (A8 P w) X.A (pyNext (.ref it)) (λr s1=>r=none/\Inv X jb σ H s1) E s
 self:∀(A:D8) (i:Nat) (s:A6) (Q:A1->A6->Prop) (E:A1->A6->Prop),tn i s.heap->Q (.ref it) s->A7 (A8 P w) A (pyIter (.ref it)) Q E s
abbrev TI:=St->Hp->(It->Hp->Prop)->Prop
def PIE (X:Cx)(jb:List (A0×Obj))(σ:St)(tg:Expr)(R:It->Hp->Prop)(itv:A1)(s2:A6):Prop:=
 ∃(it:A0) (fp:List A0) (tn:Nat->B7->Prop) (J:It) (H':Hp),itv=.ref it/\Inv X jb σ H' s2/\Turn X.prog X.w X.K tg J fp it tn/\tn 0 s2.heap/\(∀b∈fp,FpOk X jb H' b)/\R J H'
def PI (X:Cx)(tg iter:Expr)(wi:TI):Prop:=
 ∀ (jb : List (A0 × Obj)) (s : A6) (σ : St) (H : Hp) (R : It -> Hp -> Prop), Inv X jb σ H s -> wi σ H R ->
   A7 (A8 X.prog X.w) X.A (eval iter X.env) (λv s1=>A7 (A8 X.prog X.w) X.A (pyIter v) (PIE X jb σ tg R) X.xe s1) X.xe s
theorem CQ (ho:s.heap.get? it=some o)(hc:o.cls=.type n)(hd:o.data=.fields vs)
   (hn:["enumerate","zip","dict_itemiterator","dict_reverseitemiterator","odict_iterator","itertools.zip_longest","itertools.pairwise"].contains n=false) (hQ:Q () s):A7 M A (v5 tg (.ref it) u) Q E s:=by
 unfold v5
 cases tg <;> first
   |exact B0 hQ
   |(cases u <;> first
       |exact B0 hQ
       | (refine A2 (wpAny_load ho ?_)
          rw[hc,hd];show A7 M A (if(["enumerate","zip","dict_itemiterator","dict_reverseitemiterator","odict_iterator","itertools.zip_longest","itertools.pairwise"].contains n&&vs[0]? == some (rawInt _))=true then _ else _) Q E s;rw[jt (by intro h;rw[hn,Bool.false_and] at h;cases h)]
          exact B0 hQ))
def Itl (K:A9)(a:A0):It:=
 ⟨λi H=>∃xs x,SqL K H a xs/\xs[i]?=some x,λi H x H'=>H'=H/\∀xs,SqL K H a xs->xs[i]?=some x,λi H=>∃xs,SqL K H a xs/\xs.length<=i⟩
def Itt (K:A9)(a:A0):It:=
 ⟨λi H=>∃xs x,SqT K H a xs/\xs[i]?=some x,λi H x H'=>H'=H/\∀xs,SqT K H a xs->xs[i]?=some x,λi H=>∃xs,SqT K H a xs/\xs.length<=i⟩
def Itr (lo:Int)(n:Nat):It:=⟨λi _=>i<n,λi H x H'=>H'=H/\x=.int (lo+i),λi _=>n<=i⟩
theorem Ou {K:A9}(a it:A0):Turn P w K tg (Itl K a) [it] it (λi h=>h.IsListIter it a i) where
 mem:=by simp
 obj:=λi h st b hb=>by
  have e:b=it:=by simpa using hb
  subst e;obtain⟨o,e,c,d⟩:=st;exact⟨o,e,λv z=>by rw[d] at z;cases z⟩
 keep:=λi h h' st k=>st.at λo e=>k it (by simp) o e
 item:=by
  intro X hP hw hK hc i jb s σ H E I hf st hg;subst hP hw hK;obtain⟨xs,x,hq,hx⟩:=hg;obtain⟨jf,rv,p,hz⟩:=I.list hq;obtain⟨u,hu,ru⟩:=rv.get hx;obtain⟨f0,f1,f2,f3,f4,f5⟩:=hf it (by simp);refine wpAny_pyNext_list_item st p.isList (x:=u) (by simpa using hu) λh' st' sb=>?_;have I1:Inv X jb σ H { s with heap:=h' }:=I.turned (t':=s.toks) (λb o hb e=>(sb.2 b hb).trans e) f0 f1 f3 f4 f5;obtain⟨o,e,c,d⟩:=id st';exact⟨u,rfl,CQ (s:={ s with heap:=h' }) e c d (by decide) ⟨x,H,I1,ru,⟨rfl,λys hy=>by rw[I.list_inj hy hq];exact hx⟩,st',λb hb=>(hf b hb).1⟩⟩
 done:=by
  intro X hP hw hK hc i jb s σ H E I hf st hg;subst hP hw hK;obtain⟨xs,hq,hx⟩:=hg;obtain⟨jf,rv,p,hz⟩:=I.list hq;obtain⟨f0,f1,f2,f3,f4,f5⟩:=hf it (by simp);have hl:=rv.length;exact wpAny_pyNext_list_end (I.ok.hd hc) st p.isList (by simp;omega) λh' eb=>⟨rfl,I.turned (t':=s.toks) (λb o hb e=>eb b o hb e) f0 f1 f3 f4 f5⟩
 self:=λ_ _ _ _ _ st h=>wpAny_pyIter_listiter st h
theorem Ov {K:A9}(a it:A0):Turn P w K tg (Itt K a) [it] it (λi h=>h.IsTupleIter it a i) where
 mem:=by simp
 obj:=λi h st b hb=>by
  have e:b=it:=by simpa using hb
  subst e;obtain⟨o,e,c,d⟩:=st;exact⟨o,e,λv z=>by rw[d] at z;cases z⟩
 keep:=λi h h' st k=>st.at λo e=>k it (by simp) o e
 item:=by
  intro X hP hw hK hc i jb s σ H E I hf st hg;subst hP hw hK;obtain⟨xs,x,hq,hx⟩:=hg;obtain⟨jf,rv,p,hz⟩:=I.tuple hq;obtain⟨u,hu,ru⟩:=rv.get hx;obtain⟨f0,f1,f2,f3,f4,f5⟩:=hf it (by simp);refine wpAny_pyNext_tuple_item st (show s.heap.IsTuple a jf.toArray from p) (x:=u) (by simpa using hu) λh' st' sb=>?_;have I1:Inv X jb σ H { s with heap:=h' }:=I.turned (t':=s.toks) (λb o hb e=>(sb.2 b hb).trans e) f0 f1 f3 f4 f5;obtain⟨o,e,c,d⟩:=id st';exact⟨u,rfl,CQ (s:={ s with heap:=h' }) e c d (by decide) ⟨x,H,I1,ru,⟨rfl,λys hy=>by rw[I.tuple_inj hy hq];exact hx⟩,st',λb hb=>(hf b hb).1⟩⟩
 done:=by
  intro X hP hw hK hc i jb s σ H E I hf st hg;subst hP hw hK;obtain⟨xs,hq,hx⟩:=hg;obtain⟨jf,rv,p,hz⟩:=I.tuple hq;obtain⟨f0,f1,f2,f3,f4,f5⟩:=hf it (by simp);have hl:=rv.length;exact wpAny_pyNext_tuple_end (I.ok.hd hc) st (show s.heap.IsTuple a jf.toArray from p) (by simp;omega) λh' eb=>⟨rfl,I.turned (t':=s.toks) (λb o hb e=>eb b o hb e) f0 f1 f3 f4 f5⟩
 self:=λ_ _ _ _ _ st h=>wpAny_pyIter_tupleiter st h
theorem Ow {K:A9}(it:A0)(lo:Int)(n:Nat):Turn P w K tg (Itr lo n) [it] it (λi h=>IsRangeIter h it (lo+(i:Nat)*1) ((n:Int)-(i:Nat)) 1) where
 mem:=by simp
 obj:=fun i h st b hb=>by
  have e:b=it:=by simpa using hb
  subst e
  exact⟨_,st,λv z=>by
   have z':BB _=Data.cell v:=z
   cases z'⟩
 keep:=λi h h' st k=>k it (by simp) _ st
 item:=by
  intro X hP hw hK hc i jb s σ H E I hf st hg;subst hP hw hK;obtain⟨f0,f1,f2,f3,f4,f5⟩:=hf it (by simp);have W:=Walks.range (prog:=X.prog) (w:=X.w) (I.ok.hd hc) it lo 1 n;refine W.item i s _ _ hg st λv h' tk hv st' kk=>?_;obtain⟨t,rfl⟩:=hv;have I1:Inv X jb σ H { s with heap:=h',toks:=tk }:=I.turned (λb o hb e=>kk b o (by simpa using hb) e) f0 f1 f3 f4 f5;refine⟨_,rfl,CQ (s:={ s with heap:=h',toks:=tk }) (n:="range_iterator") st' rfl rfl (by decide) ⟨.int (lo+i),H,I1,⟨t,?_⟩,⟨rfl,rfl⟩,st',λb hb=>(hf b hb).1⟩⟩;rw[Int.mul_one]
 done:=by
  intro X hP hw hK hc i jb s σ H E I hf st hg;subst hP hw hK;obtain⟨f0,f1,f2,f3,f4,f5⟩:=hf it (by simp);exact wpAny_pyNext_range_end (I.ok.hd hc) st (by have:n<=i:=hg;omega) λh' eb=>⟨rfl,I.turned (t':=s.toks) (λb o hb e=>eb b o hb e) f0 f1 f3 f4 f5⟩
 self:=λ_ _ _ _ _ st h=>Gd st h
section
variable {X:Cx}{tg:Expr}
def iList (K:A9)(tl:TE):TI:=λσ H R=>tl σ H λx H1=>∃a,x=.ref a/\(∃xs,SqL K H1 a xs)/\R (Itl K a) H1
def iTup (K:A9)(tl:TE):TI:=λσ H R=>tl σ H λx H1=>∃a,x=.ref a/\(∃xs,SqT K H1 a xs)/\R (Itt K a) H1
theorem Ox (hl:PE X l tl):PI X tg l (iList X.K tl):=by
 intro jb s σ H R I h;refine thn (hl jb s σ H _ I h) λv s1 ⟨x,H1,I1,r1,q1⟩=>?_;obtain⟨a,e,⟨xs,hq⟩,q⟩:=q1;subst e;cases r1;obtain⟨jf,rv,p,hz⟩:=I1.list hq;refine Ba p.isList ?_;refine⟨s1.heap.objs.size,[s1.heap.objs.size],_,_,H1,rfl,I1.kept (t':=s1.toks) λb o e=>C7 _ e,Ou a _,⟨_,G7 _ rfl,rfl,rfl⟩,λb hb=>?_,q⟩;have e:b=s1.heap.objs.size:=by simpa using hb
 subst e;exact I1.fpOk (B8 _) (I1.hok.fresh (B8 _))
theorem pi_tup (hl:PE X l tl):PI X tg l (iTup X.K tl):=by
 intro jb s σ H R I h;refine thn (hl jb s σ H _ I h) λv s1 ⟨x,H1,I1,r1,q1⟩=>?_;obtain⟨a,e,⟨xs,hq⟩,q⟩:=q1;subst e;cases r1;obtain⟨jf,rv,p,hz⟩:=I1.tuple hq;refine wpAny_pyIter_tuple (show s1.heap.IsTuple a jf.toArray from p) ?_;refine⟨s1.heap.objs.size,[s1.heap.objs.size],_,_,H1,rfl,I1.kept (t':=s1.toks) λb o e=>C7 _ e,Ov a _,⟨_,G7 _ rfl,rfl,rfl⟩,λb hb=>?_,q⟩;have e:b=s1.heap.objs.size:=by simpa using hb
 subst e;exact I1.fpOk (B8 _) (I1.hok.fresh (B8 _))
theorem Oy {lo hi:Int}(I:Inv X jb σ H s)(h1:-(2 ^ 62)<=lo)(h2:lo<2 ^ 62)(h3:-(2 ^ 62)<=hi)(h4:hi<2 ^ 62)
   (q:R (Itr lo (hi-lo).toNat) H):A7 (A8 X.prog X.w) X.A (pyIter (.ref s.heap.objs.size)) (PIE X jb σ tg R) E { s with heap:=s.heap.push { cls:=.type "range",data:=.fields #[.int lo t,.int hi u,.int 1 v] },toks:=tk }:=by
 refine wpAny_pyIter_range (IsRange.new ..) (small_one h1 h2 h3 h4) ?_;have I1:Inv X jb σ H { s with heap:=s.heap.push { cls:=.type "range",data:=.fields #[.int lo t,.int hi u,.int 1 v] },toks:=tk }:=I.kept λb o e=>C7 _ e
 refine⟨(s.heap.push { cls:=.type "range",data:=.fields #[.int lo t,.int hi u,.int 1 v] }).objs.size,[(s.heap.push { cls:=.type "range",data:=.fields #[.int lo t,.int hi u,.int 1 v] }).objs.size],_,_,H,rfl,
  I1.kept (t':=tk) λb o e=>C7 _ e,Ow _ lo (hi-lo).toNat,?_,λb hb=>?_,q⟩
 ·have e1:lo+((0:Nat):Int)*1=lo:=by simp
  have e2:(((hi-lo).toNat:Nat):Int)-((0:Nat):Int)=Gp lo hi 1:=by rw[rangeSize_one];split <;> omega
  show IsRangeIter _ _ (lo+((0:Nat):Int)*1) ((((hi-lo).toNat:Nat):Int)-((0:Nat):Int)) 1;rw[e1,e2];exact G7 _ rfl
 ·have e:b=(s.heap.push { cls:=.type "range",data:=.fields #[.int lo t,.int hi u,.int 1 v] }).objs.size:=by simpa using hb
  subst e;exact I1.fpOk (B8 _) (I1.hok.fresh (B8 _))
def iRng1 (ta:TA):TI:=λσ H R=>ta σ H λvs H1=>∃j:Int,vs=[.int j]/\-(2 ^ 62)<=j/\j<2 ^ 62/\R (Itr 0 j.toNat) H1
theorem Oz (hg:Gl X "range")(hm:X.mg "range"=none)(ha:PA X [a] ta)(hs:E6 [a] X.env=[(false,eval a X.env)]:=by rfl):PI X tg (.Call (.Name "range" p) [a] [] pos) (iRng1 ta):=by
 intro jb s σ H R I h;refine Call_ (x9 I hg hm boot_range (CH (thn (ha pos jb s σ H _ I h) λus s1 ⟨vs,H1,I1,r1,q1⟩=>?_) hs rfl));obtain⟨j,e,q1,q2,q⟩:=q1;subst e;cases r1 with
 | cons r rr =>
  cases rr;obtain⟨t,rfl⟩:=r;exact call_range_1 (Oy I1 (by omega) (by omega) q1 q2 (by simpa using q))
def tFor (wi:TI)(g:TG)(tb:TS):TS:=λD σ H=>wi σ H λJ H1=>∃W:Nat->Nat->St->Hp->Prop,(∃m,W 0 m σ H1)/\∀i m σ H,W i m σ H->
 (J.stop i H/\D.nx σ H)\/(J.go i H/\∃N:St->Hp->Prop,(∀σ' H',N σ' H'->∃m',m'<m/\W (i+1) m' σ' H')/\∀x H',J.yld i H x H'->g x σ H' λσ2 H2=>tb { D with nx:=N,ct:=N,bk:=D.nx } σ2 H2)
def BD (fp:List A0)(h:B7):List (A0×Obj):=fp.filterMap λb=>(h.get? b).map λo=>(b,o)
theorem GC (hb:b∈fp)(e:h.get? b=some o):(b,o)∈BD fp h:=List.mem_filterMap.mpr ⟨b,hb,by rw[e];rfl⟩
theorem OA (hp:p∈BD fp h):p.1∈fp/\h.get? p.1=some p.2:=by
 obtain⟨b,hb,e⟩:=List.mem_filterMap.mp hp;cases q:h.get? b with
 |none=>rw[q] at e;cases e
 | some o =>
  rw[q] at e;have e':(b,o)=p:=P0 e;subst e';exact⟨hb,q⟩
theorem Inv.pinned (I:Inv X jb σ H s)(hf:∀b∈fp,FpOk X jb H b)(ho:∀b∈fp,∃o,s.heap.get? b=some o/\∀v,o.data≠.cell v):Inv X (jb++BD fp s.heap) σ H s:=
 I.pins_of fun p hp=>(K9.mp hp).elim (fun z=>I.pin p (O9 _ z)) fun z=>by
  obtain⟨hb,e⟩:=OA z;obtain⟨f0,f1,f2,_⟩:=hf p.1 hb;obtain⟨o,e',d⟩:=ho p.1 hb;rw[e] at e';cases e';exact⟨e,f0,f1,f2,d⟩
theorem Inv.unpinned (I:Inv X (jb++pl) σ H s):Inv X jb σ H s:=I.pins_of λp hp=>I.pin p (O9 _ (w8 _ hp))
theorem ps_for (hp:PassesOwn (A8 X.prog X.w) X.A X.env X.xe)(hc:X.calm=true)(hi:PI X tg iter wi)(hg:PG X tg g)(hb:PSs X body tb)
   (hs:∀x,U1 iter X.env x=pure x:=by intro _;rfl):PS X (.For tg iter body [] pos) (tFor wi g tb):=by
 intro jb s σ H D I h;refine wpAny_For (thn (hi jb s σ H _ I h) λv s1 h1=>thn h1 λitv s2 h2=>?_) hs;obtain⟨it,fp,tn,J,H2,e,I2,T,st2,f2,W,⟨m0,w0⟩,turn⟩:=h2;subst e
 -- what stays true of the iterator's objects through the loop
 have stat:∀{H':Hp},(∀b∈fp,H' b=none)->∀b∈fp,FpOk X jb H' b:=λhn b hb=>⟨hn b hb,(f2 b hb).2⟩;refine codeAny_forLoop_any (λn s'=>∃i σ' H',Inv X jb σ' H' s'/\tn i s'.heap/\(∀b∈fp,H' b=none)/\W i n σ' H') ?_ m0 ⟨0,σ,H2,I2,st2,λb hb=>(f2 b hb).1,w0⟩;rintro n s3 ⟨i,σ3,H3,I3,st3,fr3,w3⟩;rcases turn i n σ3 H3 w3 with⟨stop,qn⟩|⟨go,N,hN,step⟩
 ·refine Ah hp (thn (T.done X rfl rfl rfl hc i jb s3 σ3 H3 X.xe I3 (stat fr3) st3 stop) λr s4 ⟨hr,I4⟩=>?_);subst hr;exact DZ ⟨σ3,H3,I4,qn⟩
 ·refine Ah hp (thn (T.item X rfl rfl rfl hc i jb s3 σ3 H3 X.xe I3 (stat fr3) st3 go) λr s4 ⟨u,hr,h4⟩=>?_);subst hr;refine Ah hp (thn h4 λ_ s5 ⟨x,H5,I5,r5,y5,st5,fr5⟩=>?_);have I5':=I5.pinned (stat fr5) (T.obj _ _ st5);refine Ah hp (thn (hg _ s5 σ3 H5 x u _ I5' r5 (step x H5 y5)) λ_ s6 ⟨σ6,H6,I6,q6⟩=>?_);refine Ah hp (thn (hb _ s6 σ6 H6 _ I6 q6) λf s7 q7=>?_)
  have again:∀{σ7:St} {H7:Hp},Inv X (jb++BD fp s5.heap) σ7 H7 s7->N σ7 H7->∃m,m<n/\∃i σ' H',Inv X jb σ' H' s7/\tn i s7.heap/\(∀b∈fp,H' b=none)/\W i m σ' H':=λ{σ7 H7} I7 n7=>by
   obtain⟨m',hm,w7⟩:=hN σ7 H7 n7;refine⟨m',hm,i+1,σ7,H7,I7.unpinned,T.keep _ _ _ st5 λb hb o e=>(I7.pin (b,o) (O9 _ (O9 _ (GC hb e)))).1,λb hb=>?_,w7⟩;obtain⟨o,e,d⟩:=T.obj _ _ st5 b hb;exact(I7.pin (b,o) (O9 _ (O9 _ (GC hb e)))).2.1
  cases f with
  |next=>obtain⟨σ7,H7,I7,n7⟩:=q7;exact again I7 n7
  |cont=>obtain⟨σ7,H7,I7,n7⟩:=q7;exact again I7 n7
  |brk=>obtain⟨σ7,H7,I7,q7⟩:=q7;exact⟨σ7,H7,I7.unpinned,q7⟩
  |ret v=>obtain⟨x7,σ7,H7,I7,r7,q7⟩:=q7;exact⟨x7,σ7,H7,I7.unpinned,r7,q7⟩
end
abbrev R2:=V->V->Hp->VK->Prop
def OpR (X:Cx)(f:A1->A1->Sem A1)(r:R2):Prop:=
 ∀ (jb : List (A0 × Obj)) (s : A6) (σ : St) (H : Hp) (x y : V) (v u : A1) (Q : VK), Inv X jb σ H s -> RelV x v -> RelV y u -> r x y H Q ->
   A7 (A8 X.prog X.w) X.A (f v u) (EP X jb σ Q) X.xe s
def UnR (X:Cx)(f:A1->Sem A1)(r:V->Hp->VK->Prop):Prop:=
 ∀ (jb : List (A0 × Obj)) (s : A6) (σ : St) (H : Hp) (x : V) (v : A1) (Q : VK), Inv X jb σ H s -> RelV x v -> r x H Q ->
   A7 (A8 X.prog X.w) X.A (f v) (EP X jb σ Q) X.xe s
def M4 (X:Cx)(f:A1)(r:List V->Hp->VK->Prop):Prop:=
 ∀ (jb : List (A0 × Obj)) (s : A6) (σ : St) (H : Hp) (xs : List V) (us : List A1) (Q : VK), Inv X jb σ H s -> Vals xs us -> r xs H Q ->
   A7 (A8 X.prog X.w) X.A (call f us) (EP X jb σ Q) X.xe s
def TruR (X:Cx)(r:V->Hp->(Bool->Hp->Prop)->Prop):Prop:=
 ∀ (jb : List (A0 × Obj)) (s : A6) (σ : St) (H : Hp) (x : V) (v : A1) (Q : Bool -> Hp -> Prop), Inv X jb σ H s -> RelV x v -> r x H Q ->
   A7 (A8 X.prog X.w) X.A (truthy v) (TP X jb σ Q) X.xe s
def tOp (r:R2)(ta tb:TE):TE:=λσ H Q=>ta σ H λx H1=>tb σ H1 λy H2=>r x y H2 Q
def tUn (r:V->Hp->VK->Prop)(ta:TE):TE:=λσ H Q=>ta σ H λx H1=>r x H1 Q
def rI (C:Int->Int->Prop)(g:Int->Int->V):R2:=λx y H Q=>∃i j,x=.int i/\y=.int j/\C i j/\Q (g i j) H
def rI0 (g:Int->Int->V):R2:=λx y H Q=>∃i j,x=.int i/\y=.int j/\Q (g i j) H
def rU (g:Int->V):V->Hp->VK->Prop:=λx H Q=>∃i,x=.int i/\Q (g i) H
section
variable {X:Cx}{a b c:Expr}{ta tb tc:TE}{pos:Pos}
theorem binT (ha:PE X a ta)(hb:PE X b tb){R:V->V->Hp->Prop}(I:Inv X jb σ H s)
   (h:ta σ H λx H1=>tb σ H1 λy H2=>R x y H2) {f:A1->A1->Sem A1}
   (hf:∀v u s2 x y H2,Inv X jb σ H2 s2->RelV x v->RelV y u->R x y H2->A7 (A8 X.prog X.w) X.A (f v u) Q X.xe s2) :
   A7 (A8 X.prog X.w) X.A (eval a X.env) (λv s₁=>A7 (A8 X.prog X.w) X.A (eval b X.env) (λu s₂=>A7 (A8 X.prog X.w) X.A (f v u) Q X.xe s₂) X.xe s₁) X.xe s:=by
 refine thn (ha jb s σ H _ I h) λv s1 ⟨x,H1,I1,r1,q1⟩=>?_;refine thn (hb jb s1 σ H1 _ I1 q1) λu s2 ⟨y,H2,I2,r2,q2⟩=>?_;exact hf v u s2 x y H2 I2 r1 r2 q2
theorem N7 (ho:OpR X (U3 op) r)(ha:PE X a ta)(hb:PE X b tb):PE X (.BinOp a op b pos) (tOp r ta tb):=by
 intro jb s σ H Q I h;exact wpAny_BinOp (binT ha hb I h λv u s2 x y H2 I2 rx ry q=>ho jb s2 σ H2 x y v u Q I2 rx ry q)
theorem pe_un (ho:UnR X (unaryOp op) r)(ha:PE X a ta):PE X (.UnaryOp op a pos) (tUn r ta):=by
 intro jb s σ H Q I h;exact UnaryOp_ (thn (ha jb s σ H _ I h) λv s1 ⟨x,H1,I1,r1,q1⟩=>ho jb s1 σ H1 x v Q I1 r1 q1)
theorem opI {g:Int->Int->Int}
   (rule:∀(i j:Int) (t u:Tok) (s:A6) (Q:A1->A6->Prop) (E:A1->A6->Prop),C i j->Q (.int (g i j) s.toks) { s with toks:=s.toks+1 }->A7 (A8 X.prog X.w) X.A (f (.int i t) (.int j u)) Q E s) :
   OpR X f (rI C λi j=>.int (g i j)):=by
 intro jb s σ H x y v u Q I rx ry h;obtain⟨i,j,rfl,rfl,hc,q⟩:=h;obtain⟨t,rfl⟩:=rx;obtain⟨t',rfl⟩:=ry;exact rule i j t t' s _ _ hc ⟨.int (g i j),H,I.tok _,⟨_,rfl⟩,q⟩
theorem opI0 {g:Int->Int->Int}
   (rule:∀(i j:Int) (t u:Tok) (s:A6) (Q:A1->A6->Prop) (E:A1->A6->Prop),Q (.int (g i j) s.toks) { s with toks:=s.toks+1 }->A7 (A8 X.prog X.w) X.A (f (.int i t) (.int j u)) Q E s) :
   OpR X f (rI0 λi j=>.int (g i j)):=by
 intro jb s σ H x y v u Q I rx ry h;obtain⟨i,j,rfl,rfl,q⟩:=h;obtain⟨t,rfl⟩:=rx;obtain⟨t',rfl⟩:=ry;exact rule i j t t' s _ _ ⟨.int (g i j),H,I.tok _,⟨_,rfl⟩,q⟩
theorem opB0 {g:Int->Int->Bool}
   (rule:∀(i j:Int) (t u:Tok) (s:A6) (Q:A1->A6->Prop) (E:A1->A6->Prop),Q (.bool (g i j)) s->A7 (A8 X.prog X.w) X.A (f (.int i t) (.int j u)) Q E s) :
   OpR X f (rI0 λi j=>.bl (g i j)):=by
 intro jb s σ H x y v u Q I rx ry h;obtain⟨i,j,rfl,rfl,q⟩:=h;obtain⟨t,rfl⟩:=rx;obtain⟨t',rfl⟩:=ry;exact rule i j t t' s _ _ ⟨.bl (g i j),H,I,rfl,q⟩
def CDiv (i j:Int):Prop:=0<j/\j<1073741824
def CPow (i j:Int):Prop:=0<=j/\j<=1000000/\i.natAbs<2 ^ 64
def CMul (i j:Int):Prop:=(-(2 ^ 64)<i/\i<2 ^ 64)\/(-(2 ^ 64)<j/\j<2 ^ 64)
theorem CMul.ok (h:CMul i j):IntMulOk i j:=by
 rcases h with⟨h1,h2⟩|⟨h1,h2⟩
 ·exact .of_left (intBits_le_64 h1 h2)
 ·exact .of_right (intBits_le_64 h1 h2)
theorem BE:OpR X (U3 .Add) (rI0 λi j=>.int (i+j)):=opI0 λ_ _ _ _ _ _ _ q=>add_int q
theorem op_sub:OpR X (U3 .Sub) (rI0 λi j=>.int (i-j)):=opI0 λ_ _ _ _ _ _ _ q=>sub_int q
theorem CS:OpR X (U3 .Mult) (rI CMul λi j=>.int (i*j)):=opI λ_ _ _ _ _ _ _ hc q=>mul_int q hc.ok
theorem GE:OpR X (U3 .FloorDiv) (rI CDiv λi j=>.int (i/j)):=opI λi j _ _ _ _ _ hc q=>by
 have h1:(0:Int)<j:=hc.1;have h2:j<1073741824:=hc.2;exact floordiv_int (by omega) (by rw[Int.fdiv_eq_ediv_of_nonneg i (by omega)];exact q) (.inl (PyProof.noPylong_small (by omega)))
theorem Az:OpR X (U3 .Mod) (rI (λ_ j=>0<j) λi j=>.int (i%j)):=opI λi j _ _ _ _ _ hc q=>by
 have h1:(0:Int)<j:=hc;exact mod_int' (by omega) (by rw[Int.fmod_eq_emod_of_nonneg i (by omega)];exact q)
theorem Jz:OpR X (U3 .Pow) (rI CPow λi j=>.int (i ^ j.toNat)):=opI λ_ _ _ _ _ _ _ hc q=>pow_int_small hc.1 hc.2.1 hc.2.2 q
theorem unI {g:Int->Int}
   (rule:∀(i:Int) (t:Tok) (s:A6) (Q:A1->A6->Prop) (E:A1->A6->Prop),Q (.int (g i) s.toks) { s with toks:=s.toks+1 }->A7 (A8 X.prog X.w) X.A (f (.int i t)) Q E s) :
   UnR X f (rU λi=>.int (g i)):=by
 intro jb s σ H x v Q I rx h;obtain⟨i,rfl,q⟩:=h;obtain⟨t,rfl⟩:=rx;exact rule i t s _ _ ⟨.int (g i),H,I.tok _,⟨_,rfl⟩,q⟩
theorem un_neg:UnR X (unaryOp .USub) (rU λi=>.int (-i)):=unI λ_ _ _ _ _ q=>neg_int q
end
def scal:V->V->Bool
 |.non,.non=>true|.non,.int _=>true|.int _,.non=>true|.non,.bl _=>true|.bl _,.non=>true|.non,.str _=>true|.str _,.non=>true
 |.int _,.int _=>true|.bl _,.bl _=>true|.str _,.str _=>true|.byt _,.byt _=>true
 |.int _,.str _=>true|.str _,.int _=>true|.bl _,.str _=>true|.str _,.bl _=>true
 |_,_=>false
def rEq:R2:=λx y H Q=>scal x y=true/\Q (.bl (decide (x=y))) H
theorem OB:decide (V.int i=V.int j)=(i == j):=by
 rw[d8];simp
theorem dec_bl:decide (V.bl i=V.bl j)=(i == j):=by
 rw[d8];simp
theorem OC:decide (V.str i=V.str j)=(i == j):=by
 rw[d8];simp
theorem OD:decide (V.byt i=V.byt j)=(i.toList == j.toList):=by
 rw[d8];cases i;cases j;simp
section
variable {X:Cx}{a b c:Expr}{ta tb tc:TE}{pos:Pos}
theorem Q1 (I:Inv X jb σ H s)(q:Q (.bl k) H)(e:k=k'):EP X jb σ Q (.bool k') s:=by
 subst e;exact⟨.bl k,H,I,rfl,q⟩
theorem op_eq:OpR X (P7 .Eq) rEq:=by
 intro jb s σ H x y v u Q I rx ry h;obtain⟨hs,q⟩:=h;cases x with
 | non =>
  cases rx;cases y with
  |non=>cases ry;exact PySem.EqNone.eq_none_none (Q1 I q (by simp))
  |bl j=>cases ry;exact PySem.EqNone.eq_none_bool (Q1 I q (by simp))
  |int j=>obtain⟨t',rfl⟩:=ry;exact PySem.EqNone.eq_none_int (Q1 I q (by simp))
  |str j=>obtain⟨t',rfl⟩:=ry;exact PySem.EqNone.eq_none_str (Q1 I q (by simp))
  |_=>exact absurd (show false=true from hs) O2
 | bl i =>
  cases rx;cases y with
  |non=>cases ry;exact PySem.EqNone.eq_bool_none (Q1 I q (by simp))
  |bl j=>cases ry;exact eq_bool (Q1 I q dec_bl)
  |str j=>obtain⟨t',rfl⟩:=ry;exact PySem.EqMixed.eq_bool_str (Q1 I q (by simp))
  |_=>exact absurd (show false=true from hs) O2
 | int i =>
  obtain⟨t,rfl⟩:=rx;cases y with
  |non=>cases ry;exact PySem.EqNone.eq_int_none (Q1 I q (by simp))
  |int j=>obtain⟨t',rfl⟩:=ry;exact eq_int (Q1 I q OB)
  |str j=>obtain⟨t',rfl⟩:=ry;exact PySem.EqMixed.eq_int_str (Q1 I q (by simp))
  |_=>exact absurd (show false=true from hs) O2
 | str i =>
  obtain⟨t,rfl⟩:=rx;cases y with
  |non=>cases ry;exact PySem.EqNone.eq_str_none (Q1 I q (by simp))
  |bl j=>cases ry;exact PySem.EqMixed.eq_str_bool (Q1 I q (by simp))
  |int j=>obtain⟨t',rfl⟩:=ry;exact PySem.EqMixed.eq_str_int (Q1 I q (by simp))
  |str j=>obtain⟨t',rfl⟩:=ry;exact eq_str (Q1 I q OC)
  |_=>exact absurd (show false=true from hs) O2
 | byt i =>
  obtain⟨t,rfl⟩:=rx;cases y with
  |byt j=>obtain⟨t',rfl⟩:=ry;exact PySem.W.eq_bytes (Q1 I q OD)
  |_=>exact absurd (show false=true from hs) O2
 |_=>cases y <;> exact absurd (show false=true from hs) O2
theorem op_lt:OpR X (P7 .Lt) (rI0 λi j=>.bl (decide (i<j))):=opB0 λ_ _ _ _ _ _ _ q=>lt_int q
theorem op_gt:OpR X (P7 .Gt) (rI0 λi j=>.bl (decide (j<i))):=opB0 λ_ _ _ _ _ _ _ q=>gt_int q
theorem op_ge:OpR X (P7 .GtE) (rI0 λi j=>.bl (decide (j<=i))):=opB0 λ_ _ _ _ _ _ _ q=>ge_int q
theorem OE:OpR X (P7 .Lt) (λx y H Q=>∃i j,x=.str i/\y=.str j/\Q (.bl (decide (i.cps.toList<j.cps.toList))) H):=by
 intro jb s σ H x y v u Q I rx ry h;obtain⟨i,j,rfl,rfl,q⟩:=h;obtain⟨t,rfl⟩:=rx;obtain⟨t',rfl⟩:=ry;exact lt_str (Q1 I q rfl)
theorem OF:OpR X (P7 .In) (λx y H Q=>∃i j,x=.str i/\y=.str j/\Q (.bl (!(Bt j i 0 j.length 1).isEmpty)) H):=by
 intro jb s σ H x y v u Q I rx ry h;obtain⟨i,j,rfl,rfl,q⟩:=h;obtain⟨t,rfl⟩:=rx;obtain⟨t',rfl⟩:=ry;exact in_str (Q1 I q rfl)
theorem op_isN:OpR X (P7 .Is) (λx y H Q=>y=.non/\Q (.bl (decide (x=.non))) H):=by
 intro jb s σ H x y v u Q I rx ry h;obtain⟨rfl,q⟩:=h;cases ry;refine is_none_gen (Q1 I q ?_)
 cases x <;> first
   |(cases rx;rfl)
   |(obtain⟨t,rfl⟩:=rx;rfl)
theorem OG:OpR X (P7 .IsNot) (λx y H Q=>y=.non/\Q (.bl (!decide (x=.non))) H):=by
 intro jb s σ H x y v u Q I rx ry h;obtain⟨rfl,q⟩:=h;cases ry;refine isnot_none_gen (Q1 I q ?_)
 cases x <;> first
   |(cases rx;rfl)
   |(obtain⟨t,rfl⟩:=rx;rfl)
theorem OpR.or (h:OpR X f r)(h':OpR X f r'):OpR X f (λx y H Q=>r x y H Q\/r' x y H Q):=by
 intro jb s σ H x y v u Q I rx ry q;rcases q with q|q
 ·exact h jb s σ H x y v u Q I rx ry q
 ·exact h' jb s σ H x y v u Q I rx ry q
theorem C6 (b:Expr)(h:op≠.In:=by decide)(h2:op≠.NotIn:=by decide):Ai op b=false:=by
 have e1:(op == CmpOp.In)=false:=by cases op <;> first|rfl|exact absurd rfl h
 have e2:(op == CmpOp.NotIn)=false:=by cases op <;> first|rfl|exact absurd rfl h2
 cases b <;> simp[Ai,e1,e2]
theorem JA (ho:OpR X (P7 op) r)(ha:PE X a ta)(hb:PE X b tb)(hm:Ai op b=false):PE X (.Compare a [op] [b] pos) (tOp r ta tb):=by
 intro jb s σ H Q I h;exact wpAny_Compare1 (binT ha hb I h λv u s2 x y H2 I2 rx ry q=>ho jb s2 σ H2 x y v u Q I2 rx ry q) hm
def tTest (t:TE):TT:=λσ H Q=>t σ H λx H'=>∃k,x=.bl k/\Q k H'
theorem CT (ho:OpR X (P7 op) r)(ha:PE X a ta)(hb:PE X b tb)(hm:Ai op b=false):PT X (.Compare a [op] [b] pos) (tTest (tOp r ta tb)):=by
 intro jb s σ H Q I h
 refine wpAny_isTrue_Compare1 (thn (ha jb s σ H _ I h) λv s1 ⟨x,H1,I1,r1,q1⟩=>thn (hb jb s1 σ H1 _ I1 q1) λu s2 ⟨y,H2,I2,r2,q2⟩=>
  thn (ho jb s2 σ H2 x y v u _ I2 r1 r2 q2) λc s3 ⟨z,H3,I3,r3,k,e,q3⟩=>?_) hm
 subst e;cases r3;exact Ag ⟨H3,I3,q3⟩
def JB (r r':R2)(ta tb tc:TE):TE:=λσ H Q=>ta σ H λx H1=>tb σ H1 λy H2=>r x y H2 λz H3=>∃k,z=.bl k/\
 (if k=true then tc σ H3 λw' H4=>r' y w' H4 Q else Q (.bl false) H3)
theorem OH (ho:OpR X (P7 op) r)(ho':OpR X (P7 op') r')(ha:PE X a ta)(hb:PE X b tb)(hc:PE X c tc)
   (hm:lastMarks [op,op'] [b,c]=false:=by with_unfolding_all rfl):PE X (.Compare a [op,op'] [b,c] pos) (JB r r' ta tb tc):=by
 intro jb s σ H Q I h
 refine Compare_chain (thn (ha jb s σ H _ I h) λv s1 ⟨x,H1,I1,r1,q1⟩=>chain_link (thn (hb jb s1 σ H1 _ I1 q1) λu s2 ⟨y,H2,I2,r2,q2⟩=>
  thn (ho jb s2 σ H2 x y v u _ I2 r1 r2 q2) λd s3 ⟨z,H3,I3,r3,k,e,q3⟩=>?_)) hm
 subst e;cases r3;refine Ag ?_;cases k with
 |false=>exact ite_ff ⟨.bl false,H3,I3,rfl,q3⟩
 |true=>exact ite_tt (chain_last (thn (hc jb s3 σ H3 _ I3 q3) λw' s4 ⟨z',H4,I4,r4,q4⟩=>ho' jb s4 σ H4 y z' u w' Q I4 r2 r4 q4))
def TruV (K:A9)(x:V)(H:Hp)(k:Bool):Prop:=
 match x with
 |.non=>k=false
 |.bl b=>k=b
 |.int i=>k=(i != 0)
 |.str y=>y.length<=C2/\k=((y.length:Int) != 0)
 |.byt y=>y.size<=C2/\k=((y.size:Int) != 0)
 |.ref p=>(∃xs,SqL K H p xs/\k=!xs.isEmpty)\/(∃xs,SqT K H p xs/\k=!xs.isEmpty)\/∃jg,H p=some (.dK jg)/\k=!jg.isEmpty
 |_=>False
theorem OI {κ:Type}{jg:List (κ×V)}{vs:List (κ×A1)}(r:KV jg vs):(!vs.isEmpty)=!jg.isEmpty:=by
 cases r <;> rfl
theorem JC (r:Vals xs jf):(!jf.toArray.isEmpty)=!xs.isEmpty:=by
 cases r <;> simp
theorem AA:(C2:Nat)<2 ^ 63:=by rw[L0];decide
theorem tru_ok:TruR X (λx H Q=>∃k,TruV X.K x H k/\Q k H):=by
 intro jb s σ H x v Q I rx h;obtain⟨k,e,q⟩:=h;have hl:=AA;have hs:C2=16777216:=L0;cases x with
 | non =>
  cases rx;have e':k=false:=e;subst e';exact truthy_none ⟨H,I,q⟩
 | bl b =>
  cases rx;have e':k=b:=e;subst e';exact Ag ⟨H,I,q⟩
 | int i =>
  obtain⟨t,rfl⟩:=rx;have e':k=(i != 0):=e;subst e';exact PySem.P.truthy_int ⟨H,I,q⟩
 | str y =>
  obtain⟨t,rfl⟩:=rx;obtain⟨hy,e'⟩:y.length<=C2/\k=((y.length:Int) != 0):=e;subst e';exact PySem.P.truthy_str (by omega) ⟨H,I.tok _,q⟩
 | byt y =>
  obtain⟨t,rfl⟩:=rx;obtain⟨hy,e'⟩:y.size<=C2/\k=((y.size:Int) != 0):=e;subst e';exact PySem.W.truthy_bytes (by omega) ⟨H,I.tok _,q⟩
 | ref p =>
  cases rx;have e':(∃xs,SqL X.K H p xs/\k=!xs.isEmpty)\/(∃xs,SqT X.K H p xs/\k=!xs.isEmpty)\/∃jg,H p=some (.dK jg)/\k=!jg.isEmpty:=e;rcases e' with⟨xs,hx,e'⟩|⟨xs,hx,e'⟩|⟨jg,hx,e'⟩
  ·subst e';obtain⟨jf,r,pl,hz⟩:=I.list hx;have hlen:=r.length;exact wpAny_truthy_list pl.isList (by simp only[F9];omega) ⟨H,I.tok _,by rw[JC r];exact q⟩
  ·subst e';obtain⟨jf,r,pl,hz⟩:=I.tuple hx;have hlen:=r.length;exact truthy_tuple pl (by simp only[F9];omega) ⟨H,I.tok _,by rw[JC r];exact q⟩
  ·subst e';obtain⟨hz,hS,vs,r,m⟩:jg.length<=C2/\(p == L9)=false/\∃vs,KV jg vs/\s.heap.DictOf (K2 X.prog X.w) p vs:=I.hok p _ hx;have hlen:jg.length=vs.length:=CM r;exact wpAny_truthy_dict hS m (by omega) ⟨H,I.tok _,by rw[OI r];exact q⟩
 |_=>exact(show False from e).elim
theorem OJ:OpR X (U3 .Add) (λx y H Q=>∃i j,x=.str i/\y=.str j/\i.length+j.length<=C2/\Q (.str (i++j)) H):=by
 intro jb s σ H x y v u Q I rx ry h;obtain⟨i,j,rfl,rfl,hz,q⟩:=h;obtain⟨t,rfl⟩:=rx;obtain⟨t',rfl⟩:=ry;exact add_str (λt' tk=>⟨.str (i++j),H,I.tok _,⟨_,rfl⟩,q⟩) hz
theorem AB (r:Vals [x] us):∃u,us=[u]/\RelV x u:=by
 cases r with
 |cons r1 r2=>cases r2;exact⟨_,rfl,r1⟩
theorem vals2 (r:Vals [x,y] us):∃u w',us=[u,w']/\RelV x u/\RelV y w':=by
 cases r with
 | cons r1 r2 =>
  cases r2 with
  |cons r3 r4=>cases r4;exact⟨_,_,rfl,r1,r3⟩
theorem OL (hc:X.calm=true):M4 X (.builtin "max") (λxs H Q=>∃i j,xs=[.int i,.int j]/\Q (.int (if j>i then j else i)) H):=by
 intro jb s σ H xs us Q I r h;obtain⟨i,j,rfl,q⟩:=h;obtain⟨u,w',rfl,⟨t,rfl⟩,⟨t',rfl⟩⟩:=vals2 r;refine max_two_ints (I.ok.hd hc) λh' tk k=>⟨_,H,I.kept k,?_,q⟩
 by_cases hj:j>i
 ·rw[jr hj,jr hj];exact⟨_,rfl⟩
 ·rw[jt hj,jt hj];exact⟨_,rfl⟩
theorem OM (hc:X.calm=true):M4 X (.builtin "min") (λxs H Q=>∃i j,xs=[.int i,.int j]/\Q (.int (if j<i then j else i)) H):=by
 intro jb s σ H xs us Q I r h;obtain⟨i,j,rfl,q⟩:=h;obtain⟨u,w',rfl,⟨t,rfl⟩,⟨t',rfl⟩⟩:=vals2 r;refine min_two_ints (I.ok.hd hc) λh' tk k=>⟨_,H,I.kept k,?_,q⟩
 by_cases hj:j<i
 ·rw[jr hj,jr hj];exact⟨_,rfl⟩
 ·rw[jt hj,jt hj];exact⟨_,rfl⟩
theorem ON:M4 X (.type "int") (λxs H Q=>(∃i,xs=[.int i]/\Q (.int i) H)\/∃k,xs=[.bl k]/\Q (.int (if k then 1 else 0)) H):=by
 intro jb s σ H xs us Q I r h;rcases h with⟨i,rfl,q⟩|⟨k,rfl,q⟩
 ·obtain⟨u,rfl,t,rfl⟩:=AB r;exact call_int_int ⟨.int i,H,I,⟨_,rfl⟩,q⟩
 ·obtain⟨u,rfl,r1⟩:=AB r;cases r1;exact call_int_bool ⟨.int (if k then 1 else 0),H,I.tok _,⟨_,rfl⟩,q⟩
end
structure ObjM (h:B7)(x dx C:A0)(mA:Str->Option A1):Prop where
 obj:h.get? x=some (PySem.W.instObj C dx)
 ns:h.Ns1 dx mA
 ne:dx≠x
theorem OP {h:B7}(n:h.Ns1 dx mA):∃od,h.get? dx=some od/\∀name,PySem.W.lookIn name od=some (mA name):=by
 obtain⟨o,es,ep,ho,hd,hk,_,hm⟩:=n;refine⟨o,ho,λname=>?_⟩;have e:=hm name;unfold nsFind findBy at e;rw[<- Array.find?_toList] at e;unfold PySem.W.lookIn;rw[hd];dsimp only
 split
 ·grind
 ·rename_i q;rw[q] at e
  have a:es.toList.any (·.refKey)=false:=by
   rw[List.any_eq_false];intro y hy;obtain⟨z,t,hkey⟩:=hk y (Array.mem_toList_iff.mp hy);simp[DictEntry.refKey,hkey]
  have a':¬es.toList.any (·.refKey)=true:=by rw[a];exact O2
  rw[jt a'];exact congrArg some e
theorem ObjM.look (I:ObjM h x dx C mA):∃od,PySem.W.InstAt h x (PySem.W.instObj C dx) C (some od)/\∀name,PySem.W.lookIn name od=some (mA name):=
 let ⟨od,ho,hl⟩:=OP I.ns
 ⟨od,⟨I.obj,rfl,rfl,ho⟩,hl⟩
theorem RelO.some_of (r:RelO (some v) o):∃u,o=some u/\RelV v u:=by
 cases o with
 |none=>exact(show False from r).elim
 |some u=>exact⟨u,rfl,r⟩
section
variable {P:D2}{w:C9}{H H':Hp}{h h':B7}{a C dx:A0}{fs fs':List (Str×V)}
theorem OQ (hok:HOk P w H h)(e:H a=some (.ins C dx fs)):∃mA,ObjM h a dx C mA/\(∀f,RelO (fs.lookup f) (mA f))/\PySem.Within mA (fs.map (·.1))/\fs.length<=1000/\H dx=some (.own a):=by
 obtain⟨d,z,ne,ob,mA,n,r,q⟩:=(show J0 P w H h a (.ins C dx fs) from hok a _ e);exact⟨mA,⟨ob,n,ne⟩,r,q,z,d⟩
end
structure Cls (K:A9)(C:A0):Prop where
 pg:PySem.W.plainGet K C Str.empty=true
 hd:PySem.W.hasDictIn K C=true
 po:PySem.W.plainOver K C=true
 sa:PySem.W.findIn K (.ref C) "__setattr__"=some (some (.builtin "object.__setattr__"))
theorem Cls.get {K:A9}(c:Cls K C)(f:Str):PySem.W.plainGet K C f=true:=c.pg
section
variable {X:Cx}{jb:List (A0×Obj)}{σ:St}{H:Hp}{s:A6}{A:D8}{E:A1->A6->Prop}{Q:A1->A6->Prop}{c:A1}{b:Bool}
inductive TyOf (K:A9)(H:Hp):V->A1->Prop where
 |non:TyOf K H .non (.type "NoneType")
 |bl (x:Bool):TyOf K H (.bl x) (.type "bool")
 |int (i:Int):TyOf K H (.int i) (.type "int")
 |str (x:Str):TyOf K H (.str x) (.type "str")
 |flt (x:UInt64):TyOf K H (.flt x) (.type "float")
 |lst {a:A0} {xs:List V} (e:H a=some (.lst xs)):TyOf K H (.ref a) (.type "list")
 |frz {a:A0} {o:Obj} {xs:List V} (e:H a=some (.frz o (.lst xs))):TyOf K H (.ref a) (.type "list")
 |tup {a:A0} {xs:List V} (e:H a=some (.tup xs)):TyOf K H (.ref a) (.type "tuple")
 |dK {a:A0} {jg:List (Key×V)} (e:H a=some (.dK jg)):TyOf K H (.ref a) (.type "dict")
 |dT {a:A0} {jg:List (List Key×V)} (e:H a=some (.dT jg)):TyOf K H (.ref a) (.type "dict")
 |ins {a C dx:A0} {fs:List (Str×V)} (e:H a=some (.ins C dx fs)) (cl:Cls K C) (ha:PySem.W.findIn K (.ref C) "__class__"=some (some (.builtin "object.__class__")))
     (hn:PySem.W.specialIn K (.builtin "object.__class__") "__get__"=some (some (.builtin "getset_descriptor.__get__"))) (htk:PySem.W.takesIn K (.builtin "object.__class__")=some true)
     (hm:PySem.W.mroIn K C (.type "object")=some true):TyOf K H (.ref a) (.ref C)
theorem OR (I:Inv X jb σ H s)(rx:RelV x u)(ty:TyOf X.K H x t)(e:Ck X.K t c=some b)(h:∀tk,Q (.bool b) { s with toks:=tk }) :
   A7 (A8 X.prog X.w) A (call (.builtin "isinstance") [u,c]) Q E s:=by
 cases ty with
 |non=>cases(show u=T7 from rx);exact Y2 PySem.W.kitx_none I.kIn Y9 e (λz=>nomatch z) h
 |bl y=>cases(show u=Value.bool y from rx);exact Y2 PySem.W.kitx_bool I.kIn Y9 e (λz=>nomatch z) h
 |int i=>obtain⟨t,q⟩:=(show ∃t,u=Value.int i t from rx);cases q;exact Y2 PySem.W.kitx_int I.kIn Y9 e (λz=>nomatch z) h
 |str y=>obtain⟨t,q⟩:=(show ∃t,u=Value.str y t from rx);cases q;exact Y2 PySem.W.kitx_str I.kIn Y9 e (λz=>nomatch z) h
 |flt y=>obtain⟨t,q⟩:=(show ∃t,u=Value.float y t from rx);cases q;exact Y2 PySem.W.kitx_float I.kIn Y9 e (λz=>nomatch z) h
 | @lst a xs ea =>
  cases(show u=M3 a from rx);obtain⟨_,_,n,_,h1⟩:=(show J0 X.prog X.w H s.heap a (.lst xs) from I.hok a _ ea);exact Y2 PySem.W.kitx_list I.kIn ⟨_,h1,rfl⟩ e (λz=>nomatch z) h
 | @frz a ob xs ea =>
  cases(show u=M3 a from rx);obtain⟨_,_,_,n,_,h1⟩:=(show J0 X.prog X.w H s.heap a (.frz ob (.lst xs)) from I.hok a _ ea);exact Y2 PySem.W.kitx_list I.kIn ⟨_,h1,rfl⟩ e (λz=>nomatch z) h
 | @tup a xs ea =>
  cases(show u=M3 a from rx);obtain⟨_,_,_,p⟩:=(show J0 X.prog X.w H s.heap a (.tup xs) from I.hok a _ ea);obtain⟨o,h1,h2,_⟩:=p;exact Y2 PySem.W.kitx_tuple I.kIn ⟨o,h1,(BA h2).1⟩ e (λz=>nomatch z) h
 | @dK a jg ea =>
  cases(show u=M3 a from rx);obtain⟨_,_,vs,_,p⟩:=(show J0 X.prog X.w H s.heap a (.dK jg) from I.hok a _ ea);obtain⟨o,es,ep,h1,h2,_⟩:=p;exact Y2 PySem.W.kitx_dict I.kIn ⟨o,h1,h2.1⟩ e (λz=>nomatch z) h
 | @dT a jg ea =>
  cases(show u=M3 a from rx);obtain⟨_,_,xs,_,o,es,ep,h1,h2,_⟩:=(show J0 X.prog X.w H s.heap a (.dT jg) from I.hok a _ ea);exact Y2 PySem.W.kitx_dict I.kIn ⟨o,h1,h2.1⟩ e (λz=>nomatch z) h
 | @ins a C dx fs ea cl ha hn htk hm =>
  cases(show u=M3 a from rx);obtain⟨mA,O,_⟩:=OQ I.hok ea;obtain⟨od,J,_⟩:=O.look;exact Y2 (PySem.W.kitx_own (cl.get _) cl.hd ha hn htk hm) I.kIn J e (λz=>nomatch z) h
end
structure Room (k:Nat)(A:D8):Prop where
 hd:A.handled=none
 dp:A.depth+3*k+5<recursionLimit
 un:A.units+16*k+200<cLine
 gd:A.guards=some []
theorem Room.mono (r:Room k A)(h:j<=k):Room j A:=⟨r.hd,by have:=r.dp;omega,by have:=r.un;omega,r.gd⟩
theorem Room.deeper (r:Room (k+1) A)(env:Env):Room k (A.deeper env):=
 ⟨r.hd,by have:=r.dp;show A.depth+1+3*k+5<_;omega,by have:=r.un;show A.units+3+16*k+200<_;omega,r.gd⟩
theorem Room.in1 {k:Nat}{A:D8}(r:Room (k+1) A):Room k A.in1:=
 ⟨r.hd,by have:=r.dp;show A.depth+3*k+5<_;omega,by have:=r.un;show A.units+1+16*k+200<_;omega,r.gd⟩
theorem Room.depth (r:Room k A):A.depth<recursionLimit:=by have:=r.dp;omega
theorem Room.units (r:Room k A):A.units+64<cLine:=by have:=r.un;omega
def tNil:TA:=λ_ H Q=>Q [] H
def V8 (ta:TE)(tr:TA):TA:=λσ H Q=>ta σ H λx H1=>tr σ H1 λxs H2=>Q (x::xs) H2
section
variable {X:Cx}{e:Expr}{es:List Expr}{te:TE}{t:TA}{pos:Pos}
theorem K3:PA X [] tNil:=λ_ _ _ _ H Q I h=>Calls.spliced_nil ⟨[],H,I,.nil,h⟩
theorem G4 (ha:PE X e te)(hr:PA X es t)(hs:E6 (e::es) X.env=(false,eval e X.env)::E6 es X.env:=by rfl):PA X (e::es) (V8 te t):=by
 intro pos jb s σ H Q I h;rw[hs];show A7 _ _ (spliced ((false,eval e X.env)::backTo pos (E6 es X.env))) _ _ s;refine Calls.spliced_cons (thn (ha jb s σ H _ I h) λu s1 ⟨x,H1,I1,r1,q1⟩=>?_);exact thn (hr pos jb s1 σ H1 _ I1 q1) λus s2 ⟨xs,H2,I2,r2,q2⟩=>⟨x::xs,H2,I2,.cons r1 r2,q2⟩
def tTup (t:TA):TE:=λσ H Q=>t σ H λxs H1=>xs.length<=C2/\∀p,H1 p=none->Q (.ref p) (upd H1 p (.tup xs))
def tLst (t:TA):TE:=λσ H Q=>t σ H λxs H1=>xs.length<=C2/\∀p,H1 p=none->Q (.ref p) (upd H1 p (.lst xs))
theorem GF {x1}(h:PA X es t):PE X (.Tuple es x1 pos) (tTup t):=by
 intro jb s σ H Q I hq;refine wpAny_Tuple_spliced (thn (h pos jb s σ H _ I hq) λus s1 ⟨xs,H1,I1,r,z,q⟩=>⟨by rw[<- r.length];exact z,?_⟩);have hf:H1 s1.heap.objs.size=none:=I1.hok.fresh (B8 _);refine⟨.ref s1.heap.objs.size,upd H1 s1.heap.objs.size (.tup xs),I1.laid (t':=s1.toks) (λb u e=>C7 _ e) (B8 _) ?_,rfl,q _ hf⟩;exact⟨z,us,r,⟨_,G7 _ rfl,rfl,_,rfl⟩⟩
theorem pe_lst (h:PA X es t):PE X (.List es pos) (tLst t):=by
 intro jb s σ H Q I hq;refine wpAny_List_spliced (thn (h pos jb s σ H _ I hq) λus s1 ⟨xs,H1,I1,r,z,q⟩=>⟨by rw[<- r.length];exact z,?_⟩);have hf:H1 s1.heap.objs.size=none:=I1.hok.fresh (B8 _);refine⟨.ref s1.heap.objs.size,upd H1 s1.heap.objs.size (.lst xs),I1.laid (t':=s1.toks) (λb u e=>C7 _ e) (B8 _) ?_,rfl,q _ hf⟩;exact⟨z,us,0,r,G7 _ rfl⟩
end
abbrev Sp:=List V->Hp->VK->XK->Prop
abbrev CXT:=List Env->Hp->A6->XK->A1->A6->Prop
structure Env0 (P:D2)(w:C9)(K:A9)(mg:Str->Option A1)(base:B7)(A:D8)(outer:List Env)(s:A6)(H:Hp):Prop where
 frames:A.frames=some outer
 mod:Mod K mg base
 bs:∀b o,base.get? b=some o->s.heap.get? b=some o/\H b=none
 bsz:base.objs.size<=s.heap.objs.size
 funs:s.heap.FunFrames base outer
 frf:∀b∈frs outer,H b=none
 hok:HOk P w H s.heap
 bare:AllBare s.gens
 nos:NS H
def CE (outer:List Env)(P:D2)(w:C9)(H:Hp)(s:A6)(Q:VK)(u:A1)(s':A6):Prop:=
 ∃v H',s'.os=s.os/\AllBare s'.gens/\Un (frs outer) [] H H' s.heap s'.heap/\HOk P w H' s'.heap/\RelV v u/\Q v H'
def CR (CX:CXT)(outer:List Env)(P:D2)(w:C9)(H:Hp)(s:A6)(Q:VK)(E:XK)(r:Result)(s':A6):Prop:=
 match r with
 |.ok (.ret u)=>CE outer P w H s Q u s'
 |.ok _=>False
 |.error e=>CX outer H s E e s'
structure FnOk (P:D2)(w:C9)(K:A9)(mg:Str->Option A1)(base:B7)(CX:CXT)(k:Nat)(f:A0)(fd:FuncData)(ps:List Str)(sp:Sp):Prop where
 len:∀vs H Q E,sp vs H Q E->vs.length=ps.length
 run:∀(A:D8) (outer:List Env) (s:A6) (H:Hp) (args:Args) (us:List A1) (vs:List V) (Q:VK) (E:XK),Room k A->Env0 P w K mg base A outer s H->BindsTo s fd args (ps.zip us)->Vals vs us->sp vs H Q E->
   O0 (A8 P w) A (.call (.ref f) args) (CR CX outer P w H s Q E) s
theorem FnOk.imp {K:A9}(F:FnOk P w K mg base CX k f fd ps sp)
   (h:∀vs H Q E,sp' vs H Q E->sp vs H Q E):FnOk P w K mg base CX k f fd ps sp':=
 ⟨λvs H Q E q=>F.len vs H Q E (h _ _ _ _ q),λA outer s H args us vs Q E hr he hb hv hs=>F.run A outer s H args us vs Q E hr he hb hv (h _ _ _ _ hs)⟩
section
variable {X:Cx}{jb:List (A0×Obj)}{σ:St}{H:Hp}{s s':A6}
theorem Inv.env0 (I:Inv X jb σ H s):Env0 X.prog X.w X.K X.mg X.base X.A X.stack s H:=
 ⟨I.ok.frames,I.ok.mod,I.bs,N6 I.ok.bsz I.sz,I.stack,I.stkFree,I.hok,I.bare,I.nos⟩
theorem Inv.after (I:Inv X jb σ H s)(h:CE X.stack X.prog X.w H s Q u s'):EP X jb σ Q u s':=by
 obtain⟨v,H',os,bare,un,hok,r,q⟩:=h;obtain⟨hh,g,d,t,os'⟩:=s';obtain rfl:os'=s.os:=os;exact⟨v,H',I.call (h':=hh) (g':=g) (d':=d) (t':=t) (ch:=[]) un hok bare (λb z=>absurd z (by simp)),r,q⟩
end
def tCall (sp:Sp)(dvs:List V)(E:XK)(t:TA):TE:=λσ H Q=>t σ H λvs H1=>sp (vs++dvs) H1 Q E
def BF (K:A9)(fd:FuncData)(ps:List Str)(ds:List A1):Prop:=
 ∀(s:A6) (us:List A1),K.In s.heap->(us++ds).length=ps.length->BindsTo s fd ⟨us,[]⟩ (ps.zip (us++ds))
theorem BF.all {K:A9}(h:∀us:List A1,us.length=ps.length->Y1 fd ⟨us,[]⟩=pure (ps.zip us)):BF K fd ps []:=λs us _ hl=>by
 rw[Y6] at hl ⊢;exact .of_eq (h us hl)
def GG (CX:CXT)(X:Cx)(E:XK):Prop:=∀(jb:List (A0×Obj)) (σ:St) (H:Hp) (s:A6) (e:A1) (s':A6),Inv X jb σ H s->CX X.stack H s E e s'->X.xe e s'
section
variable {X:Cx}{CX:CXT}{k:Nat}{f C:A0}{fd:FuncData}{ps:List Str}{sp:Sp}{dvs:List V}{ds:List A1}{E:XK}{x m:Str}{p pos apos:Pos}{e o:Expr}{es:List Expr}{ta:TE}{t:TA}
theorem run_fn (F:FnOk X.prog X.w X.K X.mg X.base CX k f fd ps sp)(hr:Room k X.A)(hb:BF X.K fd ps ds)(hd:Vals dvs ds)(hx:GG CX X E)
   (I:Inv X jb σ H s) (r:Vals vs us) (h:sp (vs++dvs) H Q E):A7 (A8 X.prog X.w) X.A (call (.ref f) us) (EP X jb σ Q) X.xe s:=by
 have r2:Vals (vs++dvs) (us++ds):=r.append hd;have hl:(us++ds).length=ps.length:=by rw[<- r2.length];exact F.len _ _ _ _ h
 refine wpAny_call (Ak (F.run X.A X.stack s H ⟨us,[]⟩ (us++ds) (vs++dvs) Q E hr I.env0 (hb s us I.kIn hl) r2 h) λr s' hq=>?_);cases r with
 |error e=>exact hx jb σ H s e s' I hq
 | ok fl =>
  cases fl with
  |ret u=>exact I.after hq
  |next=>exact e7 hq
  |brk=>exact e7 hq
  |cont=>exact e7 hq
theorem OS (F:FnOk X.prog X.w X.K X.mg X.base CX k f fd ps sp)(hr:Room k X.A)(hg:Gl X x)(hm:X.mg x=some (.ref f))(hk:Cm X.K (.ref f)=true)(hb:BF X.K fd ps ds)(hd:Vals dvs ds)(hx:GG CX X E)
   (ha:PA X (e::es) t) (hdb:(x == ("__debug__":Str))=false:=by decide) (he:E6 (e::es) X.env=(false,eval e X.env)::E6 es X.env:=by rfl) (hpl:(backTo pos (E6 es X.env)).any (·.1)=false:=by rfl) :
   PE X (.Call (.Name x p) (e::es) [] pos) (tCall sp dvs E t):=by
 intro jb s σ H Q I h;refine DW (On I hg hm ?_ hdb);refine PySem.W.callWith_K (h₀:=X.base) I.ok.mod.kin hk (thn (ha pos jb s σ H _ I h) λus s1 ⟨vs,H1,I1,r,q⟩=>⟨I1.kIn,?_⟩) he hpl;exact run_fn F hr hb hd hx I1 r q
end
def PK (X:Cx)(kws:List T0)(t:TA):Prop:=
 ∀(pos:Pos) (jb:List (A0×Obj)) (s:A6) (σ:St) (H:Hp) (Q:List V->Hp->Prop),Inv X jb σ H s->t σ H Q->A7 (A8 X.prog X.w) X.A (evalAll ((b9 pos (b7 kws X.env)).map (·.2))) (AP X jb σ Q) X.xe s
structure U7 (N P:List Str)(sc:J7):Prop where
 kind:sc.kind=.function
 co:sc.isCoroutine=false
 gen:sc.isGenerator=false
 nd:N.Nodup
 pre:N.take P.length=P
 par:∀x∈P,sc.names.lookup x=some .local\/sc.names.lookup x=some .cell
 nofree:∀y∈sc.names,y.2≠.free
theorem JD {kindOf:Str->Option NameKind}:∀{binds:List (Str×A1)} {m:Str->Option A1},(∀v,(x,v)∉binds)->bindL kindOf binds m x=m x
 |[],_,_=>rfl
 | (n, v) :: r, m, h => by
  unfold bindL;rw[JD λw hw=>h w (C5 _ hw)]
  split
  ·have:x≠n:=by rintro rfl;exact h v C8
   simp[this]
  ·rfl
theorem JE {kindOf:Str->Option NameKind}:∀{binds:List (Str×A1)} {m:Str->Option A1},(∀v,(x,v)∉binds)->bindC kindOf binds m x=m x
 |[],_,_=>rfl
 | (n, v) :: r, m, h => by
  unfold bindC;rw[JE λw hw=>h w (C5 _ hw)]
  split
  ·rfl
  ·have:x≠n:=by rintro rfl;exact h v C8
   simp[this]
theorem JF {kindOf:Str->Option NameKind}:∀{P:List Str} {vs:List A1} {i:Nat} {m:Str->Option A1},P.Nodup->P[i]?=some x->vs[i]?=some v->kindOf x=some .local->
   bindL kindOf (P.zip vs) m x=some v
 |[],_,_,_,_,h,_,_=>by simp at h
 |_::_,[],_,_,_,_,h,_=>by simp at h
 | p :: P, w :: vs, 0, m, nd, h1, h2, hk => by
  simp at h1 h2;subst h1;subst h2;show bindL kindOf ((p,w)::P.zip vs) m p=_;unfold bindL;rw[JD λv hv=>(Q9.mp nd).1 (List.of_mem_zip hv).1,jr hk];simp
 | p :: P, w :: vs, i + 1, m, nd, h1, h2, hk => by
  show bindL kindOf ((p,w)::P.zip vs) m x=_;unfold bindL;exact JF (i:=i) (Q9.mp nd).2 (by simpa using h1) (by simpa using h2) hk
theorem JG {kindOf:Str->Option NameKind}:∀{P:List Str} {vs:List A1} {i:Nat} {m:Str->Option A1},P.Nodup->P[i]?=some x->vs[i]?=some v->kindOf x≠some .local->
   bindC kindOf (P.zip vs) m x=some v
 |[],_,_,_,_,h,_,_=>by simp at h
 |_::_,[],_,_,_,_,h,_=>by simp at h
 | p :: P, w :: vs, 0, m, nd, h1, h2, hk => by
  simp at h1 h2;subst h1;subst h2;show bindC kindOf ((p,w)::P.zip vs) m p=_;unfold bindC;rw[JE λv hv=>(Q9.mp nd).1 (List.of_mem_zip hv).1,jt hk];simp
 | p :: P, w :: vs, i + 1, m, nd, h1, h2, hk => by
  show bindC kindOf ((p,w)::P.zip vs) m x=_;unfold bindC;exact JG (i:=i) (Q9.mp nd).2 (by simpa using h1) (by simpa using h2) hk
def start (N:List Str)(vs:List V):St:=vs.map some++List.replicate (N.length-vs.length) none
def cxOf (CX:CXT)(P:D2)(w:C9)(K:A9)(mg:Str->Option A1)(base:B7)(N:List Str)(qual:Str)(scope:J7)(f:A0)(cd:A1)(A:D8)(outer:List Env)(s:A6)(H:Hp)(E:XK):Cx where
 prog:=P
 w:=w
 K:=K
 mg:=mg
 base:=base
 A:=A.deeper (envOfC qual scope s.heap.objs.size f cd)
 N:=N
 s₀:=s
 H₀:=H
 env:=envOfC qual scope s.heap.objs.size f cd
 outer:=outer
 stack:=envOfC qual scope s.heap.objs.size f cd::outer
 ex:=[]
 calm:=true
 fn:=λ_=>true
 pn:=[]
 xe:=λe s'=>A7 (A8 P w) (A.deeper (envOfC qual scope s.heap.objs.size f cd)) (leaving (envOfC qual scope s.heap.objs.size f cd) e) (λ_ s''=>CX outer H s E e s'') (λe' s''=>CX outer H s E e' s'') s'
theorem JH {sc:J7}(h:sc.names.lookup x=some .cell):∃c,(cellsFrom n sc.names []).lookup x=some c:=by
 have q:=PySem.W.cellsFrom_some sc.names n [] (.inl h);exact Ez.mp q
theorem OT {K:A9}
   (S:U7 N ps scope) (hd:A.handled=none) (e0:Env0 P w K mg base A outer s H) (hl:vs.length=ps.length) (r:Vals vs us)
   (x:InCallC s s.heap.objs.size (bindL (envOfC qual scope s.heap.objs.size f cd).kindOf (ps.zip us) λ_=>none) (cellsFrom (s.heap.objs.size+1) scope.names []) (bindC (envOfC qual scope s.heap.objs.size f cd).kindOf (ps.zip us) λ_=>none) s1) :
   Inv (cxOf CX P w K mg base N qual scope f cd A outer s H E) [] (start N vs) H s1:=by
 have hpl:ps.length<=N.length:=by have:=congrArg List.length S.pre;rw[T5] at this;omega
 obtain⟨h1,tk,rfl,hk⟩:=x.done;have noA:∀b:A0,b∉(cxOf CX P w K mg base N qual scope f cd A outer s H E).ex:=λb z=>absurd (show b∈([]:List A0) from z) (by simp)
 refine⟨⟨e0.mod,S.kind,rfl,rfl,B8 _,λy z c h1 h2=>?_,λy hy=>?_,λy c _ h=>?_,λ_=>hd,Around.frames_deeper e0.frames,.inr ⟨rfl,rfl⟩,λb z=>absurd z (noA b),e0.bs,e0.bsz,λb _ _=>noA b,λb z=>absurd z (noA b),e0.funs,e0.frf,e0.nos⟩,
  rfl,e0.bare,Un.kept hk,⟨_,x.toInCall.ns,λi y v h1 h2 h3=>?_⟩,λy c h=>⟨_,x.cell y c h⟩,e0.hok.fresh (B8 _),λy c h=>?_,λp hp=>absurd (show p∈([]:List (A0×Obj)) from hp) (by simp),e0.hok.kept hk,?_⟩
 ·exact name_of_addr x.apart (k9 h1) (k9 h2)
 ·have hy:scope.names.lookup y=some .cell\/scope.names.lookup y=some .free:=hy;rcases hy with hy|hy
  ·exact JH hy
  ·exact absurd rfl (S.nofree _ (k9 hy))
 ·exact d7 (x.above y c (k9 h))
 ·have hi:i<vs.length:=by
   unfold start at h2
   by_cases hi:i<vs.length
   ·exact hi
   ·rw[V5 (by simpa using hi)] at h2;rw[Gg] at h2
    split at h2 <;> cases h2
  have ha:vs[i]?=some v:=by
   unfold start at h2;rw[Y3 (by simpa using hi),G0] at h2;cases e:vs[i]? with
   |none=>rw[e] at h2;cases h2
   |some a=>rw[e] at h2;cases h2;rfl
  obtain⟨u,hu,rv⟩:=r.get ha
  have hp:ps[i]?=some y:=by
   rw[<- S.pre,List.getElem?_take_of_lt (by omega)];exact h1
  have ndP:ps.Nodup:=by rw[<- S.pre];exact S.nd.sublist (List.take_sublist _ _)
  refine⟨u,rv,?_⟩;rcases S.par y (K8 hp) with k|k
  ·exact .inl ⟨k,JF ndP hp hu k⟩
  ·obtain⟨c,e⟩:=JH (n:=s.heap.objs.size+1) k;refine .inr ⟨.inl k,c,e,?_⟩;have q:=x.cell y c e;rw[JG ndP hp hu (by show scope.names.lookup y≠_;rw[k];decide)] at q;exact q
 ·exact e0.hok.fresh (d7 (x.above y c (k9 h)))
 ·unfold start;show _=N.length;rw[E7,B6,List.length_replicate];omega
theorem fn_of {K:A9}{dV kV doc pm jn ct oc:A1}
 (lk:K.lookup f=some ⟨oc,od,.func (X3 name qual params body scope dV kV doc pm an jn ct),osl⟩) (hcd:Eb K jn qual=true) (S:U7 N ps scope)
   (len:∀vs H Q E,sp vs H Q E->vs.length=ps.length)
   (hbody:∀(A:D8) (outer:List Env) (s:A6) (H:Hp) (vs:List V) (Q:VK) (E:XK),Room k (A.deeper (envOfC qual scope s.heap.objs.size f jn))->sp vs H Q E->
     ∃t,PSs (cxOf CX P w K mg base N qual scope f jn A outer s H E) body t/\t { nx:=λ_ H'=>Q .non H',rt:=Q } (start N vs) H) :
   FnOk P w K mg base CX (k+1) f (X3 name qual params body scope dV kV doc pm an jn ct) ps sp:=by
 refine⟨len,λA outer s H args us vs Q E hr e0 hb r hsp=>?_⟩;have hl:=len _ _ _ _ hsp;have KX:K.In s.heap:=e0.mod.kin.keeps λb o e=>(e0.bs b o e).1;have lim:s.heap.NoLimit:=e0.mod.nolimit.keeps λb o e=>(e0.bs b o e).1
 have hkind:∀y∈ps.zip us,scope.names.lookup y.1=some .local\/(scope.names.lookup y.1=some .cell/\((cellsFrom (s.heap.objs.size+1) scope.names []).lookup y.1).isSome=true):=λ⟨n,v⟩ hy=>by
  rcases S.par n (List.of_mem_zip hy).1 with q|q
  ·exact .inl q
  ·exact .inr ⟨q,PySem.W.cellsFrom_some _ _ _ (.inl q)⟩
 refine codeAny_call_function hr.depth (KX _ _ lk) rfl S.co S.gen rfl (PySem.W.codeRec_of KX hcd) (hb _ _ _ _ ?_);refine wpAny_newFunctionEnv_cells S.kind hkind λenv he s1 x=>?_;subst he;refine⟨lim.keeps x.toInCall.keep,codeAny_func ?_⟩;obtain⟨t,ht,hq⟩:=hbody A outer s H vs Q E (hr.deeper _) hsp;have I:Inv (cxOf CX P w K mg base N qual scope f jn A outer s H E) [] (start N vs) H s1:=OT S hr.hd e0 hl r x;refine K1 (ht [] s1 (start N vs) H _ I hq) (λfl s' hs=>?_) λe s' hs=>hs
 have fin:∀{σ':St} {H':Hp} {v:V} {u:A1},Inv (cxOf CX P w K mg base N qual scope f jn A outer s H E) [] σ' H' s'->RelV v u->Q v H'->CE outer P w H s Q u s':=
  λ{σ' H' v u} J rv q=>⟨v,H',J.os,J.bare,J.base,J.hok,rv,q⟩
 cases fl with
 | ret u =>
  obtain⟨v,σ',H',J,rv,q⟩:=hs;exact fin J rv q
 | next =>
  obtain⟨σ',H',J,q⟩:=hs;exact fin (v:=V.non) (u:=T7) J rfl q
 | brk =>
  obtain⟨_,_,_,q⟩:=hs;exact e7 q
 | cont =>
  obtain⟨_,_,_,q⟩:=hs;exact e7 q
section
variable {X:Cx}{x:Str}{p pos:Pos}{e:Expr}{es:List Expr}{t:TA}{id T:String}{r:List V->Hp->VK->Prop}
def tCB (r:List V->Hp->VK->Prop)(t:TA):TE:=λσ H Q=>t σ H λvs H1=>r vs H1 Q
theorem h9 (hc:M4 X (.builtin id) r)(hg:Gl X x)(hm:X.mg x=none)(hv:M9 x=some (.builtin id))(ha:PA X (e::es) t)(hn:x≠"__name__":=by decide)(hdb:(x == ("__debug__":Str))=false:=by decide)
   (he:E6 (e::es) X.env=(false,eval e X.env)::E6 es X.env:=by rfl) (hpl:(backTo pos (E6 es X.env)).any (·.1)=false:=by rfl):PE X (.Call (.Name x p) (e::es) [] pos) (tCB r t):=by
 intro jb s σ H Q I h;refine DW (x9 I hg hm hv ?_ hn hdb);exact PyProof.Rows.callWith_builtin1 (thn (ha pos jb s σ H _ I h) λus s1 ⟨vs,H1,I1,r1,q1⟩=>hc jb s1 σ H1 vs us Q I1 r1 q1) he hpl
theorem AD (hc:M4 X (.type T) r)(hg:Gl X x)(hm:X.mg x=none)(hv:M9 x=some (.type T))(ha:PA X (e::es) t)(hn:x≠"__name__":=by decide)(hdb:(x == ("__debug__":Str))=false:=by decide)
   (he:E6 (e::es) X.env=(false,eval e X.env)::E6 es X.env:=by rfl) (hpl:(backTo pos (E6 es X.env)).any (·.1)=false:=by rfl):PE X (.Call (.Name x p) (e::es) [] pos) (tCB r t):=by
 intro jb s σ H Q I h;refine DW (x9 I hg hm hv ?_ hn hdb);exact CH (thn (ha pos jb s σ H _ I h) λus s1 ⟨vs,H1,I1,r1,q1⟩=>hc jb s1 σ H1 vs us Q I1 r1 q1) he hpl
end
end L2
namespace HT
open PySem PyProof.Rows
section
variable {prog:D2}{w:C9}{A:D8}{E:A1->A6->Prop}{s:A6}
theorem cat_tup (ht:IsTup s.heap t vs.toArray)(hb:IsTup s.heap b ws.toArray)(hv:vs≠[])
   (h1:ws=[]->Q (.ref t) s) (h2:ws≠[]->Q (.ref s.heap.objs.size) { s with heap:=s.heap.push { cls:=.type "tuple",data:=.seq (vs++ws).toArray } })
   (hsz:vs.length+ws.length<=C2):A7 (A8 prog w) A (U3 .Add (.ref t) (.ref b)) Q E s:=by
 obtain⟨⟨cls,dd,data,sl⟩,ho,hc,n,hd⟩:=id ht;obtain⟨⟨cls2,dd2,data2,sl2⟩,ho2,hc2,n2,hd2⟩:=id hb;simp only at hc hd hc2 hd2;subst hc hd hc2 hd2;have e:vs.toArray++ws.toArray=(vs++ws).toArray:=by simp
 by_cases hw:ws=[]
 ·exact concat_meets ⟨_,ho,rfl⟩ ⟨_,ho2,rfl⟩ noFill_tuple_add seq_tuple_add Gs Gr (Gq _ _)
    (tuple_addW1 t b vs.toArray ws.toArray n n2 dd dd2 sl sl2 (by simpa using hv) (by simp[hw])) ⟨ho,ho2,h1 hw⟩
 ·refine concat_meets ⟨_,ho,rfl⟩ ⟨_,ho2,rfl⟩ noFill_tuple_add seq_tuple_add Gs Gr (Gq _ _)
    (tuple_addW2 t b vs.toArray ws.toArray n n2 dd dd2 sl sl2 (by simpa using hv) (by simpa using hw) (by rw[F9,F9];exact hsz)) ⟨ho,ho2,?_⟩
  rw[e];exact h2 hw
def sIx (n d:Nat):Option Int->Nat
 |none=>d
 |some v=>if v<0 then(v+(n:Int)).toNat else min v.toNat n
theorem sIx_none (n d:Nat):sIx n d none=d:=rfl
theorem sIx_nat (n d k:Nat):sIx n d (some (k:Int))=min k n:=by
 show(if(k:Int)<0 then((k:Int)+(n:Int)).toNat else min (k:Int).toNat n)=min k n;rw[jt (by omega),O4]
theorem sIx_le (n d:Nat)(hd:d<=n)(o:Option Int):sIx n d o<=n:=by
 cases o with
 |none=>exact hd
 | some v =>
  show(if v<0 then(v+(n:Int)).toNat else min v.toNat n)<=n
  by_cases hv:v<0
  ·rw[jr hv];omega
  ·rw[jt hv];exact Nat.min_le_right _ _
theorem JI (v:Int)(n d:Nat):(if v<0 then max (v+(n:Int)) 0 else min v (n:Int))=((sIx n d (some v):Nat):Int):=by
 show(if v<0 then max (v+(n:Int)) 0 else min v (n:Int))=(((if v<0 then(v+(n:Int)).toNat else min v.toNat n):Nat):Int)
 by_cases hv:v<0
 ·simp only[jr hv];omega
 ·simp only[jt hv];omega
theorem OU (lo hi:Option Int)(n:Nat):Gu lo hi 1 (n:Int)=(((sIx n 0 lo:Nat):Int),((sIx n n hi:Nat):Int)):=by
 have h1:¬((1:Int)<0):=by omega
 unfold Gu;simp only[h1,if_false];refine Prod.ext ?_ ?_
 ·cases lo with
  |none=>rfl
  |some v=>exact JI v n 0
 ·cases hi with
  |none=>rfl
  |some v=>exact JI v n n
theorem OV (i j:Nat):Ey (i:Int) (j:Int) 1=j-i:=by
 unfold Ey;have h1:(1:Int)>0:=by omega
 simp only[h1,if_true,Int.ediv_one]
 split <;> omega
theorem JJ (p:IsPart v o)(h:Q o s):A7 (A8 prog w) A (Builtin.Slice.slicePartIndex v) Q E s:=by
 cases p with
 |none=>exact slicePart_none h
 |int i t=>exact slicePart_int h
theorem JK {lo hi:Option Int}{n:Nat}{Q:Int×Int×Nat->A6->Prop}(hs:s.heap.IsSliceOf sl vl vu .none)(pl:IsPart vl lo)(pu:IsPart vu hi)
   (h:Q (((sIx n 0 lo:Nat):Int),1,sIx n n hi-sIx n 0 lo) s):A7 (A8 prog w) A (Jp (.ref sl) (pure (n:Int))) Q E s:=by
 obtain⟨os,hos,hcs,hds⟩:=id hs;unfold Jp Builtin.Slice.sliceFields;refine A2 (A2 (Q4 hos hds (x:=vl) rfl (A2 (Q4 hos hds (x:=vu) rfl (A2 (Q4 hos hds (x:=.none) rfl (B0 ?_)))))));refine A2 (slicePart_none ?_);show A7 _ _ (if((1:Int) == 0)=true then _ else _) _ _ s;rw[jt (by decide)];refine A2 (JJ pl (A2 (JJ pu (A2 (B0 ?_)))));show A7 _ _ (match Gu lo hi 1 (n:Int) with|(lo,hi)=>pure (lo,(1:Int),Ey lo hi 1)) _ _ s;rw[OU lo hi n];show A7 _ _ (pure (((sIx n 0 lo:Nat):Int),(1:Int),Ey ((sIx n 0 lo:Nat):Int) ((sIx n n hi:Nat):Int) 1)) _ _ s;rw[OV];exact B0 h
theorem OW (xs:Array A1)(i k:Nat):((E9 k).filterMap λ(m:Nat)=>xs[((i:Int)+(m:Int)*1).toNat]?).toArray=((xs.toList.drop i).take k).toArray:=by
 have e:(λ(m:Nat)=>xs[((i:Int)+(m:Int)*1).toNat]?)=λm=>xs[i+m]?:=by
  funext m
  have:((i:Int)+(m:Int)*1).toNat=i+m:=by omega
  rw[this]
 rw[e];have:=pick_run xs i k;rw[List.filterMap_map] at this;have e2:((λx=>xs[x]?)∘λx=>i+x)=λm=>xs[i+m]?:=rfl
 grind
theorem getItem_tuple_cut {lo hi:Option Int}(ht:IsTup s.heap t items)(hs:s.heap.IsSliceOf sl vl vu .none)(pl:IsPart vl lo)(pu:IsPart vu hi)
   (hw:¬(sIx items.size 0 lo=0/\sIx items.size items.size hi=items.size))
   (h:Q (.ref s.heap.objs.size) { s with heap:=s.heap.push { cls:=.type "tuple",data:=.seq ((items.toList.drop (sIx items.size 0 lo)).take (sIx items.size items.size hi-sIx items.size 0 lo)).toArray } })
   (hsz:items.size<=C2):A7 (A8 prog w) A (c6 (.ref t) (.ref sl)) Q E s:=by
 have htake:sizeOk (.seq ((items.toList.drop (sIx items.size 0 lo)).take (sIx items.size items.size hi-sIx items.size 0 lo)).toArray):=by
  show((items.toList.drop (sIx items.size 0 lo)).take (sIx items.size items.size hi-sIx items.size 0 lo)).toArray.size<=C2;rw[F9,T5,X5,O3];omega
 have hj:sIx items.size items.size hi<=items.size:=sIx_le _ _ (B8 _) hi;obtain⟨os,hos,hcs,hds⟩:=id hs;have hTs:s.TypeIs (.ref sl) "slice":=⟨os,hos,hcs⟩;unfold c6
 try with_reducible refine M8 ?_
 first|refine A2 (B0 ?_)|skip
 refine A2 (wpAny_sequenceKey ht.typeIs (by decide) ?_)
 refine A2 (Z8 (name:=A5 "__getitem__") ht.typeIs Er
   (R5 Er ht.typeIs entry_tuple_getitem ?_ (args_tuple_getitem _ _)))
 show A7 _ _ (Jq (.ref t)>>=_) _ _ s;refine A2 (tupleItemsOf_ ht ?_);refine A2 (Bb hTs ?_);rw[jr (by decide)];refine A2 (JK hs pl pu ?_)
 have hno:¬((((sIx items.size 0 lo:Nat):Int) == 0&&(1:Int) == 1&&(sIx items.size items.size hi-sIx items.size 0 lo) == items.size)=true):=by
  intro q;rw[Bo,Bo] at q;have q1:((sIx items.size 0 lo:Nat):Int)=0:=eq_of_beq q.1.1;have q2:sIx items.size items.size hi-sIx items.size 0 lo=items.size:=eq_of_beq q.2;exact hw ⟨by omega,by omega⟩
 show A7 _ _ (if(((sIx items.size 0 lo:Nat):Int) == 0&&(1:Int) == 1&&(sIx items.size items.size hi-sIx items.size 0 lo) == items.size)=true then _ else _) _ _ s;rw[jt hno,OW]
 first
   |exact A2 (m:=EA _) (T9 (B0 ⟨_,rfl,B0 h⟩) htake)
   |exact A2 (m:=EA _) (T9 (A2 (B0 (B0 ⟨_,rfl,B0 h⟩))) htake)
   |exact A2 (A2 (m:=EA _) (T9 (B0 (B0 ⟨_,rfl,B0 h⟩)) htake))
   |exact A2 (A2 (m:=EA _) (T9 (B0 ⟨_,rfl,B0 h⟩) htake))
end
end HT
namespace L2
open PySem PySem.Spec PyProof.Rows
abbrev TO:=St->Hp->(Option Int->Hp->Prop)->Prop
def PO (X:Cx)(e:Option Expr)(t:TO):Prop:=
 ∀ (jb : List (A0 × Obj)) (s : A6) (σ : St) (H : Hp) (Q : Option Int -> Hp -> Prop), Inv X jb σ H s -> t σ H Q ->
   A7 (A8 X.prog X.w) X.A (evalPart e X.env) (λu s'=>∃o H',Inv X jb σ H' s'/\IsPart u o/\Q o H') X.xe s
def OX:TO:=λ_ H Q=>Q none H
def tPart (t:TE):TO:=λσ H Q=>t σ H λx H1=>∃i,x=.int i/\Q (some i) H1
section
variable {X:Cx}{e:Expr}{te:TE}{lo hi:Option Expr}{tl th:TO}{pos p2:Pos}
theorem GH:PO X none OX:=by
 intro jb s σ H Q I h;rw[evalPart_none];exact B0 ⟨none,H,I,.none,h⟩
theorem GI (h:PE X e te):PO X (some e) (tPart te):=by
 intro jb s σ H Q I hw;rw[evalPart_some];refine thn (h jb s σ H _ I hw) λu s1 ⟨x,H1,I1,r1,q1⟩=>?_;obtain⟨i,rfl,q⟩:=q1;obtain⟨t,rfl⟩:=r1;exact⟨some i,H1,I1,.int i t,q⟩
def SlR (X:Cx)(r:V->Option Int->Option Int->Hp->VK->Prop):Prop:=
 ∀ (jb : List (A0 × Obj)) (s : A6) (σ : St) (H : Hp) (x : V) (v vl vu : A1) (lo hi : Option Int) (sl : A0) (Q : VK), Inv X jb σ H s -> RelV x v -> s.heap.IsSliceOf sl vl vu .none -> IsPart vl lo -> IsPart vu hi -> r x lo hi H Q ->
   ∃T id,typeLookup (.type T) "__getitem__"=pure (some (.builtin id))/\s.TypeIs v T/\A7 (A8 X.prog X.w) X.A (c6 v (.ref sl)) (EP X jb σ Q) X.xe s
theorem SlR.or (h:SlR X r)(h':SlR X r'):SlR X (λx lo hi H Q=>r x lo hi H Q\/r' x lo hi H Q):=by
 intro jb s σ H x v vl vu lo hi sl Q I rx hs pl pu q;rcases q with q|q
 ·exact h jb s σ H x v vl vu lo hi sl Q I rx hs pl pu q
 ·exact h' jb s σ H x v vl vu lo hi sl Q I rx hs pl pu q
def tSl (r:V->Option Int->Option Int->Hp->VK->Prop)(te:TE)(tl th:TO):TE:=λσ H Q=>te σ H λx H1=>tl σ H1 λl H2=>th σ H2 λu H3=>r x l u H3 Q
theorem GJ (hr:SlR X r)(he:PE X e te)(hl:PO X lo tl)(hu:PO X hi th):PE X (.Subscript e (.Slice lo hi none p2) pos) (tSl r te tl th):=by
 intro jb s σ H Q I h;refine Subscript_ (thn (he jb s σ H _ I h) λv s1 ⟨x,H1,I1,r1,q1⟩=>?_);refine wpAny_Slice (thn (hl jb s1 σ H1 _ I1 q1) λvl s2 ⟨l,H2,I2,pl,q2⟩=>thn (hu jb s2 σ H2 _ I2 q2) λvu s3 ⟨u,H3,I3,pu,q3⟩=>?_);rw[evalPart_none];refine B0 ?_;have I4:Inv X jb σ H3 { s3 with heap:=s3.heap.push { cls:=.type "slice",data:=.fields #[vl,vu,.none] } }:=I3.kept (t':=s3.toks) λb ob q=>C7 _ q;obtain⟨T,id,hT,ht,hg⟩:=hr jb { s3 with heap:=s3.heap.push { cls:=.type "slice",data:=.fields #[vl,vu,.none] } } σ H3 x v vl vu l u s3.heap.objs.size Q I4 r1 (Heap.IsSliceOf.new ..) pl pu q3;show A7 (A8 X.prog X.w) X.A (subscriptTail e (.Slice lo hi none p2) v (.ref s3.heap.objs.size)) (EP X jb σ Q) X.xe { s3 with heap:=s3.heap.push { cls:=.type "slice",data:=.fields #[vl,vu,.none] } };exact tail_any (ops:=[.ref s3.heap.objs.size,v]) ht hT hg (by with_unfolding_all rfl)
def cutV (xs:List V)(lo hi:Option Int):List V:=(xs.drop (HT.sIx xs.length 0 lo)).take (HT.sIx xs.length xs.length hi-HT.sIx xs.length 0 lo)
theorem JL (xs:List V)(lo hi:Option Int):(cutV xs lo hi).length<=xs.length:=by
 unfold cutV;rw[T5,X5];omega
def rSlT (K:A9):V->Option Int->Option Int->Hp->VK->Prop:=λx lo hi H Q=>∃a xs,x=.ref a/\SqT K H a xs/\
 ¬(HT.sIx xs.length 0 lo=0/\HT.sIx xs.length xs.length hi=xs.length)/\∀p,H p=none->Q (.ref p) (upd H p (.tup (cutV xs lo hi)))
theorem sl_tup:SlR X (rSlT X.K):=by
 intro jb s σ H x v vl vu lo hi sl Q I rx hs pl pu h;obtain⟨a,xs,rfl,hx,hw,q⟩:=h;cases rx;obtain⟨jf,r,ht,hz⟩:=I.tuple hx;have hlen:jf.toArray.size=xs.length:=by rw[F9];exact r.length.symm
 refine⟨"tuple",_,PyProof.Rows.slot_tuple_getitem.lookup,ht.typeIs,?_⟩;refine HT.getItem_tuple_cut ht hs pl pu (by rw[hlen];exact hw) ?_ (by rw[hlen];exact hz);rw[hlen];refine⟨.ref s.heap.objs.size,_,I.laid (t':=s.toks) (o:=.tup (cutV xs lo hi)) (λb ob q=>C7 _ q) (B8 _) ?_,rfl,q _ (I.hok.fresh (B8 _))⟩;exact⟨N6 (JL xs lo hi) hz,_,(r.drop (HT.sIx xs.length 0 lo)).take (HT.sIx xs.length xs.length hi-HT.sIx xs.length 0 lo),e9.new _ _⟩
def rCatT (K:A9):R2:=λx y H Q=>∃a b xs ys,x=.ref a/\y=.ref b/\SqT K H a xs/\SqT K H b ys/\xs≠[]/\xs.length+ys.length<=C2/\
 (ys=[]->Q (.ref a) H)/\(ys≠[]->∀p,H p=none->Q (.ref p) (upd H p (.tup (xs++ys))))
theorem Vals.nil_iff (r:Vals xs us):us=[]↔xs=[]:=by
 cases r with
 |nil=>simp
 |cons _ _=>simp
theorem OY:OpR X (U3 .Add) (rCatT X.K):=by
 intro jb s σ H x y v u Q I rx ry h;obtain⟨a,b,xs,ys,rfl,rfl,ha,hb,hx,hz,q1,q2⟩:=h;cases rx;cases ry;obtain⟨jf,r1,p1,_⟩:=I.tuple ha;obtain⟨its2,r2,p2,_⟩:=I.tuple hb;refine HT.cat_tup p1 p2 (λz=>hx (r1.nil_iff.mp z)) (λz=>⟨.ref a,H,I,rfl,q1 (r2.nil_iff.mp z)⟩) (λz=>?_) (by rw[<- r1.length,<- r2.length];exact hz);refine⟨.ref s.heap.objs.size,_,I.laid (t':=s.toks) (o:=.tup (xs++ys)) (λb ob q=>C7 _ q) (B8 _) ?_,rfl,q2 (λw=>z (r2.nil_iff.mpr w)) _ (I.hok.fresh (B8 _))⟩;exact⟨by rw[E7];exact hz,_,r1.append r2,e9.new _ _⟩
end
def ixN (n:Nat)(i:Int):Option Nat:=if 0<=i then(if i<n then some i.toNat else none) else if -(n:Int)<=i then some (i+n).toNat else none
def atI {α:Type}(xs:List α)(i:Int):Option α:=(ixN xs.length i).bind λj=>xs[j]?
theorem GK (h:ixN n i=some j):seqIndex? i n=some j/\j<n/\-(n:Int)<=i/\i<n:=by
 unfold ixN at h
 by_cases h0:0<=i
 ·rw[jr h0] at h
  by_cases h1:i<n
  ·rw[jr h1] at h;have e:i.toNat=j:=P0 h;exact⟨by rw[seqIndex_of h0 h1,e],by omega,by omega,h1⟩
  ·rw[jt h1] at h;cases h
 ·rw[jt h0] at h
  by_cases h1:-(n:Int)<=i
  ·rw[jr h1] at h;have e:(i+n).toNat=j:=P0 h;exact⟨by rw[seqIndex_neg (by omega) h1,e],by omega,h1,by omega⟩
  ·rw[jt h1] at h;cases h
theorem GL {α:Type}{xs:List α}{i:Int}{v:α}(h:atI xs i=some v):∃j,seqIndex? i xs.length=some j/\xs[j]?=some v/\j<xs.length/\-(xs.length:Int)<=i/\i<xs.length:=by
 unfold atI at h;cases e:ixN xs.length i with
 |none=>rw[e] at h;cases h
 | some j =>
  rw[e] at h;obtain⟨h1,h2,h3,h4⟩:=GK e;exact⟨j,h1,h,h2,h3,h4⟩
theorem AE {α:Type}{xs:List α}{j:Nat}{v:α}(h:xs[j]?=some v):atI xs (j:Int)=some v:=by
 have hj:j<xs.length:=(J5.mp h).1
 have e:ixN xs.length (j:Int)=some j:=by
  unfold ixN;rw[jr (by omega),jr (by omega)];simp
 unfold atI;rw[e];exact h
theorem OZ {α:Type}(xs:List α)(v:α):atI (xs++[v]) (-1)=some v:=by
 have hl:(xs++[v]).length=xs.length+1:=by simp
 have e:ixN (xs++[v]).length (-1)=some xs.length:=by
  unfold ixN;rw[hl,jt (by decide),jr (by omega)]
  congr 1
  omega
 unfold atI;rw[e];show(xs++[v])[xs.length]?=some v;simp
def GM (b:Expr):Prop:=∀o i,subscripted b false o i=operate [o,i] (c6 o i)
def IxR (X:Cx)(r:R2):Prop:=
 ∀ (value slice : Expr) (jb : List (A0 × Obj)) (s : A6) (σ : St) (H : Hp) (x y : V) (v u : A1) (Q : VK), Inv X jb σ H s -> RelV x v -> RelV y u -> r x y H Q ->
   subscripted slice false v u=operate [v,u] (c6 v u)->A7 (A8 X.prog X.w) X.A (subscriptTail value slice v u) (EP X jb σ Q) X.xe s
def MtR (X:Cx)(id:String)(r:V->List V->Hp->VK->Prop):Prop:=
 ∀ (jb : List (A0 × Obj)) (s : A6) (σ : St) (H : Hp) (x : V) (xs : List V) (v : A1) (us : List A1) (Q : VK), Inv X jb σ H s -> RelV x v -> Vals xs us -> r x xs H Q ->
   A7 (A8 X.prog X.w) X.A (call (.builtin id) (v::us)) (EP X jb σ Q) X.xe s
section
variable {X:Cx}{a b:Expr}{ta tb:TE}{pos:Pos}
theorem IxR.or (h:IxR X r)(h':IxR X r'):IxR X (λx y H Q=>r x y H Q\/r' x y H Q):=by
 intro value slice jb s σ H x y v u Q I rx ry q hs;rcases q with q|q
 ·exact h value slice jb s σ H x y v u Q I rx ry q hs
 ·exact h' value slice jb s σ H x y v u Q I rx ry q hs
theorem GN (hr:IxR X r)(ha:PE X a ta)(hb:PE X b tb)(hs:GM b):PE X (.Subscript a b pos) (tOp r ta tb):=by
 intro jb s σ H Q I h;exact Subscript_ (binT ha hb I h λv u s2 x y H2 I2 rx ry q=>hr a b jb s2 σ H2 x y v u Q I2 rx ry q (hs _ _))
def rIxL (K:A9):R2:=λx y H Q=>∃p xs i v,x=.ref p/\y=.int i/\SqL K H p xs/\atI xs i=some v/\Q v H
def rIxT (K:A9):R2:=λx y H Q=>∃p xs i v,x=.ref p/\y=.int i/\SqT K H p xs/\atI xs i=some v/\Q v H
def rIxS:R2:=λx y H Q=>∃z i c,x=.str z/\y=.int i/\z.length<=C2/\atI z.cps.toList i=some c/\Q (.str ⟨#[c]⟩) H
theorem JM:IxR X (rIxL X.K):=by
 intro value slice jb s σ H x y v u Q I rx ry h hs;obtain⟨p,xs,i,z,rfl,rfl,hq,he,q⟩:=h;cases rx;obtain⟨t,rfl⟩:=ry;obtain⟨jf,r,pl,hz⟩:=I.list hq;obtain⟨j,h1,h2,h3,h4,h5⟩:=GL he;obtain⟨w,ew,rw'⟩:=r.get h2;have hl:=r.length;have hn:=AA;have fin:EP X jb σ Q w s:=⟨z,H,I,rw',q⟩
 by_cases h0:0<=i
 ·have hj:i.toNat=j:=by
   rw[seqIndex_of h0 h5] at h1;exact P0 h1
  exact item_listR pl.isList h0 (by omega) (by rw[hj];simpa using ew) fin hs
 ·have hj:(i+(jf.toArray.size:Int)).toNat=j:=by
   rw[seqIndex_neg (by omega) h4] at h1;rw[F9,<- hl];exact P0 h1
  exact subscriptTail_builtinR (x:=w) pl.isList.typeIs slot_list_getitem.lookup
    (wpAny_getItem_list_neg (Q:=λr s'=>r=w/\EP X jb σ Q r s') pl.isList (by omega) (by rw[F9] <;> omega) (by omega) (by rw[hj];simpa using ew) ⟨rfl,fin⟩) hs
theorem ix_tup:IxR X (rIxT X.K):=by
 intro value slice jb s σ H x y v u Q I rx ry h hs;obtain⟨p,xs,i,z,rfl,rfl,hq,he,q⟩:=h;cases rx;obtain⟨t,rfl⟩:=ry;obtain⟨jf,r,pl,hz⟩:=I.tuple hq;obtain⟨j,h1,h2,h3,h4,h5⟩:=GL he;obtain⟨w,ew,rw'⟩:=r.get h2;have hl:=r.length;have hn:=AA;have fin:EP X jb σ Q w s:=⟨z,H,I,rw',q⟩
 exact subscriptTail_builtinR (x:=w) pl.typeIs slot_tuple_getitem.lookup
   (getItem_tuple (j:=j) (Q:=λr s'=>r=w/\EP X jb σ Q r s') pl (by omega) (by omega) (by grind) (by grind) ⟨rfl,fin⟩) hs
theorem ix_str:IxR X rIxS:=by
 intro value slice jb s σ H x y v u Q I rx ry h hs;obtain⟨z,i,c,rfl,rfl,hz,he,q⟩:=h;obtain⟨t,rfl⟩:=rx;obtain⟨t',rfl⟩:=ry;obtain⟨j,h1,h2,h3,h4,h5⟩:=GL he;have hl:z.cps.toList.length=z.length:=by simp[Str.length]
 rw[hl] at h1 h4 h5;have hn:=AA
 exact tail_any (typeIs_str s z t) slot_str_getitem.lookup (getItem_str (c:=c) (by
  have e1:decide (i < -(2 ^ 63:Int))=false:=jq (by omega);have e2:decide (i>=2 ^ 63)=false:=jq (by omega)
  rw[e1,e2,Bp]) (by grind) ⟨.str ⟨#[c]⟩,H,I.tok _,⟨_,rfl⟩,q⟩) hs
def rIx (K:A9):R2:=λx y H Q=>rIxL K x y H Q\/rIxT K x y H Q\/rIxS x y H Q
theorem JN:IxR X (rIx X.K):=JM.or (ix_tup.or ix_str)
theorem O_ (jf:List A1)(n j:Nat)(u:A1):G8 (·.setIfInBounds j u) { cls:=.type "list",data:=.seq jf.toArray n }={ cls:=.type "list",data:=.seq (jf.set j u).toArray n }:=by
 simp[G8]
theorem Inv.lst (I:Inv X jb σ H s)(h:H p=some (.lst xs)) :
   ∃(jf:List A1) (n:Nat),Vals xs jf/\s.heap.get? p=some { cls:=.type "list",data:=.seq jf.toArray n }/\xs.length<=C2:=by
 obtain⟨z,jf,n,r,e⟩:=I.hok p _ h;exact⟨jf,n,r,e,z⟩
theorem Inv.lstUpd {jf its':List A1}(I:Inv X jb σ H s)(h:H p=some (.lst xs))
   (ho:s.heap.get? p=some { cls:=.type "list",data:=.seq jf.toArray n }) (hf:f { cls:=.type "list",data:=.seq jf.toArray n }={ cls:=.type "list",data:=.seq its'.toArray n' }) (r:Vals ys its') (hz:ys.length<=C2) (t:Nat) :
   Inv X jb σ (upd H p (.lst ys)) { s with heap:=s.heap.update p f,toks:=t }:=by
 have e:(s.heap.update p f).get? p=some { cls:=.type "list",data:=.seq its'.toArray n' }:=by
  rw[Bd f ho (by rw[hf] <;> rfl),hf]
 refine I.write (x:=p) (e:=p) (by rw[h];trivial) (.inl rfl) (λb u hb q=>(Bc _ _ (Ne.symm hb)).trans q) ⟨_,e⟩ ?_;exact⟨hz,its',n',r,e⟩
def CU:V->V->V->Hp->(Hp->Prop)->Prop:=λo i v H Q=>∃p xs k j,o=.ref p/\i=.int k/\H p=some (.lst xs)/\ixN xs.length k=some j/\Q (upd H p (.lst (xs.set j v)))
theorem Pa:PSet X CU:=by
 intro jb s σ H o i v ov iv u Q I ro ri rv h;obtain⟨p,xs,k,j,rfl,rfl,hp,hj,q⟩:=h;cases ro;obtain⟨t,rfl⟩:=ri;obtain⟨jf,n,r,ho,hz⟩:=I.lst hp;obtain⟨h1,h2,h3,h4⟩:=GK hj;have hl:=r.length;have hn:=AA
 have I':Inv X jb σ (upd H p (.lst (xs.set j v))) { s with heap:=s.heap.update p (G8 (·.setIfInBounds j u)) }:=
  I.lstUpd hp ho (O_ jf n j u) (r.set rv j) (by grind) s.toks
 by_cases h0:0<=k
 ·have hk:k.toNat=j:=by
   rw[seqIndex_of h0 h4] at h1;exact P0 h1
  exact PySem.W.ki_setAt ho h0 (by omega) (by grind) (by grind)
 ·have hk:(k+(jf.toArray.size:Int)).toNat=j:=by
   rw[seqIndex_neg (by omega) h3] at h1;rw[F9,<- hl];exact P0 h1
  exact PySem.W.ki_setBack ho (by omega) (by rw[F9,<- hl];exact h3) (by omega) (by rw[hk];exact⟨_,I',q⟩)
theorem Pb (lo hi:Option Int)(n:Nat):(Am lo hi none n).1=((HT.sIx n 0 lo:Nat):Int)/\(Am lo hi none n).2.1=((HT.sIx n n hi:Nat):Int)/\(Am lo hi none n).2.2=1:=by
 refine⟨?_,?_,rfl⟩
 ·cases lo with
  |none=>simp[Am,HT.sIx]
  | some i =>
   simp only[Am,HT.sIx,Option.getD_none,show(1:Int)>0 by decide,if_true]
   by_cases h:i<0
   ·simp only[h,if_true] <;> omega
   ·simp only[h,if_false] <;> omega
 ·cases hi with
  |none=>simp[Am,HT.sIx]
  | some i =>
   simp only[Am,HT.sIx,Option.getD_none,show(1:Int)>0 by decide,if_true]
   by_cases h:i<0
   ·simp only[h,if_true] <;> omega
   ·simp only[h,if_false] <;> omega
theorem Pc (jf:List A1)(lo hi:Option Int):slicePick jf.toArray lo hi none=((jf.drop (HT.sIx jf.length 0 lo)).take (HT.sIx jf.length jf.length hi-HT.sIx jf.length 0 lo)).toArray:=by
 obtain⟨h1,h2,h3⟩:=Pb lo hi jf.toArray.size;unfold slicePick;rw[h1,h2,h3];simp only[sliceRange_one,pick_run,F9] <;> rfl
def rSlL (K:A9):V->Option Int->Option Int->Hp->VK->Prop:=λx lo hi H Q=>∃a xs,x=.ref a/\SqL K H a xs/\∀p,H p=none->Q (.ref p) (upd H p (.lst (cutV xs lo hi)))
theorem GO:SlR X (rSlL X.K):=by
 intro jb s σ H x v vl vu lo hi sl Q I rx hs pl pu h;obtain⟨a,xs,rfl,hx,q⟩:=h;cases rx;obtain⟨jf,r,ht,hz⟩:=I.list hx;have hlen:=r.length;refine⟨"list",_,slot_list_getitem.lookup,ht.isList.typeIs,?_⟩;refine wpAny_getItem_list_slice ht.isList hs pl pu .none (by simp) ?_ (by rw[F9] <;> omega)
 rw[Pc,<- hlen];refine⟨.ref s.heap.objs.size,_,I.laid (t':=s.toks) (o:=.lst (cutV xs lo hi)) (λb ob q=>C7 _ q) (B8 _) ?_,rfl,q _ (I.hok.fresh (B8 _))⟩;exact⟨N6 (JL xs lo hi) hz,_,0,(r.drop (HT.sIx xs.length 0 lo)).take (HT.sIx xs.length xs.length hi-HT.sIx xs.length 0 lo),G7 _ rfl⟩
def T8:V->Bool
 |.non=>true
 |.bl _=>true
 |.int _=>true
 |.str _=>true
 |_=>false
def eqV:V->V->Bool
 |.non,.non=>true
 |.bl a,.bl b=>a == b
 |.bl a,.int b=>(if a then 1 else 0) == b
 |.int a,.bl b=>a == (if b then 1 else 0)
 |.int a,.int b=>a == b
 |.str a,.str b=>a == b
 |_,_=>false
theorem JO (ry:RelV y u)(rx:RelV x v)(fy:T8 y=true)(fx:T8 x=true):Ay A s u v (eqV y x):=by
 cases y with
 | non =>
  cases ry;cases x with
  |non=>cases rx;exact SeqAt.EqAt.same _
  |bl b=>cases rx;exact SeqAt.EqAt.none_bool b
  |int b=>obtain⟨t,rfl⟩:=rx;exact SeqAt.EqAt.none_int b t
  |str b=>obtain⟨t,rfl⟩:=rx;exact SeqAt.EqAt.none_str b t
  |_=>exact absurd (show false=true from fx) O2
 | bl a =>
  cases ry;cases x with
  |non=>cases rx;exact SeqAt.EqAt.bool_none a
  |bl b=>cases rx;exact SeqAt.EqAt.bool_bool a b
  |int b=>obtain⟨t,rfl⟩:=rx;exact SeqAt.EqAt.bool_int a b t
  |str b=>obtain⟨t,rfl⟩:=rx;exact SeqAt.EqAt.bool_str a b t
  |_=>exact absurd (show false=true from fx) O2
 | int a =>
  obtain⟨t',rfl⟩:=ry;cases x with
  |non=>cases rx;exact SeqAt.EqAt.int_none a t'
  |bl b=>cases rx;exact SeqAt.EqAt.int_bool a t' b
  |int b=>obtain⟨t,rfl⟩:=rx;exact SeqAt.EqAt.int_int a t' b t
  |str b=>obtain⟨t,rfl⟩:=rx;exact SeqAt.EqAt.int_str a t' b t
  |_=>exact absurd (show false=true from fx) O2
 | str a =>
  obtain⟨t',rfl⟩:=ry;cases x with
  |non=>cases rx;exact SeqAt.EqAt.str_none a t'
  |bl b=>cases rx;exact SeqAt.EqAt.str_bool a t' b
  |int b=>obtain⟨t,rfl⟩:=rx;exact SeqAt.EqAt.str_int a t' b t
  |str b=>obtain⟨t,rfl⟩:=rx;exact SeqAt.EqAt.str_str a t' b t
  |_=>exact absurd (show false=true from fx) O2
 |_=>exact absurd (show false=true from fy) O2
theorem Pd:OpR X (P7 .NotIn) (λx y H Q=>∃i j,x=.str i/\y=.str j/\Q (.bl (!(!(Bt j i 0 j.length 1).isEmpty))) H):=by
 intro jb s σ H x y v u Q I rx ry h;obtain⟨i,j,rfl,rfl,q⟩:=h;obtain⟨t,rfl⟩:=rx;obtain⟨t',rfl⟩:=ry;exact notIn_str ⟨.bl _,H,I,rfl,q⟩
theorem GP:M4 X (.builtin "len") (λxs H Q=>∃p ys,xs=[.ref p]/\(SqL X.K H p ys\/SqT X.K H p ys)/\Q (.int ys.length) H):=by
 intro jb s σ H xs us Q I r h;obtain⟨p,ys,rfl,hq,q⟩:=h;obtain⟨u,rfl,rx⟩:=AB r;cases rx;have hn:=AA;rcases hq with hq|hq
 ·obtain⟨jf,r',pl,hz⟩:=I.list hq;have hlen:=r'.length;exact Calls.call_len_list pl.isList (by simp only[F9] <;> omega) ⟨.int ys.length,H,I.tok _,⟨s.toks+1,by rw[F9,hlen]⟩,q⟩
 ·obtain⟨jf,r',pl,hz⟩:=I.tuple hq;have hlen:=r'.length;exact len_tuple pl (by simp only[F9] <;> omega) ⟨.int ys.length,H,I.tok _,⟨s.toks+1,by rw[F9,hlen]⟩,q⟩
theorem Pe:M4 X (.builtin "len") (λxs H Q=>∃z,xs=[.str z]/\z.length<=C2/\Q (.int z.length) H):=by
 intro jb s σ H xs us Q I r h;obtain⟨z,rfl,hz,q⟩:=h;obtain⟨u,rfl,t,rfl⟩:=AB r;have hn:=AA;exact len_str (by omega) ⟨.int z.length,H,I.tok _,⟨_,rfl⟩,q⟩
theorem M4.or (h:M4 X f r)(h':M4 X f r'):M4 X f (λxs H Q=>r xs H Q\/r' xs H Q):=by
 intro jb s σ H xs us Q I rs q;rcases q with q|q
 ·exact h jb s σ H xs us Q I rs q
 ·exact h' jb s σ H xs us Q I rs q
theorem JP:M4 X (.type "list") (λxs H Q=>∃p ys,xs=[.ref p]/\(SqL X.K H p ys\/SqT X.K H p ys)/\∀l,H l=none->Q (.ref l) (upd H l (.lst ys))):=by
 intro jb s σ H xs us Q I r h;obtain⟨p,ys,rfl,hq,q⟩:=h;obtain⟨u,rfl,rx⟩:=AB r;cases rx
 have fin:∀(jf:List A1),Vals ys jf->ys.length<=C2->∀(h':B7) (c':Nat),(∀b o',s.heap.get? b=some o'->h'.get? b=some o')->
     h'.get? s.heap.objs.size=some { cls:=.type "list",dict:=none,data:=.seq jf.toArray c',slots:=#[] }->EP X jb σ Q (.ref s.heap.objs.size) { s with heap:=h' }:=λjf r' hz h' c' kp e=>
   ⟨.ref s.heap.objs.size,_,I.laid (t':=s.toks) kp (B8 _) (show J0 X.prog X.w _ h' _ (.lst ys) from⟨hz,jf,c',r',e⟩),rfl,q _ (I.hok.fresh (B8 _))⟩
 rcases hq with hq|hq
 ·obtain⟨jf,r',pl,hz⟩:=I.list hq;have hlen:=r'.length;obtain⟨o,ho,hc,n,hd⟩:=pl.isList;exact call_list_seq p (.inl rfl) ho hc hd (λh' c' kp e=>fin jf r' hz h' c' kp e) (by simp only[F9] <;> omega)
 ·obtain⟨jf,r',pl,hz⟩:=I.tuple hq;have hlen:=r'.length;obtain⟨o,ho,hc,n,hd⟩:=pl;exact call_list_seq p (.inr rfl) ho hc hd (λh' c' kp e=>fin jf r' hz h' c' kp e) (by simp only[F9] <;> omega)
theorem Pf:M4 X (.type "tuple") (λxs H Q=>∃p ys,xs=[.ref p]/\((SqL X.K H p ys/\∀l,H l=none->Q (.ref l) (upd H l (.tup ys)))\/(SqT X.K H p ys/\Q (.ref p) H))):=by
 intro jb s σ H xs us Q I r h;obtain⟨p,ys,rfl,h⟩:=h;obtain⟨u,rfl,rx⟩:=AB r;cases rx;rcases h with⟨hq,q⟩|⟨hq,q⟩
 ·obtain⟨jf,r',pl,hz⟩:=I.list hq;have hlen:=r'.length;refine call_tuple_list pl.isList (λh' kp=>?_) (by simp only[F9] <;> omega)
  have I1:Inv X jb σ H { s with heap:=h' }:=I.kept (t':=s.toks) kp
  have I2:Inv X jb σ (upd H h'.objs.size (.tup ys)) { s with heap:=h'.push { cls:=.type "tuple",data:=.seq jf.toArray } }:=
   I1.laid (t':=s.toks) (λb o e=>C7 _ e) (B8 _) (show J0 X.prog X.w _ _ _ (.tup ys) from⟨hz,jf,r',e9.new _ _⟩)
  exact⟨.ref h'.objs.size,_,I2,rfl,q _ (I1.hok.fresh (B8 _))⟩
 ·obtain⟨jf,r',pl,hz⟩:=I.tuple hq;exact call_tuple_same pl ⟨.ref p,H,I,rfl,q⟩
def tyV (K:A9)(T:String)(x:V)(H:Hp):Prop:=match x with
 |.str _=>T="str"
 |.int _=>T="int"
 |.ref p=>(T="list"/\∃xs,SqL K H p xs)\/(T="tuple"/\((∃o,K.lookup p=some o/\o.cls=.type "tuple"/\o.dict=none)\/∃xs,H p=some (.tup xs)))\/
     (T="dict"/\((∃jg,H p=some (.dK jg))\/∃jg,H p=some (.dT jg)))\/(T="set"/\∃S n,H p=some (.set S n))
 |_=>False
theorem JQ (I:Inv X jb σ H s)(r:RelV x v)(ty:tyV X.K T x H) :
   s.TypeIs v T/\∀a,v=.ref a->∃ob,s.heap.get? a=some ob/\ob.dict=none:=by
 cases x with
 | str z =>
  obtain⟨t,rfl⟩:=r;cases(show T="str" from ty);exact⟨typeIs_str s z t,λ_ e=>nomatch e⟩
 | int i =>
  obtain⟨t,rfl⟩:=r;cases(show T="int" from ty);exact⟨typeIs_int s i t,λ_ e=>nomatch e⟩
 | ref p =>
  cases r;rcases ty with⟨rfl,xs,hq⟩|⟨rfl,hk⟩|⟨rfl,hk⟩|⟨rfl,S,n,hk⟩
  ·obtain⟨jf,_,pl,_⟩:=I.list hq;refine⟨pl.isList.typeIs,λa e=>?_⟩;cases e;obtain⟨o,n,e,c,hd,_⟩:=pl;exact⟨o,e,hd⟩
  ·rcases hk with⟨o,hk,hc,hd⟩|⟨xs,hk⟩
   ·refine⟨⟨o,I.kIn p o hk,hc⟩,λa e=>?_⟩;cases e;exact⟨o,I.kIn _ o hk,hd⟩
   ·obtain⟨_,_,_,o,e,c,_⟩:=(show J0 X.prog X.w H s.heap p (.tup xs) from I.hok p _ hk);refine⟨⟨o,e,(BA c).1⟩,λa e2=>?_⟩;cases e2;exact⟨o,e,(BA c).2⟩
  ·have z:∃o,s.heap.get? p=some o/\o.ExactDict:=by
    rcases hk with⟨jg,hk⟩|⟨jg,hk⟩
    ·obtain⟨_,_,_,_,o,_,_,e,ex,_⟩:=I.hok p _ hk;exact⟨o,e,ex⟩
    ·obtain⟨_,_,_,_,o,_,_,e,ex,_⟩:=I.hok p _ hk;exact⟨o,e,ex⟩
   obtain⟨o,e,ex⟩:=z;refine⟨⟨o,e,ex.1⟩,λa e2=>?_⟩;cases e2;exact⟨o,e,ex.2.1⟩
  ·obtain⟨o,_,_,_,e,ex,_⟩:=I.hok p _ hk;refine⟨⟨o,e,ex.1⟩,λa e2=>?_⟩;cases e2;exact⟨o,e,ex.2.1⟩
 |_=>exact e7 ty
def tBM0 (K:A9)(T:String)(r:V->List V->Hp->VK->Prop)(to:TE):TE:=λσ H Q=>to σ H λx H1=>tyV K T x H1/\r x [] H1 Q
def tBM (K:A9)(T:String)(r:V->List V->Hp->VK->Prop)(to:TE)(t:TA):TE:=λσ H Q=>to σ H λx H1=>tyV K T x H1/\t σ H1 λxs H2=>r x xs H2 Q
variable {o e:Expr}{es:List Expr}{to:TE}{t:TA}{name:Str}{apos cpos:Pos}{T id:String}{r:V->List V->Hp->VK->Prop}
theorem pe_bm0 (pa:PlainAttrs T)(slot:Slot T name id)(hty:typeOf (.builtin id)=pure (.type "method_descriptor"))(hm:MtR X id r)(ho:PE X o to)
   (hbase:l5 o name X.env (eval o X.env)=eval o X.env:=by rfl) (hline:(apos.endLine == cpos.line)=true:=by rfl):PE X (.Call (.Attribute o name apos) [] [] cpos) (tBM0 X.K T r to):=by
 intro jb s σ H Q I h;refine wpAny_Call_method0_late hbase hline (thn (ho jb s σ H _ I h) λv s1 ⟨x,H1,I1,r1,ty,q1⟩=>?_);obtain⟨h1,h2⟩:=JQ I1 r1 ty;exact⟨T,id,pa,slot,hty,h1,h2,Calls.callWith_builtin rfl (PySem.evalArgs_none (hm jb s1 σ H1 x [] v [] Q I1 r1 .nil q1))⟩
theorem BG (pa:PlainAttrs T)(slot:Slot T name id)(hty:typeOf (.builtin id)=pure (.type "method_descriptor"))(hm:MtR X id r)(ho:PE X o to)(ha:PA X (e::es) t)
   (hbase:l5 o name X.env (eval o X.env)=eval o X.env:=by rfl)
   (hfew:((backTo cpos (E6 (e::es) X.env)).all (λx=>!x.1)&&(b9 cpos (b7 [] X.env)).all (λx=>x.1.isSome)
     && decide ((e::es).length+([]:List T0).length+(if([]:List T0).isEmpty then 0 else 1)<30))=true:=by rfl)
   (hline:(apos.endLine == cpos.line)=true:=by rfl) (hs:E6 (e::es) X.env=(false,eval e X.env)::E6 es X.env:=by rfl) (hplain:(backTo cpos (E6 es X.env)).any (·.1)=false:=by rfl) :
   PE X (.Call (.Attribute o name apos) (e::es) [] cpos) (tBM X.K T r to t):=by
 intro jb s σ H Q I h;refine wpAny_Call_method_late hbase hfew hline rfl (thn (ho jb s σ H _ I h) λv s1 ⟨x,H1,I1,r1,ty,q1⟩=>?_);obtain⟨h1,h2⟩:=JQ I1 r1 ty;refine⟨T,id,pa,slot,hty,h1,h2,?_⟩;have hA:=ha cpos jb s1 σ H1 _ I1 q1;rw[hs] at hA ⊢;refine Calls.callWith_builtin (by show(false||(backTo cpos (E6 es X.env)).any (·.1))=false;rw[hplain] <;> rfl) (Calls.evalArgs_plain ?_)
 exact thn hA λus s2 ⟨vs,H2,I2,r2,q2⟩=>hm jb s2 σ H2 x vs v us Q I2 r1 r2 q2
end
def MtM (X:Cx)(id:String)(r:V->List V->Hp->VK->Prop):Prop:=
 ∀ (jb : List (A0 × Obj)) (s : A6) (σ : St) (H : Hp) (x : V) (xs : List V) (v : A1) (us : List A1) (Q : VK), Inv X jb σ H s -> RelV x v -> Vals xs us -> r x xs H Q ->
   A7 (A8 X.prog X.w) X.A (call (.builtin id) (v::us)) (EP X jb σ Q) X.xe s
theorem Vals.one (h:Vals [x] us):∃u,us=[u]/\RelV x u:=by
 cases h with|cons r h=>cases h;exact⟨_,rfl,r⟩
theorem Vals.two (h:Vals [x,y] us):∃u v,us=[u,v]/\RelV x u/\RelV y v:=by
 cases h with|cons r h=>cases h with|cons q h=>cases h;exact⟨_,_,rfl,r,q⟩
theorem Vals.zero:∀{us:List A1},Vals [] us->us=[]
 |_,.nil=>rfl
theorem Vals.dropLast (h:Vals xs us):Vals xs.dropLast us.dropLast:=by
 induction h with
 |nil=>exact .nil
 | cons r t ih =>
  cases t with
  |nil=>exact .nil
  |cons q t'=>exact .cons r ih
theorem Vals.eraseIdx:∀{xs:List V} {us:List A1} (i:Nat),Vals xs us->Vals (xs.eraseIdx i) (us.eraseIdx i)
 |_,_,_,.nil=>.nil
 |_,_,0,.cons _ t=>t
 |_,_,i+1,.cons r t=>.cons r (Vals.eraseIdx i t)
theorem Pg {α:Type}(l:List α):l.eraseIdx (l.length-1)=l.dropLast:=by simp
theorem len_erase {α:Type}:∀(l:List α) (i:Nat),(l.eraseIdx i).length<=l.length:=by grind
section
variable {X:Cx}{jb:List (A0×Obj)}{σ:St}{H:Hp}{s:A6}{l b:A0}{xs ys zs:List V}
theorem Inv.lset {jf its':List A1}(I:Inv X jb σ H s)(hH:H l=some (.lst xs))
   (e:s.heap.get? l=some { cls:=.type "list",data:=.seq jf.toArray n }) (hf:f jf.toArray=its'.toArray) (hv:Vals ys its') (hz:ys.length<=C2) :
   Inv X jb σ (upd H l (.lst ys)) { s with heap:=s.heap.update l (G8 f),toks:=t' }:=by
 have q:=PySem.IsL.update e f;rw[hf] at q;refine I.write (x:=l) (e:=l) (by rw[hH];exact trivial) (.inl rfl) (λb' u hb hu=>(Bc s.heap (G8 f) (Ne.symm hb)).trans hu) ⟨_,q⟩ ?_;exact⟨hz,its',_,hv,q⟩
theorem Inv.lnew {jf:List A1}{t':Nat}(I:Inv X jb σ H s)(hv:Vals ys jf)(hz:ys.length<=C2) :
   Inv X jb σ (upd H s.heap.objs.size (.lst ys)) { s with heap:=s.heap.push { cls:=.type "list",data:=.seq jf.toArray },toks:=t' }:=
 I.laid (λ_ _ q=>C7 _ q) (B8 _) ⟨hz,jf,0,hv,G7 _ rfl⟩
theorem Inv.fresh (I:Inv X jb σ H s):H s.heap.objs.size=none:=I.hok.fresh (B8 _)
theorem Inv.lstM (I:Inv X jb σ H s)(hH:H l=some (.lst xs)):xs.length<=C2/\∃(jf:List A1) (n:Nat),Vals xs jf/\xs.length=jf.length/\s.heap.get? l=some { cls:=.type "list",data:=.seq jf.toArray n }:=by
 obtain⟨z,jf,n,r,e⟩:=I.hok l _ hH;exact⟨z,jf,n,r,r.length,e⟩
theorem Ph (h:n<=C2):EB n=false:=by
 unfold EB;exact jq (by omega)
end
section
variable {X:Cx}
def JR:V->List V->Hp->VK->Prop:=λx vs H Q=>∃l xs y,x=.ref l/\vs=[y]/\H l=some (.lst xs)/\xs.length<C2/\Q .non (upd H l (.lst (xs++[y])))
theorem JS:MtM X "list.append" JR:=by
 intro jb s σ H x vs v us Q I rx rv h;obtain⟨l,xs,y,rfl,rfl,hH,hz,q⟩:=h;cases rx;obtain⟨u,rfl,ru⟩:=rv.one;obtain⟨z,jf,n,r,hl,e⟩:=I.lstM hH;refine call_meets F.slot_list_append ⟨_,e,rfl⟩ F.entry_list_append (F.args_list_append_2 _ _) (PySem.list_append l jf.toArray n u (by rw[F9];omega)) ⟨e,?_⟩;refine⟨.non,_,I.lset (its':=jf++[u]) hH e (by simp) (r.append (.cons ru .nil)) ?_,rfl,q⟩;rw[E7,T4];omega
def rPop:V->List V->Hp->VK->Prop:=λx vs H Q=>∃l xs y,x=.ref l/\vs=[]/\H l=some (.lst xs)/\xs[xs.length-1]?=some y/\Q y (upd H l (.lst xs.dropLast))
theorem mt_pop:MtM X "list.pop" rPop:=by
 intro jb s σ H x vs v us Q I rx rv h;obtain⟨l,xs,y,rfl,rfl,hH,hy,q⟩:=h;cases rx;have hus:=rv.zero;subst hus;obtain⟨z,jf,n,r,hl,e⟩:=I.lstM hH;obtain⟨u,hu,ru⟩:=r.get hy
 have hy':jf.toArray[jf.toArray.size-1]?=some u:=by
  show jf.toArray[jf.length-1]?=some u;rw[<- T6,<- hl];exact hu
 refine call_meets F.slot_list_pop ⟨_,e,rfl⟩ F.entry_list_pop (F.args_list_pop_1 _) (MeetsSeq.list_pop_last l jf.toArray n u hy' (by rw[F9];omega)) ⟨e,?_⟩;refine⟨y,_,I.lset (its':=jf.dropLast) hH e ?_ r.dropLast ?_,ru,q⟩
 ·show jf.toArray.eraseIdxIfInBounds (jf.toArray.size-1)=jf.dropLast.toArray;rw[F9,List.eraseIdxIfInBounds_toArray,Pg]
 ·rw[List.length_dropLast];omega
def JT:V->List V->Hp->VK->Prop:=λx vs H Q=>∃l xs i k y,x=.ref l/\vs=[.int i]/\H l=some (.lst xs)/\-(2 ^ 63)<=i/\i<2 ^ 63/\seqIndex? i xs.length=some k/\xs[k]?=some y/\Q y (upd H l (.lst (xs.eraseIdx k)))
theorem Pi:MtM X "list.pop" JT:=by
 intro jb s σ H x vs v us Q I rx rv h;obtain⟨l,xs,i,k,y,rfl,rfl,hH,h1,h2,hk,hy,q⟩:=h;cases rx;obtain⟨u,rfl,ru⟩:=rv.one;obtain⟨t,rfl⟩:=ru;obtain⟨z,jf,n,r,hl,e⟩:=I.lstM hH;obtain⟨w,hw,rw'⟩:=r.get hy
 refine call_meets F.slot_list_pop ⟨_,e,rfl⟩ F.entry_list_pop (F.args_list_pop_2 _ _)
   (MeetsSeq.list_pop_at l jf.toArray n i t k w (fitsIndex_both h1 h2) (by grind) (by grind) (by grind)) ⟨e,?_⟩
 refine⟨y,_,I.lset (its':=jf.eraseIdx k) hH e ?_ (r.eraseIdx k) ?_,rw',q⟩
 ·grind
 grind
def rCat:R2:=λx y H Q=>∃l b xs zs,x=.ref l/\y=.ref b/\H l=some (.lst xs)/\H b=some (.lst zs)/\xs.length+zs.length<=C2/\∀p,H p=none->Q (.ref p) (upd H p (.lst (xs++zs)))
theorem op_cat:OpR X (U3 .Add) rCat:=by
 intro jb s σ H x y v u Q I rx ry h;obtain⟨l,b,xs,zs,rfl,rfl,hH,hB,hz,q⟩:=h;cases rx;cases ry;obtain⟨z,jf,n,r,hl,e⟩:=I.lstM hH;obtain⟨z2,its2,n2,r2,hl2,e2⟩:=I.lstM hB;refine PySem.P.add_list e e2 ?_ (by rw[F9,F9];omega);have ea:jf.toArray++its2.toArray=(jf++its2).toArray:=by simp
 rw[ea];exact⟨.ref _,_,I.lnew (t':=s.toks) (r.append r2) (by rw[E7];omega),rfl,q _ I.fresh⟩
end
end L2
namespace Att
open PySem PySem.W PySem.Calls PyProof.Rows
theorem Pj:∀(ns:List Int) (vs:List A1),WellAll P h vs (ns.map WData.int)->IntsAre vs ns:=by
 intro ns
 induction ns with
 | nil =>
  intro vs w;rw[Aq] at w;cases w;exact .nil
 | cons n ns ih =>
  intro vs w;rw[G9] at w;cases w with
  | cons a b =>
   cases a;exact .cons _ _ (ih _ b)
theorem Pk {l:OpenLaw}(hn:l.most=some n)
   (hpre:l.row.toRowW.claim.pre args=true) (hwl:WellAll P h vals args) :
   ∃a vs ns,vals=[M3 a]/\args=[WData.list (ns.map WData.int)]/\h.get? a=some { cls:=.type "list",data:=.seq vs.toArray }/\IntsAre vs ns/\ns.length<=n:=by
 have hsh:WShape.hasAll [] args [.list .int]=true:=(pre_splitW hpre).1;have hc:l.pre.holds [] { args:=args }=true:=(pre_splitW hpre).2;obtain⟨d,r,rfl,h1,h2⟩:=hasAllW_cons hsh;obtain rfl:=hasAllW_nil h2;obtain⟨xs,rfl,h3⟩:=hasW_list h1;obtain⟨ns,rfl⟩:=items_int h3
 have hlen:ns.length<=n:=by
  unfold OpenLaw.pre at hc
  have h4:(WTm.not (.lt (.lit (.int (n:Int))) (.len (.arg 0)))).holds [] { args:=[.list (ns.map .int)] }=true:=by
   have h4:=(holds_andW hc).1;rw[hn] at h4;exact h4
  have h5:=condW_of h4 (w_not (w_lt w_lit (w_len_list (w_arg rfl))));rw[B6] at h5;refine Bi λq=>?_;have q':(n:Int)<((ns.length:Nat):Int):=by omega
  first
    |(rw[jp q'] at h5;exact absurd h5 (by decide))
    |(simp at h5;omega)
 cases hwl with
 | cons w1 w2 =>
  cases w2;cases w1 with
  |list ho hall=>exact⟨_,_,ns,rfl,rfl,ho,Pj ns _ hall,hlen⟩
theorem Pl (l:OpenLaw)(args:List WData):l.row.toRowW.claim.post args (.bool true) args=true:=
 postW_of (r:=l.row.toRowW) (X:=(true == true))
   (show WShape.has [] (.bool true) .bool=true by first|rfl|decide|simp[WShape.has,WShape.arms,WShape.armsAll])
   (show(WTm.eq .res (.lit (.bool true))).value [] { args:=args,res:=some (.bool true),after:=args }=some (.bool (true == true)) from w_eq_bool (w_res rfl) w_lit) rfl
theorem attach_call {l:OpenLaw}
   (hn:l.most=some n) (hdf:d.params.defaults=[])
   (call:∀(w:C9) (s₀ s₁:A6) (mg mb:Str->Option A1) (fa:A0) (o:Obj) (pm cd doc:A1) (a:A0) (vs:List A1) (ns:List Int),
    Ground q loose [] XP w s₀ mg mb s₁.heap->YP w s₁.heap->
    s₁.heap.get? fa=some o->o.data=.func (docDef d.name d.params d.body d.scope pm cd doc)->s₁.heap.CodeRec cd d.name->mg d.name=some (.ref fa)->
    s₁.heap.get? a=some { cls:=.type "list",data:=.seq vs.toArray }->IntsAre vs ns->ns.length<=n->s₁.gens=#[]->
    O0 (A8 l.prog w) callerA (.call (.ref fa) ⟨[.ref a],[]⟩) (λr s'=>r=.ok (.ret (.bool true))/\OldK s₁.heap s'.heap/\s'.os=s₁.os/\AllBare s'.gens) s₁) :
   WalkO q loose XP YP l.row.toRowW d [] (λf vs=>PySem.call f vs):=by
 intro w s₀ s₁ mg mb G Y fa o pm cd doc dV kV ho hd hcd hD hmg hg args vals as hpre hlay hrd hwl hlo;obtain rfl:dV=.none:=Dflts.none hD hdf;obtain rfl:kV=.none:=Dflts.noKw hD;obtain⟨a,vs,ns,rfl,rfl,hobj,hints,hlen⟩:=Pk hn hpre hwl;refine enter_call (Ak (call w s₀ s₁ mg mb fa o pm cd doc a vs ns G Y ho (fd_plain hd) hcd hmg hobj hints hlen hg) λr s' hq=>?_);obtain⟨rfl,h2,h3,h4⟩:=hq;exact⟨.inl ⟨.bool true,.bool true,[],rfl,λ_=>rfl,.bool true,Pl l _,λ_=>⟨Gv,λ_ hm=>(nomatch hm)⟩⟩,h2,h3,h4⟩
end Att
namespace L2
open PySem PySem.Spec PyProof.Rows
theorem Pm (h:IntsAre vs ns):Vals (ns.map V.int) vs:=by
 induction h with
 |nil=>exact .nil
 |cons n t _ ih=>exact .cons ⟨t,rfl⟩ ih
abbrev KOf {K:A9}{h:B7}(_:K.In h):A9:=K
def U8 (s:Stmt):Arguments:=match s with
 |.FunctionDef _ a _ _ _ _ _ _ _ _=>a
 |_=>{ posonlyargs:=[],args:=[],vararg:=none,kwonlyargs:=[],kw_defaults:=[],kwarg:=none,defaults:=[] }
def O6 (s:Stmt):List Stmt:=match s with
 |.FunctionDef _ _ b _ _ _ _ _ _ _=>b
 |_=>[]
def G5 (s:Stmt):J7:=match s with
 |.FunctionDef _ _ _ _ _ _ sc _ _ _=>sc
 |_=>{ kind:=.function,names:=[],isGenerator:=false,isCoroutine:=false }
abbrev CX0:CXT:=λ_ _ _ _ _ _=>False
abbrev E0:XK:=λ_ _ _=>False
theorem pass0:GG CX0 X E0:=λ_ _ _ _ _ _ _ h=>h.elim
structure Fun (K:A9)(x qual:Str)(st:Stmt)(f:A0)(fd:FuncData):Prop where
 ex:∃(oc:A1) (od:Option A0) (kV doc pm:A1) (an:Option A0) (jn ct:A1) (osl:Array (Option A1)),
  fd=X3 x qual (U8 st) (O6 st) (G5 st) .none kV doc pm an jn ct/\K.lookup f=some ⟨oc,od,.func fd,osl⟩/\Eb K jn qual=true
 kp:Cm K (.ref f)=true
section
variable {P:D2}{w:C9}{K:A9}{mg:Str->Option A1}{base:B7}
theorem Fun.ok {st:Stmt}(F:Fun K x qual st f fd)(S:U7 N ps (G5 st))(len:∀vs H Q E,sp vs H Q E->vs.length=ps.length)
   (hbody:∀(jn:A1) (A:D8) (outer:List Env) (s:A6) (H:Hp) (vs:List V) (Q:VK) (E:XK),Room k (A.deeper (envOfC qual (G5 st) s.heap.objs.size f jn))->sp vs H Q E->
     ∃t,PSs (cxOf CX0 P w K mg base N qual (G5 st) f jn A outer s H E).nox (O6 st) t/\t { nx:=λ_ H'=>Q .non H',rt:=Q } (start N vs) H):FnOk P w K mg base CX0 (k+1) f fd ps sp:=by
 obtain⟨oc,od,kV,doc,pm,an,jn,ct,osl,rfl,lk,hcd⟩:=F.ex;refine fn_of lk hcd S len λA outer s H vs Q E hr hsp=>?_;obtain⟨t,h,q⟩:=hbody jn A outer s H vs Q E hr hsp;exact⟨t,h.nox,q⟩
theorem Fun.binds {st:Stmt}{f:A0}{fd:FuncData}{ps:List Str}(F:Fun K x qual st f fd)
   (h:∀(kV doc pm:A1) (an:Option A0) (jn ct:A1) (us:List A1),us.length=ps.length->Y1 (X3 x qual (U8 st) (O6 st) (G5 st) .none kV doc pm an jn ct) ⟨us,[]⟩=pure (ps.zip us)):BF K fd ps []:=by
 obtain⟨oc,od,kV,doc,pm,an,jn,ct,osl,rfl,lk,hcd⟩:=F.ex;exact .all (h kV doc pm an jn ct)
theorem fun_mk {x qual:Str}{st:Stmt}{f:A0}{oc:A1}{od an:Option A0}{osl:Array (Option A1)}{kV doc pm jn ct:A1}(l:K.lookup f=some ⟨oc,od,.func (X3 x qual (U8 st) (O6 st) (G5 st) .none kV doc pm an jn ct),osl⟩)
   (c:Eb K jn qual=true) (k:Cm K (.ref f)=true):Fun K x qual st f (X3 x qual (U8 st) (O6 st) (G5 st) .none kV doc pm an jn ct):=⟨⟨oc,od,kV,doc,pm,an,jn,ct,osl,rfl,l,c⟩,k⟩
end
theorem hu_of {A:D8}{k:Nat}(hr:Room k A):A.units+1<cLine:=Cz (Nat.add_le_add_left (by decide:1<=64) _) hr.units
section
variable {X:Cx}
theorem pv (i:Nat){x:Str}{pos:Pos}(hN:X.N[i]?=some x:=by rfl)(hv:Vis X.env.scope x:=by first|exact Or.inl rfl|exact Or.inr (Or.inl rfl)|exact Or.inr (Or.inr rfl))(hd:(x == ("__debug__":Str))=false:=by decide)
   (hcd:(x == ("__classdict__":Str))=false:=by decide):PE X (.Name x pos) (tVar i):=Jw hN hv hd hcd
end
theorem iteF {A B:Prop}(h:B):if false=true then A else B:=by grind
theorem iteT {A B:Prop}(h:A):if true=true then A else B:=by grind
theorem ite2 {c A B:Prop}[Decidable c](h1:c->A)(h2:¬c->B):if c then A else B:=by grind
def Same (H H':Hp):Prop:=∀b o,H b=some o->H' b=some o
theorem Same.refl (H:Hp):Same H H:=λ_ _ h=>h
theorem Same.trans {H H1 H2:Hp}(a:Same H H1)(b:Same H1 H2):Same H H2:=λc o h=>b c o (a c o h)
end L2
end
section
namespace L2
open PySem PySem.Spec PyProof.Rows
theorem JU {prog:D2}{w:C9}{A:D8}{R:Result->A6->Prop}{s:A6}{ji target iter:Expr}{jk:List Expr}{scope:J7}{pos:Pos}{it jl:A1}{env:Env}(I:Nat->A6->Prop)
   (turn:∀n s,I n s->A7 (A8 prog w) A (pyNext it) (fun r s₁=>match r with
    |none=>R (.ok .next) s₁
    |some v=>A7 (A8 prog w) A (v5 target it v) (λ_ s₁'=>A7 (A8 prog w) A (assign target env v) (λ_ s₂=>
        A7 (A8 prog w) A (forIn jk true fun c r=>if r=true then do let ok ← isTrue c env (eval c env);pure (x6 ok) else pure (x6 r)) (fun ok s₃=>
         if ok=true then A7 (A8 prog w) A (eval ji env) (λx s₄=>
          A7 (A8 prog w) A (call (.builtin "list.append") [jl,x]) (λ_ s₅=>∃m,m<n/\I m s₅) (λ_ _=>False) s₄) (λ_ _=>False) s₃
         else ∃m,m<n/\I m s₃) (λ_ _=>False) s₂) (λ_ _=>False) s₁') (λ_ _=>False) s₁) (λ_ _=>False) s)
   (n:Nat) (h:I n s) :
   O0 (A8 prog w) A (.compLoop (.ListComp ji [⟨target,iter,jk,0⟩] scope pos) 0 it jl env) R s:=by
 refine codeAny_loop rfl I (λn s hI=>?_) n h;show A7 _ A ((compTurn (.ListComp ji [⟨target,iter,jk,0⟩] scope pos) 0 it jl env).onRaise (λx=>do noteFrame x env;theTreesLotGoes x)) _ _ s;refine wpAny_noted ?_;rw[compTurn_list];refine A2 (Z9 (A2 (K1 (turn n s hI) (λr s₁ h₁=>?_) λ_ _ h'=>h'.elim)));cases r with
 |none=>exact B0 h₁
 | some v =>
  refine A2 (K1 h₁ (λ_ s₁' h₁'=>?_) λ_ _ h'=>h'.elim);refine A2 (K1 h₁' (λ_ s₂ h₂=>A2 (K1 h₂ (λok s₃ h₃=>?_) λ_ _ h'=>h'.elim)) λ_ _ h'=>h'.elim);cases ok with
  |false=>exact B0 ⟨rfl,h₃⟩
  | true =>
   exact A2 (A2 (K1 h₃ (λx s₄ h₄=>A2 (K1 h₄ (λ_ s₅ h₅=>B0 (B0 ⟨rfl,h₅⟩)) λ_ _ h'=>h'.elim)) λ_ _ h'=>h'.elim))
def J8 (X:Cx)(scope:J7)(cl:List (Str×A0))(N:List Str)(fp:List A0)(C:A0)(s:A6)(H:Hp):Cx where
 prog:=X.prog
 w:=X.w
 K:=X.K
 mg:=X.mg
 base:=X.base
 A:=X.A
 N:=N
 s₀:=s
 H₀:=H
 env:=compEnvC scope cl C X.env
 outer:=X.stack
 stack:=X.stack
 ex:=fp
 fn:=λ_=>false
 calm:=X.calm
 pn:=X.pn
 xe:=λ_ _=>False
structure q8 (X:Cx)(scope:J7)(cl:List (Str×A0))(N:List Str)(cs:List (Option Nat)):Prop where
 clos:closureFor scope X.env=pure cl
 kind:scope.kind=.function
 nocell:∀y∈scope.names,y.2≠.cell
 names:∀y∈scope.names,y.2=.local->scope.names.lookup y.1=some .local
 sub:∀x c,cl.lookup x=some c->X.env.cells.lookup x=some c
 has:∀x,((relabel scope X.env).names.lookup x=some .cell\/(relabel scope X.env).names.lookup x=some .free)->∃c,cl.lookup x=some c
 len:cs.length=N.length
 cap:∀(k j:Nat) (x:Str),cs[k]?=some (some j)->N[k]?=some x->X.N[j]?=some x/\Vis X.env.scope x/\X.env.kindOf x≠some .local/\(∃c,cl.lookup x=some c)/\((relabel scope X.env).names.lookup x=some .cell\/(relabel scope X.env).names.lookup x=some .free)
def CV:List (Str×A0)->List (Str×A0)->Prop
 |[],_=>True
 |y::r,cells=>cells.lookup y.1=some y.2/\CV r cells
theorem CV.get:∀{cl cells:List (Str×A0)},CV cl cells->∀x c,cl.lookup x=some c->cells.lookup x=some c:=by intro a;induction a <;> intros <;> grind [CV]
theorem y0 {X:Cx}{scope:J7}{cl:List (Str×A0)}{N:List Str}{cs:List (Option Nat)}(clos:closureFor scope X.env=pure cl)(kind:scope.kind=.function)(nocell:(scope.names.all λy=>!(y.2 == .cell))=true)
   (names:(scope.names.all λy=>!(y.2 == .local)||scope.names.lookup y.1 == some .local)=true) (sub:CV cl X.env.cells)
   (has:((relabel scope X.env).names.all λy=>!(y.2 == .cell||y.2 == .free)||(cl.lookup y.1).isSome)=true) (len:cs.length=N.length)
   (cap:((cs.zip N).all λy=>match y.1 with|none=>true|some j=>X.N[j]? == some y.2&&(X.env.scope.names.lookup y.2 == some .cell||X.env.scope.names.lookup y.2 == some .free)&&(cl.lookup y.2).isSome &&
     ((relabel scope X.env).names.lookup y.2 == some .cell||(relabel scope X.env).names.lookup y.2 == some .free))=true):q8 X scope cl N cs:=by
 refine⟨clos,kind,λy hy=>?_,λy hy e=>?_,sub.get,λx hx=>?_,len,λk j x hk hN=>?_⟩
 ·have:=N0.mp nocell y hy;intro z;rw[z] at this;cases this
 ·have:=N0.mp names y hy;rw[e] at this
  simpa using this
 ·rcases hx with hx|hx
  ·have:=N0.mp has _ (k9 hx);exact Ez.mp (by simpa using this)
  ·have:=N0.mp has _ (k9 hx);exact Ez.mp (by simpa using this)
 ·have hz:(cs.zip N)[k]?=some (some j,x):=by rw[List.getElem?_zip_eq_some];exact⟨hk,hN⟩
  have:=N0.mp cap _ (K8 hz);simp only[Bo,Ei,beq_iff_eq] at this;obtain⟨⟨⟨h1,h2⟩,h3⟩,h4⟩:=this;refine⟨h1,?_,?_,Ez.mp h3,h4⟩
  ·rcases h2 with h2|h2
   ·exact .inr (.inl h2)
   ·exact .inr (.inr h2)
  ·intro z;have z':X.env.scope.names.lookup x=some .local:=z;rw[z'] at h2;rcases h2 with h2|h2 <;> cases h2
def t0 (cs:List (Option Nat))(σ:St):St:=cs.map λo=>o.bind λj=>(σ[j]?).bind id
def PIf (X:Cx)(jk:List Expr)(t:TT):Prop:=
 ∀ (jb : List (A0 × Obj)) (s : A6) (σ : St) (H : Hp) (Q : Bool -> Hp -> Prop), Inv X jb σ H s -> t σ H Q ->
   A7 (A8 X.prog X.w) X.A (forIn jk true λc r=>if r=true then do let ok ← isTrue c X.env (eval c X.env);pure (x6 ok) else pure (x6 r)) (TP X jb σ Q) X.xe s
def tTru:TT:=λ_ H Q=>Q true H
theorem Pn {X:Cx}:PIf X [] tTru:=λjb s σ H Q I h=>wpAny_tests_nil ⟨H,I,h⟩
theorem Po {X:Cx}{c:Expr}{t:TT}(h:PT X c t):PIf X [c] t:=λjb s σ H Q I hq=>wpAny_tests_one (h jb s σ H Q I hq)
def CompW (J:It)(g:TG)(tt:TT)(te:TE)(Q:VK)(D:A0)(σc:St)(H1:Hp):Prop:=∃W:Nat->Nat->St->Hp->Prop,(∃m,W 0 m σc H1)/\
 ∀i m σ' H',W i m σ' H'->(J.stop i H'/\Q (.ref D) H')\/(J.go i H'/\∀x H2,J.yld i H' x H2->g x σ' H2 fun σ3 H3=>tt σ3 H3 fun b H4=>
    if b=true then te σ3 H4 λv H5=>∃ys,H5 D=some (.lst ys)/\ys.length<C2/\∃m',m'<m/\W (i+1) m' σ3 (upd H5 D (.lst (ys++[v])))
    else ∃m',m'<m/\W (i+1) m' σ3 H4)
def tComp (cs:List (Option Nat))(wi:TI)(g:TG)(tt:TT)(te:TE):TE:=λσ H Q=>wi σ H λJ H1=>∀D,H1 D=none->CompW J g tt te Q D (t0 cs σ) (upd H1 D (.lst []))
theorem Pp {X:Cx}{scope:J7}{cl:List (Str×A0)}{N:List Str}{cs:List (Option Nat)}(S:q8 X scope cl N cs){jb:List (A0×Obj)}{σ:St}{H:Hp}{s:A6}{fp:List A0}{h₁:B7}{tk:Nat}
   (I:Inv X jb σ H s) (f2:∀b∈fp,FpOk X jb H b) (ho:∀b∈fp,∃o,s.heap.get? b=some o)
   (old:∀b o,s.heap.get? b=some o->h₁.get? b=some o) (hns:h₁.Ns (s.heap.objs.size+1) (λx=>([]:List (Str×A1)).reverse.lookup x))
   (hD:h₁.get? s.heap.objs.size=some { cls:=.type "list",data:=.seq ([]:List A1).toArray }) :
   Inv (J8 X scope cl N fp (s.heap.objs.size+1) s H) jb (t0 cs σ) (upd H s.heap.objs.size (.lst [])) { s with heap:=h₁,toks:=tk }:=by
 have lt:∀b o,s.heap.get? b=some o->b<s.heap.objs.size:=λb o e=>D1 e;have neC:∀b o,s.heap.get? b=some o->b≠s.heap.objs.size+1:=λb o e=>E3 (o7 (lt b o e));have neD:∀b o,s.heap.get? b=some o->b≠s.heap.objs.size:=λb o e=>E3 (lt b o e);have nstk:∀b,b≠X.env.locals->b∉X.fs->b∉frs X.stack:=λb h1 h2 hb=>(C3.mp (I.stkSub b hb)).elim h1 h2
 have cellO:∀x c,cl.lookup x=some c->∃v o,s.heap.get? c=some o/\s.heap.IsCell c v:=λx c e=>by
  obtain⟨v,q⟩:=I.cell x c (S.sub x c e);obtain⟨o,h1,_⟩:=id q;exact⟨v,o,h1,q⟩
 refine⟨⟨I.ok.mod,S.kind,I.ok.glob,I.ok.blt,CF _,λx y c h1 h2=>I.ok.inj x y c (S.sub x c h1) (S.sub y c h2),λx hx=>S.has x hx,λx c hx=>(by cases hx),I.ok.hd,I.ok.frames,.inl rfl,λb hb=>?_,I.bs,N6 I.ok.bsz I.sz,λb o e hb=>?_,λb hb=>?_,I.stack,I.stkFree,I.nos⟩,
  rfl,I.bare,Un.laid old (B8 _) I.fresh I.bigS,⟨_,hns,λi x v e1 e2 e3=>?_⟩,λx c e=>?_,?_,λx c e=>?_,λp hp=>?_,I.hok.laid old (B8 _) ⟨K4 _,[],0,.nil,hD⟩,?_⟩
 ·obtain⟨o,e⟩:=ho b hb;exact⟨neC b o e,λx c ec=>(f2 b hb).2.2.2.2.1 x c (S.sub x c ec)⟩
 ·rcases(f2 b hb).2.2.2.1 with z|z
  ·exact I.ok.noex b o e z
  ·exact absurd (L3 (D1 e) (N6 I.ok.bsz z)) (Y8 _)
 ·exact nstk b (f2 b hb).2.1 (f2 b hb).2.2.1
 ·have e2':(cs.map λo=>o.bind λj=>(σ[j]?).bind id)[i]?=some (some v):=e2;rw[G0] at e2';cases ec:cs[i]? with
  |none=>rw[ec] at e2';cases e2'
  | some o =>
   rw[ec] at e2';cases o with
   |none=>cases e2'
   | some j =>
    have e2'':(σ[j]?).bind id=some v:=by simpa using e2'
    cases es:σ[j]? with
    |none=>rw[es] at e2'';cases e2''
    | some ov =>
     rw[es] at e2'';have e4:ov=some v:=by simpa using e2''
     subst e4;obtain⟨hN,hv,hnl,⟨c,hc⟩,hk⟩:=S.cap i j x ec e1;obtain⟨m,hn,hl⟩:=I.loc;obtain⟨u,r,l⟩:=hl j x v hN es hv;refine⟨u,r,?_⟩;rcases l with⟨hk',_⟩|⟨_,c',hc',z⟩
     ·grind
     ·have ecc:c'=c:=by
       have:=S.sub x c hc;rw[hc'] at this;exact P0 this
      subst ecc;obtain⟨o,h1,h2⟩:=z;exact .inr ⟨hk,c',hc,⟨o,old _ o h1,h2⟩⟩
 ·obtain⟨v,o,h1,o',h2,h3⟩:=cellO x c e;exact⟨v,o',old _ o' h2,h3⟩
 ·show upd H s.heap.objs.size (.lst []) (s.heap.objs.size+1)=none;rw[C4 (Nat.succ_ne_self _)];exact I.hok.fresh (CF _)
 ·obtain⟨v,o,h1,_⟩:=cellO x c e;rw[C4 (neD c o h1)];exact I.freeC x c (S.sub x c e)
 ·obtain⟨e,n,ne,nf,d⟩:=I.pin p hp;exact⟨old _ _ e,by rw[C4 (neD _ _ e)];exact n,neC _ _ e,nstk _ ne nf,d⟩
 ·show(cs.map _).length=N.length;rw[B6];exact S.len
theorem Inv.uncomp
   (I:Inv X jb σ H s) (f2:∀b∈fp,FpOk X jb H b)
   (J:Inv (J8 X scope cl N fp (s.heap.objs.size+1) s H) jb σ' H' s') (hs:∀b,b≠s.heap.objs.size+1->h'.get? b=s'.heap.get? b) :
   Inv X jb σ H' { s' with heap:=h' }:=by
 obtain⟨hh,g,d,t,os'⟩:=s';obtain rfl:os'=s.os:=J.os;have U:Un (frs X.stack) fp H H' s.heap hh:=J.base;have old:∀b o,s.heap.get? b=some o->b≠s.heap.objs.size+1:=λb o e=>E3 (o7 (D1 e));have hs':∀b,b≠s.heap.objs.size+1->h'.get? b=hh.get? b:=hs
 have trC:∀b u,H' b=some u->b≠s.heap.objs.size+1:=λb u e z=>by
  have q:H' (s.heap.objs.size+1)=none:=J.free;rw[z,q] at e;cases e
 show Inv X jb σ H' { s with heap:=h',gens:=g,drawn:=d,toks:=t };refine I.call (h':=h') (g':=g) (d':=d) (t':=t) (ch:=fp) ⟨λb o e n hb hx=>?_,λb o e n hb hx=>?_,U.free,λb o e hx=>?_,U.tups,U.frzs,U.tbls,U.sys⟩ (λb u e=>?_) J.bare λb hb=>?_
 ·rw[hs' b (old b o e)];exact U.keep b o e n hb hx
 ·rw[hs' b (old b o e)];exact U.slot b o e n hb hx
 ·rw[hs' b (old b o e)];exact U.there b o e hx
 ·refine(J.hok b u e).stay (λc v hc q=>?_) (λ_ q=>q) λ_ _ q=>q
  have ne:c≠s.heap.objs.size+1:=by
   rcases hc with z|z
   ·rw[z];exact trC b u e
   ·exact trC c _ z
  rw[hs' c ne];exact q
 ·exact⟨(f2 b hb).2.2.2.1,(f2 b hb).2.1,(f2 b hb).2.2.2.2.1,(f2 b hb).2.2.2.2.2⟩
theorem GQ {K:A9}{W:Nat->Nat->St->Hp->Prop}{s5 s7:A6}(T:Turn P w K tg J fp it tn)(st5:tn (i+1) s5.heap)(I7:Inv Y (jb++BD fp s5.heap) σ7 H7 s7)(n7:∃m',m'<n/\W (i+1) m' σ7 H7):∃m,m<n/\∃i σ' H',Inv Y jb σ' H' s7/\tn i s7.heap/\(∀b∈fp,H' b=none)/\W i m σ' H':=by
 obtain⟨m',hm,w7⟩:=n7;have pn:∀b∈fp,∀o,s5.heap.get? b=some o->_:=λb hb o e=>I7.pin (b,o) (O9 _ (O9 _ (GC hb e)));refine⟨m',hm,i+1,σ7,H7,I7.unpinned,T.keep _ _ _ st5 λb hb o e=>(pn b hb o e).1,λb hb=>?_,w7⟩;obtain⟨o,e,d⟩:=T.obj _ _ st5 b hb;exact(pn b hb o e).2.1
theorem GR {Y:Cx}{jb:List (A0×Obj)}{tg ji:Expr}{jk:List Expr}{g:TG}{tt:TT}{te:TE}{J:It}{fp:List A0}{it D:A0}{tn:Nat->B7->Prop}{W:Nat->Nat->St->Hp->Prop}{N:St->Hp->Prop}{Rn:A6->Prop}(T:Turn Y.prog Y.w Y.K tg J fp it tn)(hc:Y.calm=true)(stat:∀{H':Hp},(∀b∈fp,H' b=none)->∀b∈fp,FpOk Y jb H' b)(hg:PG Y tg g)(hf:PIf Y jk tt)(he:PE Y ji te)(fin:∀s σ H,Inv Y jb σ H s->N σ H->Rn s)
   (turn:∀i m σ' H',W i m σ' H'->(J.stop i H'/\N σ' H')\/(J.go i H'/\∀x H2,J.yld i H' x H2->g x σ' H2 λσ3 H3=>tt σ3 H3 λb H4=>
    if b=true then te σ3 H4 λv H5=>∃ys,H5 D=some (.lst ys)/\ys.length<C2/\∃m',m'<m/\W (i+1) m' σ3 (upd H5 D (.lst (ys++[v])))
    else ∃m',m'<m/\W (i+1) m' σ3 H4)) (n:Nat) (s:A6) (hI:∃i σ' H',Inv Y jb σ' H' s/\tn i s.heap/\(∀b∈fp,H' b=none)/\W i n σ' H') :
   A7 (A8 Y.prog Y.w) Y.A (pyNext (.ref it)) (λr s₁=>match r with
    |none=>Rn s₁
    |some v=>A7 (A8 Y.prog Y.w) Y.A (v5 tg (.ref it) v) (λ_ s₁'=>A7 (A8 Y.prog Y.w) Y.A (assign tg Y.env v) (λ_ s₂=>
        A7 (A8 Y.prog Y.w) Y.A (forIn jk true fun c r=>if r=true then do let ok ← isTrue c Y.env (eval c Y.env);pure (x6 ok) else pure (x6 r)) (fun ok s₃=>
         if ok=true then A7 (A8 Y.prog Y.w) Y.A (eval ji Y.env) (λx s₄=>
          A7 (A8 Y.prog Y.w) Y.A (call (.builtin "list.append") [.ref D,x]) (λ_ s₅=>∃m,m<n/\∃i σ' H',Inv Y jb σ' H' s₅/\tn i s₅.heap/\(∀b∈fp,H' b=none)/\W i m σ' H') Y.xe s₄) Y.xe s₃
         else ∃m,m<n/\∃i σ' H',Inv Y jb σ' H' s₃/\tn i s₃.heap/\(∀b∈fp,H' b=none)/\W i m σ' H') Y.xe s₂) Y.xe s₁') Y.xe s₁) Y.xe s:=by
 obtain⟨i,σ3,H3,I3,st3,fr3,w3⟩:=hI;rcases turn i n σ3 H3 w3 with⟨stop,qn⟩|⟨go,step⟩
 ·refine thn (T.done Y rfl rfl rfl hc i jb s σ3 H3 Y.xe I3 (stat fr3) st3 stop) λr s4 ⟨hr,I4⟩=>?_;subst hr;exact fin s4 σ3 H3 I4 qn
 ·refine thn (T.item Y rfl rfl rfl hc i jb s σ3 H3 Y.xe I3 (stat fr3) st3 go) λr s4 ⟨u,hr,h4⟩=>?_;subst hr;refine thn h4 λ_ s5 ⟨x,H5,I5,r5,y5,st5,fr5⟩=>?_;refine thn (hg _ s5 σ3 H5 x u _ (I5.pinned (stat fr5) (T.obj _ _ st5)) r5 (step x H5 y5)) λ_ s6 ⟨σ6,H6,I6,q6⟩=>?_;refine thn (hf _ s6 σ6 H6 _ I6 q6) λok s7 ⟨H7,I7,q7⟩=>?_;cases ok with
  |false=>exact GQ T st5 I7 q7
  | true =>
   refine thn (he _ s7 σ6 H7 _ I7 q7) λy s8 ⟨v8,H8,I8,r8,ys,e8,z8,n8⟩=>?_;have ma:=JS (X:=Y) _ s8 σ6 H8 (.ref D) [v8] (.ref D) [y] (λv H9=>∃m',m'<n/\W (i+1) m' σ6 H9) I8 rfl (.cons r8 .nil) ⟨_,ys,v8,rfl,rfl,e8,z8,n8⟩;exact thn ma λ_ s9 ⟨v9,H9,I9,_,q9⟩=>GQ T st5 I9 q9
theorem GS {X:Cx}{scope:J7}{cl:List (Str×A0)}{N:List Str}{cs:List (Option Nat)}{ji tg iter:Expr}{jk:List Expr}{gs:List Comprehension}{pos p0:Pos}{wi:TI}{use:Option (A1->Sem Unit)}{Qf:A1->A6->Prop}{QQ:It->A0->St->Hp->Prop}(S:q8 X scope cl N cs)(hc:X.calm=true)(hi:PI X tg iter wi)
   (hs:∀x,U1 iter X.env x=pure x) {jb:List (A0×Obj)} {s:A6} {σ:St} {H:Hp} (I:Inv X jb σ H s) (h:wi σ H λJ H1=>∀D,H1 D=none->QQ J D (t0 cs σ) (upd H1 D (.lst [])))
   (loop:∀(fp:List A0) (it:A0) (tn:Nat->B7->Prop) (J:It) (s2:A6) (H2:Hp) (s₃:A6),Turn X.prog X.w X.K tg J fp it tn->(∀{H':Hp},(∀b∈fp,H' b=none)->∀b∈fp,FpOk (J8 X scope cl N fp (s2.heap.objs.size+1) s2 H2) jb H' b)->Inv X jb σ H2 s2->(∀b∈fp,FpOk X jb H2 b)->QQ J s2.heap.objs.size (t0 cs σ) (upd H2 s2.heap.objs.size (.lst []))->
     Inv (J8 X scope cl N fp (s2.heap.objs.size+1) s2 H2) jb (t0 cs σ) (upd H2 s2.heap.objs.size (.lst [])) s₃->tn 0 s₃.heap->(∀b∈fp,upd H2 s2.heap.objs.size (.lst []) b=none)->
     O0 (A8 X.prog X.w) X.A (.compLoop (.ListComp ji (⟨tg,iter,jk,0⟩::gs) scope pos) 0 (.ref it) (.ref s2.heap.objs.size) (compEnvC scope cl (s2.heap.objs.size+1) X.env)) (compPost (A8 X.prog X.w) X.A X.xe use Qf (.ref s2.heap.objs.size) (s2.heap.objs.size+1)) s₃) :
   A7 (A8 X.prog X.w) X.A (comprehension (.ListComp ji (⟨tg,iter,jk,0⟩::gs) scope pos) scope X.env p0 (newList []) false (eval iter X.env) use) Qf X.xe s:=by
 refine wpAny_comprehension_free rfl hs S.clos S.kind S.names (thn (hi jb s σ H _ I h) λv s1 h1=>thn h1 λitv s2 h2=>?_);obtain⟨it,fp,tn,J,H2,rfl,I2,T,st2,f2,q⟩:=h2
 have ho:∀b∈fp,∃o,s2.heap.get? b=some o:=λb hb=>by
  obtain⟨o,e,_⟩:=T.obj 0 _ st2 b hb;exact⟨o,e⟩
 refine T9 (wpAny_newFunctionEnv S.nocell (by intro y hy;simp at hy) (λh₁ hns₁ hsb₁=>?_) S.kind);dsimp only at hns₁ hsb₁ ⊢;have hC:(s2.heap.push { cls:=.type "list",dict:=none,data:=.seq ([]:List A1).toArray }).objs.size=s2.heap.objs.size+1:=by rw[l7]
 generalize hH2:s2.heap.push { cls:=.type "list",dict:=none,data:=.seq ([]:List A1).toArray }=hp2 at hns₁ hsb₁ hC ⊢;have lt:∀{b o},s2.heap.get? b=some o->b<s2.heap.objs.size+1:=λe=>o7 (D1 e);have old:∀b o,s2.heap.get? b=some o->h₁.get? b=some o:=λb o e=>hsb₁.extBut b o (by rw[hC];exact E3 (lt e)) (C7 _ (hH2▸C7 _ e));have hD:h₁.get? s2.heap.objs.size=some { cls:=.type "list",data:=.seq ([]:List A1).toArray }:=hsb₁.extBut _ _ (by rw[hC];exact E3 (Nat.lt_succ_self _)) (C7 _ (hH2▸G7 _ rfl));rw[hC] at hns₁ ⊢;have st1:tn 0 h₁:=T.keep _ _ _ st2 λb hb o e=>old b o e
 have L:=loop fp it tn J s2 H2 _ T (λhn b hb=>by
  obtain⟨o,e⟩:=ho b hb
  exact⟨hn b hb,E3 (lt e),λz=>(C3.mp (I2.stkSub b z)).elim (f2 b hb).2.1 (f2 b hb).2.2.1,.inl hb,λx c ec=>(f2 b hb).2.2.2.2.1 x c (S.sub x c ec),(f2 b hb).2.2.2.2.2⟩) I2 f2 (q _ I2.fresh) (Pp S (tk:=s2.toks+([]:List (Str×A1)).length) I2 f2 ho old hns₁ hD) st1 λb hb=>by
  obtain⟨o,e⟩:=ho b hb;rw[C4 (E3 (D1 e))];exact(f2 b hb).1
 exact codeAny_compStart_list L (T.self _ 0 _ _ _ st1 L)
theorem JV {X:Cx}{scope:J7}{cl:List (Str×A0)}{N:List Str}{jb:List (A0×Obj)}{σ σ3:St}{H2 H3:Hp}{s2 s4:A6}{fp:List A0}{Q:VK}(I2:Inv X jb σ H2 s2)(f2:∀b∈fp,FpOk X jb H2 b)(I4:Inv (J8 X scope cl N fp (s2.heap.objs.size+1) s2 H2) jb σ3 H3 s4)(qn:Q (.ref s2.heap.objs.size) H3) :
   compPost (A8 X.prog X.w) X.A X.xe none (EP X jb σ Q) (.ref s2.heap.objs.size) (s2.heap.objs.size+1) (.ok .next) s4:=by
 obtain⟨m4,hn4,_⟩:=I4.loc;exact⟨m4,hn4,λh' hs'=>⟨.ref s2.heap.objs.size,H3,Inv.uncomp I2 f2 I4 λb hb=>hs'.2 b hb,rfl,qn⟩⟩
theorem JW {X:Cx}{scope:J7}{cl:List (Str×A0)}{N:List Str}{cs:List (Option Nat)}{ji tg iter:Expr}{jk:List Expr}{pos:Pos}{wi:TI}{g:TG}{tt:TT}{te:TE}(S:q8 X scope cl N cs)(hc:X.calm=true)(hi:PI X tg iter wi)
   (hb:∀(fp:List A0) (C:A0) (s:A6) (H:Hp),PG (J8 X scope cl N fp C s H) tg g/\PIf (J8 X scope cl N fp C s H) jk tt/\PE (J8 X scope cl N fp C s H) ji te)
   (hs:∀x,U1 iter X.env x=pure x:=by intro _;rfl) :
   PE X (.ListComp ji [⟨tg,iter,jk,0⟩] scope pos) (tComp cs wi g tt te):=by
 intro jb s σ H Q I h;rw[eval_ListComp];refine GS S hc hi hs I h λfp it tn J s2 H2 s₃ T stat I2 f2 q Ic st1 fr1=>?_;obtain⟨W,⟨m0,w0⟩,turn⟩:=q;obtain⟨hg,hf,he⟩:=hb fp (s2.heap.objs.size+1) s2 H2;exact JU _ (GR (Y:=J8 X scope cl N fp (s2.heap.objs.size+1) s2 H2) T hc stat hg hf he (λs4 σ3 H3 I4 qn=>JV I2 f2 I4 qn) turn) m0 ⟨0,_,_,Ic,st1,fr1,w0⟩
end L2
end
section
namespace L2
open PySem PySem.Spec PyProof.Rows
section
variable {X:Cx}
theorem Vals.getE (r:Vals xs us)(h:j<us.length):∃x,xs[j]?=some x/\RelV x us[j]:=by
 have hl:=r.length;have h':j<xs.length:=by omega
 obtain⟨u,e,q⟩:=r.get (i:=j) (x:=xs[j]) (by simp[h']);refine⟨xs[j],by simp[h'],?_⟩;have e':us[j]?=some us[j]:=by simp[h]
 rw[e'] at e;cases e;exact q
theorem JX (h:T8 x=true):eqV x x=true:=by
 cases x <;> simp_all [T8,eqV]
theorem Pq:M4 X (.builtin "isinstance") (λvs H Q=>∃x n t b,vs=[x,.ty n]/\TyOf X.K H x t/\Ck X.K t (.type n)=some b/\Q (.bl b) H):=by
 intro jb s σ H vs us Q I rv h;obtain⟨x,n,t,b,rfl,ty,e,q⟩:=h;obtain⟨u,v,rfl,r1,r2⟩:=rv.two;cases r2;exact OR I r1 ty e λtk=>⟨.bl b,H,I.tok tk,rfl,q⟩
theorem JY:∀{bs:List Bool} {us:List A1} {j:Nat} {u:A1},Vals (bs.map V.bl) us->us[j]?=some u->∃b,bs[j]?=some b/\u=Value.bool b:=by
 intro bs us j u r e
 have hj:j<us.length:=by
  obtain⟨h,_⟩:=J5.mp e;exact h
 obtain⟨x,e1,q1⟩:=r.getE hj;rw[G0] at e1;cases eb:bs[j]? with
 |none=>rw[eb] at e1;cases e1
 | some b =>
  rw[eb] at e1;cases e1;have e2:us[j]?=some us[j]:=by simp[hj]
  rw[e2] at e;cases e;exact⟨b,rfl,q1⟩
theorem Pr (bs:List Bool):((E9 bs.length).all λi=>(bs[i]?).getD true)=bs.all id:=by
 rw[d8,N0,N0];constructor
 ·intro h b hb;obtain⟨i,hi,rfl⟩:=Cs hb;have:=h i (O1.mpr hi)
  simpa[D4 hi] using this
 ·intro h i hi;have hi':=O1.mp hi;simp only[D4 hi',CK];exact h _ (U5 hi')
theorem Pv (bs:List Bool):((E9 bs.length).any λi=>(bs[i]?).getD false)=bs.any id:=by
 rw[d8,Bf,Bf];constructor
 ·rintro⟨i,hi,e⟩;have hi':=O1.mp hi;simp only[D4 hi',CK] at e;exact⟨_,U5 hi',e⟩
 ·rintro⟨b,hb,e⟩;obtain⟨i,hi,rfl⟩:=Cs hb;exact⟨i,O1.mpr hi,by simp only[D4 hi,CK];exact e⟩
theorem JZ {s:A6}{h':B7}{o:Obj}(hk:∀b x,b∉[s.heap.objs.size]->(s.heap.push o).get? b=some x->h'.get? b=some x):∀b x,s.heap.get? b=some x->h'.get? b=some x:=
 λb x e=>hk b x (λhm=>by rw[J6.mp hm] at e;exact Y8 _ (D1 e)) (C7 _ e)
def rAll (K:A9):List V->Hp->VK->Prop:=λvs H Q=>∃(p:A0) (bs:List Bool),vs=[.ref p]/\SqL K H p (bs.map V.bl)/\Q (.bl (bs.all id)) H
def rAny (K:A9):List V->Hp->VK->Prop:=λvs H Q=>∃(p:A0) (bs:List Bool),vs=[.ref p]/\SqL K H p (bs.map V.bl)/\Q (.bl (bs.any id)) H
theorem Pw (hc:X.calm=true):M4 X (.builtin "all") (rAll X.K):=by
 intro jb s σ H vs us Q I rv h;obtain⟨p,bs,rfl,hq,q⟩:=h;obtain⟨u,rfl,r1⟩:=rv.one;cases r1;obtain⟨jf,r,pl,hz⟩:=I.list hq;have hl:=pl.isList;have hlt:p<s.heap.objs.size:=by obtain⟨_,e,_⟩:=hl;exact D1 e
 have len:jf.toArray.size=bs.length:=by simpa using r.length.symm
 refine call_all_walk (Ba hl ?_)
 refine⟨s.heap.objs.size,[s.heap.objs.size,p],[s.heap.objs.size],jf.toArray.size,_,_,λi=>(bs[i]?).getD true,rfl,Walks.list (A:=X.A.in1) (I.ok.hd hc) _ p (E3 hlt) jf.toArray,
  ⟨⟨_,G7 _ rfl,rfl,rfl⟩,hl.push _⟩,λi v s' Q' E' hP hQ=>?_,λh' tk hk=>?_⟩
 ·obtain⟨b,e,rfl⟩:=JY r (j:=i) (u:=v) (by grind);simp only[e,CK] at hQ;exact Ag hQ
 ·rw[len,Pr];exact⟨.bl _,H,I.kept (JZ hk),rfl,q⟩
theorem Px (hc:X.calm=true):M4 X (.builtin "any") (rAny X.K):=by
 intro jb s σ H vs us Q I rv h;obtain⟨p,bs,rfl,hq,q⟩:=h;obtain⟨u,rfl,r1⟩:=rv.one;cases r1;obtain⟨jf,r,pl,hz⟩:=I.list hq;have hl:=pl.isList;have hlt:p<s.heap.objs.size:=by obtain⟨_,e,_⟩:=hl;exact D1 e
 have len:jf.toArray.size=bs.length:=by simpa using r.length.symm
 refine call_any_walk (Ba hl ?_)
 refine⟨s.heap.objs.size,[s.heap.objs.size,p],[s.heap.objs.size],jf.toArray.size,_,_,λi=>(bs[i]?).getD false,rfl,Walks.list (A:=X.A.in1) (I.ok.hd hc) _ p (E3 hlt) jf.toArray,
  ⟨⟨_,G7 _ rfl,rfl,rfl⟩,hl.push _⟩,λi v s' Q' E' hP hQ=>?_,λh' tk hk=>?_⟩
 ·obtain⟨b,e,rfl⟩:=JY r (j:=i) (u:=v) (by simpa using hP);simp only[e,CK] at hQ;exact Ag hQ
 ·rw[len,Pv];exact⟨.bl _,H,I.kept (JZ hk),rfl,q⟩
theorem Inv.turnedNew {ch:List A0}(I:Inv X jb σ H s)(k:∀b o,b∉ch->s.heap.get? b=some o->h'.get? b=some o)
   (hf:∀b∈ch,FpOk X jb H b) (new:J0 X.prog X.w (upd H s.heap.objs.size (.tup xs)) h' s.heap.objs.size (.tup xs)):Inv X jb σ (upd H s.heap.objs.size (.tup xs)) { s with heap:=h',toks:=t' }:=by
 have nch:∀b u,H b=some u->b∉ch:=λb u e z=>by rw[(hf b z).1] at e;cases e
 have nD:∀b o,s.heap.get? b=some o->b≠s.heap.objs.size:=λb o e=>E3 (D1 e)
 refine I.step (g':=s.gens) (d':=s.drawn) (ch:=ch) (λb hb=>⟨(hf b hb).2.2.2.1,(hf b hb).2.1,(hf b hb).2.2.2.2.1,(hf b hb).2.2.2.2.2⟩) (λb o _ _ hc e _=>k b o hc e) (λb o _ _ hc e _=>⟨o.slots,k b o hc e⟩) (λb o _ e n=>by rw[C4 (nD b o e)];exact n)
   (λb o hc e=>⟨o,k b o hc e⟩) (λb ys e=>by rw[C4 (Z1 e I.fresh)];exact e) (λb o u e=>by rw[C4 (Z1 e I.fresh)];exact e) (λb ps e=>⟨#[],by rw[C4 (Z1 e I.fresh),e];simp⟩) (λz=>by unfold NS;rw[C4 (E3 I.bigS)];exact z) (λm hm=>?_) (λb u e=>?_) I.bare
 ·obtain⟨o,es,ep,ho,r⟩:=hm;exact⟨o,es,ep,k _ o (λz=>(hf _ z).2.1 rfl) ho,r⟩
 ·by_cases hb:b=s.heap.objs.size
  ·subst hb;rw[D9] at e;cases e;exact new
  ·rw[C4 hb] at e;refine(I.hok b u e).stay (λc v hc q=>k c v ?_ q) (λc q=>by rw[C4 (Z1 q I.fresh)];exact q) λc ys q=>by rw[C4 (Z1 q I.fresh)];exact q
   rcases hc with z|z
   ·rw[z];exact nch b u e
   ·exact nch c _ z
end
end L2
end
section
namespace L2
open PySem PySem.Spec PyProof.Rows
theorem CW:M9 "len"=some (.builtin "len"):=by decide +kernel
theorem bt_min:M9 "min"=some (.builtin "min"):=by decide +kernel
theorem bt_max:M9 "max"=some (.builtin "max"):=by decide +kernel
theorem bt_all:M9 "all"=some (.builtin "all"):=by decide +kernel
theorem bt_any:M9 "any"=some (.builtin "any"):=by decide +kernel
theorem Py:M9 "isinstance"=some (.builtin "isinstance"):=by decide +kernel
theorem GT:M9 "sorted"=some (.builtin "sorted"):=by decide +kernel
theorem bt_repr:M9 "repr"=some (.builtin "repr"):=by decide +kernel
theorem bt_int:M9 "int"=some (.type "int"):=by decide +kernel
theorem J_:M9 "list"=some (.type "list"):=by decide +kernel
theorem GU:M9 "tuple"=some (.type "tuple"):=by decide +kernel
theorem GV:M9 "set"=some (.type "set"):=by decide +kernel
theorem at_map {ns:List Int}(h0:0<=k)(h:k<(ns.length:Int)):∃v,atI (ns.map V.int) k=some (.int v):=by
 have hk:k.toNat<ns.length:=by omega
 have q:atI (ns.map V.int) ((k.toNat:Nat):Int)=some (.int ns[k.toNat]):=AE (by rw[G0,D4 hk] <;> rfl)
 rw[show((k.toNat:Nat):Int)=k by omega] at q;exact⟨_,q⟩
theorem kit_of {K:A9}(h:(if(M6 T == M6 S)=true then some true else if PySem.W.kitMeta S=true then(fastBuiltinMro T).map (·.contains (.type S)) else none)=some b):Ck K (.type T) (.type S)=some b:=h
structure Kn (P:D2)(w:C9)(K:A9)(mg:Str->Option A1)(base:B7)(x:Str)(k:Nat)(ps:List Str)(sp:Sp):Prop where
 ex:∃(f:A0) (fd:FuncData),FnOk P w K mg base CX0 k f fd ps sp/\BF K fd ps []/\Cm K (.ref f)=true/\mg x=some (.ref f)/\∃oc od osl,K.lookup f=some ⟨oc,od,.func fd,osl⟩
structure Fn0 (K:A9)(mg:Str->Option A1)(x:Str)(st:Stmt):Prop where
 ex:∃(f:A0) (fd:FuncData),Fun K x x st f fd/\mg x=some (.ref f)
theorem fn0_mk {K:A9}{st:Stmt}(X:K.In h)(G:h.Ns X1 mg){kV doc pm jn ct:A1}
   (a:PySem.W.nsIn K X1 x=some (some (.ref f))) (l:K.lookup f=some ⟨oc,od,.func (X3 x x (U8 st) (O6 st) (G5 st) .none kV doc pm an jn ct),osl⟩)
   (c:Eb K jn x=true) (k:Cm K (.ref f)=true):Fn0 K mg x st:=⟨f,_,fun_mk l c k,PySem.W.mg_of X G a⟩
section
variable {P:D2}{w:C9}{K:A9}{mg:Str->Option A1}{base:B7}
theorem Fn0.ok {st:Stmt}{N ps:List Str}{k:Nat}{sp:Sp}(F:Fn0 K mg x st)(S:U7 N ps (G5 st))(len:∀vs H Q E,sp vs H Q E->vs.length=ps.length)
   (bd:∀(kV doc pm:A1) (an:Option A0) (jn ct:A1) (us:List A1),us.length=ps.length->Y1 (X3 x x (U8 st) (O6 st) (G5 st) .none kV doc pm an jn ct) ⟨us,[]⟩=pure (ps.zip us))
   (hbody:∀(f:A0) (jn:A1) (A:D8) (outer:List Env) (s:A6) (H:Hp) (vs:List V) (Q:VK) (E:XK),Room k (A.deeper (envOfC x (G5 st) s.heap.objs.size f jn))->sp vs H Q E->
     ∃t,PSs (cxOf CX0 P w K mg base N x (G5 st) f jn A outer s H E).nox (O6 st) t/\t { nx:=λ_ H'=>Q .non H',rt:=Q } (start N vs) H):Kn P w K mg base x (k+1) ps sp:=by
 obtain⟨f,fd,F1,m⟩:=F.ex
 have lk:∃oc od osl,K.lookup f=some ⟨oc,od,.func fd,osl⟩:=by
  obtain⟨oc,od,kV,doc,pm,an,jn,ct,osl,_,lk,hcd⟩:=F1.ex;exact⟨oc,od,osl,lk⟩
 exact⟨f,fd,F1.ok S len λjn A outer s H vs Q E hr h=>hbody f jn A outer s H vs Q E hr h,F1.binds bd,F1.kp,m,lk⟩
theorem Kn.imp {x:Str}{k:Nat}{ps:List Str}{sp sp':Sp}(G:Kn P w K mg base x k ps sp)(h:∀vs H Q E,sp' vs H Q E->sp vs H Q E):Kn P w K mg base x k ps sp':=by
 obtain⟨f,fd,a,b,c,d⟩:=G.ex;exact⟨f,fd,a.imp h,b,c,d⟩
end
section
variable {X:Cx}{x:Str}{p pos:Pos}{e:Expr}{es:List Expr}{t:TA}{ps:List Str}{sp:Sp}{j k:Nat}
theorem pe_fn (G:Kn X.prog X.w X.K X.mg X.base x k ps sp)(hr:Room j X.A)(hk:k<=j)(hg:Gl X x)(ha:PA X (e::es) t)(hdb:(x == ("__debug__":Str))=false:=by decide)
   (he:E6 (e::es) X.env=(false,eval e X.env)::E6 es X.env:=by rfl) (hpl:(backTo pos (E6 es X.env)).any (·.1)=false:=by rfl) :
   PE X (.Call (.Name x p) (e::es) [] pos) (tCall sp [] E0 t):=by
 intro jb s σ H Q I h;obtain⟨f,fd,F,hb,hkp,hm,_⟩:=G.ex;exact OS F (hr.mono hk) hg hm hkp hb .nil pass0 ha hdb he hpl jb s σ H Q I h
end
end L2
end
section
namespace L2
open PySem PySem.Spec PyProof.Rows
section
variable {X:Cx}
theorem Pz:OpR X (U3 .Mult) (λx y H Q=>∃i n,x=.str i/\y=.int n/\i.length<=100/\0<=n/\n<=1000/\Q (.str (Txt.mul i n)) H):=by
 intro jb s σ H x y v u Q I rx ry h;obtain⟨i,n,rfl,rfl,h1,h2,h3,q⟩:=h;obtain⟨t,rfl⟩:=rx;obtain⟨t',rfl⟩:=ry;exact SB.mul (mulOk_of 100 1000 h1 h3 (by omega) (by decide) (by decide)) λt' tk=>⟨.str _,H,I.tok _,⟨_,rfl⟩,q⟩
theorem CY (x y:Str):(x++y).cps.toList=x.cps.toList++y.cps.toList:=by
 show(x.cps++y.cps).toList=_;simp
theorem AF (x:Str):x.length=x.cps.toList.length:=by
 show x.cps.size=_;simp
end
theorem Same.lay {H H':Hp}{p:A0}{o:HO}(s:Same H H')(h:H' p=none):Same H (upd H' p o):=λb u e=>by
 rw[C4 (Z1 (s b u e) h)];exact s b u e
theorem PB {c:TT}{t u:TS}{D:Ends}{σ:St}{H:Hp}(p:St->Hp->Prop)(h:(∀σ' H',p σ' H'->D.nx σ' H')->tIfS c t u D σ H)(hp:∀σ' H',p σ' H'->D.nx σ' H'):tIfS c t u D σ H:=h hp
theorem U9 {n:Nat}{d:Int}(h0:0<=d)(h1:d<n):ixN n d=some d.toNat:=by grind [ixN]
theorem GX {α:Type}{xs:List α}{d:Int}(h0:0<=d)(h1:d<xs.length):∃x,xs[d.toNat]?=some x/\atI xs d=some x:=by
 have hk:d.toNat<xs.length:=by omega
 refine⟨xs[d.toNat],D4 hk,?_⟩;unfold atI;rw[U9 h0 h1];simp
end L2
end
section
namespace L2
open PySem PySem.Spec PyProof.Rows
section
variable {X:Cx}
def rSlS:V->Option Int->Option Int->Hp->VK->Prop:=λx lo hi H Q=>∃z,x=.str z/\z.length<=C2/\Q (.str (V7 z lo hi)) H
theorem sl_str:SlR X rSlS:=by
 intro jb s σ H x v vl vu lo hi sl Q I rx hs pl pu h;obtain⟨z,rfl,hz,q⟩:=h;obtain⟨t,rfl⟩:=rx;refine⟨"str",_,F.slot_str_getitem.lookup,typeIs_str _ _ _,?_⟩;cases pl with
 | none =>
  cases pu with
  |none=>exact DV (l:=none) (u:=none) (st:=none) hs rfl (D_ ⟨N6 (Bx z _ _) hz,λt' k=>⟨.str _,H,I.tok _,⟨_,rfl⟩,q⟩⟩)
  |int j tj=>exact DV (l:=none) (u:=some (j,tj)) (st:=none) hs rfl (D_ ⟨N6 (Bx z _ _) hz,λt' k=>⟨.str _,H,I.tok _,⟨_,rfl⟩,q⟩⟩)
 | int i ti =>
  cases pu with
  |none=>exact DV (l:=some (i,ti)) (u:=none) (st:=none) hs rfl (D_ ⟨N6 (Bx z _ _) hz,λt' k=>⟨.str _,H,I.tok _,⟨_,rfl⟩,q⟩⟩)
  |int j tj=>exact DV (l:=some (i,ti)) (u:=some (j,tj)) (st:=none) hs rfl (D_ ⟨N6 (Bx z _ _) hz,λt' k=>⟨.str _,H,I.tok _,⟨_,rfl⟩,q⟩⟩)
def Its (x:Str):It:=⟨λi _=>i<x.cps.toList.length,λi H v H'=>H'=H/\∃c,x.cps.toList[i]?=some c/\v=.str ⟨#[c]⟩,λi _=>x.cps.toList.length<=i⟩
theorem PC {P:D2}{w:C9}{K:A9}{tg:Expr}(x:Str)(t:Tok)(it:A0):Turn P w K tg (Its x) [it] it (λi h=>h.IsStrIter it "str_ascii_iterator" x t i) where
 mem:=by simp
 obj:=λi h st b hb=>by
  have e:b=it:=by simpa using hb
  subst e;obtain⟨o,e,c,d⟩:=st;exact⟨o,e,λv z=>by rw[d] at z;cases z⟩
 keep:=λi h h' st k=>by
  obtain⟨o,e,c,d⟩:=st;exact⟨o,k it (by simp) o e,c,d⟩
 item:=by
  intro X hP hw hK hc i jb s σ H E I hf st hg;subst hP hw hK;have hg':i<x.cps.toList.length:=hg;have hx:x.cps[i]?=some x.cps.toList[i]:=by rw[<- T6];exact D4 hg'
  obtain⟨f0,f1,f2,f3,f4,f5⟩:=hf it (by simp);refine wpAny_pyNext_ascii_item st hx λh' st' sb=>?_;have I1:Inv X jb σ H { s with heap:=h',toks:=s.toks+1 }:=I.turned (t':=s.toks+1) (λb o hb e=>(sb.2 b hb).trans e) f0 f1 f3 f4 f5;obtain⟨o,e,c,d⟩:=id st';exact⟨_,rfl,CQ (s:={ s with heap:=h',toks:=s.toks+1 }) e c d (by decide) ⟨.str ⟨#[x.cps.toList[i]]⟩,H,I1,⟨_,rfl⟩,⟨rfl,_,D4 hg',rfl⟩,st',λb hb=>(hf b hb).1⟩⟩
 done:=by
  intro X hP hw hK hc i jb s σ H E I hf st hg;subst hP hw hK;have hg':x.cps.toList.length<=i:=hg;have hx:x.cps[i]?=none:=by rw[<- T6];exact Y4 hg'
  obtain⟨f0,f1,f2,f3,f4,f5⟩:=hf it (by simp);exact wpAny_pyNext_ascii_end (I.ok.hd hc) st hx λh' eb=>⟨rfl,I.turned (t':=s.toks) (λb o hb e=>eb b o hb e) f0 f1 f3 f4 f5⟩
 self:=λ_ _ _ _ _ st h=>wpAny_pyIter_striter_ascii st h
def iStr (te:TE):TI:=λσ H R=>te σ H λv H1=>∃x,v=.str x/\x.cps.all (· < 128)=true/\R (Its x) H1
theorem pi_str {tg l:Expr}{tl:TE}(hl:PE X l tl):PI X tg l (iStr tl):=by
 intro jb s σ H R I h;refine thn (hl jb s σ H _ I h) λv s1 ⟨x,H1,I1,r1,q1⟩=>?_;obtain⟨x,rfl,ha,q⟩:=q1;obtain⟨t,rfl⟩:=r1;refine wpAny_pyIter_ascii ha ?_;refine⟨s1.heap.objs.size,[s1.heap.objs.size],_,_,H1,rfl,I1.kept (t':=s1.toks) λb o e=>C7 _ e,PC x t _,⟨_,G7 _ rfl,rfl,rfl⟩,λb hb=>?_,q⟩;have e:b=s1.heap.objs.size:=by simpa using hb
 subst e;exact I1.fpOk (B8 _) (I1.hok.fresh (B8 _))
def rCatA (K:A9):R2:=λx y H Q=>∃a b xs ys,x=.ref a/\y=.ref b/\SqT K H a xs/\SqT K H b ys/\xs.length+ys.length<=C2/\
 (xs=[]->Q (.ref b) H)/\(xs≠[]->ys=[]->Q (.ref a) H)/\(xs≠[]->ys≠[]->∀p,H p=none->Q (.ref p) (upd H p (.tup (xs++ys))))
theorem PF:OpR X (U3 .Add) (rCatA X.K):=by
 intro jb s σ H x y v u Q I rx ry h;obtain⟨a,b,xs,ys,rfl,rfl,ha,hb,hz,q0,q1,q2⟩:=h
 by_cases hx:xs=[]
 ·cases rx;cases ry;obtain⟨jf,r1,p1,_⟩:=I.tuple ha;obtain⟨its2,r2,p2,_⟩:=I.tuple hb;obtain⟨⟨cls,dd,data,sl⟩,ho,hc,n,hd⟩:=id p1;obtain⟨⟨cls2,dd2,data2,sl2⟩,ho2,hc2,n2,hd2⟩:=id p2;simp only at hc hd hc2 hd2;subst hc hd hc2 hd2;have he:jf=[]:=r1.nil_iff.mpr hx
  exact concat_meets ⟨_,ho,rfl⟩ ⟨_,ho2,rfl⟩ noFill_tuple_add seq_tuple_add Gs Gr (Gq _ _)
    (tuple_addW0 a b jf.toArray its2.toArray n n2 dd dd2 sl sl2 (by simp[he])) ⟨ho,ho2,⟨.ref b,H,I,rfl,q0 hx⟩⟩
 ·exact OY jb s σ H _ _ v u Q I rx ry ⟨a,b,xs,ys,rfl,rfl,ha,hb,hx,hz,q1 hx,q2 hx⟩
theorem Inv.big {jb:List (A0×Obj)}{σ:St}{H:Hp}{s:A6}(I:Inv X jb σ H s):L9<s.heap.objs.size:=by
 have h:X1<s.heap.objs.size:=(I.mod.glob.keeps I.bk).lt;exact Bk (by decide) h
theorem PH {P:D2}{w:C9}{H:Hp}(h:B7)(hb:L9<h.objs.size):J0 P w H (h.push { cls:=.type "dict",data:=.dict #[] }) h.objs.size (.dK []):=
 ⟨K4 _,beq_eq_false_iff_ne.mpr (Ne.symm (E3 hb)),[],.nil,Heap.DictOf.new h⟩
end
end L2
end
section
namespace Pu
open PySem PySem.Spec L2
inductive PV where
 |non|bl (b:Bool)|int (i:Int)|str (x:Str)|ty (n:String)|pot (k:Nat)
 |tup (xs:List PV)|lst (xs:List PV)|dct (ks:List Key) (xs:List PV)
 /-- the script -/
 |scr (ns:List Int)
 /-- a dict by tuples that nothing changes any more -/
 |fdt (ks:List (List Key)) (xs:List PV)
structure Gh where
 M:List A0
 pots:List A0
def KLst (K:A9)(a:A0)(xs:List V):Prop:=∃(o:Obj) (jf:Array A1) (n:Nat),K.lookup a=some o/\o.cls=.type "list"/\o.dict=none/\o.data=.seq jf n/\jf.size<=C2/\Vals xs jf.toList
def AtL (M:List A0)(H:Hp)(a:A0)(xs:List V):Prop:=a∉M/\H a=some (.lst xs)
def AtT (M:List A0)(H:Hp)(a:A0)(xs:List V):Prop:=a∉M/\H a=some (.tup xs)
theorem AtL.sq {K:A9}{M:List A0}{H:Hp}{a:A0}{xs:List V}(h:AtL M H a xs):SqL K H a xs:=SqL.of h.2
theorem AtT.sq {K:A9}{M:List A0}{H:Hp}{a:A0}{xs:List V}(h:AtT M H a xs):SqT K H a xs:=SqT.of h.2
mutual
def Rep (K:A9)(G:Gh)(H:Hp):PV->V->Prop
 |.non,v=>v=.non
 |.bl b,v=>v=.bl b
 |.int i,v=>v=.int i
 |.str x,v=>v=.str x
 |.ty n,v=>v=.ty n
 |.pot k,v=>∃p,G.pots[k]?=some p/\v=.ref p
 |.tup xs,v=>∃a vs,v=.ref a/\AtT G.M H a vs/\Reps K G H xs vs
 |.lst xs,v=>∃a vs,v=.ref a/\AtL G.M H a vs/\Reps K G H xs vs
 |.scr ns,v=>∃a,v=.ref a/\((a∉G.M/\∃o,H a=some (.frz o (.lst (ns.map V.int))))\/KLst K a (ns.map V.int))
 |.dct ks xs,v=>∃a jg,v=.ref a/\a∉G.M/\H a=some (.dK jg)/\jg.map (·.1)=ks/\Reps K G H xs (jg.map (·.2))
 |.fdt ks xs,v=>∃a jg,v=.ref a/\a∉G.M/\Rd H a (.dT jg)/\jg.map (·.1)=ks/\Reps K G H xs (jg.map (·.2))
def Reps (K:A9)(G:Gh)(H:Hp):List PV->List V->Prop
 |[],vs=>vs=[]
 |x::xs,vs=>∃v r,vs=v::r/\Rep K G H x v/\Reps K G H xs r
end
section
variable {K:A9}{G G':Gh}{H H':Hp}
theorem Rd.keep {a:A0}{u:HO}(h:Rd H a u)(k:∀o,H a=some o->H' a=some o):Rd H' a u:=by grind [HO,Rd]
theorem Rd.ne {a:A0}{u:HO}(h:Rd H a u):H a≠none:=by grind [HO,Rd]
mutual
theorem Rep.mono (hk:∀b o,b∉G.M->H b=some o->H' b=some o)(hM:∀a∈G'.M,a∈G.M\/H a=none)(hp:∀(k:Nat) (p:A0),G.pots[k]?=some p->G'.pots[k]?=some p):∀(x:PV) (v:V),Rep K G H x v->Rep K G' H' x v
 |.non,v,h=>h
 |.bl b,v,h=>h
 |.int i,v,h=>h
 |.str x,v,h=>h
 |.ty n,v,h=>h
 | .pot k, v, h => by
  obtain⟨p,e,r⟩:=h;exact⟨p,hp k p e,r⟩
 | .tup xs, v, h => by
  obtain⟨a,vs,e,t,r⟩:=h;refine⟨a,vs,e,?_,Reps.mono hk hM hp xs vs r⟩;obtain⟨n,t⟩:=t;exact⟨λz=>(hM a z).elim n (λz=>by rw[z] at t;cases t),hk a _ n t⟩
 | .lst xs, v, h => by
  obtain⟨a,vs,e,t,r⟩:=h;refine⟨a,vs,e,?_,Reps.mono hk hM hp xs vs r⟩;obtain⟨n,t⟩:=t;exact⟨λz=>(hM a z).elim n (λz=>by rw[z] at t;cases t),hk a _ n t⟩
 | .scr ns, v, h => by
  obtain⟨a,e,h⟩:=h;refine⟨a,e,?_⟩;rcases h with⟨n,o,t⟩|h
  ·exact .inl ⟨λz=>(hM a z).elim n (λz=>by rw[z] at t;cases t),o,hk a _ n t⟩
  ·exact .inr h
 | .dct ks xs, v, h => by
  obtain⟨a,jg,e,n,t,ek,r⟩:=h;exact⟨a,jg,e,λz=>(hM a z).elim n (λz=>by rw[z] at t;cases t),hk a _ n t,ek,Reps.mono hk hM hp xs _ r⟩
 | .fdt ks xs, v, h => by
  obtain⟨a,jg,e,n,t,ek,r⟩:=h;exact⟨a,jg,e,λz=>(hM a z).elim n (λz=>Rd.ne (u:=.dT jg) t z),Rd.keep (u:=.dT jg) t (λo e=>hk a o n e),ek,Reps.mono hk hM hp xs _ r⟩
theorem Reps.mono (hk:∀b o,b∉G.M->H b=some o->H' b=some o)(hM:∀a∈G'.M,a∈G.M\/H a=none)(hp:∀(k:Nat) (p:A0),G.pots[k]?=some p->G'.pots[k]?=some p):∀(xs:List PV) (vs:List V),Reps K G H xs vs->Reps K G' H' xs vs
 |[],vs,h=>h
 | x :: xs, vs, h => by
  obtain⟨v,r,e,hx,hr⟩:=h;exact⟨v,r,e,Rep.mono hk hM hp x v hx,Reps.mono hk hM hp xs r hr⟩
end
theorem Rep.same (h:Rep K G H x v)(s:Same H H'):Rep K G H' x v:=Rep.mono (λb o _ e=>s b o e) (λa z=>.inl z) (λ_ _ e=>e) x v h
theorem Reps.same (h:Reps K G H x v)(s:Same H H'):Reps K G H' x v:=Reps.mono (λb o _ e=>s b o e) (λa z=>.inl z) (λ_ _ e=>e) x v h
def Fr (G:Gh)(H H':Hp):Prop:=∀b o,b∉G.M->H b=some o->H' b=some o
theorem Fr.refl:Fr G H H:=λ_ _ _ e=>e
theorem Fr.trans (a:Fr G H H')(b:Fr G H' H2):Fr G H H2:=λc o n e=>b c o n (a c o n e)
theorem Fr.of (s:Same H H'):Fr G H H':=λb o _ e=>s b o e
theorem Rep.fr (h:Rep K G H x v)(s:Fr G H H'):Rep K G H' x v:=Rep.mono s (λa z=>.inl z) (λ_ _ e=>e) x v h
theorem Reps.fr (h:Reps K G H x v)(s:Fr G H H'):Reps K G H' x v:=Reps.mono s (λa z=>.inl z) (λ_ _ e=>e) x v h
theorem Reps.length:∀{xs:List PV} {vs:List V},Reps K G H xs vs->xs.length=vs.length
 |[],vs,h=>by cases(show vs=[] from h);rfl
 | x :: xs, vs, h => by
  obtain⟨v,r,e,hx,hr⟩:=h;subst e;simp[Reps.length hr]
theorem Reps.get:∀{xs:List PV} {vs:List V} {i:Nat} {v:V},Reps K G H xs vs->vs[i]?=some v->∃x,xs[i]?=some x/\Rep K G H x v
 |[],vs,i,v,h,e=>by cases(show vs=[] from h);simp at e
 | x :: xs, vs, i, v, h, e => by
  obtain⟨w,r,e1,hx,hr⟩:=h;subst e1;cases i with
  |zero=>simp at e;subst e;exact⟨x,rfl,hx⟩
  |succ i=>simpa using Reps.get (i:=i) hr (by grind)
theorem Reps.get':∀{xs:List PV} {vs:List V} {i:Nat} {x:PV},Reps K G H xs vs->xs[i]?=some x->∃v,vs[i]?=some v/\Rep K G H x v:=λ{xs vs i x} h e=>by
 obtain⟨hi,_⟩:=J5.mp e;have hl:=h.length;have e2:vs[i]?=some (vs[i]'(by omega)):=D4 (by omega);obtain⟨y,ey,r⟩:=h.get e2;rw[e] at ey;cases ey;exact⟨_,e2,r⟩
theorem Reps.append:∀{xs ys:List PV} {vs us:List V},Reps K G H xs vs->Reps K G H ys us->Reps K G H (xs++ys) (vs++us)
 |[],ys,vs,us,h,h'=>by cases(show vs=[] from h);exact h'
 | x :: xs, ys, vs, us, h, h' => by
  obtain⟨w,r,e1,hx,hr⟩:=h;subst e1;exact⟨w,r++us,rfl,hx,Reps.append hr h'⟩
theorem Reps.take:∀{xs:List PV} {vs:List V} (n:Nat),Reps K G H xs vs->Reps K G H (xs.take n) (vs.take n)
 |xs,vs,0,h=>by simp[Reps]
 |[],vs,n+1,h=>by cases(show vs=[] from h);exact rfl
 | x :: xs, vs, n + 1, h => by
  obtain⟨w,r,e1,hx,hr⟩:=h;subst e1;exact⟨w,r.take n,rfl,hx,Reps.take n hr⟩
theorem Reps.drop:∀{xs:List PV} {vs:List V} (n:Nat),Reps K G H xs vs->Reps K G H (xs.drop n) (vs.drop n)
 |xs,vs,0,h=>by simpa using h
 |[],vs,n+1,h=>by cases(show vs=[] from h);exact rfl
 | x :: xs, vs, n + 1, h => by
  obtain⟨w,r,e1,hx,hr⟩:=h;subst e1;exact Reps.drop n hr
theorem Reps.one (h:Rep K G H x v):Reps K G H [x] [v]:=⟨v,[],rfl,h,rfl⟩
theorem Reps.set:∀{xs:List PV} {vs:List V} (n:Nat) {x:PV} {v:V},Reps K G H xs vs->Rep K G H x v->Reps K G H (xs.set n x) (vs.set n v)
 |[],vs,n,x,v,h,_=>by cases(show vs=[] from h);exact rfl
 | y :: xs, vs, 0, x, v, h, h' => by
  obtain⟨w,r,e1,hx,hr⟩:=h;subst e1;exact⟨v,r,rfl,h',hr⟩
 | y :: xs, vs, n + 1, x, v, h, h' => by
  obtain⟨w,r,e1,hx,hr⟩:=h;subst e1;exact⟨w,r.set n v,rfl,hx,Reps.set n hr h'⟩
theorem Reps.eraseIdx:∀{xs:List PV} {vs:List V} (n:Nat),Reps K G H xs vs->Reps K G H (xs.eraseIdx n) (vs.eraseIdx n)
 |[],vs,n,h=>by cases(show vs=[] from h);exact rfl
 | y :: xs, vs, 0, h => by
  obtain⟨w,r,e1,hx,hr⟩:=h;subst e1;exact hr
 | y :: xs, vs, n + 1, h => by
  obtain⟨w,r,e1,hx,hr⟩:=h;subst e1;exact⟨w,r.eraseIdx n,rfl,hx,Reps.eraseIdx n hr⟩
def MutO:HO->Prop
 |.lst _=>True
 |.dK _=>True
 |.dT _=>True
 |.set _ _=>True
 |.tbl _=>True
 |_=>False
end
inductive OK where
 |lst|dk (ks:List Key)|dt (ks:List (List Key))|st (zs:List Key)
def memS (zs:List Key)(k:Key):Bool:=zs.any λz=>decide (z=k)
def mkO:OK->List V->HO
 |.lst,vs=>.lst vs
 |.dk ks,vs=>.dK (ks.zip vs)
 |.dt ks,vs=>.dT (ks.zip vs)
 |.st zs,_=>.set (memS zs) zs.length
theorem Ka (k:OK)(vs:List V):MutO (mkO k vs):=by cases k <;> trivial
inductive Slot where
 |v (x:PV)
 |ow (k:OK) (xs:List PV)
abbrev Slot.own (xs:List PV):Slot:=.ow .lst xs
abbrev Env:=List (Option Slot)
structure PotK where
 at_:List A0->Hp->A0->Nat->Prop
 mono:∀{M H p n m},at_ M H p n->n<=m->at_ M H p m
 keep:∀{M H H' p n},at_ M H p n->H' p=H p->(∀b o,b∉M->H b=some o->H' b=some o)->at_ M H' p n
 more:∀{M M' H p n},at_ M H p n->(∀a∈M',a∈M\/H a=none)->at_ M' H p n
 mu:∀{M H p n},at_ M H p n->∃o,H p=some o/\MutO o
 /-- what is known of all pots together -/
 has:List A0->Prop:=λ_=>True
 hasM:∀{l:List A0} {p:A0},has l->p∉l->has (l++[p]):=by intro _ _ _ _;trivial
structure Ct where
 K:A9
 T:PotK
 M0:List A0
 pots0:List A0
 H0:Hp
 np:Bool
def CZ (C:Ct)(G:Gh)(H:Hp)(o:Option (Option V)):Slot->Prop
 |.v x=>∃v,o=some (some v)/\Rep C.K G H x v
 |.ow k xs=>∃a vs,o=some (some (.ref a))/\a∈G.M/\a∉C.M0/\a∉G.pots/\H a=some (mkO k vs)/\Reps C.K G H xs vs
structure SR (C:Ct)(G:Gh)(σ:St)(H:Hp)(env:Env)(n:Nat):Prop where
 frame:∀b o,b∉C.pots0->C.H0 b=some o->H b=some o
 sub:∀a∈G.M,a∈C.M0\/C.H0 a=none
 sup:∀a∈C.M0,a∈G.M
 pots:∀p∈G.pots,p∈G.M/\C.T.at_ G.M H p n
 pre:∃l,G.pots=C.pots0++l/\(l=[]\/C.np=true)
 mu:∀a∈G.M,∃o,H a=some o/\MutO o
 slots:∀(i:Nat) (s:Slot),env[i]?=some (some s)->CZ C G H (σ[i]?) s
 inj:∀(i j:Nat) (xs ys:OK×List PV) (a:A0),env[i]?=some (some (.ow xs.1 xs.2))->env[j]?=some (some (.ow ys.1 ys.2))->σ[i]?=some (some (.ref a))->σ[j]?=some (some (.ref a))->i=j
 p0:(∀p∈C.pots0,p∈C.M0)/\C.T.has G.pots
 len:env.length=σ.length
 newp:∀p∈G.pots,p∉C.pots0->p∈C.M0->False
section
variable {C:Ct}{G G':Gh}{σ:St}{H H':Hp}{env:Env}{n:Nat}
theorem SR.hasG (S:SR C G σ H env n):C.T.has G.pots:=S.p0.2
theorem SR.fresh (S:SR C G σ H env n)(h:H p=none):p∉G.M:=λz=>by
 obtain⟨o,e,_⟩:=S.mu p z;rw[h] at e;cases e
theorem SR.same (S:SR C G σ H env n)(s:Same H H'):SR C G σ H' env n where
 frame b o hb e:=s b o (S.frame b o hb e)
 sub:=S.sub
 sup:=S.sup
 pots p hp:=⟨(S.pots p hp).1,C.T.keep (S.pots p hp).2 (by
  obtain⟨o,e,_⟩:=C.T.mu (S.pots p hp).2
  rw[e,s p o e]) λb o _ e=>s b o e⟩
 pre:=S.pre
 mu a ha:=by
  obtain⟨o,e,m⟩:=S.mu a ha;exact⟨o,s a o e,m⟩
 slots i x e:=by
  have:=S.slots i x e;cases x with
  | v x =>
   obtain⟨v,e1,r⟩:=this;exact⟨v,e1,r.same s⟩
  | ow kk xs =>
   obtain⟨a,vs,e1,h1,h2,h3,h4,r⟩:=this;exact⟨a,vs,e1,h1,h2,h3,s _ _ h4,r.same s⟩
 inj:=S.inj
 p0:=S.p0
 len:=S.len
 newp:=S.newp
theorem Same.lay1 (h:H p=none):Same H (upd H p o):=(Same.refl H).lay h
end
end Pu
end
section
namespace Pu
open PySem PySem.Spec L2
abbrev PK:=PV->Env->Nat->Prop
abbrev pE:=Env->Nat->PK->Prop
abbrev pT:=Env->Nat->(Bool->Env->Nat->Prop)->Prop
abbrev pA:=Env->Nat->(List PV->Env->Nat->Prop)->Prop
abbrev pF:=List PV->Nat->(PV->Nat->Prop)->Prop
def RdV (K:A9)(G:Gh)(H:Hp)(x:PV)(v:V):Prop:=Rep K G H x v\/∃a vs xs,x=.lst xs/\v=.ref a/\H a=some (.lst vs)/\Reps K G H xs vs
def RdS (C:Ct)(G:Gh)(σ:St)(H:Hp)(env:Env)(x:PV)(v:V):Prop:=Rep C.K G H x v\/∃(i:Nat) (a:A0) (xs:List PV),env[i]?=some (some (.ow .lst xs))/\σ[i]?=some (some (.ref a))/\x=.lst xs/\v=.ref a
def EOk (K:A9)(T:PotK)(t:TE)(pe:pE):Prop:=∀(C:Ct) (G:Gh) (σ:St) (H:Hp) (env:Env) (n:Nat) (R:PK) (Q:VK),C.K=K->C.T=T->SR C G σ H env n->pe env n R->
 (∀x jh n' v H',R x jh n'->SR C G σ H' jh n'->Rep K G H' x v->Fr G H H'->Q v H')->t σ H Q
def ROk (K:A9)(T:PotK)(t:TE)(pe:pE):Prop:=∀(C:Ct) (G:Gh) (σ:St) (H:Hp) (env:Env) (n:Nat) (R:PK) (Q:VK),C.K=K->C.T=T->SR C G σ H env n->pe env n R->
 (∀x jh n' v H',R x jh n'->SR C G σ H' jh n'->RdS C G σ H' jh x v->Fr G H H'->Q v H')->t σ H Q
def NOk (K:A9)(T:PotK)(t:TE)(pn:pA):Prop:=∀(C:Ct) (G:Gh) (σ:St) (H:Hp) (env:Env) (n:Nat) (R:List PV->Env->Nat->Prop) (Q:VK),C.K=K->C.T=T->SR C G σ H env n->pn env n R->
 (∀xs jh n' a vs Hb,R xs jh n'->SR C G σ Hb jh n'->Fr G H Hb->Hb a=none->Reps K G Hb xs vs->Q (.ref a) (upd Hb a (.lst vs)))->t σ H Q
def TOk (K:A9)(T:PotK)(t:TT)(pt:pT):Prop:=∀(C:Ct) (G:Gh) (σ:St) (H:Hp) (env:Env) (n:Nat) (R:Bool->Env->Nat->Prop) (Q:Bool->Hp->Prop),C.K=K->C.T=T->SR C G σ H env n->pt env n R->
 (∀b jh n' H',R b jh n'->SR C G σ H' jh n'->Fr G H H'->Q b H')->t σ H Q
def AOk (K:A9)(T:PotK)(t:TA)(pa:pA):Prop:=∀(C:Ct) (G:Gh) (σ:St) (H:Hp) (env:Env) (n:Nat) (R:List PV->Env->Nat->Prop) (Q:List V->Hp->Prop),C.K=K->C.T=T->SR C G σ H env n->pa env n R->
 (∀xs jh n' vs H',R xs jh n'->SR C G σ H' jh n'->Reps K G H' xs vs->Fr G H H'->Q vs H')->t σ H Q
structure EW (X:Cx)(e:Expr)(t:TE):Prop where
 h:PE X e t
structure SW (X:Cx)(st:Stmt)(t:TS):Prop where
 h:PS X st t
structure GW (X:Cx)(e:Expr)(g:TG):Prop where
 h:PG X e g
theorem vw (i:Nat)(hN:X.N[i]?=some x:=by rfl)(hv:Vis X.env.scope x:=by first|exact Or.inl rfl|exact Or.inr (Or.inl rfl)|exact Or.inr (Or.inr rfl))(hd:(x == ("__debug__":Str))=false:=by decide)(hcd:(x == ("__classdict__":Str))=false:=by decide):EW X (.Name x pos) (tVar i):=⟨Jw hN hv hd hcd⟩
def QE {ι:Type}(T:PotK)(K:A9)(F:ι->Cx)(e:Expr)(pe:pE):Prop:=∃t,(∀z,PE (F z) e t)/\EOk K T t pe
def QR {ι:Type}(T:PotK)(K:A9)(F:ι->Cx)(e:Expr)(pe:pE):Prop:=∃t,(∀z,PE (F z) e t)/\ROk K T t pe
def QN {ι:Type}(T:PotK)(K:A9)(F:ι->Cx)(e:Expr)(pn:pA):Prop:=∃t,(∀z,PE (F z) e t)/\NOk K T t pn
def QT {ι:Type}(T:PotK)(K:A9)(F:ι->Cx)(e:Expr)(pt:pT):Prop:=∃t,(∀z,PT (F z) e t)/\TOk K T t pt
def QW {ι:Type}(T:PotK)(K:A9)(F:ι->Cx)(e:Expr)(pt:pT):Prop:=∃t,(∀z,PW (F z) e t)/\TOk K T t pt
def QA {ι:Type}(T:PotK)(K:A9)(F:ι->Cx)(es:List Expr)(pa:pA):Prop:=∃t,(∀z,PA (F z) es t)/\AOk K T t pa
section
variable {T:PotK}{ι:Type}{K:A9}{F:ι->Cx}{e a b:Expr}{es:List Expr}{pe pa pb:pE}
theorem Reps.nil:Reps K G H [] []:=rfl
theorem Reps.cons (h:Rep K G H x v)(h':Reps K G H xs vs):Reps K G H (x::xs) (v::vs):=⟨v,vs,rfl,h,h'⟩
theorem RdS.rd (S:SR C G σ H env n)(h:RdS C G σ H env x v):RdV C.K G H x v:=by
 rcases h with h|⟨i,a,xs,e1,e2,ex,ev⟩
 ·exact .inl h
 ·obtain⟨a',vs,e3,_,_,_,h4,r⟩:=S.slots i _ e1;rw[e2] at e3;cases e3;exact .inr ⟨a,vs,xs,ex,ev,h4,r⟩
theorem RdS.fr (h:RdS C G σ H env x v)(f:Fr G H H'):RdS C G σ H' env x v:=by
 rcases h with h|h
 ·exact .inl (h.fr f)
 ·exact .inr h
theorem RdV.lst (h:RdV K G H (.lst xs) v):∃a vs,v=.ref a/\SqL K H a vs/\Reps K G H xs vs:=by
 rcases h with⟨a,vs,e,t,r⟩|⟨a,vs,ys,ex,ev,h4,r⟩
 ·exact⟨a,vs,e,t.sq,r⟩
 ·cases ex;exact⟨a,vs,ev,SqL.of h4,r⟩
theorem RdV.rep {K:A9}{G:Gh}{H:Hp}{x:PV}{v:V}(h:RdV K G H x v)(hx:∀xs,x≠.lst xs):Rep K G H x v:=by simp_all [Gh,Hp,PV,RdV,V]
theorem RdV.tup (h:RdV K G H (.tup xs) v):∃a vs,v=.ref a/\SqT K H a vs/\Reps K G H xs vs:=by
 obtain⟨a,vs,e,t,r⟩:=h.rep (λ_ z=>nomatch z);exact⟨a,vs,e,t.sq,r⟩
theorem RdV.int (h:RdV K G H (.int i) v):v=.int i:=h.rep (λ_ z=>nomatch z)
theorem RdV.str (h:RdV K G H (.str i) v):v=.str i:=h.rep (λ_ z=>nomatch z)
theorem RdV.bl (h:RdV K G H (.bl i) v):v=.bl i:=h.rep (λ_ z=>nomatch z)
theorem RdV.non (h:RdV K G H .non v):v=.non:=h.rep (λ_ z=>nomatch z)
def qV (i:Nat):pE:=λenv n R=>match env[i]? with|some (some (.v x))=>R x env n|_=>False
def qO (i:Nat):pE:=λenv n R=>match env[i]? with|some (some (.ow .lst xs))=>R (.lst xs) env n|_=>False
def qC (c:PV):pE:=λenv n R=>R c env n
theorem qV_ex (h:qV i env n R):∃x,env[i]?=some (some (.v x))/\R x env n:=by
 unfold qV at h
 split at h
 ·exact⟨_,by assumption,h⟩
 ·exact h.elim
theorem qO_ex (h:qO i env n R):∃xs,env[i]?=some (some (.ow .lst xs))/\R (.lst xs) env n:=by
 unfold qO at h
 split at h
 ·exact⟨_,by assumption,h⟩
 ·exact h.elim
theorem qe_var (i:Nat)(h:∀z,EW (F z) (.Name x pos) (tVar i)):QE T K F (.Name x pos) (qV i):=by
 refine⟨_,λz=>(h z).h,λC G σ H env n R Q hK hT S hp k=>?_⟩;obtain⟨x,e,r⟩:=qV_ex hp;obtain⟨v,ev,rv⟩:=S.slots i _ e;exact⟨v,ev,k _ _ _ _ _ r S (hK▸rv) Fr.refl⟩
theorem M2 (i:Nat)(h:∀z,EW (F z) (.Name x pos) (tVar i)):QR T K F (.Name x pos) (qO i):=by
 refine⟨_,λz=>(h z).h,λC G σ H env n R Q hK hT S hp k=>?_⟩;obtain⟨xs,e,r⟩:=qO_ex hp;obtain⟨a,vs,ev,_,_,_,_,rv⟩:=S.slots i _ e;exact⟨.ref a,ev,k _ _ _ _ _ r S (.inr ⟨i,a,xs,e,ev,rfl,rfl⟩) Fr.refl⟩
theorem QE.r (h:QE T K F e pe):QR T K F e pe:=by
 obtain⟨t,h1,h2⟩:=h;exact⟨t,h1,λC G σ H env n R Q hK hT S hp k=>h2 C G σ H env n R Q hK hT S hp λx jh n' v H' r S' rp f=>k x jh n' v H' r S' (.inl (by rw[hK];exact rp)) f⟩
theorem ok_c (h:∀G H,Rep K G H c v):EOk K T (tC v) (qC c):=λC G σ H env n R Q hK hT S hp k=>k _ _ _ _ _ hp S (h G H) Fr.refl
theorem B2 {i j pos}:QE T K F (.Constant (.int i) j pos) (qC (.int i)):=⟨_,λz=>O5,ok_c λ_ _=>rfl⟩
theorem Z3 {i j pos}:QE T K F (.Constant (.bool i) j pos) (qC (.bl i)):=⟨_,λz=>pe_bl,ok_c λ_ _=>rfl⟩
theorem D6 {i j pos}:QE T K F (.Constant (.str i) j pos) (qC (.str i)):=⟨_,λz=>N3,ok_c λ_ _=>rfl⟩
theorem V9 {j pos}:QE T K F (.Constant .none j pos) (qC .non):=⟨_,λz=>pe_non,ok_c λ_ _=>rfl⟩
abbrev w1:=PV->(PV->Prop)->Prop
abbrev w2:=PV->PV->(PV->Prop)->Prop
def W2 (K:A9)(r:R2)(w:w2):Prop:=∀(G:Gh) (H:Hp) (x y:PV) (v u:V) (R:PV->Prop) (Q:VK),(∀p,H p=none->p∉G.M)->RdV K G H x v->RdV K G H y u->w x y R->
 (∀z v' H',R z->Same H H'->Rep K G H' z v'->Q v' H')->r v u H Q
def W1 (K:A9)(r:V->Hp->VK->Prop)(w:w1):Prop:=∀(G:Gh) (H:Hp) (x:PV) (v:V) (R:PV->Prop) (Q:VK),(∀p,H p=none->p∉G.M)->RdV K G H x v->w x R->
 (∀z v' H',R z->Same H H'->Rep K G H' z v'->Q v' H')->r v H Q
def qOp (w:w2)(pa pb:pE):pE:=λenv n R=>pa env n λx jc n1=>pb jc n1 λy jd n2=>w x y λz=>R z jd n2
def qOpR (w:w2)(pa pb:pE):pE:=λenv n R=>pa env n λx jc n1=>pb jc n1 λy jd n2=>jd=jc/\w x y λz=>R z jd n2
def qUn (w:w1)(pa:pE):pE:=λenv n R=>pa env n λx jc n1=>w x λz=>R z jc n1
theorem C_ (hw:W2 K r w)(ha:EOk K T ta pa)(hb:ROk K T tb pb):EOk K T (tOp r ta tb) (qOp w pa pb):=λC G σ H env n R Q hK hT S hp k=>by
 refine ha C G σ H env n _ _ hK hT S hp λx jc n1 v H1 p1 S1 r1 f1=>?_;refine hb C G σ H1 jc n1 _ _ hK hT S1 p1 λy jd n2 u H2 p2 S2 r2 f2=>?_;subst hK;exact hw G H2 x y v u _ _ (λp hp=>S2.fresh hp) (.inl (r1.fr f2)) (r2.rd S2) p2 λz v' H' rz s rv=>k _ _ _ _ _ rz (S2.same s) rv ((f1.trans f2).trans (Fr.of s))
theorem Kb (hw:W2 K r w)(ha:ROk K T ta pa)(hb:ROk K T tb pb):EOk K T (tOp r ta tb) (qOpR w pa pb):=λC G σ H env n R Q hK hT S hp k=>by
 refine ha C G σ H env n _ _ hK hT S hp λx jc n1 v H1 p1 S1 r1 f1=>?_;refine hb C G σ H1 jc n1 _ _ hK hT S1 p1 λy jd n2 u H2 p2 S2 r2 f2=>?_;subst hK;obtain⟨e,p2⟩:=p2;subst e;exact hw G H2 x y v u _ _ (λp hp=>S2.fresh hp) ((r1.fr f2).rd S2) (r2.rd S2) p2 λz v' H' rz s rv=>k _ _ _ _ _ rz (S2.same s) rv ((f1.trans f2).trans (Fr.of s))
theorem ok_un (hw:W1 K r w)(ha:ROk K T ta pa):EOk K T (tUn r ta) (qUn w pa):=λC G σ H env n R Q hK hT S hp k=>by
 refine ha C G σ H env n _ _ hK hT S hp λx jc n1 v H1 p1 S1 r1 f1=>?_;subst hK;exact hw G H1 x v _ _ (λp hp=>S1.fresh hp) (r1.rd S1) p1 λz v' H' rz s rv=>k _ _ _ _ _ rz (S1.same s) rv (f1.trans (Fr.of s))
def wI (C:Int->Int->Prop)(g:Int->Int->PV):w2:=λx y R=>match x,y with|.int i,.int j=>C i j/\R (g i j)|_,_=>False
theorem W2.I (hg:∀i j G H,Rep K G H (g' i j) (g i j)):W2 K (rI C g) (wI C g'):=by
 intro G H x y v u R Q hf rx ry hw k;unfold wI at hw
 split at hw
 ·exact⟨_,_,rx.int,ry.int,hw.1,k _ _ _ hw.2 (Same.refl _) (hg _ _ _ _)⟩
 ·exact hw.elim
def wI0 (g:Int->Int->PV):w2:=λx y R=>match x,y with|.int i,.int j=>R (g i j)|_,_=>False
theorem W2.I0 (hg:∀i j G H,Rep K G H (g' i j) (g i j)):W2 K (rI0 g) (wI0 g'):=by
 intro G H x y v u R Q hf rx ry hw k;unfold wI0 at hw
 split at hw
 ·exact⟨_,_,rx.int,ry.int,k _ _ _ hw (Same.refl _) (hg _ _ _ _)⟩
 ·exact hw.elim
def wAdd:w2:=λx y R=>match x,y with
 |.int i,.int j=>R (.int (i+j))
 |.str i,.str j=>i.length+j.length<=1000000/\R (.str (i++j))
 |.tup xs,.tup ys=>xs.length+ys.length<=1000000/\R (.tup (xs++ys))
 |_,_=>False
theorem mil (h:n<=1000000):n<=C2:=N6 h (by rw[L0];decide)
theorem mil' (h:n<=1000000):n<C2:=Cz h (by rw[L0];decide)
theorem Da (hf:p∉G.M)(hn:H p=none)(r:Reps K G H xs vs):Rep K G (upd H p (.tup vs)) (.tup xs) (.ref p):=
 ⟨p,vs,rfl,⟨hf,D9⟩,r.same (Same.lay1 hn)⟩
theorem EG (hf:p∉G.M)(hn:H p=none)(r:Reps K G H xs vs):Rep K G (upd H p (.lst vs)) (.lst xs) (.ref p):=
 ⟨p,vs,rfl,⟨hf,D9⟩,r.same (Same.lay1 hn)⟩
theorem W2.add:W2 K (λx y H Q=>(rI0 λi j=>.int (i+j)) x y H Q\/(∃i j,x=.str i/\y=.str j/\i.length+j.length<=C2/\Q (.str (i++j)) H)\/rCatA K x y H Q) wAdd:=by
 intro G H x y v u R Q hf rx ry hw k;unfold wAdd at hw
 split at hw
 ·exact .inl ⟨_,_,rx.int,ry.int,k _ _ _ hw (Same.refl _) rfl⟩
 ·exact .inr (.inl ⟨_,_,rx.str,ry.str,mil hw.1,k _ _ _ hw.2 (Same.refl _) rfl⟩)
 ·rename_i xs ys;obtain⟨a,vs,ea,ta,ra⟩:=rx.rep (λ_ z=>nomatch z);obtain⟨b,us,eb,tb,rb⟩:=ry.rep (λ_ z=>nomatch z);refine .inr (.inr ⟨a,b,vs,us,ea,eb,ta.sq,tb.sq,?_,λz=>?_,λz1 z2=>?_,λz1 z2 p hp=>?_⟩)
  ·rw[<- ra.length,<- rb.length];exact mil hw.1
  ·subst z;have:xs=[]:=Ec ra.length;subst this;exact k _ _ _ hw.2 (Same.refl _) ⟨b,us,rfl,tb,rb⟩
  ·subst z2;have:ys=[]:=Ec rb.length;subst this;exact k _ _ _ hw.2 (Same.refl _) (by rw[Y6];exact⟨a,vs,rfl,ta,ra⟩)
  ·exact k _ _ _ hw.2 (Same.lay1 hp) (Da (hf p hp) hp (ra.append rb))
 ·exact hw.elim
theorem J9 (ha:QE T K F a pa)(hb:QE T K F b pb)(hK:∀z,(F z).K=K:=by intro _;rfl):QE T K F (.BinOp a .Add b pos) (qOp wAdd pa pb):=by
 obtain⟨ta,h1,h2⟩:=ha;obtain⟨tb,h3,h4⟩:=hb.r;exact⟨_,λz=>N7 (BE.or (OJ.or (hK z▸PF))) (h1 z) (h3 z),C_ W2.add h2 h4⟩
theorem EH (ho:∀z,OpR (F z) (U3 op) r)(hw:W2 K r w)(ha:QE T K F a pa)(hb:QE T K F b pb):QE T K F (.BinOp a op b pos) (qOp w pa pb):=by
 obtain⟨ta,h1,h2⟩:=ha;obtain⟨tb,h3,h4⟩:=hb.r;exact⟨_,λz=>N7 (ho z) (h1 z) (h3 z),C_ hw h2 h4⟩
def wSub:w2:=wI0 λi j=>.int (i-j)
def wMul:w2:=λx y R=>match x,y with
 |.int i,.int j=>CMul i j/\R (.int (i*j))
 |.str i,.int n=>i.length<=100/\0<=n/\n<=1000/\R (.str (Txt.mul i n))
 |_,_=>False
def EI:w2:=wI CDiv λi j=>.int (i/j)
def wMod:w2:=wI (λ_ j=>0<j) λi j=>.int (i%j)
theorem W2.mul:W2 K (λx y H Q=>(rI CMul λi j=>.int (i*j)) x y H Q\/(∃i n,x=.str i/\y=.int n/\i.length<=100/\0<=n/\n<=1000/\Q (.str (Txt.mul i n)) H)) wMul:=by
 intro G H x y v u R Q hf rx ry hw k;unfold wMul at hw
 split at hw
 ·exact .inl ⟨_,_,rx.int,ry.int,hw.1,k _ _ _ hw.2 (Same.refl _) rfl⟩
 ·exact .inr ⟨_,_,rx.str,ry.int,hw.1,hw.2.1,hw.2.2.1,k _ _ _ hw.2.2.2 (Same.refl _) rfl⟩
 ·exact hw.elim
theorem Z4 (ha:QE T K F a pa)(hb:QE T K F b pb):QE T K F (.BinOp a .Sub b pos) (qOp wSub pa pb):=EH (λ_=>op_sub) (W2.I0 λ_ _ _ _=>rfl) ha hb
theorem GY (ha:QE T K F a pa)(hb:QE T K F b pb):QE T K F (.BinOp a .Mult b pos) (qOp wMul pa pb):=EH (λ_=>CS.or Pz) W2.mul ha hb
theorem Kc (ha:QE T K F a pa)(hb:QE T K F b pb):QE T K F (.BinOp a .FloorDiv b pos) (qOp EI pa pb):=EH (λ_=>GE) (W2.I λ_ _ _ _=>rfl) ha hb
theorem qe_mod (ha:QE T K F a pa)(hb:QE T K F b pb):QE T K F (.BinOp a .Mod b pos) (qOp wMod pa pb):=EH (λ_=>Az) (W2.I λ_ _ _ _=>rfl) ha hb
end
end Pu
end
section
namespace L2
open PySem PySem.Spec PyProof.Rows
def EqD (K:A9)(H:Hp):Nat->V->V->Bool->Prop
 |0,x,y,b=>T8 x=true/\T8 y=true/\b=eqV x y
 | d + 1, x, y, b => (T8 x = true /\ T8 y = true /\ b = eqV x y) \/
   (∃p q xs ys,∃f:Nat->Bool,x=.ref p/\y=.ref q/\SqT K H p xs/\SqT K H q ys/\(∀(j:Nat) x' y',xs[j]?=some x'->ys[j]?=some y'->EqD K H d x' y' (f j))/\b=((E9 (min xs.length ys.length)).all f&&xs.length == ys.length))\/
   (∃p q xs ys,∃f:Nat->Bool,x=.ref p/\y=.ref q/\SqL K H p xs/\SqL K H q ys/\(∀(j:Nat) x' y',xs[j]?=some x'->ys[j]?=some y'->EqD K H d x' y' (f j))/\b=((E9 (min xs.length ys.length)).all f&&xs.length == ys.length))\/
   (b=false/\((∃p xs,x=.ref p/\(SqT K H p xs\/SqL K H p xs)/\T8 y=true)\/(∃p xs,y=.ref p/\(SqT K H p xs\/SqL K H p xs)/\T8 x=true)\/
     (∃p q xs ys,x=.ref p/\y=.ref q/\SqT K H p xs/\SqL K H q ys)\/(∃p q xs ys,x=.ref p/\y=.ref q/\SqL K H p xs/\SqT K H q ys)))
section
variable {X:Cx}{jb:List (A0×Obj)}{σ:St}{H:Hp}{s:A6}
theorem X6 (I:Inv X jb σ H s)(h:SqT X.K H p xs)(h':SqL X.K H p ys):False:=by
 obtain⟨jf,r,⟨o,e,c,n,d⟩,_⟩:=I.tuple h;obtain⟨its',r',⟨o',n',e',c',_,d'⟩,_⟩:=I.list h';rw[e] at e';cases e';rw[c] at c';injection c' with c';exact absurd c' (by decide)
theorem EqD.refl (I:Inv X jb σ H s):∀(d:Nat) (x:V) (b:Bool),EqD X.K H d x x b->b=true:=by
 intro d
 induction d with
 | zero =>
  intro x b h;obtain⟨h1,_,rfl⟩:=h;exact JX h1
 | succ d ih =>
  intro x b h;rcases h with⟨h1,_,rfl⟩|⟨p,q,xs,ys,f,e1,e2,s1,s2,hf,rfl⟩|⟨p,q,xs,ys,f,e1,e2,s1,s2,hf,rfl⟩|⟨rfl,h⟩
  ·exact JX h1
  ·subst e1;cases e2;have:=I.tuple_inj s1 s2;subst this;simp only[CD,beq_self_eq_true,Bool.and_true,N0,O1];intro j hj;exact ih _ _ (hf j xs[j] xs[j] (by simp[hj]) (by simp[hj]))
  ·subst e1;cases e2;have:=I.list_inj s1 s2;subst this;simp only[CD,beq_self_eq_true,Bool.and_true,N0,O1];intro j hj;exact ih _ _ (hf j xs[j] xs[j] (by simp[hj]) (by simp[hj]))
  ·rcases h with⟨p,xs,rfl,_,h⟩|⟨p,xs,rfl,_,h⟩|⟨p,q,xs,ys,e1,e2,s1,s2⟩|⟨p,q,xs,ys,e1,e2,s1,s2⟩
   ·cases h
   ·cases h
   ·subst e1;cases e2;exact(X6 I s1 s2).elim
   ·subst e1;cases e2;exact(X6 I s2 s1).elim
theorem Inv.sqL (I:Inv X jb σ H s)(h:SqL X.K H p xs):∃jf:List A1,Vals xs jf/\s.heap.IsList p jf.toArray:=by
 obtain⟨jf,r,pl,_⟩:=I.list h;exact⟨jf,r,pl.isList⟩
theorem Inv.sqT (I:Inv X jb σ H s)(h:SqT X.K H p xs):∃jf:List A1,Vals xs jf/\s.heap.IsTuple p jf.toArray:=by
 obtain⟨jf,r,pl,_⟩:=I.tuple h;exact⟨jf,r,pl⟩
theorem Kd (I:Inv X jb σ H s)(hu:A.units<cLine)(hq:SqT X.K H p xs\/SqL X.K H p xs)(ry:RelV y w)(fy:T8 y=true) :
   Bz A s (.ref p) w false/\By A s (.ref p) w true/\Bz A s w (.ref p) false/\By A s w (.ref p) true/\Ay A s (.ref p) w false/\Ay A s w (.ref p) false:=by
 rcases hq with hq|hq
 ·obtain⟨jf,r,il⟩:=I.sqT hq;cases y with
  |non=>cases ry;exact⟨.tuple_none il hu,.tuple_none il hu,.none_tuple il hu,.none_tuple il hu,.tuple_none il hu,.none_tuple il hu⟩
  |bl b=>cases ry;exact⟨.tuple_bool b il hu,.tuple_bool b il hu,.bool_tuple b il hu,.bool_tuple b il hu,.tuple_bool b il hu,.bool_tuple b il hu⟩
  |int i=>obtain⟨t,rfl⟩:=ry;exact⟨.tuple_int i t il hu,.tuple_int i t il hu,.int_tuple i t il hu,.int_tuple i t il hu,.tuple_int i t il hu,.int_tuple i t il hu⟩
  |str i=>obtain⟨t,rfl⟩:=ry;exact⟨.tuple_str i t il hu,.tuple_str i t il hu,.str_tuple i t il hu,.str_tuple i t il hu,.tuple_str i t il hu,.str_tuple i t il hu⟩
  |_=>cases fy
 ·obtain⟨jf,r,il⟩:=I.sqL hq;cases y with
  |non=>cases ry;exact⟨.list_none il hu,.list_none il hu,.none_list il hu,.none_list il hu,.list_none il hu,.none_list il hu⟩
  |bl b=>cases ry;exact⟨.list_bool b il hu,.list_bool b il hu,.bool_list b il hu,.bool_list b il hu,.list_bool b il hu,.bool_list b il hu⟩
  |int i=>obtain⟨t,rfl⟩:=ry;exact⟨.list_int i t il hu,.list_int i t il hu,.int_list i t il hu,.int_list i t il hu,.list_int i t il hu,.int_list i t il hu⟩
  |str i=>obtain⟨t,rfl⟩:=ry;exact⟨.list_str i t il hu,.list_str i t il hu,.str_list i t il hu,.str_list i t il hu,.list_str i t il hu,.str_list i t il hu⟩
  |_=>cases fy
theorem Ke (rx:RelV x u)(ry:RelV y w)(fx:T8 x=true)(fy:T8 y=true):Bz A s u w (eqV x y)/\By A s u w (!eqV x y):=by
 cases x with
 | non =>
  cases rx;cases y with
  |non=>cases ry;exact⟨.none_none,.none_none⟩
  |bl j=>cases ry;exact⟨.none_bool j,.none_bool j⟩
  |int j=>obtain⟨t,rfl⟩:=ry;exact⟨.none_int j t,.none_int j t⟩
  |str j=>obtain⟨t,rfl⟩:=ry;exact⟨.none_str j t,.none_str j t⟩
  |_=>cases fy
 | bl i =>
  cases rx;cases y with
  |non=>cases ry;exact⟨.bool_none i,.bool_none i⟩
  |bl j=>cases ry;exact⟨.bool_bool i j,.bool_bool i j⟩
  |int j=>obtain⟨t,rfl⟩:=ry;exact⟨.bool_int i j t,.bool_int i j t⟩
  |str j=>obtain⟨t,rfl⟩:=ry;exact⟨.bool_str i j t,.bool_str i j t⟩
  |_=>cases fy
 | int i =>
  obtain⟨ti,rfl⟩:=rx;cases y with
  |non=>cases ry;exact⟨.int_none i ti,.int_none i ti⟩
  |bl j=>cases ry;exact⟨.int_bool i ti j,.int_bool i ti j⟩
  |int j=>obtain⟨t,rfl⟩:=ry;exact⟨.int_int i ti j t,.int_int i ti j t⟩
  |str j=>obtain⟨t,rfl⟩:=ry;exact⟨.int_str i ti j t,.int_str i ti j t⟩
  |_=>cases fy
 | str i =>
  obtain⟨ti,rfl⟩:=rx;cases y with
  |non=>cases ry;exact⟨.str_none i ti,.str_none i ti⟩
  |bl j=>cases ry;exact⟨.str_bool i ti j,.str_bool i ti j⟩
  |int j=>obtain⟨t,rfl⟩:=ry;exact⟨.str_int i ti j t,.str_int i ti j t⟩
  |str j=>obtain⟨t,rfl⟩:=ry;exact⟨.str_str i ti j t,.str_str i ti j t⟩
  |_=>cases fy
 |_=>cases fx
theorem Db (A:D8):A.in1.units=A.units+1:=rfl
theorem EqD.at (I:Inv X jb σ H s):∀(d:Nat) (A:D8) (x y:V) (u w:A1) (b:Bool),A.units+d<cLine->RelV x u->RelV y w->EqD X.K H d x y b->Ay A s u w b/\Bz A s u w b/\By A s u w (!b):=by
 intro d
 induction d with
 | zero =>
  intro A x y u w b hu rx ry h;obtain⟨h1,h2,rfl⟩:=h;exact⟨JO rx ry h1 h2,Ke rx ry h1 h2⟩
 | succ d ih =>
  intro A x y u w b hu rx ry h;have hu0:A.units<cLine:=by omega
  have hu1:A.in1.units+d<cLine:=by rw[Db];omega
  have hrefl:=EqD.refl I (d+1) x b;rcases h with⟨h1,h2,rfl⟩|⟨p,q,xs,ys,f,e1,e2,s1,s2,hf,eb⟩|⟨p,q,xs,ys,f,e1,e2,s1,s2,hf,eb⟩|⟨rfl,h⟩
  ·exact⟨JO rx ry h1 h2,Ke rx ry h1 h2⟩
  ·subst e1 e2;cases rx;cases ry;obtain⟨jf,r1,t1⟩:=I.sqT s1;obtain⟨its2,r2,t2⟩:=I.sqT s2;have z1:jf.toArray.size=xs.length:=by simpa using r1.length.symm
   have z2:its2.toArray.size=ys.length:=by simpa using r2.length.symm
   have he:∀j (h1:j<jf.toArray.size) (h2:j<its2.toArray.size),Ay A.in1 s jf.toArray[j] its2.toArray[j] (f j):=by
    intro j h1 h2;obtain⟨x',e1,q1⟩:=r1.getE (j:=j) (by omega);obtain⟨y',e2,q2⟩:=r2.getE (j:=j) (by grind);exact(ih A.in1 x' y' _ _ (f j) hu1 (by grind) (by grind) (hf j x' y' e1 e2)).1
   have rc:Bz A s (.ref p) (.ref q) b:=by
    rw[eb,<- z1,<- z2];exact SeqAt.RcAt.tuples t1 t2 hu0 he
   have rn:By A s (.ref p) (.ref q) (!b):=by
    rw[eb,<- z1,<- z2];exact SeqAt.RcNeAt.tuples t1 t2 hu0 he
   refine⟨?_,rc,rn⟩
   by_cases hpq:p=q
   ·subst hpq;rw[hrefl (.inr (.inl ⟨p,p,xs,ys,f,rfl,rfl,s1,s2,hf,eb⟩))];exact .same _
   ·exact .of_refs hpq rc
  ·subst e1 e2;cases rx;cases ry;obtain⟨jf,r1,t1⟩:=I.sqL s1;obtain⟨its2,r2,t2⟩:=I.sqL s2;have z1:jf.toArray.size=xs.length:=by simpa using r1.length.symm
   have z2:its2.toArray.size=ys.length:=by simpa using r2.length.symm
   have he:∀j (h1:j<jf.toArray.size) (h2:j<its2.toArray.size),Ay A.in1 s jf.toArray[j] its2.toArray[j] (f j):=by
    intro j h1 h2;obtain⟨x',e1,q1⟩:=r1.getE (j:=j) (by omega);obtain⟨y',e2,q2⟩:=r2.getE (j:=j) (by grind);exact(ih A.in1 x' y' _ _ (f j) hu1 (by grind) (by grind) (hf j x' y' e1 e2)).1
   have rr:Bz A s (.ref p) (.ref q) b/\By A s (.ref p) (.ref q) (!b):=by
    by_cases hl:xs.length=ys.length
    ·have e3:b=(E9 jf.toArray.size).all f:=by rw[eb,hl,CD,beq_self_eq_true,Bool.and_true,z1,hl]
     rw[e3];exact⟨SeqAt.RcAt.lists t1 t2 (by grind) hu0 he,SeqAt.RcNeAt.lists t1 t2 (by grind) hu0 he⟩
    ·have e3:b=false:=by
      rw[eb];have:(xs.length == ys.length)=false:=by simpa using hl
      rw[this,Bool.and_false]
     rw[e3];have e4:(jf.toArray.size != its2.toArray.size)=true:=by rw[z1,z2];simpa using hl
     exact⟨SeqAt.RcAt.lists_lengths t1 t2 e4 hu0,SeqAt.RcNeAt.lists_lengths t1 t2 e4 hu0⟩
   refine⟨?_,rr⟩
   by_cases hpq:p=q
   ·subst hpq;rw[hrefl (.inr (.inr (.inl ⟨p,p,xs,ys,f,rfl,rfl,s1,s2,hf,eb⟩)))];exact .same _
   ·exact .of_refs hpq rr.1
  ·rcases h with⟨p,xs,rfl,hq,fy⟩|⟨p,xs,rfl,hq,fx⟩|⟨p,q,xs,ys,e1,e2,s1,s2⟩|⟨p,q,xs,ys,e1,e2,s1,s2⟩
   ·cases rx;obtain⟨a1,a2,a3,a4,a5,a6⟩:=Kd I hu0 hq ry fy;exact⟨a5,a1,a2⟩
   ·cases ry;obtain⟨a1,a2,a3,a4,a5,a6⟩:=Kd I hu0 hq rx fx;exact⟨a6,a3,a4⟩
   ·subst e1 e2;cases rx;cases ry;obtain⟨jf,r1,t1⟩:=I.sqT s1;obtain⟨its2,r2,t2⟩:=I.sqL s2;exact⟨.tuple_list t1 t2 hu0,.tuple_list t1 t2 hu0,.tuple_list t1 t2 hu0⟩
   ·subst e1 e2;cases rx;cases ry;obtain⟨jf,r1,t1⟩:=I.sqL s1;obtain⟨its2,r2,t2⟩:=I.sqT s2;exact⟨.list_tuple t1 t2 hu0,.list_tuple t1 t2 hu0,.list_tuple t1 t2 hu0⟩
end
section
variable {X:Cx}
def rEqD (K:A9)(d:Nat)(neg:Bool):R2:=λx y H Q=>∃b,EqD K H d x y b/\Q (.bl (if neg then !b else b)) H
theorem op_eqD (d:Nat)(hu:X.A.units+d<cLine):OpR X (P7 .Eq) (rEqD X.K d false):=by
 intro jb s σ H x y v u Q I rx ry h;obtain⟨b,hb,q⟩:=h;exact(hb.at I d X.A x y v u b hu rx ry).2.1 X.prog X.w X.xe _ ⟨.bl _,H,I,rfl,q⟩
theorem op_neD (d:Nat)(hu:X.A.units+d<cLine):OpR X (P7 .NotEq) (rEqD X.K d true):=by
 intro jb s σ H x y v u Q I rx ry h;obtain⟨b,hb,q⟩:=h;exact(hb.at I d X.A x y v u b hu rx ry).2.2 X.prog X.w X.xe _ ⟨.bl _,H,I,rfl,q⟩
def rInD (K:A9)(d:Nat)(neg:Bool):R2:=λx y H Q=>∃p ys,∃f:Nat->Bool,y=.ref p/\(SqL K H p ys\/SqT K H p ys)/\(∀(j:Nat) z,ys[j]?=some z->EqD K H d z x (f j))/\Q (.bl (if neg then !((E9 ys.length).any f) else(E9 ys.length).any f)) H
theorem Kf (h:∀j,j<n->f j=g j):(E9 n).all f=(E9 n).all g:=by
 rw[d8,N0,N0];constructor
 ·intro k j hj;rw[<- h j (O1.mp hj)];exact k j hj
 ·intro k j hj;rw[h j (O1.mp hj)];exact k j hj
theorem EqD.det (I:Inv X jb σ H s):∀(d:Nat) (x y:V) (b b':Bool),EqD X.K H d x y b->EqD X.K H d x y b'->b=b':=by
 intro d
 induction d with
 | zero =>
  intro x y b b' h h';rw[h.2.2,h'.2.2]
 | succ d ih =>
  intro x y b b' h h';rcases h with⟨h1,h2,rfl⟩|⟨p,q,xs,ys,f,rfl,rfl,s1,s2,hf,rfl⟩|⟨p,q,xs,ys,f,rfl,rfl,s1,s2,hf,rfl⟩|⟨rfl,h⟩
  ·rcases h' with⟨h1',h2',rfl⟩|⟨p,q,xs,ys,f,rfl,rfl,s1,s2,hf,rfl⟩|⟨p,q,xs,ys,f,rfl,rfl,s1,s2,hf,rfl⟩|⟨rfl,h⟩
   ·rfl
   ·cases h1
   ·cases h1
   ·rcases h with⟨p,xs,rfl,_,h⟩|⟨p,xs,rfl,_,h⟩|⟨p,q,xs,ys,rfl,rfl,s1,s2⟩|⟨p,q,xs,ys,rfl,rfl,s1,s2⟩
    ·cases h1
    ·cases h2
    ·cases h1
    ·cases h1
  ·rcases h' with⟨h1',h2',rfl⟩|⟨p',q',xs',ys',f',e1,e2,s1',s2',hf',rfl⟩|⟨p',q',xs',ys',f',e1,e2,s1',s2',hf',rfl⟩|⟨rfl,h⟩
   ·cases h1'
   ·cases e1;cases e2;have:=I.tuple_inj s1 s1';subst this;have:=I.tuple_inj s2 s2';subst this;rw[Kf λj hj=>ih _ _ _ _ (hf j (xs[j]'(by omega)) (ys[j]'(by omega)) (D4 _) (D4 _)) (hf' j (xs[j]'(by omega)) (ys[j]'(by omega)) (D4 _) (D4 _))]
   ·cases e1;exact(X6 I s1 s1').elim
   ·rcases h with⟨p',xs',e1,_,h⟩|⟨p',xs',e1,_,h⟩|⟨p',q',xs',ys',e1,e2,s1',s2'⟩|⟨p',q',xs',ys',e1,e2,s1',s2'⟩
    ·cases h
    ·cases h
    ·cases e2;exact(X6 I s2 s2').elim
    ·cases e1;exact(X6 I s1 s1').elim
  ·rcases h' with⟨h1',h2',rfl⟩|⟨p',q',xs',ys',f',e1,e2,s1',s2',hf',rfl⟩|⟨p',q',xs',ys',f',e1,e2,s1',s2',hf',rfl⟩|⟨rfl,h⟩
   ·cases h1'
   ·cases e1;exact(X6 I s1' s1).elim
   ·cases e1;cases e2;have:=I.list_inj s1 s1';subst this;have:=I.list_inj s2 s2';subst this;rw[Kf λj hj=>ih _ _ _ _ (hf j (xs[j]'(by omega)) (ys[j]'(by omega)) (D4 _) (D4 _)) (hf' j (xs[j]'(by omega)) (ys[j]'(by omega)) (D4 _) (D4 _))]
   ·rcases h with⟨p',xs',e1,_,h⟩|⟨p',xs',e1,_,h⟩|⟨p',q',xs',ys',e1,e2,s1',s2'⟩|⟨p',q',xs',ys',e1,e2,s1',s2'⟩
    ·cases h
    ·cases h
    ·cases e1;exact(X6 I s1' s1).elim
    ·cases e2;exact(X6 I s2' s2).elim
  ·rcases h' with⟨h1',h2',rfl⟩|⟨p',q',xs',ys',f',rfl,rfl,s1',s2',hf',rfl⟩|⟨p',q',xs',ys',f',rfl,rfl,s1',s2',hf',rfl⟩|⟨rfl,h'⟩
   ·rcases h with⟨p,xs,rfl,_,h⟩|⟨p,xs,rfl,_,h⟩|⟨p,q,xs,ys,rfl,rfl,s1,s2⟩|⟨p,q,xs,ys,rfl,rfl,s1,s2⟩
    ·cases h1'
    ·cases h2'
    ·cases h1'
    ·cases h1'
   ·rcases h with⟨p,xs,e1,_,h⟩|⟨p,xs,e1,_,h⟩|⟨p,q,xs,ys,e1,e2,s1,s2⟩|⟨p,q,xs,ys,e1,e2,s1,s2⟩
    ·cases h
    ·cases h
    ·cases e2;exact(X6 I s2' s2).elim
    ·cases e1;exact(X6 I s1' s1).elim
   ·rcases h with⟨p,xs,e1,_,h⟩|⟨p,xs,e1,_,h⟩|⟨p,q,xs,ys,e1,e2,s1,s2⟩|⟨p,q,xs,ys,e1,e2,s1,s2⟩
    ·cases h
    ·cases h
    ·cases e1;exact(X6 I s1 s1').elim
    ·cases e2;exact(X6 I s2 s2').elim
   ·rfl
open Classical in
theorem EJ (I:Inv X jb σ H s)(hu:A.units+d<cLine)(r:Vals ys jf)(rx:RelV x v)(hf:∀(j:Nat) z,ys[j]?=some z->EqD X.K H d z x (f j)) :
   ∃e:A1->Bool,(∀y,y∈jf->Ay A s y v (e y))/\jf.any e=(E9 ys.length).any f:=by
 have key:∀(j j':Nat) (z:A1),jf[j]?=some z->jf[j']?=some z->f j=f j':=by
  intro j j' z h h';obtain⟨hj,_⟩:=J5.mp h;obtain⟨hj',_⟩:=J5.mp h';obtain⟨w1,a1,b1⟩:=r.getE hj;obtain⟨w2,a2,b2⟩:=r.getE hj';rw[D4 hj] at h;rw[D4 hj'] at h';cases h;rw[P0 h'] at b2;have:=b1.inj b2;subst this;exact EqD.det I d _ _ _ _ (hf j _ a1) (hf j' _ a2)
 let e:A1->Bool:=λy=>decide (∃j,jf[j]?=some y/\f j=true)
 have he:∀(j:Nat) (y:A1),jf[j]?=some y->e y=f j:=by
  intro j y h;show decide _=_;cases hb:f j with
  |true=>exact jp ⟨j,h,hb⟩
  |false=>exact jq λ⟨j',h1,h2⟩=>by rw[key j j' y h h1,h2] at hb;cases hb
 refine⟨e,λy hy=>?_,?_⟩
 ·obtain⟨j,hj,rfl⟩:=Cs hy;obtain⟨w1,a1,b1⟩:=r.getE hj;rw[he j _ (D4 hj)];exact((hf j w1 a1).at I d A w1 x _ v (f j) hu b1 rx).1
 ·have hl:=r.length;rw[d8,Bf,Bf];constructor
  ·rintro⟨y,hy,h⟩;obtain⟨j,hj,rfl⟩:=Cs hy;exact⟨j,O1.mpr (by omega),by rw[<- he j _ (D4 hj)];exact h⟩
  ·rintro⟨j,hj,h⟩;have hj':j<jf.length:=by have:=O1.mp hj;omega
   exact⟨jf[j],U5 hj',by rw[he j _ (D4 hj')];exact h⟩
theorem op_inD (d:Nat)(hu:X.A.units+(d+1)<cLine):OpR X (P7 .In) (rInD X.K d false):=by
 intro jb s σ H x y v u Q I rx ry h;obtain⟨p,ys,f,rfl,hq,hf,q⟩:=h;cases ry;rcases hq with hq|hq
 ·obtain⟨jf,r,il⟩:=I.sqL hq;obtain⟨e,h1,h2⟩:=EJ I (A:=X.A.in1) (by rw[Db];omega) r rx hf;refine SeqAt.in_listAt e il (λy hy=>h1 y (by simpa using hy)) ⟨.bl _,H,I,rfl,?_⟩;rw[show jf.toArray.any e=jf.any e by simp,h2];exact q
 ·obtain⟨jf,r,il⟩:=I.sqT hq;obtain⟨e,h1,h2⟩:=EJ I (A:=X.A.in1) (by rw[Db];omega) r rx hf;refine SeqAt.in_tupleAt e il (λy hy=>h1 y (by simpa using hy)) ⟨.bl _,H,I,rfl,?_⟩;rw[show jf.toArray.any e=jf.any e by simp,h2];exact q
theorem PJ (d:Nat)(hu:X.A.units+(d+1)<cLine):OpR X (P7 .NotIn) (rInD X.K d true):=by
 intro jb s σ H x y v u Q I rx ry h;obtain⟨p,ys,f,rfl,hq,hf,q⟩:=h;cases ry;rcases hq with hq|hq
 ·obtain⟨jf,r,il⟩:=I.sqL hq;obtain⟨e,h1,h2⟩:=EJ I (A:=X.A.in1) (by rw[Db];omega) r rx hf;refine SeqAt.notIn_listAt e il (λy hy=>h1 y (by simpa using hy)) ⟨.bl _,H,I,rfl,?_⟩;rw[show jf.toArray.any e=jf.any e by simp,h2];exact q
 ·obtain⟨jf,r,il⟩:=I.sqT hq;obtain⟨e,h1,h2⟩:=EJ I (A:=X.A.in1) (by rw[Db];omega) r rx hf;refine SeqAt.notIn_tupleAt e il (λy hy=>h1 y (by simpa using hy)) ⟨.bl _,H,I,rfl,?_⟩;rw[show jf.toArray.any e=jf.any e by simp,h2];exact q
end
end L2
namespace Pu
open PySem PySem.Spec L2
def y4:PV->Bool
 |.non=>true
 |.bl _=>true
 |.int _=>true
 |.str _=>true
 |_=>false
def cmpb:Nat->PV->Bool
 |0,x=>y4 x
 |d+1,.tup xs=>xs.all (cmpb d)
 |d+1,.lst xs=>xs.all (cmpb d)
 |_+1,x=>y4 x
mutual
def eqP:PV->PV->Bool
 |.non,.non=>true
 |.bl a,.bl b=>a == b
 |.bl a,.int b=>(if a then 1 else 0) == b
 |.int a,.bl b=>a == (if b then 1 else 0)
 |.int a,.int b=>a == b
 |.str a,.str b=>a == b
 |.tup xs,.tup ys=>eqPs xs ys
 |.lst xs,.lst ys=>eqPs xs ys
 |_,_=>false
def eqPs:List PV->List PV->Bool
 |[],[]=>true
 |x::xs,y::ys=>eqP x y&&eqPs xs ys
 |_,_=>false
end
theorem GZ:∀(xs ys:List PV),((E9 (min xs.length ys.length)).all (λj=>match xs[j]?,ys[j]? with|some x,some y=>eqP x y|_,_=>false)&&xs.length == ys.length)=eqPs xs ys
 |[],[]=>rfl
 |[],_::_=>rfl
 |_::_,[]=>rfl
 | x :: xs, y :: ys => by
  have ih:=GZ xs ys;show _=(eqP x y&&eqPs xs ys);rw[<- ih];simp only[E8,Nat.succ_min_succ,List.range_succ_eq_map,List.all_cons,List.all_map,Function.comp_def,Gi,Cn];rw[Bool.and_assoc]
  congr 1
  simp
end Pu
end
section
namespace Pu
open PySem PySem.Spec L2
section
variable {K:A9}{G:Gh}{H:Hp}
inductive Sort3 (K:A9)(G:Gh)(H:Hp)(d:Nat)(x:PV)(v:V):Prop where
 |fl (h:T8 v=true) (s:y4 x=true)
 |tp (p:A0) (xs:List PV) (vs:List V) (e:x=.tup xs) (ev:v=.ref p) (h:SqT K H p vs) (r:Reps K G H xs vs) (c:xs.all (cmpb d)=true)
 |ls (p:A0) (xs:List PV) (vs:List V) (e:x=.lst xs) (ev:v=.ref p) (h:SqL K H p vs) (r:Reps K G H xs vs) (c:xs.all (cmpb d)=true)
theorem BH (s:y4 x=true)(h:RdV K G H x v):T8 v=true:=by
 cases x with
 |non=>rw[h.non];rfl
 |bl b=>rw[h.bl];rfl
 |int b=>rw[h.int];rfl
 |str b=>rw[h.str];rfl
 |_=>cases s
theorem EK (c:cmpb (d+1) x=true)(h:RdV K G H x v):Sort3 K G H d x v:=by
 cases x with
 | tup xs =>
  obtain⟨a,vs,e,t,r⟩:=h.tup;exact .tp a xs vs rfl e t r c
 | lst xs =>
  obtain⟨a,vs,e,t,r⟩:=h.lst;exact .ls a xs vs rfl e t r c
 |non=>exact .fl (BH c h) c
 |bl _=>exact .fl (BH c h) c
 |int _=>exact .fl (BH c h) c
 |str _=>exact .fl (BH c h) c
 |ty _=>cases c
 |pot _=>cases c
 |scr _=>cases c
 |dct _ _=>cases c
 |fdt _ _=>cases c
theorem Kg (sx:y4 x=true)(sy:y4 y=true)(hx:RdV K G H x v)(hy:RdV K G H y u):eqP x y=eqV v u:=by
 cases x with
 | non =>
  cases hx.non;cases y with
  |non=>cases hy.non;rfl
  |bl j=>cases hy.bl;rfl
  |int j=>cases hy.int;rfl
  |str j=>cases hy.str;rfl
  |_=>cases sy
 | bl i =>
  cases hx.bl;cases y with
  |non=>cases hy.non;rfl
  |bl j=>cases hy.bl;rfl
  |int j=>cases hy.int;rfl
  |str j=>cases hy.str;rfl
  |_=>cases sy
 | int i =>
  cases hx.int;cases y with
  |non=>cases hy.non;rfl
  |bl j=>cases hy.bl;rfl
  |int j=>cases hy.int;rfl
  |str j=>cases hy.str;rfl
  |_=>cases sy
 | str i =>
  cases hx.str;cases y with
  |non=>cases hy.non;rfl
  |bl j=>cases hy.bl;rfl
  |int j=>cases hy.int;rfl
  |str j=>cases hy.str;rfl
  |_=>cases sy
 |_=>cases sx
theorem EL (sy:y4 y=true):eqP (.tup xs) y=false/\eqP (.lst xs) y=false/\eqP y (.tup xs)=false/\eqP y (.lst xs)=false:=by
 cases y <;> first|exact⟨rfl,rfl,rfl,rfl⟩|cases sy
theorem G_:∀(d:Nat) (x y:PV) (v u:V),cmpb d x=true->cmpb d y=true->RdV K G H x v->RdV K G H y u->EqD K H d v u (eqP x y):=by
 intro d
 induction d with
 |zero=>intro x y v u cx cy hx hy;exact⟨BH cx hx,BH cy hy,Kg cx cy hx hy⟩
 | succ d ih =>
  intro x y v u cx cy hx hy
  have el:∀(xs ys:List PV) (vs us:List V),Reps K G H xs vs->Reps K G H ys us->xs.all (cmpb d)=true->ys.all (cmpb d)=true->∀(j:Nat) x' y',vs[j]?=some x'->us[j]?=some y'->EqD K H d x' y' (match xs[j]?,ys[j]? with|some x,some y=>eqP x y|_,_=>false):=by
   intro xs ys vs us r1 r2 c1 c2 j x' y' e1 e2;obtain⟨x1,ex,rx⟩:=r1.get e1;obtain⟨y1,ey,ry⟩:=r2.get e2;rw[ex,ey];exact ih x1 y1 x' y' (N0.mp c1 x1 (K8 ex)) (N0.mp c2 y1 (K8 ey)) (.inl rx) (.inl ry)
  cases EK cx hx with
  | fl fx sx =>
   cases EK cy hy with
   |fl fy sy=>exact .inl ⟨fx,fy,Kg sx sy hx hy⟩
   |tp q ys us e ev h r c=>subst e;exact .inr (.inr (.inr ⟨(EL sx).2.2.1,.inr (.inl ⟨q,us,ev,.inl h,fx⟩)⟩))
   |ls q ys us e ev h r c=>subst e;exact .inr (.inr (.inr ⟨(EL sx).2.2.2,.inr (.inl ⟨q,us,ev,.inr h,fx⟩)⟩))
  | tp p xs vs e ev h r c =>
   subst e;cases EK cy hy with
   |fl fy sy=>exact .inr (.inr (.inr ⟨(EL sy).1,.inl ⟨p,vs,ev,.inl h,fy⟩⟩))
   | tp q ys us e2 ev2 h2 r2 c2 =>
    subst e2;refine .inr (.inl ⟨p,q,vs,us,_,ev,ev2,h,h2,el xs ys vs us r r2 c c2,?_⟩);rw[<- r.length,<- r2.length];exact(GZ xs ys).symm
   |ls q ys us e2 ev2 h2 r2 c2=>subst e2;exact .inr (.inr (.inr ⟨rfl,.inr (.inr (.inl ⟨p,q,vs,us,ev,ev2,h,h2⟩))⟩))
  | ls p xs vs e ev h r c =>
   subst e;cases EK cy hy with
   |fl fy sy=>exact .inr (.inr (.inr ⟨(EL sy).2.1,.inl ⟨p,vs,ev,.inr h,fy⟩⟩))
   |tp q ys us e2 ev2 h2 r2 c2=>subst e2;exact .inr (.inr (.inr ⟨rfl,.inr (.inr (.inr ⟨p,q,vs,us,ev,ev2,h,h2⟩))⟩))
   | ls q ys us e2 ev2 h2 r2 c2 =>
    subst e2;refine .inr (.inr (.inl ⟨p,q,vs,us,_,ev,ev2,h,h2,el xs ys vs us r r2 c c2,?_⟩));rw[<- r.length,<- r2.length];exact(GZ xs ys).symm
end
section
variable {T:PotK}{ι:Type}{K:A9}{F:ι->Cx}{e a b c:Expr}{es rest:List Expr}{pe pa pb pc:pE}{pos:Pos}
def grd (b:Bool)(P:Prop):Prop:=match b with|true=>P|false=>False
theorem grd_t {P:Prop}:grd true P=P:=rfl
theorem Ha {b:Bool}{P:Prop}(h:b=true)(p:P):grd b P:=by subst h;exact p
theorem EM {b:Bool}{P:Prop}(h:grd b P):b=true:=by grind [grd]
theorem BI {b:Bool}{P:Prop}(h:grd b P):P:=by cases b;exact h.elim;exact h
theorem gd2 {a b:Bool}{P:Prop}(h1:a=true)(h2:b=true)(p:P):grd a (grd b P):=Ha h1 (Ha h2 p)
def wEq (d:Nat):w2:=λx y R=>grd (cmpb d x) (grd (cmpb d y) (R (.bl (eqP x y))))
def wNe (d:Nat):w2:=λx y R=>grd (cmpb d x) (grd (cmpb d y) (R (.bl (!eqP x y))))
theorem W2.eq (d:Nat):W2 K (rEqD K d false) (wEq d):=λG H x y v u R Q hf rx ry hw k=>⟨_,G_ d x y v u (EM hw) (EM (BI hw)) rx ry,k _ _ _ (BI (BI hw)) (Same.refl _) rfl⟩
theorem W2.ne (d:Nat):W2 K (rEqD K d true) (wNe d):=λG H x y v u R Q hf rx ry hw k=>⟨_,G_ d x y v u (EM hw) (EM (BI hw)) rx ry,k _ _ _ (BI (BI hw)) (Same.refl _) rfl⟩
def memP (x:PV)(ys:List PV):Bool:=ys.any λy=>eqP y x
def wIn (d:Nat)(neg:Bool):w2:=λx y R=>match x,y with
 |.str i,.str j=>R (.bl (if neg then !(!(Bt j i 0 j.length 1).isEmpty) else !(Bt j i 0 j.length 1).isEmpty))
 |x,.lst ys=>cmpb d x=true/\ys.all (cmpb d)=true/\R (.bl (if neg then !memP x ys else memP x ys))
 |x,.tup ys=>cmpb d x=true/\ys.all (cmpb d)=true/\R (.bl (if neg then !memP x ys else memP x ys))
 |_,_=>False
theorem Kh {x:PV}:∀ys:List PV,((E9 ys.length).any λj=>match ys[j]? with|some y=>eqP y x|none=>false)=memP x ys
 |[]=>rfl
 | y :: ys => by
  have ih:=Kh (x:=x) ys;show _=(eqP y x||memP x ys);rw[<- ih];simp only[E8,List.range_succ_eq_map,List.any_cons,List.any_map,Function.comp_def,Gi,Cn]
theorem W2.in_ {K:A9}(d:Nat)(neg:Bool){r:R2}(hr:∀x y H Q,(∃i j,x=.str i/\y=.str j/\Q (.bl (if neg then !(!(Bt j i 0 j.length 1).isEmpty) else !(Bt j i 0 j.length 1).isEmpty)) H)\/rInD K d neg x y H Q->r x y H Q):W2 K r (wIn d neg):=by
 intro G H x y v u R Q hf rx ry hw k;refine hr _ _ _ _ ?_
 have seq:∀(ys:List PV) (p:A0) (us:List V),u=.ref p->(SqL K H p us\/SqT K H p us)->Reps K G H ys us->cmpb d x=true/\ys.all (cmpb d)=true/\R (.bl (if neg then !memP x ys else memP x ys))->rInD K d neg v u H Q:=by
  intro ys p us eu hq r h;refine⟨p,us,λj=>match ys[j]? with|some y=>eqP y x|none=>false,eu,hq,λj z ez=>?_,?_⟩
  ·obtain⟨y1,ey,ry⟩:=r.get ez;dsimp only;rw[ey];exact G_ d y1 x z v (N0.mp h.2.1 y1 (K8 ey)) h.1 (.inl ry) rx
  ·rw[<- r.length,Kh];exact k _ _ _ h.2.2 (Same.refl _) rfl
 unfold wIn at hw
 split at hw
 ·exact .inl ⟨_,_,rx.str,ry.str,k _ _ _ hw (Same.refl _) rfl⟩
 ·obtain⟨p,us,eu,hq,r⟩:=ry.lst;exact .inr (seq _ p us eu (.inl hq) r hw)
 ·obtain⟨p,us,eu,hq,r⟩:=ry.tup;exact .inr (seq _ p us eu (.inr hq) r hw)
 ·exact hw.elim
def wLt:w2:=λx y R=>match x,y with|.int i,.int j=>R (.bl (decide (i<j)))|.str i,.str j=>R (.bl (decide (i.cps.toList<j.cps.toList)))|_,_=>False
def wGt:w2:=wI0 λi j=>.bl (decide (j<i))
theorem W2.lt:W2 K (λx y H Q=>(rI0 λi j=>.bl (decide (i<j))) x y H Q\/∃i j,x=.str i/\y=.str j/\Q (.bl (decide (i.cps.toList<j.cps.toList))) H) wLt:=by
 intro G H x y v u R Q hf rx ry hw k;unfold wLt at hw
 split at hw
 ·exact .inl ⟨_,_,rx.int,ry.int,k _ _ _ hw (Same.refl _) rfl⟩
 ·exact .inr ⟨_,_,rx.str,ry.str,k _ _ _ hw (Same.refl _) rfl⟩
 ·exact hw.elim
def Hc:PV->Bool
 |.non=>true
 |_=>false
def wIsN:w2:=λx y R=>match y with|.non=>R (.bl (Hc x))|_=>False
def AG:w2:=λx y R=>match y with|.non=>R (.bl (!Hc x))|_=>False
theorem isnon {K:A9}{G:Gh}{H:Hp}{x:PV}{v:V}(h:RdV K G H x v):decide (v=.non)=Hc x:=by
 cases x with
 |non=>rw[h.non];rfl
 |bl b=>rw[h.bl];rfl
 |int b=>rw[h.int];rfl
 |str b=>rw[h.str];rfl
 |tup xs=>obtain⟨a,vs,e,_⟩:=h.tup;rw[e];rfl
 |lst xs=>obtain⟨a,vs,e,_⟩:=h.lst;rw[e];rfl
 |ty n=>rw[show v=.ty n from h.rep (λ_ z=>nomatch z)];rfl
 |pot k=>obtain⟨p,_,e⟩:=h.rep (λ_ z=>nomatch z);rw[e];rfl
 |scr k=>obtain⟨p,e,_⟩:=h.rep (λ_ z=>nomatch z);rw[e];rfl
 |dct ks xs=>obtain⟨a,jg,e,_⟩:=h.rep (λ_ z=>nomatch z);rw[e];rfl
 |fdt ks xs=>obtain⟨a,jg,e,_⟩:=h.rep (λ_ z=>nomatch z);rw[e];rfl
theorem W2.isN {K:A9}:W2 K (λx y H Q=>y=.non/\Q (.bl (decide (x=.non))) H) wIsN:=by
 intro G H x y v u R Q hf rx ry hw k;unfold wIsN at hw
 split at hw
 ·exact⟨ry.non,k _ _ _ hw (Same.refl _) (by rw[isnon rx];rfl)⟩
 ·exact hw.elim
theorem W2.notN {K:A9}:W2 K (λx y H Q=>y=.non/\Q (.bl (!decide (x=.non))) H) AG:=by
 intro G H x y v u R Q hf rx ry hw k;unfold AG at hw
 split at hw
 ·refine⟨ry.non,k _ _ _ hw (Same.refl _) ?_⟩;rw[isnon rx]
  rfl
 ·exact hw.elim
structure Cmp {ι:Type}(K:A9)(F:ι->Cx)(op:CmpOp)(w:w2):Prop where
 ex:∃r,(∀z,OpR (F z) (P7 op) r)/\W2 K r w
theorem cEq (d:Nat)(hr:∀z,Room k (F z).A)(hd:d<=30:=by decide)(hK:∀z,(F z).K=K:=by intro _;rfl):Cmp K F .Eq (wEq d):=⟨_,λz=>hK z▸op_eqD d (by have:=(hr z).units;omega),W2.eq d⟩
theorem cNe (d:Nat)(hr:∀z,Room k (F z).A)(hd:d<=30:=by decide)(hK:∀z,(F z).K=K:=by intro _;rfl):Cmp K F .NotEq (wNe d):=⟨_,λz=>hK z▸op_neD d (by have:=(hr z).units;omega),W2.ne d⟩
theorem cIn (d:Nat)(hr:∀z,Room k (F z).A)(hd:d<=30:=by decide)(hK:∀z,(F z).K=K:=by intro _;rfl):Cmp K F .In (wIn d false):=⟨_,λz=>OF.or (hK z▸op_inD d (by have:=(hr z).units;omega)),W2.in_ d false λ_ _ _ _ h=>h⟩
theorem i3 (d:Nat)(hr:∀z,Room k (F z).A)(hd:d<=30:=by decide)(hK:∀z,(F z).K=K:=by intro _;rfl):Cmp K F .NotIn (wIn d true):=⟨_,λz=>Pd.or (hK z▸PJ d (by have:=(hr z).units;omega)),W2.in_ d true λ_ _ _ _ h=>h⟩
theorem cLt:Cmp K F .Lt wLt:=⟨_,λ_=>op_lt.or OE,W2.lt⟩
theorem cGt:Cmp K F .Gt wGt:=⟨_,λ_=>op_gt,W2.I0 λ_ _ _ _=>rfl⟩
theorem cIs:Cmp K F .Is wIsN:=⟨_,λ_=>op_isN,W2.isN⟩
theorem Hd:Cmp K F .IsNot AG:=⟨_,λ_=>OG,W2.notN⟩
theorem N4 (hc:Cmp K F op w)(ha:QE T K F a pa)(hb:QR T K F b pb)(hm:Ai op b=false):QE T K F (.Compare a [op] [b] pos) (qOp w pa pb):=by
 obtain⟨r,ho,hw⟩:=hc.ex;obtain⟨ta,h1,h2⟩:=ha;obtain⟨tb,h3,h4⟩:=hb;exact⟨_,λz=>JA (ho z) (h1 z) (h3 z) hm,C_ hw h2 h4⟩
def qB (pe:pE):pT:=λenv n R=>pe env n λx jh n'=>match x with|.bl b=>R b jh n'|_=>False
theorem ok_b (h:EOk K T t pe):TOk K T (tB t) (qB pe):=λC G σ H env n R Q hK hT S hp k=>by
 refine h C G σ H env n _ _ hK hT S hp λx jh n' v H' r S' rp f=>?_;cases x with
 |bl b=>exact⟨b,rp,k _ _ _ _ r S' f⟩
 |_=>exact r.elim
theorem Ki (h:EOk K T t pe):TOk K T (tTest t) (qB pe):=λC G σ H env n R Q hK hT S hp k=>by
 refine h C G σ H env n _ _ hK hT S hp λx jh n' v H' r S' rp f=>?_;cases x with
 |bl b=>exact⟨b,rp,k _ _ _ _ r S' f⟩
 |_=>exact r.elim
theorem t7 (h:QE T K F e pe)(he:∀z whole,isTrue e (F z).env whole=(do let v ← whole;standAt e.pos;X2 [v] (truthy v)):=by intro _ _;rfl):QT T K F e (qB pe):=by
 obtain⟨t,h1,h2⟩:=h;exact⟨_,λz=>pt_val (h1 z) (he z),ok_b h2⟩
theorem D3 (hc:Cmp K F op w)(ha:QE T K F a pa)(hb:QR T K F b pb)(hm:Ai op b=false):QT T K F (.Compare a [op] [b] pos) (qB (qOp w pa pb)):=by
 obtain⟨r,ho,hw⟩:=hc.ex;obtain⟨ta,h1,h2⟩:=ha;obtain⟨tb,h3,h4⟩:=hb;exact⟨_,λz=>CT (ho z) (h1 z) (h3 z) hm,Ki (C_ hw h2 h4)⟩
theorem EN (hc:Cmp K F op w)(ha:QR T K F a pa)(hb:QR T K F b pb)(hm:Ai op b=false):QT T K F (.Compare a [op] [b] pos) (qB (qOpR w pa pb)):=by
 obtain⟨r,ho,hw⟩:=hc.ex;obtain⟨ta,h1,h2⟩:=ha;obtain⟨tb,h3,h4⟩:=hb;exact⟨_,λz=>CT (ho z) (h1 z) (h3 z) hm,Ki (Kb hw h2 h4)⟩
def Dc (w w':w2)(pa pb pc:pE):pE:=λenv n R=>pa env n λx jc n1=>pb jc n1 λy jd n2=>w x y λz=>match z with|.bl k=>if k=true then pc jd n2 λu je n3=>w' y u λz=>R z je n3 else R (.bl false) jd n2|_=>False
theorem PM (hw:W2 K r w)(hw':W2 K r' w')(ha:EOk K T ta pa)(hb:EOk K T tb pb)(hc:EOk K T tc pc):EOk K T (JB r r' ta tb tc) (Dc w w' pa pb pc):=λC G σ H env n R Q hK hT S hp k=>by
 refine ha C G σ H env n _ _ hK hT S hp λx jc n1 v H1 p1 S1 r1 f1=>?_;refine hb C G σ H1 jc n1 _ _ hK hT S1 p1 λy jd n2 u H2 p2 S2 r2 f2=>?_;subst hK;refine hw G H2 x y v u _ _ (λp hp=>S2.fresh hp) (.inl (r1.fr f2)) (.inl r2) p2 λz v' H' rz s rv=>?_;cases z with
 | bl kk =>
  refine⟨kk,rv,?_⟩;cases kk with
  |false=>exact k _ _ _ _ _ rz (S2.same s) rfl ((f1.trans f2).trans (Fr.of s))
  | true =>
   refine hc C G σ H' jd n2 _ _ rfl hT (S2.same s) rz λc3 je n3 v3 H3 p3 S3 r3 f3=>?_;exact hw' G H3 y c3 u v3 _ _ (λp hp=>S3.fresh hp) (.inl ((r2.same s).fr f3)) (.inl r3) p3 λz v' H4 rz s4 rv=>k _ _ _ _ _ rz (S3.same s4) rv ((((f1.trans f2).trans (Fr.of s)).trans f3).trans (Fr.of s4))
 |_=>exact rz.elim
theorem Kj (hc:Cmp K F op w)(hc':Cmp K F op' w')(ha:QE T K F a pa)(hb:QE T K F b pb)(hcc:QE T K F c pc)(hm:lastMarks [op,op'] [b,c]=false:=by with_unfolding_all rfl):QE T K F (.Compare a [op,op'] [b,c] pos) (Dc w w' pa pb pc):=by
 obtain⟨r,ho,hw⟩:=hc.ex;obtain⟨r',ho',hw'⟩:=hc'.ex;obtain⟨ta,a1,a2⟩:=ha;obtain⟨tb,b1,b2⟩:=hb;obtain⟨tc,c1,c2⟩:=hcc;exact⟨_,λz=>OH (ho z) (ho' z) (a1 z) (b1 z) (c1 z) hm,PM hw hw' a2 b2 c2⟩
variable {pt pu:pT}
def qAnd (t u:pT):pT:=λenv n R=>t env n λb jc n1=>if b=true then u jc n1 R else R false jc n1
def qOr (t u:pT):pT:=λenv n R=>t env n λb jc n1=>if b=true then R true jc n1 else u jc n1 R
def qNot (t:pT):pT:=λenv n R=>t env n λb jc n1=>R (!b) jc n1
theorem ok_and (h:TOk K T t pt)(h':TOk K T u pu):TOk K T (tAnd t u) (qAnd pt pu):=λC G σ H env n R Q hK hT S hp k=>by
 refine h C G σ H env n _ _ hK hT S hp λb jc n1 H1 p1 S1 f1=>?_;cases b with
 |true=>exact h' C G σ H1 jc n1 _ _ hK hT S1 p1 λb jd n2 H2 p2 S2 f2=>k _ _ _ _ p2 S2 (f1.trans f2)
 |false=>exact k _ _ _ _ p1 S1 f1
theorem ok_or (h:TOk K T t pt)(h':TOk K T u pu):TOk K T (tOr t u) (qOr pt pu):=λC G σ H env n R Q hK hT S hp k=>by
 refine h C G σ H env n _ _ hK hT S hp λb jc n1 H1 p1 S1 f1=>?_;cases b with
 |false=>exact h' C G σ H1 jc n1 _ _ hK hT S1 p1 λb jd n2 H2 p2 S2 f2=>k _ _ _ _ p2 S2 (f1.trans f2)
 |true=>exact k _ _ _ _ p1 S1 f1
theorem ok_not {K:A9}{t:TT}(h:TOk K T t pt):TOk K T (tNot t) (qNot pt):=λC G σ H env n R Q hK hT S hp k=>h C G σ H env n _ _ hK hT S hp λb jc n1 H1 p1 S1 f1=>k _ _ _ _ p1 S1 f1
theorem AH (ha:QT T K F a pt):QW T K F (.BoolOp .And [a] pos) pt:=let ⟨t,h1,h2⟩:=ha;⟨t,λz=>Jx (h1 z),h2⟩
theorem t9 (ha:QT T K F a pt):QW T K F (.BoolOp .Or [a] pos) pt:=let ⟨t,h1,h2⟩:=ha;⟨t,λz=>pw_or1 (h1 z),h2⟩
theorem AI (ha:QT T K F a pt)(hb:QW T K F (.BoolOp .And (b::rest) pos) pu):QW T K F (.BoolOp .And (a::b::rest) pos) (qAnd pt pu):=let ⟨t,h1,h2⟩:=ha;let ⟨u,h3,h4⟩:=hb;⟨_,λz=>Jy (h1 z) (h3 z),ok_and h2 h4⟩
theorem W0 (ha:QT T K F a pt)(hb:QW T K F (.BoolOp .Or (b::rest) pos) pu):QW T K F (.BoolOp .Or (a::b::rest) pos) (qOr pt pu):=let ⟨t,h1,h2⟩:=ha;let ⟨u,h3,h4⟩:=hb;⟨_,λz=>pw_or (h1 z) (h3 z),ok_or h2 h4⟩
theorem QW.qt (h:QW T K F e pt):QT T K F e pt:=let ⟨t,h1,h2⟩:=h;⟨t,λz=>(h1 z).pt,h2⟩
theorem Dd (ha:QT T K F a pt):QT T K F (.UnaryOp .Not a pos) (qNot pt):=let ⟨t,h1,h2⟩:=ha;⟨_,λz=>pt_not (h1 z),ok_not h2⟩
def i4 (pa pb:pE):pE:=λenv n R=>pa env n λx jc n1=>match x with|.bl b=>if b=true then pb jc n1 R else R (.bl false) jc n1|_=>False
theorem AJ {op}(h:QE T K F a pa):QE T K F (.BoolOp op [a] pos) pa:=let ⟨t,h1,h2⟩:=h;⟨t,λz=>pe_one (h1 z),h2⟩
theorem y7 (ha:QE T K F a pa)(hb:QE T K F (.BoolOp .And (b::rest) pos) pb):QE T K F (.BoolOp .And (a::b::rest) pos) (i4 pa pb):=by
 obtain⟨t,h1,h2⟩:=ha;obtain⟨u,h3,h4⟩:=hb;refine⟨_,λz=>pe_and (h1 z) (h3 z),λC G σ H env n R Q hK hT S hp k=>?_⟩;refine h2 C G σ H env n _ _ hK hT S hp λx jc n1 v H1 p1 S1 r1 f1=>?_;cases x with
 | bl c =>
  refine⟨c,r1,?_⟩;cases c with
  |true=>exact h4 C G σ H1 jc n1 _ _ hK hT S1 p1 λx jd n2 v H2 p2 S2 r2 f2=>k _ _ _ _ _ p2 S2 r2 (f1.trans f2)
  |false=>exact k _ _ _ _ _ p1 S1 rfl f1
 |_=>exact p1.elim
def qIf (t:pT)(pa pb:pE):pE:=λenv n R=>t env n λb jc n1=>if b=true then pa jc n1 R else pb jc n1 R
theorem qe_if (hc:QT T K F c pt)(ha:QE T K F a pa)(hb:QE T K F b pb):QE T K F (.IfExp c a b pos) (qIf pt pa pb):=by
 obtain⟨tc,c1,c2⟩:=hc;obtain⟨t,h1,h2⟩:=ha;obtain⟨u,h3,h4⟩:=hb;refine⟨_,λz=>Op (c1 z) (h1 z) (h3 z),λC G σ H env n R Q hK hT S hp k=>?_⟩;refine c2 C G σ H env n _ _ hK hT S hp λd jc n1 H1 p1 S1 f1=>?_;cases d with
 |true=>exact h2 C G σ H1 jc n1 _ _ hK hT S1 p1 λx jd n2 v H2 p2 S2 r2 f2=>k _ _ _ _ _ p2 S2 r2 (f1.trans f2)
 |false=>exact h4 C G σ H1 jc n1 _ _ hK hT S1 p1 λx jd n2 v H2 p2 S2 r2 f2=>k _ _ _ _ _ p2 S2 r2 (f1.trans f2)
variable {pl pr:pA}
def qNil:pA:=λenv n R=>R [] env n
def A3 (pe:pE)(pr:pA):pA:=λenv n R=>pe env n λx jc n1=>pr jc n1 λxs jd n2=>R (x::xs) jd n2
theorem B3:QA T K F [] qNil:=⟨_,λ_=>K3,λC G σ H env n R Q hK hT S hp k=>k _ _ _ _ _ hp S Reps.nil Fr.refl⟩
theorem PN (h:EOk K T t pe)(h':AOk K T u pr):AOk K T (V8 t u) (A3 pe pr):=λC G σ H env n R Q hK hT S hp k=>by
 refine h C G σ H env n _ _ hK hT S hp λx jc n1 v H1 p1 S1 r1 f1=>?_;exact h' C G σ H1 jc n1 _ _ hK hT S1 p1 λxs jd n2 vs H2 p2 S2 r2 f2=>k _ _ _ _ _ p2 S2 (.cons (r1.fr f2) r2) (f1.trans f2)
def F7:Expr->Bool
 |.Starred ..=>false
 |_=>true
theorem D7 (h:F7 e=true):E6 (e::es) env=(false,eval e env)::E6 es env:=by
 cases e <;> first|rfl|cases h
theorem A4 (ha:QE T K F e pe)(hr:QA T K F es pr)(h:F7 e=true:=by rfl):QA T K F (e::es) (A3 pe pr):=by
 obtain⟨t,h1,h2⟩:=ha;obtain⟨u,h3,h4⟩:=hr;exact⟨_,λz=>G4 (h1 z) (h3 z) (D7 h),PN h2 h4⟩
def qTup (pa:pA):pE:=λenv n R=>pa env n λxs jc n1=>xs.length<=1000000/\R (.tup xs) jc n1
def qLst (pa:pA):pA:=λenv n R=>pa env n λxs jc n1=>xs.length<=1000000/\R xs jc n1
def qL (pn:pA):pE:=λenv n R=>pn env n λxs jc n1=>R (.lst xs) jc n1
theorem J4 {x1}(h:QA T K F es pl):QE T K F (.Tuple es x1 pos) (qTup pl):=by
 obtain⟨t,h1,h2⟩:=h;refine⟨_,λz=>GF (h1 z),λC G σ H env n R Q hK hT S hp k=>?_⟩;refine h2 C G σ H env n _ _ hK hT S hp λxs jc n1 vs H1 p1 S1 r1 f1=>⟨by rw[<- r1.length];exact mil p1.1,λp hp=>?_⟩;exact k _ _ _ _ _ p1.2 (S1.same (Same.lay1 hp)) (Da (S1.fresh hp) hp r1) (f1.trans (Fr.of (Same.lay1 hp)))
theorem O7 (h:QA T K F es pl):QN T K F (.List es pos) (qLst pl):=by
 obtain⟨t,h1,h2⟩:=h;refine⟨_,λz=>pe_lst (h1 z),λC G σ H env n R Q hK hT S hp k=>?_⟩;exact h2 C G σ H env n _ _ hK hT S hp λxs jc n1 vs H1 p1 S1 r1 f1=>⟨by rw[<- r1.length];exact mil p1.1,λp hp=>k _ _ _ _ _ _ p1.2 S1 f1 hp r1⟩
theorem QN.ee (h:QN T K F e pl):QE T K F e (qL pl):=by
 obtain⟨t,h1,h2⟩:=h;refine⟨t,h1,λC G σ H env n R Q hK hT S hp k=>?_⟩;refine h2 C G σ H env n _ _ hK hT S hp λxs jc n1 a vs Hb p1 S1 f1 hn r1=>?_;exact k _ _ _ _ _ p1 (S1.same (Same.lay1 hn)) (EG (S1.fresh hn) hn r1) (f1.trans (Fr.of (Same.lay1 hn)))
theorem EO (h:ROk K T t pe)(hK:C.K=K)(hT:C.T=T)(S:SR C G σ H env n)(hp:pe env n R)
   (k:∀x jh n' v H',R x jh n'->SR C G σ H' jh n'->RdS C G σ H' jh x v->Fr G H H'->Q [v] H'):V8 t tNil σ H Q:=
 h C G σ H env n _ _ hK hT S hp λx jc n1 v H1 p1 S1 r1 f1=>k _ _ _ _ _ p1 S1 r1 f1
end
end Pu
end
section
namespace HT
open PySem PySem.Spec PyProof.Rows
section
variable {prog:D2}{w:C9}{A:D8}{E:A1->A6->Prop}{s:A6}
theorem getItem_tuple_whole {lo hi:Option Int}(ht:IsTup s.heap t items)(hs:s.heap.IsSliceOf sl vl vu .none)(pl:IsPart vl lo)(pu:IsPart vu hi)
   (hw:sIx items.size 0 lo=0/\sIx items.size items.size hi=items.size) (h:Q (.ref t) s):A7 (A8 prog w) A (c6 (.ref t) (.ref sl)) Q E s:=by
 obtain⟨os,hos,hcs,hds⟩:=id hs;have hTs:s.TypeIs (.ref sl) "slice":=⟨os,hos,hcs⟩;have hTt:s.TypeIs (.ref t) "tuple":=ht.typeIs;unfold c6
 try with_reducible refine M8 ?_
 first|refine A2 (B0 ?_)|skip
 refine A2 (wpAny_sequenceKey ht.typeIs (by decide) ?_)
 refine A2 (Z8 (name:=A5 "__getitem__") ht.typeIs Er
   (R5 Er ht.typeIs entry_tuple_getitem ?_ (args_tuple_getitem _ _)))
 show A7 _ _ (Jq (.ref t)>>=_) _ _ s;refine A2 (tupleItemsOf_ ht ?_);refine A2 (Bb hTs ?_);rw[jr (by decide)];refine A2 (JK hs pl pu ?_)
 have hyes:(((sIx items.size 0 lo:Nat):Int) == 0&&(1:Int) == 1&&(sIx items.size items.size hi-sIx items.size 0 lo) == items.size)=true:=by
  rw[hw.1,hw.2];simp
 show A7 _ _ (if(((sIx items.size 0 lo:Nat):Int) == 0&&(1:Int) == 1&&(sIx items.size items.size hi-sIx items.size 0 lo) == items.size)=true then _ else _) _ _ s;rw[jr hyes];unfold Builtin.Tuple.tupleIsExact;refine A2 (A2 (Bb hTt (B0 ?_)));rw[jr (by rfl)];exact A2 (b8 (B0 ⟨_,rfl,B0 h⟩))
end
end HT
namespace L2
open PySem PySem.Spec PyProof.Rows
section
variable {X:Cx}
def rSlTA (K:A9):V->Option Int->Option Int->Hp->VK->Prop:=λx lo hi H Q=>∃a xs,x=.ref a/\SqT K H a xs/\
 (cutV xs lo hi=xs->Q (.ref a) H)/\∀p,H p=none->Q (.ref p) (upd H p (.tup (cutV xs lo hi)))
theorem PP:SlR X (rSlTA X.K):=by
 intro jb s σ H x v vl vu lo hi sl Q I rx hs pl pu h;obtain⟨a,xs,rfl,hx,h1,h2⟩:=h
 by_cases hw:HT.sIx xs.length 0 lo=0/\HT.sIx xs.length xs.length hi=xs.length
 ·cases rx;obtain⟨jf,r,ht,hz⟩:=I.tuple hx;have hlen:jf.toArray.size=xs.length:=by rw[F9];exact r.length.symm
  refine⟨"tuple",_,PyProof.Rows.slot_tuple_getitem.lookup,ht.typeIs,?_⟩;refine HT.getItem_tuple_whole ht hs pl pu (by rw[hlen];exact hw) ⟨.ref a,H,I,rfl,h1 ?_⟩;unfold cutV;rw[hw.1,hw.2];simp
 ·exact sl_tup jb s σ H (.ref a) v vl vu lo hi sl Q I rx hs pl pu ⟨a,xs,rfl,hx,hw,h2⟩
end
end L2
namespace Pu
open PySem PySem.Spec L2
section
variable {T:PotK}{ι:Type}{K:A9}{F:ι->Cx}{e a b c:Expr}{es rest:List Expr}{pe pa pb pc:pE}{pos:Pos}{pl pr:pA}
def wIx:w2:=λx y R=>match x,y with
 |.lst xs,.int i=>match atI xs i with|some z=>R z|none=>False
 |.tup xs,.int i=>match atI xs i with|some z=>R z|none=>False
 |.scr ns,.int i=>match atI ns i with|some z=>R (.int z)|none=>False
 |.str z,.int i=>z.length<=1000000/\match atI z.cps.toList i with|some c=>R (.str ⟨#[c]⟩)|none=>False
 |_,_=>False
theorem Kk (r:Reps K G H xs vs)(h:atI xs i=some z):∃v,atI vs i=some v/\Rep K G H z v:=by
 unfold atI at h ⊢;rw[<- r.length];cases e:ixN xs.length i with
 |none=>rw[e] at h;cases h
 | some j =>
  rw[e] at h;exact r.get' h
theorem De (h:RdV K G H (.scr ns) v):∃a,v=.ref a/\SqL K H a (ns.map V.int):=by
 obtain⟨a,e,h⟩:=h.rep (λ_ z=>nomatch z);refine⟨a,e,?_⟩;rcases h with⟨_,o,h⟩|h
 ·exact .inl (.inr ⟨o,h⟩)
 ·exact .inr h
theorem W2.ix:W2 K (rIx K) wIx:=by
 intro G H x y v u R Q hf rx ry hw k;unfold wIx at hw
 split at hw
 ·rename_i xs i;obtain⟨a,vs,ev,hq,r⟩:=rx.lst;cases ez:atI xs i with
  |none=>rw[ez] at hw;exact hw.elim
  | some z =>
   rw[ez] at hw;obtain⟨v',e1,r1⟩:=Kk r ez;exact .inl ⟨a,vs,i,v',ev,ry.int,hq,e1,k _ _ _ hw (Same.refl _) r1⟩
 ·rename_i xs i;obtain⟨a,vs,ev,hq,r⟩:=rx.tup;cases ez:atI xs i with
  |none=>rw[ez] at hw;exact hw.elim
  | some z =>
   rw[ez] at hw;obtain⟨v',e1,r1⟩:=Kk r ez;exact .inr (.inl ⟨a,vs,i,v',ev,ry.int,hq,e1,k _ _ _ hw (Same.refl _) r1⟩)
 ·rename_i ns i;obtain⟨a,ev,hq⟩:=De rx;cases ez:atI ns i with
  |none=>rw[ez] at hw;exact hw.elim
  | some z =>
   rw[ez] at hw;refine .inl ⟨a,_,i,.int z,ev,ry.int,hq,?_,k _ _ _ hw (Same.refl _) rfl⟩;unfold atI at ez ⊢;rw[B6];cases e:ixN ns.length i with
   |none=>rw[e] at ez;cases ez
   | some j =>
    rw[e] at ez;show(ns.map V.int)[j]?=_;rw[G0,show ns[j]?=some z from ez]
    rfl
 ·rename_i z i;obtain⟨hz,hw⟩:=hw;cases ez:atI z.cps.toList i with
  |none=>rw[ez] at hw;exact hw.elim
  | some c =>
   rw[ez] at hw;exact .inr (.inr ⟨z,i,c,rx.str,ry.int,mil hz,ez,k _ _ _ hw (Same.refl _) rfl⟩)
 ·exact hw.elim
theorem B9 (ha:QE T K F a pa)(hb:QE T K F b pb)(hs:GM b:=by exact λ_ _=>rfl)(hK:∀z,(F z).K=K:=by intro _;rfl):QE T K F (.Subscript a b pos) (qOp wIx pa pb):=by
 obtain⟨ta,h1,h2⟩:=ha;obtain⟨tb,h3,h4⟩:=hb.r;exact⟨_,λz=>GN (hK z▸JN) (h1 z) (h3 z) hs,C_ W2.ix h2 h4⟩
theorem Df (ha:QR T K F a pa)(hb:QE T K F b pb)(hs:GM b:=by exact λ_ _=>rfl)(hK:∀z,(F z).K=K:=by intro _;rfl):QE T K F (.Subscript a b pos) (qOpR wIx pa pb):=by
 obtain⟨ta,h1,h2⟩:=ha;obtain⟨tb,h3,h4⟩:=hb.r;exact⟨_,λz=>GN (hK z▸JN) (h1 z) (h3 z) hs,Kb W2.ix h2 h4⟩
abbrev pO:=Env->Nat->(Option Int->Env->Nat->Prop)->Prop
def qNo:pO:=λenv n R=>R none env n
def K6 (pe:pE):pO:=λenv n R=>pe env n λx jc n1=>match x with|.int i=>R (some i) jc n1|_=>False
def OOk (K:A9)(T:PotK)(t:TO)(po:pO):Prop:=∀(C:Ct) (G:Gh) (σ:St) (H:Hp) (env:Env) (n:Nat) (R:Option Int->Env->Nat->Prop) (Q:Option Int->Hp->Prop),C.K=K->C.T=T->SR C G σ H env n->po env n R->
 (∀x jh n' H',R x jh n'->SR C G σ H' jh n'->Fr G H H'->Q x H')->t σ H Q
def QO {ι:Type}(T:PotK)(K:A9)(F:ι->Cx)(e:Option Expr)(po:pO):Prop:=∃t,(∀z,PO (F z) e t)/\OOk K T t po
theorem W3:QO T K F none qNo:=⟨_,λ_=>GH,λC G σ H env n R Q hK hT S hp k=>k _ _ _ _ hp S Fr.refl⟩
theorem L5 (h:QE T K F e pe):QO T K F (some e) (K6 pe):=by
 obtain⟨t,h1,h2⟩:=h;refine⟨_,λz=>GI (h1 z),λC G σ H env n R Q hK hT S hp k=>?_⟩;refine h2 C G σ H env n _ _ hK hT S hp λx jc n1 v H1 p1 S1 r1 f1=>?_;cases x with
 |int i=>exact⟨i,r1,k _ _ _ _ p1 S1 f1⟩
 |_=>exact p1.elim
def cutP {α:Type}(xs:List α)(lo hi:Option Int):List α:=(xs.drop (HT.sIx xs.length 0 lo)).take (HT.sIx xs.length xs.length hi-HT.sIx xs.length 0 lo)
theorem Reps.cut (r:Reps K G H xs vs)(lo hi:Option Int):Reps K G H (cutP xs lo hi) (cutV vs lo hi):=by
 unfold cutP cutV;rw[<- r.length];exact(r.drop _).take _
def wSl (x:PV)(lo hi:Option Int)(R:PV->Prop):Prop:=match x with
 |.lst xs=>R (.lst (cutP xs lo hi))
 |.scr ns=>R (.lst ((cutP ns lo hi).map PV.int))
 |.tup xs=>R (.tup (cutP xs lo hi))
 |.str z=>z.length<=1000000/\R (.str (V7 z lo hi))
 |_=>False
def qSl (pe:pE)(pl ph:pO):pE:=λenv n R=>pe env n λx jc n1=>pl jc n1 λlo jd n2=>ph jd n2 λhi je n3=>wSl x lo hi λz=>R z je n3
theorem He {K:A9}{G:Gh}{H:Hp}:∀ns:List Int,Reps K G H (ns.map PV.int) (ns.map V.int)
 |[]=>rfl
 |i::ns=>⟨.int i,ns.map V.int,rfl,rfl,He ns⟩
theorem i5 {α β:Type}(f:α->β)(xs:List α)(lo hi:Option Int):cutP (xs.map f) lo hi=(cutP xs lo hi).map f:=by simp[cutP]
theorem sl_ok (hf:∀p,H p=none->p∉G.M)(rx:RdV K G H x v)(hw:wSl x lo hi R)(k:∀z v' H',R z->Same H H'->Rep K G H' z v'->Q v' H') :
   rSlL K v lo hi H Q\/rSlTA K v lo hi H Q\/rSlS v lo hi H Q:=by
 unfold wSl at hw
 split at hw
 ·obtain⟨a,vs,ev,hq,r⟩:=rx.lst;exact .inl ⟨a,vs,ev,hq,λp hp=>k _ _ _ hw (Same.lay1 hp) (EG (hf p hp) hp (r.cut lo hi))⟩
 ·rename_i ns;obtain⟨a,ev,hq⟩:=De rx;refine .inl ⟨a,_,ev,hq,λp hp=>k _ _ _ hw (Same.lay1 hp) (EG (hf p hp) hp ?_)⟩;have:=(He (K:=K) (G:=G) (H:=H) ns).cut lo hi;rw[i5] at this;exact this
 ·obtain⟨a,vs,ev,t,r⟩:=rx.rep (λ_ z=>nomatch z);refine .inr (.inl ⟨a,vs,ev,t.sq,λz=>k _ _ _ hw (Same.refl _) ?_,λp hp=>k _ _ _ hw (Same.lay1 hp) (Da (hf p hp) hp (r.cut lo hi))⟩);have rc:=r.cut lo hi;rw[z] at rc;exact⟨a,vs,rfl,t,rc⟩
 ·exact .inr (.inr ⟨_,rx.str,mil hw.1,k _ _ _ hw.2 (Same.refl _) rfl⟩)
 ·exact hw.elim
theorem P3 (he:QE T K F e pe)(hl:QO T K F lo ql)(hh:QO T K F hi qh)(hK:∀z,(F z).K=K:=by intro _;rfl):QE T K F (.Subscript e (.Slice lo hi none p2) pos) (qSl pe ql qh):=by
 obtain⟨t,h1,h2⟩:=he;obtain⟨tl,l1,l2⟩:=hl;obtain⟨th,u1,u2⟩:=hh;refine⟨_,λz=>GJ ((hK z▸GO).or ((hK z▸PP).or sl_str)) (h1 z) (l1 z) (u1 z),λC G σ H env n R Q hK hT S hp k=>?_⟩;refine h2 C G σ H env n _ _ hK hT S hp λx jc n1 v H1 p1 S1 r1 f1=>?_;refine l2 C G σ H1 jc n1 _ _ hK hT S1 p1 λlo jd n2 H2 p2 S2 f2=>?_;refine u2 C G σ H2 jd n2 _ _ hK hT S2 p2 λhi je n3 H3 p3 S3 f3=>?_;exact sl_ok (λp hp=>S3.fresh hp) (.inl ((r1.fr f2).fr f3)) p3 λz v' H' rz s rv=>k _ _ _ _ _ rz (S3.same s) rv (((f1.trans f2).trans f3).trans (Fr.of s))
def WA1 (K:A9)(r:List V->Hp->VK->Prop)(w:w1):Prop:=∀(G:Gh) (H:Hp) (x:PV) (v:V) (R:PV->Prop) (Q:VK),(∀p,H p=none->p∉G.M)->RdV K G H x v->w x R->
 (∀z v' H',R z->Same H H'->Rep K G H' z v'->Q v' H')->r [v] H Q
theorem Kl (hw:WA1 K r w)(h:ROk K T t pe):EOk K T (tCB r (V8 t tNil)) (qUn w pe):=λC G σ H env n R Q hK hT S hp k=>by
 refine EO h hK hT S hp λx jc n1 v H1 p1 S1 r1 f1=>?_;subst hK;exact hw G H1 x v _ _ (λp hp=>S1.fresh hp) (r1.rd S1) p1 λz v' H' rz s rv=>k _ _ _ _ _ rz (S1.same s) rv (f1.trans (Fr.of s))
theorem EQ {id:String}(hc:∀z,M4 (F z) (.builtin id) r)(hw:WA1 K r w)(hg:∀z,Gl (F z) x)(hm:∀z,(F z).mg x=none)(hv:M9 x=some (.builtin id))(ha:QR T K F e pe)(hs:F7 e=true:=by rfl)(hn:x≠"__name__":=by decide)(hdb:(x == ("__debug__":Str))=false:=by decide) :
   QE T K F (.Call (.Name x p) [e] [] pos) (qUn w pe):=by
 obtain⟨t,h1,h2⟩:=ha;exact⟨_,λz=>h9 (hc z) (hg z) (hm z) hv (G4 (h1 z) K3 (D7 hs)) hn hdb (D7 hs),Kl hw h2⟩
theorem qe_ct1 {id:String}(hc:∀z,M4 (F z) (.type id) r)(hw:WA1 K r w)(hg:∀z,Gl (F z) x)(hm:∀z,(F z).mg x=none)(hv:M9 x=some (.type id))(ha:QR T K F e pe)(hs:F7 e=true:=by rfl)(hn:x≠"__name__":=by decide)(hdb:(x == ("__debug__":Str))=false:=by decide) :
   QE T K F (.Call (.Name x p) [e] [] pos) (qUn w pe):=by
 obtain⟨t,h1,h2⟩:=ha;exact⟨_,λz=>AD (hc z) (hg z) (hm z) hv (G4 (h1 z) K3 (D7 hs)) hn hdb (D7 hs),Kl hw h2⟩
def wLen:w1:=λx R=>match x with
 |.lst xs=>R (.int xs.length)
 |.tup xs=>R (.int xs.length)
 |.scr xs=>R (.int xs.length)
 |.str z=>z.length<=1000000/\R (.int z.length)
 |_=>False
theorem WA1.len:WA1 K (λxs H Q=>(∃p ys,xs=[.ref p]/\(SqL K H p ys\/SqT K H p ys)/\Q (.int ys.length) H)\/∃z,xs=[.str z]/\z.length<=C2/\Q (.int z.length) H) wLen:=by
 intro G H x v R Q hf rx hw k;unfold wLen at hw
 split at hw
 ·obtain⟨a,vs,ev,hq,r⟩:=rx.lst;exact .inl ⟨a,vs,by rw[ev],.inl hq,k _ _ _ hw (Same.refl _) (by rw[r.length];rfl)⟩
 ·obtain⟨a,vs,ev,hq,r⟩:=rx.tup;exact .inl ⟨a,vs,by rw[ev],.inr hq,k _ _ _ hw (Same.refl _) (by rw[r.length];rfl)⟩
 ·obtain⟨a,ev,hq⟩:=De rx;exact .inl ⟨a,_,by rw[ev],.inl hq,k _ _ _ hw (Same.refl _) (by rw[B6];rfl)⟩
 ·exact .inr ⟨_,by rw[rx.str],mil hw.1,k _ _ _ hw.2 (Same.refl _) rfl⟩
 ·exact hw.elim
theorem L6 (hg:∀z,Gl (F z) "len")(hm:∀z,(F z).mg "len"=none)(ha:QR T K F e pe)(hs:F7 e=true:=by rfl)(hK:∀z,(F z).K=K:=by intro _;rfl):QE T K F (.Call (.Name "len" p) [e] [] pos) (qUn wLen pe):=EQ (λz=>(hK z▸GP).or Pe) WA1.len hg hm CW ha hs
def i6:List PV->Option (List Bool)
 |[]=>some []
 |.bl b::xs=>(i6 xs).map (b::·)
 |_=>none
theorem Hf {K:A9}{G:Gh}{H:Hp}:∀{xs:List PV} {vs:List V} {bs:List Bool},i6 xs=some bs->Reps K G H xs vs->vs=bs.map V.bl
 |[],vs,bs,h,r=>by cases h;exact r
 | .bl b :: xs, vs, bs, h, r => by
  obtain⟨v,t,e,rv,rt⟩:=r;cases e1:i6 xs with
  |none=>simp[i6,e1] at h
  | some cs =>
   have:b::cs=bs:=by simpa[i6,e1] using h
   subst this;rw[e,show v=.bl b from rv,Hf e1 rt]
   rfl
 |.non::_,_,_,h,_=>by cases h
 |.int _::_,_,_,h,_=>by cases h
 |.str _::_,_,_,h,_=>by cases h
 |.ty _::_,_,_,h,_=>by cases h
 |.pot _::_,_,_,h,_=>by cases h
 |.tup _::_,_,_,h,_=>by cases h
 |.lst _::_,_,_,h,_=>by cases h
 |.dct _ _::_,_,_,h,_=>by cases h
 |.fdt _ _::_,_,_,h,_=>by cases h
 |.scr _::_,_,_,h,_=>by cases h
theorem Hg:∀bs:List Bool,i6 (bs.map PV.bl)=some bs
 |[]=>rfl
 |b::bs=>by simp[i6,Hg bs]
def wAll:w1:=λx R=>match x with|.lst xs=>(match i6 xs with|some bs=>R (.bl (bs.all id))|none=>False)|_=>False
def wAny:w1:=λx R=>match x with|.lst xs=>(match i6 xs with|some bs=>R (.bl (bs.any id))|none=>False)|_=>False
theorem Km (hc:∀z,(F z).calm=true)(hg:∀z,Gl (F z) "all")(hm:∀z,(F z).mg "all"=none)(ha:QR T K F e pe)(hs:F7 e=true:=by rfl)(hK:∀z,(F z).K=K:=by intro _;rfl):QE T K F (.Call (.Name "all" p) [e] [] pos) (qUn wAll pe):=EQ (λz=>hK z▸Pw (hc z)) (λG H x v R Q hf rx hw k=>by
 unfold wAll at hw
 split at hw
 ·rename_i xs;obtain⟨a,vs,ev,hq,r⟩:=rx.lst
  split at hw
  ·rename_i bs eb;exact⟨a,bs,by rw[ev],Hf eb r▸hq,k _ _ _ hw (Same.refl _) rfl⟩
  ·exact hw.elim
 ·exact hw.elim) hg hm bt_all ha hs
theorem qe_any {p:Pos}(hc:∀z,(F z).calm=true)(hg:∀z,Gl (F z) "any")(hm:∀z,(F z).mg "any"=none)(ha:QR T K F e pe)(hs:F7 e=true:=by rfl)(hK:∀z,(F z).K=K:=by intro _;rfl):QE T K F (.Call (.Name "any" p) [e] [] pos) (qUn wAny pe):=EQ (λz=>hK z▸Px (hc z)) (λG H x v R Q hf rx hw k=>by
 unfold wAny at hw
 split at hw
 ·rename_i xs;obtain⟨a,vs,ev,hq,r⟩:=rx.lst
  split at hw
  ·rename_i bs eb;exact⟨a,bs,by rw[ev],Hf eb r▸hq,k _ _ _ hw (Same.refl _) rfl⟩
  ·exact hw.elim
 ·exact hw.elim) hg hm bt_any ha hs
def W4:w1:=λx R=>match x with|.lst xs=>R (.tup xs)|.tup xs=>R (.tup xs)|_=>False
theorem i7 (hg:∀z,Gl (F z) "tuple")(hm:∀z,(F z).mg "tuple"=none)(ha:QR T K F e pe)(hs:F7 e=true:=by rfl)(hK:∀z,(F z).K=K:=by intro _;rfl):QE T K F (.Call (.Name "tuple" p) [e] [] pos) (qUn W4 pe):=qe_ct1 (λz=>hK z▸Pf) (λG H x v R Q hf rx hw k=>by
 unfold W4 at hw
 split at hw
 ·obtain⟨a,vs,ev,hq,r⟩:=rx.lst;exact⟨a,vs,by rw[ev],.inl ⟨hq,λl hl=>k _ _ _ hw (Same.lay1 hl) (Da (hf l hl) hl r)⟩⟩
 ·obtain⟨a,vs,ev,t,r⟩:=rx.rep (λ_ z=>nomatch z);exact⟨a,vs,by rw[ev],.inr ⟨t.sq,k _ _ _ hw (Same.refl _) ⟨a,vs,rfl,t,r⟩⟩⟩
 ·exact hw.elim) hg hm GU ha hs
def BJ (pe:pE):pA:=λenv n R=>pe env n λx jc n1=>match x with|.lst xs=>R xs jc n1|.tup xs=>R xs jc n1|.scr ns=>R (ns.map PV.int) jc n1|_=>False
theorem ER (hg:∀z,Gl (F z) "list")(hm:∀z,(F z).mg "list"=none)(ha:QR T K F e pe)(hs:F7 e=true:=by rfl)(hK:∀z,(F z).K=K:=by intro _;rfl):QN T K F (.Call (.Name "list" p) [e] [] pos) (BJ pe):=by
 obtain⟨t,h1,h2⟩:=ha;refine⟨_,λz=>AD (hK z▸JP) (hg z) (hm z) J_ (G4 (h1 z) K3 (D7 hs)) (by decide) (by decide) (D7 hs),λC G σ H env n R Q hK hT S hp k=>?_⟩;refine EO h2 hK hT S hp λx jc n1 v H1 p1 S1 r1 f1=>?_;have rd:RdV K G H1 x v:=hK▸r1.rd S1;cases x with
 | lst xs =>
  obtain⟨a,vs,ev,hq,r⟩:=rd.lst;exact⟨a,vs,by rw[ev],.inl hq,λl hl=>k _ _ _ _ _ _ p1 S1 f1 hl r⟩
 | tup xs =>
  obtain⟨a,vs,ev,hq,r⟩:=rd.tup;exact⟨a,vs,by rw[ev],.inr hq,λl hl=>k _ _ _ _ _ _ p1 S1 f1 hl r⟩
 | scr ns =>
  obtain⟨a,ev,hq⟩:=De rd;exact⟨a,_,by rw[ev],.inl hq,λl hl=>k _ _ _ _ _ _ p1 S1 f1 hl (He ns)⟩
 |_=>exact p1.elim
theorem tyw (hg:Gl X x)(hm:X.mg x=none)(hv:M9 x=some (.type m))(hn:x≠"__name__":=by decide)(hd:(x == ("__debug__":Str))=false:=by decide):EW X (.Name x pos) (tC (.ty m)):=⟨Oo (v:=.ty m) hg hm hv rfl hn hd⟩
def tyP:PV->Option String
 |.non=>some "NoneType"
 |.bl _=>some "bool"
 |.int _=>some "int"
 |.str _=>some "str"
 |.tup _=>some "tuple"
 |.lst _=>some "list"
 |.dct _ _=>some "dict"
 |_=>none
def isT (t n:String):Bool:=t == n||(t == "bool" && n == "int")
def wIsi (n:String):w1:=λx R=>match tyP x with|some t=>R (.bl (isT t n))|none=>False
theorem PQ (ht:t∈["NoneType","bool","int","str","tuple","list","dict"])(hn:n∈["bool","int","str","tuple","list"]):Ck K (.type t) (.type n)=some (isT t n):=by
 refine kit_of ?_;have:∀t∈["NoneType","bool","int","str","tuple","list","dict"],∀n∈["bool","int","str","tuple","list"],(if(M6 t == M6 n)=true then some true else if PySem.W.kitMeta n=true then(fastBuiltinMro t).map (·.contains (.type n)) else none)=some (isT t n):=by decide +kernel
 exact this t ht n hn
theorem Ko (hn:n∈["bool","int","str","tuple","list"])(hg:∀z,Gl (F z) "isinstance")(hm:∀z,(F z).mg "isinstance"=none)(ha:QE T K F a pa)(hb:∀z,EW (F z) b (tC (.ty n)))(hs:F7 a=true:=by rfl)(hs2:F7 b=true:=by rfl)(hK:∀z,(F z).K=K:=by intro _;rfl):QE T K F (.Call (.Name "isinstance" p) [a,b] [] pos) (qUn (wIsi n) pa):=by
 obtain⟨t,h1,h2⟩:=ha;refine⟨_,λz=>h9 (hK z▸Pq) (hg z) (hm z) Py (G4 (h1 z) (G4 (hb z).h K3 (D7 hs2)) (D7 hs)) (by decide) (by decide) (D7 hs) (by rw[D7 hs2];rfl),λC G σ H env n' R Q hK hT S hp k=>?_⟩;refine h2 C G σ H env n' _ _ hK hT S hp λx jc n1 v H1 p1 S1 r1 f1=>?_;unfold wIsi at p1
 have fin:∀t,TyOf K H1 v (.type t)->tyP x=some t->t∈["NoneType","bool","int","str","tuple","list","dict"]->∃x' n'' t' b',[v,V.ty n]=[x',.ty n'']/\TyOf K H1 x' t'/\Ck K t' (.type n'')=some b'/\Q (.bl b') H1:=by
  intro t ty e m;rw[e] at p1;exact⟨v,n,_,_,rfl,ty,PQ m hn,k _ _ _ _ _ p1 S1 rfl f1⟩
 cases x with
 |non=>cases(show v=.non from r1);exact fin _ .non rfl (by decide)
 |bl b=>cases(show v=.bl b from r1);exact fin _ (.bl b) rfl (by decide)
 |int b=>cases(show v=.int b from r1);exact fin _ (.int b) rfl (by decide)
 |str b=>cases(show v=.str b from r1);exact fin _ (.str b) rfl (by decide)
 |tup xs=>obtain⟨a,vs,rfl,t,r⟩:=r1;exact fin _ (.tup t.2) rfl (by decide)
 |lst xs=>obtain⟨a,vs,rfl,t,r⟩:=r1;exact fin _ (.lst t.2) rfl (by decide)
 |dct ks xs=>obtain⟨a,jg,rfl,_,t,r⟩:=r1;exact fin _ (.dK t) rfl (by decide)
 |ty n=>exact p1.elim
 |pot k=>exact p1.elim
 |fdt ks xs=>exact p1.elim
 |scr ns=>exact p1.elim
def wMin:w2:=λx y R=>match x,y with|.int i,.int j=>R (.int (if j<i then j else i))|_,_=>False
def wMax:w2:=λx y R=>match x,y with|.int i,.int j=>R (.int (if j>i then j else i))|_,_=>False
theorem Kp (hw:W2 K (λx y H Q=>r [x,y] H Q) w)(h:EOk K T t pa)(h':EOk K T u pb):EOk K T (tCB r (V8 t (V8 u tNil))) (qOp w pa pb):=λC G σ H env n R Q hK hT S hp k=>by
 refine h C G σ H env n _ _ hK hT S hp λx jc n1 v H1 p1 S1 r1 f1=>?_;refine h' C G σ H1 jc n1 _ _ hK hT S1 p1 λy jd n2 u H2 p2 S2 r2 f2=>?_;exact hw G H2 x y v u _ _ (λp hp=>S2.fresh hp) (.inl (r1.fr f2)) (.inl r2) p2 λz v' H' rz s rv=>k _ _ _ _ _ rz (S2.same s) rv ((f1.trans f2).trans (Fr.of s))
theorem Hh (hc:∀z,(F z).calm=true)(hg:∀z,Gl (F z) "min")(hm:∀z,(F z).mg "min"=none)(ha:QE T K F a pa)(hb:QE T K F b pb)(hs:F7 a=true:=by rfl)(hs2:F7 b=true:=by rfl):QE T K F (.Call (.Name "min" p) [a,b] [] pos) (qOp wMin pa pb):=by
 obtain⟨t,h1,h2⟩:=ha;obtain⟨u,h3,h4⟩:=hb;refine⟨_,λz=>h9 (OM (hc z)) (hg z) (hm z) bt_min (G4 (h1 z) (G4 (h3 z) K3 (D7 hs2)) (D7 hs)) (by decide) (by decide) (D7 hs) (by rw[D7 hs2];rfl),Kp (λG H x y v u R Q hf rx ry hw k=>?_) h2 h4⟩;unfold wMin at hw
 split at hw
 ·exact⟨_,_,by rw[rx.int,ry.int],k _ _ _ hw (Same.refl _) rfl⟩
 ·exact hw.elim
theorem qe_max {p:Pos}(hc:∀z,(F z).calm=true)(hg:∀z,Gl (F z) "max")(hm:∀z,(F z).mg "max"=none)(ha:QE T K F a pa)(hb:QE T K F b pb)(hs:F7 a=true:=by rfl)(hs2:F7 b=true:=by rfl):QE T K F (.Call (.Name "max" p) [a,b] [] pos) (qOp wMax pa pb):=by
 obtain⟨t,h1,h2⟩:=ha;obtain⟨u,h3,h4⟩:=hb;refine⟨_,λz=>h9 (OL (hc z)) (hg z) (hm z) bt_max (G4 (h1 z) (G4 (h3 z) K3 (D7 hs2)) (D7 hs)) (by decide) (by decide) (D7 hs) (by rw[D7 hs2];rfl),Kp (λG H x y v u R Q hf rx ry hw k=>?_) h2 h4⟩;unfold wMax at hw
 split at hw
 ·exact⟨_,_,by rw[rx.int,ry.int],k _ _ _ hw (Same.refl _) rfl⟩
 ·exact hw.elim
def E5 (K:A9)(T:PotK)(f:pF):Sp:=λvs H Q _=>∃(G:Gh) (xs:List PV) (n:Nat) (R:PV->Nat->Prop),(∀p∈G.pots,p∈G.M/\T.at_ G.M H p n)/\(∀a∈G.M,∃o,H a=some o/\MutO o)/\T.has G.pots/\Reps K G H xs vs/\f xs n R/\
 ∀r n' v H',R r n'->Rep K G H' r v->(∀p∈G.pots,T.at_ G.M H' p n')->(∀b o,b∉G.pots->H b=some o->H' b=some o)->Q v H'
def C0 (f:pF)(pa:pA):pE:=λenv n R=>pa env n λxs jc n1=>f xs n1 λr n2=>R r jc n2
theorem SR.call (S:SR C G σ H env n)(hk:∀b o,b∉G.pots->H b=some o->H' b=some o)(hp:∀p∈G.pots,C.T.at_ G.M H' p n'):SR C G σ H' env n' where
 frame b o hb e:=by
  by_cases hp:b∈G.pots
  ·-- a pot that is new since the entry has no old object
   obtain⟨l,el,_⟩:=S.pre;rw[el] at hp;rcases K9.mp hp with z|z
   ·exact absurd z hb
   ·have hM:=(S.pots b (by rw[el];exact hp)).1;rcases S.sub b hM with z2|z2
    ·exact(S.newp b (by rw[el];exact hp) hb z2).elim
    ·rw[z2] at e;cases e
  ·exact hk b o hp (S.frame b o hb e)
 sub:=S.sub
 sup:=S.sup
 pots p h:=⟨(S.pots p h).1,hp p h⟩
 pre:=S.pre
 mu a ha:=by
  by_cases h:a∈G.pots
  ·exact C.T.mu (hp a h)
  ·obtain⟨o,e,m⟩:=S.mu a ha;exact⟨o,hk a o h e,m⟩
 slots i x e:=by
  have f:Fr G H H':=λb o hb he=>hk b o (λz=>hb (S.pots b z).1) he;have:=S.slots i x e;cases x with
  | v x =>
   obtain⟨v,e1,r⟩:=this;exact⟨v,e1,r.fr f⟩
  | ow kk xs =>
   obtain⟨a,vs,e1,h1,h2,h3,h4,r⟩:=this;exact⟨a,vs,e1,h1,h2,h3,hk _ _ h3 h4,r.fr f⟩
 inj:=S.inj
 p0:=S.p0
 len:=S.len
 newp:=S.newp
theorem qe_fn (hG:∀z,Kn (F z).prog (F z).w (F z).K (F z).mg (F z).base x k ps (E5 K T f))(hr:∀z,Room j (F z).A)(hk:k<=j)(hg:∀z,Gl (F z) x)(ha:QA T K F (e::es) pl)(hdb:(x == ("__debug__":Str))=false:=by decide)
   (hs:F7 e=true:=by rfl) (hpl:∀z,(backTo pos (E6 es (F z).env)).any (·.1)=false:=by intro _;rfl):QE T K F (.Call (.Name x p) (e::es) [] pos) (C0 f pl):=by
 obtain⟨t,h1,h2⟩:=ha;refine⟨_,λz=>pe_fn (hG z) (hr z) hk (hg z) (h1 z) hdb (D7 hs) (hpl z),λC G σ H env n R Q hK hT S hp k=>?_⟩;refine h2 C G σ H env n _ _ hK hT S hp λxs jc n1 vs H1 p1 S1 r1 f1=>?_;subst hT;rw[Y6];refine⟨G,xs,n1,_,λp hp=>S1.pots p hp,S1.mu,S1.hasG,r1,p1,λr n' v H' rr rv hp hk'=>?_⟩;exact k _ _ _ _ _ rr (S1.call hk' hp) rv (f1.trans λb o hb e=>hk' b o (λz=>hb (S1.pots b z).1) e)
end
end Pu
end
section
namespace Pu
open PySem PySem.Spec L2
abbrev pG:=PV->Env->(Env->Prop)->Prop
abbrev pGs:=List PV->Env->(Env->Prop)->Prop
def GOk (K:A9)(g:TG)(pg:pG):Prop:=∀(C:Ct) (G:Gh) (σ:St) (H:Hp) (env:Env) (n:Nat) (x:PV) (v:V) (R:Env->Prop) (Q:St->Hp->Prop),C.K=K->SR C G σ H env n->Rep K G H x v->pg x env R->
 (∀jh σ',R jh->SR C G σ' H jh n->Q σ' H)->g v σ H Q
def GsOk (K:A9)(g:TGs)(pg:pGs):Prop:=∀(C:Ct) (G:Gh) (σ:St) (H:Hp) (env:Env) (n:Nat) (x:List PV) (v:List V) (R:Env->Prop) (Q:St->Hp->Prop),C.K=K->SR C G σ H env n->Reps K G H x v->pg x env R->
 (∀jh σ',R jh->SR C G σ' H jh n->Q σ' H)->g v σ H Q
def QG {ι:Type}(K:A9)(F:ι->Cx)(e:Expr)(pg:pG):Prop:=∃g,(∀z,PG (F z) e g)/\GOk K g pg
def QGs {ι:Type}(K:A9)(F:ι->Cx)(e:List Expr)(pg:pGs):Prop:=∃g,(∀z,PGs (F z) e g)/\GsOk K g pg
def gN (i:Nat):pG:=λx env R=>R (env.set i (some (.v x)))
def gNl:pGs:=λxs env R=>match xs with|[]=>R env|_=>False
def gCn (g:pG)(r:pGs):pGs:=λxs env R=>match xs with|x::xs=>g x env λjc=>r xs jc R|[]=>False
def gTp (k:Nat)(g:pGs):pG:=λx env R=>match x with|.tup xs=>xs.length=k/\g xs env R|_=>False
theorem SR.set (S:SR C G σ H env n)(i:Nat)(r:Rep C.K G H x v):SR C G (σ.set i (some v)) H (env.set i (some (.v x))) n where
 frame:=S.frame
 sub:=S.sub
 sup:=S.sup
 pots:=S.pots
 pre:=S.pre
 mu:=S.mu
 slots j s e:=by
  by_cases h:i=j
  ·subst h
   by_cases hl:i<env.length
   ·rw[P8 hl] at e;cases e;exact⟨v,by rw[P8 (by rw[<- S.len];exact hl)],r⟩
   ·rw[Y4 (by rw[L4];omega)] at e;cases e
  ·rw[Q7 h] at e ⊢;exact S.slots j s e
 inj j k xs ys a e1 e2 e3 e4:=by
  have nj:∀(j:Nat) (xs:OK×List PV),(env.set i (some (.v x)))[j]?=some (some (Slot.ow xs.1 xs.2))->i≠j:=by
   intro j xs e h;subst h
   by_cases hl:i<env.length
   ·rw[P8 hl] at e;cases e
   ·rw[Y4 (by rw[L4];omega)] at e;cases e
  have n1:=nj j xs e1;have n2:=nj k ys e2;rw[Q7 n1] at e1 e3;rw[Q7 n2] at e2 e4;exact S.inj j k xs ys a e1 e2 e3 e4
 p0:=S.p0
 len:=by rw[L4,L4];exact S.len
 newp:=S.newp
section
variable {T:PotK}{ι:Type}{K:A9}{F:ι->Cx}{e a b c:Expr}{es rest:List Expr}{pe pa pb pc:pE}{pos:Pos}{pl pr:pA}{pg:pG}{pgs:pGs}{pt:pT}
theorem Hi (i:Nat)(hN:X.N.Nodup)(hi:X.N[i]?=some x)(hx:Loc X.env.scope x)(hf:X.fn x=true\/X.env.scope.names.lookup x=some .local:=by first|exact .inl rfl|exact .inr rfl|assumption):GW X (.Name x pos) (P2 i):=⟨Os hN hi hx hf⟩
theorem PR (h:∀z,GW (F z) (.Name x pos) (P2 i)):QG K F (.Name x pos) (gN i):=⟨_,λz=>(h z).h,λC G σ H env n x v R Q hK S r hp k=>k _ _ hp (S.set i (hK▸r))⟩
theorem Z5:QGs K F [] gNl:=⟨_,λ_=>Gz,λC G σ H env n x v R Q hK S r hp k=>by
 cases x with
 |nil=>exact⟨r,k _ _ hp S⟩
 |cons _ _=>exact hp.elim⟩
theorem M7 (h1:QG K F e pg)(h2:QGs K F es pgs)(hs:∀z,(K5 (e::es) (F z).env).map (·.2)=assign e (F z).env::(K5 es (F z).env).map (·.2):=by intro _;rfl):QGs K F (e::es) (gCn pg pgs):=by
 obtain⟨g,a1,a2⟩:=h1;obtain⟨gs,b1,b2⟩:=h2;refine⟨_,λz=>CP (a1 z) (b1 z) (hs z),λC G σ H env n x v R Q hK S r hp k=>?_⟩;cases x with
 |nil=>exact hp.elim
 | cons x xs =>
  obtain⟨u,us,rfl,ru,rs⟩:=r;exact⟨u,us,rfl,a2 C G σ H env n x u _ _ hK S ru hp λjh σ' re S'=>b2 C G σ' H jh n xs us _ _ hK S' rs re k⟩
theorem i8 (hc:∀z,(F z).calm=true)(h:QGs K F es pgs)(hn:∀z,(K5 es (F z).env).length=m:=by intro _;rfl)(hst:∀z,(K5 es (F z).env).findIdx? (·.1)=none:=by intro _;rfl)(hK:∀z,(F z).K=K:=by intro _;rfl):QG K F (.Tuple es k pos) (gTp m pgs):=by
 obtain⟨g,a1,a2⟩:=h;refine⟨_,λz=>hK z▸GA (hc z) (a1 z) (hn z) (hst z),λC G σ H env n x v R Q hK S r hp k=>?_⟩;cases x with
 | tup xs =>
  obtain⟨a,vs,rfl,t,rs⟩:=r;exact⟨a,vs,rfl,t.sq,by rw[<- rs.length];exact hp.1,a2 C G σ H env n xs vs _ _ hK S rs hp.2 k⟩
 |_=>exact hp.elim
def ItR (K:A9)(G:Gh)(H:Hp)(J:It)(xs:List PV):Prop:=∀(G2:Gh) (H2:Hp),(∀b o,b∉G.M->H b=some o->H2 b=some o)->(∀a∈G2.M,a∈G.M\/H a=none)->(∀(k:Nat) (p:A0),G.pots[k]?=some p->G2.pots[k]?=some p)->(∀p,H2 p=none->p∉G2.M)->
 (∀(i:Nat) x,xs[i]?=some x->J.go i H2/\∀v H3,J.yld i H2 v H3->Same H2 H3/\Rep K G2 H3 x v)/\∀i,xs.length<=i->J.stop i H2
def IOk (K:A9)(T:PotK)(wi:TI)(pi:pA):Prop:=∀(C:Ct) (G:Gh) (σ:St) (H:Hp) (env:Env) (n:Nat) (R:List PV->Env->Nat->Prop) (Q:It->Hp->Prop),C.K=K->C.T=T->SR C G σ H env n->pi env n R->
 (∀xs jh n' J H',R xs jh n'->SR C G σ H' jh n'->Fr G H H'->ItR K G H' J xs->Q J H')->wi σ H Q
def QI {ι:Type}(T:PotK)(K:A9)(F:ι->Cx)(tg iter:Expr)(pi:pA):Prop:=∃wi,(∀z,PI (F z) tg iter wi)/\IOk K T wi pi
variable {tg:Expr}
theorem PU {a:A0}(t:AtL G.M H a vs)(r:Reps K G H xs vs):ItR K G H (Itl K a) xs:=by
 intro G2 H2 hk hM hp hf;have hq:SqL K H2 a vs:=SqL.of (hk a _ t.1 t.2);have r2:Reps K G2 H2 xs vs:=Reps.mono hk hM hp _ _ r;refine⟨λi x e=>?_,λi hi=>⟨vs,hq,by rw[<- r.length];exact hi⟩⟩;obtain⟨v,ev,rv⟩:=r2.get' e;refine⟨⟨vs,v,hq,ev⟩,λv' H3 y=>?_⟩;obtain⟨e3,y⟩:=y;subst e3;have:=y vs hq;rw[ev] at this;cases this;exact⟨Same.refl _,rv⟩
theorem PX {a:A0}(t:AtT G.M H a vs)(r:Reps K G H xs vs):ItR K G H (Itt K a) xs:=by
 intro G2 H2 hk hM hp hf;have hq:SqT K H2 a vs:=SqT.of (hk a _ t.1 t.2);have r2:Reps K G2 H2 xs vs:=Reps.mono hk hM hp _ _ r;refine⟨λi x e=>?_,λi hi=>⟨vs,hq,by rw[<- r.length];exact hi⟩⟩;obtain⟨v,ev,rv⟩:=r2.get' e;refine⟨⟨vs,v,hq,ev⟩,λv' H3 y=>?_⟩;obtain⟨e3,y⟩:=y;subst e3;have:=y vs hq;rw[ev] at this;cases this;exact⟨Same.refl _,rv⟩
def qIl (pe:pE):pA:=λenv n R=>pe env n λx jc n1=>match x with|.lst xs=>R xs jc n1|_=>False
def qIt (pe:pE):pA:=λenv n R=>pe env n λx jc n1=>match x with|.tup xs=>R xs jc n1|_=>False
theorem BK (h:QE T K F e pe)(hK:∀z,(F z).K=K:=by intro _;rfl):QI T K F tg e (qIl pe):=by
 obtain⟨t,h1,h2⟩:=h;refine⟨_,λz=>hK z▸Ox (h1 z),λC G σ H env n R Q hK hT S hp k=>?_⟩;refine h2 C G σ H env n _ _ hK hT S hp λx jc n1 v H1 p1 S1 r1 f1=>?_;cases x with
 | lst xs =>
  obtain⟨a,vs,rfl,t,r⟩:=r1;exact⟨a,rfl,⟨vs,t.sq⟩,k _ _ _ _ _ p1 S1 f1 (PU t r)⟩
 |_=>exact p1.elim
theorem X7 (h:QE T K F e pe)(hK:∀z,(F z).K=K:=by intro _;rfl):QI T K F tg e (qIt pe):=by
 obtain⟨t,h1,h2⟩:=h;refine⟨_,λz=>hK z▸pi_tup (h1 z),λC G σ H env n R Q hK hT S hp k=>?_⟩;refine h2 C G σ H env n _ _ hK hT S hp λx jc n1 v H1 p1 S1 r1 f1=>?_;cases x with
 | tup xs =>
  obtain⟨a,vs,rfl,t,r⟩:=r1;exact⟨a,rfl,⟨vs,t.sq⟩,k _ _ _ _ _ p1 S1 f1 (PX t r)⟩
 |_=>exact p1.elim
theorem PY (lo:Int)(m:Nat):ItR K G H (Itr lo m) ((E9 m).map λ(k:Nat)=>PV.int (lo+k)):=by
 intro G2 H2 hk hM hp hf;refine⟨λi x e=>?_,λi hi=>(show m<=i by simpa using hi)⟩;rw[G0] at e;cases e1:(E9 m)[i]? with
 |none=>rw[e1] at e;cases e
 | some j =>
  rw[e1] at e;cases e;obtain⟨hi,e2⟩:=J5.mp e1;rw[List.getElem_range] at e2;subst e2;refine⟨(show i<m by simpa using hi),λv H3 y=>?_⟩;obtain⟨e3,y⟩:=y;subst e3 y;exact⟨Same.refl _,rfl⟩
def AK (pe:pE):pA:=λenv n R=>pe env n λx jc n1=>match x with|.int j=>(-1000000<=j/\j<=1000000)/\R ((E9 j.toNat).map λ(k:Nat)=>PV.int (0+k)) jc n1|_=>False
theorem Dg (hg:∀z,Gl (F z) "range")(hm:∀z,(F z).mg "range"=none)(h:QE T K F e pe)(hs:F7 e=true:=by rfl):QI T K F tg (.Call (.Name "range" p) [e] [] pos) (AK pe):=by
 obtain⟨t,h1,h2⟩:=h;refine⟨_,λz=>Oz (hg z) (hm z) (G4 (h1 z) K3 (D7 hs)) (by rw[D7 hs];rfl),λC G σ H env n R Q hK hT S hp k=>?_⟩;refine EO (pe:=pe) (λC G σ H env n R Q hK hT S hp k=>h2 C G σ H env n R Q hK hT S hp λx jh n' v H' r S' rp f=>k x jh n' v H' r S' (.inl (hK▸rp)) f) hK hT S hp λx jc n1 v H1 p1 S1 r1 f1=>?_;cases x with
 |int j=>exact⟨j,by rw[(r1.rd S1).int],by omega,by omega,k _ _ _ _ _ p1.2 S1 f1 (PY 0 _)⟩
 |_=>exact p1.elim
def qIs (pe:pE):pA:=λenv n R=>pe env n λx jc n1=>match x with|.str z=>z.cps.all (· < 128)=true/\R (z.cps.toList.map λc=>.str ⟨#[c]⟩) jc n1|_=>False
theorem qi_str (h:QE T K F e pe):QI T K F tg e (qIs pe):=by
 obtain⟨t,h1,h2⟩:=h;refine⟨_,λz=>pi_str (h1 z),λC G σ H env n R Q hK hT S hp k=>?_⟩;refine h2 C G σ H env n _ _ hK hT S hp λx jc n1 v H1 p1 S1 r1 f1=>?_;cases x with
 | str z =>
  refine⟨z,r1,p1.1,k _ _ _ _ _ p1.2 S1 f1 ?_⟩;intro G2 H2 hk hM hp hf;refine⟨λi x e=>?_,λi hi=>(show z.cps.toList.length<=i by simpa using hi)⟩;rw[G0] at e;cases e1:z.cps.toList[i]? with
  |none=>rw[e1] at e;cases e
  | some c =>
   rw[e1] at e;cases e;obtain⟨hi,_⟩:=J5.mp e1;refine⟨hi,λv H3 y=>?_⟩;obtain⟨e3,c',ec,ev⟩:=y;subst e3 ev;rw[e1] at ec;cases ec;exact⟨Same.refl _,rfl⟩
 |_=>exact p1.elim
def capS:Option (Option Slot)->Option Slot
 |some (some (.v x))=>some (.v x)
 |_=>none
def capV (cs:List (Option Nat))(env:Env):Env:=cs.map λo=>o.bind λj=>capS (env[j]?)
def W5 (g:pG)(tt:pT)(te:pE):List PV->Env->Nat->(List PV->Nat->Prop)->Prop
 |[],_,n,R=>R [] n
 |x::xs,env,n,R=>g x env λjc=>tt jc n λb jd n2=>if b=true then te jd n2 λy je n3=>W5 g tt te xs je n3 λys n4=>R (y::ys) n4 else W5 g tt te xs jd n2 R
def qTru:pT:=λenv n R=>R true env n
def i9 (cs:List (Option Nat))(pi:pA)(g:pG)(tt:pT)(te:pE):pA:=λenv n R=>pi env n λxs jc n1=>xs.length<=1000000/\W5 g tt te xs (capV cs jc) n1 λys n2=>R ys jc n2
structure Inn (K:A9)(T:PotK)(G:Gh)(σ:St)(H:Hp)(env:Env)(n:Nat):Prop where
 pots:∀p∈G.pots,p∈G.M/\T.at_ G.M H p n
 has:T.has G.pots
 mu:∀a∈G.M,∃o,H a=some o/\MutO o
 slots:∀(i:Nat) (s:Slot),env[i]?=some (some s)->∃x v,s=.v x/\σ[i]?=some (some v)/\Rep K G H x v
 len:env.length=σ.length
theorem Inn.sr (I:Inn K T G σ H env n):SR ⟨K,T,G.M,G.pots,H,false⟩ G σ H env n where
 frame b o _ e:=e
 sub a ha:=.inl ha
 sup a ha:=ha
 pots:=I.pots
 pre:=⟨[],by simp,.inl rfl⟩
 mu:=I.mu
 slots i s e:=by
  obtain⟨x,v,rfl,ev,r⟩:=I.slots i s e;exact⟨v,ev,r⟩
 inj i j xs ys a e1:=by
  obtain⟨x,v,z,_⟩:=I.slots i _ e1;cases z
 p0:=⟨λp hp=>(I.pots p hp).1,I.has⟩
 len:=I.len
 newp p hp hn:=absurd hp hn
theorem SR.inn (S:SR ⟨K,T,G.M,G.pots,H0,false⟩ G σ H env n):Inn K T G σ H env n where
 pots:=S.pots
 has:=S.hasG
 mu:=S.mu
 slots i s e:=by
  cases s with
  | v x =>
   obtain⟨v,ev,r⟩:=S.slots i _ e;exact⟨x,v,rfl,ev,r⟩
  | ow kk xs =>
   obtain⟨a,vs,ev,h1,h2,_⟩:=S.slots i _ e;exact absurd h1 h2
 len:=S.len
theorem PZ:TOk K T tTru qTru:=λC G σ H env n R Q hK hT S hp k=>k _ _ _ _ hp S Fr.refl
structure CI (K:A9)(T:PotK)(G:Gh)(H1:Hp)(D:A0)(σ:St)(H:Hp)(env:Env)(n:Nat)(jl:List PV)(us:List V):Prop where
 inn:Inn K T ⟨D::G.M,G.pots⟩ σ H env n
 kp:∀b o,b∉G.pots->H1 b=some o->H b=some o
 eD:H D=some (.lst us)
 ra:Reps K ⟨D::G.M,G.pots⟩ H jl us
theorem CI.start {K:A9}{T:PotK}{G:Gh}{H1:Hp}{D:A0}{σ:St}{env:Env}{n:Nat}(hD:H1 D=none)(I0:Inn K T G σ H1 env n):CI K T G H1 D σ (upd H1 D (.lst [])) env n [] []:=by
 have lay:∀b o,H1 b=some o->upd H1 D (.lst []) b=some o:=λb o e=>Same.lay1 hD b o e;have new:∀a,a∈D::G.M->a∈G.M\/H1 a=none:=λa ha=>(C3.mp ha).elim (λz=>.inr (z▸hD)) .inl;refine⟨⟨λp hp=>⟨C5 _ (I0.pots p hp).1,?_⟩,I0.has,λa ha=>?_,λi s e=>?_,I0.len⟩,λb o _ e=>lay b o e,D9,rfl⟩
 ·have h1:=T.more (M':=D::G.M) (I0.pots p hp).2 new;obtain⟨o,e,_⟩:=T.mu h1;exact T.keep h1 (by rw[e,lay p o e]) λb o _ e=>lay b o e
 ·rcases C3.mp ha with rfl|ha
  ·exact⟨_,D9,trivial⟩
  ·obtain⟨o,e,m⟩:=I0.mu a ha;exact⟨o,lay a o e,m⟩
 ·obtain⟨x,v,rfl,ev,r⟩:=I0.slots i s e;exact⟨x,v,rfl,ev,Rep.mono (G':=⟨D::G.M,G.pots⟩) (λb o _ e=>lay b o e) new (λ_ _ e=>e) _ _ r⟩
theorem CI.go {K:A9}{T:PotK}{G:Gh}{H1:Hp}{D:A0}{σ σ':St}{H H':Hp}{env jh:Env}{n n':Nat}{jl:List PV}{us:List V}(c:CI K T G H1 D σ H env n jl us)(nD:D∉G.pots)(S:SR ⟨K,T,D::G.M,G.pots,H,false⟩ ⟨D::G.M,G.pots⟩ σ' H' jh n'):CI K T G H1 D σ' H' jh n' jl us:=
 ⟨S.inn,λb o hb e=>S.frame b o hb (c.kp b o hb e),S.frame D _ nD c.eD,Reps.mono (λb o hb e=>S.frame b o (λz=>hb (c.inn.pots b z).1) e) (λa ha=>.inl ha) (λ_ _ e=>e) _ _ c.ra⟩
theorem CI.fD {G:Gh}(o:HO):Fr ⟨D::G.M,G.pots⟩ H (upd H D o):=λb u hb e=>by
 rw[C4 (λz=>hb (by rw[z];exact C8))];exact e
theorem CI.add {K:A9}{T:PotK}{G:Gh}{H1:Hp}{D:A0}{σ:St}{H:Hp}{env:Env}{n:Nat}{jl:List PV}{us:List V}{y:PV}{u:V}(c:CI K T G H1 D σ H env n jl us)(nD:D∉G.pots)(hD:H1 D=none)(r:Rep K ⟨D::G.M,G.pots⟩ H y u):CI K T G H1 D σ (upd H D (.lst (us++[u]))) env n (jl++[y]) (us++[u]):=by
 refine⟨⟨λp hp=>⟨(c.inn.pots p hp).1,T.keep (c.inn.pots p hp).2 (C4 λz=>nD (by rw[<- z];exact hp)) (CI.fD _)⟩,c.inn.has,λa ha=>?_,λq s e=>?_,c.inn.len⟩,λb o hb e=>?_,D9,(c.ra.append (.one r)).fr (CI.fD _)⟩
 ·by_cases haD:a=D
  ·subst haD;exact⟨_,D9,trivial⟩
  ·rw[C4 haD];exact c.inn.mu a ha
 ·obtain⟨x,v,rfl,ev,r⟩:=c.inn.slots q s e;exact⟨x,v,rfl,ev,r.fr (CI.fD _)⟩
 ·rw[C4 (λz=>by rw[z,hD] at e;cases e)];exact c.kp b o hb e
theorem CI.it {K:A9}{T:PotK}{G:Gh}{H1:Hp}{D:A0}{σ:St}{H:Hp}{env:Env}{n:Nat}{jl:List PV}{us:List V}{J:It}{xs:List PV}(c:CI K T G H1 D σ H env n jl us)(hD:H1 D=none)(hJ:ItR K G H1 J xs):(∀(i:Nat) x,xs[i]?=some x->J.go i H/\∀v H3,J.yld i H v H3->Same H H3/\Rep K ⟨D::G.M,G.pots⟩ H3 x v)/\∀i,xs.length<=i->J.stop i H:=
 hJ ⟨D::G.M,G.pots⟩ H (fun b o hb e=>by
  by_cases z:b∈G.pots
  ·obtain⟨h1,_⟩:=c.inn.pots b z;rcases C3.mp h1 with rfl|h1
   ·rw[hD] at e;cases e
   ·exact absurd h1 hb
  ·exact c.kp b o z e) (λa ha=>(C3.mp (show a∈D::G.M from ha)).elim (λz=>.inr (z▸hD)) .inl) (λ_ _ e=>e) λp hp=>c.inn.sr.fresh hp
theorem Kq {K:A9}{T:PotK}{J:It}{g:TG}{tt:TT}{te:TE}{pg:pG}{ptt:pT}{pte:pE}(hg:GOk K g pg)(ht:TOk K T tt ptt)(he:EOk K T te pte){G:Gh}{H1:Hp}{xs:List PV}(hJ:ItR K G H1 J xs)(hl:xs.length<=1000000)
   {σc:St} {env:Env} {n:Nat} {R:List PV->Nat->Prop} {Q:VK} {D:A0} (hD:H1 D=none) (I0:Inn K T G σc H1 env n) (hp:W5 pg ptt pte xs env n R)
   (hQ:∀ys n' us H',R ys n'->(∀p∈G.pots,T.at_ (D::G.M) H' p n')->(∀b o,b∉G.pots->H1 b=some o->H' b=some o)->H' D=some (.lst us)->Reps K ⟨D::G.M,G.pots⟩ H' ys us->Q (.ref D) H') :
   CompW J g tt te Q D σc (upd H1 D (.lst [])):=by
 have nD:D∉G.pots:=λz=>I0.sr.fresh hD (I0.pots D z).1;refine⟨λi m σ H=>m=xs.length-i/\i<=xs.length/\∃env n jl us,CI K T G H1 D σ H env n jl us/\jl.length<=i/\W5 pg ptt pte (xs.drop i) env n λys n'=>R (jl++ys) n',⟨xs.length,rfl,K4 _,env,n,[],[],.start hD I0,B8 _,hp⟩,?_⟩;rintro i m σ H ⟨rfl,hi,env,n,jl,us,c,la,hc⟩;obtain⟨hgo,hstop⟩:=c.it hD hJ
 by_cases hlt:i<xs.length
 ·obtain⟨g1,g2⟩:=hgo i _ (D4 hlt);refine .inr ⟨g1,λv H2 y=>?_⟩;obtain⟨s2,rv⟩:=g2 v H2 y;rw[An hlt] at hc;refine hg _ _ σ H2 env n xs[i] v _ _ rfl (c.inn.sr.same s2) rv hc λjc σ1 hc1 S2=>?_;refine ht _ _ σ1 H2 jc n _ _ rfl rfl S2 hc1 λb jd n2 H4 hc2 S4 f4=>?_;cases b with
  |false=>exact⟨xs.length-(i+1),Cy _ _ hlt,rfl,hlt,jd,n2,jl,us,c.go nD S4,Nat.le_succ_of_le la,hc2⟩
  | true =>
   refine he _ _ σ1 H4 jd n2 _ _ rfl rfl S4 hc2 λy je n3 u H5 hc3 S5 r5 f5=>?_;have c5:=c.go nD S5;refine⟨us,c5.eD,by rw[<- c.ra.length];exact mil' (by omega),xs.length-(i+1),Cy _ _ hlt,rfl,hlt,je,n3,jl++[y],us++[u],c5.add nD hD r5,by rw[E7,T4];omega,?_⟩;simp only[X4];exact hc3
 ·obtain rfl:i=xs.length:=Nat.le_antisymm hi (Bi hlt);refine .inl ⟨hstop _ (B8 _),?_⟩;rw[Ef] at hc;have hc':R (jl++[]) n:=hc;rw[Y6] at hc';exact hQ _ n us H hc' (λp hp=>(c.inn.pots p hp).2) c.kp c.eD c.ra
end
end Pu
end
section
namespace Pu
open PySem PySem.Spec L2
section
variable {T:PotK}{ι:Type}{K:A9}{F:ι->Cx}{e a b c:Expr}{es rest:List Expr}{pe pa pb pc:pE}{pos:Pos}{pl pr:pA}{pg:pG}{pgs:pGs}{pt:pT}
def QIf {ι:Type}(T:PotK)(K:A9)(F:ι->Cx)(jk:List Expr)(pt:pT):Prop:=∃t,(∀z,PIf (F z) jk t)/\TOk K T t pt
theorem Hj:QIf T K F [] qTru:=⟨_,λ_=>Pn,PZ⟩
theorem Dh (h:QT T K F c pt):QIf T K F [c] pt:=let ⟨t,h1,h2⟩:=h;⟨t,λz=>Po (h1 z),h2⟩
theorem Hk {C:Ct}{G:Gh}{σ:St}{H:Hp}{env:Env}{n:Nat}(S:SR C G σ H env n)(cs:List (Option Nat)):Inn C.K C.T G (t0 cs σ) H (capV cs env) n where
 pots:=S.pots
 has:=S.hasG
 mu:=S.mu
 len:=by simp[capV,t0]
 slots i s e:=by
  unfold capV at e;rw[G0] at e;cases ec:cs[i]? with
  |none=>rw[ec] at e;cases e
  | some o =>
   rw[ec] at e;cases o with
   |none=>cases e
   | some j =>
    have e':capS (env[j]?)=some s:=by simpa using e
    unfold capS at e'
    split at e'
    ·rename_i x ex;cases e';obtain⟨v,ev,r⟩:=S.slots j _ ex;refine⟨x,v,rfl,?_,r⟩;unfold t0;rw[G0,ec];simp[ev]
    ·cases e'
def cutH (H:Hp)(D:A0):Hp:=λb=>if b=D then none else H b
theorem W6 {H:Hp}{D b:A0}(h:b≠D):cutH H D b=H b:=jt h
theorem Hl {H:Hp}{D:A0}{o:HO}(h:H D=some o):upd (cutH H D) D o=H:=by
 funext b
 by_cases hb:b=D
 ·subst hb;rw[D9,h]
 ·rw[C4 hb,W6 hb]
theorem Di {scope:J7}{cl:ι->List (Str×A0)}{N:List Str}{cs:List (Option Nat)}{ji tg iter:Expr}{jk:List Expr}{pi:pA}{ptt:pT}{pte:pE}(S:∀z,q8 (F z) scope (cl z) N cs)(hc:∀z,(F z).calm=true)(hi:QI T K F tg iter pi)
   (hg:QG K (λy:ι×List A0×A0×A6×Hp=>J8 (F y.1) scope (cl y.1) N y.2.1 y.2.2.1 y.2.2.2.1 y.2.2.2.2) tg pg) (ht:QIf T K (λy:ι×List A0×A0×A6×Hp=>J8 (F y.1) scope (cl y.1) N y.2.1 y.2.2.1 y.2.2.2.1 y.2.2.2.2) jk ptt)
   (he:QE T K (λy:ι×List A0×A0×A6×Hp=>J8 (F y.1) scope (cl y.1) N y.2.1 y.2.2.1 y.2.2.2.1 y.2.2.2.2) ji pte)
   (hs:∀z x,U1 iter (F z).env x=pure x:=by intro _ _;rfl):QN T K F (.ListComp ji [⟨tg,iter,jk,0⟩] scope pos) (i9 cs pi pg ptt pte):=by
 obtain⟨wi,i1,i2⟩:=hi;obtain⟨g,hg0,hg⟩:=hg;obtain⟨tt,ht0,ht⟩:=ht;obtain⟨te,he0,he⟩:=he;refine⟨_,λz=>JW (S z) (hc z) (i1 z) (λfp C s H=>⟨hg0 (z,fp,C,s,H),ht0 (z,fp,C,s,H),he0 (z,fp,C,s,H)⟩) (hs z),λC G σ H env n R Q hK hT S hp k=>?_⟩;refine i2 C G σ H env n _ _ hK hT S hp λxs jc n1 J H1 p1 S1 f1 hJ=>?_;intro D hD;have hDM:=S1.fresh hD;refine Kq (G:=G) hg ht he hJ p1.1 hD (hT▸hK▸Hk S1 cs) p1.2 λys n2 us H' rr hpots hk eD ry=>?_
 -- the heap without D
 have nD:∀b o,H1 b=some o->b≠D:=λb o e z=>by rw[z,hD] at e;cases e
 have hD0:C.H0 D=none:=by
  cases z:C.H0 D with
  |none=>rfl
  | some o =>
   by_cases hp:D∈C.pots0
   ·exact absurd (S1.sup D (S1.p0.1 D hp)) hDM
   ·have:=S1.frame D o hp z;rw[hD] at this;cases this
 have hk2:∀b o,b∉G.pots->H1 b=some o->cutH H' D b=some o:=λb o hb e=>by rw[W6 (nD b o e)];exact hk b o hb e
 have nc:∀b,b∉D::G.M->b≠D:=λb hb z=>hb (by rw[z];exact C8);have np:∀p∈G.pots,p≠D:=λp hp z=>hDM (z▸(S1.pots p hp).1)
 have Sb:SR C G σ (cutH H' D) jc n2:=S1.call hk2 λp hp=>by
  subst hT;have h2:=C.T.keep (hpots p hp) (H':=cutH H' D) (W6 (np p hp)) λb o hb e=>by rw[W6 (nc b hb)];exact e
  exact C.T.more h2 λa ha=>.inl (C5 _ ha)
 have:=k ys jc n2 D us (cutH H' D) rr Sb (f1.trans λb o hb e=>hk2 b o (λz=>hb (S1.pots b z).1) e) (by unfold cutH;rw[jr rfl]) ?_
 ·rw[Hl eD] at this;exact this
 ·exact Reps.mono (G:=⟨D::G.M,G.pots⟩) (λb o hb e=>by rw[W6 (nc b hb)];exact e) (λa ha=>.inl (C5 _ ha)) (λ_ _ e=>e) _ _ ry
end
end Pu
end
section
namespace Pu
open PySem PySem.Spec L2
structure AM where
 nx:Env->Nat->Prop
 rt:PV->Nat->Prop
 bk:Env->Nat->Prop:=λ_ _=>False
 ct:Env->Nat->Prop:=λ_ _=>False
abbrev pS:=AM->Env->Nat->Prop
structure Ext (G:Gh)(H:Hp)(G':Gh)(H':Hp):Prop where
 keep:∀b o,b∉G.M->H b=some o->H' b=some o
 new:∀a∈G'.M,a∈G.M\/H a=none
 pot:∀(k:Nat) (p:A0),G.pots[k]?=some p->G'.pots[k]?=some p
theorem Ext.refl:Ext G H G H:=⟨λ_ _ _ e=>e,λ_ h=>.inl h,λ_ _ e=>e⟩
theorem Ext.fr (f:Fr G H H'):Ext G H G H':=⟨f,λ_ h=>.inl h,λ_ _ e=>e⟩
theorem Ext.trans (a:Ext G H G1 H1)(b:Ext G1 H1 G2 H2):Ext G H G2 H2 where
 keep c o hc e:=b.keep c o (λz=>(a.new c z).elim hc λz=>by rw[z] at e;cases e) (a.keep c o hc e)
 new c hc:=(b.new c hc).elim (fun z=>a.new c z) fun z=>by
  by_cases hM:c∈G.M
  ·exact .inl hM
  ·refine .inr ?_;cases e:H c with
   |none=>rfl
   |some o=>rw[a.keep c o hM e] at z;cases z
 pot k p e:=b.pot k p (a.pot k p e)
structure Link (C:Ct)(G:Gh)(H:Hp)(PD:AM)(D:Ends):Prop where
 nx:∀env n G' σ H',PD.nx env n->SR C G' σ H' env n->Ext G H G' H'->D.nx σ H'
 rt:∀x n v G' σ H' env,PD.rt x n->SR C G' σ H' env n->Rep C.K ⟨C.M0,G'.pots⟩ H' x v->Ext G H G' H'->D.rt v H'
 bk:∀env n G' σ H',PD.bk env n->SR C G' σ H' env n->Ext G H G' H'->D.bk σ H'
 ct:∀env n G' σ H',PD.ct env n->SR C G' σ H' env n->Ext G H G' H'->D.ct σ H'
theorem Link.ext (L:Link C G H PD D)(x:Ext G H G' H'):Link C G' H' PD D:=
 ⟨λenv n G2 σ H2 p S e=>L.nx env n G2 σ H2 p S (x.trans e),λy n v G2 σ H2 env p S r e=>L.rt y n v G2 σ H2 env p S r (x.trans e),λenv n G2 σ H2 p S e=>L.bk env n G2 σ H2 p S (x.trans e),λenv n G2 σ H2 p S e=>L.ct env n G2 σ H2 p S (x.trans e)⟩
def SOk (K:A9)(T:PotK)(np:Bool)(t:TS)(ps:pS):Prop:=∀(C:Ct) (G:Gh) (σ:St) (H:Hp) (env:Env) (n:Nat) (PD:AM) (D:Ends),C.K=K->C.T=T->C.np=np->SR C G σ H env n->ps PD env n->Link C G H PD D->t D σ H
def QS {ι:Type}(T:PotK)(np:Bool)(K:A9)(F:ι->Cx)(st:Stmt)(ps:pS):Prop:=∃t,(∀z,PS (F z) st t)/\SOk K T np t ps
def QSs {ι:Type}(T:PotK)(np:Bool)(K:A9)(F:ι->Cx)(st:List Stmt)(ps:pS):Prop:=∃t,(∀z,PSs (F z) st t)/\SOk K T np t ps
theorem SR.out (S:SR C G σ H env n)(r:Rep C.K G H x v):Rep C.K ⟨C.M0,G.pots⟩ H x v:=
 Rep.mono (G':=⟨C.M0,G.pots⟩) (λ_ _ _ e=>e) (λa ha=>.inl (S.sup a ha)) (λ_ _ e=>e) _ _ r
theorem SR.old (S:SR C G σ H env n)(h:H a=none):C.H0 a=none:=by
 cases z:C.H0 a with
 |none=>rfl
 | some o =>
  by_cases hp:a∈C.pots0
  ·exact absurd (S.sup a (S.p0.1 a hp)) (S.fresh h)
  ·have:=S.frame a o hp z;rw[h] at this;cases this
theorem SR.moreO (S:SR C G σ H env n)(mo:MutO ob)(h:H a=none):SR C ⟨a::G.M,G.pots⟩ σ (upd H a ob) env n where
 frame b o hb e:=Same.lay1 h b o (S.frame b o hb e)
 sub b hb:=(C3.mp hb).elim (λz=>.inr (z▸S.old h)) (S.sub b)
 sup b hb:=C5 _ (S.sup b hb)
 pots p hp:=⟨C5 _ (S.pots p hp).1,by
  have h1:=C.T.more (M':=a::G.M) (S.pots p hp).2 (λc hc=>(C3.mp hc).elim (λz=>.inr (z▸h)) .inl);obtain⟨o,e,_⟩:=C.T.mu h1
  exact C.T.keep h1 (by rw[e,Same.lay1 h p o e]) λb o _ e=>Same.lay1 h b o e⟩
 pre:=S.pre
 mu b hb:=by
  rcases C3.mp hb with rfl|hb
  ·exact⟨_,D9,mo⟩
  ·obtain⟨o,e,m⟩:=S.mu b hb;exact⟨o,Same.lay1 h b o e,m⟩
 slots i s e:=by
  have mm:∀{x:PV} {v:V},Rep C.K G H x v->Rep C.K ⟨a::G.M,G.pots⟩ (upd H a ob) x v:=λr=>Rep.mono (G':=⟨a::G.M,G.pots⟩) (H':=upd H a ob) (λb o _ e=>Same.lay1 h b o e) (λc hc=>(C3.mp (show c∈a::G.M from hc)).elim (λz=>.inr (z▸h)) .inl) (λ_ _ e=>e) _ _ r;have:=S.slots i s e;cases s with
  | v x =>
   obtain⟨v,e1,r⟩:=this;exact⟨v,e1,mm r⟩
  | ow kk xs =>
   obtain⟨b,us,e1,h1,h2,h3,h4,r⟩:=this;exact⟨b,us,e1,C5 _ h1,h2,h3,Same.lay1 h _ _ h4,Reps.mono (G':=⟨a::G.M,G.pots⟩) (H':=upd H a ob) (λb o _ e=>Same.lay1 h b o e) (λc hc=>(C3.mp (show c∈a::G.M from hc)).elim (λz=>.inr (z▸h)) .inl) (λ_ _ e=>e) _ _ r⟩
 inj:=S.inj
 p0:=S.p0
 len:=S.len
 newp:=S.newp
theorem SR.more (S:SR C G σ H env n)(h:H a=none):SR C ⟨a::G.M,G.pots⟩ σ (upd H a (.lst vs)) env n:=S.moreO (ob:=.lst vs) trivial h
theorem SR.ow (S:SR C G σ H env n)(i:Nat)(kk:OK)(h:H a=none)(r:Reps C.K G H xs vs) :
   SR C ⟨a::G.M,G.pots⟩ (σ.set i (some (.ref a))) (upd H a (mkO kk vs)) (env.set i (some (.ow kk xs))) n:=by
 have S1:=S.moreO (Ka kk vs) h;have aM:a∉G.M:=S.fresh h;have r1:Reps C.K ⟨a::G.M,G.pots⟩ (upd H a (mkO kk vs)) xs vs:=Reps.mono (G':=⟨a::G.M,G.pots⟩) (H':=upd H a (mkO kk vs)) (λb o _ e=>Same.lay1 h b o e) (λc hc=>(C3.mp (show c∈a::G.M from hc)).elim (λz=>.inr (z▸h)) .inl) (λ_ _ e=>e) _ _ r
 have ja:∀(j:Nat) (ys:OK×List PV),env[j]?=some (some (Slot.ow ys.1 ys.2))->σ[j]?≠some (some (.ref a)):=by
  intro j ys e z;obtain⟨b,us,e1,h1,_⟩:=S.slots j _ e;rw[z] at e1;cases e1;exact aM h1
 exact {
  frame:=S1.frame
  sub:=S1.sub
  sup:=S1.sup
  pots:=S1.pots
  pre:=S1.pre
  mu:=S1.mu
  slots:=λj s e=>by
   by_cases hj:i=j
   ·subst hj
    by_cases hl:i<env.length
    ·rw[P8 hl] at e;cases e;exact⟨a,vs,by rw[P8 (by rw[<- S.len];exact hl)],C8,λz=>aM (S.sup a z),λz=>aM (S.pots a z).1,D9,r1⟩
    ·rw[Y4 (by rw[L4];omega)] at e;cases e
   ·rw[Q7 hj] at e ⊢;exact S1.slots j s e
  inj:=fun j k xs' ys b e1 e2 e3 e4=>by
   by_cases hj:i=j
   ·by_cases hk:i=k
    ·omega
    ·subst hj;rw[Q7 hk] at e2 e4
     by_cases hl:i<σ.length
     ·rw[P8 hl] at e3;cases e3;exact absurd e4 (ja k ys e2)
     ·rw[Y4 (by rw[L4];omega)] at e3;cases e3
   ·rw[Q7 hj] at e1 e3
    by_cases hk:i=k
    ·subst hk
     by_cases hl:i<σ.length
     ·rw[P8 hl] at e4;cases e4;exact absurd e3 (ja j xs' e1)
     ·rw[Y4 (by rw[L4];omega)] at e4;cases e4
    ·rw[Q7 hk] at e2 e4;exact S.inj j k xs' ys b e1 e2 e3 e4
  p0:=S.p0
  len:=by rw[L4,L4];exact S.len
  newp:=S.newp }
theorem SR.own (S:SR C G σ H env n)(i:Nat)(h:H a=none)(r:Reps C.K G H xs vs) :
   SR C ⟨a::G.M,G.pots⟩ (σ.set i (some (.ref a))) (upd H a (.lst vs)) (env.set i (some (.ow .lst xs))) n:=S.ow i .lst h r
theorem SR.putO {C:Ct}{G:Gh}{σ:St}{H:Hp}{env:Env}{n:Nat}(S:SR C G σ H env n){i:Nat}{kk:OK}(k':OK){a:A0}{xs ys:List PV}{vs:List V}(e:env[i]?=some (some (.ow kk xs)))(ea:σ[i]?=some (some (.ref a)))(r:Reps C.K G H ys vs) :
   SR C G σ (upd H a (mkO k' vs)) (env.set i (some (.ow k' ys))) n/\Fr G H (upd H a (mkO k' vs)):=by
 obtain⟨a',us,ea',aM,a0,ap,eH,_⟩:=S.slots i _ e;rw[ea] at ea';cases ea';have f:Fr G H (upd H a (mkO k' vs)):=λb o hb he=>by rw[C4 (λz=>hb (by grind))];exact he
 refine⟨{
  frame:=λb o hb he=>?_
  sub:=S.sub
  sup:=S.sup
  pots:=λp hp=>⟨(S.pots p hp).1,C.T.keep (S.pots p hp).2 (C4 λz=>ap (by grind)) f⟩
  pre:=S.pre
  mu:=λb hb=>?_
  slots:=λj s es=>?_
  inj:=λj k xs' ys' b e1 e2 e3 e4=>?_
  p0:=S.p0
  len:=by rw[L4];exact S.len
  newp:=S.newp },f⟩
 ·have hb2:b≠a:=λz=>by
   rcases S.sub a aM with z2|z2
   ·grind
   ·grind
  rw[C4 hb2];exact S.frame b o hb he
 ·by_cases hba:b=a
  ·subst hba;exact⟨_,D9,Ka k' vs⟩
  ·obtain⟨o,he,m⟩:=S.mu b hb;exact⟨o,by rw[C4 hba];exact he,m⟩
 ·by_cases hj:i=j
  ·subst hj;have hl:i<env.length:=(J5.mp e).1;rw[P8 hl] at es;cases es;exact⟨a,vs,ea,aM,a0,ap,D9,r.fr f⟩
  ·rw[Q7 hj] at es;have:=S.slots j s es;cases s with
   | v x =>
    obtain⟨v,e1,r⟩:=this;exact⟨v,e1,r.fr f⟩
   | ow kz zs =>
    obtain⟨b,us',e1,h1,h2,h3,h4,r⟩:=this;have hba:b≠a:=λz=>hj (S.inj i j (kk,xs) (kz,zs) a e es ea (by rw[e1,z]));exact⟨b,us',e1,h1,h2,h3,by rw[C4 hba];exact h4,r.fr f⟩
 ·have back:∀(j:Nat) (zs:OK×List PV),(env.set i (some (.ow k' ys)))[j]?=some (some (Slot.ow zs.1 zs.2))->∃zs':OK×List PV,env[j]?=some (some (.ow zs'.1 zs'.2)):=by
   intro j zs h
   by_cases hj:i=j
   ·simp_all
   ·grind
  obtain⟨z1,e1'⟩:=back j xs' e1;obtain⟨z2,e2'⟩:=back k ys' e2;exact S.inj j k z1 z2 b e1' e2' e3 e4
theorem SR.put (S:SR C G σ H env n)(e:env[i]?=some (some (.ow .lst xs)))(ea:σ[i]?=some (some (.ref a)))(r:Reps C.K G H ys vs) :
   SR C G σ (upd H a (.lst vs)) (env.set i (some (.ow .lst ys))) n/\Fr G H (upd H a (.lst vs)):=S.putO .lst e ea r
section
variable {T:PotK}{np:Bool}{ι:Type}{K:A9}{F:ι->Cx}{e a b c:Expr}{es:List Expr}{st:Stmt}{rest:List Stmt}{pe pa pb pc:pE}{pos:Pos}{pl pr:pA}{pg:pG}{pt:pT}{p1 p2:pS}
def qNx:pS:=λD env n=>D.nx env n
def qSeq (p q:pS):pS:=λD env n=>p { D with nx:=λe m=>q D e m } env n
theorem F8:QSs T np K F [] qNx:=⟨_,λ_=>Gw,λC G σ H env n PD D hK hT hn S hp L=>L.nx _ _ _ _ _ hp S Ext.refl⟩
theorem B5 (h:QS T np K F st p1):QSs T np K F [st] p1:=let ⟨t,h1,h2⟩:=h;⟨t,λz=>CN (h1 z),h2⟩
theorem B4 (h:QS T np K F st p1)(h':QSs T np K F rest p2):QSs T np K F (st::rest) (qSeq p1 p2):=by
 obtain⟨t,a1,a2⟩:=h;obtain⟨u,b1,b2⟩:=h';refine⟨_,λz=>p9 (a1 z) (b1 z),λC G σ H env n PD D hK hT hn S hp L=>?_⟩;refine a2 C G σ H env n _ _ hK hT hn S hp ⟨λjc n1 G1 σ1 H1 q1 S1 x1=>?_,L.rt,L.bk,L.ct⟩;exact b2 C G1 σ1 H1 jc n1 PD D hK hT hn S1 q1 (L.ext x1)
theorem sw_set (hN:X.N.Nodup)(hi:X.N[i]?=some x)(hx:Loc X.env.scope x)(hs:l6 e (some (.Name x pos')) pos.line X.env=pure false:=by rfl)(hf:X.fn x=true\/X.env.scope.names.lookup x=some .local:=by first|exact .inl rfl|exact .inr rfl|assumption)(te:TE)(h:EW X e te):SW X (.Assign [.Name x pos'] e pos) (tAsg te (P2 i)):=⟨GB hN hi hx h.h hs hf⟩
theorem R0 (hs:swapsWithSole [tg] e pos.line X.env=pure false:=by rfl)(hw:swappedStores [tg] e X.env=pure none:=by rfl)(h1:(K5 [tg] X.env).map (·.2)=[assign tg X.env]:=by rfl)(te:TE)(g:TG)(h:EW X e te)(hg:GW X tg g):SW X (.Assign [tg] e pos) (tAsg te g):=⟨ps_asg h.h hg.h hs hw h1⟩
theorem P4 (hs:l6 e none pos.line X.env=pure false:=by rfl)(te:TE)(h:EW X e te):SW X (.Expr e pos) (Gx te):=⟨Oq h.h hs⟩
def qSet (i:Nat)(pe:pE):pS:=λD env n=>pe env n λx jc n1=>D.nx (jc.set i (some (.v x))) n1
theorem G6 (i:Nat)(h:∀z te,EW (F z) e te->SW (F z) st (tAsg te (P2 i)))(he:QE T K F e pe):QS T np K F st (qSet i pe):=by
 obtain⟨t,a1,a2⟩:=he;refine⟨_,λz=>(h z _ ⟨a1 z⟩).h,λC G σ H env n PD D hK hT hn S hp L=>?_⟩;refine a2 C G σ H env n _ _ hK hT S hp λx jc n1 v H1 q1 S1 r1 f1=>?_;exact L.nx _ _ _ _ _ q1 (S1.set i (hK▸r1)) (Ext.fr f1)
def qOwn (i:Nat)(pn:pA):pS:=λD env n=>pn env n λxs jc n1=>D.nx (jc.set i (some (.ow .lst xs))) n1
theorem Hm {a:A0}(h:H a=none):Ext G H ⟨a::G.M,G.pots⟩ (upd H a o):=⟨λb u _ e=>Same.lay1 h b u e,λc hc=>(C3.mp (show c∈a::G.M from hc)).elim (λz=>.inr (z▸h)) .inl,λ_ _ e=>e⟩
theorem BL (i:Nat)(h:∀z te,EW (F z) e te->SW (F z) st (tAsg te (P2 i)))(he:QN T K F e pl):QS T np K F st (qOwn i pl):=by
 obtain⟨t,a1,a2⟩:=he;refine⟨_,λz=>(h z _ ⟨a1 z⟩).h,λC G σ H env n PD D hK hT hn S hp L=>?_⟩;refine a2 C G σ H env n _ _ hK hT S hp λxs jc n1 a vs Hb q1 S1 f1 hn1 r1=>?_;exact L.nx _ _ _ _ _ q1 (S1.own i hn1 (hK▸r1)) ((Ext.fr f1).trans (Hm hn1))
def qAsg (pe:pE)(g:pG):pS:=λD env n=>pe env n λx jc n1=>g x jc λjd=>D.nx jd n1
theorem u3 (h:∀z te g,EW (F z) e te->GW (F z) tg g->SW (F z) st (tAsg te g))(he:QE T K F e pe)(hg:QG K F tg pg):QS T np K F st (qAsg pe pg):=by
 obtain⟨t,a1,a2⟩:=he;obtain⟨g,b1,b2⟩:=hg;refine⟨_,λz=>(h z _ _ ⟨a1 z⟩ ⟨b1 z⟩).h,λC G σ H env n PD D hK hT hn S hp L=>?_⟩;refine a2 C G σ H env n _ _ hK hT S hp λx jc n1 v H1 q1 S1 r1 f1=>?_;exact b2 C G σ H1 jc n1 x v _ _ hK S1 r1 q1 λjh σ' re S'=>L.nx _ _ _ _ _ re S' (Ext.fr f1)
def M5 (pe:pE):pS:=λD env n=>pe env n λ_ jc n1=>D.nx jc n1
theorem P5 (h:∀z te,EW (F z) e te->SW (F z) st (Gx te))(he:QE T K F e pe):QS T np K F st (M5 pe):=by
 obtain⟨t,a1,a2⟩:=he;refine⟨_,λz=>(h z _ ⟨a1 z⟩).h,λC G σ H env n PD D hK hT hn S hp L=>?_⟩;exact a2 C G σ H env n _ _ hK hT S hp λx jc n1 v H1 q1 S1 r1 f1=>L.nx _ _ _ _ _ q1 S1 (Ext.fr f1)
def qRet (pe:pE):pS:=λD env n=>pe env n λx _ n1=>D.rt x n1
theorem D0 (he:QE T K F e pe):QS T np K F (.Return (some e) pos) (qRet pe):=by
 obtain⟨t,a1,a2⟩:=he;refine⟨_,λz=>CO (a1 z),λC G σ H env n PD D hK hT hn S hp L=>?_⟩;exact a2 C G σ H env n _ _ hK hT S hp λx jc n1 v H1 q1 S1 r1 f1=>L.rt _ _ _ _ _ _ _ q1 S1 (S1.out (hK▸r1)) (Ext.fr f1)
def ET (i:Nat):pS:=λD env n=>match env[i]? with|some (some (.ow .lst xs))=>D.rt (.lst xs) n|_=>False
theorem P_ (i:Nat)(h:∀z,EW (F z) (.Name x p) (tVar i)):QS T np K F (.Return (some (.Name x p)) pos) (ET i):=by
 refine⟨_,λz=>CO (h z).h,λC G σ H env n PD D hK hT hn S hp L=>?_⟩;unfold ET at hp
 split at hp
 ·rename_i xs ex;obtain⟨a,vs,ev,h1,h2,h3,h4,r⟩:=S.slots i _ ex;refine⟨.ref a,ev,L.rt _ _ _ _ _ _ _ hp S ⟨a,vs,rfl,⟨h2,h4⟩,?_⟩ Ext.refl⟩;exact Reps.mono (G':=⟨C.M0,G.pots⟩) (λ_ _ _ e=>e) (λa ha=>.inl (S.sup a ha)) (λ_ _ e=>e) _ _ r
 ·exact hp.elim
def qIfS (t:pT)(p q:pS):pS:=λD env n=>t env n λb jc n1=>if b=true then p D jc n1 else q D jc n1
theorem E4 (hc:QT T K F c pt)(h1:QSs T np K F x p1)(h2:QSs T np K F y p2):QS T np K F (.If c x y pos) (qIfS pt p1 p2):=by
 obtain⟨tc,c1,c2⟩:=hc;obtain⟨t,a1,a2⟩:=h1;obtain⟨u,b1,b2⟩:=h2;refine⟨_,λz=>Gy (c1 z) (a1 z) (b1 z),λC G σ H env n PD D hK hT hn S hp L=>?_⟩;refine c2 C G σ H env n _ _ hK hT S hp λd jc n1 H1 q1 S1 f1=>?_;cases d with
 |true=>exact a2 C G σ H1 jc n1 PD D hK hT hn S1 q1 (L.ext (Ext.fr f1))
 |false=>exact b2 C G σ H1 jc n1 PD D hK hT hn S1 q1 (L.ext (Ext.fr f1))
def forL (g:pG)(b:pS)(D:AM):List PV->Env->Nat->Prop
 |[],env,n=>D.nx env n
 |x::xs,env,n=>g x env λjc=>b { D with nx:=λe m=>forL g b D xs e m,ct:=λe m=>forL g b D xs e m,bk:=D.nx } jc n
def qFor (pi:pA)(g:pG)(b:pS):pS:=λD env n=>pi env n λxs jc n1=>forL g b D xs jc n1
theorem Q2 (hc:∀z,(F z).calm=true)(hi:QI T K F tg iter pl)(hg:QG K F tg pg)(hb:QSs T np K F body p1)(hp:∀z,PassesOwn (A8 (F z).prog (F z).w) (F z).A (F z).env (F z).xe:=by intro _;exact PassesOwn.never)(hs:∀z x,U1 iter (F z).env x=pure x:=by intro _ _;rfl):QS T np K F (.For tg iter body [] pos) (qFor pl pg p1):=by
 obtain⟨wi,i1,i2⟩:=hi;obtain⟨g,g1,g2⟩:=hg;obtain⟨t,b1,b2⟩:=hb;refine⟨_,λz=>ps_for (hp z) (hc z) (i1 z) (g1 z) (b1 z) (hs z),λC G σ H env n PD D hK hT hn S hp L=>?_⟩;refine i2 C G σ H env n _ _ hK hT S hp λxs jc n1 J H1 q1 S1 f1 hJ=>?_;have L1:=L.ext (Ext.fr f1);refine⟨λi m σ H=>m=xs.length-i/\i<=xs.length/\∃G' env n,SR C G' σ H env n/\Ext G H1 G' H/\forL pg p1 PD (xs.drop i) env n,⟨xs.length,by simp,K4 _,G,jc,n1,S1,Ext.refl,by simpa using q1⟩,?_⟩;rintro i m σ' H' ⟨rfl,hi,G',jh,n',S',x',q'⟩;have hf:∀p,H' p=none->p∉G'.M:=λp hp=>S'.fresh hp;obtain⟨hgo,hstop⟩:=hJ G' H' x'.keep x'.new x'.pot hf
 by_cases hlt:i<xs.length
 ·obtain⟨go1,go2⟩:=hgo i _ (D4 hlt);rw[An hlt] at q';refine .inr ⟨go1,λσ H=>∃G' env n,SR C G' σ H env n/\Ext G H1 G' H/\forL pg p1 PD (xs.drop (i+1)) env n,λσ2 H2 h2=>⟨xs.length-(i+1),by omega,rfl,hlt,h2⟩,λv H2 y=>?_⟩;obtain⟨s2,rv⟩:=go2 v H2 y;have x2:Ext G' H' G' H2:=Ext.fr (Fr.of s2);refine g2 C G' σ' H2 jh n' _ v _ _ hK (S'.same s2) rv q' λjd σ2 q2 S2=>?_;refine b2 C G' σ2 H2 jd n' _ _ hK hT hn S2 q2 ⟨λe3 n3 G3 σ3 H3 q3 S3 x3=>?_,λy n3 v G3 σ3 H3 e3 q3 S3 r3 x3=>?_,λe3 n3 G3 σ3 H3 q3 S3 x3=>?_,λe3 n3 G3 σ3 H3 q3 S3 x3=>?_⟩
  ·exact⟨G3,e3,n3,S3,(x'.trans x2).trans x3,q3⟩
  ·exact L1.rt _ _ _ _ _ _ _ q3 S3 r3 ((x'.trans x2).trans x3)
  ·exact L1.nx _ _ _ _ _ q3 S3 ((x'.trans x2).trans x3)
  ·exact⟨G3,e3,n3,S3,(x'.trans x2).trans x3,q3⟩
 ·have ei:i=xs.length:=by omega
  subst ei;rw[Ef] at q';exact .inl ⟨hstop _ (B8 _),L1.nx _ _ _ _ _ q' S' x'⟩
def u4 (t:pT)(b:pS)(D:AM):Nat->Env->Nat->Prop
 |0,_,_=>False
 |k+1,env,n=>t env n λc jc n1=>if c=true then b { D with nx:=λe m=>u4 t b D k e m,ct:=λe m=>u4 t b D k e m,bk:=D.nx } jc n1 else D.nx jc n1
def Ks (t:pT)(b:pS):pS:=λD env n=>∃k,u4 t b D k env n
theorem Qa (hc:QT T K F c pt)(hb:QSs T np K F body p1)(hp:∀z,PassesOwn (A8 (F z).prog (F z).w) (F z).A (F z).env (F z).xe:=by intro _;exact PassesOwn.never):QS T np K F (.While c body [] pos) (Ks pt p1):=by
 obtain⟨tc,c1,c2⟩:=hc;obtain⟨t,b1,b2⟩:=hb;refine⟨_,λz=>Ot (hp z) (c1 z) (b1 z),λC G σ H env n PD D hK hT hn S hp L=>?_⟩;obtain⟨k,hp⟩:=hp;refine⟨λm σ H'=>∃G' env n,SR C G' σ H' env n/\Ext G H G' H'/\u4 pt p1 PD m env n,⟨k,G,env,n,S,Ext.refl,hp⟩,?_⟩;rintro m σ1 H1 ⟨G1,jc,n1,S1,x1,q1⟩;cases m with
 |zero=>exact q1.elim
 | succ m =>
  refine c2 C G1 σ1 H1 jc n1 _ _ hK hT S1 q1 λd jd n2 H2 q2 S2 f2=>?_;have x2:=x1.trans (Ext.fr f2);cases d with
  |false=>exact iteF (L.nx _ _ _ _ _ q2 S2 x2)
  | true =>
   refine iteT ⟨λσ H'=>∃G' env n,SR C G' σ H' env n/\Ext G H G' H'/\u4 pt p1 PD m env n,λσ' H' h=>⟨m,by omega,h⟩,?_⟩;exact b2 C G1 σ1 H2 jd n2 _ _ hK hT hn S2 q2 ⟨λe3 n3 G3 σ3 H3 q3 S3 x3=>⟨G3,e3,n3,S3,x2.trans x3,q3⟩,λy n3 v G3 σ3 H3 e3 q3 S3 r3 x3=>L.rt _ _ _ _ _ _ _ q3 S3 r3 (x2.trans x3),λe3 n3 G3 σ3 H3 q3 S3 x3=>L.nx _ _ _ _ _ q3 S3 (x2.trans x3),λe3 n3 G3 σ3 H3 q3 S3 x3=>⟨G3,e3,n3,S3,x2.trans x3,q3⟩⟩
def Hn (i:Nat)(pe:pE):pE:=λenv n R=>pe env n λy jc n1=>match jc[i]? with|some (some (.ow .lst xs))=>xs.length<1000000/\R .non (jc.set i (some (.ow .lst (xs++[y])))) n1|_=>False
theorem V0 (i:Nat)(hv:∀z,EW (F z) (.Name x p) (tVar i))(he:QE T K F e pe)(hs:F7 e=true:=by rfl)(hbase:∀z,l5 (.Name x p) "append" (F z).env (eval (.Name x p) (F z).env)=eval (.Name x p) (F z).env:=by intro _;rfl)(hline:(ap.endLine == pos.line)=true:=by rfl)
   (hfew:∀z,((backTo pos (E6 [e] (F z).env)).all (λx=>!x.1)&&(b9 pos (b7 [] (F z).env)).all (λx=>x.1.isSome)&&decide (([e]:List Expr).length+([]:List T0).length+(if([]:List T0).isEmpty then 0 else 1)<30))=true:=by intro _;rfl) (hK:∀z,(F z).K=K:=by intro _;rfl):QE T K F (.Call (.Attribute (.Name x p) "append" ap) [e] [] pos) (λenv n R=>(∃xs,env[i]?=some (some (.ow .lst xs)))/\Hn i pe env n R):=by
 obtain⟨t,a1,a2⟩:=he;refine⟨tBM K "list" JR (tVar i) (V8 t tNil),λz=>hK z▸BG Bu PySem.F.slot_list_append PySem.F.type_list_append JS (hv z).h (G4 (a1 z) K3 (D7 hs)) (hbase z) (hfew z) hline (D7 hs),λC G σ H env n R Q hK hT S hp k=>?_⟩;obtain⟨⟨xs0,e0⟩,hp⟩:=hp;obtain⟨a,vs,ev,h1,h2,h3,h4,r⟩:=S.slots i _ e0;refine⟨.ref a,ev,.inl ⟨rfl,vs,SqL.of h4⟩,?_⟩;refine a2 C G σ H env n _ _ hK hT S hp λy jc n1 v H1 q1 S1 r1 f1=>?_
 split at q1
 ·rename_i xs ex;obtain⟨a',us,ev',g1,g2,g3,g4,r'⟩:=S1.slots i _ ex;rw[ev] at ev';cases ev';subst hK;obtain⟨S2,f2⟩:=S1.put ex ev (r'.append (.one r1));exact⟨a,us,v,rfl,rfl,g4,by rw[<- r'.length];exact mil' (by omega),k _ _ _ _ _ q1.2 S2 rfl (f1.trans f2)⟩
 ·exact q1.elim
def qPop (i:Nat):pE:=λenv n R=>match env[i]? with|some (some (.ow .lst xs))=>(match xs[xs.length-1]? with|some y=>R y (env.set i (some (.ow .lst xs.dropLast))) n|none=>False)|_=>False
theorem Qb (r:Reps K G H xs vs):Reps K G H xs.dropLast vs.dropLast:=by
 rw[List.dropLast_eq_take,List.dropLast_eq_take,<- r.length];exact r.take _
theorem Ho (i:Nat)(hv:∀z,EW (F z) (.Name x p) (tVar i))(hbase:∀z,l5 (.Name x p) "pop" (F z).env (eval (.Name x p) (F z).env)=eval (.Name x p) (F z).env:=by intro _;rfl)(hline:(ap.endLine == pos.line)=true:=by rfl)(hK:∀z,(F z).K=K:=by intro _;rfl):QE T K F (.Call (.Attribute (.Name x p) "pop" ap) [] [] pos) (qPop i):=by
 refine⟨tBM0 K "list" rPop (tVar i),λz=>hK z▸pe_bm0 Bu PySem.F.slot_list_pop PySem.F.type_list_pop mt_pop (hv z).h (hbase z) hline,λC G σ H env n R Q hK hT S hp k=>?_⟩;unfold qPop at hp
 split at hp
 ·rename_i xs ex
  split at hp
  ·rename_i y ey;obtain⟨a,vs,ev,h1,h2,h3,h4,r⟩:=S.slots i _ ex;obtain⟨v,e1,rv⟩:=r.get' ey;obtain⟨S2,f2⟩:=S.put ex ev (Qb r);subst hK;exact⟨.ref a,ev,.inl ⟨rfl,vs,SqL.of h4⟩,a,vs,v,rfl,rfl,h4,by rw[<- r.length];exact e1,k _ _ _ _ _ hp S2 (rv.fr f2) f2⟩
  ·exact hp.elim
 ·exact hp.elim
def Hq (i:Nat)(pe:pE):pE:=λenv n R=>pe env n λy jc n1=>match jc[i]?,y with|some (some (.ow .lst xs)),.int d=>xs.length<=1000000/\(match ixN xs.length d with|some j=>(match xs[j]? with|some z=>R z (jc.set i (some (.ow .lst (xs.eraseIdx j)))) n1|none=>False)|none=>False)|_,_=>False
theorem Kt (i:Nat)(hv:∀z,EW (F z) (.Name x p) (tVar i))(he:QE T K F e pe)(hs:F7 e=true:=by rfl)(hbase:∀z,l5 (.Name x p) "pop" (F z).env (eval (.Name x p) (F z).env)=eval (.Name x p) (F z).env:=by intro _;rfl)(hline:(ap.endLine == pos.line)=true:=by rfl)
   (hfew:∀z,((backTo pos (E6 [e] (F z).env)).all (λx=>!x.1)&&(b9 pos (b7 [] (F z).env)).all (λx=>x.1.isSome)&&decide (([e]:List Expr).length+([]:List T0).length+(if([]:List T0).isEmpty then 0 else 1)<30))=true:=by intro _;rfl) (hK:∀z,(F z).K=K:=by intro _;rfl) :
   QE T K F (.Call (.Attribute (.Name x p) "pop" ap) [e] [] pos) (λenv n R=>(∃xs,env[i]?=some (some (.ow .lst xs)))/\Hq i pe env n R):=by
 obtain⟨t,a1,a2⟩:=he;refine⟨tBM K "list" JT (tVar i) (V8 t tNil),λz=>hK z▸BG Bu PySem.F.slot_list_pop PySem.F.type_list_pop Pi (hv z).h (G4 (a1 z) K3 (D7 hs)) (hbase z) (hfew z) hline (D7 hs),λC G σ H env n R Q hK hT S hp k=>?_⟩;obtain⟨⟨xs0,e0⟩,hp⟩:=hp;obtain⟨a,vs,ev,h1,h2,h3,h4,r⟩:=S.slots i _ e0;refine⟨.ref a,ev,.inl ⟨rfl,vs,SqL.of h4⟩,?_⟩;refine a2 C G σ H env n _ _ hK hT S hp λy jc n1 v H1 q1 S1 r1 f1=>?_
 split at q1
 ·rename_i xs d ex;obtain⟨hlen,q1⟩:=q1
  split at q1
  ·rename_i j ej
   split at q1
   ·rename_i z ez;obtain⟨a',us,ev',g1,g2,g3,g4,r'⟩:=S1.slots i _ ex;rw[ev] at ev';cases ev';subst hK;obtain⟨S2,f2⟩:=S1.put ex ev (r'.eraseIdx j);obtain⟨w,e1,rw'⟩:=r'.get' ez;obtain⟨q1',q2',q3',q4'⟩:=GK ej;refine⟨a,us,d,j,w,rfl,by rw[show v=.int d from r1],g4,?_,?_,by rw[<- r'.length];exact q1',e1,k _ _ _ _ _ q1 S2 (rw'.fr f2) (f1.trans f2)⟩
    ·omega
    ·omega
   ·exact q1.elim
  ·exact q1.elim
 ·exact q1.elim
end
end Pu
end
section
namespace Pu
open PySem PySem.Spec L2
abbrev pSl:=Env->Nat->(Slot->Env->Nat->Prop)->Prop
def Dj (σ:St)(env:Env)(a:A0):Prop:=∃(j:Nat) (ys:OK×List PV),env[j]?=some (some (.ow ys.1 ys.2))/\σ[j]?=some (some (.ref a))
theorem SR.slot (S:SR C G σ H env n)(i:Nat)(r:CZ C G H (some (some v)) s)(h:∀(xs:OK×List PV) a,s=.ow xs.1 xs.2->v=.ref a->¬Dj σ env a):SR C G (σ.set i (some v)) H (env.set i (some s)) n where
 frame:=S.frame
 sub:=S.sub
 sup:=S.sup
 pots:=S.pots
 pre:=S.pre
 mu:=S.mu
 slots j t e:=by
  by_cases hj:i=j
  ·subst hj
   by_cases hl:i<env.length
   ·rw[P8 hl] at e;cases e;rw[P8 (by rw[<- S.len];exact hl)];exact r
   ·rw[Y4 (by rw[L4];omega)] at e;cases e
  ·rw[Q7 hj] at e ⊢;exact S.slots j t e
 inj j k xs ys b e1 e2 e3 e4:=by
  by_cases hj:i=j
  ·by_cases hk:i=k
   ·omega
   ·subst hj;rw[Q7 hk] at e2 e4
    by_cases hl:i<env.length
    ·rw[P8 hl] at e1;rw[P8 (by rw[<- S.len];exact hl)] at e3;cases e1;cases e3;exact absurd ⟨k,ys,e2,e4⟩ (h xs b rfl rfl)
    ·rw[Y4 (by rw[L4];omega)] at e1;cases e1
  ·rw[Q7 hj] at e1 e3
   by_cases hk:i=k
   ·subst hk
    by_cases hl:i<env.length
    ·rw[P8 hl] at e2;rw[P8 (by rw[<- S.len];exact hl)] at e4;cases e2;cases e4;exact absurd ⟨j,xs,e1,e3⟩ (h ys b rfl rfl)
    ·rw[Y4 (by rw[L4];omega)] at e2;cases e2
   ·rw[Q7 hk] at e2 e4;exact S.inj j k xs ys b e1 e2 e3 e4
 p0:=S.p0
 len:=by rw[L4,L4];exact S.len
 newp:=S.newp
def Ct.guard (C:Ct)(a:A0)(vs:List V):Ct:={ C with M0:=a::C.M0,H0:=upd C.H0 a (.lst vs) }
theorem SR.guard (S:SR C G σ H env n)(vs:List V)(h:H a=none):SR (C.guard a vs) ⟨a::G.M,G.pots⟩ σ (upd H a (.lst vs)) env n:=by
 have S1:=S.more (vs:=vs) h;have aM:=S.fresh h
 exact {
  frame:=λb o hb e=>by
   by_cases hba:b=a
   ·subst hba;have e':upd C.H0 b (.lst vs) b=some o:=e;rw[D9] at e' ⊢;exact e'
   ·have e':upd C.H0 a (.lst vs) b=some o:=e;rw[C4 hba] at e';exact S1.frame b o hb e'
  sub:=fun b hb=>by
   by_cases hba:b=a
   ·exact .inl (by rw[hba];exact C8)
   ·rcases S1.sub b hb with z|z
    ·exact .inl (C5 _ z)
    ·refine .inr ?_;show upd C.H0 a (.lst vs) b=none;rw[C4 hba];exact z
  sup:=λb hb=>by
   rcases C3.mp (show b∈a::C.M0 from hb) with rfl|z
   ·exact C8
   ·exact S1.sup b z
  pots:=S1.pots
  pre:=S1.pre
  mu:=S1.mu
  slots:=λi s e=>by
   cases s with
   | v x =>
    obtain⟨v,ev,r⟩:=S1.slots i _ e;exact⟨v,ev,r⟩
   | ow kk xs =>
    obtain⟨b,us,ev,h1,h2,h3,h4,r⟩:=S1.slots i _ e;obtain⟨b',us',ev',g1,_⟩:=S.slots i _ e;rw[ev] at ev';cases ev';refine⟨b,us,ev,h1,λz=>?_,h3,h4,r⟩;rcases C3.mp (show b∈a::C.M0 from z) with rfl|z
    ·exact aM g1
    ·exact h2 z
  inj:=S1.inj
  p0:=⟨λp hp=>C5 _ (S1.p0.1 p hp),S1.p0.2⟩
  len:=S1.len
  newp:=λp hp hn hM=>by
   rcases C3.mp (show p∈a::C.M0 from hM) with rfl|z
   ·exact aM (S.pots p hp).1
   ·exact S1.newp p hp hn z }
theorem SR.unguard (S:SR (C.guard a vs) G σ H env n)(ha:a∉C.M0)(hp0:∀p∈C.pots0,p∈C.M0)(h0:C.H0 a=none):SR C G σ H env n/\H a=some (.lst vs)/\¬Dj σ env a:=by
 have hap:a∉C.pots0:=λz=>ha (hp0 a z)
 refine⟨{
  frame:=λb o hb e=>S.frame b o hb (by
   show upd C.H0 a (.lst vs) b=some o
   rw[C4 (λz=>by rw[z,h0] at e;cases e)];exact e)
  sub:=fun b hb=>by
   by_cases hba:b=a
   ·exact .inr (hba▸h0)
   ·rcases S.sub b hb with z|z
    ·rcases C3.mp (show b∈a::C.M0 from z) with z|z
     ·exact absurd z hba
     ·exact .inl z
    ·have z':upd C.H0 a (.lst vs) b=none:=z;rw[C4 hba] at z';exact .inr z'
  sup:=λb hb=>S.sup b (C5 _ hb)
  pots:=S.pots
  pre:=S.pre
  mu:=S.mu
  slots:=λi s e=>by
   cases s with
   | v x =>
    obtain⟨v,ev,r⟩:=S.slots i _ e;exact⟨v,ev,r⟩
   | ow kk xs =>
    obtain⟨b,us,ev,h1,h2,h3,h4,r⟩:=S.slots i _ e;exact⟨b,us,ev,h1,λz=>h2 (C5 _ z),h3,h4,r⟩
  inj:=S.inj
  p0:=⟨hp0,S.p0.2⟩
  len:=S.len
  newp:=λp hp hn hM=>S.newp p hp hn (C5 _ hM) },S.frame a _ hap D9,?_⟩
 rintro⟨j,ys,e1,e2⟩;obtain⟨b,us,ev,h1,h2,_⟩:=S.slots j _ e1;rw[e2] at ev;cases ev;exact h2 C8
def LOk (K:A9)(T:PotK)(t:TE)(pl:pSl):Prop:=∀(C:Ct) (G:Gh) (σ:St) (H:Hp) (env:Env) (n:Nat) (R:Slot->Env->Nat->Prop) (Q:VK),C.K=K->C.T=T->SR C G σ H env n->pl env n R->
 (∀x jh n' v H',R (.v x) jh n'->SR C G σ H' jh n'->Rep K G H' x v->Fr G H H'->Q v H')->
 (∀xs jh n' a vs Hb,R (.ow .lst xs) jh n'->SR C G σ Hb jh n'->Fr G H Hb->Hb a=none->Reps K G Hb xs vs->Q (.ref a) (upd Hb a (.lst vs)))->t σ H Q
def QL {ι:Type}(T:PotK)(K:A9)(F:ι->Cx)(e:Expr)(pl:pSl):Prop:=∃t,(∀z,PE (F z) e t)/\LOk K T t pl
def sV (pe:pE):pSl:=λenv n R=>pe env n λx jc n1=>R (.v x) jc n1
def sO (pn:pA):pSl:=λenv n R=>pn env n λxs jc n1=>R (.ow .lst xs) jc n1
section
variable {T:PotK}{np:Bool}{ι:Type}{K:A9}{F:ι->Cx}{e a b c:Expr}{es:List Expr}{st:Stmt}{rest:List Stmt}{pe pa pb pc:pE}{pos:Pos}{pl pr:pA}{pg:pG}{pt:pT}{p1 p2:pS}{s1 s2 s3:pSl}
theorem ql_v (h:QE T K F e pe):QL T K F e (sV pe):=let ⟨t,h1,h2⟩:=h;⟨t,h1,λC G σ H env n R Q hK hT S hp k _=>h2 C G σ H env n _ _ hK hT S hp λx jh n' v H' r S' rp f=>k x jh n' v H' r S' rp f⟩
theorem ql_o (h:QN T K F e pl):QL T K F e (sO pl):=let ⟨t,h1,h2⟩:=h;⟨t,h1,λC G σ H env n R Q hK hT S hp _ k=>h2 C G σ H env n _ _ hK hT S hp λxs jh n' a vs Hb r S' f hn rs=>k xs jh n' a vs Hb r S' f hn rs⟩
def Got (C:Ct)(G:Gh)(H:Hp)(σ:St)(env:Env)(s:Slot)(v:V):Prop:=CZ C G H (some (some v)) s/\∀(xs:OK×List PV) a,s=.ow xs.1 xs.2->v=.ref a->¬Dj σ env a
theorem Ku (h:LOk K T t s1)(hK:C.K=K)(hT:C.T=T)(S:SR C G σ H env n)(hp:s1 env n R)
   (k:∀s jh n' v G' H',R s jh n'->SR C G' σ H' jh n'->Ext G H G' H'->Got C G' H' σ jh s v->Q v H'):t σ H Q:=by
 refine h C G σ H env n _ _ hK hT S hp (λx jh n' v H' r S' rp f=>?_) λxs jh n' a vs Hb r S' f hn rs=>?_
 ·exact k _ _ _ _ _ _ r S' (Ext.fr f) ⟨⟨v,rfl,hK▸rp⟩,λ_ _ z=>nomatch z⟩
 ·have aM:=S'.fresh hn;have S1:=S'.more (vs:=vs) hn;refine k _ _ _ _ _ _ r S1 ((Ext.fr f).trans (Hm hn)) ⟨⟨a,vs,rfl,C8,λz=>aM (S'.sup a z),λz=>aM (S'.pots a z).1,D9,?_⟩,λys b e1 e2=>?_⟩
  ·exact Reps.mono (G':=⟨a::G.M,G.pots⟩) (H':=upd Hb a (.lst vs)) (λb o _ e=>Same.lay1 hn b o e) (λc hc=>(C3.mp (show c∈a::G.M from hc)).elim (λz=>.inr (z▸hn)) .inl) (λ_ _ e=>e) _ _ (hK▸rs)
  ·cases e2;rintro⟨j,zs,z1,z2⟩;obtain⟨b,us,ev,g1,_⟩:=S'.slots j _ z1;rw[z2] at ev;cases ev;exact aM g1
theorem Kv {R:Slot->Slot->Env->Nat->Prop}{Q:V->V->Hp->Prop}(h:LOk K T t s1)(h':LOk K T u s2)(hK:C.K=K)(hT:C.T=T)(S:SR C G σ H env n)(hp:s1 env n λx jc n1=>s2 jc n1 λy jd n2=>R x y jd n2)
   (k:∀x y jh n' v w G' H',R x y jh n'->SR C G' σ H' jh n'->Ext G H G' H'->Got C G' H' σ jh x v->Got C G' H' σ jh y w->(∀(xs ys:OK×List PV) a,x=.ow xs.1 xs.2->y=.ow ys.1 ys.2->v=.ref a->w≠.ref a)->Q v w H'):t σ H λv H1=>u σ H1 λw H2=>Q v w H2:=by
 refine h C G σ H env n _ _ hK hT S hp (λx jc n1 v H1 q1 S1 r1 f1=>?_) λxs jc n1 a vs Hb q1 S1 f1 hn rs=>?_
 ·refine Ku h' hK hT S1 q1 λy jd n2 w G2 H2 q2 S2 x2 g2=>?_;exact k _ _ _ _ _ _ _ _ q2 S2 ((Ext.fr f1).trans x2) ⟨⟨v,rfl,Rep.mono x2.keep x2.new x2.pot _ _ (hK▸r1)⟩,λ_ _ z=>nomatch z⟩ g2 (λ_ _ _ z=>nomatch z)
 ·have aM:=S1.fresh hn;have Qc:=S1.guard vs hn;have a0:a∉C.M0:=λz=>aM (S1.sup a z);have aH:=S1.old hn;have x1:Ext G H ⟨a::G.M,G.pots⟩ (upd Hb a (.lst vs)):=(Ext.fr f1).trans (Hm hn);have r1:Reps C.K ⟨a::G.M,G.pots⟩ (upd Hb a (.lst vs)) xs vs:=Reps.mono (G':=⟨a::G.M,G.pots⟩) (H':=upd Hb a (.lst vs)) (λb o _ e=>Same.lay1 hn b o e) (λc hc=>(C3.mp (show c∈a::G.M from hc)).elim (λz=>.inr (z▸hn)) .inl) (λ_ _ e=>e) _ _ (hK▸rs);refine Ku (C:=C.guard a vs) h' hK hT Qc q1 λy jd n2 w G2 H2 q2 S2 x2 g2=>?_;obtain⟨S3,e3,no⟩:=S2.unguard a0 S1.p0.1 aH;have aM2:a∈G2.M:=S2.sup a C8
  have ap2:a∉G2.pots:=λz=>by
   by_cases hz:a∈C.pots0
   ·exact a0 (S1.p0.1 a hz)
   ·exact S2.newp a z hz C8
  have gy:Got C G2 H2 σ jd y w:=by
   refine⟨?_,g2.2⟩;cases y with
   |v x=>exact g2.1
   | ow kk ys =>
    obtain⟨b,us,ev,h1,h2,h3,h4,r⟩:=g2.1;exact⟨b,us,ev,h1,λz=>h2 (C5 _ z),h3,h4,r⟩
  refine k _ _ _ _ _ _ _ _ q2 S3 (x1.trans x2) ⟨⟨a,vs,rfl,aM2,a0,ap2,e3,Reps.mono x2.keep x2.new x2.pot _ _ r1⟩,λ_ _ _ e=>by cases e;exact no⟩ gy λxs' ys b ex ey ev ew=>?_;subst ey;cases ev;obtain⟨b,us,ev,h1,h2,_⟩:=g2.1;rw[ew] at ev;cases ev;exact h2 C8
structure AW (X:Cx)(es:List Expr)(t:TA):Prop where
 h:PA X es t
theorem j3 {X:Cx}{i j:Nat}{x y:Str}{a b:Expr}{px py pt:Pos}{kt k2 pt2}{pos:Pos}(hc:X.calm=true)(hN:X.N.Nodup)(hi:X.N[i]?=some x)(hj:X.N[j]?=some y)(hij:i≠j)
   (hx:X.env.scope.names.lookup x=some .local) (hy:X.env.scope.names.lookup y=some .local) (hw:swappedStores [.Tuple [.Name x px,.Name y py] kt pt] (.Tuple [a,b] k2 pt2) X.env=pure (some [x,y]))
   (hs:swapsWithSole [.Tuple [.Name x px,.Name y py] kt pt] (.Tuple [a,b] k2 pt2) pos.line X.env=pure false:=by rfl) (ta:TA) (h:AW X [a,b] ta) :
   SW X (.Assign [.Tuple [.Name x px,.Name y py] kt pt] (.Tuple [a,b] k2 pt2) pos) (tPar i j ta):=⟨ps_par hc hN hi hj hij hx hy h.h hw hs⟩
def qPar (i j:Nat)(s1 s2:pSl):pS:=λD env n=>s1 env n λa jc n1=>s2 jc n1 λb jd n2=>D.nx ((jd.set i (some a)).set j (some b)) n2
theorem Hr {a:A0}(hl:env.length=σ.length)(h:Dj (σ.set i (some v)) (env.set i (some s)) a):Dj σ env a\/((∃xs:OK×List PV,s=.ow xs.1 xs.2)/\v=.ref a):=by
 obtain⟨j,ys,e1,e2⟩:=h
 by_cases hj:i=j
 ·subst hj
  by_cases hl':i<env.length
  ·rw[P8 hl'] at e1;rw[P8 (by omega)] at e2;cases e1;cases e2;exact .inr ⟨⟨_,rfl⟩,rfl⟩
  ·rw[Y4 (by rw[L4];omega)] at e1;cases e1
 ·rw[Q7 hj] at e1 e2;exact .inl ⟨j,ys,e1,e2⟩
theorem j6 (i j:Nat)(h:∀z ta,AW (F z) [a,b] ta->SW (F z) st (tPar i j ta))(h1:QL T K F a s1)(h2:QL T K F b s2)(n1:F7 a=true:=by rfl)(n2:F7 b=true:=by rfl):QS T np K F st (qPar i j s1 s2):=by
 obtain⟨t,a1,a2⟩:=h1;obtain⟨u,b1,b2⟩:=h2;refine⟨_,λz=>(h z _ ⟨G4 (a1 z) (G4 (b1 z) K3 (D7 n2)) (D7 n1)⟩).h,λC G σ H env n PD D hK hT hn S hp L=>?_⟩;refine Kv (Q:=λv w H2=>∃v' w',[v,w]=[v',w']/\D.nx ((σ.set i (some v')).set j (some w')) H2) a2 b2 hK hT S hp λx y jd n2 v w G2 H2 q S2 x2 gx gy ne=>?_;refine⟨v,w,rfl,L.nx _ _ _ _ _ q ((S2.slot i gx.1 gx.2).slot j gy.1 λys b e1 e2 z=>?_) x2⟩;rcases Hr S2.len z with z|⟨⟨xs,ex⟩,ev⟩
 ·exact gy.2 ys b e1 e2 z
 ·exact ne xs ys b ex e1 ev e2
theorem j7 (ho:EW X o (tVar i))(ha:∀v,assign (.Subscript o ix pos) X.env v=(do
     let ov ← X2 [v] (eval o X.env)
     let iv ← X2 [v,ov] (eval ix X.env)
     standAt pos
     X2 [v,ov,iv] (setItem ov iv v)
     release [v,ov,iv] []):=by intro _;rfl) (ti:TE) (hi:EW X ix ti):GW X (.Subscript o ix pos) (gSub (tVar i) ti CU):=⟨pg_sub ho.h hi.h Pa ha⟩
def gAt (i:Nat)(pe:pE):PV->Env->Nat->(Env->Nat->Prop)->Prop:=λx env n R=>pe env n λy jc n1=>match jc[i]?,y with|some (some (.ow .lst xs)),.int d=>(match ixN xs.length d with|some j=>R (jc.set i (some (.ow .lst (xs.set j x)))) n1|none=>False)|_,_=>False
def qPut (i:Nat)(pv:pE)(pe:pE):pS:=λD env n=>pv env n λx jc n1=>(∃xs,jc[i]?=some (some (.ow .lst xs)))/\gAt i pe x jc n1 D.nx
theorem BM (i:Nat){pv:pE}(h:∀z te g,EW (F z) v te->GW (F z) (.Subscript o ix pos) g->SW (F z) st (tAsg te g))(hv:QE T K F v pv)(hg:∀z ti,EW (F z) ix ti->GW (F z) (.Subscript o ix pos) (gSub (tVar i) ti CU))(he:QE T K F ix pe):QS T np K F st (qPut i pv pe):=by
 obtain⟨tv,v1,v2⟩:=hv;obtain⟨ti,i1,i2⟩:=he;refine⟨_,λz=>(h z _ _ ⟨v1 z⟩ (hg z _ ⟨i1 z⟩)).h,λC G σ H env n PD D hK hT hn S hp L=>?_⟩;refine v2 C G σ H env n _ _ hK hT S hp λx jc n1 v H1 q1 S1 r1 f1=>?_;obtain⟨⟨xs0,e0⟩,q1⟩:=q1;obtain⟨a,vs,ev,h1,h2,h3,h4,r⟩:=S1.slots i _ e0;refine⟨.ref a,ev,?_⟩;refine i2 C G σ H1 jc n1 _ _ hK hT S1 q1 λy jd n2 w H2 q2 S2 r2 f2=>?_
 split at q2
 ·rename_i xs d ex
  split at q2
  ·rename_i j ej;obtain⟨a',us,ev',g1,g2,g3,g4,r'⟩:=S2.slots i _ ex;rw[ev] at ev';cases ev';subst hK;obtain⟨S3,f3⟩:=S2.put ex ev (r'.set j (r1.fr f2));exact⟨a,us,d,j,rfl,r2,g4,by rw[<- r'.length];exact ej,L.nx _ _ _ _ _ q2 S3 (Ext.fr ((f1.trans f2).trans f3))⟩
  ·exact q2.elim
 ·exact q2.elim
def EU (i:Nat)(env:Env):Env:=match env[i]? with|some (some (.ow .lst xs))=>env.set i (some (.v (.lst xs)))|_=>env
theorem SR.freeze (S:SR C G σ H env n)(i:Nat):∃G',SR C G' σ H (EU i env) n/\Ext G H G' H:=by
 unfold EU
 split
 ·rename_i xs ex;obtain⟨a,vs,ev,h1,h2,h3,h4,r⟩:=S.slots i _ ex
  let G':Gh:=⟨G.M.filter (·≠a),G.pots⟩
  have sub:∀b∈G'.M,b∈G.M:=λb hb=>(Q8.mp hb).1;have mm:∀{x:PV} {v:V},Rep C.K G H x v->Rep C.K G' H x v:=λr=>Rep.mono (G':=G') (λ_ _ _ e=>e) (λb hb=>.inl (sub b hb)) (λ_ _ e=>e) _ _ r;have mms:∀{x:List PV} {v:List V},Reps C.K G H x v->Reps C.K G' H x v:=λr=>Reps.mono (G':=G') (λ_ _ _ e=>e) (λb hb=>.inl (sub b hb)) (λ_ _ e=>e) _ _ r
  refine⟨G',{
   frame:=S.frame
   sub:=λb hb=>S.sub b (sub b hb)
   sup:=λb hb=>Q8.mpr ⟨S.sup b hb,jp (show b≠a from λz=>h2 (by grind))⟩
   pots:=λp hp=>⟨Q8.mpr ⟨(S.pots p hp).1,jp (show p≠a from λz=>h3 (by grind))⟩,C.T.more (S.pots p hp).2 λb hb=>.inl (sub b hb)⟩
   pre:=S.pre
   mu:=λb hb=>S.mu b (sub b hb)
   slots:=λj s es=>?_
   inj:=λj k xs' ys b e1 e2 e3 e4=>?_
   p0:=S.p0
   len:=by rw[L4];exact S.len
   newp:=S.newp },⟨λ_ _ _ e=>e,λb hb=>.inl (sub b hb),λ_ _ e=>e⟩⟩
  ·by_cases hj:i=j
   ·subst hj;rw[P8 (J5.mp ex).1] at es;cases es;exact⟨.ref a,ev,a,vs,rfl,⟨λz=>by simpa using(Q8.mp z).2,h4⟩,mms r⟩
   ·rw[Q7 hj] at es;have:=S.slots j s es;cases s with
    | v x =>
     obtain⟨v,e1,r⟩:=this;exact⟨v,e1,mm r⟩
    | ow kz zs =>
     obtain⟨b,us,e1,g1,g2,g3,g4,r⟩:=this;have hba:b≠a:=λz=>hj (S.inj i j (.lst,xs) (kz,zs) a ex es ev (by rw[e1,z]));exact⟨b,us,e1,Q8.mpr ⟨g1,by simpa using hba⟩,g2,g3,g4,mms r⟩
  ·have back:∀(j:Nat) (zs:OK×List PV),(env.set i (some (.v (.lst xs))))[j]?=some (some (Slot.ow zs.1 zs.2))->env[j]?=some (some (.ow zs.1 zs.2)):=by
    intro j zs h
    by_cases hj:i=j
    ·grind
    ·grind
   exact S.inj j k xs' ys b (back j _ e1) (back k _ e2) e3 e4
 ·exact⟨G,S,Ext.refl⟩
def Dk (i:Nat)(p:pS):pS:=λD env n=>p D (EU i env) n
theorem Hs (i:Nat)(h:QS T np K F st p1):QS T np K F st (Dk i p1):=by
 obtain⟨t,a1,a2⟩:=h;refine⟨t,a1,λC G σ H env n PD D hK hT hn S hp L=>?_⟩;obtain⟨G',S',x'⟩:=S.freeze i;exact a2 C G' σ H _ n PD D hK hT hn S' hp (L.ext x')
end
end Pu
end
section
namespace Pu
open PySem PySem.Spec L2
def y8 (N:List Str)(xs:List PV):Env:=xs.map (λx=>some (.v x))++List.replicate (N.length-xs.length) none
def fnP (N ps:List Str)(body:pS):pF:=λxs n R=>xs.length=ps.length/\body ⟨λ_ m=>R .non m,R,λ_ _=>False,λ_ _=>False⟩ (y8 N xs) n
theorem Ht (hp:∀p∈G.pots,p∈G.M/\T.at_ G.M H p n)(hm:∀a∈G.M,∃o,H a=some o/\MutO o)(hh:T.has G.pots)(r:Reps K G H xs vs) :
   SR ⟨K,T,G.M,G.pots,H,np⟩ G (L2.start N vs) H (y8 N xs) n where
 frame b o _ e:=e
 sub a ha:=.inl ha
 sup a ha:=ha
 pots:=hp
 pre:=⟨[],by simp,.inl rfl⟩
 mu:=hm
 slots i s e:=by
  unfold y8 at e
  by_cases hi:i<xs.length
  ·rw[Y3 (by simpa using hi),G0] at e;cases ex:xs[i]? with
   |none=>rw[ex] at e;cases e
   | some x =>
    rw[ex] at e;cases e;obtain⟨v,ev,rv⟩:=r.get' ex;refine⟨v,?_,rv⟩;unfold L2.start;rw[Y3 (by rw[B6,<- r.length];exact hi),G0,ev]
    rfl
  ·rw[V5 (by simpa using hi),Gg] at e
   split at e <;> cases e
 inj i j xs' ys a e1:=by
  exfalso
  unfold y8 at e1
  by_cases hi:i<xs.length
  ·rw[Y3 (by simpa using hi),G0] at e1;cases ex:xs[i]? with
   |none=>rw[ex] at e1;cases e1
   |some x=>rw[ex] at e1;cases e1
  ·rw[V5 (by simpa using hi),Gg] at e1
   split at e1 <;> cases e1
 p0:=⟨λp h=>(hp p h).1,hh⟩
 len:=by unfold y8 L2.start;simp[r.length]
 newp p h hn:=absurd h hn
section
variable {P:D2}{w:C9}{K:A9}{mg:Str->Option A1}{base:B7}{T:PotK}
theorem bd1 {P:List A1->Prop}(h:∀a,P [a])(us:List A1)(e:us.length=1):P us:=by
 obtain⟨a,rfl⟩:=List.length_eq_one_iff.mp e;exact h a
theorem bdS {P:List A1->Prop}(h:∀a us,us.length=n->P (a::us))(us:List A1)(e:us.length=n+1):P us:=by
 obtain⟨a,us,rfl⟩:=List.exists_cons_of_length_eq_add_one e;exact h a us (Nat.succ.inj e)
theorem bd2 {P:List A1->Prop}(h:∀a b,P [a,b])(us:List A1)(e:us.length=2):P us:=bdS (λa us e=>bd1 (P:=λus=>P (a::us)) (h a) us e) us e
theorem bd3 {P:List A1->Prop}(h:∀a b c,P [a,b,c])(us:List A1)(e:us.length=3):P us:=bdS (λa us e=>bd2 (P:=λus=>P (a::us)) (h a) us e) us e
theorem bd4 {P:List A1->Prop}(h:∀a b c d,P [a,b,c,d])(us:List A1)(e:us.length=4):P us:=bdS (λa us e=>bd3 (P:=λus=>P (a::us)) (h a) us e) us e
theorem bd5 {P:List A1->Prop}(h:∀a b c d e,P [a,b,c,d,e])(us:List A1)(e:us.length=5):P us:=bdS (λa us e=>bd4 (P:=λus=>P (a::us)) (h a) us e) us e
theorem fn_ok (F0:Fn0 K mg x st)(sc:U7 N ps (G5 st))
   (bd:∀(kV doc pm:A1) (an:Option A0) (jn ct:A1) (us:List A1),us.length=ps.length->Y1 (X3 x x (U8 st) (O6 st) (G5 st) .none kV doc pm an jn ct) ⟨us,[]⟩=pure (ps.zip us))
   (h:∀(f:A0) (jn:A1) (A:D8) (outer:List PySem.Env) (s:A6) (H:Hp) (E:XK),Room k (A.deeper (Es x (G5 st) s.heap.objs.size f jn))->
     QSs T false K (λ_:Unit=>(cxOf CX0 P w K mg base N x (G5 st) f jn A outer s H E).nox) (O6 st) body) :
   Kn P w K mg base x (k+1) ps (E5 K T (fnP N ps body)):=by
 refine F0.ok sc (λvs H Q E h=>?_) bd (λf jn A outer s H vs Q E hr hsp=>?_)
 ·obtain⟨G,xs,n,R,_,_,_,r,hf,_⟩:=h;rw[<- r.length];exact hf.1
 ·obtain⟨t,h1,h2⟩:=h f jn A outer s H E hr;obtain⟨G,xs,n,R,hp,hm,hh,r,hf,k'⟩:=hsp;refine⟨t,h1 (),?_⟩;have S0:=Ht (N:=N) (np:=false) hp hm hh r
  have fin:∀(x:PV) (n':Nat) (v:V) (G':Gh) (σ:St) (H':Hp) (env:Env),R x n'->SR ⟨K,T,G.M,G.pots,H,false⟩ G' σ H' env n'->Rep K ⟨G.M,G'.pots⟩ H' x v->Q v H':=by
   intro x n' v G' σ H' env rr S' rv
   have ep:G'.pots=G.pots:=by
    obtain⟨l,el,hl⟩:=S'.pre;rcases hl with hl|hl
    ·rw[el,hl,Y6]
    ·cases hl
   rw[ep] at rv;exact k' _ _ _ _ rr rv (λp hp'=>T.more (S'.pots p (by rw[ep];exact hp')).2 λa ha=>.inl (S'.sup a ha)) S'.frame
  refine h2 _ G _ H _ n _ _ rfl rfl rfl S0 hf.2 ⟨λenv n' G' σ H' q S' _=>?_,λx n' v G' σ H' env q S' rv _=>fin x n' v G' σ H' env q S' rv,λ_ _ _ _ _ q=>q.elim,λ_ _ _ _ _ q=>q.elim⟩;exact fin .non n' .non G' σ H' env q S' rfl
end
def Dl:pF:=λxs n R=>match xs with|[.pot _,.int m]=>(0<m/\m<1000000/\n<1000000000)/\∀d:Int,0<=d->d<m->R (.int d) (n+1)|_=>False
end Pu
end
section
namespace Pu
open PySem PySem.Spec L2
section
variable {T:PotK}{np:Bool}{ι:Type}{K:A9}{F:ι->Cx}{e a b c:Expr}{es:List Expr}{pe pa pb pc:pE}{pos:Pos}{pl pr:pA}
theorem RdV.lst' {G:Gh}{H:Hp}{xs:List PV}{v:V}(h:RdV K G H (.lst xs) v):∃a vs,v=.ref a/\H a=some (.lst vs)/\Reps K G H xs vs:=by
 rcases h with⟨a,vs,e,t,r⟩|⟨a,vs,ys,ex,ev,h4,r⟩
 ·exact⟨a,vs,e,t.2,r⟩
 ·cases ex;exact⟨a,vs,ev,h4,r⟩
def qCat (pa pb:pE):pA:=λenv n R=>pa env n λx jc n1=>pb jc n1 λy jd n2=>match x,y with|.lst xs,.lst ys=>jd=jc/\xs.length+ys.length<=1000000/\R (xs++ys) jd n2|_,_=>False
theorem qn_cat (ha:QR T K F a pa)(hb:QR T K F b pb):QN T K F (.BinOp a .Add b pos) (qCat pa pb):=by
 obtain⟨t,a1,a2⟩:=ha;obtain⟨u,b1,b2⟩:=hb;refine⟨_,λz=>N7 op_cat (a1 z) (b1 z),λC G σ H env n R Q hK hT S hp k=>?_⟩;refine a2 C G σ H env n _ _ hK hT S hp λx jc n1 v H1 q1 S1 r1 f1=>?_;refine b2 C G σ H1 jc n1 _ _ hK hT S1 q1 λy jd n2 w H2 q2 S2 r2 f2=>?_
 split at q2
 ·rename_i xs ys;obtain⟨e1,hl,q2⟩:=q2;subst e1;obtain⟨l,vs,ev,e1,rx⟩:=RdV.lst' ((r1.fr f2).rd S2);obtain⟨m,us,ew,e2,ry⟩:=RdV.lst' (r2.rd S2);exact⟨l,m,vs,us,ev,ew,e1,e2,by rw[<- rx.length,<- ry.length];exact mil hl,λp hn=>k _ _ _ _ _ _ q2 S2 (f1.trans f2) hn (hK▸rx.append ry)⟩
 ·exact q2.elim
def R8:List PV->Option (List Str)
 |[]=>some []
 |.str b::xs=>(R8 xs).map (b::·)
 |_=>none
theorem Dm:∀{xs:List PV} {vs:List V} {bs:List Str},R8 xs=some bs->Reps K G H xs vs->vs=bs.map V.str
 |[],vs,bs,h,r=>by cases h;exact r
 | .str b :: xs, vs, bs, h, r => by
  obtain⟨v,t,e,rv,rt⟩:=r;cases e1:R8 xs with
  |none=>simp[R8,e1] at h
  | some cs =>
   have:b::cs=bs:=by simpa[R8,e1] using h
   subst this;rw[e,show v=.str b from rv,Dm e1 rt]
   rfl
 |.non::_,_,_,h,_=>by cases h
 |.int _::_,_,_,h,_=>by cases h
 |.bl _::_,_,_,h,_=>by cases h
 |.ty _::_,_,_,h,_=>by cases h
 |.pot _::_,_,_,h,_=>by cases h
 |.tup _::_,_,_,h,_=>by cases h
 |.lst _::_,_,_,h,_=>by cases h
 |.dct _ _::_,_,_,h,_=>by cases h
 |.fdt _ _::_,_,_,h,_=>by cases h
 |.scr _::_,_,_,h,_=>by cases h
theorem Dn:∀bs:List Str,R8 (bs.map PV.str)=some bs
 |[]=>rfl
 |b::bs=>by simp[R8,Dn bs]
def Hu:PV->Option Bool
 |.non=>some false
 |.bl b=>some b
 |.int i=>some (i != 0)
 |.str z=>if z.length<=1000000 then some ((z.length:Int) != 0) else none
 |.lst xs=>some (!xs.isEmpty)
 |.tup xs=>some (!xs.isEmpty)
 |_=>none
theorem Kw (r:Reps K G H xs vs):(!vs.isEmpty)=!xs.isEmpty:=by
 have:=r.length;cases xs <;> cases vs <;> simp_all
theorem tru_of {b:Bool}(h:Hu x=some b)(r:RdV K G H x v):TruV K v H b:=by
 cases x with
 |non=>rw[r.non];cases h;rfl
 |bl c=>rw[r.bl];cases h;rfl
 |int i=>rw[r.int];cases h;rfl
 | str z =>
  rw[r.str]
  by_cases hz:z.length<=1000000
  ·have h':(if z.length<=1000000 then some ((z.length:Int) != 0) else none)=some b:=h;rw[jr hz] at h';cases h';exact⟨mil hz,rfl⟩
  ·have h':(if z.length<=1000000 then some ((z.length:Int) != 0) else none)=some b:=h;rw[jt hz] at h';cases h'
 |lst xs=>obtain⟨a,vs,ev,hq,rs⟩:=r.lst;rw[ev];cases h;exact .inl ⟨vs,hq,(Kw rs).symm⟩
 |tup xs=>obtain⟨a,vs,ev,hq,rs⟩:=r.tup;rw[ev];cases h;exact .inr (.inl ⟨vs,hq,(Kw rs).symm⟩)
 |_=>cases h
def wNeg:w1:=λx R=>match x with|.int i=>R (.int (-i))|_=>False
theorem qe_neg (h:QE T K F a pa):QE T K F (.UnaryOp .USub a pos) (qUn wNeg pa):=by
 obtain⟨t,a1,a2⟩:=h.r;refine⟨_,λz=>pe_un un_neg (a1 z),ok_un (λG H x v R Q hf rx hw k=>?_) a2⟩;unfold wNeg at hw
 split at hw
 ·exact⟨_,rx.int,k _ _ _ hw (Same.refl _) rfl⟩
 ·exact hw.elim
end
def R1 (i:Nat)(pe:pE):pE:=λenv n R=>(∃xs,env[i]?=some (some (.ow .lst xs)))/\Hn i pe env n R
def Hv (i:Nat)(pe:pE):pE:=λenv n R=>(∃xs,env[i]?=some (some (.ow .lst xs)))/\Hq i pe env n R
end Pu
end
section
namespace Pu
open PySem PySem.Spec L2
theorem Q3 {g:pG}{b:pS}{D:AM}(I:Nat->Env->Nat->Prop):∀(xs:List PV) (k:Nat) (env:Env) (n:Nat),I k env n->
   (∀(i:Nat) x env n (N:Env->Nat->Prop),xs[i]?=some x->I (k+i) env n->(∀e m,I (k+i+1) e m->N e m)->g x env λjc=>b { D with nx:=N,ct:=N,bk:=D.nx } jc n)->(∀env n,I (k+xs.length) env n->D.nx env n)->forL g b D xs env n
 |[],k,env,n,h0,_,hd=>hd env n h0
 | x :: xs, k, env, n, h0, hs, hd => by
  show g x env λjc=>b { D with nx:=λe m=>forL g b D xs e m,ct:=λe m=>forL g b D xs e m,bk:=D.nx } jc n;refine hs 0 x env n _ rfl h0 λe m h1=>?_;refine Q3 I xs (k+1) e m h1 (λi y env n N e1 h2 h3=>?_) λenv n h2=>hd env n (by rw[E8,show k+(xs.length+1)=k+1+xs.length by omega];exact h2);refine hs (i+1) y env n N (by simpa using e1) (by rw[show k+(i+1)=k+1+i by omega];exact h2) λe m h4=>h3 e m (by rw[show k+1+i+1=k+(i+1)+1 by omega];exact h4)
theorem Do {j i:Nat}{lo:Int}{x:PV}(h:((E9 j).map λ(k:Nat)=>PV.int (lo+k))[i]?=some x):i<j/\x=.int (lo+i):=by grind
theorem Dp:((E9 j).map λ(k:Nat)=>PV.int (lo+k)).length=j:=by simp
theorem BN {α:Type}{xs:List α}{d:Int}(h0:0<=d)(h1:d<xs.length):∃x,x∈xs/\atI xs d=some x:=by
 obtain⟨x,e1,e2⟩:=GX h0 h1;exact⟨x,K8 e1,e2⟩
theorem Hw (a b:Int):eqP (.int a) (.int b)=decide (a=b):=rfl
theorem Dq (a b:Str):eqP (.str a) (.str b)=decide (a=b):=rfl
theorem Kx (a b:Bool):eqP (.bl a) (.bl b)=decide (a=b):=rfl
theorem Ky (xs ys:List PV):eqP (.lst xs) (.lst ys)=eqPs xs ys:=rfl
theorem EV (xs ys:List PV):eqP (.tup xs) (.tup ys)=eqPs xs ys:=rfl
theorem EX (x y:PV)(xs ys:List PV):eqPs (x::xs) (y::ys)=(eqP x y&&eqPs xs ys):=rfl
theorem Hx:eqPs [] []=true:=rfl
theorem if_t {A B:Prop}(h:b=true)(q:A):if b=true then A else B:=by rw[jr h];exact q
theorem if_f {A B:Prop}{b:Bool}(h:b=false)(q:B):if b=true then A else B:=by grind
end Pu
end
section
namespace Pu
open PySem PySem.Spec L2
section
variable {T:PotK}{np:Bool}{ι:Type}{K:A9}{F:ι->Cx}{a b:Expr}{st:Stmt}{pos:Pos}{s1 s2:pSl}
theorem gw_two (K:A9)(i j:Nat)(hc:X.calm=true)(h1:GW X (.Name x px) (P2 i))(h2:GW X (.Name y py) (P2 j))(hn:(K5 [.Name x px,.Name y py] X.env).length=2:=by rfl)(hst:(K5 [.Name x px,.Name y py] X.env).findIdx? (·.1)=none:=by rfl)
   (hs:(K5 [.Name x px,.Name y py] X.env).map (·.2)=assign (.Name x px) X.env::(K5 [.Name y py] X.env).map (·.2):=by rfl) (hs2:(K5 [.Name y py] X.env).map (·.2)=assign (.Name y py) X.env::(K5 [] X.env).map (·.2):=by rfl) (hK:X.K=K:=by rfl) :
   GW X (.Tuple [.Name x px,.Name y py] k pos) (gTup K 2 (Z2 (P2 i) (Z2 (P2 j) gNil))):=⟨hK▸GA hc (CP h1.h (CP h2.h Gz hs2) hs) hn hst⟩
theorem Qd (i j:Nat)(h:∀z te g,EW (F z) (.Tuple [a,b] k p) te->GW (F z) tg g->SW (F z) st (tAsg te g))(hg:∀z,GW (F z) tg (gTup K 2 (Z2 (P2 i) (Z2 (P2 j) gNil))))(h1:QL T K F a s1)(h2:QL T K F b s2)(n1:F7 a=true:=by rfl)(n2:F7 b=true:=by rfl):QS T np K F st (qPar i j s1 s2):=by
 obtain⟨t,a1,a2⟩:=h1;obtain⟨u,b1,b2⟩:=h2;refine⟨_,λz=>(h z _ _ ⟨GF (G4 (a1 z) (G4 (b1 z) K3 (D7 n2)) (D7 n1))⟩ (hg z)).h,λC G σ H env n PD D hK hT hn S hp L=>?_⟩;refine Kv (Q:=λv w H2=>[v,w].length<=C2/\∀p,H2 p=none->gTup K 2 (Z2 (P2 i) (Z2 (P2 j) gNil)) (.ref p) σ (upd H2 p (.tup [v,w])) D.nx) a2 b2 hK hT S hp λx y jd n2 v w G2 H2 q S2 x2 gx gy ne=>?_;refine⟨by show 2<=C2;decide,λp hn'=>⟨p,[v,w],rfl,SqT.of D9,rfl,v,[w],rfl,w,[],rfl,rfl,?_⟩⟩;have sm:Same H2 (upd H2 p (.tup [v,w])):=Same.lay1 hn';have S3:=S2.same sm
 have keep:∀{s:Slot} {u:V},CZ C G2 H2 (some (some u)) s->CZ C G2 (upd H2 p (.tup [v,w])) (some (some u)) s:=λ{s u} r=>by
  cases s with
  |v x=>obtain⟨v',e,r⟩:=r;exact⟨v',e,r.same sm⟩
  |ow kk xs=>obtain⟨b,us,e,h1,h2,h3,h4,r⟩:=r;exact⟨b,us,e,h1,h2,h3,sm _ _ h4,r.same sm⟩
 refine L.nx _ _ _ _ _ q ((S3.slot i (keep gx.1) gx.2).slot j (keep gy.1) λys b e1 e2 z=>?_) (x2.trans (Ext.fr (Fr.of sm)));rcases Hr S3.len z with z|⟨⟨xs,ex⟩,ev⟩
 ·exact gy.2 ys b e1 e2 z
 ·exact ne xs ys b ex e1 ev e2
end
end Pu
end
section
namespace L2
open PySem PySem.Spec PyProof.Rows
section
variable {κ:Type}[DecidableEq κ]
def valV (jg:List (κ×V))(k:κ):Option V:=(jg.find? λkv=>decide (kv.1=k)).map (·.2)
def putK (jg:List (κ×V))(k:κ)(v:V):List (κ×V):=
 if(jg.any λkv=>decide (kv.1=k))=true then jg.map (λkv=>if kv.1=k then(kv.1,v) else kv) else jg++[(k,v)]
theorem BO {k:κ}(e:p.1=k):valV (p::r) k=some p.2:=by simp[valV,Bh,e]
theorem BP {k:κ}(e:¬p.1=k):valV (p::r) k=valV r k:=by simp[valV,Bh,e]
theorem Hy (k:κ):∀jg:List (κ×V),(jg.any λkv=>decide (kv.1=k))=(valV jg k).isSome
 |[]=>rfl
 | p :: r => by
  rw[List.any_cons]
  by_cases e:p.1=k
  ·simp only[BO e,jp e,Bool.true_or,Option.isSome_some]
  ·rw[BP e,jq e,Bool.false_or];exact Hy k r
theorem Hz (jg:List (κ×V))(k:κ)(v:V):(putK jg k v).length<=jg.length+1:=by
 unfold putK
 split
 ·rw[B6];omega
 ·rw[E7,E8,List.length_nil];omega
theorem putK_new {jg:List (κ×V)}{k:κ}(v:V)(h:valV jg k=none):putK jg k v=jg++[(k,v)]:=by
 unfold putK;rw[Hy,h];exact jt (by decide)
theorem RelO.isSome_eq (r:RelO o u):o.isSome=u.isSome:=by
 cases o with
 | none => cases u with
  |none=>rfl
  |some _=>exact(show False from r).elim
 | some _ => cases u with
  |none=>exact(show False from r).elim
  |some _=>rfl
theorem KV.val (r:KV jg vs)(k:κ):RelO (valV jg k) (valueAt vs k):=by
 unfold KV at r
 induction r with
 |nil=>exact Y9
 | @cons p q ps qs h t ih =>
  obtain⟨h1,h2⟩:=h
  by_cases e:p.1=k
  ·have e':q.1=k:=h1.symm.trans e;have b:valueAt (q::qs) k=some q.2:=by simp[valueAt,Bh,e']
   rw[BO e,b];exact h2
  ·have e':¬q.1=k:=λz=>e (h1.trans z);have b:valueAt (q::qs) k=valueAt qs k:=by simp[valueAt,Bh,e']
   rw[BP e,b];exact ih
theorem KV.any {jg:List (κ×V)}{vs:List (κ×A1)}(r:KV jg vs)(k:κ):(jg.any λkv=>decide (kv.1=k))=vs.any λkv=>decide (kv.1=k):=by induction r <;> grind
theorem KV.repl (r:KV jg vs)(k:κ)(ry:RelV y u) :
   KV (jg.map λkv=>if kv.1=k then(kv.1,y) else kv) (vs.map λkv=>if kv.1=k then(kv.1,u) else kv):=by
 unfold KV at r ⊢
 induction r with
 |nil=>exact .nil
 | @cons p q ps qs h t ih =>
  rw[G9,G9];refine .cons ?_ ih;obtain⟨h1,h2⟩:=h
  by_cases e:p.1=k
  ·rw[jr e,jr (h1.symm.trans e)];exact⟨h1,ry⟩
  ·rw[jt e,jt (λz=>e (h1.trans z))];exact⟨h1,h2⟩
theorem KV.put (r:KV jg vs)(k:κ)(ry:RelV y u):KV (putK jg k y) (stored vs k u):=by
 unfold putK stored;rw[r.any k]
 by_cases e:(vs.any λkv=>decide (kv.1=k))=true
 ·rw[jr e,jr e];exact r.repl k ry
 ·rw[jt e,jt e];exact Paired.snoc r ⟨rfl,ry⟩
theorem KV.keys {jg:List (κ×V)}{vs:List (κ×A1)}(r:KV jg vs):jg.map (·.1)=vs.map (·.1):=by induction r <;> grind
theorem KV.length (r:KV jg vs):jg.length=vs.length:=CM r
end
theorem EY (r:RelV (kV k) u):(K2 P w).is k u=true:=by
 cases k with
 |inl i=>obtain⟨t,e⟩:=(show ∃t,u=Value.int i t from r);subst e;exact Ju P w i t
 |inr x=>obtain⟨t,e⟩:=(show ∃t,u=Value.str x t from r);subst e;exact ED P w x t
theorem items_are {P:D2}{w:C9}:∀{ks:List Key} {us:List A1},Vals (ks.map kV) us->ItemsAre (K2 P w) ks us
 |[],_,r=>by rw[Aq] at r;cases r;exact .nil
 | k :: ks, _, r => by
  rw[G9] at r;cases r with
  |cons h t=>exact .cons (EY h) (items_are t)
abbrev KT (H:Hp):List (List Key×V)->List (List Key×A0×A1)->Prop:=Paired λp q=>p.1=q.1/\H q.2.1=some (.tup (p.1.map kV))/\RelV p.2 q.2.2
theorem KT.val (r:KT H jg xs)(k:List Key):RelO (valV jg k) ((atKey xs k).map (·.2)):=by
 induction r with
 |nil=>exact Y9
 | @cons p q ps qs h t ih =>
  obtain⟨h1,_,h2⟩:=h
  by_cases e:p.1=k
  ·have e':q.1=k:=h1.symm.trans e;have b:atKey (q::qs) k=some q.2:=by simp[atKey,Bh,e']
   rw[BO e,b];exact h2
  ·have e':¬q.1=k:=λz=>e (h1.trans z);have b:atKey (q::qs) k=atKey qs k:=by simp[atKey,Bh,e']
   rw[BP e,b];exact ih
theorem KT.repl {H:Hp}{jg:List (List Key×V)}{xs:List (List Key×A0×A1)}(r:KT H jg xs)(k:List Key){y:V}{u:A1}(ry:RelV y u) :
   KT H (jg.map λkv=>if kv.1=k then(kv.1,y) else kv) (xs.map (putAt k u)):=by
 induction r with
 |nil=>exact .nil
 | @cons p q ps qs h t ih =>
  rw[G9,G9];refine .cons ?_ ih;obtain⟨h1,h2,h3⟩:=h;unfold putAt
  by_cases e:p.1=k
  ·grind
  ·grind
theorem KT.put (r:KT H jg xs)(k:List Key)(hb:H b=some (.tup (k.map kV)))(ry:RelV y u) :
   KT H (putK jg k y) (storedH xs k b u):=by
 have e:(jg.any λkv=>decide (kv.1=k))=(atKey xs k).isSome:=by
  rw[Hy,(r.val k).isSome_eq,Option.isSome_map]
 unfold putK storedH;rw[e]
 by_cases q:(atKey xs k).isSome=true
 ·rw[jr q,jr q];exact r.repl k ry
 ·rw[jt q,jt q];exact Paired.snoc r ⟨rfl,hb,ry⟩
theorem KT.keeps (r:KT H jg xs)(ht:∀b ys,H b=some (.tup ys)->H' b=some (.tup ys)):KT H' jg xs:=
 Paired.mapP r λ_ _ z=>⟨z.1,ht _ _ z.2.1,z.2.2⟩
section
variable {P:D2}{w:C9}{H:Hp}{h:B7}{a:A0}
theorem rd_of (ok:HOk P w H h)(e:Rd H a u):J0 P w H h a u:=e.ok ok
theorem HA (ok:HOk P w H h)(e:Rd H a (.dK jg)):jg.length<=C2/\(a == L9)=false/\∃vs,KV jg vs/\h.DictOf (K2 P w) a vs:=
 show J0 P w H h a (.dK jg) from rd_of ok e
theorem dk_of (ok:HOk P w H h)(e:H a=some (.dK jg)):jg.length<=C2/\(a == L9)=false/\∃vs,KV jg vs/\h.DictOf (K2 P w) a vs:=HA ok (.inl e)
theorem HB (ok:HOk P w H h)(e:H a=some (.tup (ks.map kV))):(tupleKind (K2 P w)).is h ks a:=by
 obtain⟨_,jf,r,o,h1,h2,n,h3⟩:=(show J0 P w H h a (.tup (ks.map kV)) from ok a _ e);exact⟨o,jf.toArray,n,h1,(BA h2).1,h3,by simpa using items_are r⟩
theorem HC {jg:List (List Key×V)}(ok:HOk P w H h)(e:Rd H a (.dT jg)):jg.length<=C2/\(a == L9)=false/\
   ∃xs,KT H jg xs/\h.DictOfH (tupleKind (K2 P w)) a xs:=by
 obtain⟨z,y,xs,r,o,es,ep,h1,h2,h3,h4,h5⟩:=(show J0 P w H h a (.dT jg) from rd_of ok e);refine⟨z,y,xs,r,o,es,ep,h1,h2,h3,h4,λx hx=>?_,h5⟩
 have all:∀{l:List (List Key×V)} {m:List (List Key×A0×A1)},KT H l m->∀x∈m,(tupleKind (K2 P w)).is h x.1 x.2.1:=by
  intro l m q
  induction q with
  |nil=>intro x hx;exact nomatch hx
  | @cons p q ps qs hq t ih =>
   intro x hx;rcases C3.mp hx with e|hx
   ·subst e;exact HB ok (by grind)
   ·grind
 grind
theorem dt_of (ok:HOk P w H h)(e:H a=some (.dT jg)):jg.length<=C2/\(a == L9)=false/\
   ∃xs,KT H jg xs/\h.DictOfH (tupleKind (K2 P w)) a xs:=HC ok (.inl e)
end
def DGet (H:Hp)(a:A0)(y:V)(r:Option V):Prop:=
 (∃jg k,Rd H a (.dK jg)/\y=kV k/\r=valV jg k)\/∃jg k b,Rd H a (.dT jg)/\y=.ref b/\H b=some (.tup (k.map kV))/\r=valV jg k
def DPut (H:Hp)(a:A0)(y v:V)(H':Hp):Prop:=
 (∃jg k,H a=some (.dK jg)/\y=kV k/\jg.length<C2/\H'=upd H a (.dK (putK jg k v)))\/
 ∃jg k b,H a=some (.dT jg)/\y=.ref b/\H b=some (.tup (k.map kV))/\jg.length<C2/\H'=upd H a (.dT (putK jg k v))
theorem DGet.k {k:Key}(e:H a=some (.dK jg)):DGet H a (kV k) (valV jg k):=.inl ⟨jg,k,.inl e,rfl,rfl⟩
theorem DGet.t {k:List Key}(e:H a=some (.dT jg))(eb:H b=some (.tup (k.map kV))):DGet H a (.ref b) (valV jg k):=.inr ⟨jg,k,b,.inl e,rfl,eb,rfl⟩
theorem DPut.k {k:Key}(e:H a=some (.dK jg))(hl:jg.length<C2):DPut H a (kV k) v (upd H a (.dK (putK jg k v))):=.inl ⟨jg,k,e,rfl,hl,rfl⟩
theorem DPut.t {k:List Key}(e:H a=some (.dT jg))(eb:H b=some (.tup (k.map kV)))(hl:jg.length<C2) :
   DPut H a (.ref b) v (upd H a (.dT (putK jg k v))):=.inr ⟨jg,k,b,e,rfl,eb,hl,rfl⟩
section
variable {X:Cx}{jb:List (A0×Obj)}{σ:St}{H:Hp}{s:A6}{a:A0}{y v:V}{u r:A1}{o:Option V}{A:D8}{E:A1->A6->Prop}
theorem Qe (hu:A.units+1<cLine)(I:Inv X jb σ H s)(g:DGet H a y (some v))(ry:RelV y u)(h:∀w' s',Inv X jb σ H s'->RelV v w'->Q w' s') :
   A7 (A8 X.prog X.w) A (c6 (.ref a) u) Q E s:=by
 rcases g with⟨jg,k,e,ey,l⟩|⟨jg,k,b,e,ey,eb,l⟩
 ·subst ey;obtain⟨z,hd,vs,rel,dd⟩:=HA I.hok e;obtain⟨w',hw,rw'⟩:=RelO.some_of (v:=v) (o:=valueAt vs k) (by rw[l];exact rel.val k);exact wpAny_getItem_of (EY ry) dd.mapOf hw (h w' _ (I.tok _) rw')
 ·subst ey;cases(show u=M3 b from ry);obtain⟨z,hd,xs,rel,dd⟩:=HC I.hok e;obtain⟨w',hw,rw'⟩:=RelO.some_of (v:=v) (o:=(atKey xs k).map (·.2)) (by rw[l];exact rel.val k);obtain⟨p,hp,hp2⟩:=Option.map_eq_some_iff.mp hw;refine wpAny_getItem_heap (tupleKind_room_in1 hu) (HB I.hok eb) dd hp ?_;rw[hp2];exact h w' _ (I.tok _) rw'
theorem HD (I:Inv X jb σ H s)(mu:Mut (H a))(hs:V4 a s.heap h')(he:∃q,h'.get? a=some q)(new:J0 X.prog X.w (upd H a ob) h' a ob) :
   Inv X jb σ (upd H a ob) { s with heap:=h',toks:=t' }:=
 I.write (x:=a) (e:=a) mu (.inl rfl) (λb q hb z=>(hs.2 b hb).trans z) he new
theorem Kz (z:jg.length<=C2)(hd:(a == L9)=false)(rel:KV jg vs)(dd:h'.DictOf (K2 P w) a vs) :
   J0 P w H' h' a (.dK jg):=⟨z,hd,vs,rel,dd⟩
theorem Qg (hu:A.units+1<cLine)(I:Inv X jb σ H s)(g:DPut H a y v H')(ry:RelV y u)(rv:RelV v r)(h:∀s',Inv X jb σ H' s'->Q () s') :
   A7 (A8 X.prog X.w) A (setItem (.ref a) u r) Q E s:=by
 rcases g with⟨jg,k,e,ey,l,eH⟩|⟨jg,k,b,e,ey,eb,l,eH⟩
 ·subst ey eH;obtain⟨z,hd,vs,rel,dd⟩:=dk_of I.hok e;have hz:vs.length<=C2:=by rw[<- rel.length];exact z
  have hl:(putK jg k v).length<=C2:=by have:=Hz jg k v;omega
  refine wpAny_setItem_pairs (hsz:=hz) (EY ry) dd λh' dd' hs=>h _ ?_;have he:∃q,h'.get? a=some q:=let ⟨q,_,_,hq,_⟩:=dd';⟨q,hq⟩;exact HD I (by rw[e];exact Y9) hs he (Kz hl hd (rel.put k rv) dd')
 ·subst ey eH;cases(show u=M3 b from ry);obtain⟨z,hd,xs,rel,dd⟩:=dt_of I.hok e;have hz:xs.length<=C2:=by rw[<- CM rel];exact z
  have hl:(putK jg k v).length<=C2:=by have:=Hz jg k v;omega
  refine wpAny_setItem_heap (hsz:=hz) (tupleKind_room_in1 hu) (HB I.hok eb) dd λh' dd' hs=>h _ ?_;obtain⟨q,es,ep,hq,h2,h3,h4,_,h5⟩:=dd';refine HD I (by rw[e];exact Y9) hs ⟨q,hq⟩ ⟨hl,hd,_,(rel.put k eb rv).keeps λc ys ec=>?_,q,es,ep,hq,h2,h3,h4,h5⟩;rw[C4 (ne_of ec e (λz=>nomatch z))];exact ec
end
def NoSl (i:Expr):Prop:=∀ov iv,subscripted i false ov iv=operate [ov,iv] (c6 ov iv)
theorem Qh {T id:String}
   (hl:typeLookup (.type T) "__getitem__"=pure (some (.builtin id))) (hs:NoSl slice)
   (h:A7 (A8 prog w) A (eval value env) (λo s₁=>A7 (A8 prog w) A (eval slice env) (λi s₂=>s₂.TypeIs o T/\A7 (A8 prog w) A (c6 o i) Q E s₂) E s₁) E s) :
   A7 (A8 prog w) A (eval (.Subscript value slice pos) env) Q E s:=by
 refine Subscript_ (K1 h (λo s₁ h₁=>K1 h₁ (λi s₂ h₂=>?_) λ_ _ x=>x) λ_ _ x=>x);obtain⟨hT,h₂⟩:=h₂;unfold subscriptTail;refine A2 ?_;rw[getitemInPython_of_ne hT.not_modules];refine A2 (Ci hT hl ?_)
 have fin:A7 (A8 prog w) A (subscripted slice false o i) (λr s₃=>A7 (A8 prog w) A (letTemporaryGo value o r>>=λ_=>pure r) Q E s₃) E s₂:=by
  rw[hs o i];exact wpAny_operating (K1 h₂ (λr s₃ h₃=>A2 (wpAny_letTemporaryGo (B0 h₃))) λ_ _ x=>x)
 first
   |exact B0 (A2 fin)
   |exact A2 (B0 (A2 fin))
   |exact A2 fin
theorem Qi (I:Inv X jb σ H s)(g:DGet H a y o):s.TypeIs (.ref a) "dict":=by
 rcases g with⟨jg,k,e,_,_⟩|⟨jg,k,b,e,_,_,_⟩
 ·obtain⟨_,_,vs,_,dd⟩:=HA I.hok e;exact dd.typeIs
 ·obtain⟨_,_,xs,_,dd⟩:=HC I.hok e;exact dd.typeIs
def tDGet (td ty:TE):TE:=λσ H Q=>td σ H λx H1=>ty σ H1 λy H2=>∃a v,x=.ref a/\DGet H2 a y (some v)/\Q v H2
def sDPut (td ty tv:TE):TS:=λD σ H=>tv σ H λv H1=>td σ H1 λx H2=>ty σ H2 λy H3=>∃a H4,x=.ref a/\DPut H3 a y v H4/\D.nx σ H4
section
variable {X:Cx}{o i e value:Expr}{pos pos' tpos:Pos}{td ty tv:TE}
theorem W7 (hu:X.A.units+1<cLine)(ho:PE X o td)(hi:PE X i ty)(hs:NoSl i):PE X (.Subscript o i pos) (tDGet td ty):=by
 intro jb s σ H Q I h;refine Qh PySem.F.slot_dict_getitem.lookup hs (thn (ho jb s σ H _ I h) λu s1 ⟨x,H1,I1,rx,q1⟩=>thn (hi jb s1 σ H1 _ I1 q1) λiv s2 ⟨y,H2,I2,ry,a,v,ex,g,q2⟩=>?_);subst ex;obtain rfl:u=M3 a:=rx;exact⟨Qi I2 g,Qe hu I2 g ry λw' s3 I3 rw'=>⟨v,H2,I3,rw',q2⟩⟩
theorem Dr (hu:X.A.units+1<cLine)(ho:PE X o td)(hi:PE X i ty)(hv:PE X value tv)(hs:l6 value (some (.Subscript o i pos')) pos.line X.env=pure false) :
   PS X (.Assign [.Subscript o i pos'] value pos) (sDPut td ty tv):=by
 intro jb s σ H D I h;refine wpAny_Assign_Subscript (thn (hv jb s σ H _ I h) λr s1 ⟨v,H1,I1,rv,q1⟩=>thn (ho jb s1 σ H1 _ I1 q1) λu s2 ⟨x,H2,I2,rx,q2⟩=>thn (hi jb s2 σ H2 _ I2 q2) λiv s3 ⟨y,H3,I3,ry,a,H4,ex,g,q3⟩=>?_) hs;subst ex;obtain rfl:u=M3 a:=rx;exact Qg hu I3 g ry rv λs4 I4=>⟨σ,H4,I4,q3⟩
end
def HE:List (TE×TE)->St->Hp->(List (V×V)->Hp->Prop)->Prop
 |[],_,H,Q=>Q [] H
 |(tk,tv)::r,σ,H,Q=>tk σ H λx H1=>tv σ H1 λy H2=>HE r σ H2 λps H3=>Q ((x,y)::ps) H3
abbrev VV:List (V×V)->List (A1×A1)->Prop:=Paired λp q=>RelV p.1 q.1/\RelV p.2 q.2
def PPs (X:Cx)(pos:Pos)(keys:List (Option Expr))(values:List Expr)(trs:List (TE×TE)):Prop:=
 ∀ (jb : List (A0 × Obj)) (s : A6) (σ : St) (H : Hp) (Q : List (V × V) -> Hp -> Prop), Inv X jb σ H s -> HE trs σ H Q ->
   A7 (A8 X.prog X.w) X.A (evalPairs (pairTrees keys values X.env pos)) (λvs s'=>∃ps H',Inv X jb σ H' s'/\VV ps vs/\Q ps H') X.xe s
theorem Qj:PPs X pos [] [] []:=λjb s σ H Q I h=>pairTrees_nil_walk ⟨[],H,I,.nil,h⟩
theorem EZ (hk:PE X k tk)(hv:PE X v tv)(hr:PPs X pos ks vs trs) :
   PPs X pos (some k::ks) (v::vs) ((tk,tv)::trs):=λjb s σ H Q I h=>
 pairTrees_cons_walk (thn (hk jb s σ H _ I h) λu s1 ⟨x,H1,I1,rx,q1⟩=>thn (hv jb s1 σ H1 _ I1 q1) λw2 s2 ⟨y,H2,I2,ry,q2⟩=>
  thn (hr jb s2 σ H2 _ I2 q2) λws s3 ⟨ps,H3,I3,rel,q3⟩=>⟨(x,y)::ps,H3,I3,.cons ⟨rx,ry⟩ rel,q3⟩)
def AN (jg more:List (Key×V)):List (Key×V):=more.foldl (λjl kv=>putK jl kv.1 kv.2) jg
theorem KV.merge:∀{more:List (Key×V)} {rs:List (Key×A1)} {jg:List (Key×V)} {vs:List (Key×A1)},KV more rs->KV jg vs->KV (AN jg more) (merged vs rs):=by
 intro more rs jg vs r;unfold KV at r
 induction r generalizing jg vs with
 |nil=>intro q;exact q
 | @cons p q ps qs h t ih =>
  intro r0
  have e:KV (putK jg p.1 p.2) (stored vs q.1 q.2):=by
   have:=r0.put p.1 h.2;rw[<- h.1];exact this
  exact ih e
theorem KA:∀(more jg:List (Key×V)),(AN jg more).length<=jg.length+more.length
 |[],jg=>by show jg.length<=jg.length+0;omega
 | p :: r, jg => by
  have h1:=KA r (putK jg p.1 p.2);have h2:=Hz jg p.1 p.2;show(AN (putK jg p.1 p.2) r).length<=_;rw[E8];omega
theorem KB:∀{jg:List (Key×V)} {ws:List (A1×A1)},VV (jg.map λkv=>(kV kv.1,kv.2)) ws->∃rs,Carries (K2 P w) ws rs/\KV jg rs
 |[],_,r=>by rw[Aq] at r;cases r;exact⟨[],Y9,.nil⟩
 | p :: jg, _, r => by
  rw[G9] at r;cases r with
  | @cons a b as bs h t =>
   obtain⟨rs,c,q⟩:=KB (P:=P) (w:=w) t;obtain⟨b1,b2⟩:=b;exact⟨(p.1,b2)::rs,⟨EY h.1,rfl,c⟩,.cons ⟨rfl,h.2⟩ q⟩
def tDisp (trs:List (TE×TE)):TE:=λσ H Q=>∀p,H p=none->HE trs σ (upd H p (.dK [])) λps H2=>H2 p=some (.dK [])/\∃jg:List (Key×V),ps=jg.map (λkv=>(kV kv.1,kv.2))/\jg.length<=15/\Q (.ref p) (upd H2 p (.dK (AN [] jg)))
theorem Qk (h:PPs X pos keys values trs)(hall:keys.all (·.isSome)=true)(hl:keys.length=values.length)(h0:keys≠[])
   (h15:keys.length<=15):PE X (.Dict keys values pos) (tDisp trs):=by
 intro jb s σ H Q I q;have hn:=I.hok.fresh (B8 s.heap.objs.size);have I1:=I.laid (a:=s.heap.objs.size) (o:=.dK []) (h':=s.heap.push { cls:=.type "dict",data:=.dict #[] }) (t':=s.toks) (λ_ _ q=>C7 _ q) (B8 _) (PH s.heap I.big);refine wpAny_Dict_walk (knd:=K2 X.prog X.w) hall hl h0 h15 (thn (h jb _ σ _ _ I1 (q _ hn)) λws s2 ⟨ps,H2,I2,rel,e,jg,ep,lk,q2⟩=>?_);subst ep;obtain⟨rs,c,rk⟩:=KB (P:=X.prog) (w:=X.w) rel;obtain⟨z,hd,vs0,r0,dd⟩:=dk_of I2.hok e;cases r0;refine⟨rs,c,dd,λh' dd' hs=>⟨.ref s.heap.objs.size,_,?_,rfl,q2⟩⟩
 have hz:(AN [] jg).length<=C2:=by
  have h1:=KA jg [];rw[List.length_nil] at h1;rw[L0];omega
 have he:∃q,h'.get? s.heap.objs.size=some q:=let ⟨q,_,_,hq,_⟩:=dd';⟨q,hq⟩;exact HD I2 (by rw[e];exact Y9) hs he (Kz hz hd (rk.merge .nil) dd')
end L2
end
section
namespace L2
open PySem PySem.Spec PyProof.Rows
def keyD:Key->PyData
 |.inl i=>.int i
 |.inr x=>.str x
mutual
def RdD (H:Hp):PyData->V->Prop
 |.none,v=>v=.non
 |.bool b,v=>v=.bl b
 |.int i,v=>v=.int i
 |.str x,v=>v=.str x
 |.list xs,v=>∃a vs,v=.ref a/\H a=some (.lst vs)/\RdDs H xs vs
 |.tuple xs,v=>∃a vs,v=.ref a/\H a=some (.tup vs)/\RdDs H xs vs
 |.dict jg,v=>∃a ws,v=.ref a/\H a=some (.dK ws)/\RdKv H jg ws
def RdDs (H:Hp):List PyData->List V->Prop
 |[],vs=>vs=[]
 |d::ds,vs=>∃v r,vs=v::r/\RdD H d v/\RdDs H ds r
def RdKv (H:Hp):List (PyData×PyData)->List (Key×V)->Prop
 |[],ws=>ws=[]
 |(k,d)::r,ws=>∃q w ws',ws=(q,w)::ws'/\k=keyD q/\RdD H d w/\RdKv H r ws'
end
section
variable {P:D2}{w:C9}{H:Hp}{h:B7}
mutual
theorem HF (hok:HOk P w H h)(sy:NS H):∀(d:PyData) (v:V) (u:A1),RdD H d v->RelV v u->∃as,Reads h u d as/\L9∉as
 | .none, v, u, r, e => by
  obtain rfl:v=.non:=r;obtain rfl:u=.none:=e;exact⟨[],.none,nofun⟩
 | .bool b, v, u, r, e => by
  obtain rfl:v=.bl b:=r;obtain rfl:u=.bool b:=e;exact⟨[],.bool b,nofun⟩
 | .int i, v, u, r, e => by
  obtain rfl:v=.int i:=r;obtain⟨t,rfl⟩:=e;exact⟨[],.int i t,nofun⟩
 | .str x, v, u, r, e => by
  obtain rfl:v=.str x:=r;obtain⟨t,rfl⟩:=e;exact⟨[],.str x t,nofun⟩
 | .list xs, v, u, r, e => by
  obtain⟨a,vs,rfl,ha,rs⟩:=r;obtain rfl:u=.ref a:=e;obtain⟨_,jf,n,rv,ho⟩:=hok a _ ha;obtain⟨as,rr,ns⟩:=HG hok sy xs vs jf rs rv;refine⟨a::as,.list ho rfl rfl rr,λz=>?_⟩;rcases C3.mp z with z|z
  ·rw[<- z] at ha;rcases sy with sy|⟨o,u,sy⟩ <;> rw[sy] at ha <;> cases ha
  ·exact ns z
 | .tuple xs, v, u, r, e => by
  obtain⟨a,vs,rfl,ha,rs⟩:=r;obtain rfl:u=.ref a:=e;obtain⟨_,jf,rv,ho⟩:=hok a _ ha;obtain⟨as,rr,ns⟩:=HG hok sy xs vs jf rs rv;obtain⟨o,e1,e2,n,e3⟩:=ho;exact⟨as,.tuple e1 (BA e2).1 e3 rr,ns⟩
 | .dict jg, v, u, r, e => by
  obtain⟨a,ws,rfl,ha,rs⟩:=r;obtain rfl:u=.ref a:=e;obtain⟨_,hs,us,rv,o,es,ep,e1,e2,e3,_,e5,_⟩:=hok a _ ha;obtain⟨as,bs,r1,r2,n1,n2⟩:=KC hok sy jg ws us es.toList rs rv e5;refine⟨a::as++bs,.dict e1 e2.1 e3 r1 r2,λz=>?_⟩;rcases K9.mp z with z|z
  ·rcases C3.mp z with z|z
   ·rw[<- z] at hs;exact absurd hs (by decide)
   ·exact n1 z
  ·exact n2 z
theorem HG (hok:HOk P w H h)(sy:NS H):∀(ds:List PyData) (vs:List V) (us:List A1),RdDs H ds vs->Vals vs us->∃as,ReadsAll h us ds as/\L9∉as
 | [], vs, us, r, e => by
  obtain rfl:vs=[]:=r;cases e;exact⟨[],.nil,nofun⟩
 | d :: ds, vs, us, r, e => by
  obtain⟨v,r',rfl,r1,r2⟩:=r;cases e with
  | cons e1 e2 =>
   obtain⟨as,a1,a2⟩:=HF hok sy d v _ r1 e1;obtain⟨bs,b1,b2⟩:=HG hok sy ds r' _ r2 e2;exact⟨as++bs,.cons a1 b1,λz=>(K9.mp z).elim a2 b2⟩
theorem KC (hok:HOk P w H h)(sy:NS H):∀(jg:List (PyData×PyData)) (ws:List (Key×V)) (us:List (Key×A1)) (es:List DictEntry),RdKv H jg ws->KV ws us->Pairs (K2 P w) es us->
   ∃as bs,ReadsAll h (es.map (·.key)) (jg.map (·.1)) as/\ReadsAll h (es.map (·.val)) (jg.map (·.2)) bs/\L9∉as/\L9∉bs
 | [], ws, us, es, r, e, p => by
  obtain rfl:ws=[]:=r;cases e;cases p;exact⟨[],[],.nil,.nil,nofun,nofun⟩
 | (k, d) :: jg, ws, us, es, r, e, p => by
  obtain⟨q,w1,ws',rfl,rfl,r1,r2⟩:=r;cases e with
  | cons e1 e2 =>
   cases p with
   | cons p1 p2 p3 =>
    obtain⟨as,bs,a1,a2,a3,a4⟩:=KC hok sy jg ws' _ _ r2 e2 p3;obtain⟨e1,e1'⟩:=e1;dsimp only at e1 e1';obtain⟨cs,c1,c2⟩:=HF hok sy d w1 _ r1 e1';rw[<- e1] at p1;refine⟨[]++as,cs++bs,.cons ?_ a1,.cons (by dsimp only;rw[p2];exact c1) a2,a3,λz=>(K9.mp z).elim c2 a4⟩;rcases Z0 p1 with⟨i,t,rfl,e⟩|⟨x,t,rfl,e⟩
    ·dsimp only;rw[e];exact .int i t
    ·dsimp only;rw[e];exact .str x t
end
end
section
variable {X:Cx}{jb:List (A0×Obj)}{σ:St}{H:Hp}{s:A6}
theorem Ql (hr:Room k X.A):M4 X (.builtin "repr") (λvs H Q=>∃v d,vs=[v]/\RdD H d v/\d.showable=true/\d.depth<=40/\d.shown.length<=C2/\Q (.str d.shown) H):=by
 intro jb s σ H vs us Q I rv h;obtain⟨v,d,rfl,r,h1,h2,h3,q⟩:=h;obtain⟨u,rfl,ru⟩:=rv.one;obtain⟨as,rr,ns⟩:=HF I.hok I.nos d v u r ru;have fin:∀(h':B7) (t:Tok) (tk:Tok),(∀b o,s.heap.get? b=some o->h'.get? b=some o)->∃v' H',Inv X jb σ H' { s with heap:=h',toks:=tk }/\RelV v' (.str d.shown t)/\Q v' H':=λh' t tk kp=>⟨.str d.shown,H,I.kept kp,⟨t,rfl⟩,q⟩;cases rr with
 |none=>exact P.repr_of_none (fin s.heap _ _ λ_ _ z=>z)
 |bool b=>exact P.repr_of_bool (by cases b <;> exact fin s.heap _ _ λ_ _ z=>z)
 |int i t=>exact P.repr_of_int (by simpa[e6] using h1) (fin s.heap _ _ λ_ _ z=>z)
 |str x t=>exact P.repr_of_str (fin s.heap _ _ λ_ _ z=>z) h3
 |list e1 e2 e3 e4=>exact repr_of_reads' (.list e1 e2 e3 e4) h1 (λ_=>ns) hr.gd (by have:=hr.units;omega) (λ_ _ z=>z) (λh' u tk kp=>fin h' u tk kp) h3
 |tuple e1 e2 e3 e4=>exact repr_of_reads' (.tuple e1 e2 e3 e4) h1 (λ_=>ns) hr.gd (by have:=hr.units;omega) (λ_ _ z=>z) (λh' u tk kp=>fin h' u tk kp) h3
 |dict e1 e2 e3 e4 e5=>exact repr_of_reads' (.dict e1 e2 e3 e4 e5) h1 (λ_=>ns) hr.gd (by have:=hr.units;omega) (λ_ _ z=>z) (λh' u tk kp=>fin h' u tk kp) h3
end
end L2
namespace Pu
open PySem PySem.Spec L2
mutual
/-- what a thing holds, for repr -/
def dat:PV->Option PyData
 |.non=>some .none
 |.bl b=>some (.bool b)
 |.int i=>some (.int i)
 |.str x=>some (.str x)
 |.tup xs=>match dats xs with|some ds=>some (.tuple ds)|none=>none
 |.lst xs=>match dats xs with|some ds=>some (.list ds)|none=>none
 |.dct ks xs=>match dats xs with|some ds=>some (.dict ((ks.map keyD).zip ds))|none=>none
 |_=>none
def dats:List PV->Option (List PyData)
 |[]=>some []
 |x::xs=>match dat x,dats xs with|some d,some ds=>some (d::ds)|_,_=>none
end
theorem kv_rd:∀(jg:List (Key×V)) (ds:List PyData),RdDs H ds (jg.map (·.2))->RdKv H (((jg.map (·.1)).map keyD).zip ds) jg
 | [], ds, r => by
  cases ds with
  |nil=>exact rfl
  |cons d ds=>obtain⟨v,r',e,_⟩:=r;cases e
 | (q, w) :: jg, ds, r => by
  cases ds with
  |nil=>exact(List.cons_ne_nil _ _ r).elim
  | cons d ds =>
   obtain⟨v,r',e,r1,r2⟩:=r;cases e;exact⟨q,w,jg,rfl,rfl,r1,kv_rd jg ds r2⟩
section
variable {K:A9}{G:Gh}{H:Hp}
mutual
theorem KD:∀(x:PV) (v:V) (d:PyData),Rep K G H x v->dat x=some d->RdD H d v
 |.non,v,d,r,e=>by cases e;exact r
 |.bl b,v,d,r,e=>by cases e;exact r
 |.int i,v,d,r,e=>by cases e;exact r
 |.str x,v,d,r,e=>by cases e;exact r
 | .tup xs, v, d, r, e => by
  obtain⟨a,vs,rfl,t,rs⟩:=r;rw[dat] at e;cases ed:dats xs with
  |none=>rw[ed] at e;cases e
  |some ds=>rw[ed] at e;cases e;exact⟨a,vs,rfl,t.2,Ds xs vs ds rs ed⟩
 | .lst xs, v, d, r, e => by
  obtain⟨a,vs,rfl,t,rs⟩:=r;rw[dat] at e;cases ed:dats xs with
  |none=>rw[ed] at e;cases e
  |some ds=>rw[ed] at e;cases e;exact⟨a,vs,rfl,t.2,Ds xs vs ds rs ed⟩
 |.ty _,v,d,r,e=>by cases e
 |.pot _,v,d,r,e=>by cases e
 |.scr _,v,d,r,e=>by cases e
 |.fdt _ _,v,d,r,e=>by cases e
 | .dct ks xs, v, d, r, e => by
  obtain⟨a,jg,rfl,_,ha,hk,rs⟩:=r;rw[dat] at e;cases ed:dats xs with
  |none=>rw[ed] at e;cases e
  |some ds=>rw[ed] at e;cases e;exact⟨a,jg,rfl,ha,hk▸kv_rd jg ds (Ds xs _ ds rs ed)⟩
theorem Ds:∀(xs:List PV) (vs:List V) (ds:List PyData),Reps K G H xs vs->dats xs=some ds->RdDs H ds vs
 |[],vs,ds,r,e=>by cases e;exact r
 | x :: xs, vs, ds, r, e => by
  obtain⟨v,r',rfl,r1,r2⟩:=r;rw[dats] at e;cases e1:dat x with
  |none=>rw[e1] at e;cases e
  | some d =>
   cases e2:dats xs with
   |none=>rw[e1,e2] at e;cases e
   |some ds'=>rw[e1,e2] at e;cases e;exact⟨v,r',rfl,KD x v d r1 e1,Ds xs r' ds' r2 e2⟩
end
end
def X8:w1:=λx R=>match dat x with|some d=>d.showable=true/\d.depth<=40/\d.shown.length<=C2/\R (.str d.shown)|none=>False
theorem bt_repr:M9 "repr"=some (.builtin "repr"):=by decide +kernel
section
variable {T:PotK}{ι:Type}{K:A9}{F:ι->Cx}{e:Expr}{pe:pE}{pos:Pos}
theorem y9 (hr:∀z,Room k (F z).A)(hg:∀z,Gl (F z) "repr")(hm:∀z,(F z).mg "repr"=none)(ha:QR T K F e pe)(hs:F7 e=true:=by rfl):QE T K F (.Call (.Name "repr" p) [e] [] pos) (qUn X8 pe):=EQ (λz=>Ql (hr z)) (λG H x v R Q hf rx hw k=>by
 unfold X8 at hw;cases ed:dat x with
 |none=>rw[ed] at hw;exact hw.elim
 | some d =>
  rw[ed] at hw;obtain⟨h1,h2,h3,q⟩:=hw;refine⟨v,d,rfl,?_,h1,h2,h3,k _ _ _ q (Same.refl _) rfl⟩;rcases rx with rx|⟨a,vs,xs,rfl,rfl,hv,rs⟩
  ·exact KD x v d rx ed
  ·rw[dat] at ed;cases es:dats xs with
   |none=>rw[es] at ed;cases ed
   |some ds=>rw[es] at ed;cases ed;exact⟨a,vs,rfl,hv,Ds xs vs ds rs es⟩) hg hm bt_repr ha hs
end
end Pu
end
section
namespace L2
open PySem PySem.Spec PyProof.Rows
def Itd (a:Int)(n:Nat):It:=⟨λi _=>i<n,λi H x H'=>H'=H/\x=.int (a-i),λi _=>n<=i⟩
theorem Qm {K:A9}(it:A0)(lo:Int)(n:Nat):Turn P w K tg (Itd lo n) [it] it (λi h=>IsRangeIter h it (lo+(i:Nat) * -1) ((n:Int)-(i:Nat)) (-1)) where
 mem:=by simp
 obj:=fun i h st b hb=>by
  have e:b=it:=by simpa using hb
  subst e
  exact⟨_,st,λv z=>by
   have z':BB _=Data.cell v:=z
   cases z'⟩
 keep:=λi h h' st k=>k it (by simp) _ st
 item:=by
  intro X hP hw hK hc i jb s σ H E I hf st hg;subst hP hw hK;obtain⟨f0,f1,f2,f3,f4,f5⟩:=hf it (by simp);have W:=Walks.range (prog:=X.prog) (w:=X.w) (I.ok.hd hc) it lo (-1) n;refine W.item i s _ _ hg st λv h' tk hv st' kk=>?_;obtain⟨t,rfl⟩:=hv;have I1:Inv X jb σ H { s with heap:=h',toks:=tk }:=I.turned (λb o hb e=>kk b o (by simpa using hb) e) f0 f1 f3 f4 f5;refine⟨_,rfl,CQ (s:={ s with heap:=h',toks:=tk }) (n:="range_iterator") st' rfl rfl (by decide) ⟨.int (lo-i),H,I1,⟨t,?_⟩,⟨rfl,rfl⟩,st',λb hb=>(hf b hb).1⟩⟩;have e:lo+(i:Int) * -1=lo-i:=by omega
  rw[e]
 done:=by
  intro X hP hw hK hc i jb s σ H E I hf st hg;subst hP hw hK;obtain⟨f0,f1,f2,f3,f4,f5⟩:=hf it (by simp);exact wpAny_pyNext_range_end (I.ok.hd hc) st (by have:n<=i:=hg;omega) λh' eb=>⟨rfl,I.turned (t':=s.toks) (λb o hb e=>eb b o hb e) f0 f1 f3 f4 f5⟩
 self:=λ_ _ _ _ _ st h=>Gd st h
end L2
namespace Pu
open PySem PySem.Spec L2
section
variable {T:PotK}{ι:Type}{K:A9}{F:ι->Cx}{tg a b c:Expr}{pa pb pc:pE}{pos:Pos}
theorem Qn {K:A9}{G:Gh}{H:Hp}(lo:Int)(m:Nat):ItR K G H (Itd lo m) ((E9 m).map λ(k:Nat)=>PV.int (lo-k)):=by
 intro G2 H2 hk hM hp hf;refine⟨λi x e=>?_,λi hi=>(show m<=i by simpa using hi)⟩;rw[G0] at e;cases e1:(E9 m)[i]? with
 |none=>rw[e1] at e;cases e
 | some j =>
  rw[e1] at e;cases e;obtain⟨hi,e2⟩:=J5.mp e1;rw[List.getElem_range] at e2;subst e2;refine⟨(show i<m by simpa using hi),λv H3 y=>?_⟩;obtain⟨e3,y⟩:=y;subst e3 y;exact⟨Same.refl _,rfl⟩
end
end Pu
end
section
namespace L2
open PySem PySem.Spec PyProof.Rows
theorem HH:∀{ys:List Str} {us:List A1},Vals (ys.map V.str) us->StrsAre us ys
 |[],us,r=>by rw[Aq] at r;cases r;exact .nil
 | y :: ys, us, r => by
  rw[G9] at r;cases r with
  | cons r1 r2 =>
   obtain⟨t,e⟩:=r1;subst e;exact .cons y t (HH r2)
section
variable {X:Cx}
def KF (K:A9):V->List V->Hp->VK->Prop:=λx vs H Q=>∃(l:A0) (k:Str) (ys:List Str),x=.ref l/\vs=[.str k]/\SqL K H l (ys.map V.str)/\Q (.int (countIn (.str k) (ys.map PyData.str))) H
theorem Qo:MtM X "list.count" (KF X.K):=by
 intro jb s σ H x vs v us Q I rx rv h;obtain⟨l,k,ys,rfl,rfl,hq,q⟩:=h;cases rx;obtain⟨u,rfl,ru⟩:=rv.one;obtain⟨t,rfl⟩:=ru;obtain⟨jf,r,p,hz⟩:=I.list hq;exact count_list_strs p.isList (HH r) ⟨.int _,H,I.tok _,⟨_,rfl⟩,q⟩
end
end L2
namespace Pu
open PySem PySem.Spec PyProof.Rows L2
section
variable {T:PotK}{ι:Type}{K:A9}{F:ι->Cx}{e c:Expr}{pe pc:pE}{pos:Pos}
def E_:w2:=λx y R=>match x,y with|.lst xs,.str k=>(match R8 xs with|some ys=>R (.int (countIn (.str k) (ys.map PyData.str)))|none=>False)|_,_=>False
theorem KG {ap:Pos}(he:QE T K F e pe)(hc:QE T K F c pc)(hs:F7 c=true:=by rfl)(hbase:∀z,l5 e "count" (F z).env (eval e (F z).env)=eval e (F z).env:=by intro _;rfl)(hline:(ap.endLine == pos.line)=true:=by rfl)
   (hfew:∀z,((backTo pos (E6 [c] (F z).env)).all (λx=>!x.1)&&(b9 pos (b7 [] (F z).env)).all (λx=>x.1.isSome)&&decide (([c]:List Expr).length+([]:List T0).length+(if([]:List T0).isEmpty then 0 else 1)<30))=true:=by intro _;rfl) (hK:∀z,(F z).K=K:=by intro _;rfl):QE T K F (.Call (.Attribute e "count" ap) [c] [] pos) (λenv n R=>pe env n λx jc n1=>(∃xs,x=.lst xs)/\pc jc n1 λy jd n2=>E_ x y λz=>R z jd n2):=by
 obtain⟨t,a1,a2⟩:=he;obtain⟨u,b1,b2⟩:=hc;refine⟨tBM K "list" (KF K) t (V8 u tNil),λz=>hK z▸BG Bu PySem.F.slot_list_count PySem.F.type_list_count Qo (a1 z) (G4 (b1 z) K3 (D7 hs)) (hbase z) (hfew z) hline (D7 hs),λC G σ H env n R Q hK hT S hp k=>?_⟩;refine a2 C G σ H env n _ _ hK hT S hp λx jc n1 v H1 q1 S1 r1 f1=>?_;obtain⟨⟨xs,rfl⟩,q1⟩:=q1;obtain⟨a,vs,rfl,ta,ra⟩:=r1;refine⟨.inl ⟨rfl,vs,SqL.of ta.2⟩,?_⟩;refine b2 C G σ H1 jc n1 _ _ hK hT S1 q1 λy jd n2 w H2 q2 S2 r2 f2=>?_;unfold E_ at q2
 split at q2
 ·rename_i xs' kk e1;cases e1
  split at q2
  ·rename_i ys ey;obtain⟨a',vs',e3,ta',ra'⟩:=(show Rep K G H1 (.lst xs) (.ref a) from⟨a,vs,rfl,ta,ra⟩).fr f2;cases e3;exact⟨a,kk,ys,rfl,by rw[show w=.str kk from r2],Dm ey ra'▸SqL.of ta'.2,k _ _ _ _ _ q2 S2 rfl (f1.trans f2)⟩
  ·exact q2.elim
 ·exact q2.elim
end
end Pu
namespace Pu
def HI (pe pc:pE):pE:=λenv n R=>pe env n λx jc n1=>(∃xs,x=.lst xs)/\pc jc n1 λy jd n2=>E_ x y λz=>R z jd n2
end Pu
end
section
namespace L2
open PySem PySem.Spec PyProof.Rows
theorem Qp {X:Cx}{scope:J7}{cl:List (Str×A0)}{N:List Str}{jb:List (A0×Obj)}{σ σ3:St}{H2 H3:Hp}{s2 s4:A6}{fp:List A0}{i:Nat}{y:Str}{py:Pos}{DD:Ends}(hN:X.N.Nodup)(hiy:X.N[i]?=some y)(hy:Loc X.env.scope y)(hff:X.fn y=true\/X.env.scope.names.lookup y=some .local)(I2:Inv X jb σ H2 s2)(f2:∀b∈fp,FpOk X jb H2 b)(I4:Inv (J8 X scope cl N fp (s2.heap.objs.size+1) s2 H2) jb σ3 H3 s4)(qn:DD.nx (σ.set i (some (.ref s2.heap.objs.size))) H3) :
   compPost (A8 X.prog X.w) X.A X.xe (some (assign (.Name y py) X.env)) (λ_ s'=>SP X jb DD .next s') (.ref s2.heap.objs.size) (s2.heap.objs.size+1) (.ok .next) s4:=by
 obtain⟨m4,hn4,_⟩:=I4.loc;have I5:Inv X jb σ H3 s4:=Inv.uncomp (h':=s4.heap) I2 f2 I4 λb hb=>rfl;have fr:H3 (s2.heap.objs.size+1)=none:=I4.free;have oldne:∀{b o},s2.heap.get? b=some o->b≠s2.heap.objs.size+1:=λe=>E3 (o7 (D1 e));have locne:X.env.locals≠s2.heap.objs.size+1:=E3 (o7 I2.lt)
 have cellne:∀x c,X.env.cells.lookup x=some c->c≠s2.heap.objs.size+1:=λx c e=>by
  obtain⟨v,o,h1,_⟩:=I2.cell x c e;exact oldne h1
 have pinne:∀p∈X.pn++jb,p.1≠s2.heap.objs.size+1:=λp hp=>oldne (I2.pin p hp).1;have sz:X.s₀.heap.objs.size<=s2.heap.objs.size+1:=Nat.le_succ_of_le I2.sz;clear I4 I2;generalize s2.heap.objs.size+1=C at *;refine wpAny_assign_Name (Jv I5 hN hiy hy (v:=.ref s2.heap.objs.size) rfl (λs6 I6 ⟨a6,sb6,ha6⟩=>?_) hff);refine⟨m4,hn4.sameBut sb6 (ha6.elim (λz=>by rw[z];exact Ne.symm locne) λz=>Ne.symm (cellne _ _ z)),λh' hs'=>⟨_,H3,?_,qn⟩⟩;have U0:Un (frs X.stack) [C] H3 H3 s6.heap s6.heap:=Un.refl;have hx':∀{b},b∉[C]->h'.get? b=s6.heap.get? b:=λ{b} hx=>hs'.2 b λz=>hx (by rw[z];simp)
 have trC:∀{b u},H3 b=some u->b∉[C]:=λ{b u} e z=>by
  rw[J6.mp z,fr] at e;cases e
 obtain⟨hh6,g6,d6,t6,os6⟩:=s6;refine I6.call (h':=h') (g':=g6) (d':=d6) (t':=t6) (ch:=[C]) ⟨λb o e n hb hx=>?_,λb o e n hb hx=>?_,U0.free,λb o e hx=>?_,U0.tups,U0.frzs,U0.tbls,U0.sys⟩ (λb u e=>?_) I6.bare λb hb=>?_
 ·rw[hx' hx];exact U0.keep b o e n hb hx
 ·rw[hx' hx];exact U0.slot b o e n hb hx
 ·rw[hx' hx];exact U0.there b o e hx
 ·refine(I6.hok b u e).stay (λc v hc q=>?_) (λ_ q=>q) λ_ _ q=>q;rw[hx' (hc.elim (λz=>by rw[z];exact trC e) trC)];exact q
 ·rw[J6.mp hb];exact⟨.inr sz,Ne.symm locne,cellne,pinne⟩
theorem Qq {X:Cx}{scope:J7}{cl:List (Str×A0)}{N:List Str}{cs:List (Option Nat)}{ji tg iter:Expr}{jk:List Expr}{pos spos py:Pos}{wi:TI}{g:TG}{tt:TT}{te:TE}{i:Nat}{y:Str}(hN:X.N.Nodup)(hiy:X.N[i]?=some y)(hy:Loc X.env.scope y)(S:q8 X scope cl N cs)(hc:X.calm=true)(hi:PI X tg iter wi)
   (hb:∀(fp:List A0) (C:A0) (s:A6) (H:Hp),PG (J8 X scope cl N fp C s H) tg g/\PIf (J8 X scope cl N fp C s H) jk tt/\PE (J8 X scope cl N fp C s H) ji te)
   (hsw:l6 (.ListComp ji [⟨tg,iter,jk,0⟩] scope pos) (some (.Name y py)) spos.line X.env=pure true:=by rfl)
   (hs:∀x,U1 iter X.env x=pure x:=by intro _;rfl) (hff:X.fn y=true\/X.env.scope.names.lookup y=some .local:=by first|exact .inl rfl|exact .inr rfl|assumption) :
   PS X (.Assign [.Name y py] (.ListComp ji [⟨tg,iter,jk,0⟩] scope pos) spos) (tAsg (tComp cs wi g tt te) (P2 i)):=by
 intro jb s σ H DD I h;rw[exec_Assign_Name_used _ _ _ _ hsw];refine A2 (Z9 (A2 (A2 (K1 (Q:=λ_ s'=>SP X jb DD .next s') (GS S hc hi hs I h λfp it tn J s2 H2 s₃ T stat I2 f2 q Ic st1 fr1=>?_) (λ_ s' hq=>B0 (B0 hq)) λ_ _ e=>e))));obtain⟨W,⟨m0,w0⟩,turn⟩:=q;obtain⟨hg,hf,he⟩:=hb fp (s2.heap.objs.size+1) s2 H2;exact JU _ (GR (Y:=J8 X scope cl N fp (s2.heap.objs.size+1) s2 H2) T hc stat hg hf he (λs4 σ3 H3 I4 qn=>Qp hN hiy hy hff I2 f2 I4 qn) turn) m0 ⟨0,_,_,Ic,st1,fr1,w0⟩
end L2
namespace Pu
open PySem PySem.Spec L2
def SwOk (X:Cx)(e:Expr)(t:TE):Prop:=∀(i:Nat) (y:Str) (py spos:Pos),X.N.Nodup->X.N[i]?=some y->Loc X.env.scope y->l6 e (some (.Name y py)) spos.line X.env=pure true->(X.fn y=true\/X.env.scope.names.lookup y=some .local)->PS X (.Assign [.Name y py] e spos) (tAsg t (P2 i))
def QNC {ι:Type}(T:PotK)(K:A9)(F:ι->Cx)(e:Expr)(pn:pA):Prop:=∃t,(∀z,PE (F z) e t)/\(∀z,SwOk (F z) e t)/\NOk K T t pn
section
variable {T:PotK}{np:Bool}{ι:Type}{K:A9}{F:ι->Cx}{e:Expr}{pl:pA}{pg:pG}{pos:Pos}
theorem KH {scope:J7}{cl:ι->List (Str×A0)}{N:List Str}{cs:List (Option Nat)}{ji tg iter:Expr}{jk:List Expr}{pi:pA}{ptt:pT}{pte:pE}(S:∀z,q8 (F z) scope (cl z) N cs)(hc:∀z,(F z).calm=true)(hi:QI T K F tg iter pi)
   (hg:QG K (λy:ι×List A0×A0×A6×Hp=>J8 (F y.1) scope (cl y.1) N y.2.1 y.2.2.1 y.2.2.2.1 y.2.2.2.2) tg pg) (ht:QIf T K (λy:ι×List A0×A0×A6×Hp=>J8 (F y.1) scope (cl y.1) N y.2.1 y.2.2.1 y.2.2.2.1 y.2.2.2.2) jk ptt)
   (he:QE T K (λy:ι×List A0×A0×A6×Hp=>J8 (F y.1) scope (cl y.1) N y.2.1 y.2.2.1 y.2.2.2.1 y.2.2.2.2) ji pte)
   (hs:∀z x,U1 iter (F z).env x=pure x:=by intro _ _;rfl):QNC T K F (.ListComp ji [⟨tg,iter,jk,0⟩] scope pos) (i9 cs pi pg ptt pte):=by
 obtain⟨wi,i1,i2⟩:=hi;obtain⟨g,hg0,hg⟩:=hg;obtain⟨tt,ht0,ht⟩:=ht;obtain⟨te,he0,he⟩:=he;refine⟨_,λz=>JW (S z) (hc z) (i1 z) (λfp C s H=>⟨hg0 (z,fp,C,s,H),ht0 (z,fp,C,s,H),he0 (z,fp,C,s,H)⟩) (hs z),λz i y py spos hN hi hy hsw hf=>Qq hN hi hy (S z) (hc z) (i1 z) (λfp C s H=>⟨hg0 (z,fp,C,s,H),ht0 (z,fp,C,s,H),he0 (z,fp,C,s,H)⟩) hsw (hs z) hf,λC G σ H env n R Q hK hT S hp k=>?_⟩;refine i2 C G σ H env n _ _ hK hT S hp λxs jc n1 J H1 p1 S1 f1 hJ=>?_;intro D hD;have hDM:=S1.fresh hD;refine Kq (G:=G) hg ht he hJ p1.1 hD (hT▸hK▸Hk S1 cs) p1.2 λys n2 us H' rr hpots hk eD ry=>?_
 -- the heap without D
 have nD:∀b o,H1 b=some o->b≠D:=λb o e z=>by rw[z,hD] at e;cases e
 have hD0:C.H0 D=none:=by
  cases z:C.H0 D with
  |none=>rfl
  | some o =>
   by_cases hp:D∈C.pots0
   ·exact absurd (S1.sup D (S1.p0.1 D hp)) hDM
   ·have:=S1.frame D o hp z;rw[hD] at this;cases this
 have hk2:∀b o,b∉G.pots->H1 b=some o->cutH H' D b=some o:=λb o hb e=>by rw[W6 (nD b o e)];exact hk b o hb e
 have nc:∀b,b∉D::G.M->b≠D:=λb hb z=>hb (by rw[z];exact C8);have np:∀p∈G.pots,p≠D:=λp hp z=>hDM (z▸(S1.pots p hp).1)
 have Sb:SR C G σ (cutH H' D) jc n2:=S1.call hk2 λp hp=>by
  subst hT;have h2:=C.T.keep (hpots p hp) (H':=cutH H' D) (W6 (np p hp)) λb o hb e=>by rw[W6 (nc b hb)];exact e
  exact C.T.more h2 λa ha=>.inl (C5 _ ha)
 have:=k ys jc n2 D us (cutH H' D) rr Sb (f1.trans λb o hb e=>hk2 b o (λz=>hb (S1.pots b z).1) e) (by unfold cutH;rw[jr rfl]) ?_
 ·rw[Hl eD] at this;exact this
 ·exact Reps.mono (G:=⟨D::G.M,G.pots⟩) (λb o hb e=>by rw[W6 (nc b hb)];exact e) (λa ha=>.inl (C5 _ ha)) (λ_ _ e=>e) _ _ ry
theorem KI (i:Nat){y:Str}{py spos:Pos}(h:QNC T K F e pl)(hN:∀z,(F z).N.Nodup)(hi:∀z,(F z).N[i]?=some y)(hy:∀z,Loc (F z).env.scope y)(hsw:∀z,l6 e (some (.Name y py)) spos.line (F z).env=pure true:=by intro _;rfl)(hf:∀z,(F z).fn y=true\/(F z).env.scope.names.lookup y=some .local:=by intro _;first|exact .inl rfl|exact .inr rfl):QS T np K F (.Assign [.Name y py] e spos) (qSet i (qL pl)):=by
 obtain⟨t,a1,a3,a2⟩:=h
 have he:EOk K T t (qL pl):=λC G σ H env n R Q hK hT S hp k=>by
  refine a2 C G σ H env n _ _ hK hT S hp λxs jc n1 a vs Hb p1 S1 f1 hn r1=>?_;exact k _ _ _ _ _ p1 (S1.same (Same.lay1 hn)) (EG (S1.fresh hn) hn r1) (f1.trans (Fr.of (Same.lay1 hn)))
 refine⟨_,λz=>a3 z i y py spos (hN z) (hi z) (hy z) (hsw z) (hf z),λC G σ H env n PD D hK hT hn S hp L=>?_⟩;refine he C G σ H env n _ _ hK hT S hp λx jc n1 v H1 q1 S1 r1 f1=>?_;exact L.nx _ _ _ _ _ q1 (S1.set i (hK▸r1)) (Ext.fr f1)
end
end Pu
end
section
namespace Pu
open PySem PySem.Spec L2
def shK:Key->Prop
 |.inl i=>i.natAbs<10 ^ 60
 |.inr x=>∀c∈x.cps.toList,c<16 ^ 8
def Dt:Key->Nat
 |.inl _=>61
 |.inr x=>10*x.length+2
mutual
def shw:PV->Prop
 |.non=>True
 |.bl _=>True
 |.int i=>i.natAbs<10 ^ 60
 |.str x=>∀c∈x.cps.toList,c<16 ^ 8
 |.tup xs=>shws xs
 |.lst xs=>shws xs
 |.dct ks xs=>(∀k∈ks,shK k)/\shws xs
 |_=>False
def shws:List PV->Prop
 |[]=>True
 |x::xs=>shw x/\shws xs
end
mutual
def cost:PV->Nat
 |.non=>4
 |.bl _=>5
 |.int _=>61
 |.str x=>10*x.length+2
 |.tup xs=>j8 xs+3
 |.lst xs=>j8 xs+3
 |.dct ks xs=>(ks.map λk=>Dt k+4).sum+j8 xs+3
 |_=>0
def j8:List PV->Nat
 |[]=>0
 |x::xs=>cost x+2+j8 xs
end
mutual
def dep:PV->Nat
 |.tup xs=>deps xs+1
 |.lst xs=>deps xs+1
 |.dct _ xs=>deps xs+1
 |_=>0
def deps:List PV->Nat
 |[]=>0
 |x::xs=>max (dep x) (deps xs)
end
theorem KJ {i:Int}(h:i.natAbs<10 ^ 60):(A5 (toString i)).length<=61:=by
 have e:=int_text_length_le10 (k:=60) (by decide) h;rw[ofString_length];omega
theorem KK {i:Int}(h:i.natAbs<10 ^ 60):i.natAbs.log2<1920:=by
 by_cases h0:i.natAbs=0
 ·simp_all
 ·exact(Nat.log2_lt h0).mpr (Bk h (by grind))
theorem key_ok {k:Key}(h:shK k):(keyD k).showable=true/\(keyD k).depth=0/\(keyD k).shown.length<=Dt k:=by
 cases k with
 |inl i=>exact⟨by simpa[keyD,e6] using KK h,by simp[keyD,p7],by simpa[keyD,p8,Dt] using KJ h⟩
 |inr x=>exact⟨by simp[keyD,e6],by simp[keyD,p7],by simpa[keyD,p8,Dt] using StrLaws.reprText_len x h⟩
theorem kv_ok:∀(ks:List Key) (ds:List PyData),(∀k∈ks,shK k)->Bv ds=true->Ew ((ks.map keyD).zip ds)=true/\Ex ((ks.map keyD).zip ds)<=CJ ds/\((Bw ((ks.map keyD).zip ds)).map (·.length)).sum+2*(Bw ((ks.map keyD).zip ds)).length<=(ks.map λk=>Dt k+4).sum+((Ax ds).map (·.length)).sum+2*ds.length
 |[],ds,_,_=>by simp[Ew,Ex,Bw]
 |k::ks,[],_,_=>by simp[Ew,Ex,Bw]
 | k :: ks, d :: ds, hk, hd => by
  have hd':d.showable=true/\Bv ds=true:=by simpa[Bv] using hd
  obtain⟨h1,h2,h3⟩:=kv_ok ks ds (λx hx=>hk x (C5 _ hx)) hd'.2;obtain⟨g1,g2,g3⟩:=key_ok (hk k C8);refine⟨?_,?_,?_⟩
  ·simp[Ew,g1,hd'.1,h1]
  ·simp only[G9,l9,Ex,CJ,g2];omega
  ·simp only[G9,l9,Bw,Ax,List.sum_cons,E8];rw[strLen_append,strLen_append];have:(A5 ": ").length=2:=rfl;omega
theorem Qr (ps:List Str):(dictText ps).length<=(ps.map (·.length)).sum+2*ps.length+3:=by
 have h:(Str.join ", " ps).length<=(ps.map (·.length)).sum+ps.length*2:=StrLaws.join_length_le ", " ps
 have e:(dictText ps).length=1+(Str.join ", " ps).length+1:=by
  unfold dictText;rw[strLen_append,strLen_append];rfl
 omega
mutual
theorem KL:∀(x:PV),shw x->∃d,dat x=some d/\d.showable=true/\d.depth<=dep x/\d.shown.length<=cost x
 |.non,_=>⟨_,rfl,by simp[e6],by simp[p7],by simp only[p8,cost];decide⟩
 |.bl b,_=>⟨_,rfl,by simp[e6],by simp[p7],by simp only[p8,cost];cases b <;> decide⟩
 |.int i,h=>⟨_,rfl,by simpa[e6] using KK h,by simp[p7],by simpa[p8,cost] using KJ h⟩
 |.str x,h=>⟨_,rfl,by simp[e6],by simp[p7],by simpa[p8,cost] using StrLaws.reprText_len x h⟩
 | .tup xs, h => by
  obtain⟨ds,e,h1,h2,h3,h4⟩:=Fa xs h;refine⟨.tuple ds,by rw[dat,e],by simpa[e6] using h1,by simp only[p7,dep];omega,?_⟩;have:=tupleText_len_le (Ax ds);have e2:=PyData.shownAll_length ds;simp only[p8,cost];omega
 | .lst xs, h => by
  obtain⟨ds,e,h1,h2,h3,h4⟩:=Fa xs h;refine⟨.list ds,by rw[dat,e],by simpa[e6] using h1,by simp only[p7,dep];omega,?_⟩;have:=listText_len_le (Ax ds);have e2:=PyData.shownAll_length ds;simp only[p8,cost];omega
 | .dct ks xs, h => by
  have h':(∀k∈ks,shK k)/\shws xs:=h;obtain⟨ds,e,h1,h2,h3,h4⟩:=Fa xs h'.2;obtain⟨g1,g2,g3⟩:=kv_ok ks ds h'.1 h1;refine⟨.dict ((ks.map keyD).zip ds),by rw[dat,e],by simpa[e6] using g1,by simp only[p7,dep];omega,?_⟩;have:=Qr (Bw ((ks.map keyD).zip ds));simp only[p8,cost];omega
 |.ty _,h=>h.elim
 |.pot _,h=>h.elim
 |.scr _,h=>h.elim
 |.fdt _ _,h=>h.elim
theorem Fa:∀(xs:List PV),shws xs->∃ds,dats xs=some ds/\Bv ds=true/\CJ ds<=deps xs/\ds.length=xs.length/\((Ax ds).map (·.length)).sum+2*ds.length<=j8 xs
 |[],_=>⟨[],rfl,by simp[Bv],by simp[CJ],rfl,by simp[Ax,j8]⟩
 | x :: xs, h => by
  have h':shw x/\shws xs:=h;obtain⟨d,e,a1,a2,a3⟩:=KL x h'.1;obtain⟨ds,e2,b1,b2,b3,b4⟩:=Fa xs h'.2;refine⟨d::ds,by rw[dats,e,e2],by simp[Bv,a1,b1],by simp only[CJ,deps];omega,by simp[b3],?_⟩;simp only[Ax,j8,G9,List.sum_cons,E8];omega
end
def HJ (x:PV):Str:=match dat x with|some d=>d.shown|none=>A5 ""
theorem z0 {x:PV}{R:PV->Prop}(h:shw x)(h1:dep x<=40)(h2:cost x<=10000000)(q:R (.str (HJ x))):X8 x R:=by
 obtain⟨d,e,a1,a2,a3⟩:=KL x h;unfold X8 HJ at *;rw[e] at q ⊢;exact⟨a1,by omega,by unfold C2;omega,q⟩
theorem KN:∀(xs:List PV),(∀x∈xs,shw x)->shws xs
 |[],_=>trivial
 |x::xs,h=>⟨h x C8,KN xs λy hy=>h y (C5 _ hy)⟩
theorem KO (k:Nat):∀(xs:List PV),(∀x∈xs,dep x<=k)->deps xs<=k
 |[],_=>K4 _
 | x :: xs, h => by
  have:=h x C8;have:=KO k xs λy hy=>h y (C5 _ hy);simp only[deps];omega
theorem KP (k:Nat):∀(xs:List PV),(∀x∈xs,cost x<=k)->j8 xs<=(k+2)*xs.length
 |[],_=>K4 _
 | x :: xs, h => by
  have h1:=h x C8;have h2:=KP k xs λy hy=>h y (C5 _ hy);simp only[j8,E8,Nat.mul_succ];omega
end Pu
end
section
namespace L2
open PySem PySem.Spec PyProof.Rows
def met (val:Nat->Key):Nat->List Key
 |0=>[]
 |i+1=>if(met val i).any (λy=>decide (y=val i)) then met val i else met val i++[val i]
theorem Du (val:Nat->Key):∀i,(met val i).length<=i
 |0=>B8 _
 | i + 1 => by
  have:=Du val i;unfold met
  split
  ·omega
  ·rw[E7,T4];omega
theorem HK (val:Nat->Key)(i:Nat)(k:Key):(met val (i+1)).any (λy=>decide (y=k))=((met val i).any (λy=>decide (y=k))||decide (k=val i)):=by
 show(if(met val i).any (λy=>decide (y=val i)) then met val i else met val i++[val i]).any (λy=>decide (y=k))=_
 by_cases hk:k=val i
 ·subst hk;rw[jp rfl,Bool.or_true]
  split
  ·assumption
  ·rw[List.any_append];simp
 ·rw[jq hk,Bp]
  split
  ·rfl
  ·rw[List.any_append]
   have:([val i].any (λy=>decide (y=k)))=false:=by
    rw[List.any_cons,List.any_nil,Bp];exact jq (Ne.symm hk)
   rw[this,Bp]
theorem Fb (val:Nat->Key)(i:Nat):(met val (i+1)).length=if(met val i).any (λy=>decide (y=val i)) then(met val i).length else(met val i).length+1:=by
 show(if(met val i).any (λy=>decide (y=val i)) then met val i else met val i++[val i]).length=_
 split
 ·rfl
 ·rw[E7,T4]
section
variable {prog:D2}{w:C9}{A:D8}{R:Result->A6->Prop}{I:A0}{fp wr:List A0}{G:Array GenState->Array GenState->Prop}{n:Nat}{P:Nat->A1->Prop}{St:Nat->A6->Prop}
theorem Qs (Wk:WalksS prog w A.in1 I fp wr G n P St)(S:A0)(nf:S∉fp)(val:Nat->Key)(hv:∀i v,P i v->(K2 prog w).is (val i) v=true/\v.scannable=true)(room:n+1<scanBound) :
   ∀ (k i : Nat) (s : A6), n - i = k -> i <= n -> St i s -> s.heap.SetOf (K2 prog w) S (fun q => (met val i).any (fun y => decide (y = q))) (met val i).length ->
     (∀s',Moved (S::wr) G s s'->s'.heap.SetOf (K2 prog w) S (λq=>(met val n).any (λy=>decide (y=q))) (met val n).length->R (.ok (.ret .none)) s')->
     O0 (A8 prog w) A (.builtin "set.update.loop" ⟨[.ref S,.ref I],[]⟩) R s:=by
 have nw:S∉wr:=λh=>nf (Wk.sub _ h);have sub:∀b∈wr,b∈S::wr:=λb hb=>C5 _ hb;intro k
 induction k with
 | zero =>
  intro i s hk hi st so fin;have ei:i=n:=by omega
  subst ei;refine l4 Ep ?_;rw[x5 Av _];refine A2 (m:=pyNext (.ref I)) (Wk.done s _ _ st λs' mv=>?_);refine B0 (fin s' (mv.mono sub) ?_);obtain⟨o,es,ep,t,ho,more⟩:=so;exact⟨o,es,ep,t,mv.heap S _ nw ho,more⟩
 | succ k ih =>
  intro i s hk hi st so fin;have lt:i<n:=by omega
  refine l4 Ep ?_;rw[x5 Av _];refine A2 (m:=pyNext (.ref I)) (Wk.item i s _ _ lt st λv s' pv' st' mv=>?_);obtain⟨kv,sc⟩:=hv i v pv'
  have so':s'.heap.SetOf (K2 prog w) S (λq=>(met val i).any (λy=>decide (y=q))) (met val i).length:=by
   obtain⟨o,es,ep,t,ho,more⟩:=so;exact⟨o,es,ep,t,mv.heap S _ nw ho,more⟩
  refine A2 (m:=X2 [v] (setAdd S v)) (M8 ?_);unfold setAdd;refine M8 (A2 ((K2 prog w).pyHash (k:=val i) kv ?_));have rm:(met val i).length+1<scanBound:=by have:=Du val i;omega
  refine wpAny_setAddHashed_of (knd:=K2 prog w) (s:={ s' with toks:=s'.toks+1 }) kv sc so' rm λh' sb so2=>?_
  have so3:h'.SetOf (K2 prog w) S (λq=>(met val (i+1)).any (λy=>decide (y=q))) (met val (i+1)).length:=by
   have e1:(λq=>(met val i).any (λy=>decide (y=q))||decide (q=val i))=λq=>(met val (i+1)).any (λy=>decide (y=q)):=funext λq=>(HK val i q).symm;rw[Fb,<- e1];exact so2
  refine B0 ⟨w6 Av _,ih (i+1) _ (by omega) lt (Wk.frame _ s' _ _ st' (CF _) λb hb o e=>?_) so3 λs2 mv2 so4=>?_⟩
  ·rw[sb.2 b (λz:b=S=>nf (by rw[<- z];exact hb))];exact e
  ·refine fin s2 (Moved.trans Wk.gtrans ((mv.mono sub).then_heap (CF _) λb o hb e=>?_) mv2) so4;rw[sb.2 b (λz:b=S=>hb (by rw[z];exact C8))];exact e
end
section
variable {prog:D2}{w:C9}{A:D8}{E:A1->A6->Prop}{s:A6}
theorem Qt:isSubtype (.type "tuple") (.type "set")=pure false:=by rw[w4] <;> kernel_rfl
theorem Qu:isSubtype (.type "tuple") (.type "frozenset")=pure false:=by rw[w4] <;> kernel_rfl
theorem Qv:isSubtype (.type "list") (.type "set")=pure false:=by rw[w4] <;> kernel_rfl
theorem Qw:isSubtype (.type "list") (.type "frozenset")=pure false:=by rw[w4] <;> kernel_rfl
theorem Qx (x:A1){Q₁:A1->A6->Prop}
   (h:∀led:Bool,led=(!(w.params.followText "set-order"))->Q₁ (.ref s.heap.objs.size) { s with heap:=s.heap.push { cls:=.type "set",dict:=none,data:=.set #[] 0 (.fresh 0 0 led) } }) :
   O0 (A8 prog w) A (.call (.builtin "set.__new__") ⟨[.type "set",x],[]⟩) (wants Q₁ E) s:=by
 refine Ea (show A7 (A8 prog w) A.in1 (checkBuiltinCall "set.__new__" ⟨[.type "set",x],[]⟩>>=λ_=>again (.builtin "set.__new__" ⟨[.type "set",x],[]⟩)) _ _ s from ?_);refine A2 (U2 (F.newCall_set_1 x) (B0 ⟨w6 F.plain_set_new _,l4 F.entry_set_new ?_⟩));rw[x5 F.plain_set_new _];unfold N5.«set.__new__» Builtin.Frozenset.newClass;have ss:=sub_set_self;obtain⟨hp,gs,dr,tk,sy⟩:=s;dsimp only
 wp_walk
 refine DX (B0 ?_);dsimp only;unfold newObj;refine A2 (wpAny_alloc (B0 (B0 (h _ ?_))))
 first|rfl|simp
abbrev soN (led:Bool):Obj:={ cls:=.type "set",dict:=none,data:=.set #[] 0 (.fresh 0 0 led) }
theorem KQ {a:A0}{jf:Array A1}{Z:B7->Prop}{Q:A1->A6->Prop}(hd:A.handled=none)(ht:s.heap.IsList a jf\/s.heap.IsTuple a jf)
   (lp:∀(I:A0) (St:Nat->A6->Prop) (fp:List A0) (G:Array GenState->Array GenState->Prop) (s1:A6) (R:Result->A6->Prop) (led:Bool),led=(!(w.params.followText "set-order"))->s.heap.objs.size<I->
     WalksS prog w A.in1.in1.in1 I fp [I] G jf.size (λi v=>jf[i]?=some v) St->s.heap.objs.size∉fp->St 0 s1->s1.heap.get? s.heap.objs.size=some (soN led)->(∀b o,s.heap.get? b=some o->s1.heap.get? b=some o)->
     (∀s',Moved [s.heap.objs.size,I] G s1 s'->Z s'.heap->R (.ok (.ret .none)) s')->O0 (A8 prog w) A.in1.in1 (.builtin "set.update.loop" ⟨[.ref s.heap.objs.size,.ref I],[]⟩) R s1)
   (fin:∀(h':B7) (tk:Nat),Z h'->(∀b o,b<s.heap.objs.size->s.heap.get? b=some o->h'.get? b=some o)->Q (.ref s.heap.objs.size) { s with heap:=h',toks:=tk }):A7 (A8 prog w) A (call (.type "set") [.ref a]) Q E s:=by
 obtain⟨c,tl,mr⟩:=PySem.F.called_set.mro;have md:=PySem.F.called_set.made;have sb:=PySem.F.called_set.sub;refine wpAny_call (Ea (show A7 (A8 prog w) _ (callAny (.type "set") _) _ _ s from ?_));refine B0 ⟨Code.quiet_builtin _ (by decide +kernel),l4 PySem.F.entry_type_call ?_⟩;rw[Around.under_plain (weight_type_call_type "set" [.ref a] []) rfl];have x1:=PySem.F.called_set.notType;have x2:=PySem.F.called_set.canCreate;have x3:=PySem.F.typeCall_set_1 (.ref a)
 repeat (any_goals (first|wp_step|assumption))
 refine Ak (Qx (.ref a) (E:=E) (Q₁:=λob s₁=>∃led:Bool,led=(!(w.params.followText "set-order"))/\ob=.ref s.heap.objs.size/\s₁={ s with heap:=s.heap.push (soN led) }) λled hl=>⟨led,hl,rfl,rfl⟩) λr s₁ hr=>?_;cases r with
 |error e=>exact hr
 | ok fl =>
  cases fl with
  | ret ob =>
   obtain⟨led,hled,rfl,rfl⟩:=hr;have g0:(s.heap.push (soN led)).get? s.heap.objs.size=some (soN led):=G7 _ rfl;have ty:Shared.TypeIs { s with heap:=s.heap.push (soN led) } (.ref s.heap.objs.size) "set":=⟨_,g0,rfl⟩;have y1:=PySem.F.called_set.init.lookup;have y2:=PySem.F.called_set.init.bind (.ref s.heap.objs.size)
   repeat (any_goals (first|wp_step|assumption))
   refine Ak (codeAny_call_builtin (R:=wants (λr s₂=>r=.none/\∃h' tk,s₂={ s with heap:=h',toks:=tk }/\Z h'/\
       (∀b o,b<s.heap.objs.size->s.heap.get? b=some o->h'.get? b=some o)) E) PySem.F.called_set.init.plain PySem.F.entry_set_init (PySem.check_set_init_1 ty ?_)) λr₂ s₂ hr₂=>?_
   ·clear fin;have h3:A.in1.in1.in1.handled=none:=by simp[hd]
    unfold N5.«set.__init__» noKeywords Builtin.Frozenset.updateFrom;generalize hP:pyIter=PI;rcases ht with⟨⟨oc,od,odt,os⟩,ho,hc,nl,hdl⟩|⟨⟨oc,od,odt,os⟩,ho,hc,nl,hdl⟩ <;>
    ·cases hc;cases hdl;have ho':=C7 (soN led) ho;have z1:=Qv;have z2:=Qw;have z3:(M6 "list" == M6 "dict")=false:=by decide
     have z4:=Qt;have z5:=Qu;have z6:(M6 "tuple" == M6 "dict")=false:=by decide
     wp_walk
     subst hP;have la:a<s.heap.objs.size:=D1 ho;have n1:a≠(s.heap.push (soN led)).objs.size:=by rw[l7];exact E3 (o7 la)
     have lI:s.heap.objs.size<(s.heap.push (soN led)).objs.size:=by rw[l7];exact Nat.lt_succ_self _
     have n2:s.heap.objs.size∉[(s.heap.push (soN led)).objs.size,a]:=λz=>by
      rcases C3.mp z with z|z
      ·exact E3 lI z
      ·exact p5 la (J6.mp z)
     have en:∀{s1 s':A6} {G},Moved [s.heap.objs.size,(s.heap.push (soN led)).objs.size] G s1 s'->Z s'.heap->s1.gens=s.gens->s1.drawn=s.drawn->s1.os=s.os->(∀b o,s.heap.get? b=some o->s1.heap.get? b=some o)->(∀x y,G x y->y=x)->∃h' tk,s'={ s with heap:=h',toks:=tk }/\Z h'/\(∀b o,b<s.heap.objs.size->s.heap.get? b=some o->h'.get? b=some o):=by
      intro s1 s' G mv zz e1 e2 e3 kp hG;obtain⟨h',g',d',tk',os'⟩:=s';obtain rfl:g'=s.gens:=(hG _ _ mv.gens).trans e1;obtain rfl:d'=s.drawn:=mv.drawn.trans e2;obtain rfl:os'=s.os:=mv.os.trans e3;refine⟨h',tk',rfl,zz,λb o hb e=>mv.heap b o (λz=>?_) (kp _ _ e)⟩;rcases C3.mp z with z|z
      ·exact E3 hb z
      ·exact E3 (Bk hb lI) (J6.mp z)
     first
       | (refine Ba ⟨_,ho',rfl,nl,rfl⟩ (A2 (wpAny_runValue ?_))
          refine lp _ _ _ _ _ _ led hled lI ((Walks.list h3 _ a n1 jf).toS) n2 ⟨⟨_,G7 _ rfl,rfl,rfl⟩,⟨_,C7 _ ho',rfl,nl,rfl⟩⟩ (C7 _ g0) (λb o e=>C7 _ (C7 _ e)) λs' mv zz=>B0 (B0 ⟨rfl,?_⟩))
       | (refine wpAny_pyIter_tuple ⟨_,ho',rfl,nl,rfl⟩ (A2 (wpAny_runValue ?_))
          refine lp _ _ _ _ _ _ led hled lI ((Walks.tuple h3 _ a n1 jf).toS) n2 ⟨⟨_,G7 _ rfl,rfl,rfl⟩,⟨_,C7 _ ho',rfl,nl,rfl⟩⟩ (C7 _ g0) (λb o e=>C7 _ (C7 _ e)) λs' mv zz=>B0 (B0 ⟨rfl,?_⟩))
     exact en mv zz rfl rfl rfl (λb o e=>C7 _ (C7 _ e)) λ_ _ e=>e
   ·cases r₂ with
    |error e=>exact hr₂
    | ok fl₂ =>
     cases fl₂ with
     | ret r =>
      obtain⟨rfl,h',tk,rfl,so',kp⟩:=hr₂
      repeat (any_goals (first|wp_step|assumption))
      exact fin _ _ so' kp
     |_=>exact hr₂.elim
  |_=>exact hr.elim
theorem set_of {h:B7}{S:A0}{val:Nat->Key}{led:Bool}(g1:h.get? S=some (soN led)):h.SetOf (K2 prog w) S (λq=>(met val 0).any (λy=>decide (y=q))) (met val 0).length:=by
 refine⟨soN led,#[],0,.fresh 0 0 led,g1,⟨rfl,rfl,rfl⟩,rfl,λe he=>(nomatch he),λk=>⟨λz=>(nomatch z),λ⟨e,he,_⟩=>(nomatch he)⟩,by decide,?_,rfl⟩;cases led <;> decide
theorem KR {a:A0}{jf:Array A1}{val:Nat->Key}{Q:A1->A6->Prop}(hd:A.handled=none)(ht:s.heap.IsList a jf\/s.heap.IsTuple a jf)(hv:∀(i:Nat) (v:A1),jf[i]?=some v->(K2 prog w).is (val i) v=true/\v.scannable=true)(room:jf.size+1<scanBound)
   (fin:∀(h':B7) (tk:Nat),h'.SetOf (K2 prog w) s.heap.objs.size (λq=>(met val jf.size).any (λy=>decide (y=q))) (met val jf.size).length->
     (∀b o,b<s.heap.objs.size->s.heap.get? b=some o->h'.get? b=some o)->Q (.ref s.heap.objs.size) { s with heap:=h',toks:=tk }):A7 (A8 prog w) A (call (.type "set") [.ref a]) Q E s:=
 KQ hd ht (λI St fp G s1 R led _ _ Wk nf h0 g1 _ k=>Qs Wk _ nf val hv room (jf.size-0) 0 s1 rfl (K4 _) h0 (set_of g1) k) fin
end
end L2
end
section
namespace L2
open PySem PySem.Spec PyProof.Rows
def K7 (ys:List Str)(i:Nat):Key:=E2 (ys.getD i (A5 ""))
def SetX (X:Cx)(p:A0)(S:Key->Bool)(n:Nat):HO:=.ext λh=>h.SetOf (K2 X.prog X.w) p S n
theorem KS {ys:List Str}{us:List A1}(r:Vals (ys.map V.str) us){i:Nat}{u:A1}(h:us[i]?=some u):∃t,u=.str (ys.getD i (A5 "")) t:=by
 obtain⟨hi,e⟩:=J5.mp h;obtain⟨x,ex,rx⟩:=r.getE hi;rw[G0] at ex;cases ey:ys[i]? with
 |none=>rw[ey] at ex;cases ex
 | some y =>
  rw[ey] at ex;cases ex;obtain⟨t,et⟩:=rx;refine⟨t,?_⟩;rw[<- e,et,List.getD,ey]
  rfl
section
variable {X:Cx}
theorem Qy (hc:X.calm=true):M4 X (.type "set") (λvs H Q=>∃(a:A0) (ys:List Str),vs=[.ref a]/\SqT X.K H a (ys.map V.str)/\ys.length<=1000/\∀p,H p=none->Q (.ref p) (upd H p (SetX X p (λq=>(met (K7 ys) ys.length).any (λy=>decide (y=q))) (met (K7 ys) ys.length).length))):=by
 intro jb s σ H vs us Q I rv h;obtain⟨a,ys,rfl,hq,hl,k⟩:=h;obtain⟨u,rfl,ru⟩:=rv.one;obtain rfl:u=.ref a:=ru;obtain⟨jf,r,ht,_⟩:=I.tuple hq;have sz:jf.toArray.size=ys.length:=by have:=r.length;rw[B6] at this;simpa using this.symm
 refine KR (val:=K7 ys) (I.ok.hd hc) (.inr ht) (λi v e=>?_) (by rw[sz];unfold scanBound;omega) λh' tk so kp=>?_
 ·obtain⟨t,rfl⟩:=KS r (by simpa using e);exact⟨ED _ _ _ _,rfl⟩
 ·rw[sz] at so
  have I1:Inv X jb σ (upd H s.heap.objs.size (SetX X s.heap.objs.size (λq=>(met (K7 ys) ys.length).any (λy=>decide (y=q))) (met (K7 ys) ys.length).length)) { s with heap:=h',toks:=tk }:=
   I.laid (fun b o e=>kp b o (D1 e) e) (B8 _) ⟨so,by obtain⟨o,_,_,_,e,_⟩:=so;exact⟨o,e⟩,fun h1 h2 x k2=>by
    obtain⟨o,es,ep,t,e,more⟩:=x
    exact⟨o,es,ep,t,k2 o e,more⟩⟩
  exact⟨.ref s.heap.objs.size,_,I1,rfl,k _ (I.hok.fresh (B8 _))⟩
theorem KU:M4 X (.builtin "len") (λvs H Q=>∃p S n,vs=[.ref p]/\H p=some (SetX X p S n)/\Q (.int n) H):=by
 intro jb s σ H vs us Q I rv h;obtain⟨p,S,n,rfl,e,q⟩:=h;obtain⟨u,rfl,ru⟩:=rv.one;obtain rfl:u=.ref p:=ru;obtain⟨so,_,_⟩:=I.hok p _ e;obtain⟨o,es,ep,t,ho,hex,hd,_,_,hb,hf,hn⟩:=so;refine call_len_set ho hex hd hf (by unfold scanBound at hb;omega) ⟨.int n,H,I.tok _,⟨_,by rw[hn]⟩,q⟩
end
end L2
namespace Pu
open PySem PySem.Spec L2
section
variable {T:PotK}{ι:Type}{K:A9}{F:ι->Cx}{pos:Pos}
def Dv:w1:=λx R=>match x with|.tup xs=>(match R8 xs with|some ys=>ys.length<=1000/\R (.int (met (K7 ys) ys.length).length)|none=>False)|_=>False
end
end Pu
end
section
namespace Pu
open PySem PySem.Spec L2
theorem KW (x:Str)(l u:Option Int):V7 x l u=EC x l u:=rfl
theorem Qz (x:Str){p:Nat}(h:p<=x.length):(V7 x none (some (p:Int))).cps.toList=x.cps.toList.take p:=by
 rw[KW]
 have e:EC x none (some (p:Int))=EC x (some ((0:Nat):Int)) (some (p:Int)):=by
  unfold EC;rw[StrLaws.sliceIdx_none_lo];rfl
 rw[e,StrLaws.sliceText_nat x (K4 _) h];simp
def Ltr (c:Nat):Prop:=97<=c/\c<=122
def O8 (z:Str):Prop:=1<=z.cps.toList.length/\z.cps.toList.length<=8/\∀c∈z.cps.toList,Ltr c
abbrev LETS:Str:=A5 "abcdefghijklmnopqrstuvwxyz"
theorem QB:LETS.cps.toList=(E9 26).map (97 + ·):=by decide +kernel
theorem KY:LETS.length=26:=by decide +kernel
theorem KZ {d:Int}(d0:0<=d)(d1:d<26):atI LETS.cps.toList d=some (97+d.toNat):=by
 obtain⟨x,e1,e2⟩:=GX (xs:=LETS.cps.toList) d0 (by rw[<- AF,KY];exact d1);rw[e2,<- e1,QB,G0,List.getElem?_range (by omega)]
 rfl
theorem K_ (val:Nat->Key)(k:Key):∀i,(met val i).any (λy=>decide (y=k))=true->∃j,j<i/\k=val j
 |0,h=>by simp[met] at h
 | i + 1, h => by
  rw[HK,Ei] at h;rcases h with h|h
  ·obtain⟨j,hj,e⟩:=K_ val k i h;exact⟨j,by omega,e⟩
  ·exact⟨i,by omega,ju h⟩
theorem HL (ys:List Str)(h:ys.Nodup):∀n,n<=ys.length->(met (K7 ys) n).length=n
 |0,_=>rfl
 | n + 1, hn => by
  have ih:=HL ys h n (by omega);rw[Fb,jt,ih];intro z;obtain⟨j,hj,e⟩:=K_ _ _ n z
  have kat:∀m,(hm:m<ys.length)->K7 ys m=E2 ys[m]:=λm hm=>by
   unfold K7;rw[List.getD,D4 hm];rfl
  rw[kat n (by omega),kat j (by omega)] at e;have e2:ys[n]'(by omega)=ys[j]'(by omega):=Sum.inr.inj e;exact(V6.mp h j n (by omega) (by omega) hj) e2.symm
theorem QC {α:Type}{zs:List α}(h:zs.Nodup){z:α}(hz:z∉zs)(j:Nat):(zs.set j z).Nodup:=by
 refine V6.mpr λa b ha hb hab=>?_;rw[L4] at ha hb;rw[List.getElem_set,List.getElem_set]
 split
 ·split
  ·omega
  ·intro e;exact hz (e▸U5 hb)
 ·split
  ·intro e;exact hz (e▸U5 ha)
  ·exact V6.mp h a b ha hb hab
end Pu
end
section
namespace L2
open PySem PySem.Spec PyProof.Rows
def ItB (b:Bool)(h:B7)(it l:A0)(i:Nat):Prop:=match b with|true=>h.IsListIter it l i|false=>h.IsTupleIter it l i
def SeB (b:Bool)(h:B7)(l:A0)(items:Array A1):Prop:=match b with|true=>h.IsList l items|false=>h.IsTuple l items
theorem ItB.at {b:Bool}{h h':B7}{it l:A0}{i:Nat}(x:ItB b h it l i)(e:∀o,h.get? it=some o->h'.get? it=some o):ItB b h' it l i:=by
 cases b with
 |true=>exact(show h.IsListIter it l i from x).at e
 |false=>exact(show h.IsTupleIter it l i from x).at e
theorem SeB.at (x:SeB b h l items)(e:∀o,h.get? l=some o->h'.get? l=some o):SeB b h' l items:=by
 cases b with
 |true=>exact(show h.IsList l items from x).at e
 |false=>exact(show h.IsTuple l items from x).at e
theorem ItB.obj (x:ItB b h it l i):∃o,h.get? it=some o/\(o.cls=.type "list_iterator"\/o.cls=.type "tuple_iterator")/\∀v,o.data≠.cell v:=by
 cases b with
 |true=>obtain⟨o,e,c,d⟩:=(show h.IsListIter it l i from x);exact⟨o,e,.inl c,λv z=>by rw[d] at z;cases z⟩
 |false=>obtain⟨o,e,c,d⟩:=(show h.IsTupleIter it l i from x);exact⟨o,e,.inr c,λv z=>by rw[d] at z;cases z⟩
theorem SeB.obj (x:SeB b h l items):∃o,h.get? l=some o/\(o.cls=.type "list"\/o.cls=.type "tuple"):=by
 cases b with
 |true=>obtain⟨o,e,c,d⟩:=(show h.IsList l items from x);exact⟨o,e,.inl c⟩
 |false=>obtain⟨o,e,c,d⟩:=(show h.IsTuple l items from x);exact⟨o,e,.inr c⟩
theorem ItB.ne (x:ItB b h it l i)(y:SeB b' h a items):a≠it:=λz=>by
 obtain⟨o,e,c,_⟩:=x.obj;obtain⟨o',e',c'⟩:=y.obj;rw[z,e] at e';cases e';rcases c with c|c <;> rcases c' with c'|c' <;> (rw[c] at c';exact absurd c' (by decide))
section
variable {prog:D2}{w:C9}{A:D8}{E:A1->A6->Prop}{s:A6}
theorem QD (hit:s.heap.IsTupleIter it t i)(ht:s.heap.IsTuple t items)(hx:items[i]?=some x)
   (hQ:∀h',h'.IsTupleIter it t (i+1)->V4 it s.heap h'->Q x { s with heap:=h' }):A7 (A8 prog w) A (d9 (.ref it)) Q E s:=by
 obtain⟨oi,hoi,hci,hdi⟩:=id hit;obtain⟨ot,hot,_,nt,hdt⟩:=ht;have ty:=hit.typeIs;unfold d9
 refine A2 (Z8 (name:=A5 "__next__") ty Et
   (R5 Et ty F.entry_tuple_iterator_next ?_ (F.args_tuple_iterator_next_1 _)))
 show A7 _ _ (field (.ref it) 0>>=_) _ _ s;refine A2 (Q4 hoi hdi (x:=.ref t) rfl ?_);show A7 _ _ (if(M3 t == T7)=true then _ else _) _ _ s;rw[jt (show ¬((M3 t == T7)=true) from O2)];show A7 _ _ (field (.ref it) 1>>=_) _ _ s;refine A2 (Q4 hoi hdi (x:=.int i 0) rfl ?_);show A7 _ _ (seqItems? (.ref t)>>=_) _ _ s;refine A2 (X0 hot hdt ?_);simp only[O4,hx];refine A2 (w5 hoi hdi (by simp) (B0 ⟨x,rfl,B0 (hQ _ ?_ (R7 ..))⟩));exact⟨_,Bd _ hoi (Obj.isFreed_of_fields (Em hdi _)),(Obj.cls_mapFields ..).trans hci,by rw[Em hdi];simp[rawInt]⟩
theorem QF (hh:A.handled=none)(hit:s.heap.IsTupleIter it t i)(ht:s.heap.IsTuple t items)(hx:items[i]?=none)
   (hE:∀h' e,Heap.ExtBut it s.heap h'->(∃o,h'.get? e=some o/\o.cls=.type "StopIteration")->E (.ref e) { s with heap:=h' }):A7 (A8 prog w) A (d9 (.ref it)) Q E s:=by
 obtain⟨oi,hoi,hci,hdi⟩:=id hit;obtain⟨ot,hot,_,nt,hdt⟩:=ht;have ty:=hit.typeIs;unfold d9
 refine A2 (Z8 (name:=A5 "__next__") ty Et
   (R5 Et ty F.entry_tuple_iterator_next ?_ (F.args_tuple_iterator_next_1 _)))
 show A7 _ _ (field (.ref it) 0>>=_) _ _ s;refine A2 (Q4 hoi hdi (x:=.ref t) rfl ?_);show A7 _ _ (if(M3 t == T7)=true then _ else _) _ _ s;rw[jt (show ¬((M3 t == T7)=true) from O2)];show A7 _ _ (field (.ref it) 1>>=_) _ _ s;refine A2 (Q4 hoi hdi (x:=.int i 0) rfl ?_);show A7 _ _ (seqItems? (.ref t)>>=_) _ _ s;refine A2 (X0 hot hdt ?_);simp only[O4,hx];refine A2 (b8 (A2 (w5 hoi hdi (by simp) ?_)));show A7 _ _ (newExc (.type "StopIteration") []>>=_) _ _ _;refine A2 ?_;simp only[newExc,newTuple];refine A2 (T9 ?_ (by size_fits));refine A2 (m:=firstArgMember _ _) (U2 (a:=T7) (by first|rfl|(simp only[firstArgMember];rfl)) ?_);refine T9 ?_ (by size_fits);simp only[raiseNew];refine A2 (wpAny_handled ?_)
 first|rw[show A.in1.handled=none from hh]|rw[hh]
 refine A2 (B0 (wpAny_throw ?_));exact hE _ _ (((R7 ..).extBut.push _).push _) ⟨_,G7 _ rfl,rfl⟩
theorem HM (hit:ItB b s.heap it t i)(ht:SeB b s.heap t items)(hx:items[i]?=some x)
   (hQ:∀h',ItB b h' it t (i+1)->V4 it s.heap h'->Q x { s with heap:=h' }):A7 (A8 prog w) A (d9 (.ref it)) Q E s:=by
 cases b with
 |true=>exact wpAny_nextOf_list_item hit ht hx hQ
 |false=>exact QD hit ht hx hQ
theorem La (hh:A.handled=none)(hit:ItB b s.heap it t i)(ht:SeB b s.heap t items)(hx:items[i]?=none)
   (hE:∀h' e,Heap.ExtBut it s.heap h'->(∃o,h'.get? e=some o/\o.cls=.type "StopIteration")->E (.ref e) { s with heap:=h' }):A7 (A8 prog w) A (d9 (.ref it)) Q E s:=by
 cases b with
 |true=>exact wpAny_nextOf_list_end hh hit ht hx hE
 |false=>exact QF hh hit ht hx hE
end
def SqB (b:Bool)(K:A9)(H:Hp)(a:A0)(xs:List V):Prop:=match b with|true=>SqL K H a xs|false=>SqT K H a xs
section
variable {X:Cx}
theorem Inv.seqB (I:Inv X jb σ H s)(h:SqB b X.K H a xs):∃jf:List A1,Vals xs jf/\SeB b s.heap a jf.toArray/\xs.length<=C2:=by
 cases b with
 |true=>obtain⟨jf,r,p,z⟩:=I.list h;exact⟨jf,r,p.isList,z⟩
 |false=>obtain⟨jf,r,p,z⟩:=I.tuple h;exact⟨jf,r,p,z⟩
theorem Inv.seqB_inj (I:Inv X jb σ H s)(h:SqB b X.K H a xs)(h':SqB b X.K H a ys):xs=ys:=by
 cases b with
 |true=>exact I.list_inj h h'
 |false=>exact I.tuple_inj h h'
end
end L2
end
section
namespace L2
open PySem PySem.Spec PyProof.Rows
section
variable {prog:D2}{w:C9}{A:D8}{E:A1->A6->Prop}{s:A6}
structure ZAp (z TI TO i1 i2:A0):Prop where
 a1:TI≠z
 a2:TO≠z
 a3:i1≠z
 a4:i2≠z
 a5:TI≠TO
 a6:TI≠i1
 a7:TI≠i2
 a8:TO≠i1
 a9:TO≠i2
 a10:i1≠i2
theorem QH {z TI TO i1 i2 l1 l2:A0}{Q:A1->A6->Prop}(D:ZAp z TI TO i1 i2)(m1:l1≠z)(m2:l2≠z)(m3:l1≠TO)(m4:l2≠TO)(m5:l1≠i1)(m6:l2≠i1)
   (hz:IsZip s.heap z TI TO .none) (hTI:IsPair s.heap TI (.ref i1) (.ref i2)) (hTO:IsPair s.heap TO a b) (h1:ItB b1 s.heap i1 l1 k) (h2:ItB b2 s.heap i2 l2 k) (hl1:SeB b1 s.heap l1 xs) (hl2:SeB b2 s.heap l2 ys) (hx:xs[k]?=some x) (hy:ys[k]?=some y)
   (hQ:∀h',IsZip h' z TI TO (rawInt s.heap.objs.size)->IsPair h' TO x y->ItB b1 h' i1 l1 (k+1)->ItB b2 h' i2 l2 (k+1)->IsPair h' s.heap.objs.size x y->
     (∀c o,c≠z->c≠TO->c≠i1->c≠i2->s.heap.get? c=some o->h'.get? c=some o)->Q (.ref s.heap.objs.size) { s with heap:=h' }) :
   A7 (A8 prog w) A (N5.«zip.__next__» ⟨[.ref z],[]⟩) (λfin s'=>∃v,fin=.done (.ret v)/\Q v s') E s:=by
 show A7 _ _ (field (.ref z) 2>>=_) _ _ _;refine A2 (Q4 hz rfl (x:=.bool false) rfl ?_);show A7 _ _ (field (.ref z) 3>>=_) _ _ _;refine A2 (Q4 hz rfl (x:=.ref TI) rfl (A2 (X0 hTI rfl ?_)));show A7 _ _ (Eo (.ref z)>>=_) _ _ _;refine A2 ?_;unfold Eo;refine A2 (Q4 hz rfl (x:=.none) rfl (B0 ?_));simp only[if_true];refine A2 (b8 (A2 (Q4 hz rfl (x:=.ref TO) rfl (A2 (A_ hz (by simp) λg1 z1 s1=>?_)))))
 replace z1:IsZip g1 z TI TO .ellipsis:=z1
 refine A2 ?_;simp only[List.zipIdx_cons,List.zipIdx_nil,List.forIn_cons,List.forIn_nil];refine A2 (A2 (wpAny_onRaise ?_));show A7 _ _ (d9 (.ref i1)>>=_) _ _ _;refine A2 (HM (s:={ s with heap:=g1 }) (h1.at λo e=>s1.extBut _ o D.a3 e) (hl1.at λo e=>s1.extBut _ o m1 e) hx λg2 j2 s2=>B0 ?_);have t2:IsPair g2 TO a b:=s2.extBut _ _ D.a8 (s1.extBut _ _ D.a2 hTO);refine A2 (X0 t2 rfl (A2 (wpAny_updateSeq_pair (s:={ s with heap:=g2 }) t2 λg3 t3 s3=>A2 (wpAny_letGo (B0 ?_)))))
 replace t3:IsPair g3 TO x b:=t3
 refine A2 (A2 (wpAny_onRaise ?_));show A7 _ _ (d9 (.ref i2)>>=_) _ _ _;have up3:∀c o,c≠z->c≠i1->c≠TO->s.heap.get? c=some o->g3.get? c=some o:=λc o c1 c2 c3 e=>s3.extBut _ o c3 (s2.extBut _ o c2 (s1.extBut _ o c1 e));refine A2 (HM (s:={ s with heap:=g3 }) (h2.at λo e=>up3 _ o D.a4 D.a10.symm D.a9.symm e) (hl2.at λo e=>up3 _ o m2 m6 m4 e) hy λg4 j4 s4=>B0 ?_);have t4:IsPair g4 TO x b:=s4.extBut _ _ D.a9 t3;refine A2 (X0 t4 rfl (A2 (wpAny_updateSeq_pair (s:={ s with heap:=g4 }) t4 λg5 t5 s5=>A2 (wpAny_letGo (B0 (B0 ?_))))))
 replace t5:IsPair g5 TO x y:=t5
 refine A2 (X0 t5 rfl (A2 (wpAny_newTuple ?_)));have hsz:g5.objs.size=s.heap.objs.size:=by rw[s5.1,s4.1,s3.1,s2.1,s1.1]
 have z5:IsZip g5 z TI TO .ellipsis:=s5.extBut _ _ D.a2.symm (s4.extBut _ _ D.a4.symm (s3.extBut _ _ D.a2.symm (s2.extBut _ _ D.a3.symm z1)));have up5:∀c o,c≠z->c≠TO->c≠i1->c≠i2->s.heap.get? c=some o->g5.get? c=some o:=λc o c1 c2 c3 c4 e=>s5.extBut _ _ c2 (s4.extBut _ _ c4 (up3 c o c1 c3 c2 e));have j1:ItB b1 g5 i1 l1 (k+1):=j2.at λo e=>s5.extBut _ o D.a8.symm (s4.extBut _ o D.a10 (s3.extBut _ o D.a8.symm e));have j5:ItB b2 g5 i2 l2 (k+1):=j4.at λo e=>s5.extBut _ o D.a9.symm e;have zlt:z<g5.objs.size:=D1 z5;show A7 _ _ (Jo (.ref z) (.ref g5.objs.size)>>=_) _ _ _;refine A2 ?_;unfold Jo;have z6:IsZip (g5.push { cls:=.type "tuple",data:=.seq #[x,y] }) z TI TO .ellipsis:=C7 _ z5;refine A2 (A_ z6 (by simp) λg7 z7 s7=>?_)
 replace z7:IsZip g7 z TI TO (rawInt g5.objs.size):=z7
 refine A_ z7 (by simp) λg8 z8 s8=>?_
 replace z8:IsZip g8 z TI TO (rawInt g5.objs.size):=z8
 have up8:∀c o,c≠z->g5.get? c=some o->g8.get? c=some o:=λc o c1 e=>s8.extBut _ _ c1 (s7.extBut _ _ c1 (C7 _ e));have t8:IsPair g8 g5.objs.size x y:=s8.extBut _ _ (p5 zlt) (s7.extBut _ _ (p5 zlt) (G7 _ rfl));rw[hsz] at z8 t8;refine B0 ⟨_,rfl,?_⟩;show Q (.ref g5.objs.size) _;rw[hsz];exact hQ g8 z8 (up8 _ _ D.a2 t5) (j1.at λo e=>up8 _ o D.a3 e) (j5.at λo e=>up8 _ o D.a4 e) t8 λc o c1 c2 c3 c4 e=>up8 c o c1 (up5 c o c1 c2 c3 c4 e)
theorem zipEnd {z TI TO i1 i2 l1 l2:A0}(hh:A.handled=none)(D:ZAp z TI TO i1 i2)(m1:l1≠z)(m2:l2≠z)(m3:l1≠TO)(m4:l2≠TO)(m5:l1≠i1)(m6:l2≠i1)
   (hz:IsZip s.heap z TI TO .none) (hTI:IsPair s.heap TI (.ref i1) (.ref i2)) (hTO:IsPair s.heap TO a b) (h1:ItB b1 s.heap i1 l1 k) (h2:ItB b2 s.heap i2 l2 k) (hl1:SeB b1 s.heap l1 xs) (hl2:SeB b2 s.heap l2 ys) (hend:xs[k]?=none\/ys[k]?=none)
   (hE:∀h' e,(∀c o,c≠z->c≠TO->c≠i1->c≠i2->s.heap.get? c=some o->h'.get? c=some o)->(∃o,h'.get? e=some o/\o.cls=.type "StopIteration")->E (.ref e) { s with heap:=h' }) :
   A7 (A8 prog w) A (N5.«zip.__next__» ⟨[.ref z],[]⟩) Q E s:=by
 show A7 _ _ (field (.ref z) 2>>=_) _ _ _;refine A2 (Q4 hz rfl (x:=.bool false) rfl ?_);show A7 _ _ (field (.ref z) 3>>=_) _ _ _;refine A2 (Q4 hz rfl (x:=.ref TI) rfl (A2 (X0 hTI rfl ?_)));show A7 _ _ (Eo (.ref z)>>=_) _ _ _;refine A2 ?_;unfold Eo;refine A2 (Q4 hz rfl (x:=.none) rfl (B0 ?_));simp only[if_true];refine A2 (b8 (A2 (Q4 hz rfl (x:=.ref TO) rfl (A2 (A_ hz (by simp) λg1 z1 s1=>?_)))))
 replace z1:IsZip g1 z TI TO .ellipsis:=z1
 refine A2 ?_;simp only[List.zipIdx_cons,List.zipIdx_nil,List.forIn_cons,List.forIn_nil];refine A2 (A2 (wpAny_onRaise ?_));show A7 _ _ (d9 (.ref i1)>>=_) _ _ _;have h1':ItB b1 g1 i1 l1 k:=h1.at λo e=>s1.extBut _ o D.a3 e;have hl1':SeB b1 g1 l1 xs:=hl1.at λo e=>s1.extBut _ o m1 e
 have nz:∀{g:B7} {e:A0} {o:Obj},IsZip g z TI TO .ellipsis->g.get? e=some o->o.cls=.type "StopIteration"->e≠z:=λ{g e o} hz ho hc x=>by
  subst x;rw[hz] at ho;cases ho;exact absurd (show M6 "zip"=M6 "StopIteration" from hc) (by decide)
 cases hx:xs[k]? with
 | none =>
  refine A2 (La (s:={ s with heap:=g1 }) hh h1' hl1' hx λg2 e s2 ⟨oe,hoe,hce⟩=>?_);have z2:IsZip g2 z TI TO .ellipsis:=s2 _ _ D.a3.symm z1;exact A_ z2 (by simp) λg3 _ s3=>hE g3 e (λc o c1 _ c3 _ x=>s3.extBut _ _ c1 (s2 _ _ c3 (s1.extBut _ _ c1 x))) ⟨oe,s3.extBut _ _ (nz z2 hoe hce) hoe,hce⟩
 | some x =>
  have hy:ys[k]?=none:=hend.elim (λh=>by rw[hx] at h;cases h) id;refine A2 (HM (s:={ s with heap:=g1 }) h1' hl1' hx λg2 j2 s2=>B0 ?_);have t2:IsPair g2 TO a b:=s2.extBut _ _ D.a8 (s1.extBut _ _ D.a2 hTO);refine A2 (X0 t2 rfl (A2 (wpAny_updateSeq_pair (s:={ s with heap:=g2 }) t2 λg3 t3 s3=>A2 (wpAny_letGo (B0 ?_)))));refine A2 (A2 (wpAny_onRaise ?_));show A7 _ _ (d9 (.ref i2)>>=_) _ _ _;have up3:∀c o,c≠z->c≠i1->c≠TO->s.heap.get? c=some o->g3.get? c=some o:=λc o c1 c2 c3 e=>s3.extBut _ o c3 (s2.extBut _ o c2 (s1.extBut _ o c1 e));refine A2 (La (s:={ s with heap:=g3 }) hh (h2.at λo e=>up3 _ o D.a4 D.a10.symm D.a9.symm e) (hl2.at λo e=>up3 _ o m2 m6 m4 e) hy λg4 e s4 ⟨oe,hoe,hce⟩=>?_);have z4:IsZip g4 z TI TO .ellipsis:=s4 _ _ D.a4.symm (s3.extBut _ _ D.a2.symm (s2.extBut _ _ D.a3.symm z1));exact A_ z4 (by simp) λg5 _ s5=>hE g5 e (λc o c1 c2 c3 c4 x=>s5.extBut _ _ c1 (s4 _ _ c4 (up3 c o c1 c3 c2 x))) ⟨oe,s5.extBut _ _ (nz z4 hoe hce) hoe,hce⟩
end
def itO (b:Bool)(l:A0):Obj:=match b with|true=>{ cls:=.type "list_iterator",data:=.fields #[.ref l,.int 0 0] }|false=>{ cls:=.type "tuple_iterator",data:=.fields #[.ref l,.int 0 0] }
theorem Lb (b:Bool)(l:A0):(itO b l).isFreed=false:=by cases b <;> rfl
theorem Lc (e:h.get? a=some (itO b l)):ItB b h a l 0:=by
 cases b with
 |true=>exact⟨_,e,rfl,rfl⟩
 |false=>exact⟨_,e,rfl,rfl⟩
theorem iterO (ht:SeB b s.heap t items)(hQ:Q (.ref s.heap.objs.size) { s with heap:=s.heap.push (itO b t) }):A7 (A8 prog w) A (pyIter (.ref t)) Q E s:=by
 cases b with
 |true=>exact Ba ht hQ
 |false=>exact wpAny_pyIter_tuple ht hQ
abbrev zh2 (h:B7)(b1 b2:Bool)(l1 l2:A0):B7:=(h.push (itO b1 l1)).push (itO b2 l2)
abbrev zh3 (h:B7)(b1 b2:Bool)(l1 l2:A0):B7:=(zh2 h b1 b2 l1 l2).push { cls:=.type "tuple",data:=.seq #[.ref h.objs.size,.ref (h.push (itO b1 l1)).objs.size] }
abbrev zh4 (h:B7)(b1 b2:Bool)(l1 l2:A0):B7:=(zh3 h b1 b2 l1 l2).push { cls:=.type "tuple",data:=.seq #[.none,.none] }
abbrev zh5 (h:B7)(b1 b2:Bool)(l1 l2:A0):B7:=(zh4 h b1 b2 l1 l2).push { cls:=.type "zip",data:=.fields #[.none,.bool false,.bool false,.ref (zh2 h b1 b2 l1 l2).objs.size,.ref (zh3 h b1 b2 l1 l2).objs.size] }
theorem zipNew (b1 b2:Bool)(l1 l2:A0)(xs ys:Array A1) :
   Meets (N5.«zip.__new__» ⟨[.type "zip",.ref l1,.ref l2],[]⟩) (λ_ R s=>SeB b1 s.heap l1 xs/\SeB b2 s.heap l2 ys/\R (.ok (.ret (.ref (zh4 s.heap b1 b2 l1 l2).objs.size))) { s with heap:=zh5 s.heap b1 b2 l1 l2 }):=
 .of_wp λprog w A R s hyp=>by
  obtain⟨hp,g,d,tk,os⟩:=s;obtain⟨k1,k2,fin⟩:=hyp;have hsub:=sub_zip;have L1:SeB b1 (Shared.heap ⟨hp,g,d,tk,os⟩) l1 xs:=k1;have L2:SeB b2 (Shared.heap ⟨hp.push (itO b1 l1),g,d,tk,os⟩) l2 ys:=k2.at λo e=>C7 _ e
  wp_walk using iterO L1,iterO L2
  exact⟨_,rfl,fin⟩
section
variable {prog:D2}{w:C9}{A:D8}{E:A1->A6->Prop}{s:A6}
theorem zipB (hl1:SeB b1 s.heap l1 xs)(hl2:SeB b2 s.heap l2 ys)
   (h:∀h',IsZip h' (s.heap.objs.size+4) (s.heap.objs.size+2) (s.heap.objs.size+3) .none->IsPair h' (s.heap.objs.size+2) (.ref s.heap.objs.size) (.ref (s.heap.objs.size+1))->
     IsPair h' (s.heap.objs.size+3) .none .none->ItB b1 h' s.heap.objs.size l1 0->ItB b2 h' (s.heap.objs.size+1) l2 0->(∀c o,s.heap.get? c=some o->h'.get? c=some o)->Q (.ref (s.heap.objs.size+4)) { s with heap:=h' }) :
   A7 (A8 prog w) A (call (.type "zip") [.ref l1,.ref l2]) Q E s:=by
 refine callType_new F.called_zip (by decide) (F.typeCall_zip_2 _ _) (F.newCall_zip_2 _ _) (λobj=>F.args_object_init_3 obj _ _) F.entry_zip_new (zipNew b1 b2 l1 l2 xs ys) ⟨hl1,hl2,?_⟩;have z1:(s.heap.push (itO b1 l1)).objs.size=s.heap.objs.size+1:=l7 ..;have z2:(zh2 s.heap b1 b2 l1 l2).objs.size=s.heap.objs.size+2:=by rw[l7,z1]
 have z3:(zh3 s.heap b1 b2 l1 l2).objs.size=s.heap.objs.size+3:=by rw[l7,z2]
 have z4:(zh4 s.heap b1 b2 l1 l2).objs.size=s.heap.objs.size+4:=by rw[l7,z3]
 have g5:(zh5 s.heap b1 b2 l1 l2).get? (zh4 s.heap b1 b2 l1 l2).objs.size=some _:=G7 _ rfl;have g4:(zh5 s.heap b1 b2 l1 l2).get? (zh3 s.heap b1 b2 l1 l2).objs.size=some _:=C7 _ (G7 _ rfl);have g3:(zh5 s.heap b1 b2 l1 l2).get? (zh2 s.heap b1 b2 l1 l2).objs.size=some _:=C7 _ (C7 _ (G7 _ rfl));have g2:(zh5 s.heap b1 b2 l1 l2).get? (s.heap.push (itO b1 l1)).objs.size=some _:=C7 _ (C7 _ (C7 _ (G7 _ (Lb b2 l2))));have g1:(zh5 s.heap b1 b2 l1 l2).get? s.heap.objs.size=some _:=C7 _ (C7 _ (C7 _ (C7 _ (G7 _ (Lb b1 l1)))));show _/\_;rw[z2,z3,z4] at g5;rw[z1,z2] at g3;rw[z3] at g4;rw[z1] at g2;rw[z4];exact⟨⟨_,g5,rfl⟩,h _ g5 g3 g4 (Lc g1) (Lc g2) λc o x=>C7 _ (C7 _ (C7 _ (C7 _ (C7 _ x))))⟩
end
section
variable {X:Cx}
def ItzB (b1 b2:Bool)(K:A9)(a c:A0):It:=
 ⟨λi H=>∃xs ys x y,SqB b1 K H a xs/\SqB b2 K H c ys/\xs[i]?=some x/\ys[i]?=some y,
  λi H x H'=>∃p u v,H p=none/\x=.ref p/\H'=upd H p (.tup [u,v])/\(∀xs,SqB b1 K H a xs->xs[i]?=some u)/\∀ys,SqB b2 K H c ys->ys[i]?=some v,
  λi H=>∃xs ys,SqB b1 K H a xs/\SqB b2 K H c ys/\min xs.length ys.length<=i⟩
theorem Fc (p:SeB b h l items)(he:h.get? e=some o)(hc:o.cls=.type n)(h1:n≠"list")(h2:n≠"tuple"):l≠e:=λz=>by
 obtain⟨o',e1,c1⟩:=p.obj;rw[z,he] at e1;cases e1;rw[hc] at c1;rcases c1 with c1|c1
 ·exact h1 (Value.type.inj c1)
 ·exact h2 (Value.type.inj c1)
theorem Fd {l z TI TO i1 i2:A0}(I:Inv X jb σ H s)(hf:∀d∈[z,TI,TO,i1,i2],FpOk X jb H d)(hTO:IsPair s.heap TO p q)(hq:SqB b X.K H l xs):l≠TO:=λzz=>by
 obtain⟨f0,f1,f2,f3,f4,f5⟩:=hf TO (by simp);subst zz;cases b with
 | true =>
  obtain⟨jf,_,pl,_⟩:=I.list hq;obtain⟨o,e,c1,_⟩:=pl.isList;rw[hTO] at e;cases e;exact absurd (show M6 "tuple"=M6 "list" from c1) (by decide)
 | false =>
  rcases hq with hq|⟨o,jf,n,hk,hc1,hs,hz,r⟩
  ·rcases hq with e|⟨o,e⟩
   ·rw[f0] at e;cases e
   ·rw[f0] at e;cases e
  ·have eb:X.base.get? l=some o:=I.ok.mod.kin l o hk;rcases f3 with f3|f3
   ·exact I.ok.noex l o eb f3
   ·exact absurd (L3 (D1 eb) (N6 I.ok.bsz f3)) (Y8 _)
theorem Inv.turnedAll {ch:List A0}(I:Inv X jb σ H s)(k:∀b o,b∉ch->s.heap.get? b=some o->h'.get? b=some o)(hf:∀b∈ch,FpOk X jb H b):Inv X jb σ H { s with heap:=h',toks:=t' }:=by
 have nch:∀b u,H b=some u->b∉ch:=λb u e z=>by rw[(hf b z).1] at e;cases e
 refine I.step (g':=s.gens) (d':=s.drawn) (ch:=ch) (λb hb=>⟨(hf b hb).2.2.2.1,(hf b hb).2.1,(hf b hb).2.2.2.2.1,(hf b hb).2.2.2.2.2⟩) (λb o _ _ hc e _=>k b o hc e) (λb o _ _ hc e _=>⟨o.slots,k b o hc e⟩) (λ_ _ _ _ n=>n)
   (λb o hc e=>⟨o,k b o hc e⟩) (λ_ _ e=>e) (λ_ _ _ e=>e) (λb ps e=>⟨#[],by rw[e];simp⟩) (λz=>z) (λm hm=>?_) (λb u e=>?_) I.bare
 ·obtain⟨o,es,ep,ho,r⟩:=hm;exact⟨o,es,ep,k _ o (λz=>(hf _ z).2.1 rfl) ho,r⟩
 ·refine(I.hok b u e).stay (λc v hc q=>k c v ?_ q) (λc q=>q) λc ys q=>q;rcases hc with z|z
  ·rw[z];exact nch b u e
  ·exact nch c _ z
theorem QJ {b1 b2:Bool}{P:D2}{w:C9}{K:A9}{elts:List Expr}{x1}{pos:Pos}(a c z TI TO i1 i2:A0)(D:ZAp z TI TO i1 i2) :
   Turn P w K (.Tuple elts x1 pos) (ItzB b1 b2 K a c) [z,TI,TO,i1,i2] z (λi h=>IsZip h z TI TO .none/\IsPair h TI (.ref i1) (.ref i2)/\(∃p q,IsPair h TO p q)/\ItB b1 h i1 a i/\ItB b2 h i2 c i) where
 mem:=by simp
 obj:=λi h st e he=>by
  obtain⟨hz,h1,⟨p,q,h2⟩,h3,h4⟩:=st;obtain⟨o3,e3,_,d3⟩:=h3.obj;obtain⟨o4,e4,_,d4⟩:=h4.obj;have he':e=z\/e=TI\/e=TO\/e=i1\/e=i2:=by simpa using he
  rcases he' with rfl|rfl|rfl|rfl|rfl
  ·exact⟨_,hz,λv z=>by cases z⟩
  ·exact⟨_,h1,λv z=>by cases z⟩
  ·exact⟨_,h2,λv z=>by cases z⟩
  ·exact⟨_,e3,d3⟩
  ·exact⟨_,e4,d4⟩
 keep:=λi h h' st k=>by
  obtain⟨hz,h1,⟨p,q,h2⟩,h3,h4⟩:=st;exact⟨k z (by simp) _ hz,k TI (by simp) _ h1,⟨p,q,k TO (by simp) _ h2⟩,h3.at λo e=>k i1 (by simp) o e,h4.at λo e=>k i2 (by simp) o e⟩
 item:=by
  intro X hP hw hK hc i jb s σ H E I hf st hg;subst hP hw hK;obtain⟨hz,hTI,⟨p,q,hTO⟩,h3,h4⟩:=st;obtain⟨xs,ys,x,y,hq1,hq2,hx,hy⟩:=hg;obtain⟨is1,rv1,p1,hz1⟩:=I.seqB hq1;obtain⟨is2,rv2,p2,hz2⟩:=I.seqB hq2;obtain⟨u,hu,ru⟩:=rv1.get hx;obtain⟨v,hv,rv⟩:=rv2.get hy;have ty:s.TypeIs (.ref z) "zip":=⟨_,hz,rfl⟩;unfold pyNext;refine A2 (Aj (Z8 (name:=A5 "__next__") ty Eu (R5 Eu ty F.entry_zip_next (QH D (Fc p1 hz rfl (by decide) (by decide)) (Fc p2 hz rfl (by decide) (by decide)) (Fd I hf hTO hq1) (Fd I hf hTO hq2) (h3.ne p1) (h3.ne p2) hz hTI hTO h3 h4 p1 p2 (by simpa using hu) (by simpa using hv) λh' a1 a2 a3 a4 a5 k=>B0 ?_) (F.args_zip_next_1 _))));refine⟨_,rfl,wpAny_letOwnedTupleGo_zip (s:={ s with heap:=h' }) a1 λh'' z'' sb=>?_⟩;have lt:∀{d:A0} {o:Obj},s.heap.get? d=some o->s.heap.objs.size≠d:=λe=>p5 (D1 e);have ht'':h''.get? s.heap.objs.size=some { cls:=.type "tuple",data:=.seq #[u,v] }:=(sb.2 _ (lt hz)).trans a5
  have k':∀d o,d∉[z,TI,TO,i1,i2]->s.heap.get? d=some o->h''.get? d=some o:=λd o hb q=>by
   have hb1:d≠z:=λe=>hb (by simp[e]);exact(sb.2 d hb1).trans (k d o hb1 (λe=>hb (by simp[e])) (λe=>hb (by simp[e])) (λe=>hb (by simp[e])) q)
  have I1:Inv X jb σ (upd H s.heap.objs.size (.tup [x,y])) { s with heap:=h'' }:=
   I.turnedNew (t':=s.toks) k' hf ⟨by show 2<=C2;decide,[u,v],.cons ru (.cons rv .nil),⟨_,ht'',rfl,_,rfl⟩⟩
  obtain⟨o3,e3,_,_⟩:=h3.obj;obtain⟨o4,e4,_,_⟩:=h4.obj
  refine⟨.ref s.heap.objs.size,_,I1,rfl,⟨_,x,y,I.fresh,rfl,rfl,λzs hzs=>by rw[I.seqB_inj hzs hq1];exact hx,λzs hzs=>by rw[I.seqB_inj hzs hq2];exact hy⟩,
   ⟨z'',sb.extBut _ _ D.a1 (k _ _ D.a1 D.a5 D.a6 D.a7 hTI),⟨u,v,sb.extBut _ _ D.a2 a2⟩,a3.at λo e=>sb.extBut _ o D.a3 e,a4.at λo e=>sb.extBut _ o D.a4 e⟩,λd hd=>?_⟩
  have hd':d=z\/d=TI\/d=TO\/d=i1\/d=i2:=by simpa using hd
  have hds:d≠s.heap.objs.size:=by
   rcases hd' with rfl|rfl|rfl|rfl|rfl
   ·exact(lt hz).symm
   ·exact(lt hTI).symm
   ·exact(lt hTO).symm
   ·exact(lt e3).symm
   ·exact(lt e4).symm
  rw[C4 hds];exact(hf d hd).1
 done:=by
  intro X hP hw hK hc i jb s σ H E I hf st hg;subst hP hw hK;obtain⟨hz,hTI,⟨p,q,hTO⟩,h3,h4⟩:=st;obtain⟨xs,ys,hq1,hq2,hmin⟩:=hg;obtain⟨is1,rv1,p1,hz1⟩:=I.seqB hq1;obtain⟨is2,rv2,p2,hz2⟩:=I.seqB hq2;have l1:=rv1.length;have l2:=rv2.length;have ty:s.TypeIs (.ref z) "zip":=⟨_,hz,rfl⟩
  have hend:is1.toArray[i]?=none\/is2.toArray[i]?=none:=by
   rcases Bm xs.length ys.length with h|h
   ·exact .inl (Go (by rw[F9];omega))
   ·exact .inr (Go (by rw[F9];omega))
  unfold pyNext;refine A2 (Aj (Z8 (name:=A5 "__next__") ty Eu (R5 Eu ty F.entry_zip_next (zipEnd (A:=X.A.in1) (I.ok.hd hc) D (Fc p1 hz rfl (by decide) (by decide)) (Fc p2 hz rfl (by decide) (by decide)) (Fd I hf hTO hq1) (Fd I hf hTO hq2) (h3.ne p1) (h3.ne p2) hz hTI hTO h3 h4 p1 p2 hend λh' e k he=>?_) (F.args_zip_next_1 _))));obtain⟨o,ho,hce⟩:=he;refine A2 (wpAny_isInstance (T:="StopIteration") (b:=true) ⟨o,ho,hce⟩ isSubtype_stop (B0 ⟨rfl,?_⟩));exact I.turnedAll (t':=s.toks) (ch:=[z,TI,TO,i1,i2]) (λd o hd e=>k d o (λz=>hd (by simp[z])) (λz=>hd (by simp[z])) (λz=>hd (by simp[z])) (λz=>hd (by simp[z])) e) hf
 self:=λ_ _ _ _ _ st h=>wpAny_pyIter_zip st.1 h
end
end L2
end
section
namespace L2
open PySem PySem.Spec PyProof.Rows
section
variable {X:Cx}
def iZipB (b1 b2:Bool)(K:A9)(ta:TA):TI:=λσ H R=>ta σ H λvs H1=>∃a c,vs=[.ref a,.ref c]/\(∃xs,SqB b1 K H1 a xs)/\(∃ys,SqB b2 K H1 c ys)/\R (ItzB b1 b2 K a c) H1
theorem QK (b1 b2:Bool){a b:Expr}{ta:TA}{p pos:Pos}{elts:List Expr}{x1}{tpos:Pos}(hg:Gl X "zip")(hm:X.mg "zip"=none)(ha:PA X [a,b] ta)(hs:E6 [a,b] X.env=[(false,eval a X.env),(false,eval b X.env)]:=by rfl)(hs2:E6 [b] X.env=[(false,eval b X.env)]:=by rfl) :
   PI X (.Tuple elts x1 tpos) (.Call (.Name "zip" p) [a,b] [] pos) (iZipB b1 b2 X.K ta):=by
 intro jb s σ H R I h;refine Call_ (x9 I hg hm boot_zip (CH (thn (ha pos jb s σ H _ I h) λus s1 ⟨vs,H1,I1,r1,q1⟩=>?_) (by rw[hs,hs2]) (by rw[hs2];rfl)));obtain⟨a,c,e,⟨xs,h1⟩,⟨ys,h2⟩,q⟩:=q1;subst e;cases r1 with
 | cons r rr =>
  cases rr with
  | cons r' rr =>
   cases rr;cases r;cases r';obtain⟨is1,rv1,p1,hz1⟩:=I1.seqB h1;obtain⟨is2,rv2,p2,hz2⟩:=I1.seqB h2;refine zipB p1 p2 λh' e1 e2 e3 e4 e5 hk=>?_;refine wpAny_pyIter_zip e1 ?_;have I2:Inv X jb σ H1 { s1 with heap:=h' }:=I1.kept (t':=s1.toks) hk;refine⟨s1.heap.objs.size+4,[s1.heap.objs.size+4,s1.heap.objs.size+2,s1.heap.objs.size+3,s1.heap.objs.size,s1.heap.objs.size+1],_,_,H1,rfl,I2,QJ a c _ _ _ _ _ ⟨by simp,by simp,by simp,by simp,by simp,by simp,by simp,by simp,by simp,by simp⟩,⟨e1,e2,⟨_,_,e3⟩,e4,e5⟩,λd hd=>?_,q⟩
   have hd':s1.heap.objs.size<=d:=by
    simp only[C3,P9,or_false] at hd;rcases hd with rfl|rfl|rfl|rfl|rfl <;> omega
   exact I1.fpOk hd' (I1.hok.fresh hd')
end
end L2
namespace Pu
open PySem PySem.Spec L2
section
variable {T:PotK}{ι:Type}{K:A9}{F:ι->Cx}{e a b tg:Expr}{pe pa pb:pE}{pos:Pos}
def zipP (xs ys:List PV):List PV:=(xs.zip ys).map λy=>.tup [y.1,y.2]
def BQ (b:Bool):PV->Option (List PV)
 |.lst xs=>if b then some xs else none
 |.tup xs=>if b then none else some xs
 |_=>none
theorem QM {b:Bool}(h:BQ b x=some xs):x=(match b with|true=>.lst xs|false=>.tup xs):=by
 cases x <;> cases b <;> simp[BQ] at h <;> simp[h]
theorem Ld {b:Bool}(h:BQ b x=some xs)(r:Rep K G H x v):∃a vs,v=.ref a/\a∉G.M/\Reps K G H xs vs/\∀H2,(∀c o,c∉G.M->H c=some o->H2 c=some o)->SqB b K H2 a vs:=by
 rw[QM h] at r;cases b with
 | true =>
  obtain⟨a,vs,e,t,r⟩:=r;exact⟨a,vs,e,t.1,r,λH2 hk=>SqL.of (hk a _ t.1 t.2)⟩
 | false =>
  obtain⟨a,vs,e,t,r⟩:=r;exact⟨a,vs,e,t.1,r,λH2 hk=>SqT.of (hk a _ t.1 t.2)⟩
def qZip (b1 b2:Bool)(pa pb:pE):pA:=λenv n R=>pa env n λx jc n1=>pb jc n1 λy jd n2=>match BQ b1 x,BQ b2 y with|some xs,some ys=>R (zipP xs ys) jd n2|_,_=>False
theorem QP (xs ys:List PV):(zipP xs ys).length=min xs.length ys.length:=by simp[zipP]
theorem QU {xs ys:List PV}{i:Nat}{x:PV}(h:(zipP xs ys)[i]?=some x):∃u v,xs[i]?=some u/\ys[i]?=some v/\x=.tup [u,v]:=by grind [PV,zipP]
theorem qi_zip (b1 b2:Bool)(hg:∀z,Gl (F z) "zip")(hm:∀z,(F z).mg "zip"=none)(ha:QE T K F a pa)(hb:QE T K F b pb)(hs:F7 a=true:=by rfl)(hs2:F7 b=true:=by rfl)(hK:∀z,(F z).K=K:=by intro _;rfl):QI T K F (.Tuple elts x1 tpos) (.Call (.Name "zip" p) [a,b] [] pos) (qZip b1 b2 pa pb):=by
 obtain⟨t,h1,h2⟩:=ha;obtain⟨u,h3,h4⟩:=hb;refine⟨_,λz=>hK z▸QK b1 b2 (hg z) (hm z) (G4 (h1 z) (G4 (h3 z) K3 (D7 hs2)) (D7 hs)) (by rw[D7 hs,D7 hs2];rfl) (by rw[D7 hs2];rfl),λC G σ H env n R Q hK hT S hp k=>?_⟩;refine h2 C G σ H env n _ _ hK hT S hp λx jc n1 v H1 p1 S1 r1 f1=>?_;refine h4 C G σ H1 jc n1 _ _ hK hT S1 p1 λy jd n2 w H2 p2 S2 r2 f2=>?_
 split at p2
 ·rename_i xs ys ex ey;obtain⟨a,vs,rfl,na,ra,sa⟩:=Ld ex (r1.fr f2);obtain⟨c,us,rfl,nc,rc,scq⟩:=Ld ey r2;refine⟨a,c,rfl,⟨vs,sa H2 λ_ _ _ e=>e⟩,⟨us,scq H2 λ_ _ _ e=>e⟩,k _ _ _ _ _ p2 S2 (f1.trans f2) ?_⟩;intro G2 H3 hk hM hp hf;have ra':Reps K G2 H3 xs vs:=Reps.mono hk hM hp _ _ ra;have rc':Reps K G2 H3 ys us:=Reps.mono hk hM hp _ _ rc;refine⟨λi x e=>?_,λi hi=>⟨vs,us,sa H3 hk,scq H3 hk,by rw[<- ra.length,<- rc.length,<- QP];exact hi⟩⟩;obtain⟨u,v,eu,ev,rfl⟩:=QU e;obtain⟨u',eu',ru⟩:=ra'.get' eu;obtain⟨v',ev',rv⟩:=rc'.get' ev;refine⟨⟨vs,us,u',v',sa H3 hk,scq H3 hk,eu',ev'⟩,λx' H4 y=>?_⟩;obtain⟨p,u2,v2,hn,rfl,rfl,y1,y2⟩:=y;have q1:=y1 vs (sa H3 hk);have q2:=y2 us (scq H3 hk);rw[eu'] at q1;rw[ev'] at q2;cases q1;cases q2;exact⟨Same.lay1 hn,Da (hf p hn) hn (.cons ru (.one rv))⟩
 ·exact p2.elim
end
end Pu
end
section
namespace Pu
open PySem PySem.Spec L2
mutual
def pln:PV->Bool
 |.non=>true
 |.bl _=>true
 |.int _=>true
 |.str _=>true
 |.tup xs=>plns xs
 |.lst xs=>plns xs
 |_=>false
def plns:List PV->Bool
 |[]=>true
 |x::xs=>pln x&&plns xs
end
mutual
theorem BR:∀x:PV,pln x=true->eqP x x=true
 |.non,_=>rfl
 |.bl b,_=>by rw[Kx];exact jp rfl
 |.int i,_=>by rw[Hw];exact jp rfl
 |.str z,_=>by rw[Dq];exact jp rfl
 |.tup xs,h=>by rw[EV];exact HN xs (by simpa[pln] using h)
 |.lst xs,h=>by rw[Ky];exact HN xs (by simpa[pln] using h)
 |.ty _,h=>by simp[pln] at h
 |.pot _,h=>by simp[pln] at h
 |.scr _,h=>by simp[pln] at h
 |.fdt _ _,h=>by simp[pln] at h
 |.dct _ _,h=>by simp[pln] at h
theorem HN:∀xs:List PV,plns xs=true->eqPs xs xs=true
 |[],_=>rfl
 | x :: xs, h => by
  have h':pln x=true/\plns xs=true:=by simpa[plns] using h
  rw[EX,BR x h'.1,HN xs h'.2];rfl
end
theorem HP {te:pE}{rest:Env}{α:Type}(f:α->PV)(g:α->PV):∀(xs:List α) (s0:Option Slot) (n:Nat) (R:List PV->Nat->Prop),(∀x∈xs,∀m Q,Q (g x) (some (.v (f x))::rest) m->te (some (.v (f x))::rest) m Q)->R (xs.map g) n->W5 (gN 0) qTru te (xs.map f) (s0::rest) n R
 |[],_,_,_,_,h=>h
 | x :: xs, s0, n, R, ht, h => by
  show te (some (.v (f x))::rest) n _;refine ht x C8 n _ ?_;exact HP f g xs _ n _ (λy hy=>ht y (C5 _ hy)) h
end Pu
end
section
namespace L2
open PySem PySem.W PyProof.Rows
namespace Kr
def run {α:Type}(lt:Nat->Nat->Bool):KasT α->α
 |.ret a=>a
 |.ask i j k=>run lt (k (lt i j))
theorem BS {α β:Type}(lt:Nat->Nat->Bool)(f:α->KasT β):∀t:KasT α,run lt (t.bind f)=run lt (f (run lt t))
 |.ret a=>rfl
 |.ask i j k=>BS lt f (k (lt i j))
structure Ord (lt:Nat->Nat->Bool):Prop where
 ir:∀a,lt a a=false
 tr:∀a b c,lt a b=true->lt b c=true->lt a c=true
 nt:∀a b c,lt a c=true->lt a b=true\/lt b c=true
variable {lt:Nat->Nat->Bool}(O:Ord lt)
include O
theorem Ord.as (h:lt a b=true):lt b a=false:=by
 cases e:lt b a with
 |false=>rfl
 |true=>have:=O.tr _ _ _ h e;rw[O.ir] at this;cases this
theorem Ord.le (h1:lt b a=false)(h2:lt c b=false):lt c a=false:=by
 cases e:lt c a with
 |false=>rfl
 |true=>rcases O.nt c b a e with h|h <;> simp_all
theorem Ord.l1 (h1:lt a b=true)(h2:lt c b=false):lt a c=true:=by
 rcases O.nt a c b h1 with h|h
 ·exact h
 ·rw[h2] at h;cases h
theorem Ord.l2 (h1:lt b a=false)(h2:lt b c=true):lt a c=true:=by
 rcases O.nt b a c h2 with h|h
 ·rw[h1] at h;cases h
 ·exact h
omit O
def g (p:Array Nat)(i:Nat):Nat:=p.getD i 0
theorem g_eq (p:Array Nat)(i:Nat):g p i=(p[i]?).getD 0:=by unfold g;rw[As]
theorem j9 (h:j<=p.size)(k:Nat):g (Q6 p i j) k=if i<=k/\k<j then g p (i+j-1-k) else g p k:=by
 unfold Q6;rw[g_eq,getElem?_mirror_all h]
 split <;> rw[g_eq]
theorem g_bub (h:k<p.size)(hl:l<=k)(i:Nat):g (bubble p k (k-l)) i=if i=l then g p k else if l<i/\i<=k then g p (i-1) else g p i:=by
 rw[g_eq,getElem?_bubble h (k-l) (by omega),show k-(k-l)=l by omega]
 split
 ·rw[g_eq]
 ·split <;> rw[g_eq]
theorem AO (p:Array Nat)(i j:Nat):(Q6 p i j).size=p.size:=mirror_size _ _ _ _
theorem Dw (p:Array Nat)(i j:Nat):(Q6 p i j).Perm p:=mirror_perm _ _ _ _
def S (lt:Nat->Nat->Bool)(p:Array Nat)(k:Nat):Prop:=∀i j,i<=j->j<k->lt (g p j) (g p i)=false
def D (lt:Nat->Nat->Bool)(p:Array Nat)(k:Nat):Prop:=∀i j,i<=j->j<k->lt (g p i) (g p j)=false
def B (lt:Nat->Nat->Bool)(p:Array Nat)(a k:Nat):Prop:=∀i j,a<=i->i<k->a<=j->j<k->lt (g p i) (g p j)=false
include O
theorem S_succ (h:S lt p n)(hn:1<=n)(hl:lt (g p n) (g p (n-1))=false):S lt p (n+1):=by
 intro i j hij hj;rcases Nat.lt_succ_iff_lt_or_eq.mp hj with h1|h1
 ·exact h i j hij h1
 ·subst h1;rcases Nat.lt_or_eq_of_le hij with h2|h2
  ·exact O.le (h i (j-1) (by omega) (by omega)) hl
  ·rw[h2];exact O.ir _
theorem HQ (p:Array Nat):∀(f n:Nat),1<=n->S lt p n->n<=run lt (U4 p f n)/\run lt (U4 p f n)<=n+f/\S lt p (run lt (U4 p f n))/\(run lt (U4 p f n)=n+f\/lt (g p (run lt (U4 p f n))) (g p (run lt (U4 p f n)-1))=true)
 |0,n,hn,h=>⟨B8 _,B8 _,h,.inl rfl⟩
 | f + 1, n, hn, h => by
  show n<=run lt (if lt (g p n) (g p (n-1))=true then .ret n else U4 p f (n+1))/\run lt (if lt (g p n) (g p (n-1))=true then .ret n else U4 p f (n+1))<=n+(f+1)/\S lt p (run lt (if lt (g p n) (g p (n-1))=true then .ret n else U4 p f (n+1)))/\(run lt (if lt (g p n) (g p (n-1))=true then .ret n else U4 p f (n+1))=n+(f+1)\/lt (g p (run lt (if lt (g p n) (g p (n-1))=true then .ret n else U4 p f (n+1)))) (g p (run lt (if lt (g p n) (g p (n-1))=true then .ret n else U4 p f (n+1))-1))=true);cases e:lt (g p n) (g p (n-1)) with
  | true =>
   rw[jr rfl];exact⟨B8 _,by show n<=_;omega,h,.inr e⟩
  | false =>
   rw[jt (by simp)];obtain⟨h1,h2,h3,h4⟩:=HQ p f (n+1) (by omega) (S_succ O h hn e);exact⟨by omega,by omega,h3,h4.imp (λx=>by omega) id⟩
theorem D_rev (hn:n<=p.size)(h:D lt p n)(hb:B lt p a n):D lt (Q6 p a n) n:=by
 intro i j hij hj;rw[j9 hn,j9 hn]
 by_cases c1:a<=i
 ·rw[jr ⟨c1,by omega⟩,jr ⟨by omega,hj⟩];exact hb _ _ (by omega) (by omega) (by omega) (by omega)
 ·rw[jt (by omega)]
  by_cases c2:a<=j
  ·rw[jr ⟨c2,hj⟩];exact h _ _ (by omega) (by omega)
  ·rw[jt (by omega)];exact h _ _ hij hj
theorem Dx (h:D lt p n)(hn:1<=n)(hl:lt (g p (n-1)) (g p n)=false):D lt p (n+1):=by
 intro i j hij hj;rcases Nat.lt_succ_iff_lt_or_eq.mp hj with h1|h1
 ·exact h i j hij h1
 ·subst h1;rcases Nat.lt_or_eq_of_le hij with h2|h2
  ·exact O.le hl (h i (j-1) (by omega) (by omega))
  ·rw[h2];exact O.ir _
theorem Fe:∀(f:Nat) (p:Array Nat) (n q:Nat),q + 1<=n->n + f<=p.size->D lt p n->B lt p (n - (q + 1)) n->
   ∃p' n' q',run lt (c7 f p n q)=(p',n',q')/\p'.Perm p/\p'.size=p.size/\n<=n'/\n'<=n+f/\q'+1<=n'/\D lt p' n'/\B lt p' (n'-(q'+1)) n'
 |0,p,n,q,hq,hs,h,hb=>⟨p,n,q,rfl,x8 _,rfl,B8 _,B8 _,hq,h,hb⟩
 | f + 1, p, n, q, hq, hs, h, hb => by
  have one:∀p n,B lt p (n+1-(0+1)) (n+1):=λp n i j h1 h2 h3 h4=>by
   have:i=j:=by omega
   rw[this];exact O.ir _
  cases e:lt (g p n) (g p (n-1)) with
  | true =>
   by_cases c:q>0
   ·have hd:=D_rev O (by omega:n<=p.size) h hb;have e1:g (Q6 p (n-(q+1)) n) n=g p n:=by rw[j9 (by omega),jt (by omega)]
    have e2:g (Q6 p (n-(q+1)) n) (n-1)=g p (n-(q+1)):=by rw[j9 (by omega),jr (by omega)];congr 1;omega
    have e3:lt (g p (n-(q+1))) (g p n)=false:=O.as (O.l1 e (hb _ _ (by omega) (by omega) (by omega) (by omega)));obtain⟨p',n',q',a1,a2,a3,a4,a5,a6,a7,a8⟩:=Fe f (Q6 p (n-(q+1)) n) (n+1) 0 (by omega) (by rw[AO];omega) (Dx O hd (by omega) (by rw[e1,e2];exact e3)) (one _ _);refine⟨p',n',q',?_,a2.trans (Dw _ _ _),by rw[a3,AO],by omega,by omega,a6,a7,a8⟩;show run lt (if lt (g p n) (g p (n-1))=true then(if q>0 then c7 f (Q6 p (n-(q+1)) n) (n+1) 0 else c7 f p (n+1) 0) else _)=_;rw[jr e,jr c];exact a1
   ·obtain⟨p',n',q',a1,a2,a3,a4,a5,a6,a7,a8⟩:=Fe f p (n+1) 0 (by omega) (by omega) (Dx O h (by omega) (O.as e)) (one _ _);refine⟨p',n',q',?_,a2,a3,by omega,by omega,a6,a7,a8⟩;show run lt (if lt (g p n) (g p (n-1))=true then(if q>0 then c7 f (Q6 p (n-(q+1)) n) (n+1) 0 else c7 f p (n+1) 0) else _)=_;rw[jr e,jt c];exact a1
  | false =>
   cases e':lt (g p (n-1)) (g p n) with
   | true =>
    refine⟨p,n,q,?_,x8 _,rfl,B8 _,by omega,hq,h,hb⟩;show run lt (if lt (g p n) (g p (n-1))=true then _ else KasT.ask (g p (n-1)) (g p n) λd=>if d=true then .ret (p,n,q) else c7 f p (n+1) (q+1))=_;rw[jt (by rw[e];simp)];show run lt (if lt (g p (n-1)) (g p n)=true then .ret (p,n,q) else c7 f p (n+1) (q+1))=_;rw[jr e'];rfl
   | false =>
    have hb':B lt p (n+1-(q+1+1)) (n+1):=by
     have up:∀i,n-(q+1)<=i->i<n->lt (g p i) (g p n)=false/\lt (g p n) (g p i)=false:=λi h1 h2=>
      ⟨O.le e' (hb i (n-1) h1 h2 (by omega) (by omega)),O.le (hb (n-1) i (by omega) (by omega) h1 h2) e⟩
     intro i j h1 h2 h3 h4
     by_cases ci:i<n
     ·by_cases cj:j<n
      ·exact hb i j (by omega) ci (by omega) cj
      ·rw[show j=n by omega];exact(up i (by omega) ci).1
     ·rw[show i=n by omega]
      by_cases cj:j<n
      ·exact(up j (by omega) cj).2
      ·rw[show j=n by omega];exact O.ir _
    obtain⟨p',n',q',a1,a2,a3,a4,a5,a6,a7,a8⟩:=Fe f p (n+1) (q+1) (by omega) (by omega) (Dx O h (by omega) e') hb';refine⟨p',n',q',?_,a2,a3,by omega,by omega,a6,a7,a8⟩;show run lt (if lt (g p n) (g p (n-1))=true then _ else KasT.ask (g p (n-1)) (g p n) λd=>if d=true then .ret (p,n,q) else c7 f p (n+1) (q+1))=_;rw[jt (by rw[e];simp)];show run lt (if lt (g p (n-1)) (g p n)=true then .ret (p,n,q) else c7 f p (n+1) (q+1))=_;rw[jt (by rw[e'];simp)];exact a1
theorem S_of_D (hn:n<=p.size)(h:D lt p n):S lt (Q6 p 0 n) n:=by
 intro i j hij hj;rw[j9 hn,j9 hn,jr ⟨by omega,hj⟩,jr ⟨by omega,by omega⟩];exact h _ _ (by omega) (by omega)
theorem Le (h1:1<=n)(hn:n<=nrem)(hs:nrem<=p.size)(h:D lt p n) :
   ∃m p',run lt (kas_tail3 n nrem p)=(m,p')/\p'.Perm p/\p'.size=p.size/\1<=m/\m<=nrem/\S lt p' m:=by
 obtain⟨a1,a2,a3,_⟩:=HQ O (Q6 p 0 n) (nrem-n) n h1 (S_of_D O (by omega) h);refine⟨_,Q6 p 0 n,?_,Dw _ _ _,AO _ _ _,?_,?_,a3⟩
 ·unfold kas_tail3;rw[BS];rfl
 ·omega
 ·omega
theorem Lf (h1:1<=n)(hn:n+1<=nrem)(hs:nrem<=p.size)(h:D lt p (n+1)) :
   ∃m p',run lt (kas_descPart n nrem p)=(m,p')/\p'.Perm p/\p'.size=p.size/\1<=m/\m<=nrem/\S lt p' m:=by
 obtain⟨p',n',q',a1,a2,a3,a4,a5,a6,a7,a8⟩:=Fe O (nrem-(n+1)) p (n+1) 0 (by omega) (by omega) h (λi j h1 h2 h3 h4=>by
  have:i=j:=by omega
  rw[this];exact O.ir _)
 unfold kas_descPart;rw[BS,a1];dsimp only
 by_cases c:q'>0
 ·rw[jr c];obtain⟨m,p2,b1,b2,b3,b4,b5,b6⟩:=Le O (p:=Q6 p' (n'-(q'+1)) n') (n:=n') (nrem:=nrem) (by omega) (by omega) (by rw[AO];omega) (D_rev O (by omega) a7 a8);exact⟨m,p2,b1,(b2.trans (Dw _ _ _)).trans a2,by rw[b3,AO,a3],b4,b5,b6⟩
 ·rw[jt c];obtain⟨m,p2,b1,b2,b3,b4,b5,b6⟩:=Le O (p:=p') (n:=n') (nrem:=nrem) (by omega) (by omega) (by omega) a7;exact⟨m,p2,b1,b2.trans a2,by rw[b3,a3],b4,b5,b6⟩
theorem QV (h1:1<=n)(hs:p.size=n):∃m p',run lt (kas_count n p)=(m,p')/\p'.Perm p/\p'.size=p.size/\1<=m/\m<=n/\S lt p' m:=by
 have s1:S lt p 1:=λi j h2 h3=>by
  have:i=j:=by omega
  rw[this];exact O.ir _
 obtain⟨a1,a2,a3,a4⟩:=HQ O p (n-1) 1 (B8 _) s1;unfold kas_count;rw[BS];generalize run lt (U4 p (n-1) 1)=k at a1 a2 a3 a4 ⊢
 by_cases c:k=n
 ·rw[jr (by rw[c];exact beq_self_eq_true n)];exact⟨k,p,rfl,x8 _,rfl,a1,by omega,a3⟩
 ·rw[jt (by simpa using c)];have a5:lt (g p k) (g p (k-1))=true:=a4.resolve_left (by omega)
  by_cases c1:k>1
  ·rw[jr c1];show ∃m p',run lt (if lt (g p 0) (g p (k-1))=true then .ret (k,p) else kas_descPart k n (Q6 p 0 k))=(m,p')/\_;cases e:lt (g p 0) (g p (k-1)) with
   |true=>rw[jr rfl];exact⟨k,p,rfl,x8 _,rfl,a1,by omega,a3⟩
   | false =>
    rw[jt (by simp)]
    have al:∀i j,i<k->j<k->lt (g p i) (g p j)=false:=λi j hi hj=>by
     have x1:=a3 j (k-1) (by omega) (by omega);have x2:=a3 0 i (by omega) hi;exact O.le (O.le x1 e) x2
    have hd:D lt (Q6 p 0 k) (k+1):=by
     refine Dx O (λi j hij hj=>?_) a1 ?_
     ·rw[j9 (by omega),j9 (by omega),jr ⟨by omega,by omega⟩,jr ⟨by omega,hj⟩];exact al _ _ (by omega) (by omega)
     ·rw[j9 (by omega),j9 (by omega),jr ⟨by omega,by omega⟩,jt (by omega)];exact O.as (O.l1 a5 (al _ _ (by omega) (by omega)))
    obtain⟨m,p2,b1,b2,b3,b4,b5,b6⟩:=Lf O (p:=Q6 p 0 k) (n:=k) (nrem:=n) a1 (by omega) (by rw[AO];omega) hd;exact⟨m,p2,b1,b2.trans (Dw _ _ _),by rw[b3,AO],b4,b5,b6⟩
  ·rw[jt c1];have hk:k=1:=by omega
   subst hk
   exact Lf O (B8 _) (by omega) (by omega) (Dx O (λi j h2 h3=>by
    have:i=j:=by omega
    rw[this];exact O.ir _) (B8 _) (O.as a5))
theorem HR {p:Array Nat}{k:Nat}(h:S lt p k):∀(f l r:Nat),l<=r->r<=k->r-l<=f->(∀i,i<l->lt (g p k) (g p i)=false)->(∀i,r<=i->i<k->lt (g p k) (g p i)=true)->
   run lt (V3 p k f l r)<=k/\(∀i,i<run lt (V3 p k f l r)->lt (g p k) (g p i)=false)/\(∀i,run lt (V3 p k f l r)<=i->i<k->lt (g p k) (g p i)=true)
 | 0, l, r, h1, h2, h3, h4, h5 => by
  have:l=r:=by omega
  subst this;exact⟨h2,h4,h5⟩
 | f + 1, l, r, h1, h2, h3, h4, h5 => by
  by_cases c:l>=r
  ·have:l=r:=by omega
   subst this;unfold V3;rw[jr c];exact⟨h2,h4,h5⟩
  ·have e:run lt (V3 p k (f+1) l r)=run lt (if lt (g p k) (g p ((l+r)/2))=true then V3 p k f l ((l+r)/2) else V3 p k f ((l+r)/2+1) r):=by
    conv=>lhs;unfold V3
    rw[jt c];rfl
   rw[e];cases e2:lt (g p k) (g p ((l+r)/2)) with
   | true =>
    rw[jr rfl];exact HR h f l ((l+r)/2) (by omega) (by omega) (by omega) h4 λi i1 i2=>O.l1 e2 (h _ _ i1 i2)
   | false =>
    rw[jt (by simp)];exact HR h f ((l+r)/2+1) r (by omega) h2 (by omega) (λi i1=>O.le (h i ((l+r)/2) (by omega) (by omega)) e2) h5
theorem Lg:∀(f:Nat) (p:Array Nat) (k:Nat),k + f<=p.size->S lt p k->(run lt (kas_bin f p k)).Perm p/\(run lt (kas_bin f p k)).size=p.size/\S lt (run lt (kas_bin f p k)) (k + f)
 |0,p,k,_,h=>⟨x8 _,rfl,h⟩
 | f + 1, p, k, hs, h => by
  obtain⟨a1,a2,a3⟩:=HR O h k 0 k (by omega) (B8 _) (by omega) (λi z=>by omega) (λi z z2=>by omega)
  have e:run lt (kas_bin (f+1) p k)=run lt (kas_bin f (bubble p k (k-run lt (V3 p k k 0 k))) (k+1)):=by
   show run lt ((V3 p k k 0 k).bind λl=>kas_bin f (bubble p k (k-l)) (k+1))=_;rw[BS]
  rw[e];generalize run lt (V3 p k k 0 k)=l at a1 a2 a3 ⊢
  have hS:S lt (bubble p k (k - l)) (k + 1):=by
   intro i j hij hj;rw[g_bub (by omega) a1,g_bub (by omega) a1]
   by_cases ci:i=l
   ·rw[jr ci]
    by_cases cj:j=l
    ·rw[jr cj];exact O.ir _
    ·rw[jt cj,jr ⟨by omega,by omega⟩];exact O.as (a3 _ (by omega) (by omega))
   ·rw[jt ci]
    by_cases cj:j=l
    ·rw[jr cj,jt (by omega)];exact a2 _ (by omega)
    ·rw[jt cj]
     by_cases c2:l<j
     ·rw[jr ⟨c2,by omega⟩]
      by_cases c3:l<i
      ·rw[jr ⟨c3,by omega⟩];exact h _ _ (by omega) (by omega)
      ·rw[jt (by omega)];exact h _ _ (by omega) (by omega)
     ·rw[jt (by omega),jt (by omega)];exact h _ _ hij (by omega)
  obtain⟨b1,b2,b3⟩:=Lg f (bubble p k (k-l)) (k+1) (by rw[bubble_size];omega) hS;exact⟨b1.trans (bubble_perm _ _ _),by rw[b2,bubble_size],by rw[show k+(f+1)=k+1+f by omega];exact b3⟩
theorem sort_ok (h1:1<=n):(run lt (R6 n)).Perm (List.toArray (E9 n))/\(run lt (R6 n)).size=n/\S lt (run lt (R6 n)) n:=by
 have hz:(List.toArray (E9 n)).size=n:=by simp
 obtain⟨m,p,a1,a2,a3,a4,a5,a6⟩:=QV O (p:=List.toArray (E9 n)) h1 hz;unfold R6;rw[BS,a1];dsimp only
 by_cases c:m<n
 ·rw[jr c,Nat.max_eq_left a4];obtain⟨b1,b2,b3⟩:=Lg O (n-m) p m (by omega) a6;rw[show m+(n-m)=n by omega] at b3;exact⟨b1.trans a2,by rw[b2,a3,hz],b3⟩
 ·rw[jt c];have:m=n:=by omega
  subst this;exact⟨a2,by rw[<- hz,<- a3];rfl,a6⟩
omit O
def InQ {α:Type}(n:Nat)(Q:α->Prop):KasT α->Prop
 |.ret a=>Q a
 |.ask i j k=>i<n/\j<n/\∀b,InQ n Q (k b)
theorem BT {α β:Type}{n:Nat}{Q:α->Prop}{R:β->Prop}{f:α->KasT β}(hf:∀a,Q a->InQ n R (f a)):∀t:KasT α,InQ n Q t->InQ n R (t.bind f)
 |.ret a,h=>hf a h
 |.ask _ _ k,h=>⟨h.1,h.2.1,λb=>BT hf (k b) (h.2.2 b)⟩
def En (n:Nat)(p:Array Nat):Prop:=0<n/\p.Perm (List.toArray (E9 n))
theorem En.g {n:Nat}{p:Array Nat}(h:En n p)(i:Nat):p.getD i 0<n:=by
 by_cases c:i<p.size
 ·rw[show p.getD i 0=p[i] by simp[Array.getD,c]]
  simpa using h.2.mem_iff.mp (Array.getElem_mem c)
 ·rw[show p.getD i 0=0 by simp[Array.getD,c]];exact h.1
theorem En.perm {n:Nat}{p q:Array Nat}(h:En n p)(hp:q.Perm p):En n q:=⟨h.1,hp.trans h.2⟩
theorem En.rev (h:En n p)(i j:Nat):En n (Q6 p i j):=h.perm (Dw _ _ _)
theorem HS {n:Nat}{p:Array Nat}(h:En n p):∀f m,InQ n (λ_=>True) (U4 p f m)
 |0,_=>trivial
 | f + 1, m => ⟨h.g _, h.g _, fun b => by
  cases b with
  |true=>exact trivial
  |false=>exact HS h f (m+1)⟩
theorem Ff {n:Nat}:∀f p m q,En n p->InQ n (λr=>En n r.1) (c7 f p m q)
 |0,_,_,_,h=>h
 | f + 1, p, m, q, h => ⟨h.g _, h.g _, fun b => by
  cases b with
  | true =>
   show InQ n _ (if q>0 then _ else _)
   by_cases c:q>0
   ·rw[jr c];exact Ff f _ _ _ (h.rev _ _)
   ·rw[jt c];exact Ff f _ _ _ h
  | false =>
   refine⟨h.g _,h.g _,λd=>?_⟩;cases d with
   |true=>exact h
   |false=>exact Ff f _ _ _ h⟩
theorem Lh (h:En n p):InQ n (λr=>En n r.2) (kas_tail3 m k p):=by
 unfold kas_tail3;refine BT (Q:=λ_=>True) (λa _=>?_) _ (HS (h.rev _ _) _ _);exact(h.rev _ _:En n _)
theorem Li (h:En n p):InQ n (λr=>En n r.2) (kas_descPart m k p):=BT (λr hr=>by
   by_cases c:r.2.2>0
   ·rw[jr c];exact Lh (hr.rev _ _)
   ·rw[jt c];exact Lh hr) _ (Ff _ _ _ _ h)
theorem QX (h:En n p):InQ n (λr=>En n r.2) (kas_count k p):=BT (λm _=>by
   by_cases c:(m == k)=true
   ·rw[jr c];exact h
   ·rw[jt c]
    by_cases c1:m>1
    ·rw[jr c1];refine⟨h.g _,h.g _,λb=>?_⟩;cases b with
     |true=>exact h
     |false=>exact Li (h.rev _ _)
    ·rw[jt c1];exact Li h) _ (HS h _ _)
theorem HU {n k:Nat}{p:Array Nat}(h:En n p):∀f l r,InQ n (λ_=>True) (V3 p k f l r)
 |0,_,_=>trivial
 | f + 1, l, r => by
  unfold V3
  by_cases c:l>=r
  ·rw[jr c];exact trivial
  ·rw[jt c];refine⟨h.g _,h.g _,λb=>?_⟩;cases b with
   |true=>exact HU h f _ _
   |false=>exact HU h f _ _
theorem Lj {n:Nat}:∀f p k,En n p->InQ n (En n) (kas_bin f p k)
 |0,_,_,h=>h
 |f+1,p,k,h=>BT (λl _=>Lj f _ _ (h.perm (bubble_perm _ _ _))) _ (HU h k 0 k)
theorem sort_in {n:Nat}(h1:1<=n):InQ n (En n) (R6 n):=BT (λr hr=>by
   by_cases c:r.1<n
   ·rw[jr c];exact Lj _ _ _ hr
   ·rw[jt c];exact hr) _ (QX ⟨h1,x8 _⟩)
theorem wp_run {α:Type}{lt:Nat->Nat->Bool}{n:Nat}{P:α->Prop}{ask:Nat->Nat->(Bool->A6->Prop)->A6->Prop}{Q:α->A6->Prop}{s:A6}(h:∀i j C,i<n->j<n->C (lt i j) s->ask i j C s):∀t:KasT α,InQ n P t->Q (run lt t) s->t.kasWp ask Q s
 |.ret a,_,q=>q
 |.ask i j k,hi,q=>h i j _ hi.1 hi.2.1 (wp_run h (k (lt i j)) (hi.2.2 _) q)
theorem out_ok {α:Type}(lt:α->α->Bool)(O:(∀a,lt a a=false)/\(∀a b c,lt a b=true->lt b c=true->lt a c=true)/\(∀a b c,lt a c=true->lt a b=true\/lt b c=true))(d:α)(xs:List α)(h1:1<=xs.length) :
   let p:=run (λi j=>lt (xs.getD i d) (xs.getD j d)) (R6 xs.length)
   (p.toList.map λi=>xs.getD i d).Perm xs/\(p.toList.map λi=>xs.getD i d).Pairwise (λa b=>lt b a=false):=by
 intro p;have OO:Ord λi j=>lt (xs.getD i d) (xs.getD j d):=⟨λa=>O.1 _,λa b c=>O.2.1 _ _ _,λa b c=>O.2.2 _ _ _⟩;obtain⟨a1,a2,a3⟩:=sort_ok OO h1;constructor
 ·have hp:p.toList.Perm (E9 xs.length):=Gn.mp a1;have:=hp.map λi=>xs.getD i d;refine this.trans (List.Perm.of_eq ?_)
  apply List.ext_getElem (by simp)
  intro i h2 h3;simp[h3]
 ·rw[V6];intro i j hi hj hij;have hi':i<p.size:=by simpa using hi
  have hj':j<p.size:=by simpa using hj
  have:=a3 i j (d7 hij) (by rw[<- a2];exact hj');simp only[List.getElem_map,Array.getElem_toList];have e1:g p i=p[i]:=by unfold g;simp[Array.getD,hi']
  have e2:g p j=p[j]:=by unfold g;simp[Array.getD,hj']
  have this':lt (xs.getD (g p j) d) (xs.getD (g p i) d)=false:=this;rw[e1,e2] at this';exact this'
end Kr
end L2
end
section
namespace L2
open PySem PySem.W PySem.Spec PyProof.Rows
def V1 (lt:Nat->Nat->Bool)(vs:List A1):List A1:=if vs.length<2 then vs else(Kr.run lt (R6 vs.length)).toList.map λi=>vs.getD i T7
section
variable {prog:D2}{w:C9}{A:D8}{E:A1->A6->Prop}{s:A6}
def Fg (h h1:B7)(a:A0):Prop:=∀b o,b≠a->h.get? b=some o->h1.get? b=some o
theorem Lk {a:A0}{vs:List A1}{n:Nat}{lt:Nat->Nat->Bool}{P:PySem.Fin->A6->Prop}(ho:s.heap.get? a=some (seqObj "list" vs.toArray n))(h64:vs.length<64)
   (hk:2<=vs.length->∀h1,Fg s.heap h1 a->∃κ,(∀Q:SortKind->A6->Prop,Q κ { s with heap:=h1 }->A7 (A8 prog w) A (keyKind' vs.toArray) Q E { s with heap:=h1 })/\∀i j (C:Bool->A6->Prop),i<vs.length->j<vs.length->C (lt i j) { s with heap:=h1 }->kas_ask prog w A κ vs i j C { s with heap:=h1 })
   (h:∀h2 e,Fg s.heap h2 a->h2.get? a=some (seqObj "list" (V1 lt vs).toArray e)->P (.done (.ret .none)) { s with heap:=h2 }):A7 (A8 prog w) A (N5.«list.sort» ⟨[.ref a],[]⟩) P E s:=by
 have ha:a<s.heap.objs.size:=D1 ho;have hsz:vs.toArray.size=vs.length:=by simp
 rw[list_sort_plain];refine A2 (listItems_at ho rfl ?_);refine A2 (Aw ho rfl ?_ (by rw[hsz,L0];omega) (K4 _));obtain⟨e1,ho1⟩:∃e1,(s.heap.update a (G8 λ_=>(#[]:Array A1))).get? a=some (seqObj "list" #[] e1):=⟨_,Bs ho λ_=>#[]⟩;refine A2 (seqEpoch_at ho1 rfl ?_);refine A2 (wpAny_newTuple ?_ (by show vs.length<=_;rw[L0];omega));refine A2 (Cj ?_ (K4 _));refine M8 ?_;show A7 (A8 prog w) A _ P E { s with heap:=((s.heap.update a (G8 λ_=>(#[]:Array A1))).push (seqObj "tuple" vs.toArray 0)).push (seqObj "list" #[] 0) };have ho3:=C7 (seqObj "list" #[] 0) (C7 (seqObj "tuple" vs.toArray 0) ho1)
 have k3:Fg s.heap (((s.heap.update a (G8 λ_=>(#[]:Array A1))).push (seqObj "tuple" vs.toArray 0)).push (seqObj "list" #[] 0)) a:=λb o hb e=>
  C7 _ (C7 _ (((R7 s.heap a (G8 λ_=>(#[]:Array A1))).2 b hb).trans e))
 generalize ((s.heap.update a (G8 λ_=>(#[]:Array A1))).push (seqObj "tuple" vs.toArray 0)).push (seqObj "list" #[] 0)=h3 at ho3 k3 ⊢;dsimp only
 have last:∀out:Array A1,out.size=vs.length->out=(V1 lt vs).toArray->∃e,(h3.update a (G8 λ_=>out)).get? a=some (seqObj "list" (V1 lt vs).toArray e)/\Fg s.heap (h3.update a (G8 λ_=>out)) a:=λout _ eo=>
  ⟨_,by rw[<- eo];exact Bs ho3 λ_=>out,λb o hb e=>((R7 h3 a (G8 λ_=>out)).2 b hb).trans (k3 b o hb e)⟩
 by_cases h2:vs.toArray.size<2
 ·rw[jr h2,jr h2];refine A2 (B0 ?_);rw[StateT.run_pure];refine A2 (B0 ?_);dsimp only
  have eo:(arrOf (SortSt.mk' general' (vs.toArray.zip vs.toArray) #[] 7 none)).map (·.2)=(V1 lt vs).toArray:=by
   have e2:(arrOf (SortSt.mk' general' (vs.toArray.zip vs.toArray) #[] 7 none))=vs.toArray.zip vs.toArray:=rfl;rw[e2];unfold V1;rw[jr (by omega)]
   apply Array.toList_inj.mp
   rw[Array.toList_map,Array.toList_zip];exact List.map_snd_zip (B8 _)
  obtain⟨e,x1,x2⟩:=last _ (by rw[eo];unfold V1;rw[jr (by omega)];simp) eo;refine A2 (seqEpoch_at ho3 rfl ?_);refine A2 (Aw ho3 rfl ?_ (K4 _) (by rw[eo];unfold V1;rw[jr (by omega),hsz,L0];omega));simp only[bne_self_eq_false,M1,if_false];exact B0 (h _ e x2 x1)
 ·rw[jt h2,jt h2];have l2:2<=vs.length:=by omega
  obtain⟨κ,q1,q2⟩:=hk l2 h3 k3;refine A2 (q1 _ ?_);have wp:=Kr.wp_run (Q:=λp s'=>p=Kr.run lt (R6 vs.length)/\s'={ s with heap:=h3 }) (P:=Kr.En vs.length) q2 (R6 vs.length) (Kr.sort_in (by omega)) ⟨rfl,rfl⟩;refine A2 (K1 (kat_run (E:=E) (Q:=λst' s'=>∃p:Array Nat,p.size=vs.length/\arrOf st'=p.map (kas_item (vs.toArray.zip vs.toArray))/\failedOf st'=none/\p=Kr.run lt (R6 vs.length)/\s'={ s with heap:=h3 }) rfl l2 h64 (λp' st' s' a1 a2 a3 a4=>⟨p',a1,a2,a3,a4⟩) wp) ?_ λ_ _ e=>e);rintro⟨⟨⟩,st'⟩ s' ⟨p,hp,har,hf,ep,rfl⟩;dsimp only
  have eo:(arrOf st').map (·.2)=(V1 lt vs).toArray:=by
   rw[kat_snds rfl har,ep];unfold V1;rw[jt (by omega)]
  have so:((arrOf st').map (·.2)).size=vs.length:=by rw[eo];unfold V1;rw[jt (by omega),F9,B6,O3,<- ep,hp]
  obtain⟨e,x1,x2⟩:=last _ so eo;refine A2 (seqEpoch_at ho3 rfl ?_);refine A2 (Aw ho3 rfl ?_ (K4 _) (by rw[so,L0];omega));rw[hf];simp only[bne_self_eq_false,M1,if_false];exact B0 (h _ e x2 x1)
theorem QY (h64:vs.length<64)
   (hcol:∀(R:List A1->A6->Prop),(∀h1 tk,(∀b o,s.heap.get? b=some o->h1.get? b=some o)->s.heap.objs.size<=h1.objs.size->R vs { s with heap:=h1,toks:=tk })->A7 (A8 prog w) A.in1 (collect v) R E s)
   (hk:2<=vs.length->∀(A:D8) (E:A1->A6->Prop) h1 tk,(∀b o,s.heap.get? b=some o->h1.get? b=some o)->∃κ,(∀Q:SortKind->A6->Prop,Q κ { s with heap:=h1,toks:=tk }->A7 (A8 prog w) A (keyKind' vs.toArray) Q E { s with heap:=h1,toks:=tk })/\∀i j (C:Bool->A6->Prop),i<vs.length->j<vs.length->C (lt i j) { s with heap:=h1,toks:=tk }->kas_ask prog w A κ vs i j C { s with heap:=h1,toks:=tk })
   (h:∀h2 tk D e,(∀b o,s.heap.get? b=some o->h2.get? b=some o)->s.heap.objs.size<=D->h2.get? D=some (seqObj "list" (V1 lt vs).toArray e)->Q (.ref D) { s with heap:=h2,toks:=tk }) :
   A7 (A8 prog w) A (call (.builtin "sorted") [v]) Q E s:=by
 refine Calls.call_function_entry kind_sorted plain_sorted entry_sorted (args_sorted1 _) ?_;unfold N5.«sorted»;refine A2 (m:=checkCount "sorted" 1 1 _) (B0 ?_);refine A2 (hcol _ λh1 tk k1 z1=>?_);refine A2 (Cj ?_ (by rw[L0];omega));have hoL:(h1.push (seqObj "list" vs.toArray 0)).get? h1.objs.size=some (seqObj "list" vs.toArray 0):=G7 _ rfl;have kL:∀b o,s.heap.get? b=some o->(h1.push (seqObj "list" vs.toArray 0)).get? b=some o:=λb o e=>C7 _ (k1 b o e);have ne:∀b o,s.heap.get? b=some o->b≠h1.objs.size:=λb o e=>E3 (L3 (D1 e) z1);refine A2 (M8 (R5 slot_list_sort ⟨_,hoL,rfl⟩ entry_list_sort ?body (args_list_sort _)))
 case body=>
  refine Lk (lt:=lt) (s:={ s with heap:=h1.push (seqObj "list" vs.toArray 0),toks:=tk }) hoL h64 (λl2 h3 k3=>?_) λh3 e k3 e3=>?_
  ·exact hk l2 _ _ h3 tk λb o x=>k3 b o (ne b o x) (kL b o x)
  ·exact⟨_,rfl,B0 ⟨_,rfl,h h3 tk _ e (λb o x=>k3 b o (ne b o x) (kL b o x)) z1 e3⟩⟩
end
end L2
end
section
namespace L2
open PySem PySem.W PySem.Spec PyProof.Rows
def N8:Key->Key->Bool
 |.inl a,.inl b=>decide (a<b)
 |.inr a,.inr b=>decide (a.cps.toList<b.cps.toList)
 |.inl _,.inr _=>true
 |.inr _,.inl _=>false
def lexK:List Key->List Key->Bool
 |[],[]=>false
 |[],_::_=>true
 |_::_,[]=>false
 |x::xs,y::ys=>if x=y then lexK xs ys else N8 x y
theorem QZ {a b:Str}(h:a.cps.toList=b.cps.toList):a=b:=by
 cases a;cases b
 congr 1
 exact Array.toList_inj.mp h
theorem HV (x:Key):N8 x x=false:=by
 cases x with
 |inl a=>exact jq (Int.lt_irrefl a)
 |inr a=>exact jq (List.lt_irrefl _)
theorem Q_ (h1:N8 x y=true)(h2:N8 y z=true):N8 x z=true:=by
 cases x <;> cases y <;> cases z <;> simp only[N8,decide_eq_true_eq,reduceCtorEq] at * <;> first|omega|exact List.lt_trans h1 h2|skip
theorem Ra (h:x≠y):N8 x y=true\/N8 y x=true:=by
 cases x with
 | inl a =>
  cases y with
  | inl b =>
   have:a≠b:=λe=>h (by rw[e]);simp only[N8,decide_eq_true_eq];omega
  |inr b=>exact .inl rfl
 | inr a =>
  cases y with
  |inl b=>exact .inr rfl
  | inr b =>
   have hn:a.cps.toList≠b.cps.toList:=λe=>h (by rw[QZ e]);simp only[N8,decide_eq_true_eq]
   by_cases c:a.cps.toList<b.cps.toList
   ·exact .inl c
   ·by_cases c2:b.cps.toList<a.cps.toList
    ·exact .inr c2
    ·exact absurd (List.le_antisymm (List.not_lt.mp c2) (List.not_lt.mp c)) hn
theorem HW:∀x:List Key,lexK x x=false
 |[]=>rfl
 |x::xs=>by show(if x=x then lexK xs xs else _)=false;rw[jr rfl,HW xs]
theorem Fh:∀{x y z:List Key},lexK x y=true->lexK y z=true->lexK x z=true
 |[],[],_,h,_=>by cases h
 |[],_::_,[],_,h=>by cases h
 |[],_::_,_::_,_,_=>rfl
 |_::_,[],_,h,_=>by cases h
 |_::_,_::_,[],_,h=>by cases h
 | x :: xs, y :: ys, z :: zs, h1, h2 => by
  change (if x=y then lexK xs ys else N8 x y)=true at h1
  change (if y=z then lexK ys zs else N8 y z)=true at h2
  show(if x=z then lexK xs zs else N8 x z)=true
  by_cases c1:x=y
  ·rw[jr c1] at h1;subst c1
   by_cases c2:x=z
   ·rw[jr c2] at h2 ⊢;exact Fh h1 h2
   ·rw[jt c2] at h2 ⊢;exact h2
  ·rw[jt c1] at h1
   by_cases c2:y=z
   ·subst c2;rw[jt c1];exact h1
   ·rw[jt c2] at h2;have h3:=Q_ h1 h2
    by_cases c3:x=z
    ·rw[c3,HV] at h3;cases h3
    ·rw[jt c3];exact h3
theorem Ll:∀{x y:List Key},x≠y->lexK x y=true\/lexK y x=true
 |[],[],h=>absurd rfl h
 |[],_::_,_=>.inl rfl
 |_::_,[],_=>.inr rfl
 | x :: xs, y :: ys, h => by
  show(if x=y then lexK xs ys else N8 x y)=true\/(if y=x then lexK ys xs else N8 y x)=true
  by_cases c:x=y
  ·rw[jr c,jr c.symm];exact Ll λe=>h (by rw[c,e])
  ·rw[jt c,jt (λe=>c e.symm)];exact Ra c
theorem Lm {x y z:List Key}(h:lexK x z=true):lexK x y=true\/lexK y z=true:=by
 by_cases c:x=y
 ·grind
 ·rcases Ll c with h1|h1
  ·grind
  ·exact .inr (Fh h1 h)
def Al:List Key->List Key->Prop
 |.inl _::xs,.inl _::ys=>Al xs ys
 |.inr _::xs,.inr _::ys=>Al xs ys
 |_::_,_::_=>False
 |_,_=>True
def KeyV:Key->A1->Prop
 |.inl i,v=>∃t,v=.int i t
 |.inr z,v=>∃t,v=.str z t
inductive z9:List Key->List A1->Prop
 |nil:z9 [] []
 |cons {k v ks vs} (h:KeyV k v) (t:z9 ks vs):z9 (k::ks) (v::vs)
section
variable {prog:D2}{w:C9}{A:D8}{E:A1->A6->Prop}{s:A6}
theorem Rb (hx:KeyV x u)(hy:KeyV y v)(al:Al (x::xs) (y::ys))(h:Q (decide (x=y)) s):A7 (A8 prog w) A (eqBool u v) Q E s:=by
 cases x with
 | inl a =>
  cases y with
  | inl b =>
   obtain⟨t,rfl⟩:=hx;obtain⟨t',rfl⟩:=hy;refine wpAny_eqBool_int ?_
   have e:(a == b)=decide ((P1 a:Key)=.inl b):=by
    rw[CG];exact decide_eq_decide.mpr ⟨λe=>by rw[e],λe=>by injection e⟩
   rw[e];exact h
  |inr b=>exact al.elim
 | inr a =>
  cases y with
  |inl b=>exact al.elim
  | inr b =>
   obtain⟨t,rfl⟩:=hx;obtain⟨t',rfl⟩:=hy;refine eqBool_str ?_
   have e:(a == b)=decide ((E2 a:Key)=.inr b):=by
    rw[CG];exact decide_eq_decide.mpr ⟨λe=>by rw[e],λe=>by injection e⟩
   rw[e];exact h
theorem lt_key (hx:KeyV x u)(hy:KeyV y v)(al:Al (x::xs) (y::ys))(h:Q (.bool (N8 x y)) s):A7 (A8 prog w) A (P7 .Lt u v) Q E s:=by
 cases x with
 | inl a =>
  cases y with
  | inl b =>
   obtain⟨t,rfl⟩:=hx;obtain⟨t',rfl⟩:=hy;exact PyProof.Rows.lt_int h
  |inr b=>exact al.elim
 | inr a =>
  cases y with
  |inl b=>exact al.elim
  | inr b =>
   obtain⟨t,rfl⟩:=hx;obtain⟨t',rfl⟩:=hy;exact PyProof.Rows.lt_str h
theorem HX (hx:KeyV x u)(hy:KeyV y v)(al:Al (x::xs) (y::ys))(h:Q (N8 x y) s):A7 (A8 prog w) A (oneLt' b u v) Q E s:=by
 cases b with
 |false=>exact kat_one u v (lt_key hx hy al h)
 | true =>
  cases x with
  | inl a =>
   cases y with
   | inl b =>
    obtain⟨t,rfl⟩:=hx;obtain⟨t',rfl⟩:=hy;exact oneLt_int h
   |inr b=>exact al.elim
  | inr a =>
   cases y with
   |inl b=>exact al.elim
   | inr b =>
    obtain⟨t,rfl⟩:=hx;obtain⟨t',rfl⟩:=hy;exact oneLt_str h
theorem Rc:∀{xs ys:List Key} {us vs:List A1} (i:Nat),z9 xs us->z9 ys vs->Al xs ys->fin=decide (us.length<vs.length)->Q (lexK xs ys) s->KatLex prog w A b fin Q (us.zip vs) i s:=by
 intro xs
 induction xs with
 | nil =>
  intro ys us vs i hx hy al hf h;cases hx;refine kat_nil ?_;cases hy with
  |nil=>rw[hf];exact h
  |cons _ _=>rw[hf];exact h
 | cons x xs ih =>
  intro ys us vs i hx hy al hf h;cases hx with
  | @cons _ u _ us' hx1 hx2 =>
   cases hy with
   |nil=>rw[List.zip_nil_right];refine kat_nil ?_;rw[hf];exact h
   | @cons y v ys' vs' hy1 hy2 =>
    rw[l9];refine kat_cons (Rb hx1 hy1 al ?_);have h':Q (if x=y then lexK xs ys' else N8 x y) s:=h
    by_cases c:x=y
    ·rw[jp c];rw[jr c] at h';refine kat_yes (ih (i+1) hx2 hy2 ?_ ?_ h')
     ·cases x <;> cases y <;> first|exact al|exact al.elim
     ·rw[hf,E8,E8];exact decide_eq_decide.mpr (by omega)
    ·rw[jq c];rw[jt c] at h';exact kat_no (HX hx1 hy1 al h')
def TupK (h:B7)(v:A1)(ks:List Key):Prop:=∃a o items n,v=.ref a/\h.get? a=some o/\o.cls=.type "tuple"/\o.data=.seq items n/\z9 ks items.toList
theorem Re (hx:TupK s.heap u xs)(hy:TupK s.heap v ys)(al:Al xs ys)(h:Q (lexK xs ys) s):A7 (A8 prog w) A (keyLt' (tuples' b) u v) Q E s:=by
 obtain⟨a,o,items,n,rfl,ho,hc,hd,hk⟩:=hx;obtain⟨a',o',jm,n',rfl,ho',hc',hd',hk'⟩:=hy;exact kat_lt ho hd ho' hd' (Rc 0 hk hk' al (by rw[O3,O3]) h)
end
end L2
end
section
namespace L2
open PySem PySem.W PySem.Spec PyProof.Rows
theorem HY:∀{ks:List Key} {us:List A1},Vals (ks.map kV) us->z9 ks us
 |[],_,h=>by cases h;exact .nil
 | .inl i :: ks, _, h => by
  cases h with
  |cons h1 h2=>exact .cons h1 (HY h2)
 | .inr z :: ks, _, h => by
  cases h with
  |cons h1 h2=>exact .cons h1 (HY h2)
section
variable {X:Cx}
theorem HZ (I:Inv X jb σ H s)(h:SqT X.K H a (ks.map kV)):TupK s.heap (.ref a) ks:=by
 obtain⟨jf,r,⟨o,ho,hc,n,hd⟩,_⟩:=I.tuple h;exact⟨a,o,jf.toArray,n,rfl,ho,hc,hd,HY r⟩
theorem TupK.keep (t:TupK h v ks)(k:∀b o,h.get? b=some o->h'.get? b=some o):TupK h' v ks:=by
 obtain⟨a,o,jf,n,e,ho,hc,hd,hk⟩:=t;exact⟨a,o,jf,n,e,k _ _ ho,hc,hd,hk⟩
def KM (K:A9)(H:Hp):Nat->V->List Key->Prop
 |0,y,ks=>∃i,y=.int i/\ks=[.inl i]
 |1,y,ks=>∃z,y=.str z/\ks=[.inr z]
 |_,y,ks=>∃a,y=.ref a/\SqT K H a (ks.map kV)/\ks≠[]
def Kv1 (h:B7):Nat->A1->List Key->Prop
 |0,u,ks=>∃i t,u=.int i t/\ks=[.inl i]
 |1,u,ks=>∃z t,u=.str z t/\ks=[.inr z]
 |_,u,ks=>TupK h u ks/\ks≠[]
def ltIx (jo:List (List Key))(i j:Nat):Bool:=lexK (jo.getD i []) (jo.getD j [])
theorem Fi (jo:List (List Key)):Kr.Ord (ltIx jo):=⟨λ_=>HW _,λ_ _ _ h1 h2=>Fh h1 h2,λ_ _ _ h=>Lm h⟩
def Aa (jo:List (List Key)):Prop:=∀x∈jo,∀y∈jo,Al x y
theorem kv1_of (I:Inv X jb σ H s)(m:Nat)(a:Vals ys vs)(b:Paired (KM X.K H m) ys jo):Paired (Kv1 s.heap m) vs jo:=by
 induction a generalizing jo with
 |nil=>cases b;exact .nil
 | cons h1 _ ih => cases b with
  | cons h2 r2 =>
   refine .cons ?_ (ih r2);rcases m with _|_|m
   ·obtain⟨i,e1,e2⟩:=h2;subst e1;obtain⟨t,rfl⟩:=h1;exact⟨i,t,rfl,e2⟩
   ·obtain⟨i,e1,e2⟩:=h2;subst e1;obtain⟨t,rfl⟩:=h1;exact⟨i,t,rfl,e2⟩
   ·obtain⟨a,e1,e2,e3⟩:=h2;subst e1;cases h1;exact⟨HZ I e2,e3⟩
theorem Kv1.keep (k:∀b o,h.get? b=some o->h'.get? b=some o)(m:Nat)(x:Kv1 h m u ks):Kv1 h' m u ks:=by
 match m,x with
 |0,x=>exact x
 |1,x=>exact x
 |_+2,x=>exact⟨x.1.keep k,x.2⟩
theorem AQ {α β:Type}{F:α->β->Prop}{xs:List α}{ys:List β}(h:Paired F xs ys)(d:α)(e:β):∀i,i<xs.length->F (xs.getD i d) (ys.getD i e):=by
 induction h with
 |nil=>intro i hi;exact absurd hi (CC _)
 | cons h1 _ ih =>
  intro i hi;cases i with
  |zero=>exact h1
  |succ i=>exact ih i (Nat.lt_of_succ_lt_succ hi)
theorem Ln {α β:Type}{F:α->β->Prop}{xs:List α}{ys:List β}(h:Paired F xs ys):∀x∈xs,∃y∈ys,F x y:=by
 induction h with
 |nil=>intro x hx;cases hx
 | cons h1 _ ih =>
  intro x hx;rcases C3.mp hx with rfl|hx
  ·exact⟨_,C8,h1⟩
  ·obtain⟨y,hy,hf⟩:=ih x hx;exact⟨y,C5 _ hy,hf⟩
theorem Rf (p:Paired (Kv1 h (m+2)) vs jo):∃fs,KatTups h vs fs/\fs.length=vs.length/\∀f∈fs,∃k r,(k::r)∈jo/\KeyV k f:=by
 induction p with
 |nil=>exact⟨[],trivial,rfl,λ_ z=>nomatch z⟩
 | cons h1 _ ih =>
  obtain⟨⟨a,o,jf,n,rfl,ho,hc,hd,hk⟩,hne⟩:=h1;obtain⟨fs,t,hl,hf⟩:=ih;cases e:jf.toList with
  |nil=>rw[e] at hk;cases hk;exact absurd rfl hne
  | cons f us =>
   rw[e] at hk;cases hk with
   | @cons k _ ks _ h2 h3 =>
    have ef:jf[0]?=some f:=by rw[<- T6,e];rfl
    refine⟨f::fs,KatTups.cons ho hc hd ef t,by rw[E8,E8,hl],λg hg=>?_⟩;rcases C3.mp hg with rfl|hg
    ·exact⟨k,ks,C8,h2⟩
    ·obtain⟨k',r',h4,h5⟩:=hf g hg;exact⟨k',r',C5 _ h4,h5⟩
theorem Lo {s:A6}(h2:2<=vs.length)(p:Paired (Kv1 s.heap m) vs jo)(al:Aa jo)(A:D8)(E:A1->A6->Prop)(h1:B7)(tk:Nat)(k:∀b o,s.heap.get? b=some o->h1.get? b=some o) :
   ∃κ,(∀Q:SortKind->A6->Prop,Q κ { s with heap:=h1,toks:=tk }->A7 (A8 prog w) A (keyKind' vs.toArray) Q E { s with heap:=h1,toks:=tk })/\∀i j (C:Bool->A6->Prop),i<vs.length->j<vs.length->C (ltIx jo i j) { s with heap:=h1,toks:=tk }->kas_ask prog w A κ vs i j C { s with heap:=h1,toks:=tk }:=by
 have p1:Paired (Kv1 h1 m) vs jo:=Paired.imp' (λ_ _ x=>x.keep k m) p;have lk:=CM p1
 have mem:∀i,i<vs.length->jo.getD i []∈jo:=λi hi=>by
  rw[T3,D4 (by omega)];exact U5 _
 match m,p1 with
 | 0, p1 =>
  refine⟨oneType',λQ q=>kas_kind (T:=.type "int") h2 (λv hv=>?_) rfl rfl q,λi j C hi hj c=>?_⟩
  ·obtain⟨ks,_,i,t,rfl,_⟩:=Ln p1 v hv;exact Looks.of_pure rfl
  ·obtain⟨a,t,e1,e2⟩:=AQ p1 .none [] i hi;obtain⟨b,t',e3,e4⟩:=AQ p1 .none [] j hj;unfold kas_ask;unfold ltIx at c;rw[e1,e3,keyLt'_oneType];rw[e2,e4] at c;refine HX (x:=.inl a) (y:=.inl b) (xs:=[]) (ys:=[]) ⟨t,rfl⟩ ⟨t',rfl⟩ trivial ?_
   have e:lexK [.inl a] [.inl b]=N8 (.inl a) (.inl b):=by
    show(if(P1 a:Key)=.inl b then false else N8 (.inl a) (.inl b))=_
    by_cases c:(P1 a:Key)=.inl b
    ·rw[jr c,c,HV]
    ·rw[jt c]
   rw[<- e];exact c
 | 1, p1 =>
  refine⟨oneType',λQ q=>kas_kind (T:=.type "str") h2 (λv hv=>?_) rfl rfl q,λi j C hi hj c=>?_⟩
  ·obtain⟨ks,_,i,t,rfl,_⟩:=Ln p1 v hv;exact Looks.of_pure rfl
  ·obtain⟨a,t,e1,e2⟩:=AQ p1 .none [] i hi;obtain⟨b,t',e3,e4⟩:=AQ p1 .none [] j hj;unfold kas_ask;unfold ltIx at c;rw[e1,e3,keyLt'_oneType];rw[e2,e4] at c;refine HX (x:=.inr a) (y:=.inr b) (xs:=[]) (ys:=[]) ⟨t,rfl⟩ ⟨t',rfl⟩ trivial ?_
   have e:lexK [.inr a] [.inr b]=N8 (.inr a) (.inr b):=by
    show(if(E2 a:Key)=.inr b then false else N8 (.inr a) (.inr b))=_
    by_cases c:(E2 a:Key)=.inr b
    ·rw[jr c,c,HV]
    ·rw[jt c]
   rw[<- e];exact c
 | m' + 2, p1 =>
  obtain⟨fs,kt,fl,hf⟩:=Rf p1
  have asks:∀b i j (C:Bool->A6->Prop),i<vs.length->j<vs.length->C (ltIx jo i j) { s with heap:=h1,toks:=tk }->kas_ask prog w A (tuples' b) vs i j C { s with heap:=h1,toks:=tk }:=λb i j C hi hj c=>by
   have x1:=AQ p1 .none [] i hi;have x2:=AQ p1 .none [] j hj;exact Re (s:={ s with heap:=h1,toks:=tk }) x1.1 x2.1 (al _ (mem i hi) _ (mem j hj)) c
  obtain⟨f0,fr,rfl⟩:∃f0 fr,fs=f0::fr:=by
   cases fs with
   |nil=>rw[<- fl] at h2;exact absurd h2 (by simp)
   |cons a r=>exact⟨a,r,rfl⟩
  obtain⟨k0,r0,m0,v0⟩:=hf f0 C8
  have all:∀T:String,(∀f k r,(k::r)∈jo->KeyV k f->typeOf f=pure (.type T))->∀v∈f0::fr,Looks (A8 prog w) h1 (typeOf v) (.type T):=λT hT v hv=>by
   obtain⟨k,r,h3,h4⟩:=hf v hv;exact Looks.of_pure (hT v k r h3 h4)
  cases k0 with
  | inl i0 =>
   refine⟨tuples' (M6 "int" != M6 "tuple"),λQ q=>kat_kind (s:={ s with heap:=h1,toks:=tk }) kt (by simp) (all "int" λf k r h3 h4=>?_) rfl q,asks _⟩;cases k with
   |inl i=>obtain⟨t,rfl⟩:=h4;rfl
   |inr z=>exact(al _ m0 _ h3).elim
  | inr i0 =>
   refine⟨tuples' (M6 "str" != M6 "tuple"),λQ q=>kat_kind (s:={ s with heap:=h1,toks:=tk }) kt (by simp) (all "str" λf k r h3 h4=>?_) rfl q,asks _⟩;cases k with
   |inr i=>obtain⟨t,rfl⟩:=h4;rfl
   |inl z=>exact(al _ m0 _ h3).elim
def outV (lt:Nat->Nat->Bool)(ys:List V):List V:=if ys.length<2 then ys else(Kr.run lt (R6 ys.length)).toList.map λi=>ys.getD i .non
theorem Lp (r:Vals ys vs)(O:Kr.Ord lt):Vals (outV lt ys) (V1 lt vs):=by
 unfold outV V1;rw[r.length]
 by_cases c:vs.length<2
 ·rw[jr c,jr c];exact r
 ·rw[jt c,jt c];obtain⟨a1,a2,_⟩:=Kr.sort_ok O (n:=vs.length) (by omega)
  have hm:∀i∈(Kr.run lt (R6 vs.length)).toList,i<vs.length:=λi hi=>by
   have:=(Gn.mp a1).mem_iff.mp hi
   simpa using this
  generalize (Kr.run lt (R6 vs.length)).toList=is at hm
  induction is with
  |nil=>exact .nil
  | cons i is ih =>
   refine .cons ?_ (ih λj hj=>hm j (C5 _ hj));exact AQ r .non .none i (by rw[r.length];exact hm i C8)
theorem Rg:M4 X (.builtin "sorted") (λxs H Q=>∃p ys m jo,xs=[.ref p]/\SqL X.K H p ys/\ys.length<64/\Paired (KM X.K H m) ys jo/\Aa jo/\∀l,H l=none->Q (.ref l) (upd H l (.lst (outV (ltIx jo) ys)))):=by
 intro jb s σ H xs us Q I r h;obtain⟨p,ys,m,jo,rfl,hq,h64,hp,al,q⟩:=h;obtain⟨u,rfl,rx⟩:=AB r;cases rx;obtain⟨jf,r',pl,hz⟩:=I.list hq;have hlen:=r'.length;have pk:=kv1_of I m r' hp;have O:=Fi jo;refine QY (vs:=jf) (lt:=ltIx jo) (by omega) (λR hR=>?_) (λh2 A E h1 tk k=>Lo h2 pk al A E h1 tk k) λh2 tk D e k hD ho=>?_
 ·refine collect_list pl.isList (hR _ s.toks (λb o e=>?_) ?_) (by omega)
  ·have hlt:b<s.heap.objs.size:=D1 e;rw[Heap.get?_update_ne _ _ _ _ (E3 hlt)];exact C7 _ e
  ·rw[Heap.size_update,size_push'];omega
 ·have vo:=Lp r' O
  have hl:(outV (ltIx jo) ys).length<=C2:=by
   unfold outV
   split
   ·omega
   ·rw[B6,O3,(Kr.sort_ok O (by omega)).2.1];omega
  exact⟨.ref D,_,I.laid (t':=tk) k hD (show J0 X.prog X.w _ h2 _ (.lst (outV (ltIx jo) ys)) from⟨hl,_,e,vo,ho⟩),rfl,q _ (I.hok.fresh hD)⟩
end
end L2
end
section
namespace Pu
open PySem PySem.Spec L2
def kP:Key->PV
 |.inl i=>.int i
 |.inr z=>.str z
def Ab:List PV->Option (List Key)
 |[]=>some []
 |.int i::r=>(Ab r).map (.inl i::·)
 |.str z::r=>(Ab r).map (.inr z::·)
 |_=>none
def keyP:PV->List Key
 |.int i=>[.inl i]
 |.str z=>[.inr z]
 |.tup xs=>(Ab xs).getD []
 |_=>[]
theorem H_:∀ks:List Key,Ab (ks.map kP)=some ks
 |[]=>rfl
 |.inl i::r=>by show(Ab (r.map kP)).map _=_;rw[H_ r];rfl
 |.inr i::r=>by show(Ab (r.map kP)).map _=_;rw[H_ r];rfl
theorem k5 (ks:List Key):keyP (.tup (ks.map kP))=ks:=by show(Ab (ks.map kP)).getD []=_;rw[H_];rfl
theorem Fj:∀(ks:List Key) {us:List V},Reps K G H (ks.map kP) us->us=ks.map kV
 |[],_,h=>h
 | .inl i :: r, _, h => by
  obtain⟨v,t,rfl,h1,h2⟩:=h;rw[Fj r h2,show v=.int i from h1];rfl
 | .inr i :: r, _, h => by
  obtain⟨v,t,rfl,h1,h2⟩:=h;rw[Fj r h2,show v=.str i from h1];rfl
section
variable {T:PotK}{ι:Type}{K:A9}{F:ι->Cx}{e:Expr}{pe:pE}{pos:Pos}
def Ia (xs:List PV):Prop:=(∀x∈xs,∃i,x=.int i)\/(∀x∈xs,∃z,x=.str z)\/((∀x∈xs,∃ks,x=.tup (ks.map kP)/\ks≠[])/\∀x∈xs,∀y∈xs,Al (keyP x) (keyP y))
def Srt (ys xs:List PV):Prop:=ys.Perm xs/\ys.Pairwise λa b=>lexK (keyP b) (keyP a)=false
def Fk (pe:pE):pA:=λenv n R=>pe env n λx jc n1=>match x with|.lst xs=>xs.length<64/\Ia xs/\∀ys,Srt ys xs->R ys jc n1|_=>False
theorem Dz {G:Gh}{H:Hp}{P:PV->V->List Key->Prop}:∀(xs:List PV) {us:List V},Reps K G H xs us->(∀x∈xs,∀v,Rep K G H x v->P x v (keyP x))->Paired (λv ks=>∃x,x∈xs/\P x v ks) us (xs.map keyP)
 |[],_,h,_=>by cases h;exact .nil
 | x :: xs, _, h, hP => by
  obtain⟨v,t,rfl,h1,h2⟩:=h;refine .cons ⟨x,C8,hP x C8 v h1⟩ ?_;exact Paired.imp' (λv ks ⟨y,hy,hp⟩=>⟨y,C5 _ hy,hp⟩) (Dz xs h2 λy hy=>hP y (C5 _ hy))
theorem km_of (r:Reps K G H xs us)(h:Ia xs):∃m,Paired (KM K H m) us (xs.map keyP)/\Aa (xs.map keyP):=by
 rcases h with h|h|⟨h,h'⟩
 ·refine⟨0,Paired.imp' (λv ks ⟨_,_,hp⟩=>hp) (Dz (P:=λ_ v ks=>KM K H 0 v ks) xs r λx hx v hv=>?_),λa ha b hb=>?_⟩
  ·obtain⟨i,rfl⟩:=h x hx;exact⟨i,hv,rfl⟩
  ·obtain⟨x,hx,rfl⟩:=J1.mp ha;obtain⟨y,hy,rfl⟩:=J1.mp hb;obtain⟨i,rfl⟩:=h x hx;obtain⟨j,rfl⟩:=h y hy;exact trivial
 ·refine⟨1,Paired.imp' (λv ks ⟨_,_,hp⟩=>hp) (Dz (P:=λ_ v ks=>KM K H 1 v ks) xs r λx hx v hv=>?_),λa ha b hb=>?_⟩
  ·obtain⟨i,rfl⟩:=h x hx;exact⟨i,hv,rfl⟩
  ·obtain⟨x,hx,rfl⟩:=J1.mp ha;obtain⟨y,hy,rfl⟩:=J1.mp hb;obtain⟨i,rfl⟩:=h x hx;obtain⟨j,rfl⟩:=h y hy;exact trivial
 ·refine⟨2,Paired.imp' (λv ks ⟨_,_,hp⟩=>hp) (Dz (P:=λ_ v ks=>KM K H 2 v ks) xs r λx hx v hv=>?_),λa ha b hb=>?_⟩
  ·obtain⟨ks,rfl,hne⟩:=h x hx;obtain⟨a,vs,rfl,at',rr⟩:=hv;rw[k5];refine⟨a,rfl,?_,hne⟩;rw[Fj ks rr] at at';exact SqT.of at'.2
  ·obtain⟨x,hx,rfl⟩:=J1.mp ha;obtain⟨y,hy,rfl⟩:=J1.mp hb;exact h' x hx y hy
def outP (xs:List PV):List PV:=if xs.length<2 then xs else(Kr.run (ltIx (xs.map keyP)) (R6 xs.length)).toList.map λi=>xs.getD i .non
theorem Lq (xs:List PV)(i:Nat):(xs.map keyP).getD i []=keyP (xs.getD i .non):=by grind [PV,keyP]
theorem Lr (xs:List PV):Srt (outP xs) xs:=by
 unfold outP
 by_cases c:xs.length<2
 ·rw[jr c];refine⟨List.Perm.refl _,?_⟩
  match xs,c with
  |[],_=>exact .nil
  |[x],_=>exact List.pairwise_singleton _ _
 ·rw[jt c]
  have e:ltIx (xs.map keyP)=λi j=>lexK (keyP (xs.getD i .non)) (keyP (xs.getD j .non)):=by
   funext i j
   unfold ltIx;rw[Lq,Lq]
  rw[e];exact Kr.out_ok (λa b:PV=>lexK (keyP a) (keyP b)) ⟨λ_=>HW _,λ_ _ _ h1 h2=>Fh h1 h2,λ_ _ _ h=>Lm h⟩ .non xs (by omega)
theorem Rh (r:Reps K G H xs us)(i:Nat)(hi:i<xs.length):Rep K G H (xs.getD i .non) (us.getD i .non):=by
 induction xs generalizing us i with
 |nil=>exact absurd hi (CC _)
 | cons x xs ih =>
  obtain⟨v,t,rfl,h1,h2⟩:=r;cases i with
  |zero=>exact h1
  |succ i=>exact ih h2 i (Nat.lt_of_succ_lt_succ hi)
theorem Ls (r:Reps K G H xs us):Reps K G H (outP xs) (outV (ltIx (xs.map keyP)) us):=by
 unfold outP outV;have hl:us.length=xs.length:=r.length.symm;rw[hl]
 by_cases c:xs.length<2
 ·rw[jr c,jr c];exact r
 ·rw[jt c,jt c];obtain⟨a1,a2,_⟩:=Kr.sort_ok (Fi (xs.map keyP)) (n:=xs.length) (by omega)
  have hm:∀i∈(Kr.run (ltIx (xs.map keyP)) (R6 xs.length)).toList,i<xs.length:=λi hi=>by
   have:=(Gn.mp a1).mem_iff.mp hi
   simpa using this
  generalize (Kr.run (ltIx (xs.map keyP)) (R6 xs.length)).toList=is at hm
  induction is with
  |nil=>exact rfl
  |cons i is ih=>exact⟨_,_,rfl,Rh r i (hm i C8),ih λj hj=>hm j (C5 _ hj)⟩
theorem Lu (hg:∀z,Gl (F z) "sorted")(hm:∀z,(F z).mg "sorted"=none)(ha:QR T K F e pe)(hs:F7 e=true:=by rfl)(hK:∀z,(F z).K=K:=by intro _;rfl):QN T K F (.Call (.Name "sorted" p) [e] [] pos) (Fk pe):=by
 obtain⟨t,h1,h2⟩:=ha;refine⟨_,λz=>h9 (hK z▸Rg) (hg z) (hm z) GT (G4 (h1 z) K3 (D7 hs)) (by decide) (by decide) (D7 hs),λC G σ H env n R Q hK hT S hp k=>?_⟩;refine EO h2 hK hT S hp λx jc n1 v H1 p1 S1 r1 f1=>?_;have rd:RdV K G H1 x v:=hK▸r1.rd S1;cases x with
 | lst xs =>
  obtain⟨h64,so,q⟩:=p1;obtain⟨a,us,rfl,hq,r⟩:=rd.lst;obtain⟨m,pk,al⟩:=km_of r so;have hl:us.length=xs.length:=r.length.symm;exact⟨a,us,m,xs.map keyP,rfl,hq,by omega,pk,al,λl hl=>k _ _ _ _ _ _ (q _ (Lr xs)) S1 f1 hl (Ls r)⟩
 |_=>exact p1.elim
end
end Pu
end
section
namespace Pu
open PySem PySem.Spec L2
def tupP (ks:List Key):PV:=.tup (ks.map kP)
end Pu
end
section
namespace L2
open PySem PySem.Spec PyProof.Rows
theorem Ri:M9 "reversed"=some (.type "reversed"):=by decide +kernel
theorem Rj:isSubtype (.type "range_iterator") (.type "reversed")=pure false:=by rw[w4];kernel_rfl
def BU (n:Int):Obj:={ cls:=.type "range_iterator",data:=.fields #[rawInt (0+(n-1)*1),rawInt n,rawInt (-1)] }
section
variable {prog:D2}{w:C9}{A:D8}{E:A1->A6->Prop}{s:A6}
theorem Rk (h0:0<=n)(h1:n<=1000000)(hr:s.heap.get? r=some { cls:=.type "range",data:=.fields #[.int 0 t,.int n u,.int 1 v] })
   (h:Q (.ref s.heap.objs.size) { s with heap:=s.heap.push (BU n) }):A7 (A8 prog w) A (call (.builtin "range.__reversed__") [.ref r]) Q E s:=by
 have hT:s.TypeIs (.ref r) "range":=⟨_,hr,rfl⟩;refine R5 F.slot_range_reversed hT F.entry_range_reversed ?_ (F.args_range_reversed_1 _);unfold N5.«range.__reversed__»;refine A2 (U2 (a:=M3 r) rfl ?_);refine A2 ?_;unfold Builtin.Range.rangeFields;refine A2 (Q4 hr rfl (x:=.int 0 t) rfl ?_);refine A2 (U2 (a:=some (0:Int)) rfl ?_);refine A2 (Q4 hr rfl (x:=.int n u) rfl ?_);refine A2 (U2 (a:=some n) rfl ?_);refine A2 (Q4 hr rfl (x:=.int 1 v) rfl ?_);refine A2 (U2 (a:=some (1:Int)) rfl ?_);refine B0 ?_
 have hs:Gp 0 n 1=n:=by
  unfold Gp;rw[jr (by decide),Int.ediv_one]
  split <;> omega
 dsimp only;rw[hs]
 have sm:(At 0&&At n&&At 1&&At (-1)&&At (0-1)&&At n)=true:=by
  simp only[At,Bo,decide_eq_true_eq];omega
 rw[sm];simp only[Ar,M1,if_false,if_true];exact A2 (T9 (B0 ⟨_,rfl,h⟩))
theorem Rl (h0:0<=n)(h1:n<=1000000)(hr:s.heap.get? r=some { cls:=.type "range",data:=.fields #[.int 0 t,.int n u,.int 1 v] })
   (h:Q (.ref s.heap.objs.size) { s with heap:=s.heap.push (BU n) }):A7 (A8 prog w) A (call (.type "reversed") [.ref r]) Q E s:=by
 have hT:s.TypeIs (.ref r) "range":=⟨_,hr,rfl⟩;refine callType_other (U:="range_iterator") (Q₁:=λobj s₁=>obj=.ref s.heap.objs.size/\s₁={ s with heap:=s.heap.push (BU n) }) (by decide +kernel) F.create_reversed ⟨_,_,F.mro_reversed⟩ F.made_reversed Rj (F.typeCall_reversed_1 _) ?_ ?_
 ·refine Ea ?_;show A7 _ A.in1.in1 (do checkBuiltinCall "reversed.__new__" ⟨[.type "reversed",.ref r],[]⟩;again (.builtin "reversed.__new__" ⟨[.type "reversed",.ref r],[]⟩)) _ _ s;refine A2 (U2 (F.newCall_reversed_1 _) (B0 ⟨w6 F.plain_reversed_new _,l4 F.entry_reversed_new ?_⟩));rw[x5 F.plain_reversed_new _];unfold N5.«reversed.__new__»;refine A2 (U2 (newClass_reversed _) ?_)
  try dsimp only
  refine A2 (U2 (a:=()) (by first|rfl|kernel_rfl) ?_);refine A2 (U2 (a:=()) (by first|rfl|kernel_rfl) ?_)
  try dsimp only
  refine A2 (Ci hT F.slot_range_reversed.lookup ?_)
  try dsimp only
  refine A2 (U2 (F.slot_range_reversed.bind _) ?_)
  try dsimp only
  first
  |rw[jt (show ¬((Value.builtin "range.__reversed__" == T7)=true) from O2)]
  |(show A7 _ _ (if(Value.builtin "range.__reversed__" == T7)=true then _ else _) _ _ _;rw[jt (show ¬((Value.builtin "range.__reversed__" == T7)=true) from O2)])
  refine A2 (b8 ?_);refine A2 (m:=runValue (.call (.builtin "range.__reversed__") ⟨[.ref r],[]⟩)) (show A7 _ _ (call (.builtin "range.__reversed__") [.ref r]) _ _ _ from Rk h0 h1 hr ?_)
  first
  |exact B0 ⟨rfl,rfl⟩
  |exact A2 (B0 (B0 ⟨rfl,rfl⟩))
 ·rintro obj s₁ ⟨rfl,rfl⟩;exact⟨⟨_,G7 _ rfl,rfl⟩,h⟩
end
section
variable {X:Cx}{tg:Expr}
def tRng1 (ta:TA):TE:=λσ H Q=>ta σ H λvs H1=>∃j:Int,vs=[.int j]/\∀p,H1 p=none->Q (.ref p) (upd H1 p (.rng 0 j))
theorem Rm (hg:Gl X "range")(hm:X.mg "range"=none)(ha:PA X [a] ta)(hs:E6 [a] X.env=[(false,eval a X.env)]:=by rfl):PE X (.Call (.Name "range" p) [a] [] pos) (tRng1 ta):=by
 intro jb s σ H Q I h;refine Call_ (x9 I hg hm boot_range (CH (thn (ha pos jb s σ H _ I h) λus s1 ⟨vs,H1,I1,r1,q1⟩=>?_) hs rfl));obtain⟨j,e,q⟩:=q1;subst e;cases r1 with
 | cons r rr =>
  cases rr;obtain⟨t,rfl⟩:=r;refine call_range_1 ?_;exact⟨.ref s1.heap.objs.size,_,I1.laid (a:=s1.heap.objs.size) (o:=.rng 0 j) (λb o e=>C7 _ e) (B8 _) ⟨_,_,_,G7 _ rfl⟩,rfl,q _ (I1.hok.fresh (B8 _))⟩
def iRevR (ta:TA):TI:=λσ H R=>ta σ H λvs H1=>∃(r:A0) (n:Int),vs=[.ref r]/\H1 r=some (.rng 0 n)/\0<=n/\n<=1000000/\R (Itd (n-1) n.toNat) H1
theorem Ro (hg:Gl X "reversed")(hm:X.mg "reversed"=none)(ha:PA X [e] ta)(hs:E6 [e] X.env=[(false,eval e X.env)]:=by rfl):PI X tg (.Call (.Name "reversed" p) [e] [] pos) (iRevR ta):=by
 intro jb s σ H R I h;refine Call_ (x9 I hg hm Ri (CH (thn (ha pos jb s σ H _ I h) λus s1 ⟨vs,H1,I1,r1,q1⟩=>?_) hs rfl));obtain⟨r,n,e,hr,h0,h2,q⟩:=q1;subst e;cases r1 with
 | cons rr0 rr =>
  cases rr;cases rr0;obtain⟨t,u,v,ho⟩:=(show J0 X.prog X.w H1 s1.heap r (.rng 0 n) from I1.hok r _ hr);refine Rl h0 h2 ho ?_;have I2:Inv X jb σ H1 { s1 with heap:=s1.heap.push (BU n) }:=I1.kept (t':=s1.toks) λb o e=>C7 _ e
  have st:IsRangeIter (s1.heap.push (BU n)) s1.heap.objs.size (n-1+((0:Nat):Int) * -1) ((n.toNat:Int)-((0:Nat):Int)) (-1):=by
   have e1:n-1+((0:Nat):Int) * -1=0+(n-1)*1:=by omega
   have e2:(n.toNat:Int)-((0:Nat):Int)=n:=by omega
   rw[e1,e2];exact G7 _ rfl
  refine Gd (s:={ s1 with heap:=s1.heap.push (BU n) }) st ?_;refine⟨s1.heap.objs.size,[s1.heap.objs.size],_,_,H1,rfl,I2,Qm _ (n-1) n.toNat,st,λb hb=>?_,q⟩;have e:b=s1.heap.objs.size:=by simpa using hb
  subst e;exact I1.fpOk (B8 _) (I1.hok.fresh (B8 _))
end
end L2
namespace Pu
open PySem PySem.Spec L2
section
variable {T:PotK}{ι:Type}{K:A9}{F:ι->Cx}{tg e:Expr}{pe:pE}{pos:Pos}
def DA (pe:pE):pA:=λenv n R=>pe env n λx jc n1=>match x with|.int j=>(0<=j/\j<=1000000)/\R ((E9 j.toNat).map λ(k:Nat)=>PV.int (j-1-k)) jc n1|_=>False
theorem Ib (hg:∀z,Gl (F z) "reversed")(hm:∀z,(F z).mg "reversed"=none)(hg2:∀z,Gl (F z) "range")(hm2:∀z,(F z).mg "range"=none)(h:QE T K F e pe)(hs:F7 e=true:=by rfl):QI T K F tg (.Call (.Name "reversed" p) [.Call (.Name "range" p2) [e] [] pos2] [] pos) (DA pe):=by
 obtain⟨t,h1,h2⟩:=h;refine⟨_,λz=>Ro (hg z) (hm z) (G4 (Rm (hg2 z) (hm2 z) (G4 (h1 z) K3 (D7 hs)) (D7 hs)) K3 (D7 rfl)) (D7 rfl),λC G σ H env n R Q hK hT S hp k=>?_⟩;refine h2 C G σ H env n _ _ hK hT S hp λx jc n1 v H1 p1 S1 r1 f1=>?_;cases x with
 | int j =>
  refine⟨j,by rw[show v=.int j from r1],λp hn=>⟨p,j,rfl,D9,p1.1.1,p1.1.2,?_⟩⟩;exact k _ _ _ _ _ p1.2 (S1.same (Same.lay1 hn)) (f1.trans (Fr.of (Same.lay1 hn))) (Qn (j-1) _)
 |_=>exact p1.elim
end
end Pu
end
section
namespace L2
open PySem PySem.Spec PyProof.Rows
section
variable {prog:D2}{w:C9}{A:D8}{E:A1->A6->Prop}{s:A6}
theorem Rp {j:Nat}(ht:s.heap.IsTuple t jf)(hS:StrsAre jf.toList ys)(hj:ys[j]?=some k)(hlt:∀i,i<j->ys[i]?≠some k)(hsm:ys.length<=1000000)
   (h:∀tk,Q (.int j tk) { s with toks:=s.toks+1 }):A7 (A8 prog w) A (call (.builtin "tuple.index") [.ref t,.str k tok]) Q E s:=by
 obtain⟨o,ho,hc,n,hd⟩:=id ht;have hT:s.TypeIs (.ref t) "tuple":=⟨o,ho,hc⟩;refine R5 F.slot_tuple_index hT F.entry_tuple_index ?_ (F.args_tuple_index_2 _ _);unfold N5.«tuple.index»;refine A2 (U2 (a:=(M3 t,[Value.str k tok])) rfl ?_);refine A2 (wpAny_tupleItemsOf ho hd ?_);dsimp only;refine A2 (B0 (A2 (B0 ?_)));refine A2 ?_;have hlen:ys.length=jf.toList.length:=(StrsAre.length hS).symm
 have at_:∀(i:Nat) (y:Str),ys[i]?=some y->∃u,jf[i]?=some (.str y u):=by
  intro i y hy
  have:∀{us:List A1} {zs:List Str},StrsAre us zs->∀(i:Nat),zs[i]?=some y->∃u,us[i]?=some (.str y u):=by
   intro us zs hh
   induction hh with
   |nil=>intro i h;cases h
   | cons x t _ ih =>
    intro i h;cases i with
    |zero=>cases h;exact⟨t,rfl⟩
    |succ i=>exact ih i (by simpa using h)
  obtain⟨u,hu⟩:=this hS i hy;exact⟨u,by rw[<- T6];exact hu⟩
 have hjl:j<jf.size:=by
  have:=(J5.mp hj).1;rw[hlen,O3] at this;exact this
 rw[Std.Legacy.Range.forIn_eq_forIn_range'];refine DY _ (λrest r s'=>r.1=none/\s'=s/\∃i,rest=List.range' i (jf.size-i)/\i<=j) _ ?_ ?_ _ _ ⟨rfl,rfl,0,?_,K4 _⟩
 ·rintro x rest ⟨r1,r2⟩ s' ⟨hr,rfl,i0,hi,hij⟩;have hil:jf.size-i0=(jf.size-i0-1)+1:=by omega
  rw[hil,List.range'_succ] at hi;obtain⟨i,hxi⟩:∃i,x=i:=⟨x,rfl⟩;injection hi with h1 h2;subst h2;have hi0:i0=i:=by rw[<- hxi,h1]
  subst hi0;subst hxi;clear h1
  revert hij hil
  generalize x=i;intro hij hil;have hiy:i<ys.length:=by rw[hlen,O3];omega
  obtain⟨u,hu⟩:=at_ i ys[i] (D4 hiy);rw[hu];dsimp only;refine A2 (eqBool_str ?_)
  by_cases c:i=j
  ·subst c
   have:ys[i]=k:=by
    have:=D4 hiy;rw[hj] at this;exact(P0 this).symm
   rw[this,beq_self_eq_true,jr rfl];refine A2 (A2 (wpAny_mkInt (B0 (B0 ?_))));exact B0 ⟨_,rfl,h _⟩
  ·have:ys[i]≠k:=λe=>hlt i (by omega) (by rw[D4 hiy,e]);rw[beq_eq_false_iff_ne.mpr this,jt O2];refine B0 ⟨rfl,rfl,i+1,?_,by omega⟩;rw[show jf.size-(i+1)=jf.size-i-1 by omega]
 ·rintro⟨r1,r2⟩ s' ⟨hr,rfl,i,hi,hij⟩;have hil:jf.size-i=(jf.size-i-1)+1:=by omega
  rw[hil,List.range'_succ] at hi;cases hi
 ·simp[Std.Legacy.Range.size]
end
section
variable {X:Cx}
def Lv (K:A9):V->List V->Hp->VK->Prop:=λx vs H Q=>∃(l:A0) (k:Str) (ys:List Str) (j:Nat),x=.ref l/\vs=[.str k]/\SqT K H l (ys.map V.str)/\ys.length<=1000000/\ys[j]?=some k/\(∀i,i<j->ys[i]?≠some k)/\Q (.int j) H
theorem Rq:MtM X "tuple.index" (Lv X.K):=by
 intro jb s σ H x vs v us Q I rx rv h;obtain⟨l,k,ys,j,rfl,rfl,hq,hz0,hj,hlt,q⟩:=h;cases rx;obtain⟨u,rfl,ru⟩:=rv.one;obtain⟨t,rfl⟩:=ru;obtain⟨jf,r,p,hz⟩:=I.tuple hq;exact Rp p (HH r) hj hlt hz0 λtk=>⟨.int j,H,I.tok _,⟨_,rfl⟩,q⟩
end
end L2
end
section
namespace Pu
open PySem PySem.Spec PyProof.Rows L2
section
variable {T:PotK}{ι:Type}{K:A9}{F:ι->Cx}{e c:Expr}{pe pc:pE}{pos:Pos}
def k6:w2:=λx y R=>match x,y with|.tup xs,.str k=>(match R8 xs with|some ys=>ys.length<=1000000/\∃j:Nat,ys[j]?=some k/\(∀i,i<j->ys[i]?≠some k)/\R (.int j)|none=>False)|_,_=>False
def R9 (pe pc:pE):pE:=λenv n R=>pe env n λx jc n1=>(∃xs,x=.tup xs)/\pc jc n1 λy jd n2=>k6 x y λz=>R z jd n2
theorem X9 (he:QE T K F e pe)(hc:QE T K F c pc)(hs:F7 c=true:=by rfl)(hbase:∀z,l5 e "index" (F z).env (eval e (F z).env)=eval e (F z).env:=by intro _;rfl)(hline:(ap.endLine == pos.line)=true:=by rfl)
   (hfew:∀z,((backTo pos (E6 [c] (F z).env)).all (λx=>!x.1)&&(b9 pos (b7 [] (F z).env)).all (λx=>x.1.isSome)&&decide (([c]:List Expr).length+([]:List T0).length+(if([]:List T0).isEmpty then 0 else 1)<30))=true:=by intro _;rfl) (hK:∀z,(F z).K=K:=by intro _;rfl):QE T K F (.Call (.Attribute e "index" ap) [c] [] pos) (R9 pe pc):=by
 obtain⟨t,a1,a2⟩:=he;obtain⟨u,b1,b2⟩:=hc;refine⟨tBM K "tuple" (Lv K) t (V8 u tNil),λz=>hK z▸BG PySem.F.plainAttrs_tuple PySem.F.slot_tuple_index PySem.F.type_tuple_index Rq (a1 z) (G4 (b1 z) K3 (D7 hs)) (hbase z) (hfew z) hline (D7 hs),λC G σ H env n R Q hK hT S hp k=>?_⟩;refine a2 C G σ H env n _ _ hK hT S hp λx jc n1 v H1 q1 S1 r1 f1=>?_;obtain⟨⟨xs,rfl⟩,q1⟩:=q1;obtain⟨a,vs,rfl,ta,ra⟩:=r1;refine⟨?_,?_⟩
 ·exact .inr (.inl ⟨rfl,.inr ⟨vs,ta.2⟩⟩)
 refine b2 C G σ H1 jc n1 _ _ hK hT S1 q1 λy jd n2 w H2 q2 S2 r2 f2=>?_;unfold k6 at q2
 split at q2
 ·rename_i xs' kk e1;cases e1
  split at q2
  ·rename_i ys ey;obtain⟨hz,j,hj,hlt,q3⟩:=q2;obtain⟨a',vs',e3,ta',ra'⟩:=(show Rep K G H1 (.tup xs) (.ref a) from⟨a,vs,rfl,ta,ra⟩).fr f2;cases e3;exact⟨a,kk,ys,j,rfl,by rw[show w=.str kk from r2],Dm ey ra'▸SqT.of ta'.2,hz,hj,hlt,k _ _ _ _ _ q3 S2 rfl (f1.trans f2)⟩
  ·exact q2.elim
 ·exact q2.elim
end
end Pu
end
section
namespace Pu
open PySem PySem.Spec L2
def frzS:Slot->Option Slot
 |.v x=>some (.v x)
 |.ow .lst xs=>some (.v (.lst xs))
 |.ow (.dk ks) xs=>if ks.length=xs.length then some (.v (.dct ks xs)) else none
 |.ow (.dt _) _=>none
 |.ow (.st _) _=>none
def frz (env:Env):Env:=env.map λo=>o.bind frzS
end Pu
end
section
namespace Pu
open PySem PySem.Spec L2
abbrev pSlN:=Env->Nat->(List Slot->Env->Nat->Prop)->Prop
def Gots (C:Ct)(G:Gh)(H:Hp)(σ:St)(env:Env):List Slot->List V->Prop
 |[],vs=>vs=[]
 |s::ss,vs=>∃v r,vs=v::r/\Got C G H σ env s v/\(∀(xs:OK×List PV) a,s=.ow xs.1 xs.2->v=.ref a->∀(ys:OK×List PV) w,(Slot.ow ys.1 ys.2,w)∈ss.zip r->w≠.ref a)/\Gots C G H σ env ss r
section
variable {T:PotK}{np:Bool}{ι:Type}{K:A9}{F:ι->Cx}{e:Expr}{es:List Expr}{st:Stmt}{s1:pSl}{sl:pSlN}{pos:Pos}
theorem Gots.set (hl:env.length=σ.length):∀{ss:List Slot} {vs:List V},Gots C G H σ env ss vs->(∀(xs:OK×List PV) a,s0=.ow xs.1 xs.2->v0=.ref a->∀(ys:OK×List PV) w,(Slot.ow ys.1 ys.2,w)∈ss.zip vs->w≠.ref a)->Gots C G H (σ.set i (some v0)) (env.set i (some s0)) ss vs
 |[],_,h,_=>h
 | s :: ss, vs, h, no => by
  obtain⟨v,r,rfl,g,ne,h⟩:=h;refine⟨v,r,rfl,⟨g.1,λxs a e1 e2 z=>?_⟩,ne,Gots.set hl h λxs a e1 e2 ys w hw=>no xs a e1 e2 ys w (by rw[l9];exact C5 _ hw)⟩;rcases Hr hl z with z|⟨⟨zs,ez⟩,ev⟩
  ·exact g.2 xs a e1 e2 z
  ·exact no zs a ez ev xs v (by rw[l9,e1];exact C8) e2
end
end Pu
end
section
namespace L2
open PySem PySem.Spec PyProof.Rows
section
variable {prog:D2}{w:C9}{A:D8}{E:A1->A6->Prop}{s:A6}
theorem Lw {it t:A0}{items:Array A1}(hne:t≠it):∀(n i:Nat) (s:A6) (Q:List A1->A6->Prop),s.heap.IsListIter it t i->s.heap.IsList t items->i+n<=items.size->
   (∀h':B7,h'.IsListIter it t (i+n)->V4 it s.heap h'->Q ((items.toList.drop i).take n) { s with heap:=h' })->A7 (A8 prog w) A (draw (.ref it) n) Q E s
 | 0, i, s, Q, hit, _, _, hQ => by
  show A7 _ _ (pure []) Q E s;exact B0 (by simpa using hQ s.heap hit (Heap.SameBut.refl ..))
 | n + 1, i, s, Q, hit, ht, hle, hQ => by
  have hlt:i<items.size:=by omega
  show A7 _ _ (pyNext (.ref it)>>=_) Q E s;refine A2 (wpAny_pyNext_list_item hit ht (x:=items[i]) (by simp[hlt]) λh₁ hit₁ hs₁=>?_);refine A2 (M8 (Lw hne n (i+1) _ _ hit₁ (ht.extBut hs₁.extBut hne) (by omega) λh₂ hit₂ hs₂=>B0 ?_));have hd:items.toList.drop i=items[i]::items.toList.drop (i+1):=by simp[An,hlt]
  have:=hQ h₂ (by rw[show i+(n+1)=i+1+n by omega];exact hit₂) (hs₁.trans hs₂);rw[hd,List.take_succ_cons] at this;exact this
theorem Rr {env:Env}{elts:List Expr}{x1}{pos:Pos}{t:A0}{items:Array A1}{Q:Unit->A6->Prop}(hh:A.handled=none)(ht:s.heap.IsList t items)
   (hn:(K5 elts env).length=items.size) (hstar:(K5 elts env).findIdx? (·.1)=none)
   (h:∀h',Heap.ExtBut s.heap.objs.size s.heap h'->A7 (A8 prog w) A (assignInOrder ((K5 elts env).map (·.2)) items.toList) Q E { s with heap:=h' }) :
   A7 (A8 prog w) A (assign (.Tuple elts x1 pos) env (.ref t)) Q E s:=by
 rw[assign_Tuple];refine A2 (Z9 ?_);have hlt:t≠s.heap.objs.size:=by obtain⟨o,ho,_⟩:=ht;exact E3 (D1 ho)
 unfold unpack;rw[hn,hstar];refine A2 (M8 ?_);unfold unpackItems;refine A2 ?_;unfold notIterableAtAll;refine A2 (Ci ht.typeIs slot_list_iter.lookup ?_);refine B0 ?_;simp only[M1,if_false];refine A2 (M8 (Ba ht ?_));refine A2 (M8 (Lw hlt items.size 0 _ _ ⟨_,G7 _ rfl,rfl,rfl⟩ (ht.push _) (by omega) λh₁ hit₁ hs₁=>?_))
 have hall:List.take items.size (List.drop 0 items.toList)=items.toList:=by
  rw[Eh];exact l8 (by simp)
 rw[hall];rw[jt (by simp)];have ht₁:h₁.IsList t items:=(ht.push _).extBut hs₁.extBut hlt;refine A2 (M8 (wpAny_pyNext_list_end hh hit₁ ht₁ (by simp) λh₂ he₂=>?_));simp only[Option.isSome_none,M1,if_false];exact B0 (h h₂ λb o hb e=>he₂ b o hb (hs₁.extBut b o hb (C7 _ e)))
end
section
variable {X:Cx}{pos:Pos}
def gLst (K:A9)(n:Nat)(t:TGs):TG:=λv σ H Q=>∃a xs,v=.ref a/\SqL K H a xs/\xs.length=n/\t xs σ H Q
theorem pg_lst (hc:X.calm=true)(h:PGs X es t)
   (hn:(K5 es X.env).length=n:=by rfl) (hst:(K5 es X.env).findIdx? (·.1)=none:=by rfl):PG X (.Tuple es k pos) (gLst X.K n t):=by
 intro jb s σ H v u Q I r hw;obtain⟨a,xs,e1,hq,hl,hw⟩:=hw;subst e1;cases r;obtain⟨jf,rv,ht⟩:=I.sqL hq;refine Rr (I.ok.hd hc) ht (by simp[hn,<- hl,rv.length]) hst λh' hx=>?_;have I1:Inv X jb σ H { s with heap:=h' }:=I.kept (t':=s.toks) λb o e=>hx b o (E3 (D1 e)) e;exact h jb _ σ H xs _ Q I1 (by simpa using rv) hw
end
end L2
namespace Pu
open PySem PySem.Spec L2
section
variable {ι:Type}{K:A9}{F:ι->Cx}{es:List Expr}{pgs:pGs}{pos:Pos}
def gTl (m:Nat)(g:pGs):pG:=λx env R=>match x with|.lst xs=>xs.length=m/\g xs env R|_=>False
theorem qg_lst (hc:∀z,(F z).calm=true)(h:QGs K F es pgs)(hn:∀z,(K5 es (F z).env).length=m:=by intro _;rfl)(hst:∀z,(K5 es (F z).env).findIdx? (·.1)=none:=by intro _;rfl)(hK:∀z,(F z).K=K:=by intro _;rfl):QG K F (.Tuple es k pos) (gTl m pgs):=by
 obtain⟨g,a1,a2⟩:=h;refine⟨_,λz=>hK z▸pg_lst (hc z) (a1 z) (hn z) (hst z),λC G σ H env n x v R Q hK S r hp k=>?_⟩;cases x with
 | lst xs =>
  obtain⟨a,vs,rfl,t,rs⟩:=r;exact⟨a,vs,rfl,t.sq,by rw[<- rs.length];exact hp.1,a2 C G σ H env n xs vs _ _ hK S rs hp.2 k⟩
 |_=>exact hp.elim
end
end Pu
end
section
namespace L2
open PySem PySem.Spec PyProof.Rows
abbrev LC2 (ji t1 i1 t2 i2:Expr)(jk:List Expr)(scope:J7)(pos:Pos):Expr:=.ListComp ji [⟨t1,i1,[],0⟩,⟨t2,i2,jk,0⟩] scope pos
theorem Rt (ji t1 i1 t2 i2:Expr)(jk:List Expr)(scope:J7)(pos:Pos)(it jl:A1)(env:Env) :
   compTurn (LC2 ji t1 i1 t2 i2 jk scope pos) 1 it jl env=(do
    standAt i2.pos
    match ← pyNext it with
    |none=>pure (.done .next)
    | some v =>
     v5 t2 it v
     assign t2 env v
     let mut ok:=true
     for c in jk do
      if ok then ok ← isTrue c env (eval c env)
     if ok then
      (do let _ ← call (.builtin "list.append") [jl,<- eval ji env])
     again (.compLoop (LC2 ji t1 i1 t2 i2 jk scope pos) 1 it jl env)):=by rfl
section
variable {prog:D2}{w:C9}{A:D8}{R:Result->A6->Prop}{s:A6}{ji t1 i1 t2 i2:Expr}{jk:List Expr}{scope:J7}{pos:Pos}{it jl:A1}{env:Env}
theorem loop_i (I:Nat->A6->Prop)
   (turn:∀n s,I n s->A7 (A8 prog w) A (pyNext it) (fun r s₁=>match r with
    |none=>R (.ok .next) s₁
    |some v=>A7 (A8 prog w) A (v5 t2 it v) (λ_ s₁'=>A7 (A8 prog w) A (assign t2 env v) (λ_ s₂=>
        A7 (A8 prog w) A (forIn jk true fun c r=>if r=true then do let ok ← isTrue c env (eval c env);pure (x6 ok) else pure (x6 r)) (fun ok s₃=>
         if ok=true then A7 (A8 prog w) A (eval ji env) (λx s₄=>
          A7 (A8 prog w) A (call (.builtin "list.append") [jl,x]) (λ_ s₅=>∃m,m<n/\I m s₅) (λ_ _=>False) s₄) (λ_ _=>False) s₃
         else ∃m,m<n/\I m s₃) (λ_ _=>False) s₂) (λ_ _=>False) s₁') (λ_ _=>False) s₁) (λ_ _=>False) s)
   (n:Nat) (h:I n s):O0 (A8 prog w) A (.compLoop (LC2 ji t1 i1 t2 i2 jk scope pos) 1 it jl env) R s:=by
 refine codeAny_loop rfl I (λn s hI=>?_) n h;show A7 _ A ((compTurn (LC2 ji t1 i1 t2 i2 jk scope pos) 1 it jl env).onRaise (λx=>do noteFrame x env;theTreesLotGoes x)) _ _ s;refine wpAny_noted ?_;rw[Rt];refine A2 (Z9 (A2 (K1 (turn n s hI) (λr s₁ h₁=>?_) λ_ _ h'=>h'.elim)));cases r with
 |none=>exact B0 h₁
 | some v =>
  refine A2 (K1 h₁ (λ_ s₁' h₁'=>?_) λ_ _ h'=>h'.elim);refine A2 (K1 h₁' (λ_ s₂ h₂=>A2 (K1 h₂ (λok s₃ h₃=>?_) λ_ _ h'=>h'.elim)) λ_ _ h'=>h'.elim);cases ok with
  |false=>exact B0 ⟨rfl,h₃⟩
  | true =>
   exact A2 (A2 (K1 h₃ (λx s₄ h₄=>A2 (K1 h₄ (λ_ s₅ h₅=>B0 (B0 ⟨rfl,h₅⟩)) λ_ _ h'=>h'.elim)) λ_ _ h'=>h'.elim))
theorem Ru (h0:O0 (A8 prog w) A (.compLoop (LC2 ji t1 i1 t2 i2 jk scope pos) 1 it jl env) R s)
   (h:A7 (A8 prog w) A (pyIter it) (λit' s'=>O0 (A8 prog w) A (.compLoop (LC2 ji t1 i1 t2 i2 jk scope pos) 1 it' jl env) R s') (λ_ _=>False) s) :
   O0 (A8 prog w) A (.compStart (LC2 ji t1 i1 t2 i2 jk scope pos) 1 it jl env) R s:=by
 refine Ea ?_;show A7 _ _ ((compStart (LC2 ji t1 i1 t2 i2 jk scope pos) 1 it jl env).onRaise (λx=>do noteFrame x env;standAt theWindowsPlace)) _ _ s;refine wpAny_notedAt ?_;unfold compStart;show A7 _ _ (ask>>=_) _ _ s;refine A2 (DX (wpAny_ite ?_))
 split
 ·first
    |exact A2 (B0 (B0 (And.intro rfl h0)))
    |exact B0 (And.intro rfl h0)
 ·first
    |exact A2 (b8 (A2 (Z9 (A2 (K1 h (λit' s' h'=>B0 (And.intro rfl h')) λ_ _ x=>x.elim)))))
    |(refine A2 (b8 ?_);show A7 _ _ (standAt i2.pos>>=_) _ _ s;exact A2 (Z9 (A2 (K1 h (λit' s' h'=>B0 (And.intro rfl h')) λ_ _ x=>x.elim))))
theorem loop_o (hs:∀x,U1 i2 env x=pure x)(I:Nat->A6->Prop)
   (turn:∀n s,I n s->A7 (A8 prog w) A (pyNext it) (fun r s₁=>match r with
    |none=>R (.ok .next) s₁
    |some v=>A7 (A8 prog w) A (v5 t1 it v) (λ_ s₁'=>A7 (A8 prog w) A (assign t1 env v) (λ_ s₂=>
        A7 (A8 prog w) A (eval i2 env) (λx s₃=>A7 (A8 prog w) A (pyIter x) (λit2 s₄=>
         O0 (A8 prog w) A (.compStart (LC2 ji t1 i1 t2 i2 jk scope pos) 1 it2 jl env) (λr s'=>r=.ok .next/\∃m,m<n/\I m s') s₄) (λ_ _=>False) s₃) (λ_ _=>False) s₂) (λ_ _=>False) s₁') (λ_ _=>False) s₁) (λ_ _=>False) s)
   (n:Nat) (h:I n s):O0 (A8 prog w) A (.compLoop (LC2 ji t1 i1 t2 i2 jk scope pos) 0 it jl env) R s:=by
 refine codeAny_loop rfl I (λn s hI=>?_) n h;show A7 _ A ((compTurn (LC2 ji t1 i1 t2 i2 jk scope pos) 0 it jl env).onRaise (λx=>do noteFrame x env;theTreesLotGoes x)) _ _ s;refine wpAny_noted ?_;unfold compTurn;show A7 _ _ (standAt i1.pos>>=_) _ _ s;refine A2 (Z9 ?_);refine A2 (K1 (turn n s hI) (λr s₁ h₁=>?_) λ_ _ h'=>h'.elim);cases r with
 |none=>exact B0 h₁
 | some v =>
  refine A2 (K1 h₁ (λ_ s₁' h₁'=>?_) λ_ _ h'=>h'.elim);refine A2 (K1 h₁' (λ_ s₂ h₂=>A2 (wpAny_tests_nil ?_)) λ_ _ h'=>h'.elim);refine A2 (K1 h₂ (λx s₃ h₃=>?_) λ_ _ h'=>h'.elim);refine A2 (Z9 ?_);show A7 _ _ (U1 i2 env x>>=λx=>(X2 [x] (pyIter x)>>=λit2=>(runOwn (.compStart (LC2 ji t1 i1 t2 i2 jk scope pos) 1 it2 jl env) env>>=λ_=>again (.compLoop (LC2 ji t1 i1 t2 i2 jk scope pos) 0 it jl env)))) _ _ _;refine A2 (U2 (hs x) (A2 (M8 (K1 h₃ (λit2 s₄ h₄=>?_) λ_ _ h'=>h'.elim))));refine A2 (wpAny_runOwn ?_);rw[Around.mark_none];refine Ak h₄ λr s' hr=>?_;obtain⟨rfl,hr⟩:=hr;exact B0 ⟨rfl,hr⟩
end
def Ly (J:It)(g:TG)(tt:TT)(te:TE)(D:A0)(N:St->Hp->Prop)(σ:St)(H:Hp):Prop:=∃W:Nat->Nat->St->Hp->Prop,(∃m,W 0 m σ H)/\
 ∀i m σ' H',W i m σ' H'->(J.stop i H'/\N σ' H')\/(J.go i H'/\∀x H2,J.yld i H' x H2->g x σ' H2 fun σ3 H3=>tt σ3 H3 fun b H4=>
    if b=true then te σ3 H4 λv H5=>∃ys,H5 D=some (.lst ys)/\ys.length<C2/\∃m',m'<m/\W (i+1) m' σ3 (upd H5 D (.lst (ys++[v])))
    else ∃m',m'<m/\W (i+1) m' σ3 H4)
def Ie (J:It)(g1:TG)(wi2:TI)(g2:TG)(tt:TT)(te:TE)(Q:VK)(D:A0)(σc:St)(H1:Hp):Prop:=∃W:Nat->Nat->St->Hp->Prop,(∃m,W 0 m σc H1)/\
 ∀i m σ' H',W i m σ' H'->(J.stop i H'/\Q (.ref D) H')\/(J.go i H'/\∀x H2,J.yld i H' x H2->g1 x σ' H2 λσ3 H3=>wi2 σ3 H3 λJ2 H4=>Ly J2 g2 tt te D (λσ5 H5=>∃m',m'<m/\W (i+1) m' σ5 H5) σ3 H4)
def tComp2 (cs:List (Option Nat))(wi:TI)(g1:TG)(wi2:TI)(g2:TG)(tt:TT)(te:TE):TE:=λσ H Q=>wi σ H λJ H1=>∀D,H1 D=none->Ie J g1 wi2 g2 tt te Q D (t0 cs σ) (upd H1 D (.lst []))
theorem loop2 {Y:Cx}{scope:J7}{ji t1 i1 t2 i2:Expr}{jk:List Expr}{pos:Pos}{wi2:TI}{g1 g2:TG}{tt:TT}{te:TE}{fp:List A0}{it D:A0}{tn:Nat->B7->Prop}{J:It}{s₃:A6}{H3:Hp}{σ3:St}{jb:List (A0×Obj)}{Q:VK}{R:Result->A6->Prop}(hx:Y.xe=λ_ _=>False)(hc:Y.calm=true)
   (hb:PG Y t1 g1/\PI Y t2 i2 wi2/\PG Y t2 g2/\PIf Y jk tt/\PE Y ji te) (hs2:∀x,U1 i2 Y.env x=pure x) (T:Turn Y.prog Y.w Y.K t1 J fp it tn) (stat:∀{H':Hp},(∀b∈fp,H' b=none)->∀b∈fp,FpOk Y jb H' b) (q:Ie J g1 wi2 g2 tt te Q D σ3 H3)
   (fin:∀s4 σ4 H4,Inv Y jb σ4 H4 s4->Q (.ref D) H4->R (.ok .next) s4) (Ic:Inv Y jb σ3 H3 s₃) (st1:tn 0 s₃.heap) (fr1:∀b∈fp,H3 b=none) :
   O0 (A8 Y.prog Y.w) Y.A (.compLoop (LC2 ji t1 i1 t2 i2 jk scope pos) 0 (.ref it) (.ref D) Y.env) R s₃:=by
 obtain⟨W,⟨m0,w0⟩,turn⟩:=q;obtain⟨hg,hi2,hg2,hf,he⟩:=hb;refine loop_o hs2 (λn s'=>∃i σ' H',Inv Y jb σ' H' s'/\tn i s'.heap/\(∀b∈fp,H' b=none)/\W i n σ' H') ?_ m0 ⟨0,_,_,Ic,st1,fr1,w0⟩;rintro n s3 ⟨i,σ3,H3,I3,st3,fr3,w3⟩;rcases turn i n σ3 H3 w3 with⟨stop,qn⟩|⟨go,step⟩
 ·refine thn (T.done Y rfl rfl rfl hc i jb s3 σ3 H3 (λ_ _=>False) I3 (stat fr3) st3 stop) λr s4 ⟨hr,I4⟩=>?_;subst hr;exact fin s4 _ _ I4 qn
 ·refine thn (T.item Y rfl rfl rfl hc i jb s3 σ3 H3 (λ_ _=>False) I3 (stat fr3) st3 go) λr s4 ⟨u,hr,h4⟩=>?_;subst hr;refine thn h4 λ_ s5 ⟨x,H5,I5,r5,y5,st5,fr5⟩=>?_;refine thn (hx▸hg _ s5 σ3 H5 x u _ (I5.pinned (stat fr5) (T.obj _ _ st5)) r5 (step x H5 y5)) λ_ s6 ⟨σ6,H6,I6,q6⟩=>?_;refine thn (hx▸hi2 _ s6 σ6 H6 _ I6 q6) λv7 s7 h7=>thn h7 λitv s8 h8=>?_;obtain⟨it2,fp2,tn2,J2,H8,rfl,I8,T2,st8,f8,W2,⟨m2,w2⟩,turn2⟩:=h8
  have inner:O0 (A8 Y.prog Y.w) Y.A (.compLoop (LC2 ji t1 i1 t2 i2 jk scope pos) 1 (.ref it2) (.ref D) Y.env) (λr s'=>r=.ok .next/\∃m,m<n/\∃i σ' H',Inv Y jb σ' H' s'/\tn i s'.heap/\(∀b∈fp,H' b=none)/\W i m σ' H') s8:=
   loop_i (λn s'=>∃i σ' H',Inv Y (jb++BD fp s5.heap) σ' H' s'/\tn2 i s'.heap/\(∀b∈fp2,H' b=none)/\W2 i n σ' H') (by rw[<- hx];exact GR T2 hc (λhn b hb=>⟨hn b hb,(f8 b hb).2⟩) hg2 hf he (λs10 σ9 H9 I10 qn2=>⟨rfl,GQ T st5 I10 qn2⟩) turn2) m2 ⟨0,σ6,H8,I8,st8,λb hb=>(f8 b hb).1,w2⟩
  exact Ru inner (T2.self _ 0 _ _ _ st8 inner)
theorem Rv {X:Cx}{scope:J7}{cl:List (Str×A0)}{N:List Str}{cs:List (Option Nat)}{ji t1 i1 t2 i2:Expr}{jk:List Expr}{pos:Pos}{wi1 wi2:TI}{g1 g2:TG}{tt:TT}{te:TE}(S:q8 X scope cl N cs)(hc:X.calm=true)(hi:PI X t1 i1 wi1)
   (hb:∀(fp:List A0) (C:A0) (s:A6) (H:Hp),PG (J8 X scope cl N fp C s H) t1 g1/\PI (J8 X scope cl N fp C s H) t2 i2 wi2/\PG (J8 X scope cl N fp C s H) t2 g2/\PIf (J8 X scope cl N fp C s H) jk tt/\PE (J8 X scope cl N fp C s H) ji te)
   (hs2:∀fp C s H x,U1 i2 (J8 X scope cl N fp C s H).env x=pure x)
   (hs:∀x,U1 i1 X.env x=pure x:=by intro _;rfl) :
   PE X (LC2 ji t1 i1 t2 i2 jk scope pos) (tComp2 cs wi1 g1 wi2 g2 tt te):=by
 intro jb s σ H Q I h;rw[eval_ListComp];exact GS S hc hi hs I h λfp it tn J s2 H2 s₃ T stat I2 f2 q Ic st1 fr1=>loop2 (Y:=J8 X scope cl N fp (s2.heap.objs.size+1) s2 H2) rfl hc (hb _ _ _ _) (hs2 _ _ _ _) T stat q (λs4 σ3 H3 I4 qn=>JV I2 f2 I4 qn) Ic st1 fr1
end L2
end
section
namespace Pu
open PySem PySem.Spec L2
def DB (g:pG)(tt:pT)(te:pE):List PV->Env->Nat->(List PV->Env->Nat->Prop)->Prop
 |[],env,n,R=>R [] env n
 |x::xs,env,n,R=>g x env λjc=>tt jc n λb jd n2=>if b=true then te jd n2 λy je n3=>DB g tt te xs je n3 λys e m=>R (y::ys) e m else DB g tt te xs jd n2 R
def AR (g1:pG)(pi2:pA)(g2:pG)(tt:pT)(te:pE):List PV->Env->Nat->(List PV->Nat->Prop)->Prop
 |[],_,n,R=>R [] n
 |x::xs,env,n,R=>g1 x env λjc=>pi2 jc n λys jd n2=>ys.length<=1000/\DB g2 tt te ys jd n2 λzs je n3=>AR g1 pi2 g2 tt te xs je n3 λws n4=>R (zs++ws) n4
def Ig (cs:List (Option Nat))(pi1:pA)(g1:pG)(pi2:pA)(g2:pG)(tt:pT)(te:pE):pA:=λenv n R=>pi1 env n λxs jc n1=>xs.length<=1000/\AR g1 pi2 g2 tt te xs (capV cs jc) n1 λys n2=>R ys jc n2
theorem Rw {K:A9}{T:PotK}{J:It}{g:TG}{tt:TT}{te:TE}{pg:pG}{ptt:pT}{pte:pE}(hg:GOk K g pg)(ht:TOk K T tt ptt)(he:EOk K T te pte){G:Gh}{H1 H4:Hp}{ys:List PV}{D:A0}(hJ:ItR K ⟨D::G.M,G.pots⟩ H4 J ys)(nD:D∉G.pots)(hD:H1 D=none){σ:St}{env:Env}{n:Nat}{jl:List PV}{us:List V}{P:List PV->Env->Nat->Prop}{N:St->Hp->Prop}(c:CI K T G H1 D σ H4 env n jl us)(hl:jl.length+ys.length<=1001000)(hc:DB pg ptt pte ys env n P)
   (hN:∀zs env n us σ H,P zs env n->CI K T G H1 D σ H env n (jl++zs) us->zs.length<=ys.length->N σ H):Ly J g tt te D N σ H4:=by
 refine⟨λj m σ H'=>m=ys.length-j/\j<=ys.length/\∃env n zs us2,CI K T G H1 D σ H' env n (jl++zs) us2/\Fr ⟨D::G.M,G.pots⟩ H4 H'/\zs.length<=j/\DB pg ptt pte (ys.drop j) env n λws e m=>P (zs++ws) e m,⟨ys.length,rfl,K4 _,env,n,[],us,by rw[Y6];exact c,Fr.refl,B8 _,hc⟩,?_⟩;rintro j m σ5 H5 ⟨rfl,hj,env5,n5,zs,us5,c5,fr5,la5,hc5⟩;obtain⟨hgo5,hstop5⟩:=hJ _ H5 fr5 (λa ha=>.inl ha) (λ_ _ e=>e) λp hp=>c5.inn.sr.fresh hp
 by_cases hlt5:j<ys.length
 ·obtain⟨u1,u2⟩:=hgo5 j _ (D4 hlt5);refine .inr ⟨u1,λv6 H6 y6=>?_⟩;obtain⟨s6,rv6⟩:=u2 v6 H6 y6;rw[An hlt5] at hc5;have np:∀b,b∉D::G.M->b∉G.pots:=λb hb z=>hb (c5.inn.pots b z).1;refine hg _ _ σ5 H6 env5 n5 ys[j] v6 _ _ rfl (c5.inn.sr.same s6) rv6 hc5 λenv7 σ7 hc7 S7=>?_;refine ht _ _ σ7 H6 env7 n5 _ _ rfl rfl S7 hc7 λb env8 n8 H8 hc8 S8 f8=>?_;cases b with
  |false=>exact⟨ys.length-(j+1),Cy _ _ hlt5,rfl,hlt5,env8,n8,zs,us5,c5.go nD S8,λb o hb e=>S8.frame b o (np b hb) (fr5 b o hb e),Nat.le_succ_of_le la5,hc8⟩
  | true =>
   refine he _ _ σ7 H8 env8 n8 _ _ rfl rfl S8 hc8 λy env9 n9 u H9 hc9 S9 r9 f9=>?_;have c9:=c5.go nD S9;have c10:=c9.add nD hD r9;rw[X4] at c10;refine⟨us5,c9.eD,by rw[<- c5.ra.length,E7];exact Cz (show _<=1001000 by omega) (by rw[L0];decide),ys.length-(j+1),Cy _ _ hlt5,rfl,hlt5,env9,n9,zs++[y],us5++[u],c10,Fr.trans (λb o hb e=>S9.frame b o (np b hb) (fr5 b o hb e)) (CI.fD _),by rw[E7];exact Nat.succ_le_succ la5,?_⟩;simp only[X4];exact hc9
 ·obtain rfl:j=ys.length:=Nat.le_antisymm hj (Bi hlt5);rw[Ef] at hc5;have h5:P (zs++[]) env5 n5:=hc5;rw[Y6] at h5;exact .inl ⟨hstop5 _ (B8 _),hN zs env5 n5 us5 σ5 H5 h5 c5 la5⟩
theorem Rx {K:A9}{T:PotK}{J:It}{g1 g2:TG}{wi2:TI}{tt:TT}{te:TE}{pg1 pg2:pG}{pi2:pA}{ptt:pT}{pte:pE}(hg1:GOk K g1 pg1)(hi2:IOk K T wi2 pi2)(hg2:GOk K g2 pg2)(ht:TOk K T tt ptt)(he:EOk K T te pte){G:Gh}{H1:Hp}{xs:List PV}(hJ:ItR K G H1 J xs)(hl:xs.length<=1000)
   {σc:St} {env:Env} {n:Nat} {R:List PV->Nat->Prop} {Q:VK} {D:A0} (hD:H1 D=none) (I0:Inn K T G σc H1 env n) (hp:AR pg1 pi2 pg2 ptt pte xs env n R)
   (hQ:∀ys n' us H',R ys n'->(∀p∈G.pots,T.at_ (D::G.M) H' p n')->(∀b o,b∉G.pots->H1 b=some o->H' b=some o)->H' D=some (.lst us)->Reps K ⟨D::G.M,G.pots⟩ H' ys us->Q (.ref D) H') :
   Ie J g1 wi2 g2 tt te Q D σc (upd H1 D (.lst [])):=by
 have nD:D∉G.pots:=λz=>I0.sr.fresh hD (I0.pots D z).1;refine⟨λi m σ H=>m=xs.length-i/\i<=xs.length/\∃env n jl us,CI K T G H1 D σ H env n jl us/\jl.length<=1000*i/\AR pg1 pi2 pg2 ptt pte (xs.drop i) env n λys n'=>R (jl++ys) n',⟨xs.length,rfl,K4 _,env,n,[],[],.start hD I0,B8 _,hp⟩,?_⟩;rintro i m σ H ⟨rfl,hi,env,n,jl,us,c,la,hc⟩;obtain⟨hgo,hstop⟩:=c.it hD hJ
 by_cases hlt:i<xs.length
 ·obtain⟨gg1,gg2⟩:=hgo i _ (D4 hlt);refine .inr ⟨gg1,λv H2 y=>?_⟩;obtain⟨s2,rv⟩:=gg2 v H2 y;rw[An hlt] at hc;refine hg1 _ _ σ H2 env n xs[i] v _ _ rfl (c.inn.sr.same s2) rv hc λjc σ1 hc1 S2=>?_;refine hi2 _ _ σ1 H2 jc n _ _ rfl rfl S2 hc1 λys jd n2 J2 H4 q4 S4 f4 hJ2=>?_;refine Rw hg2 ht he hJ2 nD hD (c.go nD S4) (by have:=q4.1;omega) q4.2 λzs env5 n5 us5 σ5 H5 h5 c5 lz=>⟨xs.length-(i+1),Cy _ _ hlt,rfl,hlt,env5,n5,jl++zs,us5,c5,by rw[E7];have:=q4.1;omega,?_⟩;simp only[X4];exact h5
 ·obtain rfl:i=xs.length:=Nat.le_antisymm hi (Bi hlt);rw[Ef] at hc;have hc':R (jl++[]) n:=hc;rw[Y6] at hc';exact .inl ⟨hstop _ (B8 _),hQ _ n us H hc' (λp hp=>(c.inn.pots p hp).2) c.kp c.eD c.ra⟩
section
variable {T:PotK}{ι:Type}{K:A9}{F:ι->Cx}{pg1 pg2:pG}{pos:Pos}
theorem Ry {scope:J7}{cl:ι->List (Str×A0)}{N:List Str}{cs:List (Option Nat)}{ji t1 i1 t2 i2:Expr}{jk:List Expr}{pi1 pi2:pA}{ptt:pT}{pte:pE}(S:∀z,q8 (F z) scope (cl z) N cs)(hc:∀z,(F z).calm=true)(hi:QI T K F t1 i1 pi1)
   (hg:QG K (λy:ι×List A0×A0×A6×Hp=>J8 (F y.1) scope (cl y.1) N y.2.1 y.2.2.1 y.2.2.2.1 y.2.2.2.2) t1 pg1)
   (hi2:QI T K (λy:ι×List A0×A0×A6×Hp=>J8 (F y.1) scope (cl y.1) N y.2.1 y.2.2.1 y.2.2.2.1 y.2.2.2.2) t2 i2 pi2)
   (hg2:QG K (λy:ι×List A0×A0×A6×Hp=>J8 (F y.1) scope (cl y.1) N y.2.1 y.2.2.1 y.2.2.2.1 y.2.2.2.2) t2 pg2)
   (ht:QIf T K (λy:ι×List A0×A0×A6×Hp=>J8 (F y.1) scope (cl y.1) N y.2.1 y.2.2.1 y.2.2.2.1 y.2.2.2.2) jk ptt)
   (he:QE T K (λy:ι×List A0×A0×A6×Hp=>J8 (F y.1) scope (cl y.1) N y.2.1 y.2.2.1 y.2.2.2.1 y.2.2.2.2) ji pte)
   (hs:∀z x,U1 i1 (F z).env x=pure x:=by intro _ _;rfl) (hs2:∀z fp C s H x,U1 i2 (J8 (F z) scope (cl z) N fp C s H).env x=pure x:=by intro _ _ _ _ _ _;rfl):QN T K F (LC2 ji t1 i1 t2 i2 jk scope pos) (Ig cs pi1 pg1 pi2 pg2 ptt pte):=by
 obtain⟨wi,i1',i2'⟩:=hi;obtain⟨g,hg0,hg⟩:=hg;obtain⟨wj,j1,j2⟩:=hi2;obtain⟨g2,hg20,hg2⟩:=hg2;obtain⟨tt,ht0,ht⟩:=ht;obtain⟨te,he0,he⟩:=he;refine⟨_,λz=>Rv (S z) (hc z) (i1' z) (λfp C s H=>⟨hg0 (z,fp,C,s,H),j1 (z,fp,C,s,H),hg20 (z,fp,C,s,H),ht0 (z,fp,C,s,H),he0 (z,fp,C,s,H)⟩) (hs2 z) (hs z),λC G σ H env n R Q hK hT S hp k=>?_⟩;refine i2' C G σ H env n _ _ hK hT S hp λxs jc n1 J H1 p1 S1 f1 hJ=>?_;intro D hD;have hDM:=S1.fresh hD;refine Rx (G:=G) hg j2 hg2 ht he hJ p1.1 hD (hT▸hK▸Hk S1 cs) p1.2 λys n2 us H' rr hpots hk eD ry=>?_;have nD:∀b o,H1 b=some o->b≠D:=λb o e z=>by rw[z,hD] at e;cases e
 have hk2:∀b o,b∉G.pots->H1 b=some o->cutH H' D b=some o:=λb o hb e=>by rw[W6 (nD b o e)];exact hk b o hb e
 have nc:∀b,b∉D::G.M->b≠D:=λb hb z=>hb (by rw[z];exact C8);have np:∀p∈G.pots,p≠D:=λp hp z=>hDM (z▸(S1.pots p hp).1)
 have Sb:SR C G σ (cutH H' D) jc n2:=S1.call hk2 λp hp=>by
  subst hT;have h2:=C.T.keep (hpots p hp) (H':=cutH H' D) (W6 (np p hp)) λb o hb e=>by rw[W6 (nc b hb)];exact e
  exact C.T.more h2 λa ha=>.inl (C5 _ ha)
 have:=k ys jc n2 D us (cutH H' D) rr Sb (f1.trans λb o hb e=>hk2 b o (λz=>hb (S1.pots b z).1) e) (by unfold cutH;rw[jr rfl]) ?_
 ·rw[Hl eD] at this;exact this
 ·exact Reps.mono (G:=⟨D::G.M,G.pots⟩) (λb o hb e=>by rw[W6 (nc b hb)];exact e) (λa ha=>.inl (C5 _ ha)) (λ_ _ e=>e) _ _ ry
end
end Pu
end
section
namespace L2
open PySem PySem.W PySem.Spec PyProof.Rows
def BV (X:Cx)(scope:J7)(N:List Str)(qual:Str)(f c':A0)(cl:List (Str×A0))(s:A6)(H:Hp):Cx where
 prog:=X.prog
 w:=X.w
 K:=X.K
 mg:=X.mg
 base:=X.base
 A:=X.A.in1.in1.deeper (envX qual scope s.heap.objs.size f (.ref c') cl)
 N:=N
 s₀:=s
 H₀:=H
 env:=envX qual scope s.heap.objs.size f (.ref c') cl
 outer:=X.stack
 stack:=envX qual scope s.heap.objs.size f (.ref c') cl::X.stack
 ex:=[]
 calm:=true
 fn:=λ_=>false
 pn:=[]
 xe:=λ_ _=>False
structure DC (scope:J7)(x y:Str):Prop where
 kind:scope.kind=.function
 co:scope.isCoroutine=false
 gen:scope.isGenerator=false
 hx:scope.names.lookup x=some .local
 hy:scope.names.lookup y=some .free
 fr:∀z,scope.names.lookup z=some .free->z=y
 nc:∀z∈scope.names,z.2≠.cell
 ne:(y == x)=false
section
variable {X:Cx}{jb:List (A0×Obj)}{σ:St}{H:Hp}{s:A6}
theorem Rz {scope:J7}{x y qual:Str}{f c' c:A0}{vx vy:V}{ux uy:A1}{h1:B7}{tk k:Nat}(I:Inv X jb σ H s)(hr:Room k X.A)(S:DC scope x y)(hc:s.heap.IsCell c (some uy))(hH:H c=none)(ry:RelV vy uy)(rx:RelV vx ux)
   (hns:h1.Ns s.heap.objs.size (λz=>[(x,ux)].reverse.lookup z)) (hsb:V4 s.heap.objs.size (s.heap.push { cls:=.type "frame",data:=.dict #[] }) h1) :
   Inv (BV X scope [x,y] qual f c' [(y,c)] s H) [] [some vx,some vy] H { s with heap:=h1,toks:=tk }:=by
 have hk:∀b o,s.heap.get? b=some o->h1.get? b=some o:=λb o e=>hsb.extBut b o (E3 (D1 e)) (C7 _ e);have noA:∀b:A0,b∉(BV X scope [x,y] qual f c' [(y,c)] s H).ex:=λb z=>absurd (show b∈([]:List A0) from z) (by simp);have e0:=I.env0
 have cl1:∀z d,([(y,c)]:List (Str×A0)).lookup z=some d->z=y/\d=c:=λz d e=>by
  rw[List.lookup_cons] at e;cases q:z == y with
  |true=>rw[q] at e;cases e;exact⟨eq_of_beq q,rfl⟩
  |false=>rw[q] at e;cases e
 have cy:([(y,c)]:List (Str×A0)).lookup y=some c:=by rw[List.lookup_cons,beq_self_eq_true]
 refine⟨⟨e0.mod,S.kind,rfl,rfl,B8 _,λa b d h1 h2=>?_,λz hz=>?_,λz d h _=>absurd (show false=true from h) O2,λ_=>hr.hd,Around.frames_deeper (show X.A.in1.in1.frames=_ from e0.frames),.inr ⟨rfl,rfl⟩,λb z=>absurd z (noA b),e0.bs,e0.bsz,λb _ _=>noA b,λb z=>absurd z (noA b),e0.funs,e0.frf,e0.nos⟩,
  rfl,e0.bare,Un.kept hk,⟨_,hns,λi z v h1 h2 h3=>?_⟩,λz d h=>?_,e0.hok.fresh (B8 _),λz d h=>?_,λp hp=>absurd (show p∈([]:List (A0×Obj)) from hp) (by simp),e0.hok.kept hk,rfl⟩
 ·exact((cl1 _ _ h1).1).trans (cl1 _ _ h2).1.symm
 ·have hz:scope.names.lookup z=some .cell\/scope.names.lookup z=some .free:=hz;rcases hz with hz|hz
  ·exact absurd rfl (S.nc _ (k9 hz))
  ·exact⟨c,by rw[S.fr z hz];exact cy⟩
 ·match i,h1,h2 with
  | 0, h1, h2 =>
   cases h1;cases h2;refine⟨ux,rx,.inl ⟨S.hx,?_⟩⟩;show([(x,ux)]:List (Str×A1)).reverse.lookup x=some ux;rw[List.reverse_singleton,List.lookup_cons,beq_self_eq_true]
  | 1, h1, h2 =>
   cases h1;cases h2;obtain⟨o,ho,hd⟩:=hc;exact⟨uy,ry,.inr ⟨.inr S.hy,c,cy,o,hk _ _ ho,hd⟩⟩
  |i+2,h1,h2=>cases h2
 ·obtain⟨rfl,rfl⟩:=cl1 z d h;obtain⟨o,ho,hd⟩:=hc;exact⟨_,o,hk _ _ ho,hd⟩
 ·obtain⟨rfl,rfl⟩:=cl1 z d h;exact hH
theorem RA {scope:J7}{x y qual:Str}{params:Arguments}{body:Expr}{f c' c:A0}{pm ctv:A1}{vx vy:V}{ux uy:A1}{k:Nat}{tb:TE}{Q:VK}{E:A1->A6->Prop}(I:Inv X jb σ H s)(hr:Room k X.A)(S:DC scope x y)
   (hc:s.heap.IsCell c (some uy)) (hH:H c=none) (ry:RelV vy uy) (rx:RelV vx ux) (fo:s.heap.get? f=some (kla_obj "<lambda>" qual params body scope [(y,c)] pm c' ctv)) (hcd:s.heap.CodeRec (.ref c') qual)
   (bd:∀u,Y1 (kla_fn "<lambda>" qual params body scope [(y,c)] pm (.ref c') ctv) ⟨[u],[]⟩=pure [(x,u)])
   (hb:PE (BV X scope [x,y] qual f c' [(y,c)] s H) body tb) (ht:tb [some vx,some vy] H Q) :
   A7 (A8 X.prog X.w) X.A.in1.in1 (call (.ref f) [ux]) (EP X jb σ Q) E s:=by
 refine wpAny_call ?_;refine kla_callFunE (fd:=kla_fn "<lambda>" qual params body scope [(y,c)] pm (.ref c') ctv) (show X.A.depth<recursionLimit from hr.depth) fo rfl S.co S.gen rfl hcd ?_;rw[bd];refine B0 (wpAny_newFunctionEnv S.nc (λz hz=>?_) (λh1 hns hsb=>⟨?_,?_⟩) S.kind)
 ·rw[J6.mp hz];exact S.hx
 ·refine I.nolimit.keeps λb o e=>?_;exact hsb.extBut b o (E3 (D1 e)) (C7 _ e)
 ·refine kla_codeExpr (K1 (hb [] _ [some vx,some vy] H Q (Rz (tk:=s.toks+1) I hr S hc hH ry rx hns hsb) ht) (λv s' h=>?_) λ_ _ z=>z.elim);obtain⟨v',H',J,r,q⟩:=h;exact I.after ⟨v',H',J.os,J.bare,J.base,J.hok,r,q⟩
end
end L2
end
section
namespace L2
open PySem PySem.W PySem.Spec PyProof.Rows
def Y0 (c':A0)(qual:Str):HO:=.ext λh=>h.CodeRec (.ref c') qual
def BW (tb:TE)(vy:V)(kS c':A0)(qual:Str):List V->List Int->Hp->(List Int->Hp->Prop)->Prop
 |[],ks,H,R=>R ks H
 |x::xs,ks,H,R=>H c'=some (Y0 c' qual)/\tb [some x,some vy] H λy H1=>∃k,y=.int k/\H1 kS=some (.lst (ks.map V.int))/\BW tb vy kS c' qual xs (ks++[k]) (upd H1 kS (.lst ((ks++[k]).map V.int))) R
def KOut (ks:List Int)(xs ys:List V):Prop:=∃ps:List (Int×V),ps.Perm (ks.zip xs)/\ys=ps.map Prod.snd/\ps.Pairwise λp q=>p.1<=q.1
section
variable {prog:D2}{w:C9}{A:D8}{E:A1->A6->Prop}{s:A6}{a kS:A0}{vs:List A1}{kz:List Int}{keys:Array A1}{e e1:Nat}{P:PySem.Fin->A6->Prop}
theorem kTail {st:SortSt}(nk:s.heap.get? kS=some (seqObj "list" keys e))(na:s.heap.get? a=some (seqObj "list" #[] e1))(hka:kS≠a)
   (hk:IntsAre keys.toList kz) (hlen:kz.length=vs.length) (h64:vs.length<64) (hp:(arrOf st).Perm (keys.zip vs.toArray)) (hs:SortedTo (arrOf st) (arrOf st).size) (hfl:failedOf st=none)
   (h:∀h' out c c2,(∀b o,b≠a->b≠kS->s.heap.get? b=some o->h'.get? b=some o)->h'.get? a=some (seqObj "list" out c)->h'.get? kS=some (seqObj "list" #[] c2)->KskOut false kz vs out.toList->P (.done (.ret .none)) { s with heap:=h' }) :
   A7 (A8 prog w) A (ksk_tail a false e1 (.ref kS) st) P E s:=by
 have hsz:keys.size=vs.length:=by
  have h1:=hk.length;rw[O3] at h1;omega
 have hsz2:(arrOf st).size=vs.length:=by rw[hp.size_eq,Array.size_zip,hsz,F9,CD]
 have s1:=R7 s.heap kS (G8 λ_=>(#[]:Array A1));have na1:(s.heap.update kS (G8 λ_=>(#[]:Array A1))).get? a=some (seqObj "list" #[] e1):=(s1.2 a hka.symm).trans na;obtain⟨ck,hck⟩:∃c,(s.heap.update kS (G8 λ_=>(#[]:Array A1))).get? kS=some (seqObj "list" #[] c):=⟨_,Bs nk λ_=>#[]⟩;have s2:=R7 (s.heap.update kS (G8 λ_=>(#[]:Array A1))) a (G8 λ_=>(arrOf st).map (·.2))
 obtain⟨c2,hc2⟩:∃c2,((s.heap.update kS (G8 λ_=>(#[]:Array A1))).update a (G8 λ_=>(arrOf st).map (·.2))).get? a=some (seqObj "list" ((arrOf st).map (·.2)) c2):=
  ⟨_,Bs na1 λ_=>(arrOf st).map (·.2)⟩
 unfold ksk_tail
 try dsimp only
 refine A2 (Aw nk rfl ?_ (by rw[hsz,L0];omega) (K4 _));refine A2 (wpAny_letGo ?_);refine A2 (seqEpoch_at na1 rfl ?_);simp only[M1,if_false];refine A2 (Aw na1 rfl ?_ (K4 _) (N6 (Nat.le_of_eq ((Array.size_map ..).trans hsz2)) (by rw[L0];omega)));rw[hfl];simp only[bne_self_eq_false,M1,if_false];exact B0 (h _ _ c2 ck (λb o h1 h2 e=>(s2.2 b h1).trans ((s1.2 b h2).trans e)) hc2 ((s2.2 kS hka).trans hck) (ksk_out (b:=false) hk hp hs))
theorem kEnd (nk:s.heap.get? kS=some (seqObj "list" keys e))(na:s.heap.get? a=some (seqObj "list" #[] e1))(hka:kS≠a)
   (hk:IntsAre keys.toList kz) (hlen:kz.length=vs.length) (h64:vs.length<64)
   (h:∀h' out c c2,(∀b o,b≠a->b≠kS->s.heap.get? b=some o->h'.get? b=some o)->h'.get? a=some (seqObj "list" out c)->h'.get? kS=some (seqObj "list" #[] c2)->KskOut false kz vs out.toList->P (.done (.ret .none)) { s with heap:=h' }) :
   A7 (A8 prog w) A (ksk_end a false vs.toArray e1 (.ref kS) keys) P E s:=by
 have hsz:keys.size=vs.length:=by
  have h1:=hk.length;rw[O3] at h1;omega
 have hzs:(keys.zip vs.toArray).size=vs.length:=by rw[Array.size_zip,hsz,F9,CD]
 unfold ksk_end;simp only[M1,if_false]
 by_cases h2:vs.toArray.size<2
 ·rw[jr h2,jr h2];refine A2 (B0 ?_);rw[StateT.run_pure];refine A2 (B0 ?_)
  try dsimp only
  refine kTail (st:=SortSt.mk' general' (keys.zip vs.toArray) #[] 7 none) nk na hka hk hlen h64 (x8 _) ?_ rfl h;intro i j hij hj;have hj2:j<(keys.zip vs.toArray).size:=hj;rw[hzs] at hj2;rw[F9] at h2;have:i=j:=by omega
  subst this;exact Int.le_refl _
 ·rw[jt h2,jt h2];rw[F9] at h2;rw[ksk_kind hk (by rw[hsz];omega)];refine A2 (B0 ?_)
  refine A2 (K1 (wpS_sortRuns (a₀:=keys.zip vs.toArray) (st:=SortSt.mk' oneType' (keys.zip vs.toArray) #[] 7 none)
    (Q:=λ_ st'=>(arrOf st').Perm (keys.zip vs.toArray)/\failedOf st'=none/\SortedTo (arrOf st') (keys.zip vs.toArray).size)
    (ksk_intKeys hk) ⟨x8 _,rfl,rfl,rfl⟩ (by rw[hzs];omega) (by rw[hzs];exact h64) λst' a1 a2 a3=>⟨a1,a2,a3⟩) ?_ λ_ _ e=>e)
  rintro⟨⟨⟩,st'⟩ s' ⟨rfl,hp,hf,hs⟩
  try dsimp only
  exact kTail nk na hka hk hlen h64 hp (by rw[hp.size_eq];exact hs) hf h
end
theorem Lz:∀{ks:List Int} {us:List A1},Vals (ks.map V.int) us->IntsAre us ks
 |[],_,h=>by cases h;exact .nil
 | k :: ks, _, h => by
  cases h with
  | cons h1 h2 =>
   obtain⟨t,rfl⟩:=h1;exact .cons k t (Lz h2)
theorem RB {ks:List Int}{xs:List V}{vs:List A1}{out:List A1}(r:Vals xs vs)(h:KskOut false ks vs out):∃ys,KOut ks xs ys/\Vals ys out:=by
 obtain⟨ps,hp,rfl,ho⟩:=h
 replace ho:ps.Pairwise λp q=>p.1<=q.1:=by simpa using ho
 have ab:∀(ks:List Int) {xs:List V} {vs:List A1},Vals xs vs->(ks.zip vs).map (λp=>(p.1,(absV p.2).getD .non))=ks.zip xs:=by
  intro ks
  induction ks with
  |nil=>intro xs vs _;rfl
  | cons k ks ih =>
   intro xs vs r;cases r with
   |nil=>rfl
   | cons h1 h2 =>
    rw[l9,l9,G9,ih h2];show(k,(absV _).getD _)::_=_;rw[h1.abs];rfl
 have rl:∀(ks:List Int) {xs:List V} {vs:List A1},Vals xs vs->∀p∈ks.zip vs,RelV ((absV p.2).getD .non) p.2:=by
  intro ks
  induction ks with
  |nil=>intro xs vs _ p hp;cases hp
  | cons k ks ih =>
   intro xs vs r p hp;cases r with
   |nil=>cases hp
   | cons h1 h2 =>
    rcases C3.mp hp with rfl|hp
    ·show RelV ((absV _).getD _) _;rw[h1.abs];exact h1
    ·exact ih h2 p hp
 refine⟨ps.map λp=>(absV p.2).getD .non,⟨ps.map λp=>(p.1,(absV p.2).getD .non),?_,by rw[U6];rfl,?_⟩,?_⟩
 ·rw[<- ab ks r];exact hp.map _
 ·rw[n6];exact ho
 ·have rl2:∀p∈ps,RelV ((absV p.2).getD .non) p.2:=λp h=>rl ks r p (hp.mem_iff.mp h);clear hp ho
  induction ps with
  |nil=>exact .nil
  |cons p ps ih=>exact .cons (rl2 p C8) (ih λq hq=>rl2 q (C5 _ hq))
section
variable {X:Cx}{jb:List (A0×Obj)}{σ:St}{H:Hp}{s:A6}
theorem Inv.retrack {a kS:A0}{ob:Obj}{ks ys:List V}{out:List A1}{c c2:Nat}{h':B7}(I:Inv X ((a,ob)::jb) σ H s)(hk:H kS=some (.lst ks))(ha0:X.s₀.heap.objs.size<=a)(hp0:∀p∈X.pn++jb,p.1≠a)(hsa:L9<a)(hsk:L9<kS)
   (keep:∀b o,b≠a->b≠kS->s.heap.get? b=some o->h'.get? b=some o) (ea:h'.get? a=some (seqObj "list" out.toArray c)) (ek:h'.get? kS=some (seqObj "list" #[] c2)) (r:Vals ys out) (hl:ys.length<=C2) :
   Inv X jb σ (upd (upd H kS (.lst [])) a (.lst ys)) { s with heap:=h' }:=by
 obtain⟨ea0,na,neL,nf,nc⟩:=I.pin (a,ob) (O9 _ C8);have nka:kS≠a:=λz=>by rw[z,na] at hk;cases hk
 have I0:Inv X jb σ H s:=I.pins_of λp hp=>by
  obtain⟨z1,z2,z3,z4,z5⟩:=I.pin p (O9 _ (C5 _ hp));exact⟨z1,z2,z3,z4,z5⟩
 have oth:∀b,b≠a->b≠kS->upd (upd H kS (.lst [])) a (.lst ys) b=H b:=λb h1 h2=>by rw[C4 h1,C4 h2]
 have ne1:∀b u,H b=some u->(∀z,u≠.lst z)->b≠a/\b≠kS:=λb u e hu=>⟨(λz=>by rw[z,na] at e;cases e),(λz=>by rw[z,hk] at e;cases e;exact hu _ rfl)⟩;refine I0.step (g':=s.gens) (d':=s.drawn) (t':=s.toks) (ch:=[a]) (λb hb=>?_) (λb o _ _ hc e n=>?_) (λb o _ _ hc e n=>⟨o.slots,?_⟩) (λb o hc e n=>?_) (λb o hc e=>?_) (λb xs e=>?_) (λb o u e=>?_) (λb ps e=>⟨#[],?_⟩) (λz=>?_) (λm hm=>?_) (λb u e=>?_) I.bare
 ·have e:b=a:=by simpa using hb
  subst e;refine⟨.inr ha0,neL,λx d e z=>?_,hp0⟩;subst z;obtain⟨v,o,ho,hd⟩:=I.cell x _ e;rw[ea0] at ho;cases ho;exact nc _ hd
 ·exact keep b o (λz=>hc (by simp[z])) (λz=>by rw[z,hk] at n;cases n) e
 ·exact keep b o (λz=>hc (by simp[z])) (λz=>by rw[z,hk] at n;cases n) e
 ·rw[oth b (λz=>hc (by simp[z])) (λz=>by rw[z,hk] at n;cases n)];exact n
 ·by_cases h2:b=kS
  ·exact⟨_,h2▸ek⟩
  ·exact⟨o,keep b o (λz=>hc (by simp[z])) h2 e⟩
 ·obtain⟨h1,h2⟩:=ne1 b _ e (λz q=>by cases q);rw[oth b h1 h2];exact e
 ·obtain⟨h1,h2⟩:=ne1 b _ e (λz q=>by cases q);rw[oth b h1 h2];exact e
 ·obtain⟨h1,h2⟩:=ne1 b _ e (λz q=>by cases q);rw[oth b h1 h2,e];simp
 ·unfold NS at z ⊢;rw[oth L9 (E3 hsa) (E3 hsk)];exact z
 ·obtain⟨o,es,ep,ho,r'⟩:=hm;exact⟨o,es,ep,keep _ o (Ne.symm neL) (λz=>by have:=I.free;rw[z,hk] at this;cases this) ho,r'⟩
 ·by_cases h1:b=a
  ·subst h1;rw[D9] at e;cases e;exact⟨hl,out,c,r,ea⟩
  ·rw[C4 h1] at e
   by_cases h2:b=kS
   ·subst h2;rw[D9] at e;cases e;exact⟨K4 _,[],c2,.nil,ek⟩
   ·rw[C4 h2] at e;refine(I0.hok b u e).stay (λd v hc q=>keep d v ?_ ?_ q) (λd q=>?_) λd xs q=>?_
    ·rcases hc with z|z
     ·rw[z];exact h1
     ·exact(ne1 d _ z (λz q=>by cases q)).1
    ·rcases hc with z|z
     ·rw[z];exact h2
     ·exact(ne1 d _ z (λz q=>by cases q)).2
    ·obtain⟨z1,z2⟩:=ne1 d _ q (λz q=>by cases q);rw[oth d z1 z2];exact q
    ·obtain⟨z1,z2⟩:=ne1 d _ q (λz q=>by cases q);rw[oth d z1 z2];exact q
end
end L2
end
section
namespace L2
open PySem PySem.W PySem.Spec PyProof.Rows
structure AS (X:Cx)(scope:J7)(params:Arguments)(body:Expr)(qual x y:Str)(c:A0)(iy:Nat)(k:Nat)(tb:TE):Prop where
 sc:DC scope x y
 room:Room k X.A
 cell:X.env.cells.lookup y=some c
 isc:X.env.scope.names.lookup y=some .cell
 nm:X.N[iy]?=some y
 bd:∀(pm ct cd u:A1),Y1 (kla_fn "<lambda>" qual params body scope [(y,c)] pm cd ct) ⟨[u],[]⟩=pure [(x,u)]
 pe:∀(f c':A0) (s:A6) (H:Hp),PE (BV X scope [x,y] qual f c' [(y,c)] s H) body tb
section
variable {X:Cx}{jb:List (A0×Obj)}{σ:St}{H:Hp}{s:A6}{scope:J7}{params:Arguments}{body:Expr}{qual x y:Str}{c:A0}{iy k:Nat}{tb:TE}
theorem AS.val (L:AS X scope params body qual x y c iy k tb)(I:Inv X jb σ H s){vy:V}(hv:σ[iy]?=some (some vy)):∃uy,RelV vy uy/\s.heap.IsCell c (some uy):=by
 obtain⟨m,hn,hl⟩:=I.loc;obtain⟨u,r,l⟩:=hl iy y vy L.nm hv (.inr (.inl L.isc));refine⟨u,r,?_⟩;rcases l with⟨z,_⟩|⟨_,d,e,q⟩
 ·have z':X.env.scope.names.lookup y=some .local:=z;rw[L.isc] at z';cases z'
 ·rw[L.cell] at e;cases e;exact q
theorem AS.run (L:AS X scope params body qual x y c iy k tb)(I:Inv X jb σ H s){vy vx:V}{ux:A1}{f c':A0}{pm ctv:A1}{Q:VK}{E:A1->A6->Prop}(hv:σ[iy]?=some (some vy))(rx:RelV vx ux)
   (fo:(f,kla_obj "<lambda>" qual params body scope [(y,c)] pm c' ctv)∈jb) (hcd:H c'=some (Y0 c' qual)) (ht:tb [some vx,some vy] H Q) :
   A7 (A8 X.prog X.w) X.A.in1.in1 (call (.ref f) [ux]) (EP X jb σ Q) E s:=by
 obtain⟨uy,ry,hc⟩:=L.val I hv;obtain⟨e1,_⟩:=I.pin _ (O9 _ fo);obtain⟨e2,_⟩:=(show J0 X.prog X.w H s.heap c' (Y0 c' qual) from I.hok c' _ hcd);exact RA I L.room L.sc hc (I.freeC _ _ L.cell) ry rx e1 e2 (λu=>L.bd pm ctv (.ref c') u) (L.pe f c' s H) ht
theorem kRest (L:AS X scope params body qual x y c iy k tb){f c' a kS:A0}{pm ctv:A1}{vy:V}{xs:List V}{vs:List A1}{e1:Nat}{R:List Int->Hp->Prop}{P:PySem.Fin->A6->Prop}{E:A1->A6->Prop}(I:Inv X ((a,seqObj "list" #[] e1)::jb) σ H s)(hv:σ[iy]?=some (some vy))
   (fo:(f,kla_obj "<lambda>" qual params body scope [(y,c)] pm c' ctv)∈jb) (hk:H kS=some (.lst [])) (rv:Vals xs vs) (h64:xs.length<64) (hka:kS≠a) (ht:BW tb vy kS c' qual xs [] H R)
   (h:∀s' H3 ks h' out c1 c2,Inv X ((a,seqObj "list" #[] e1)::jb) σ H3 s'->H3 kS=some (.lst (ks.map V.int))->R ks H3->(∀b o,b≠a->b≠kS->s'.heap.get? b=some o->h'.get? b=some o)->h'.get? a=some (seqObj "list" out c1)->
     h'.get? kS=some (seqObj "list" #[] c2)->KskOut false ks vs out.toList->P (.done (.ret .none)) { s' with heap:=h' }) :
   A7 (A8 X.prog X.w) X.A.in1.in1 (ksk_rest a (.ref f) false vs.toArray e1 (.ref kS)) P E s:=by
 have lv:xs.length=vs.length:=rv.length;unfold ksk_rest;refine A2 (b8 ?_)
 first
   |rw[List.forIn_toArray]
   |(rw[<- Ej];simp only[Ee])
   |rw[<- Ej]
 refine A2 (ksk_fold (λi s'=>∃H' ks,Inv X ((a,seqObj "list" #[] e1)::jb) σ H' s'/\H' kS=some (.lst (ks.map V.int))/\ks.length=i/\BW tb vy kS c' qual (xs.drop i) ks H' R) vs 0 s
   ⟨H,[],I,hk,rfl,by simpa using ht⟩ ?step ?done)
 case step=>
  rintro j u s' hx ⟨H',ks,I',hk',hl,hc⟩;simp only[J3] at hl hc ⊢;have hj:j<vs.length:=(J5.mp hx).1;have hjx:j<xs.length:=by omega
  obtain⟨u2,hu2,ru⟩:=rv.get (D4 hjx);rw[hx] at hu2;cases hu2;rw[An hjx] at hc;obtain⟨hcd,hc⟩:=hc;refine A2 (Aj (K1 (L.run I' hv ru (C5 _ fo) hcd hc (E:=λ_ _=>False)) (λv s'' he=>?_) λ_ _ hF=>hF.elim));obtain⟨w,H1,I1,rw1,kk,rfl,hk1,hc1⟩:=he;obtain⟨t2,rfl⟩:=rw1
  try dsimp only
  obtain⟨zl,jf,n,ri,oi⟩:=(show J0 X.prog X.w H1 s''.heap kS (.lst (ks.map V.int)) from I1.hok kS _ hk1);have li:jf.length=ks.length:=by rw[<- ri.length,B6]
  have s1:=R7 s''.heap kS (G8 (·.push (.int kk t2)));obtain⟨c2,hc2⟩:∃c2,(s''.heap.update kS (G8 (·.push (.int kk t2)))).get? kS=some (seqObj "list" (jf.toArray.push (.int kk t2)) c2):=⟨_,Bs oi (·.push (.int kk t2))⟩;refine A2 (Aw oi rfl ?_ (by rw[F9,li,L0];omega) (N6 (Nat.le_of_eq (Array.size_push ..)) (by rw[F9,li,L0];omega)));refine B0 ⟨rfl,upd H1 kS (.lst ((ks++[kk]).map V.int)),ks++[kk],?_,D9,by rw[E7,hl];rfl,hc1⟩;refine I1.write (t':=s''.toks) (by rw[hk1];trivial) (.inl rfl) (λb o hb e=>(s1.2 b hb).trans e) ⟨_,hc2⟩ ⟨?_,jf++[.int kk t2],c2,?_,?_⟩
  ·rw[B6,E7,L0];simp;omega
  ·rw[N1];exact ri.append (.cons ⟨t2,rfl⟩ .nil)
  ·rw[hc2];simp
 case done=>
  rintro s' ⟨H3,ks,I3,hk3,hl,hc⟩;simp only[J3] at hl hc;rw[Be (by omega)] at hc;obtain⟨zl,jf,n,ri,oi⟩:=(show J0 X.prog X.w H3 s'.heap kS (.lst (ks.map V.int)) from I3.hok kS _ hk3);obtain⟨ea,_⟩:=I3.pin (a,seqObj "list" #[] e1) (O9 _ C8)
  try dsimp only
  refine A2 (listItems_at oi rfl ?_);exact kEnd oi ea hka (by simpa using Lz ri) (by omega) (by omega) λh' out c1 c2 z1 z2 z3 z4=>h s' H3 ks h' out c1 c2 I3 hk3 hc z1 z2 z3 z4
theorem RC (L:AS X scope params body qual x y c iy k tb){f c' l:A0}{pm ctv:A1}{vy:V}{xs:List V}{vs:List A1}{Q:VK}{E:A1->A6->Prop}(I:Inv X jb σ H s)(hv:σ[iy]?=some (some vy))
   (fo:(f,kla_obj "<lambda>" qual params body scope [(y,c)] pm c' ctv)∈jb) (hl:s.heap.IsList l vs.toArray) (rv:Vals xs vs) (h64:xs.length<64)
   (h:∀kS a,H kS=none->H a=none->kS≠a->BW tb vy kS c' qual xs [] (upd H kS (.lst [])) λks H3=>H3 a=none->∀ys,KOut ks xs ys->Q (.ref a) (upd (upd H3 kS (.lst [])) a (.lst ys))) :
   A7 (A8 X.prog X.w) X.A (call (.builtin "sorted") [.ref l] [(A5 "key",.ref f)]) (EP X jb σ Q) E s:=by
 have lv:xs.length=vs.length:=rv.length;refine call_function_entry_kw kind_sorted plain_sorted entry_sorted (ksk_s1 _ _) ?_;unfold N5.«sorted»;refine A2 (m:=checkCount "sorted" 1 1 _) (B0 ?_);refine A2 (collect_list hl ?_ (by rw[L0];omega));refine A2 (Cj ?_ (by rw[L0];omega))
 have hsz:((s.heap.push (seqObj "list" #[] 0)).update s.heap.objs.size (G8 (·++vs.toArray))).objs.size=s.heap.objs.size+1:=by
  rw[Heap.size_update,size_push']
 have hoL:(((s.heap.push (seqObj "list" #[] 0)).update s.heap.objs.size (G8 (·++vs.toArray))).push (seqObj "list" vs.toArray 0)).get? (s.heap.objs.size+1)=some (seqObj "list" vs.toArray 0):=by
  rw[<- hsz];exact G7 _ rfl
 have keep:∀b o,s.heap.get? b=some o->(((s.heap.push (seqObj "list" #[] 0)).update s.heap.objs.size (G8 (·++vs.toArray))).push (seqObj "list" vs.toArray 0)).get? b=some o:=λb o q=>by
  have hlt:b<s.heap.objs.size:=D1 q;rw[Heap.get?_push_ne _ _ _ (by rw[hsz];exact E3 (o7 hlt)),Heap.get?_update_ne _ _ _ _ (E3 hlt),Heap.get?_push_ne _ _ _ (E3 hlt)];exact q
 show A7 _ _ _ _ _ { s with heap:=((s.heap.push (seqObj "list" #[] 0)).update s.heap.objs.size (G8 (·++vs.toArray))).push (seqObj "list" vs.toArray 0) };rw[hsz];generalize ((s.heap.push (seqObj "list" #[] 0)).update s.heap.objs.size (G8 (·++vs.toArray))).push (seqObj "list" vs.toArray 0)=g1 at hoL keep ⊢;have haS:s.heap.objs.size<=s.heap.objs.size+1:=CF _;generalize s.heap.objs.size+1=a at hoL haS ⊢;refine A2 (M8 (wpAny_call_entry_kw slot_list_sort ⟨_,hoL,rfl⟩ entry_list_sort ?body (ksk_l1 _ _)))
 case body=>
  show A7 (A8 X.prog X.w) X.A.in1.in1 (N5.«list.sort» ⟨[.ref a],[(A5 "key",.ref f)]⟩) _ _ _;rw[ksk_t1 f a];have ha:a<g1.objs.size:=D1 hoL;have s1:=R7 g1 a (G8 λ_=>(#[]:Array A1));obtain⟨e1,ho1⟩:∃e1,(g1.update a (G8 λ_=>(#[]:Array A1))).get? a=some (seqObj "list" #[] e1):=⟨_,Bs hoL λ_=>#[]⟩;have hkS:((g1.update a (G8 λ_=>(#[]:Array A1))).push (seqObj "tuple" vs.toArray 0)).objs.size=g1.objs.size+1:=by rw[size_push',Heap.size_update]
  unfold ksk_tree;refine A2 (listItems_at hoL rfl ?_);refine A2 (Aw hoL rfl ?_ (by rw[F9,L0];omega) (K4 _));refine A2 (seqEpoch_at ho1 rfl ?_);refine A2 (wpAny_newTuple ?_ (by show vs.length<=_;rw[L0];omega));refine A2 (Cj ?_ (K4 _));refine M8 ?_;show A7 (A8 X.prog X.w) X.A.in1.in1 _ _ _ { s with heap:=((g1.update a (G8 λ_=>(#[]:Array A1))).push (seqObj "tuple" vs.toArray 0)).push (seqObj "list" #[] 0) };rw[hkS];have oK:(((g1.update a (G8 λ_=>(#[]:Array A1))).push (seqObj "tuple" vs.toArray 0)).push (seqObj "list" #[] 0)).get? (g1.objs.size+1)=some (seqObj "list" #[] 0):=by rw[<- hkS];exact G7 _ rfl
  have oA:(((g1.update a (G8 λ_=>(#[]:Array A1))).push (seqObj "tuple" vs.toArray 0)).push (seqObj "list" #[] 0)).get? a=some (seqObj "list" #[] e1):=C7 _ (C7 _ ho1)
  have kp:∀b o,s.heap.get? b=some o->(((g1.update a (G8 λ_=>(#[]:Array A1))).push (seqObj "tuple" vs.toArray 0)).push (seqObj "list" #[] 0)).get? b=some o:=λb o q=>
   C7 _ (C7 _ ((s1.2 b (E3 (L3 (D1 q) haS))).trans (keep b o q)))
  generalize ((g1.update a (G8 λ_=>(#[]:Array A1))).push (seqObj "tuple" vs.toArray 0)).push (seqObj "list" #[] 0)=g3 at oK oA kp ⊢;have hkS2:s.heap.objs.size<=g1.objs.size+1:=N6 haS (d7 (o7 ha));have hka:g1.objs.size+1≠a:=p5 (o7 ha);generalize g1.objs.size+1=kS at oK hkS2 hka ⊢;have nk:H kS=none:=I.hok.fresh hkS2;have na:H a=none:=I.hok.fresh haS;have I5:Inv X jb σ (upd H kS (.lst [])) { s with heap:=g3 }:=I.laid (t':=s.toks) kp hkS2 ⟨K4 _,[],0,.nil,oK⟩;have aL:a≠X.env.locals:=p5 (L3 I.lt haS);have aF:a∉X.fs:=I.nofs haS
  have I6:Inv X ((a,seqObj "list" #[] e1)::jb) σ (upd H kS (.lst [])) { s with heap:=g3 }:=I5.pins_of λp hp=>by
   rcases C3.mp hp with rfl|hp
   ·exact⟨oA,by rw[C4 hka.symm];exact na,aL,aF,λv z=>by cases z⟩
   ·exact I5.pin p (O9 _ hp)
  refine kRest L I6 hv fo D9 rv h64 hka (h kS a nk na hka) λs' H3 ks h' out c1 c2 I3 hk3 hR z1 z2 z3 z4=>⟨_,rfl,?_⟩;obtain⟨ys,ko,ry⟩:=RB rv z4;have hn3:H3 a=none:=(I3.pin (a,seqObj "list" #[] e1) (O9 _ C8)).2.1
  have ly:ys.length<=C2:=by
   obtain⟨ps,hp,rfl,_⟩:=ko;rw[B6,hp.length_eq,List.length_zip,L0];omega
  refine B0 ⟨_,rfl,.ref a,_,I3.retrack hk3 (N6 I.sz haS) (λp hp=>?_) (L3 I.bigS haS) (L3 I.bigS hkS2) z1 (out:=out.toList) (by simpa using z2) z3 ry ly,rfl,hR hn3 ys ko⟩;exact E3 (L3 (D1 (I.pin p hp).1) haS)
end
end L2
end
section
namespace L2
open PySem PySem.W PySem.Spec PyProof.Rows
theorem RD {h h':B7}{c':A0}{q:Str}(x:h.CodeRec (.ref c') q)(k:∀o,h.get? c'=some o->h'.get? c'=some o):h'.CodeRec (.ref c') q:=by
 obtain⟨c,oc,vs,t,e,h1,h2,h3⟩:=x;cases e;exact⟨_,oc,vs,t,rfl,k _ h1,h2,h3⟩
theorem RE {P:D2}{w:C9}{H:Hp}{h:B7}{c':A0}{q:Str}(x:h.CodeRec (.ref c') q):J0 P w H h c' (Y0 c' q):=by
 refine⟨x,?_,λh1 h2 y k=>RD y k⟩;obtain⟨c,oc,vs,t,e,h1,_⟩:=x;cases e;exact⟨oc,h1⟩
section
variable {X:Cx}{jb:List (A0×Obj)}{σ:St}{H:Hp}{s:A6}
theorem Inv.grow {Pt c':A0}{ps more:Array A1}{qual:Str}{h':B7}{t':Nat}(I:Inv X jb σ H s)(hP:H Pt=some (.tbl ps))(hx:Heap.ExtBut Pt s.heap h')(hge:s.heap.objs.size<=c')(hrec:h'.CodeRec (.ref c') qual)(htb:h'.get? Pt=some (tabObj (ps++more))) :
   Inv X jb σ (upd (upd H c' (Y0 c' qual)) Pt (.tbl (ps++more))) { s with heap:=h',toks:=t' }:=by
 have nc:H c'=none:=I.hok.fresh hge;have oth:∀b,b≠Pt->b≠c'->upd (upd H c' (Y0 c' qual)) Pt (.tbl (ps++more)) b=H b:=λb h1 h2=>by rw[C4 h1,C4 h2]
 have ne1:∀b u,H b=some u->(∀z,u≠.tbl z)->b≠Pt/\b≠c':=λb u e hu=>⟨(λz=>by rw[z,hP] at e;cases e;exact hu _ rfl),(λz=>by rw[z,nc] at e;cases e)⟩;have ne2:∀b o,s.heap.get? b=some o->H b=none->b≠Pt/\b≠c':=λb o e n=>⟨(λz=>by rw[z,hP] at n;cases n),E3 (L3 (D1 e) hge)⟩;refine I.un ⟨λb o e n _ _=>hx b o (ne2 b o e n).1 e,λb o e n _ _=>⟨o.slots,hx b o (ne2 b o e n).1 e⟩,λb o e n _=>?_,λb o e _=>?_,λb xs e=>?_,λb o u e=>?_,λb qs e=>?_,λz=>?_⟩ (λb u e=>?_)
 ·obtain⟨h1,h2⟩:=ne2 b o e n;rw[oth b h1 h2];exact n
 ·by_cases hb:b=Pt
  ·exact⟨_,hb▸htb⟩
  ·exact⟨o,hx b o hb e⟩
 ·obtain⟨h1,h2⟩:=ne1 b _ e (λz q=>by cases q);rw[oth b h1 h2];exact e
 ·obtain⟨h1,h2⟩:=ne1 b _ e (λz q=>by cases q);rw[oth b h1 h2];exact e
 ·by_cases hb:b=Pt
  ·subst hb;rw[hP] at e;cases e;exact⟨more,D9⟩
  ·have h2:b≠c':=λz=>by rw[z,nc] at e;cases e
   exact⟨#[],by rw[oth b hb h2,e];simp⟩
 ·have h2:L9≠c':=E3 (L3 I.bigS hge)
  have h1:L9≠Pt:=λq=>by
   unfold NS at z;rw[q,hP] at z;rcases z with z|⟨_,_,z⟩ <;> cases z
  unfold NS at z ⊢;rw[oth _ h1 h2];exact z
 ·by_cases h1:b=Pt
  ·subst h1;rw[D9] at e;cases e;exact htb
  ·rw[C4 h1] at e
   by_cases h2:b=c'
   ·subst h2;rw[D9] at e;cases e;exact RE hrec
   ·rw[C4 h2] at e;refine(I.hok b u e).stay (λd v hc q=>hx d v ?_ q) (λd q=>?_) λd xs q=>?_
    ·rcases hc with z|z
     ·rw[z];exact h1
     ·exact(ne1 d _ z (λz q=>by cases q)).1
    ·obtain⟨z1,z2⟩:=ne1 d _ q (λz q=>by cases q);rw[oth d z1 z2];exact q
    ·obtain⟨z1,z2⟩:=ne1 d _ q (λz q=>by cases q);rw[oth d z1 z2];exact q
end
def Fm (qual:Str)(tb:TE)(vy:V)(xs:List V)(Q:VK)(c':A0)(H2:Hp):Prop:=∀kS a,H2 kS=none->H2 a=none->kS≠a->BW tb vy kS c' qual xs [] (upd H2 kS (.lst [])) λks H3=>H3 a=none->∀ys,KOut ks xs ys->Q (.ref a) (upd (upd H3 kS (.lst [])) a (.lst ys))
def LA (K:Frag)(Pt:A0)(lpos:Pos)(qual:Str)(iy:Nat)(te tb:TE):TE:=λσ H Q=>te σ H λx H1=>∃a xs vy ps,x=.ref a/\SqL K H1 a xs/\xs.length<64/\σ[iy]?=some (some vy)/\H1 Pt=some (.tbl ps)/\TriplesOk ps.toList/\
 ((codeAmong lpos ps.toList=none/\∀c',H1 c'=none->Fm qual tb vy xs Q c' (upd (upd H1 c' (Y0 c' qual)) Pt (.tbl (ps++#[rawInt lpos.line,rawInt lpos.col,.ref c']))))\/∃c',codeAmong lpos ps.toList=some (.ref c')/\H1 c'=some (Y0 c' qual)/\Fm qual tb vy xs Q c' H1)
section
variable {X:Cx}{scope:J7}{params:Arguments}{body:Expr}{qual x y:Str}{c cd Pt:A0}{iy k:Nat}{tb te:TE}{e:Expr}{p pos kpos lpos:Pos}
theorem RF (L:AS X scope params body qual x y c iy k tb)(hq:X.env.qual++"<lambda>"=qual)(hcl:closureFor scope X.env=pure [(y,c)])(hcode:X.env.code=.ref cd)(C:CodeHd X.base cd Pt)(hB:X.base.BuiltinsAt X.mg Pt)(hg:Gl X "sorted")(hm:X.mg "sorted"=none)
   (he:PE X e te) (hs:E6 [e] X.env=[(false,eval e X.env)]) (hdef:defaultsOf params X.env=([],[])) :
   PE X (.Call (.Name "sorted" p) [e] [⟨some "key",.Lambda params body scope lpos,kpos⟩] pos) (LA X.K Pt lpos qual iy te tb):=by
 intro jb s σ H Q I h;refine DW (x9 I hg hm GT ?_);refine callWith_kw ?_ (by rw[hs];rfl) (by rw[hs];rfl);rw[hs];show A7 _ _ (spliced ((false,eval e X.env)::[])) _ _ s;refine Calls.spliced_cons (thn (he jb s σ H _ I h) λu s1 ⟨x',H1,I1,r1,q1⟩=>?_);refine Calls.spliced_nil ?_;obtain⟨a,xs,vy,ps,rfl,hS,h64,hv,hP,ht,hR⟩:=q1;obtain rfl:u=.ref a:=r1;obtain⟨jf,rv,⟨ol,nl,ho,hcl',hdl,hsl⟩,_⟩:=I1.list hS;have eP:s1.heap.get? Pt=some (tabObj ps):=I1.hok Pt _ hP;have aP:a≠Pt:=λz=>by rw[z,eP] at ho;cases ho;cases hcl'
 have C1:CodeHd s1.heap cd Pt:=C.keeps λb o q=>I1.bk b o q
 have B1:s1.heap.BuiltinsAt X.mg Pt:=by
  obtain⟨bm,o,z1,z2,z3,z4,z5,z6⟩:=hB;exact⟨bm,o,z1,z2,z3,z4,I1.bk _ _ z5,z6⟩
 have gP:X1≠Pt:=λq=>by
  obtain⟨o,es,ep,e,hd,_⟩:=I1.mod.glob.keeps I1.bk;rw[q,eP] at e;cases e;cases hd
 refine kws_cons (kla_eval hdef ?_);rw[hq]
 -- behind the making
 have fin:∀(c':A0) (ctv:A1) (h':B7) (tk:Nat) (H2:Hp),Inv X jb σ H2 { s1 with heap:=h',toks:=tk }->h'.IsList a jf.toArray->Fm qual tb vy xs Q c' H2->
     A7 (A8 X.prog X.w) X.A (evalAll ((b9 pos (b7 [] X.env)).map (·.2))) (λvs s2=>A7 (A8 X.prog X.w) X.A (call (.builtin "sorted") [.ref a] (((b9 pos (b7 [⟨some "key",.Lambda params body scope lpos,kpos⟩] X.env)).filterMap (·.1)).zip (.ref h'.objs.size::vs))) (EP X jb σ Q) X.xe s2) X.xe
       { s1 with heap:=h'.push (kla_obj "<lambda>" qual params body scope [(y,c)] ((X.mg "__name__").getD .none) c' ctv),toks:=tk }:=by
   intro c' ctv h' tk H2 I2 hl hR;refine kws_nil ?_;show A7 (A8 X.prog X.w) X.A (call (.builtin "sorted") [.ref a] [(A5 "key",.ref h'.objs.size)]) (EP X jb σ Q) X.xe _;have I3:Inv X jb σ H2 { s1 with heap:=h'.push (kla_obj "<lambda>" qual params body scope [(y,c)] ((X.mg "__name__").getD .none) c' ctv),toks:=tk }:=I2.kept (t':=tk) λb o q=>C7 _ q
   have I4:Inv X ((h'.objs.size,kla_obj "<lambda>" qual params body scope [(y,c)] ((X.mg "__name__").getD .none) c' ctv)::jb) σ H2 { s1 with heap:=h'.push (kla_obj "<lambda>" qual params body scope [(y,c)] ((X.mg "__name__").getD .none) c' ctv),toks:=tk }:=I3.pins_of λq hq=>by
    rcases C3.mp hq with rfl|hq
    ·exact⟨G7 _ rfl,I2.hok.fresh (B8 _),p5 I2.lt,I2.nofs (B8 _),λv z=>by cases z⟩
    ·exact I3.pin q (O9 _ hq)
   refine thn (RC L I4 hv C8 (let ⟨o9,z1,z2⟩:=hl;⟨o9,C7 _ z1,z2⟩) rv h64 hR) λv s2 h2=>?_;obtain⟨v',H5,I5,r5,q5⟩:=h2;exact⟨v',H5,I5.pins_of λq hq=>I5.pin q (O9 _ (C5 _ hq)),r5,q5⟩
 rcases hR with⟨hnf,hR⟩|⟨c',hf,hc',hR⟩
 ·refine kla_makeFunction (mg:=X.mg) hcl I1.ok.glob (I1.mod.glob.keeps I1.bk) hcode C1 eP ht hnf gP B1 λc' ctv h' tk hx hge hlt hrec htb=>?_;exact fin c' ctv h' tk _ (I1.grow hP hx hge hrec htb) ⟨ol,hx _ _ aP ho,hcl',nl,hsl⟩ (hR c' (I1.hok.fresh hge))
 ·refine kla_makeFunctionHit (mg:=X.mg) hcl I1.ok.glob (I1.mod.glob.keeps I1.bk) hcode C1 eP ht hf B1 λctv h' tk hk hsz=>?_;exact fin c' ctv h' tk _ (I1.kept (t':=tk) hk) ⟨ol,hk _ _ ho,hcl',nl,hsl⟩ hR
end
end L2
end
section
namespace L2
open PySem PySem.Spec PyProof.Rows
def insL {α:Type}(xs:List α)(k:Nat)(y:α):List α:=xs.take k++y::xs.drop k
theorem BX {α:Type}(xs:List α)(k:Nat)(y:α):(insL xs k y).length=xs.length+1:=by
 unfold insL;rw[E7,E8,T5,X5];omega
section
variable {X:Cx}
def LB:V->List V->Hp->VK->Prop:=λx vs H Q=>∃l xs i y,x=.ref l/\vs=[.int i,y]/\H l=some (.lst xs)/\0<=i/\i<=1000000/\xs.length<C2/\Q .non (upd H l (.lst (insL xs i.toNat y)))
theorem RG {u:A1}(h0:0<=i):(have k:=if i<0 then(i+((jf.toArray.size:Nat):Int)).toNat else min i.toNat jf.toArray.size;(jf.toArray.extract 0 k).push u++jf.toArray.extract k)=(insL jf i.toNat u).toArray:=by
 have e:(if i<0 then(i+((jf.toArray.size:Nat):Int)).toNat else min i.toNat jf.toArray.size)=min i.toNat jf.length:=by
  rw[jt (by omega)];simp
 show(jf.toArray.extract 0 (if i<0 then(i+((jf.toArray.size:Nat):Int)).toNat else min i.toNat jf.toArray.size)).push u++jf.toArray.extract (if i<0 then(i+((jf.toArray.size:Nat):Int)).toNat else min i.toNat jf.toArray.size)=_;rw[e];unfold insL;rcases Bm i.toNat jf.length with h|h
 ·rw[Bj h];simp;exact l8 (by rw[X5];exact B8 _)
 ·rw[CB h,l8 h,Be h];simp
theorem RH:MtM X "list.insert" LB:=by
 intro jb s σ H x vs v us Q I rx rv h;obtain⟨l,xs,i,y,rfl,rfl,hH,h0,h1,hz,q⟩:=h;cases rx;cases rv with
 | cons ri rv =>
  obtain⟨t,rfl⟩:=ri;obtain⟨u,rfl,ru⟩:=Vals.one rv;obtain⟨z,jf,n,r,hl,e⟩:=I.lstM hH
  have hf:¬(!Jt i)=true:=by
   simp only[Jt];simp;omega
  refine call_meets F.slot_list_insert ⟨_,e,rfl⟩ F.entry_list_insert (F.args_list_insert_3 _ _ _) (PySem.AutoSeq1.list_insert_list_int_val_1 l jf.toArray n i t u hf (by rw[F9];omega)) ⟨e,?_⟩;refine⟨.non,_,I.lset (its':=insL jf i.toNat u) hH e (RG h0) ?_ ?_,rfl,q⟩
  ·exact(r.take i.toNat).append (.cons ru (r.drop i.toNat))
  ·rw[BX];omega
end
end L2
namespace Pu
open PySem PySem.Spec L2
section
variable {T:PotK}{ι:Type}{K:A9}{F:ι->Cx}{e ei:Expr}{pe pi:pE}{pos:Pos}
def DE (i:Nat)(pi pe:pE):pE:=λenv n R=>(∃xs,env[i]?=some (some (.ow .lst xs)))/\pi env n λj jc n1=>pe jc n1 λy jd n2=>match jd[i]?,j with|some (some (.ow .lst xs)),.int j=>(0<=j/\j<=1000000/\xs.length<1000000)/\R .non (jd.set i (some (.ow .lst (insL xs j.toNat y)))) n2|_,_=>False
theorem Ih (i:Nat)(hv:∀z,EW (F z) (.Name x p) (tVar i))(hi:QE T K F ei pi)(he:QE T K F e pe)(hs1:F7 ei=true:=by rfl)(hs:F7 e=true:=by rfl)(hbase:∀z,l5 (.Name x p) "insert" (F z).env (eval (.Name x p) (F z).env)=eval (.Name x p) (F z).env:=by intro _;rfl)(hline:(ap.endLine == pos.line)=true:=by rfl)
   (hfew:∀z,((backTo pos (E6 [ei,e] (F z).env)).all (λx=>!x.1)&&(b9 pos (b7 [] (F z).env)).all (λx=>x.1.isSome)&&decide (([ei,e]:List Expr).length+([]:List T0).length+(if([]:List T0).isEmpty then 0 else 1)<30))=true:=by intro _;rfl)
   (hplain:∀z,(backTo pos (E6 [e] (F z).env)).any (·.1)=false:=by intro _;rfl) (hK:∀z,(F z).K=K:=by intro _;rfl):QE T K F (.Call (.Attribute (.Name x p) "insert" ap) [ei,e] [] pos) (DE i pi pe):=by
 obtain⟨ti,i1,i2⟩:=hi;obtain⟨t,a1,a2⟩:=he;refine⟨tBM K "list" LB (tVar i) (V8 ti (V8 t tNil)),λz=>hK z▸BG Bu PySem.F.slot_list_insert PySem.F.type_list_insert RH (hv z).h (G4 (i1 z) (G4 (a1 z) K3 (D7 hs)) (D7 hs1)) (hbase z) (hfew z) hline (D7 hs1) (hplain z),λC G σ H env n R Q hK hT S hp k=>?_⟩;obtain⟨⟨xs0,e0⟩,hp⟩:=hp;obtain⟨a,vs,ev,h1,h2,h3,h4,r⟩:=S.slots i _ e0;refine⟨.ref a,ev,.inl ⟨rfl,vs,SqL.of h4⟩,?_⟩;refine i2 C G σ H env n _ _ hK hT S hp λj jc n1 v H1 q1 S1 r1 f1=>?_;refine a2 C G σ H1 jc n1 _ _ hK hT S1 q1 λy jd n2 u H2 q2 S2 r2 f2=>?_
 split at q2
 ·rename_i xs j' ex;obtain⟨a',us,ev',g1,g2,g3,g4,r'⟩:=S2.slots i _ ex;rw[ev] at ev';cases ev';subst hK;obtain⟨S3,f3⟩:=S2.put ex ev ((r'.take j'.toNat).append (xs:=xs.take j'.toNat) (ys:=y::xs.drop j'.toNat) (us:=u::us.drop j'.toNat) ⟨u,_,rfl,r2,r'.drop j'.toNat⟩);exact⟨a,us,j',u,rfl,by rw[show v=.int j' from r1],g4,q2.1.1,q2.1.2.1,by rw[<- r'.length];exact mil' (by omega),k _ _ _ _ _ q2.2 S3 rfl ((f1.trans f2).trans f3)⟩
 ·exact q2.elim
end
end Pu
end
section
namespace Pu
open PySem PySem.Spec L2
def dPot (c:A0)(at_ left seed:Int):List (Key×V):=[(E2 (A5 "cells"),.ref c),(E2 (A5 "at"),.int at_),(E2 (A5 "left"),.int left),(E2 (A5 "seed"),.int seed)]
theorem u5 (h:a≠b)(e:(A5 a == A5 b)=false:=by decide):¬((E2 (A5 a):Key)=E2 (A5 b)):=λz=>by
 have:=Sum.inr.inj z;rw[this] at e;simp at e
theorem RI:valV (dPot c a l s) (E2 (A5 "cells"):Key)=some (.ref c):=BO rfl
theorem RJ:valV (dPot c a l s) (E2 (A5 "at"):Key)=some (.int a):=by
 unfold dPot;rw[BP (u5 (by decide)),BO rfl]
theorem RK:valV (dPot c a l s) (E2 (A5 "left"):Key)=some (.int l):=by
 unfold dPot;rw[BP (u5 (by decide)),BP (u5 (by decide)),BO rfl]
theorem RL {c:A0}{a l s:Int}:valV (dPot c a l s) (E2 (A5 "seed"):Key)=some (.int s):=rfl
theorem RM {k:Key}{v:V}(h:(jg.any λkv=>decide (kv.1=k))=true):putK jg k v=jg.map (λkv=>if kv.1=k then(kv.1,v) else kv):=by unfold putK;rw[jr h]
theorem RN {c:A0}{a l s x:Int}:putK (dPot c a l s) (E2 (A5 "at"):Key) (.int x)=dPot c x l s:=rfl
theorem RO {c:A0}{a l s x:Int}:putK (dPot c a l s) (E2 (A5 "left"):Key) (.int x)=dPot c a x s:=rfl
theorem RQ:putK (dPot c a l s) (E2 (A5 "seed"):Key) (.int x)=dPot c a l x:=by
 rw[RM (by unfold dPot;simp)];unfold dPot;simp only[G9,Aq];rw[jt (u5 (by decide)),jt (u5 (by decide)),jt (u5 (by decide)),jr trivial]
structure DF (cells:List Int)(at_ left seed:Int):Prop where
 c63:cells.length<=63
 a0:0<=at_
 l0:0<=left
 s0:0<=seed
 s1:seed<2 ^ 62
def DPotAt (M:List A0)(H:Hp)(p:A0):Prop:=∃(c:A0) (cells:List Int) (at_ left seed:Int),H p=some (.dK (dPot c at_ left seed))/\c∉M/\H c=some (.lst (cells.map V.int))/\DF cells at_ left seed
def potD:PotK where
 at_:=λM H p _=>DPotAt M H p
 mono:=λh _=>h
 keep:=λ⟨c,cells,a,l,s,h1,h2,h3,h4⟩ e k=>⟨c,cells,a,l,s,e.trans h1,h2,k c _ h2 h3,h4⟩
 more:=λ⟨c,cells,a,l,s,h1,h2,h3,h4⟩ k=>⟨c,cells,a,l,s,h1,λz=>(k c z).elim h2 λz=>(by rw[z] at h3;cases h3),h3,h4⟩
 mu:=λ⟨c,cells,a,l,s,h1,h2,h3,h4⟩=>⟨_,h1,trivial⟩
section
variable {P:D2}{w:C9}{K:A9}{mg:Str->Option A1}{base:B7}
def spNext:Sp:=λvs H Q _=>∃(p c:A0) (cells:List Int) (at_ left seed many:Int),vs=[.ref p,.int many]/\H p=some (.dK (dPot c at_ left seed))/\H c=some (.lst (cells.map V.int))/\DF cells at_ left seed/\0<many/\many<1000000/\
 ∀d at' left' seed',0<=d->d<many->DF cells at' left' seed'->Q (.int d) (upd H p (.dK (dPot c at' left' seed')))
theorem RU (G:Kn P w K mg base x k ps spNext):Kn P w K mg base x k ps (E5 K potD Dl):=G.imp λvs H Q E h=>by
 obtain⟨G,xs,n,R,hp,hm,_,r,hf,k⟩:=h;unfold Dl at hf
 split at hf
 ·rename_i kk m;obtain⟨v,rr,rfl,rv,u,r2,rfl,ru,rfl⟩:=r;obtain⟨p,ep,rfl⟩:=rv;obtain rfl:u=.int m:=ru;have pin:p∈G.pots:=K8 ep;obtain⟨pM,c,cells,a,l,s,e,hc,ec,ok⟩:=hp p pin;refine⟨p,c,cells,a,l,s,m,rfl,e,ec,ok,hf.1.1,hf.1.2.1,λd a' l' s' d0 d1 ok'=>?_⟩;refine k _ _ _ _ (hf.2 d d0 d1) rfl (λq hq=>?_) λb o hb eb=>?_
  ·by_cases hqp:q=p
   ·subst hqp;exact⟨c,cells,a',l',s',D9,hc,by rw[C4 λz=>hc (by rw[z];exact pM)];exact ec,ok'⟩
   ·obtain⟨_,c2,cells2,a2,l2,s2,e2,hc2,ec2,ok2⟩:=hp q hq;exact⟨c2,cells2,a2,l2,s2,by rw[C4 hqp];exact e2,hc2,by rw[C4 λz=>hc2 (by rw[z];exact pM)];exact ec2,ok2⟩
  ·rw[C4 (λz=>hb (by rw[z];exact pin))];exact eb
 ·exact hf.elim
def Fn (K:A9):Sp:=λvs H Q _=>∃(a:A0) (ns:List Int),vs=[.ref a]/\SqL K H a (ns.map V.int)/\ns.length<=63/\
 ∀(H':Hp) (p c:A0) (cells:List Int) (at_ left seed:Int),Same H H'->H p=none->H c=none->H' p=some (.dK (dPot c at_ left seed))->H' c=some (.lst (cells.map V.int))->DF cells at_ left seed->Q (.ref p) H'
end
section
variable {ι:Type}{K:A9}{F:ι->Cx}{e:Expr}{es:List Expr}{st:Stmt}{pos:Pos}{pl:pA}{pe pa pb:pE}
theorem SR.potG (S:SR C G σ H env n)(hn:C.np=true)(mo:MutO ob)(h:H p=none)(sm:Same H H')(h':H' p=some ob)(ok:C.T.at_ (p::G.M) H' p n) :
   SR C ⟨p::G.M,G.pots++[p]⟩ σ H' env n:=by
 have hM:∀a∈p::G.M,a∈G.M\/H a=none:=λa ha=>(C3.mp ha).elim (λz=>.inr (z▸h)) .inl
 have hp:∀(k:Nat) (q:A0),G.pots[k]?=some q->(G.pots++[p])[k]?=some q:=λk q e=>by
  obtain⟨hk,_⟩:=J5.mp e;rw[Y3 hk];exact e
 have mm:∀{x:PV} {v:V},Rep C.K G H x v->Rep C.K ⟨p::G.M,G.pots++[p]⟩ H' x v:=λr=>Rep.mono (G':=⟨p::G.M,G.pots++[p]⟩) (λb o _ e=>sm b o e) hM hp _ _ r;have mms:∀{x:List PV} {v:List V},Reps C.K G H x v->Reps C.K ⟨p::G.M,G.pots++[p]⟩ H' x v:=λr=>Reps.mono (G':=⟨p::G.M,G.pots++[p]⟩) (λb o _ e=>sm b o e) hM hp _ _ r;have pM:=S.fresh h
 exact {
  frame:=λb o hb e=>sm b o (S.frame b o hb e)
  sub:=λa ha=>(C3.mp ha).elim (λz=>.inr (z▸S.old h)) (S.sub a)
  sup:=λa ha=>C5 _ (S.sup a ha)
  pots:=λq hq=>by
   rcases K9.mp hq with z|z
   ·refine⟨C5 _ (S.pots q z).1,?_⟩;have h1:=C.T.more (M':=p::G.M) (S.pots q z).2 hM;obtain⟨o,e,_⟩:=C.T.mu h1;exact C.T.keep h1 (by rw[e,sm q o e]) λb o _ e=>sm b o e
   ·rw[J6.mp z];exact⟨C8,ok⟩
  pre:=by
   obtain⟨l,el,_⟩:=S.pre;exact⟨l++[p],by show G.pots++[p]=_;rw[el,X4],.inr hn⟩
  mu:=λa ha=>by
   rcases C3.mp ha with rfl|ha
   ·exact⟨ob,h',mo⟩
   ·obtain⟨o,e,m⟩:=S.mu a ha;exact⟨o,sm a o e,m⟩
  slots:=λi s e=>by
   cases s with
   | v x =>
    obtain⟨v,ev,r⟩:=S.slots i _ e;exact⟨v,ev,mm r⟩
   | ow kk xs =>
    obtain⟨b,us,ev,h1,h2,h3,h4,r⟩:=S.slots i _ e;refine⟨b,us,ev,C5 _ h1,h2,λz=>?_,sm _ _ h4,mms r⟩;rcases K9.mp z with z|z
    ·exact h3 z
    ·rw[J6.mp z] at h1;exact pM h1
  inj:=S.inj
  p0:=⟨S.p0.1,C.T.hasM S.p0.2 λz=>pM (S.pots p z).1⟩
  len:=S.len
  newp:=λq hq hn' hM=>by
   rcases K9.mp hq with z|z
   ·exact S.newp q z hn' hM
   ·rw[J6.mp z] at hM
    exact pM (S.sup p hM) }
end
end Pu
end
section
namespace Pu
open PySem PySem.W PySem.Spec L2
def TabG (lpos:Pos)(qual:Str)(M:List A0)(H:Hp)(ps:Array A1):Prop:=TriplesOk ps.toList/\(codeAmong lpos ps.toList=none\/∃c',codeAmong lpos ps.toList=some (.ref c')/\c'∉M/\H c'=some (Y0 c' qual))
def tabK (T:PotK)(Pt:A0)(lpos:Pos)(qual:Str):PotK where
 at_:=λM H p n=>(p≠Pt/\T.at_ M H p n)\/(p=Pt/\∃ps,H Pt=some (.tbl ps)/\TabG lpos qual M H ps)
 mono:=λh hl=>h.imp (λz=>⟨z.1,T.mono z.2 hl⟩) id
 keep:=λh e k=>by
  rcases h with⟨h1,h2⟩|⟨rfl,ps,h2,h3,h4⟩
  ·exact .inl ⟨h1,T.keep h2 e k⟩
  ·refine .inr ⟨rfl,ps,e.trans h2,h3,h4.imp id ?_⟩;rintro⟨c',z1,z2,z3⟩;exact⟨c',z1,z2,k _ _ z2 z3⟩
 more:=λh k=>by
  rcases h with⟨h1,h2⟩|⟨rfl,ps,h2,h3,h4⟩
  ·exact .inl ⟨h1,T.more h2 k⟩
  ·refine .inr ⟨rfl,ps,h2,h3,h4.imp id ?_⟩;rintro⟨c',z1,z2,z3⟩;exact⟨c',z1,(λz=>(k c' z).elim z2 (λq=>by rw[q] at z3;cases z3)),z3⟩
 mu:=λh=>by
  rcases h with⟨h1,h2⟩|⟨rfl,ps,h2,_⟩
  ·exact T.mu h2
  ·exact⟨_,h2,trivial⟩
 has:=λl=>∃l',l=Pt::l'/\Pt∉l'
 hasM:=λ{l p} h hp=>by
  obtain⟨l',rfl,h2⟩:=h;refine⟨l'++[p],rfl,λz=>?_⟩;rcases K9.mp z with z|z
  ·exact h2 z
  ·exact hp (by rw[<- J6.mp z];exact C8)
def BY:pF:=λxs n R=>match xs with|[.pot (_+1),.int m]=>(0<m/\m<1000000/\n<1000000000)/\∀d:Int,0<=d->d<m->R (.int d) (n+1)|_=>False
section
variable {P:D2}{w:C9}{K:A9}{mg:Str->Option A1}{base:B7}{T:PotK}{Pt:A0}{lpos:Pos}{qual:Str}
theorem RV {x:Str}{k:Nat}{ps:List Str}(G:Kn P w K mg base x k ps (E5 K T Dl))(hT:T.has=λ_=>True):Kn P w K mg base x k ps (E5 K (tabK T Pt lpos qual) BY):=G.imp λvs H Q E h=>by
 obtain⟨G,xs,n,R,hp,hm,hh,r,hf,k⟩:=h;unfold BY at hf
 split at hf
 ·rename_i kk m;obtain⟨v,rr,rfl,rv,u,r2,rfl,ru,rfl⟩:=r;obtain⟨p,ep,rfl⟩:=rv;obtain rfl:u=.int m:=ru;obtain⟨l',el,nl⟩:=hh;have epl:l'[kk]?=some p:=by rw[el] at ep;simpa using ep
  have pl:p∈l':=K8 epl;have sub:∀q∈l',q∈G.pots:=λq hq=>by rw[el];exact C5 _ hq
  have at1:∀q∈l',q∈G.M/\T.at_ G.M H q n:=λq hq=>by
   obtain⟨a1,a2⟩:=hp q (sub q hq);rcases a2 with⟨_,a2⟩|⟨z,_⟩
   ·exact⟨a1,a2⟩
   ·exact absurd (z▸hq) nl
  have ptM:Pt∈G.pots:=by rw[el];exact C8
  refine⟨⟨G.M,l'⟩,[.pot kk,.int m],n,λr n'=>R r n'/\∃d,r=.int d,at1,hm,by rw[hT];trivial,⟨_,_,rfl,⟨p,epl,rfl⟩,_,_,rfl,rfl,rfl⟩,⟨hf.1,λd d0 d1=>⟨hf.2 d d0 d1,d,rfl⟩⟩,λr n' v H' rr rv hp' hk=>?_⟩
  have nr:Rep K G H' r v:=by
   obtain⟨_,d,rfl⟩:=rr;exact rv
  refine k r n' v H' rr.1 nr (λq hq=>?_) λb o hb e=>hk b o (λz=>hb (sub b z)) e;rw[el] at hq;rcases C3.mp hq with rfl|hq
  ·rcases(hp q ptM).2 with⟨z,_⟩|⟨_,ps,z1,z2,z3⟩
   ·exact absurd rfl z
   ·refine .inr ⟨rfl,ps,hk _ _ nl z1,z2,z3.imp id ?_⟩;rintro⟨c',y1,y2,y3⟩;exact⟨c',y1,y2,hk _ _ (λz=>y2 ((hp c' (sub c' z)).1)) y3⟩
  ·exact .inl ⟨λz=>nl (z▸hq),hp' q hq⟩
 ·exact hf.elim
end
section
variable {ι:Type}{K:A9}{F:ι->Cx}{e:Expr}{es:List Expr}{st:Stmt}{pos:Pos}{pl:pA}{pe pa pb:pE}{Pt:A0}{lpos:Pos}{qual:Str}
def Ii (i:Nat)(pa:pE):pS:=λD env n=>pa env n λx jc n1=>match x with|.scr ns=>ns.length<=63/\∀q:Nat,D.nx (jc.set i (some (.v (.pot (q+1))))) n1|_=>False
theorem RW (i:Nat){x:Str}{p:Pos}{a:Expr}{k j:Nat}{ps:List Str}(h:∀z te,EW (F z) (.Call (.Name x p) [a] [] pos) te->SW (F z) st (tAsg te (P2 i)))(hG:∀z,Kn (F z).prog (F z).w (F z).K (F z).mg (F z).base x k ps (Fn K))(hr:∀z,Room j (F z).A)(hk:k<=j)(hg:∀z,Gl (F z) x)
   (ha:QE (tabK potD Pt lpos qual) K F a pa) (n1:F7 a=true:=by rfl) (hdb:(x == ("__debug__":Str))=false:=by decide):QS (tabK potD Pt lpos qual) true K F st (Ii i pa):=by
 obtain⟨t,a1,a2⟩:=ha;refine⟨_,λz=>(h z _ ⟨pe_fn (hG z) (hr z) hk (hg z) (G4 (a1 z) K3 (D7 n1)) hdb (D7 n1)⟩).h,λC G σ H env n PD D hK hT hn S hp L=>?_⟩;refine a2 C G σ H env n _ _ hK hT S hp λx jc n1 v H1 q1 S1 r1 f1=>?_
 split at q1
 ·rename_i ns;obtain⟨a,ev,hq⟩:=De (.inl r1);refine(show Fn K [v] H1 (λx H1=>P2 i x σ H1 D.nx) E0 from ?_);refine⟨a,ns,by rw[ev],hq,q1.1,λH2 p c cells a l s sm hp hc ep ec ok=>?_⟩;have hh:(tabK potD Pt lpos qual).has G.pots:=hT▸S1.hasG;obtain⟨l',el,nl⟩:=hh;have ptM:Pt∈G.pots:=by rw[el];exact C8
  have S2:=S1.potG hn (p:=p) (ob:=.dK (dPot c a l s)) trivial hp sm ep (by
   rw[hT];refine .inl ⟨λz=>S1.fresh hp (by rw[z];exact(S1.pots _ ptM).1),c,cells,a,l,s,ep,λz=>?_,ec,ok⟩;rcases C3.mp z with rfl|z
   ·rw[ep] at ec;cases ec
   ·exact S1.fresh hc z)
  have S3:=S2.set i (x:=.pot (l'.length+1)) (v:=.ref p) ⟨p,by show(G.pots++[p])[l'.length+1]?=_;rw[el];simp,rfl⟩;refine L.nx _ _ _ _ _ (q1.2 _) S3 ((Ext.fr f1).trans ⟨λb o _ e=>sm b o e,λc hc=>(C3.mp (show c∈p::G.M from hc)).elim (λz=>.inr (z▸hp)) .inl,λk q e=>?_⟩);obtain⟨hk,_⟩:=J5.mp e;show(G.pots++[p])[k]?=_;rw[Y3 hk];exact e
 ·exact q1.elim
end
end Pu
end
section
namespace Pu
open PySem PySem.W PySem.Spec L2
def AT (pk:pE)(y:PV):List PV->Nat->(List Int->Nat->Prop)->Prop
 |[],n,R=>R [] n
 |x::xs,n,R=>pk [some (.v x),some (.v y)] n λr _ n1=>∃k,r=.int k/\AT pk y xs n1 λks n2=>R (k::ks) n2
def SrtK (ks:List Int)(xs ys:List PV):Prop:=∃ps:List (Int×PV),ps.Perm (ks.zip xs)/\ys=ps.map Prod.snd/\ps.Pairwise λp q=>p.1<=q.1
def Fo (iy:Nat)(pe pk:pE):pA:=λenv n R=>pe env n λx jc n1=>match x,jc[iy]? with
 |.lst xs,some (some (.v y))=>xs.length<64/\AT pk y xs n1 λks n2=>∀ys,SrtK ks xs ys->R ys jc n2
 |_,_=>False
theorem LC {α β:Type}{f:α->β}{ps m:List β}(h:ps.Perm m):∀l:List α,m=l.map f->∃l':List α,l'.Perm l/\ps=l'.map f:=by
 induction h with
 |nil=>intro l e;exact⟨l,.refl _,e⟩
 | cons x _ ih =>
  intro l e;cases l with
  |nil=>cases e
  | cons a l =>
   rw[G9] at e;injection e with e1 e2;obtain⟨l',p,q⟩:=ih l e2;exact⟨a::l',.cons a p,by rw[G9,e1,q]⟩
 | swap x y r =>
  intro l e
  match l,e with
  | a :: b :: l, e =>
   rw[G9,G9] at e;injection e with e1 e2;injection e2 with e2 e3;exact⟨b::a::l,.swap _ _ _,by rw[G9,G9,e1,e2,e3]⟩
 | trans _ _ ih1 ih2 =>
  intro l e;obtain⟨l2,p2,q2⟩:=ih2 l e;obtain⟨l1,p1,q1⟩:=ih1 l2 q2;exact⟨l1,p1.trans p2,q1⟩
theorem zip3 {K:A9}{G:Gh}{H:Hp}:∀(ks:List Int) (xs:List PV) (us:List V),Reps K G H xs us->∃l:List (Int×PV×V),ks.zip us=l.map (λt=>(t.1,t.2.2))/\ks.zip xs=l.map (λt=>(t.1,t.2.1))/\∀t∈l,Rep K G H t.2.1 t.2.2
 |[],xs,us,_=>⟨[],by simp,by simp,λ_ z=>nomatch z⟩
 |k::ks,[],us,h=>by cases(show us=[] from h);exact⟨[],rfl,rfl,λ_ z=>nomatch z⟩
 | k :: ks, x :: xs, us, h => by
  obtain⟨v,r,rfl,h1,h2⟩:=h;obtain⟨l,e1,e2,h3⟩:=zip3 ks xs r h2;refine⟨(k,x,v)::l,by rw[l9,e1];rfl,by rw[l9,e2];rfl,λt ht=>?_⟩;rcases C3.mp ht with rfl|ht
  ·exact h1
  ·exact h3 t ht
theorem LD {K:A9}{G:Gh}{H:Hp}:∀(l:List (Int×PV×V)),(∀t∈l,Rep K G H t.2.1 t.2.2)->Reps K G H (l.map λt=>t.2.1) (l.map λt=>t.2.2)
 |[],_=>rfl
 |t::l,h=>⟨_,_,rfl,h t C8,LD l λs hs=>h s (C5 _ hs)⟩
theorem RX {K:A9}{G:Gh}{H:Hp}{ks:List Int}{xs:List PV}{us ys:List V}(r:Reps K G H xs us)(h:KOut ks us ys):∃ys',SrtK ks xs ys'/\Reps K G H ys' ys:=by
 obtain⟨ps,hp,rfl,ho⟩:=h;obtain⟨l,e1,e2,h3⟩:=zip3 ks xs us r;rw[e1] at hp;obtain⟨l',p',rfl⟩:=LC hp l rfl;refine⟨l'.map λt=>t.2.1,⟨l'.map λt=>(t.1,t.2.1),by rw[e2];exact p'.map _,by rw[U6];rfl,?_⟩,?_⟩
 ·rw[n6] at ho ⊢;exact ho
 ·rw[U6];exact LD l' λt ht=>h3 t (p'.mem_iff.mp ht)
section
variable {T:PotK}{K:A9}{Pt:A0}{lpos:Pos}{qual:Str}
theorem LE {tb:TE}{pk:pE}(hb:EOk K T tb pk){G:Gh}{H1 H2:Hp}{kS c':A0}{y:PV}{vy:V}(hh:T.has G.pots)(h0:∀b o,b∉G.pots->H1 b=some o->H2 b=some o)(k1:H1 kS=none)(k2:H2 kS=none)(kM:kS∉G.M)(pM:∀p∈G.pots,p∈G.M)(hm:∀a∈G.M,∃o,H1 a=some o/\MutO o)
   (hc:H2 c'=some (Y0 c' qual)) (cM:c'∉G.M) (ry:Rep K G H1 y vy) {R4:List Int->Hp->Prop} {RR:List Int->Nat->Prop}
   (fin:∀ks H4 n2,RR ks n2->(∀b o,b∉G.pots->H2 b=some o->H4 b=some o)->(∀p∈G.pots,T.at_ (kS::G.M) H4 p n2)->H4 kS=some (.lst (ks.map V.int))->R4 ks H4) :
   ∀(xs:List PV) (us:List V) (ks:List Int) (n:Nat) (H3:Hp),Reps K G H1 xs us->(∀b o,b∉G.pots->H2 b=some o->H3 b=some o)->(∀p∈G.pots,T.at_ (kS::G.M) H3 p n)->H3 kS=some (.lst (ks.map V.int))->AT pk y xs n (λmore n2=>RR (ks++more) n2)->BW tb vy kS c' qual us ks H3 R4
 | [], us, ks, n, H3, r, fr, at3, e3, hk => by
  cases(show us=[] from r);exact fin ks H3 n (by simpa[AT] using hk) fr at3 e3
 | x :: xs, us, ks, n, H3, r, fr, at3, e3, hk => by
  obtain⟨u,us,rfl,rx,rr⟩:=r;have kP:kS∉G.pots:=λz=>kM (pM _ z);have neK:∀b o,H2 b=some o->b≠kS:=λb o e z=>by rw[z,k2] at e;cases e
  let GD:Gh:=⟨kS::G.M,G.pots⟩
  have fr1:∀b o,b∉G.M->H1 b=some o->H3 b=some o:=λb o hb e=>fr b o (λz=>hb (pM b z)) (h0 b o (λz=>hb (pM b z)) e);have mv:∀{x:PV} {v:V},Rep K G H1 x v->Rep K GD H3 x v:=λr=>Rep.mono (G':=GD) fr1 (λa ha=>(C3.mp (show a∈kS::G.M from ha)).elim (λz=>.inr (z▸k1)) .inl) (λ_ _ e=>e) _ _ r
  have I:Inn K T GD [some u,some vy] H3 [some (.v x),some (.v y)] n:=by
   refine⟨λp hp=>⟨C5 _ (pM p hp),at3 p hp⟩,hh,λa ha=>?_,λi s e=>?_,rfl⟩
   ·rcases C3.mp (show a∈kS::G.M from ha) with rfl|ha
    ·exact⟨_,e3,trivial⟩
    ·by_cases hp:a∈G.pots
     ·exact T.mu (at3 a hp)
     ·obtain⟨o,e,m⟩:=hm a ha;exact⟨o,fr a o hp (h0 a o hp e),m⟩
   ·match i,e with
    |0,e=>cases e;exact⟨x,u,rfl,rfl,mv rx⟩
    |1,e=>cases e;exact⟨y,vy,rfl,rfl,mv ry⟩
    |_+2,e=>cases e
  refine⟨fr c' _ (λz=>cM (pM _ z)) hc,?_⟩;refine hb _ GD _ H3 _ n _ _ rfl rfl I.sr hk λq jh n1 v H4 rq S4 rv f4=>?_;obtain⟨k,rfl,hk2⟩:=rq;have e4:H4 kS=some (.lst (ks.map V.int)):=S4.frame kS _ kP e3;refine⟨k,rv,e4,?_⟩;refine LE hb hh h0 k1 k2 kM pM hm hc cM ry fin xs us (ks++[k]) n1 _ rr (λb o hp e=>?_) (λp hp=>?_) D9 (by simpa[X4] using hk2)
  ·rw[C4 (neK b o e)];exact S4.frame b o hp (fr b o hp e)
  ·refine T.keep (S4.pots p hp).2 (C4 λz=>kP (z▸hp)) λb o hb e=>?_;rw[C4 (λz=>hb (by rw[z];exact C8))];exact e
theorem RY {te tb:TE}{pe pk:pE}{iy:Nat}(h2:ROk K (tabK T Pt lpos qual) te pe)(hb:EOk K (tabK T Pt lpos qual) tb pk):NOk K (tabK T Pt lpos qual) (LA K Pt lpos qual iy te tb) (Fo iy pe pk):=by
 intro C G σ H env n R Q hK hT S hp k;refine h2 C G σ H env n _ _ hK hT S hp λx jc n1 v H1 p1 S1 r1 f1=>?_;have rd:RdV K G H1 x v:=hK▸r1.rd S1
 split at p1
 ·rename_i xs y ey;obtain⟨h64,p1⟩:=p1;obtain⟨a,us,rfl,hq,r⟩:=rd.lst;obtain⟨vy,ev,ry⟩:=S1.slots iy _ ey;rw[hK] at ry;have hh:(tabK T Pt lpos qual).has G.pots:=hT▸S1.hasG;obtain⟨l',el,nl⟩:=id hh;have ptM:Pt∈G.pots:=by rw[el];exact C8
  have atH:∀p∈G.pots,p∈G.M/\(tabK T Pt lpos qual).at_ G.M H1 p n1:=λp hp=>hT▸S1.pots p hp;have pM:∀p∈G.pots,p∈G.M:=λp hp=>(atH p hp).1
  obtain⟨ps,eP,tg⟩:∃ps,H1 Pt=some (.tbl ps)/\TabG lpos qual G.M H1 ps:=by
   rcases(atH Pt ptM).2 with⟨z,_⟩|⟨_,z⟩
   ·exact absurd rfl z
   ·exact z
  have ul:us.length=xs.length:=r.length.symm
  have rest:∀c' H2,(∀b o,b∉G.pots->H1 b=some o->H2 b=some o)->(∀p∈G.pots,(tabK T Pt lpos qual).at_ G.M H2 p n1)->H2 c'=some (Y0 c' qual)->c'∉G.M->Fm qual tb vy us Q c' H2:=by
   intro c' H2 h0 at2 hc cM kS a2 nk na hka
   have k1:H1 kS=none:=by
    cases e:H1 kS with
    |none=>rfl
    | some o =>
     by_cases hp:kS∈G.pots
     ·obtain⟨o2,e2,_⟩:=(tabK T Pt lpos qual).mu (at2 kS hp);rw[nk] at e2;cases e2
     ·rw[h0 kS o hp e] at nk;cases nk
   have kM:kS∉G.M:=S1.fresh k1;refine LE hb hh h0 k1 nk kM pM S1.mu hc cM ry (RR:=λks n2=>∀ys,SrtK ks xs ys->R ys jc n2) (λks H4 n2 rr fr4 at4 e4 n4 ys ko=>?_) xs us [] n1 _ r (λb o hp e=>?_) (λp hp=>?_) D9 p1
   ·obtain⟨ys',so,ry'⟩:=RX r ko;have ne4:∀b o,H2 b=some o->b≠kS:=λb o e z=>by rw[z,nk] at e;cases e
    have hk4:∀b o,b∉G.pots->H1 b=some o->upd H4 kS (.lst []) b=some o:=λb o hp e=>by
     have e2:=h0 b o hp e;rw[C4 (ne4 b o e2)];exact fr4 b o hp e2
    have fr:Fr G H1 (upd H4 kS (.lst [])):=λb o hb e=>hk4 b o (λz=>hb (pM b z)) e;refine k ys' jc n2 a2 ys (upd H4 kS (.lst [])) (rr ys' so) (S1.call hk4 λp hp=>?_) (f1.trans fr) (by rw[C4 hka.symm];exact n4) (ry'.fr fr);rw[hT];have h5:=(tabK T Pt lpos qual).more (M':=G.M) (at4 p hp) λa ha=>.inl (C5 _ ha)
    -- kS is none of the pots' things
    have h6:=(tabK T Pt lpos qual).keep (H':=upd H4 kS (.lst [])) (at4 p hp) (C4 λz=>kM (pM _ (z▸hp))) λb o hb e=>by
     rw[C4 (λz=>hb (by rw[z];exact C8))];exact e
    exact(tabK T Pt lpos qual).more (M':=G.M) h6 λa ha=>.inl (C5 _ ha)
   ·rw[C4 (λz=>by rw[z,nk] at e;cases e)];exact e
   ·have h5:=(tabK T Pt lpos qual).more (M':=kS::G.M) (at2 p hp) λa ha=>(C3.mp ha).elim (λz=>.inr (z▸nk)) .inl
    exact(tabK T Pt lpos qual).keep h5 (C4 λz=>kM (pM _ (z▸hp))) λb o hb e=>by
     rw[C4 (λz=>hb (by rw[z];exact C8))];exact e
  refine⟨a,us,vy,ps,rfl,hq,by omega,ev,eP,tg.1,?_⟩;rcases tg.2 with hn|⟨c',z1,z2,z3⟩
  ·refine .inl ⟨hn,λc' hc'=>rest c' _ (λb o hp e=>?_) (λp hp=>?_) ?_ (S1.fresh hc')⟩
   ·have b1:b≠Pt:=λz=>hp (by rw[z];exact ptM);rw[C4 b1,C4 (λz=>by rw[z,hc'] at e;cases e)];exact e
   ·by_cases hpp:p=Pt
    ·subst hpp;refine .inr ⟨rfl,_,D9,?_,.inr ⟨c',?_,S1.fresh hc',?_⟩⟩
     ·have e:(ps++#[rawInt lpos.line,rawInt lpos.col,M3 c']).toList=ps.toList++[rawInt lpos.line,rawInt lpos.col,.ref c']:=by simp
      rw[e];exact TriplesOk_snoc _ _ _ _ tg.1
     ·have e:(ps++#[rawInt lpos.line,rawInt lpos.col,M3 c']).toList=ps.toList++[rawInt lpos.line,rawInt lpos.col,.ref c']:=by simp
      rw[e];exact codeAmong_snoc _ tg.1 hn
     ·rw[C4 (λz=>by rw[z,eP] at hc';cases hc'),D9]
    ·rcases(atH p hp).2 with⟨_,z⟩|⟨z,_⟩
     ·refine .inl ⟨hpp,?_⟩;have nc:p≠c':=λq=>S1.fresh hc' (by rw[<- q];exact pM p hp);have z2:=T.keep (H':=upd H1 c' (Y0 c' qual)) z (C4 nc) λb o _ e=>by rw[C4 (λq=>by rw[q,hc'] at e;cases e)];exact e
      exact T.keep z2 (by rw[C4 hpp]) λb o hb e=>by rw[C4 (λq=>hb (by rw[q];exact pM _ ptM))];exact e
     ·exact absurd z hpp
   ·rw[C4 (λz=>by rw[z,eP] at hc';cases hc'),D9]
  ·exact .inr ⟨c',z1,z3,rest c' H1 (λ_ _ _ e=>e) (λp hp=>(atH p hp).2) z3 z2⟩
 ·exact p1.elim
end
section
variable {T:PotK}{ι:Type}{K:A9}{F:ι->Cx}{Pt cd:A0}{lpos p pos kpos:Pos}{qual x y:Str}{e body:Expr}{pe pk:pE}{scope:J7}{params:Arguments}{iy k:Nat}{c:ι->A0}
theorem RZ (he:QR (tabK T Pt lpos qual) K F e pe)
   (hb:QE (tabK T Pt lpos qual) K (λq:ι×A0×A0×A6×Hp=>BV (F q.1) scope [x,y] qual q.2.1 q.2.2.1 [(y,c q.1)] q.2.2.2.1 q.2.2.2.2) body pk)
   (S:DC scope x y) (hr:∀z,Room k (F z).A) (hc:∀z,(F z).env.cells.lookup y=some (c z)) (hi:∀z,(F z).env.scope.names.lookup y=some .cell) (hn:∀z,(F z).N[iy]?=some y)
   (bd:∀z (pm ct jn u:A1),Y1 (kla_fn "<lambda>" qual params body scope [(y,c z)] pm jn ct) ⟨[u],[]⟩=pure [(x,u)])
   (hq:∀z,(F z).env.qual++"<lambda>"=qual) (hcl:∀z,closureFor scope (F z).env=pure [(y,c z)]) (hcode:∀z,(F z).env.code=.ref cd) (C:∀z,CodeHd (F z).base cd Pt) (hB:∀z,(F z).base.BuiltinsAt (F z).mg Pt)
   (hg:∀z,Gl (F z) "sorted") (hm:∀z,(F z).mg "sorted"=none) (hdef:∀z,defaultsOf params (F z).env=([],[])) (hs:F7 e=true:=by rfl) (hK:∀z,(F z).K=K:=by intro _;rfl) :
   QN (tabK T Pt lpos qual) K F (.Call (.Name "sorted" p) [e] [⟨some "key",.Lambda params body scope lpos,kpos⟩] pos) (Fo iy pe pk):=by
 obtain⟨t,h1,h2⟩:=he;obtain⟨u,h3,h4⟩:=hb;refine⟨_,λz=>hK z▸RF (c:=c z) (k:=k) (tb:=u) ⟨S,hr z,hc z,hi z,hn z,bd z,λf c' s H=>h3 (z,f,c',s,H)⟩ (hq z) (hcl z) (hcode z) (C z) (hB z) (hg z) (hm z) (h1 z) (D7 hs) (hdef z),RY h2 h4⟩
end
end Pu
end
section
namespace L2
open PySem PySem.W PySem.Spec PyProof.Rows
def Ij (Pt:A0)(H:Hp):Prop:=∀b,H b=none\/(∃o xs,H b=some (.frz o (.lst xs)))\/(b=Pt/\H b=some (.tbl #[]))
theorem R_ {P:D2}{w:C9}{K:Frag}{mg mb:Str->Option A1}{CX:CXT}{k:Nat}{fa a Pt cd:A0}{fd:FuncData}{x:Str}{sp:Sp}{s₁:A6}{vs:List A1}{ns:List Int}
   (KX:K.In s₁.heap) (hns:s₁.heap.Ns X1 mg) (hb:s₁.heap.Ns builtinsNs mb) (hbb:∀x:Str,x≠"__name__"->mb x=M9 x) (hlim:s₁.heap.NoLimit) (hg:s₁.gens=#[])
   (ha:s₁.heap.get? a=some { cls:=.type "list",data:=.seq vs.toArray }) (hi:IntsAre vs ns) (hl:ns.length<=C2) (hr:Room k callerA)
   (hP:s₁.heap.get? Pt=some (tabObj #[])) (hC:CodeHd s₁.heap cd Pt) (hB:s₁.heap.BuiltinsAt mg Pt) (hKP:K.lookup Pt=none) (hsy:L9≠Pt)
   (F:∀base:B7,K.In base->base.Ns X1 mg->CodeHd base cd Pt->base.BuiltinsAt mg Pt->FnOk P w K mg base CX k fa fd [x] sp) (hbind:∀(s:A6) (u:A1),BindsTo s fd ⟨[u],[]⟩ [(x,u)])
   (hsp:∀H:Hp,Ij Pt H->H Pt=some (.tbl #[])->SqL K H a (ns.map V.int)->sp [.ref a] H (λv _=>v=.bl true) λ_ _ _=>False)
   (hCX:∀H e s',CX [] H s₁ (λ_ _ _=>False) e s'->False) :
   O0 (A8 P w) callerA (.call (.ref fa) ⟨[.ref a],[]⟩) (λr s'=>r=.ok (.ret (.bool true))/\OldK s₁.heap s'.heap/\s'.os=s₁.os/\AllBare s'.gens) s₁:=by
 have rv:=Pm hi;have lenV:=hi.length;have haP:a≠Pt:=λz=>by rw[z,hP] at ha;cases ha
 have core:∀H:Hp,Ij Pt H->H Pt=some (.tbl #[])->SqL K H a (ns.map V.int)->HOk P w H s₁.heap->(∀b,H b≠none->b=a\/b=Pt)->(H a≠none->K.lookup a=none)->
     O0 (A8 P w) callerA (.call (.ref fa) ⟨[.ref a],[]⟩) (λr s'=>r=.ok (.ret (.bool true))/\OldK s₁.heap s'.heap/\s'.os=s₁.os/\AllBare s'.gens) s₁:=by
   intro H hO hPt hS hok hA hK;have base_of:∀{b:A0} {o:Obj},s₁.heap.get? b=some o->H b=none->(hidT s₁.heap H).get? b=some o:=λe n=>Oj e n
   have noA:∀{b:A0} {o:Obj},s₁.heap.get? b=some o->(∀n,o.data≠.seq vs.toArray n)->(∀ps,o.data≠.fields ps)->H b=none:=λ{b o} e d1 d2=>by
    cases q:H b with
    |none=>rfl
    | some u =>
     rcases hA b (by rw[q];simp) with e'|e'
     ·subst e';rw[ha] at e;cases e;exact absurd rfl (d1 _)
     ·subst e';rw[hP] at e;cases e;exact absurd rfl (d2 _)
   have nsK:∀{b:A0} {m:Str->Option A1},s₁.heap.Ns b m->(hidT s₁.heap H).Ns b m:=λ{b m} ⟨o,es,ep,e,d,r⟩=>⟨o,es,ep,base_of e (noA e (λn z=>by rw[d] at z;cases z) (λn z=>by rw[d] at z;cases z)),d,r⟩
   have hKb:K.In (hidT s₁.heap H):=λb o e=>base_of (KX b o e) (by
    cases q:H b with
    |none=>rfl
    | some u =>
     rcases hA b (by rw[q];simp) with e'|e'
     ·subst e';rw[hK (by rw[q];simp)] at e;cases e
     ·subst e'
      rw[hKP] at e;cases e)
   have hM:Mod K mg (hidT s₁.heap H):=⟨hKb,nsK hns,⟨mb,nsK hb,hbb⟩,let ⟨mc,h1,h2⟩:=hlim;⟨mc,nsK h1,h2⟩⟩
   have hC':CodeHd (hidT s₁.heap H) cd Pt:=by
    obtain⟨o,vs',file,tf,flags,tg,inF,text,tt,e1,r1,r2,r3,r4,r5,r6,r7,r8,hne⟩:=hC;refine⟨o,vs',file,tf,flags,tg,inF,text,tt,base_of e1 ?_,r1,r2,r3,r4,r5,r6,r7,r8,hne⟩;cases q:H cd with
    |none=>rfl
    | some u =>
     rcases hA cd (by rw[q];simp) with e'|e'
     ·subst e';rw[ha] at e1;cases e1;have z:M6 "list"=M6 "code":=r1;injection z with z;exact absurd z (by decide)
     ·exact absurd e' hne
   have hB':(hidT s₁.heap H).BuiltinsAt mg Pt:=by
    obtain⟨bm,o,z1,z2,z3,z4,z5,z6,z7,z8⟩:=hB;exact⟨bm,o,z1,z2,z3,z4,base_of z5 (noA z5 (λn z=>by rw[z8] at z;cases z) (λn z=>by rw[z8] at z;cases z)),z6,z7,z8⟩
   have nsy:NS H:=by
    rcases hO L9 with z|⟨o,xs,z⟩|⟨z,_⟩
    ·exact .inl z
    ·exact .inr ⟨o,_,z⟩
    ·exact absurd z hsy
   have e0:Env0 P w K mg (hidT s₁.heap H) callerA [] s₁ H:=⟨rfl,hM,λb o e=>Ol e,Nat.le_of_eq (Oi _ _),trivial,λb hb=>absurd (show b∈([]:List A0) from hb) (by simp),hok,.of_eq hg,nsy⟩;refine Ak ((F _ hKb (nsK hns) hC' hB').run callerA [] s₁ H ⟨[.ref a],[]⟩ [.ref a] [.ref a] _ _ hr e0 (hbind s₁ (.ref a)) (.cons rfl .nil) (hsp H hO hPt hS)) λr s' h=>?_;cases r with
   |error e=>exact(hCX H e s' h).elim
   | ok fl =>
    cases fl with
    |next=>exact e7 h
    |brk=>exact e7 h
    |cont=>exact e7 h
    | ret u =>
     obtain⟨v,H',os,bare,un,hok',r',q⟩:=h;have q':v=.bl true:=q;subst q';obtain rfl:u=Value.bool true:=r'
     have kept:∀b o,b≠Pt->s₁.heap.get? b=some o->s'.heap.get? b=some o:=λb o hb e=>by
      cases q:H b with
      |none=>exact un.keep b o e q (by intro z;exact absurd (show b∈([]:List A0) from z) (by simp)) (by simp)
      | some u =>
       rcases hO b with z|⟨ob,xs,z⟩|⟨z,_⟩
       ·rw[q] at z;cases z
       ·have z2:=un.frzs b ob _ z;obtain⟨e1,_⟩:=hok b _ z;obtain⟨e2,_⟩:=hok' b _ z2;rw[e] at e1;cases e1;exact e2
       ·exact absurd z hb
     obtain⟨more,hm⟩:=un.tbls Pt #[] hPt;have eP:s'.heap.get? Pt=some (tabObj (#[]++more)):=hok' Pt _ hm;refine⟨rfl,⟨λb o e=>?_,λb o e=>?_⟩,os,bare⟩
     ·by_cases hb:b=Pt
      ·subst hb;rw[hP] at e;cases e;exact .inr (.inl ⟨(hC.tab hP).isCodeTable,rfl,#[],more,rfl,eP⟩)
      ·exact .inl (kept b o hb e)
     ·by_cases hb:b=Pt
      ·subst hb;exact⟨_,eP⟩
      ·exact⟨o,kept b o hb e⟩
 have tabOk:∀(H:Hp),J0 P w H s₁.heap Pt (.tbl #[]):=λH=>hP;cases hk:K.lookup a with
 | some o =>
  have e:=KX a o hk;rw[ha] at e;cases e;refine core (λb=>if b=Pt then some (.tbl #[]) else none) (λb=>?_) (jr rfl) (.inr ⟨_,vs.toArray,_,hk,rfl,rfl,rfl,by rw[F9,lenV];exact hl,by simpa using rv⟩) (λb u z=>?_) (λb z=>?_) λz=>absurd (jt haP) z
  ·by_cases hb:b=Pt
   ·exact .inr (.inr ⟨hb,jr hb⟩)
   ·exact .inl (jt hb)
  ·by_cases hb:b=Pt
   ·have z':=(jr hb).symm.trans z;cases z';subst hb;exact tabOk _
   ·have z':=(jt hb).symm.trans z;cases z'
  ·by_cases hb:b=Pt
   ·exact .inr hb
   ·exact absurd (jt hb) z
 | none =>
  refine core (λb=>if b=Pt then some (.tbl #[]) else if b=a then some (.frz { cls:=.type "list",data:=.seq vs.toArray } (.lst (ns.map V.int))) else none) (λb=>?_) (jr rfl) (.inl (.inr ⟨{ cls:=.type "list",data:=.seq vs.toArray },?_⟩)) (λb u z=>?_) (λb z=>?_) λ_=>hk
  ·by_cases hb:b=Pt
   ·exact .inr (.inr ⟨hb,jr hb⟩)
   ·by_cases hb2:b=a
    ·exact .inr (.inl ⟨_,_,by simp only[jt hb,jr hb2];rfl⟩)
    ·exact .inl (by simp only[jt hb,jt hb2])
  ·show(if a=Pt then _ else if a=a then _ else _)=_;rw[jt haP,jr rfl]
  ·have z:(if b=Pt then some (HO.tbl #[]) else if b=a then some (.frz { cls:=.type "list",data:=.seq vs.toArray } (.lst (ns.map V.int))) else none)=some u:=z
   by_cases hb:b=Pt
   ·rw[jr hb] at z;cases z;subst hb;exact tabOk _
   ·rw[jt hb] at z
    by_cases hb2:b=a
    ·rw[jr hb2] at z;cases z;subst hb2;exact⟨ha,by rw[B6];exact hl,vs,_,rv,ha⟩
    ·rw[jt hb2] at z;cases z
  ·by_cases hb:b=Pt
   ·exact .inr hb
   ·by_cases hb2:b=a
    ·exact .inl hb2
    ·exact absurd (show(if b=Pt then _ else if b=a then _ else none)=none by rw[jt hb,jt hb2]) z
structure Fn0C (K:Frag)(mg:Str->Option A1)(x:Str)(st:Stmt)(cd:A0):Prop where
 ex:∃(f:A0) (oc:A1) (od:Option A0) (kV doc pm:A1) (an:Option A0) (ct:A1) (osl:Array (Option A1)),K.lookup f=some ⟨oc,od,.func (fnOf x x (U8 st) (O6 st) (G5 st) .none kV doc pm an (.ref cd) ct),osl⟩/\codeIn K (.ref cd) x=true/\keepIn K (.ref f)=true/\mg x=some (.ref f)
theorem Sa {K:Frag}{h:B7}{mg:Str->Option A1}{x:Str}{st:Stmt}(X:K.In h)(G:h.Ns X1 mg){f cd:A0}{oc:A1}{od an:Option A0}{osl:Array (Option A1)}{kV doc pm ct:A1}
   (a:nsIn K X1 x=some (some (.ref f))) (l:K.lookup f=some ⟨oc,od,.func (fnOf x x (U8 st) (O6 st) (G5 st) .none kV doc pm an (.ref cd) ct),osl⟩)
   (c:codeIn K (.ref cd) x=true) (k:keepIn K (.ref f)=true):Fn0C K mg x st cd:=⟨f,oc,od,kV,doc,pm,an,ct,osl,l,c,k,mg_of X G a⟩
section
variable {P:D2}{w:C9}{K:Frag}{mg:Str->Option A1}{base:B7}
theorem Fn0C.ok {x:Str}{st:Stmt}{cd:A0}{N ps:List Str}{k:Nat}{sp:Sp}(F:Fn0C K mg x st cd)(S:U7 N ps (G5 st))(len:∀vs H Q E,sp vs H Q E->vs.length=ps.length)
   (bd:∀(kV doc pm:A1) (an:Option A0) (jn ct:A1) (us:List A1),us.length=ps.length->Y1 (fnOf x x (U8 st) (O6 st) (G5 st) .none kV doc pm an jn ct) ⟨us,[]⟩=pure (ps.zip us))
   (hbody:∀(f:A0) (A:D8) (outer:List Env) (s:A6) (H:Hp) (vs:List V) (Q:VK) (E:XK),Room k (A.deeper (envOfC x (G5 st) s.heap.objs.size f (.ref cd)))->sp vs H Q E->
     ∃t,PSs (cxOf CX0 P w K mg base N x (G5 st) f (.ref cd) A outer s H E).nox (O6 st) t/\t { nx:=λ_ H'=>Q .non H',rt:=Q } (start N vs) H):Kn P w K mg base x (k+1) ps sp:=by
 obtain⟨f,oc,od,kV,doc,pm,an,ct,osl,l,hcd,kp,m⟩:=F.ex;refine⟨f,_,fn_of l hcd S len λA outer s H vs Q E hr hsp=>?_,.all (bd kV doc pm an (.ref cd) ct),kp,m,oc,od,osl,l⟩;obtain⟨t,h,q⟩:=hbody f A outer s H vs Q E hr hsp;exact⟨t,h.nox,q⟩
end
def Fp (K:Frag)(Pt:A0):Sp:=λvs H Q _=>∃(a:A0) (ns:List Int),vs=[.ref a]/\SqL K H a (ns.map V.int)/\ns.length<=63/\Ij Pt H/\H Pt=some (.tbl #[])/\∀H',Q (.bl true) H'
theorem Sc {l:OpenLaw}{q:D2}{loose:List Str}{XP:(Str->Option A1)->B7->Prop}{d:DefRec}{K:Params->Frag}{as:List A0}{e:∀P,as=(K P).map (·.1)}{Pt:A0}{x:Str}{k:Nat}(hn:l.most=some 63)(hdf:d.params.defaults=[])(hk:Room k callerA)(hsy:L9≠Pt)
   (F:∀(w:C9) (mg:Str->Option A1) (h:B7),(K w.params).In h->h.Ns X1 mg->∃st x' st',Fn0 (K w.params) mg d.name st/\(∃cd,Fn0C (K w.params) mg x' st' cd/\codeHdIn (K w.params) cd Pt=true)/\(K w.params).lookup Pt=none/\
     (∀(kV doc pm:A1) (an:Option A0) (jn ct:A1) (s:A6) (u:A1),BindsTo s (fnOf d.name d.name (U8 st) (O6 st) (G5 st) .none kV doc pm an jn ct) ⟨[u],[]⟩ [(x,u)])/\
     ∀cd,Fn0C (K w.params) mg x' st' cd->∀base:B7,(K w.params).In base->base.Ns X1 mg->CodeHd base cd Pt->base.BuiltinsAt mg Pt->Kn l.prog w (K w.params) mg base d.name k [x] (Fp (K w.params) Pt)) :
   WalkO q loose XP (kmHook K as e [Pt]).says l.row.toRowW d [] (λf vs=>PySem.call f vs):=by
 refine Att.attach_call hn hdf λw s₀ s₁ mg mb fa o pm jn doc a vs ns G Y ho hd hcd hmg hobj hints hlen hg=>?_;have KX:=km_in_of Y;have hP:=km_tabs_of Y Pt C8;obtain⟨st,x',st',F0,⟨cd,fC,hhd⟩,hKP,hb,hF⟩:=F w mg _ KX G.T.g;obtain⟨f,fd,F1,m⟩:=F0.ex;have e:=hmg.symm.trans m;cases e;have hC:=codeHd_of_K KX hhd
 have hB:s₁.heap.BuiltinsAt mg Pt:=by
  obtain⟨bm,ob,b1,b2,b3,b4,b5,b6⟩:=G.T.bmain;refine⟨bm,ob,b1,b2,λq=>?_,λq=>?_,b3,b4,b5,b6⟩
  ·obtain⟨o,es,ep,e,hd,_⟩:=G.T.g;rw[q,e] at b3;cases b3;rw[hd] at b6;cases b6
  ·rw[q,hP] at b3;cases b3;cases b4
 refine R_ (x:=x) (CX:=CX0) (sp:=Fp (K w.params) Pt) (fd:=fd) KX G.T.g G.T.b G.T.builtins G.T.nolimit hg hobj hints (N6 hlen (by decide)) hk hP hC hB hKP hsy (λbase kb nb c1 c2=>?_) (λs u=>?_) (λH hO hPt hS=>⟨a,ns,rfl,hS,hlen,hO,hPt,λ_=>rfl⟩) λ_ _ _ z=>z
 ·obtain⟨f',fd',a',b',c',m',oc',od',osl',lk'⟩:=(hF cd fC base kb nb c1 c2).ex;have e:=m.symm.trans m';cases e;obtain⟨oc,od,kV,doc,pm,an,jn,ct,osl,_,lk,hcd⟩:=F1.ex;have e2:=lk.symm.trans lk';cases e2;exact a'
 ·obtain⟨oc,od,kV,doc,pm,an,jn,ct,osl,rfl,lk,hcd⟩:=F1.ex;exact hb kV doc pm an jn ct s u
end L2
namespace Pu
open PySem PySem.W PySem.Spec L2
section
variable {P:D2}{w:C9}{K:A9}{mg:Str->Option A1}{base:B7}{T:PotK}{Pt:A0}{lpos:Pos}{qual:Str}
theorem fn_okC {x:Str}{st:Stmt}{cd:A0}{N ps:List Str}{k:Nat}{body:pS}(F0:Fn0C K mg x st cd)(sc:U7 N ps (G5 st))
   (bd:∀(kV doc pm:A1) (an:Option A0) (jn ct:A1) (us:List A1),us.length=ps.length->Y1 (X3 x x (U8 st) (O6 st) (G5 st) .none kV doc pm an jn ct) ⟨us,[]⟩=pure (ps.zip us))
   (h:∀(f:A0) (A:D8) (outer:List PySem.Env) (s:A6) (H:Hp) (E:XK),Room k (A.deeper (Es x (G5 st) s.heap.objs.size f (.ref cd)))->
     QSs T false K (λ_:Unit=>(cxOf CX0 P w K mg base N x (G5 st) f (.ref cd) A outer s H E).nox) (O6 st) body) :
   Kn P w K mg base x (k+1) ps (E5 K T (fnP N ps body)):=by
 refine F0.ok sc (λvs H Q E h=>?_) bd (λf A outer s H vs Q E hr hsp=>?_)
 ·obtain⟨G,xs,n,R,_,_,_,r,hf,_⟩:=h;rw[<- r.length];exact hf.1
 ·obtain⟨t,h1,h2⟩:=h f A outer s H E hr;obtain⟨G,xs,n,R,hp,hm,hh,r,hf,k'⟩:=hsp;refine⟨t,h1 (),?_⟩;have S0:=Ht (N:=N) (np:=false) hp hm hh r
  have fin:∀(x:PV) (n':Nat) (v:V) (G':Gh) (σ:St) (H':Hp) (env:Env),R x n'->SR ⟨K,T,G.M,G.pots,H,false⟩ G' σ H' env n'->Rep K ⟨G.M,G'.pots⟩ H' x v->Q v H':=by
   intro x n' v G' σ H' env rr S' rv
   have ep:G'.pots=G.pots:=by
    obtain⟨l,el,hl⟩:=S'.pre;rcases hl with hl|hl
    ·rw[el,hl,Y6]
    ·cases hl
   rw[ep] at rv;exact k' _ _ _ _ rr rv (λp hp'=>T.more (S'.pots p (by rw[ep];exact hp')).2 λa ha=>.inl (S'.sup a ha)) S'.frame
  refine h2 _ G _ H _ n _ _ rfl rfl rfl S0 hf.2 ⟨λenv n' G' σ H' q S' _=>?_,λx n' v G' σ H' env q S' rv _=>fin x n' v G' σ H' env q S' rv,λ_ _ _ _ _ q=>q.elim,λ_ _ _ _ _ q=>q.elim⟩;exact fin .non n' .non G' σ H' env q S' rfl
theorem Se {x:Str}{st:Stmt}{N:List Str}{y:Str}{k:Nat}{body:pS}(F0:Fn0 K mg x st)(sc:U7 N [y] (G5 st))
   (bd:∀(kV doc pm:A1) (an:Option A0) (jn ct:A1) (us:List A1),us.length=[y].length->Y1 (X3 x x (U8 st) (O6 st) (G5 st) .none kV doc pm an jn ct) ⟨us,[]⟩=pure ([y].zip us))
   (h:∀(f:A0) (jn:A1) (A:D8) (outer:List PySem.Env) (s:A6) (H:Hp) (E:XK),Room k (A.deeper (Es x (G5 st) s.heap.objs.size f jn))->
     QSs (tabK T Pt lpos qual) true K (λ_:Unit=>(cxOf CX0 P w K mg base N x (G5 st) f jn A outer s H E).nox) (O6 st) body)
   (hlaw:∀ns:List Int,ns.length<=63->body ⟨λ_ _=>False,λr _=>r=.bl true,λ_ _=>False,λ_ _=>False⟩ (y8 N [.scr ns]) 0) :
   Kn P w K mg base x (k+1) [y] (Fp K Pt):=by
 refine F0.ok sc (λvs H Q E h=>?_) bd (λf jn A outer s H vs Q E hr hsp=>?_)
 ·obtain⟨a,ns,rfl,_⟩:=h
  rfl
 ·obtain⟨t,h1,h2⟩:=h f jn A outer s H E hr;obtain⟨a,ns,rfl,hS,hl,hO,hPt,q⟩:=hsp;refine⟨t,h1 (),?_⟩
  let G:Gh:=⟨[Pt],[Pt]⟩
  have r:Reps K G H [.scr ns] [.ref a]:=by
   refine .one ⟨a,rfl,?_⟩;rcases hS with(hS|⟨o,hS⟩)|hS
   ·rcases hO a with z|⟨o,xs,z⟩|⟨_,z⟩
    ·rw[z] at hS;cases hS
    ·rw[z] at hS;cases hS
    ·rw[z] at hS;cases hS
   ·refine .inl ⟨λz=>?_,o,hS⟩;rw[J6.mp (show a∈[Pt] from z),hPt] at hS;cases hS
   ·exact .inr hS
  have S0:=Ht (T:=tabK T Pt lpos qual) (N:=N) (np:=true) (n:=0) (G:=G) (λp hp=>by
      rw[J6.mp (show p∈[Pt] from hp)];exact⟨C8,.inr ⟨rfl,#[],hPt,trivial,.inl rfl⟩⟩) (λa ha=>by
      rw[J6.mp (show a∈[Pt] from ha)]
      exact⟨_,hPt,trivial⟩) ⟨[],rfl,by simp⟩ r
  refine h2 _ G _ H _ 0 _ _ rfl rfl rfl S0 (hlaw ns hl) ⟨λ_ _ _ _ _ q=>q.elim,λx n' v G' σ H' env qq S' rv _=>?_,λ_ _ _ _ _ q=>q.elim,λ_ _ _ _ _ q=>q.elim⟩;subst qq;obtain rfl:v=.bl true:=rv;exact q H'
end
end Pu
namespace L2
open PySem PySem.W PySem.Spec PyProof.Rows
theorem Sf {X:Cx}{k:Nat}{scope:J7}{N:List Str}{qual:Str}{f c':A0}{cl:List (Str×A0)}{s:A6}{H:Hp}(hr:Room (k+3) X.A):Room k (BV X scope N qual f c' cl s H).A:=((hr.in1).in1).deeper _
theorem Sg {scope:J7}{x y:Str}(kind:scope.kind=.function)(co:scope.isCoroutine=false)(gen:scope.isGenerator=false)(hx:scope.names.lookup x=some .local)(hy:scope.names.lookup y=some .free)
   (fr:(scope.names.filter λz=>z.2 == .free).map (·.1)=[y]) (nc:∀z∈scope.names,z.2≠.cell) (ne:(y == x)=false):DC scope x y:=by
 refine⟨kind,co,gen,hx,hy,λz hz=>?_,nc,ne⟩;have h1:z∈(scope.names.filter λz=>z.2 == .free).map (·.1):=J1.mpr ⟨(z,.free),Q8.mpr ⟨k9 hz,rfl⟩,rfl⟩;rw[fr] at h1;exact J6.mp h1
abbrev ptOf {h:B7}{c P:A0}(_:PySem.W.CodeHd h c P):A0:=P
end L2
end
section
namespace Pu
open PySem PySem.Spec L2
section
variable {T:PotK}{np:Bool}{ι:Type}{K:A9}{F:ι->Cx}{a b ea eb:Expr}{st:Stmt}{pos:Pos}{pa pb pi pj:pE}
theorem LF (K:A9)(hc:X.calm=true)(h1:GW X x gx)(h2:GW X y gy)(hn:(K5 [x,y] X.env).length=2:=by rfl)(hst:(K5 [x,y] X.env).findIdx? (·.1)=none:=by rfl)
   (hs:(K5 [x,y] X.env).map (·.2)=assign x X.env::(K5 [y] X.env).map (·.2):=by rfl) (hs2:(K5 [y] X.env).map (·.2)=assign y X.env::(K5 [] X.env).map (·.2):=by rfl) (hK:X.K=K:=by rfl) :
   GW X (.Tuple [x,y] k pos) (gTup K 2 (Z2 gx (Z2 gy gNil))):=⟨hK▸GA hc (CP h1.h (CP h2.h Gz hs2) hs) hn hst⟩
def Fq (i:Nat)(pa pb pi pj:pE):pS:=λD env n=>pa env n λx jc n1=>pb jc n1 λy jd n2=>(∃xs,jd[i]?=some (some (.ow .lst xs)))/\gAt i pi x jd n2 λje n3=>gAt i pj y je n3 D.nx
theorem LG (i:Nat){tg:Expr}{k:Nat}{p:Pos}(h:∀z te g,EW (F z) (.Tuple [a,b] k p) te->GW (F z) tg g->SW (F z) st (tAsg te g))(hg:∀z ti tj,EW (F z) ea ti->EW (F z) eb tj->GW (F z) tg (gTup K 2 (Z2 (gSub (tVar i) ti CU) (Z2 (gSub (tVar i) tj CU) gNil))))(h1:QE T K F a pa)(h2:QE T K F b pb)(h3:QE T K F ea pi)(h4:QE T K F eb pj)(n1:F7 a=true:=by rfl)(n2:F7 b=true:=by rfl):QS T np K F st (Fq i pa pb pi pj):=by
 obtain⟨t,a1,a2⟩:=h1;obtain⟨u,b1,b2⟩:=h2;obtain⟨ti,i1,i2⟩:=h3;obtain⟨tj,j1,j2⟩:=h4;refine⟨_,λz=>(h z _ _ ⟨GF (G4 (a1 z) (G4 (b1 z) K3 (D7 n2)) (D7 n1))⟩ (hg z _ _ ⟨i1 z⟩ ⟨j1 z⟩)).h,λC G σ H env n PD D hK hT hn S hp L=>?_⟩;refine a2 C G σ H env n _ _ hK hT S hp λx jc n1 v H1 q1 S1 r1 f1=>?_;refine b2 C G σ H1 jc n1 _ _ hK hT S1 q1 λy jd n2 w H2 q2 S2 r2 f2=>?_;obtain⟨⟨xs0,e0⟩,q2⟩:=q2;refine⟨by show 2<=C2;decide,λp hn'=>⟨p,[v,w],rfl,SqT.of D9,rfl,v,[w],rfl,?_⟩⟩;have sm:Same H2 (upd H2 p (.tup [v,w])):=Same.lay1 hn';generalize upd H2 p (.tup [v,w])=H3 at sm ⊢;have S3:=S2.same sm;obtain⟨a,vs,ev,h1,h2,h3,h4,r⟩:=S3.slots i _ e0;refine⟨.ref a,ev,?_⟩;refine i2 C G σ H3 jd n2 _ _ hK hT S3 q2 λd je n3 ud H4 q3 S4 r4 f4=>?_
 split at q3
 ·rename_i xs d ex
  split at q3
  ·rename_i jj ej;obtain⟨a',us,ev',g1,g2,g3,g4,r'⟩:=S4.slots i _ ex;rw[ev] at ev';cases ev';subst hK;obtain⟨S5,f5⟩:=S4.put ex ev (r'.set jj (((r1.fr f2).same sm).fr f4));refine⟨a,us,d,jj,rfl,r4,g4,by rw[<- r'.length];exact ej,?_⟩;refine⟨w,[],rfl,.ref a,ev,?_⟩;refine j2 C G σ _ _ n3 _ _ rfl hT S5 q3 λd2 env5 n5 ud2 H5 q5 S6 r6 f6=>?_
   split at q5
   ·rename_i xs2 d2 ex2
    split at q5
    ·rename_i jj2 ej2;obtain⟨a',us2,ev',k1,k2,k3,k4,r7⟩:=S6.slots i _ ex2;rw[ev] at ev';cases ev';obtain⟨S7,f7⟩:=S6.put ex2 ev (r7.set jj2 ((((r2.same sm).fr f4).fr f5).fr f6));exact⟨a,us2,d2,jj2,rfl,r6,k4,by rw[<- r7.length];exact ej2,rfl,L.nx _ _ _ _ _ q5 S7 (Ext.fr ((((((f1.trans f2).trans (Fr.of sm)).trans f4).trans f5).trans f6).trans f7))⟩
    ·grind
   ·grind
  ·grind
 grind
end
end Pu
end
section
namespace Pu
open PySem L2
theorem LH (zs:List Int)(d:Nat):(zs.map PV.int).all (cmpb d)=true:=by
 rw[List.all_map,N0];intro x _;cases d <;> rfl
theorem BZ {tt:pT}{rest:Pu.Env}{α:Type}(f:α->PV)(c:α->Bool):∀(xs:List α) (s0:Option Slot) (n:Nat) (R:List PV->Nat->Prop),(∀x∈xs,∀m Q,Q (c x) (some (.v (f x))::rest) m->tt (some (.v (f x))::rest) m Q)->R ((xs.filter c).map f) n->W5 (gN 0) tt (qV 0) (xs.map f) (s0::rest) n R
 |[],_,_,_,_,h=>h
 | x :: xs, s0, n, R, ht, h => by
  show tt (some (.v (f x))::rest) n _;refine ht x C8 n _ ?_
  by_cases hc:c x=true
  ·rw[jr hc];rw[Eg,jr hc] at h;show W5 (gN 0) tt (qV 0) (xs.map f) (some (.v (f x))::rest) n _;exact BZ f c xs _ n _ (λy hy=>ht y (C5 _ hy)) h
  ·rw[jt hc];rw[Eg,jt hc] at h;exact BZ f c xs _ n _ (λy hy=>ht y (C5 _ hy)) h
end Pu
end
section
namespace Pu
open PySem PySem.Spec L2
def lt (f t:Int)(k:Nat):Nat:=97+((f+(k:Int)*t)%26).toNat
def AU:List Int:=[1,3,5,7,9,11,15,17,19,21,23,25]
theorem lt_ne (ht:t∈AU)(f0:0<=f)(hjk:j<k)(hk:k<26):lt f t j≠lt f t k:=λh=>by
 have inv:∀t∈AU,∃u∈AU,t*u=26*(t*u/26)+1:=by decide
 obtain⟨u,_,hu⟩:=inv t ht;have e:(f+(j:Int)*t)%26=(f+(k:Int)*t)%26:=by unfold lt at h;omega
 have d:(26:Int) ∣ ((k:Int)-j)*t:=by
  have:=Int.dvd_of_emod_eq_zero (Int.emod_eq_emod_iff_emod_sub_eq_zero.mp e.symm);rw[show f+(k:Int)*t-(f+(j:Int)*t)=((k:Int)-j)*t by rw[Int.sub_mul];omega] at this;exact this
 have d2:(26:Int) ∣ ((k:Int)-j)*t*u:=Int.dvd_trans d (Int.dvd_mul_right _ _);rw[Int.mul_assoc,hu,Int.mul_add,Int.mul_one,<- Int.mul_assoc,Int.mul_comm _ 26,Int.mul_assoc] at d2;have d3:(26:Int) ∣ (k:Int)-j:=(Int.dvd_add_right (Int.dvd_mul_right _ _)).mp d2;omega
theorem lt_ltr:Ltr (lt f t k):=by
 unfold lt Ltr;have:=Br (f+(k:Int)*t) (show(26:Int)≠0 by decide);have:=Bq (f+(k:Int)*t) (show(0:Int)<26 by decide);omega
theorem lt_at {k:Nat}:atI LETS.cps.toList ((f+(k:Int)*t)%26)=some (lt f t k):=
 KZ (Br _ (by decide)) (Bq _ (by decide))
theorem Sh (ht:t∈AU):-(2 ^ 64)<t/\t<2 ^ 64:=by
 simp only[AU,C3,P9,or_false] at ht;rcases ht with rfl|rfl|rfl|rfl|rfl|rfl|rfl|rfl|rfl|rfl|rfl|rfl <;> decide
def LsE (m:Nat)(z:Str):Prop:=z.cps.toList.length=m/\∀c∈z.cps.toList,Ltr c
theorem LsE.more (h:LsE m z)(hc:Ltr c):LsE (m+1) (z++⟨#[c]⟩):=by
 refine⟨by rw[CY,E7,h.1];rfl,λd hd=>?_⟩;rw[CY] at hd;rcases K9.mp hd with hd|hd
 ·exact h.2 d hd
 ·have:d=c:=by simpa using hd
  rw[this];exact hc
theorem Si (x:Str)(h:a<=b)(hb:b<=x.length):(V7 x (some (a:Int)) (some (b:Int))).cps.toList=(x.cps.toList.drop a).take (b-a):=by
 rw[KW,StrLaws.sliceText_nat x h hb]
theorem Sj {a b c:Nat}(hx:LsE 7 x)(ha:a<=b)(hb:b<=7)(hc:Ltr c) :
   O8 (V7 x none (some (a:Int))++⟨#[c]⟩++V7 x (some (a:Int)) (some (b:Int)))/\(V7 x none (some (a:Int))++⟨#[c]⟩++V7 x (some (a:Int)) (some (b:Int))).cps.toList[a]?=some c:=by
 have lx:x.length=7:=by rw[AF];exact hx.1
 have e:(V7 x none (some (a:Int))++⟨#[c]⟩++V7 x (some (a:Int)) (some (b:Int))).cps.toList=x.cps.toList.take a++c::(x.cps.toList.drop a).take (b-a):=by
  rw[CY,CY,Qz x (by omega),Si x ha (by omega)];simp
 have lt:(x.cps.toList.take a).length=a:=by rw[T5,hx.1];omega
 have hl:(x.cps.toList.take a++c::(x.cps.toList.drop a).take (b-a)).length=b+1:=by
  rw[E7,E8,lt,T5,X5,hx.1];omega
 refine⟨⟨by rw[e];omega,by rw[e,hl];omega,λd hd=>?_⟩,?_⟩
 ·rw[e] at hd;rcases K9.mp hd with hd|hd
  ·exact hx.2 d (Cq hd)
  ·rcases C3.mp hd with hd|hd
   ·rw[hd];exact hc
   ·exact hx.2 d (Gk (Cq hd))
 ·rw[e,V5 (by omega),lt,Bn];rfl
structure NmA (f t:Int)(a:Nat)(zs:List Str)(i:Nat):Prop where
 len:zs.length=i
 nd:zs.Nodup
 own:∀(j:Nat) (z:Str),zs[j]?=some z->z.cps.toList[a]?=some (lt f t j)
 bt:∀z∈zs,O8 z
theorem NmA.more (h:NmA f t a zs i)(ht:t∈AU)(f0:0<=f)(hi:i<26)(hz:O8 z)(hc:z.cps.toList[a]?=some (lt f t i)):NmA f t a (zs++[z]) (i+1):=by
 refine⟨by rw[E7,h.len];rfl,?_,λj y e=>?_,λy hy=>?_⟩
 ·rw[Cv];refine⟨h.nd,by simp,λx hx y hy e=>?_⟩;rw[J6.mp hy] at e;obtain⟨j,hj,ej⟩:=Gm.mp hx;have:=h.own j x (by rw[D4 hj,ej]);rw[e,hc] at this;exact lt_ne ht f0 (show j<i by rw[<- h.len];exact hj) hi (P0 this).symm
 ·by_cases c:j<zs.length
  ·rw[Y3 c] at e;exact h.own j y e
  ·have hl:=h.len
   have:j=i:=by
    obtain⟨hh,_⟩:=J5.mp e;rw[E7,T4] at hh;omega
   subst this;rw[V5 (by omega),hl,Bn] at e;have e':z=y:=by simpa using e
   rw[<- e'];exact hc
 ·rcases K9.mp hy with hy|hy
  ·exact h.bt y hy
  ·rw[J6.mp hy];exact hz
theorem Fs {zs:List Str}:memP (.str z) (zs.map PV.str)=decide (z∈zs):=by
 unfold memP;rw[List.any_map,d8,Bf,decide_eq_true_iff];constructor
 ·rintro⟨y,hy,e⟩;have e':decide (y=z)=true:=by rw[<- Dq];exact e
  rw[<- ju e'];exact hy
 ·intro h;refine⟨z,h,?_⟩;show eqP (.str z) (.str z)=true;rw[Dq];exact jp rfl
theorem Ft (zs:List Str)(d:Nat):(zs.map PV.str).all (cmpb d)=true:=by
 rw[List.all_map,N0];intro x _;cases d <;> rfl
theorem Fu {zs:List Str}(hP:zs.map PV.str=P)(h:R (.bl (decide (z∈zs)))):wIn 4 false (.str z) (.tup P) R:=by
 subst hP;exact⟨rfl,Ft zs 4,by rw[Fs];exact h⟩
theorem DG {zs:List Str}(hP:zs.map PV.str=P)(h:R (.bl (!decide (z∈zs)))):wIn 4 true (.str z) (.tup P) R:=by
 subst hP;exact⟨rfl,Ft zs 4,by rw[Fs];exact h⟩
theorem LI {zs:List Str}(hP:zs.map PV.str=P)(h:R (.bl (decide (z∈zs)))):wIn 4 false (.str z) (.lst P) R:=by
 subst hP;exact⟨rfl,Ft zs 4,by rw[Fs];exact h⟩
theorem Ik {zs:List Str}(hP:zs.map PV.str=P)(h:R (.bl (!decide (z∈zs)))):wIn 4 true (.str z) (.lst P) R:=by
 subst hP;exact⟨rfl,Ft zs 4,by rw[Fs];exact h⟩
def RowS (zs:List Str):Prop:=zs.Nodup/\∀z∈zs,O8 z
abbrev rowP (zs:List Str):PV:=.tup (zs.map PV.str)
inductive Ev where
 |d (x:Str)|t (x y:Str)
abbrev DROP:Str:=A5 "drop"
abbrev L7:Str:=A5 "touch"
def evK:Ev->List Key
 |.d x=>[.inr DROP,.inr x]
 |.t x y=>[.inr L7,.inr x,.inr y]
def evP (e:Ev):PV:=tupP (evK e)
theorem k7 (x:Str):evP (.d x)=.tup [.str DROP,.str x]:=rfl
theorem N9 (x y:Str):evP (.t x y)=.tup [.str L7,.str x,.str y]:=rfl
def shP (es:List Ev):PV:=.tup (es.map evP)
def dayP (ds:List (List Ev)):PV:=.tup (ds.map shP)
theorem ev_al (a b:Ev):Al (evK a) (evK b):=by grind [Al,Ev,evK]
theorem ev_ne (e:Ev):evK e≠[]:=by cases e <;> simp[evK]
theorem Il (es:List Ev):∀ys:List PV,(∀y∈ys,y∈es.map evP)->∃es':List Ev,ys=es'.map evP/\∀e∈es',e∈es
 |[],_=>⟨[],rfl,λ_ z=>nomatch z⟩
 | y :: ys, h => by
  obtain⟨e,he,rfl⟩:=J1.mp (h y C8);obtain⟨es',rfl,h2⟩:=Il es ys λz hz=>h z (C5 _ hz);exact⟨e::es',rfl,λz hz=>(C3.mp hz).elim (λe'=>e'▸he) (h2 z)⟩
theorem Sk (es:List Ev):Ia (es.map evP):=by
 refine .inr (.inr ⟨λx hx=>?_,λx hx y hy=>?_⟩)
 ·obtain⟨e,_,rfl⟩:=J1.mp hx;exact⟨evK e,rfl,ev_ne e⟩
 ·obtain⟨e,_,rfl⟩:=J1.mp hx;obtain⟨e',_,rfl⟩:=J1.mp hy;unfold evP tupP;rw[k5,k5];exact ev_al e e'
theorem Sl (h:Srt ys (es.map evP)):∃es':List Ev,ys=es'.map evP/\es'.Perm es:=by
 obtain⟨es',rfl,_⟩:=Il es ys λy hy=>h.1.mem_iff.mp hy;refine⟨es',rfl,?_⟩;have:=h.1;clear h
 have inj:∀{a b:List Ev},(a.map evP).Perm (b.map evP)->a.Perm b:=by
  intro a b p;have h1:=p.map λy=>(match y with|.tup [_,.str x]=>Ev.d x|.tup [_,.str x,.str y]=>Ev.t x y|_=>Ev.d (A5 ""));rw[U6,U6] at h1
  have e:((λy=>(match y with|PV.tup [_,.str x]=>Ev.d x|.tup [_,.str x,.str y]=>Ev.t x y|_=>Ev.d (A5 "")))∘evP)=id:=by
   funext e
   cases e <;> rfl
  rw[e,List.map_id,List.map_id] at h1;exact h1
 exact inj this
def evB:Ev->List Str
 |.d x=>[x]
 |.t x y=>[x,y]
theorem Im {es es':List Ev}(h:es'.Perm es):(es'.flatMap evB).Perm (es.flatMap evB):=h.flatMap_right evB
theorem Io {zs:List Str}(nd:zs.Nodup){i j:Nat}(h1:zs[i]?=some z)(h2:zs[j]?=some z):i=j:=by
 obtain⟨l1,e1⟩:=J5.mp h1;obtain⟨l2,e2⟩:=J5.mp h2;rcases o8 i j with h|h|h
 ·exact absurd (e1.trans e2.symm) (V6.mp nd i j l1 l2 h)
 ·exact h
 ·exact absurd (e2.trans e1.symm) (V6.mp nd j i l2 l1 h)
def ixS (zs:List Str)(z:Str):Nat:=zs.findIdx λy=>decide (y=z)
theorem Z6 (h:z∈zs):zs[ixS zs z]?=some z/\∀i,i<ixS zs z->zs[i]?≠some z:=by
 unfold ixS;have hl:zs.findIdx (λy=>decide (y=z))<zs.length:=List.findIdx_lt_length_of_exists ⟨z,h,by simp⟩;refine⟨?_,λi hi e=>?_⟩
 ·rw[D4 hl];have:=List.findIdx_getElem (w:=hl);rw[ju this]
 ·have:=List.not_of_lt_findIdx hi;obtain⟨l1,e1⟩:=J5.mp e;rw[e1] at this;simp at this
theorem P6 (h:z∈zs):ixS zs z<zs.length:=(J5.mp (Z6 h).1).1
theorem m_ix (hP:zs.map PV.str=P)(h:z∈zs)(hl:zs.length<=1000000)(q:R (.int (ixS zs z))):k6 (.tup P) (.str z) R:=by
 subst hP;unfold k6;dsimp only;rw[Dn];exact⟨hl,ixS zs z,(Z6 h).1,(Z6 h).2,q⟩
end Pu
end
section
namespace Pu
open PySem PySem.Spec L2
inductive Mk where
 |d|o|t|u
 deriving DecidableEq
def mkS:Mk->Str
 |.d=>A5 "d"
 |.o=>A5 "o"
 |.t=>A5 "t"
 |.u=>A5 "u"
def mkP (m:Mk):PV:=.str (mkS m)
theorem mk_t (m:Mk):decide (mkS m=A5 "t")=decide (m=.t):=by cases m <;> decide +kernel
theorem mk_u (m:Mk):decide (mkS m=A5 "u")=decide (m=.u):=by cases m <;> decide +kernel
theorem mk_d (m:Mk):decide (mkS m=A5 "d")=decide (m=.d):=by cases m <;> decide +kernel
def run (r:Int):Nat->List Nat->List Mk->Option (List Nat)
 |_,st,[]=>some st
 |k,st,.t::m=>run r (k+1) (k::st) m
 |k,st,.d::m=>run r (k+1) st m
 |k,[],.o::m=>run r (k+1) [] m
 |_,_::_,.o::_=>none
 |_,[],.u::_=>none
 |k,p::st,.u::m=>if(k:Int)-p-1<=r then run r (k+1) st m else none
theorem u6:∀(a:List Mk) (k:Nat) (st:List Nat) (b:List Mk),run r k st (a++b)=(run r k st a).bind λst'=>run r (k+a.length) st' b
 |[],k,st,b=>rfl
 | .t :: a, k, st, b => by
  rw[o5];show run r (k+1) (k::st) (a++b)=(run r (k+1) (k::st) a).bind _;rw[u6 a,E8,show k+1+a.length=k+(a.length+1) by omega]
 | .d :: a, k, st, b => by
  rw[o5];show run r (k+1) st (a++b)=(run r (k+1) st a).bind _;rw[u6 a,E8,show k+1+a.length=k+(a.length+1) by omega]
 | .o :: a, k, [], b => by
  rw[o5];show run r (k+1) [] (a++b)=(run r (k+1) [] a).bind _;rw[u6 a,E8,show k+1+a.length=k+(a.length+1) by omega]
 |.o::a,k,p::st,b=>rfl
 |.u::a,k,[],b=>rfl
 | .u :: a, k, p :: st, b => by
  rw[o5];show(if(k:Int)-p-1<=r then run r (k+1) st (a++b) else none)=(if(k:Int)-p-1<=r then run r (k+1) st a else none).bind _
  split
  ·rw[u6 a,E8,show k+1+a.length=k+(a.length+1) by omega]
  ·rfl
def Cl (r:Int)(k:Nat)(m:List Mk):Prop:=∀st,run r k st m=some st
theorem Cl.app (h1:Cl r k a)(h2:Cl r (k+a.length) b):Cl r k (a++b):=λst=>by rw[u6,h1 st];exact h2 st
theorem Cl.nil:Cl r k []:=λ_=>rfl
theorem Cl.d (h:Cl r (k+1) m):Cl r k (.d::m):=λst=>h st
theorem Cl.tu (h:Cl r (k+1) m)(hl:(m.length:Int)<=r):Cl r k (.t::m++[.u]):=λst=>by
 show run r (k+1) (k::st) (m++[.u])=some st;rw[u6,h (k::st)];show(if((k+1+m.length:Nat):Int)-k-1<=r then some st else none)=some st;rw[jr (by omega)]
def Seg (r:Int):List Nat->List Mk->Prop
 |[],m=>run r 0 [] m=some []
 |p::ps,m=>∃m1 m2,m=m1++.d::m2/\m1.length=p/\Cl r (p+1) m2/\Seg r ps m1
theorem Seg.app {r:Int}:∀{ps:List Nat} {m b:List Mk},Seg r ps m->Cl r m.length b->Seg r ps (m++b)
 | [], m, b, h, hb => by
  show run r 0 [] (m++b)=some [];rw[u6,show run r 0 [] m=some [] from h,J3];exact hb []
 | p :: ps, m, b, h, hb => by
  obtain⟨m1,m2,rfl,e,h2,h3⟩:=h;refine⟨m1,m2++b,by simp,e,h2.app ?_,h3⟩;rw[E7,E8,e] at hb;rw[show p+1+m2.length=p+(m2.length+1) by omega];exact hb
theorem Seg.wrd:∀{ps:List Nat} {m:List Mk},Seg r ps m->run r 0 [] m=some []
 |[],m,h=>h
 | p :: ps, m, h => by
  obtain⟨m1,m2,rfl,e,h2,h3⟩:=h;rw[u6,Seg.wrd h3,J3,e];exact h2 []
theorem Seg.len {r:Int}:∀{ps:List Nat} {m:List Mk},Seg r ps m->ps.length<=m.length:=by intro a;induction a <;> intros <;> grind [Mk,Seg]
theorem Seg.push (h:Seg r ps m):Seg r (m.length::ps) (m++[.d]):=⟨m,[],rfl,rfl,.nil,h⟩
theorem Seg.over (h:Seg r [] m):Seg r [] (m++[.o]):=by
 show run r 0 [] (m++[.o])=some [];rw[u6,show run r 0 [] m=some [] from h]
 rfl
theorem Seg.drop (h:Seg r ps m):Seg r ps (m++[.d]):=h.app (Cl.d .nil)
theorem Seg.popd (h:Seg r (p::ps) m):p<m.length/\m.set p .d=m/\Seg r ps m:=by
 obtain⟨m1,m2,rfl,rfl,h2,h3⟩:=h;refine⟨by simp,by simp,h3.app (Cl.d h2)⟩
theorem Seg.popt {r:Int}{p:Nat}{ps:List Nat}{m:List Mk}(h:Seg r (p::ps) m)(hr:(m.length:Int)-p-1<=r):p<m.length/\Seg r ps (m.set p .t++[.u]):=by
 obtain⟨m1,m2,rfl,rfl,h2,h3⟩:=h;refine⟨by simp,?_⟩;have e:(m1++Mk.d::m2).set m1.length .t++[.u]=m1++(.t::m2++[.u]):=by simp
 rw[e];refine h3.app (Cl.tu h2 ?_)
 grind
inductive PE where
 |d (i:Nat)|t (i j:Nat)
def peB:PE->List Nat
 |.d i=>[i]
 |.t i j=>[i,j]
def shE:Nat->List Nat->List Mk->List PE
 |_,_,[]=>[]
 |k,st,.t::m=>shE (k+1) (k::st) m
 |k,st,.d::m=>.d k::shE (k+1) st m
 |k,st,.o::m=>shE (k+1) st m
 |k,[],.u::m=>shE (k+1) [] m
 |k,p::st,.u::m=>.t k p::shE (k+1) st m
theorem B_:∀(m:List Mk) (k:Nat) (st:List Nat),st.Nodup->(∀p∈st,p<k)->((shE k st m).flatMap peB).Nodup/\∀q∈(shE k st m).flatMap peB,q∈st\/(k<=q/\q<k+m.length)
 |[],k,st,_,_=>⟨by simp[shE],λq hq=>by simp[shE] at hq⟩
 | .t :: m, k, st, nd, hs => by
  obtain⟨h1,h2⟩:=B_ m (k+1) (k::st) (Q9.mpr ⟨λz=>absurd (hs k z) (Y8 k),nd⟩) (λp hp=>(C3.mp hp).elim (λe=>by omega) λhp=>by have:=hs p hp;omega);refine⟨h1,λq hq=>?_⟩;rw[E8];rcases h2 q hq with h|h
  ·grind
  ·omega
 | .d :: m, k, st, nd, hs => by
  obtain⟨h1,h2⟩:=B_ m (k+1) st nd (λp hp=>by have:=hs p hp;omega);show((PE.d k::shE (k+1) st m).flatMap peB).Nodup/\∀q∈(PE.d k::shE (k+1) st m).flatMap peB,_;simp only[Y5,peB,o5,Ap];refine⟨Q9.mpr ⟨λz=>?_,h1⟩,λq hq=>?_⟩
  ·grind
  ·grind
 | .o :: m, k, st, nd, hs => by
  obtain⟨h1,h2⟩:=B_ m (k+1) st nd (λp hp=>by have:=hs p hp;omega);refine⟨by unfold shE;exact h1,λq hq=>?_⟩;unfold shE at hq;rw[E8];rcases h2 q hq with h|h
  ·grind
  ·grind
 | .u :: m, k, [], nd, hs => by
  obtain⟨h1,h2⟩:=B_ m (k+1) [] nd (λp hp=>by have:=hs p hp;omega);refine⟨by unfold shE;exact h1,λq hq=>?_⟩;unfold shE at hq;rw[E8];rcases h2 q hq with h|h
  ·grind
  ·grind
 | .u :: m, k, p :: st, nd, hs => by
  obtain⟨np,nd'⟩:=Q9.mp nd;have hp:=hs p C8;obtain⟨h1,h2⟩:=B_ m (k+1) st nd' (λq hq=>by have:=hs q (C5 _ hq);omega);show((PE.t k p::shE (k+1) st m).flatMap peB).Nodup/\∀q∈(PE.t k p::shE (k+1) st m).flatMap peB,_;simp only[Y5,peB,o5,Ap];refine⟨Q9.mpr ⟨λz=>?_,Q9.mpr ⟨λz=>?_,h1⟩⟩,λq hq=>?_⟩
  ·grind
  ·grind
  ·grind
def nm (zs:List Str)(i:Nat):Str:=zs.getD i (A5 "")
def evOf (zs:List Str):PE->Ev
 |.d i=>.d (nm zs i)
 |.t i j=>.t (nm zs i) (nm zs j)
theorem evB_of (zs:List Str)(e:PE):evB (evOf zs e)=(peB e).map (nm zs):=by cases e <;> rfl
theorem Ip (zs:List Str)(es:List PE):(es.map (evOf zs)).flatMap evB=(es.flatMap peB).map (nm zs):=by induction es <;> grind [PE,evB,evOf,nm,peB]
theorem Ac {zs:List Str}{i:Nat}(h:i<zs.length):zs[i]?=some (nm zs i):=by grind [nm]
theorem DH (h:i<zs.length):nm zs i∈zs:=K8 (Ac h)
theorem LJ (nd:zs.Nodup)(hi:i<zs.length)(hj:j<zs.length)(h:nm zs i=nm zs j):i=j:=Io nd (Ac hi) (by rw[h];exact Ac hj)
structure Fair (zs:List Str)(es:List Ev):Prop where
 nd:(es.flatMap evB).Nodup
 sub:∀b∈es.flatMap evB,b∈zs
theorem LK {α β:Type}(f:α->β):∀{l:List α},l.Nodup->(∀a∈l,∀b∈l,f a=f b->a=b)->(l.map f).Nodup
 |[],_,_=>by simp
 | a :: l, h, hf => by
  obtain⟨h1,h2⟩:=Q9.mp h;rw[G9,Q9];refine⟨λz=>?_,LK f h2 λx hx y hy=>hf x (C5 _ hx) y (C5 _ hy)⟩;obtain⟨b,hb,e⟩:=J1.mp z;exact h1 (hf b (C5 _ hb) a C8 e▸hb)
theorem Sm (nd:zs.Nodup)(hl:m.length=zs.length):Fair zs ((shE 0 [] m).map (evOf zs)):=by
 obtain⟨h1,h2⟩:=B_ m 0 [] (by simp) (λ_ z=>nomatch z)
 have h3:∀q∈(shE 0 [] m).flatMap peB,q<zs.length:=λq hq=>by
  rcases h2 q hq with h|h
  ·cases h
  ·omega
 refine⟨?_,λb hb=>?_⟩
 ·rw[Ip];exact LK _ h1 λa ha b hb e=>LJ nd (h3 a ha) (h3 b hb) e
 ·rw[Ip] at hb;obtain⟨q,hq,rfl⟩:=J1.mp hb;exact DH (h3 q hq)
theorem Fair.perm (h:Fair zs es)(p:es'.Perm es):Fair zs es':=
 ⟨(Im p).nodup_iff.mpr h.nd,λb hb=>h.sub b ((Im p).mem_iff.mp hb)⟩
def setE (st f:List Str):Ev->List Str
 |.d _=>f
 |.t x y=>(f.set (ixS st x) y).set (ixS st y) x
def exch (f:List Str)(i j:Nat):List Str:=(f.set i (nm f j)).set j (nm f i)
def exE (st f:List Str):Ev->List Str
 |.d _=>f
 |.t x y=>exch f (ixS st x) (ixS st y)
def aft (st:List Str)(es:List Ev):List Str:=es.foldl (setE st) st
def rbh (st:List Str)(es:List Ev):List Str:=es.foldl (exE st) st
theorem DI (hx:x∈zs)(hy:y∈zs)(h:ixS zs x=ixS zs y):x=y:=by
 have h1:=(Z6 hx).1;rw[h,(Z6 hy).1] at h1;exact(P0 h1).symm
theorem Iq:∀(es:List Ev) (f:List Str),(es.flatMap evB).Nodup->(∀b∈es.flatMap evB,b∈st/\f[ixS st b]?=some b)->es.foldl (setE st) f=es.foldl (exE st) f
 |[],f,_,_=>rfl
 | .d x :: es, f, nd, h => by
  simp only[Y5,evB,o5,Ap] at nd h;exact Iq es f (Q9.mp nd).2 λb hb=>h b (C5 _ hb)
 | .t x y :: es, f, nd, h => by
  simp only[Y5,evB,o5,Ap] at nd h;obtain⟨nx,nd1⟩:=Q9.mp nd;obtain⟨ny,nd2⟩:=Q9.mp nd1;obtain⟨hx1,hx2⟩:=h x C8;obtain⟨hy1,hy2⟩:=h y (C5 _ C8)
  have e:setE st f (.t x y)=exE st f (.t x y):=by
   show(f.set (ixS st x) y).set (ixS st y) x=exch f (ixS st x) (ixS st y);unfold exch nm;rw[T3,T3,hx2,hy2];rfl
  rw[o6,o6,e];refine Iq es _ nd2 λb hb=>?_;obtain⟨hb1,hb2⟩:=h b (C5 _ (C5 _ hb));refine⟨hb1,?_⟩;rw[<- e];show((f.set (ixS st x) y).set (ixS st y) x)[ixS st b]?=some b;have bx:ixS st x≠ixS st b:=λz=>nx (by rw[DI hx1 hb1 z];exact C5 _ hb);have by_:ixS st y≠ixS st b:=λz=>ny (by rw[DI hy1 hb1 z];exact hb);rw[Q7 by_,Q7 bx];exact hb2
theorem Ir (h:Fair st es):aft st es=rbh st es:=Iq es st h.nd λb hb=>⟨h.sub b hb,(Z6 (h.sub b hb)).1⟩
theorem Sn (st f:List Str)(e:Ev):(setE st f e).length=f.length:=by cases e <;> simp[setE]
theorem DJ (st:List Str)(es:List Ev):(aft st es).length=st.length:=by
 unfold aft
 have:∀(es:List Ev) (f:List Str),(es.foldl (setE st) f).length=f.length:=by
  intro es
  induction es with
  |nil=>intro f;rfl
  |cons e es ih=>intro f;rw[o6,ih,Sn]
 exact this es st
theorem So (hi:i<f.length)(hj:j<f.length):(exch f i j).Perm f:=by
 unfold exch nm;rw[T3,T3,D4 hi,D4 hj];show((f.set i f[j]).set j f[i]).Perm f;exact List.set_set_perm hi hj
theorem LL (h:∀b∈es.flatMap evB,b∈st):(rbh st es).Perm st:=by
 unfold rbh
 have:∀(es:List Ev) (f:List Str),(∀b∈es.flatMap evB,b∈st)->f.length=st.length->(es.foldl (exE st) f).Perm f:=by
  intro es
  induction es with
  |nil=>intro f _ _;exact List.Perm.refl _
  | cons e es ih =>
   intro f hb hl;rw[o6]
   have p:(exE st f e).Perm f:=by
    cases e with
    |d x=>exact List.Perm.refl _
    |t x y=>exact So (by rw[hl];exact P6 (hb x (by simp[evB]))) (by rw[hl];exact P6 (hb y (by simp[evB])))
   exact(ih _ (λb h=>hb b (by rw[Y5];exact O9 _ h)) (by rw[p.length_eq,hl])).trans p
 exact this es st h rfl
theorem u7 {α β:Type}{f:α->β}{l:List α}{i:Nat}{y:β}(h:(l.map f)[i]?=some y):∃x,l[i]?=some x/\y=f x:=by
 rw[G0] at h;cases e:l[i]? with
 |none=>rw[e] at h;cases h
 |some x=>rw[e] at h;exact⟨x,rfl,(P0 h).symm⟩
theorem u8 {α:Type}{l:List α}{i:Nat}{x:α}(h:l[i]?=some x):l.take (i+1)=l.take i++[x]:=by
 rw[List.take_add_one,h];rfl
theorem Iu (h:((E9 m).map λ(k:Nat)=>PV.int (j-1-k))[i]?=some x):i<m/\x=.int (j-1-i):=by
 rw[G0] at h;cases e:(E9 m)[i]? with
 |none=>rw[e] at h;cases h
 | some y =>
  rw[e] at h;obtain⟨h1,h2⟩:=J5.mp e;rw[List.getElem_range] at h2;subst h2;rw[Ao] at h1;exact⟨h1,(P0 h).symm⟩
theorem Iv:((E9 m).map λ(k:Nat)=>PV.int (j-1-k)).length=m:=by simp
theorem Ca {α:Type}(xs:List α){a b:Nat}(h:b<=xs.length):cutP xs (some (a:Int)) (some (b:Int))=(xs.take b).drop a:=by
 unfold cutP;rw[HT.sIx_nat,HT.sIx_nat,Bj h,List.drop_take];rcases Bm a xs.length with h2|h2
 ·rw[Bj h2]
 ·rw[CB h2,Be (B8 _),Be h2];simp
theorem Iw {α:Type}(xs:List α)(b:Nat):cutP xs none (some (b:Int))=xs.take b:=by
 unfold cutP;rw[HT.sIx_none,HT.sIx_nat,Eh,Nat.sub_zero];rcases Bm b xs.length with h2|h2
 ·rw[Bj h2]
 ·rw[CB h2,l8 (B8 _),l8 h2]
theorem Ix {α:Type}(xs:List α)(a:Nat):cutP xs (some (a:Int)) none=xs.drop a:=by
 unfold cutP;rw[HT.sIx_nat,HT.sIx_none];rcases Bm a xs.length with h2|h2
 ·rw[Bj h2];exact l8 (by rw[X5];exact B8 _)
 ·rw[CB h2,Be h2,Be (B8 _)];simp
def hiN (s n k:Nat):Nat:=min (k*s+s) (n-1)
def E1 (s n k:Nat)(row:List Str):List Str:=(row.take (hiN s n k+1)).drop (k*s)
def putN (s n k:Nat)(row b:List Str):List Str:=row.take (k*s)++b++row.drop (hiN s n k+1)
theorem startN_sub {s n k:Nat}{row:List Str}:∀z∈E1 s n k row,z∈row:=by grind [E1]
theorem Fv {s n k:Nat}{row:List Str}(h:RowS row):RowS (E1 s n k row):=by grind [RowS,E1]
theorem DK {s n k:Nat}{row:List Str}(hn:row.length=n)(h1:1<=n):(E1 s n k row).length=hiN s n k+1-k*s:=by grind [hiN,E1]
theorem LM {s n k:Nat}{row b:List Str}(hn:row.length=n)(h1:1<=n)(hk:k*s<=hiN s n k)(hb:b.length=(E1 s n k row).length):(putN s n k row b).length=n:=by grind [hiN,putN,E1]
theorem Sq (hk:k*s<=hiN s n k+1):row.take (k*s)++E1 s n k row++row.drop (hiN s n k+1)=row:=by
 unfold E1;have e1:row.take (k*s)=(row.take (hiN s n k+1)).take (k*s):=by rw[List.take_take,Bj hk]
 rw[e1,Co,Co]
theorem LN (hk:k*s<=hiN s n k+1)(p:b.Perm (E1 s n k row)):(putN s n k row b).Perm row:=by
 have h1:(putN s n k row b).Perm (row.take (k*s)++E1 s n k row++row.drop (hiN s n k+1)):=(p.append_left _).append_right _;rw[Sq hk] at h1;exact h1
theorem RowS.perm {a b:List Str}(h:RowS a)(p:b.Perm a):RowS b:=by grind [RowS]
theorem at2_0 {α:Type}{a b:α}:atI [a,b] 0=some a:=rfl
theorem at2_1 {α:Type}{a b:α}:atI [a,b] 1=some b:=rfl
theorem at3_0 {α:Type}{a b c:α}:atI [a,b,c] 0=some a:=rfl
theorem at3_1 {α:Type}{a b c:α}:atI [a,b,c] 1=some b:=rfl
theorem at3_2 {α:Type}{a b c:α}:atI [a,b,c] 2=some c:=rfl
theorem Cb:decide (DROP=A5 "touch")=false:=by decide +kernel
theorem Sr:decide (L7=A5 "drop")=false:=by decide +kernel
def isTo:Ev->Bool
 |.d _=>false
 |.t _ _=>true
theorem Ss (st f:List Str)(e:Ev):(exE st f e).length=f.length:=by cases e <;> simp[exE,exch]
theorem Iy (st:List Str):∀(es:List Ev) (f:List Str),(es.foldl (exE st) f).length=f.length
 |[],f=>rfl
 |e::es,f=>by rw[o6,Iy st es,Ss]
theorem Iz (st:List Str):∀(es:List Ev) (f:List Str),(es.filter isTo).foldl (exE st) f=es.foldl (exE st) f
 |[],f=>rfl
 |.d x::es,f=>Iz st es f
 | .t x y :: es, f => by
  rw[Eg,jr (show isTo (.t x y)=true from rfl),o6,o6];exact Iz st es _
end Pu
end
section
namespace Pu
open PySem PySem.Spec L2
inductive Dy (P:List Str->List Ev->Prop)(s n mx:Nat)(row:List Str):Nat->List (List Ev)->List (List Str)->List Str->Prop where
 |nil:Dy P s n mx row 0 [] [] row
 |cons {i:Nat} {ess:List (List Ev)} {sts:List (List Str)} {r:List Str} {es:List Ev} (h:Dy P s n mx row i ess sts r) (hi:i<mx) (hp:P (E1 s n (mx-1-i) r) es) :
     Dy P s n mx row (i+1) (es::ess) (E1 s n (mx-1-i) r::sts) (putN s n (mx-1-i) r (aft (E1 s n (mx-1-i) r) es))
section
variable {P:List Str->List Ev->Prop}{s n mx:Nat}{row:List Str}
theorem Dy.len (h:Dy P s n mx row i ess sts r):ess.length=i/\sts.length=i:=by
 induction h with
 |nil=>exact⟨rfl,rfl⟩
 |cons _ _ _ ih=>exact⟨by rw[E8,ih.1],by rw[E8,ih.2]⟩
theorem Fw (h1:1<=s)(hn:1<=n)(hk:k<(n+s-1)/s):k*s<=n-1:=by
 have:(n+s-1)/s*s<=n+s-1:=Nat.div_mul_le_self _ _;have h2:(k+1)*s<=(n+s-1)/s*s:=Nat.mul_le_mul_right s hk;rw[Nat.add_mul,Nat.one_mul] at h2;omega
theorem Fx (h1:1<=s)(hn:1<=n):(n+s-1)/s<=n:=by
 refine Nat.div_le_of_le_mul ?_;obtain⟨n,rfl⟩:∃k,n=k+1:=⟨n-1,by omega⟩;have:s*(n+1)=s*n+s:=Nat.mul_succ s n;have:n<=s*n:=Nat.le_mul_of_pos_left n h1;omega
theorem Fy (h:k*s<=n-1):k*s<=hiN s n k:=by unfold hiN;omega
theorem Dy.rows (h1:1<=s)(hn:1<=n)(hmx:mx=(n+s-1)/s)(hf:∀st es,P st es->Fair st es)(hr:RowS row)(hl:row.length=n)(h:Dy P s n mx row i ess sts r):RowS r/\r.length=n:=by
 induction h with
 |nil=>exact⟨hr,hl⟩
 | @cons i ess sts r es h hi hp ih =>
  have f:=hf _ _ hp;have kh:=Fy (s:=s) (n:=n) (Fw h1 hn (show mx-1-i<(n+s-1)/s by omega));refine⟨ih.1.perm (LN (by omega) ?_),LM ih.2 hn kh (DJ _ _)⟩;rw[Ir f];exact LL f.sub
theorem Dy.mem (h1:1<=s)(hn:1<=n)(hmx:mx=(n+s-1)/s)(hf:∀st es,P st es->Fair st es)(hr:RowS row)(hl:row.length=n){i:Nat}{ess:List (List Ev)}{sts:List (List Str)}{r:List Str}(h:Dy P s n mx row i ess sts r) :
   (∀es∈ess,∃st,P st es/\RowS st/\st.length<=n)/\∀st∈sts,RowS st/\st.length<=n:=by
 induction h with
 |nil=>exact⟨(λ_ z=>nomatch z),(λ_ z=>nomatch z)⟩
 | @cons i ess sts r es h hi hp ih =>
  obtain⟨rS,rL⟩:=h.rows h1 hn hmx hf hr hl;have a:=Fv (s:=s) (n:=n) (k:=mx-1-i) rS;have b:(E1 s n (mx-1-i) r).length<=n:=by rw[DK rL hn];unfold hiN;omega
  refine⟨λe he=>?_,λst hst=>?_⟩
  ·rcases C3.mp he with rfl|he
   ·exact⟨_,hp,a,b⟩
   ·exact ih.1 e he
  ·rcases C3.mp hst with rfl|hst
   ·exact⟨a,b⟩
   ·exact ih.2 st hst
end
theorem Su (h:O8 z):shw (.str z):=λc hc=>by
 have:=(h.2.2 c hc).2;omega
theorem Sv (h:O8 z):cost (.str z)<=82:=by
 have:=h.2.1;have e:z.length=z.cps.toList.length:=AF z;show 10*z.length+2<=82;omega
structure Show (d c:Nat)(x:PV):Prop where
 sh:shw x
 de:dep x<=d
 co:cost x<=c
theorem Show.tup (h:∀x∈xs,Show d c x)(hl:xs.length<=l):Show (d+1) ((c+2)*l+3) (.tup xs):=by
 refine⟨KN _ λx hx=>(h x hx).sh,?_,?_⟩
 ·have:=KO d xs λx hx=>(h x hx).de;show deps xs+1<=d+1;omega
 ·have:=KP c xs λx hx=>(h x hx).co;have h2:=Nat.mul_le_mul_left (c+2) hl;show j8 xs+3<=_;omega
theorem Show.lst (h:∀x∈xs,Show d c x)(hl:xs.length<=l):Show (d+1) ((c+2)*l+3) (.lst xs):=by
 have t:=Show.tup h hl;exact⟨t.sh,t.de,t.co⟩
theorem Show.le {d c d' c':Nat}{x:PV}(h:Show d c x)(hd:d<=d')(hc:c<=c'):Show d' c' x:=by grind [PV,Show]
theorem Fz (h:O8 z):Show 0 82 (.str z):=⟨Su h,B8 _,Sv h⟩
theorem LO {zs:List Str}(h:∀z∈zs,O8 z)(hl:zs.length<=24):Show 1 2100 (rowP zs):=
 (Show.tup (d:=0) (c:=82) (l:=24) (xs:=zs.map PV.str) (λx hx=>by obtain⟨z,hz,rfl⟩:=J1.mp hx;exact Fz (h z hz)) (by grind)).le (B8 _) (by decide)
theorem Cc (z:Str)(h1:∀c∈z.cps.toList,c<16 ^ 8)(h2:z.length<=8):Show 0 82 (.str z):=⟨h1,B8 _,by show 10*z.length+2<=82;omega⟩
theorem Sw (h:∀b∈evB e,O8 b):Show 1 260 (evP e):=by
 cases e with
 | d x =>
  rw[k7];refine(Show.tup (d:=0) (c:=82) (l:=3) (λy hy=>?_) (by simp)).le (B8 _) (by decide);simp only[C3,P9,or_false] at hy;rcases hy with rfl|rfl
  ·exact Cc _ (by decide +kernel) (by decide +kernel)
  ·exact Fz (h x (by simp[evB]))
 | t x y =>
  rw[N9];refine(Show.tup (d:=0) (c:=82) (l:=3) (λz hz=>?_) (by simp)).le (B8 _) (by decide);simp only[C3,P9,or_false] at hz;rcases hz with rfl|rfl|rfl
  ·exact Cc _ (by decide +kernel) (by decide +kernel)
  ·exact Fz (h _ (by simp[evB]))
  ·exact Fz (h _ (by simp[evB]))
theorem IA (h:i.natAbs<1000):Show 0 61 (.int i):=⟨by show i.natAbs<10 ^ 60;omega,B8 _,B8 _⟩
theorem Sx {s r:Nat}(h1:s<1000)(h2:r<1000):Show 1 130 (.tup [.int (s:Int),.int (r:Int)]):=by
 refine(Show.tup (d:=0) (c:=61) (l:=2) (λy hy=>?_) (by simp)).le (B8 _) (by decide);simp only[C3,P9,or_false] at hy;rcases hy with rfl|rfl <;> exact IA (by omega)
end Pu
end
section
namespace SeT
open PySem PySem.SetTable L2
def lp (mask:Nat)(h:Int):Nat->Nat×Nat
 |0=>(bits h%(mask+1),bits h)
 |k+1=>leap mask (lp mask h k).1 (lp mask h k).2
def rn (mask i:Nat):Nat:=runEnd mask i-i
def vs (mask:Nat)(h:Int)(k off:Nat):Nat:=(lp mask h k).1+off
theorem IB (mask:Nat)(h:Int):∀k,(lp mask h k).1<=mask
 |0=>CA (Nat.mod_lt _ (Nat.succ_pos mask))
 |k+1=>CA (Nat.mod_lt _ (Nat.succ_pos mask))
theorem rn_9 (mask i:Nat):rn mask i<=9:=by unfold rn runEnd;split <;> omega
theorem IC {mask:Nat}(ho:off<=rn mask (lp mask h k).1):vs mask h k off<=mask:=by
 have:=IB mask h k;unfold rn runEnd at ho;unfold vs
 grind
theorem LP (mask:Nat)(h:Int):∀k,(lp mask h k).2=bits h/32 ^ k
 |0=>by simp[lp]
 | k + 1 => by
  show(lp mask h k).2/32=_;rw[LP mask h k,Nat.div_div_eq_div_mul,Nat.pow_succ]
theorem Sy (h:Int):bits h<2 ^ 64:=by
 unfold bits
 grind
theorem pert_0 (mask:Nat)(h:Int)(k:Nat)(hk:13<=k):(lp mask h k).2=0:=by
 rw[LP];refine Nat.div_eq_of_lt (L3 (Sy h) ?_);exact N6 (by decide) (Nat.pow_le_pow_right (by decide) hk)
def orb (M:Nat):Nat->Nat
 |0=>0
 |m+1=>(orb M m*5+1)%M
def itr (M a:Nat):Nat->Nat
 |0=>a
 |m+1=>(itr M a m*5+1)%M
theorem ID (M m0:Nat):∀m,itr M (orb M m0) m=orb M (m0+m)
 |0=>rfl
 | m + 1 => by
  show(itr M (orb M m0) m*5+1)%M=(orb M (m0+m)*5+1)%M;rw[ID M m0 m]
theorem LQ {M:Nat}(h:orb M M=0):∀m,orb M (M+m)=orb M m
 |0=>h
 | m + 1 => by
  show(orb M (M+m)*5+1)%M=(orb M m*5+1)%M;rw[LQ h m]
theorem IE (mask:Nat)(h:Int):∀m,(lp mask h (13+m)).1=itr (mask+1) (lp mask h 13).1 m
 |0=>rfl
 | m + 1 => by
  show((lp mask h (13+m)).1*5+1+(lp mask h (13+m)).2/32)%(mask+1)=(itr (mask+1) (lp mask h 13).1 m*5+1)%(mask+1);rw[pert_0 mask h (13+m) (by omega),IE mask h m,Nat.zero_div,Nat.add_zero]
def Msk (mask:Nat):Prop:=mask=7\/mask=31\/mask=127
def chk (M:Nat):Bool:=(E9 M).all λe=>(E9 M).any λm=>orb M m == e
theorem chk8:chk 8=true:=by decide +kernel
theorem chk32:chk 32=true:=by decide +kernel
theorem chk128:chk 128=true:=by decide +kernel
theorem LR (h:chk M=true)(he:e<M):∃m,m<M/\orb M m=e:=by simp_all [chk,orb]
theorem goes {mask:Nat}(hm:Msk mask)(h:Int)(he:e<=mask):∃K,K<=mask+14/\(lp mask h K).1=e:=by
 have ck:chk (mask+1)=true/\orb (mask+1) (mask+1)=0:=by
  rcases hm with rfl|rfl|rfl
  ·exact⟨chk8,by decide +kernel⟩
  ·exact⟨chk32,by decide +kernel⟩
  ·exact⟨chk128,by decide +kernel⟩
 obtain⟨m0,h0,e0⟩:=LR ck.1 (Nat.lt_succ_of_le (IB mask h 13));obtain⟨m1,h1,e1⟩:=LR ck.1 (Nat.lt_succ_of_le he)
 by_cases c:m0<=m1
 ·refine⟨13+(m1-m0),by omega,?_⟩;rw[IE,<- e0,ID,show m0+(m1-m0)=m1 by omega,e1]
 ·refine⟨13+(mask+1+m1-m0),by omega,?_⟩;rw[IE,<- e0,ID,show m0+(mask+1+m1-m0)=mask+1+m1 by omega,LQ ck.2,e1]
def Rise (xs:List Nat):Prop:=xs.Pairwise (· < ·)
theorem IF (xs:Array Nat)(j:Nat)(hr:Rise xs.toList):∀(fuel lo hi:Nat),lo<=hi->hi<=xs.size->hi-lo<=fuel->(∀(i:Nat) x,i<lo->xs[i]?=some x->x<j)->(∀(i:Nat) x,hi<=i->xs[i]?=some x->j<=x)->
   ∃p,below.go xs j fuel lo hi=p/\p<=xs.size/\(∀(i:Nat) x,i<p->xs[i]?=some x->x<j)/\(∀(i:Nat) x,p<=i->xs[i]?=some x->j<=x)
 |0,lo,hi,h1,h2,h3,h4,h5=>⟨lo,rfl,by omega,h4,λi x hi' e=>h5 i x (by omega) e⟩
 | fuel + 1, lo, hi, h1, h2, h3, h4, h5 => by
  unfold below.go
  by_cases c:lo<hi
  ·rw[jr c];have hm:(lo+hi)/2<xs.size:=by omega
   have hm1:lo<=(lo+hi)/2:=by omega
   have hm2:(lo+hi)/2<hi:=by omega
   dsimp only;generalize (lo+hi)/2=mid at hm hm1 hm2 ⊢;have eg:xs.getD mid j=xs[mid]:=by simp[Array.getD,hm]
   have em:xs[mid]?=some xs[mid]:=p6 hm
   have up:∀(a b:Nat) x y,a<b->xs[a]?=some x->xs[b]?=some y->x<y:=λa b x y hab ea eb=>by
    rw[<- T6] at ea eb;obtain⟨la,ea⟩:=J5.mp ea;obtain⟨lb,eb⟩:=J5.mp eb;rw[<- ea,<- eb];exact V6.mp hr a b la lb hab
   rw[eg]
   by_cases c2:xs[mid]<j
   ·rw[jr c2];refine IF xs j hr fuel (mid+1) hi (by omega) h2 (by omega) (λi x hi' e=>?_) h5;rcases Nat.lt_or_ge i mid with h|h
    ·exact Bk (up i mid x _ h e em) c2
    ·have:i=mid:=by omega
     subst this;rw[em] at e;cases e;exact c2
   ·rw[jt c2];refine IF xs j hr fuel lo mid (by omega) (by omega) (by omega) h4 λi x hi' e=>?_;rcases Nat.lt_or_ge mid i with h|h
    ·exact d7 (Cz (Bi c2) (up mid i _ x h em e))
    ·have:i=mid:=by omega
     subst this;rw[em] at e;cases e;exact Bi c2
  ·rw[jt c];exact⟨lo,rfl,by omega,h4,λi x hi' e=>h5 i x (by omega) e⟩
theorem DL (xs:Array Nat)(j:Nat)(hr:Rise xs.toList):below xs j<=xs.size/\(∀(i:Nat) x,i<below xs j->xs[i]?=some x->x<j)/\(∀(i:Nat) x,below xs j<=i->xs[i]?=some x->j<=x):=by
 obtain⟨p,e,h⟩:=IF xs j hr xs.size 0 xs.size (K4 _) (B8 _) (B8 _) (λi x hi _=>by omega) (λi x hi e=>by
  rw[Go hi] at e;cases e)
 unfold below
 grind
theorem Sz (hr:Rise xs.toList)(h:xs[i]?=some j):below xs j=i:=by
 obtain⟨h1,h2,h3⟩:=DL xs j hr;rcases o8 (below xs j) i with c|c|c
 ·have hb:below xs j<xs.size:=Bk c (by
   obtain⟨l,_⟩:=Array.getElem?_eq_some_iff.mp h;exact l)
  have e:=p6 hb;have a1:=h3 _ _ (B8 _) e;have e':=e;rw[<- T6] at e' h;obtain⟨la,ea⟩:=J5.mp e';obtain⟨lb,eb⟩:=J5.mp h;have:=V6.mp hr _ _ la lb c;rw[ea,eb] at this;omega
 ·exact c
 grind
theorem LS {α:Type}(xs:Array α)(p:Nat)(x:α)(hp:p<=xs.size):(insertAt xs p x).toList=insL xs.toList p x:=by
 unfold insertAt insL;simp;exact l8 (by grind)
theorem SA (hr:Rise xs.toList)(hj:j∉xs.toList):Rise (insL xs.toList (below xs j) j):=by
 obtain⟨h1,h2,h3⟩:=DL xs j hr;unfold insL
 have mt:∀a∈xs.toList.take (below xs j),a<j:=λa ha=>by
  obtain⟨i,hi,e⟩:=Gm.mp ha;rw[List.getElem_take] at e;rw[T5] at hi;exact h2 i a (by omega) (by grind)
 have md:∀a∈xs.toList.drop (below xs j),j<a:=λa ha=>by
  obtain⟨i,hi,e⟩:=Gm.mp ha;rw[List.getElem_drop] at e;rw[X5] at hi;have hle:=h3 (below xs j+i) a (by omega) (by grind);have hne:a≠j:=λz=>hj (by grind);omega
 refine List.pairwise_append.mpr ⟨hr.sublist (List.take_sublist _ _),List.pairwise_cons.mpr ⟨md,hr.sublist (List.drop_sublist _ _)⟩,λa ha b hb=>?_⟩
 grind
end SeT
end
section
namespace SeT
open PySem PySem.SetTable L2
def Lx (k' o' k o:Nat):Prop:=k'<k\/(k'=k/\o'<o)
def Rch (mask:Nat)(O:Nat->Prop)(s:Nat)(h:Int):Prop:=∃k o,o<=rn mask (lp mask h k).1/\vs mask h k o=s/\∀k' o',o'<=rn mask (lp mask h k').1->Lx k' o' k o->O (vs mask h k' o')
theorem Rch.mono {mask:Nat}(r:Rch mask O s h)(f:∀x,O x->O' x):Rch mask O' s h:=by grind [Rch]
structure TOk (t:Q5)(hs:List Int):Prop where
 size:t.place.toList.length=hs.length
 dum:t.dummies=#[]
 mask:Msk t.mask
 rise:Rise t.place.toList
 lim:∀s∈t.place.toList,s<=t.mask
 room:hs.length<t.mask
 reach:∀(i:Nat) s h,t.place.toList[i]?=some s->hs[i]?=some h->Rch t.mask (·∈t.place.toList) s h
section
variable {t:Q5}{hs:List Int}{h:Int}
theorem TOk.fits (T:TOk t hs):t.fits hs.length=true:=by
 have h1:=T.size;have h2:=T.room;unfold SetTable.fits SetTable.fill;rw[T.dum]
 grind
theorem TOk.odd (T:TOk t hs):t.gaveWay=false:=by
 unfold SetTable.gaveWay;rcases T.mask with e|e|e <;> rw[e] <;> decide
theorem LT (j:Nat):has #[] j=false:=by unfold has;simp
theorem TOk.slot_live (T:TOk t hs)(e:t.place.toList[i]?=some j):t.slot j=.live i:=by
 unfold SetTable.slot;have e':t.place[i]?=some j:=by rw[<- T6];exact e
 rw[Sz T.rise e'];simp[e']
theorem TOk.slot_empty (T:TOk t hs)(e:j∉t.place.toList):t.slot j=.empty:=by
 unfold SetTable.slot
 have:¬(t.place[below t.place j]? == some j)=true:=λz=>by
  have z':t.place[below t.place j]?=some j:=by simpa using z
  rw[<- T6] at z';exact e (K8 z')
 dsimp only;rw[jt this,T.dum,LT]
 rfl
theorem TOk.free (T:TOk t hs):∃e,e<=t.mask/\e∉t.place.toList:=by
 refine Au λz=>?_
 have sub:E9 (t.mask+1) ⊆ t.place.toList:=λx hx=>by
  refine Au λy=>z ⟨x,CA (O1.mp hx),y⟩
 have:=(List.nodup_range (n:=t.mask+1)).length_le_of_subset sub;rw[Ao,T.size] at this;have:=T.room;omega
def pb (mask:Nat)(h:Int)(k o:Nat):Probe:={ j:=vs mask h k o,more:=rn mask (lp mask h k).1-o,i:=(lp mask h k).1,perturb:=(lp mask h k).2,dummy:=none }
theorem pb_adv (t:Q5)(h:Int)(k o:Nat):t.advance (pb t.mask h k o)=if o<rn t.mask (lp t.mask h k).1 then pb t.mask h k (o+1) else pb t.mask h (k+1) 0:=by
 unfold SetTable.advance
 by_cases c:o<rn t.mask (lp t.mask h k).1
 ·rw[jr c,jr (show(pb t.mask h k o).more>0 by show rn t.mask (lp t.mask h k).1-o>0;omega)];unfold pb vs
  congr 1
 ·rw[jt c,jt (show ¬(pb t.mask h k o).more>0 by show ¬rn t.mask (lp t.mask h k).1-o>0;omega)]
  rfl
def nx (mask:Nat)(h:Int)(k o:Nat):Nat×Nat:=if o<rn mask (lp mask h k).1 then(k,o+1) else(k+1,0)
theorem pb_nx (t:Q5)(h:Int)(k o:Nat):t.advance (pb t.mask h k o)=pb t.mask h (nx t.mask h k o).1 (nx t.mask h k o).2:=by
 rw[pb_adv];unfold nx;split <;> rfl
theorem nx_ok {mask:Nat}(ho:o<=rn mask (lp mask h k).1):(nx mask h k o).2<=rn mask (lp mask h (nx mask h k o).1).1:=by grind [lp,nx,rn]
theorem nx_lx {mask:Nat}(ho:o<=rn mask (lp mask h k).1)(ho':o'<=rn mask (lp mask h k').1)(l:Lx k' o' (nx mask h k o).1 (nx mask h k o).2):Lx k' o' k o\/(k'=k/\o'=o):=by grind [Lx,lp,nx,rn]
def far (K k o:Nat):Nat:=10*(K-k)+1-o
theorem LU {mask:Nat}(ho:o<=rn mask (lp mask h k).1)(hk:k<K):far K (nx mask h k o).1 (nx mask h k o).2<far K k o/\(nx mask h k o).1<=K/\((nx mask h k o).1=K->(nx mask h k o).2=0):=by
 have r9:=rn_9 mask (lp mask h k).1;unfold nx far
 grind
theorem LV (T:TOk t hs)(at_:Nat->Int)(ha:∀(i:Nat) x,hs[i]?=some x->at_ i=x){K e:Nat}(hK:(lp t.mask h K).1=e)(he:e∉t.place.toList):∀(fuel k o:Nat),k<=K->(k=K->o=0)->o<=rn t.mask (lp t.mask h k).1->far K k o<=fuel->
   ∃ k2 o2, o2 <= rn t.mask (lp t.mask h k2).1 /\ k2 <= K /\ (k2 = K -> o2 = 0) /\ ¬ Lx k2 o2 k o /\ (∀ k' o', o' <= rn t.mask (lp t.mask h k').1 -> ¬ Lx k' o' k o -> Lx k' o' k2 o2 -> ∃ (i : Nat) (x : Int), t.place.toList[i]? = some (vs t.mask h k' o') /\ hs[i]? = some x /\ x ≠ h) /\
     ((vs t.mask h k2 o2∉t.place.toList/\probe.go t at_ h fuel (pb t.mask h k o)=some (.empty (vs t.mask h k2 o2) none))\/
       ∃i,k2<K/\t.place.toList[i]?=some (vs t.mask h k2 o2)/\hs[i]?=some h/\probe.go t at_ h fuel (pb t.mask h k o)=some (.candidate (vs t.mask h k2 o2) i (pb t.mask h (nx t.mask h k2 o2).1 (nx t.mask h k2 o2).2)))
 | 0, k, o, h1, h2, h3, h4 => by
  have r9:=rn_9 t.mask (lp t.mask h k).1;unfold far at h4;have:¬k=K:=λz=>by have:=h2 z;omega
  omega
 | fuel + 1, k, o, h1, h2, h3, h4 => by
  have irr:¬Lx k o k o:=λz=>z.elim (Y8 k) λz=>Y8 o z.2
  by_cases hm:vs t.mask h k o∈t.place.toList
  ·obtain⟨i,hi⟩:=Cp.mp hm
   obtain⟨x,hx⟩:∃x,hs[i]?=some x:=by
    have:=(J5.mp hi).1;rw[T.size] at this;exact⟨_,D4 this⟩
   have hkK:k<K:=by
    refine Nat.lt_of_le_of_ne h1 λz=>?_;have o0:=h2 z;subst z;subst o0;exact he (by rw[<- hK];exact hm)
   have sl:=T.slot_live hi
   by_cases c:x=h
   ·subst c;refine⟨k,o,h3,h1,h2,irr,λk' o' _ n l=>absurd l n,.inr ⟨i,hkK,hi,hx,?_⟩⟩;unfold probe.go;rw[show(pb t.mask x k o).j=vs t.mask x k o from rfl,sl];dsimp only;rw[ha i x hx,beq_self_eq_true,jr rfl,pb_nx]
   ·obtain⟨f1,f2,f3⟩:=LU (K:=K) h3 hkK;obtain⟨k2,o2,a1,a2,a3,a4,a5,a6⟩:=LV T at_ ha hK he fuel (nx t.mask h k o).1 (nx t.mask h k o).2 f2 f3 (nx_ok h3) (by omega)
    have step:probe.go t at_ h (fuel+1) (pb t.mask h k o)=probe.go t at_ h fuel (pb t.mask h (nx t.mask h k o).1 (nx t.mask h k o).2):=by
     rw[<- pb_nx]
     conv=>lhs;unfold probe.go
     rw[show(pb t.mask h k o).j=vs t.mask h k o from rfl,sl];dsimp only;rw[ha i x hx,jt (by simpa using c)]
    rw[step];refine⟨k2,o2,a1,a2,a3,λz=>a4 ?_,λk' o' p1 p2 p3=>?_,a6⟩
    ·unfold nx
     split
     ·rcases z with z|⟨rfl,z⟩
      ·exact .inl z
      ·exact .inr ⟨rfl,by show o2<o+1;omega⟩
     ·rcases z with z|⟨rfl,z⟩
      ·exact .inl (by show k2<k+1;omega)
      ·exact .inl (by show k2<k2+1;omega)
    ·by_cases c2:Lx k' o' (nx t.mask h k o).1 (nx t.mask h k o).2
     ·rcases nx_lx h3 p1 c2 with c3|⟨rfl,rfl⟩
      ·exact absurd c3 p2
      ·exact⟨i,x,hi,hx,c⟩
     ·exact a5 k' o' p1 c2 p3
  ·refine⟨k,o,h3,h1,h2,irr,λk' o' _ n l=>absurd l n,.inl ⟨hm,?_⟩⟩;unfold probe.go;rw[show(pb t.mask h k o).j=vs t.mask h k o from rfl,T.slot_empty hm]
   rfl
theorem TOk.put (T:TOk t hs)(hs1:s∉t.place.toList)(hl:s<=t.mask)(hr:Rch t.mask (·∈t.place.toList) s h)(hroom:hs.length+1<t.mask) :
   (t.put s).2=below t.place s/\(t.put s).2<=hs.length/\(t.put s).1.plain=t.plain/\(t.put s).1.led=t.led/\TOk (t.put s).1 (insL hs (t.put s).2 h):=by
 have p1:=(DL t.place s T.rise).1;have sz:t.place.size=hs.length:=by rw[<- T.size,O3]
 have pl:(t.put s).1.place.toList=insL t.place.toList (below t.place s) s:=LS _ _ _ p1;have mk:(t.put s).1.mask=t.mask:=rfl
 have dm:(t.put s).1.dummies=#[]:=by
  show(if has t.dummies s then eraseAt t.dummies (below t.dummies s) else t.dummies)=#[];rw[T.dum,LT];rfl
 refine⟨rfl,by show below t.place s<=_;omega,rfl,rfl,?_⟩;have hp:(t.put s).2=below t.place s:=rfl;rw[hp]
 have mem:∀x,x∈t.place.toList->x∈insL t.place.toList (below t.place s) s:=λx hx=>by
  unfold insL;rw[<- Co (below t.place s) t.place.toList] at hx;rcases K9.mp hx with hx|hx
  ·grind
  ·grind
 refine⟨?_,dm,by rw[mk];exact T.mask,by rw[pl];exact SA T.rise hs1,λx hx=>?_,by rw[mk,BX];exact hroom,λi x y ex ey=>?_⟩
 ·rw[pl,BX,BX,T.size]
 ·rw[pl] at hx;rw[mk];unfold insL at hx;rcases K9.mp hx with hx|hx
  ·exact T.lim x (Cq hx)
  ·rcases C3.mp hx with rfl|hx
   ·exact hl
   ·exact T.lim x (Gk hx)
 ·rw[pl] at ex ⊢;rw[mk];generalize below t.place s=p at *;have lt:(t.place.toList.take p).length=p:=by rw[T5,T.size];omega
  have lh:(hs.take p).length=p:=by rw[T5];omega
  unfold insL at ex ey;rcases o8 i p with c|c|c
  ·rw[Y3 (by omega),List.getElem?_take,jr c] at ex ey;exact(T.reach i x y ex ey).mono mem
  ·subst c;rw[V5 (by omega),lt,Bn] at ex;rw[V5 (by omega),lh,Bn] at ey;cases ex;cases ey;exact hr.mono mem
  ·rw[V5 (by omega),lt,show i-p=(i-p-1)+1 by omega,Cn,List.getElem?_drop,show p+(i-p-1)=i-1 by omega] at ex;rw[V5 (by omega),lh,show i-p=(i-p-1)+1 by omega,Cn,List.getElem?_drop,show p+(i-p-1)=i-1 by omega] at ey;exact(T.reach (i-1) x y ex ey).mono mem
end
end SeT
end
section
namespace SeT
open PySem PySem.SetTable L2
structure Own (mask:Nat)(ow:Array (Option Nat))(sl:List Nat):Prop where
 size:ow.size=mask+1
 nd:sl.Nodup
 lim:∀s∈sl,s<=mask
 has:∀(k s:Nat),sl[k]?=some s->ow[s]?=some (some k)
 no:∀s,s<=mask->s∉sl->ow[s]?=some none
theorem Own.none {mask:Nat}(O:Own mask ow sl)(hs:s<=mask):(ow.getD s (some 0)).isNone=decide (s∉sl):=by
 rw[As]
 by_cases c:s∈sl
 ·obtain⟨k,hk⟩:=Cp.mp c;rw[O.has k s hk,jq (not_not_intro c)];rfl
 ·rw[O.no s hs c,jp c];rfl
theorem LW {mask:Nat}{ow:Array (Option Nat)}{sl:List Nat}{h:Int}(O:Own mask ow sl){K e:Nat}(hK:(lp mask h K).1=e)(he:e∉sl):∀(fuel k:Nat),k<=K->K-k<fuel->
   ∃k2 o2,o2<=rn mask (lp mask h k2).1/\layClean.free mask ow fuel (lp mask h k).1 (lp mask h k).2=some (vs mask h k2 o2)/\vs mask h k2 o2∉sl/\∀k' o',o'<=rn mask (lp mask h k').1->k<=k'->Lx k' o' k2 o2->vs mask h k' o'∈sl
 |0,k,_,h2=>absurd h2 (CC _)
 | fuel + 1, k, h1, h2 => by
  have le:=IB mask h k;have ge:(lp mask h k).1<=runEnd mask (lp mask h k).1:=by unfold runEnd;split <;> omega
  have er:runEnd mask (lp mask h k).1+1-(lp mask h k).1=rn mask (lp mask h k).1+1:=by unfold rn;omega
  have isn:∀o,o<=rn mask (lp mask h k).1->(ow.getD ((lp mask h k).1+o) (some 0)).isNone=decide (vs mask h k o∉sl):=λo ho=>O.none (IC ho);unfold layClean.free;rw[er];cases ef:(E9 (rn mask (lp mask h k).1+1)).find? (λo=>(ow.getD ((lp mask h k).1+o) (some 0)).isNone) with
  | some o2 =>
   obtain⟨p1,p2,p3⟩:=List.find?_range_eq_some.mp ef;have ho2:o2<=rn mask (lp mask h k).1:=by have:=O1.mp p2;omega
   rw[isn o2 ho2] at p1;refine⟨k,o2,ho2,rfl,ju p1,λk' o' q1 q2 q3=>?_⟩;rcases q3 with q3|⟨rfl,q3⟩
   ·omega
   ·have:=p3 o' q3;rw[isn o' (by omega)] at this;exact Au λz=>by rw[jp z] at this;cases this
  | none =>
   have all:∀o,o<=rn mask (lp mask h k).1->vs mask h k o∈sl:=λo ho=>by
    have:=List.find?_eq_none.mp ef o (O1.mpr (by omega));rw[isn o ho] at this;exact Au λz=>this (jp z)
   have hkK:k<K:=by
    refine Nat.lt_of_le_of_ne h1 λz=>?_;subst z;exact he (by rw[<- hK];exact all 0 (K4 _))
   obtain⟨k2,o2,a1,a2,a3,a4⟩:=LW O hK he fuel (k+1) hkK (by omega);refine⟨k2,o2,a1,a2,a3,λk' o' q1 q2 q3=>?_⟩;rcases Nat.lt_or_ge k k' with c|c
   ·exact a4 k' o' q1 c q3
   ·have:k'=k:=by omega
    subst this;exact all o' q1
theorem Own.put {mask:Nat}{ow:Array (Option Nat)}{sl:List Nat}(O:Own mask ow sl){s:Nat}(hs:s<=mask)(hn:s∉sl):Own mask (ow.setIfInBounds s (some sl.length)) (sl++[s]) where
 size:=by rw[Array.size_setIfInBounds];exact O.size
 nd:=Cv.mpr ⟨O.nd,by simp,λa ha b hb e=>hn (by grind)⟩
 lim:=λx hx=>(K9.mp hx).elim (O.lim x) λz=>by rw[J6.mp z];exact hs
 has:=λk x e=>by
  have hsz:s<ow.size:=by rw[O.size];omega
  by_cases c:k<sl.length
  ·rw[Y3 c] at e;have hx:x∈sl:=K8 e;rw[Array.getElem?_setIfInBounds_ne (λz=>hn (by grind))];exact O.has k x e
  ·grind
 no:=λx hx hx'=>by
  have n1:x∉sl:=λz=>hx' (w8 _ z);have n2:s≠x:=λz=>hx' (O9 _ (by grind));rw[Array.getElem?_setIfInBounds_ne n2];exact O.no x hx n1
theorem Own.nil (mask:Nat):Own mask (Ek (mask+1) (Option.none:Option Nat)) []:=by grind [Own]
def FA (mask:Nat)(jl:Option (Array (Option Nat)×Nat))(h:Int):Option (Array (Option Nat)×Nat):=do
 let (owner,k) ← jl
 let j ← layClean.free mask owner (turns mask) (bits h%(mask+1)) (bits h)
 pure (owner.setIfInBounds j (some k),k+1)
theorem LX {mask:Nat}(hm:Msk mask):∀(rest done:List Int) (ow:Array (Option Nat)) (sl:List Nat),Own mask ow sl->sl.length=done.length->done.length+rest.length<=mask->(∀(k s:Nat) h,sl[k]?=some s->done[k]?=some h->Rch mask (·∈sl) s h)->
   ∃ow' sl',rest.foldl (FA mask) (some (ow,done.length))=some (ow',(done++rest).length)/\Own mask ow' sl'/\sl'.length=(done++rest).length/\∀(k s:Nat) h,sl'[k]?=some s->(done++rest)[k]?=some h->Rch mask (·∈sl') s h
 |[],done,ow,sl,O,hl,hle,hr=>⟨ow,sl,by simp,O,by simpa using hl,λk s h e1 e2=>hr k s h e1 (by simpa using e2)⟩
 | h :: rest, done, ow, sl, O, hl, hle, hr => by
  rw[E8] at hle
  obtain⟨e,he1,he2⟩:∃e,e<=mask/\e∉sl:=by
   refine Au λz=>?_;have sub:E9 (mask+1) ⊆ sl:=λx hx=>Au λy=>z ⟨x,CA (O1.mp hx),y⟩;have:=(List.nodup_range (n:=mask+1)).length_le_of_subset sub;rw[Ao,hl] at this;omega
  obtain⟨K,hK1,hK2⟩:=goes hm h he1;obtain⟨k2,o2,a1,a2,a3,a4⟩:=LW O hK2 he2 (turns mask) 0 (K4 _) (by unfold turns;omega);have O':=O.put (IC a1) a3
  have st:FA mask (some (ow,done.length)) h=some (ow.setIfInBounds (vs mask h k2 o2) (some sl.length),(done++[h]).length):=by
   unfold FA;show(layClean.free mask ow (turns mask) (lp mask h 0).1 (lp mask h 0).2).bind _=_;rw[a2,hl,E7]
   rfl
  have mem:∀x,x∈sl->x∈sl++[vs mask h k2 o2]:=λx hx=>w8 _ hx
  obtain⟨ow',sl',b1,b2,b3,b4⟩:=LX hm rest (done++[h]) _ _ O' (by rw[E7,E7,hl];rfl) (by rw[E7,T4];omega) λk s x e1 e2=>by
   by_cases c:k<sl.length
   ·rw[Y3 c] at e1;rw[Y3 (by omega)] at e2;exact(hr k s x e1 e2).mono mem
   ·have hk:k=sl.length:=by
     have:=(J5.mp e1).1;rw[E7,T4] at this;omega
    subst hk;rw[V5 (B8 _),Bn] at e1;rw[V5 (by omega),hl,Bn] at e2;cases e1;cases e2;exact⟨k2,o2,a1,rfl,λk' o' q1 q2=>mem _ (a4 k' o' q1 (K4 _) q2)⟩
  refine⟨ow',sl',?_,b2,by rw[b3,X4];rfl,λk s x e1 e2=>b4 k s x e1 (by rw[X4];exact e2)⟩;rw[o6,st,b1,X4];rfl
theorem SC (mask:Nat)(hs:Array Int):layClean mask hs=(hs.toList.foldl (FA mask) (some (Ek (mask+1) none,0))).map (·.1):=by
 unfold layClean;rw[<- Array.foldl_toList]
 rfl
def live (mask:Nat)(ow:Array (Option Nat)):List (Nat×Nat):=(E9 (mask+1)).filterMap λj=>(ow.getD j none).map (j,·)
theorem AV {mask:Nat}(O:Own mask ow sl):(j,k)∈live mask ow↔sl[k]?=some j:=by
 unfold live;rw[List.mem_filterMap];constructor
 ·rintro⟨x,hx,e⟩;have hxm:x<=mask:=CA (O1.mp hx)
  by_cases c:x∈sl
  ·obtain⟨q,hq⟩:=Cp.mp c;rw[As,O.has q x hq] at e;have e':(x,q)=(j,k):=by simpa using e
   cases e';exact hq
  ·rw[As,O.no x hxm c] at e;cases e
 ·intro h;have hj:=O.lim j (K8 h);refine⟨j,O1.mpr (by omega),?_⟩;rw[As,O.has k j h];rfl
theorem LY (mask:Nat)(ow:Array (Option Nat)):Rise ((live mask ow).map (·.1)):=by
 unfold live Rise;rw[n6];refine List.Pairwise.filterMap _ (R:=(· < ·)) (λa b hab x hx y hy=>?_) List.pairwise_lt_range;cases e1:ow.getD a none with
 |none=>rw[e1] at hx;cases hx
 | some p =>
  cases e2:ow.getD b none with
  |none=>rw[e2] at hy;cases hy
  | some q =>
   rw[e1] at hx;rw[e2] at hy;have hx':(a,p)=x:=by simpa using hx
   have hy':(b,q)=y:=by simpa using hy
   rw[<- hx',<- hy'];exact hab
theorem SD {mask:Nat}(O:Own mask ow sl):((live mask ow).map (·.2)).Perm (E9 sl.length):=by
 have nd:((live mask ow).map (·.2)).Nodup:=by
  have h1:(live mask ow).Pairwise λa b=>a.1<b.1:=n6.mp (LY mask ow);rw[Y7,n6];refine List.Pairwise.imp_of_mem (λ{a b} ha hb hab e=>?_) h1;have x1:=(AV (j:=a.1) (k:=a.2) O).mp ha;have x2:=(AV (j:=b.1) (k:=b.2) O).mp hb;rw[e] at x1;rw[x1] at x2;have:=P0 x2;omega
 refine(List.perm_ext_iff_of_nodup nd List.nodup_range).mpr λk=>?_;rw[O1,J1];constructor
 ·rintro⟨⟨j,k'⟩,h,rfl⟩;exact(J5.mp ((AV O).mp h)).1
 ·intro h;exact⟨(sl[k],k),(AV O).mpr (D4 h),rfl⟩
theorem SE {mask fi mo:Nat}{led pl:Bool}(hm:Msk mask)(hs:Array Int)(hl:hs.toList.length<mask) :
   ∃t' order,laid mask fi mo led pl hs=some (t',order)/\order.toList.Perm (E9 hs.toList.length)/\t'.led=led/\t'.plain=pl/\t'.mask=mask/\TOk t' (order.toList.map λk=>hs.toList.getD k 0):=by
 obtain⟨ow,sl,e,O,l,r⟩:=LX hm hs.toList [] _ [] (Own.nil mask) rfl (by grind) (λk s h e=>by simp at e);rw[Ap] at e l r
 have el:laid mask fi mo led pl hs=some ({ mask,place:=((live mask ow).map (·.1)).toArray,dummies:=#[],finger:=fi,led,moves:=mo,plain:=pl },((live mask ow).map (·.2)).toArray):=by
  unfold laid;rw[SC,show(some (Ek (mask+1) (none:Option Nat),0))=some (Ek (mask+1) none,([]:List Int).length) from rfl,e]
  rfl
 have po:=SD O;rw[l] at po;refine⟨_,_,el,po,rfl,rfl,rfl,?_⟩
 have ml:∀x,x∈(live mask ow).map (·.1)↔x∈sl:=λx=>by
  rw[J1];constructor
  ·rintro⟨⟨j,k⟩,h,rfl⟩;exact K8 ((AV O).mp h)
  ·intro h;obtain⟨k,hk⟩:=Cp.mp h;exact⟨(x,k),(AV O).mpr hk,rfl⟩
 refine⟨by simp,rfl,hm,LY mask ow,λs h=>O.lim s ((ml s).mp h),?_,λi s h e1 e2=>?_⟩
 ·rw[B6,po.length_eq,Ao];exact hl
 ·have e1':((live mask ow).map (·.1))[i]?=some s:=e1;have e2':(((live mask ow).map (·.2)).map λk=>hs.toList.getD k 0)[i]?=some h:=e2;rw[G0] at e1';rw[G0,G0] at e2';cases ex:(live mask ow)[i]? with
  |none=>rw[ex] at e1';cases e1'
  | some y =>
   rw[ex] at e1' e2';have a1:y.1=s:=by simpa using e1'
   have a2:hs.toList.getD y.2 0=h:=by simpa using e2'
   have my:=(AV (j:=y.1) (k:=y.2) O).mp (K8 ex);have lk:y.2<hs.toList.length:=by rw[<- l];exact(J5.mp my).1
   have hk:hs.toList[y.2]?=some h:=by rw[<- a2,T3,D4 lk];rfl
   rw[a1] at my;exact(r y.2 s h my hk).mono λx hx=>(ml x).mpr hx
end SeT
end
section
namespace SeT
open PySem PySem.Spec PyProof.Rows L2
section
variable (prog:D2)(w:C9)
abbrev TK:HeapKind prog w (List Key):=tupleKind (K2 prog w)
def enS (x:List Key×A0):Int×A1:=((TK prog w).hash x.1,.ref x.2)
structure SetK (h:B7)(a:A0)(o:Obj)(es:Array (Int×A1))(ep:Nat)(t:Q5)(xs:List (List Key×A0)):Prop where
 ho:h.get? a=some o
 ex:o.ExactSet
 hd:o.data=.set es ep t
 hes:es.toList=xs.map (enS prog w)
 hk:∀x∈xs,(TK prog w).is h x.1 x.2
 nd:(xs.map (·.1)).Nodup
 tb:TOk t (xs.map λx=>(TK prog w).hash x.1)
 few:5*xs.length<3*t.mask
 led:t.led=!(w.params.followText "set-order")
end
section
variable {prog:D2}{w:C9}{A:D8}{E:A1->A6->Prop}{s:A6}{a:A0}{o:Obj}{es:Array (Int×A1)}{ep:Nat}{t:Q5}{xs:List (List Key×A0)}
theorem SetK.sz (S:SetK prog w h a o es ep t xs):es.size=xs.length:=by rw[<- O3,S.hes,B6]
theorem SetK.fits (S:SetK prog w h a o es ep t xs):t.fits es.size=true:=by
 have:=S.tb.fits;rw[B6] at this;rw[S.sz];exact this
theorem SetK.at (S:SetK prog w h a o es ep t xs){i:Nat}(e:xs[i]?=some y):es[i]?=some (enS prog w y):=by
 rw[<- T6,S.hes,G0,e];rfl
theorem LZ {vs:List A1}(h:ItemsAre (K2 prog w) ks vs):∀v∈vs,(∃i t,v=.int i t)\/∃x t,v=.str x t:=by
 induction h with
 |nil=>intro v hv;cases hv
 | @cons k v ks vs h1 _ ih =>
  intro u hu;rcases C3.mp hu with rfl|hu
  ·rcases Z0 h1 with⟨i,t,_,rfl⟩|⟨x,t,_,rfl⟩
   ·simp
   ·simp
  ·grind
theorem L_ (hk:(TK prog w).is s.heap k r)(h:Q false s):A7 (A8 prog w) A (ofAClassStatement 8 (.ref r)) Q E s:=by
 obtain⟨ob,items,n,e,c,d,jf⟩:=hk;unfold ofAClassStatement;refine A2 (Bb (⟨ob,e,c⟩:s.TypeIs (.ref r) "tuple") ?_);dsimp only;simp only[beq_self_eq_true,↓reduceIte];refine A2 (B0 ?_);simp only[Ar,M1,↓reduceIte];refine A2 (X0 e d ?_);dsimp only;refine A2 ?_;rw[<- Ej];refine DY _ (λrest r s'=>r.1=none/\s'=s/\∀v∈rest,(∃i t,v=.int i t)\/∃x t,v=.str x t) _ ?_ ?_ _ _ ⟨rfl,rfl,LZ jf⟩
 ·rintro v rest r s' ⟨hr,rfl,all⟩
  have e0:ofAClassStatement 7 v=pure false:=by
   rcases all v C8 with⟨i,t,rfl⟩|⟨x,t,rfl⟩ <;> rfl
  rw[e0];refine A2 (B0 ?_);simp only[M1,↓reduceIte];exact B0 ⟨rfl,rfl,λu hu=>all u (C5 _ hu)⟩
 ·rintro⟨r1,r2⟩ s' ⟨hr,rfl,_⟩;simp only at hr;subst hr;exact B0 h
theorem SF (hu:A.units<cLine)(hk:(TK prog w).is s.heap k r):∀(l:List A1),(∀v∈l,∃b kb,v=.ref b/\(TK prog w).is s.heap kb b)->∀{Q:Bool->A6->Prop},Q false s->A7 (A8 prog w) A (searchCouldBeSeen (.ref r) l) Q E s:=by
 intro l hl Q h;unfold searchCouldBeSeen;refine A2 ?_;refine DY _ (λrest r s'=>r.1=none/\s'=s/\∀v∈rest,∃b kb,v=.ref b/\(TK prog w).is s.heap kb b) _ ?_ ?_ _ _ ⟨rfl,rfl,hl⟩
 ·rintro v rest q s' ⟨hr,rfl,all⟩;obtain⟨b,kb,rfl,hb⟩:=all v C8;have fin:∀v∈rest,∃b kb,v=M3 b/\(TK prog w).is s'.heap kb b:=λu hu=>all u (C5 _ hu);dsimp only
  split
  ·exact B0 ⟨rfl,rfl,fin⟩
  ·refine A2 ((TK prog w).quiet hk ?_);simp only[Ar,M1,↓reduceIte];refine A2 ((TK prog w).quiet hb ?_);simp only[Ar,M1,↓reduceIte];refine A2 (L_ hk ?_);simp only[M1,↓reduceIte];refine A2 (L_ hb ?_);simp only[M1,↓reduceIte];exact B0 ⟨rfl,rfl,fin⟩
 ·rintro⟨r1,r2⟩ s' ⟨hr,rfl,_⟩;simp only at hr;subst hr;exact B0 h
theorem SG (h:Q true s):A7 (A8 prog w) A (isSame (.ref b) (.ref b)) Q E s:=by
 show A7 _ A (if(b == b)=true then pure true else _) Q E s;rw[jr (by simp)];exact B0 h
theorem SH {α:Type}{b:Bool}{m:Sem Bool}{u v:Sem α}{Q:α->A6->Prop}(hm:∀Q':Bool->A6->Prop,Q' false s->A7 (A8 prog w) A m Q' E s)(hv:A7 (A8 prog w) A v Q E s):A7 (A8 prog w) A (if b=true then(do let x ← m;if x=true then u else v) else v) Q E s:=by
 split
 ·refine A2 (hm _ ?_);simp only[M1,↓reduceIte];exact hv
 ·exact hv
theorem Ma {r:A0}{k:List Key}(hu:A.units < cLine)(S:SetK prog w s.heap a o es ep t xs)(hk:(TK prog w).is s.heap k r){K e:Nat}(hK:(lp t.mask ((TK prog w).hash k) K).1=e)(he:e∉t.place.toList)(hK2:K<=t.mask + 14){Q:SetFound->A6->Prop}
   (hQ1:k∈xs.map (·.1)->Q (.there none) s) (hQ2:∀sl,sl∉t.place.toList->sl<=t.mask->Rch t.mask (·∈t.place.toList) sl ((TK prog w).hash k)->k∉xs.map (·.1)->Q (.free sl false) s) :
   ∀ (fuel kk oo : Nat) (st : Option SetTable.Probe), st.getD (t.probeStart ((TK prog w).hash k)) = pb t.mask ((TK prog w).hash k) kk oo -> kk <= K -> (kk = K -> oo = 0) -> oo <= rn t.mask (lp t.mask ((TK prog w).hash k) kk).1 -> far K kk oo <= fuel ->
     (∀k' o',o'<=rn t.mask (lp t.mask ((TK prog w).hash k) k').1->Lx k' o' kk oo->∃(i:Nat) (y:List Key×A0),t.place.toList[i]?=some (vs t.mask ((TK prog w).hash k) k' o')/\xs[i]?=some y/\y.1≠k)->
     A7 (A8 prog w) A (setSearchFrom a (.ref r) ((TK prog w).hash k) true fuel st) Q E s
 | 0, kk, oo, st, _, h1, h2, h3, h4, _ => by
  have r9:=rn_9 t.mask (lp t.mask ((TK prog w).hash k) kk).1;unfold far at h4;have:¬kk=K:=λz=>by have:=h2 z;omega
  omega
 | fuel + 1, kk, oo, st, hst, h1, h2, h3, h4, done => by
  have farK:far K kk oo<=10*SetTable.turns t.mask:=by unfold far SetTable.turns;omega
  have hat:∀(i:Nat) x,(xs.map λx=>(TK prog w).hash x.1)[i]?=some x->(es[i]?.map (·.1)).getD 0=x:=λi x e=>by
   rw[G0] at e;cases ex:xs[i]? with
   |none=>rw[ex] at e;cases e
   | some y =>
    rw[ex] at e;rw[S.at ex];exact P0 e
  obtain⟨k2,o2,a1,a2,a3,a4,a5,a6⟩:=LV S.tb (λi=>(es[i]?.map (·.1)).getD 0) hat hK he (10*SetTable.turns t.mask) kk oo h1 h2 h3 farK
  have done2:∀k' o',o'<=rn t.mask (lp t.mask ((TK prog w).hash k) k').1->Lx k' o' k2 o2->∃(i:Nat) (y:List Key×A0),t.place.toList[i]?=some (vs t.mask ((TK prog w).hash k) k' o')/\xs[i]?=some y/\y.1≠k:=λk' o' p1 p2=>by
   by_cases c:Lx k' o' kk oo
   ·exact done k' o' p1 c
   ·obtain⟨i,x,q1,q2,q3⟩:=a5 k' o' p1 c p2;rw[G0] at q2;cases ex:xs[i]? with
    |none=>rw[ex] at q2;cases q2
    | some y =>
     rw[ex] at q2;have q2':(TK prog w).hash y.1=x:=by simpa using q2
     exact⟨i,y,q1,ex,λz=>q3 (by rw[<- q2',z])⟩
  unfold setSearchFrom;refine A2 (W9 S.ho S.hd S.fits ?_);dsimp only;rw[S.tb.odd];simp only[M1,↓reduceIte];refine A2 (B0 ?_);rw[hst];generalize hpr:t.probe _ ((TK prog w).hash k) (pb t.mask ((TK prog w).hash k) kk oo)=pr;rcases a6 with⟨em,ep2⟩|⟨i,hkK,pi,hi,ep2⟩
  ·have epr:pr=some (.empty (vs t.mask ((TK prog w).hash k) k2 o2) none):=by rw[<- hpr];exact ep2
   rw[epr];dsimp only;refine B0 (hQ2 _ em (IC a1) ⟨k2,o2,a1,rfl,λk' o' p1 p2=>?_⟩ λhin=>?_)
   ·obtain⟨i,y,q1,_⟩:=done2 k' o' p1 p2;exact K8 q1
   ·obtain⟨y,hy,ey⟩:=J1.mp hin;obtain⟨iy,hiy⟩:=Cp.mp hy
    obtain⟨sy,hsy⟩:∃sy,t.place.toList[iy]?=some sy:=by
     have:=(J5.mp hiy).1;have h2:=S.tb.size;rw[B6] at h2;exact⟨_,D4 (by omega)⟩
    obtain⟨ky,oy,b1,b2,b3⟩:=S.tb.reach iy sy ((TK prog w).hash k) hsy (by rw[G0,hiy];show some ((TK prog w).hash y.1)=_;rw[ey])
    -- the empty place is not ahead of y's
    have nl:¬Lx k2 o2 ky oy:=λz=>em (b3 k2 o2 a1 z);have ne:¬(k2=ky/\o2=oy):=λ⟨z1,z2⟩=>em (by rw[z1,z2,b2];exact K8 hsy)
    have lt:Lx ky oy k2 o2:=by
     rcases o8 ky k2 with c|c|c
     ·exact .inl c
     ·subst c;rcases o8 oy o2 with d|d|d
      ·exact .inr ⟨rfl,d⟩
      ·exact absurd ⟨rfl,d.symm⟩ ne
      ·exact absurd (.inr ⟨rfl,d⟩) nl
     ·exact absurd (.inl c) nl
    obtain⟨i',y',q1,q2,q3⟩:=done2 ky oy b1 lt;rw[b2] at q1
    have ii:i'=iy:=by
     obtain⟨l1,e1⟩:=J5.mp q1;obtain⟨l2,e2⟩:=J5.mp hsy;rcases o8 i' iy with c|c|c
     ·have:=V6.mp S.tb.rise _ _ l1 l2 c;omega
     ·exact c
     ·have:=V6.mp S.tb.rise _ _ l2 l1 c;omega
    rw[ii,hiy] at q2;cases q2;exact q3 ey
  ·have epr:pr=some (.candidate (vs t.mask ((TK prog w).hash k) k2 o2) i (pb t.mask ((TK prog w).hash k) (nx t.mask ((TK prog w).hash k) k2 o2).1 (nx t.mask ((TK prog w).hash k) k2 o2).2)):=by rw[<- hpr];exact ep2
   rw[epr];dsimp only
   obtain⟨y,hy⟩:∃y,xs[i]?=some y:=by
    rw[G0] at hi;cases ex:xs[i]? with
    |none=>rw[ex] at hi;cases hi
    |some y=>exact⟨y,rfl⟩
   have hyk:=S.hk y (K8 hy);have hey:=S.at hy;refine SH (λQ' h=>SF hu hk _ (λv hv=>?_) h) ?_
   ·obtain⟨z,hz,rfl⟩:=J1.mp hv
    have hz':z∈es.toList:=by
     rw[Array.toList_filter] at hz;exact(Q8.mp hz).1
    rw[S.hes] at hz';obtain⟨y',hy',rfl⟩:=J1.mp hz';exact⟨y'.2,y'.1,rfl,S.hk y' hy'⟩
   rw[hey];show A7 (A8 prog w) A (X2 [.ref y.2] (eqBool (.ref y.2) (.ref r))>>=_) Q E s;refine A2 (M8 ((TK prog w).eqBool hu hyk hk ?_));refine A2 (W9 S.ho S.hd S.fits ?_);dsimp only
   by_cases c:y.1=k
   ·rw[jp c];simp only[Bool.and_self,↓reduceIte];exact B0 (hQ1 (J1.mpr ⟨y,K8 hy,c⟩))
   ·rw[jq c];simp only[Bool.and_false,M1,↓reduceIte];have sm:t.sameMemory t.moves t.mask=some true:=by unfold SetTable.sameMemory;simp
    rw[sm];simp only[↓reduceIte];rw[S.tb.slot_live pi];dsimp only;rw[hey];show A7 (A8 prog w) A (isSame (.ref y.2) (.ref y.2)>>=_) Q E s;refine A2 (SG ?_);refine A2 (B0 ?_);simp only[↓reduceIte];obtain⟨f1,f2,f3⟩:=LU (K:=K) a1 hkK
    have fle:far K k2 o2<=far K kk oo:=by
     unfold far;have r9:=rn_9 t.mask (lp t.mask ((TK prog w).hash k) kk).1;rcases o8 k2 kk with c|c|c
     ·exact absurd (.inl c) a4
     ·subst c;have:¬o2<oo:=λz=>a4 (.inr ⟨rfl,z⟩);omega
     ·omega
    refine Ma hu S hk hK he hK2 hQ1 hQ2 fuel _ _ _ rfl f2 f3 (nx_ok a1) (by omega) λk' o' p1 p2=>?_;rcases nx_lx a1 p1 p2 with q|⟨rfl,rfl⟩
    ·exact done2 k' o' p1 q
    ·exact⟨i,y,pi,hy,c⟩
end
end SeT
end
section
namespace SeT
open PySem PySem.Spec PyProof.Rows L2
section
variable {prog:D2}{w:C9}{A:D8}{E:A1->A6->Prop}{s:A6}{a:A0}{o:Obj}{es:Array (Int×A1)}{ep:Nat}{t:Q5}{xs:List (List Key×A0)}
theorem hbv (hk:(TK prog w).is s.heap k r)(h:∀b,Q b s):A7 (A8 prog w) A (hashByValue 8 (.ref r)) Q E s:=by
 have hT:s.TypeIs (.ref r) "tuple":=IsTupleKey.typeIs hk;obtain⟨ob,items,n,e,c,d,jf⟩:=hk;unfold hashByValue;refine A2 (Ci hT F.slot_tuple_hash.lookup ?_);dsimp only;refine A2 (X0 e d ?_);refine A2 ?_;show A7 _ _ (forIn items _ _) _ _ s;rw[<- Ej];refine DY _ (λrest q s'=>q.1=none/\s'=s/\∀v∈rest,(∃i t,v=.int i t)\/∃x t,v=.str x t) _ ?_ ?_ _ _ ⟨rfl,rfl,LZ jf⟩
 ·rintro v rest q s' ⟨hr,rfl,all⟩
  have e0:∃b,hashByValue 7 v=pure b:=by
   rcases all v C8 with⟨i,t,rfl⟩|⟨x,t,rfl⟩
   ·exact⟨true,rfl⟩
   ·exact⟨false,rfl⟩
  obtain⟨b,e0⟩:=e0;rw[e0];refine A2 (B0 ?_);cases b with
  | true =>
   simp only[Ar,M1,↓reduceIte];exact B0 ⟨rfl,rfl,λu hu=>all u (C5 _ hu)⟩
  | false =>
   simp only[Bool.not_false,↓reduceIte];exact B0 (B0 (h _))
 ·rintro⟨r1,r2⟩ s' ⟨hr,rfl,_⟩;simp only at hr;subst hr;exact B0 (h _)
theorem Mb (hk:(TK prog w).is h k r)(ho:h.get? a=some o)(ex:o.ExactSet)(sb:V4 a h h'):(TK prog w).is h' k r:=by
 obtain⟨ob,items,n,e,c,d,jf⟩:=hk
 have ne:r≠a:=λz=>by
  rw[z,ho] at e;cases e;rw[ex.1] at c;exact absurd c (by decide)
 exact⟨ob,items,n,(sb.2 r ne).trans e,c,d,jf⟩
theorem TOk.pl (T:TOk t hs)(b:Bool):TOk { t with plain:=b } hs:=⟨T.size,T.dum,T.mask,T.rise,T.lim,T.room,T.reach⟩
theorem SI (hm:Msk m)(h:5*n<3*m):n+1<m:=by grind [Msk]
theorem Mc {h:B7}(ho:h.get? a=some o)(hd:o.data=.set es ep t):(h.update a (Obj.putSet es' t')).get? a=some { o with data:=.set es' (ep+1) t' }:=by
 have:=Bd (Obj.putSet es' t') ho (by rw[putSet_of es' t' hd];rfl);rw[putSet_of es' t' hd] at this;exact this
theorem Md {α β:Type}(f:α->β)(l:List α)(p:Nat)(x:α):(insL l p x).map f=insL (l.map f) p (f x):=by simp[insL]
theorem SJ {α:Type}(l:List α)(p:Nat)(x:α):(insL l p x).Perm (x::l):=by
 unfold insL;have h1:(l.take p++x::l.drop p).Perm (x::(l.take p++l.drop p)):=List.perm_middle
 simp_all
theorem Me {α:Type}(l:List α)(ord:List Nat)(d:α)(p:ord.Perm (E9 l.length)):ord.filterMap (λk=>l[k]?)=ord.map (λk=>l.getD k d)/\(ord.map λk=>l.getD k d).Perm l:=by
 have lt:∀k∈ord,k<l.length:=λk hk=>O1.mp (p.mem_iff.mp hk);constructor
 ·clear p
  induction ord with
  |nil=>rfl
  | cons k ord ih =>
   have hk:=lt k C8;rw[Cr,D4 hk,G9,ih λj hj=>lt j (C5 _ hj),T3,D4 hk]
   rfl
 ·have h1:=p.map λk=>l.getD k d
  have h2:(E9 l.length).map (λk=>l.getD k d)=l:=by
   apply List.ext_getElem?
   intro i;rw[G0]
   by_cases c:i<l.length
   ·grind
   ·grind
  rw[h2] at h1;exact h1
theorem relay (ho:s.heap.get? a=some o)(ex:o.ExactSet)(hd:o.data=.set es ep t)(hes:es.toList=xs.map (enS prog w))(hk:∀x∈xs,(TK prog w).is s.heap x.1 x.2)(nd:(xs.map (·.1)).Nodup)(tb:TOk t (xs.map λx=>(TK prog w).hash x.1))(led:t.led=!(w.params.followText "set-order"))
   (hn:n=xs.length) (hfull:(t.mask=7/\n=5)\/(t.mask=31/\n=19))
   (h:∀h' o' es' ep' t' xs',V4 a s.heap h'->SetK prog w h' a o' es' ep' t' xs'->xs'.Perm xs->Q () { s with heap:=h' }):A7 (A8 prog w) A (setRelay a (CL n)) Q E s:=by
 have sz:es.size=xs.length:=by rw[<- O3,hes,B6]
 have fit:t.fits es.size=true:=by
  have:=tb.fits;rw[B6] at this;rw[sz];exact this
 obtain⟨m',hm',sa,fewm,lt⟩:∃m',Msk m'/\SetTable.sizeAbove (CL n)-1=m'/\5*n<3*m'/\SetTable.sizeAbove (CL n)<=128:=by
  rcases hfull with⟨_,rfl⟩|⟨_,rfl⟩
  ·exact⟨31,.inr (.inl rfl),by decide,by decide,by decide⟩
  ·exact⟨127,.inr (.inr rfl),by decide,by decide,by decide⟩
 have hsl:(es.map (·.1)).toList=xs.map λx=>(TK prog w).hash x.1:=by
  rw[Array.toList_map,hes,U6];rfl
 have hll:(es.map (·.1)).toList.length=n:=by rw[hsl,B6,hn]
 obtain⟨t',ord,el,po,l1,l2,l3,T'⟩:=SE (fi:=t.finger) (mo:=t.movedTo m') (led:=t.led) (pl:=t.plain) hm' (es.map (·.1)) (by grind)
 have er:t.relaid (es.map (·.1)) (CL n)=some (t',ord):=by
  unfold SetTable.relaid;rw[sa];exact el
 rw[hll] at po;have po':ord.toList.Perm (E9 xs.length):=by rw[<- hn];exact po
 obtain⟨x0,hx0⟩:∃x0:List Key×A0,True:=⟨([],0),trivial⟩;have ol:=Me xs ord.toList x0 po';have lt2:∀k∈ord.toList,k<xs.length:=λk hk=>O1.mp (po'.mem_iff.mp hk)
 have es2:(ord.filterMap (es[·]?)).toList=(ord.toList.map λk=>xs.getD k x0).map (enS prog w):=by
  rw[Array.toList_filterMap,U6]
  have:∀l:List Nat,(∀k∈l,k < xs.length)->l.filterMap (fun k=>es[k]?)=l.map ((enS prog w)∘fun k=>xs.getD k x0):=by
   intro l
   induction l with
   |nil=>intro _;rfl
   | cons k l ih =>
    intro hl;have hk:=hl k C8
    have e1:es[k]?=some (enS prog w (xs.getD k x0)):=by
     rw[<- T6,hes,G0,D4 hk,T3,D4 hk];rfl
    rw[Cr,e1,G9,ih λj hj=>hl j (C5 _ hj)]
    rfl
  exact this ord.toList lt2
 have z2:(ord.filterMap (es[·]?)).size=es.size:=by
  rw[<- O3,es2,B6,B6,po'.length_eq,Ao,sz]
 unfold setRelay;refine A2 (W9 ho hd fit ?_);dsimp only;rw[jt (by rw[L0];omega),er]
 show A7 (A8 prog w) A ((do
  let es':=ord.filterMap (es[·]?)
  if es'.size != es.size then unsupported "internal:set-table-lost-an-element"
  pure (es',t'))>>=λ(x:Array (Int×A1)×Q5)=>storeSet a x.1 x.2) Q E s
 dsimp only;rw[jt (by grind)];refine A2 (A2 (B0 (B0 ?_)));have fz:(ord.filterMap (es[·]?)).size<=C2:=by rw[z2,sz,<- hn,L0];rcases hfull with⟨_,rfl⟩|⟨_,rfl⟩ <;> decide
 refine wpAny_storeSet_of ho hd ?_ fz;have sb:=R7 s.heap a (Obj.putSet (ord.filterMap (es[·]?)) t');have pk:=po';refine h _ _ _ _ _ (ord.toList.map λk=>xs.getD k x0) sb ⟨Mc ho hd,ex,rfl,es2,λx hx=>?_,?_,?_,?_,by rw[l1];exact led⟩ ol.2
 ·exact Mb (hk x (ol.2.mem_iff.mp hx)) ho ex sb
 ·grind
 ·have e3:(ord.toList.map λk=>xs.getD k x0).map (λx=>(TK prog w).hash x.1)=ord.toList.map λk=>(es.map (·.1)).toList.getD k 0:=by
   rw[U6,hsl];refine List.map_congr_left λk hk=>?_;have hk':=lt2 k hk;show(TK prog w).hash (xs.getD k x0).1=_;rw[T3,T3,G0,D4 hk'];rfl
  rw[e3];exact T'
 ·rw[B6,po'.length_eq,Ao,<- hn];show 5*n<3*t'.mask;omega
theorem add (hu:A.units<cLine)(S:SetK prog w s.heap a o es ep t xs)(hk:(TK prog w).is s.heap k r)(h63:xs.length+1<=63)
   (h1:k∈xs.map (·.1)->Q false s) (h2:k∉xs.map (·.1)->∀h' o' es' ep' t' xs',V4 a s.heap h'->SetK prog w h' a o' es' ep' t' xs'->xs'.Perm ((k,r)::xs)->Q true { s with heap:=h' }) :
   A7 (A8 prog w) A (setAddHashed a (.ref r) ((TK prog w).hash k)) Q E s:=by
 unfold setAddHashed setAddHashedIn;refine M8 (A2 (W9 S.ho S.hd S.fits ?_));dsimp only;have nb:byScan (.ref r) es=false:=by unfold byScan Value.scannable;simp
 rw[nb];simp only[M1,↓reduceIte];obtain⟨e,he1,he2⟩:=S.tb.free;obtain⟨K,hK1,hK2⟩:=goes S.tb.mask ((TK prog w).hash k) he1
 have f0:far K 0 0<=100000:=by
  unfold far;rcases S.tb.mask with z|z|z <;> rw[z] at hK1 <;> omega
 refine A2 ?_;unfold setSearch;refine Ma hu S hk hK2 he2 hK1 (λhin=>?_) (λsl n1 n2 n3 n4=>?_) 100000 0 0 none rfl (K4 _) (λ_=>rfl) (K4 _) f0 (λk' o' _ l=>?_)
 ·exact B0 (h1 hin)
 ·dsimp only;refine A2 (W9 S.ho S.hd S.fits ?_);have hr:=SI S.tb.mask (by have:=S.few;exact this);obtain⟨p1,p2,p3,p4,T1⟩:=S.tb.put n1 n2 n3 (by grind);rw[B6] at p2;have ek:insL (xs.map λx=>(TK prog w).hash x.1) (t.put sl).2 ((TK prog w).hash k)=(insL xs (t.put sl).2 (k,r)).map λx=>(TK prog w).hash x.1:=(Md (λx:List Key×A0=>(TK prog w).hash x.1) xs (t.put sl).2 (k,r)).symm;rw[ek] at T1
  have es1:(SetTable.insertAt es (t.put sl).2 ((TK prog w).hash k,.ref r)).toList=(insL xs (t.put sl).2 (k,r)).map (enS prog w):=by
   rw[LS _ _ _ (by rw[S.sz];exact p2),S.hes,Md];rfl
  have pm:=SJ xs (t.put sl).2 (k,r);have mk1:(t.put sl).1.mask=t.mask:=rfl
  have nd1:((insL xs (t.put sl).2 (k,r)).map (·.1)).Nodup:=by
   refine((pm.map (·.1)).nodup_iff).mpr ?_;rw[G9,Q9];exact⟨n4,S.nd⟩
  have hk1:∀x∈insL xs (t.put sl).2 (k,r),(TK prog w).is s.heap x.1 x.2:=λx hx=>by
   rcases C3.mp (pm.mem_iff.mp hx) with rfl|hx
   ·exact hk
   ·exact S.hk x hx
  have len1:(insL xs (t.put sl).2 (k,r)).length=xs.length+1:=BX _ _ _
  have fill1:∀b,({ (t.put sl).1 with plain:=b }:Q5).fill=xs.length+1:=λb=>by
   show(t.put sl).1.place.size+(t.put sl).1.dummies.size=_;rw[T1.dum,<- O3,T1.size,B6,len1];rfl
  dsimp only;generalize (t.put sl).2=p at *;generalize ht1:(t.put sl).1=t1 at *;generalize hes1:SetTable.insertAt es p ((TK prog w).hash k,.ref r)=esN at *;generalize hxs1:insL xs p (k,r)=xs1 at *
  -- what follows, whatever is said of the hash
  have tail:∀b:Bool,A7 (A8 prog w) A (do
      storeSet a esN { t1 with plain:=b }
      if(!false&&({ t1 with plain:=b }:Q5).tooFull)=true then do
       setRelay a (CL (es.size+1))
       pure true
      else pure true) Q E s:=λb=>by
    have ez:esN.size<=C2:=by rw[<- O3,es1,B6,len1,L0];omega
    refine A2 (wpAny_storeSet_of S.ho S.hd ?_ ez);have sb:=R7 s.heap a (Obj.putSet esN { t1 with plain:=b });have hk2:∀x∈xs1,(TK prog w).is (s.heap.update a (Obj.putSet esN { t1 with plain:=b })) x.1 x.2:=λx hx=>Mb (hk1 x hx) S.ho S.ex sb;have ob:=Mc (es':=esN) (t':={ t1 with plain:=b }) S.ho S.hd;have T2:=TOk.pl T1 b
    by_cases c:({ t1 with plain:=b }:Q5).tooFull=true
    ·rw[jr (by grind)]
     have c':(xs.length+1)*5>=t.mask*3:=by
      unfold SetTable.tooFull at c;rw[fill1 b] at c;have:=ju c;rw[<- mk1];exact this
     have few:=S.few;refine A2 (relay (n:=es.size+1) ob S.ex rfl es1 hk2 nd1 T2 (by show t1.led=_;rw[p4];exact S.led) (by rw[S.sz,len1]) ?_ λh' o' es' ep' t' xs' sb' S' p'=>?_)
     ·show(t1.mask=7/\_)\/(t1.mask=31/\_);rw[mk1,S.sz];rcases S.tb.mask with z|z|z
      ·omega
      ·omega
      ·omega
     ·exact B0 (h2 n4 _ _ _ _ _ _ (sb.trans sb') S' (p'.trans pm))
    ·rw[jt (by grind)];refine B0 (h2 n4 _ _ _ _ _ xs1 sb ⟨ob,S.ex,rfl,es1,hk2,nd1,T2,?_,by show t1.led=_;rw[p4];exact S.led⟩ pm)
     have:¬((xs.length+1)*5>=t.mask*3):=λz=>c (by
      unfold SetTable.tooFull;rw[fill1 b]
      exact jp (by grind))
     show 5*xs1.length<3*t1.mask;rw[len1,mk1];omega
  split
  ·refine A2 (hbv hk λb=>?_);cases b with
   | true =>
    simp only[↓reduceIte];exact tail t1.plain
   | false =>
    simp only[M1,↓reduceIte];exact tail false
  ·refine A2 (B0 ?_);simp only[↓reduceIte];exact tail t1.plain
 ·rcases l with l|⟨_,l⟩
  ·grind
  ·omega
end
end SeT
end
section
namespace SeT
open PySem PySem.Spec PyProof.Rows L2
def Holds (prog:D2)(w:C9)(h:B7)(S:A0)(rs:List (List Key×A0)):Prop:=
 ∃o es ep t xs,SetK prog w h S o es ep t xs/\(∀x∈xs,x∈rs)/\∀x∈rs,x.1∈xs.map (·.1)
theorem FB (hk:(TK prog w).is h k r)(kp:∀o,h.get? r=some o->h'.get? r=some o):(TK prog w).is h' k r:=by
 obtain⟨ob,items,n,e,c,d,jf⟩:=hk;exact⟨ob,items,n,kp _ e,c,d,jf⟩
theorem SetK.at' (S:SetK prog w h a o es ep t xs)(k0:h'.get? a=some o)(kp:∀x∈xs,∀o,h.get? x.2=some o->h'.get? x.2=some o):SetK prog w h' a o es ep t xs:=
 ⟨k0,S.ex,S.hd,S.hes,(λx hx=>FB (S.hk x hx) (kp x hx)),S.nd,S.tb,S.few,S.led⟩
theorem Holds.at' (S:Holds prog w h a rs)(k0:∀o,h.get? a=some o->h'.get? a=some o)(kp:∀x∈rs,∀o,h.get? x.2=some o->h'.get? x.2=some o):Holds prog w h' a rs:=by
 obtain⟨o,es,ep,t,xs,S1,S2,S3⟩:=S;exact⟨o,es,ep,t,xs,S1.at' (k0 o S1.ho) λx hx=>kp x (S2 x hx),S2,S3⟩
theorem Holds.len {xs rs:List (List Key×A0)}(S:SetK prog w h a o es ep t xs)(hs:∀x∈xs,x∈rs):xs.length<=rs.length:=by
 have n1:xs.Nodup:=(n6.mp S.nd).imp λh e=>h (by rw[e]);exact n1.length_le_of_subset hs
section
variable {prog:D2}{w:C9}{A:D8}{R:Result->A6->Prop}{I:A0}{fp wr:List A0}{G:Array GenState->Array GenState->Prop}{n:Nat}{P:Nat->A1->Prop}{St:Nat->A6->Prop}
theorem SK {rs:List (List Key×A0)}(hy:rs[i]?=some y)(S1:SetK prog w h S o es ep t xs)(S2:∀x∈xs,x∈rs.take i)(S3:∀x∈rs.take i,x.1∈xs.map (·.1))(hin:y.1∈xs.map (·.1)):Holds prog w h S (rs.take (i+1)):=by
 have e:rs.take (i+1)=rs.take i++[y]:=by rw[List.take_succ,hy];rfl
 rw[e];exact⟨o,es,ep,t,xs,S1,λx hx=>w8 _ (S2 x hx),λx hx=>(K9.mp hx).elim (S3 x) λz=>by rw[J6.mp z];exact hin⟩
theorem SL (Wk:WalksS prog w A.in1 I fp wr G n P St)(S:A0)(nf:S∉fp)(rs:List (List Key×A0))(hn:rs.length=n)(hv:∀i v,P i v->∃y,rs[i]?=some y/\v=.ref y.2)(ap:∀y∈rs,y.2∉wr/\y.2≠S)(hu:A.in1.units<cLine)(room:n<=63) :
   ∀ (k i : Nat) (s : A6), n - i = k -> i <= n -> St i s -> (∀ y ∈ rs, (TK prog w).is s.heap y.1 y.2) -> Holds prog w s.heap S (rs.take i) ->
     (∀s',Moved (S::wr) G s s'->Holds prog w s'.heap S rs->R (.ok (.ret .none)) s')->
     O0 (A8 prog w) A (.builtin "set.update.loop" ⟨[.ref S,.ref I],[]⟩) R s:=by
 have nw:S∉wr:=λh=>nf (Wk.sub _ h);have sub:∀b∈wr,b∈S::wr:=λb hb=>C5 _ hb;intro k
 induction k with
 | zero =>
  intro i s hk hi st jf so fin;have ei:i=n:=by omega
  subst ei;refine l4 Ep ?_;rw[x5 Av _];refine A2 (m:=pyNext (.ref I)) (Wk.done s _ _ st λs' mv=>?_);refine B0 (fin s' (mv.mono sub) ?_);rw[l8 (by omega)] at so;exact so.at' (λo e=>mv.heap S _ nw e) λx hx o e=>mv.heap _ _ (ap x hx).1 e
 | succ k ih =>
  intro i s hk hi st jf so fin;have lt:i<n:=by omega
  refine l4 Ep ?_;rw[x5 Av _];refine A2 (m:=pyNext (.ref I)) (Wk.item i s _ _ lt st λv s' pv' st' mv=>?_);obtain⟨y,hy,rfl⟩:=hv i v pv';have my:y∈rs:=K8 hy;have its':∀y∈rs,(TK prog w).is s'.heap y.1 y.2:=λy hy=>FB (jf y hy) λo e=>mv.heap _ _ (ap y hy).1 e;have so':Holds prog w s'.heap S (rs.take i):=so.at' (λo e=>mv.heap S _ nw e) λx hx o e=>mv.heap _ _ (ap x (Cq hx)).1 e;refine A2 (m:=X2 [.ref y.2] (setAdd S (.ref y.2))) (M8 ?_);unfold setAdd;refine M8 (A2 ((TK prog w).pyHash hu (its' y my) ?_));obtain⟨o,es,ep,t,xs,S1,S2,S3⟩:=so'
  have l63:xs.length+1<=63:=by
   have:=Holds.len S1 S2;rw[T5] at this;omega
  have next:∀h',V4 S s'.heap h'->Holds prog w h' S (rs.take (i+1))->O0 (A8 prog w) A (.builtin "set.update.loop" ⟨[.ref S,.ref I],[]⟩) R { s' with heap:=h',toks:=s'.toks+(TK prog w).draws y.1 }:=λh' sb so3=>by
   refine ih (i+1) _ (by omega) lt (Wk.frame _ s' _ _ st' (Nat.le_add_right _ _) λb hb o e=>?_) (λz hz=>FB (its' z hz) λo e=>?_) so3 λs2 mv2 so4=>?_
   ·rw[sb.2 b (λz:b=S=>nf (by grind))];exact e
   ·rw[sb.2 z.2 (ap z hz).2];exact e
   ·refine fin s2 (Moved.trans Wk.gtrans ((mv.mono sub).then_heap (Nat.le_add_right _ _) λb o hb e=>?_) mv2) so4;rw[sb.2 b (λz:b=S=>hb (by grind))];exact e
  refine add (s:={ s' with toks:=s'.toks+(TK prog w).draws y.1 }) hu S1 (its' y my) l63 (λhin=>?_) λhin h' o' es' ep' t' xs' sb S1' pm=>?_
  ·exact B0 ⟨w6 Av _,next s'.heap (Heap.SameBut.refl _ _) (SK hy S1 S2 S3 hin)⟩
  ·refine B0 ⟨w6 Av _,next h' sb ⟨o',es',ep',t',xs',S1',λx hx=>?_,λx hx=>?_⟩⟩
   ·rw[List.take_succ,hy];rcases C3.mp (pm.mem_iff.mp hx) with rfl|z
    ·grind
    ·grind
   ·rw[List.take_succ,hy] at hx;rw[(pm.map (·.1)).mem_iff,G9];rcases K9.mp hx with z|z
    ·grind
    ·grind
end
end SeT
end
section
namespace SeT
open PySem PySem.Spec PyProof.Rows L2
section
variable {prog:D2}{w:C9}{A:D8}{E:A1->A6->Prop}{s:A6}
theorem SM (h:B7)(S:A0)(led:Bool)(hl:led=!(w.params.followText "set-order"))(e:h.get? S=some { cls:=.type "set",dict:=none,data:=.set #[] 0 (.fresh 0 0 led) }):Holds prog w h S []:=by
 refine⟨_,#[],0,.fresh 0 0 led,[],⟨e,⟨rfl,rfl,rfl⟩,rfl,rfl,(λ_ z=>nomatch z),by simp,⟨rfl,rfl,.inl rfl,by unfold Rise;exact Gv,(λ_ z=>nomatch z),(show 0<7 by decide),λi s h e=>?_⟩,(show 5*0<3*7 by decide),hl⟩,(λ_ z=>nomatch z),λ_ z=>nomatch z⟩
 grind
theorem Mf (hd:A.handled=none)(hu:A.units+64<cLine)(ht:s.heap.IsList a jf\/s.heap.IsTuple a jf)(hv:jf.toList=rs.map λy=>M3 y.2)(hk:∀y∈rs,(TK prog w).is s.heap y.1 y.2)(room:rs.length<=63)
   (fin:∀(h':B7) (tk:Nat),Holds prog w h' s.heap.objs.size rs->
     (∀b o,b<s.heap.objs.size->s.heap.get? b=some o->h'.get? b=some o)->Q (.ref s.heap.objs.size) { s with heap:=h',toks:=tk }):A7 (A8 prog w) A (call (.type "set") [.ref a]) Q E s:=by
 have sz:rs.length=jf.size:=by rw[<- O3,hv,B6]
 have lo:∀y∈rs,y.2<s.heap.objs.size:=λy hy=>by
  obtain⟨ob,items,n,e,_⟩:=hk y hy;exact D1 e
 refine KQ hd ht (λI St fp G s1 R led hl lI Wk nf h0 g1 kp k=>?_) fin;refine SL Wk _ nf rs sz (λi v e=>?_) (λy hy=>⟨λz=>?_,E3 (lo y hy)⟩) (by grind) (by omega) (jf.size-0) 0 s1 rfl (K4 _) h0 (λy hy=>FB (hk y hy) λo e=>kp _ _ e) (SM _ _ led hl g1) k
 ·rw[<- T6,hv,G0] at e;cases er:rs[i]? with
  |none=>rw[er] at e;cases e
  |some y=>rw[er] at e;cases e;exact⟨y,rfl,rfl⟩
 grind
end
end SeT
end
section
namespace SeT
open PySem PySem.Spec PyProof.Rows L2
theorem Z7:Slot "set_iterator" "__next__" "set_iterator.__next__":=.of (owner:="set_iterator") (n:="__next__")
 (by rw[typeLookup_type,builtinLookup_eq_fast];kernel_rfl)
 (by decide +kernel)
 (by decide +kernel)
 (by decide +kernel)
 (by first|exact .inl (by decide +kernel)|exact .inr (by grind))
 (by rw[w4];kernel_rfl)
theorem Mg:Slot "set_iterator" "__iter__" "set_iterator.__iter__":=.of (owner:="set_iterator") (n:="__iter__")
 (by rw[typeLookup_type,builtinLookup_eq_fast];kernel_rfl)
 (by decide +kernel)
 (by decide +kernel)
 (by decide +kernel)
 (by first|exact .inl (by decide +kernel)|exact .inr (by grind))
 (by rw[w4];kernel_rfl)
theorem FC:entryFor table "set_iterator.__next__"=some N5.«set_iterator.__next__»:=entryFor_of_tree (by kernel_rfl)
theorem SN:entryFor table "set_iterator.__iter__"=some N5.«dict_keyiterator.__iter__»:=
 entryFor_alias (id':="dict_keyiterator.__iter__") (by kernel_rfl) rfl (by decide +kernel) (by kernel_rfl)
theorem SO:entryFor table "set.__iter__"=some N5.«frozenset.__iter__»:=
 entryFor_alias (id':="frozenset.__iter__") (by kernel_rfl) rfl (by decide +kernel) (by kernel_rfl)
theorem ow_it:Manifest.owners.lookup (String.ofList (['r','o','t','a','r','e','t','i','_','t','e','s']).reverse)=some Manifest.sig_set_iterator:=by kernel_rfl
theorem FD (x:A1):argsOk "set_iterator.__next__" ⟨[x],[]⟩:=rfl
theorem SQ (x:A1):argsOk "set_iterator.__iter__" ⟨[x],[]⟩:=rfl
theorem IG {α:Type}:∀(l:List α) (i:Nat) (x:α),l[i]?=some x->(x::l.eraseIdx i).Perm l
 |[],i,x,e=>by simp at e
 | y :: l, 0, x, e => by
  have:y=x:=by simpa using e
  rw[this];exact .refl _
 | y :: l, i + 1, x, e => by
  have h:=IG l i x (by simpa using e);show(x::y::l.eraseIdx i).Perm (y::l);exact(List.Perm.swap y x _).trans (h.cons y)
theorem Mh {α:Type}(next:Nat->Nat):∀(fuel k:Nat) (left:List α) (out:Array α),fuel=left.length->(pickOrder.go next fuel k left out).toList.Perm (out.toList++left)
 | 0, k, left, out, h => by
  have:left=[]:=Ec h.symm;subst this;unfold pickOrder.go;rw[Y6]
 | fuel + 1, k, left, out, h => by
  have lt:next k%left.length<left.length:=Nat.mod_lt _ (by omega)
  have e:left[next k%left.length]?=some left[next k%left.length]:=D4 lt;unfold pickOrder.go;rw[e];dsimp only;have le:(left.eraseIdx (next k%left.length)).length=fuel:=by rw[List.length_eraseIdx_of_lt lt];omega
  refine(Mh next fuel (k+1) _ _ le.symm).trans ?_;rw[Array.toList_push,X4];exact List.Perm.append_left _ (IG _ _ _ e)
theorem SS {α:Type}(next:Nat->Nat)(xs:Array α):(pickOrder next xs).toList.Perm xs.toList:=by
 have:=Mh next xs.size 0 xs.toList #[] (by simp)
 exact this
section
variable {prog:D2}{w:C9}{A:D8}{E:A1->A6->Prop}{s:A6}
theorem chosen (hn:0<n)(h:∀i d,i<n->Q i { s with drawn:=d }):A7 (A8 prog w) A (choose src n) Q E s:=by
 intro Γ p _;unfold choose;rw[Sem.wp];refine⟨by omega,?_⟩;rw[Sem.wp];exact h _ _ (Nat.mod_lt _ hn)
theorem Mi {α:Type}:∀(n:Nat) (xs:List α) (s:A6) (Q:List α->A6->Prop),n=xs.length->(∀ys d,ys.Perm xs->Q ys { s with drawn:=d })->A7 (A8 prog w) A (drawOrder n xs) Q E s
 | 0, xs, s, Q, hn, h => by
  have:xs=[]:=Ec hn.symm;subst this;exact B0 (h [] s.drawn (.refl _))
 |n+1,[],s,Q,hn,h=>by simp at hn
 | n + 1, x :: xs, s, Q, hn, h => by
  unfold drawOrder;refine A2 (chosen (by simp) λi d hi=>?_);have e:(x::xs)[i]?=some (x::xs)[i]:=D4 hi;rw[e];dsimp only;have le:((x::xs).eraseIdx i).length=n:=by rw[List.length_eraseIdx_of_lt hi];omega
  refine A2 (Mi n _ _ _ le.symm λys d2 hp=>B0 ?_);exact h _ d2 ((hp.cons _).trans (IG _ _ _ e))
def R3 (h:B7)(I a:A0)(fst:A1)(i n ep:Nat):Prop:=∃o,h.get? I=some o/\o.cls=.type "set_iterator"/\o.data=.fields #[fst,.int i 0,.ref a,.int n 0,.int ep 0]
theorem R3.ty (x:R3 s.heap I a fst i n ep):s.TypeIs (.ref I) "set_iterator":=by
 obtain⟨o,ho,hc,_⟩:=x;exact⟨o,ho,hc⟩
theorem R3.at' (x:R3 h I a fst i n ep)(e:∀o,h.get? I=some o->h'.get? I=some o):R3 h' I a fst i n ep:=by grind [R3]
theorem R3.put (x:R3 h I a fst i n ep)(k:Nat)(v:A1):∃o,(h.update I (Obj.mapFields (·.setIfInBounds k v))).get? I=some o/\o.cls=.type "set_iterator"/\o.data=.fields (#[fst,.int i 0,.ref a,.int n 0,.int ep 0].setIfInBounds k v):=by
 obtain⟨o,ho,hc,hd⟩:=x;exact⟨_,Bd _ ho (Obj.isFreed_of_fields (Em hd _)),(Obj.cls_mapFields ..).trans hc,Em hd _⟩
theorem Mj (x:R3 s.heap I a fst i n ep)(h:Q (.ref I) s):A7 (A8 prog w) A (pyIter (.ref I)) Q E s:=by
 refine wpAny_pyIter_slot x.ty Mg (R5 Mg x.ty SN (show A7 (A8 prog w) _ (ret (.ref I)) _ _ s from ?_) (SQ _));exact B0 ⟨_,rfl,"set_iterator",_,x.ty,Z7.lookup,h⟩
theorem Ml {Q:Option A1->A6->Prop}(hh:A.handled=none)(h:∀h',(∀b o,h1.get? b=some o->h'.get? b=some o)->Q none { s with heap:=h' }) :
   A7 (A8 prog w) A.in1 ((newExc (.type "StopIteration") []>>=λx=>raiseNew x:Sem PySem.Fin)) Q0 (λe s'=>A7 (A8 prog w) A (do if ← isInstance e (.type "StopIteration") then pure none else throw e) Q E s') { s with heap:=h1 }:=by
 refine A2 ?_;simp only[newExc,newTuple];refine A2 (T9 ?_ (by size_fits));refine A2 (m:=firstArgMember _ _) (U2 (a:=T7) (by first|rfl|(simp only[firstArgMember];rfl)) ?_);refine T9 ?_ (by size_fits);simp only[raiseNew];refine A2 (wpAny_handled ?_);rw[show A.in1.handled=none from hh];refine A2 (B0 (wpAny_throw ?_));refine A2 (wpAny_isInstance (T:="StopIteration") (b:=true) ⟨_,G7 _ rfl,rfl⟩ isSubtype_stop ?_);exact B0 (h _ λb o e=>C7 _ (C7 _ e))
end
end SeT
end
section
namespace SeT
open PySem PySem.Spec PyProof.Rows L2
section
variable {prog:D2}{w:C9}{A:D8}{E:A1->A6->Prop}{s:A6}{I a:A0}{n i ep:Nat}{o:Obj}{es:Array (Int×A1)}{t:Q5}
theorem SU {slot nx:Nat}(hit:R3 s.heap I a (.int slot 0) i n ep)(ho:s.heap.get? a=some o)(hd:o.data=.set es ep t)(hf:t.fits es.size=true)(hn:es.size=n)
   (hs:∀(A:D8) (E:A1->A6->Prop) (Q':Option (A1×Nat)->A6->Prop),Q' (some (x,nx)) s->A7 (A8 prog w) A (setNext a slot i ep) Q' E s)
   (hQ:∀h',R3 h' I a (.int nx 0) (i+1) n ep->V4 I s.heap h'->Q (some x) { s with heap:=h' }):A7 (A8 prog w) A (pyNext (.ref I)) Q E s:=by
 obtain⟨oi,hoi,hci,hdi⟩:=id hit;unfold pyNext;refine A2 (Aj (Z8 (name:=A5 "__next__") hit.ty Z7 (R5 Z7 hit.ty FC ?_ (FD _))));unfold N5.«set_iterator.__next__»;refine A2 (B0 ?_);refine A2 (wpAny_fieldsOf hoi hdi ?_);dsimp only;refine A2 (Ch ho hd hf ?_);rw[jt (by grind)];refine A2 (hs _ _ _ ?_);dsimp only;refine A2 (w5 hoi hdi (by simp) ?_);obtain⟨o1,e1,c1,d1⟩:=hit.put 0 (rawInt nx);have h1:R3 (s.heap.update I (Obj.mapFields (·.setIfInBounds 0 (rawInt nx)))) I a (.int nx 0) i n ep:=⟨o1,e1,c1,by rw[d1];simp[rawInt]⟩;refine A2 (w5 (s:={ s with heap:=s.heap.update I (Obj.mapFields (·.setIfInBounds 0 (rawInt nx))) }) e1 d1 (by simp) ?_);obtain⟨o2,e2,c2,d2⟩:=h1.put 1 (rawInt (i+1));refine B0 ⟨_,rfl,B0 (hQ _ ⟨o2,e2,c2,by rw[d2];simp[rawInt]⟩ ?_)⟩;exact(R7 s.heap I _).trans (R7 _ I _)
theorem SV {slot:Nat}(hh:A.handled=none)(hit:R3 s.heap I a (.int slot 0) i n ep)(ho:s.heap.get? a=some o)(hd:o.data=.set es ep t)(hf:t.fits es.size=true)(hn:es.size=n)
   (hs:∀(A:D8) (E:A1->A6->Prop) (Q':Option (A1×Nat)->A6->Prop),Q' none s->A7 (A8 prog w) A (setNext a slot i ep) Q' E s)
   (hQ:∀h',(∀b o,b≠I->s.heap.get? b=some o->h'.get? b=some o)->Q none { s with heap:=h' }):A7 (A8 prog w) A (pyNext (.ref I)) Q E s:=by
 obtain⟨oi,hoi,hci,hdi⟩:=id hit;unfold pyNext;refine A2 (Aj (Z8 (name:=A5 "__next__") hit.ty Z7 (R5 Z7 hit.ty FC ?_ (FD _))));unfold N5.«set_iterator.__next__»;refine A2 (B0 ?_);refine A2 (wpAny_fieldsOf hoi hdi ?_);dsimp only;refine A2 (Ch ho hd hf ?_);rw[jt (by grind)];refine A2 (hs _ _ _ ?_);dsimp only;refine A2 (w5 hoi hdi (by simp) ?_);exact Ml hh λh' k=>hQ h' λb o hb e=>k b o (((R7 s.heap I _).2 b hb).trans e)
end
end SeT
end
section
namespace SeT
open PySem PySem.Spec PyProof.Rows L2
section
variable {prog:D2}{w:C9}{A:D8}{E:A1->A6->Prop}{s:A6}{I a tp:A0}{n i ep:Nat}{o:Obj}{es:Array (Int×A1)}{t:Q5}{ps:Array A1}
theorem SX {p:Nat}(hit:R3 s.heap I a (.ref tp) i n ep)(ht:s.heap.IsTuple tp ps)(ho:s.heap.get? a=some o)(hd:o.data=.set es ep t)(hf:t.fits es.size=true)(hn:es.size=n)
   (hp:ps[i]?=some (.int p 0)) (he:es[p]?=some (hx,x))
   (hQ:∀h',R3 h' I a (.ref tp) (i+1) n ep->V4 I s.heap h'->Q (some x) { s with heap:=h' }):A7 (A8 prog w) A (pyNext (.ref I)) Q E s:=by
 obtain⟨oi,hoi,hci,hdi⟩:=id hit;obtain⟨ot,hot,hct,nt,hdt⟩:=ht;unfold pyNext;refine A2 (Aj (Z8 (name:=A5 "__next__") hit.ty Z7 (R5 Z7 hit.ty FC ?_ (FD _))));unfold N5.«set_iterator.__next__»;refine A2 (B0 ?_);refine A2 (wpAny_fieldsOf hoi hdi ?_);dsimp only;refine A2 (Ch ho hd hf ?_);rw[jt (by grind)];refine A2 (X0 hot hdt ?_);dsimp only;rw[show((i:Int).toNat)=i from rfl,hp];dsimp only;refine A2 (m:=setNextDrawn a _ _) (A2 (W9 ho hd hf ?_));dsimp only;rw[jt (by simp)];rw[show((p:Int).toNat)=p from rfl,he];dsimp only;refine B0 ?_;refine A2 (w5 hoi hdi (by simp) ?_);obtain⟨o2,e2,c2,d2⟩:=hit.put 1 (rawInt (i+1));refine B0 ⟨_,rfl,B0 (hQ _ ⟨o2,e2,c2,by rw[d2];simp[rawInt]⟩ ?_)⟩;exact R7 s.heap I _
theorem SY (hh:A.handled=none)(hit:R3 s.heap I a (.ref tp) i n ep)(ht:s.heap.IsTuple tp ps)(ho:s.heap.get? a=some o)(hd:o.data=.set es ep t)(hf:t.fits es.size=true)(hn:es.size=n)
   (hp:ps[i]?=none)
   (hQ:∀h',(∀b o,b≠I->s.heap.get? b=some o->h'.get? b=some o)->Q none { s with heap:=h' }):A7 (A8 prog w) A (pyNext (.ref I)) Q E s:=by
 obtain⟨oi,hoi,hci,hdi⟩:=id hit;obtain⟨ot,hot,hct,nt,hdt⟩:=ht;unfold pyNext;refine A2 (Aj (Z8 (name:=A5 "__next__") hit.ty Z7 (R5 Z7 hit.ty FC ?_ (FD _))));unfold N5.«set_iterator.__next__»;refine A2 (B0 ?_);refine A2 (wpAny_fieldsOf hoi hdi ?_);dsimp only;refine A2 (Ch ho hd hf ?_);rw[jt (by grind)];refine A2 (X0 hot hdt ?_);dsimp only;rw[show((i:Int).toNat)=i from rfl,hp];dsimp only;refine A2 (w5 hoi hdi (by simp) ?_);obtain⟨o2,e2,c2,d2⟩:=hit.put 0 (rawInt 0);refine A2 (w5 (s:={ s with heap:=s.heap.update I (Obj.mapFields (·.setIfInBounds 0 (rawInt 0))) }) e2 d2 (by simp) ?_);exact Ml hh λh' k=>hQ h' λb o hb e=>k b o (((R7 _ I _).2 b hb).trans (((R7 s.heap I _).2 b hb).trans e))
theorem SZ (hh:A.handled=none){ys:List A1}{sl:Nat->Nat}(hn:es.size=ys.length)(ne:a≠I)(hd:o.data=.set es ep t)(hf:t.fits es.size=true)
   (hs:∀(i:Nat) (s:A6) (A:D8) (E:A1->A6->Prop) (Q':Option (A1×Nat)->A6->Prop),s.heap.get? a=some o->i<=ys.length->Q' (ys[i]?.map λx=>(x,sl (i+1))) s->A7 (A8 prog w) A (setNext a (sl i) i ep) Q' E s) :
   Walks prog w A I [I,a] [I] ys.length (λi v=>ys[i]?=some v) (λi h=>R3 h I a (.int (sl i) 0) i ys.length ep/\h.get? a=some o) where
 sub:=λb hb=>by rw[J6.mp hb];exact C8
 frame:=λ_ _ _ st hk=>⟨st.1.at' λo e=>hk I C8 o e,hk a (C5 _ (J6.mpr rfl)) o st.2⟩
 item:=λi s Q E hi st hQ=>by
  have e:ys[i]?=some ys[i]:=D4 hi;refine SU st.1 st.2 hd hf hn (x:=ys[i]) (nx:=sl (i+1)) (λA E Q' q=>hs i s A E Q' st.2 (d7 hi) (by rw[e];exact q)) λh' hit' sb=>?_;exact hQ _ h' s.toks e ⟨hit',(sb.2 a ne).trans st.2⟩ λb o hb e=>(sb.2 b (λz=>hb (J6.mpr z))).trans e
 done:=λs Q E st hQ=>SV hh st.1 st.2 hd hf hn (λA E Q' q=>hs _ s A E Q' st.2 (B8 _) (by rw[Y4 (B8 _)];exact q)) λh' k=>hQ h' s.toks λb o hb e=>k b o (λz=>hb (J6.mpr z)) e
 self:=λ_ _ _ _ st hQ=>Mj st.1 hQ
theorem S_ (hh:A.handled=none){pl:List Nat}(hn:es.size=pl.length)(ne:a≠I)(nt:tp≠I)(hd:o.data=.set es ep t)(hf:t.fits es.size=true)(hps:ps=(pl.map λ(i:Nat)=>rawInt i).toArray)(hpl:∀p∈pl,p<es.size) :
   Walks prog w A I [I,a,tp] [I] pl.length (λi v=>∃p x,pl[i]?=some p/\es[p]?=some x/\v=x.2) (λi h=>R3 h I a (.ref tp) i pl.length ep/\h.get? a=some o/\h.IsTuple tp ps) where
 sub:=λb hb=>by rw[J6.mp hb];exact C8
 frame:=λ_ _ _ st hk=>⟨st.1.at' λo e=>hk I C8 o e,hk a (by simp) o st.2.1,st.2.2.at λo e=>hk tp (by simp) o e⟩
 item:=λi s Q E hi st hQ=>by
  have e:pl[i]?=some pl[i]:=D4 hi;have lt:=hpl _ (K8 e);have ep':ps[i]?=some (.int (pl[i]:Nat) 0):=by rw[hps,List.getElem?_toArray,G0,e];rfl
  have ex:es[pl[i]]?=some es[pl[i]]:=p6 lt;refine SX st.1 st.2.2 st.2.1 hd hf hn ep' (hx:=es[pl[i]].1) (x:=es[pl[i]].2) ex λh' hit' sb=>?_;exact hQ _ h' s.toks ⟨_,_,e,ex,rfl⟩ ⟨hit',(sb.2 a ne).trans st.2.1,st.2.2.at λo e=>(sb.2 tp nt).trans e⟩ λb o hb e=>(sb.2 b (λz=>hb (J6.mpr z))).trans e
 done:=λs Q E st hQ=>SY hh st.1 st.2.2 st.2.1 hd hf hn (by grind) λh' k=>hQ h' s.toks λb o hb e=>k b o (λz=>hb (J6.mpr z)) e
 self:=λ_ _ _ _ st hQ=>Mj st.1 hQ
end
end SeT
end
section
namespace SeT
open PySem PySem.Spec PyProof.Rows L2
def Ad (pl:Array Nat):Nat->Nat
 |0=>0
 |i+1=>pl.getD i 0+1
theorem Ta {pl:Array Nat}(hr:Rise pl.toList):∀{i:Nat},i<=pl.size->SetTable.below pl (Ad pl i)=i
 | 0, _ => by
  obtain⟨h1,h2,h3⟩:=DL pl (Ad pl 0) hr;refine Nat.eq_zero_of_not_pos λc=>?_;have lt:0<pl.size:=by omega
  have:=h2 0 pl[0] c (p6 lt);exact CC _ this
 | i + 1, hi => by
  have lt:i<pl.size:=hi;have e:Ad pl (i+1)=pl[i]+1:=by show pl.getD i 0+1=_;rw[As,p6 lt];rfl
  obtain⟨h1,h2,h3⟩:=DL pl (Ad pl (i+1)) hr;rw[e] at h1 h2 h3 ⊢
  have a1:¬SetTable.below pl (pl[i]+1)<=i:=λc=>by
   have:=h3 i pl[i] c (p6 lt);omega
  have a2:¬i+1<SetTable.below pl (pl[i]+1):=λc=>by
   have l2:i+1<pl.size:=by omega
   have:=h2 (i+1) pl[i+1] c (p6 l2);have l2':i+1<pl.toList.length:=by simpa using l2
   have:=V6.mp hr i (i+1) (by omega) l2' (by omega);simp only[Array.getElem_toList] at this;omega
  omega
theorem Tc {α β:Type}{f:α->β}:∀{ys:List β} {xs:List α},ys.Perm (xs.map f)->∃zs:List α,zs.Perm xs/\ys=zs.map f:=by
 intro ys xs h;generalize e:xs.map f=l at h
 induction h generalizing xs with
 | nil =>
  have:xs=[]:=by simpa using e
  subst this;exact⟨[],.refl _,rfl⟩
 | @cons b l1 l2 h1 ih =>
  match xs,e with
  | x :: xs, e =>
   rw[G9] at e;injection e with ea eb;obtain⟨zs,z1,z2⟩:=ih eb;exact⟨x::zs,z1.cons x,by rw[z2,G9,ea]⟩
 | swap a b l =>
  match xs,e with
  | x :: y :: xs, e =>
   rw[G9,G9] at e;injection e with ea eb;injection eb with ec ed;exact⟨y::x::xs,List.Perm.swap x y xs,by rw[G9,G9,ea,ec,ed]⟩
 | trans h1 h2 ih1 ih2 =>
  obtain⟨zs,z1,z2⟩:=ih2 e;obtain⟨us,u1,u2⟩:=ih1 z2.symm;exact⟨us,u1.trans z1,u2⟩
def dr (es:Array (Int×A1))(t:Q5):Bool:=!t.plain&&decide (es.size>1)
structure SetV (w:C9)(h:B7)(a:A0)(o:Obj)(es:Array (Int×A1))(ep:Nat)(t:Q5):Prop where
 ho:h.get? a=some o
 ex:o.ExactSet
 hd:o.data=.set es ep t
 fits:t.fits es.size=true
 few:es.size<=127
 led:t.led=!(w.params.followText "set-order")
 rise:dr es t=false->Rise t.place.toList
abbrev vls (es:Array (Int×A1)):List A1:=es.toList.map (·.2)
section
variable {prog:D2}{w:C9}{A:D8}{E:A1->A6->Prop}{s:A6}{a:A0}{ep:Nat}{o:Obj}{es:Array (Int×A1)}{t:Q5}
theorem SetK.toV (S:SetK prog w h a o es ep t xs):SetV w h a o es ep t:=⟨S.ho,S.ex,S.hd,S.fits,by
 have:=S.few;rw[S.sz]
 rcases S.tb.mask with z|z|z <;> rw[z] at this <;> omega,S.led,λ_=>S.tb.rise⟩
theorem FE (h:Q (w.params.followText "set-order") s):A7 (A8 prog w) A setsByText Q E s:=A2 (DX (B0 h))
theorem Td (S:SetV w h0 a o es ep t)(ho:s.heap.get? a=some o)(hb:w.params.followText "set-order"=false)(hd:dr es t=false)(hi:i<=es.size)
   (h:Q ((vls es)[i]?.map λx=>(x,Ad t.place (i+1))) s):A7 (A8 prog w) A (setNext a (Ad t.place i) i ep) Q E s:=by
 have sp:t.place.size=es.size:=by
  have:=S.fits;unfold SetTable.fits at this;simp only[Bo,beq_iff_eq] at this;exact this.1
 unfold setNext;refine A2 (W9 ho S.hd S.fits ?_);dsimp only;refine A2 (FE ?_);rw[hb];simp only[M1,↓reduceIte];have e1:(!t.plain&&decide (es.size>1))=false:=hd;show A7 _ _ (if(!t.plain&&decide (es.size>1))=true then _ else _) _ _ _;rw[e1];simp only[M1,↓reduceIte];have el:t.led=true:=by rw[S.led,hb];rfl
 refine A2 (show A7 _ _ (if(!t.led&&!es.isEmpty)=true then _ else _) _ _ _ from ?_);rw[el];simp only[Ar,Bool.false_and,M1,↓reduceIte];refine B0 ?_;rw[Ta (S.rise hd) (by omega)];refine B0 ?_;rw[G0,T6] at h;cases ex:es[i]? with
 |none=>rw[ex] at h;exact h
 | some y =>
  rw[ex] at h;have lt:i<t.place.size:=by rw[sp];exact(Array.getElem?_eq_some_iff.mp ex).1
  rw[p6 lt];have:Ad t.place (i+1)=t.place[i]+1:=by show t.place.getD i 0+1=_;rw[As,p6 lt];rfl
  rw[this] at h;exact h
theorem Te (S:SetV w h0 a o es ep t)(ho:s.heap.get? a=some o)(hb:w.params.followText "set-order"=true)
   (h:Q ((vls (pickOrder (w.params.setOrder a ep) es))[i]?.map λx=>(x,0)) s):A7 (A8 prog w) A (setNext a 0 i ep) Q E s:=by
 unfold setNext;refine A2 (W9 ho S.hd S.fits ?_);dsimp only;refine A2 (FE ?_);rw[hb];simp only[↓reduceIte];rw[jt (by simp)];refine A2 (m:=setWalk a) ?_;unfold setWalk;refine A2 (W9 ho S.hd S.fits ?_);dsimp only;refine A2 (FE ?_);rw[hb];simp only[↓reduceIte];refine A2 (DX (B0 (B0 ?_)));rw[G0,T6,Option.map_map] at h;exact h
theorem Tf (hh:A.handled=none)(S:SetV w s.heap a o es ep t)
   (hQ:∀(h':B7) (d:_) (I:A0) (fp:List A0) (ys:List A1) (P:Nat->A1->Prop) (St:Nat->B7->Prop),(∀b o,s.heap.get? b=some o->h'.get? b=some o)->s.heap.objs.size<=I->I<h'.objs.size->(∀b∈fp,b=a\/s.heap.objs.size<=b)->ys.Perm (vls es)->
     (∀i v,P i v->ys[i]?=some v)->Walks prog w A I fp [I] es.size P St->St 0 h'->Q (.ref I) { s with heap:=h',drawn:=d }):A7 (A8 prog w) A (pyIter (.ref a)) Q E s:=by
 have hT:s.TypeIs (.ref a) "set":=⟨o,S.ho,S.ex.1⟩;have la:a<s.heap.objs.size:=D1 S.ho;refine wpAny_pyIter_slot hT F.slot_set_iter (R5 F.slot_set_iter hT SO ?_ (F.args_set_iter_1 _));unfold N5.«frozenset.__iter__» Builtin.Frozenset.slot0 Builtin.Frozenset.sizeOf;refine A2 (A2 (B0 (B0 ?_)));refine A2 (A2 (Ch S.ho S.hd S.fits (B0 ?_)));unfold setDrawn;refine A2 (A2 (W9 S.ho S.hd S.fits ?_));dsimp only;refine A2 (FE (B0 ?_));show A7 _ _ (if(!(w.params.followText "set-order")&&dr es t)=true then _ else _) _ _ _
 by_cases c:(!(w.params.followText "set-order")&&dr es t)=true
 ·rw[jr c];refine A2 (Mi es.size (E9 es.size) _ _ (by simp) λpl d hp=>?_);have lp:pl.length=es.size:=by rw[hp.length_eq,Ao]
  have lt:∀p∈pl,p<es.size:=λp h=>O1.mp (hp.mem_iff.mp h);have few:=S.few;refine A2 (wpAny_newTuple ?_ (by rw[L0,B6];omega));have g1:(s.heap.push { cls:=.type "tuple",data:=.seq (pl.map λ(i:Nat)=>rawInt i).toArray }).get? a=some o:=C7 _ S.ho;refine A2 (m:=setEpoch a) (A2 (W9 (s:={ s with drawn:=d,heap:=s.heap.push { cls:=.type "tuple",data:=.seq (pl.map λ(i:Nat)=>rawInt i).toArray } }) g1 S.hd S.fits (B0 ?_)));refine A2 (T9 (B0 ⟨_,rfl,"set_iterator",_,⟨_,G7 _ rfl,rfl⟩,Z7.lookup,?_⟩));have sz1:(s.heap.push { cls:=.type "tuple",data:=.seq (pl.map λ(i:Nat)=>rawInt i).toArray }).objs.size=s.heap.objs.size+1:=l7 ..;refine hQ _ d (s.heap.push { cls:=.type "tuple",data:=.seq (pl.map λ(i:Nat)=>rawInt i).toArray }).objs.size [(s.heap.push { cls:=.type "tuple",data:=.seq (pl.map λ(i:Nat)=>rawInt i).toArray }).objs.size,a,s.heap.objs.size] (pl.map λp=>(vls es).getD p .none) _ _ (λb o e=>C7 _ (C7 _ e)) (by simp) (Nat.lt_of_lt_of_eq (Nat.lt_succ_self _) (l7 ..).symm) (λb hb=>?_) ?_ ?_ (lp▸S_ (es:=es) (o:=o) (t:=t) (ep:=ep) (tp:=s.heap.objs.size) (pl:=pl) hh lp.symm (by grind) (by simp) S.hd S.fits rfl lt) ?_
  ·grind
  ·exact(Me (vls es) pl .none (by grind)).2
  ·grind
  ·refine⟨⟨_,G7 _ rfl,rfl,?_⟩,C7 _ g1,⟨_,C7 _ (G7 _ rfl),rfl,0,rfl⟩⟩;show BB _=BB _
   first|rfl|(rw[lp];rfl)
 ·rw[jt c];refine A2 (B0 ?_);refine A2 (m:=setEpoch a) (A2 (W9 S.ho S.hd S.fits (B0 ?_)));refine A2 (T9 (B0 ⟨_,rfl,"set_iterator",_,⟨_,G7 _ rfl,rfl⟩,Z7.lookup,?_⟩))
  have go:∀(ys:List A1) (sl:Nat->Nat),sl 0=0->ys.Perm (vls es)->(∀(i:Nat) (s:A6) (A:D8) (E:A1->A6->Prop) (Q':Option (A1×Nat)->A6->Prop),s.heap.get? a=some o->i<=ys.length->Q' (ys[i]?.map λx=>(x,sl (i+1))) s->A7 (A8 prog w) A (setNext a (sl i) i ep) Q' E s)->Q (.ref s.heap.objs.size) { s with heap:=s.heap.push { cls:=.type "set_iterator",data:=.fields #[rawInt 0,rawInt 0,.ref a,rawInt es.size,rawInt ep] } }:=by
   intro ys sl h0 pm hs;have lp:ys.length=es.size:=by rw[pm.length_eq,B6,O3]
   refine hQ _ s.drawn s.heap.objs.size [s.heap.objs.size,a] ys (λi v=>ys[i]?=some v) _ (λb o e=>C7 _ e) (B8 _) (by simp) (λb hb=>?_) pm (λ_ _ e=>e) (lp▸SZ (es:=es) (o:=o) (t:=t) (ep:=ep) (ys:=ys) (sl:=sl) hh lp.symm (E3 la) S.hd S.fits hs) ?_
   ·grind
   ·refine⟨⟨_,G7 _ rfl,rfl,?_⟩,C7 _ S.ho⟩;show BB _=BB _;rw[h0]
    rfl
  by_cases cb:w.params.followText "set-order"=true
  ·exact go (vls (pickOrder (w.params.setOrder a ep) es)) (λ_=>0) rfl ((SS (w.params.setOrder a ep) es).map _) λi s' A E Q' e hi q=>Te S e cb q
  ·have cb':w.params.followText "set-order"=false:=by simpa using cb
   have cd:dr es t=false:=by
    rw[cb'] at c
    simpa using c
   exact go (vls es) (Ad t.place) rfl (.refl _) λi s' A E Q' e hi q=>Td S e cb' cd (by grind) q
end
end SeT
end
section
namespace SeT
open PySem PySem.W PySem.Spec PyProof.Rows L2
section
variable {prog:D2}{w:C9}{A:D8}{E:A1->A6->Prop}{s:A6}{a:A0}{ep:Nat}{o:Obj}{es:Array (Int×A1)}{t:Q5}
theorem Tg (hT:s.TypeIs (.ref r) "set")(h:Q false s):A7 (A8 prog w) A (Jr (.ref r)) Q E s:=by
 unfold Jr;refine A2 (Ci hT PySem.F.slot_set_len.lookup ?_);generalize hid:("set.__len__":String)=id0
 wp_delta
 rw[show splitId id0=some ("set","__len__") from by subst hid;decide +kernel];subst hid;refine A2 (wpAny_isInstance (T:="set") (b:=true) hT (by rw[w4];kernel_rfl) ?_);refine wpAny_ite_split (λz=>absurd z (by decide)) λ_=>?_;refine wpAny_ite_split (λ_=>A2 (Bb hT (B0 h))) λz=>absurd (by decide +kernel) z
theorem Th (S:SetV w s.heap a o es ep t)(hh:A.handled=none)(L:A0)(ne:L≠a)(res:A1)(c₀:Nat)(hL:s.heap.get? L=some { cls:=.type "list",data:=.seq #[] c₀ })
   (hR:∀h' d tk c' (ys:List A1),(∀b o,b≠L->s.heap.get? b=some o->h'.get? b=some o)->h'.get? L=some { cls:=.type "list",dict:=none,data:=.seq ys.toArray c',slots:=#[] }->ys.Perm (vls es)->R (.ok (.ret res)) { s with heap:=h',drawn:=d,toks:=tk }) :
   A7 (A8 prog w) A.in1 (Js (.ref L) (.ref a) res)
     (λfin s'=>match fin with|.done f=>R (.ok f) s'|.again c'=>c'.quiet=true/\O0 (A8 prog w) A c' R s') (λe s'=>R (.error e) s') s:=by
 have hT:s.TypeIs (.ref a) "set":=⟨o,S.ho,S.ex.1⟩;have lL:L<s.heap.objs.size:=D1 hL
 have few:es.size<=C2:=by
  have:=S.few;rw[L0];omega
 unfold Js;refine A2 (Bb (T:="set") hT ?_);have h1:Builtin.List.listSameRef (.ref L) (.ref a)=false:=by simp[Builtin.List.listSameRef,ne]
 have h2:(M6 "set" == M6 "list")=false:=by decide
 have h3:(M6 "set" == M6 "tuple")=false:=by decide
 simp only[h1,h2,h3,Bp,M1,if_false];refine A2 (Tf (A:=A.in1) hh S λh1 d I fp ys P St k1 hI hI2 hfp pm hP W st=>?_);have nI:L≠I:=E3 (L3 lL hI);have nf:L∉fp:=λz=>(hfp L z).elim ne λz=>absurd lL (Nat.not_lt.mpr z);have hL1:=k1 _ _ hL
 have key:∀(h:B7) (c₁ tk:Nat),St 0 h->(∀b o,b≠L->s.heap.get? b=some o->h.get? b=some o)->
     h.get? L=some { cls:=.type "list",data:=.seq #[] c₁ }->O0 (A8 prog w) A (.builtin "list.extend.loop" ⟨[.ref L,.ref I,res],[]⟩) R { s with heap:=h,drawn:=d,toks:=tk }:=by
   intro h c₁ tk hst hk hS₁;refine codeAny_extend_loopS W.toS few L nf res es.size 0 _ #[] c₁ rfl (K4 _) hst hS₁ (ItemsOf.nil _) λs' acc' c' hm hS' hacc=>?_;rw[Moved.eq_with hm]
   have ea:acc'=ys.toArray:=by
    apply Array.toList_inj.mp
    rw[Ee]
    apply List.ext_getElem?
    intro i;rw[T6];cases e:acc'[i]? with
    | none =>
     symm
     rw[List.getElem?_eq_none_iff,pm.length_eq,B6,O3];have:=Array.getElem?_eq_none_iff.mp e;rw[hacc.1] at this;exact this
    |some v=>exact(hP i v (hacc.2 i v e)).symm
   refine hR s'.heap d s'.toks c' ys (λb o hb e=>hm.heap b o (λhmem=>?_) (hk b o hb e)) (by grind) pm;rcases C3.mp hmem with e'|hmem
   ·grind
   ·exact absurd (D1 e) (by grind)
 refine A2 (M8 (Tg (s:={ s with heap:=h1,drawn:=d }) ⟨o,k1 _ _ S.ho,S.ex.1⟩ ?_));refine wpAny_ite_split (λ_=>?_) (λ_=>B0 ⟨w6 PySem.F.plain_extend_loop _,key _ c₀ _ st (λb o _ e=>k1 b o e) hL1⟩);refine A2 (b8 ?_);refine A2 (show A7 (A8 prog w) _ (updateSeq L (·.push .none)>>=λ_=>updateSeq L (·.pop)) _ _ _ from ?_);refine A2 (wpAny_updateSeq hL1 rfl ?_);have hS₂:=Bd (G8 (·.push T7)) hL1 rfl;refine wpAny_updateSeq (hz:=by seq_fits) hS₂ rfl ?_;have hS₃:=Bd (G8 (·.pop)) hS₂ rfl;refine B0 ⟨w6 PySem.F.plain_extend_loop _,key _ _ _ ?_ (λb o hb e=>?_) hS₃⟩
 ·refine W.frame 0 _ _ st λb hb o e=>?_;have hbS:b≠L:=λh=>nf (h▸hb);exact(Bc _ _ (Ne.symm hbS)).trans ((Bc _ _ (Ne.symm hbS)).trans e)
 ·exact(Bc _ _ (Ne.symm hb)).trans ((Bc _ _ (Ne.symm hb)).trans (k1 b o e))
theorem Ti (S:SetV w s.heap a o es ep t)(hh:A.handled=none)
   (h:∀(h':B7) (d:_) (tk:Nat) (ys:List A1),(∀b o,s.heap.get? b=some o->h'.get? b=some o)->s.heap.objs.size<=h'.objs.size->ys.Perm (vls es)->R ys { s with heap:=h',drawn:=d,toks:=tk }) :
   A7 (A8 prog w) A (collect (.ref a)) R E s:=by
 unfold collect;refine A2 (wpAny_runValue (l4 entry_proto_collect' ?_));rw[x5 PySem.F.plain_proto_collect _];refine(show A7 (A8 prog w) A.in1 (newList []>>=λl=>again (.builtin "list.__iadd__" ⟨[l,.ref a],[]⟩)) _ _ s from ?_);refine A2 (T9 (B0 ⟨w6 PySem.F.plain_list_iadd _,l4 entry_list_iadd' ?_⟩));rw[x5 PySem.F.plain_list_iadd _];have hS:(s.heap.push { cls:=.type "list",data:=.seq ([]:List A1).toArray }).get? s.heap.objs.size=some { cls:=.type "list",data:=.seq #[] }:=G7 _ rfl;have S1:SetV w (s.heap.push { cls:=.type "list",data:=.seq ([]:List A1).toArray }) a o es ep t:=⟨C7 _ S.ho,S.ex,S.hd,S.fits,S.few,S.led,S.rise⟩
 have key:=Th (prog:=prog) (A:=A) (s:={ s with heap:=s.heap.push { cls:=.type "list",data:=.seq ([]:List A1).toArray } })
   (R:=λ(q:Result) (s':A6)=>∃(h':B7) (d:_) (tk:Nat) (ys:List A1) (c:Nat),q=.ok (.ret (.ref s.heap.objs.size))/\s'={ s with heap:=h',drawn:=d,toks:=tk }/\
     (∀b o,s.heap.get? b=some o->h'.get? b=some o)/\h'.get? s.heap.objs.size=some { cls:=.type "list",dict:=none,data:=.seq ys.toArray c,slots:=#[] }/\ys.Perm (vls es))
   S1 hh s.heap.objs.size (p5 (D1 S.ho)) (.ref s.heap.objs.size) 0 hS
   (λh' d tk c ys hk hS' hp=>⟨h',d,tk,ys,c,rfl,rfl,λb o e=>hk b o (E3 (D1 e)) (C7 _ e),hS',hp⟩)
 refine K1 key (λfin s' x=>?_) λe s' x=>?_
 ·cases fin with
  | done f =>
   obtain⟨h',d,tk,ys,c,e,rfl,hk,hS',hp⟩:=x;cases e;refine A2 (wpAny_load hS' (B0 ?_));have:=h h' d tk ys hk (d7 (D1 hS')) hp
   simpa using this
  | again c₁ =>
   refine⟨x.1,Ak x.2 λq s₂ y=>?_⟩;obtain⟨h',d,tk,ys,c,rfl,rfl,hk,hS',hp⟩:=y;refine A2 (wpAny_load hS' (B0 ?_));have:=h h' d tk ys hk (d7 (D1 hS')) hp
   simpa using this
 grind
end
end SeT
end
section
namespace SeT
open PySem PySem.W PySem.Spec PyProof.Rows L2
abbrev rfs (ys:List (List Key×A0)):List A1:=ys.map λy=>M3 y.2
abbrev kks (ys:List (List Key×A0)):List (List Key):=ys.map (·.1)
section
variable {prog:D2}{w:C9}{A:D8}{E:A1->A6->Prop}{s:A6}{a:A0}{ep:Nat}{o:Obj}{es:Array (Int×A1)}{t:Q5}
theorem Tj {α:Type}{m:Nat}{Q:A1->A6->Prop}(S:SetV w s.heap a o es ep t)(hh:A.handled=none)(xs:List α)(f:α->A1)(g:α->List Key)(ev:vls es=xs.map f)(h64:xs.length<64)(pk:∀x∈xs,Kv1 s.heap m (f x) (g x))(al:Aa (xs.map g))
   (h:∀ys h2 d tk D e,List.Perm ys xs->(∀b o,s.heap.get? b=some o->h2.get? b=some o)->s.heap.objs.size<=D->h2.get? D=some (seqObj "list" (V1 (ltIx (ys.map g)) (ys.map f)).toArray e)->Q (.ref D) { s with heap:=h2,drawn:=d,toks:=tk }) :
   A7 (A8 prog w) A (call (.builtin "sorted") [.ref a]) Q E s:=by
 refine Calls.call_function_entry kind_sorted plain_sorted entry_sorted (args_sorted1 _) ?_;unfold N5.«sorted»;refine A2 (m:=checkCount "sorted" 1 1 _) (B0 ?_);refine A2 (Ti (A:=A.in1) S hh λh1 d tk vs k1 z1 pv=>?_);rw[ev] at pv;obtain⟨ys,pm,rfl⟩:=Tc pv;have ly:=pm.length_eq;refine A2 (Cj ?_ (by rw[L0,B6];omega));have hoL:(h1.push (seqObj "list" (ys.map f).toArray 0)).get? h1.objs.size=some (seqObj "list" (ys.map f).toArray 0):=G7 _ rfl;have kL:∀b o,s.heap.get? b=some o->(h1.push (seqObj "list" (ys.map f).toArray 0)).get? b=some o:=λb o e=>C7 _ (k1 b o e);have ne:∀b o,s.heap.get? b=some o->b≠h1.objs.size:=λb o e=>E3 (L3 (D1 e) z1)
 have pk1:Paired (Kv1 s.heap m) (ys.map f) (ys.map g):=by
  have hy:∀y∈ys,Kv1 s.heap m (f y) (g y):=λy hy=>pk y (pm.mem_iff.mp hy);clear hoL kL pm ly pv
  induction ys with
  |nil=>exact .nil
  |cons y ys ih=>exact .cons (hy y C8) (ih λz hz=>hy z (C5 _ hz))
 have al1:Aa (ys.map g):=λx hx y hy=>al x ((pm.map g).mem_iff.mp hx) y ((pm.map g).mem_iff.mp hy);refine A2 (M8 (R5 slot_list_sort ⟨_,hoL,rfl⟩ entry_list_sort ?body (args_list_sort _)))
 case body=>
  refine Lk (lt:=ltIx (ys.map g)) (s:={ s with heap:=h1.push (seqObj "list" (ys.map f).toArray 0),drawn:=d,toks:=tk }) hoL (by grind) (λl2 h3 k3=>?_) λh3 e k3 e3=>?_
  ·exact Lo (s:={ s with drawn:=d }) l2 pk1 al1 _ _ h3 tk λb o x=>k3 b o (ne b o x) (kL b o x)
  ·exact⟨_,rfl,B0 ⟨_,rfl,h ys h3 d tk _ e pm (λb o x=>k3 b o (ne b o x) (kL b o x)) z1 e3⟩⟩
end
theorem Tl (h:us.length<64):(outV (ltIx jo) us).length<=C2:=by
 rw[L0];unfold outV
 split
 ·omega
 ·rw[B6,O3,(Kr.sort_ok (Fi jo) (by omega)).2.1];omega
theorem items_are {prog:D2}{w:C9}:∀{ks:List Key} {vs:List A1},z9 ks vs->ItemsAre (K2 prog w) ks vs:=by
 intro ks vs h
 induction h with
 |nil=>exact .nil
 | @cons k v ks vs h1 _ ih =>
  refine .cons ?_ ih
  match k,h1 with
  |.inl i,⟨t,e⟩=>subst e;exact Ju _ _ _ _
  |.inr z,⟨t,e⟩=>subst e;exact ED _ _ _ _
theorem is_of (x:TupK h (.ref r) k):(TK prog w).is h k r:=by
 obtain⟨a,o,items,n,e,ho,hc,hd,hk⟩:=x;cases e;exact⟨o,items,n,ho,hc,hd,items_are hk⟩
section
variable {X:Cx}
def SetO (X:Cx)(p:A0)(rs:List (List Key×A0)):HO:=.ext λh=>∃h0 o es ep t xs,SetK X.prog X.w h0 p o es ep t xs/\h.get? p=some o/\(∀x∈xs,x∈rs)/\∀x∈rs,x.1∈kks xs
theorem Tm {K:A9}(p:Paired (KM K H 2) ys jo):∃rs:List (List Key×A0),kks rs=jo/\(rs.map λy=>V.ref y.2)=ys/\∀y∈rs,SqT K H y.2 (y.1.map kV)/\y.1≠[]:=by
 induction p with
 |nil=>exact⟨[],rfl,rfl,λ_ z=>nomatch z⟩
 | cons h1 _ ih =>
  obtain⟨rs,e1,e2,e3⟩:=ih;obtain⟨a,rfl,hq,hne⟩:=h1;refine⟨(_,a)::rs,by rw[<- e1];rfl,by rw[<- e2];rfl,λy hy=>?_⟩;rcases C3.mp hy with rfl|hy
  ·grind
  ·grind
theorem IH:∀(rs:List (List Key×A0)) {jf:List A1},Vals (rs.map λy=>V.ref y.2) jf->jf=rfs rs
 |[],_,h=>by cases h;rfl
 | y :: rs, _, h => by
  cases h with
  |cons h1 h2=>rw[IH rs h2,show _=M3 y.2 from h1];rfl
theorem Tn (hc:X.calm=true)(hu:X.A.units+64<cLine):M4 X (.type "set") (λvs H Q=>∃a ys jo,vs=[.ref a]/\(SqL X.K H a ys\/SqT X.K H a ys)/\Paired (KM X.K H 2) ys jo/\ys.length<=63/\
   ∀p rs,H p=none->kks rs=jo->(rs.map λy=>V.ref y.2)=ys->(∀y∈rs,SqT X.K H y.2 (y.1.map kV)/\y.1≠[])->Q (.ref p) (upd H p (SetO X p rs))):=by
 intro jb s σ H vs us Q I rv h;obtain⟨a,ys,jo,rfl,hq,hp,hl,q⟩:=h;obtain⟨u,rfl,ru⟩:=rv.one;obtain rfl:u=.ref a:=ru;obtain⟨rs,e1,rfl,e3⟩:=Tm hp;have hk:∀y∈rs,(TK X.prog X.w).is s.heap y.1 y.2:=λy hy=>is_of (HZ I (e3 y hy).1);rw[B6] at hl
 have fin:∀(h':B7) (tk:Nat),Holds X.prog X.w h' s.heap.objs.size rs->(∀b o,b<s.heap.objs.size->s.heap.get? b=some o->h'.get? b=some o)->EP X jb σ Q (.ref s.heap.objs.size) { s with heap:=h',toks:=tk }:=λh' tk so kp=>by
  obtain⟨o,es,ep,t,xs,S1,S2,S3⟩:=so
  have I1:Inv X jb σ (upd H s.heap.objs.size (SetO X s.heap.objs.size rs)) { s with heap:=h',toks:=tk }:=
   I.laid (fun b o e=>kp b o (D1 e) e) (B8 _) ⟨⟨h',o,es,ep,t,xs,S1,S1.ho,S2,S3⟩,⟨o,S1.ho⟩,fun h1 h2 x k2=>by
    obtain⟨h0,o,es,ep,t,xs,S1,g,S2,S3⟩:=x
    exact⟨h0,o,es,ep,t,xs,S1,k2 o g,S2,S3⟩⟩
  exact⟨.ref s.heap.objs.size,_,I1,rfl,q _ rs (I.hok.fresh (B8 _)) e1 rfl e3⟩
 rcases hq with hq|hq
 ·obtain⟨jf,r,pl,_⟩:=I.list hq;refine Mf (rs:=rs) (I.ok.hd hc) hu (.inl pl.isList) ?_ hk hl fin;rw[Ee];exact IH rs r
 ·obtain⟨jf,r,ht,_⟩:=I.tuple hq;refine Mf (rs:=rs) (I.ok.hd hc) hu (.inr ht) ?_ hk hl fin;rw[Ee];exact IH rs r
theorem inv_dr (I:Inv X jb σ H s)(d:_):Inv X jb σ H { s with drawn:=d }:=⟨I.ok,I.os,I.bare,I.base,I.loc,I.cell,I.free,I.freeC,I.pin,I.hok,I.len⟩
theorem To (hc:X.calm=true):M4 X (.builtin "sorted") (λvs H Q=>∃p rs,vs=[.ref p]/\H p=some (SetO X p rs)/\rs.length<64/\(∀y∈rs,SqT X.K H y.2 (y.1.map kV)/\y.1≠[])/\Aa (kks rs)/\
   ∀l zs,H l=none->(kks zs).Nodup->(∀z∈zs,z∈rs)->(∀y∈rs,y.1∈kks zs)->Q (.ref l) (upd H l (.lst (outV (ltIx (kks zs)) (zs.map λz=>V.ref z.2))))):=by
 intro jb s σ H vs us Q I rv h;obtain⟨p,rs,rfl,e,h64,hk,al,q⟩:=h;obtain⟨u,rfl,ru⟩:=rv.one;obtain rfl:u=.ref p:=ru;obtain⟨⟨h0,o,es,ep,t,xs,S0,g,S2,S3⟩,_,_⟩:=I.hok p _ e;have tk:∀x∈xs,TupK s.heap (.ref x.2) x.1:=λx hx=>HZ I (hk x (S2 x hx)).1;have S:SetK X.prog X.w s.heap p o es ep t xs:=⟨g,S0.ex,S0.hd,S0.hes,(λx hx=>is_of (tk x hx)),S0.nd,S0.tb,S0.few,S0.led⟩;have lx:xs.length<64:=Cz (Holds.len S S2) h64;refine Tj (m:=2) S.toV (I.ok.hd hc) xs (λx=>M3 x.2) (·.1) (by unfold vls;rw[S.hes,U6];rfl) lx (λx hx=>⟨tk x hx,(hk x (S2 x hx)).2⟩) (λx hx y hy=>?_) λys h2 d t2 D e pm k hD ho=>?_
 ·obtain⟨x',hx',rfl⟩:=J1.mp hx;obtain⟨y',hy',rfl⟩:=J1.mp hy;exact al _ (J1.mpr ⟨x',S2 x' hx',rfl⟩) _ (J1.mpr ⟨y',S2 y' hy',rfl⟩)
 ·have vv:Vals (ys.map λy=>V.ref y.2) (rfs ys):=by
   clear pm ho
   induction ys with
   |nil=>exact .nil
   |cons y ys ih=>exact .cons rfl ih
  have vo:=Lp vv (Fi (kks ys));have ly:ys.length=xs.length:=pm.length_eq;have hlo:(outV (ltIx (kks ys)) (ys.map λy=>V.ref y.2)).length<=C2:=Tl (by grind);have I1:=inv_dr (I.laid (t':=t2) k hD (show J0 X.prog X.w _ h2 _ (.lst _) from⟨hlo,_,e,vo,ho⟩)) d;exact⟨.ref D,_,I1,rfl,q _ ys (I.hok.fresh hD) ((pm.map (·.1)).nodup_iff.mpr S.nd) (λz hz=>S2 z (pm.mem_iff.mp hz)) λy hy=>(pm.map (·.1)).mem_iff.mpr (S3 y hy)⟩
end
end SeT
end
section
namespace SeT
open PySem PySem.W PySem.Spec PyProof.Rows L2
section
variable {X:Cx}
def tMo (t:TE):TE:=λσ H Q=>∃Q',t σ H Q'/\∀v H',Q' v H'->Q v H'
theorem II (h:PE X e t):PE X e (tMo t):=by
 intro jb s σ H Q I ⟨Q',h1,h2⟩;exact K1 (h jb s σ H Q' I h1) (λu s' ⟨v,H',I',r,q⟩=>⟨v,H',I',r,h2 _ _ q⟩) λ_ _ e=>e
def Tp (K:A9)(t:TE):TE:=λσ H Q=>∃Q',t σ H Q'/\∀x H1,Q' x H1->∃a ys jo,x=.ref a/\(SqL K H1 a ys\/SqT K H1 a ys)/\Paired (KM K H1 2) ys jo/\ys.length<=63/\Aa jo/\
 ∀H2 l rs zs,Same H1 H2->H2 l=none->kks rs=jo->(rs.map λy=>V.ref y.2)=ys->(kks zs).Nodup->(∀z∈zs,z∈rs)->(∀y∈rs,y.1∈kks zs)->Q (.ref l) (upd H2 l (.lst (outV (ltIx (kks zs)) (zs.map λz=>V.ref z.2))))
theorem Tq {K:A9}(h:SqT K H a xs)(s:Same H H'):SqT K H' a xs:=by
 rcases h with h|h
 ·left;rcases h with h|⟨o,h⟩
  ·exact .inl (s _ _ h)
  ·exact .inr ⟨o,s _ _ h⟩
 ·exact .inr h
theorem Tr (hc:X.calm=true)(hr:Room k X.A)(g1:Gl X "sorted")(m1:X.mg "sorted"=none)(g2:Gl X "set")(m2:X.mg "set"=none)(he:PE X e t)(hs:E6 [e] X.env=(false,eval e X.env)::E6 [] X.env) :
   PE X (.Call (.Name "sorted" p1) [.Call (.Name "set" p2) [e] [] pos2] [] pos) (Tp X.K t):=by
 have i1:=AD (p:=p2) (pos:=pos2) (Tn hc hr.units) g2 m2 GV (G4 (II he) K3 hs) (by decide) (by decide) hs rfl;have i2:=h9 (p:=p1) (pos:=pos) (To hc) g1 m1 GT (G4 i1 K3 rfl) (by decide) (by decide) rfl rfl;intro jb s σ H Q I ⟨Q',h1,h2⟩;refine i2 jb s σ H Q I ⟨Q',h1,λx H1 hx=>?_⟩;obtain⟨a,ys,jo,rfl,hq,hp,hl,al,q⟩:=h2 x H1 hx;refine⟨a,ys,jo,rfl,hq,hp,hl,λp rs hn ek eu hk=>?_⟩;have sm:Same H1 (upd H1 p (SetO X p rs)):=(Same.refl _).lay hn;refine⟨p,rs,rfl,D9,?_,λy hy=>⟨Tq (hk y hy).1 sm,(hk y hy).2⟩,by rw[ek];exact al,λl zs hl nd z1 z2=>q _ l rs zs sm hl ek eu nd z1 z2⟩;have:rs.length=ys.length:=by rw[<- eu,B6]
 omega
end
end SeT
namespace Pu
open PySem PySem.Spec L2
def DM (xs:List PV):Prop:=(∀x∈xs,∃ks,x=.tup (ks.map kP)/\ks≠[])/\∀x∈xs,∀y∈xs,Al (keyP x) (keyP y)
def SrtS (ys xs:List PV):Prop:=ys.Nodup/\(∀y,y∈ys↔y∈xs)/\ys.Pairwise λa b=>lexK (keyP b) (keyP a)=false
def wSet (R:List PV->Prop)(xs:List PV):Prop:=xs.length<=63/\DM xs/\∀ys,SrtS ys xs->R ys
def FF (pe:pE):pA:=λenv n R=>pe env n λx jc n1=>match x with|.lst xs=>wSet (λys=>R ys jc n1) xs|.tup xs=>wSet (λys=>R ys jc n1) xs|_=>False
abbrev zP (z:List Key×A0):PV:=.tup (z.1.map kP)
theorem keyP_z (z:List Key×A0):keyP (zP z)=z.1:=k5 z.1
theorem zP_inj {ks js:List Key}(h:(PV.tup (ks.map kP))=.tup (js.map kP)):ks=js:=by rw[<- k5 ks,h,k5]
section
variable {T:PotK}{ι:Type}{K:A9}{F:ι->Cx}{e:Expr}{pe:pE}{pos:Pos}
theorem Mm:∀{xs:List PV} {rs:List (List Key×A0)},Reps K G H xs (rs.map λy=>V.ref y.2)->SeT.kks rs=xs.map keyP->(∀x∈xs,∃ks,x=.tup (ks.map kP)/\ks≠[])->xs=rs.map zP/\∀z∈rs,Rep K G H (zP z) (.ref z.2)
 |[],[],_,_,_=>⟨rfl,λ_ z=>nomatch z⟩
 |[],_::_,h,_,_=>by cases h
 | x :: xs, [], h, _, _ => by
  obtain⟨_,_,e,_⟩:=h;cases e
 | x :: xs, r :: rs, h, hk, hx => by
  obtain⟨v,t,e,h1,h2⟩:=h;rw[G9] at e;injection e with e1 e2;subst e1;subst e2;have hk':r.1::SeT.kks rs=keyP x::xs.map keyP:=hk;injection hk' with k1 k2;obtain⟨a1,a2⟩:=Mm h2 k2 λy hy=>hx y (C5 _ hy);obtain⟨ks,rfl,_⟩:=hx x C8;rw[k5] at k1;have ez:zP r=.tup (ks.map kP):=by show PV.tup (r.1.map kP)=_;rw[k1]
  refine⟨by rw[G9,ez,<- a1],λz hz=>?_⟩;rcases C3.mp hz with rfl|hz
  ·rw[ez];exact h1
  ·exact a2 z hz
theorem Mn {G:Gh}{H:Hp}:∀(zs:List (List Key×A0)),(∀z∈zs,Rep K G H (zP z) (.ref z.2))->Reps K G H (zs.map zP) (zs.map λz=>V.ref z.2)
 |[],_=>rfl
 |z::zs,h=>⟨_,_,rfl,h z C8,Mn zs λy hy=>h y (C5 _ hy)⟩
theorem SrtS.of {rs:List (List Key×A0)}(e:xs=rs.map zP)(nd:(SeT.kks zs).Nodup)(h1:∀z∈zs,z∈rs)(h2:∀y∈rs,y.1∈SeT.kks zs):SrtS (outP (zs.map zP)) xs:=by
 obtain⟨p,pw⟩:=Lr (zs.map zP);refine⟨p.nodup_iff.mpr ?_,λy=>?_,pw⟩
 ·rw[Y7,n6];have:zs.Pairwise λa b=>a.1≠b.1:=n6.mp nd;exact this.imp λhab h=>hab (zP_inj h)
 grind
theorem Mo (hc:∀z,(F z).calm=true)(hr:∀z,Room k (F z).A)(hg:∀z,Gl (F z) "sorted")(hm:∀z,(F z).mg "sorted"=none)(hg2:∀z,Gl (F z) "set")(hm2:∀z,(F z).mg "set"=none)(ha:QR T K F e pe)(hs:F7 e=true:=by rfl)(hK:∀z,(F z).K=K:=by intro _;rfl) :
   QN T K F (.Call (.Name "sorted" p) [.Call (.Name "set" p2) [e] [] pos2] [] pos) (FF pe):=by
 obtain⟨t,h1,h2⟩:=ha;refine⟨_,λz=>hK z▸SeT.Tr (hc z) (hr z) (hg z) (hm z) (hg2 z) (hm2 z) (h1 z) (D7 hs),λC G σ H env n R Q hK hT S hp k=>?_⟩;refine⟨λv H1=>∃x jc n1,(match x with|PV.lst xs=>wSet (λys=>R ys jc n1) xs|.tup xs=>wSet (λys=>R ys jc n1) xs|_=>False)/\SR C G σ H1 jc n1/\RdS C G σ H1 jc x v/\Fr G H H1,h2 C G σ H env n _ _ hK hT S hp λx jc n1 v H1 p1 S1 r1 f1=>⟨x,jc,n1,p1,S1,r1,f1⟩,λv H1 ⟨x,jc,n1,p1,S1,r1,f1⟩=>?_⟩;have rd:RdV K G H1 x v:=hK▸r1.rd S1
 have main:∀(xs:List PV) (a:A0) (us:List V),wSet (λys=>R ys jc n1) xs->(SqL K H1 a us\/SqT K H1 a us)->Reps K G H1 xs us->∃a' ys jo,V.ref a=.ref a'/\(SqL K H1 a' ys\/SqT K H1 a' ys)/\Paired (KM K H1 2) ys jo/\ys.length<=63/\Aa jo/\
     ∀H2 l rs zs,Same H1 H2->H2 l=none->SeT.kks rs=jo->(rs.map λy=>V.ref y.2)=ys->(SeT.kks zs).Nodup->(∀z∈zs,z∈rs)->(∀y∈rs,y.1∈SeT.kks zs)->Q (.ref l) (upd H2 l (.lst (outV (ltIx (SeT.kks zs)) (zs.map λz=>V.ref z.2)))):=by
   intro xs a us ⟨h63,ok,q⟩ hq r;obtain⟨m,pk,al⟩:=km_of r (.inr (.inr ok))
   have pk2:Paired (KM K H1 2) us (xs.map keyP):=Paired.imp' (λv ks ⟨_,_,hp⟩=>hp) (Dz (P:=λ_ v ks=>KM K H1 2 v ks) xs r λx hx v hv=>by
    obtain⟨ks,rfl,hne⟩:=ok.1 x hx;obtain⟨a,vs,rfl,at',rr⟩:=hv;rw[k5];refine⟨a,rfl,?_,hne⟩;rw[Fj ks rr] at at'
    exact SqT.of at'.2)
   refine⟨a,us,xs.map keyP,rfl,hq,pk2,by rw[<- r.length];exact h63,al,λH2 l rs zs sm hl ek eu nd z1 z2=>?_⟩;subst eu;obtain⟨ex,rz⟩:=Mm r ek ok.1;have rr:Reps K G H2 (zs.map zP) (zs.map λz=>V.ref z.2):=(Mn zs λz hz=>rz z (z1 z hz)).same sm;have ro:=Ls rr;have ekz:(zs.map zP).map keyP=SeT.kks zs:=by rw[U6];exact List.map_congr_left λz _=>keyP_z z
   rw[ekz] at ro;exact k _ _ _ _ _ _ (q _ (SrtS.of ex nd z1 z2)) (S1.same sm) (f1.trans (Fr.of sm)) hl ro
 cases x with
 | lst xs =>
  obtain⟨a,us,rfl,hq,r⟩:=rd.lst;exact main xs a us p1 (.inl hq) r
 | tup xs =>
  obtain⟨a,us,rfl,hq,r⟩:=rd.tup;exact main xs a us p1 (.inr hq) r
 |_=>exact p1.elim
end
end Pu
end
section
namespace L2
open PySem PySem.Spec PyProof.Rows
section
variable {X:Cx}
theorem Ts (hc:X.calm=true):M4 X (.type "set") (λvs H Q=>∃(a:A0) (ys:List Str),vs=[.ref a]/\SqL X.K H a (ys.map V.str)/\ys.length<=1000/\∀p,H p=none->Q (.ref p) (upd H p (SetX X p (λq=>(met (K7 ys) ys.length).any (λy=>decide (y=q))) (met (K7 ys) ys.length).length))):=by
 intro jb s σ H vs us Q I rv h;obtain⟨a,ys,rfl,hq,hl,k⟩:=h;obtain⟨u,rfl,ru⟩:=rv.one;obtain rfl:u=.ref a:=ru;obtain⟨jf,r,ht,_⟩:=I.list hq;have sz:jf.toArray.size=ys.length:=by have:=r.length;rw[B6] at this;simpa using this.symm
 refine KR (val:=K7 ys) (I.ok.hd hc) (.inl ht.isList) (λi v e=>?_) (by rw[sz];unfold scanBound;omega) λh' tk so kp=>?_
 ·obtain⟨t,rfl⟩:=KS r (by simpa using e);exact⟨ED _ _ _ _,rfl⟩
 ·rw[sz] at so
  have I1:Inv X jb σ (upd H s.heap.objs.size (SetX X s.heap.objs.size (λq=>(met (K7 ys) ys.length).any (λy=>decide (y=q))) (met (K7 ys) ys.length).length)) { s with heap:=h',toks:=tk }:=
   I.laid (fun b o e=>kp b o (D1 e) e) (B8 _) ⟨so,by obtain⟨o,_,_,_,e,_⟩:=so;exact⟨o,e⟩,fun h1 h2 x k2=>by
    obtain⟨o,es,ep,t,e,more⟩:=x
    exact⟨o,es,ep,t,k2 o e,more⟩⟩
  exact⟨.ref s.heap.objs.size,_,I1,rfl,k _ (I.hok.fresh (B8 _))⟩
def Tt (K:A9)(t:TE):TE:=λσ H Q=>∃Q',t σ H Q'/\∀x H1,Q' x H1->∃(a:A0) (ys:List Str),x=.ref a/\SqL K H1 a (ys.map V.str)/\ys.length<=1000/\∀H2,Same H1 H2->Q (.int (met (K7 ys) ys.length).length) H2
theorem Tu {e:Expr}{t:TE}{p1 p2 pos pos2:Pos}(hc:X.calm=true)(g1:Gl X "len")(m1:X.mg "len"=none)(g2:Gl X "set")(m2:X.mg "set"=none)(he:PE X e t)(hs:E6 [e] X.env=(false,eval e X.env)::E6 [] X.env) :
   PE X (.Call (.Name "len" p1) [.Call (.Name "set" p2) [e] [] pos2] [] pos) (Tt X.K t):=by
 have i1:=AD (p:=p2) (pos:=pos2) (Ts hc) g2 m2 GV (G4 (SeT.II he) K3 hs) (by decide) (by decide) hs rfl;have i2:=h9 (p:=p1) (pos:=pos) KU g1 m1 CW (G4 i1 K3 rfl) (by decide) (by decide) rfl rfl;intro jb s σ H Q I ⟨Q',h1,h2⟩;refine i2 jb s σ H Q I ⟨Q',h1,λx H1 hx=>?_⟩;obtain⟨a,ys,rfl,hq,hl,k⟩:=h2 x H1 hx;exact⟨a,ys,rfl,hq,hl,λp hn=>⟨p,_,_,rfl,D9,k _ ((Same.refl _).lay hn)⟩⟩
end
end L2
namespace Pu
open PySem PySem.Spec L2
section
variable {T:PotK}{ι:Type}{K:A9}{F:ι->Cx}{pos:Pos}{e:Expr}{pe:pE}
def Cd:w1:=λx R=>match x with|.lst xs=>(match R8 xs with|some ys=>ys.length<=1000/\R (.int (met (K7 ys) ys.length).length)|none=>False)|_=>False
theorem Mp {p1 p2 pos2:Pos}(hc:∀z,(F z).calm=true)(g1:∀z,Gl (F z) "len")(m1:∀z,(F z).mg "len"=none)(g2:∀z,Gl (F z) "set")(m2:∀z,(F z).mg "set"=none)(he:QE T K F e pe)(hs:F7 e=true:=by rfl)(hK:∀z,(F z).K=K:=by intro _;rfl) :
   QE T K F (.Call (.Name "len" p1) [.Call (.Name "set" p2) [e] [] pos2] [] pos) (qUn Cd pe):=by
 obtain⟨t,h1,h2⟩:=he;refine⟨_,λz=>hK z▸Tu (hc z) (g1 z) (m1 z) (g2 z) (m2 z) (h1 z) (D7 hs),λC G σ H env n R Q hK hT S hp k=>?_⟩;refine⟨_,h2 C G σ H env n _ (λv H'=>∃x jh n',Cd x (λr=>R r jh n')/\SR C G σ H' jh n'/\Rep K G H' x v/\Fr G H H') hK hT S hp (λx jh n' v H' r S' rv f=>⟨x,jh,n',r,S',rv,f⟩),λv H1 hx=>?_⟩;obtain⟨x,jc,n1,r,S1,rv,f1⟩:=hx;unfold Cd at r
 split at r
 ·rename_i xs
  split at r
  ·rename_i ys ey;obtain⟨a,vs,rfl,t,rs⟩:=rv;exact⟨a,ys,rfl,Dm ey rs▸t.sq,r.1,λH2 s2=>k _ _ _ _ _ r.2 (S1.same s2) rfl (f1.trans (Fr.of s2))⟩
  ·exact r.elim
 ·exact r.elim
end
end Pu
end
section
namespace L2
open PySem PySem.Spec PyProof.Rows
section
variable {X:Cx}{a b:Expr}{rest:List Expr}{ta tb:TE}{pos:Pos}
theorem pe_orT (ha:PE X a ta)(hb:PE X (.BoolOp .Or (b::rest) pos) tb):PE X (.BoolOp .Or (a::b::rest) pos) (λσ H Q=>ta σ H λx H1=>∃k,TruV X.K x H1 k/\if k=true then Q x H1 else tb σ H1 Q):=by
 intro jb s σ H Q I h;refine BoolOp_or (thn (ha jb s σ H _ I h) λv s1 ⟨x,H1,I1,r1,q1⟩=>?_);refine thn (tru_ok jb s1 σ H1 x v (λk H=>if k=true then Q x H else tb σ H Q) I1 r1 q1) λc s2 ⟨H2,I2,q2⟩=>?_;cases c with
 |false=>exact hb jb s2 σ H2 Q I2 q2
 |true=>exact⟨x,H2,I2,r1,q2⟩
end
end L2
namespace Pu
open PySem PySem.Spec L2
section
variable {T:PotK}{ι:Type}{K:A9}{F:ι->Cx}{a b:Expr}{rest:List Expr}{pa pb:pE}{pos:Pos}
def qOrT (pa pb:pE):pE:=λenv n R=>pa env n λx jc n1=>match Hu x with|some b=>if b=true then R x jc n1 else pb jc n1 R|none=>False
theorem qe_orT (ha:QE T K F a pa)(hb:QE T K F (.BoolOp .Or (b::rest) pos) pb)(hK:∀z,(F z).K=K:=by intro _;rfl):QE T K F (.BoolOp .Or (a::b::rest) pos) (qOrT pa pb):=by
 obtain⟨t,a1,a2⟩:=ha;obtain⟨u,b1,b2⟩:=hb;refine⟨_,λz=>hK z▸pe_orT (a1 z) (b1 z),λC G σ H env n R Q hK hT S hp k=>?_⟩;refine a2 C G σ H env n _ _ hK hT S hp λx jc n1 v H1 q1 S1 r1 f1=>?_
 split at q1
 ·rename_i c ec;refine⟨c,tru_of ec (.inl r1),?_⟩;cases c with
  | true =>
   rw[jr rfl] at q1 ⊢;exact k _ _ _ _ _ q1 S1 r1 f1
  | false =>
   rw[jt O2] at q1 ⊢;exact b2 C G σ H1 jc n1 _ _ hK hT S1 q1 λy jd n2 w H2 q2 S2 r2 f2=>k _ _ _ _ _ q2 S2 r2 (f1.trans f2)
 ·exact q1.elim
end
end Pu
end
section
namespace Pu
open PySem PySem.Spec L2
theorem DN {r:Int}:∀(m:List Mk) (k:Nat) (st:List Nat),st.Pairwise (fun a b=>b < a)->(∀p∈st,p < k)->run r k st m=some []->
   (∀i j,PE.t i j∈shE k st m->j<i/\k<=i/\(j∈st\/k<=j)/\(i:Int)-j-1<=r/\i<k+m.length/\∀q,j<q->q<i->q∈(shE k st m).flatMap peB\/(q<k/\q∉st))/\
   ∀i j i' j',PE.t i j∈shE k st m->PE.t i' j'∈shE k st m->(i=i'/\j=j')\/i<j'\/i'<j\/(j<j'/\i'<i)\/(j'<j/\i<i')
 |[],k,st,_,_,_=>⟨λi j h=>by simp[shE] at h,λi j i' j' h=>by simp[shE] at h⟩
 | .t :: m, k, st, pw, hs, hr => by
  obtain⟨h1,h2⟩:=DN m (k+1) (k::st) (List.pairwise_cons.mpr ⟨hs,pw⟩) (λp hp=>(C3.mp hp).elim (λe=>by omega) λhp=>by have:=hs p hp;omega) hr;refine⟨λi j h=>?_,h2⟩;obtain⟨a,b,c,d,l,e⟩:=h1 i j h;rw[E8];refine⟨a,by omega,?_,d,by omega,λq q1 q2=>?_⟩
  ·rcases c with c|c
   ·rcases C3.mp c with rfl|c
    ·exact .inr (B8 _)
    ·exact .inl c
   ·exact .inr (by omega)
  ·rcases e q q1 q2 with z|⟨z1,z2⟩
   ·exact .inl z
   ·refine .inr ⟨?_,λz=>z2 (C5 _ z)⟩;have:q≠k:=λz=>z2 (by rw[z];exact C8);omega
 | .d :: m, k, st, pw, hs, hr => by
  obtain⟨h1,h2⟩:=DN m (k+1) st pw (λp hp=>by have:=hs p hp;omega) hr;have un:shE k st (.d::m)=PE.d k::shE (k+1) st m:=rfl;rw[un]
  have tl:∀{i j},PE.t i j∈PE.d k::shE (k+1) st m->PE.t i j∈shE (k+1) st m:=λh=>by
   rcases C3.mp h with z|z
   ·cases z
   ·exact z
  refine⟨λi j h=>?_,λi j i' j' h h'=>h2 i j i' j' (tl h) (tl h')⟩;obtain⟨a,b,c,d,l,e⟩:=h1 i j (tl h);rw[E8,Y5];refine⟨a,by omega,c.imp id (λz=>by omega),d,by omega,λq q1 q2=>?_⟩;rcases e q q1 q2 with z|⟨z1,z2⟩
  ·exact .inl (O9 _ z)
  ·by_cases c:q=k
   ·exact .inl (w8 _ (by rw[c];simp[peB]))
   ·exact .inr ⟨by omega,z2⟩
 |.o::m,k,p::st,pw,hs,hr=>by cases hr
 | .o :: m, k, [], pw, hs, hr => by
  obtain⟨h1,h2⟩:=DN m (k+1) [] pw (λp hp=>nomatch hp) hr;have un:shE k [] (.o::m)=shE (k+1) [] m:=by simp[shE]
  rw[un];refine⟨λi j h=>?_,h2⟩;obtain⟨a,b,c,d,l,e⟩:=h1 i j h;have cj:k+1<=j:=c.elim (λz=>nomatch z) id;rw[E8];refine⟨a,by omega,.inr (by omega),d,by omega,λq q1 q2=>?_⟩;rcases e q q1 q2 with z|⟨z1,z2⟩
  ·exact .inl z
  ·omega
 |.u::m,k,[],pw,hs,hr=>by cases hr
 | .u :: m, k, p :: st, pw, hs, hr => by
  have hr':(if(k:Int)-p-1<=r then run r (k+1) st m else none)=some []:=hr
  split at hr'
  case isFalse=>cases hr'
  case isTrue hpr=>
  obtain⟨pw1,pw2⟩:=List.pairwise_cons.mp pw;have hp:=hs p C8;obtain⟨h1,h2⟩:=DN m (k+1) st pw2 (λq hq=>by have:=hs q (C5 _ hq);omega) hr';have un:shE k (p::st) (.u::m)=PE.t k p::shE (k+1) st m:=rfl;rw[un]
  have tl:∀{i j},PE.t i j∈PE.t k p::shE (k+1) st m->(i=k/\j=p)\/PE.t i j∈shE (k+1) st m:=λh=>by
   rcases C3.mp h with z|z
   ·cases z;exact .inl ⟨rfl,rfl⟩
   ·exact .inr z
  refine⟨λi j h=>?_,λi j i' j' h h'=>?_⟩
  ·rw[E8,Y5];rcases tl h with⟨rfl,rfl⟩|h
   ·refine⟨hp,B8 _,.inl C8,hpr,by omega,λq q1 q2=>.inr ⟨q2,λz=>?_⟩⟩;rcases C3.mp z with z|z
    ·omega
    ·have:=pw1 q z;omega
   ·obtain⟨a,b,c,d,l,e⟩:=h1 i j h;refine⟨a,by omega,c.imp (λz=>C5 _ z) (λz=>by omega),d,by omega,λq q1 q2=>?_⟩;rcases e q q1 q2 with z|⟨z1,z2⟩
    ·exact .inl (O9 _ z)
    ·by_cases c1:q=k
     ·exact .inl (w8 _ (by rw[c1];simp[peB]))
     ·by_cases c2:q=p
      ·exact .inl (w8 _ (by rw[c2];simp[peB]))
      ·refine .inr ⟨by omega,λz=>?_⟩;rcases C3.mp z with z|z
       ·exact c2 z
       ·exact z2 z
  ·have t1:=tl h;have t2:=tl h';clear h h';rcases t1 with⟨rfl,rfl⟩|h
   ·rcases t2 with⟨rfl,rfl⟩|h'
    ·exact .inl ⟨rfl,rfl⟩
    ·obtain⟨a,b,c,_⟩:=h1 i' j' h';rcases c with c|c
     ·have:=pw1 j' c;exact .inr (.inr (.inr (.inr ⟨by omega,by omega⟩)))
     ·exact .inr (.inl (by omega))
   ·rcases t2 with⟨rfl,rfl⟩|h'
    ·obtain⟨a,b,c,_⟩:=h1 i j h;rcases c with c|c
     ·have:=pw1 j c;exact .inr (.inr (.inr (.inl ⟨by omega,by omega⟩)))
     ·exact .inr (.inr (.inl (by omega)))
    ·exact h2 i j i' j' h h'
def btwU (st:List Str)(x y:Str):List Str:=(st.take (max (ixS st x) (ixS st y))).drop (min (ixS st x) (ixS st y)+1)
theorem Mq {zs:List Str}(nd:zs.Nodup){i:Nat}(h:i<zs.length):ixS zs (nm zs i)=i:=Io nd (Z6 (DH h)).1 (Ac h)
theorem Tv {st:List Str}{x y:Str}(hx:x∈st)(hy:y∈st)(h:ixS st y<ixS st x):(btwU st x y).length=ixS st x-ixS st y-1:=by
 have:=P6 hx;unfold btwU
 grind
theorem u9 {st:List Str}(nd:st.Nodup){x y z:Str}(hx:x∈st)(hy:y∈st):z∈btwU st x y↔z∈st/\min (ixS st x) (ixS st y)<ixS st z/\ixS st z<max (ixS st x) (ixS st y):=by
 unfold btwU;constructor
 ·intro h;obtain⟨q,hq,e⟩:=Cs h;rw[X5,T5] at hq;rw[List.getElem_drop,List.getElem_take] at e;have hm:z∈st:=by rw[<- e];exact U5 _
  have ez:st[min (ixS st x) (ixS st y)+1+q]?=some z:=by rw[D4 (by omega),e]
  have:=Io nd (Z6 hm).1 ez;exact⟨hm,by omega,by omega⟩
 ·rintro⟨hm,h1,h2⟩;have hl:=P6 hm;have e:=(Z6 hm).1;refine K8 (i:=ixS st z-(min (ixS st x) (ixS st y)+1)) ?_;rw[List.getElem?_drop,show min (ixS st x) (ixS st y)+1+(ixS st z-(min (ixS st x) (ixS st y)+1))=ixS st z by omega,List.getElem?_take,jr h2];exact e
structure W8 (r:Int)(st:List Str)(es:List Ev):Prop where
 fair:Fair st es
 ahead:∀x y,Ev.t x y∈es->ixS st y<ixS st x
 near:∀x y,Ev.t x y∈es->((btwU st x y).length:Int)<=r
 full:∀x y,Ev.t x y∈es->∀z∈btwU st x y,z∈es.flatMap evB
 plain:∀x y x' y',Ev.t x y∈es->Ev.t x' y'∈es->(x'∈btwU st x y↔y'∈btwU st x y)
theorem Fair.tx {st:List Str}{es:List Ev}(h:Fair st es){x y:Str}(he:Ev.t x y∈es):x∈st/\y∈st:=
 ⟨h.sub x (Bg.mpr ⟨_,he,by simp[evB]⟩),h.sub y (Bg.mpr ⟨_,he,by simp[evB]⟩)⟩
theorem W8.perm {r:Int}{st:List Str}{es es':List Ev}(h:W8 r st es)(p:es'.Perm es):W8 r st es':=
 ⟨h.fair.perm p,λx y hx=>h.ahead x y (p.mem_iff.mp hx),λx y hx=>h.near x y (p.mem_iff.mp hx),λx y hx z hz=>(Im p).mem_iff.mpr (h.full x y (p.mem_iff.mp hx) z hz),λx y x' y' hx hx'=>h.plain x y x' y' (p.mem_iff.mp hx) (p.mem_iff.mp hx')⟩
theorem Tw {r:Int}{zs:List Str}(nd:zs.Nodup){m:List Mk}(hl:m.length=zs.length)(hw:run r 0 [] m=some []):W8 r zs ((shE 0 [] m).map (evOf zs)):=by
 have fr:=Sm nd hl;obtain⟨h1,h2⟩:=DN m 0 [] Gv (λ_ z=>nomatch z) hw
 have ev:∀x y,Ev.t x y∈(shE 0 [] m).map (evOf zs)->∃i j,PE.t i j∈shE 0 [] m/\x=nm zs i/\y=nm zs j/\i<zs.length/\j<i/\ixS zs x=i/\ixS zs y=j:=λx y h=>by
  obtain⟨e,he,q⟩:=J1.mp h;cases e with
  |d i=>cases q
  | t i j =>
   cases q;obtain⟨a,b,c,d,l,e⟩:=h1 i j he;exact⟨i,j,he,rfl,rfl,by omega,a,Mq nd (by omega),Mq nd (by omega)⟩
 refine⟨fr,λx y h=>?_,λx y h=>?_,λx y h z hz=>?_,λx y x' y' h h'=>?_⟩
 ·grind
 ·obtain⟨hx,hy⟩:=fr.tx h;obtain⟨i,j,he,_,_,li,lj,e1,e2⟩:=ev x y h;rw[Tv hx hy (by omega),e1,e2];have:=(h1 i j he).2.2.2.1;omega
 ·obtain⟨hx,hy⟩:=fr.tx h;obtain⟨i,j,he,_,_,li,lj,e1,e2⟩:=ev x y h;obtain⟨zm,z1,z2⟩:=(u9 nd hx hy).mp hz;rw[e1,e2] at z1 z2;have hq:=(h1 i j he).2.2.2.2.2 (ixS zs z) (by omega) (by omega);rcases hq with hq|⟨hq,_⟩
  ·rw[Ip];refine J1.mpr ⟨_,hq,?_⟩;have:=Ac (zs:=zs) (P6 zm);rw[(Z6 zm).1] at this;exact(P0 this).symm
  ·omega
 ·obtain⟨hx,hy⟩:=fr.tx h;obtain⟨hx',hy'⟩:=fr.tx h';obtain⟨i,j,he,_,_,li,lj,e1,e2⟩:=ev x y h;obtain⟨i',j',he',_,_,li',lj',e1',e2'⟩:=ev x' y' h';rw[u9 nd hx hy,u9 nd hx hy,e1,e2,e1',e2'];have:=h2 i j i' j' he he';constructor
  ·grind
  ·grind
end Pu
end
section
namespace Pu
open PySem PySem.Spec L2
theorem nodup_ix {α:Type}{l:List α}(nd:l.Nodup){k m:Nat}(h1:k<l.length)(h2:m<l.length)(e:l[k]=l[m]):k=m:=by
 have pw:=V6.mp nd;rcases o8 k m with c|c|c
 ·exact absurd e (pw k m h1 h2 c)
 ·exact c
 ·exact absurd e.symm (pw m k h2 h1 c)
end Pu
end
section
namespace Pu
open PySem PySem.Spec L2
abbrev pD:=List Key->(Env->Nat->List (List PV)->Prop)->Env->Nat->List (List PV)->Prop
end Pu
end
section
namespace Pu
open PySem PySem.Spec L2
structure KE (K:A9)(T:PotK)(G:Gh)(H1:Hp)(D:A0)(M:List A0)(as:List A0)(ks:List Key)(yss:List (List PV))(H:Hp):Prop where
 mem:∀c,c∈M↔c∈as\/c=D\/c∈G.M
 keep:∀b o,b∉G.pots->H1 b=some o->H b=some o
 dic:H D=some (.dK (ks.zip (as.map V.ref)))
 lk:ks.length=as.length
 ly:yss.length=as.length
 nd:(D::as).Nodup
 new:∀b∈as,H1 b=none
 inn:∀(k:Nat) (b:A0) (ys:List PV),as[k]?=some b->yss[k]?=some ys->∃vs,H b=some (.lst vs)/\Reps K ⟨M,G.pots⟩ H ys vs
end Pu
end
section
namespace Pu
open PySem PySem.Spec L2
theorem SR.m0 (S:SR C G σ H env n)(h:∀b,b∈C.M0↔b∈M'):SR { C with M0:=M' } G σ H env n where
 frame:=S.frame
 sub:=λa ha=>(S.sub a ha).imp (h a).mp id
 sup:=λa ha=>S.sup a ((h a).mpr ha)
 pots:=S.pots
 pre:=S.pre
 mu:=S.mu
 slots:=λi s e=>by
  have q:=S.slots i s e;cases s with
  |v x=>exact q
  | ow k xs =>
   obtain⟨a,vs,e1,h1,h2,h3,h4,r⟩:=q;exact⟨a,vs,e1,h1,λz=>h2 ((h a).mpr z),h3,h4,r⟩
 inj:=S.inj
 p0:=⟨λp hp=>(h p).mp (S.p0.1 p hp),S.p0.2⟩
 len:=S.len
 newp:=λp hp h1 h2=>S.newp p hp h1 ((h p).mpr h2)
end Pu
end
section
namespace L2
open PySem PySem.Spec PyProof.Rows
section
variable {X:Cx}
def Tx (K:A9)(t:TE):TE:=λσ H Q=>∃Q',t σ H Q'/\∀x H1,Q' x H1->∃(a:A0) (ys:List Str),x=.ref a/\SqT K H1 a (ys.map V.str)/\ys.length<=1000/\∀H2,Same H1 H2->Q (.int (met (K7 ys) ys.length).length) H2
theorem Ty {e:Expr}{t:TE}{p1 p2 pos pos2:Pos}(hc:X.calm=true)(g1:Gl X "len")(m1:X.mg "len"=none)(g2:Gl X "set")(m2:X.mg "set"=none)(he:PE X e t)(hs:E6 [e] X.env=(false,eval e X.env)::E6 [] X.env) :
   PE X (.Call (.Name "len" p1) [.Call (.Name "set" p2) [e] [] pos2] [] pos) (Tx X.K t):=by
 have i1:=AD (p:=p2) (pos:=pos2) (Qy hc) g2 m2 GV (G4 (SeT.II he) K3 hs) (by decide) (by decide) hs rfl;have i2:=h9 (p:=p1) (pos:=pos) KU g1 m1 CW (G4 i1 K3 rfl) (by decide) (by decide) rfl rfl;intro jb s σ H Q I ⟨Q',h1,h2⟩;refine i2 jb s σ H Q I ⟨Q',h1,λx H1 hx=>?_⟩;obtain⟨a,ys,rfl,hq,hl,k⟩:=h2 x H1 hx;exact⟨a,ys,rfl,hq,hl,λp hn=>⟨p,_,_,rfl,D9,k _ ((Same.refl _).lay hn)⟩⟩
end
end L2
namespace Pu
open PySem PySem.Spec L2
section
variable {T:PotK}{ι:Type}{K:A9}{F:ι->Cx}{pos:Pos}{e:Expr}{pe:pE}
theorem Tz {p1 p2 pos2:Pos}(hc:∀z,(F z).calm=true)(g1:∀z,Gl (F z) "len")(m1:∀z,(F z).mg "len"=none)(g2:∀z,Gl (F z) "set")(m2:∀z,(F z).mg "set"=none)(he:QE T K F e pe)(hs:F7 e=true:=by rfl)(hK:∀z,(F z).K=K:=by intro _;rfl) :
   QE T K F (.Call (.Name "len" p1) [.Call (.Name "set" p2) [e] [] pos2] [] pos) (qUn Dv pe):=by
 obtain⟨t,h1,h2⟩:=he;refine⟨_,λz=>hK z▸Ty (hc z) (g1 z) (m1 z) (g2 z) (m2 z) (h1 z) (D7 hs),λC G σ H env n R Q hK hT S hp k=>?_⟩;refine⟨_,h2 C G σ H env n _ (λv H'=>∃x jh n',Dv x (λr=>R r jh n')/\SR C G σ H' jh n'/\Rep K G H' x v/\Fr G H H') hK hT S hp (λx jh n' v H' r S' rv f=>⟨x,jh,n',r,S',rv,f⟩),λv H1 hx=>?_⟩;obtain⟨x,jc,n1,r,S1,rv,f1⟩:=hx;unfold Dv at r
 split at r
 ·rename_i xs
  split at r
  ·rename_i ys ey;obtain⟨a,vs,rfl,t,rs⟩:=rv;exact⟨a,ys,rfl,Dm ey rs▸t.sq,r.1,λH2 s2=>k _ _ _ _ _ r.2 (S1.same s2) rfl (f1.trans (Fr.of s2))⟩
  ·exact r.elim
 ·exact r.elim
end
end Pu
end
section
namespace L2
open PySem PySem.Spec PyProof.Rows
theorem TB (l:A0)(items:Array A1)(n:Nat)(b:A0)(items2:Array A1)(hs0:¬(!items.isEmpty&&EB (items.size+items2.size))=true)(hs1:items.size<=C2)(hs2:items.size+items2.size<=C2+1) :
   Meets (N5.«list.extend» ⟨[.ref l,.ref b],[]⟩) (λ_ R s=>s.heap.get? l=some { cls:=.type "list",dict:=none,data:=.seq items n,slots:=#[] }/\s.heap.IsTuple b items2/\R (.ok (.ret T7)) { s with heap:=s.heap.update l (G8 λx=>x++items2),toks:=s.toks }):=
 .of_wp λprog w A R s h=>by
  obtain⟨hp,g,d,tk,os⟩:=s;obtain⟨hl,⟨⟨oc,od,odt,os'⟩,hb,hc,n2,hd⟩,h⟩:=h;cases hc;cases hd;have f1:=AutoSeq1.idx_int;have f2:=AutoSeq1.sub_tuple_tuple;have f3:=AutoSeq1.sub_list_list;have f4:=AutoSeq1.sub_tuple_list;have f5:=AutoSeq1.sub_list_tuple;have hz':(items++items2).size<=C2+1:=by rw[Array.size_append];exact hs2
  wp_walk using(wpAny_updateSeq hl rfl (hz:=hs1) (_hz':=hz')),wpAny_loadPart' hl,wpAny_loadPart' hb
  exact⟨_,rfl,h⟩
section
variable {X:Cx}
def rExtT (K:A9):V->List V->Hp->VK->Prop:=λx vs H Q=>∃l b xs zs,x=.ref l/\vs=[.ref b]/\H l=some (.lst xs)/\SqT K H b zs/\xs.length+zs.length<=C2/\Q .non (upd H l (.lst (xs++zs)))
theorem TC:MtM X "list.extend" (rExtT X.K):=by
 intro jb s σ H x vs v us Q I rx rv h;obtain⟨l,b,xs,zs,rfl,rfl,hH,hB,hz,q⟩:=h;cases rx;obtain⟨u,rfl,ru⟩:=rv.one;cases ru;obtain⟨z,jf,n,r,hl,e⟩:=I.lstM hH;obtain⟨its2,r2,ht,hl2⟩:=I.tuple hB;have l2:=r2.length;have hsz:jf.toArray.size+its2.toArray.size<=C2:=by rw[F9,F9];omega
 have hlong:¬(!jf.toArray.isEmpty&&EB (jf.toArray.size+its2.toArray.size))=true:=by
  rw[Ph hsz,Bool.and_false];exact O2
 refine call_meets F.slot_list_extend ⟨_,e,rfl⟩ F.entry_list_extend (F.args_list_extend_2 _ _) (TB l jf.toArray n b its2.toArray hlong (by rw[F9];omega) (by omega)) ⟨e,ht,?_⟩;refine⟨.non,_,I.lset (its':=jf++its2) hH e (by simp) (r.append r2) ?_,rfl,q⟩;rw[E7];omega
end
end L2
namespace Pu
open PySem PySem.Spec L2
section
variable {T:PotK}{ι:Type}{K:A9}{F:ι->Cx}{e:Expr}{pe:pE}{pos:Pos}
def FG (i:Nat)(pe:pE):pE:=λenv n R=>(∃xs,env[i]?=some (some (.ow .lst xs)))/\pe env n λy jc n1=>match jc[i]?,y with|some (some (.ow .lst xs)),.tup ys=>xs.length+ys.length<=1000000/\R .non (jc.set i (some (.ow .lst (xs++ys)))) n1|_,_=>False
theorem Mr (i:Nat)(hv:∀z,EW (F z) (.Name x p) (tVar i))(he:QE T K F e pe)(hs:F7 e=true:=by rfl)(hbase:∀z,l5 (.Name x p) "extend" (F z).env (eval (.Name x p) (F z).env)=eval (.Name x p) (F z).env:=by intro _;rfl)(hline:(ap.endLine == pos.line)=true:=by rfl)
   (hfew:∀z,((backTo pos (E6 [e] (F z).env)).all (λx=>!x.1)&&(b9 pos (b7 [] (F z).env)).all (λx=>x.1.isSome)&&decide (([e]:List Expr).length+([]:List T0).length+(if([]:List T0).isEmpty then 0 else 1)<30))=true:=by intro _;rfl) (hK:∀z,(F z).K=K:=by intro _;rfl):QE T K F (.Call (.Attribute (.Name x p) "extend" ap) [e] [] pos) (FG i pe):=by
 obtain⟨t,a1,a2⟩:=he;refine⟨tBM K "list" (rExtT K) (tVar i) (V8 t tNil),λz=>hK z▸BG Bu PySem.F.slot_list_extend PySem.F.type_list_extend TC (hv z).h (G4 (a1 z) K3 (D7 hs)) (hbase z) (hfew z) hline (D7 hs),λC G σ H env n R Q hK hT S hp k=>?_⟩;obtain⟨⟨xs0,e0⟩,hp⟩:=hp;obtain⟨a,vs,ev,h1,h2,h3,h4,r⟩:=S.slots i _ e0;refine⟨.ref a,ev,.inl ⟨rfl,vs,SqL.of h4⟩,?_⟩;refine a2 C G σ H env n _ _ hK hT S hp λy jc n1 v H1 q1 S1 r1 f1=>?_
 split at q1
 ·rename_i xs ys ex;obtain⟨a',us,ev',g1,g2,g3,g4,r'⟩:=S1.slots i _ ex;rw[ev] at ev';cases ev';subst hK;obtain⟨b,ws,rfl,tb,rb⟩:=r1;obtain⟨S2,f2⟩:=S1.put ex ev (r'.append rb);exact⟨a,b,us,ws,rfl,rfl,g4,SqT.of tb.2,by rw[<- r'.length,<- rb.length];exact mil q1.1,k _ _ _ _ _ q1.2 S2 rfl (f1.trans f2)⟩
 ·exact q1.elim
end
end Pu
end
section
namespace Tb
open PySem L2 Pu
abbrev L8:pF:=BY
abbrev lamP:PySem.Pos:=⟨73,48,73,88⟩
abbrev lamQ:PySem.Str:=A5 "order_of.<locals>.<lambda>"
def Ms:pS:=(qSeq (qPar 2 3 (sV (qC (.str (A5 "abcdefghijklmnopqrstuvwxyz")))) (sV (qC (.str (A5 "")))))
   (qSeq (qSet 4 (qOp wIx (qL (qLst (A3 (qC (.int 1)) (A3 (qC (.int 3)) (A3 (qC (.int 5)) (A3 (qC (.int 7)) (A3 (qC (.int 9)) (A3 (qC (.int 11)) (A3 (qC (.int 15)) (A3 (qC (.int 17)) (A3 (qC (.int 19)) (A3 (qC (.int 21)) qNil)))))))))))) (C0 L8 (A3 (qV 0) (A3 (qC (.int 10)) qNil)))))
   (qSeq (qSet 5 (C0 L8 (A3 (qV 0) (A3 (qC (.int 26)) qNil))))
   (qSeq (qFor (AK (qC (.int 7))) (gN 6) (qSet 3 (qOp wAdd (qV 3) (qOp wIx (qV 2) (C0 L8 (A3 (qV 0) (A3 (qC (.int 26)) qNil)))))))
   (qSeq (qSet 7 (C0 L8 (A3 (qV 0) (A3 (qC (.int 8)) qNil))))
   (qSeq (qOwn 8 (qLst qNil))
   (qSeq (qFor (AK (qV 1)) (gN 6) (qSeq (qPar 9 10 (sV (qOp wAdd (qV 7) (C0 L8 (A3 (qV 0) (A3 (qOp wSub (qC (.int 8)) (qV 7)) qNil))))) (sV (qOp wIx (qV 2) (qOp wMod (qOp wAdd (qV 5) (qOp wMul (qV 4) (qV 6))) (qC (.int 26))))))
   (M5 (R1 8 (qOp wAdd (qOp wAdd (qSl (qV 3) qNo (K6 (qV 7))) (qV 10)) (qSl (qV 3) (K6 (qV 7)) (K6 (qV 9))))))))
   (qSeq (qSet 11 (qOp wIx (qL (qLst (A3 (qC (.str (A5 "drop"))) (A3 (qC (.str (A5 "touch"))) (A3 (qC (.str (A5 "none"))) (A3 (qC (.str (A5 "d"))) (A3 (qC (.str (A5 "u"))) (A3 (qC (.str (A5 "t"))) (A3 (qC (.str (A5 "o"))) qNil))))))))) (C0 L8 (A3 (qV 0) (A3 (qC (.int 7)) qNil)))))
   (qSeq (qIfS (qAnd (qB (qOp (wIn 4 true) (qV 11) (qO 8))) (qB (qOp (wEq 4) (C0 L8 (A3 (qV 0) (A3 (qC (.int 3)) qNil))) (qC (.int 0))))) (qPut 8 (qV 11) (C0 L8 (A3 (qV 0) (A3 (qV 1) qNil)))) qNx)
   (qRet (qUn W4 (qO 8))))))))))))
def IJ:pF:=fnP ["_law_draws","_law_many","_law_letters","_law_stem","_law_step","_law_first","_law_k","_law_at","_law_found","_law_far","_law_sign","_law_word_here"] ["_law_draws","_law_many"] Ms
def Mt:pS:=(qSeq (qSet 2 (qTup (A3 (qOp wAdd (qC (.int 1)) (C0 L8 (A3 (qV 0) (A3 (qC (.int 8)) qNil)))) (A3 (qOp wIx (qL (qLst (A3 (qC (.int 0)) (A3 (qC (.int 1)) (A3 (qC (.int 7)) (A3 (C0 L8 (A3 (qV 0) (A3 (qC (.int 8)) qNil))) qNil)))))) (C0 L8 (A3 (qV 0) (A3 (qC (.int 4)) qNil)))) qNil))))
   (qSeq (qSet 3 (qOp wIx (qL (qLst (A3 (qOp wAdd (qC (.int 1)) (C0 L8 (A3 (qV 0) (A3 (qV 1) qNil)))) (A3 (qOp wAdd (qC (.int 1)) (C0 L8 (A3 (qV 0) (A3 (qOp wMin (qV 1) (qC (.int 6))) qNil)))) qNil)))) (C0 L8 (A3 (qV 0) (A3 (qC (.int 2)) qNil)))))
   (qRet (qTup (A3 (qV 2) (A3 (C0 IJ (A3 (qV 0) (A3 (qV 3) qNil))) qNil))))))
def IK:pF:=fnP ["_law_draws","_law_most","_law_meeting","_law_many"] ["_law_draws","_law_most"] Mt
def Mu:pS:=(qSeq (qSet 3 (qOp wIx (qV 0) (qC (.int 0))))
   (qSeq (qSet 4 (qOp wMul (qV 2) (qV 3)))
   (qRet (qTup (A3 (qV 4) (A3 (qIf (qB (qOp wLt (qOp wAdd (qV 4) (qV 3)) (qV 1))) (qOp wAdd (qV 4) (qV 3)) (qOp wSub (qV 1) (qC (.int 1)))) qNil))))))
def FH:pF:=fnP ["_law_meeting","_law_n","_law_k","_law_size","_law_first"] ["_law_meeting","_law_n","_law_k"] Mu
def Mv:pS:=(qSeq (qPar 2 3 (sO (qLst qNil)) (sO (qLst qNil)))
   (qSeq (qFor (qZip false true (qV 0) (qV 1)) (gTp 2 (gCn (gN 4) (gCn (gN 5) gNl))) (qIfS (qB (qOp (wEq 4) (qV 5) (qC (.str (A5 "t"))))) (M5 (R1 2 (qV 4))) (qIfS (qB (qOp (wEq 4) (qV 5) (qC (.str (A5 "u"))))) (M5 (R1 3 (qTup (A3 (qC (.str (A5 "touch"))) (A3 (qV 4) (A3 (qPop 2) qNil)))))) (qIfS (qB (qOp (wEq 4) (qV 5) (qC (.str (A5 "d"))))) (M5 (R1 3 (qTup (A3 (qC (.str (A5 "drop"))) (A3 (qV 4) qNil))))) qNx))))
   (qRet (qUn W4 (qL (Fk (qO 3)))))))
def IL:pF:=fnP ["_law_start","_law_marks","_law_pile","_law_events","_law_boat","_law_mark"] ["_law_start","_law_marks"] Mv
def Mw:pS:=(qRet (qOp EI (qOp wSub (qOp wAdd (qV 1) (qOp wIx (qV 0) (qC (.int 0)))) (qC (.int 1))) (qOp wIx (qV 0) (qC (.int 0)))))
def DO:pF:=fnP ["_law_meeting","_law_n"] ["_law_meeting","_law_n"] Mw
def Mx:pS:=(qSeq (qPar 3 4 (sO (qLst qNil)) (sO (qLst qNil)))
   (qSeq (qFor (AK (qV 1)) (gN 5) (qSeq (Ks (qAnd (qB (qOpR (wNe 4) (qO 4) (qL (qLst qNil)))) (qB (qOp wGt (qOp wSub (qOp wSub (qV 5) (qOpR wIx (qO 4) (qUn wNeg (qC (.int 1))))) (qC (.int 1))) (qV 2)))) (qPut 3 (qC (.str (A5 "d"))) (qPop 4)))
   (qSeq (qSet 6 (C0 L8 (A3 (qV 0) (A3 (qC (.int 5)) qNil))))
   (qIfS (qAnd (qB (qOpR (wNe 4) (qO 4) (qL (qLst qNil)))) (qB (qOp wLt (qV 6) (qC (.int 2))))) (qSeq (qPut 3 (qC (.str (A5 "t"))) (qPop 4))
   (M5 (R1 3 (qC (.str (A5 "u")))))) (qIfS (qOr (qB (qOp (wEq 4) (qV 6) (qC (.int 2)))) (qB (qOp (wEq 4) (qV 6) (qC (.int 3))))) (qSeq (M5 (R1 4 (qV 5)))
   (M5 (R1 3 (qC (.str (A5 "d")))))) (M5 (R1 3 (qIf (qB (qOpR (wNe 4) (qO 4) (qL (qLst qNil)))) (qC (.str (A5 "d"))) (qOp wIx (qL (qLst (A3 (qC (.str (A5 "o"))) (A3 (qC (.str (A5 "o"))) (A3 (qC (.str (A5 "d"))) qNil))))) (C0 L8 (A3 (qV 0) (A3 (qC (.int 3)) qNil))))))))))))
   (ET 3)))
def IM:pF:=fnP ["_law_draws","_law_many","_law_reach","_law_marks","_law_pile","_law_k","_law_way"] ["_law_draws","_law_many","_law_reach"] Mx
def My:pS:=(qSeq (qOwn 2 (BJ (qV 0)))
   (qSeq (qFor (qIt (qV 1)) (gN 3) (qIfS (qB (qOp (wEq 4) (qOp wIx (qV 3) (qC (.int 0))) (qC (.str (A5 "touch"))))) (qSeq (qPut 2 (qOp wIx (qV 3) (qC (.int 2))) (R9 (qV 0) (qOp wIx (qV 3) (qC (.int 1)))))
   (qPut 2 (qOp wIx (qV 3) (qC (.int 1))) (R9 (qV 0) (qOp wIx (qV 3) (qC (.int 2)))))) qNx))
   (qRet (qUn W4 (qO 2)))))
def DQ:pF:=fnP ["_law_start","_law_sheet_here","_law_found","_law_event"] ["_law_start","_law_sheet_here"] My
def Mz:pS:=(qSeq (qPar 3 4 (sO (qLst qNil)) (sO (qLst qNil)))
   (qSeq (qFor (DA (C0 DO (A3 (qV 1) (A3 (qUn wLen (qV 2)) qNil)))) (gN 5) (qSeq (qAsg (C0 FH (A3 (qV 1) (A3 (qUn wLen (qV 2)) (A3 (qV 5) qNil)))) (gTp 2 (gCn (gN 6) (gCn (gN 7) gNl))))
   (qSeq (qSet 8 (qSl (qV 2) (K6 (qV 6)) (K6 (qOp wAdd (qV 7) (qC (.int 1))))))
   (qSeq (qSet 9 (C0 IL (A3 (qV 8) (A3 (C0 IM (A3 (qV 0) (A3 (qUn wLen (qV 8)) (A3 (qOp wIx (qV 1) (qC (.int 1))) qNil)))) qNil))))
   (qSeq (qSet 2 (qOp wAdd (qOp wAdd (qSl (qV 2) qNo (K6 (qV 6))) (C0 DQ (A3 (qV 8) (A3 (qV 9) qNil)))) (qSl (qV 2) (K6 (qOp wAdd (qV 7) (qC (.int 1)))) qNo)))
   (qSeq (M5 (DE 3 (qC (.int 0)) (qV 9)))
   (M5 (DE 4 (qC (.int 0)) (qV 8)))))))))
   (qRet (qTup (A3 (qUn W4 (qO 3)) (A3 (qUn W4 (qO 4)) (A3 (qV 2) qNil)))))))
def IN:pF:=fnP ["_law_draws","_law_meeting","_law_row","_law_sheets","_law_starts","_law_k","_law_first","_law_last","_law_start","_law_sheet_here"] ["_law_draws","_law_meeting","_law_row"] Mz
def MA:pS:=(qSeq (qIfS (qOr (qB (qOp (wNe 4) (qOp wIx (qV 1) (qC (.int 0))) (qC (.str (A5 "touch"))))) (qOr (qB (qOp (wIn 4 true) (qOp wIx (qV 1) (qC (.int 1))) (qV 0))) (qB (qOp (wIn 4 true) (qOp wIx (qV 1) (qC (.int 2))) (qV 0))))) (qRet (qC .non)) qNx)
   (qSeq (qPar 2 3 (sV (R9 (qV 0) (qOp wIx (qV 1) (qC (.int 1))))) (sV (R9 (qV 0) (qOp wIx (qV 1) (qC (.int 2))))))
   (qRet (qTup (A3 (qOp wMin (qV 2) (qV 3)) (A3 (qOp wMax (qV 2) (qV 3)) qNil))))))
def Ae:pF:=fnP ["_law_start","_law_event","_law_one","_law_other"] ["_law_start","_law_event"] MA
def MB:pS:=(qSeq (qPar 3 4 (sV (C0 Ae (A3 (qV 0) (A3 (qV 1) qNil)))) (sV (C0 Ae (A3 (qV 0) (A3 (qV 2) qNil)))))
   (qSeq (qIfS (qOr (qB (qOp wIsN (qV 3) (qC .non))) (qOr (qB (qOp wIsN (qV 4) (qC .non))) (qB (qOp wLt (qUn Dv (qOp wAdd (qSl (qV 1) (K6 (qC (.int 1))) qNo) (qSl (qV 2) (K6 (qC (.int 1))) qNo))) (qC (.int 4)))))) (qRet (qC (.bl false))) qNx)
   (qRet (qOp (wNe 4) (Dc wLt wLt (qOp wIx (qV 3) (qC (.int 0))) (qOp wIx (qV 4) (qC (.int 0))) (qOp wIx (qV 3) (qC (.int 1)))) (Dc wLt wLt (qOp wIx (qV 3) (qC (.int 0))) (qOp wIx (qV 4) (qC (.int 1))) (qOp wIx (qV 3) (qC (.int 1))))))))
def Af:pF:=fnP ["_law_start","_law_one","_law_other","_law_mine","_law_its"] ["_law_start","_law_one","_law_other"] MB
def MC:pS:=(qSeq (qOwn 3 (qLst qNil))
   (qSeq (qFor (qIt (qV 2)) (gN 4) (M5 (FG 3 (qSl (qV 4) (K6 (qC (.int 1))) qNo))))
   (qSeq (Dk 3 (qIfS (qOr (qB (qOp wLt (qUn Cd (qV 3)) (qUn wLen (qV 3)))) (qNot (qB (qUn wAll (qL (i9 [none,some 0] (qIl (qV 3)) (gN 0) qTru (qOp (wIn 4 false) (qV 0) (qV 1)))))))) (qRet (qC (.bl false))) qNx))
   (qSeq (qFor (qIt (qV 2)) (gN 4) (qIfS (qB (qOp (wEq 4) (qOp wIx (qV 4) (qC (.int 0))) (qC (.str (A5 "touch"))))) (qSeq (qPar 5 6 (sV (R9 (qV 0) (qOp wIx (qV 4) (qC (.int 2))))) (sV (R9 (qV 0) (qOp wIx (qV 4) (qC (.int 1))))))
   (qSeq (qIfS (qOr (qB (qOp wGt (qV 5) (qV 6))) (qB (qOp wGt (qOp wSub (qOp wSub (qV 6) (qV 5)) (qC (.int 1))) (qV 1)))) (qRet (qC (.bl false))) qNx)
   (qSeq (qIfS (qNot (qB (qUn wAll (qL (i9 [none,some 3] (qIt (qSl (qV 0) (K6 (qOp wAdd (qV 5) (qC (.int 1)))) (K6 (qV 6)))) (gN 0) qTru (qOp (wIn 4 false) (qV 0) (qV 1))))))) (qRet (qC (.bl false))) qNx)
   (qIfS (qB (qUn wAny (qL (i9 [none,some 0,some 4] (qIt (qV 2)) (gN 0) (qAnd (qB (qOp (wEq 4) (qOp wIx (qV 0) (qC (.int 0))) (qC (.str (A5 "touch"))))) (qB (qOp (wNe 4) (qV 0) (qV 2)))) (C0 Af (A3 (qV 1) (A3 (qV 2) (A3 (qV 0) qNil)))))))) (qRet (qC (.bl false))) qNx)))) qNx))
   (qRet (qC (.bl true)))))))
def FI:pF:=fnP ["_law_start","_law_reach","_law_sheet_here","_law_boats","_law_event","_law_first","_law_last"] ["_law_start","_law_reach","_law_sheet_here"] MC
def MD:pS:=(qSeq (qOwn 4 (qLst qNil))
   (qSeq (qFor (qIt (qV 2)) (gN 5) (M5 (FG 4 (qSl (qV 5) (K6 (qC (.int 1))) qNo))))
   (qSeq (qIfS (qB (qOp (wEq 4) (qOp wIx (qV 3) (qC (.int 0))) (qC (.str (A5 "strange"))))) (qRet (i4 (qOp (wEq 4) (qUn wLen (qV 3)) (qC (.int 2))) (i4 (qOp (wIn 4 false) (qOp wIx (qV 3) (qC (.int 1))) (qO 4)) (qOp (wIn 4 true) (qOp wIx (qV 3) (qC (.int 1))) (qV 0))))) qNx)
   (qSeq (qIfS (qB (qOp (wEq 4) (qOp wIx (qV 3) (qC (.int 0))) (qC (.str (A5 "twice"))))) (Dk 4 (qRet (i4 (qOp (wEq 4) (qUn wLen (qV 3)) (qC (.int 2))) (qOp wGt (HI (qV 4) (qOp wIx (qV 3) (qC (.int 1)))) (qC (.int 1)))))) qNx)
   (qSeq (qIfS (qOr (qB (qOp (wIn 4 true) (qOp wIx (qV 3) (qC (.int 1))) (qV 2))) (qB (qOp wIsN (C0 Ae (A3 (qV 0) (A3 (qOp wIx (qV 3) (qC (.int 1))) qNil))) (qC .non)))) (qRet (qC (.bl false))) qNx)
   (qSeq (qAsg (C0 Ae (A3 (qV 0) (A3 (qOp wIx (qV 3) (qC (.int 1))) qNil))) (gTp 2 (gCn (gN 6) (gCn (gN 7) gNl))))
   (qSeq (qIfS (qB (qOp (wEq 4) (qOp wIx (qV 3) (qC (.int 0))) (qC (.str (A5 "wrong"))))) (qRet (i4 (qOp (wEq 4) (qUn wLen (qV 3)) (qC (.int 2))) (qOp (wEq 4) (qOp wIx (qV 0) (qV 6)) (qOp wIx (qOp wIx (qV 3) (qC (.int 1))) (qC (.int 1)))))) qNx)
   (qSeq (qIfS (qB (qOp (wEq 4) (qOp wIx (qV 3) (qC (.int 0))) (qC (.str (A5 "far"))))) (qRet (i4 (qOp (wEq 4) (qUn wLen (qV 3)) (qC (.int 2))) (qOp wGt (qOp wSub (qOp wSub (qV 7) (qV 6)) (qC (.int 1))) (qV 1)))) qNx)
   (qSeq (qIfS (qB (qOp (wEq 4) (qOp wIx (qV 3) (qC (.int 0))) (qC (.str (A5 "stays"))))) (qRet (i4 (qOp (wEq 4) (qUn wLen (qV 3)) (qC (.int 3))) (i4 (qOp (wIn 4 false) (qOp wIx (qV 3) (qC (.int 2))) (qSl (qV 0) (K6 (qOp wAdd (qV 6) (qC (.int 1)))) (K6 (qV 7)))) (qOp (wIn 4 true) (qOp wIx (qV 3) (qC (.int 2))) (qO 4))))) qNx)
   (qSeq (qIfS (qOr (qB (qOp (wNe 4) (qOp wIx (qV 3) (qC (.int 0))) (qC (.str (A5 "cross"))))) (qOr (qB (qOp (wNe 4) (qUn wLen (qV 3)) (qC (.int 3)))) (qB (qOp (wIn 4 true) (qOp wIx (qV 3) (qC (.int 2))) (qV 2))))) (qRet (qC (.bl false))) qNx)
   (qRet (C0 Af (A3 (qV 0) (A3 (qOp wIx (qV 3) (qC (.int 1))) (A3 (qOp wIx (qV 3) (qC (.int 2))) qNil)))))))))))))))
def FJ:pF:=fnP ["_law_start","_law_reach","_law_sheet_here","_law_reason","_law_boats","_law_event","_law_first","_law_last"] ["_law_start","_law_reach","_law_sheet_here","_law_reason"] MD
def ME:pS:=(qSeq (qSet 4 (C0 DO (A3 (qV 0) (A3 (qUn wLen (qV 1)) qNil))))
   (qSeq (qIfS (qB (qOp (wNe 4) (qUn wLen (qV 2)) (qV 4))) (qRet (qOp (wEq 4) (qUn X8 (qV 3)) (qUn X8 (qTup (A3 (qC (.str (A5 "unsound"))) (A3 (qC .non) (A3 (qTup (A3 (qC (.str (A5 "races"))) (A3 (qV 4) qNil))) qNil))))))) qNx)
   (qSeq (qFor (DA (qV 4)) (gN 5) (qSeq (qAsg (C0 FH (A3 (qV 0) (A3 (qUn wLen (qV 1)) (A3 (qV 5) qNil)))) (gTp 2 (gCn (gN 6) (gCn (gN 7) gNl))))
   (qSeq (qSet 8 (qSl (qV 1) (K6 (qV 6)) (K6 (qOp wAdd (qV 7) (qC (.int 1))))))
   (qSeq (qIfS (qNot (qB (C0 FI (A3 (qV 8) (A3 (qOp wIx (qV 0) (qC (.int 1))) (A3 (qOp wIx (qV 2) (qV 5)) qNil)))))) (qSeq (qIfS (qOr (qNot (qB (qUn (wIsi "tuple") (qV 3)))) (qOr (qB (qOp (wNe 4) (qUn X8 (qSl (qV 3) qNo (K6 (qC (.int 2))))) (qUn X8 (qTup (A3 (qC (.str (A5 "unsound"))) (A3 (qV 5) qNil)))))) (qB (qOp (wNe 4) (qUn wLen (qV 3)) (qC (.int 3)))))) (qRet (qC (.bl false))) qNx)
   (qRet (i4 (qUn (wIsi "tuple") (qOp wIx (qV 3) (qC (.int 2)))) (C0 FJ (A3 (qV 8) (A3 (qOp wIx (qV 0) (qC (.int 1))) (A3 (qOp wIx (qV 2) (qV 5)) (A3 (qOp wIx (qV 3) (qC (.int 2))) qNil)))))))) qNx)
   (qSet 1 (qOp wAdd (qOp wAdd (qSl (qV 1) qNo (K6 (qV 6))) (C0 DQ (A3 (qV 8) (A3 (qOp wIx (qV 2) (qV 5)) qNil)))) (qSl (qV 1) (K6 (qOp wAdd (qV 7) (qC (.int 1)))) qNo)))))))
   (qRet (qOp (wEq 4) (qUn X8 (qV 3)) (qUn X8 (qTup (A3 (qC (.str (A5 "row"))) (A3 (qV 1) qNil)))))))))
def FK:pF:=fnP ["_law_meeting","_law_row","_law_day_here","_law_told","_law_many","_law_k","_law_first","_law_last","_law_start"] ["_law_meeting","_law_row","_law_day_here","_law_told"] ME
def MF:pS:=(qRet (qOp wIx (qL (i9 [none,some 0] (qIs (qC (.str (A5 "abcdefghijklmnopqrstuvwxyz")))) (gN 0) (qB (qOp (wIn 4 true) (qV 0) (qV 1))) (qV 0))) (qC (.int 0))))
def Ce:pF:=fnP ["_law_row"] ["_law_row"] MF
def MG:pS:=(qSeq (qPar 2 3 (sV (C0 L8 (A3 (qV 0) (A3 (qOp wAdd (qUn wLen (qV 1)) (qC (.int 1))) qNil)))) (sV (C0 L8 (A3 (qV 0) (A3 (qOp wAdd (qUn wLen (qV 1)) (qC (.int 1))) qNil)))))
   (qSeq (qSet 4 (qOp wAdd (qV 1) (qTup (A3 (C0 Ce (A3 (qV 1) qNil)) qNil))))
   (qSeq (qIfS (qB (qOp (wEq 4) (qV 2) (qV 3))) (qRet (qTup (A3 (qC (.str (A5 "drop"))) (A3 (qOp wIx (qV 4) (qV 2)) qNil)))) qNx)
   (qRet (qTup (A3 (qC (.str (A5 "touch"))) (A3 (qOp wIx (qV 4) (qV 2)) (A3 (qOp wIx (qV 4) (qV 3)) qNil))))))))
def DR:pF:=fnP ["_law_draws","_law_row","_law_one","_law_other","_law_boats"] ["_law_draws","_law_row"] MG
def MH:pS:=(qSeq (qPar 3 4 (sV (C0 L8 (A3 (qV 0) (A3 (qC (.int 5)) qNil)))) (sO (BJ (qV 2))))
   (qSeq (qIfS (qOr (qB (qOpR (wEq 4) (qO 4) (qL (qLst qNil)))) (qB (qOp (wEq 4) (qV 3) (qC (.int 0))))) (qSeq (M5 (R1 4 (C0 DR (A3 (qV 0) (A3 (qV 1) qNil)))))
   (qRet (qUn W4 (qL (FF (qO 4)))))) qNx)
   (qSeq (qSet 5 (C0 L8 (A3 (qV 0) (A3 (qUn wLen (qO 4)) qNil))))
   (qSeq (qSet 6 (Hv 4 (qV 5)))
   (qSeq (qIfS (qB (qOp (wEq 4) (qV 3) (qC (.int 1)))) (M5 (R1 4 (C0 DR (A3 (qV 0) (A3 (qV 1) qNil))))) qNx)
   (qSeq (qIfS (qAnd (qB (qOp (wEq 4) (qV 3) (qC (.int 2)))) (qB (qOp (wEq 4) (qOp wIx (qV 6) (qC (.int 0))) (qC (.str (A5 "touch")))))) (M5 (R1 4 (qTup (A3 (qC (.str (A5 "touch"))) (A3 (qOp wIx (qV 6) (qC (.int 2))) (A3 (qOp wIx (qV 6) (qC (.int 1))) qNil)))))) qNx)
   (qSeq (qIfS (qAnd (qB (qOp (wEq 4) (qV 3) (qC (.int 3)))) (qB (qOp (wEq 4) (qOp wIx (qV 6) (qC (.int 0))) (qC (.str (A5 "touch")))))) (qSeq (qSet 7 (qL (i9 [none,some 6] (qIt (qOp wAdd (qV 1) (qTup (A3 (C0 Ce (A3 (qV 1) qNil)) qNil)))) (gN 0) (qB (qOp (wNe 4) (qV 0) (qOp wIx (qV 1) (qC (.int 1))))) (qV 0))))
   (M5 (R1 4 (qTup (A3 (qC (.str (A5 "touch"))) (A3 (qOp wIx (qV 6) (qC (.int 1))) (A3 (qOp wIx (qV 7) (C0 L8 (A3 (qV 0) (A3 (qUn wLen (qV 7)) qNil)))) qNil))))))) qNx)
   (qSeq (qIfS (qB (qOp (wEq 4) (qV 3) (qC (.int 4)))) (M5 (R1 4 (qTup (A3 (qC (.str (A5 "drop"))) (A3 (qOp wIx (qV 6) (qC (.int 1))) qNil))))) qNx)
   (qRet (qUn W4 (qL (FF (qO 4)))))))))))))
def FM:pF:=fnP ["_law_draws","_law_row","_law_sheet_here","_law_way","_law_events","_law_at","_law_event","_law_some"] ["_law_draws","_law_row","_law_sheet_here"] MH
def MI:pS:=(qSeq (qPar 3 4 (sV (C0 L8 (A3 (qV 0) (A3 (qC (.int 10)) qNil)))) (sO (BJ (qV 2))))
   (qSeq (qSet 5 (C0 L8 (A3 (qV 0) (A3 (qUn wLen (qO 4)) qNil))))
   (qSeq (qIfS (qB (qOp (wEq 4) (qV 3) (qC (.int 0)))) (M5 (Hv 4 (qV 5))) (qIfS (qAnd (qB (qOp (wEq 4) (qV 3) (qC (.int 1)))) (qB (qOp wLt (qUn wLen (qO 4)) (qC (.int 24))))) (M5 (DE 4 (qV 5) (qOp wIx (qL (qLst (A3 (qTup qNil) (A3 (qOpR wIx (qO 4) (qV 5)) qNil)))) (C0 L8 (A3 (qV 0) (A3 (qC (.int 2)) qNil)))))) (qIfS (qB (qOp (wEq 4) (qV 3) (qC (.int 2)))) (qSeq (qSet 6 (C0 L8 (A3 (qV 0) (A3 (qUn wLen (qO 4)) qNil))))
   (Fq 4 (qOpR wIx (qO 4) (qV 6)) (qOpR wIx (qO 4) (qV 5)) (qV 5) (qV 6))) (qPut 4 (C0 FM (A3 (qV 0) (A3 (qV 1) (A3 (qOpR wIx (qO 4) (qV 5)) qNil)))) (qV 5)))))
   (qRet (qUn W4 (qO 4))))))
def IP:pF:=fnP ["_law_draws","_law_row","_law_day_here","_law_way","_law_sheets","_law_k","_law_other"] ["_law_draws","_law_row","_law_day_here"] MI
def MJ:pS:=(qSeq (qSet 2 (qOp wIx (qV 0) (qC (.int 0))))
   (qRet (qOp EI (qOp wSub (qOp wAdd (qV 1) (qV 2)) (qC (.int 1))) (qV 2))))
def FN:pF:=fnP ["meeting","n","size"] ["meeting","n"] MJ
def MK:pS:=(qRet (qL (Ig [none,none] (qIt (qV 0)) (gN 0) (qIt (qSl (qV 0) (K6 (qC (.int 1))) qNo)) (gN 1) qTru (qV 1))))
def Cf:pF:=fnP ["events"] ["events"] MK
def MM:pS:=(qSeq (qSet 2 (C0 Cf (A3 (qV 1) qNil)))
   (qSeq (qFor (qIl (qV 2)) (gN 3) (qSeq (qIfS (qB (qOp (wIn 4 true) (qV 3) (qV 0))) (qRet (qTup (A3 (qC (.str (A5 "strange"))) (A3 (qV 3) qNil)))) qNx)
   (qIfS (qB (qOp wGt (HI (qV 2) (qV 3)) (qC (.int 1)))) (qRet (qTup (A3 (qC (.str (A5 "twice"))) (A3 (qV 3) qNil)))) qNx)))
   (qRet (qC .non))))
def FO:pF:=fnP ["start","sheet","boats","boat"] ["start","sheet"] MM
def MN:pS:=(qRet (qL (i9 [none] (qIt (qV 0)) (gN 0) (qB (qOp (wEq 4) (qOp wIx (qV 0) (qC (.int 0))) (qC (.str (A5 "touch"))))) (qV 0))))
def AX:pF:=fnP ["events"] ["events"] MN
def MO:pS:=(qRet (qOp wGt (R9 (qV 0) (qOp wIx (qV 1) (qC (.int 2)))) (R9 (qV 0) (qOp wIx (qV 1) (qC (.int 1))))))
def IQ:pF:=fnP ["start","touch"] ["start","touch"] MO
def MP:pS:=(qSeq (qAsg (qL (Fk (qL (qLst (A3 (R9 (qV 0) (qOp wIx (qV 1) (qC (.int 1)))) (A3 (R9 (qV 0) (qOp wIx (qV 1) (qC (.int 2)))) qNil)))))) (gTl 2 (gCn (gN 2) (gCn (gN 3) gNl))))
   (qRet (qSl (qV 0) (K6 (qOp wAdd (qV 2) (qC (.int 1)))) (K6 (qV 3)))))
def k8:pF:=fnP ["start","touch","low","high"] ["start","touch"] MP
def MQ:pS:=(qRet (qOp wGt (qUn wLen (C0 k8 (A3 (qV 0) (A3 (qV 2) qNil)))) (qV 1)))
def IR:pF:=fnP ["start","reach","touch"] ["start","reach","touch"] MQ
def MR:pS:=(qSeq (qIfS (qB (C0 IQ (A3 (qV 0) (A3 (qV 3) qNil)))) (qRet (qTup (A3 (qC (.str (A5 "wrong"))) (A3 (qV 3) qNil)))) qNx)
   (qSeq (qIfS (qB (C0 IR (A3 (qV 0) (A3 (qV 1) (A3 (qV 3) qNil))))) (qRet (qTup (A3 (qC (.str (A5 "far"))) (A3 (qV 3) qNil)))) qNx)
   (qSeq (qSet 4 (C0 Cf (A3 (qV 2) qNil)))
   (qSeq (qFor (qIt (C0 k8 (A3 (qV 0) (A3 (qV 3) qNil)))) (gN 5) (qIfS (qB (qOp (wIn 4 true) (qV 5) (qV 4))) (qRet (qTup (A3 (qC (.str (A5 "stays"))) (A3 (qV 3) (A3 (qV 5) qNil))))) qNx))
   (qRet (qC .non))))))
def FP:pF:=fnP ["start","reach","sheet","touch","boats","boat"] ["start","reach","sheet","touch"] MR
def MS:pS:=(qSeq (qIfS (qB (qOp (wNe 4) (qUn Cd (C0 Cf (A3 (qTup (A3 (qV 1) (A3 (qV 2) qNil))) qNil))) (qC (.int 4)))) (qRet (qC (.bl false))) qNx)
   (qSeq (qSet 3 (C0 k8 (A3 (qV 0) (A3 (qV 1) qNil))))
   (qRet (qOp (wNe 4) (qOp (wIn 4 false) (qOp wIx (qV 2) (qC (.int 1))) (qV 3)) (qOp (wIn 4 false) (qOp wIx (qV 2) (qC (.int 2))) (qV 3))))))
def FQ:pF:=fnP ["start","one","other","inner"] ["start","one","other"] MS
def MT:pS:=(qSeq (qFor (qIl (qV 2)) (gN 3) (qIfS (qB (C0 FQ (A3 (qV 0) (A3 (qV 1) (A3 (qV 3) qNil))))) (qRet (qTup (A3 (qC (.str (A5 "cross"))) (A3 (qV 1) (A3 (qV 3) qNil))))) qNx))
   (qRet (qC .non)))
def FR:pF:=fnP ["start","touch","touches","other"] ["start","touch","touches"] MT
def MU:pS:=(qSeq (qSet 3 (C0 FO (A3 (qV 0) (A3 (qV 2) qNil))))
   (qSeq (qIfS (qB (qOp AG (qV 3) (qC .non))) (qRet (qV 3)) qNx)
   (qSeq (qSet 4 (C0 AX (A3 (qV 2) qNil)))
   (qSeq (qFor (qIl (qV 4)) (gN 5) (qSeq (qSet 3 (qOrT (C0 FP (A3 (qV 0) (A3 (qV 1) (A3 (qV 2) (A3 (qV 5) qNil))))) (C0 FR (A3 (qV 0) (A3 (qV 5) (A3 (qV 4) qNil))))))
   (qIfS (qB (qOp AG (qV 3) (qC .non))) (qRet (qV 3)) qNx)))
   (qRet (qC .non))))))
def FS:pF:=fnP ["start","reach","sheet","reason","touches","touch"] ["start","reach","sheet"] MU
def IS:pS:=(qSeq (qSet 3 (C0 FS (A3 (qV 0) (A3 (qV 1) (A3 (qV 2) qNil)))))
   (qSeq (qIfS (qB (qOp AG (qV 3) (qC .non))) (qRet (qTup (A3 (qC (.str (A5 "unsound"))) (A3 (qV 3) qNil)))) qNx)
   (qSeq (qSet 4 (qL (i9 [none] (qIt (qV 2)) (gN 0) (qB (qOp (wEq 4) (qOp wIx (qV 0) (qC (.int 0))) (qC (.str (A5 "drop"))))) (qV 0))))
   (qSeq (qSet 5 (qL (Fo 0 (C0 AX (A3 (qV 2) qNil)) (qUn wLen (C0 k8 (A3 (qV 1) (A3 (qV 0) qNil)))))))
   (qRet (qTup (A3 (qC (.str (A5 "course"))) (A3 (qUn W4 (qL (qCat (qV 4) (qV 5)))) qNil))))))))
def IT:pF:=fnP ["start","reach","sheet","reason","drops","inner_first"] ["start","reach","sheet"] IS
def MV:pS:=(qSeq (qSet 3 (qOp wIx (qV 0) (qC (.int 0))))
   (qSeq (qSet 4 (qOp wMul (qV 2) (qV 3)))
   (qRet (qTup (A3 (qV 4) (A3 (qOp wMin (qOp wAdd (qV 4) (qV 3)) (qOp wSub (qV 1) (qC (.int 1)))) qNil))))))
def FT:pF:=fnP ["meeting","n","k","size","first"] ["meeting","n","k"] MV
def MW:pS:=(qSeq (qAsg (C0 FT (A3 (qV 0) (A3 (qUn wLen (qV 1)) (A3 (qV 2) qNil)))) (gTp 2 (gCn (gN 4) (gCn (gN 5) gNl))))
   (qRet (qOp wAdd (qOp wAdd (qSl (qV 1) qNo (K6 (qV 4))) (qV 3)) (qSl (qV 1) (K6 (qOp wAdd (qV 5) (qC (.int 1)))) qNo))))
def IU:pF:=fnP ["meeting","row","k","boats","first","last"] ["meeting","row","k","boats"] MW
def MX:pS:=(qSeq (qOwn 3 (BJ (qV 0)))
   (qSeq (Fq 3 (qOp wIx (qV 0) (qV 2)) (qOp wIx (qV 0) (qV 1)) (qV 1) (qV 2))
   (qRet (qUn W4 (qO 3)))))
def IV:pF:=fnP ["row","one","other","boats"] ["row","one","other"] MX
def MY:pS:=(qSeq (qSet 2 (qV 0))
   (qSeq (qFor (qIl (C0 AX (A3 (qV 1) qNil))) (gN 3) (qSet 2 (C0 IV (A3 (qV 2) (A3 (R9 (qV 0) (qOp wIx (qV 3) (qC (.int 1)))) (A3 (R9 (qV 0) (qOp wIx (qV 3) (qC (.int 2)))) qNil))))))
   (qRet (qV 2))))
def IW:pF:=fnP ["start","sheet","row","touch"] ["start","sheet"] MY
def MZ:pS:=(qSeq (qAsg (C0 FT (A3 (qV 0) (A3 (qUn wLen (qV 1)) (A3 (qV 2) qNil)))) (gTp 2 (gCn (gN 3) (gCn (gN 4) gNl))))
   (qRet (qSl (qV 1) (K6 (qV 3)) (K6 (qOp wAdd (qV 4) (qC (.int 1)))))))
def FU:pF:=fnP ["meeting","row","k","first","last"] ["meeting","row","k"] MZ
def M_:pS:=(qRet (C0 IU (A3 (qV 0) (A3 (qV 1) (A3 (qV 2) (A3 (C0 IW (A3 (C0 FU (A3 (qV 0) (A3 (qV 1) (A3 (qV 2) qNil)))) (A3 (qV 3) qNil))) qNil))))))
def IX:pF:=fnP ["meeting","row","k","sheet"] ["meeting","row","k","sheet"] M_
def Na:pS:=(qSeq (qSet 3 (C0 FN (A3 (qV 0) (A3 (qUn wLen (qV 1)) qNil))))
   (qSeq (qIfS (qB (qOp (wNe 4) (qUn wLen (qV 2)) (qV 3))) (qRet (qTup (A3 (qC (.str (A5 "unsound"))) (A3 (qC .non) (A3 (qTup (A3 (qC (.str (A5 "races"))) (A3 (qV 3) qNil))) qNil))))) qNx)
   (qSeq (qSet 4 (qV 1))
   (qSeq (qFor (DA (qV 3)) (gN 5) (qSeq (qAsg (C0 IT (A3 (C0 FU (A3 (qV 0) (A3 (qV 4) (A3 (qV 5) qNil)))) (A3 (qOp wIx (qV 0) (qC (.int 1))) (A3 (qOp wIx (qV 2) (qV 5)) qNil)))) (gTp 2 (gCn (gN 6) (gCn (gN 7) gNl))))
   (qSeq (qIfS (qB (qOp (wEq 4) (qV 6) (qC (.str (A5 "unsound"))))) (qRet (qTup (A3 (qC (.str (A5 "unsound"))) (A3 (qV 5) (A3 (qV 7) qNil))))) qNx)
   (qSet 4 (C0 IX (A3 (qV 0) (A3 (qV 4) (A3 (qV 5) (A3 (qOp wIx (qV 2) (qV 5)) qNil)))))))))
   (qRet (qTup (A3 (qC (.str (A5 "row"))) (A3 (qV 4) qNil))))))))
def FV:pF:=fnP ["meeting","row","day","many","stands","k","word","told"] ["meeting","row","day"] Na
def IY:pS:=(qSeq (Ii 1 (qV 0))
   (qSeq (qOwn 2 (qLst qNil))
   (qSeq (qFor (AK (qC (.int 4))) (gN 3) (qSeq (qSet 4 (C0 L8 (A3 (qV 1) (A3 (qC (.int 3)) qNil))))
   (qSeq (qAsg (C0 IK (A3 (qV 1) (A3 (qC (.int 24)) qNil))) (gTp 2 (gCn (gN 5) (gCn (gN 6) gNl))))
   (qSeq (qAsg (C0 IN (A3 (qV 1) (A3 (qV 5) (A3 (qV 6) qNil)))) (gTp 3 (gCn (gN 7) (gCn (gN 8) (gCn (gN 9) gNl)))))
   (qSeq (qFor (AK (qV 4)) (gN 10) (qIfS (qB (qOp (wNe 4) (qV 7) (qTup qNil))) (qSet 7 (C0 IP (A3 (qV 1) (A3 (qV 6) (A3 (qV 7) qNil))))) qNx))
   (qIfS (qB (qOp (wNe 4) (qV 7) (qTup qNil))) (M5 (R1 2 (qTup (A3 (qV 5) (A3 (qV 6) (A3 (qV 7) qNil)))))) qNx))))))
   (qSeq (qSet 11 (qUn X8 (qO 2)))
   (qSeq (Dk 2 (qFor (qIl (qV 2)) (gTp 3 (gCn (gN 5) (gCn (gN 6) (gCn (gN 7) gNl)))) (qIfS (qNot (qB (C0 FK (A3 (qV 5) (A3 (qV 6) (A3 (qV 7) (A3 (C0 FV (A3 (qV 5) (A3 (qV 6) (A3 (qV 7) qNil)))) qNil))))))) (qRet (qC (.bl false))) qNx)))
   (qRet (qOp (wEq 4) (qUn X8 (qV 2)) (qV 11))))))))
end Tb
end
section
namespace Tb
open PySem L2 Pu
def top (i:Nat):Stmt:=PySem.Challenge.pw_touchboats_k20_days_that_are_not_sound.main.body.getD i (.Pass ⟨0,0,0,0⟩)
end Tb
end
section
namespace Tb
open PySem L2 Pu
theorem Nb (a b:Int):eqP (.int a) (.int b)=decide (a=b):=by
 show(a == b)=_;rw[CG]
theorem Nc (a b:Str):eqP (.str a) (.str b)=decide (a=b):=by
 show(a == b)=_;rw[CG]
theorem Nd (a b:Bool):eqP (.bl a) (.bl b)=decide (a=b):=by
 show(a == b)=_;rw[CG]
theorem wsa:decide (A5 "strange"=A5 "strange")=true:=by with_unfolding_all rfl
theorem wsb:decide (A5 "twice"=A5 "strange")=false:=by with_unfolding_all rfl
theorem wsc:decide (A5 "twice"=A5 "twice")=true:=by with_unfolding_all rfl
theorem wsd:decide (A5 "wrong"=A5 "strange")=false:=by with_unfolding_all rfl
theorem wse:decide (A5 "wrong"=A5 "twice")=false:=by with_unfolding_all rfl
theorem wsf:decide (A5 "wrong"=A5 "wrong")=true:=by with_unfolding_all rfl
theorem wsg:decide (A5 "far"=A5 "strange")=false:=by with_unfolding_all rfl
theorem wsh:decide (A5 "far"=A5 "twice")=false:=by with_unfolding_all rfl
theorem wsi:decide (A5 "far"=A5 "wrong")=false:=by with_unfolding_all rfl
theorem wsj:decide (A5 "far"=A5 "far")=true:=by with_unfolding_all rfl
theorem wsk:decide (A5 "stays"=A5 "strange")=false:=by with_unfolding_all rfl
theorem wsl:decide (A5 "stays"=A5 "twice")=false:=by with_unfolding_all rfl
theorem wsm:decide (A5 "stays"=A5 "stays")=true:=by with_unfolding_all rfl
theorem wsn:decide (A5 "cross"=A5 "strange")=false:=by with_unfolding_all rfl
theorem wso:decide (A5 "cross"=A5 "twice")=false:=by with_unfolding_all rfl
theorem wsp:decide (A5 "cross"=A5 "stays")=false:=by with_unfolding_all rfl
theorem wsq:decide (A5 "cross"=A5 "cross")=true:=by with_unfolding_all rfl
theorem wsA:decide (((2:Nat):Int)=2)=true:=by with_unfolding_all rfl
theorem wsB:decide (((3:Nat):Int)=2)=false:=by with_unfolding_all rfl
set_option compiler.extract_closed false in
set_option hygiene false in
local macro_rules | `(tactic| walk_at "pd")=>`(tactic| dsimp only [dreduceIte,true_and,and_true,M1,beq_self_eq_true,Nat.reduceLeDiff,Nat.reduceLT,Int.reduceLT,Int.reduceLE,K4,Nb,Nc,Nd,qSeq,qNx,qSet,qOwn,qAsg,M5,qRet,ET,qIfS,qPar,sV,sO,qPut,gAt,Dk,EU,qV,qO,qC,qOp,qOpR,qUn,wI,wI0,wAdd,wSub,wMul,EI,wMod,wEq,wNe,wLt,wGt,wIsN,AG,qB,Dc,qAnd,qOr,qNot,i4,qIf,qNil,A3,qTup,qLst,qL,wIx,qNo,K6,qSl,wSl,wLen,wAll,wAny,W4,BJ,wIsi,wMin,wMax,C0,gN,gNl,gCn,gTp,qIl,qIt,AK,qIs,capV,capS,qTru,i9,qCat,wNeg,R1,Hn,qPop,Hv,Hq,y8,tyP,isT,List.map,List.set,E8,List.length_nil,Gi,Cn,o5,Ap,List.replicate,Nat.reduceSub,Nat.reduceAdd,Option.bind,Ar,Bool.not_false,Bool.true_or,Bool.false_or,Bp,Bool.true_and,Bool.false_and,String.reduceBEq,cmpb,y4,Ky,EV,EX,Hx,decide_true,decide_false,Dl,Hu,HI,E_,Dv,qZip,qFor,Fk,Ab,DA,DE,R9,Fq,wsa,wsb,wsc,wsd,wse,wsf,wsg,wsh,wsi,wsj,wsk,wsl,wsm,wsn,wso,wsp,wsq,wsA,wsB,FG,L8,at2_0,at2_1,at3_0,at3_1,at3_2,grd_t,FF,wSet,gTl,Ig,BY,qOrT,Fo,Cd,Ii])
set_option hygiene false in
local macro_rules | `(tactic| walk_at "pu")=>`(tactic| (try walk_at "pd") <;> (try simp only [Nb,Nc,Nd,decide_true,decide_false,true_and,and_true,reduceIte,Nat.reduceLeDiff,Nat.reduceLT,Int.reduceLT,Int.reduceLE,K4,beq_self_eq_true,M1]))
theorem TD {q n:Nat}{many:Int}{R:PV->Nat->Prop}(h0:1<=many)(h1:many<=24)(hn:n<=999900000)(h:∀zs n',(zs.length:Int)=many->RowS zs->n'<=n + 100->R (rowP zs) n'):IJ [.pot (q + 1),.int many] n R:=by
 refine⟨rfl,?_⟩;unfold Ms;have ll:LETS.length<=1000000:=by rw[KY];decide
 have lc:∀c:Nat,(⟨#[c]⟩:Str).length=1:=λ_=>rfl;walk_at "pu";refine⟨by omega,λd d0 d1=>?_⟩;obtain⟨tv,htv,etv⟩:=BN (xs:=[PV.int 1,PV.int 3,PV.int 5,PV.int 7,PV.int 9,PV.int 11,PV.int 15,PV.int 17,PV.int 19,PV.int 21]) d0 (by simpa using d1)
 obtain⟨t,rfl,ht⟩:∃t:Int,tv=.int t/\t∈AU:=by
  simp only[C3,P9,or_false] at htv;rcases htv with rfl|rfl|rfl|rfl|rfl|rfl|rfl|rfl|rfl|rfl <;> exact⟨_,rfl,by decide⟩
 have t30:=Sh ht;rw[etv];dsimp only;refine⟨by omega,λfi f0 f1=>?_⟩;refine Q3 (λi env m=>∃z s6,env=[some (.v (.pot (q+1))),some (.v (.int many)),some (.v (.str LETS)),some (.v (.str z)),some (.v (.int t)),some (.v (.int fi)),s6,none,none,none,none,none]/\LsE i z/\m<=n+2+i) _ 0 _ _ ⟨A5 "",none,rfl,⟨rfl,(λc hc=>by rw[show(A5 "").cps.toList=[] from rfl] at hc;cases hc)⟩,by omega⟩ (λi x env m N ex hI hN=>?_) (λenv m hI=>?_)
 ·obtain⟨z,s6,rfl,hz,hm⟩:=hI;obtain⟨hi,rfl⟩:=Do ex;rw[J3] at hz hm hN;have hi7:i<7:=hi;walk_at "pu";refine⟨by omega,λu u0 u1=>⟨ll,?_⟩⟩;rw[KZ u0 u1];dsimp only;have zl:z.length=i:=by rw[AF];exact hz.1
  refine⟨by rw[zl,lc];omega,?_⟩;exact hN _ _ ⟨_,_,rfl,hz.more ⟨by omega,by omega⟩,by omega⟩
 ·obtain⟨z,s6,rfl,hz,hm⟩:=hI;rw[Dp,J3] at hz hm;have hz7:LsE 7 z:=hz
  have hm7:m<=n+9:=by
   have:(7:Int).toNat=7:=rfl;omega
  have zl:z.length=7:=by rw[AF];exact hz7.1
  walk_at "pu";refine⟨by omega,λat_ a0 a1=>?_⟩;obtain⟨a,rfl⟩:=x4 a0;refine⟨⟨by omega,by omega⟩,?_⟩;refine Q3 (λi env m'=>∃zs s6 s9 s10,env=[some (.v (.pot (q+1))),some (.v (.int many)),some (.v (.str LETS)),some (.v (.str z)),some (.v (.int t)),some (.v (.int fi)),s6,some (.v (.int (a:Int))),some (.own (zs.map PV.str)),s9,s10,none]/\NmA fi t a zs i/\m'<=n+10+i) _ 0 _ _ ⟨[],_,_,_,rfl,⟨rfl,List.nodup_nil,(λj z e=>by simp at e),(λ_ z=>nomatch z)⟩,by omega⟩ (λi x env m' N ex hI hN=>?_) (λenv m' hI=>?_)
  ·obtain⟨zs,s6,s9,s10,rfl,hs,hm'⟩:=hI;obtain⟨hi,rfl⟩:=Do ex;rw[J3] at hs hm' hN;have sl:=hs.len;walk_at "pu";refine⟨⟨by omega,by omega,by omega⟩,λu u0 u1=>?_⟩;obtain⟨b,rfl⟩:=x4 u0;have em:fi+t*(0+(i:Int))=fi+(i:Int)*t:=by rw[Int.zero_add,Int.mul_comm]
   rw[em,lt_at];dsimp only;have eab:(a:Int)+(b:Int)=((a+b:Nat):Int):=by omega
   rw[eab];have cl:=Sj hz7 (show a<=a+b by omega) (show a+b<=7 by omega) (lt_ltr (f:=fi) (t:=t) (k:=i));have k1:=Bx z none (some (a:Int));have k2:=Bx z (some (a:Int)) (some ((a+b:Nat):Int));have k3:(V7 z none (some (a:Int))++⟨#[lt fi t i]⟩).length=(V7 z none (some (a:Int))).length+1:=by rw[AF,CY,E7,<- AF];rfl
   refine⟨.inl ⟨by omega,by omega⟩,ll,⟨_,rfl⟩,by omega,by rw[lc];omega,by omega,by omega,by rw[B6];omega,?_⟩;refine hN _ _ ⟨zs++[_],_,_,_,by rw[N1];rfl,hs.more ht f0 (by omega) cl.1 cl.2,by omega⟩
  ·obtain⟨zs,s6,s9,s10,rfl,hs,hm'⟩:=hI;rw[Dp,J3] at hs hm';have sl:=hs.len;generalize hZ:zs.map PV.str=Z;have Zl:Z.length=zs.length:=by rw[<- hZ,B6]
   walk_at "pu";refine⟨by omega,λe e0 e1=>?_⟩;obtain⟨x,hx,ex⟩:=BN (xs:=[PV.str (A5 "drop"),PV.str (A5 "touch"),PV.str (A5 "none"),PV.str (A5 "d"),PV.str (A5 "u"),PV.str (A5 "t"),PV.str (A5 "o")]) e0 (by simpa using e1);rw[ex]
   obtain⟨y,rfl,by_⟩:∃z,x=.str z/\O8 z:=by
    simp only[C3,P9,or_false] at hx;rcases hx with rfl|rfl|rfl|rfl|rfl|rfl|rfl <;> exact⟨_,rfl,by decide,by decide,by unfold Ltr;decide⟩
   dsimp only;have fin:∀m2,m2<=n+100->R (.tup Z) m2:=λm2 h2=>by rw[<- hZ];exact h zs m2 (by omega) ⟨hs.nd,hs.bt⟩ h2
   refine Ik hZ ?_
   by_cases c:y∈zs
   ·exact if_f (by simp[c]) (fin _ (by omega))
   ·refine if_t (by simp[c]) ⟨by omega,λd2 d20 d21=>?_⟩
    by_cases c2:d2=0
    ·refine if_t (jp c2) ⟨⟨_,rfl⟩,⟨by omega,by omega,by omega⟩,λj j0 j1=>?_⟩;rw[U9 j0 (by omega)];dsimp only;have es:Z.set j.toNat (.str y)=(zs.set j.toNat y).map PV.str:=by rw[<- hZ,c8]
     rw[es];refine h _ _ (by rw[L4];omega) ⟨?_,λw hw=>?_⟩ (by omega)
     ·exact QC hs.nd c j.toNat
     ·rcases List.mem_or_eq_of_mem_set hw with hw|hw
      ·exact hs.bt w hw
      ·rw[hw];exact by_
    ·exact if_f (jq c2) (fin _ (by omega))
abbrev pin (p:Nat):PV:=.int (p:Int)
theorem Nf (ms:List Mk)(p:Nat)(m:Mk):(ms.map mkP).set p (mkP m)=(ms.set p m).map mkP:=(c8).symm
theorem TF:atI ((p::ps).reverse.map pin) (-1)=some (pin p):=by
 rw[Cw,N1];exact OZ (ps.reverse.map pin) (pin p)
theorem Ng:((p::ps).reverse.map pin)[((p::ps).reverse.map pin).length-1]?=some (pin p)/\((p::ps).reverse.map pin).dropLast=ps.reverse.map pin:=by
 rw[Cw,N1];refine⟨?_,by simp⟩;rw[V5 (by simp)];simp
abbrev wEnv (q:Nat)(many r:Int)(ms:List Mk)(ps:List Nat)(s5 s6:Option Pu.Slot):Pu.Env:=[some (.v (.pot (q+1))),some (.v (.int many)),some (.v (.int r)),some (.own (ms.map mkP)),some (.own (ps.reverse.map pin)),s5,s6]
theorem Nh {i m:Nat}:∀(ps:List Nat),Seg r ps ms->(∀ps',Seg r ps' ms->(∀p ps'',ps'=p::ps''->(i:Int)-p-1<=r)->D.nx (wEnv q many r ms ps' (some (.v (.int (i:Int)))) s6) m)->
   u4 (qAnd (qB (qOpR (wNe 4) (qO 4) (qL (qLst qNil)))) (qB (qOp wGt (qOp wSub (qOp wSub (qV 5) (qOpR wIx (qO 4) (qUn wNeg (qC (.int 1))))) (qC (.int 1))) (qV 2)))) (qPut 3 (qC (.str (A5 "d"))) (qPop 4)) D (ps.length+1) (wEnv q many r ms ps (some (.v (.int (i:Int)))) s6) m
 | [], hs, h => by
  unfold u4 wEnv;walk_at "pu";exact h [] hs (λ_ _ e=>nomatch e)
 | p :: ps, hs, h => by
  have tp:=TF (p:=p) (ps:=ps);have pp:=Ng (p:=p) (ps:=ps)
  have pa:((p::ps).reverse.map pin).all (cmpb 3)=true:=by
   have e:(p::ps).reverse.map pin=((p::ps).reverse.map λp=>((p:Nat):Int)).map PV.int:=by rw[U6];rfl
   rw[e];exact LH _ 3
  have pe:eqPs ((p::ps).reverse.map pin) []=false:=by
   cases hh:(p::ps).reverse.map pin with
   |nil=>simp at hh
   |cons a l=>rfl
  have base:=λc=>h (p::ps) hs c;obtain⟨hlt,hset,hs'⟩:=hs.popd;have rec_:=Nh (q:=q) (many:=many) (i:=i) (m:=m) (s6:=s6) (D:=D) ps hs' h;show u4 _ _ _ (ps.length+1+1) _ _;unfold wEnv at *;generalize (p::ps).reverse.map pin=PL at *;generalize hM:ms.map mkP=ML at *;have ml:ML.length=ms.length:=by rw[<- hM,B6]
  have mset:ML.set p (.str (A5 "d"))=ML:=by rw[<- hM];exact(Nf ms p .d).trans (by rw[hset])
  unfold u4;walk_at "pu";refine gd2 pa rfl (if_t (by rw[pe];rfl) ?_);rw[tp];dsimp only
  by_cases c:r<(i:Int)-p-1
  ·refine if_t (jp c) ⟨⟨_,rfl⟩,?_⟩;rw[pp.1];dsimp only;rw[U9 (by omega) (by omega)];dsimp only;rw[O4,mset,pp.2];exact rec_
  ·exact if_f (jq c) (base λp' ps'' e=>by cases e;omega)
theorem m_word {q n many:Nat}{r:Int}{R:PV->Nat->Prop}(h24:many<=24)(hn:n<=999900000)(h:∀ms n',ms.length=many->run r 0 [] ms=some []->n'<=n+50->R (.lst (ms.map mkP)) n'):IM [.pot (q+1),.int (many:Int),.int r] n R:=by
 refine⟨rfl,?_⟩;unfold Mx;walk_at "pu";refine⟨⟨by omega,by omega⟩,?_⟩;rw[O4];refine Q3 (λi env m=>∃ms ps s5 s6,env=wEnv q many r ms ps s5 s6/\Seg r ps ms/\ms.length=i/\m<=n+2*i) _ 0 _ _ ⟨[],[],none,none,rfl,rfl,rfl,by omega⟩ (λi x env m N ex hI hN=>?_) (λenv m hI=>?_)
 ·obtain⟨ms,ps,s5,s6,rfl,hs,hl,hm⟩:=hI;obtain⟨hi,rfl⟩:=Do ex;rw[J3] at hl hm hN;have ei:(0:Int)+(i:Int)=(i:Int):=by omega
  rw[ei];have w:=λD=>Nh (q:=q) (many:=(many:Int)) (r:=r) (i:=i) (m:=m) (s6:=s6) (ms:=ms) (D:=D) ps hs;unfold wEnv at w ⊢;walk_at "pu";refine⟨ps.length+1,w _ λps' hs' top=>?_⟩;clear w hs;generalize hP:ps'.reverse.map pin=PL;generalize hM:ms.map mkP=ML;have ml:ML.length=ms.length:=by rw[<- hM,B6]
  walk_at "pu";refine⟨by omega,λw w0 w1=>?_⟩
  have pl:PL.length<=24:=by
   rw[<- hP,B6,List.length_reverse];have:=hs'.len;omega
  have pa:PL.all (cmpb 3)=true:=by
   have e:ps'.reverse.map pin=(ps'.reverse.map λp=>((p:Nat):Int)).map PV.int:=by rw[U6];rfl
   rw[<- hP,e];exact LH _ 3
  have em:∀k:Pu.Mk,ML++[mkP k]=(ms++[k]).map mkP:=λk=>by rw[N1,hM];rfl
  have emd:ML++[PV.str (A5 "d")]=(ms++[Pu.Mk.d]).map mkP:=em Pu.Mk.d;have emo:ML++[PV.str (A5 "o")]=(ms++[Pu.Mk.o]).map mkP:=em Pu.Mk.o
  have push:∀s5 s6 m',m'<=m+2->N [some (.v (.pot (q+1))),some (.v (.int (many:Int))),some (.v (.int r)),some (.own (ML++[PV.str (A5 "d")])),some (.own (PL++[PV.int (i:Int)])),s5,s6] m':=λs5 s6 m' hm'=>by
   have e2:PL++[PV.int (i:Int)]=(ms.length::ps').reverse.map pin:=by rw[Cw,N1,hP,hl];rfl
   rw[emd,e2];exact hN _ _ ⟨_,_,_,_,rfl,hs'.push,by rw[E7,hl];rfl,by omega⟩
  have stay:∀s5 s6 m',m'<=m+2->N [some (.v (.pot (q+1))),some (.v (.int (many:Int))),some (.v (.int r)),some (.own (ML++[PV.str (A5 "d")])),some (.own PL),s5,s6] m':=λs5 s6 m' hm'=>by
   rw[emd,<- hP];exact hN _ _ ⟨_,_,_,_,rfl,hs'.drop,by rw[E7,hl];rfl,by omega⟩
  refine gd2 pa rfl ?_;cases ps' with
  | nil =>
   have eP:PL=[]:=by rw[<- hP];rfl
   refine if_f (by rw[eP];rfl) ?_
   by_cases c2:w=2
   ·exact if_t (jp c2) ⟨⟨_,rfl⟩,by omega,⟨_,rfl⟩,by omega,push _ _ _ (by omega)⟩
   refine if_f (jq c2) ?_
   by_cases c3:w=3
   ·exact if_t (jp c3) ⟨⟨_,rfl⟩,by omega,⟨_,rfl⟩,by omega,push _ _ _ (by omega)⟩
   refine if_f (jq c3) ⟨⟨_,rfl⟩,gd2 pa rfl (if_f (by rw[eP];rfl) ⟨by omega,λd d0 d1=>?_⟩)⟩;obtain⟨z,hz,ez⟩:=BN (xs:=[PV.str (A5 "o"),PV.str (A5 "o"),PV.str (A5 "d")]) d0 (by simpa using d1);rw[ez];dsimp only;refine⟨by omega,?_⟩
   have hz':z=PV.str (A5 "o")\/z=PV.str (A5 "d"):=by
    simp only[C3,P9,or_false] at hz;rcases hz with h|h|h
    ·exact .inl h
    ·exact .inl h
    ·exact .inr h
   rcases hz' with rfl|rfl
   ·rw[emo,<- hP];exact hN _ _ ⟨_,_,_,_,rfl,hs'.over,by rw[E7,hl];rfl,by omega⟩
   ·exact stay _ _ _ (by omega)
  | cons p ps' =>
   have pe:eqPs PL []=false:=by
    rw[<- hP];cases hh:(p::ps').reverse.map pin with
    |nil=>simp at hh
    |cons a l=>rfl
   refine if_t (by rw[pe];rfl) ?_
   by_cases c1:w<2
   ·refine if_t (jp c1) ⟨⟨_,rfl⟩,?_⟩;obtain⟨pp1,pp2⟩:=Ng (p:=p) (ps:=ps');rw[hP] at pp1 pp2;rw[pp1];dsimp only;obtain⟨hlt,hs2⟩:=hs'.popt (by rw[hl];exact top p ps' rfl);rw[U9 (by omega) (by omega)];dsimp only;rw[O4,pp2]
    have e3:ML.set p (PV.str (A5 "t"))++[PV.str (A5 "u")]=(ms.set p Pu.Mk.t++[Pu.Mk.u]).map mkP:=by
     rw[N1,<- Nf,hM];rfl
    rw[e3];refine⟨⟨_,rfl⟩,by rw[L4];omega,?_⟩;exact hN _ _ ⟨_,_,_,_,rfl,hs2,by rw[E7,L4,hl];rfl,by omega⟩
   refine if_f (jq c1) ?_
   by_cases c2:w=2
   ·exact if_t (jp c2) ⟨⟨_,rfl⟩,by omega,⟨_,rfl⟩,by omega,push _ _ _ (by omega)⟩
   refine if_f (jq c2) ?_
   by_cases c3:w=3
   ·exact if_t (jp c3) ⟨⟨_,rfl⟩,by omega,⟨_,rfl⟩,by omega,push _ _ _ (by omega)⟩
   exact if_f (jq c3) ⟨⟨_,rfl⟩,gd2 pa rfl (if_t (by rw[pe];rfl) ⟨by omega,stay _ _ _ (by omega)⟩)⟩
 ·obtain⟨ms,ps,s5,s6,rfl,hs,hl,hm⟩:=hI;rw[J3,Dp] at hl hm;have:=h ms m (by simpa using hl) hs.wrd (by omega);unfold wEnv;generalize hM:ms.map mkP=ML at *;walk_at "pu";exact this
theorem TH (hk:k<zs.length)(m:Pu.Mk)(ms:List Pu.Mk):zipP ((zs.drop k).map PV.str) ((m::ms).map mkP)=.tup [.str (nm zs k),mkP m]::zipP ((zs.drop (k+1)).map PV.str) (ms.map mkP):=by
 have e:zs.drop k=nm zs k::zs.drop (k+1):=by
  rw[An hk];have:=Ac hk;rw[D4 hk] at this;rw[P0 this]
 rw[e];rfl
abbrev pst (zs:List Str)(st:List Nat):List PV:=st.reverse.map λp=>PV.str (nm zs p)
theorem TJ:(pst zs (p::ps))[(pst zs (p::ps)).length-1]?=some (.str (nm zs p))/\(pst zs (p::ps)).dropLast=pst zs ps:=by
 unfold pst;rw[Cw,N1];refine⟨?_,by simp⟩;rw[V5 (by simp)];simp
theorem Ni:∀(ms:List Pu.Mk) (k:Nat) (st:List Nat) (jl:List Ev) (s4 s5:Option Pu.Slot),run r k st ms=some []->k+ms.length=zs.length->jl.length<=k->st.length<=k->zs.length<=24->
   (∀s4 s5 pl,D.nx [some (.v (rowP zs)),some (.v X),some (.own pl),some (.own ((jl++(shE k st ms).map (evOf zs)).map evP)),s4,s5] n)->
   forL (gTp 2 (gCn (gN 4) (gCn (gN 5) gNl))) (qIfS (qB (qOp (wEq 4) (qV 5) (qC (.str (A5 "t"))))) (M5 (R1 2 (qV 4))) (qIfS (qB (qOp (wEq 4) (qV 5) (qC (.str (A5 "u"))))) (M5 (R1 3 (qTup (A3 (qC (.str (A5 "touch"))) (A3 (qV 4) (A3 (qPop 2) qNil)))))) (qIfS (qB (qOp (wEq 4) (qV 5) (qC (.str (A5 "d"))))) (M5 (R1 3 (qTup (A3 (qC (.str (A5 "drop"))) (A3 (qV 4) qNil))))) qNx))) D
     (zipP ((zs.drop k).map PV.str) (ms.map mkP)) [some (.v (rowP zs)),some (.v X),some (.own (pst zs st)),some (.own (jl.map evP)),s4,s5] n
 | [], k, st, jl, s4, s5, hr, hk, _, _, _, h => by
  have:zipP ((zs.drop k).map PV.str) ([]:List PV)=[]:=by unfold zipP;simp
  rw[Aq,this];have:=h s4 s5 (pst zs st);simp only[shE,Aq,Y6] at this;exact this
 | m :: ms, k, st, jl, s4, s5, hr, hk, ha, hs, h24, h => by
  rw[E8] at hk;rw[TH (by omega)];have go:=Ni (zs:=zs) (r:=r) (n:=n) (D:=D) (X:=X) ms (k+1);have pl:(pst zs st).length<=24:=by unfold pst;rw[B6,List.length_reverse];omega
  have al:(jl.map evP).length<=24:=by rw[B6];omega
  have e1:∀e:Ev,jl.map evP++[evP e]=(jl++[e]).map evP:=λe=>by rw[N1];rfl
  unfold rowP at *;generalize hZ:zs.map PV.str=Z at *;generalize hA:jl.map evP=AL at *;unfold forL;have nt:∀z,(decide (mkS m=z))=decide (mkS m=z):=λ_=>rfl;cases m with
  | t =>
   have h':=go (k::st) jl (some (.v (.str (nm zs k)))) (some (.v (mkP .t))) hr (by omega) (by omega) (by rw[E8];omega) h24 h;have e2:pst zs st++[.str (nm zs k)]=pst zs (k::st):=by unfold pst;rw[Cw,N1];rfl
   rw[hA,<- e2] at h';generalize pst zs st=PS at *;rw[show mkP .t=.str (mkS .t) from rfl] at *;walk_at "pu";refine(if_t (by rw[mk_t];rfl) ⟨⟨_,rfl⟩,by omega,h'⟩)
  | o =>
   cases st with
   |cons p st=>cases hr
   | nil =>
    have h':=go [] jl (some (.v (.str (nm zs k)))) (some (.v (mkP .o))) hr (by omega) (by omega) (by simp) h24 h;rw[hA] at h';generalize pst zs []=PS at *;rw[show mkP .o=.str (mkS .o) from rfl] at *;walk_at "pu";refine(if_f (by rw[mk_t];rfl) ((if_f (by rw[mk_u];rfl) ((if_f (by rw[mk_d];rfl) h')))))
  | d =>
   have h':=go st (jl++[.d (nm zs k)]) (some (.v (.str (nm zs k)))) (some (.v (mkP .d))) hr (by omega) (by rw[E7,T4];omega) (by omega) h24 (by
    intro s4 s5 pl;have:=h s4 s5 pl;rw[X4]
    exact this)
   rw[<- e1] at h';generalize pst zs st=PS at *;rw[show mkP .d=.str (mkS .d) from rfl] at *;walk_at "pu";refine(if_f (by rw[mk_t];rfl) ((if_f (by rw[mk_u];rfl) ((if_t (by rw[mk_d];rfl) ⟨⟨_,rfl⟩,by omega,h'⟩)))))
  | u =>
   cases st with
   |nil=>cases hr
   | cons p st =>
    have hr':run r (k+1) st ms=some []:=by
     have:(if(k:Int)-p-1<=r then run r (k+1) st ms else none)=some []:=hr
     split at this
     ·exact this
     ·cases this
    have h':=go st (jl++[.t (nm zs k) (nm zs p)]) (some (.v (.str (nm zs k)))) (some (.v (mkP .u))) hr' (by omega) (by rw[E7,T4];omega) (by rw[E8] at hs;omega) h24 (by
     intro s4 s5 pl;have:=h s4 s5 pl;rw[X4]
     exact this)
    rw[<- e1] at h';obtain⟨pp1,pp2⟩:=TJ (zs:=zs) (p:=p) (ps:=st);rw[<- pp2] at h';generalize pst zs (p::st)=PS at *;rw[show mkP .u=.str (mkS .u) from rfl] at *;walk_at "pu";refine(if_f (by rw[mk_t];rfl) ((if_t (by rw[mk_u];rfl) ⟨⟨_,rfl⟩,?_⟩)));rw[pp1];dsimp only;exact⟨by omega,h'⟩
theorem AY:∀(m:List Pu.Mk) (k:Nat) (st:List Nat),(shE k st m).length<=m.length
 |[],_,_=>by simp[shE]
 |.t::m,k,st=>by have:=AY m (k+1) (k::st);show(shE (k+1) (k::st) m).length<=m.length+1;omega
 |.d::m,k,st=>by have:=AY m (k+1) st;show(PE.d k::shE (k+1) st m).length<=m.length+1;rw[E8];omega
 |.o::m,k,st=>by have:=AY m (k+1) st;unfold shE;rw[E8];omega
 |.u::m,k,[]=>by have:=AY m (k+1) [];unfold shE;rw[E8];omega
 |.u::m,k,p::st=>by have:=AY m (k+1) st;show(PE.t k p::shE (k+1) st m).length<=m.length+1;rw[E8];omega
theorem TL {zs:List Str}{ms:List Pu.Mk}{r:Int}{n:Nat}{R:PV->Nat->Prop}(hl:ms.length=zs.length)(h24:zs.length<=24)(hw:run r 0 [] ms=some [])(h:∀es:List Ev,es.Perm ((shE 0 [] ms).map (evOf zs))->Srt (es.map evP) (((shE 0 [] ms).map (evOf zs)).map evP)->R (shP es) n):IL [rowP zs,.lst (ms.map mkP)] n R:=by
 refine⟨rfl,?_⟩;unfold Mv;have go:=λD s4 s5=>Ni (zs:=zs) (r:=r) (n:=n) (D:=D) (X:=.lst (ms.map mkP)) ms 0 [] [] s4 s5 hw (by omega) (by simp) (by simp) h24;simp only[Eh,Ap] at go;unfold rowP at *;generalize hM:ms.map mkP=ML at *;generalize hZ:zs.map PV.str=Z at *;walk_at "pu";unfold BQ;refine go _ _ _ λs4 s5 pl=>?_;have so:=Sk ((shE 0 [] ms).map (evOf zs));have sl:=AY ms 0 []
 have hh:∀ys,Srt ys (((shE 0 [] ms).map (evOf zs)).map evP)->R (.tup ys) n:=λys hy=>by
  obtain⟨es,rfl,p⟩:=Sl hy;exact h es p hy
 grind
theorem Nj {zs:List Str}{es:List Ev}{n:Nat}{R:PV->Nat->Prop}(h24:zs.length<=1000)(hb:∀b∈es.flatMap evB,b∈zs)(h:R (rowP (aft zs es)) n):DQ [rowP zs,shP es] n R:=by
 refine⟨rfl,?_⟩;unfold My;unfold rowP shP at *;have hix:∀z∈zs,∀{R:PV->Prop},R (.int (ixS zs z))->k6 (.tup (zs.map PV.str)) (.str z) R:=λz hz {R} q=>m_ix rfl hz (by omega) q
 have go:∀(D:AM) (hD:∀s3,D.nx [some (.v (.tup (zs.map PV.str))),some (.v (.tup (es.map evP))),some (.own ((es.foldl (setE zs) zs).map PV.str)),s3] n),forL (gN 3) (qIfS (qB (qOp (wEq 4) (qOp wIx (qV 3) (qC (.int 0))) (qC (.str (A5 "touch"))))) (qSeq (qPut 2 (qOp wIx (qV 3) (qC (.int 2))) (R9 (qV 0) (qOp wIx (qV 3) (qC (.int 1))))) (qPut 2 (qOp wIx (qV 3) (qC (.int 1))) (R9 (qV 0) (qOp wIx (qV 3) (qC (.int 2)))))) qNx) D (es.map evP) [some (.v (.tup (zs.map PV.str))),some (.v (.tup (es.map evP))),some (.own (zs.map PV.str)),none] n:=by
  intro D hD;have hbe:∀e∈es,∀b∈evB e,b∈zs:=λe he b hb'=>hb b (Bg.mpr ⟨e,he,hb'⟩);generalize hZ:zs.map PV.str=Z at *;generalize hE:es.map evP=E at *;refine Q3 (λi env m=>∃s3,env=[some (.v (.tup Z)),some (.v (.tup E)),some (.own (((es.take i).foldl (setE zs) zs).map PV.str)),s3]/\m=n) _ 0 _ _ ⟨none,by rw[List.take_zero,List.foldl_nil,hZ],rfl⟩ (λi x env m N ex hI hN=>?_) (λenv m hI=>?_)
  ·obtain⟨s3,rfl,rfl⟩:=hI;rw[<- hE] at ex;obtain⟨e,ee,rfl⟩:=u7 ex;rw[J3] at hN ⊢;have st:(es.take (i+1)).foldl (setE zs) zs=setE zs ((es.take i).foldl (setE zs) zs) e:=by rw[u8 ee,List.foldl_append];rfl
   have fl:((es.take i).foldl (setE zs) zs).length=zs.length:=DJ zs (es.take i);rw[st] at hN;generalize (es.take i).foldl (setE zs) zs=f at *;have em:=hbe e (K8 ee);generalize hF:f.map PV.str=FL at *;have FLl:FL.length=zs.length:=by rw[<- hF,B6];exact fl
   cases e with
   | d x =>
    rw[k7];walk_at "pu";exact if_f Cb (hN _ _ ⟨_,by rw[show setE zs f (.d x)=f from rfl,hF],rfl⟩)
   | t x y =>
    have hx:=em x (by simp[evB]);have hy:=em y (by simp[evB]);have lx:=P6 hx;have ly:=P6 hy;rw[N9];walk_at "pu";refine⟨⟨_,rfl⟩,?_⟩;refine⟨⟨_,rfl⟩,hix x hx ?_⟩;dsimp only;rw[U9 (by omega) (by omega)];dsimp only;refine⟨⟨_,rfl⟩,⟨_,rfl⟩,hix y hy ?_⟩;dsimp only;rw[U9 (by omega) (by grind)];dsimp only;rw[O4,O4]
    have e3:(FL.set (ixS zs x) (.str y)).set (ixS zs y) (.str x)=(setE zs f (.t x y)).map PV.str:=by
     show _=((f.set (ixS zs x) y).set (ixS zs y) x).map PV.str;rw[c8,c8,hF]
    rw[e3];exact hN _ _ ⟨_,rfl,rfl⟩
  ·grind
 generalize hE:es.map evP=E at *;generalize hZ:zs.map PV.str=Z at *;walk_at "pu";refine go _ λs3=>?_;have h':=h;unfold aft at h';generalize (es.foldl (setE zs) zs).map PV.str=FL at *;walk_at "pu";exact h'
theorem Nk {R:PV->Nat->Prop}(h1:1<=s)(hn:1<=n)(h:R (.int (((n+s-1)/s:Nat):Int)) m)(h8:s<=8):DO [.tup [.int (s:Int),.int r],.int (n:Int)] m R:=by
 refine⟨rfl,?_⟩;unfold Mw;walk_at "pu";refine⟨⟨by omega,by omega⟩,?_⟩
 have e:((n:Int)+s-1)/s=(((n+s-1)/s:Nat):Int):=by
  rw[show(n:Int)+s-1=((n+s-1:Nat):Int) by omega]
  rfl
 rw[e];exact h
theorem Nl {R:PV->Nat->Prop}(h8:s<=8)(hn:1<=n)(hk:k<=1000)(h:R (.tup [.int ((k*s:Nat):Int),.int ((hiN s n k:Nat):Int)]) m):FH [.tup [.int (s:Int),.int r],.int (n:Int),.int (k:Int)] m R:=by
 refine⟨rfl,?_⟩;unfold Mu;walk_at "pu";refine⟨.inr ⟨by omega,by omega⟩,?_⟩;have e2:(k:Int)*s=((k*s:Nat):Int):=(Int.natCast_mul k s).symm;rw[e2];unfold hiN at h
 by_cases c:k*s+s<n
 ·refine if_t (jp (by omega)) ?_
  try dsimp only
  rw[show((k*s:Nat):Int)+(s:Int)=((min (k*s+s) (n-1):Nat):Int) by omega];exact h
 ·refine if_f (jq (by omega)) ?_
  try dsimp only
  rw[show(n:Int)-1=((min (k*s+s) (n-1):Nat):Int) by omega];exact h
theorem Nm {R:PV->Nat->Prop}(h8:s<=8)(hn:1<=n)(hk:k<=1000)(h:R (.tup [.int ((k*s:Nat):Int),.int ((hiN s n k:Nat):Int)]) m):FT [.tup [.int (s:Int),.int r],.int (n:Int),.int (k:Int)] m R:=by
 refine⟨rfl,?_⟩;unfold MV;walk_at "pu";refine⟨.inr ⟨by omega,by omega⟩,?_⟩;have e2:(k:Int)*s=((k*s:Nat):Int):=(Int.natCast_mul k s).symm
 have e:(if(n:Int)-1<(k:Int)*s+s then(n:Int)-1 else(k:Int)*s+s)=((hiN s n k:Nat):Int):=by
  rw[e2];unfold hiN
  split <;> omega
 try dsimp only
 rw[e,e2];exact h
theorem IZ (hl:es.length<=1000000)(h:R (.lst ((es.filter isTo).map evP)) n):AX [shP es] n R:=by
 refine⟨rfl,?_⟩;unfold MN shP;generalize hE:es.map evP=E;have El:E.length=es.length:=by rw[<- hE,B6]
 walk_at "pu";refine⟨by omega,?_⟩;rw[<- hE];refine BZ evP isTo _ _ _ _ (λe he m Q hQ=>?_) h;cases e with
 | d x =>
  rw[k7] at *;walk_at "pu";rw[Cb];exact hQ
 | t x y =>
  rw[N9] at *;walk_at "pu";exact hQ
theorem TM {R:PV->Nat->Prop}(hi:i<f.length)(hj:j<f.length)(h:R (rowP (exch f i j)) n):IV [rowP f,.int (i:Int),.int (j:Int)] n R:=by
 refine⟨rfl,?_⟩;unfold MX;unfold rowP at *;have ai:∀{k:Nat},k<f.length->atI (f.map PV.str) (k:Int)=some (.str (nm f k)):=λ{k} hk=>AE (by rw[G0,Ac hk];rfl);have e:((f.map PV.str).set i (.str (nm f j))).set j (.str (nm f i))=(exch f i j).map PV.str:=by unfold exch;rw[c8,c8]
 generalize hF:f.map PV.str=F at *;have Fl:F.length=f.length:=by rw[<- hF,B6]
 walk_at "pu";rw[ai hj];dsimp only;rw[ai hi];dsimp only;refine⟨⟨_,rfl⟩,?_⟩;rw[U9 (by omega) (by omega)];dsimp only;rw[U9 (by omega) (by rw[L4];omega)];dsimp only;rw[O4,O4,e];exact h
theorem m_rowb (h24:zs.length<=1000)(hl:es.length<=1000)(hb:∀b∈es.flatMap evB,b∈zs)(h:R (rowP (rbh zs es)) n):IW [rowP zs,shP es] n R:=by
 refine⟨rfl,?_⟩;unfold MY;have hix:∀z∈zs,∀{R:PV->Prop},R (.int (ixS zs z))->k6 (.tup (zs.map PV.str)) (.str z) R:=λz hz {R} q=>m_ix rfl hz (by omega) q;have hbe:∀e∈es,∀b∈evB e,b∈zs:=λe he b hb'=>hb b (Bg.mpr ⟨e,he,hb'⟩);generalize hS:shP es=S;have hr0:rowP zs=.tup (zs.map PV.str):=rfl;generalize hZ:zs.map PV.str=Z at *;rw[hr0];walk_at "pu";rw[<- hS];refine IZ (by omega) ?_;dsimp only;rw[hS];refine Q3 (λi env m=>∃s3,env=[some (.v (.tup Z)),some (.v S),some (.v (rowP (((es.filter isTo).take i).foldl (exE zs) zs))),s3]/\m=n) _ 0 _ _ ⟨none,by rw[List.take_zero,List.foldl_nil,hr0],rfl⟩ (λi x env m N ex hI hN=>?_) (λenv m hI=>?_)
 ·obtain⟨s3,rfl,rfl⟩:=hI;obtain⟨e,ee,rfl⟩:=u7 ex;rw[J3] at hN ⊢;have st:((es.filter isTo).take (i+1)).foldl (exE zs) zs=exE zs (((es.filter isTo).take i).foldl (exE zs) zs) e:=by rw[u8 ee,List.foldl_append];rfl
  have fl:(((es.filter isTo).take i).foldl (exE zs) zs).length=zs.length:=Iy zs _ _;rw[st] at hN;generalize ((es.filter isTo).take i).foldl (exE zs) zs=f at *;obtain⟨he,ht⟩:=Q8.mp (K8 ee);have em:=hbe e he;cases e with
  |d x=>cases ht
  | t x y =>
   have hx:=em x (by simp[evB]);have hy:=em y (by simp[evB]);have lx:=P6 hx;have ly:=P6 hy;rw[N9];generalize hF:rowP f=F;walk_at "pu";refine⟨⟨_,rfl⟩,hix x hx ?_⟩;refine⟨⟨_,rfl⟩,hix y hy ?_⟩;rw[<- hF];refine TM (by omega) (by omega) ?_;exact hN _ _ ⟨_,rfl,rfl⟩
 ·obtain⟨s3,rfl,rfl⟩:=hI;rw[J3,B6,w9,Iz];have h':R (rowP (es.foldl (exE zs) zs)) m:=h;generalize rowP (es.foldl (exE zs) zs)=F at *;walk_at "pu";exact h'
theorem Cg (hn:1<=n):hiN s n k+1<=n:=by unfold hiN;omega
theorem Nn {row:List Str}{R:PV->Nat->Prop}(h8:s<=8)(hn:1<=n)(hl:row.length=n)(hk:k<=1000)(h:R (rowP (E1 s n k row)) m):FU [.tup [.int (s:Int),.int r],rowP row,.int (k:Int)] m R:=by
 refine⟨rfl,?_⟩;unfold MZ
 have e:cutP (row.map PV.str) (some ((k*s:Nat):Int)) (some (((hiN s n k:Nat):Int)+1))=(E1 s n k row).map PV.str:=by
  rw[i5,show((hiN s n k:Nat):Int)+1=((hiN s n k+1:Nat):Int) by omega,Ca row (by rw[hl];exact Cg hn)]
  rfl
 unfold rowP at *;generalize hZ:row.map PV.str=Z at *;have Zl:Z.length=n:=by rw[<- hZ,B6];exact hl
 walk_at "pu";rw[Zl];refine Nm h8 hn hk ?_;walk_at "pu";rw[e];exact h
theorem m_put {row b:List Str}{R:PV->Nat->Prop}(h8:s<=8)(hn:1<=n)(h24:n<=1000)(hl:row.length=n)(hb:b.length<=1000)(hk:k<=1000)(h:R (rowP (putN s n k row b)) m):IU [.tup [.int (s:Int),.int r],rowP row,.int (k:Int),rowP b] m R:=by
 refine⟨rfl,?_⟩;unfold MW;have e1:cutP (row.map PV.str) none (some ((k*s:Nat):Int))=(row.take (k*s)).map PV.str:=by rw[i5,Iw]
 have e2:cutP (row.map PV.str) (some (((hiN s n k:Nat):Int)+1)) none=(row.drop (hiN s n k+1)).map PV.str:=by
  rw[i5,show((hiN s n k:Nat):Int)+1=((hiN s n k+1:Nat):Int) by omega,Ix]
 have l1:((row.take (k*s)).map PV.str).length<=1000:=by rw[B6,T5];omega
 have l2:((row.drop (hiN s n k+1)).map PV.str).length<=1000:=by rw[B6,X5];omega
 have e3:(row.take (k*s)).map PV.str++b.map PV.str++(row.drop (hiN s n k+1)).map PV.str=(putN s n k row b).map PV.str:=by unfold putN;rw[N1,N1]
 unfold rowP at *;generalize hZ:row.map PV.str=Z at *;generalize hB:b.map PV.str=B at *;have Bl:B.length=b.length:=by rw[<- hB,B6]
 have Zl:Z.length=n:=by rw[<- hZ,B6];exact hl
 walk_at "pu";rw[Zl];refine Nm h8 hn hk ?_;walk_at "pu";rw[e1,e2];refine⟨by omega,by rw[E7];omega,?_⟩;rw[e3];exact h
theorem TN (h8:s<=8)(hn:1<=n)(h24:n<=1000)(hl:row.length=n)(hk:k<=1000)(he:es.length<=1000)(hb:∀b∈es.flatMap evB,b∈E1 s n k row)(h:R (rowP (putN s n k row (rbh (E1 s n k row) es))) m):IX [.tup [.int (s:Int),.int r],rowP row,.int (k:Int),shP es] m R:=by
 refine⟨rfl,?_⟩;unfold M_;have sl:(E1 s n k row).length<=1000:=by rw[DK hl hn];have:=Cg (s:=s) (k:=k) hn;omega
 have rl:(rbh (E1 s n k row) es).length<=1000:=by rw[show(rbh (E1 s n k row) es).length=_ from Iy _ _ _];exact sl
 generalize hS:shP es=S;generalize hW:rowP row=W;walk_at "pu";rw[<- hW];refine Nn h8 hn hl hk ?_;rw[<- hS];refine m_rowb sl he hb ?_;exact m_put h8 hn h24 hl rl hk h
theorem ins0 {α:Type}(xs:List α)(y:α):insL xs (0:Int).toNat y=y::xs:=rfl
theorem m_day {P:List Str->List Ev->Prop}{q n0 s n:Nat}{r:Int}{row:List Str}{R:PV->Nat->Prop}
   (hP:∀st ms es,RowS st->st.length<=n->ms.length=st.length->run r 0 [] ms=some []->es.Perm ((shE 0 [] ms).map (evOf st))->Srt (es.map evP) (((shE 0 [] ms).map (evOf st)).map evP)->P st es) (hf:∀st es,P st es->Fair st es)
   (h1:1<=s) (h8:s<=8) (hn:1<=n) (h24:n<=24) (hr:RowS row) (hl:row.length=n) (hn0:n0<=999000000)
   (h:∀ess sts r' n',Dy P s n ((n+s-1)/s) row ((n+s-1)/s) ess sts r'->n'<=n0+2000->R (.tup [dayP ess,.tup (sts.map rowP),rowP r']) n'):IN [.pot (q+1),.tup [.int (s:Int),.int r],rowP row] n0 R:=by
 refine⟨rfl,?_⟩;unfold Mz;have rl:(row.map PV.str).length=n:=by rw[B6];exact hl
 have mle:=Fx (s:=s) (n:=n) h1 hn;generalize hW:rowP row=W;have hW':W=.tup (row.map PV.str):=by rw[<- hW]
 walk_at "pu";rw[hW'];simp only[wLen,rl];refine Nk h1 hn ?_ h8;generalize hmx:(n+s-1)/s=mx at *;refine⟨⟨by omega,by omega⟩,?_⟩;rw[O4];refine Q3 (λi env m=>∃ess sts r' s5 s6 s7 s8 s9,env=[some (.v (.pot (q+1))),some (.v (.tup [.int (s:Int),.int r])),some (.v (rowP r')),some (.own (ess.map shP)),some (.own (sts.map rowP)),s5,s6,s7,s8,s9]/\Dy P s n mx row i ess sts r'/\m<=n0+50*i) _ 0 _ _ ⟨[],[],row,_,_,_,_,_,rfl,.nil,by omega⟩ (λi x env m N ex hI hN=>?_) (λenv m hI=>?_)
 ·obtain⟨ess,sts,r',s5,s6,s7,s8,s9,rfl,hd,hm⟩:=hI;obtain⟨hi,rfl⟩:=Iu ex;rw[J3] at hd hm hN;obtain⟨rS,rL⟩:=hd.rows h1 hn hmx.symm hf hr hl;have el:=hd.len;have ek:(mx:Int)-1-i=((mx-1-i:Nat):Int):=by omega
  have kp:(mx-1-i)*s<=n-1:=Fw h1 hn (by omega);rw[ek];have step:=λes hp=>Dy.cons (es:=es) hd hi hp;generalize mx-1-i=k at *;have kh:=Fy (s:=s) (n:=n) kp;have hh:=Cg (s:=s) (k:=k) hn
  have e1:cutP (r'.map PV.str) (some ((k*s:Nat):Int)) (some (((hiN s n k:Nat):Int)+1))=(E1 s n k r').map PV.str:=by
   rw[i5,show((hiN s n k:Nat):Int)+1=((hiN s n k+1:Nat):Int) by omega,Ca r' (by rw[rL];exact hh)]
   rfl
  have e2:cutP (r'.map PV.str) none (some ((k*s:Nat):Int))=(r'.take (k*s)).map PV.str:=by rw[i5,Iw]
  have e3:cutP (r'.map PV.str) (some (((hiN s n k:Nat):Int)+1)) none=(r'.drop (hiN s n k+1)).map PV.str:=by
   rw[i5,show((hiN s n k:Nat):Int)+1=((hiN s n k+1:Nat):Int) by omega,Ix]
  have stS:=Fv (s:=s) (n:=n) (k:=k) rS;have stL:=DK (s:=s) (k:=k) rL hn;have l1:((r'.take (k*s)).map PV.str).length<=24:=by rw[B6,T5];omega
  have l2:((r'.drop (hiN s n k+1)).map PV.str).length<=24:=by rw[B6,X5];omega
  have aL:∀es,((aft (E1 s n k r') es).map PV.str).length<=24:=λes=>by rw[B6,DJ];omega
  have e4:∀es,(r'.take (k*s)).map PV.str++(aft (E1 s n k r') es).map PV.str++(r'.drop (hiN s n k+1)).map PV.str=(putN s n k r' (aft (E1 s n k r') es)).map PV.str:=λes=>by unfold putN;rw[N1,N1]
  have sl:((E1 s n k r').map PV.str).length=(E1 s n k r').length:=by rw[B6]
  have rl':(r'.map PV.str).length=n:=by rw[B6];exact rL
  have hE:(ess.map shP).length<1000000:=by rw[B6];omega
  have hS:(sts.map rowP).length<1000000:=by rw[B6];omega
  have ec:∀es,shP es::ess.map shP=(es::ess).map shP:=λ_=>rfl;have ed:∀st,rowP st::sts.map rowP=(st::sts).map rowP:=λ_=>rfl;generalize hES:ess.map shP=ES at *;generalize hST:sts.map rowP=ST at *;unfold rowP at *;generalize hZ:r'.map PV.str=Z at *;walk_at "pu";rw[rl'];refine Nl h8 hn (by omega) ?_;walk_at "pu";rw[e1];generalize hG:E1 s n k r'=st at *;generalize hQ:st.map PV.str=SP at *;rw[sl];refine m_word (by omega) (by omega) λms n' hml hw hn'=>?_;rw[<- hQ];refine TL hml (by omega) hw λes pe se=>?_;have hp:=hP st ms es stS (by omega) hml hw pe se;have fr:=hf st es hp;refine Nj (by omega) fr.sub ?_
  try dsimp only
  have aL':=aL es;rw[e2,e3];refine⟨by omega,by rw[E7];omega,?_⟩;rw[e4];refine⟨⟨_,rfl⟩,hE,⟨_,rfl⟩,hS,?_⟩;have stp:=step es hp;have x1:insL ES (0:Int).toNat (shP es)=(es::ess).map shP:=by rw[ins0,<- hES];rfl
  have x2:insL ST (0:Int).toNat (PV.tup (st.map PV.str))=(st::sts).map rowP:=by rw[ins0,<- hST];rfl
  rw[x1,x2];exact hN _ _ ⟨_,_,_,_,_,_,_,_,rfl,stp,by omega⟩
 ·obtain⟨ess,sts,r',s5,s6,s7,s8,s9,rfl,hd,hm⟩:=hI;rw[J3,Iv] at hd hm;have:=h ess sts r' m hd (by omega);unfold dayP at this;generalize ess.map shP=ES at *;generalize sts.map rowP=ST at *;generalize rowP r'=RP at *;walk_at "pu";exact this
theorem m_meet {q n0:Nat}{R:PV->Nat->Prop}(hn0:n0<=999000000)(h:∀(s r:Nat) zs n',1<=s->s<=8->r<=7->1<=zs.length->zs.length<=24->RowS zs->n'<=n0+200->R (.tup [.tup [.int (s:Int),.int (r:Int)],rowP zs]) n'):IK [.pot (q+1),.int 24] n0 R:=by
 refine⟨rfl,?_⟩;unfold Mt;walk_at "pu";refine⟨by omega,λd0 d00 d01=>⟨by omega,λd1 d10 d11=>⟨by omega,λd2 d20 d21=>?_⟩⟩⟩;obtain⟨x,hx,ex⟩:=BN (xs:=[PV.int 0,PV.int 1,PV.int 7,PV.int d1]) d20 (by simpa using d21)
 obtain⟨r,rfl,r0,r7⟩:∃v:Int,x=.int v/\0<=v/\v<=7:=by
  simp only[C3,P9,or_false] at hx;rcases hx with rfl|rfl|rfl|rfl <;> exact⟨_,rfl,by omega,by omega⟩
 rw[ex];dsimp only;obtain⟨s,rfl⟩:=x4 d00;obtain⟨r,rfl⟩:=x4 r0;refine⟨by omega,λd3 d30 d31=>⟨by omega,λd4 d40 d41=>⟨by omega,λd5 d50 d51=>?_⟩⟩⟩
 have d41':d4<6:=by
  have:(if(6:Int)<24 then(6:Int) else 24)=6:=rfl;omega
 obtain⟨y,hy,ey⟩:=BN (xs:=[PV.int (1+d3),PV.int (1+d4)]) d50 (by simpa using d51)
 obtain⟨many,rfl,m0,m1⟩:∃v:Int,y=.int v/\1<=v/\v<=24:=by
  simp only[C3,P9,or_false] at hy;rcases hy with rfl|rfl <;> exact⟨_,rfl,by omega,by omega⟩
 rw[ey];dsimp only;refine TD m0 m1 (by omega) λzs n' zl zr hn'=>?_;have e:(1:Int)+(s:Int)=((1+s:Nat):Int):=by omega
 rw[e];exact h (1+s) r zs n' (by omega) (by omega) (by omega) (by omega) (by omega) zr (by omega)
def Good:Ev->Prop
 |.d x=>O8 x
 |.t x y=>x≠y/\O8 x/\O8 y
def SrE (es:List Ev):Prop:=(es.map evP).Pairwise λa b=>lexK (keyP b) (keyP a)=false
def btw (st:List Str)(x y:Str):List Str:=(st.take (ixS st x)).drop (ixS st y+1)
theorem No {α:Type}(xs:List α)(f:α->Bool):i6 (xs.map λx=>PV.bl (f x))=some (xs.map f):=by
 rw[<- Hg (xs.map f),U6];rfl
theorem Np {α:Type}(xs:List α)(f:α->Bool):(xs.map f).all id=xs.all f:=by rw[List.all_map];rfl
theorem TQ (hx:x∈st):cutP (st.map PV.str) (some ((ixS st y:Nat)+1:Int)) (some ((ixS st x:Nat):Int))=(btw st x y).map PV.str:=by
 have:=Ca (st.map PV.str) (a:=ixS st y+1) (b:=ixS st x) (by rw[B6];exact d7 (P6 hx));unfold btw
 simp_all
theorem cmp_ev (e:Ev)(d:Nat):cmpb (d+1) (evP e)=true:=by cases e <;> cases d <;> rfl
theorem FW (es:List Ev)(d:Nat):(es.map evP).all (cmpb (d+1))=true:=N0.mpr λy hy=>by
 obtain⟨e,_,rfl⟩:=J1.mp hy;exact cmp_ev e d
theorem I_ {α β:Type}(f:α->β):∀(l:List α) (j:Nat),(l.eraseIdx j).map f=(l.map f).eraseIdx j
 |[],_=>rfl
 |_::_,0=>rfl
 | a :: l, j + 1 => by
  show f a::(l.eraseIdx j).map f=f a::(l.map f).eraseIdx j;rw[I_ f l j]
theorem at_hd {α:Type}{x:α}{xs:List α}:atI (x::xs) 0=some x:=AE (xs:=x::xs) (j:=0) rfl
theorem TR (a:Ev):eqP (evP a) (evP a)=true:=by
 cases a with
 |d x=>rw[k7];simp[EV,EX,Hx,Dq]
 |t x y=>rw[N9];simp[EV,EX,Hx,Dq]
theorem Nq (e:Ev)(h:evP e=.tup xs):cutP xs (some 1) none=(evB e).map PV.str:=by
 cases e with
 |d x=>rw[k7] at h;cases h;rfl
 |t x y=>rw[N9] at h;cases h;rfl
theorem TU (h:Srt ys [.int a,.int b]):ys=[.int (min a b),.int (max a b)]:=by
 obtain⟨p,q⟩:=h;have l:=p.length_eq
 match ys,l with
 | [u, v], _ =>
  have hq:lexK (keyP v) (keyP u)=false:=by simpa using q
  have two:(u=.int a/\v=.int b)\/(u=.int b/\v=.int a):=by
   have hu:u∈[PV.int a,PV.int b]:=p.mem_iff.mp (by simp);rcases C3.mp hu with e|hu
   ·subst e;exact .inl ⟨rfl,by simpa using(List.perm_cons _).mp p⟩
   ·have e:u=.int b:=by simpa using hu
    subst e;have p2:=p.trans (List.Perm.swap (PV.int b) (PV.int a) []);exact .inr ⟨rfl,by simpa using(List.perm_cons _).mp p2⟩
  rcases two with⟨rfl,rfl⟩|⟨rfl,rfl⟩
  ·have:¬b<a:=by
    intro c
    have e:lexK [P1 b] [P1 a]=true:=by
     show(if(P1 b:Key)=P1 a then lexK [] [] else decide (b<a))=true;rw[jt (by intro z;cases z;omega)];exact jp c
    rw[show keyP (PV.int b)=[P1 b] from rfl,show keyP (PV.int a)=[P1 a] from rfl,e] at hq;cases hq
   rw[show min a b=a by omega,show max a b=b by omega]
  ·have:¬a<b:=by
    intro c
    have e:lexK [P1 a] [P1 b]=true:=by
     show(if(P1 a:Key)=P1 b then lexK [] [] else decide (a<b))=true;rw[jt (by intro z;cases z;omega)];exact jp c
    rw[show keyP (PV.int b)=[P1 b] from rfl,show keyP (PV.int a)=[P1 a] from rfl,e] at hq;cases hq
   rw[show min a b=b by omega,show max a b=a by omega]
theorem FX (hs:st.length<=100)(hx:x∈st)(hy:y∈st)(h:R (rowP (btwU st x y)) n):k8 [rowP st,evP (.t x y)] n R:=by
 refine⟨rfl,?_⟩;unfold MP;have hix:∀z∈st,∀{R:PV->Prop},R (.int (ixS st z))->k6 (.tup (st.map PV.str)) (.str z) R:=λz hz {R} q=>m_ix rfl hz (by omega) q;have hr0:rowP st=.tup (st.map PV.str):=rfl;have lx:=P6 hx;have ly:=P6 hy
 have hcut:cutP (st.map PV.str) (some (min (ixS st x:Int) (ixS st y)+1)) (some (max (ixS st x:Int) (ixS st y)))=(btwU st x y).map PV.str:=by
  have:=Ca (st.map PV.str) (a:=min (ixS st x) (ixS st y)+1) (b:=max (ixS st x) (ixS st y)) (by rw[B6];omega);unfold btwU;rw[List.map_drop,List.map_take,<- this]
  congr 2 <;> omega
 generalize hZ:st.map PV.str=Z at *;rw[hr0,N9];walk_at "pu";refine⟨⟨_,rfl⟩,hix x hx ?_⟩;refine⟨⟨_,rfl⟩,hix y hy ?_⟩;refine⟨.inl (by simp),λys hys=>?_⟩;rw[TU hys];refine⟨rfl,?_⟩;walk_at "pu";rw[hcut];exact h
theorem TV {st:List Str}{x y:Str}{n:Nat}{R:PV->Nat->Prop}(hs:st.length<=100)(hx:x∈st)(hy:y∈st)(h:R (.bl (decide (ixS st x<ixS st y))) n):IQ [rowP st,evP (.t x y)] n R:=by
 refine⟨rfl,?_⟩;unfold MO;have hix:∀z∈st,∀{R:PV->Prop},R (.int (ixS st z))->k6 (.tup (st.map PV.str)) (.str z) R:=λz hz {R} q=>m_ix rfl hz (by omega) q;have hr0:rowP st=.tup (st.map PV.str):=rfl;generalize hZ:st.map PV.str=Z at *;rw[hr0,N9];walk_at "pu";refine⟨⟨_,rfl⟩,hix y hy ?_⟩;refine⟨⟨_,rfl⟩,hix x hx ?_⟩;dsimp only;rw[show decide ((ixS st x:Int)<ixS st y)=decide (ixS st x<ixS st y) by rw[decide_eq_decide];omega];exact h
theorem m_far (hs:st.length<=100)(hx:x∈st)(hy:y∈st)(h:R (.bl (decide (r<((btwU st x y).length:Int)))) n):IR [rowP st,.int r,evP (.t x y)] n R:=by
 refine⟨rfl,?_⟩;unfold MQ;generalize hS:rowP st=S;generalize hT:evP (.t x y)=T;walk_at "pu";subst hS hT;refine FX hs hx hy ?_;dsimp only;rw[B6];exact h
theorem Ja:∀(es:List Ev) (s0 s1:Option Pu.Slot) (n:Nat) (R:List PV->Nat->Prop),R ((es.flatMap evB).map PV.str) n->AR (gN 0) (qIt (qSl (qV 0) (K6 (qC (.int 1))) qNo)) (gN 1) qTru (qV 1) (es.map evP) [s0,s1] n R
 |[],_,_,_,_,h=>h
 | .d x :: es, s0, s1, n, R, h => by
  have ih:=Ja es (some (.v (.tup [.str DROP,.str x]))) (some (.v (.str x))) n (λws n4=>R (.str x::ws) n4) h;rw[G9,k7];have e:cutP [PV.str DROP,PV.str x] (some 1) none=[.str x]:=rfl;generalize es.map evP=E at *;unfold AR;walk_at "pu";rw[e];exact⟨by simp,ih⟩
 | .t x y :: es, s0, s1, n, R, h => by
  have ih:=Ja es (some (.v (.tup [.str L7,.str x,.str y]))) (some (.v (.str y))) n (λws n4=>R (.str x::.str y::ws) n4) h;rw[G9,N9];have e:cutP [PV.str L7,PV.str x,PV.str y] (some 1) none=[.str x,.str y]:=rfl;generalize es.map evP=E at *;unfold AR;walk_at "pu";rw[e];exact⟨by simp,ih⟩
theorem Jb (hl:es.length<=1000)(h:R (.lst ((es.flatMap evB).map PV.str)) n):Cf [shP es] n R:=by
 refine⟨rfl,?_⟩;unfold MK shP;have go:=λR' h'=>Ja es none none n R' h';generalize hE:es.map evP=E at *;have El:E.length=es.length:=by rw[<- hE,B6]
 walk_at "pu"
 grind
def evL (st:List Str):Ev->Int
 |.d _=>0
 |.t x y=>((btwU st x y).length:Int)
theorem Nr {st:List Str}{n:Nat}(hs:st.length<=100):∀(ts:List Ev) (R:List Int->Nat->Prop),(∀e∈ts,∃x y,e=.t x y/\x∈st/\y∈st)->R (ts.map (evL st)) n->AT (qUn wLen (C0 k8 (A3 (qV 1) (A3 (qV 0) qNil)))) (rowP st) (ts.map evP) n R
 |[],R,_,h=>h
 | e :: ts, R, ht, h => by
  obtain⟨x,y,rfl,hx,hy⟩:=ht e C8;have ih:=Nr hs (n:=n) ts (λks n2=>R (evL st (.t x y)::ks) n2) (λe he=>ht e (C5 _ he)) h;have mb:∀{R:PV->Nat->Prop},R (rowP (btwU st x y)) n->k8 [rowP st,evP (.t x y)] n R:=λq=>FX hs hx hy q;rw[G9];generalize ts.map evP=E at *;generalize hW:rowP st=W at *;generalize hT:evP (.t x y)=T at *;unfold AT;walk_at "pu";refine mb ?_
  try dsimp only
  refine⟨_,rfl,?_⟩;have e:(((btwU st x y).map PV.str).length:Int)=evL st (.t x y):=by rw[B6];rfl
  rw[e];exact ih
theorem TW {ts:List Ev}{f:Ev->Int}{ys:List PV}(h:SrtK (ts.map f) (ts.map evP) ys):∃ts':List Ev,ys=ts'.map evP/\ts'.Perm ts/\ts'.Pairwise λa b=>f a<=f b:=by
 obtain⟨ps,hp,rfl,ho⟩:=h
 have e:(ts.map f).zip (ts.map evP)=ts.map λe=>(f e,evP e):=by
  clear hp
  induction ts with
  |nil=>rfl
  |cons t ts ih=>simp[ih]
 rw[e] at hp;obtain⟨l,pl,rfl⟩:=LC hp ts rfl;refine⟨l,by rw[U6];rfl,pl,?_⟩;rw[n6] at ho;exact ho
def isDr (e:Ev):Bool:=!isTo e
inductive Rs where
 |strange (b:Str)|twice (b:Str)|wrong (x y:Str)|far (x y:Str)|stays (x y z:Str)|cross (x y x' y':Str)
def rsP:Rs->PV
 |.strange b=>.tup [.str (A5 "strange"),.str b]
 |.twice b=>.tup [.str (A5 "twice"),.str b]
 |.wrong x y=>.tup [.str (A5 "wrong"),evP (.t x y)]
 |.far x y=>.tup [.str (A5 "far"),evP (.t x y)]
 |.stays x y z=>.tup [.str (A5 "stays"),evP (.t x y),.str z]
 |.cross x y x' y'=>.tup [.str (A5 "cross"),evP (.t x y),evP (.t x' y')]
theorem DT (w:Rs):∃a l,rsP w=.tup (a::l):=by cases w <;> exact⟨_,_,rfl⟩
abbrev four (x y x' y':Str):Prop:=((met (K7 [x,y,x',y']) [x,y,x',y'].length).length:Int)=4
def Tin (st:List Str)(es:List Ev)(x y:Str):Prop:=Ev.t x y∈es/\x∈st/\y∈st
def isRs (r:Int)(st:List Str)(es:List Ev):Rs->Prop
 |.strange b=>b∈es.flatMap evB/\b∉st
 |.twice b=>2<=(es.filter λe=>decide (b∈evB e)).length
 |.wrong x y=>Tin st es x y/\ixS st x<ixS st y
 |.far x y=>Tin st es x y/\r<((btwU st x y).length:Int)
 |.stays x y z=>Tin st es x y/\z∈btwU st x y/\z∉es.flatMap evB
 |.cross x y x' y'=>Tin st es x y/\Tin st es x' y'/\four x y x' y'/\¬(x'∈btwU st x y↔y'∈btwU st x y)
def cntS (x:Str)(l:List Str):Int:=PySem.Spec.countIn (.str x) (l.map PySem.PyData.str)
theorem v4 (x y:Str)(l:List Str):cntS x (y::l)=(if y=x then 1 else 0)+cntS x l:=by
 show(if PySem.Spec.same (.str y) (.str x) then 1 else 0)+cntS x l=_;have e:PySem.Spec.same (.str y) (.str x)=decide (y=x):=rfl
 grind
theorem Nt (x:Str):∀l:List Str,0<=cntS x l
 |[]=>Int.le_refl _
 | y :: l => by
  rw[v4];have:=Nt x l
  split <;> omega
theorem Nu:∀{l:List Str},x∈l->1<=cntS x l
 | y :: l, h => by
  rw[v4];have:=Nt x l
  by_cases c:y=x
  ·grind
  ·rw[jt c];have:=Nu ((C3.mp h).elim (λz=>absurd z.symm c) id);omega
theorem Nv:∀{l:List Str},(∀b∈l,cntS b l<=1)->l.Nodup
 |[],_=>List.nodup_nil
 | y :: l, h => by
  refine Q9.mpr ⟨λz=>?_,Nv λb hb=>?_⟩
  ·have h1:=h y C8;rw[v4,jr rfl] at h1;have:=Nu z;omega
  ·have h1:=h b (C5 _ hb);rw[v4] at h1
   split at h1 <;> omega
theorem FY (b:Str):∀{es:List Ev},(∀e∈es,Good e)->cntS b (es.flatMap evB)=((es.filter λe=>decide (b∈evB e)).length:Int)
 |[],_=>rfl
 | e :: es, hg => by
  have ih:=FY b (es:=es) λx hx=>hg x (C5 _ hx);have ge:=hg e C8;rw[Y5,Eg];cases e with
  | d x =>
   show cntS b (x::es.flatMap evB)=_;rw[v4,ih]
   by_cases c:x=b
   ·rw[jr c,jr (jp (by simp[evB,c])),E8];omega
   ·rw[jt c,jt (by simp[evB];exact λz=>c z.symm)];omega
  | t x y =>
   have ge:x≠y:=ge.1;show cntS b (x::y::es.flatMap evB)=_;rw[v4,v4,ih]
   by_cases c:x=b
   ·rw[jr c,jt (λz=>ge (c.trans z.symm)),jr (jp (by simp[evB,c])),E8];omega
   ·by_cases c2:y=b
    ·rw[jt c,jr c2,jr (jp (by simp[evB,c2])),E8];omega
    ·rw[jt c,jt c2,jt (by simp[evB];exact⟨λz=>c z.symm,λz=>c2 z.symm⟩)];omega
theorem TX (hg:∀e∈es,Good e)(hl:es.length<=1000)(h:Fair st es->R .non n)(h1:∀w,isRs r st es w->R (rsP w) n):FO [rowP st,shP es] n R:=by
 refine⟨rfl,?_⟩;unfold MM;have hr0:rowP st=.tup (st.map PV.str):=rfl;generalize hS:shP es=S;have nin:∀{z:Str} {R:PV->Prop},R (.bl (!decide (z∈st)))->wIn 4 true (.str z) (.tup (st.map PV.str)) R:=λq=>DG rfl q;rw[hr0];generalize hZ:st.map PV.str=Z at *;walk_at "pu";rw[<- hS];refine Jb hl ?_;rw[hS];have tx:=Dn (es.flatMap evB);generalize hB:(es.flatMap evB).map PV.str=B at *;refine Q3 (λi env m=>∃s3,env=[some (.v (.tup Z)),some (.v S),some (.v (.lst B)),s3]/\m=n/\∀b∈(es.flatMap evB).take i,b∈st/\cntS b (es.flatMap evB)<=1) _ 0 _ _ ⟨none,rfl,rfl,λb hb=>by simp at hb⟩ (λi x env m N ex hI hN=>?_) (λenv m hI=>?_)
 ·obtain⟨s3,rfl,rfl,hb⟩:=hI;rw[<- hB] at ex;obtain⟨z,ez,rfl⟩:=u7 ex;have zm:=K8 ez;rw[J3] at hb hN;walk_at "pu";refine nin ?_
  by_cases c:z∈st
  ·rw[jp c];refine if_f rfl ?_;refine⟨⟨_,rfl⟩,?_⟩;rw[tx];dsimp only
   by_cases c2:1<cntS z (es.flatMap evB)
   ·refine if_t (jp c2) ?_;refine h1 (.twice z) ?_;show 2<=_;rw[FY z hg] at c2;omega
   ·refine if_f (jq c2) (hN _ _ ⟨_,rfl,rfl,λb hb'=>?_⟩);rw[u8 ez] at hb';rcases K9.mp hb' with hb'|hb'
    ·grind
    ·grind
  ·rw[jq c];exact if_t rfl (h1 (.strange z) ⟨zm,c⟩)
 ·obtain⟨s3,rfl,rfl,hb⟩:=hI;rw[J3,<- hB,B6,w9] at hb;have fr:Fair st es:=⟨Nv λb hb'=>(hb b hb').2,λb hb'=>(hb b hb').1⟩;walk_at "pu";exact h fr
theorem TY {r:Int}{st:List Str}{es:List Ev}{x y:Str}{n:Nat}{R:PV->Nat->Prop}(hs:st.length<=100)(fr:Fair st es)(hg:∀e∈es,Good e)(he:Ev.t x y∈es)(hl:es.length<=1000)
   (h:ixS st y<ixS st x->((btwU st x y).length:Int)<=r->(∀z∈btwU st x y,z∈es.flatMap evB)->R .non n) (h1:∀w,isRs r st es w->R (rsP w) n):FP [rowP st,.int r,shP es,evP (.t x y)] n R:=by
 refine⟨rfl,?_⟩;unfold MR;obtain⟨hx,hy⟩:=fr.tx he;have ti:Tin st es x y:=⟨he,hx,hy⟩;have ne:ixS st x≠ixS st y:=λz=>(show x≠y from(hg _ he).1) (DI hx hy z);generalize hS:shP es=S;generalize hW:rowP st=W;generalize hT:evP (.t x y)=T;walk_at "pu";subst hW hT;refine TV hs hx hy ?_
 by_cases c:ixS st x<ixS st y
 ·exact if_t (jp c) (h1 (.wrong x y) ⟨ti,c⟩)
 refine if_f (jq c) ?_;refine m_far hs hx hy ?_
 by_cases c2:r<((btwU st x y).length:Int)
 ·exact if_t (jp c2) (h1 (.far x y) ⟨ti,c2⟩)
 refine if_f (jq c2) ?_;rw[<- hS];refine Jb hl ?_;rw[hS];refine FX hs hx hy ?_;have nin:∀{z:Str} {R:PV->Prop},R (.bl (!decide (z∈es.flatMap evB)))->wIn 4 true (.str z) (.lst ((es.flatMap evB).map PV.str)) R:=λq=>Ik rfl q;generalize hB:(es.flatMap evB).map PV.str=B at *;have st_:∀z∈btwU st x y,z∉es.flatMap evB->R (.tup [.str (A5 "stays"),evP (.t x y),.str z]) n:=λz h2 h3=>h1 (.stays x y z) ⟨ti,h2,h3⟩;generalize hW:rowP st=W;generalize hT:evP (.t x y)=T at *;refine Q3 (λi env m=>∃s5,env=[some (.v W),some (.v (.int r)),some (.v S),some (.v T),some (.v (.lst B)),s5]/\m=n/\∀z∈(btwU st x y).take i,z∈es.flatMap evB) _ 0 _ _ ⟨none,rfl,rfl,λb hb=>by simp at hb⟩ (λi z env m N ex hI hN=>?_) (λenv m hI=>?_)
 ·obtain⟨s5,rfl,rfl,hb⟩:=hI;obtain⟨z,ez,rfl⟩:=u7 ex;rw[J3] at hb hN;walk_at "pu";refine nin ?_
  by_cases c3:z∈es.flatMap evB
  ·rw[jp c3];refine if_f rfl (hN _ _ ⟨_,rfl,rfl,λb hb'=>?_⟩);rw[u8 ez] at hb';rcases K9.mp hb' with hb'|hb'
   ·exact hb b hb'
   ·rw[J6.mp hb'];exact c3
  ·rw[jq c3];exact if_t rfl (st_ z (K8 ez) c3)
 ·obtain⟨s5,rfl,rfl,hb⟩:=hI;rw[J3,B6,w9] at hb;walk_at "pu";exact h (by omega) (by omega) hb
theorem TZ (hs:st.length<=100)(hx:x∈st)(hy:y∈st)(h:(four x y x' y'->(x'∈btwU st x y↔y'∈btwU st x y))->R (.bl false) n)(h1:four x y x' y'->¬(x'∈btwU st x y↔y'∈btwU st x y)->R (.bl true) n):FQ [rowP st,evP (.t x y),evP (.t x' y')] n R:=by
 refine⟨rfl,?_⟩;unfold MS;have mb:∀{R:PV->Nat->Prop},R (.lst [.str x,.str y,.str x',.str y']) n->Cf [.tup [.tup [.str L7,.str x,.str y],.tup [.str L7,.str x',.str y']]] n R:=λq=>Jb (es:=[.t x y,.t x' y']) (by simp) q;have mw:∀{R:PV->Nat->Prop},R (rowP (btwU st x y)) n->k8 [rowP st,.tup [.str L7,.str x,.str y]] n R:=λq=>FX hs hx hy q;generalize hW:rowP st=W at *;rw[N9,N9];walk_at "pu";refine mb ?_;have tx:R8 [.str x,.str y,.str x',.str y']=some [x,y,x',y']:=rfl;dsimp only;rw[tx];dsimp only;refine⟨by simp,?_⟩
 by_cases c:four x y x' y'
 ·refine if_f (by grind) ?_;refine mw ?_;refine Fu rfl ?_;refine Fu rfl ?_;rw[Kx]
  by_cases c2:x'∈btwU st x y↔y'∈btwU st x y
  ·rw[decide_eq_decide.mpr c2];have:=h λ_=>c2;generalize decide (y'∈btwU st x y)=b;cases b <;> exact this
  ·have e:decide (decide (x'∈btwU st x y)=decide (y'∈btwU st x y))=false:=jq λz=>c2 (decide_eq_decide.mp z);rw[e];exact h1 c c2
 grind
theorem T_ (hs:st.length<=100)(fr:Fair st es)(he:Ev.t x y∈es)(h:(∀x' y',Ev.t x' y'∈es->four x y x' y'->(x'∈btwU st x y↔y'∈btwU st x y))->R .non n)(h1:∀w,isRs r st es w->R (rsP w) n):FR [rowP st,evP (.t x y),.lst ((es.filter isTo).map evP)] n R:=by
 refine⟨rfl,?_⟩;unfold MT;obtain⟨hx,hy⟩:=fr.tx he;have mi:∀{x' y':Str} {R:PV->Nat->Prop},((four x y x' y'->(x'∈btwU st x y↔y'∈btwU st x y))->R (.bl false) n)->(four x y x' y'->¬(x'∈btwU st x y↔y'∈btwU st x y)->R (.bl true) n)->FQ [rowP st,evP (.t x y),evP (.t x' y')] n R:=λq q'=>TZ hs hx hy q q';have cr:∀{x' y':Str},Ev.t x' y'∈es->four x y x' y'->¬(x'∈btwU st x y↔y'∈btwU st x y)->R (.tup [.str (A5 "cross"),evP (.t x y),evP (.t x' y')]) n:=λ{x' y'} he' c c2=>h1 (.cross x y x' y') ⟨⟨he,hx,hy⟩,⟨he',(fr.tx he').1,(fr.tx he').2⟩,c,c2⟩;generalize hW:rowP st=W at *;generalize hT:evP (.t x y)=T at *;generalize hL:(es.filter isTo).map evP=L;walk_at "pu";refine Q3 (λi env m=>∃s3,env=[some (.v W),some (.v T),some (.v (.lst L)),s3]/\m=n/\∀x' y',Ev.t x' y'∈(es.filter isTo).take i->four x y x' y'->(x'∈btwU st x y↔y'∈btwU st x y)) _ 0 _ _ ⟨none,rfl,rfl,λx' y' z=>by simp at z⟩ (λi z env m N ex hI hN=>?_) (λenv m hI=>?_)
 ·obtain⟨s3,rfl,rfl,hb⟩:=hI;rw[<- hL] at ex;obtain⟨e,ee,rfl⟩:=u7 ex;rw[J3] at hb hN;obtain⟨em,et⟩:=Q8.mp (K8 ee);cases e with
  |d z=>cases et
  | t x' y' =>
   have cr':=λc c2=>cr em c c2;generalize hU:evP (.t x' y')=U at *;walk_at "pu";rw[<- hU];refine mi (λc=>?_) λc c2=>?_
   ·rw[hU];refine if_f rfl (hN _ _ ⟨_,rfl,rfl,λa b hab=>?_⟩);rw[u8 ee] at hab;rcases K9.mp hab with hab|hab
    ·grind
    ·grind
   ·grind
 ·obtain⟨s3,rfl,rfl,hb⟩:=hI;rw[J3,<- hL,B6,w9] at hb;have:=h λx' y' he'=>hb x' y' (Q8.mpr ⟨he',rfl⟩);walk_at "pu";exact this
theorem fm_one:∀{l:List Ev},(l.flatMap evB).Nodup->∀a∈l,∀b∈l,x∈evB a->x∈evB b->a=b:=by intro a;induction a <;> intros <;> grind
theorem Nw {st:List Str}{es:List Ev}{x y x' y':Str}(nd:st.Nodup)(fr:Fair st es)(hg:∀e∈es,Good e)(he:Ev.t x y∈es)(he':Ev.t x' y'∈es)(h:four x y x' y'->(x'∈btwU st x y↔y'∈btwU st x y)):x'∈btwU st x y↔y'∈btwU st x y:=by
 by_cases c:Ev.t x y=Ev.t x' y'
 ·cases c;obtain⟨hx,hy⟩:=fr.tx he;rw[u9 nd hx hy,u9 nd hx hy];omega
 ·refine h ?_;have n1:x≠y:=(hg _ he).1;have n2:x'≠y':=(hg _ he').1;have nn:∀z,z∈evB (.t x y)->z∉evB (.t x' y'):=λz z1 z2=>c (fm_one fr.nd _ he _ he' z1 z2);have a:=nn x (by simp[evB]);have b:=nn y (by simp[evB]);simp only[evB,C3,P9,or_false,not_or] at a b
  have nd4:[x,y,x',y'].Nodup:=by
   simp only[Q9,C3,P9,or_false,not_or,not_false_eq_true,and_true,List.nodup_nil];exact⟨⟨n1,a.1,a.2⟩,⟨b.1,b.2⟩,n2⟩
  show((met (K7 [x,y,x',y']) [x,y,x',y'].length).length:Int)=4;rw[HL _ nd4 _ (B8 _)]
  rfl
theorem Ua (hs:st.length<=100)(nd:st.Nodup)(hg:∀e∈es,Good e)(hl:es.length<=1000)(h:W8 r st es->R .non n)(h1:∀w,isRs r st es w->R (rsP w) n):FS [rowP st,.int r,shP es] n R:=by
 refine⟨rfl,?_⟩;unfold MU;have mt:∀{x y:Str} {R:PV->Nat->Prop},Fair st es->Ev.t x y∈es->(ixS st y<ixS st x->((btwU st x y).length:Int)<=r->(∀z∈btwU st x y,z∈es.flatMap evB)->R .non n)->(∀w,isRs r st es w->R (rsP w) n)->FP [rowP st,.int r,shP es,evP (.t x y)] n R:=λfr he q q'=>TY hs fr hg he hl q q';have mc:∀{x y:Str} {R:PV->Nat->Prop},Fair st es->Ev.t x y∈es->((∀x' y',Ev.t x' y'∈es->four x y x' y'->(x'∈btwU st x y↔y'∈btwU st x y))->R .non n)->(∀w,isRs r st es w->R (rsP w) n)->FR [rowP st,evP (.t x y),.lst ((es.filter isTo).map evP)] n R:=λfr he q q'=>T_ hs fr he q q';have mb:∀{R:PV->Nat->Prop},(Fair st es->R .non n)->(∀w,isRs r st es w->R (rsP w) n)->FO [rowP st,shP es] n R:=λq q'=>TX hg hl q q';have mo:∀{R:PV->Nat->Prop},R (.lst ((es.filter isTo).map evP)) n->AX [shP es] n R:=λq=>IZ (by omega) q;generalize hW:rowP st=W at *;generalize hS:shP es=S at *;generalize hL:(es.filter isTo).map evP=L at *;walk_at "pu";refine mb (λfr=>?_) λw hw=>?_
 rotate_left
 ·obtain⟨a,l,e⟩:=DT w;have:=h1 w hw;rw[e] at this ⊢
  first|exact this|(walk_at "pu";exact this)
 try dsimp only
 refine mo ?_;refine Q3 (λi env m=>∃s5,env=[some (.v W),some (.v (.int r)),some (.v S),some (.v .non),some (.v (.lst L)),s5]/\m=n/\∀x y,Ev.t x y∈(es.filter isTo).take i->ixS st y<ixS st x/\((btwU st x y).length:Int)<=r/\(∀z∈btwU st x y,z∈es.flatMap evB)/\∀x' y',Ev.t x' y'∈es->four x y x' y'->(x'∈btwU st x y↔y'∈btwU st x y)) _ 0 _ _ ⟨none,rfl,rfl,λx' y' z=>by simp at z⟩ (λi z env m N ex hI hN=>?_) (λenv m hI=>?_)
 ·obtain⟨s3,rfl,rfl,hb⟩:=hI;rw[<- hL] at ex;obtain⟨e,ee,rfl⟩:=u7 ex;rw[J3] at hb hN;obtain⟨em,et⟩:=Q8.mp (K8 ee);cases e with
  |d z=>cases et
  | t x' y' =>
   generalize hU:evP (.t x' y')=U at *;walk_at "pu";rw[<- hU];refine mt fr em (λz1 z2 z3=>?_) λw hw=>?_
   ·walk_at "pu";refine mc fr em (λz4=>?_) λw hw=>?_
    ·rw[hU];refine hN _ _ ⟨_,rfl,rfl,λa b hab=>?_⟩;rw[u8 ee] at hab;rcases K9.mp hab with hab|hab
     ·exact hb a b hab
     ·grind
    ·obtain⟨a,l,e⟩:=DT w;have:=h1 w hw;rw[e] at this ⊢
     first|exact this|(walk_at "pu";exact this)
   ·obtain⟨a,l,e⟩:=DT w;have:=h1 w hw;rw[e] at this ⊢
    first|exact this|(walk_at "pu";exact this)
 ·obtain⟨s3,rfl,rfl,hb⟩:=hI;rw[J3,<- hL,B6,w9] at hb;have hb':∀x y,Ev.t x y∈es->_:=λx y he=>hb x y (Q8.mpr ⟨he,rfl⟩);have:=h ⟨fr,λx y he=>(hb' x y he).1,λx y he=>(hb' x y he).2.1,λx y he=>(hb' x y he).2.2.1,λx y x' y' he he'=>Nw nd fr hg he he' ((hb' x y he).2.2.2 x' y' he')⟩;walk_at "pu";exact this
theorem Ub (hs:st.length<=63)(nd:st.Nodup)(hg:∀e∈es,Good e)(hl:es.length<=63)
   (h:W8 r st es->∀ts:List Ev,ts.Perm (es.filter isTo)->(ts.Pairwise λa b=>evL st a<=evL st b)->R (.tup [.str (A5 "course"),.tup ((es.filter isDr++ts).map evP)]) n)
   (h1:∀w,isRs r st es w->R (.tup [.str (A5 "unsound"),rsP w]) n):IT [rowP st,.int r,shP es] n R:=by
 refine⟨rfl,?_⟩;unfold IS;have mr:∀{R:PV->Nat->Prop},(W8 r st es->R .non n)->(∀w,isRs r st es w->R (rsP w) n)->FS [rowP st,.int r,shP es] n R:=λq q'=>Ua (by omega) nd hg (by omega) q q';have mo:∀{R:PV->Nat->Prop},R (.lst ((es.filter isTo).map evP)) n->AX [shP es] n R:=λq=>IZ (by omega) q
 have tl:((es.filter isTo).map evP).length<64:=by
  rw[B6];have:=Gj isTo es;omega
 have dl:((es.filter isDr).map evP).length<64:=by
  rw[B6];have:=Gj isDr es;omega
 have kk:Fair st es->∀R,R ((es.filter isTo).map (evL st)) n->AT (qUn wLen (C0 k8 (A3 (qV 1) (A3 (qV 0) qNil)))) (rowP st) ((es.filter isTo).map evP) n R:=λfr R q=>Nr (by omega) _ R (λe he=>by
  obtain⟨em,et⟩:=Q8.mp he;cases e with
  |d z=>cases et
  | t x y =>
   obtain⟨hx,hy⟩:=fr.tx em
   exact⟨x,y,rfl,hx,hy⟩) q
 have hS':shP es=.tup (es.map evP):=rfl;have El:(es.map evP).length=es.length:=B6 ..
 have cf:=λR' q=>BZ (tt:=(qB (qOp (wEq 4) (qOp wIx (qV 0) (qC (.int 0))) (qC (.str (A5 "drop")))))) (rest:=[]) evP isDr es none n R' (λe he m Q hQ=>by
  cases e with
  | d x =>
   rw[k7] at *;walk_at "pu";exact hQ
  | t x y =>
   rw[N9] at *;walk_at "pu";rw[Sr]
   exact hQ) q
 generalize hW:rowP st=W at *;generalize hS:shP es=S at *;generalize hL:(es.filter isTo).map evP=L at *;generalize hD:(es.filter isDr).map evP=D at *;generalize hE:es.map evP=E at *;walk_at "pu";refine mr (λso=>?_) λw hw=>?_
 rotate_left
 ·obtain⟨a,l,e⟩:=DT w;have:=h1 w hw;rw[e] at this ⊢
  first|exact this|(walk_at "pu";exact this)
 try dsimp only
 rw[hS']
 try dsimp only
 refine⟨by omega,cf _ ?_⟩;rw[<- hS'];refine mo ?_
 try dsimp only
 refine⟨tl,kk so.fair _ λys hy=>?_⟩;rw[<- hL] at hy;obtain⟨ts,rfl,pt,ot⟩:=TW hy;have:=h so ts pt ot;rw[N1,hD] at this;have tsl:(ts.map evP).length<64:=by rw[B6,pt.length_eq,<- B6 (f:=evP),hL];exact tl
 grind
theorem at_nm {Z:List PV}(hZ:zs.map PV.str=Z){i:Nat}(h:i<zs.length):atI Z (i:Int)=some (.str (nm zs i)):=by
 obtain⟨x,e1,e2⟩:=GX (xs:=Z) (d:=(i:Int)) (by omega) (by grind);rw[e2];rw[O4,<- hZ,G0,Ac h] at e1
 grind
theorem Uc (es:List Ev):DM (es.map evP):=by
 refine⟨λx hx=>?_,λx hx y hy=>?_⟩
 ·obtain⟨e,_,rfl⟩:=J1.mp hx;exact⟨evK e,rfl,ev_ne e⟩
 ·obtain⟨e,_,rfl⟩:=J1.mp hx;obtain⟨f,_,rfl⟩:=J1.mp hy;show Al (keyP (.tup ((evK e).map kP))) (keyP (.tup ((evK f).map kP)));rw[k5,k5];exact ev_al e f
theorem Ud {R:List PV->Prop}{xs:List Ev}(hl:xs.length<=63)(h:∀es':List Ev,(∀e∈es',e∈xs)->SrE es'->es'.length<=xs.length->R (es'.map evP)):(xs.map evP).length<=63/\DM (xs.map evP)/\∀ys,SrtS ys (xs.map evP)->R ys:=by
 refine⟨by rw[B6];exact hl,Uc xs,λys hys=>?_⟩;obtain⟨es',rfl,he⟩:=Il xs ys λy hy=>(hys.2.1 y).mp hy;refine h es' he hys.2.2 ?_;have:=hys.1.length_le_of_subset λy hy=>(hys.2.1 y).mp hy
 grind
theorem Nx (val:Nat->Key)(k:Key):∀i j,j<i->val j=k->(met val i).any (λy=>decide (y=k))=true
 |0,j,h,_=>absurd h (CC j)
 | i + 1, j, h, e => by
  rw[HK,Ei]
  by_cases c:j=i
  ·subst c;exact .inr (jp e.symm)
  ·exact .inl (Nx val k i j (by omega) e)
theorem met_nd {ys:List Str}(h:¬((met (K7 ys) ys.length).length<ys.length)):ys.Nodup:=by
 have st:∀d i,i+d=ys.length->(met (K7 ys) i).length=i:=λd=>by
  induction d with
  |zero=>intro i hi;have:=Du (K7 ys) ys.length;rw[Nat.add_zero] at hi;subst hi;omega
  | succ d ih =>
   intro i hi;have h1:=ih (i+1) (by omega);rw[Fb] at h1;have h2:=Du (K7 ys) i
   by_cases c:((met (K7 ys) i).any λy=>decide (y=K7 ys i))=true
   ·rw[jr c] at h1;omega
   ·rw[jt c] at h1;omega
 refine V6.mpr λi j hi hj hij e=>?_;have h1:=st (ys.length-(j+1)) (j+1) (by omega);have h2:=st (ys.length-j) j (by omega);rw[Fb,jr (Nx _ _ j i hij (by unfold K7;simp[hi,hj,e])),h2] at h1;omega
theorem Ny {st:List Str}{x y:Str}{n:Nat}{R:PV->Nat->Prop}(hs:st.length<=100)(h:x∈st->y∈st->R (.tup [.int (min (ixS st x:Int) (ixS st y:Int)),.int (max (ixS st x:Int) (ixS st y:Int))]) n)(h1:¬(x∈st/\y∈st)->R .non n):Ae [rowP st,evP (.t x y)] n R:=by
 refine⟨rfl,?_⟩;unfold MA;have hr0:rowP st=.tup (st.map PV.str):=rfl;have hix:∀z∈st,∀{R:PV->Prop},R (.int (ixS st z))->k6 (.tup (st.map PV.str)) (.str z) R:=λz hz {R} q=>m_ix rfl hz (by omega) q;generalize hZ:st.map PV.str=Z at *;rw[hr0,N9];walk_at "pu";refine DG hZ ?_
 by_cases cx:x∈st
 ·refine if_f (by rw[jp cx];rfl) (DG hZ ?_)
  by_cases cy:y∈st
  ·refine if_f (by rw[jp cy];rfl) ?_;refine⟨⟨_,rfl⟩,hix x cx ⟨⟨_,rfl⟩,hix y cy ?_⟩⟩;have:=h cx cy;dsimp only;rw[show(if(ixS st y:Int)<(ixS st x:Int) then(ixS st y:Int) else(ixS st x:Int))=min (ixS st x:Int) (ixS st y:Int) by omega,show(if(ixS st y:Int)>(ixS st x:Int) then(ixS st y:Int) else(ixS st x:Int))=max (ixS st x:Int) (ixS st y:Int) by omega];exact this
  ·exact if_t (by rw[jq cy];rfl) (h1 λz=>cy z.2)
 ·exact if_t (by rw[jq cx];rfl) (h1 λz=>cx z.1)
theorem Jc {st:List Str}{x y x' y':Str}{n:Nat}{R:PV->Nat->Prop}(hs:st.length<=100)(nd:st.Nodup)(hx:x∈st)(hy:y∈st)(hx':x'∈st)(hy':y'∈st)(h:∀c:Bool,(c=true↔four x y x' y'/\¬(x'∈btwU st x y↔y'∈btwU st x y))->R (.bl c) n):Af [rowP st,evP (.t x y),evP (.t x' y')] n R:=by
 refine⟨rfl,?_⟩;unfold MB;have mp:∀{x y:Str} {R:PV->Nat->Prop},x∈st->y∈st->R (.tup [.int (min (ixS st x:Int) (ixS st y:Int)),.int (max (ixS st x:Int) (ixS st y:Int))]) n->Ae [rowP st,.tup [.str L7,.str x,.str y]] n R:=λhx hy q=>Ny hs (λ_ _=>q) λz=>absurd ⟨hx,hy⟩ z;generalize hW:rowP st=W at *;rw[N9,N9];walk_at "pu";refine mp hx hy (mp hx' hy' ?_);refine if_f rfl (if_f rfl ?_);rw[show cutP [PV.str L7,PV.str x,PV.str y] (some 1) none=[.str x,.str y] from rfl,show cutP [PV.str L7,PV.str x',PV.str y'] (some 1) none=[.str x',.str y'] from rfl];refine⟨by simp,?_⟩;rw[show R8 ([PV.str x,PV.str y]++[PV.str x',PV.str y'])=some [x,y,x',y'] from rfl];refine⟨by simp,?_⟩;have bx:=u9 (z:=x') nd hx hy;have by_:=u9 (z:=y') nd hx hy;have m4:(met (K7 [x,y,x',y']) [x,y,x',y'].length).length<=4:=Du _ 4
 by_cases c4:((met (K7 [x,y,x',y']) [x,y,x',y'].length).length:Int)<4
 ·refine if_t (jp c4) (h false ⟨nofun,λz=>?_⟩);have:=z.1;omega
 ·refine if_f (jq c4) ?_;have f4:four x y x' y':=by show((met (K7 [x,y,x',y']) [x,y,x',y'].length).length:Int)=4;omega
  have fin:∀c d:Bool,(c=true↔min (ixS st x:Int) (ixS st y)<min (ixS st x':Int) (ixS st y')/\min (ixS st x':Int) (ixS st y')<max (ixS st x:Int) (ixS st y))->(d=true↔min (ixS st x:Int) (ixS st y)<max (ixS st x':Int) (ixS st y')/\max (ixS st x':Int) (ixS st y')<max (ixS st x:Int) (ixS st y))->R (.bl (!decide (c=d))) n:=λc d hc hd=>by
   refine h _ (Iff.trans ?_ (and_iff_right f4).symm);rw[Bool.not_eq_true',decide_eq_false_iff_not,bx,by_,d8,hc,hd];simp only[hx',hy',true_and];rcases Bm (ixS st x') (ixS st y') with z|z
   ·rw[show min (ixS st x':Int) (ixS st y')=ixS st x' by omega,show max (ixS st x':Int) (ixS st y')=ixS st y' by omega];constructor
    ·intro a b;apply a;omega
    ·intro a b;apply a;omega
   ·rw[show min (ixS st x':Int) (ixS st y')=ixS st y' by omega,show max (ixS st x':Int) (ixS st y')=ixS st x' by omega];constructor
    ·intro a b;apply a;omega
    ·intro a b;apply a;omega
  generalize min (ixS st x:Int) (ixS st y:Int)=A at *;generalize max (ixS st x:Int) (ixS st y:Int)=B at *;generalize min (ixS st x':Int) (ixS st y':Int)=C at *;generalize max (ixS st x':Int) (ixS st y':Int)=D at *;clear mp;walk_at "pu"
  by_cases a:A<C
  ·refine if_t (jp a) ?_
   by_cases b:A<D
   ·exact if_t (jp b) (fin _ _ (by simp[a]) (by simp[b]))
   ·exact if_f (jq b) (fin _ false (by simp[a]) (by simp[b]))
  ·refine if_f (jq a) ?_
   by_cases b:A<D
   ·exact if_t (jp b) (fin false _ (by simp[a]) (by simp[b]))
   ·exact if_f (jq b) (fin false false (by simp[a]) (by simp[b]))
theorem D5 (h:∀U:pS,U=q->p { D with nx:=λe m=>U D e m } env n):qSeq p q D env n:=h q rfl
theorem Nz {st:List Str}{x y:Str}(hx:x∈st)(hy:y∈st):(btwU st x y).length=max (ixS st x) (ixS st y)-(min (ixS st x) (ixS st y)+1):=by
 unfold btwU;have:=P6 hx;have:=P6 hy;rw[X5,T5];omega
theorem Ue {r:Int}{st:List Str}{es:List Ev}{w:Rs}{n:Nat}{R:PV->Nat->Prop}(hs:st.length<=100)(nd:st.Nodup)(hg:∀e∈es,Good e)(hl:es.length<=100)(hw:isRs r st es w)(q:R (.bl true) n):FJ [rowP st,.int r,shP es,rsP w] n R:=by
 refine⟨rfl,?_⟩;have mlp:∀{x y:Str} {R:PV->Nat->Prop},x∈st->y∈st->R (.tup [.int (min (ixS st x:Int) (ixS st y:Int)),.int (max (ixS st x:Int) (ixS st y:Int))]) n->Ae [rowP st,.tup [.str L7,.str x,.str y]] n R:=λhx hy q=>Ny hs (λ_ _=>q) λz=>absurd ⟨hx,hy⟩ z;have mlc:∀{x y x' y':Str} {R:PV->Nat->Prop},x∈st->y∈st->x'∈st->y'∈st->four x y x' y'/\¬(x'∈btwU st x y↔y'∈btwU st x y)->R (.bl true) n->Af [rowP st,.tup [.str L7,.str x,.str y],.tup [.str L7,.str x',.str y']] n R:=λh1 h2 h3 h4 h5 q=>Jc hs nd h1 h2 h3 h4 λc hc=>by rw[hc.mpr h5];exact q
 unfold MD;refine D5 λU hU=>?_;have hr0:rowP st=.tup (st.map PV.str):=rfl;have hs0:shP es=.tup (es.map evP):=rfl
 have bl:(es.flatMap evB).length<=200:=by
  have:∀l:List Ev,(l.flatMap evB).length<=2*l.length:=λl=>by
   induction l with
   |nil=>simp
   |cons a l ih=>rw[Y5,E7,E8];have:(evB a).length<=2:=(by cases a <;> simp[evB]);omega
  have:=this es;omega
 generalize hZ:st.map PV.str=Z at *;rw[hr0] at mlp mlc ⊢;rw[hs0];have cl:cmpb 4 (.tup (es.map evP))=true:=FW es 2;walk_at "pu";subst hU;refine D5 λU hU=>?_
 have memE:∀{e:Ev},e∈es->memP (evP e) (es.map evP)=true:=λ{e} he=>by
  unfold memP;rw[List.any_map];exact Bf.mpr ⟨e,he,TR e⟩
 have cE:(es.map evP).all (cmpb 4)=true:=FW es 3
 have go:∀s5:Option Pu.Slot,U { nx:=λ_ m=>R PV.non m,rt:=R } [some (.v (.tup Z)),some (.v (.int r)),some (.v (.tup (es.map evP))),some (.v (rsP w)),some (.ow .lst ((es.flatMap evB).map PV.str)),s5,none,none] n:=λs5=>by
  subst hU;generalize hB:(es.flatMap evB).map PV.str=B at *;generalize hE:es.map evP=E at *;cases w with
  | strange b =>
   have e:rsP (.strange b)=.tup [.str (A5 "strange"),.str b]:=rfl;rw[e];walk_at "pu";refine LI hB ?_;rw[jp hw.1];refine if_t rfl (DG hZ ?_);rw[jq hw.2];exact q
  | twice b =>
   have e:rsP (.twice b)=.tup [.str (A5 "twice"),.str b]:=rfl;rw[e];walk_at "pu";rw[<- hB];refine⟨⟨_,rfl⟩,?_⟩;rw[Dn];dsimp only;have h2:2<=(es.filter λe=>decide (b∈evB e)).length:=hw;have:=FY b hg;unfold cntS at this;rw[jp (by omega)];exact q
  | wrong x y =>
   have e:rsP (.wrong x y)=.tup [.str (A5 "wrong"),.tup [.str L7,.str x,.str y]]:=rfl;rw[e];walk_at "pu";have hm:=memE hw.1.1;rw[N9] at hm;refine⟨rfl,cE,?_⟩;rw[hm];refine if_f rfl (mlp hw.1.2.1 hw.1.2.2 (if_f rfl (mlp hw.1.2.1 hw.1.2.2 ⟨rfl,?_⟩)));have lt:=hw.2;rw[show min (ixS st x:Int) (ixS st y:Int)=((ixS st x:Nat):Int) by omega];dsimp only;rw[<- hZ,AE (by rw[G0,(Z6 hw.1.2.1).1];rfl)];refine Ha rfl ?_;rw[BR _ rfl];exact q
  | far x y =>
   have e:rsP (.far x y)=.tup [.str (A5 "far"),.tup [.str L7,.str x,.str y]]:=rfl;rw[e];have hm:=memE hw.1.1;rw[N9] at hm;walk_at "pu";refine⟨rfl,cE,?_⟩;rw[hm];refine if_f rfl (mlp hw.1.2.1 hw.1.2.2 (if_f rfl (mlp hw.1.2.1 hw.1.2.2 ⟨rfl,?_⟩)));have lt:=hw.2;rw[Nz hw.1.2.1 hw.1.2.2] at lt;have lx:=P6 hw.1.2.1;have ly:=P6 hw.1.2.2;have ne:ixS st x≠ixS st y:=λz=>(hg _ hw.1.1).1 (DI hw.1.2.1 hw.1.2.2 z);dsimp only;rw[jp (by omega)];exact q
  | stays x y z =>
   have e:rsP (.stays x y z)=.tup [.str (A5 "stays"),.tup [.str L7,.str x,.str y],.str z]:=rfl;rw[e];have hm:=memE hw.1.1;rw[N9] at hm;walk_at "pu";refine⟨rfl,cE,?_⟩;rw[hm];refine if_f rfl (mlp hw.1.2.1 hw.1.2.2 (if_f rfl (mlp hw.1.2.1 hw.1.2.2 ⟨rfl,?_⟩)));refine if_f (by decide +kernel) (if_f (by decide +kernel) (if_t (by decide) ?_));have lx:=P6 hw.1.2.1;have ly:=P6 hw.1.2.2
   have ec:cutP Z (some (min (ixS st x:Int) (ixS st y:Int)+1)) (some (max (ixS st x:Int) (ixS st y:Int)))=(btwU st x y).map PV.str:=by
    rw[show min (ixS st x:Int) (ixS st y:Int)+1=((min (ixS st x) (ixS st y)+1:Nat):Int) by omega,show max (ixS st x:Int) (ixS st y:Int)=((max (ixS st x) (ixS st y):Nat):Int) by omega,<- hZ,Ca _ (by rw[B6];omega),<- List.map_take,<- List.map_drop]
    rfl
   dsimp only;rw[ec];refine Fu rfl ?_;rw[jp hw.2.1];refine if_t rfl (Ik hB ?_);rw[jq hw.2.2];exact q
  | cross x y x' y' =>
   have e:rsP (.cross x y x' y')=.tup [.str (A5 "cross"),.tup [.str L7,.str x,.str y],.tup [.str L7,.str x',.str y']]:=rfl;rw[e];have hm:=memE hw.1.1;have hm':=memE hw.2.1.1;rw[N9] at hm hm';walk_at "pu";refine⟨rfl,cE,?_⟩;rw[hm];refine if_f rfl (mlp hw.1.2.1 hw.1.2.2 (if_f rfl (mlp hw.1.2.1 hw.1.2.2 ⟨rfl,?_⟩)));refine if_f (by decide +kernel) (if_f (by decide +kernel) (if_f (by decide) ⟨rfl,cE,?_⟩));rw[hm'];exact if_f rfl (mlc hw.1.2.1 hw.1.2.2 hw.2.1.2.1 hw.2.1.2.2 hw.2.2 q)
 walk_at "pd";refine Q3 (λi env m=>∃s5,env=[some (.v (.tup Z)),some (.v (.int r)),some (.v (.tup (es.map evP))),some (.v (rsP w)),some (.ow .lst (((es.take i).flatMap evB).map PV.str)),s5,none,none]/\m=n) _ 0 _ _ ⟨none,rfl,rfl⟩ (λi x env m N ex hI hN=>?_) (λenv m hI=>?_)
 ·obtain⟨s5,rfl,rfl⟩:=hI;obtain⟨e,ee,rfl⟩:=u7 ex;rw[J3] at hN ⊢
  have tl:((es.take i).flatMap evB).length<=200:=by
   have h1:(es.take i++es.drop i).flatMap evB=es.flatMap evB:=by rw[Co]
   rw[Cu] at h1;have h2:=congrArg List.length h1;rw[E7] at h2;omega
  rw[show((es.take (i+1)).flatMap evB).map PV.str=((es.take i).flatMap evB).map PV.str++(evB e).map PV.str by rw[u8 ee,Cu,N1];simp] at hN;have tl':(((es.take i).flatMap evB).map PV.str).length<=200:=by rw[B6];exact tl
  obtain⟨ws,hws⟩:∃ws,evP e=.tup ws:=⟨_,rfl⟩;have ec:=Nq e hws;have el:((evB e).map PV.str).length<=2:=by rw[B6];cases e <;> simp[evB]
  rw[hws];generalize ((es.take i).flatMap evB).map PV.str=AC at *;generalize rsP w=P at *;generalize es.map evP=E at *;walk_at "pu";rw[ec];refine⟨⟨_,rfl⟩,by omega,hN _ _ ⟨_,rfl,rfl⟩⟩
 ·obtain⟨s5,rfl,rfl⟩:=hI;rw[J3,B6,w9];exact go s5
theorem btw_eq (h:ixS st y<ixS st x):btw st x y=btwU st x y:=by grind [btw,btwU,ixS]
theorem Jd {st:List Str}{x y:Str}{Z:List PV}(hs:st.length<=100)(nd:st.Nodup)(hZ:st.map PV.str=Z)(hx:x∈st)(hy:y∈st){n:Nat}:∀(l:List Ev) (s0:Option Pu.Slot) (R:List PV->Nat->Prop),(∀e∈l,∀b∈evB e,b∈st)->(∀bs:List Bool,(bs.any id=true↔∃x' y',Ev.t x' y'∈l/\Ev.t x' y'≠.t x y/\four x y x' y'/\¬(x'∈btwU st x y↔y'∈btwU st x y))->R (bs.map PV.bl) n)->
   W5 (gN 0) (qAnd (qB (qOp (wEq 4) (qOp wIx (qV 0) (qC (.int 0))) (qC (.str (A5 "touch"))))) (qB (qOp (wNe 4) (qV 0) (qV 2)))) (C0 Af (A3 (qV 1) (A3 (qV 2) (A3 (qV 0) qNil)))) (l.map evP) [s0,some (.v (.tup Z)),some (.v (.tup [.str L7,.str x,.str y]))] n R
 |[],s0,R,_,h=>h [] ⟨nofun,λ⟨_,_,z,_⟩=>nomatch z⟩
 | .d z :: l, s0, R, hl, h => by
  have ih:=Jd hs nd hZ hx hy (n:=n) l;show W5 _ _ _ (.tup [.str DROP,.str z]::l.map evP) _ n R;generalize l.map evP=L at *;unfold W5;walk_at "pu";rw[Cb];refine if_f rfl (ih _ _ (λe he=>hl e (C5 _ he)) λbs hb=>h bs (hb.trans ?_));simp
 | .t x' y' :: l, s0, R, hl, h => by
  have ih:=Jd hs nd hZ hx hy (n:=n) l;have hl':=λe he=>hl e (C5 (Ev.t x' y') he);have hm:=hl (.t x' y') C8;have hx':=hm x' (by simp[evB]);have hy':=hm y' (by simp[evB]);have mlc:∀{R:PV->Nat->Prop},(∀c:Bool,(c=true↔four x y x' y'/\¬(x'∈btwU st x y↔y'∈btwU st x y))->R (.bl c) n)->Af [.tup Z,.tup [.str L7,.str x,.str y],.tup [.str L7,.str x',.str y']] n R:=λq=>by rw[<- hZ];exact Jc hs nd hx hy hx' hy' q
  show W5 _ _ _ (.tup [.str L7,.str x',.str y']::l.map evP) _ n R;generalize l.map evP=L at *;unfold W5;walk_at "pu"
  by_cases c:Ev.t x' y'=.t x y
  ·cases c;refine if_f (by simp) (ih _ _ hl' λbs hb=>h bs (hb.trans ?_));constructor
   ·rintro⟨a,b,h1,h2⟩;exact⟨a,b,C5 _ h1,h2⟩
   ·rintro⟨a,b,h1,h2⟩;rcases C3.mp h1 with z|z
    ·exact absurd z h2.1
    ·exact⟨a,b,z,h2⟩
  ·refine if_t ?_ (mlc λb hb=>ih _ _ hl' λbs hbs=>h (b::bs) ?_)
   ·simp only[Bool.not_eq_true',Bool.and_eq_false_iff,Bool.and_true,decide_eq_false_iff_not]
    by_cases e:x'=x
    ·exact .inr (.inr λe'=>c (by rw[e,e']))
    ·exact .inr (.inl e)
   ·rw[List.any_cons,Ei,hbs];show(b=true\/_)↔_;rw[hb];constructor
    ·rintro(z|⟨a,b,h1,h2⟩)
     ·exact⟨x',y',C8,c,z⟩
     ·exact⟨a,b,C5 _ h1,h2⟩
    ·rintro⟨a,b,h1,h2⟩;rcases C3.mp h1 with z|z
     ·cases z;exact .inl h2.2
     ·exact .inr ⟨a,b,z,h2⟩
theorem Uf {r:Int}{st:List Str}{es:List Ev}{n:Nat}{R:PV->Nat->Prop}(hs:st.length<=100)(nd:st.Nodup)(hg:∀e∈es,Good e)(hl:es.length<=100)(q:∀c:Bool,(c=true↔W8 r st es)->R (.bl c) n):FI [rowP st,.int r,shP es] n R:=by
 refine⟨rfl,?_⟩;have mlc:∀{x y x' y':Str} {n:Nat} {R:PV->Nat->Prop},x∈st->y∈st->x'∈st->y'∈st->(∀c:Bool,(c=true↔four x y x' y'/\¬(x'∈btwU st x y↔y'∈btwU st x y))->R (.bl c) n)->Af [rowP st,.tup [.str L7,.str x,.str y],.tup [.str L7,.str x',.str y']] n R:=λh1 h2 h3 h4 q=>Jc hs nd h1 h2 h3 h4 q;unfold MC;refine D5 λU hU=>?_;have hr0:rowP st=.tup (st.map PV.str):=rfl;have hs0:shP es=.tup (es.map evP):=rfl
 have bl:(es.flatMap evB).length<=200:=by
  have:∀l:List Ev,(l.flatMap evB).length<=2*l.length:=λl=>by
   induction l with
   |nil=>simp
   |cons a l ih=>rw[Y5,E7,E8];have:(evB a).length<=2:=(by cases a <;> simp[evB]);omega
  have:=this es;omega
 have hix:∀z∈st,∀{R:PV->Prop},R (.int (ixS st z))->k6 (.tup (st.map PV.str)) (.str z) R:=λz hz {R} q=>m_ix rfl hz (by omega) q;generalize hZ:st.map PV.str=Z at *;rw[hr0] at mlc ⊢;rw[hs0];walk_at "pu";subst hU;refine D5 λU hU=>?_
 have go:∀s4:Option Pu.Slot,U { nx:=fun _ m=>R PV.non m,rt:=R } [some (.v (.tup Z)),some (.v (.int r)),some (.v (.tup (es.map evP))),some (.ow .lst ((es.flatMap evB).map PV.str)),s4,none,none] n:=fun s4=>by
  subst hU;refine D5 λU hU=>?_;have tx:R8 ((es.flatMap evB).map PV.str)=some (es.flatMap evB):=Dn _;have Bl:((es.flatMap evB).map PV.str).length=(es.flatMap evB).length:=B6 ..;generalize hB:(es.flatMap evB).map PV.str=B at *;generalize hE:es.map evP=E at *;walk_at "pu";rw[tx];refine⟨by omega,?_⟩;rw[Bl]
  by_cases c1:(met (K7 (es.flatMap evB)) (es.flatMap evB).length).length<(es.flatMap evB).length
  ·refine if_t (jp (by omega)) (q false ⟨nofun,λso=>?_⟩);have:=HL _ so.fair.nd _ (B8 _);omega
  refine if_f (jq (by omega)) ⟨by omega,?_⟩;have ndB:=met_nd c1;rw[<- hB];refine HP PV.str (λb=>.bl (decide (b∈st))) (es.flatMap evB) _ _ _ (λb hb m Q hQ=>by walk_at "pu";exact Fu hZ hQ) ?_;rw[hB,No];dsimp only;rw[Np]
  by_cases c2:((es.flatMap evB).all λb=>decide (b∈st))=true
  ·refine if_f (by rw[c2];rfl) ?_;have fr:Fair st es:=⟨ndB,λb hb=>ju (N0.mp c2 b hb)⟩;have hbe:∀e∈es,∀b∈evB e,b∈st:=λe he b hb'=>fr.sub b (Bg.mpr ⟨e,he,hb'⟩);subst hU;refine D5 λU hU=>?_;walk_at "pd";refine Q3 (λi env m=>∃s4 s5 s6,env=[some (.v (.tup Z)),some (.v (.int r)),some (.v (.tup E)),some (.v (.lst B)),s4,s5,s6]/\(∀x y,Ev.t x y∈es.take i->ixS st y<ixS st x/\((btwU st x y).length:Int)<=r/\(∀z∈btwU st x y,z∈es.flatMap evB)/\∀x' y',Ev.t x' y'∈es->(x'∈btwU st x y↔y'∈btwU st x y))/\m=n) _ 0 _ _ ⟨s4,none,none,rfl,λx y h=>by simp at h,rfl⟩ (λi x env m N ex hI hN=>?_) (λenv m hI=>?_)
   ·obtain⟨s4,s5,s6,rfl,hI,rfl⟩:=hI;rw[<- hE] at ex;obtain⟨e,ee,rfl⟩:=u7 ex;rw[J3] at hN hI;rw[u8 ee] at hN;have he:=K8 ee;have old:∀{s4 s5 s6:Option Pu.Slot},(∀x y,Ev.t x y=e->ixS st y<ixS st x/\((btwU st x y).length:Int)<=r/\(∀z∈btwU st x y,z∈es.flatMap evB)/\∀x' y',Ev.t x' y'∈es->(x'∈btwU st x y↔y'∈btwU st x y))->N [some (.v (.tup Z)),some (.v (.int r)),some (.v (.tup E)),some (.v (.lst B)),s4,s5,s6] m:=λ{s4 s5 s6} h=>hN _ _ ⟨s4,s5,s6,rfl,λx y hm=>(K9.mp hm).elim (hI x y) λz=>h x y (J6.mp z),rfl⟩;cases e with
    | d x =>
     rw[k7];walk_at "pu";rw[Cb];exact if_f rfl (old nofun)
    | t x y =>
     have hx:=hbe _ he x (by simp[evB]);have hy:=hbe _ he y (by simp[evB]);have lx:=P6 hx;have ly:=P6 hy;have ne:ixS st x≠ixS st y:=λz=>(hg _ he).1 (DI hx hy z);have bL:=Nz hx hy;have cc:=λ(s0:Option Pu.Slot) (R:List PV->Nat->Prop)=>Jd hs nd hZ hx hy (n:=m) es s0 R hbe;rw[hE] at cc;have old:=λ{s4 s5 s6:Option Pu.Slot} h1 h2 h3 h4=>old (s4:=s4) (s5:=s5) (s6:=s6) λa b e=>by cases e;exact⟨h1,h2,h3,h4⟩
     rw[N9];walk_at "pu";refine⟨⟨_,rfl⟩,hix y hy ⟨⟨_,rfl⟩,hix x hx ?_⟩⟩;have no:¬W8 r st es->R (.bl false) m:=λh=>q false ⟨nofun,λz=>absurd z h⟩
     by_cases d1:ixS st y<ixS st x
     ·refine if_f (jq (by omega)) ?_
      by_cases d2:r<(ixS st x:Int)-(ixS st y:Int)-1
      ·refine if_t (jp d2) (no λso=>?_);have:=so.near x y he;omega
      ·refine if_f (jq d2) ?_;have ec:=TQ (y:=y) hx;rw[hZ,btw_eq d1] at ec;dsimp only;rw[ec];refine⟨by rw[B6];omega,?_⟩;refine HP PV.str (λb=>.bl (decide (b∈es.flatMap evB))) (btwU st x y) _ _ _ (λb hb m Q hQ=>by walk_at "pu";exact LI hB hQ) ?_;rw[No];dsimp only;rw[Np]
       by_cases d3:((btwU st x y).all λb=>decide (b∈es.flatMap evB))=true
       ·refine if_f (by rw[d3];rfl) ⟨by rw[<- hE,B6];omega,?_⟩;refine cc _ _ λbs hbs=>?_;rw[Hg];dsimp only
        by_cases d4:bs.any id=true
        ·refine if_t d4 (no λso=>?_);obtain⟨x',y',h1,_,_,h2⟩:=hbs.mp d4;exact h2 (so.plain x y x' y' he h1)
        ·refine if_f (by simpa using d4) (old d1 (by omega) (λz hz=>ju (N0.mp d3 z hz)) λx' y' h'=>?_)
         by_cases c:Ev.t x' y'=.t x y
         ·cases c;have i1:¬x∈btwU st x y:=λz=>by have:=((u9 nd hx hy).mp z).2;omega
          have i2:¬y∈btwU st x y:=λz=>by have:=((u9 nd hx hy).mp z).2;omega
          exact⟨λz=>absurd z i1,λz=>absurd z i2⟩
         ·refine Nw nd fr hg he h' λf4=>?_;refine Au λz=>d4 (hbs.mpr ⟨x',y',h',c,f4,z⟩)
       ·refine if_t (by simpa using d3) (no λso=>d3 (N0.mpr λz hz=>jp (so.full x y he z hz)))
     ·refine if_t (jp (by omega)) (no λso=>d1 (so.ahead x y he))
   ·obtain⟨s4,s5,s6,rfl,hI,rfl⟩:=hI;rw[J3,<- hE,B6,w9] at hI;subst hU;exact q true ⟨λ_=>⟨fr,λx y h=>(hI x y h).1,λx y h=>(hI x y h).2.1,λx y h=>(hI x y h).2.2.1,λx y x' y' h h'=>(hI x y h).2.2.2 x' y' h'⟩,λ_=>rfl⟩
  ·refine if_t (by simpa using c2) (q false ⟨nofun,λso=>?_⟩);exact absurd (N0.mpr λb hb=>jp (so.fair.sub b hb)) c2
 walk_at "pd";refine Q3 (λi env m=>∃s4,env=[some (.v (.tup Z)),some (.v (.int r)),some (.v (.tup (es.map evP))),some (.ow .lst (((es.take i).flatMap evB).map PV.str)),s4,none,none]/\m=n) _ 0 _ _ ⟨none,rfl,rfl⟩ (λi x env m N ex hI hN=>?_) (λenv m hI=>?_)
 ·obtain⟨s4,rfl,rfl⟩:=hI;obtain⟨e,ee,rfl⟩:=u7 ex;rw[J3] at hN ⊢
  have tl:((es.take i).flatMap evB).length<=200:=by
   have h1:(es.take i++es.drop i).flatMap evB=es.flatMap evB:=by rw[Co]
   rw[Cu] at h1;have h2:=congrArg List.length h1;rw[E7] at h2;omega
  rw[show((es.take (i+1)).flatMap evB).map PV.str=((es.take i).flatMap evB).map PV.str++(evB e).map PV.str by rw[u8 ee,Cu,N1];simp] at hN;have tl':(((es.take i).flatMap evB).map PV.str).length<=200:=by rw[B6];exact tl
  obtain⟨ws,hws⟩:∃ws,evP e=.tup ws:=⟨_,rfl⟩;have ec:=Nq e hws;have el:((evB e).map PV.str).length<=2:=by rw[B6];cases e <;> simp[evB]
  rw[hws];generalize ((es.take i).flatMap evB).map PV.str=AC at *;generalize es.map evP=E at *;walk_at "pu";rw[ec];refine⟨⟨_,rfl⟩,by omega,hN _ _ ⟨_,rfl,rfl⟩⟩
 ·obtain⟨s4,rfl,rfl⟩:=hI;rw[J3,B6,w9];exact go s4
theorem NA:∀{l:List Str},l.Nodup->cntS b l<=1
 |[],_=>by show(0:Int)<=1;decide
 | y :: l, nd => by
  obtain⟨n1,n2⟩:=Q9.mp nd;have ih:=NA (b:=b) n2;rw[v4]
  by_cases c:y=b
  ·subst c;rw[jr rfl]
   by_cases z:cntS y l=0
   ·omega
   ·exfalso
    have:∀l:List Str,y∉l->cntS y l=0:=λl=>by
     induction l with
     |nil=>intro _;rfl
     | cons a l ih =>
      intro h;rw[v4,jt (λe=>h (by grind)),ih λz=>h (C5 _ z)]
      rfl
    exact z (this l n1)
  ·grind
theorem rs_not (hg:∀e∈es,Good e)(h:isRs r st es w):¬W8 r st es:=λso=>by
 cases w with
 |strange b=>exact h.2 (so.fair.sub b h.1)
 | twice b =>
  have h2:2<=(es.filter λe=>decide (b∈evB e)).length:=h;have:=NA (b:=b) so.fair.nd;rw[FY b hg] at this;omega
 |wrong x y=>have:=so.ahead x y h.1.1;have:=h.2;omega
 |far x y=>have:=so.near x y h.1.1;have:=h.2;omega
 |stays x y z=>exact h.2.2 (so.full x y h.1.1 z h.2.1)
 |cross x y x' y'=>exact h.2.2.2 (so.plain x y x' y' h.1.1 h.2.1.1)
theorem Ug {R:PV->Nat->Prop}(h1:1<=s)(hn:1<=n)(h8:s<=8)(h:R (.int (((n+s-1)/s:Nat):Int)) m):FN [.tup [.int (s:Int),.int r],.int (n:Int)] m R:=by
 refine⟨rfl,?_⟩;unfold MJ;walk_at "pu";refine⟨⟨by omega,by omega⟩,?_⟩
 have e:((n:Int)+s-1)/s=(((n+s-1)/s:Nat):Int):=by
  rw[show(n:Int)+s-1=((n+s-1:Nat):Int) by omega]
  rfl
 rw[e];exact h
theorem Uh:decide (A5 "course"=A5 "unsound")=false:=by decide +kernel
def rowA (s n mx:Nat)(row:List Str)(ess:List (List Ev)):Nat->List Str
 |0=>row
 |i+1=>putN s n (mx-1-i) (rowA s n mx row ess i) (rbh (E1 s n (mx-1-i) (rowA s n mx row ess i)) (ess.getD (mx-1-i) []))
def Sd (r:Int)(s n mx:Nat)(row:List Str)(ess:List (List Ev))(i:Nat):Prop:=W8 r (E1 s n (mx-1-i) (rowA s n mx row ess i)) (ess.getD (mx-1-i) [])
theorem FZ {r:Int}{s n mx:Nat}{row:List Str}{ess:List (List Ev)}(h1:1<=s)(hn:1<=n)(hmx:mx=(n+s-1)/s)(hr:RowS row)(hl:row.length=n):∀i,i<=mx->(∀j,j<i->Sd r s n mx row ess j)->RowS (rowA s n mx row ess i)/\(rowA s n mx row ess i).length=n
 |0,_,_=>⟨hr,hl⟩
 | i + 1, hi, h => by
  have ih:=FZ (r:=r) h1 hn hmx hr hl i (by omega) λj hj=>h j (by omega);have f:=(h i (by omega)).fair;have kh:=Fy (s:=s) (n:=n) (Fw h1 hn (show mx-1-i<(n+s-1)/s by omega));refine⟨ih.1.perm (LN (by omega) (LL f.sub)),LM ih.2 hn kh ?_⟩;rw[<- Ir f];exact DJ _ _
theorem m_dayG {s n m r:Nat}{row:List Str}{ess:List (List Ev)}{R:PV->Nat->Prop}(hg:∀es∈ess,(∀e∈es,Good e)/\es.length<=60)(h1:1<=s)(h8:s<=8)(hn:1<=n)(h24:n<=24)(hr:RowS row)(hl:row.length=n)(he:ess.length<=100)
   (h0:ess.length≠(n+s-1)/s->R (.tup [.str (A5 "unsound"),.non,.tup [.str (A5 "races"),.int (((n+s-1)/s:Nat):Int)]]) m)
   (hR:ess.length=(n+s-1)/s->(∀i,i<(n+s-1)/s->Sd r s n ((n+s-1)/s) row ess i)->R (.tup [.str (A5 "row"),rowP (rowA s n ((n+s-1)/s) row ess ((n+s-1)/s))]) m)
   (hU:ess.length=(n+s-1)/s->∀i,i<(n+s-1)/s->(∀j,j<i->Sd r s n ((n+s-1)/s) row ess j)->∀w,isRs r (E1 s n ((n+s-1)/s-1-i) (rowA s n ((n+s-1)/s) row ess i)) (ess.getD ((n+s-1)/s-1-i) []) w->R (.tup [.str (A5 "unsound"),.int (((n+s-1)/s-1-i:Nat):Int),rsP w]) m) :
   FV [.tup [.int (s:Int),.int (r:Int)],rowP row,dayP ess] m R:=by
 refine⟨rfl,?_⟩;unfold Na;have mle:=Fx (s:=s) (n:=n) h1 hn;have mr:∀{R:PV->Nat->Prop},R (.int (((n+s-1)/s:Nat):Int)) m->FN [.tup [.int (s:Int),.int (r:Int)],.int (n:Int)] m R:=λq=>Ug h1 hn h8 q;generalize hmx:(n+s-1)/s=mx at *;have dl:(ess.map shP).length=ess.length:=by rw[B6]
 have ai:∀{k:Nat},k<ess.length->atI (ess.map shP) (k:Int)=some (shP (ess.getD k [])):=λ{k} hk=>AE (by rw[G0,D4 hk,T3,D4 hk];rfl);have gm:∀{k:Nat},k<ess.length->(∀e∈ess.getD k [],Good e)/\(ess.getD k []).length<=60:=λ{k} hk=>hg _ (by rw[T3,D4 hk];exact U5 hk);unfold dayP;have rl:(row.map PV.str).length=n:=by rw[B6];exact hl
 generalize hE:ess.map shP=E at *;generalize hW:rowP row=W;have hW':W=.tup (row.map PV.str):=by rw[<- hW]
 walk_at "pu";rw[hW'];simp only[wLen,rl];refine mr ?_;rw[dl]
 by_cases cl:ess.length=mx
 ·rw[jt (by rw[Hw,jp (by omega)];decide)];have hR:=hR cl;have hU:=hU cl;dsimp only;refine⟨⟨by omega,by omega⟩,?_⟩;rw[O4,<- hW'];refine Q3 (λi env m'=>∃s5 s6 s7,env=[some (.v (.tup [.int (s:Int),.int (r:Int)])),some (.v W),some (.v (.tup E)),some (.v (.int (mx:Int))),some (.v (rowP (rowA s n mx row ess i))),s5,s6,s7]/\(∀j,j<i->Sd r s n mx row ess j)/\m'=m) _ 0 _ _ ⟨none,none,none,by rw[<- hW];rfl,nofun,rfl⟩ (λi x env m' N ex hI hN=>?_) (λenv m' hI=>?_)
  ·obtain⟨s5,s6,s7,rfl,di,rfl⟩:=hI;obtain⟨hi,rfl⟩:=Iu ex;rw[J3] at di hN ⊢;obtain⟨rS,rL⟩:=FZ h1 hn hmx.symm hr hl i (by omega) di;have ek:(mx:Int)-1-i=((mx-1-i:Nat):Int):=by omega
   rw[ek];have hUi:=hU i hi di;have dn:rowA s n mx row ess (i+1)=putN s n (mx-1-i) (rowA s n mx row ess i) (rbh (E1 s n (mx-1-i) (rowA s n mx row ess i)) (ess.getD (mx-1-i) [])):=rfl;rw[dn] at hN;have k24:mx-1-i<=1000:=by omega
   have ai':=ai (k:=mx-1-i) (by omega);have gm':=gm (k:=mx-1-i) (by omega)
   have nx:Sd r s n mx row ess i->∀j,j<i+1->Sd r s n mx row ess j:=λh j hj=>by
    by_cases c:j=i
    ·rw[c];exact h
    ·exact di j (by omega)
   unfold Sd at nx;have stS:RowS (E1 s n (mx-1-i) (rowA s n mx row ess i)):=Fv rS
   have stL:(E1 s n (mx-1-i) (rowA s n mx row ess i)).length<=24:=by
    rw[DK rL hn];have:=Cg (s:=s) (k:=mx-1-i) hn;omega
   generalize hr2:rowA s n mx row ess i=r2 at *;generalize hes:ess.getD (mx-1-i) []=es at *;generalize mx-1-i=k at *;generalize hV:rowP r2=V;walk_at "pu";rw[<- hV];refine Nn h8 hn rL k24 ?_
   try dsimp only
   rw[ai'];dsimp only;refine Ub (by omega) stS.1 gm'.1 (by omega) (λso ts pt ot=>?_) λw hw=>?_
   ·generalize (es.filter isDr++ts).map evP=TE;generalize hQ:shP es=Q;walk_at "pu";refine if_f Uh ?_
    try dsimp only
    rw[<- hQ];refine TN h8 hn (by omega) rL k24 (by omega) so.fair.sub ?_;exact hN _ _ ⟨_,_,_,rfl,nx so,rfl⟩
   ·have:=hUi w hw;generalize rsP w=P at *;walk_at "pu";exact this
  ·obtain⟨s5,s6,s7,rfl,di,rfl⟩:=hI;rw[J3,Iv] at di ⊢;have:=hR di;generalize rowP (rowA s n mx row ess mx)=V at *;walk_at "pu";exact this
 ·rw[jr (by rw[Hw,jq (by omega)];rfl)];exact h0 cl
theorem Ui {zs:List Str}(h:RowS zs)(hl:zs.length<=24):Show 2 4300 (.tup [.str (A5 "row"),rowP zs]):=by
 refine(Show.tup (d:=1) (c:=2100) (l:=2) (λx hx=>?_) (by simp)).le (B8 _) (by decide);simp only[C3,P9,or_false] at hx;rcases hx with rfl|rfl
 ·exact(Cc _ (by decide +kernel) (by decide +kernel)).le (by decide) (by decide)
 ·exact LO h.2 hl
theorem Uj:Show 0 82 .non:=⟨trivial,B8 _,by decide⟩
theorem Uk {k:Nat}(h:k<1000):Show 1 171 (.tup [.str (A5 "unsound"),.int (k:Int)]):=by
 refine(Show.tup (d:=0) (c:=82) (l:=2) (λx hx=>?_) (by simp)).le (B8 _) (by decide);simp only[C3,P9,or_false] at hx;rcases hx with rfl|rfl
 ·exact Cc _ (by decide +kernel) (by decide +kernel)
 ·exact(IA (by omega)).le (by decide) (by decide)
theorem Ul {k:Nat}(h:k<1000):Show 2 600 (.tup [.str (A5 "unsound"),.non,.tup [.str (A5 "races"),.int (k:Int)]]):=by
 refine(Show.tup (d:=1) (c:=171) (l:=3) (λx hx=>?_) (by simp)).le (B8 _) (by decide);simp only[C3,P9,or_false] at hx;rcases hx with rfl|rfl|rfl
 ·exact(Cc _ (by decide +kernel) (by decide +kernel)).le (by decide) (by decide)
 ·exact Uj.le (by decide) (by decide)
 ·refine(Show.tup (d:=0) (c:=82) (l:=2) (λx hx=>?_) (by simp)).le (B8 _) (by decide);simp only[C3,P9,or_false] at hx;rcases hx with rfl|rfl
  ·exact Cc _ (by decide +kernel) (by decide +kernel)
  ·exact(IA (by omega)).le (by decide) (by decide)
theorem Je {s n m r:Nat}{row:List Str}{ess:List (List Ev)}{T:PV}{R:PV->Nat->Prop}(hg:∀es∈ess,(∀e∈es,Good e)/\es.length<=60)(h1:1<=s)(h8:s<=8)(hn:1<=n)(h24:n<=24)(hr:RowS row)(hl:row.length=n)(he:ess.length<=100)
   (h0:ess.length≠(n+s-1)/s->T=.tup [.str (A5 "unsound"),.non,.tup [.str (A5 "races"),.int (((n+s-1)/s:Nat):Int)]])
   (hR:ess.length=(n+s-1)/s->(∀i,i<(n+s-1)/s->Sd r s n ((n+s-1)/s) row ess i)->T=.tup [.str (A5 "row"),rowP (rowA s n ((n+s-1)/s) row ess ((n+s-1)/s))])
   (hU:ess.length=(n+s-1)/s->∀i,i<(n+s-1)/s->(∀j,j<i->Sd r s n ((n+s-1)/s) row ess j)->¬Sd r s n ((n+s-1)/s) row ess i->∃w,isRs r (E1 s n ((n+s-1)/s-1-i) (rowA s n ((n+s-1)/s) row ess i)) (ess.getD ((n+s-1)/s-1-i) []) w/\T=.tup [.str (A5 "unsound"),.int (((n+s-1)/s-1-i:Nat):Int),rsP w])
   (q:R (.bl true) m):FK [.tup [.int (s:Int),.int (r:Int)],rowP row,dayP ess,T] m R:=by
 refine⟨rfl,?_⟩;unfold ME;have mle:=Fx (s:=s) (n:=n) h1 hn;have mr:∀{R:PV->Nat->Prop},R (.int (((n+s-1)/s:Nat):Int)) m->DO [.tup [.int (s:Int),.int (r:Int)],.int (n:Int)] m R:=λq=>Nk h1 hn q h8;generalize hmx:(n+s-1)/s=mx at *;have dl:(ess.map shP).length=ess.length:=by rw[B6]
 have ai:∀{k:Nat},k<ess.length->atI (ess.map shP) (k:Int)=some (shP (ess.getD k [])):=λ{k} hk=>AE (by rw[G0,D4 hk,T3,D4 hk];rfl);have gm:∀{k:Nat},k<ess.length->(∀e∈ess.getD k [],Good e)/\(ess.getD k []).length<=60:=λ{k} hk=>hg _ (by rw[T3,D4 hk];exact U5 hk);unfold dayP;have rl:(row.map PV.str).length=n:=by rw[B6];exact hl
 generalize hE:ess.map shP=E at *;have hW':rowP row=.tup (row.map PV.str):=rfl;refine D5 λU hU'=>?_;rw[hW'];walk_at "pu";rw[rl];refine mr ?_;rw[<- hW'];subst hU';refine D5 λU hU'=>?_
 by_cases cl:ess.length=mx
 ·have hR:=hR cl;have hU:=hU cl;have cl':E.length=mx:=by omega
  generalize hW:rowP row=W;walk_at "pu";refine if_f (by rw[cl'];simp) ?_;subst hU';refine D5 λU hU'=>?_;rw[<- hW];walk_at "pd";refine⟨⟨by omega,by omega⟩,?_⟩;rw[O4];refine Q3 (λi env m'=>∃s5 s6 s7 s8,env=[some (.v (.tup [.int (s:Int),.int (r:Int)])),some (.v (rowP (rowA s n mx row ess i))),some (.v (.tup E)),some (.v T),some (.v (.int (mx:Int))),s5,s6,s7,s8]/\(∀j,j<i->Sd r s n mx row ess j)/\m'=m) _ 0 _ _ ⟨none,none,none,none,rfl,nofun,rfl⟩ (λi x env m' N ex hI hN=>?_) (λenv m' hI=>?_)
  ·obtain⟨s5,s6,s7,s8,rfl,di,rfl⟩:=hI;obtain⟨hi,rfl⟩:=Iu ex;rw[J3] at di hN ⊢;obtain⟨rS,rL⟩:=FZ h1 hn hmx.symm hr hl i (by omega) di;have ek:(mx:Int)-1-i=((mx-1-i:Nat):Int):=by omega
   rw[ek];have hUi:=hU i hi di;have dn:rowA s n mx row ess (i+1)=putN s n (mx-1-i) (rowA s n mx row ess i) (rbh (E1 s n (mx-1-i) (rowA s n mx row ess i)) (ess.getD (mx-1-i) [])):=rfl;rw[dn] at hN;have k24:mx-1-i<1000:=by omega
   have kp:(mx-1-i)*s<=n-1:=Fw h1 hn (by omega);have ai':=ai (k:=mx-1-i) (by omega);have gm':=gm (k:=mx-1-i) (by omega)
   have nx:Sd r s n mx row ess i->∀j,j<i+1->Sd r s n mx row ess j:=λh j hj=>by
    by_cases c:j=i
    ·rw[c];exact h
    ·exact di j (by omega)
   unfold Sd at nx hUi;have stS:RowS (E1 s n (mx-1-i) (rowA s n mx row ess i)):=Fv rS
   have stL:(E1 s n (mx-1-i) (rowA s n mx row ess i)).length<=24:=by
    rw[DK rL hn];have:=Cg (s:=s) (k:=mx-1-i) hn;omega
   generalize hr2:rowA s n mx row ess i=r' at *;generalize hes:ess.getD (mx-1-i) []=es at *;generalize mx-1-i=k at *;have kh:=Fy (s:=s) (n:=n) kp;have hh:=Cg (s:=s) (k:=k) hn
   have e1:cutP (r'.map PV.str) (some ((k*s:Nat):Int)) (some (((hiN s n k:Nat):Int)+1))=(E1 s n k r').map PV.str:=by
    rw[i5,show((hiN s n k:Nat):Int)+1=((hiN s n k+1:Nat):Int) by omega,Ca r' (by rw[rL];exact hh)]
    rfl
   have e2:cutP (r'.map PV.str) none (some ((k*s:Nat):Int))=(r'.take (k*s)).map PV.str:=by rw[i5,Iw]
   have e3:cutP (r'.map PV.str) (some (((hiN s n k:Nat):Int)+1)) none=(r'.drop (hiN s n k+1)).map PV.str:=by
    rw[i5,show((hiN s n k:Nat):Int)+1=((hiN s n k+1:Nat):Int) by omega,Ix]
   have l1:((r'.take (k*s)).map PV.str).length<=24:=by rw[B6,T5];omega
   have l2:((r'.drop (hiN s n k+1)).map PV.str).length<=24:=by rw[B6,X5];omega
   have aL:((aft (E1 s n k r') es).map PV.str).length<=24:=by rw[B6,DJ];omega
   have e4:(r'.take (k*s)).map PV.str++(aft (E1 s n k r') es).map PV.str++(r'.drop (hiN s n k+1)).map PV.str=(putN s n k r' (aft (E1 s n k r') es)).map PV.str:=by unfold putN;rw[N1,N1]
   have rl':(r'.map PV.str).length=n:=by rw[B6];exact rL
   have mis:∀{m:Nat} {R:PV->Nat->Prop},(∀c:Bool,(c=true↔W8 (r:Int) (E1 s n k r') es)->R (.bl c) m)->FI [.tup ((E1 s n k r').map PV.str),.int (r:Int),shP es] m R:=λq=>Uf (by omega) stS.1 gm'.1 (by omega) q;have mre:∀{w:Rs} {m:Nat} {R:PV->Nat->Prop},isRs (r:Int) (E1 s n k r') es w->R (.bl true) m->FJ [.tup ((E1 s n k r').map PV.str),.int (r:Int),shP es,rsP w] m R:=λhw q=>Ue (by omega) stS.1 gm'.1 (by omega) hw q;have maf:∀{m:Nat} {R:PV->Nat->Prop},(∀b∈es.flatMap evB,b∈E1 s n k r')->R (.tup ((aft (E1 s n k r') es).map PV.str)) m->DQ [.tup ((E1 s n k r').map PV.str),shP es] m R:=λhb q=>Nj (by omega) hb q;have hr':rowP r'=.tup (r'.map PV.str):=rfl;rw[hr'];generalize hZ:r'.map PV.str=Z at *;generalize hSP:shP es=SP at *;refine D5 λV hV=>?_;walk_at "pu";rw[rl'];refine Nl h8 hn (by omega) ?_;walk_at "pu";subst hV;refine D5 λV hV=>?_;walk_at "pu";rw[e1];subst hV;generalize hST:(E1 s n k r').map PV.str=ST at *;refine D5 λV hV=>?_;walk_at "pu";rw[ai'];refine mis λc hc=>?_;cases c with
   | true =>
    have so:=hc.mp rfl;refine if_f rfl ?_;subst hV;walk_at "pu";rw[e2,ai'];refine maf so.fair.sub ?_;rw[e3];refine⟨by omega,by rw[E7];omega,?_⟩;rw[e4,Ir so.fair];exact hN _ _ ⟨_,_,_,_,rfl,nx so,rfl⟩
   | false =>
    obtain⟨w,hw,rfl⟩:=hUi λz=>by cases hc.mpr z
    have mre:=λR=>@mre w m' R hw;refine if_t rfl ?_;walk_at "pu";have sh:=Uk (k:=k) (by omega);rw[show cutP [PV.str (A5 "unsound"),PV.int (k:Int),rsP w] none (some 2)=[PV.str (A5 "unsound"),PV.int (k:Int)] from rfl];refine z0 sh.sh (by have:=sh.de;omega) (by have:=sh.co;omega) (z0 sh.sh (by have:=sh.de;omega) (by have:=sh.co;omega) (gd2 rfl rfl ?_));refine if_f (by rw[BR _ rfl];rfl) (if_f rfl ?_);obtain⟨a,l,ew⟩:=DT w;rw[ew] at mre ⊢;exact mre _ q
  ·obtain⟨s5,s6,s7,s8,rfl,di,rfl⟩:=hI;rw[J3,Iv] at di ⊢;have hT:=hR di;subst hT;obtain⟨rS,rL⟩:=FZ h1 hn hmx.symm hr hl mx (B8 _) di;have sh:=Ui rS (by omega);subst hU';generalize rowP (rowA s n mx row ess mx)=V at *;walk_at "pu";refine z0 sh.sh (by have:=sh.de;omega) (by have:=sh.co;omega) (z0 sh.sh (by have:=sh.de;omega) (by have:=sh.co;omega) (gd2 rfl rfl ?_));rw[BR _ rfl];exact q
 ·have hT:=h0 cl;subst hT;have sh:=Ul (k:=mx) (by omega);walk_at "pu";refine if_t (by rw[jq (by omega)];rfl) ?_;refine z0 sh.sh (by have:=sh.de;omega) (by have:=sh.co;omega) (z0 sh.sh (by have:=sh.de;omega) (by have:=sh.co;omega) (gd2 rfl rfl ?_));rw[BR _ rfl];exact q
theorem NB:LETS.cps.toList.length=26:=by decide +kernel
theorem lts_nd:LETS.cps.toList.Nodup:=by decide +kernel
theorem Um:∀c∈LETS.cps.toList,Ltr c:=by
 have:(LETS.cps.toList.all λc=>decide (97<=c)&&decide (c<=122))=true:=by decide +kernel
 intro c hc;have:=N0.mp this c hc;simp only[Bo,decide_eq_true_eq] at this;exact⟨this.1,this.2⟩
def sg (c:Nat):Str:=⟨#[c]⟩
theorem Uo {c:Nat}(h:Ltr c):O8 (sg c):=by
 refine⟨by show 1<=(sg c).cps.toList.length;simp[sg],by show(sg c).cps.toList.length<=8;simp[sg],λd hd=>?_⟩;have:d=c:=by simpa[sg] using hd
 rw[this];exact h
theorem NC {row:List Str}{n:Nat}{R:PV->Nat->Prop}(h24:row.length<=24)(h:∀z,O8 z->z∉row->R (.str z) n):Ce [rowP row] n R:=by
 refine⟨rfl,?_⟩;unfold MF;have hr0:rowP row=.tup (row.map PV.str):=rfl;generalize hZ:row.map PV.str=Z at *;rw[hr0];walk_at "pu";refine⟨by decide +kernel,by rw[B6,NB];decide,?_⟩;refine BZ (λc=>PV.str (sg c)) (λc=>!decide (sg c∈row)) _ _ _ _ (λc hc m Q hQ=>?_) ?_
 ·walk_at "pu";exact DG hZ hQ
 ·have ne:(LETS.cps.toList.filter λc=>!decide (sg c∈row))≠[]:=λe=>by
   have al:∀c∈LETS.cps.toList,sg c∈row:=λc hc=>by
    have:=List.filter_eq_nil_iff.mp e c hc
    simpa using this
   have h1:(LETS.cps.toList.map sg).Nodup:=List.Pairwise.map (S:=(·≠·)) sg (λa b h e=>h (by simpa[sg] using e)) lts_nd
   have h2:=h1.length_le_of_subset (l₂:=row) λz hz=>by
    obtain⟨c,hc,rfl⟩:=J1.mp hz;exact al c hc
   rw[B6,NB] at h2;omega
  cases hf:LETS.cps.toList.filter λc=>!decide (sg c∈row) with
  |nil=>exact absurd hf ne
  | cons c cs =>
   have hm:c∈LETS.cps.toList.filter λc=>!decide (sg c∈row):=by rw[hf];exact C8
   obtain⟨m1,m2⟩:=Q8.mp hm;rw[G9,at_hd];exact h (sg c) (Uo (Um c m1)) (by simpa using m2)
theorem Up {q n:Nat}{row:List Str}{R:PV->Nat->Prop}(h24:row.length<=24)(hr:RowS row)(hn:n<=999990000)(h:∀e n',Good e->n'<=n+2->R (evP e) n'):DR [.pot (q+1),rowP row] n R:=by
 refine⟨rfl,?_⟩;unfold MG;have ms:∀{n:Nat} {R:PV->Nat->Prop},(∀z,O8 z->z∉row->R (.str z) n)->Ce [rowP row] n R:=λq=>NC h24 q;have hr0:rowP row=.tup (row.map PV.str):=rfl;have Zl:(row.map PV.str).length=row.length:=B6 ..;generalize hZ:row.map PV.str=Z at *;rw[hr0] at ms ⊢;walk_at "pu";refine⟨by omega,λa a0 a1=>⟨by omega,λb b0 b1=>ms λz bz nz=>?_⟩⟩;refine⟨by omega,?_⟩
 have hat:∀d:Int,0<=d->d<(Z.length:Int)+1->atI (Z++[.str z]) d=some (.str (nm (row++[z]) d.toNat))/\d.toNat<(row++[z]).length:=λd d0 d1=>by
  have lt:d.toNat<(row++[z]).length:=by rw[E7,T4];omega
  refine⟨?_,lt⟩;obtain⟨k,rfl⟩:=x4 d0;rw[show Z++[.str z]=(row++[z]).map PV.str by rw[N1,hZ];rfl];exact at_nm rfl lt
 have bo:∀y∈row++[z],O8 y:=λy hy=>(K9.mp hy).elim (hr.2 y) λe=>by rw[J6.mp e];exact bz
 have nd:(row++[z]).Nodup:=Cv.mpr ⟨hr.1,by simp,λx hx y hy e=>nz (by rw[J6.mp hy] at e;rw[<- e];exact hx)⟩;obtain⟨ea,la⟩:=hat a a0 a1;obtain⟨eb,lb⟩:=hat b b0 b1
 by_cases c:a=b
 ·refine if_t (jp c) ?_;rw[ea];exact h (.d _) _ (bo _ (DH la)) (by omega)
 ·refine if_f (jq c) ?_;rw[ea,eb];exact h (.t _ _) _ ⟨λe=>c (by have:=LJ nd la lb e;omega),bo _ (DH la),bo _ (DH lb)⟩ (by omega)
theorem Uq {q n:Nat}{row:List Str}{es:List Ev}{R:PV->Nat->Prop}(h0:1<=row.length)(h24:row.length<=24)(hr:RowS row)(hg:∀e∈es,Good e)(hl:es.length<=50)(hn:n<=999980000)(h:∀(es':List Ev) n',(∀e∈es',Good e)->es'.length<=es.length+1->n'<=n+10->R (shP es') n'):FM [.pot (q+1),rowP row,shP es] n R:=by
 refine⟨rfl,?_⟩;unfold MH;have ms:∀{n:Nat} {R:PV->Nat->Prop},(∀z,O8 z->z∉row->R (.str z) n)->Ce [rowP row] n R:=λq=>NC h24 q;have mn:∀{n:Nat} {R:PV->Nat->Prop},n<=999990000->(∀e n',Good e->n'<=n+2->R (evP e) n')->DR [.pot (q+1),rowP row] n R:=λhn q=>Up h24 hr hn q;have fin:∀(rs:List Ev) (n':Nat),(∀e∈rs,Good e)->rs.length<=es.length+1->n'<=n+10->(rs.map evP).length<=63/\DM (rs.map evP)/\∀ys,SrtS ys (rs.map evP)->R (.tup ys) n':=λrs n' hg' hl' hn'=>Ud (R:=λys=>R (.tup ys) n') (by omega) λes' h1 _ h2=>h es' n' (λe he=>hg' e (h1 e he)) (by omega) hn'
 have fin1:∀(rs:List Ev) (e:Ev) (n':Nat),(∀e∈rs,Good e)->Good e->rs.length<=es.length->n'<=n+10->(rs.map evP++[evP e]).length<=63/\DM (rs.map evP++[evP e])/\∀ys,SrtS ys (rs.map evP++[evP e])->R (.tup ys) n':=λrs e n' hg' ge hl' hn'=>by
  have:=fin (rs++[e]) n' (λa ha=>(K9.mp ha).elim (hg' a) λz=>by rw[J6.mp z];exact ge) (by rw[E7,T4];omega) hn';rw[N1] at this;exact this
 have hs0:shP es=.tup (es.map evP):=rfl;have El:(es.map evP).length=es.length:=B6 ..;have en:eqPs (es.map evP) []=es.isEmpty:=by cases es <;> rfl
 have ce:(es.map evP).all (cmpb 3)=true:=FW es 2;rw[hs0];refine D5 λU hU=>?_;generalize hW:rowP row=W at *;have F0:=λe n'=>fin1 es e n' hg;generalize hE:es.map evP=E at *;walk_at "pu";refine⟨by omega,λway w0 w1=>?_⟩;subst hU;refine D5 λU hU=>?_
 have rest:es≠[]->way≠0->U { nx:=λ_ m=>R PV.non m,rt:=R } [some (.v (.pot (q+1))),some (.v W),some (.v (.tup E)),some (.v (.int way)),some (.ow .lst E),none,none,none] (n+1):=λnes nw=>by
  have lp:1<=es.length:=by cases es with|nil=>exact absurd rfl nes|cons a l=>rw[E8];omega
  subst hU;refine D5 λU hU=>?_;walk_at "pu";refine⟨by omega,λa a0 a1=>?_⟩;obtain⟨p,rfl⟩:=x4 a0;subst hU;refine D5 λU hU=>?_;have lt:p<es.length:=by omega
  have ee:E[p]?=some (evP es[p]):=by rw[<- hE,G0,D4 lt];rfl
  have ge:=hg _ (U5 lt);have ex:E.eraseIdx p=(es.eraseIdx p).map evP:=by rw[<- hE,I_]
  have F1:=λe n' (g:Good e) hn'=>fin1 (es.eraseIdx p) e n' (λa ha=>hg a (Gf ha)) g (by rw[Ed];split <;> omega) hn'
  have F2:=λn' hn'=>fin (es.eraseIdx p) n' (λa ha=>hg a (Gf ha)) (by rw[Ed];split <;> omega) hn'
  rw[<- ex] at F1 F2;have xl:(E.eraseIdx p).length<=50:=by rw[Ed];split <;> omega
  generalize es[p]=e at *;walk_at "pu";refine⟨⟨_,rfl⟩,by omega,?_⟩;rw[U9 (by omega) (by omega)];dsimp only;rw[O4,ee];dsimp only;generalize E.eraseIdx p=RS at *
  have ways:(decide (way=1)=true/\decide (way=2)=false/\decide (way=3)=false/\decide (way=4)=false)\/(decide (way=1)=false/\decide (way=2)=true/\decide (way=3)=false/\decide (way=4)=false)\/(decide (way=1)=false/\decide (way=2)=false/\decide (way=3)=true/\decide (way=4)=false)\/(decide (way=1)=false/\decide (way=2)=false/\decide (way=3)=false/\decide (way=4)=true):=by
   have:way=1\/way=2\/way=3\/way=4:=by omega
   rcases this with rfl|rfl|rfl|rfl <;> decide
  subst hU;have F3:=F2 (n+1+1) (by omega);cases e with
  | d x =>
   have F4:=F1 (.d x) (n+1+1) ge (by omega);rw[k7] at F4 ⊢;rcases ways with⟨b1,b2,b3,b4⟩|⟨b1,b2,b3,b4⟩|⟨b1,b2,b3,b4⟩|⟨b1,b2,b3,b4⟩
   ·refine D5 λU hU=>?_;walk_at "pu";refine if_t b1 ⟨⟨_,rfl⟩,mn (by omega) λe n' ge hn'=>⟨by omega,?_⟩⟩;have F6:=F1 e n' ge (by omega);generalize RS++[evP e]=RT at *;subst hU;refine D5 λU hU=>?_;walk_at "pu";refine if_f b2 ?_;subst hU;refine D5 λU hU=>?_;walk_at "pu";refine if_f b3 ?_;subst hU;refine D5 λU hU=>?_;walk_at "pu";refine if_f b4 ?_;subst hU;walk_at "pu";exact F6
   ·refine D5 λU hU=>?_;walk_at "pu";refine if_f b1 ?_;subst hU;refine D5 λU hU=>?_;walk_at "pu";refine if_t b2 (if_f Cb ?_);subst hU;refine D5 λU hU=>?_;walk_at "pu";refine if_f b3 ?_;subst hU;refine D5 λU hU=>?_;walk_at "pu";refine if_f b4 ?_;subst hU;walk_at "pu";exact F3
   ·refine D5 λU hU=>?_;walk_at "pu";refine if_f b1 ?_;subst hU;refine D5 λU hU=>?_;walk_at "pu";refine if_f b2 ?_;subst hU;refine D5 λU hU=>?_;walk_at "pu";refine if_t b3 (if_f Cb ?_);subst hU;refine D5 λU hU=>?_;walk_at "pu";refine if_f b4 ?_;subst hU;walk_at "pu";exact F3
   ·refine D5 λU hU=>?_;walk_at "pu";refine if_f b1 ?_;subst hU;refine D5 λU hU=>?_;walk_at "pu";refine if_f b2 ?_;subst hU;refine D5 λU hU=>?_;walk_at "pu";refine if_f b3 ?_;subst hU;refine D5 λU hU=>?_;walk_at "pu";refine if_t b4 ⟨⟨_,rfl⟩,by omega,?_⟩;generalize RS++[PV.tup [PV.str DROP,PV.str x]]=RT at *;subst hU;walk_at "pu";exact F4
  | t x y =>
   have F4:=F1 (.d x) (n+1+1) ge.2.1 (by omega);have F5:=F1 (.t y x) (n+1+1) ⟨λz=>ge.1 z.symm,ge.2.2,ge.2.1⟩ (by omega);rw[k7] at F4;rw[N9] at F5 ⊢;rcases ways with⟨b1,b2,b3,b4⟩|⟨b1,b2,b3,b4⟩|⟨b1,b2,b3,b4⟩|⟨b1,b2,b3,b4⟩
   ·refine D5 λU hU=>?_;walk_at "pu";refine if_t b1 ⟨⟨_,rfl⟩,mn (by omega) λe n' ge hn'=>⟨by omega,?_⟩⟩;have F6:=F1 e n' ge (by omega);generalize RS++[evP e]=RT at *;subst hU;refine D5 λU hU=>?_;walk_at "pu";refine if_f b2 ?_;subst hU;refine D5 λU hU=>?_;walk_at "pu";refine if_f b3 ?_;subst hU;refine D5 λU hU=>?_;walk_at "pu";refine if_f b4 ?_;subst hU;walk_at "pu";exact F6
   ·refine D5 λU hU=>?_;walk_at "pu";refine if_f b1 ?_;subst hU;refine D5 λU hU=>?_;walk_at "pu";refine if_t b2 ⟨⟨_,rfl⟩,by omega,?_⟩;generalize RS++[PV.tup [PV.str L7,PV.str y,PV.str x]]=RT at *;subst hU;refine D5 λU hU=>?_;walk_at "pu";refine if_f b3 ?_;subst hU;refine D5 λU hU=>?_;walk_at "pu";refine if_f b4 ?_;subst hU;walk_at "pu";exact F5
   ·refine D5 λU hU=>?_;walk_at "pu";refine if_f b1 ?_;subst hU;refine D5 λU hU=>?_;walk_at "pu";refine if_f b2 ?_;subst hU;refine D5 λU hU=>?_;walk_at "pu";refine if_t b3 (ms λz bz nz=>?_);have hWt:W=.tup (row.map PV.str):=hW.symm;rw[hWt];refine⟨by rw[B6,T4];omega,by rw[E7,B6,T4];omega,?_⟩;rw[show row.map PV.str++[PV.str z]=(row++[z]).map PV.str by rw[N1];rfl];refine BZ PV.str (λb=>!decide (b=x)) (row++[z]) _ _ _ (λb hb m Q hQ=>by walk_at "pu";exact hQ) ?_
    have hne:∃b,b∈row++[z]/\b≠x:=by
     by_cases c:x=z
     ·obtain⟨b,hb⟩:=List.exists_mem_of_length_pos (show 0<row.length by omega);exact⟨b,K9.mpr (.inl hb),λe=>nz (by rw[<- c,<- e];exact hb)⟩
     ·exact⟨z,by simp,λe=>c e.symm⟩
    obtain⟨b0,hb0,hb1⟩:=hne;have fl:0<(((row++[z]).filter λb=>!decide (b=x)).map PV.str).length:=List.length_pos_of_mem (J1.mpr ⟨b0,Q8.mpr ⟨hb0,by simp[hb1]⟩,rfl⟩)
    have fu:(((row++[z]).filter λb=>!decide (b=x)).map PV.str).length<=25:=by
     rw[B6];refine N6 (Gj _ _) ?_;rw[E7,T4];omega
    refine⟨⟨_,rfl⟩,⟨by omega,by omega,by omega⟩,λd d0 d1=>?_⟩;obtain⟨v,hv,ev⟩:=BN d0 d1;obtain⟨b,hb,rfl⟩:=J1.mp hv;obtain⟨m1,m2⟩:=Q8.mp hb;rw[ev];have bb:O8 b:=(K9.mp m1).elim (hr.2 b) λe=>by rw[J6.mp e];exact bz
    have F6:=F1 (.t x b) (n+1+1+1) ⟨λe=>by rw[e] at m2;simp at m2,ge.2.1,bb⟩ (by omega);rw[N9] at F6;refine⟨by omega,?_⟩;generalize RS++[PV.tup [PV.str L7,PV.str x,PV.str b]]=RT at *;subst hU;refine D5 λU hU=>?_;walk_at "pu";refine if_f b4 ?_;subst hU;walk_at "pu";exact F6
   ·refine D5 λU hU=>?_;walk_at "pu";refine if_f b1 ?_;subst hU;refine D5 λU hU=>?_;walk_at "pu";refine if_f b2 ?_;subst hU;refine D5 λU hU=>?_;walk_at "pu";refine if_f b3 ?_;subst hU;refine D5 λU hU=>?_;walk_at "pu";refine if_t b4 ⟨⟨_,rfl⟩,by omega,?_⟩;generalize RS++[PV.tup [PV.str DROP,PV.str x]]=RT at *;subst hU;walk_at "pu";exact F4
 walk_at "pu";refine gd2 ce rfl ?_;rw[en];cases hee:es.isEmpty with
 | true =>
  refine if_t rfl ⟨⟨_,rfl⟩,mn (by omega) λe n' ge hn'=>?_⟩;exact⟨by omega,F0 e n' ge (by omega) (by omega)⟩
 | false =>
  refine if_f rfl ?_
  by_cases c:way=0
  ·refine if_t (jp c) ⟨⟨_,rfl⟩,mn (by omega) λe n' ge hn'=>?_⟩;exact⟨by omega,F0 e n' ge (by omega) (by omega)⟩
  ·exact if_f (jq c) (rest (λz=>by rw[z] at hee;cases hee) c)
theorem Ur {q n:Nat}{row:List Str}{ess:List (List Ev)}{B:Nat}{R:PV->Nat->Prop}(h0:1<=row.length)(h24:row.length<=24)(hr:RowS row)(hB:B<=50)(hg:∀es∈ess,(∀e∈es,Good e)/\es.length<=B)(e1:1<=ess.length)(e24:ess.length<=24)(hn:n<=999970000)(h:∀(ess':List (List Ev)) n',(∀es∈ess',(∀e∈es,Good e)/\es.length<=B+1)->ess'.length<=24->n'<=n+20->R (dayP ess') n'):IP [.pot (q+1),rowP row,dayP ess] n R:=by
 refine⟨rfl,?_⟩;unfold MI;have mc:∀{es:List Ev} {n:Nat} {R:PV->Nat->Prop},es∈ess->n<=999980000->(∀(es':List Ev) n',(∀e∈es',Good e)->es'.length<=B+1->n'<=n+10->R (shP es') n')->FM [.pot (q+1),rowP row,shP es] n R:=λ{es n R} he hn q=>Uq h0 h24 hr (hg es he).1 (by have:=(hg es he).2;omega) hn λes' n' a b c=>q es' n' a (by have:=(hg es he).2;omega) c;have hg':∀es∈ess,(∀e∈es,Good e)/\es.length<=B+1:=λes he=>⟨(hg es he).1,by have:=(hg es he).2;omega⟩;have hd0:dayP ess=.tup (ess.map shP):=rfl;have El:(ess.map shP).length=ess.length:=B6 ..;have ai:∀{k:Nat} (hk:k<ess.length),atI (ess.map shP) (k:Int)=some (shP ess[k]):=λ{k} hk=>AE (by rw[G0,D4 hk];rfl);rw[hd0];generalize hW:rowP row=W at *;generalize hE:ess.map shP=E at *;refine D5 λU hU=>?_;walk_at "pu";refine⟨by omega,λway w0 w1=>?_⟩;subst hU;refine D5 λU hU=>?_;walk_at "pu";refine⟨by omega,λa a0 a1=>?_⟩;obtain⟨p,rfl⟩:=x4 a0;have lt:p<ess.length:=by omega
 subst hU;refine D5 λU hU=>?_
 have fin:∀(ds:List (List Ev)) (n':Nat) (s6:Option Pu.Slot),(∀es∈ds,(∀e∈es,Good e)/\es.length<=B+1)->ds.length<=24->n'<=n+20->U { nx:=λ_ m=>R PV.non m,rt:=R } [some (.v (.pot (q+1))),some (.v W),some (.v (.tup E)),some (.v (.int way)),some (.ow .lst (ds.map shP)),some (.v (.int (p:Int))),s6] n':=λds n' s6 a b c=>by
  subst hU;have:=h ds n' a b c;unfold dayP at this;generalize ds.map shP=DS at *;walk_at "pu";exact this
 by_cases c0:way=0
 ·walk_at "pu";refine if_t (jp c0) ⟨⟨_,rfl⟩,by omega,?_⟩;rw[U9 (by omega) (by omega)];dsimp only;rw[O4,<- hE,G0,D4 lt];dsimp only[Option.map];rw[<- I_,hE];exact fin _ _ _ (λes he=>hg' es (Gf he)) (by rw[Ed];split <;> omega) (by omega)
 have aip:=ai lt;have gp:=hg' _ (U5 lt);have mcp:=λR'=>@mc _ (n+1+1) R' (U5 lt) (by omega);generalize hes:ess[p]=es0 at *
 have gset:∀(ds:List (List Ev)) (k:Nat) (x:List Ev),(∀es∈ds,(∀e∈es,Good e)/\es.length<=B+1)->((∀e∈x,Good e)/\x.length<=B+1)->∀es∈ds.set k x,(∀e∈es,Good e)/\es.length<=B+1:=λds k x hd hx es he=>by
  rcases List.mem_or_eq_of_mem_set he with z|z
  ·exact hd es z
  ·rw[z];exact hx
 walk_at "pu";refine if_f (jq c0) ?_;rw[aip]
 by_cases c1:way=1
 ·refine if_t (jp c1) ?_
  by_cases c2:(E.length:Int)<24
  ·refine if_t (jp c2) ⟨⟨_,rfl⟩,by omega,λd d0 d1=>?_⟩
   have ez:∃x:List Ev,atI [PV.tup [],shP es0] d=some (shP x)/\(∀e∈x,Good e)/\x.length<=B+1:=by
    have:d=0\/d=1:=by omega
    rcases this with rfl|rfl
    ·exact⟨[],rfl,nofun,by simp⟩
    ·exact⟨es0,rfl,gp⟩
   obtain⟨x,ex,gx⟩:=ez;rw[ex];refine⟨⟨by omega,by omega,by omega⟩,?_⟩;rw[O4,<- hE,show insL (ess.map shP) p (shP x)=(insL ess p x).map shP by unfold insL;rw[N1,G9,List.map_take,List.map_drop],hE];refine fin _ _ _ (λes he=>?_) (by rw[BX];omega) (by omega);rcases K9.mp he with z|z
   ·exact hg' es (Cq z)
   ·rcases C3.mp z with z|z
    ·rw[z];exact gx
    ·exact hg' es (Gk z)
  ·refine if_f (jq c2) (if_f (jq (by omega)) ?_);refine mcp _ λes' n' a b c=>⟨⟨_,rfl⟩,?_⟩;rw[U9 (by omega) (by omega)];dsimp only;rw[O4,<- hE,<- c8,hE];exact fin _ _ _ (gset _ _ _ hg' ⟨a,b⟩) (by rw[L4];omega) (by omega)
 refine if_f (jq c1) ?_
 by_cases c2:way=2
 ·refine if_t (jp c2) ⟨⟨by omega,by omega,by omega⟩,λd d0 d1=>?_⟩;obtain⟨k,rfl⟩:=x4 d0;have ltk:k<ess.length:=by omega
  have gk:=hg' _ (U5 ltk);rw[ai ltk];generalize ess[k]=es1 at *;refine⟨⟨_,rfl⟩,?_⟩;rw[U9 (by omega) (by omega)];dsimp only;rw[U9 (by omega) (by rw[L4];omega)];dsimp only;rw[O4,O4,<- hE,<- c8,<- c8,hE];exact fin _ _ _ (gset _ _ _ (gset _ _ _ hg' gk) gp) (by rw[L4,L4];omega) (by omega)
 ·refine if_f (jq c2) ?_;refine mcp _ λes' n' a b c=>⟨⟨_,rfl⟩,?_⟩;rw[U9 (by omega) (by omega)];dsimp only;rw[O4,<- hE,<- c8,hE];exact fin _ _ _ (gset _ _ _ hg' ⟨a,b⟩) (by rw[L4];omega) (by omega)
theorem good_b {e:Ev}(h:Good e):∀b∈evB e,O8 b:=by
 cases e with
 |d x=>intro b hb;rw[J6.mp hb];exact h
 | t x y =>
  intro b hb;rcases C3.mp hb with rfl|hb
  ·exact h.2.1
  ·rw[J6.mp hb];exact h.2.2
def Ps (r:Nat)(st:List Str)(es:List Ev):Prop:=W8 (r:Int) st es/\es.length<=24
theorem Ps_of {r:Nat}(st:List Str)(ms:List Pu.Mk)(es:List Ev)(hs:RowS st)(hl:ms.length=st.length)(h24:st.length<=24)(hw:run (r:Int) 0 [] ms=some [])(p:es.Perm ((shE 0 [] ms).map (evOf st))):Ps r st es:=by
 refine⟨(Tw hs.1 hl hw).perm p,?_⟩;have:=AY ms 0 [];rw[p.length_eq,B6];omega
theorem Us {st:List Str}{es:List Ev}(hs:RowS st)(f:Fair st es):∀e∈es,Good e:=λe he=>by
 have sb:∀b∈evB e,O8 b:=λb hb=>hs.2 b (f.sub b (Bg.mpr ⟨e,he,hb⟩))
 have ne:(evB e).Nodup:=by
  obtain⟨s,t,rfl⟩:=List.append_of_mem he;have:=f.nd;rw[Cu,Y5] at this;exact(Cv.mp (Cv.mp this).2.1).1
 cases e with
 |d x=>exact sb x (by simp[evB])
 | t x y =>
  refine⟨λz=>?_,sb x (by simp[evB]),sb y (by simp[evB])⟩;subst z;simp[evB] at ne
def OkD (B:Nat)(ess:List (List Ev)):Prop:=∀es∈ess,(∀e∈es,Good e)/\es.length<=B
def askQ (y:PV):Prop:=∃(s r n:Nat) (row:List Str) (ess:List (List Ev)),1<=s/\s<=8/\r<=7/\1<=n/\n<=24/\RowS row/\row.length=n/\OkD 26 ess/\ess.length<=24/\y=.tup [.tup [.int (s:Int),.int (r:Int)],rowP row,dayP ess]
theorem Ut {y:PV}(h:askQ y):Show 4 490842 y:=by
 obtain⟨s,r,n,row,ess,h1,h8,r7,hn,h24,hr,hl,hd,el,rfl⟩:=h;refine(Show.tup (d:=3) (c:=163611) (l:=3) (λx hx=>?_) (by simp)).le (B8 _) (by decide);simp only[C3,P9,or_false] at hx;rcases hx with rfl|rfl|rfl
 ·exact(Sx (by omega) (by omega)).le (by decide) (by decide)
 ·exact(LO hr.2 (by omega)).le (by decide) (by decide)
 ·refine(Show.tup (d:=2) (c:=6815) (l:=24) (λx hx=>?_) (by rw[B6];exact el)).le (B8 _) (by decide);obtain⟨es,he,rfl⟩:=J1.mp hx;refine(Show.tup (d:=1) (c:=260) (l:=26) (λx hx=>?_) (by rw[B6];exact(hd es he).2)).le (B8 _) (by decide);obtain⟨e,hee,rfl⟩:=J1.mp hx;exact Sw (good_b ((hd es he).1 e hee))
theorem m_ask {s n m r:Nat}{row:List Str}{ess:List (List Ev)}{R:PV->Nat->Prop}(hg:OkD 26 ess)(h1:1<=s)(h8:s<=8)(hn:1<=n)(h24:n<=24)(hr:RowS row)(hl:row.length=n)(he:ess.length<=24)(q:R (.bl true) m) :
   FV [.tup [.int (s:Int),.int (r:Int)],rowP row,dayP ess] m λT m'=>FK [.tup [.int (s:Int),.int (r:Int)],rowP row,dayP ess,T] m' R:=by
 have hg':∀es∈ess,(∀e∈es,Good e)/\es.length<=60:=λes h=>⟨(hg es h).1,by have:=(hg es h).2;omega⟩;refine m_dayG hg' h1 h8 hn h24 hr hl (by omega) (λne=>?_) (λel hall=>?_) λel i hi di w hw=>?_
 ·exact Je hg' h1 h8 hn h24 hr hl (by omega) (λ_=>rfl) (λe=>absurd e ne) (λe=>absurd e ne) q
 ·exact Je hg' h1 h8 hn h24 hr hl (by omega) (λe=>absurd el e) (λ_ _=>rfl) (λ_ i hi _ hn=>absurd (hall i hi) hn) q
 ·have gi:∀e∈ess.getD ((n+s-1)/s-1-i) [],Good e:=by
   have lt:(n+s-1)/s-1-i<ess.length:=by omega
   rw[T3,D4 lt];exact(hg _ (U5 lt)).1
  have ns:¬Sd r s n ((n+s-1)/s) row ess i:=rs_not gi hw;refine Je hg' h1 h8 hn h24 hr hl (by omega) (λe=>absurd el e) (λ_ hall=>absurd (hall i hi) ns) (λ_ j hj dj nj=>?_) q
  have:j=i:=by
   rcases o8 j i with z|z|z
   ·exact absurd (di j z) nj
   ·exact z
   ·exact absurd (dj i z) ns
  subst this;exact⟨w,hw,rfl⟩
theorem day_c (ess:List (List Ev)):cmpb 4 (dayP ess)=true:=N0.mpr λy hy=>by
 obtain⟨es,_,rfl⟩:=J1.mp hy;exact FW es 1
theorem day_e (ess:List (List Ev)):eqP (dayP ess) (.tup [])=ess.isEmpty:=by cases ess <;> rfl
theorem m_law (ns:List Int)(hl:ns.length<=63):IY ⟨λ_ _=>False,λr _=>r=.bl true,λ_ _=>False,λ_ _=>False⟩ (y8 ["_law_script","_law_draws","_law_asks","_law_turn","_law_many","_law_meeting","_law_row","_law_day_here","_law_starts","_law_after_here","_law_change","_law_held"] [.scr ns]) 0:=by
 unfold IY;refine D5 λU hU=>?_;walk_at "pu";refine⟨hl,λq=>?_⟩;subst hU;refine D5 λU hU=>?_;walk_at "pu";subst hU;refine D5 λV hV=>?_;walk_at "pu";refine Q3 (λi env m=>∃ys s3 s4 s5 s6 s7 s8 s9 s10,env=[some (.v (.scr ns)),some (.v (.pot (q+1))),some (.own ys),s3,s4,s5,s6,s7,s8,s9,s10,none]/\ys.length<=i/\(∀y∈ys,askQ y)/\m<=3000*i) _ 0 _ _ ⟨[],_,_,_,_,_,_,_,_,rfl,B8 _,(λ_ z=>nomatch z),by omega⟩ (λi x env m N ex hI hN=>?_) (λenv m hI=>?_)
 ·obtain⟨ys,s3,s4,s5,s6,s7,s8,s9,s10,rfl,hi,hy,hm⟩:=hI;obtain⟨hj,rfl⟩:=Do ex;rw[J3] at hi hm hN;have hj4:i<4:=hj;refine D5 λU hU=>?_;walk_at "pu";refine⟨by omega,λd d0 d1=>?_⟩;subst hU;refine D5 λU hU=>?_;walk_at "pu";refine m_meet (by omega) λs r zs n' h1 h8 r7 z1 z24 zr hn'=>?_;generalize hZ:rowP zs=Z;walk_at "pu";subst hU;refine D5 λU hU=>?_;walk_at "pu";rw[<- hZ];refine m_day (P:=Ps r) (n:=zs.length) (λst ms es hs hsl hl' hw p se=>Ps_of st ms es hs hl' (by omega) hw p) (λ_ _ p=>p.1.fair) h1 h8 z1 z24 zr rfl (by omega) λess sts r' n2 hd hn2=>?_
  have em:OkD 24 ess:=λes he=>by
   obtain⟨st,p,rs,sl⟩:=(hd.mem h1 z1 rfl (λ_ _ p=>p.1.fair) zr rfl).1 es he;exact⟨Us rs p.1.fair,p.2⟩
  have el:ess.length<=24:=by
   have:=hd.len;have:=Fx (s:=s) (n:=zs.length) h1 z1;omega
  clear hd;generalize hS:PV.tup (sts.map rowP)=S;generalize hV2:rowP r'=V2;rw[hZ];walk_at "pu";subst hU;refine D5 λU hU=>?_;have dc:=day_c;have de:=day_e;generalize hDP:(dayP:List (List Ev)->PV)=DP at *;walk_at "pu";refine⟨⟨by omega,by omega⟩,?_⟩;refine Q3 (λu env m2=>∃(es2:List (List Ev)) (s10:Option Pu.Slot),env=[some (.v (.scr ns)),some (.v (.pot (q+1))),some (.own ys),some (.v (.int (0+(i:Int)))),some (.v (.int d)),some (.v (.tup [.int (s:Int),.int (r:Int)])),some (.v Z),some (.v (DP es2)),some (.v S),some (.v V2),s10,none]/\OkD (24+u) es2/\es2.length<=24/\m2<=n2+20*u) _ 0 _ _ ⟨ess,s10,rfl,em,el,by omega⟩ (λu x env m2 N2 ex2 hI hN2=>?_) (λenv m2 hI=>?_)
  ·obtain⟨hu,rfl⟩:=Do ex2;obtain⟨es2,s10,rfl,em2,el2,hm2⟩:=hI;rw[J3] at em2 hm2 hN2;have u2:u<2:=by omega
   walk_at "pu";refine gd2 (dc _) rfl ?_;rw[de];cases hes:es2.isEmpty with
   | true =>
    refine if_f rfl (hN2 _ _ ⟨es2,_,rfl,λes he=>⟨(em2 es he).1,by have:=(em2 es he).2;omega⟩,el2,by omega⟩)
   | false =>
    refine if_t rfl ?_;have l1:1<=es2.length:=by cases es2 with|nil=>cases hes|cons a l=>rw[E8];omega
    rw[<- hZ,<- hDP];refine Ur (B:=24+u) (by omega) z24 zr (by omega) em2 l1 el2 (by omega) λes3 n3 em3 el3 hn3=>?_;rw[hDP,hZ];exact hN2 _ _ ⟨es3,_,rfl,λes he=>⟨(em3 es he).1,by have:=(em3 es he).2;omega⟩,el3,by omega⟩
  ·obtain⟨es2,s10,rfl,em2,el2,hm2⟩:=hI;rw[J3,Dp] at em2 hm2;have dd:Int.toNat d<=2:=by omega
   subst hU;walk_at "pu";refine gd2 (dc _) rfl ?_;rw[de];cases hes:es2.isEmpty with
   |true=>exact if_f rfl (hN _ _ ⟨ys,_,_,_,_,_,_,_,_,rfl,by omega,hy,by omega⟩)
   | false =>
    refine if_t rfl ⟨⟨_,rfl⟩,by omega,?_⟩;refine hN _ _ ⟨_,_,_,_,_,_,_,_,_,rfl,by rw[E7,T4];omega,λz hz=>?_,by omega⟩;rcases K9.mp hz with hz|hz
    ·exact hy z hz
    ·rw[J6.mp hz,<- hDP,<- hZ];exact⟨s,r,zs.length,zs,es2,h1,h8,r7,z1,z24,zr,rfl,λes he=>⟨(em2 es he).1,by have:=(em2 es he).2;omega⟩,el2,rfl⟩
 ·obtain⟨ys,s3,s4,s5,s6,s7,s8,s9,s10,rfl,hi,hy,hm⟩:=hI;have hi4:ys.length<=4:=by rw[Dp] at hi;exact hi
  have ysS:Show 5 2100009 (.lst ys):=(Show.lst (d:=4) (c:=490842) (l:=4) (λy h=>Ut (hy y h)) hi4).le (B8 _) (by decide);dsimp only;subst hV;refine D5 λU hU=>?_;walk_at "pu";refine z0 ysS.sh (by have:=ysS.de;omega) (by have:=ysS.co;omega) ?_;subst hU;refine D5 λU hU=>?_;walk_at "pu";refine Q3 (λi env m=>∃s3 s4 s5 s6 s7 s8 s9 s10,env=[some (.v (.scr ns)),some (.v (.pot (q+1))),some (.v (.lst ys)),s3,s4,s5,s6,s7,s8,s9,s10,some (.v (.str (HJ (.lst ys))))]) _ 0 _ _ ⟨_,_,_,_,_,_,_,_,rfl⟩ (λi x env m N ex hI hN=>?_) (λenv m hI=>?_)
  ·obtain⟨s3,s4,s5,s6,s7,s8,s9,s10,rfl⟩:=hI;obtain⟨s,r,n,row,ess,h1,h8,r7,hn,h24,hr,hl',hd,el,rfl⟩:=hy x (K8 ex);have ma:=λm R=>m_ask (m:=m) (r:=r) (R:=R) hd h1 h8 hn h24 hr hl' el;generalize dayP ess=D at *;generalize rowP row=W at *;walk_at "pu";exact ma _ _ (if_f rfl (hN _ _ ⟨_,_,_,_,_,_,_,_,rfl⟩))
  ·obtain⟨s3,s4,s5,s6,s7,s8,s9,s10,rfl⟩:=hI;subst hU;walk_at "pu";refine z0 ysS.sh (by have:=ysS.de;omega) (by have:=ysS.co;omega) ?_;exact gd2 rfl rfl (by rw[BR _ rfl])
end Tb
end
section
namespace Tb
open PySem L2 Pu
section
variable {P:D2}{w:C9}{K:A9}{mg:Str->Option A1}{base:B7}
theorem ND (h:SqL K H a xs)(s:Same H H'):SqL K H' a xs:=h.elim (λh=>.inl (Rd.keep h λo e=>s a o e)) .inr
theorem Uu (s:Same H H')(h:H' c=none):H c=none:=by
 cases e:H c with
 |none=>rfl
 |some o=>rw[s c o e] at h;cases h
theorem putK_new {jg:List (Key×V)}{k:Key}{v:V}(h:∀kv∈jg,¬kv.1=k):putK jg k v=jg++[(k,v)]:=by
 unfold putK;rw[jt];rw[Bool.not_eq_true,List.any_eq_false];intro x hx;rw[decide_eq_true_iff];exact h x hx
theorem Uv:AN [] (dPot c a l s)=dPot c a l s:=by
 unfold AN dPot;simp only[o6,List.foldl_nil];have e1:putK ([]:List (Key×V)) (E2 (A5 "cells")) (V.ref c)=[(E2 (A5 "cells"),V.ref c)]:=putK_new (λ_ z=>nomatch z);have e2:putK [((E2 (A5 "cells"):Key),V.ref c)] (E2 (A5 "at")) (V.int a)=[(E2 (A5 "cells"),V.ref c),(E2 (A5 "at"),V.int a)]:=putK_new (λkv hkv=>by rw[J6.mp hkv];exact u5 (by decide))
 have e3:putK [((E2 (A5 "cells"):Key),V.ref c),(E2 (A5 "at"),V.int a)] (E2 (A5 "left")) (V.int l)=[(E2 (A5 "cells"),V.ref c),(E2 (A5 "at"),V.int a),(E2 (A5 "left"),V.int l)]:=putK_new (λkv hkv=>by
  simp only[C3,P9,or_false] at hkv
  rcases hkv with rfl|rfl <;> exact u5 (by decide))
 have e4:putK [((E2 (A5 "cells"):Key),V.ref c),(E2 (A5 "at"),V.int a),(E2 (A5 "left"),V.int l)] (E2 (A5 "seed")) (V.int s)=[(E2 (A5 "cells"),V.ref c),(E2 (A5 "at"),V.int a),(E2 (A5 "left"),V.int l),(E2 (A5 "seed"),V.int s)]:=putK_new (λkv hkv=>by
  simp only[C3,P9,or_false] at hkv
  rcases hkv with rfl|rfl|rfl <;> exact u5 (by decide))
 rw[e1,e2,e3,e4]
theorem Uw (F:Fn0 K mg "_law_begin" (top 23))(m_len:mg "len"=none)(m_list:mg "list"=none):Kn P w K mg base "_law_begin" 1 ["_law_script"] (Pu.Fn K):=by
 have sc:U7 ["_law_script"] ["_law_script"] (G5 (top 23)):=⟨rfl,rfl,rfl,by decide +kernel,rfl,by decide +kernel,by decide +kernel⟩;refine F.ok sc (λvs H Q E h=>?_) (λ_ _ _ _ _ _=>bd1 λ_=>rfl) (λf jn A outer s H vs Q E hr h=>?_)
 ·obtain⟨a,ns,rfl,_⟩:=h
  rfl
 obtain⟨a,ns,rfl,hS,hl63,q⟩:=h;refine⟨_,CN (CO (Qk (EZ N3 (AD JP rfl m_list J_ (G4 (GJ GO (pv 0) GH (GI O5)) K3)) (EZ N3 O5 (EZ N3 O5 (EZ N3 (N7 BE O5 (h9 GP rfl m_len CW (G4 (GJ GO (pv 0) GH (GI O5)) K3))) Qj)))) rfl rfl (by simp) (by simp))),?_⟩
 have cut:cutV (ns.map V.int) none (some 63)=ns.map V.int:=by
  unfold cutV;rw[HT.sIx_none,show(some (63:Int))=some ((63:Nat):Int) from rfl,HT.sIx_nat,Eh,B6,CB hl63];exact l8 (by rw[B6];omega)
 intro p hp;have sm0:Same H (upd H p (.dK [])):=Same.lay1 hp;refine⟨_,rfl,63,rfl,a,_,rfl,ND hS sm0,λp0 hp0=>?_⟩;have sm1:=sm0.trans (Same.lay1 (o:=.lst (cutV (ns.map V.int) none (some 63))) hp0);have at1:upd (upd H p (.dK [])) p0 (.lst (cutV (ns.map V.int) none (some 63))) p=some (.dK []):=Same.lay1 hp0 p _ D9;refine⟨p0,_,rfl,.inl (SqL.of D9),λc hc=>?_⟩;have sm2:=sm1.trans (Same.lay1 (o:=.lst (cutV (ns.map V.int) none (some 63))) hc);have at2:=Same.lay1 (o:=.lst (cutV (ns.map V.int) none (some 63))) hc p _ at1;have cn:=Uu sm1 hc;refine⟨_,rfl,63,rfl,a,_,rfl,ND hS sm2,λp1 hp1=>?_⟩;have sm3:=sm2.trans (Same.lay1 (o:=.lst (cutV (ns.map V.int) none (some 63))) hp1);have at3:=Same.lay1 (o:=.lst (cutV (ns.map V.int) none (some 63))) hp1 p _ at2;have ct3:=Same.lay1 (o:=.lst (cutV (ns.map V.int) none (some 63))) hp1 c _ D9;refine⟨p1,_,rfl,.inl (SqL.of D9),_,_,rfl,rfl,at3,dPot c 0 0 (1000003+((cutV (ns.map V.int) none (some 63)).length:Nat)),rfl,by show 4<=15;decide,?_⟩;rw[Uv];have ncp:c≠p:=λz=>by rw[z] at hc;rw[at1] at hc;cases hc
 refine q _ p c ns 0 0 _ (λb o e=>?_) hp cn D9 (by rw[C4 ncp];rw[ct3,cut]) ⟨hl63,by omega,by omega,by omega,?_⟩
 ·have nbp:b≠p:=λz=>by rw[z,hp] at e;cases e
  rw[C4 nbp];exact sm3 b o e
 ·rw[cut,B6];omega
theorem upd_id (h:H p=some o):upd H p o=H:=by
 funext b
 by_cases e:b=p
 ·rw[e,D9,h]
 ·rw[C4 e]
theorem NE (h:H p=some (.dK (dPot c a l s))):DGet H p (.str (A5 "cells")) (some (.ref c)):=RI (a:=a) (l:=l) (s:=s)▸DGet.k (k:=E2 (A5 "cells")) h
theorem dgAt (h:H p=some (.dK (dPot c a l s))):DGet H p (.str (A5 "at")) (some (.int a)):=RJ (c:=c) (l:=l) (s:=s)▸DGet.k (k:=E2 (A5 "at")) h
theorem F_ (h:H p=some (.dK (dPot c a l s))):DGet H p (.str (A5 "left")) (some (.int l)):=RK (c:=c) (a:=a) (s:=s)▸DGet.k (k:=E2 (A5 "left")) h
theorem Ga (h:H p=some (.dK (dPot c a l s))):DGet H p (.str (A5 "seed")) (some (.int s)):=RL (c:=c) (a:=a) (l:=l)▸DGet.k (k:=E2 (A5 "seed")) h
theorem Jf:(dPot c a l s).length<C2:=by show 4<C2;decide
theorem dpAt (h:H p=some (.dK (dPot c a l s))):DPut H p (.str (A5 "at")) (.int x) (upd H p (.dK (dPot c x l s))):=RN (c:=c) (a:=a) (l:=l) (s:=s)▸DPut.k (k:=E2 (A5 "at")) h Jf
theorem NF (h:H p=some (.dK (dPot c a l s))):DPut H p (.str (A5 "left")) (.int x) (upd H p (.dK (dPot c a x s))):=RO (c:=c) (a:=a) (l:=l) (s:=s)▸DPut.k (k:=E2 (A5 "left")) h Jf
theorem NG (h:H p=some (.dK (dPot c a l s))):DPut H p (.str (A5 "seed")) (.int x) (upd H p (.dK (dPot c a l x))):=RQ (c:=c) (a:=a) (l:=l) (s:=s)▸DPut.k (k:=E2 (A5 "seed")) h Jf
theorem Ux (F:Fn0 K mg "_law_next" (top 24))(m_len:mg "len"=none)(m_int:mg "int"=none):Kn P w K mg base "_law_next" 1 ["_law_draws","_law_many"] (E5 K potD Dl):=by
 refine RU ?_;have sc:U7 ["_law_draws","_law_many","_law_cell","_law_digit"] ["_law_draws","_law_many"] (G5 (top 24)):=⟨rfl,rfl,rfl,by decide +kernel,rfl,by decide +kernel,by decide +kernel⟩;refine F.ok sc (λvs H Q E h=>?_) (λ_ _ _ _ _ _=>bd2 λ_ _=>rfl) (λf jn A outer s H vs Q E hr h=>?_)
 ·obtain⟨p,c,cells,a,l,s,many,rfl,_⟩:=h
  rfl
 obtain⟨p,c,cells,a,l,sd,many,rfl,hp,hc,⟨c63,a0,l0,s0,s1⟩,n0,n1,q⟩:=h;have hu:=hu_of hr
 refine⟨_,(p9 (Gy (PW.pt (Jy (CT op_eq (W7 hu (pv 0) N3 (λ_ _=>rfl)) O5 (C6 _)) (Jx (CT op_lt (W7 hu (pv 0) N3 (λ_ _=>rfl)) (h9 GP rfl m_len CW (G4 (W7 hu (pv 0) N3 (λ_ _=>rfl)) K3)) (C6 _)))))
       (p9 (GB (i:=2) sc.nd rfl (Or.inl rfl) (GN JM (W7 hu (pv 0) N3 (λ_ _=>rfl)) (W7 hu (pv 0) N3 (λ_ _=>rfl)) (λ_ _=>rfl)))
       (p9 (Dr hu (pv 0) N3 (N7 BE (W7 hu (pv 0) N3 (λ_ _=>rfl)) O5) rfl)
       (p9 (Dr hu (pv 0) N3 (N7 Az (N7 BE (N7 BE (N7 CS (W7 hu (pv 0) N3 (λ_ _=>rfl)) O5) (N7 Az (pv 2) (N7 Jz O5 O5))) O5) O5) rfl)
       (CN (Dr hu (pv 0) N3 (N7 CS (pv 2) (AD ON rfl m_int bt_int (G4 (JA op_ge (pv 2) (N7 Jz O5 O5) (C6 _)) K3))) rfl))))) Gw)
     (p9 (Gy (CT op_gt (W7 hu (pv 0) N3 (λ_ _=>rfl)) O5 (C6 _))
       (p9 (GB (i:=3) sc.nd rfl (Or.inl rfl) (N7 Az (W7 hu (pv 0) N3 (λ_ _=>rfl)) (pv 1)))
       (p9 (Dr hu (pv 0) N3 (N7 GE (W7 hu (pv 0) N3 (λ_ _=>rfl)) (pv 1)) rfl)
       (CN (CO (pv 3))))) Gw)
     (p9 (Dr hu (pv 0) N3 (N7 Az (N7 BE (N7 CS (W7 hu (pv 0) N3 (λ_ _=>rfl)) O5) O5) O5) rfl)
     (CN (CO (N7 Az (N7 GE (N7 Az (N7 CS (W7 hu (pv 0) N3 (λ_ _=>rfl)) (W7 hu (pv 0) N3 (λ_ _=>rfl))) O5) O5) (pv 1))))))),?_⟩
 have sl:(dPot c a l sd).length<C2:=by show 4<C2;decide
 have cp:c≠p:=λz=>by rw[z,hp] at hc;cases hc
 refine PB (λσ' H'=>∃a' l' s' s2,σ'=[some (.ref p),some (.int many),s2,none]/\DF cells a' l' s'/\H'=upd H p (.dK (dPot c a' l' s'))) (λkey=>?_) ?_
 ·have stay:=key _ _ ⟨a,l,sd,none,rfl,⟨c63,a0,l0,s0,s1⟩,(upd_id hp).symm⟩;refine⟨_,rfl,p,_,rfl,F_ hp,rfl,_,rfl,?_⟩;refine ite2 (λc1=>?_) (λc1=>stay);refine⟨_,rfl,p,_,rfl,dgAt hp,_,rfl,p,_,rfl,NE hp,c,_,rfl,.inl (SqL.of hc),_,_,rfl,rfl,_,rfl,?_⟩;refine ite2 (λc2=>?_) (λc2=>stay);have c2':a<(((cells.map V.int).length:Nat):Int):=ju c2;rw[B6] at c2';obtain⟨v,qa⟩:=at_map (ns:=cells) a0 c2';refine⟨_,rfl,p,_,rfl,NE hp,_,rfl,p,_,rfl,dgAt hp,c,_,_,_,rfl,rfl,SqL.of hc,qa,?_⟩;refine⟨_,rfl,p,_,rfl,dgAt hp,_,_,rfl,rfl,_,rfl,p,_,rfl,dpAt hp,?_⟩;refine⟨_,rfl,p,_,rfl,Ga D9,_,_,rfl,rfl,.inl ⟨by omega,by omega⟩,_,rfl,_,_,rfl,rfl,⟨by decide,by decide,by decide⟩,_,_,rfl,rfl,(by show(0:Int)<10 ^ Int.toNat 30;decide +kernel),_,_,rfl,rfl,_,_,rfl,rfl,_,_,rfl,rfl,(by show(0:Int)<2305843009213693951;decide),_,rfl,p,_,rfl,NG D9,?_⟩;rw[EE];refine⟨_,rfl,_,rfl,_,_,rfl,rfl,⟨by decide,by decide,by decide⟩,_,_,rfl,rfl,?_⟩;refine .inr ⟨_,rfl,?_⟩
  have hz:0<=v*(if decide ((10:Int) ^ Int.toNat 18<=v)=true then(1:Int) else 0):=by
   by_cases hb:(10:Int) ^ Int.toNat 18<=v
   ·rw[jr (jp hb),Int.mul_one];exact Int.le_trans (by decide +kernel) hb
   ·rw[jt (by simpa using hb),Int.mul_zero];exact Int.le_refl _
  have hz2:(0:Int)<=(if decide ((10:Int) ^ Int.toNat 18<=v)=true then(1:Int) else 0)/\(if decide ((10:Int) ^ Int.toNat 18<=v)=true then(1:Int) else 0)<2 ^ 64:=by split <;> decide
  refine⟨_,_,rfl,rfl,.inr ⟨by have:=hz2.1;omega,hz2.2⟩,_,rfl,p,_,rfl,NF D9,?_⟩;rw[EE];exact key _ _ ⟨_,_,_,_,rfl,⟨c63,by omega,hz,Br _ (by decide),Int.lt_of_lt_of_le (Bq _ (by decide)) (by decide)⟩,rfl⟩
 rintro σ' H' ⟨a',l',s',s2,rfl,⟨_,a0',l0',s0',s1'⟩,rfl⟩;refine⟨_,rfl,p,_,rfl,F_ D9,_,_,rfl,rfl,_,rfl,?_⟩;refine ite2 (λc1=>?_) (λc1=>?_)
 ·refine⟨_,rfl,p,_,rfl,F_ D9,_,rfl,_,_,rfl,rfl,n0,?_⟩;refine⟨_,rfl,p,_,rfl,F_ D9,_,rfl,_,_,rfl,rfl,⟨n0,by omega⟩,_,rfl,p,_,rfl,NF D9,?_⟩;rw[EE];refine⟨_,rfl,?_⟩;exact q _ _ _ _ (Br _ (by omega)) (Bq _ n0) ⟨c63,a0',Int.ediv_nonneg l0' (by omega),s0',s1'⟩
 ·refine⟨_,rfl,p,_,rfl,Ga D9,_,_,rfl,rfl,.inl ⟨by omega,by omega⟩,_,_,rfl,rfl,_,_,rfl,rfl,(by show(0:Int)<2305843009213693951;decide),_,rfl,p,_,rfl,NG D9,?_⟩;rw[EE];have m0:=Br (s'*1181783497276652981+12345678910987) (show(2305843009213693951:Int)≠0 by decide);have m1:=Bq (s'*1181783497276652981+12345678910987) (show(0:Int)<2305843009213693951 by decide);generalize (s'*1181783497276652981+12345678910987)%2305843009213693951=z at m0 m1 ⊢;refine⟨_,rfl,p,_,rfl,Ga D9,_,rfl,p,_,rfl,Ga D9,_,_,rfl,rfl,.inl ⟨by omega,by omega⟩,_,_,rfl,rfl,(by show(0:Int)<2305843009213693921;decide),_,_,rfl,rfl,⟨by decide,by decide⟩,_,rfl,_,_,rfl,rfl,n0,?_⟩;exact q _ _ _ _ (Br _ (by omega)) (Bq _ n0) ⟨c63,a0',l0',m0,by omega⟩
theorem Uy {Pt:A0}{lpos:Pos}{qual:Str}(F:Fn0 K mg "_law_next" (top 24))(m_len:mg "len"=none)(m_int:mg "int"=none):Kn P w K mg base "_law_next" 1 ["_law_draws","_law_many"] (E5 K (tabK potD Pt lpos qual) BY):=RV (Ux F m_len m_int) rfl
end
end Tb
end
section
namespace Pu
open PySem PySem.Spec L2
section
variable {T:PotK}{ι:Type}{K:A9}{F:ι->Cx}{e:Expr}{es:List Expr}{st:Stmt}{pe:pE}{pl:pA}{pos:Pos}{np:Bool}{x:Str}
theorem qv (i:Nat)(h:∀z,EW (F z) (.Name x pos) (tVar i):=by exact λ_=>vw _):QE T K F (.Name x pos) (qV i):=qe_var i h
theorem qf {p:Pos}{f:pF}{ps:List Str}{k j:Nat}{P:D2}{w:C9}{K0:A9}{mg:Str->Option A1}{base:B7}{A:D8}(hG:Kn P w K0 mg base x k ps (E5 K T f))(hr:Room j A)(ha:QA T K F (e::es) pl)(hF:∀z,(F z).prog=P/\(F z).w=w/\(F z).K=K0/\(F z).mg=mg/\(F z).base=base/\(F z).A=A:=by exact λ_=>⟨rfl,rfl,rfl,rfl,rfl,rfl⟩)(hk:k<=j:=by decide)(hg:∀z,Gl (F z) x:=by intro _;rfl)(hdb:(x == ("__debug__":Str))=false:=by decide)(hs:F7 e=true:=by rfl)(hpl:∀z,(backTo pos (E6 es (F z).env)).any (·.1)=false:=by intro _;rfl):QE T K F (.Call (.Name x p) (e::es) [] pos) (C0 f pl):=qe_fn (λz=>by obtain⟨h1,h2,h3,h4,h5,_⟩:=hF z;rw[h1,h2,h3,h4,h5];exact hG) (λz=>by rw[(hF z).2.2.2.2.2];exact hr) hk hg ha hdb hs hpl
theorem gn (i:Nat){N:List Str}(hN:N.Nodup)(hNF:∀z,(F z).N=N:=by exact λ_=>rfl)(hi:∀z,(F z).N[i]?=some x:=by intro _;rfl)(hx:∀z,Loc (F z).env.scope x:=by intro _;first|exact Or.inl rfl|exact Or.inr rfl)(hf:∀z,(F z).fn x=true\/(F z).env.scope.names.lookup x=some .local:=by intro _;first|exact .inl rfl|exact .inr rfl|assumption):QG K F (.Name x pos) (gN i):=PR λz=>Hi i (hNF z▸hN) (hi z) (hx z) (hf z)
theorem sws (i:Nat){pos':Pos}{N:List Str}(hN:N.Nodup)(hNF:∀z,(F z).N=N:=by exact λ_=>rfl)(hi:∀z,(F z).N[i]?=some x:=by intro _;rfl)(hx:∀z,Loc (F z).env.scope x:=by intro _;first|exact Or.inl rfl|exact Or.inr rfl)(hs:∀z,l6 e (some (.Name x pos')) pos.line (F z).env=pure false:=by intro _;rfl)(hf:∀z,(F z).fn x=true\/(F z).env.scope.names.lookup x=some .local:=by intro _;first|exact .inl rfl|exact .inr rfl|assumption)(z:ι)(te:TE)(h:EW (F z) e te):SW (F z) (.Assign [.Name x pos'] e pos) (tAsg te (P2 i)):=sw_set (hNF z▸hN) (hi z) (hx z) (hs z) (hf z) te h
end
section
variable {P:D2}{w:C9}{K:A9}{mg:Str->Option A1}{base:B7}{T:PotK}{x:Str}{st:Stmt}{N ps:List Str}{k:Nat}{body:pS}
theorem fnk (F0:Fn0 K mg x st)(h:U7 N ps (G5 st)->∀(f:A0) (jn:A1) (A:D8) (outer:List PySem.Env) (s:A6) (H:Hp) (E:XK),Room k (A.deeper (Es x (G5 st) s.heap.objs.size f jn))->
     QSs T false K (λ_:Unit=>(cxOf CX0 P w K mg base N x (G5 st) f jn A outer s H E).nox) (O6 st) body) (sc:U7 N ps (G5 st):=by exact⟨rfl,rfl,rfl,by decide +kernel,rfl,by decide +kernel,by decide +kernel⟩)
   (bd:∀(kV doc pm:A1) (an:Option A0) (jn ct:A1) (us:List A1),us.length=ps.length->Y1 (X3 x x (U8 st) (O6 st) (G5 st) .none kV doc pm an jn ct) ⟨us,[]⟩=pure (ps.zip us):=by intro _ _ _ _ _ _;first|exact bd1 λ_=>rfl|exact bd2 λ_ _=>rfl|exact bd3 λ_ _ _=>rfl|exact bd4 λ_ _ _ _=>rfl|exact bd5 λ_ _ _ _ _=>rfl) :
   Kn P w K mg base x (k+1) ps (E5 K T (fnP N ps body)):=fn_ok F0 sc bd (h sc)
end
end Pu
end
section
namespace Tb
open PySem L2 Pu
section
variable (P:D2)(w:C9)(K:A9)(mg:Str->Option A1)(base:B7)(Pt:A0)
abbrev Uz:Prop:=Kn P w K mg base "_law_begin" 1 ["_law_script"] (Fn K)
abbrev AZ:Prop:=Kn P w K mg base "_law_next" 1 ["_law_draws","_law_many"] (E5 K (tabK potD Pt lamP lamQ) BY)
abbrev NH:Prop:=Kn P w K mg base "_law_names" 2 ["_law_draws","_law_many"] (E5 K (tabK potD Pt lamP lamQ) IJ)
abbrev NI:Prop:=Kn P w K mg base "_law_meet" 3 ["_law_draws","_law_most"] (E5 K (tabK potD Pt lamP lamQ) IK)
abbrev Jg:Prop:=Kn P w K mg base "_law_span" 1 ["_law_meeting","_law_n","_law_k"] (E5 K (tabK potD Pt lamP lamQ) FH)
abbrev NJ:Prop:=Kn P w K mg base "_law_sheet" 1 ["_law_start","_law_marks"] (E5 K (tabK potD Pt lamP lamQ) IL)
abbrev Jh:Prop:=Kn P w K mg base "_law_races" 1 ["_law_meeting","_law_n"] (E5 K (tabK potD Pt lamP lamQ) DO)
abbrev NK:Prop:=Kn P w K mg base "_law_word" 2 ["_law_draws","_law_many","_law_reach"] (E5 K (tabK potD Pt lamP lamQ) IM)
abbrev Ji:Prop:=Kn P w K mg base "_law_after" 1 ["_law_start","_law_sheet_here"] (E5 K (tabK potD Pt lamP lamQ) DQ)
abbrev NL:Prop:=Kn P w K mg base "_law_day" 3 ["_law_draws","_law_meeting","_law_row"] (E5 K (tabK potD Pt lamP lamQ) IN)
abbrev Jj:Prop:=Kn P w K mg base "_law_places" 1 ["_law_start","_law_event"] (E5 K (tabK potD Pt lamP lamQ) Ae)
abbrev Jk:Prop:=Kn P w K mg base "_law_cross" 2 ["_law_start","_law_one","_law_other"] (E5 K (tabK potD Pt lamP lamQ) Af)
abbrev NM:Prop:=Kn P w K mg base "_law_is_sound" 3 ["_law_start","_law_reach","_law_sheet_here"] (E5 K (tabK potD Pt lamP lamQ) FI)
abbrev NN:Prop:=Kn P w K mg base "_law_is_reason" 3 ["_law_start","_law_reach","_law_sheet_here","_law_reason"] (E5 K (tabK potD Pt lamP lamQ) FJ)
abbrev NO:Prop:=Kn P w K mg base "_law_right" 4 ["_law_meeting","_law_row","_law_day_here","_law_told"] (E5 K (tabK potD Pt lamP lamQ) FK)
abbrev Jl:Prop:=Kn P w K mg base "_law_strange" 1 ["_law_row"] (E5 K (tabK potD Pt lamP lamQ) Ce)
abbrev NP:Prop:=Kn P w K mg base "_law_new_event" 2 ["_law_draws","_law_row"] (E5 K (tabK potD Pt lamP lamQ) DR)
abbrev NQ:Prop:=Kn P w K mg base "_law_changed_sheet" 3 ["_law_draws","_law_row","_law_sheet_here"] (E5 K (tabK potD Pt lamP lamQ) FM)
abbrev NR:Prop:=Kn P w K mg base "_law_changed" 4 ["_law_draws","_law_row","_law_day_here"] (E5 K (tabK potD Pt lamP lamQ) IP)
abbrev NT:Prop:=Kn P w K mg base "races_of" 1 ["meeting","n"] (E5 K (tabK potD Pt lamP lamQ) FN)
abbrev Gb:Prop:=Kn P w K mg base "boats_of" 1 ["events"] (E5 K (tabK potD Pt lamP lamQ) Cf)
abbrev NU:Prop:=Kn P w K mg base "boat_reason" 2 ["start","sheet"] (E5 K (tabK potD Pt lamP lamQ) FO)
abbrev Gc:Prop:=Kn P w K mg base "touches_of" 1 ["events"] (E5 K (tabK potD Pt lamP lamQ) AX)
abbrev NV:Prop:=Kn P w K mg base "is_wrong" 1 ["start","touch"] (E5 K (tabK potD Pt lamP lamQ) IQ)
abbrev DU:Prop:=Kn P w K mg base "between" 1 ["start","touch"] (E5 K (tabK potD Pt lamP lamQ) k8)
abbrev NW:Prop:=Kn P w K mg base "is_far" 2 ["start","reach","touch"] (E5 K (tabK potD Pt lamP lamQ) IR)
abbrev NX:Prop:=Kn P w K mg base "touch_reason" 3 ["start","reach","sheet","touch"] (E5 K (tabK potD Pt lamP lamQ) FP)
abbrev NY:Prop:=Kn P w K mg base "is_cross" 2 ["start","one","other"] (E5 K (tabK potD Pt lamP lamQ) FQ)
abbrev NZ:Prop:=Kn P w K mg base "cross_reason" 3 ["start","touch","touches"] (E5 K (tabK potD Pt lamP lamQ) FR)
abbrev N_:Prop:=Kn P w K mg base "reason_of" 4 ["start","reach","sheet"] (E5 K (tabK potD Pt lamP lamQ) FS)
abbrev Oa:Prop:=Kn P w K mg base "order_of" 5 ["start","reach","sheet"] (E5 K (tabK potD Pt lamP lamQ) IT)
abbrev Jm:Prop:=Kn P w K mg base "span" 1 ["meeting","n","k"] (E5 K (tabK potD Pt lamP lamQ) FT)
abbrev Ob:Prop:=Kn P w K mg base "put_on" 2 ["meeting","row","k","boats"] (E5 K (tabK potD Pt lamP lamQ) IU)
abbrev Oc:Prop:=Kn P w K mg base "exchanged" 1 ["row","one","other"] (E5 K (tabK potD Pt lamP lamQ) IV)
abbrev Od:Prop:=Kn P w K mg base "row_behind" 2 ["start","sheet"] (E5 K (tabK potD Pt lamP lamQ) IW)
abbrev Jn:Prop:=Kn P w K mg base "start_on" 2 ["meeting","row","k"] (E5 K (tabK potD Pt lamP lamQ) FU)
abbrev Oe:Prop:=Kn P w K mg base "raced" 3 ["meeting","row","k","sheet"] (E5 K (tabK potD Pt lamP lamQ) IX)
abbrev Of:Prop:=Kn P w K mg base "day_behind" 6 ["meeting","row","day"] (E5 K (tabK potD Pt lamP lamQ) FV)
end
section
variable {P:D2}{w:C9}{K:A9}{mg:Str->Option A1}{base:B7}{Pt cd:A0}
theorem UA (F0:Fn0 K mg "_law_names" (top 25))(g1:AZ P w K mg base Pt)(m8:mg "range"=none)(m13:mg "tuple"=none):NH P w K mg base Pt:=fnk F0 λsc _ _ _ _ _ _ _ hr=>(B4 (Qd 2 3 (λ_=>R0) (λ_=>gw_two K 2 3 rfl (Hi 2 sc.nd rfl (Or.inl rfl)) (Hi 3 sc.nd rfl (Or.inl rfl))) (ql_v D6) (ql_v D6))
   (B4 (G6 4 (sws 4 sc.nd) (B9 (QN.ee (O7 (A4 B2 (A4 B2 (A4 B2 (A4 B2 (A4 B2 (A4 B2 (A4 B2 (A4 B2 (A4 B2 (A4 B2 B3)))))))))))) (qf g1 hr (A4 (qv 0) (A4 B2 B3)))))
   (B4 (G6 5 (sws 5 sc.nd) (qf g1 hr (A4 (qv 0) (A4 B2 B3))))
   (B4 (Q2 (λ_=>rfl) (Dg (λ_=>rfl) (λ_=>m8) B2) (gn 6 sc.nd) (B5 (G6 3 (sws 3 sc.nd) (J9 (qv 3) (B9 (qv 2) (qf g1 hr (A4 (qv 0) (A4 B2 B3))))))))
   (B4 (G6 7 (sws 7 sc.nd) (qf g1 hr (A4 (qv 0) (A4 B2 B3))))
   (B4 (BL 8 (sws 8 sc.nd) (O7 B3))
   (B4 (Q2 (λ_=>rfl) (Dg (λ_=>rfl) (λ_=>m8) (qv 1)) (gn 6 sc.nd) (B4 (j6 9 10 (λ_=>j3 (i:=9) (j:=10) rfl sc.nd rfl rfl (by decide) rfl rfl rfl) (ql_v (J9 (qv 7) (qf g1 hr (A4 (qv 0) (A4 (Z4 B2 (qv 7)) B3))))) (ql_v (B9 (qv 2) (qe_mod (J9 (qv 5) (GY (qv 4) (qv 6))) B2))))
   (B5 (P5 (λ_=>P4) (V0 8 (λ_=>vw 8) (J9 (J9 (P3 (qv 3) W3 (L5 (qv 7))) (qv 10)) (P3 (qv 3) (L5 (qv 7)) (L5 (qv 9)))))))))
   (B4 (G6 11 (sws 11 sc.nd) (B9 (QN.ee (O7 (A4 D6 (A4 D6 (A4 D6 (A4 D6 (A4 D6 (A4 D6 (A4 D6 B3))))))))) (qf g1 hr (A4 (qv 0) (A4 B2 B3)))))
   (B4 (E4 (QW.qt (AI (D3 (i3 4 λ_=>hr) (qv 11) (M2 8 λ_=>vw 8) rfl) (AH (D3 (cEq 4 λ_=>hr) (qf g1 hr (A4 (qv 0) (A4 B2 B3))) (QE.r B2) (C6 _))))) (B5 (BM 8 (λ_=>R0) (qv 11) (λ_=>j7 (vw 8)) (qf g1 hr (A4 (qv 0) (A4 (qv 1) B3))))) F8)
   (B5 (D0 (i7 (λ_=>rfl) (λ_=>m13) (M2 8 λ_=>vw 8)))))))))))))
theorem UB (F0:Fn0 K mg "_law_meet" (top 32))(g1:AZ P w K mg base Pt)(g2:NH P w K mg base Pt)(m7:mg "min"=none):NI P w K mg base Pt:=fnk F0 λsc _ _ _ _ _ _ _ hr=>(B4 (G6 2 (sws 2 sc.nd) (J4 (A4 (J9 B2 (qf g1 hr (A4 (qv 0) (A4 B2 B3)))) (A4 (B9 (QN.ee (O7 (A4 B2 (A4 B2 (A4 B2 (A4 (qf g1 hr (A4 (qv 0) (A4 B2 B3))) B3)))))) (qf g1 hr (A4 (qv 0) (A4 B2 B3)))) B3))))
   (B4 (G6 3 (sws 3 sc.nd) (B9 (QN.ee (O7 (A4 (J9 B2 (qf g1 hr (A4 (qv 0) (A4 (qv 1) B3)))) (A4 (J9 B2 (qf g1 hr (A4 (qv 0) (A4 (Hh (λ_=>rfl) (λ_=>rfl) (λ_=>m7) (qv 1) B2) B3)))) B3)))) (qf g1 hr (A4 (qv 0) (A4 B2 B3)))))
   (B5 (D0 (J4 (A4 (qv 2) (A4 (qf g2 hr (A4 (qv 0) (A4 (qv 3) B3))) B3)))))))
theorem UC (F0:Fn0 K mg "_law_span" (top 26)):Jg P w K mg base Pt:=fnk F0 λsc _ _ _ _ _ _ _ hr=>(B4 (G6 3 (sws 3 sc.nd) (B9 (qv 0) B2))
   (B4 (G6 4 (sws 4 sc.nd) (GY (qv 2) (qv 3)))
   (B5 (D0 (J4 (A4 (qv 4) (A4 (qe_if (D3 cLt (J9 (qv 4) (qv 3)) (QE.r (qv 1)) (C6 _)) (J9 (qv 4) (qv 3)) (Z4 (qv 1) B2)) B3)))))))
theorem UD (F0:Fn0 K mg "_law_sheet" (top 29))(m12:mg "sorted"=none)(m13:mg "tuple"=none)(m14:mg "zip"=none):NJ P w K mg base Pt:=fnk F0 λsc _ _ _ _ _ _ _ hr=>(B4 (j6 2 3 (λ_=>j3 (i:=2) (j:=3) rfl sc.nd rfl rfl (by decide) rfl rfl rfl) (ql_o (O7 B3)) (ql_o (O7 B3)))
   (B4 (Q2 (λ_=>rfl) (qi_zip false true (λ_=>rfl) (λ_=>m14) (qv 0) (qv 1)) (i8 (λ_=>rfl) (M7 (gn 4 sc.nd) (M7 (gn 5 sc.nd) Z5))) (B5 (E4 (D3 (cEq 4 λ_=>hr) (qv 5) (QE.r D6) (C6 _)) (B5 (P5 (λ_=>P4) (V0 2 (λ_=>vw 2) (qv 4)))) (B5 (E4 (D3 (cEq 4 λ_=>hr) (qv 5) (QE.r D6) (C6 _)) (B5 (P5 (λ_=>P4) (V0 3 (λ_=>vw 3) (J4 (A4 D6 (A4 (qv 4) (A4 (Ho 2 λ_=>vw 2) B3))))))) (B5 (E4 (D3 (cEq 4 λ_=>hr) (qv 5) (QE.r D6) (C6 _)) (B5 (P5 (λ_=>P4) (V0 3 (λ_=>vw 3) (J4 (A4 D6 (A4 (qv 4) B3)))))) F8)))))))
   (B5 (D0 (i7 (λ_=>rfl) (λ_=>m13) (QE.r (QN.ee (Lu (λ_=>rfl) (λ_=>m12) (M2 3 λ_=>vw 3)))))))))
theorem UE (F0:Fn0 K mg "_law_races" (top 27)):Jh P w K mg base Pt:=fnk F0 λsc _ _ _ _ _ _ _ hr=>(B5 (D0 (Kc (Z4 (J9 (qv 1) (B9 (qv 0) B2)) B2) (B9 (qv 0) B2))))
theorem UF (F0:Fn0 K mg "_law_word" (top 28))(g1:AZ P w K mg base Pt)(m8:mg "range"=none):NK P w K mg base Pt:=fnk F0 λsc _ _ _ _ _ _ _ hr=>(B4 (j6 3 4 (λ_=>j3 (i:=3) (j:=4) rfl sc.nd rfl rfl (by decide) rfl rfl rfl) (ql_o (O7 B3)) (ql_o (O7 B3)))
   (B4 (Q2 (λ_=>rfl) (Dg (λ_=>rfl) (λ_=>m8) (qv 1)) (gn 5 sc.nd) (B4 (Qa (QW.qt (AI (EN (cNe 4 λ_=>hr) (M2 4 λ_=>vw 4) (QE.r (QN.ee (O7 B3))) (C6 _)) (AH (D3 cGt (Z4 (Z4 (qv 5) (Df (M2 4 λ_=>vw 4) (qe_neg B2))) B2) (QE.r (qv 2)) (C6 _))))) (B5 (BM 3 (λ_=>R0) D6 (λ_=>j7 (vw 3)) (Ho 4 λ_=>vw 4))))
   (B4 (G6 6 (sws 6 sc.nd) (qf g1 hr (A4 (qv 0) (A4 B2 B3))))
   (B5 (E4 (QW.qt (AI (EN (cNe 4 λ_=>hr) (M2 4 λ_=>vw 4) (QE.r (QN.ee (O7 B3))) (C6 _)) (AH (D3 cLt (qv 6) (QE.r B2) (C6 _))))) (B4 (BM 3 (λ_=>R0) D6 (λ_=>j7 (vw 3)) (Ho 4 λ_=>vw 4))
   (B5 (P5 (λ_=>P4) (V0 3 (λ_=>vw 3) D6)))) (B5 (E4 (QW.qt (W0 (D3 (cEq 4 λ_=>hr) (qv 6) (QE.r B2) (C6 _)) (t9 (D3 (cEq 4 λ_=>hr) (qv 6) (QE.r B2) (C6 _))))) (B4 (P5 (λ_=>P4) (V0 4 (λ_=>vw 4) (qv 5)))
   (B5 (P5 (λ_=>P4) (V0 3 (λ_=>vw 3) D6)))) (B5 (P5 (λ_=>P4) (V0 3 (λ_=>vw 3) (qe_if (EN (cNe 4 λ_=>hr) (M2 4 λ_=>vw 4) (QE.r (QN.ee (O7 B3))) (C6 _)) D6 (B9 (QN.ee (O7 (A4 D6 (A4 D6 (A4 D6 B3))))) (qf g1 hr (A4 (qv 0) (A4 B2 B3)))))))))))))))
   (B5 (P_ 3 λ_=>vw 3))))
theorem UG (F0:Fn0 K mg "_law_after" (top 30))(m5:mg "list"=none)(m13:mg "tuple"=none):Ji P w K mg base Pt:=fnk F0 λsc _ _ _ _ _ _ _ hr=>(B4 (BL 2 (sws 2 sc.nd) (ER (λ_=>rfl) (λ_=>m5) (QE.r (qv 0))))
   (B4 (Q2 (λ_=>rfl) (X7 (qv 1)) (gn 3 sc.nd) (B5 (E4 (D3 (cEq 4 λ_=>hr) (B9 (qv 3) B2) (QE.r D6) (C6 _)) (B4 (BM 2 (λ_=>R0) (B9 (qv 3) B2) (λ_=>j7 (vw 2)) (X9 (qv 0) (B9 (qv 3) B2)))
   (B5 (BM 2 (λ_=>R0) (B9 (qv 3) B2) (λ_=>j7 (vw 2)) (X9 (qv 0) (B9 (qv 3) B2))))) F8)))
   (B5 (D0 (i7 (λ_=>rfl) (λ_=>m13) (M2 2 λ_=>vw 2))))))
theorem UH (F0:Fn0 K mg "_law_day" (top 31))(g6:Jh P w K mg base Pt)(g4:Jg P w K mg base Pt)(g7:NK P w K mg base Pt)(g5:NJ P w K mg base Pt)(g8:Ji P w K mg base Pt)(m4:mg "len"=none)(m8:mg "range"=none)(m10:mg "reversed"=none)(m13:mg "tuple"=none):NL P w K mg base Pt:=fnk F0 λsc _ _ _ _ _ _ _ hr=>(B4 (j6 3 4 (λ_=>j3 (i:=3) (j:=4) rfl sc.nd rfl rfl (by decide) rfl rfl rfl) (ql_o (O7 B3)) (ql_o (O7 B3)))
   (B4 (Q2 (λ_=>rfl) (Ib (λ_=>rfl) (λ_=>m10) (λ_=>rfl) (λ_=>m8) (qf g6 hr (A4 (qv 1) (A4 (L6 (λ_=>rfl) (λ_=>m4) (QE.r (qv 2))) B3)))) (gn 5 sc.nd) (B4 (u3 (λ_=>R0) (qf g4 hr (A4 (qv 1) (A4 (L6 (λ_=>rfl) (λ_=>m4) (QE.r (qv 2))) (A4 (qv 5) B3)))) (i8 (λ_=>rfl) (M7 (gn 6 sc.nd) (M7 (gn 7 sc.nd) Z5))))
   (B4 (G6 8 (sws 8 sc.nd) (P3 (qv 2) (L5 (qv 6)) (L5 (J9 (qv 7) B2))))
   (B4 (G6 9 (sws 9 sc.nd) (qf g5 hr (A4 (qv 8) (A4 (qf g7 hr (A4 (qv 0) (A4 (L6 (λ_=>rfl) (λ_=>m4) (QE.r (qv 8))) (A4 (B9 (qv 1) B2) B3)))) B3))))
   (B4 (G6 2 (sws 2 sc.nd) (J9 (J9 (P3 (qv 2) W3 (L5 (qv 6))) (qf g8 hr (A4 (qv 8) (A4 (qv 9) B3)))) (P3 (qv 2) (L5 (J9 (qv 7) B2)) W3)))
   (B4 (P5 (λ_=>P4) (Ih 3 (λ_=>vw 3) B2 (qv 9)))
   (B5 (P5 (λ_=>P4) (Ih 4 (λ_=>vw 4) B2 (qv 8))))))))))
   (B5 (D0 (J4 (A4 (i7 (λ_=>rfl) (λ_=>m13) (M2 3 λ_=>vw 3)) (A4 (i7 (λ_=>rfl) (λ_=>m13) (M2 4 λ_=>vw 4)) (A4 (qv 2) B3))))))))
theorem UI (F0:Fn0 K mg "_law_places" (top 37))(m6:mg "max"=none)(m7:mg "min"=none):Jj P w K mg base Pt:=fnk F0 λsc _ _ _ _ _ _ _ hr=>(B4 (E4 (QW.qt (W0 (D3 (cNe 4 λ_=>hr) (B9 (qv 1) B2) (QE.r D6) (C6 _)) (W0 (D3 (i3 4 λ_=>hr) (B9 (qv 1) B2) (QE.r (qv 0)) rfl) (t9 (D3 (i3 4 λ_=>hr) (B9 (qv 1) B2) (QE.r (qv 0)) rfl))))) (B5 (D0 V9)) F8)
   (B4 (j6 2 3 (λ_=>j3 (i:=2) (j:=3) rfl sc.nd rfl rfl (by decide) rfl rfl rfl) (ql_v (X9 (qv 0) (B9 (qv 1) B2))) (ql_v (X9 (qv 0) (B9 (qv 1) B2))))
   (B5 (D0 (J4 (A4 (Hh (λ_=>rfl) (λ_=>rfl) (λ_=>m7) (qv 2) (qv 3)) (A4 (qe_max (λ_=>rfl) (λ_=>rfl) (λ_=>m6) (qv 2) (qv 3)) B3)))))))
theorem UJ (F0:Fn0 K mg "_law_cross" (top 38))(g10:Jj P w K mg base Pt)(m4:mg "len"=none)(m11:mg "set"=none):Jk P w K mg base Pt:=fnk F0 λsc _ _ _ _ _ _ _ hr=>(B4 (j6 3 4 (λ_=>j3 (i:=3) (j:=4) rfl sc.nd rfl rfl (by decide) rfl rfl rfl) (ql_v (qf g10 hr (A4 (qv 0) (A4 (qv 1) B3)))) (ql_v (qf g10 hr (A4 (qv 0) (A4 (qv 2) B3)))))
   (B4 (E4 (QW.qt (W0 (D3 cIs (qv 3) (QE.r V9) (C6 _)) (W0 (D3 cIs (qv 4) (QE.r V9) (C6 _)) (t9 (D3 cLt (Tz (λ_=>rfl) (λ_=>rfl) (λ_=>m4) (λ_=>rfl) (λ_=>m11) (J9 (P3 (qv 1) (L5 B2) W3) (P3 (qv 2) (L5 B2) W3))) (QE.r B2) (C6 _)))))) (B5 (D0 Z3)) F8)
   (B5 (D0 (N4 (cNe 4 λ_=>hr) (Kj cLt cLt (B9 (qv 3) B2) (B9 (qv 4) B2) (B9 (qv 3) B2)) (QE.r (Kj cLt cLt (B9 (qv 3) B2) (B9 (qv 4) B2) (B9 (qv 3) B2))) (C6 _))))))
theorem UK (F0:Fn0 K mg "_law_is_sound" (top 40))(g11:Jk P w K mg base Pt)(m0:mg "all"=none)(m1:mg "any"=none)(m4:mg "len"=none)(m11:mg "set"=none):NM P w K mg base Pt:=fnk F0 λsc _ _ _ _ _ _ _ hr=>(B4 (BL 3 (sws 3 sc.nd) (O7 B3))
   (B4 (Q2 (λ_=>rfl) (X7 (qv 2)) (gn 4 sc.nd) (B5 (P5 (λ_=>P4) (Mr 3 (λ_=>vw 3) (P3 (qv 4) (L5 B2) W3)))))
   (B4 (Hs 3 (E4 (QW.qt (W0 (D3 cLt (Mp (λ_=>rfl) (λ_=>rfl) (λ_=>m4) (λ_=>rfl) (λ_=>m11) (qv 3)) (QE.r (L6 (λ_=>rfl) (λ_=>m4) (QE.r (qv 3)))) (C6 _)) (t9 (Dd (t7 (Km (λ_=>rfl) (λ_=>rfl) (λ_=>m0) (QE.r (QN.ee (Di (N:=["_law_boat","_law_start"]) (cs:=[none,some 0]) (λ_=>y0 rfl rfl rfl rfl ⟨rfl,trivial⟩ rfl rfl rfl) (λ_=>rfl) (BK (qv 3)) (gn 0 (show Y7 (["_law_boat","_law_start"]:List Str) by decide +kernel)) Hj (N4 (cIn 4 λ_=>hr) (qv 0) (QE.r (qv 1)) rfl)))))))))) (B5 (D0 Z3)) F8))
   (B4 (Q2 (λ_=>rfl) (X7 (qv 2)) (gn 4 sc.nd) (B5 (E4 (D3 (cEq 4 λ_=>hr) (B9 (qv 4) B2) (QE.r D6) (C6 _)) (B4 (j6 5 6 (λ_=>j3 (i:=5) (j:=6) rfl sc.nd rfl rfl (by decide) rfl rfl rfl) (ql_v (X9 (qv 0) (B9 (qv 4) B2))) (ql_v (X9 (qv 0) (B9 (qv 4) B2))))
   (B4 (E4 (QW.qt (W0 (D3 cGt (qv 5) (QE.r (qv 6)) (C6 _)) (t9 (D3 cGt (Z4 (Z4 (qv 6) (qv 5)) B2) (QE.r (qv 1)) (C6 _))))) (B5 (D0 Z3)) F8)
   (B4 (E4 (Dd (t7 (Km (λ_=>rfl) (λ_=>rfl) (λ_=>m0) (QE.r (QN.ee (Di (N:=["_law_boat","_law_boats"]) (cs:=[none,some 3]) (λ_=>y0 rfl rfl rfl rfl ⟨rfl,trivial⟩ rfl rfl rfl) (λ_=>rfl) (X7 (P3 (qv 0) (L5 (J9 (qv 5) B2)) (L5 (qv 6)))) (gn 0 (show Y7 (["_law_boat","_law_boats"]:List Str) by decide +kernel)) Hj (N4 (cIn 4 λ_=>hr) (qv 0) (QE.r (qv 1)) rfl))))))) (B5 (D0 Z3)) F8)
   (B5 (E4 (t7 (qe_any (λ_=>rfl) (λ_=>rfl) (λ_=>m1) (QE.r (QN.ee (Di (N:=["_law_other","_law_start","_law_event"]) (cs:=[none,some 0,some 4]) (λ_=>y0 rfl rfl rfl rfl ⟨rfl,⟨rfl,trivial⟩⟩ rfl rfl rfl) (λ_=>rfl) (X7 (qv 2)) (gn 0 (show Y7 (["_law_other","_law_start","_law_event"]:List Str) by decide +kernel)) (Dh (QW.qt (AI (D3 (cEq 4 λ_=>hr) (B9 (qv 0) B2) (QE.r D6) (C6 _)) (AH (D3 (cNe 4 λ_=>hr) (qv 0) (QE.r (qv 2)) (C6 _)))))) (qf g11 hr (A4 (qv 1) (A4 (qv 2) (A4 (qv 0) B3))))))))) (B5 (D0 Z3)) F8))))) F8)))
   (B5 (D0 Z3))))))
theorem UL (F0:Fn0 K mg "_law_is_reason" (top 39))(g10:Jj P w K mg base Pt)(g11:Jk P w K mg base Pt)(m4:mg "len"=none):NN P w K mg base Pt:=fnk F0 λsc _ _ _ _ _ _ _ hr=>(B4 (BL 4 (sws 4 sc.nd) (O7 B3))
   (B4 (Q2 (λ_=>rfl) (X7 (qv 2)) (gn 5 sc.nd) (B5 (P5 (λ_=>P4) (Mr 4 (λ_=>vw 4) (P3 (qv 5) (L5 B2) W3)))))
   (B4 (E4 (D3 (cEq 4 λ_=>hr) (B9 (qv 3) B2) (QE.r D6) (C6 _)) (B5 (D0 (y7 (N4 (cEq 4 λ_=>hr) (L6 (λ_=>rfl) (λ_=>m4) (QE.r (qv 3))) (QE.r B2) (C6 _)) (y7 (N4 (cIn 4 λ_=>hr) (B9 (qv 3) B2) (M2 4 λ_=>vw 4) rfl) (AJ (N4 (i3 4 λ_=>hr) (B9 (qv 3) B2) (QE.r (qv 0)) rfl)))))) F8)
   (B4 (E4 (D3 (cEq 4 λ_=>hr) (B9 (qv 3) B2) (QE.r D6) (C6 _)) (B5 (Hs 4 (D0 (y7 (N4 (cEq 4 λ_=>hr) (L6 (λ_=>rfl) (λ_=>m4) (QE.r (qv 3))) (QE.r B2) (C6 _)) (AJ (N4 cGt (KG (qv 4) (B9 (qv 3) B2)) (QE.r B2) (C6 _))))))) F8)
   (B4 (E4 (QW.qt (W0 (D3 (i3 4 λ_=>hr) (B9 (qv 3) B2) (QE.r (qv 2)) rfl) (t9 (D3 cIs (qf g10 hr (A4 (qv 0) (A4 (B9 (qv 3) B2) B3))) (QE.r V9) (C6 _))))) (B5 (D0 Z3)) F8)
   (B4 (u3 (λ_=>R0) (qf g10 hr (A4 (qv 0) (A4 (B9 (qv 3) B2) B3))) (i8 (λ_=>rfl) (M7 (gn 6 sc.nd) (M7 (gn 7 sc.nd) Z5))))
   (B4 (E4 (D3 (cEq 4 λ_=>hr) (B9 (qv 3) B2) (QE.r D6) (C6 _)) (B5 (D0 (y7 (N4 (cEq 4 λ_=>hr) (L6 (λ_=>rfl) (λ_=>m4) (QE.r (qv 3))) (QE.r B2) (C6 _)) (AJ (N4 (cEq 4 λ_=>hr) (B9 (qv 0) (qv 6)) (QE.r (B9 (B9 (qv 3) B2) B2)) (C6 _)))))) F8)
   (B4 (E4 (D3 (cEq 4 λ_=>hr) (B9 (qv 3) B2) (QE.r D6) (C6 _)) (B5 (D0 (y7 (N4 (cEq 4 λ_=>hr) (L6 (λ_=>rfl) (λ_=>m4) (QE.r (qv 3))) (QE.r B2) (C6 _)) (AJ (N4 cGt (Z4 (Z4 (qv 7) (qv 6)) B2) (QE.r (qv 1)) (C6 _)))))) F8)
   (B4 (E4 (D3 (cEq 4 λ_=>hr) (B9 (qv 3) B2) (QE.r D6) (C6 _)) (B5 (D0 (y7 (N4 (cEq 4 λ_=>hr) (L6 (λ_=>rfl) (λ_=>m4) (QE.r (qv 3))) (QE.r B2) (C6 _)) (y7 (N4 (cIn 4 λ_=>hr) (B9 (qv 3) B2) (QE.r (P3 (qv 0) (L5 (J9 (qv 6) B2)) (L5 (qv 7)))) rfl) (AJ (N4 (i3 4 λ_=>hr) (B9 (qv 3) B2) (M2 4 λ_=>vw 4) rfl)))))) F8)
   (B4 (E4 (QW.qt (W0 (D3 (cNe 4 λ_=>hr) (B9 (qv 3) B2) (QE.r D6) (C6 _)) (W0 (D3 (cNe 4 λ_=>hr) (L6 (λ_=>rfl) (λ_=>m4) (QE.r (qv 3))) (QE.r B2) (C6 _)) (t9 (D3 (i3 4 λ_=>hr) (B9 (qv 3) B2) (QE.r (qv 2)) rfl))))) (B5 (D0 Z3)) F8)
   (B5 (D0 (qf g11 hr (A4 (qv 0) (A4 (B9 (qv 3) B2) (A4 (B9 (qv 3) B2) B3))))))))))))))))
theorem UM (F0:Fn0 K mg "_law_right" (top 41))(g6:Jh P w K mg base Pt)(g4:Jg P w K mg base Pt)(g12:NM P w K mg base Pt)(g13:NN P w K mg base Pt)(g8:Ji P w K mg base Pt)(m3:mg "isinstance"=none)(m4:mg "len"=none)(m8:mg "range"=none)(m9:mg "repr"=none)(m10:mg "reversed"=none)(m13:mg "tuple"=none):NO P w K mg base Pt:=fnk F0 λsc _ _ _ _ _ _ _ hr=>(B4 (G6 4 (sws 4 sc.nd) (qf g6 hr (A4 (qv 0) (A4 (L6 (λ_=>rfl) (λ_=>m4) (QE.r (qv 1))) B3))))
   (B4 (E4 (D3 (cNe 4 λ_=>hr) (L6 (λ_=>rfl) (λ_=>m4) (QE.r (qv 2))) (QE.r (qv 4)) (C6 _)) (B5 (D0 (N4 (cEq 4 λ_=>hr) (y9 (λ_=>hr) (λ_=>rfl) (λ_=>m9) (QE.r (qv 3))) (QE.r (y9 (λ_=>hr) (λ_=>rfl) (λ_=>m9) (QE.r (J4 (A4 D6 (A4 V9 (A4 (J4 (A4 D6 (A4 (qv 4) B3))) B3))))))) (C6 _)))) F8)
   (B4 (Q2 (λ_=>rfl) (Ib (λ_=>rfl) (λ_=>m10) (λ_=>rfl) (λ_=>m8) (qv 4)) (gn 5 sc.nd) (B4 (u3 (λ_=>R0) (qf g4 hr (A4 (qv 0) (A4 (L6 (λ_=>rfl) (λ_=>m4) (QE.r (qv 1))) (A4 (qv 5) B3)))) (i8 (λ_=>rfl) (M7 (gn 6 sc.nd) (M7 (gn 7 sc.nd) Z5))))
   (B4 (G6 8 (sws 8 sc.nd) (P3 (qv 1) (L5 (qv 6)) (L5 (J9 (qv 7) B2))))
   (B4 (E4 (Dd (t7 (qf g12 hr (A4 (qv 8) (A4 (B9 (qv 0) B2) (A4 (B9 (qv 2) (qv 5)) B3)))))) (B4 (E4 (QW.qt (W0 (Dd (t7 (Ko (n:="tuple") (by decide) (λ_=>rfl) (λ_=>m3) (qv 3) (λ_=>tyw rfl m13 GU)))) (W0 (D3 (cNe 4 λ_=>hr) (y9 (λ_=>hr) (λ_=>rfl) (λ_=>m9) (QE.r (P3 (qv 3) W3 (L5 B2)))) (QE.r (y9 (λ_=>hr) (λ_=>rfl) (λ_=>m9) (QE.r (J4 (A4 D6 (A4 (qv 5) B3)))))) (C6 _)) (t9 (D3 (cNe 4 λ_=>hr) (L6 (λ_=>rfl) (λ_=>m4) (QE.r (qv 3))) (QE.r B2) (C6 _)))))) (B5 (D0 Z3)) F8)
   (B5 (D0 (y7 (Ko (n:="tuple") (by decide) (λ_=>rfl) (λ_=>m3) (B9 (qv 3) B2) (λ_=>tyw rfl m13 GU)) (AJ (qf g13 hr (A4 (qv 8) (A4 (B9 (qv 0) B2) (A4 (B9 (qv 2) (qv 5)) (A4 (B9 (qv 3) B2) B3)))))))))) F8)
   (B5 (G6 1 (sws 1 sc.nd) (J9 (J9 (P3 (qv 1) W3 (L5 (qv 6))) (qf g8 hr (A4 (qv 8) (A4 (B9 (qv 2) (qv 5)) B3)))) (P3 (qv 1) (L5 (J9 (qv 7) B2)) W3))))))))
   (B5 (D0 (N4 (cEq 4 λ_=>hr) (y9 (λ_=>hr) (λ_=>rfl) (λ_=>m9) (QE.r (qv 3))) (QE.r (y9 (λ_=>hr) (λ_=>rfl) (λ_=>m9) (QE.r (J4 (A4 D6 (A4 (qv 1) B3)))))) (C6 _)))))))
theorem UN (F0:Fn0 K mg "_law_strange" (top 33)):Jl P w K mg base Pt:=fnk F0 λsc _ _ _ _ _ _ _ hr=>(B5 (D0 (B9 (QN.ee (Di (N:=["_law_letter","_law_row"]) (cs:=[none,some 0]) (λ_=>y0 rfl rfl rfl rfl ⟨rfl,trivial⟩ rfl rfl rfl) (λ_=>rfl) (qi_str D6) (gn 0 (show Y7 (["_law_letter","_law_row"]:List Str) by decide +kernel)) (Dh (D3 (i3 4 λ_=>hr) (qv 0) (QE.r (qv 1)) rfl)) (qv 0))) B2)))
theorem UO (F0:Fn0 K mg "_law_new_event" (top 34))(g1:AZ P w K mg base Pt)(g15:Jl P w K mg base Pt)(m4:mg "len"=none):NP P w K mg base Pt:=fnk F0 λsc _ _ _ _ _ _ _ hr=>(B4 (j6 2 3 (λ_=>j3 (i:=2) (j:=3) rfl sc.nd rfl rfl (by decide) rfl rfl rfl) (ql_v (qf g1 hr (A4 (qv 0) (A4 (J9 (L6 (λ_=>rfl) (λ_=>m4) (QE.r (qv 1))) B2) B3)))) (ql_v (qf g1 hr (A4 (qv 0) (A4 (J9 (L6 (λ_=>rfl) (λ_=>m4) (QE.r (qv 1))) B2) B3)))))
   (B4 (G6 4 (sws 4 sc.nd) (J9 (qv 1) (J4 (A4 (qf g15 hr (A4 (qv 1) B3)) B3))))
   (B4 (E4 (D3 (cEq 4 λ_=>hr) (qv 2) (QE.r (qv 3)) (C6 _)) (B5 (D0 (J4 (A4 D6 (A4 (B9 (qv 4) (qv 2)) B3))))) F8)
   (B5 (D0 (J4 (A4 D6 (A4 (B9 (qv 4) (qv 2)) (A4 (B9 (qv 4) (qv 3)) B3)))))))))
theorem UP (F0:Fn0 K mg "_law_changed_sheet" (top 35))(g1:AZ P w K mg base Pt)(g16:NP P w K mg base Pt)(g15:Jl P w K mg base Pt)(m4:mg "len"=none)(m5:mg "list"=none)(m11:mg "set"=none)(m12:mg "sorted"=none)(m13:mg "tuple"=none):NQ P w K mg base Pt:=fnk F0 λsc _ _ _ _ _ _ _ hr=>(B4 (j6 3 4 (λ_=>j3 (i:=3) (j:=4) rfl sc.nd rfl rfl (by decide) rfl rfl rfl) (ql_v (qf g1 hr (A4 (qv 0) (A4 B2 B3)))) (ql_o (ER (λ_=>rfl) (λ_=>m5) (QE.r (qv 2)))))
   (B4 (E4 (QW.qt (W0 (EN (cEq 4 λ_=>hr) (M2 4 λ_=>vw 4) (QE.r (QN.ee (O7 B3))) (C6 _)) (t9 (D3 (cEq 4 λ_=>hr) (qv 3) (QE.r B2) (C6 _))))) (B4 (P5 (λ_=>P4) (V0 4 (λ_=>vw 4) (qf g16 hr (A4 (qv 0) (A4 (qv 1) B3)))))
   (B5 (D0 (i7 (λ_=>rfl) (λ_=>m13) (QE.r (QN.ee (Mo (λ_=>rfl) (λ_=>hr) (λ_=>rfl) (λ_=>m12) (λ_=>rfl) (λ_=>m11) (M2 4 λ_=>vw 4)))))))) F8)
   (B4 (G6 5 (sws 5 sc.nd) (qf g1 hr (A4 (qv 0) (A4 (L6 (λ_=>rfl) (λ_=>m4) (M2 4 λ_=>vw 4)) B3))))
   (B4 (G6 6 (sws 6 sc.nd) (Kt 4 (λ_=>vw 4) (qv 5)))
   (B4 (E4 (D3 (cEq 4 λ_=>hr) (qv 3) (QE.r B2) (C6 _)) (B5 (P5 (λ_=>P4) (V0 4 (λ_=>vw 4) (qf g16 hr (A4 (qv 0) (A4 (qv 1) B3)))))) F8)
   (B4 (E4 (QW.qt (AI (D3 (cEq 4 λ_=>hr) (qv 3) (QE.r B2) (C6 _)) (AH (D3 (cEq 4 λ_=>hr) (B9 (qv 6) B2) (QE.r D6) (C6 _))))) (B5 (P5 (λ_=>P4) (V0 4 (λ_=>vw 4) (J4 (A4 D6 (A4 (B9 (qv 6) B2) (A4 (B9 (qv 6) B2) B3))))))) F8)
   (B4 (E4 (QW.qt (AI (D3 (cEq 4 λ_=>hr) (qv 3) (QE.r B2) (C6 _)) (AH (D3 (cEq 4 λ_=>hr) (B9 (qv 6) B2) (QE.r D6) (C6 _))))) (B4 (KI 7 (KH (N:=["_law_boat","_law_event"]) (cs:=[none,some 6]) (λ_=>y0 rfl rfl rfl rfl ⟨rfl,trivial⟩ rfl rfl rfl) (λ_=>rfl) (X7 (J9 (qv 1) (J4 (A4 (qf g15 hr (A4 (qv 1) B3)) B3)))) (gn 0 (show Y7 (["_law_boat","_law_event"]:List Str) by decide +kernel)) (Dh (D3 (cNe 4 λ_=>hr) (qv 0) (QE.r (B9 (qv 1) B2)) (C6 _))) (qv 0)) (λ_=>sc.nd) (λ_=>rfl) (λ_=>Or.inl rfl))
   (B5 (P5 (λ_=>P4) (V0 4 (λ_=>vw 4) (J4 (A4 D6 (A4 (B9 (qv 6) B2) (A4 (B9 (qv 7) (qf g1 hr (A4 (qv 0) (A4 (L6 (λ_=>rfl) (λ_=>m4) (QE.r (qv 7))) B3)))) B3)))))))) F8)
   (B4 (E4 (D3 (cEq 4 λ_=>hr) (qv 3) (QE.r B2) (C6 _)) (B5 (P5 (λ_=>P4) (V0 4 (λ_=>vw 4) (J4 (A4 D6 (A4 (B9 (qv 6) B2) B3)))))) F8)
   (B5 (D0 (i7 (λ_=>rfl) (λ_=>m13) (QE.r (QN.ee (Mo (λ_=>rfl) (λ_=>hr) (λ_=>rfl) (λ_=>m12) (λ_=>rfl) (λ_=>m11) (M2 4 λ_=>vw 4)))))))))))))))
theorem UQ (F0:Fn0 K mg "_law_changed" (top 36))(g1:AZ P w K mg base Pt)(g17:NQ P w K mg base Pt)(m4:mg "len"=none)(m5:mg "list"=none)(m13:mg "tuple"=none):NR P w K mg base Pt:=fnk F0 λsc _ _ _ _ _ _ _ hr=>(B4 (j6 3 4 (λ_=>j3 (i:=3) (j:=4) rfl sc.nd rfl rfl (by decide) rfl rfl rfl) (ql_v (qf g1 hr (A4 (qv 0) (A4 B2 B3)))) (ql_o (ER (λ_=>rfl) (λ_=>m5) (QE.r (qv 2)))))
   (B4 (G6 5 (sws 5 sc.nd) (qf g1 hr (A4 (qv 0) (A4 (L6 (λ_=>rfl) (λ_=>m4) (M2 4 λ_=>vw 4)) B3))))
   (B4 (E4 (D3 (cEq 4 λ_=>hr) (qv 3) (QE.r B2) (C6 _)) (B5 (P5 (λ_=>P4) (Kt 4 (λ_=>vw 4) (qv 5)))) (B5 (E4 (QW.qt (AI (D3 (cEq 4 λ_=>hr) (qv 3) (QE.r B2) (C6 _)) (AH (D3 cLt (L6 (λ_=>rfl) (λ_=>m4) (M2 4 λ_=>vw 4)) (QE.r B2) (C6 _))))) (B5 (P5 (λ_=>P4) (Ih 4 (λ_=>vw 4) (qv 5) (B9 (QN.ee (O7 (A4 (J4 B3) (A4 (Df (M2 4 λ_=>vw 4) (qv 5)) B3)))) (qf g1 hr (A4 (qv 0) (A4 B2 B3))))))) (B5 (E4 (D3 (cEq 4 λ_=>hr) (qv 3) (QE.r B2) (C6 _)) (B4 (G6 6 (sws 6 sc.nd) (qf g1 hr (A4 (qv 0) (A4 (L6 (λ_=>rfl) (λ_=>m4) (M2 4 λ_=>vw 4)) B3))))
   (B5 (LG 4 (λ_=>R0) (λ_ _ _ h1 h2=>LF K rfl (j7 (vw 4) (by intro _;rfl) _ h1) (j7 (vw 4) (by intro _;rfl) _ h2)) (Df (M2 4 λ_=>vw 4) (qv 6)) (Df (M2 4 λ_=>vw 4) (qv 5)) (qv 5) (qv 6)))) (B5 (BM 4 (λ_=>R0) (qf g17 hr (A4 (qv 0) (A4 (qv 1) (A4 (Df (M2 4 λ_=>vw 4) (qv 5)) B3)))) (λ_=>j7 (vw 4)) (qv 5))))))))
   (B5 (D0 (i7 (λ_=>rfl) (λ_=>m13) (M2 4 λ_=>vw 4)))))))
theorem UR (F0:Fn0 K mg "races_of" (top 1)):NT P w K mg base Pt:=fnk F0 λsc _ _ _ _ _ _ _ hr=>(B4 (G6 2 (sws 2 sc.nd) (B9 (qv 0) B2))
   (B5 (D0 (Kc (Z4 (J9 (qv 1) (qv 2)) B2) (qv 2)))))
theorem US (F0:Fn0 K mg "boats_of" (top 5)):Gb P w K mg base Pt:=fnk F0 λsc _ _ _ _ _ _ _ hr=>(B5 (D0 (QN.ee (Ry (N:=["event","boat"]) (cs:=[none,none]) (λ_=>y0 rfl rfl rfl rfl trivial rfl rfl rfl) (λ_=>rfl) (X7 (qv 0)) (gn 0 (show Y7 (["event","boat"]:List Str) by decide +kernel)) (X7 (P3 (qv 0) (L5 B2) W3)) (gn 1 (show Y7 (["event","boat"]:List Str) by decide +kernel)) Hj (qv 1)))))
theorem UT (F0:Fn0 K mg "boat_reason" (top 12))(g20:Gb P w K mg base Pt):NU P w K mg base Pt:=fnk F0 λsc _ _ _ _ _ _ _ hr=>(B4 (G6 2 (sws 2 sc.nd) (qf g20 hr (A4 (qv 1) B3)))
   (B4 (Q2 (λ_=>rfl) (BK (qv 2)) (gn 3 sc.nd) (B4 (E4 (D3 (i3 4 λ_=>hr) (qv 3) (QE.r (qv 0)) rfl) (B5 (D0 (J4 (A4 D6 (A4 (qv 3) B3))))) F8)
   (B5 (E4 (D3 cGt (KG (qv 2) (qv 3)) (QE.r B2) (C6 _)) (B5 (D0 (J4 (A4 D6 (A4 (qv 3) B3))))) F8))))
   (B5 (D0 V9))))
theorem UU (F0:Fn0 K mg "touches_of" (top 6)):Gc P w K mg base Pt:=fnk F0 λsc _ _ _ _ _ _ _ hr=>(B5 (D0 (QN.ee (Di (N:=["event"]) (cs:=[none]) (λ_=>y0 rfl rfl rfl rfl trivial rfl rfl rfl) (λ_=>rfl) (X7 (qv 0)) (gn 0 (show Y7 (["event"]:List Str) by decide +kernel)) (Dh (D3 (cEq 4 λ_=>hr) (B9 (qv 0) B2) (QE.r D6) (C6 _))) (qv 0)))))
theorem UV (F0:Fn0 K mg "is_wrong" (top 8)):NV P w K mg base Pt:=fnk F0 λsc _ _ _ _ _ _ _ hr=>(B5 (D0 (N4 cGt (X9 (qv 0) (B9 (qv 1) B2)) (QE.r (X9 (qv 0) (B9 (qv 1) B2))) (C6 _))))
theorem UW (F0:Fn0 K mg "between" (top 7))(m12:mg "sorted"=none):DU P w K mg base Pt:=fnk F0 λsc _ _ _ _ _ _ _ hr=>(B4 (u3 (λ_=>R0) (QN.ee (Lu (λ_=>rfl) (λ_=>m12) (QE.r (QN.ee (O7 (A4 (X9 (qv 0) (B9 (qv 1) B2)) (A4 (X9 (qv 0) (B9 (qv 1) B2)) B3))))))) (qg_lst (λ_=>rfl) (M7 (gn 2 sc.nd) (M7 (gn 3 sc.nd) Z5))))
   (B5 (D0 (P3 (qv 0) (L5 (J9 (qv 2) B2)) (L5 (qv 3))))))
theorem UX (F0:Fn0 K mg "is_far" (top 9))(g24:DU P w K mg base Pt)(m4:mg "len"=none):NW P w K mg base Pt:=fnk F0 λsc _ _ _ _ _ _ _ hr=>(B5 (D0 (N4 cGt (L6 (λ_=>rfl) (λ_=>m4) (QE.r (qf g24 hr (A4 (qv 0) (A4 (qv 2) B3))))) (QE.r (qv 1)) (C6 _))))
theorem UY (F0:Fn0 K mg "touch_reason" (top 13))(g23:NV P w K mg base Pt)(g25:NW P w K mg base Pt)(g20:Gb P w K mg base Pt)(g24:DU P w K mg base Pt):NX P w K mg base Pt:=fnk F0 λsc _ _ _ _ _ _ _ hr=>(B4 (E4 (t7 (qf g23 hr (A4 (qv 0) (A4 (qv 3) B3)))) (B5 (D0 (J4 (A4 D6 (A4 (qv 3) B3))))) F8)
   (B4 (E4 (t7 (qf g25 hr (A4 (qv 0) (A4 (qv 1) (A4 (qv 3) B3))))) (B5 (D0 (J4 (A4 D6 (A4 (qv 3) B3))))) F8)
   (B4 (G6 4 (sws 4 sc.nd) (qf g20 hr (A4 (qv 2) B3)))
   (B4 (Q2 (λ_=>rfl) (X7 (qf g24 hr (A4 (qv 0) (A4 (qv 3) B3)))) (gn 5 sc.nd) (B5 (E4 (D3 (i3 4 λ_=>hr) (qv 5) (QE.r (qv 4)) rfl) (B5 (D0 (J4 (A4 D6 (A4 (qv 3) (A4 (qv 5) B3)))))) F8)))
   (B5 (D0 V9))))))
theorem UZ (F0:Fn0 K mg "is_cross" (top 10))(g20:Gb P w K mg base Pt)(g24:DU P w K mg base Pt)(m4:mg "len"=none)(m11:mg "set"=none):NY P w K mg base Pt:=fnk F0 λsc _ _ _ _ _ _ _ hr=>(B4 (E4 (D3 (cNe 4 λ_=>hr) (Mp (λ_=>rfl) (λ_=>rfl) (λ_=>m4) (λ_=>rfl) (λ_=>m11) (qf g20 hr (A4 (J4 (A4 (qv 1) (A4 (qv 2) B3))) B3))) (QE.r B2) (C6 _)) (B5 (D0 Z3)) F8)
   (B4 (G6 3 (sws 3 sc.nd) (qf g24 hr (A4 (qv 0) (A4 (qv 1) B3))))
   (B5 (D0 (N4 (cNe 4 λ_=>hr) (N4 (cIn 4 λ_=>hr) (B9 (qv 2) B2) (QE.r (qv 3)) rfl) (QE.r (N4 (cIn 4 λ_=>hr) (B9 (qv 2) B2) (QE.r (qv 3)) rfl)) (C6 _))))))
theorem U_ (F0:Fn0 K mg "cross_reason" (top 14))(g27:NY P w K mg base Pt):NZ P w K mg base Pt:=fnk F0 λsc _ _ _ _ _ _ _ hr=>(B4 (Q2 (λ_=>rfl) (BK (qv 2)) (gn 3 sc.nd) (B5 (E4 (t7 (qf g27 hr (A4 (qv 0) (A4 (qv 1) (A4 (qv 3) B3))))) (B5 (D0 (J4 (A4 D6 (A4 (qv 1) (A4 (qv 3) B3)))))) F8)))
   (B5 (D0 V9)))
theorem Va (F0:Fn0 K mg "reason_of" (top 15))(g21:NU P w K mg base Pt)(g22:Gc P w K mg base Pt)(g28:NZ P w K mg base Pt)(g26:NX P w K mg base Pt):N_ P w K mg base Pt:=fnk F0 λsc _ _ _ _ _ _ _ hr=>(B4 (G6 3 (sws 3 sc.nd) (qf g21 hr (A4 (qv 0) (A4 (qv 2) B3))))
   (B4 (E4 (D3 Hd (qv 3) (QE.r V9) (C6 _)) (B5 (D0 (qv 3))) F8)
   (B4 (G6 4 (sws 4 sc.nd) (qf g22 hr (A4 (qv 2) B3)))
   (B4 (Q2 (λ_=>rfl) (BK (qv 4)) (gn 5 sc.nd) (B4 (G6 3 (sws 3 sc.nd) (qe_orT (qf g26 hr (A4 (qv 0) (A4 (qv 1) (A4 (qv 2) (A4 (qv 5) B3))))) (AJ (qf g28 hr (A4 (qv 0) (A4 (qv 5) (A4 (qv 4) B3)))))))
   (B5 (E4 (D3 Hd (qv 3) (QE.r V9) (C6 _)) (B5 (D0 (qv 3))) F8))))
   (B5 (D0 V9))))))
theorem Vb (F0:Fn0C K mg "order_of" (top 16) cd)(hC:PySem.W.CodeHd base cd Pt)(hB:base.BuiltinsAt mg Pt)(g29:N_ P w K mg base Pt)(g22:Gc P w K mg base Pt)(g24:DU P w K mg base Pt)(m4:mg "len"=none)(m12:mg "sorted"=none)(m13:mg "tuple"=none):Oa P w K mg base Pt:=by
 have sc:U7 ["start","reach","sheet","reason","drops","inner_first"] ["start","reach","sheet"] (G5 (top 16)):=⟨rfl,rfl,rfl,by decide +kernel,rfl,by decide +kernel,by decide +kernel⟩
 exact fn_okC F0 sc (λ_ _ _ _ _ _=>bd3 λ_ _ _=>rfl) (k:=4) (body:=IS) (λf A outer s H E hr=>(B4 (G6 3 (sws 3 sc.nd) (qf g29 hr (A4 (qv 0) (A4 (qv 1) (A4 (qv 2) B3)))))
   (B4 (E4 (D3 Hd (qv 3) (QE.r V9) (C6 _)) (B5 (D0 (J4 (A4 D6 (A4 (qv 3) B3))))) F8)
   (B4 (KI 4 (KH (N:=["event"]) (cs:=[none]) (λ_=>y0 rfl rfl rfl rfl trivial rfl rfl rfl) (λ_=>rfl) (X7 (qv 2)) (gn 0 (show Y7 (["event"]:List Str) by decide +kernel)) (Dh (D3 (cEq 4 λ_=>hr) (B9 (qv 0) B2) (QE.r D6) (C6 _))) (qv 0)) (λ_=>sc.nd) (λ_=>rfl) (λ_=>Or.inl rfl))
   (B4 (G6 5 (sws 5 sc.nd) (QN.ee (RZ (x:="touch") (y:="start") (iy:=0) (c:=λ_=>s.heap.objs.size+1) (QE.r (qf g22 hr (A4 (qv 2) B3))) (L6 (λ_=>rfl) (λ_=>m4) (QE.r (qe_fn (λ_=>g24) (λ_=>Sf hr) (by decide) (λ_=>rfl) (A4 (qv 1) (A4 (qv 0) B3))))) (Sg rfl rfl rfl rfl rfl rfl (by decide +kernel) (by decide +kernel)) (λ_=>hr) (λ_=>rfl) (λ_=>rfl) (λ_=>rfl) (λ_ _ _ _ _=>rfl) (λ_=>rfl) (λ_=>rfl) (λ_=>rfl) (λ_=>hC) (λ_=>hB) (λ_=>rfl) (λ_=>m12) (λ_=>rfl))))
   (B5 (D0 (J4 (A4 D6 (A4 (i7 (λ_=>rfl) (λ_=>m13) (QE.r (QN.ee (qn_cat (QE.r (qv 4)) (QE.r (qv 5)))))) B3))))))))))
theorem k_span (F0:Fn0 K mg "span" (top 2))(m7:mg "min"=none):Jm P w K mg base Pt:=fnk F0 λsc _ _ _ _ _ _ _ hr=>(B4 (G6 3 (sws 3 sc.nd) (B9 (qv 0) B2))
   (B4 (G6 4 (sws 4 sc.nd) (GY (qv 2) (qv 3)))
   (B5 (D0 (J4 (A4 (qv 4) (A4 (Hh (λ_=>rfl) (λ_=>rfl) (λ_=>m7) (J9 (qv 4) (qv 3)) (Z4 (qv 1) B2)) B3)))))))
theorem Vc (F0:Fn0 K mg "put_on" (top 19))(g31:Jm P w K mg base Pt)(m4:mg "len"=none):Ob P w K mg base Pt:=fnk F0 λsc _ _ _ _ _ _ _ hr=>(B4 (u3 (λ_=>R0) (qf g31 hr (A4 (qv 0) (A4 (L6 (λ_=>rfl) (λ_=>m4) (QE.r (qv 1))) (A4 (qv 2) B3)))) (i8 (λ_=>rfl) (M7 (gn 4 sc.nd) (M7 (gn 5 sc.nd) Z5))))
   (B5 (D0 (J9 (J9 (P3 (qv 1) W3 (L5 (qv 4))) (qv 3)) (P3 (qv 1) (L5 (J9 (qv 5) B2)) W3)))))
theorem Vd (F0:Fn0 K mg "exchanged" (top 3))(m5:mg "list"=none)(m13:mg "tuple"=none):Oc P w K mg base Pt:=fnk F0 λsc _ _ _ _ _ _ _ hr=>(B4 (BL 3 (sws 3 sc.nd) (ER (λ_=>rfl) (λ_=>m5) (QE.r (qv 0))))
   (B4 (LG 3 (λ_=>R0) (λ_ _ _ h1 h2=>LF K rfl (j7 (vw 3) (by intro _;rfl) _ h1) (j7 (vw 3) (by intro _;rfl) _ h2)) (B9 (qv 0) (qv 2)) (B9 (qv 0) (qv 1)) (qv 1) (qv 2))
   (B5 (D0 (i7 (λ_=>rfl) (λ_=>m13) (M2 3 λ_=>vw 3))))))
theorem Ve (F0:Fn0 K mg "row_behind" (top 11))(g22:Gc P w K mg base Pt)(g33:Oc P w K mg base Pt):Od P w K mg base Pt:=fnk F0 λsc _ _ _ _ _ _ _ hr=>(B4 (G6 2 (sws 2 sc.nd) (qv 0))
   (B4 (Q2 (λ_=>rfl) (BK (qf g22 hr (A4 (qv 1) B3))) (gn 3 sc.nd) (B5 (G6 2 (sws 2 sc.nd) (qf g33 hr (A4 (qv 2) (A4 (X9 (qv 0) (B9 (qv 3) B2)) (A4 (X9 (qv 0) (B9 (qv 3) B2)) B3)))))))
   (B5 (D0 (qv 2)))))
theorem Vf (F0:Fn0 K mg "start_on" (top 18))(g31:Jm P w K mg base Pt)(m4:mg "len"=none):Jn P w K mg base Pt:=fnk F0 λsc _ _ _ _ _ _ _ hr=>(B4 (u3 (λ_=>R0) (qf g31 hr (A4 (qv 0) (A4 (L6 (λ_=>rfl) (λ_=>m4) (QE.r (qv 1))) (A4 (qv 2) B3)))) (i8 (λ_=>rfl) (M7 (gn 3 sc.nd) (M7 (gn 4 sc.nd) Z5))))
   (B5 (D0 (P3 (qv 1) (L5 (qv 3)) (L5 (J9 (qv 4) B2))))))
theorem Vg (F0:Fn0 K mg "raced" (top 20))(g35:Jn P w K mg base Pt)(g34:Od P w K mg base Pt)(g32:Ob P w K mg base Pt):Oe P w K mg base Pt:=fnk F0 λsc _ _ _ _ _ _ _ hr=>(B5 (D0 (qf g32 hr (A4 (qv 0) (A4 (qv 1) (A4 (qv 2) (A4 (qf g34 hr (A4 (qf g35 hr (A4 (qv 0) (A4 (qv 1) (A4 (qv 2) B3)))) (A4 (qv 3) B3))) B3)))))))
theorem Vh (F0:Fn0 K mg "day_behind" (top 21))(g19:NT P w K mg base Pt)(g35:Jn P w K mg base Pt)(g30:Oa P w K mg base Pt)(g36:Oe P w K mg base Pt)(m4:mg "len"=none)(m8:mg "range"=none)(m10:mg "reversed"=none):Of P w K mg base Pt:=fnk F0 λsc _ _ _ _ _ _ _ hr=>(B4 (G6 3 (sws 3 sc.nd) (qf g19 hr (A4 (qv 0) (A4 (L6 (λ_=>rfl) (λ_=>m4) (QE.r (qv 1))) B3))))
   (B4 (E4 (D3 (cNe 4 λ_=>hr) (L6 (λ_=>rfl) (λ_=>m4) (QE.r (qv 2))) (QE.r (qv 3)) (C6 _)) (B5 (D0 (J4 (A4 D6 (A4 V9 (A4 (J4 (A4 D6 (A4 (qv 3) B3))) B3)))))) F8)
   (B4 (G6 4 (sws 4 sc.nd) (qv 1))
   (B4 (Q2 (λ_=>rfl) (Ib (λ_=>rfl) (λ_=>m10) (λ_=>rfl) (λ_=>m8) (qv 3)) (gn 5 sc.nd) (B4 (u3 (λ_=>R0) (qf g30 hr (A4 (qf g35 hr (A4 (qv 0) (A4 (qv 4) (A4 (qv 5) B3)))) (A4 (B9 (qv 0) B2) (A4 (B9 (qv 2) (qv 5)) B3)))) (i8 (λ_=>rfl) (M7 (gn 6 sc.nd) (M7 (gn 7 sc.nd) Z5))))
   (B4 (E4 (D3 (cEq 4 λ_=>hr) (qv 6) (QE.r D6) (C6 _)) (B5 (D0 (J4 (A4 D6 (A4 (qv 5) (A4 (qv 7) B3)))))) F8)
   (B5 (G6 4 (sws 4 sc.nd) (qf g36 hr (A4 (qv 0) (A4 (qv 4) (A4 (qv 5) (A4 (B9 (qv 2) (qv 5)) B3))))))))))
   (B5 (D0 (J4 (A4 D6 (A4 (qv 4) B3)))))))))
theorem k_law (F0:Fn0 K mg "law" (top 42))(g0:Uz P w K mg base)(g1:AZ P w K mg base Pt)(g3:NI P w K mg base Pt)(g9:NL P w K mg base Pt)(g18:NR P w K mg base Pt)(g37:Of P w K mg base Pt)(g14:NO P w K mg base Pt)(m8:mg "range"=none)(m9:mg "repr"=none):Kn P w K mg base "law" 7 ["_law_script"] (Fp K Pt):=by
 have sc:U7 ["_law_script","_law_draws","_law_asks","_law_turn","_law_many","_law_meeting","_law_row","_law_day_here","_law_starts","_law_after_here","_law_change","_law_held"] ["_law_script"] (G5 (top 42)):=⟨rfl,rfl,rfl,by decide +kernel,rfl,by decide +kernel,by decide +kernel⟩
 exact Se (T:=potD) (Pt:=Pt) (lpos:=lamP) (qual:=lamQ) F0 sc (λ_ _ _ _ _ _=>bd1 λ_=>rfl) (k:=6) (body:=IY) (λ_ _ _ _ _ _ _ hr=>(B4 (RW 1 (sws 1 sc.nd) (λ_=>g0) (λ_=>hr) (by decide) (λ_=>rfl) (qv 0))
   (B4 (BL 2 (sws 2 sc.nd) (O7 B3))
   (B4 (Q2 (λ_=>rfl) (Dg (λ_=>rfl) (λ_=>m8) B2) (gn 3 sc.nd) (B4 (G6 4 (sws 4 sc.nd) (qf g1 hr (A4 (qv 1) (A4 B2 B3))))
   (B4 (u3 (λ_=>R0) (qf g3 hr (A4 (qv 1) (A4 B2 B3))) (i8 (λ_=>rfl) (M7 (gn 5 sc.nd) (M7 (gn 6 sc.nd) Z5))))
   (B4 (u3 (λ_=>R0) (qf g9 hr (A4 (qv 1) (A4 (qv 5) (A4 (qv 6) B3)))) (i8 (λ_=>rfl) (M7 (gn 7 sc.nd) (M7 (gn 8 sc.nd) (M7 (gn 9 sc.nd) Z5)))))
   (B4 (Q2 (λ_=>rfl) (Dg (λ_=>rfl) (λ_=>m8) (qv 4)) (gn 10 sc.nd) (B5 (E4 (D3 (cNe 4 λ_=>hr) (qv 7) (QE.r (J4 B3)) (C6 _)) (B5 (G6 7 (sws 7 sc.nd) (qf g18 hr (A4 (qv 1) (A4 (qv 6) (A4 (qv 7) B3)))))) F8)))
   (B5 (E4 (D3 (cNe 4 λ_=>hr) (qv 7) (QE.r (J4 B3)) (C6 _)) (B5 (P5 (λ_=>P4) (V0 2 (λ_=>vw 2) (J4 (A4 (qv 5) (A4 (qv 6) (A4 (qv 7) B3))))))) F8)))))))
   (B4 (G6 11 (sws 11 sc.nd) (y9 (λ_=>hr) (λ_=>rfl) (λ_=>m9) (M2 2 λ_=>vw 2)))
   (B4 (Hs 2 (Q2 (λ_=>rfl) (BK (qv 2)) (i8 (λ_=>rfl) (M7 (gn 5 sc.nd) (M7 (gn 6 sc.nd) (M7 (gn 7 sc.nd) Z5)))) (B5 (E4 (Dd (t7 (qf g14 hr (A4 (qv 5) (A4 (qv 6) (A4 (qv 7) (A4 (qf g37 hr (A4 (qv 5) (A4 (qv 6) (A4 (qv 7) B3)))) B3))))))) (B5 (D0 Z3)) F8))))
   (B5 (D0 (N4 (cEq 4 λ_=>hr) (y9 (λ_=>hr) (λ_=>rfl) (λ_=>m9) (QE.r (qv 2))) (QE.r (qv 11)) (C6 _)))))))))) m_law
end
end Tb
open PySem PySem.W PyProof.Rows L2 Tb
set_option hygiene false in
local macro_rules | `(tactic| walk_at "F")=>`(tactic| (dsimp only [KOf];refine' fn0_mk KX G ?a ?l ?c ?k;(case a=>k_is);(case l=>k_is);(case c=>k_is);(case k=>k_is)))
set_option hygiene false in
local macro_rules | `(tactic| walk_at "Z")=>`(tactic| (refine PySem.W.mg_none_of (K:=KOf KX) KX G ?_;dsimp only [KOf];k_is))
abbrev Tb.rwp:=PySem.Challenge.rw_touchboats_k20_days_that_are_not_sound.prog
set_option maxRecDepth 100000 in
set_option maxHeartbeats 0 in
theorem PySem.Challenge.cw_touchboats_k20_days_that_are_not_sound_holds : PySem.Challenge.rw_touchboats_k20_days_that_are_not_sound.Holds := by
 w_on;o_law;k_head;(case hw=>w_witness2)
 k_fill
 refine Sc (l:=PySem.Challenge.rw_touchboats_k20_days_that_are_not_sound) (x:="_law_script") (k:=7) rfl rfl ⟨rfl,by decide,by decide,rfl⟩ (by decide) ?F
 case F=>
  intro w mg h KX G;have f0:Fn0 (KOf KX) mg "_law_begin" (top 23):=by walk_at "F"
  have f1:Fn0 (KOf KX) mg "_law_next" (top 24):=by walk_at "F"
  have f2:Fn0 (KOf KX) mg "_law_names" (top 25):=by walk_at "F"
  have f3:Fn0 (KOf KX) mg "_law_meet" (top 32):=by walk_at "F"
  have f4:Fn0 (KOf KX) mg "_law_span" (top 26):=by walk_at "F"
  have f5:Fn0 (KOf KX) mg "_law_sheet" (top 29):=by walk_at "F"
  have f6:Fn0 (KOf KX) mg "_law_races" (top 27):=by walk_at "F"
  have f7:Fn0 (KOf KX) mg "_law_word" (top 28):=by walk_at "F"
  have f8:Fn0 (KOf KX) mg "_law_after" (top 30):=by walk_at "F"
  have f9:Fn0 (KOf KX) mg "_law_day" (top 31):=by walk_at "F"
  have f10:Fn0 (KOf KX) mg "_law_places" (top 37):=by walk_at "F"
  have f11:Fn0 (KOf KX) mg "_law_cross" (top 38):=by walk_at "F"
  have f12:Fn0 (KOf KX) mg "_law_is_sound" (top 40):=by walk_at "F"
  have f13:Fn0 (KOf KX) mg "_law_is_reason" (top 39):=by walk_at "F"
  have f14:Fn0 (KOf KX) mg "_law_right" (top 41):=by walk_at "F"
  have f15:Fn0 (KOf KX) mg "_law_strange" (top 33):=by walk_at "F"
  have f16:Fn0 (KOf KX) mg "_law_new_event" (top 34):=by walk_at "F"
  have f17:Fn0 (KOf KX) mg "_law_changed_sheet" (top 35):=by walk_at "F"
  have f18:Fn0 (KOf KX) mg "_law_changed" (top 36):=by walk_at "F"
  have f19:Fn0 (KOf KX) mg "races_of" (top 1):=by walk_at "F"
  have f20:Fn0 (KOf KX) mg "boats_of" (top 5):=by walk_at "F"
  have f21:Fn0 (KOf KX) mg "boat_reason" (top 12):=by walk_at "F"
  have f22:Fn0 (KOf KX) mg "touches_of" (top 6):=by walk_at "F"
  have f23:Fn0 (KOf KX) mg "is_wrong" (top 8):=by walk_at "F"
  have f24:Fn0 (KOf KX) mg "between" (top 7):=by walk_at "F"
  have f25:Fn0 (KOf KX) mg "is_far" (top 9):=by walk_at "F"
  have f26:Fn0 (KOf KX) mg "touch_reason" (top 13):=by walk_at "F"
  have f27:Fn0 (KOf KX) mg "is_cross" (top 10):=by walk_at "F"
  have f28:Fn0 (KOf KX) mg "cross_reason" (top 14):=by walk_at "F"
  have f29:Fn0 (KOf KX) mg "reason_of" (top 15):=by walk_at "F"
  have f31:Fn0 (KOf KX) mg "span" (top 2):=by walk_at "F"
  have f32:Fn0 (KOf KX) mg "put_on" (top 19):=by walk_at "F"
  have f33:Fn0 (KOf KX) mg "exchanged" (top 3):=by walk_at "F"
  have f34:Fn0 (KOf KX) mg "row_behind" (top 11):=by walk_at "F"
  have f35:Fn0 (KOf KX) mg "start_on" (top 18):=by walk_at "F"
  have f36:Fn0 (KOf KX) mg "raced" (top 20):=by walk_at "F"
  have f37:Fn0 (KOf KX) mg "day_behind" (top 21):=by walk_at "F"
  have f38:Fn0 (KOf KX) mg "law" (top 42):=by walk_at "F"
  have m0:mg "all"=none:=by walk_at "Z"
  have m1:mg "any"=none:=by walk_at "Z"
  have m2:mg "int"=none:=by walk_at "Z"
  have m3:mg "isinstance"=none:=by walk_at "Z"
  have m4:mg "len"=none:=by walk_at "Z"
  have m5:mg "list"=none:=by walk_at "Z"
  have m6:mg "max"=none:=by walk_at "Z"
  have m7:mg "min"=none:=by walk_at "Z"
  have m8:mg "range"=none:=by walk_at "Z"
  have m9:mg "repr"=none:=by walk_at "Z"
  have m10:mg "reversed"=none:=by walk_at "Z"
  have m11:mg "set"=none:=by walk_at "Z"
  have m12:mg "sorted"=none:=by walk_at "Z"
  have m13:mg "tuple"=none:=by walk_at "Z"
  have m14:mg "zip"=none:=by walk_at "Z"
  refine⟨top 42,"order_of",top 16,f38,?zc,?zp,λ_ _ _ _ _ _ s u=>.of_eq rfl,λcd f30 base kb nb hC hB=>?_⟩
  case zc=>
   refine' ⟨_,Sa KX G ?a ?l ?c ?k,?h⟩
   (case a=>k_is);(case l=>k_is);(case c=>k_is);(case k=>k_is);(case h=>kernel_rfl)
  case zp=>kernel_rfl
  have g0:=Uw (P:=rwp) (w:=w) (base:=base) f0 m4 m5;have g1:=Uy (Pt:=ptOf hC) (lpos:=lamP) (qual:=lamQ) (P:=rwp) (w:=w) (base:=base) f1 m4 m2;have g2:=UA (Pt:=ptOf hC) (P:=rwp) (w:=w) (base:=base) f2 g1 m8 m13;have g3:=UB (Pt:=ptOf hC) (P:=rwp) (w:=w) (base:=base) f3 g1 g2 m7;have g4:=UC (Pt:=ptOf hC) (P:=rwp) (w:=w) (base:=base) f4;have g5:=UD (Pt:=ptOf hC) (P:=rwp) (w:=w) (base:=base) f5 m12 m13 m14;have g6:=UE (Pt:=ptOf hC) (P:=rwp) (w:=w) (base:=base) f6;have g7:=UF (Pt:=ptOf hC) (P:=rwp) (w:=w) (base:=base) f7 g1 m8;have g8:=UG (Pt:=ptOf hC) (P:=rwp) (w:=w) (base:=base) f8 m5 m13;have g9:=UH (Pt:=ptOf hC) (P:=rwp) (w:=w) (base:=base) f9 g6 g4 g7 g5 g8 m4 m8 m10 m13;have g10:=UI (Pt:=ptOf hC) (P:=rwp) (w:=w) (base:=base) f10 m6 m7;have g11:=UJ (Pt:=ptOf hC) (P:=rwp) (w:=w) (base:=base) f11 g10 m4 m11;have g12:=UK (Pt:=ptOf hC) (P:=rwp) (w:=w) (base:=base) f12 g11 m0 m1 m4 m11;have g13:=UL (Pt:=ptOf hC) (P:=rwp) (w:=w) (base:=base) f13 g10 g11 m4;have g14:=UM (Pt:=ptOf hC) (P:=rwp) (w:=w) (base:=base) f14 g6 g4 g12 g13 g8 m3 m4 m8 m9 m10 m13;have g15:=UN (Pt:=ptOf hC) (P:=rwp) (w:=w) (base:=base) f15;have g16:=UO (Pt:=ptOf hC) (P:=rwp) (w:=w) (base:=base) f16 g1 g15 m4
  have g17:=UP (Pt:=ptOf hC) (P:=rwp) (w:=w) (base:=base) f17 g1 g16 g15 m4 m5 m11 m12 m13;have g18:=UQ (Pt:=ptOf hC) (P:=rwp) (w:=w) (base:=base) f18 g1 g17 m4 m5 m13;have g19:=UR (Pt:=ptOf hC) (P:=rwp) (w:=w) (base:=base) f19;have g20:=US (Pt:=ptOf hC) (P:=rwp) (w:=w) (base:=base) f20;have g21:=UT (Pt:=ptOf hC) (P:=rwp) (w:=w) (base:=base) f21 g20;have g22:=UU (Pt:=ptOf hC) (P:=rwp) (w:=w) (base:=base) f22;have g23:=UV (Pt:=ptOf hC) (P:=rwp) (w:=w) (base:=base) f23;have g24:=UW (Pt:=ptOf hC) (P:=rwp) (w:=w) (base:=base) f24 m12;have g25:=UX (Pt:=ptOf hC) (P:=rwp) (w:=w) (base:=base) f25 g24 m4;have g26:=UY (Pt:=ptOf hC) (P:=rwp) (w:=w) (base:=base) f26 g23 g25 g20 g24;have g27:=UZ (Pt:=ptOf hC) (P:=rwp) (w:=w) (base:=base) f27 g20 g24 m4 m11;have g28:=U_ (Pt:=ptOf hC) (P:=rwp) (w:=w) (base:=base) f28 g27;have g29:=Va (Pt:=ptOf hC) (P:=rwp) (w:=w) (base:=base) f29 g21 g22 g28 g26;have g30:=Vb (Pt:=ptOf hC) (P:=rwp) (w:=w) (base:=base) f30 hC hB g29 g22 g24 m4 m12 m13;have g31:=k_span (Pt:=ptOf hC) (P:=rwp) (w:=w) (base:=base) f31 m7;have g32:=Vc (Pt:=ptOf hC) (P:=rwp) (w:=w) (base:=base) f32 g31 m4;have g33:=Vd (Pt:=ptOf hC) (P:=rwp) (w:=w) (base:=base) f33 m5 m13
  have g34:=Ve (Pt:=ptOf hC) (P:=rwp) (w:=w) (base:=base) f34 g22 g33;have g35:=Vf (Pt:=ptOf hC) (P:=rwp) (w:=w) (base:=base) f35 g31 m4;have g36:=Vg (Pt:=ptOf hC) (P:=rwp) (w:=w) (base:=base) f36 g35 g34 g32;have g37:=Vh (Pt:=ptOf hC) (P:=rwp) (w:=w) (base:=base) f37 g19 g35 g30 g36 m4 m8 m10;exact k_law (Pt:=ptOf hC) (P:=rwp) (w:=w) (base:=base) f38 g0 g1 g3 g9 g18 g37 g14 m8 m9
end
