import PyProof.Rows.All
import Wide.All
import OpenK.AllK
import Wide.FinOn
import PyProof.EqAt
import PyProof.EqKinds
import PyProof.TupleCall
import PyProof.NeKinds
import PyProof.EnumMake
import PyProof.ConsumeWalk
import KE.LcSums
import PyProof.ReprLen
import PyProof.StrLawsRepr
import PyProof.Rows.StrNews2
import PyProof.Rows.SetFrom
import PyProof.WalksMore
import PyProof.StrLawsChain
import PyProof.StrLawsTight
import PyProof.StrLawsIdx
import PyProof.ZipIter
import PyProof.Draws
import PyProof.Rows.FactsT2
import PyProof.ListStr
import PyProof.Rows.StrPartPair
import KE.KSortTup
import KE.KDictSum
import KE.KRevIter
import PyProof.AttrMissHeap
import KE.KDictOf
import KE.KSortKey
import KE.KLam
import KE.KNestM
import PyProof.DictItems
import KE.KPairComp
import PyProof.AutoSeq1
import PyProof.SetNew
import Lean
import PySem.Challenge.RW_touchboats_k08_orders_or_reasons
set_option compiler.extract_closed false
set_option Elab.async false
set_option linter.all false
set_option maxRecDepth 100000
set_option maxHeartbeats 4000000
open PySem renaming wpAny_bind->x0a,wpAny_pure->x0h,sizeLine->x0B,Program->x0G,wpAny_holding->x0V,wpAny_newObj_type->x0Z,sizeLine_eq->x1c,wpAny_mono->x1g,starEach->x1h,bootBuiltins->x1i,assignEach->x1k,wpAny_call_entry->x1m,wpAny_callSpecial?_slot->x1p,foldedSetIterable->x1s,wpAny_setState_of->x1v,wpAny_truthy_bool->x1z,mem_of_lookup->x1C,compareOp->x1J,codeAny_builtin->x1O,wpAny_standAt->x1V,sysModules->x2b,SetTable->x2d,mainGlobals->x2k,letOwnedTupleGo->x2l,plainId_quiet->x2t,codeAny->x2x,keywordEach->x2y,wpAny_setField->x2A,wpAny_passesOwn->x2C,attributeBase->x2O,wpAny_getItem_str_slice->x2Q,wpAny_setEntries_of->x2U,isSubtype_type->x3b,Builtin->x3c,wpAny_pyIter_tuple->x3d,wpAny_pyIter_list->x3i,binaryOp->x3j,behindInMarks->x3k,Keyword->x3p,wpAny_newFunctionEnv->x3q,wpAny_seqItems->x3s,wpAny_field->x3v,codeAny_mono->x3y,wpAny_comprehension_free->x3B,assignInOrder->x3D,swapsWithSole->x3E,swappedStores->x3F,wpAny_Call_Name_kw->x3G,wpAny_attempt->x3N,codeAny_compStart_list->x3R,holding->x3T,wpAny_rule->x3U,sliceBounds->x3X,wpAny_bindName->x4b,FuncData->x4d,backToKw->x4f,wpAny_typeOf->x4i,wpAny_askSetting->x4p,wpAny_forIn_list->x4q,bindName->x4v,bindArgs->x4w,wpAny_newList->x4A,wpAny_execs_nil->x4C,post_val_or_str->x4D,wpAny_loadPart'->x4F,swapsWith->x4T,Arguments->x4U,standAt->x4X
open PySem.W renaming Frag->x0b,kia_one->x1F,fnOf->x2h,kas_place->x2X,kas_rev->x3f,kas_sort->x3u,kas_asc->x4a,kitOne->x4c,keepIn->x4e,kas_desc->x4z,codeIn->x4O,methodObj->x4S
open List renaming getElem?_eq_getElem->x0c,length_map->x0e,mem_cons_of_mem->x0f,mem_cons_self->x0g,getElem?_eq_some_iff->x0i,mem_cons->x0k,length_append->x0l,mem_singleton->x0n,getElem?_map->x0p,size_toArray->x0q,mem_append_right->x0t,mem_of_getElem?->x0u,map_cons->x0v,getElem?_set_self->x0y,all_eq_true->x0A,mem_append->x0C,getElem?_set_ne->x0D,length_singleton->x0E,mem_map->x0F,getElem?_append_right->x0I,length_cons->x0K,range->x0L,mem_range->x0N,getD_eq_getElem?_getD->x0O,getElem?_append_left->x0Q,append_assoc->x0S,getElem?_eq_none->x0T,mem_filter->x0W,length_set->x0X,map_append->x0Y,mem_append_left->x1a,pairwise_iff_getElem->x1b,length_take->x1e,eq_nil_of_length_eq_zero->x1n,mem_flatMap->x1o,append_nil->x1t,nodup_cons->x1x,length_drop->x1y,drop_eq_getElem_cons->x1A,flatMap_cons->x1E,flatMap_append->x1I,length_replicate->x1K,pairwise_map->x1L,getElem?_cons_succ->x1N,zip_cons_cons->x1P,Nodup->x1Q,take_of_length_le->x1S,map_map->x2a,any_eq_true->x2f,nodup_append->x2j,getElem_of_mem->x2n,drop_of_length_le->x2o,getElem_mem->x2q,mem_iff_getElem?->x2v,length_range->x2K,nil_append->x2L,filterMap_cons->x2M,getElem?_replicate->x2N,getElem?_cons_zero->x2R,not_mem_nil->x2Y,replicate->x3a,length_eraseIdx_of_lt->x3o,toList_toArray->x3w,take_append_drop->x4l,lookup_cons->x4n,drop_length->x4o,take_length->x4r,mem_of_mem_drop->x4s,pairwise_append->x4t,mem_of_mem_take->x4u,map_take->x4x,map_drop->x4y,drop_zero->x4P,nodup_nil->x4R
open PySem.Heap renaming get?_push_of_some->x0d,lt_size->x0o,get?_push_size->x0s,get?_update_other->x1R,size_push->x1X,SameBut->x1Y,get?_update_self->x1Z,ExtBut->x4Y
open PySem.Str renaming ofString->x0j
open Nat renaming le_refl->x0m,ne_of_lt->x0r,lt_of_lt_of_le->x0x,zero_le->x0U,lt_succ_of_lt->x1d,le_trans->x1f,zero_add->x1w,lt_irrefl->x1U,lt_succ_self->x2e,lt_trichotomy->x2i,le_of_lt->x2r,sub_succ_lt_self->x2B,not_lt_zero->x2I,le_succ->x2P,le_of_not_lt->x2W,le_of_lt_succ->x3m,ne_of_gt->x3x,sub_self->x3C,lt_of_le_of_lt->x3K,le_succ_of_le->x3Z,lt_trans->x4h,lt_or_ge->x4k,le_of_ble_eq_true->x4m,min_eq_left->x4G,min_self->x4M,le_of_eq->x4N
open Bool renaming false_eq_true->x0w,false_ne_true->x0R,and_eq_true->x1r,false_and->x1W,beq_eq_decide_eq->x2u,eq_iff_iff->x2F,true_and->x2V,or_false->x3I,or_eq_true->x3J,and_true->x3L,not_true->x3P
open Array renaming length_toList->x0z,getElem?_toList->x0P,getElem?_eq_getElem->x1j,getD_eq_getD_getElem?->x1u,perm_iff_toList_perm->x3n,forIn_toList->x3O,getElem?_eq_none->x3S,replicate->x4H
open Option.some renaming inj->x0H
open PySem.Obj renaming mapSeq->x0J,data_mapFields->x3M
open PySem.Heap.SameBut renaming update->x0M
open PySem.Value renaming ref->x1l,type->x1q,none->x2Z
open PySem.Around renaming under_plainId->x1B
open PyProof.Rows.F renaming plain_set_update_loop->x1D,entry_set_update_loop->x2T
open PySem.Builtin.SmallTypes renaming nextOf->x1G
open Classical renaming byContradiction->x1H
open PySem.Builtin.Str renaming occurrences->x1M
open PyProof.Rows renaming slot_tuple_getitem->x1T,assignInOrder_cons->x2s,callWith_type1->x3e,get?_update_seq->x3g,listUpdate_at->x3l,envOfC->x4E
open Int renaming emod_lt_of_pos->x2c,emod_nonneg->x2J,eq_ofNat_of_zero_le->x2S,toNat_natCast->x3W
open PySem.F renaming plainAttrs_list->x2g,slot_tuple_iterator_next->x2p,args_tuple_add_2->x3z,entry_tuple_add->x3H,slot_tuple_add->x3Q
open ForInStep renaming yield->x2m
open Sum renaming inl->x2w,inr->x4B
open PySem.Builtin.Slice renaming slicePlaces->x2z,sliceAdjust->x3r,sliceApplied->x4K
open Option renaming isSome_iff_exists->x2D,getD_some->x3t
open PySem.Builtin.Tuple renaming tupleExact->x2E,tupleItemsOf->x4L
open PySem.AutoSeq1 renaming wpAny_loadPart'->x2G
open Array.Perm renaming refl->x2H
open False renaming elim->x3h
open PySem.Builtin.List renaming listTooLong->x3A,listLengthHint->x4I,listExtendWith->x4J
open PySem.Data renaming fields->x3V
open PySem.SeqAt renaming EqAt->x3Y,RcNeAt->x4j,RcAt->x4W
open PySem.SetTable renaming grown->x4g
open List.Perm renaming swap->x4Q
open List.Pairwise renaming nil->x4V
open PySem.Txt renaming mul->x4Z
local macro_rules|`(tactic|omega)=>`(tactic|lia)
section
namespace L2
open PySem PySem.Spec PyProof.Rows
noncomputable abbrev Key:=Sum Int Str
noncomputable def a9k:Key->Value->Bool
 | .inl k,v=>Value.isInt k v
 | .inr x,v=>Value.isStrOf x v
noncomputable def keyH (w:World):Key->Int
 | .inl k=>hashInt k
 | .inr x=>hashStr w x
theorem a0H:∀{k:Key} {v:Value},a9k k v=true->(∃i t,k=x2w i/\v=Value.int i t)\/(∃x t,k=x4B x/\v=Value.str x t)
 | .inl i, v, h => by
   obtain⟨t,e⟩:=Value.isInt_shape (k:=i) (v:=v) h;exact .inl ⟨i,t,rfl,e⟩
 | .inr x, v, h => by
   obtain⟨t,e⟩:=Value.isStrOf_shape (x:=x) (v:=v) h;exact .inr ⟨x,t,rfl,e⟩
theorem b1d (i:Int)(t:Tok):a9k (.inl i) (.int i t)=true:=by simp [a9k,Value.isInt]
theorem b1c (x:Str)(t:Tok):a9k (.inr x) (.str x t)=true:=by simp [a9k,Value.isStrOf]
theorem key_ll (a b:Int):decide ((x2w a:Key)=x2w b)=(a == b):=by
 by_cases e:a=b
 · subst e;simp
 · have h:¬(x2w a:Key)=x2w b:=fun q=>e (Sum.inl.inj q);rw [decide_eq_false h];exact(beq_eq_false_iff_ne.mpr e).symm
theorem key_rr (a b:Str):decide ((x4B a:Key)=x4B b)=decide (a=b):=by
 by_cases e:a=b
 · subst e;simp
 · have h:¬(x4B a:Key)=x4B b:=fun q=>e (Sum.inr.inj q);rw [decide_eq_false h,decide_eq_false e]
theorem key_lr (a:Int)(b:Str):decide ((x2w a:Key)=x4B b)=false:=decide_eq_false (fun q=>nomatch q)
theorem key_rl (a:Str)(b:Int):decide ((x4B a:Key)=x2w b)=false:=decide_eq_false (fun q=>nomatch q)
noncomputable def a0F (prog:x0G)(w:World):PySem.KeyKind prog w Key where
 is:=a9k
 hash:=keyH w
 inj:=fun v a b ha hb=>by
   rcases a0H ha with⟨i,t,rfl,rfl⟩ | ⟨x,t,rfl,rfl⟩
   · rcases a0H hb with⟨j,u,rfl,e⟩ | ⟨y,u,rfl,e⟩
     · injection e with e1 _;rw [e1]
     · exact nomatch e
   · rcases a0H hb with⟨j,u,rfl,e⟩ | ⟨y,u,rfl,e⟩
     · exact nomatch e
     · injection e with e1 _;rw [e1]
 byValue:=fun k v h=>by
   rcases a0H h with⟨i,t,rfl,rfl⟩ | ⟨x,t,rfl,rfl⟩ <;> rfl
 pyHash:=fun hv h=>by
   rcases a0H hv with⟨i,t,rfl,rfl⟩ | ⟨x,t,rfl,rfl⟩
   · exact wpAny_pyHash_int h
   · exact wpAny_pyHash_str h
 eqBool:=fun hu hv h=>by
   rcases a0H hu with⟨i,t,rfl,rfl⟩ | ⟨x,t,rfl,rfl⟩
   · rcases a0H hv with⟨j,u,rfl,rfl⟩ | ⟨y,u,rfl,rfl⟩
     · rw [key_ll] at h;exact wpAny_eqBool_int h
     · rw [key_lr] at h;exact SeqAt.EqAt.int_str i t y u _ _ _ _ h
   · rcases a0H hv with⟨j,u,rfl,rfl⟩ | ⟨y,u,rfl,rfl⟩
     · rw [key_rl] at h;exact SeqAt.EqAt.str_int x t j u _ _ _ _ h
     · rw [key_rr] at h;exact wpAny_eqBool_str h
 «strs»:=fun k x t v h=>by
   rcases a0H h with⟨i,u,rfl,e⟩ | ⟨y,u,rfl,e⟩
   · exact nomatch e
   · injection e with e1 _;subst e1;cases v <;> rfl
theorem a4E (prog:x0G)(w:World)(i:Int)(t:Tok):(a0F prog w).is (.inl i) (.int i t)=true:=b1d i t
theorem a2n (prog:x0G)(w:World)(x:Str)(t:Tok):(a0F prog w).is (.inr x) (.str x t)=true:=b1c x t
inductive V where
 | non | bl (b:Bool) | int (i:Int) | str (x:Str) | byt (b:Array UInt8) | flt (b:UInt64) | ref (a:Addr) | ty (n:String)
 deriving DecidableEq
noncomputable def RelV:V->Value->Prop
 | .non,u=>u=x2Z
 | .bl b,u=>u=Value.bool b
 | .int i,u=>∃t,u=Value.int i t
 | .str x,u=>∃t,u=Value.str x t
 | .byt b,u=>∃t,u=Value.bytes b t
 | .flt b,u=>∃t,u=Value.float b t
 | .ref a,u=>u=x1l a
 | .ty n,u=>u=x1q n
noncomputable abbrev Vals:List V->List Value->Prop:=Paired RelV
theorem Vals.length {xs:List V}{us:List Value}(r:Vals xs us):xs.length=us.length:=Paired.length r
theorem Vals.get:∀{xs:List V} {us:List Value} {i:Nat} {x:V},Vals xs us->xs[i]?=some x->∃u,us[i]?=some u/\RelV x u
 | _,_,_,_,.nil,e=>by simp at e
 | _,_,0,_,.cons r _,e=>by simp at e;subst e;exact⟨_,rfl,r⟩
 | _, _, i + 1, x, .cons _ t, e => by
   obtain⟨u,h1,h2⟩:=Vals.get (i:=i) (x:=x) t (by simpa using e);exact⟨u,by simpa using h1,h2⟩
theorem Vals.set {x:V}{u:Value}(r:RelV x u):∀{xs:List V} {us:List Value} (i:Nat),Vals xs us->Vals (xs.set i x) (us.set i u)
 | _,_,_,.nil=>.nil
 | _,_,0,.cons _ t=>.cons r t
 | _,_,i + 1,.cons q t=>.cons q (Vals.set r i t)
theorem Vals.append {xs ys:List V}{us ws:List Value}(h:Vals xs us)(s:Vals ys ws):Vals (xs++ys) (us++ws):=by
 induction h with
 | nil=>exact s
 | cons r _ ih=>exact .cons r ih
theorem Vals.take:∀{xs:List V} {us:List Value} (n:Nat),Vals xs us->Vals (xs.take n) (us.take n)
 | _,_,0,_=>.nil
 | _,_,_ + 1,.nil=>.nil
 | _,_,n + 1,.cons r t=>.cons r (Vals.take n t)
theorem Vals.drop:∀{xs:List V} {us:List Value} (n:Nat),Vals xs us->Vals (xs.drop n) (us.drop n)
 | _,_,0,r=>r
 | _,_,_ + 1,.nil=>.nil
 | _,_,n + 1,.cons _ t=>Vals.drop n t
noncomputable def RelO:Option V->Option Value->Prop
 | some v,some u=>RelV v u
 | none,none=>True
 | _,_=>False
noncomputable def KV {κ:Type}:List (κ×V)->List (κ×Value)->Prop:=Paired fun(p:κ×V) (q:κ×Value)=>p.1=q.1/\RelV p.2 q.2
noncomputable def kV:Key->V
 | .inl i=>.int i
 | .inr x=>.str x
inductive HO where
 /-- a list -/
 | lst (xs:List V)
 /-- a tuple (never changes) -/
 | tup (xs:List V)
 /-- a dict whose keys are ints and a2d; one whose keys are tuples of ints and a2d (the empty one is both) -/
 | dK (kvs:List (Key×V)) | dT (kvs:List (List Key×V))
 /-- a set of ints: its members, its size -/
 | set (S:Key->Bool) (n:Nat)
 /-- an instance of the class at C, its dict at dx, its attributes -/
 | ins (C dx:Addr) (fs:List (Str×V))
 /-- the dict of the instance at x -/
 | own (x:Addr)
 /-- the dict of an exception -/
 | xd (fs:List (Str×V))
 /-- a bound method, f of x -/
 | met (f x:Addr)
 /-- a range object lo, lo + 1, .. below hi -/
 | rng (lo hi:Int)
 /-- a thing that is known to the object (the script; a dict while a loop walks it): read, never written while it is so -/
 | frz (o:Obj) (u:HO)
 /-- a code object's table -/
 | tbl (ps:Array Value)
 /-- any other thing, by what is true of its one object (a def of one's own: SetO a S n := HO.ext fun h => ..) -/
 | ext (φ:Heap->Prop)
noncomputable abbrev Hp:=Addr->Option HO
noncomputable def upd (H:Hp)(a:Addr)(o:HO):Hp:=fun b=>if b=a then some o else H b
theorem a0l {H:Hp}{a:Addr}{o:HO}:upd H a o a=some o:=by unfold upd;rw [if_pos rfl]
theorem a0j {H:Hp}{a b:Addr}{o:HO}(h:b≠a):upd H a o b=H b:=by unfold upd;rw [if_neg h]
theorem a0J {H:Hp}{a b:Addr}{o:HO}(h:H a=some o)(h':H b=none):a≠b:=by
 intro e;subst e;rw [h] at h';cases h'
noncomputable def a2Q (h:Heap)(a:Addr)(items:Array Value):Prop:=∃o,h.get? a=some o/\(o.cls,o.dict)=(x1q "tuple",none)/\∃n,o.data=.seq items n
theorem a2Q.is {h:Heap}{a:Addr}{items:Array Value}(x:a2Q h a items):IsTup h a items:=let ⟨o,e,c,r⟩:=x;⟨o,e,(Prod.mk.inj c).1,r⟩
theorem a2Q.lt {h:Heap}{a:Addr}{items:Array Value}(x:a2Q h a items):a < h.objs.size:=let ⟨_,e,_⟩:=x;x0o e
theorem a2Q.new (h:Heap)(items:Array Value):a2Q (h.push { cls:=.type "tuple",data:=.seq items }) h.objs.size items:=⟨_,x0s _ rfl,rfl,_,rfl⟩
section
variable (P:x0G)(w:World)
noncomputable def a1n (H:Hp)(h:Heap)(a:Addr):HO->Prop
 | .lst xs=>xs.length<=x0B/\∃(its:List Value) (n:Nat),Vals xs its/\h.get? a=some { cls:=.type "list",data:=.seq its.toArray n }
 | .tup xs=>xs.length<=x0B/\∃its:List Value,Vals xs its/\a2Q h a its.toArray
 | .dK kvs=>kvs.length<=x0B/\(a == x2b)=false/\∃vs,KV kvs vs/\h.DictOf (a0F P w) a vs
 | .dT kvs=>kvs.length<=x0B/\(a == x2b)=false/\∃xs:List (List Key×Addr×Value),
     Paired (fun(p:List Key×V) (q:List Key×Addr×Value)=>p.1=q.1/\H q.2.1=some (.tup (p.1.map kV))/\RelV p.2 q.2.2) kvs xs/\
     ∃o es ep,h.get? a=some o/\o.ExactDict/\o.data=.dict es ep/\es.toList=xs.map (entryOfKey (tupleKind (a0F P w)))/\(xs.map (·.1)).Nodup
 | .set S n=>h.SetOf (a0F P w) a S n
 | .ins C dx fs=>H dx=some (.own a)/\fs.length<=1000/\dx≠a/\h.get? a=some (PySem.W.instObj C dx)/\
     ∃mA,h.Ns1 dx mA/\(∀f,RelO (fs.lookup f) (mA f))/\PySem.Within mA (fs.map (·.1))
 | .own _=>∃o,h.get? a=some o
 | .xd fs=>∃mA,h.Ns1 a mA/\∀f,RelO (fs.lookup f) (mA f)
 | .rng lo hi=>∃t u v,h.get? a=some { cls:=.type "range",data:=.fields #[.int lo t,.int hi u,.int 1 v] }
 | .frz o u=>h.get? a=some o/\a1n H h a u
 | .tbl ps=>h.get? a=some { cls:=.none,data:=.fields ps }
 | .met f x=>h.get? a=some (x4S (.ref f) (.ref x))
 | .ext φ=>φ h/\(∃o,h.get? a=some o)/\∀h1 h2:Heap,φ h1->(∀o,h1.get? a=some o->h2.get? a=some o)->φ h2
noncomputable def HOk (H:Hp)(h:Heap):Prop:=∀a o,H a=some o->a1n P w H h a o
end
section
variable {P:x0G}{w:World}{H H':Hp}{h h':Heap}{a:Addr}{o:HO}
theorem a1n.lt (x:a1n P w H h a o):a < h.objs.size:=by
 cases o with
 | lst xs=>obtain⟨_,_,_,_,e⟩:=x;exact x0o e
 | tup xs=>obtain⟨_,_,_,p⟩:=x;exact p.lt
 | dK kvs=>obtain⟨_,_,_,_,o,_,_,e,_⟩:=x;exact x0o e
 | dT kvs=>obtain⟨_,_,_,_,o,_,_,e,_⟩:=x;exact x0o e
 | set S n=>obtain⟨o,_,_,_,e,_⟩:=x;exact x0o e
 | ins C dx fs=>obtain⟨_,_,_,e,_⟩:=x;exact x0o e
 | own y=>obtain⟨_,e⟩:=x;exact x0o e
 | xd fs=>obtain⟨_,⟨_,_,_,e,_⟩,_⟩:=x;exact x0o e
 | rng lo hi=>obtain⟨_,_,_,e⟩:=x;exact x0o e
 | frz ob u=>obtain⟨e,_⟩:=x;exact x0o e
 | tbl ps=>exact x0o (show h.get? a=some _ from x)
 | met f y=>exact x0o (show h.get? a=some _ from x)
 | ext φ=>obtain⟨_,⟨_,e⟩,_⟩:=x;exact x0o e
theorem Paired.mapP {α β:Type}{F G:α->β->Prop}{l₁:List α}{l₂:List β}(h:Paired F l₁ l₂)(f:∀a b,F a b->G a b):Paired G l₁ l₂:=by
 induction h with
 | nil=>exact .nil
 | cons r _ ih=>exact .cons (f _ _ r) ih
theorem Paired.imp' {α β:Type}{F G:α->β->Prop}(f:∀a b,F a b->G a b){l₁:List α}{l₂:List β}(r:Paired F l₁ l₂):Paired G l₁ l₂:=Paired.mapP r f
theorem a1n.stay (x:a1n P w H h a o)(k:∀b u,(b=a\/H b=some (.own a))->h.get? b=some u->h'.get? b=some u)
   (ho:∀b,H b=some (.own a)->H' b=some (.own a)) (ht:∀b xs,H b=some (.tup xs)->H' b=some (.tup xs)):a1n P w H' h' a o:=by
 induction o with
 | lst xs=>obtain⟨z,its,n,r,e⟩:=x;exact⟨z,its,n,r,k _ _ (.inl rfl) e⟩
 | tup xs=>obtain⟨z,its,r,ob,e,c⟩:=x;exact⟨z,its,r,ob,k _ _ (.inl rfl) e,c⟩
 | dK kvs=>obtain⟨z,y,vs,r,ob,es,ep,e,c⟩:=x;exact⟨z,y,vs,r,ob,es,ep,k _ _ (.inl rfl) e,c⟩
 | dT kvs =>
   obtain⟨z,y,xs,r,ob,es,ep,e,c⟩:=x;exact⟨z,y,xs,Paired.mapP r fun p q z=>⟨z.1,ht _ _ z.2.1,z.2.2⟩,ob,es,ep,k _ _ (.inl rfl) e,c⟩
 | set S n=>obtain⟨ob,es,ep,t,e,c⟩:=x;exact⟨ob,es,ep,t,k _ _ (.inl rfl) e,c⟩
 | ins C dx fs =>
   obtain⟨d,z,ne,e,mA,⟨od,es,ep,e2,c⟩,r⟩:=x;exact⟨ho _ d,z,ne,k _ _ (.inl rfl) e,mA,⟨od,es,ep,k _ _ (.inr d) e2,c⟩,r⟩
 | own y=>obtain⟨ob,e⟩:=x;exact⟨ob,k _ _ (.inl rfl) e⟩
 | xd fs=>obtain⟨mA,⟨od,es,ep,e,c⟩,r⟩:=x;exact⟨mA,⟨od,es,ep,k _ _ (.inl rfl) e,c⟩,r⟩
 | rng lo hi=>obtain⟨t,u,v,e⟩:=x;exact⟨t,u,v,k _ _ (.inl rfl) e⟩
 | frz ob u ih=>obtain⟨e,q⟩:=x;exact⟨k _ _ (.inl rfl) e,ih q⟩
 | tbl ps =>
   have e:h.get? a=some { cls:=.none,data:=.fields ps }:=x;show h'.get? a=some { cls:=.none,data:=.fields ps };exact k a _ (.inl rfl) e
 | met f y =>
   have e:h.get? a=some (x4S (.ref f) (.ref y)):=x;show h'.get? a=some (x4S (.ref f) (.ref y));exact k a _ (.inl rfl) e
 | ext φ=>obtain⟨p,⟨o,e⟩,st⟩:=x;exact⟨st _ _ p fun o q=>k _ _ (.inl rfl) q,⟨o,k _ _ (.inl rfl) e⟩,st⟩
theorem HOk.lt (x:HOk P w H h)(e:H a=some o):a < h.objs.size:=(x a o e).lt
theorem HOk.fresh (x:HOk P w H h)(e:h.objs.size<=a):H a=none:=by
 cases q:H a with
 | none=>rfl
 | some u=>exact absurd (x0x (x.lt q) e) (x1U _)
theorem HOk.kept (x:HOk P w H h)(k:∀b u,h.get? b=some u->h'.get? b=some u):HOk P w H h':=fun a o e=>
 (x a o e).stay (fun b u _ q=>k b u q) (fun _ q=>q) fun _ _ q=>q
theorem HOk.laid (x:HOk P w H h)(k:∀b u,h.get? b=some u->h'.get? b=some u)(hp:h.objs.size<=a)(new:a1n P w (upd H a o) h' a o):HOk P w (upd H a o) h':=fun b u e=>by
 have hn:=x.fresh hp
 by_cases hb:b=a
 · subst hb;rw [a0l] at e;cases e;exact new
 · rw [a0j hb] at e;exact(x b u e).stay (fun c v _ q=>k c v q) (fun c q=>by rw [a0j (a0J q hn)];exact q) fun c xs q=>by rw [a0j (a0J q hn)];exact q
end
noncomputable def Rd (H:Hp)(a:Addr)(u:HO):Prop:=H a=some u\/∃o,H a=some (.frz o u)
theorem Rd.ok {P:x0G}{w:World}{H:Hp}{h:Heap}{a:Addr}{u:HO}(r:Rd H a u)(x:HOk P w H h):a1n P w H h a u:=by
 rcases r with r | ⟨o,r⟩
 · exact x a u r
 · obtain⟨_,q⟩:=x a _ r;exact q
noncomputable def Mut:Option HO->Prop
 | some (.lst _)=>True
 | some (.dK _)=>True
 | some (.dT _)=>True
 | some (.set _ _)=>True
 | some (.ins _ _ _)=>True
 | some (.ext _)=>True
 | _=>False
section
variable {P:x0G}{w:World}{H:Hp}{h h':Heap}{x e:Addr}{o':HO}
theorem HOk.write (ok:HOk P w H h)(mu:Mut (H x))(he:e=x\/H e=some (.own x))(k:∀b u,b≠e->h.get? b=some u->h'.get? b=some u)(heo:∃u,h'.get? e=some u)
   (new:a1n P w (upd H x o') h' x o'):HOk P w (upd H x o') h':=fun b u q=>by
 have nown:∀c y,H c=some (.own y)->c≠x:=fun c y r z=>by subst z;rw [r] at mu;exact mu
 have ntup:∀c xs,H c=some (.tup xs)->c≠x:=fun c xs r z=>by subst z;rw [r] at mu;exact mu
 by_cases hb:b=x
 · subst hb;rw [a0l] at q;cases q;exact new
 · rw [a0j hb] at q
   by_cases hbe:b=e
   · have q':H b=some (.own x):=by
       rcases he with z | z
       · exact absurd (hbe.trans z) hb
       · rw [hbe];exact z
     rw [q] at q';cases q';obtain⟨v,hv⟩:=heo;exact⟨v,by rw [hbe];exact hv⟩
   · refine(ok b u q).stay (fun c v hc r=>k c v ?_ r) (fun c r=>by rw [a0j (nown c b r)];exact r) fun c xs r=>by rw [a0j (ntup c xs r)];exact r
     rcases hc with rfl | hc
     · exact hbe
     · rintro rfl;rcases he with z | z
       · exact nown c b hc z
       · rw [hc] at z;cases z;exact hb rfl
end
noncomputable def NS (H:Hp):Prop:=H x2b=none\/∃o u,H x2b=some (.frz o u)
structure Un (fs ex:List Addr)(H H':Hp)(h h':Heap):Prop where
 keep:∀b o,h.get? b=some o->H b=none->b∉fs->b∉ex->h'.get? b=some o
 slot:∀b o,h.get? b=some o->H b=none->b∈fs->b∉ex->∃sl,h'.get? b=some { o with slots:=sl }
 free:∀b o,h.get? b=some o->H b=none->b∉ex->H' b=none
 there:∀b o,h.get? b=some o->b∉ex->∃o',h'.get? b=some o'
 tups:∀b xs,H b=some (.tup xs)->H' b=some (.tup xs)
 frzs:∀b o u,H b=some (.frz o u)->H' b=some (.frz o u)
 tbls:∀b ps,H b=some (.tbl ps)->∃more,H' b=some (.tbl (ps++more))
 sys:NS H->NS H'
section
variable {fs fs' ex ex':List Addr}{H H1 H2:Hp}{h h1 h2 h':Heap}{a x e:Addr}{o:HO}
theorem Un.any (u:Un fs ex H H1 h h1){b:Addr}{ob:Obj}(q:h.get? b=some ob)(n:H b=none)(hx:b∉ex):∃sl,h1.get? b=some { ob with slots:=sl }:=by
 by_cases hb:b∈fs
 · exact u.slot b ob q n hb hx
 · exact⟨ob.slots,u.keep b ob q n hb hx⟩
theorem Un.kept (k:∀b u,h.get? b=some u->h'.get? b=some u):Un fs ex H H h h':=
 ⟨fun b ob q _ _ _=>k b ob q,fun b ob q _ _ _=>⟨ob.slots,k b ob q⟩,fun _ _ _ n _=>n,fun b ob q _=>⟨ob,k b ob q⟩,fun _ _ q=>q,fun _ _ _ q=>q,fun _ ps q=>⟨#[],by rw [q];simp⟩,fun z=>z⟩
theorem Un.refl:Un fs ex H H h h:=Un.kept fun _ _ q=>q
theorem Un.laid (k:∀b u,h.get? b=some u->h'.get? b=some u)(hp:h.objs.size<=a)(hn:H a=none)(hy:x2b < h.objs.size):Un fs ex H (upd H a o) h h' where
 keep:=fun b u q _ _ _=>k b u q
 slot:=fun b u q _ _ _=>⟨u.slots,k b u q⟩
 free:=fun b u q n _=>by rw [a0j (x0r (x0x (x0o q) hp))];exact n
 there:=fun b u q _=>⟨u,k b u q⟩
 tups:=fun b xs q=>by rw [a0j (a0J q hn)];exact q
 frzs:=fun b u xs q=>by rw [a0j (a0J q hn)];exact q
 tbls:=fun b ps q=>⟨#[],by rw [a0j (a0J q hn),q];simp⟩
 sys:=fun z=>by unfold NS;rw [a0j (x0r (x0x hy hp))];exact z
theorem Un.write (mu:Mut (H x))(he:e=x\/H e=some (.own x))(k:∀b u,b≠e->h.get? b=some u->h'.get? b=some u)(heo:∃u,h'.get? e=some u):Un fs ex H (upd H x o) h h':=by
 have hx:∀b,H b=none->b≠x:=fun b n z=>by subst z;rw [n] at mu;exact mu
 have hb:∀b,H b=none->b≠e:=fun b n z=>by
   subst z;rcases he with r | r
   · exact hx b n r
   · rw [n] at r;cases r
 have hm:∀b u,H b=some u->¬Mut (some u)->b≠x:=fun b u q nm z=>by subst z;rw [q] at mu;exact nm mu
 refine⟨fun b u q n _ _=>k b u (hb b n) q,fun b u q n _ _=>⟨u.slots,k b u (hb b n) q⟩,fun b u q n _=>by rw [a0j (hx b n)];exact n,fun b u q _=>?_,
   fun b xs q=>by rw [a0j (hm b _ q fun z=>z)];exact q,fun b u xs q=>by rw [a0j (hm b _ q fun z=>z)];exact q,fun b ps q=>⟨#[],by rw [a0j (hm b _ q fun z=>z),q];simp⟩,fun z=>by
     rcases z with z | ⟨ob,u,z⟩
     · exact .inl (by rw [a0j (hx _ z)];exact z)
     · exact .inr ⟨ob,u,by rw [a0j (hm _ _ z fun z=>z)];exact z⟩⟩
 by_cases hbe:b=e
 · subst hbe;exact heo
 · exact⟨u,k b u hbe q⟩
end
noncomputable def trk (h:Heap)(H:Hp):List Addr:=(x0L h.objs.size).filter fun a=>(H a).isSome
noncomputable def hidT (h:Heap)(H:Hp):Heap:=PySem.W.hideAll h (trk h H)
theorem b1n (h:Heap)(H:Hp):(hidT h H).objs.size=h.objs.size:=PySem.W.hideAll_size _ _
theorem b3h {h:Heap}{H:Hp}{b:Addr}{o:Obj}(e:h.get? b=some o)(n:H b=none):(hidT h H).get? b=some o:=
 PySem.W.hideAll_get _ e fun hm=>by
   have q:(H b).isSome=true:=(x0W.mp hm).2;rw [n] at q;simp at q
theorem b5o {h:Heap}{H:Hp}{b:Addr}{o:Obj}(e:(hidT h H).get? b=some o):h.get? b=some o/\H b=none:=by
 have e':h.get? b=some o:=PySem.W.of_hideAll (trk h H) e;refine⟨e',?_⟩;cases q:H b with
 | none=>rfl
 | some x =>
   have hm:b∈trk h H:=x0W.mpr ⟨x0N.mpr (x0o e'),by simp [q]⟩;have z:(hidT h H).get? b=none:=PySem.W.hideAll_none (trk h H) hm;rw [z] at e;cases e
noncomputable def b6a (g h:Heap)(L:Addr):List (Addr×Obj):=(x0L h.objs.size).filterMap fun a=>if a=L\/(g.get? a).isSome=true then none else(h.get? a).map fun o=>(a,o)
noncomputable def rest (g h:Heap)(L d:Addr):List (Addr×Obj):=(b6a g h L).filter fun p=>decide (p.1≠d)
structure Mod (K:x0b)(mg:Str->Option Value)(base:Heap):Prop where
 kin:K.In base
 glob:base.Ns x2k mg
 blt:∃mb,base.Ns builtinsNs mb/\∀x:Str,x≠"__name__"->mb x=x1i x
 nolimit:base.NoLimit
structure Cx where
 prog:x0G
 w:World
 K:x0b
 mg:Str->Option Value
 base:Heap
 A:Around
 N:List Str
 s₀:Shared
 H₀:Hp
 env:Env
 outer:List Env
 stack:List Env
 ex:List Addr
 fn:Str->Bool
 calm:Bool
 pn:List (Addr×Obj)
 xe:Value->Shared->Prop
noncomputable def frs (l:List Env):List Addr:=l.filterMap (·.frame)
noncomputable abbrev Cx.fs (X:Cx):List Addr:=frs X.outer
noncomputable def Vis (sc:Scope)(x:Str):Prop:=sc.names.lookup x=some .local\/sc.names.lookup x=some .cell\/sc.names.lookup x=some .free
noncomputable def Loc (sc:Scope)(x:Str):Prop:=sc.names.lookup x=some .local\/sc.names.lookup x=some .cell
noncomputable def Look (env:Env)(h:Heap)(m:Str->Option Value)(x:Str)(u:Value):Prop:=
 (env.kindOf x=some .local/\m x=some u)\/((env.kindOf x=some .cell\/env.kindOf x=some .free)/\∃c,env.cells.lookup x=some c/\h.IsCell c (some u))
structure Cx.Ok (X:Cx):Prop where
 mod:Mod X.K X.mg X.base
 kind:X.env.scope.kind=.function
 glob:X.env.globals=x2k
 blt:X.env.builtins=builtinsNs
 above:X.s₀.heap.objs.size<=X.env.locals
 inj:∀x y c,X.env.cells.lookup x=some c->X.env.cells.lookup y=some c->x=y
 has:∀x,(X.env.kindOf x=some .cell\/X.env.kindOf x=some .free)->∃c,X.env.cells.lookup x=some c
 cab:∀x c,X.fn x=true->X.env.cells.lookup x=some c->X.s₀.heap.objs.size<=c
 hd:X.calm=true->X.A.handled=none
 frames:X.A.frames=some X.stack
 stk:X.stack=X.outer\/(X.stack=X.env::X.outer/\X.env.frame=some X.env.locals)
 exf:∀b∈X.ex,b≠X.env.locals/\∀x c,X.env.cells.lookup x=some c->c≠b
 bs:∀b o,X.base.get? b=some o->X.s₀.heap.get? b=some o/\X.H₀ b=none
 bsz:X.base.objs.size<=X.s₀.heap.objs.size
 noex:∀b o,X.base.get? b=some o->b∉X.ex
 exfs:∀b∈X.ex,b∉X.fs
 funs:X.s₀.heap.FunFrames X.base X.outer
 frf:∀b∈X.fs,X.H₀ b=none
 nos:NS X.H₀
structure Inv (X:Cx)(pins:List (Addr×Obj))(σ:List (Option V))(H:Hp)(s:Shared):Prop where
 ok:X.Ok
 os:s.os=X.s₀.os
 bare:AllBare s.gens
 base:Un X.fs X.ex X.H₀ H X.s₀.heap s.heap
 loc:∃m,s.heap.Ns X.env.locals m/\∀(i:Nat) (x:Str) (v:V),X.N[i]?=some x->σ[i]?=some (some v)->Vis X.env.scope x->∃u,RelV v u/\Look X.env s.heap m x u
 cell:∀x c,X.env.cells.lookup x=some c->∃v,s.heap.IsCell c v
 free:H X.env.locals=none
 freeC:∀x c,X.env.cells.lookup x=some c->H c=none
 pin:∀p∈X.pn++pins,s.heap.get? p.1=some p.2/\H p.1=none/\p.1≠X.env.locals/\p.1∉X.fs/\∀v,p.2.data≠.cell v
 hok:HOk X.prog X.w H s.heap
 len:σ.length=X.N.length
section
variable {X:Cx}{pins:List (Addr×Obj)}{σ:List (Option V)}{H H':Hp}{s:Shared}{h':Heap}
variable {g':Array GenState}{t':Nat}{d':Drawn}{ch:List Addr}{M:Model}{v:V}
theorem Cx.Ok.nofr (ok:X.Ok){b:Addr}{o:Obj}(e:X.base.get? b=some o):b∉X.fs:=fun hb=>by
 have:=(ok.funs.mem hb).1;rw [e] at this;cases this
theorem Inv.bs (I:Inv X pins σ H s):∀b o,X.base.get? b=some o->s.heap.get? b=some o/\H b=none:=fun b o e=>
 ⟨I.base.keep b o (I.ok.bs b o e).1 (I.ok.bs b o e).2 (I.ok.nofr e) (I.ok.noex b o e),I.base.free b o (I.ok.bs b o e).1 (I.ok.bs b o e).2 (I.ok.noex b o e)⟩
theorem Inv.bk (I:Inv X pins σ H s):∀b o,X.base.get? b=some o->s.heap.get? b=some o:=fun b o e=>(I.bs b o e).1
theorem Inv.mod (I:Inv X pins σ H s):Mod X.K X.mg X.base:=I.ok.mod
theorem Inv.nos (I:Inv X pins σ H s):NS H:=I.base.sys I.ok.nos
theorem Inv.bigS (I:Inv X pins σ H s):x2b < s.heap.objs.size:=x4h (by decide) (I.mod.glob.keeps I.bk).lt
theorem Inv.kIn (I:Inv X pins σ H s):X.K.In s.heap:=I.ok.mod.kin.keeps I.bk
theorem Inv.nolimit (I:Inv X pins σ H s):s.heap.NoLimit:=I.ok.mod.nolimit.keeps I.bk
theorem Inv.lt (I:Inv X pins σ H s):X.env.locals < s.heap.objs.size:=let ⟨_,hn,_⟩:=I.loc;hn.lt
theorem Inv.sz (I:Inv X pins σ H s):X.s₀.heap.objs.size<=s.heap.objs.size:=x1f I.ok.above (x2r I.lt)
theorem Inv.nofs (I:Inv X pins σ H s){a:Addr}(h:s.heap.objs.size<=a):a∉X.fs:=fun hb=>by
 obtain⟨_,o,ho,_⟩:=I.ok.funs.mem hb;exact absurd (x0x (x0o ho) (x1f I.sz h)) (x1U _)
theorem Inv.cne (I:Inv X pins σ H s):∀x c,X.env.cells.lookup x=some c->c≠X.env.locals:=fun x c e z=>by
 obtain⟨v,o,ho,hd⟩:=I.cell x c e;obtain⟨m,⟨o',es,ep,ho',hd',_⟩,_⟩:=I.loc;rw [z,ho'] at ho;cases ho;rw [hd'] at hd;cases hd
theorem Inv.funs (I:Inv X pins σ H s):s.heap.FunFrames X.base X.outer:=by
 have all:∀(l:List Env),(∀b∈frs l,b∈X.fs)->X.s₀.heap.FunFrames X.base l->s.heap.FunFrames X.base l:=by
   intro l
   induction l with
   | nil=>intro _ _;trivial
   | cons env r ih =>
     intro hs hl;obtain⟨hk,⟨L,o,hf,hn,ho,hd⟩,hr⟩:=hl;have hL:L∈X.fs:=hs L (by unfold frs;rw [x2M,hf];exact x0g);obtain⟨sl,e⟩:=I.base.slot L o ho (I.ok.frf L hL) hL fun z=>I.ok.exfs L z hL;exact⟨hk,⟨L,_,hf,hn,e,hd⟩,ih (fun b hb=>hs b (by unfold frs;rw [x2M,hf];exact x0f _ hb)) hr⟩
 exact all X.outer (fun _ hb=>hb) I.ok.funs
theorem Inv.stack (I:Inv X pins σ H s):s.heap.FunFrames X.base X.stack:=by
 rcases I.ok.stk with e | ⟨e,hf⟩
 · rw [e];exact I.funs
 · rw [e];obtain⟨m,hn,_⟩:=I.loc;refine .cons (by rw [I.ok.kind];decide) hf hn ?_ I.funs;exact Heap.get?_none_of_le (x1f I.ok.bsz I.ok.above)
theorem Inv.stkSub (I:Inv X pins σ H s):∀b∈frs X.stack,b∈X.env.locals::X.fs:=fun b hb=>by
 rcases I.ok.stk with e | ⟨e,hf⟩
 · rw [e] at hb;exact x0f _ hb
 · rw [e] at hb;unfold frs at hb;rw [x2M,hf] at hb;exact hb
theorem Inv.stkFree (I:Inv X pins σ H s):∀b∈frs X.stack,H b=none:=fun b hb=>by
 rcases x0k.mp (I.stkSub b hb) with e | hb
 · rw [e];exact I.free
 · obtain⟨_,o,ho,_⟩:=I.ok.funs.mem hb;exact I.base.free b o ho (I.ok.frf b hb) fun z=>I.ok.exfs b z hb
theorem Inv.step (I:Inv X pins σ H s)
   (hch:∀b∈ch,(b∈X.ex\/X.s₀.heap.objs.size<=b)/\b≠X.env.locals/\(∀x c,X.env.cells.lookup x=some c->c≠b)/\∀p∈X.pn++pins,p.1≠b)
   (keep:∀b o,b≠X.env.locals->b∉X.fs->b∉ch->s.heap.get? b=some o->H b=none->h'.get? b=some o)
   (slot:∀b o,b≠X.env.locals->b∈X.fs->b∉ch->s.heap.get? b=some o->H b=none->∃sl,h'.get? b=some { o with slots:=sl }) (free:∀b o,b∉ch->s.heap.get? b=some o->H b=none->H' b=none)
   (there:∀b o,b∉ch->s.heap.get? b=some o->∃o',h'.get? b=some o')
   (tups:∀b xs,H b=some (.tup xs)->H' b=some (.tup xs)) (frzs:∀b o u,H b=some (.frz o u)->H' b=some (.frz o u)) (tbls:∀b ps,H b=some (.tbl ps)->∃more,H' b=some (.tbl (ps++more))) (sys:NS H->NS H')
   (ns:∀m,s.heap.Ns X.env.locals m->h'.Ns X.env.locals m) (hok:HOk X.prog X.w H' h') (hg:AllBare g') :
   Inv X pins σ H' { s with heap:=h',gens:=g',drawn:=d',toks:=t' }:=by
 have neL:∀b o,X.s₀.heap.get? b=some o->b≠X.env.locals:=fun b o e=>x0r (x0x (x0o e) I.ok.above)
 have neC:∀b o,X.s₀.heap.get? b=some o->b∉X.ex->b∉ch:=fun b o e hx hb=>by
   rcases(hch b hb).1 with z | z
   · exact hx z
   · exact absurd (x0x (x0o e) z) (x1U _)
 have cellK:∀x c,X.env.cells.lookup x=some c->∀v,s.heap.IsCell c v->h'.IsCell c v:=fun x c e v ⟨o,ho,hd⟩=>by
   have nch:c∉ch:=fun z=>(hch c z).2.2.1 x c e rfl
   by_cases hc:c∈X.fs
   · obtain⟨sl,q⟩:=slot c o (I.cne x c e) hc nch ho (I.freeC x c e);exact⟨_,q,hd⟩
   · exact⟨o,keep c o (I.cne x c e) hc nch ho (I.freeC x c e),hd⟩
 refine⟨I.ok,I.os,hg,⟨fun b o e n hb hx=>?_,fun b o e n hb hx=>?_,fun b o e n hx=>?_,fun b o e hx=>?_,fun b xs e=>tups b xs (I.base.tups b xs e),fun b o xs e=>frzs b o xs (I.base.frzs b o xs e),fun b ps e=>?_,fun z=>sys (I.base.sys z)⟩,?_,fun x c e=>?_,?_,fun x c e=>?_,fun p hp=>?_,hok,I.len⟩
 · exact keep b o (neL b o e) hb (neC b o e hx) (I.base.keep b o e n hb hx) (I.base.free b o e n hx)
 · obtain⟨sl,e1⟩:=I.base.slot b o e n hb hx;obtain⟨sl',e2⟩:=slot b _ (neL b o e) hb (neC b o e hx) e1 (I.base.free b o e n hx);exact⟨sl',e2⟩
 · obtain⟨o',e1⟩:=I.base.there b o e hx;exact free b o' (neC b o e hx) e1 (I.base.free b o e n hx)
 · obtain⟨o',e1⟩:=I.base.there b o e hx;exact there b o' (neC b o e hx) e1
 · obtain⟨m1,e1⟩:=I.base.tbls b ps e;obtain⟨m2,e2⟩:=tbls b _ e1;exact⟨m1++m2,by rw [e2,Array.append_assoc]⟩
 · obtain⟨m,hn,hl⟩:=I.loc;refine⟨m,ns m hn,fun i x v e1 e2 e3=>?_⟩;obtain⟨u,r,l⟩:=hl i x v e1 e2 e3;refine⟨u,r,?_⟩;rcases l with l | ⟨k,c,e,z⟩
   · exact .inl l
   · exact .inr ⟨k,c,e,cellK x c e _ z⟩
 · obtain⟨v,z⟩:=I.cell x c e;exact⟨v,cellK x c e v z⟩
 · obtain⟨m,⟨o,_,_,ho,_⟩,_⟩:=I.loc;exact free _ o (fun z=>(hch _ z).2.1 rfl) ho I.free
 · obtain⟨v,o,ho,hd⟩:=I.cell x c e;exact free c o (fun z=>(hch c z).2.2.1 x c e rfl) ho (I.freeC x c e)
 · obtain⟨e,n,ne,nf,d⟩:=I.pin p hp;have nch:p.1∉ch:=fun z=>(hch p.1 z).2.2.2 p hp rfl;exact⟨keep p.1 p.2 ne nf nch e n,free p.1 p.2 nch e n,ne,nf,d⟩
theorem Inv.un (I:Inv X pins σ H s)(u:Un X.fs [] H H' s.heap h')(hok:HOk X.prog X.w H' h'):Inv X pins σ H' { s with heap:=h',toks:=t' }:=by
 obtain⟨m,⟨o,es,ep,ho,r⟩,_⟩:=id I.loc;obtain⟨sl,hL⟩:=u.any ho I.free (by simp)
 exact I.step (g':=s.gens) (d':=s.drawn) (ch:=[]) (fun _ z=>nomatch z) (fun b o _ hb _ e n=>u.keep b o e n hb (by simp)) (fun b o _ hb _ e n=>u.slot b o e n hb (by simp)) (fun b o _ e n=>u.free b o e n (by simp)) (fun b o _ e=>u.there b o e (by simp)) u.tups u.frzs u.tbls u.sys (fun m' hm=>by
   obtain⟨o',es',ep',ho',r'⟩:=hm;rw [ho] at ho';cases ho'
   exact⟨_,es',ep',hL,r'⟩) hok I.bare
theorem Inv.call (I:Inv X pins σ H s)(u:Un (frs X.stack) ch H H' s.heap h')(hok:HOk X.prog X.w H' h')(hg:AllBare g')
   (hch:∀b∈ch,(b∈X.ex\/X.s₀.heap.objs.size<=b)/\b≠X.env.locals/\(∀x c,X.env.cells.lookup x=some c->c≠b)/\∀p∈X.pn++pins,p.1≠b) :
   Inv X pins σ H' { s with heap:=h',gens:=g',drawn:=d',toks:=t' }:=by
 obtain⟨m,⟨o,es,ep,ho,r⟩,_⟩:=id I.loc;obtain⟨sl,hL⟩:=u.any ho I.free fun z=>(hch _ z).2.1 rfl
 exact I.step (ch:=ch) hch (fun b o hL hb hc e n=>u.keep b o e n (fun z=>(x0k.mp (I.stkSub b z)).elim hL hb) hc) (fun b o _ _ hc e n=>u.any e n hc) (fun b o hc e n=>u.free b o e n hc) (fun b o hc e=>u.there b o e hc) u.tups u.frzs u.tbls u.sys (fun m' hm=>by
   obtain⟨o',es',ep',ho',r'⟩:=hm;rw [ho] at ho';cases ho'
   exact⟨_,es',ep',hL,r'⟩) hok hg
theorem Inv.turned {it:Addr}(I:Inv X pins σ H s)(k:∀b o,b≠it->s.heap.get? b=some o->h'.get? b=some o)(hn:H it=none)(hL:it≠X.env.locals)
   (h1:it∈X.ex\/X.s₀.heap.objs.size<=it) (h2:∀x c,X.env.cells.lookup x=some c->c≠it) (h3:∀p∈X.pn++pins,p.1≠it):Inv X pins σ H { s with heap:=h',toks:=t' }:=by
 have nit:∀b u,H b=some u->b≠it:=fun b u e z=>by rw [z,hn] at e;cases e
 refine I.step (g':=s.gens) (d':=s.drawn) (ch:=[it]) (fun b hb=>?_) (fun b o _ _ hc e _=>k b o (fun z=>hc (by simp [z])) e) (fun b o _ _ hc e _=>⟨o.slots,k b o (fun z=>hc (by simp [z])) e⟩) (fun _ _ _ _ n=>n)
   (fun b o hc e=>⟨o,k b o (fun z=>hc (by simp [z])) e⟩) (fun _ _ e=>e) (fun _ _ _ e=>e) (fun b ps e=>⟨#[],by rw [e];simp⟩) (fun z=>z) (fun m hm=>?_) (fun b u e=>?_) I.bare
 · have e:b=it:=by simpa using hb
   subst e;exact⟨h1,hL,h2,h3⟩
 · obtain⟨o,es,ep,ho,r⟩:=hm;exact⟨o,es,ep,k _ o (Ne.symm hL) ho,r⟩
 · refine(I.hok b u e).stay (fun c v hc q=>k c v ?_ q) (fun _ q=>q) fun _ _ q=>q;rcases hc with z | z
   · rw [z];exact nit b u e
   · exact nit c _ z
theorem Inv.tok (I:Inv X pins σ H s)(t:Nat):Inv X pins σ H { s with toks:=t }:=I.un (h':=s.heap) (t':=t) Un.refl I.hok
theorem Inv.kept (I:Inv X pins σ H s)(k:∀b u,s.heap.get? b=some u->h'.get? b=some u):Inv X pins σ H { s with heap:=h',toks:=t' }:=I.un (Un.kept k) (I.hok.kept k)
theorem Inv.laid {a:Addr}{o:HO}(I:Inv X pins σ H s)(k:∀b u,s.heap.get? b=some u->h'.get? b=some u)(hp:s.heap.objs.size<=a)(new:a1n X.prog X.w (upd H a o) h' a o) :
   Inv X pins σ (upd H a o) { s with heap:=h',toks:=t' }:=I.un (Un.laid k hp (I.hok.fresh hp) I.bigS) (I.hok.laid k hp new)
theorem Inv.write {x e:Addr}{o:HO}(I:Inv X pins σ H s)(mu:Mut (H x))(he:e=x\/H e=some (.own x))(k:∀b u,b≠e->s.heap.get? b=some u->h'.get? b=some u)(heo:∃u,h'.get? e=some u)
   (new:a1n X.prog X.w (upd H x o) h' x o):Inv X pins σ (upd H x o) { s with heap:=h',toks:=t' }:=I.un (Un.write mu he k heo) (I.hok.write mu he k heo new)
theorem Inv.pins_of {pins':List (Addr×Obj)}(I:Inv X pins σ H s)(h:∀p∈pins',s.heap.get? p.1=some p.2/\H p.1=none/\p.1≠X.env.locals/\p.1∉X.fs/\∀v,p.2.data≠.cell v):Inv X pins' σ H s:=
 ⟨I.ok,I.os,I.bare,I.base,I.loc,I.cell,I.free,I.freeC,fun p hp=>(x0C.mp hp).elim (fun z=>I.pin p (x1a _ z)) (h p),I.hok,I.len⟩
theorem a8l {N:List Str}(hN:N.Nodup){i j:Nat}{x:Str}(a:N[i]?=some x)(b:N[j]?=some x):i=j:=by
 obtain⟨h1,e1⟩:=x0i.mp a;obtain⟨h2,e2⟩:=x0i.mp b;exact(List.getElem_inj hN).mp (e1.trans e2.symm)
theorem a6k {A:Around}{E:Value->Shared->Prop}{i:Nat}{x:Str}{u:Value}{Q:Unit->Shared->Prop}(I:Inv X pins σ H s)(hN:X.N.Nodup)(hi:X.N[i]?=some x)(hx:Loc X.env.scope x)(r:RelV v u)
   (h:∀s',Inv X pins (σ.set i (some v)) H s'->(∃a,x1Y a s.heap s'.heap/\(a=X.env.locals\/X.env.cells.lookup x=some a))->Q () s') (hf:X.fn x=true\/X.env.scope.names.lookup x=some .local:=by first | exact .inl rfl | exact .inr rfl | assumption):wpAny M A (storeName X.env x u) Q E s:=by
 obtain⟨m,hn,hl⟩:=id I.loc;have hcls:(X.env.scope.kind == .class || (X.env.scope.kind == .module && X.env.locals != X.env.globals))=false:=by rw [I.ok.kind];rfl
 have hiσ:i < σ.length:=by rw [I.len];exact(x0i.mp hi).1
 have cne:=I.cne
 have tracked:∀{a:Addr} {h':Heap},(∃o,s.heap.get? a=some o/\H a=none)->x1Y a s.heap h'->HOk X.prog X.w H h':=fun {a h'} ha hs b ob e=>by
   obtain⟨_,_,hfree⟩:=ha;refine(I.hok b ob e).stay (fun c w' hc q=>(hs.2 c ?_).trans q) (fun _ q=>q) fun _ _ q=>q;rintro rfl;rcases hc with rfl | hc
   · rw [hfree] at e;cases e
   · rw [hfree] at hc;cases hc
 rcases hx with hk | hk
 · refine wpAny_storeName_local hk hn (fun h' hn' hs=>?_) hcls;obtain⟨oL,_,_,hoL,_⟩:=id hn;refine h _ ⟨I.ok,I.os,I.bare,⟨fun b o e n hb hx=>?_,fun b o e n hb hx=>?_,I.base.free,fun b o e hx=>?_,I.base.tups,I.base.frzs,I.base.tbls,I.base.sys⟩,⟨_,hn',fun j y v' e1 e2 e3=>?_⟩,fun y c e=>?_,I.free,I.freeC,fun p hp=>?_,tracked ⟨oL,hoL,I.free⟩ hs,by simpa using I.len⟩ ⟨_,hs,.inl rfl⟩
   · exact(hs.2 b (x0r (x0x (x0o e) I.ok.above))).trans (I.base.keep b o e n hb hx)
   · obtain⟨sl,e1⟩:=I.base.slot b o e n hb hx;exact⟨sl,(hs.2 b (x0r (x0x (x0o e) I.ok.above))).trans e1⟩
   · obtain⟨o',e1⟩:=I.base.there b o e hx;exact⟨o',(hs.2 b (x0r (x0x (x0o e) I.ok.above))).trans e1⟩
   · by_cases hj:j=i
     · subst hj;rw [hi] at e1;cases e1;rw [x0y hiσ] at e2;cases e2;exact⟨u,r,.inl ⟨hk,by simp⟩⟩
     · rw [x0D (Ne.symm hj)] at e2;obtain⟨u',r',q⟩:=hl j y v' e1 e2 e3;refine⟨u',r',?_⟩;rcases q with⟨k,e⟩ | ⟨k,c,e,z⟩
       · refine .inl ⟨k,?_⟩;have:y≠x:=fun e=>hj (a8l hN e1 (e▸hi));simp [this,e]
       · exact .inr ⟨k,c,e,z.sameBut hs (cne y c e)⟩
   · obtain⟨w',z⟩:=I.cell y c e;exact⟨w',z.sameBut hs (cne y c e)⟩
   · obtain⟨e,n,ne,nf,d⟩:=I.pin p hp;exact⟨(hs.2 p.1 ne).trans e,n,ne,nf,d⟩
 · have hfn:X.fn x=true:=by
     rcases hf with z | z
     · exact z
     · rw [z] at hk;cases hk
   obtain⟨c,hc⟩:=I.ok.has x (.inl hk);obtain⟨w',z⟩:=I.cell x c hc;refine wpAny_storeName_cell I.ok.kind hk hc z (fun h' hc' hs=>?_);obtain⟨oc,hoc,hocd⟩:=id z;refine h { s with heap:=h' } ⟨I.ok,I.os,I.bare,⟨fun b o e n hb hx=>?_,fun b o e n hb hx=>?_,I.base.free,fun b o e hx=>?_,I.base.tups,I.base.frzs,I.base.tbls,I.base.sys⟩,⟨m,hn.sameBut hs (Ne.symm (cne x c hc)),fun j y v' e1 e2 e3=>?_⟩,fun y c' e=>?_,I.free,I.freeC,fun p hp=>?_,tracked ⟨oc,hoc,I.freeC x c hc⟩ hs,by simpa using I.len⟩ ⟨c,hs,.inr hc⟩
   · exact(hs.2 b (x0r (x0x (x0o e) (I.ok.cab x c hfn hc)))).trans (I.base.keep b o e n hb hx)
   · obtain⟨sl,e1⟩:=I.base.slot b o e n hb hx;exact⟨sl,(hs.2 b (x0r (x0x (x0o e) (I.ok.cab x c hfn hc)))).trans e1⟩
   · obtain⟨o',e1⟩:=I.base.there b o e hx;exact⟨o',(hs.2 b (x0r (x0x (x0o e) (I.ok.cab x c hfn hc)))).trans e1⟩
   · by_cases hj:j=i
     · subst hj;rw [hi] at e1;cases e1;rw [x0y hiσ] at e2;cases e2;exact⟨u,r,.inr ⟨.inl hk,c,hc,hc'⟩⟩
     · rw [x0D (Ne.symm hj)] at e2;obtain⟨u',r',q⟩:=hl j y v' e1 e2 e3;refine⟨u',r',?_⟩;rcases q with q | ⟨k,c',e,z'⟩
       · exact .inl q
       · refine .inr ⟨k,c',e,z'.sameBut hs ?_⟩;rintro rfl;exact hj (a8l hN e1 (I.ok.inj _ _ _ e hc▸hi))
   · by_cases hcc:c'=c
     · subst hcc;exact⟨_,hc'⟩
     · obtain⟨w2,z2⟩:=I.cell y c' e;exact⟨w2,z2.sameBut hs hcc⟩
   · obtain⟨e,n,ne,nf,d⟩:=I.pin p hp;refine⟨(hs.2 p.1 ?_).trans e,n,ne,nf,d⟩;intro q;rw [q,hoc] at e;have q':oc=p.2:=x0H e;exact d w' (by rw [<- q'];exact hocd)
theorem a2e {A:Around}{E:Value->Shared->Prop}{i:Nat}{x:Str}{u:Value}{Q:Unit->Shared->Prop}(I:Inv X pins σ H s)(hN:X.N.Nodup)(hi:X.N[i]?=some x)(hx:Loc X.env.scope x)(r:RelV v u)
   (h:∀s',Inv X pins (σ.set i (some v)) H s'->Q () s') (hf:X.fn x=true\/X.env.scope.names.lookup x=some .local:=by first | exact .inl rfl | exact .inr rfl | assumption):wpAny M A (storeName X.env x u) Q E s:=
 a6k I hN hi hx r (fun s' I' _=>h s' I') hf
end
noncomputable abbrev XK:=Value->Option Addr->Hp->Prop
noncomputable abbrev St:=List (Option V)
noncomputable abbrev VK:=V->Hp->Prop
noncomputable abbrev TE:=St->Hp->VK->Prop
noncomputable abbrev TT:=St->Hp->(Bool->Hp->Prop)->Prop
noncomputable abbrev TA:=St->Hp->(List V->Hp->Prop)->Prop
structure Ends where
 nx:St->Hp->Prop
 rt:VK
 bk:St->Hp->Prop:=fun _ _=>False
 ct:St->Hp->Prop:=fun _ _=>False
noncomputable abbrev TS:=Ends->St->Hp->Prop
noncomputable def EP (X:Cx)(pins:List (Addr×Obj))(σ:St)(Q:VK)(u:Value)(s':Shared):Prop:=∃v H',Inv X pins σ H' s'/\RelV v u/\Q v H'
noncomputable def TP (X:Cx)(pins:List (Addr×Obj))(σ:St)(Q:Bool->Hp->Prop)(b:Bool)(s':Shared):Prop:=∃H',Inv X pins σ H' s'/\Q b H'
noncomputable def AP (X:Cx)(pins:List (Addr×Obj))(σ:St)(Q:List V->Hp->Prop)(us:List Value)(s':Shared):Prop:=∃vs H',Inv X pins σ H' s'/\Vals vs us/\Q vs H'
noncomputable def SP (X:Cx)(pins:List (Addr×Obj))(D:Ends)(f:Flow)(s':Shared):Prop:=
 match f with
 | .next=>∃σ' H',Inv X pins σ' H' s'/\D.nx σ' H'
 | .brk=>∃σ' H',Inv X pins σ' H' s'/\D.bk σ' H'
 | .cont=>∃σ' H',Inv X pins σ' H' s'/\D.ct σ' H'
 | .ret u=>∃v σ' H',Inv X pins σ' H' s'/\RelV v u/\D.rt v H'
noncomputable def PE (X:Cx)(e:Expr)(t:TE):Prop:=
 ∀(pins:List (Addr×Obj)) (s:Shared) (σ:St) (H:Hp) (Q:VK),Inv X pins σ H s->t σ H Q->wpAny (model X.prog X.w) X.A (eval e X.env) (EP X pins σ Q) X.xe s
noncomputable def PT (X:Cx)(e:Expr)(t:TT):Prop:=
 ∀(pins:List (Addr×Obj)) (s:Shared) (σ:St) (H:Hp) (Q:Bool->Hp->Prop),Inv X pins σ H s->t σ H Q->wpAny (model X.prog X.w) X.A (isTrue e X.env (eval e X.env)) (TP X pins σ Q) X.xe s
noncomputable def PW (X:Cx)(e:Expr)(t:TT):Prop:=
 ∀(whole:Sem Value) (pins:List (Addr×Obj)) (s:Shared) (σ:St) (H:Hp) (Q:Bool->Hp->Prop),Inv X pins σ H s->t σ H Q->wpAny (model X.prog X.w) X.A (isTrue e X.env whole) (TP X pins σ Q) X.xe s
theorem PW.pt {X:Cx}{e:Expr}{t:TT}(h:PW X e t):PT X e t:=h _
noncomputable def PA (X:Cx)(es:List Expr)(t:TA):Prop:=
 ∀(pos:Pos) (pins:List (Addr×Obj)) (s:Shared) (σ:St) (H:Hp) (Q:List V->Hp->Prop),Inv X pins σ H s->t σ H Q->wpAny (model X.prog X.w) X.A (spliced (backTo pos (x1h es X.env))) (AP X pins σ Q) X.xe s
noncomputable def PS (X:Cx)(st:Stmt)(t:TS):Prop:=
 ∀(pins:List (Addr×Obj)) (s:Shared) (σ:St) (H:Hp) (D:Ends),Inv X pins σ H s->t D σ H->wpAny (model X.prog X.w) X.A (exec st X.env) (SP X pins D) X.xe s
noncomputable def PSs (X:Cx)(st:List Stmt)(t:TS):Prop:=
 ∀(pins:List (Addr×Obj)) (s:Shared) (σ:St) (H:Hp) (D:Ends),Inv X pins σ H s->t D σ H->wpAny (model X.prog X.w) X.A (execs st X.env) (SP X pins D) X.xe s
theorem thn {α:Type}{t:Sem α}{Q Q':α->Shared->Prop}{M:Model}{A:Around}{E:Value->Shared->Prop}{s:Shared}(h:wpAny M A t Q E s)(hQ:∀a s,Q a s->Q' a s):wpAny M A t Q' E s:=x1g h hQ fun _ _ x=>x
section
variable {X:Cx}
noncomputable def tVar (i:Nat):TE:=fun σ H Q=>∃v,σ[i]?=some (some v)/\Q v H
noncomputable def tC (v:V):TE:=fun _ H Q=>Q v H
theorem b3M {i:Nat}{x:Str}{pos:Pos}(hN:X.N[i]?=some x)(hv:Vis X.env.scope x)(hd:(x == ("__debug__":Str))=false:=by decide)(hcd:(x == ("__classdict__":Str))=false:=by decide):PE X (.Name x pos) (tVar i):=by
 intro pins s σ H Q I h;obtain⟨v,e,h⟩:=h;obtain⟨m,hn,hl⟩:=I.loc;obtain⟨u,r,l⟩:=hl i x v hN e hv;have fin:EP X pins σ Q u s:=⟨v,H,I,r,h⟩;rcases l with⟨hk,hm⟩ | ⟨hk,c,hc,hcell⟩
 · exact wpAny_Name (wpAny_loadName_local I.ok.kind hk hn hm fin) hd
 · rcases hk with hk | hk
   · exact wpAny_Name (wpAny_loadName_cell I.ok.kind hk hc hcell fin) hd
   · exact wpAny_Name (wpAny_loadName_free I.ok.kind hk hc hcell fin hcd) hd
theorem a0I {i j pos}:PE X (.Constant (.int i) j pos) (tC (.int i)):=fun _ _ _ H _ I h=>wpAny_Constant_int ⟨.int i,H,I.tok _,⟨_,rfl⟩,h⟩
theorem pe_bl {b j pos}:PE X (.Constant (.bool b) j pos) (tC (.bl b)):=fun _ _ _ H _ I h=>Constant_bool ⟨.bl b,H,I,rfl,h⟩
theorem pe_non {j pos}:PE X (.Constant .none j pos) (tC .non):=fun _ _ _ H _ I h=>Constant_none ⟨.non,H,I,rfl,h⟩
theorem pe_str {x j pos}:PE X (.Constant (.str x) j pos) (tC (.str x)):=fun _ _ _ H _ I h=>Calls.Constant_str ⟨.str x,H,I.tok _,⟨_,rfl⟩,h⟩
noncomputable def Gl (X:Cx)(x:Str):Prop:=X.env.kindOf x=some .globalImplicit
theorem b5B {E:Value->Shared->Prop}{pins:List (Addr×Obj)}{s:Shared}{σ:St}{H:Hp}{x:Str}{u:Value}{pos:Pos}{Q:Value->Shared->Prop}(I:Inv X pins σ H s)(hg:Gl X x)(hm:X.mg x=some u)(h:Q u s)
   (hd:(x == ("__debug__":Str))=false:=by decide):wpAny (model X.prog X.w) X.A (eval (.Name x pos) X.env) Q E s:=
 Calls.Name_function_global I.ok.kind hg (Calls.loadGlobal_global (by rw [I.ok.glob];exact I.mod.glob.keeps I.bk) hm h) hd
theorem a5q {E:Value->Shared->Prop}{pins:List (Addr×Obj)}{s:Shared}{σ:St}{H:Hp}{x:Str}{u:Value}{pos:Pos}{Q:Value->Shared->Prop}(I:Inv X pins σ H s)(hg:Gl X x)(hm:X.mg x=none)(hv:x1i x=some u)(h:Q u s)
   (hn:x≠"__name__":=by decide) (hd:(x == ("__debug__":Str))=false:=by decide):wpAny (model X.prog X.w) X.A (eval (.Name x pos) X.env) Q E s:=by
 obtain⟨mb,h1,h2⟩:=I.mod.blt;exact Calls.Name_function_global I.ok.kind hg (Calls.loadGlobal_builtin (by rw [I.ok.glob];exact I.mod.glob.keeps I.bk) hm (by rw [I.ok.blt];exact h1.keeps I.bk) ((h2 x hn).trans hv) h) hd
theorem b5g {x:Str}{v:V}{u:Value}{pos:Pos}(hg:Gl X x)(hm:X.mg x=none)(hv:x1i x=some u)(r:RelV v u)(hn:x≠"__name__":=by decide)(hd:(x == ("__debug__":Str))=false:=by decide):PE X (.Name x pos) (tC v):=
 fun _ _ _ H _ I h=>a5q I hg hm hv ⟨v,H,I,r,h⟩ hn hd
variable {a b:Expr}{ta tb:TE}{pos:Pos}
noncomputable def tB (t:TE):TT:=fun σ H Q=>t σ H fun x H1=>∃c,x=.bl c/\Q c H1
theorem pt_val {e:Expr}{t:TE}(h:PE X e t)(he:∀whole,isTrue e X.env whole=(do let v ← whole;x4X e.pos;x3T [v] (truthy v)):=by intro _;rfl):PT X e (tB t):=by
 intro pins s σ H Q I hw;refine isTrue_plain (thn (h pins s σ H _ I hw) fun v s1 ⟨x,H1,I1,r1,q1⟩=>?_) (he _);obtain⟨d,rfl,q⟩:=q1;cases r1;exact x1z ⟨H1,I1,q⟩
variable {tA tB':TT}{rest:List Expr}
noncomputable def tAnd (t u:TT):TT:=fun σ H Q=>t σ H fun c H1=>if c=true then u σ H1 Q else Q false H1
noncomputable def tOr (t u:TT):TT:=fun σ H Q=>t σ H fun c H1=>if c=true then Q true H1 else u σ H1 Q
noncomputable def tNot (t:TT):TT:=fun σ H Q=>t σ H fun c H1=>Q (!c) H1
theorem b4V (ha:PT X a tA):PW X (.BoolOp .And [a] pos) tA:=by
 intro wh pins s σ H Q I h;refine isTrue_and (thn (ha pins s σ H Q I h) fun c s1 e=>?_);cases c with
 | true=>exact isTrue_and_nil e
 | false=>exact e
theorem pw_or1 (ha:PT X a tA):PW X (.BoolOp .Or [a] pos) tA:=by
 intro wh pins s σ H Q I h;refine isTrue_or (thn (ha pins s σ H Q I h) fun c s1 e=>?_);cases c with
 | false=>exact isTrue_or_nil e
 | true=>exact e
theorem pw_and (ha:PT X a tA)(hb:PW X (.BoolOp .And (b::rest) pos) tB'):PW X (.BoolOp .And (a::b::rest) pos) (tAnd tA tB'):=by
 intro wh pins s σ H Q I h;refine isTrue_and (thn (ha pins s σ H _ I h) fun c s1 ⟨H1,I1,q1⟩=>?_);cases c with
 | true=>exact hb wh pins s1 σ H1 Q I1 q1
 | false=>exact⟨H1,I1,q1⟩
theorem pw_or (ha:PT X a tA)(hb:PW X (.BoolOp .Or (b::rest) pos) tB'):PW X (.BoolOp .Or (a::b::rest) pos) (tOr tA tB'):=by
 intro wh pins s σ H Q I h;refine isTrue_or (thn (ha pins s σ H _ I h) fun c s1 ⟨H1,I1,q1⟩=>?_);cases c with
 | true=>exact⟨H1,I1,q1⟩
 | false=>exact hb wh pins s1 σ H1 Q I1 q1
theorem pt_not (ha:PT X a tA):PT X (.UnaryOp .Not a pos) (tNot tA):=by
 intro pins s σ H Q I h;exact isTrue_not (ha pins s σ H (fun c H1=>Q (!c) H1) I h)
noncomputable def tAndV (ta tb:TE):TE:=fun σ H Q=>ta σ H fun x H1=>∃c,x=.bl c/\if c=true then tb σ H1 Q else Q (.bl false) H1
noncomputable def tOrV (ta tb:TE):TE:=fun σ H Q=>ta σ H fun x H1=>∃c,x=.bl c/\if c=true then Q (.bl true) H1 else tb σ H1 Q
noncomputable def tNotV (ta:TE):TE:=fun σ H Q=>ta σ H fun x H1=>∃c,x=.bl c/\Q (.bl (!c)) H1
theorem pe_one {op}{t:TE}(h:PE X a t):PE X (.BoolOp op [a] pos) t:=fun pins s σ H Q I hw=>BoolOp_one (h pins s σ H Q I hw)
theorem pe_and (ha:PE X a ta)(hb:PE X (.BoolOp .And (b::rest) pos) tb):PE X (.BoolOp .And (a::b::rest) pos) (tAndV ta tb):=by
 intro pins s σ H Q I h;refine BoolOp_and (thn (ha pins s σ H _ I h) fun v s1 ⟨x,H1,I1,r1,q1⟩=>?_);obtain⟨c,rfl,q1⟩:=q1;cases r1;refine x1z ?_;cases c with
 | true=>exact hb pins s1 σ H1 Q I1 q1
 | false=>exact⟨.bl false,H1,I1,rfl,q1⟩
theorem pe_or (ha:PE X a ta)(hb:PE X (.BoolOp .Or (b::rest) pos) tb):PE X (.BoolOp .Or (a::b::rest) pos) (tOrV ta tb):=by
 intro pins s σ H Q I h;refine BoolOp_or (thn (ha pins s σ H _ I h) fun v s1 ⟨x,H1,I1,r1,q1⟩=>?_);obtain⟨c,rfl,q1⟩:=q1;cases r1;refine x1z ?_;cases c with
 | false=>exact hb pins s1 σ H1 Q I1 q1
 | true=>exact⟨.bl true,H1,I1,rfl,q1⟩
theorem pe_not (ha:PE X a ta):PE X (.UnaryOp .Not a pos) (tNotV ta):=by
 intro pins s σ H Q I h;refine UnaryOp_ (thn (ha pins s σ H _ I h) fun v s1 ⟨x,H1,I1,r1,q1⟩=>?_);obtain⟨c,rfl,q1⟩:=q1;cases r1;exact not_of (x1z ⟨.bl (!c),H1,I1,rfl,q1⟩)
noncomputable def tIf (t:TT)(ta tb:TE):TE:=fun σ H Q=>t σ H fun c H1=>if c=true then ta σ H1 Q else tb σ H1 Q
theorem a5K {c:Expr}(hc:PT X c tA)(ha:PE X a ta)(hb:PE X b tb):PE X (.IfExp c a b pos) (tIf tA ta tb):=by
 intro pins s σ H Q I h;refine wpAny_IfExp (thn (hc pins s σ H _ I h) fun d s1 ⟨H1,I1,q1⟩=>?_);cases d with
 | true=>exact ha pins s1 σ H1 Q I1 q1
 | false=>exact hb pins s1 σ H1 Q I1 q1
end
noncomputable def SqL (K:x0b)(H:Hp)(a:Addr)(xs:List V):Prop:=
 Rd H a (.lst xs)\/
   ∃(o:Obj) (its:Array Value) (n:Nat),K.lookup a=some o/\o.cls=.type "list"/\o.dict=none/\o.data=.seq its n/\its.size<=x0B/\Vals xs its.toList
noncomputable def SqT (K:x0b)(H:Hp)(a:Addr)(xs:List V):Prop:=
 Rd H a (.tup xs)\/
   ∃(o:Obj) (its:Array Value) (n:Nat),K.lookup a=some o/\o.cls=.type "tuple"/\o.data=.seq its n/\its.size<=x0B/\Vals xs its.toList
noncomputable def absV:Value->Option V
 | .none=>some .non
 | .bool b=>some (.bl b)
 | .int i _=>some (.int i)
 | .str x _=>some (.str x)
 | .bytes b _=>some (.byt b)
 | .float b _=>some (.flt b)
 | .ref a=>some (.ref a)
 | .type n=>some (.ty n)
 | _=>none
theorem RelV.abs {x:V}{u:Value}(r:RelV x u):absV u=some x:=by
 cases x with
 | non=>cases r;rfl
 | bl _=>cases r;rfl
 | int _=>obtain⟨t,rfl⟩:=r;rfl
 | str _=>obtain⟨t,rfl⟩:=r;rfl
 | byt _=>obtain⟨t,rfl⟩:=r;rfl
 | flt _=>obtain⟨t,rfl⟩:=r;rfl
 | ref _=>cases r;rfl
 | ty _=>cases r;rfl
theorem RelV.inj {x y:V}{u:Value}(r:RelV x u)(q:RelV y u):x=y:=x0H (r.abs.symm.trans q.abs)
theorem Vals.inj {xs ys:List V}{us:List Value}(h:Vals xs us)(h':Vals ys us):xs=ys:=by
 induction h generalizing ys with
 | nil=>cases h';rfl
 | cons r t ih=>cases h' with | cons r' t'=>rw [r.inj r',ih t']
section
variable {X:Cx}{pins:List (Addr×Obj)}{σ:St}{H:Hp}{s:Shared}{a:Addr}{xs ys:List V}
theorem SqL.of {K:x0b}(h:H a=some (.lst xs)):SqL K H a xs:=.inl (.inl h)
theorem SqT.of {K:x0b}(h:H a=some (.tup xs)):SqT K H a xs:=.inl (.inl h)
theorem Inv.list (I:Inv X pins σ H s)(h:SqL X.K H a xs):∃its:List Value,Vals xs its/\PlainL s.heap a its.toArray/\xs.length<=x0B:=by
 rcases h with h | ⟨o,its,n,hk,hc,hd,hs,hz,r⟩
 · obtain⟨z,its,n,r,e⟩:=h.ok I.hok;exact⟨its,r,⟨_,n,e,rfl,rfl,rfl⟩,z⟩
 · refine⟨its.toList,r,⟨o,n,I.kIn a o hk,hc,hd,by simpa using hs⟩,?_⟩;have e:=r.length;simp only [x0z] at e;omega
theorem Inv.tuple (I:Inv X pins σ H s)(h:SqT X.K H a xs):∃its:List Value,Vals xs its/\IsTup s.heap a its.toArray/\xs.length<=x0B:=by
 rcases h with h | ⟨o,its,n,hk,hc,hs,hz,r⟩
 · obtain⟨z,its,r,p⟩:=h.ok I.hok;exact⟨its,r,p.is,z⟩
 · refine⟨its.toList,r,⟨o,I.kIn a o hk,hc,n,by simpa using hs⟩,?_⟩;have e:=r.length;simp only [x0z] at e;omega
theorem Inv.list_inj (I:Inv X pins σ H s)(h:SqL X.K H a xs)(h':SqL X.K H a ys):xs=ys:=by
 obtain⟨its,r,⟨o,n,e,_,_,d⟩,_⟩:=I.list h;obtain⟨its',r',⟨o',n',e',_,_,d'⟩,_⟩:=I.list h';rw [e] at e';cases e';rw [d] at d';injection d' with d1 _;have:its=its':=by simpa using congrArg Array.toList d1
 subst this;exact r.inj r'
theorem Inv.tuple_inj (I:Inv X pins σ H s)(h:SqT X.K H a xs)(h':SqT X.K H a ys):xs=ys:=by
 obtain⟨its,r,⟨o,e,_,n,d⟩,_⟩:=I.tuple h;obtain⟨its',r',⟨o',e',_,n',d'⟩,_⟩:=I.tuple h';rw [e] at e';cases e';rw [d] at d';injection d' with d1 _;have:its=its':=by simpa using congrArg Array.toList d1
 subst this;exact r.inj r'
end
noncomputable abbrev Cx.wish (X:Cx)(E:Value->Shared->Prop):Cx:={ X with xe:=E }
noncomputable abbrev Cx.nox (X:Cx):Cx:=X.wish fun _ _=>False
theorem Cx.Ok.wish {X:Cx}(ok:X.Ok)(E:Value->Shared->Prop):(X.wish E).Ok:=
 ⟨ok.mod,ok.kind,ok.glob,ok.blt,ok.above,ok.inj,ok.has,ok.cab,ok.hd,ok.frames,ok.stk,ok.exf,ok.bs,ok.bsz,ok.noex,ok.exfs,ok.funs,ok.frf,ok.nos⟩
theorem Cx.Ok.unwish {X:Cx}{E:Value->Shared->Prop}(ok:(X.wish E).Ok):X.Ok:=
 ⟨ok.mod,ok.kind,ok.glob,ok.blt,ok.above,ok.inj,ok.has,ok.cab,ok.hd,ok.frames,ok.stk,ok.exf,ok.bs,ok.bsz,ok.noex,ok.exfs,ok.funs,ok.frf,ok.nos⟩
section
variable {X:Cx}{pins:List (Addr×Obj)}{σ:St}{H:Hp}{s:Shared}{E:Value->Shared->Prop}
theorem Inv.wish (I:Inv X pins σ H s)(E:Value->Shared->Prop):Inv (X.wish E) pins σ H s:=⟨I.ok.wish E,I.os,I.bare,I.base,I.loc,I.cell,I.free,I.freeC,I.pin,I.hok,I.len⟩
theorem Inv.unwish (I:Inv (X.wish E) pins σ H s):Inv X pins σ H s:=⟨I.ok.unwish,I.os,I.bare,I.base,I.loc,I.cell,I.free,I.freeC,I.pin,I.hok,I.len⟩
theorem SP.unwish {D:Ends}{f:Flow}{s':Shared}(h:SP (X.wish E) pins D f s'):SP X pins D f s':=by
 cases f with
 | next=>obtain⟨σ',H',I,q⟩:=h;exact⟨σ',H',I.unwish,q⟩
 | brk=>obtain⟨σ',H',I,q⟩:=h;exact⟨σ',H',I.unwish,q⟩
 | cont=>obtain⟨σ',H',I,q⟩:=h;exact⟨σ',H',I.unwish,q⟩
 | ret u=>obtain⟨v,σ',H',I,r,q⟩:=h;exact⟨v,σ',H',I.unwish,r,q⟩
theorem PSs.nox {st:List Stmt}{t:TS}(h:PSs X.nox st t):PSs X st t:=fun pins s σ H D I hw=>
 x1g (h pins s σ H D (I.wish _) hw) (fun _ _ q=>q.unwish) fun _ _ z=>x3h z
end
section
variable {X:Cx}{st:Stmt}{rest:List Stmt}{t u:TS}{e:Expr}{te:TE}{pos:Pos}
noncomputable def tNext:TS:=fun D σ H=>D.nx σ H
noncomputable def tSeq (t u:TS):TS:=fun D σ H=>t { D with nx:=u D } σ H
theorem b0m:PSs X [] tNext:=fun _ _ σ H _ I h=>x4C ⟨σ,H,I,h⟩
theorem a1j (h1:PS X st t)(h2:PSs X rest u):PSs X (st::rest) (tSeq t u):=by
 intro pins s σ H D I h;refine wpAny_execs_cons (thn (h1 pins s σ H { D with nx:=u D } I h) fun f s1 q=>?_);cases f with
 | next =>
   obtain⟨σ',H',I',q⟩:=q;exact h2 pins s1 σ' H' D I' q
 | ret v=>exact q
 | brk=>exact q
 | cont=>exact q
theorem a5J (h1:PS X st t):PSs X [st] t:=by
 intro pins s σ H D I h;refine wpAny_execs_cons (thn (h1 pins s σ H D I h) fun f s1 q=>?_);cases f with
 | next=>exact x4C q
 | ret v=>exact q
 | brk=>exact q
 | cont=>exact q
theorem Inv.quiet {pins:List (Addr×Obj)}{σ:St}{H:Hp}{s:Shared}(I:Inv X pins σ H s):interactive X.env=false:=by simp [interactive,I.ok.kind]
noncomputable def b4A (te:TE):TS:=fun D σ H=>te σ H fun _ H1=>D.nx σ H1
theorem b4X (he:PE X e te)(hs:x4T e none pos.line X.env=pure false:=by rfl):PS X (.Expr e pos) (b4A te):=by
 intro pins s σ H D I h;exact wpAny_Expr_any (thn (he pins s σ H _ I h) fun v s1 ⟨x,H1,I1,r1,q1⟩=>⟨σ,H1,I1,q1⟩) I.quiet hs
noncomputable def tRet (te:TE):TS:=fun D σ H=>te σ H D.rt
theorem a8i (he:PE X e te):PS X (.Return (some e) pos) (tRet te):=by
 intro pins s σ H D I h;exact wpAny_Return_some (thn (he pins s σ H _ I h) fun v s1 ⟨x,H1,I1,r1,q1⟩=>⟨x,σ,H1,I1,r1,q1⟩)
noncomputable def tIfS (c:TT)(t u:TS):TS:=fun D σ H=>c σ H fun b H1=>if b=true then t D σ H1 else u D σ H1
theorem ps_if {c:Expr}{a b:List Stmt}{tc:TT}(hc:PT X c tc)(ha:PSs X a t)(hb:PSs X b u):PS X (.If c a b pos) (tIfS tc t u):=by
 intro pins s σ H D I h;refine wpAny_If (thn (hc pins s σ H _ I h) fun d s1 ⟨H1,I1,q1⟩=>?_);cases d with
 | true=>exact ha pins s1 σ H1 D I1 q1
 | false=>exact hb pins s1 σ H1 D I1 q1
end
noncomputable abbrev TG:=V->St->Hp->(St->Hp->Prop)->Prop
noncomputable abbrev TGs:=List V->St->Hp->(St->Hp->Prop)->Prop
noncomputable def PG (X:Cx)(target:Expr)(t:TG):Prop:=
 ∀ (pins : List (Addr × Obj)) (s : Shared) (σ : St) (H : Hp) (v : V) (u : Value) (Q : St -> Hp -> Prop), Inv X pins σ H s -> RelV v u -> t v σ H Q ->
   wpAny (model X.prog X.w) X.A (assign target X.env u) (fun _ s'=>∃σ' H',Inv X pins σ' H' s'/\Q σ' H') X.xe s
noncomputable def PGs (X:Cx)(ts:List Expr)(t:TGs):Prop:=
 ∀ (pins : List (Addr × Obj)) (s : Shared) (σ : St) (H : Hp) (vs : List V) (us : List Value) (Q : St -> Hp -> Prop), Inv X pins σ H s -> Vals vs us -> t vs σ H Q ->
   wpAny (model X.prog X.w) X.A (x3D ((x1k ts X.env).map (·.2)) us) (fun _ s'=>∃σ' H',Inv X pins σ' H' s'/\Q σ' H') X.xe s
noncomputable abbrev TSet:=V->V->V->Hp->(Hp->Prop)->Prop
noncomputable def PSet (X:Cx)(t:TSet):Prop:=
 ∀ (pins : List (Addr × Obj)) (s : Shared) (σ : St) (H : Hp) (o i v : V) (ov iv u : Value) (Q : Hp -> Prop), Inv X pins σ H s -> RelV o ov -> RelV i iv -> RelV v u -> t o i v H Q ->
   wpAny (model X.prog X.w) X.A (setItem ov iv u) (fun _ s'=>∃H',Inv X pins σ H' s'/\Q H') X.xe s
section
variable {X:Cx}{pos:Pos}
noncomputable def a1J (i:Nat):TG:=fun v σ H Q=>Q (σ.set i (some v)) H
theorem b5e {i:Nat}{x:Str}(hN:X.N.Nodup)(hi:X.N[i]?=some x)(hx:Loc X.env.scope x)(hf:X.fn x=true\/X.env.scope.names.lookup x=some .local:=by first | exact .inl rfl | exact .inr rfl | assumption):PG X (.Name x pos) (a1J i):=by
 intro pins s σ H v u Q I r h;exact wpAny_assign_Name (a2e I hN hi hx r (fun s' I'=>⟨_,H,I',h⟩) hf)
noncomputable def gNil:TGs:=fun vs σ H Q=>vs=[]/\Q σ H
noncomputable def a6K (t:TG)(u:TGs):TGs:=fun vs σ H Q=>∃v r,vs=v::r/\t v σ H fun σ' H'=>u r σ' H' Q
theorem a7r:PGs X [] gNil:=by
 intro pins s σ H vs us Q I r h;obtain⟨e,h⟩:=h;subst e;cases r;exact assignInOrder_nil ⟨σ,H,I,h⟩
theorem a4g {e:Expr}{es:List Expr}{t:TG}{u:TGs}(h1:PG X e t)(h2:PGs X es u)
   (hs:(x1k (e::es) X.env).map (·.2)=assign e X.env::(x1k es X.env).map (·.2):=by rfl):PGs X (e::es) (a6K t u):=by
 intro pins s σ H vs us Q I r h;obtain⟨v,vr,e1,h⟩:=h;subst e1;cases r with
 | cons r rr =>
   rw [hs];refine x2s (thn (h1 pins s σ H _ _ _ I r h) fun _ s1 ⟨σ1,H1,I1,q1⟩=>?_);exact h2 pins s1 σ1 H1 _ _ Q I1 rr q1
noncomputable def gTup (K:x0b)(n:Nat)(t:TGs):TG:=fun v σ H Q=>∃a xs,v=.ref a/\SqT K H a xs/\xs.length=n/\t xs σ H Q
theorem b0r {es:List Expr}{k:Nat}{t:TGs}{n:Nat}(hc:X.calm=true)(h:PGs X es t)
   (hn:(x1k es X.env).length=n:=by rfl) (hst:(x1k es X.env).findIdx? (·.1)=none:=by rfl):PG X (.Tuple es k pos) (gTup X.K n t):=by
 intro pins s σ H v u Q I r hw;obtain⟨a,xs,e1,hq,hl,hw⟩:=hw;subst e1;cases r;obtain⟨its,rv,ht,hz⟩:=I.tuple hq;refine assign_Tuple_tuple (I.ok.hd hc) ht (by simp [hn,<- hl,rv.length]) hst fun h' hx=>?_;have I1:Inv X pins σ H { s with heap:=h' }:=I.kept (t':=s.toks) fun b o e=>hx b o (x0r (x0o e)) e;exact h pins _ σ H xs _ Q I1 (by simpa using rv) hw
noncomputable def gSub (to ti:TE)(t:TSet):TG:=fun v σ H Q=>to σ H fun o H1=>ti σ H1 fun i H2=>t o i v H2 fun H3=>Q σ H3
theorem b0s {o i:Expr}{to ti:TE}{t:TSet}(ho:PE X o to)(hi:PE X i ti)(hs:PSet X t)
   (ha:∀v,assign (.Subscript o i pos) X.env v=(do
     let ov ← x3T [v] (eval o X.env)
     let iv ← x3T [v,ov] (eval i X.env)
     x4X pos
     x3T [v,ov,iv] (setItem ov iv v)
     release [v,ov,iv] []):=by intro _;rfl):PG X (.Subscript o i pos) (gSub to ti t):=by
 intro pins s σ H v u Q I r h;rw [ha];refine x0a (x0V (thn (ho pins s σ H _ I h) fun ov s1 ⟨x,H1,I1,r1,q1⟩=>?_));refine x0a (x0V (thn (hi pins s1 σ H1 _ I1 q1) fun iv s2 ⟨y,H2,I2,r2,q2⟩=>?_));refine x0a (x1V (x0a (x0V (thn (hs pins s2 σ H2 x y v ov iv u _ I2 r1 r2 r q2) fun _ s3 ⟨H3,I3,q3⟩=>?_))));exact wpAny_release ⟨σ,H3,I3,q3⟩
noncomputable def tAsg (te:TE)(g:TG):TS:=fun D σ H=>te σ H fun x H1=>g x σ H1 D.nx
theorem b0n {tg e:Expr}{te:TE}{g:TG}(he:PE X e te)(hg:PG X tg g)(hs:x3E [tg] e pos.line X.env=pure false:=by rfl)(hw:x3F [tg] e X.env=pure none:=by rfl)
   (h1:(x1k [tg] X.env).map (·.2)=[assign tg X.env]:=by rfl):PS X (.Assign [tg] e pos) (tAsg te g):=by
 intro pins s σ H D I h;refine wpAny_Assign_stores (thn (he pins s σ H _ I h) fun v s1 ⟨x,H1,I1,r1,q1⟩=>?_) hs hw;rw [h1];exact thn (hg pins s1 σ H1 x v _ I1 r1 q1) fun _ s2 q=>q
theorem a3U {i:Nat}{x:Str}{e:Expr}{te:TE}{pos':Pos}(hN:X.N.Nodup)(hi:X.N[i]?=some x)(hx:Loc X.env.scope x)(he:PE X e te)(hs:x4T e (some (.Name x pos')) pos.line X.env=pure false:=by rfl)(hf:X.fn x=true\/X.env.scope.names.lookup x=some .local:=by first | exact .inl rfl | exact .inr rfl | assumption) :
   PS X (.Assign [.Name x pos'] e pos) (tAsg te (a1J i)):=by
 intro pins s σ H D I h;refine wpAny_Assign_Name (thn (he pins s σ H _ I h) fun v s1 ⟨y,H1,I1,r1,q1⟩=>?_) hs;exact a2e I1 hN hi hx r1 (fun s2 I2=>⟨_,H1,I2,q1⟩) hf
noncomputable def tPar (i j:Nat)(ta:TA):TS:=fun D σ H=>ta σ H fun vs H1=>∃v w,vs=[v,w]/\D.nx ((σ.set i (some v)).set j (some w)) H1
theorem ps_par {i j:Nat}{x y:Str}{a b:Expr}{ta:TA}{px py pt:Pos}{kt k2 pt2}(hc:X.calm=true)(hN:X.N.Nodup)(hi:X.N[i]?=some x)(hj:X.N[j]?=some y)(hij:i≠j)
   (hx:X.env.scope.names.lookup x=some .local) (hy:X.env.scope.names.lookup y=some .local) (ha:PA X [a,b] ta)
   (hw:x3F [.Tuple [.Name x px,.Name y py] kt pt] (.Tuple [a,b] k2 pt2) X.env=pure (some [x,y]))
   (hs:x3E [.Tuple [.Name x px,.Name y py] kt pt] (.Tuple [a,b] k2 pt2) pos.line X.env=pure false:=by rfl) :
   PS X (.Assign [.Tuple [.Name x px,.Name y py] kt pt] (.Tuple [a,b] k2 pt2) pos) (tPar i j ta):=by
 intro pins s σ H D I h;rw [exec_Assign_arm];refine x0a (x1V ?_);rw [hs];refine x0a (x0h ?_);rw [if_neg (by decide)];refine x0a (Tuple_ (thn (ha _ pins s σ H _ I h) fun us s1 ⟨vs,H1,I1,r1,q1⟩=>?_));obtain⟨v,w,e1,q1⟩:=q1;subst e1
 obtain⟨u1,u2,rfl,rv,rw'⟩:∃u1 u2,us=[u1,u2]/\RelV v u1/\RelV w u2:=by
   cases r1 with
   | cons p q =>
     cases q with
     | cons p' q' =>
       cases q';exact⟨_,_,rfl,p,p'⟩
 refine x0Z ?_ (by show 2<=x0B;decide);have I2:Inv X pins σ H1 { s1 with heap:=s1.heap.push { cls:=.type "tuple",data:=.seq [u1,u2].toArray } }:=I1.kept (t':=s1.toks) fun b o e=>x0d _ e;rw [hw];refine x0a (x0h ?_);show wpAny (model X.prog X.w) X.A (do rule "assign.swapped-stores";let items ← unpackItems (.ref s1.heap.objs.size) 2 none;x3D [fun v=>x4v X.env y v,fun v=>x4v X.env x v] items.reverse;pure Flow.next) _ _ _;refine x0a (x3U (x0a (unpackItems_tuple (items:=#[u1,u2]) (I.ok.hd hc) (IsTup.new s1.heap _) fun h' hx'=>?_)));have I3:=I2.kept (h':=h') (t':=s1.toks) fun b o e=>hx' b o (x0r (x0o e)) e;show wpAny _ _ (x3D [fun v=>x4v X.env y v,fun v=>x4v X.env x v] [u2,u1]>>=fun _=>pure Flow.next) _ _ _;refine x0a (x2s (x4b (a2e I3 hN hj (.inl hy) rw' (fun s2 I4=>?_) (.inr hy))));refine x2s (x4b (a2e I4 hN hi (.inl hx) rv (fun s3 I5=>assignInOrder_nil (x0h ?_)) (.inr hx)));rw [List.set_comm _ _ (Ne.symm hij)] at I5;exact⟨_,H1,I5,q1⟩
end
section
variable {X:Cx}{pos:Pos}
noncomputable def tWhile (c:TT)(tb:TS):TS:=fun D σ H=>∃W:Nat->St->Hp->Prop,(∃m,W m σ H)/\∀m σ H,W m σ H->
 c σ H fun b H1=>if b=true then ∃N:St->Hp->Prop,(∀σ' H',N σ' H'->∃m',m' < m/\W m' σ' H')/\tb { D with nx:=N,ct:=N,bk:=D.nx } σ H1 else D.nx σ H1
theorem b2A {c:Expr}{body:List Stmt}{tc:TT}{tb:TS}(hp:PassesOwn (model X.prog X.w) X.A X.env X.xe)(hc:PT X c tc)(hb:PSs X body tb):PS X (.While c body [] pos) (tWhile tc tb):=by
 intro pins s σ H D I h;obtain⟨W,⟨m0,w0⟩,turn⟩:=h;refine wpAny_While (codeAny_whileLoop (fun n s'=>∃σ' H',Inv X pins σ' H' s'/\W n σ' H') ?_ m0 ⟨σ,H,I,w0⟩);rintro n s1 ⟨σ1,H1,I1,w1⟩;refine x2C hp (thn (hc pins s1 σ1 H1 _ I1 (turn n σ1 H1 w1)) fun b s2 ⟨H2,I2,q2⟩=>?_);cases b with
 | true =>
   obtain⟨N,hN,q2⟩:=q2;rw [if_pos rfl];refine x2C hp (thn (hb pins s2 σ1 H2 _ I2 q2) fun f s3 q3=>?_);cases f with
   | next =>
     obtain⟨σ3,H3,I3,n3⟩:=q3;obtain⟨m',hm,w3⟩:=hN σ3 H3 n3;exact⟨m',hm,σ3,H3,I3,w3⟩
   | cont =>
     obtain⟨σ3,H3,I3,n3⟩:=q3;obtain⟨m',hm,w3⟩:=hN σ3 H3 n3;exact⟨m',hm,σ3,H3,I3,w3⟩
   | brk=>exact q3
   | ret v=>exact q3
 | false =>
   rw [if_neg x0R];exact x4C ⟨σ1,H2,I2,q2⟩
end
structure It where
 go:Nat->Hp->Prop
 yld:Nat->Hp->V->Hp->Prop
 stop:Nat->Hp->Prop
noncomputable def FpOk (X:Cx)(pins:List (Addr×Obj))(H:Hp)(b:Addr):Prop:=
 H b=none/\b≠X.env.locals/\b∉X.fs/\(b∈X.ex\/X.s₀.heap.objs.size<=b)/\(∀x c,X.env.cells.lookup x=some c->c≠b)/\∀p∈X.pn++pins,p.1≠b
theorem Inv.fpOk {X:Cx}{pins:List (Addr×Obj)}{σ:St}{H H':Hp}{s:Shared}{b:Addr}(I:Inv X pins σ H s)(hb:s.heap.objs.size<=b)(hn:H' b=none):FpOk X pins H' b:=by
 refine⟨hn,x3x (x0x I.lt hb),I.nofs hb,.inr (x1f I.sz hb),fun x c e z=>?_,fun p hp z=>?_⟩
 · obtain⟨v,q⟩:=I.cell x c e;exact absurd (x0x q.lt (by rw [z];exact hb)) (x1U _)
 · exact absurd (x0x (x0o (I.pin p hp).1) (by rw [z];exact hb)) (x1U _)
structure Turn (P:x0G)(w:World)(K:x0b)(tg:Expr)(J:It)(fp:List Addr)(it:Addr)(tn:Nat->Heap->Prop):Prop where
 mem:it∈fp
 obj:∀i h,tn i h->∀b∈fp,∃o,h.get? b=some o/\∀v,o.data≠.cell v
 keep:∀i h h',tn i h->(∀b∈fp,∀o,h.get? b=some o->h'.get? b=some o)->tn i h'
 item:∀(X:Cx),X.prog=P->X.w=w->X.K=K->X.calm=true->∀(i:Nat) (pins:List (Addr×Obj)) (s:Shared) (σ:St) (H:Hp) (E:Value->Shared->Prop),Inv X pins σ H s->(∀b∈fp,FpOk X pins H b)->tn i s.heap->J.go i H->
   wpAny (model P w) X.A (pyNext (.ref it)) (fun r s1=>∃u,r=some u/\
     wpAny (model P w) X.A (x2l tg (.ref it) u) (fun _ s2=>∃x H',Inv X pins σ H' s2/\RelV x u/\J.yld i H x H'/\tn (i + 1) s2.heap/\∀b∈fp,H' b=none) E s1) E s
 done:∀(X:Cx),X.prog=P->X.w=w->X.K=K->X.calm=true->∀(i:Nat) (pins:List (Addr×Obj)) (s:Shared) (σ:St) (H:Hp) (E:Value->Shared->Prop),Inv X pins σ H s->(∀b∈fp,FpOk X pins H b)->tn i s.heap->J.stop i H->
   wpAny (model P w) X.A (pyNext (.ref it)) (fun r s1=>r=none/\Inv X pins σ H s1) E s
 self:∀(A:Around) (i:Nat) (s:Shared) (Q:Value->Shared->Prop) (E:Value->Shared->Prop),tn i s.heap->Q (.ref it) s->wpAny (model P w) A (pyIter (.ref it)) Q E s
noncomputable abbrev TI:=St->Hp->(It->Hp->Prop)->Prop
noncomputable def PIE (X:Cx)(pins:List (Addr×Obj))(σ:St)(tg:Expr)(R:It->Hp->Prop)(itv:Value)(s2:Shared):Prop:=
 ∃(it:Addr) (fp:List Addr) (tn:Nat->Heap->Prop) (J:It) (H':Hp),itv=.ref it/\Inv X pins σ H' s2/\Turn X.prog X.w X.K tg J fp it tn/\tn 0 s2.heap/\(∀b∈fp,FpOk X pins H' b)/\R J H'
noncomputable def PI (X:Cx)(tg iter:Expr)(wi:TI):Prop:=
 ∀ (pins : List (Addr × Obj)) (s : Shared) (σ : St) (H : Hp) (R : It -> Hp -> Prop), Inv X pins σ H s -> wi σ H R ->
   wpAny (model X.prog X.w) X.A (eval iter X.env) (fun v s1=>wpAny (model X.prog X.w) X.A (pyIter v) (PIE X pins σ tg R) X.xe s1) X.xe s
theorem b5K {M:Model}{A:Around}{E:Value->Shared->Prop}{s:Shared}{tg:Expr}{it:Addr}{u:Value}{o:Obj}{n:String}{vs:Array Value}{Q:Unit->Shared->Prop}(ho:s.heap.get? it=some o)(hc:o.cls=.type n)(hd:o.data=.fields vs)
   (hn:["enumerate","zip","dict_itemiterator","dict_reverseitemiterator","odict_iterator","itertools.zip_longest","itertools.pairwise"].contains n=false) (hQ:Q () s):wpAny M A (x2l tg (.ref it) u) Q E s:=by
 unfold x2l
 cases tg <;> first
   | exact x0h hQ
   | (cases u <;> first
       | exact x0h hQ
       | (refine x0a (wpAny_load ho ?_)
          rw [hc,hd];show wpAny M A (if(["enumerate","zip","dict_itemiterator","dict_reverseitemiterator","odict_iterator","itertools.zip_longest","itertools.pairwise"].contains n && vs[0]? == some (rawInt _))=true then _ else _) Q E s;rw [if_neg (by intro h;rw [hn,x1W] at h;cases h)]
          exact x0h hQ))
noncomputable def Itl (K:x0b)(a:Addr):It:=
 ⟨fun i H=>∃xs x,SqL K H a xs/\xs[i]?=some x,fun i H x H'=>H'=H/\∀xs,SqL K H a xs->xs[i]?=some x,fun i H=>∃xs,SqL K H a xs/\xs.length<=i⟩
noncomputable def Itt (K:x0b)(a:Addr):It:=
 ⟨fun i H=>∃xs x,SqT K H a xs/\xs[i]?=some x,fun i H x H'=>H'=H/\∀xs,SqT K H a xs->xs[i]?=some x,fun i H=>∃xs,SqT K H a xs/\xs.length<=i⟩
noncomputable def Itr (lo:Int)(n:Nat):It:=⟨fun i _=>i < n,fun i H x H'=>H'=H/\x=.int (lo + i),fun i _=>n<=i⟩
theorem a9J {P:x0G}{w:World}{K:x0b}{tg:Expr}(a it:Addr):Turn P w K tg (Itl K a) [it] it (fun i h=>h.IsListIter it a i) where
 mem:=by simp
 obj:=fun i h st b hb=>by
   have e:b=it:=by simpa using hb
   subst e;obtain⟨o,e,c,d⟩:=st;exact⟨o,e,fun v z=>by rw [d] at z;cases z⟩
 keep:=fun i h h' st k=>st.at fun o e=>k it (by simp) o e
 item:=by
   intro X hP hw hK hc i pins s σ H E I hf st hg;subst hP hw hK;obtain⟨xs,x,hq,hx⟩:=hg;obtain⟨its,rv,p,hz⟩:=I.list hq;obtain⟨u,hu,ru⟩:=rv.get hx;obtain⟨f0,f1,f2,f3,f4,f5⟩:=hf it (by simp);refine wpAny_pyNext_list_item st p.isList (x:=u) (by simpa using hu) fun h' st' sb=>?_;have I1:Inv X pins σ H { s with heap:=h' }:=I.turned (t':=s.toks) (fun b o hb e=>(sb.2 b hb).trans e) f0 f1 f3 f4 f5;obtain⟨o,e,c,d⟩:=id st';exact⟨u,rfl,b5K (s:={ s with heap:=h' }) e c d (by decide) ⟨x,H,I1,ru,⟨rfl,fun ys hy=>by rw [I.list_inj hy hq];exact hx⟩,st',fun b hb=>(hf b hb).1⟩⟩
 done:=by
   intro X hP hw hK hc i pins s σ H E I hf st hg;subst hP hw hK;obtain⟨xs,hq,hx⟩:=hg;obtain⟨its,rv,p,hz⟩:=I.list hq;obtain⟨f0,f1,f2,f3,f4,f5⟩:=hf it (by simp);have hl:=rv.length;exact wpAny_pyNext_list_end (I.ok.hd hc) st p.isList (by simp;omega) fun h' eb=>⟨rfl,I.turned (t':=s.toks) (fun b o hb e=>eb b o hb e) f0 f1 f3 f4 f5⟩
 self:=fun _ _ _ _ _ st h=>wpAny_pyIter_listiter st h
theorem a8F {P:x0G}{w:World}{K:x0b}{tg:Expr}(a it:Addr):Turn P w K tg (Itt K a) [it] it (fun i h=>h.IsTupleIter it a i) where
 mem:=by simp
 obj:=fun i h st b hb=>by
   have e:b=it:=by simpa using hb
   subst e;obtain⟨o,e,c,d⟩:=st;exact⟨o,e,fun v z=>by rw [d] at z;cases z⟩
 keep:=fun i h h' st k=>st.at fun o e=>k it (by simp) o e
 item:=by
   intro X hP hw hK hc i pins s σ H E I hf st hg;subst hP hw hK;obtain⟨xs,x,hq,hx⟩:=hg;obtain⟨its,rv,p,hz⟩:=I.tuple hq;obtain⟨u,hu,ru⟩:=rv.get hx;obtain⟨f0,f1,f2,f3,f4,f5⟩:=hf it (by simp);refine wpAny_pyNext_tuple_item st (show s.heap.IsTuple a its.toArray from p) (x:=u) (by simpa using hu) fun h' st' sb=>?_;have I1:Inv X pins σ H { s with heap:=h' }:=I.turned (t':=s.toks) (fun b o hb e=>(sb.2 b hb).trans e) f0 f1 f3 f4 f5;obtain⟨o,e,c,d⟩:=id st';exact⟨u,rfl,b5K (s:={ s with heap:=h' }) e c d (by decide) ⟨x,H,I1,ru,⟨rfl,fun ys hy=>by rw [I.tuple_inj hy hq];exact hx⟩,st',fun b hb=>(hf b hb).1⟩⟩
 done:=by
   intro X hP hw hK hc i pins s σ H E I hf st hg;subst hP hw hK;obtain⟨xs,hq,hx⟩:=hg;obtain⟨its,rv,p,hz⟩:=I.tuple hq;obtain⟨f0,f1,f2,f3,f4,f5⟩:=hf it (by simp);have hl:=rv.length;exact wpAny_pyNext_tuple_end (I.ok.hd hc) st (show s.heap.IsTuple a its.toArray from p) (by simp;omega) fun h' eb=>⟨rfl,I.turned (t':=s.toks) (fun b o hb e=>eb b o hb e) f0 f1 f3 f4 f5⟩
 self:=fun _ _ _ _ _ st h=>wpAny_pyIter_tupleiter st h
theorem a8G {P:x0G}{w:World}{K:x0b}{tg:Expr}(it:Addr)(lo:Int)(n:Nat):Turn P w K tg (Itr lo n) [it] it (fun i h=>IsRangeIter h it (lo + (i:Nat) * 1) ((n:Int) - (i:Nat)) 1) where
 mem:=by simp
 obj:=fun i h st b hb=>by
   have e:b=it:=by simpa using hb
   subst e
   exact⟨_,st,fun v z=>by
     have z':x3V _=Data.cell v:=z
     cases z'⟩
 keep:=fun i h h' st k=>k it (by simp) _ st
 item:=by
   intro X hP hw hK hc i pins s σ H E I hf st hg;subst hP hw hK;obtain⟨f0,f1,f2,f3,f4,f5⟩:=hf it (by simp);have W:=Walks.range (prog:=X.prog) (w:=X.w) (I.ok.hd hc) it lo 1 n;refine W.item i s _ _ hg st fun v h' tk hv st' kk=>?_;obtain⟨t,rfl⟩:=hv;have I1:Inv X pins σ H { s with heap:=h',toks:=tk }:=I.turned (fun b o hb e=>kk b o (by simpa using hb) e) f0 f1 f3 f4 f5;refine⟨_,rfl,b5K (s:={ s with heap:=h',toks:=tk }) (n:="range_iterator") st' rfl rfl (by decide) ⟨.int (lo + i),H,I1,⟨t,?_⟩,⟨rfl,rfl⟩,st',fun b hb=>(hf b hb).1⟩⟩;rw [Int.mul_one]
 done:=by
   intro X hP hw hK hc i pins s σ H E I hf st hg;subst hP hw hK;obtain⟨f0,f1,f2,f3,f4,f5⟩:=hf it (by simp);exact wpAny_pyNext_range_end (I.ok.hd hc) st (by have:n<=i:=hg;omega) fun h' eb=>⟨rfl,I.turned (t':=s.toks) (fun b o hb e=>eb b o hb e) f0 f1 f3 f4 f5⟩
 self:=fun _ _ _ _ _ st h=>wpAny_pyIter_rangeiter st h
section
variable {X:Cx}{tg:Expr}
noncomputable def iList (K:x0b)(tl:TE):TI:=fun σ H R=>tl σ H fun x H1=>∃a,x=.ref a/\(∃xs,SqL K H1 a xs)/\R (Itl K a) H1
noncomputable def iTup (K:x0b)(tl:TE):TI:=fun σ H R=>tl σ H fun x H1=>∃a,x=.ref a/\(∃xs,SqT K H1 a xs)/\R (Itt K a) H1
theorem b5d {l:Expr}{tl:TE}(hl:PE X l tl):PI X tg l (iList X.K tl):=by
 intro pins s σ H R I h;refine thn (hl pins s σ H _ I h) fun v s1 ⟨x,H1,I1,r1,q1⟩=>?_;obtain⟨a,e,⟨xs,hq⟩,q⟩:=q1;subst e;cases r1;obtain⟨its,rv,p,hz⟩:=I1.list hq;refine x3i p.isList ?_;refine⟨s1.heap.objs.size,[s1.heap.objs.size],_,_,H1,rfl,I1.kept (t':=s1.toks) fun b o e=>x0d _ e,a9J a _,⟨_,x0s _ rfl,rfl,rfl⟩,fun b hb=>?_,q⟩;have e:b=s1.heap.objs.size:=by simpa using hb
 subst e;exact I1.fpOk (x0m _) (I1.hok.fresh (x0m _))
theorem pi_tup {l:Expr}{tl:TE}(hl:PE X l tl):PI X tg l (iTup X.K tl):=by
 intro pins s σ H R I h;refine thn (hl pins s σ H _ I h) fun v s1 ⟨x,H1,I1,r1,q1⟩=>?_;obtain⟨a,e,⟨xs,hq⟩,q⟩:=q1;subst e;cases r1;obtain⟨its,rv,p,hz⟩:=I1.tuple hq;refine x3d (show s1.heap.IsTuple a its.toArray from p) ?_;refine⟨s1.heap.objs.size,[s1.heap.objs.size],_,_,H1,rfl,I1.kept (t':=s1.toks) fun b o e=>x0d _ e,a8F a _,⟨_,x0s _ rfl,rfl,rfl⟩,fun b hb=>?_,q⟩;have e:b=s1.heap.objs.size:=by simpa using hb
 subst e;exact I1.fpOk (x0m _) (I1.hok.fresh (x0m _))
theorem b2l {pins:List (Addr×Obj)}{σ:St}{H:Hp}{s:Shared}{R:It->Hp->Prop}{E:Value->Shared->Prop}{lo hi:Int}{t u v:Tok}{tk:Nat}(I:Inv X pins σ H s)(h1:-(2 ^ 62)<=lo)(h2:lo < 2 ^ 62)(h3:-(2 ^ 62)<=hi)(h4:hi < 2 ^ 62)
   (q:R (Itr lo (hi - lo).toNat) H):wpAny (model X.prog X.w) X.A (pyIter (.ref s.heap.objs.size)) (PIE X pins σ tg R) E { s with heap:=s.heap.push { cls:=.type "range",data:=.fields #[.int lo t,.int hi u,.int 1 v] },toks:=tk }:=by
 refine wpAny_pyIter_range (IsRange.new ..) (small_one h1 h2 h3 h4) ?_;have I1:Inv X pins σ H { s with heap:=s.heap.push { cls:=.type "range",data:=.fields #[.int lo t,.int hi u,.int 1 v] },toks:=tk }:=I.kept fun b o e=>x0d _ e
 refine⟨(s.heap.push { cls:=.type "range",data:=.fields #[.int lo t,.int hi u,.int 1 v] }).objs.size,[(s.heap.push { cls:=.type "range",data:=.fields #[.int lo t,.int hi u,.int 1 v] }).objs.size],_,_,H,rfl,
   I1.kept (t':=tk) fun b o e=>x0d _ e,a8G _ lo (hi - lo).toNat,?_,fun b hb=>?_,q⟩
 · have e1:lo + ((0:Nat):Int) * 1=lo:=by simp
   have e2:(((hi - lo).toNat:Nat):Int) - ((0:Nat):Int)=Builtin.Range.rangeSize lo hi 1:=by rw [rangeSize_one];split <;> omega
   show IsRangeIter _ _ (lo + ((0:Nat):Int) * 1) ((((hi - lo).toNat:Nat):Int) - ((0:Nat):Int)) 1;rw [e1,e2];exact x0s _ rfl
 · have e:b=(s.heap.push { cls:=.type "range",data:=.fields #[.int lo t,.int hi u,.int 1 v] }).objs.size:=by simpa using hb
   subst e;exact I1.fpOk (x0m _) (I1.hok.fresh (x0m _))
noncomputable def iRng1 (ta:TA):TI:=fun σ H R=>ta σ H fun vs H1=>∃j:Int,vs=[.int j]/\-(2 ^ 62)<=j/\j < 2 ^ 62/\R (Itr 0 j.toNat) H1
theorem b0q {a:Expr}{ta:TA}{p pos:Pos}(hg:Gl X "range")(hm:X.mg "range"=none)(ha:PA X [a] ta)(hs:x1h [a] X.env=[(false,eval a X.env)]:=by rfl):PI X tg (.Call (.Name "range" p) [a] [] pos) (iRng1 ta):=by
 intro pins s σ H R I h;refine Call_ (a5q I hg hm boot_range (x3e (thn (ha pos pins s σ H _ I h) fun us s1 ⟨vs,H1,I1,r1,q1⟩=>?_) hs rfl));obtain⟨j,e,q1,q2,q⟩:=q1;subst e;cases r1 with
 | cons r rr =>
   cases rr;obtain⟨t,rfl⟩:=r;exact call_range_1 (b2l I1 (by omega) (by omega) q1 q2 (by simpa using q))
noncomputable def tFor (wi:TI)(g:TG)(tb:TS):TS:=fun D σ H=>wi σ H fun J H1=>∃W:Nat->Nat->St->Hp->Prop,(∃m,W 0 m σ H1)/\∀i m σ H,W i m σ H->
 (J.stop i H/\D.nx σ H)\/(J.go i H/\∃N:St->Hp->Prop,(∀σ' H',N σ' H'->∃m',m' < m/\W (i + 1) m' σ' H')/\∀x H',J.yld i H x H'->g x σ H' fun σ2 H2=>tb { D with nx:=N,ct:=N,bk:=D.nx } σ2 H2)
noncomputable def a5m (fp:List Addr)(h:Heap):List (Addr×Obj):=fp.filterMap fun b=>(h.get? b).map fun o=>(b,o)
theorem a3H {fp:List Addr}{h:Heap}{b:Addr}{o:Obj}(hb:b∈fp)(e:h.get? b=some o):(b,o)∈a5m fp h:=List.mem_filterMap.mpr ⟨b,hb,by rw [e];rfl⟩
theorem b0E {fp:List Addr}{h:Heap}{p:Addr×Obj}(hp:p∈a5m fp h):p.1∈fp/\h.get? p.1=some p.2:=by
 obtain⟨b,hb,e⟩:=List.mem_filterMap.mp hp;cases q:h.get? b with
 | none=>rw [q] at e;cases e
 | some o =>
   rw [q] at e;have e':(b,o)=p:=x0H e;subst e';exact⟨hb,q⟩
theorem Inv.pinned {pins:List (Addr×Obj)}{σ:St}{H:Hp}{s:Shared}{fp:List Addr}(I:Inv X pins σ H s)(hf:∀b∈fp,FpOk X pins H b)(ho:∀b∈fp,∃o,s.heap.get? b=some o/\∀v,o.data≠.cell v):Inv X (pins++a5m fp s.heap) σ H s:=
 I.pins_of fun p hp=>(x0C.mp hp).elim (fun z=>I.pin p (x0t _ z)) fun z=>by
   obtain⟨hb,e⟩:=b0E z;obtain⟨f0,f1,f2,_⟩:=hf p.1 hb;obtain⟨o,e',d⟩:=ho p.1 hb;rw [e] at e';cases e';exact⟨e,f0,f1,f2,d⟩
theorem Inv.unpinned {pins pl:List (Addr×Obj)}{σ:St}{H:Hp}{s:Shared}(I:Inv X (pins++pl) σ H s):Inv X pins σ H s:=I.pins_of fun p hp=>I.pin p (x0t _ (x1a _ hp))
theorem ps_for {iter:Expr}{body:List Stmt}{wi:TI}{g:TG}{tb:TS}{pos:Pos}(hp:PassesOwn (model X.prog X.w) X.A X.env X.xe)(hc:X.calm=true)(hi:PI X tg iter wi)(hg:PG X tg g)(hb:PSs X body tb)
   (hs:∀x,x1s iter X.env x=pure x:=by intro _;rfl):PS X (.For tg iter body [] pos) (tFor wi g tb):=by
 intro pins s σ H D I h;refine wpAny_For (thn (hi pins s σ H _ I h) fun v s1 h1=>thn h1 fun itv s2 h2=>?_) hs;obtain⟨it,fp,tn,J,H2,e,I2,T,st2,f2,W,⟨m0,w0⟩,turn⟩:=h2;subst e
 -- what stays true of the iterator's objects through the loop
 have stat:∀{H':Hp},(∀b∈fp,H' b=none)->∀b∈fp,FpOk X pins H' b:=fun hn b hb=>⟨hn b hb,(f2 b hb).2⟩;refine codeAny_forLoop_any (fun n s'=>∃i σ' H',Inv X pins σ' H' s'/\tn i s'.heap/\(∀b∈fp,H' b=none)/\W i n σ' H') ?_ m0 ⟨0,σ,H2,I2,st2,fun b hb=>(f2 b hb).1,w0⟩;rintro n s3 ⟨i,σ3,H3,I3,st3,fr3,w3⟩;rcases turn i n σ3 H3 w3 with⟨stop,qn⟩ | ⟨go,N,hN,step⟩
 · refine x2C hp (thn (T.done X rfl rfl rfl hc i pins s3 σ3 H3 X.xe I3 (stat fr3) st3 stop) fun r s4 ⟨hr,I4⟩=>?_);subst hr;exact x4C ⟨σ3,H3,I4,qn⟩
 · refine x2C hp (thn (T.item X rfl rfl rfl hc i pins s3 σ3 H3 X.xe I3 (stat fr3) st3 go) fun r s4 ⟨u,hr,h4⟩=>?_);subst hr;refine x2C hp (thn h4 fun _ s5 ⟨x,H5,I5,r5,y5,st5,fr5⟩=>?_);have I5':=I5.pinned (stat fr5) (T.obj _ _ st5);refine x2C hp (thn (hg _ s5 σ3 H5 x u _ I5' r5 (step x H5 y5)) fun _ s6 ⟨σ6,H6,I6,q6⟩=>?_);refine x2C hp (thn (hb _ s6 σ6 H6 _ I6 q6) fun f s7 q7=>?_)
   have again:∀{σ7:St} {H7:Hp},Inv X (pins++a5m fp s5.heap) σ7 H7 s7->N σ7 H7->∃m,m < n/\∃i σ' H',Inv X pins σ' H' s7/\tn i s7.heap/\(∀b∈fp,H' b=none)/\W i m σ' H':=fun {σ7 H7} I7 n7=>by
     obtain⟨m',hm,w7⟩:=hN σ7 H7 n7;refine⟨m',hm,i + 1,σ7,H7,I7.unpinned,T.keep _ _ _ st5 fun b hb o e=>(I7.pin (b,o) (x0t _ (x0t _ (a3H hb e)))).1,fun b hb=>?_,w7⟩;obtain⟨o,e,d⟩:=T.obj _ _ st5 b hb;exact(I7.pin (b,o) (x0t _ (x0t _ (a3H hb e)))).2.1
   cases f with
   | next=>obtain⟨σ7,H7,I7,n7⟩:=q7;exact again I7 n7
   | cont=>obtain⟨σ7,H7,I7,n7⟩:=q7;exact again I7 n7
   | brk=>obtain⟨σ7,H7,I7,q7⟩:=q7;exact⟨σ7,H7,I7.unpinned,q7⟩
   | ret v=>obtain⟨x7,σ7,H7,I7,r7,q7⟩:=q7;exact⟨x7,σ7,H7,I7.unpinned,r7,q7⟩
end
noncomputable abbrev R2:=V->V->Hp->VK->Prop
noncomputable def OpR (X:Cx)(f:Value->Value->Sem Value)(r:R2):Prop:=
 ∀ (pins : List (Addr × Obj)) (s : Shared) (σ : St) (H : Hp) (x y : V) (v u : Value) (Q : VK), Inv X pins σ H s -> RelV x v -> RelV y u -> r x y H Q ->
   wpAny (model X.prog X.w) X.A (f v u) (EP X pins σ Q) X.xe s
noncomputable def a1z (X:Cx)(f:Value)(r:List V->Hp->VK->Prop):Prop:=
 ∀ (pins : List (Addr × Obj)) (s : Shared) (σ : St) (H : Hp) (xs : List V) (us : List Value) (Q : VK), Inv X pins σ H s -> Vals xs us -> r xs H Q ->
   wpAny (model X.prog X.w) X.A (call f us) (EP X pins σ Q) X.xe s
noncomputable def TruR (X:Cx)(r:V->Hp->(Bool->Hp->Prop)->Prop):Prop:=
 ∀ (pins : List (Addr × Obj)) (s : Shared) (σ : St) (H : Hp) (x : V) (v : Value) (Q : Bool -> Hp -> Prop), Inv X pins σ H s -> RelV x v -> r x H Q ->
   wpAny (model X.prog X.w) X.A (truthy v) (TP X pins σ Q) X.xe s
noncomputable def tOp (r:R2)(ta tb:TE):TE:=fun σ H Q=>ta σ H fun x H1=>tb σ H1 fun y H2=>r x y H2 Q
noncomputable def rI (C:Int->Int->Prop)(g:Int->Int->V):R2:=fun x y H Q=>∃i j,x=.int i/\y=.int j/\C i j/\Q (g i j) H
noncomputable def rI0 (g:Int->Int->V):R2:=fun x y H Q=>∃i j,x=.int i/\y=.int j/\Q (g i j) H
section
variable {X:Cx}{a b c:Expr}{ta tb tc:TE}{pos:Pos}
theorem binT (ha:PE X a ta)(hb:PE X b tb){pins:List (Addr×Obj)}{s:Shared}{σ:St}{H:Hp}{R:V->V->Hp->Prop}(I:Inv X pins σ H s)
   (h:ta σ H fun x H1=>tb σ H1 fun y H2=>R x y H2) {Q:Value->Shared->Prop} {f:Value->Value->Sem Value}
   (hf:∀v u s2 x y H2,Inv X pins σ H2 s2->RelV x v->RelV y u->R x y H2->wpAny (model X.prog X.w) X.A (f v u) Q X.xe s2) :
   wpAny (model X.prog X.w) X.A (eval a X.env) (fun v s₁=>wpAny (model X.prog X.w) X.A (eval b X.env) (fun u s₂=>wpAny (model X.prog X.w) X.A (f v u) Q X.xe s₂) X.xe s₁) X.xe s:=by
 refine thn (ha pins s σ H _ I h) fun v s1 ⟨x,H1,I1,r1,q1⟩=>?_;refine thn (hb pins s1 σ H1 _ I1 q1) fun u s2 ⟨y,H2,I2,r2,q2⟩=>?_;exact hf v u s2 x y H2 I2 r1 r2 q2
theorem a1u {op:Operator}{r:R2}(ho:OpR X (x3j op) r)(ha:PE X a ta)(hb:PE X b tb):PE X (.BinOp a op b pos) (tOp r ta tb):=by
 intro pins s σ H Q I h;exact wpAny_BinOp (binT ha hb I h fun v u s2 x y H2 I2 rx ry q=>ho pins s2 σ H2 x y v u Q I2 rx ry q)
theorem opI {f:Value->Value->Sem Value}{C:Int->Int->Prop}{g:Int->Int->Int}
   (rule:∀(i j:Int) (t u:Tok) (s:Shared) (Q:Value->Shared->Prop) (E:Value->Shared->Prop),C i j->Q (.int (g i j) s.toks) { s with toks:=s.toks + 1 }->wpAny (model X.prog X.w) X.A (f (.int i t) (.int j u)) Q E s) :
   OpR X f (rI C fun i j=>.int (g i j)):=by
 intro pins s σ H x y v u Q I rx ry h;obtain⟨i,j,rfl,rfl,hc,q⟩:=h;obtain⟨t,rfl⟩:=rx;obtain⟨t',rfl⟩:=ry;exact rule i j t t' s _ _ hc ⟨.int (g i j),H,I.tok _,⟨_,rfl⟩,q⟩
theorem opI0 {f:Value->Value->Sem Value}{g:Int->Int->Int}
   (rule:∀(i j:Int) (t u:Tok) (s:Shared) (Q:Value->Shared->Prop) (E:Value->Shared->Prop),Q (.int (g i j) s.toks) { s with toks:=s.toks + 1 }->wpAny (model X.prog X.w) X.A (f (.int i t) (.int j u)) Q E s) :
   OpR X f (rI0 fun i j=>.int (g i j)):=by
 intro pins s σ H x y v u Q I rx ry h;obtain⟨i,j,rfl,rfl,q⟩:=h;obtain⟨t,rfl⟩:=rx;obtain⟨t',rfl⟩:=ry;exact rule i j t t' s _ _ ⟨.int (g i j),H,I.tok _,⟨_,rfl⟩,q⟩
theorem opB0 {f:Value->Value->Sem Value}{g:Int->Int->Bool}
   (rule:∀(i j:Int) (t u:Tok) (s:Shared) (Q:Value->Shared->Prop) (E:Value->Shared->Prop),Q (.bool (g i j)) s->wpAny (model X.prog X.w) X.A (f (.int i t) (.int j u)) Q E s) :
   OpR X f (rI0 fun i j=>.bl (g i j)):=by
 intro pins s σ H x y v u Q I rx ry h;obtain⟨i,j,rfl,rfl,q⟩:=h;obtain⟨t,rfl⟩:=rx;obtain⟨t',rfl⟩:=ry;exact rule i j t t' s _ _ ⟨.bl (g i j),H,I,rfl,q⟩
noncomputable def CDiv (i j:Int):Prop:=0 < j/\j < 1073741824
noncomputable def CPow (i j:Int):Prop:=0<=j/\j<=1000000/\i.natAbs < 2 ^ 64
noncomputable def CMul (i j:Int):Prop:=(-(2 ^ 64) < i/\i < 2 ^ 64)\/(-(2 ^ 64) < j/\j < 2 ^ 64)
theorem CMul.ok {i j:Int}(h:CMul i j):IntMulOk i j:=by
 rcases h with⟨h1,h2⟩ | ⟨h1,h2⟩
 · exact .of_left (intBits_le_64 h1 h2)
 · exact .of_right (intBits_le_64 h1 h2)
theorem a3W:OpR X (x3j .Add) (rI0 fun i j=>.int (i + j)):=opI0 fun _ _ _ _ _ _ _ q=>add_int q
theorem op_sub:OpR X (x3j .Sub) (rI0 fun i j=>.int (i - j)):=opI0 fun _ _ _ _ _ _ _ q=>sub_int q
theorem a3V:OpR X (x3j .Mult) (rI CMul fun i j=>.int (i * j)):=opI fun _ _ _ _ _ _ _ hc q=>mul_int q hc.ok
theorem a7v:OpR X (x3j .FloorDiv) (rI CDiv fun i j=>.int (i / j)):=opI fun i j _ _ _ _ _ hc q=>by
 have h1:(0:Int) < j:=hc.1;have h2:j < 1073741824:=hc.2;exact floordiv_int (by omega) (by rw [Int.fdiv_eq_ediv_of_nonneg i (by omega)];exact q) (.inl (PyProof.noPylong_small (by omega)))
theorem a4C:OpR X (x3j .Mod) (rI (fun _ j=>0 < j) fun i j=>.int (i % j)):=opI fun i j _ _ _ _ _ hc q=>by
 have h1:(0:Int) < j:=hc;exact mod_int' (by omega) (by rw [Int.fmod_eq_emod_of_nonneg i (by omega)];exact q)
theorem op_pow:OpR X (x3j .Pow) (rI CPow fun i j=>.int (i ^ j.toNat)):=opI fun _ _ _ _ _ _ _ hc q=>pow_int_small hc.1 hc.2.1 hc.2.2 q
end
section
variable {X:Cx}{a b c:Expr}{ta tb tc:TE}{pos:Pos}
variable {r':R2}{op op':CmpOp}{us:List Value}
theorem b1r {pins:List (Addr×Obj)}{σ:St}{H:Hp}{s:Shared}{Q:VK}{k k':Bool}(I:Inv X pins σ H s)(q:Q (.bl k) H)(e:k=k'):EP X pins σ Q (.bool k') s:=by
 subst e;exact⟨.bl k,H,I,rfl,q⟩
theorem b5j:OpR X (x1J .Lt) (rI0 fun i j=>.bl (decide (i < j))):=opB0 fun _ _ _ _ _ _ _ q=>lt_int q
theorem op_le:OpR X (x1J .LtE) (rI0 fun i j=>.bl (decide (i<=j))):=opB0 fun _ _ _ _ _ _ _ q=>le_int q
theorem op_gt:OpR X (x1J .Gt) (rI0 fun i j=>.bl (decide (j < i))):=opB0 fun _ _ _ _ _ _ _ q=>gt_int q
theorem op_ge:OpR X (x1J .GtE) (rI0 fun i j=>.bl (decide (j<=i))):=opB0 fun _ _ _ _ _ _ _ q=>ge_int q
theorem b0z:OpR X (x1J .Lt) (fun x y H Q=>∃i j,x=.str i/\y=.str j/\Q (.bl (decide (i.cps.toList < j.cps.toList))) H):=by
 intro pins s σ H x y v u Q I rx ry h;obtain⟨i,j,rfl,rfl,q⟩:=h;obtain⟨t,rfl⟩:=rx;obtain⟨t',rfl⟩:=ry;exact lt_str (b1r I q rfl)
theorem b0B:OpR X (x1J .In) (fun x y H Q=>∃i j,x=.str i/\y=.str j/\Q (.bl (!(x1M j i 0 j.length 1).isEmpty)) H):=by
 intro pins s σ H x y v u Q I rx ry h;obtain⟨i,j,rfl,rfl,q⟩:=h;obtain⟨t,rfl⟩:=rx;obtain⟨t',rfl⟩:=ry;exact in_str (b1r I q rfl)
theorem b5i:OpR X (x1J .IsNot) (fun x y H Q=>y=.non/\Q (.bl (!decide (x=.non))) H):=by
 intro pins s σ H x y v u Q I rx ry h;obtain⟨rfl,q⟩:=h;cases ry;refine isnot_none_gen (b1r I q ?_)
 cases x <;> first
   | (cases rx;rfl)
   | (obtain⟨t,rfl⟩:=rx;rfl)
theorem OpR.or {f:Value->Value->Sem Value}{r:R2}(h:OpR X f r)(h':OpR X f r'):OpR X f (fun x y H Q=>r x y H Q\/r' x y H Q):=by
 intro pins s σ H x y v u Q I rx ry q;rcases q with q | q
 · exact h pins s σ H x y v u Q I rx ry q
 · exact h' pins s σ H x y v u Q I rx ry q
theorem a0n (b:Expr)(h:op≠.In:=by decide)(h2:op≠.NotIn:=by decide):x3k op b=false:=by
 have e1:(op == CmpOp.In)=false:=by cases op <;> first | rfl | exact absurd rfl h
 have e2:(op == CmpOp.NotIn)=false:=by cases op <;> first | rfl | exact absurd rfl h2
 cases b <;> simp [x3k,e1,e2]
theorem b0w {r:R2}(ho:OpR X (x1J op) r)(ha:PE X a ta)(hb:PE X b tb)(hm:x3k op b=false):PE X (.Compare a [op] [b] pos) (tOp r ta tb):=by
 intro pins s σ H Q I h;exact wpAny_Compare1 (binT ha hb I h fun v u s2 x y H2 I2 rx ry q=>ho pins s2 σ H2 x y v u Q I2 rx ry q) hm
noncomputable def b4w (t:TE):TT:=fun σ H Q=>t σ H fun x H'=>∃k,x=.bl k/\Q k H'
theorem a4x {r:R2}(ho:OpR X (x1J op) r)(ha:PE X a ta)(hb:PE X b tb)(hm:x3k op b=false):PT X (.Compare a [op] [b] pos) (b4w (tOp r ta tb)):=by
 intro pins s σ H Q I h
 refine wpAny_isTrue_Compare1 (thn (ha pins s σ H _ I h) fun v s1 ⟨x,H1,I1,r1,q1⟩=>thn (hb pins s1 σ H1 _ I1 q1) fun u s2 ⟨y,H2,I2,r2,q2⟩=>
   thn (ho pins s2 σ H2 x y v u _ I2 r1 r2 q2) fun c s3 ⟨z,H3,I3,r3,k,e,q3⟩=>?_) hm
 subst e;cases r3;exact x1z ⟨H3,I3,q3⟩
noncomputable def a9M (r r':R2)(ta tb tc:TE):TE:=fun σ H Q=>ta σ H fun x H1=>tb σ H1 fun y H2=>r x y H2 fun z H3=>∃k,z=.bl k/\
 (if k=true then tc σ H3 fun w' H4=>r' y w' H4 Q else Q (.bl false) H3)
theorem b2J {r:R2}(ho:OpR X (x1J op) r)(ho':OpR X (x1J op') r')(ha:PE X a ta)(hb:PE X b tb)(hc:PE X c tc)
   (hm:lastMarks [op,op'] [b,c]=false:=by with_unfolding_all rfl):PE X (.Compare a [op,op'] [b,c] pos) (a9M r r' ta tb tc):=by
 intro pins s σ H Q I h
 refine Compare_chain (thn (ha pins s σ H _ I h) fun v s1 ⟨x,H1,I1,r1,q1⟩=>chain_link (thn (hb pins s1 σ H1 _ I1 q1) fun u s2 ⟨y,H2,I2,r2,q2⟩=>
   thn (ho pins s2 σ H2 x y v u _ I2 r1 r2 q2) fun d s3 ⟨z,H3,I3,r3,k,e,q3⟩=>?_)) hm
 subst e;cases r3;refine x1z ?_;cases k with
 | false=>exact ite_ff ⟨.bl false,H3,I3,rfl,q3⟩
 | true=>exact ite_tt (chain_last (thn (hc pins s3 σ H3 _ I3 q3) fun w' s4 ⟨z',H4,I4,r4,q4⟩=>ho' pins s4 σ H4 y z' u w' Q I4 r2 r4 q4))
theorem b2z {r:R2}(ho:OpR X (x1J op) r)(ho':OpR X (x1J op') r')(ha:PE X a ta)(hb:PE X b tb)(hc:PE X c tc)
   (hm:lastMarks [op,op'] [b,c]=false:=by with_unfolding_all rfl):PT X (.Compare a [op,op'] [b,c] pos) (b4w (a9M r r' ta tb tc)):=by
 intro pins s σ H Q I h
 refine isTrue_chain (thn (ha pins s σ H _ I h) fun v s1 ⟨x,H1,I1,r1,q1⟩=>test_link (thn (hb pins s1 σ H1 _ I1 q1) fun u s2 ⟨y,H2,I2,r2,q2⟩=>
   thn (ho pins s2 σ H2 x y v u _ I2 r1 r2 q2) fun d s3 ⟨z,H3,I3,r3,k,e,q3⟩=>?_)) hm
 subst e;cases r3;refine x1z ?_;cases k with
 | false =>
   obtain⟨k',e',q'⟩:=q3;cases e';exact ite_ff ⟨H3,I3,q'⟩
 | true =>
   refine ite_tt (test_last (thn (hc pins s3 σ H3 _ I3 q3) fun w' s4 ⟨z',H4,I4,r4,q4⟩=>thn (ho' pins s4 σ H4 y z' u w' _ I4 r2 r4 q4) fun d' s5 ⟨z2,H5,I5,r5,k2,e2,q5⟩=>?_));subst e2;cases r5;exact x1z ⟨H5,I5,q5⟩
noncomputable def TruV (K:x0b)(x:V)(H:Hp)(k:Bool):Prop:=
 match x with
 | .non=>k=false
 | .bl b=>k=b
 | .int i=>k=(i != 0)
 | .str y=>y.length<=x0B/\k=((y.length:Int) != 0)
 | .byt y=>y.size<=x0B/\k=((y.size:Int) != 0)
 | .ref p=>(∃xs,SqL K H p xs/\k=!xs.isEmpty)\/(∃xs,SqT K H p xs/\k=!xs.isEmpty)\/∃kvs,H p=some (.dK kvs)/\k=!kvs.isEmpty
 | _=>False
theorem a9q {κ:Type}{kvs:List (κ×V)}{vs:List (κ×Value)}(r:KV kvs vs):(!vs.isEmpty)=!kvs.isEmpty:=by
 cases r <;> rfl
theorem a5s {xs:List V}{its:List Value}(r:Vals xs its):(!its.toArray.isEmpty)=!xs.isEmpty:=by
 cases r <;> simp
theorem a4H:(x0B:Nat) < 2 ^ 63:=by rw [x1c];decide
theorem b3C:TruR X (fun x H Q=>∃k,TruV X.K x H k/\Q k H):=by
 intro pins s σ H x v Q I rx h;obtain⟨k,e,q⟩:=h;have hl:=a4H;have hs:x0B=16777216:=x1c;cases x with
 | non =>
   cases rx;have e':k=false:=e;subst e';exact truthy_none ⟨H,I,q⟩
 | bl b =>
   cases rx;have e':k=b:=e;subst e';exact x1z ⟨H,I,q⟩
 | int i =>
   obtain⟨t,rfl⟩:=rx;have e':k=(i != 0):=e;subst e';exact PySem.P.truthy_int ⟨H,I,q⟩
 | str y =>
   obtain⟨t,rfl⟩:=rx;obtain⟨hy,e'⟩:y.length<=x0B/\k=((y.length:Int) != 0):=e;subst e';exact PySem.P.truthy_str (by omega) ⟨H,I.tok _,q⟩
 | byt y =>
   obtain⟨t,rfl⟩:=rx;obtain⟨hy,e'⟩:y.size<=x0B/\k=((y.size:Int) != 0):=e;subst e';exact PySem.W.truthy_bytes (by omega) ⟨H,I.tok _,q⟩
 | ref p =>
   cases rx;have e':(∃xs,SqL X.K H p xs/\k=!xs.isEmpty)\/(∃xs,SqT X.K H p xs/\k=!xs.isEmpty)\/∃kvs,H p=some (.dK kvs)/\k=!kvs.isEmpty:=e;rcases e' with⟨xs,hx,e'⟩ | ⟨xs,hx,e'⟩ | ⟨kvs,hx,e'⟩
   · subst e';obtain⟨its,r,pl,hz⟩:=I.list hx;have hlen:=r.length;exact wpAny_truthy_list pl.isList (by simp only [x0q];omega) ⟨H,I.tok _,by rw [a5s r];exact q⟩
   · subst e';obtain⟨its,r,pl,hz⟩:=I.tuple hx;have hlen:=r.length;exact truthy_tuple pl (by simp only [x0q];omega) ⟨H,I.tok _,by rw [a5s r];exact q⟩
   · subst e';obtain⟨hz,hS,vs,r,m⟩:kvs.length<=x0B/\(p == x2b)=false/\∃vs,KV kvs vs/\s.heap.DictOf (a0F X.prog X.w) p vs:=I.hok p _ hx;have hlen:kvs.length=vs.length:=Paired.length r;exact wpAny_truthy_dict hS m (by omega) ⟨H,I.tok _,by rw [a9q r];exact q⟩
 | _=>exact(show False from e).elim
theorem b2y (ha:PE X a ta)(he:∀whole,isTrue a X.env whole=(do let v ← whole;x4X a.pos;x3T [v] (truthy v))) :
   PT X a (fun σ H Q=>ta σ H fun x H'=>∃k,TruV X.K x H' k/\Q k H'):=by
 intro pins s σ H Q I h;exact isTrue_plain (thn (ha pins s σ H _ I h) fun v s1 ⟨x,H1,I1,r1,q1⟩=>b3C pins s1 σ H1 x v Q I1 r1 q1) (he _)
theorem a8W:OpR X (x3j .Add) (fun x y H Q=>∃i j,x=.str i/\y=.str j/\i.length + j.length<=x0B/\Q (.str (i++j)) H):=by
 intro pins s σ H x y v u Q I rx ry h;obtain⟨i,j,rfl,rfl,hz,q⟩:=h;obtain⟨t,rfl⟩:=rx;obtain⟨t',rfl⟩:=ry;exact add_str (fun t' tk=>⟨.str (i++j),H,I.tok _,⟨_,rfl⟩,q⟩) hz
theorem a6g {x:V}(r:Vals [x] us):∃u,us=[u]/\RelV x u:=by
 cases r with
 | cons r1 r2=>cases r2;exact⟨_,rfl,r1⟩
theorem vals2 {x y:V}(r:Vals [x,y] us):∃u w',us=[u,w']/\RelV x u/\RelV y w':=by
 cases r with
 | cons r1 r2 =>
   cases r2 with
   | cons r3 r4=>cases r4;exact⟨_,_,rfl,r1,r3⟩
theorem b3v:a1z X (.builtin "abs") (fun xs H Q=>∃i,xs=[.int i]/\Q (.int (if i < 0 then -i else i)) H):=by
 intro pins s σ H xs us Q I r h;obtain⟨i,rfl,q⟩:=h;obtain⟨u,rfl,t,rfl⟩:=a6g r;exact call_abs_int fun u tk=>⟨.int (if i < 0 then -i else i),H,I.tok _,⟨_,rfl⟩,q⟩
theorem b1K (hc:X.calm=true):a1z X (.builtin "max") (fun xs H Q=>∃i j,xs=[.int i,.int j]/\Q (.int (if j > i then j else i)) H):=by
 intro pins s σ H xs us Q I r h;obtain⟨i,j,rfl,q⟩:=h;obtain⟨u,w',rfl,⟨t,rfl⟩,⟨t',rfl⟩⟩:=vals2 r;refine max_two_ints (I.ok.hd hc) fun h' tk k=>⟨_,H,I.kept k,?_,q⟩
 by_cases hj:j > i
 · rw [if_pos hj,if_pos hj];exact⟨_,rfl⟩
 · rw [if_neg hj,if_neg hj];exact⟨_,rfl⟩
theorem b1J (hc:X.calm=true):a1z X (.builtin "min") (fun xs H Q=>∃i j,xs=[.int i,.int j]/\Q (.int (if j < i then j else i)) H):=by
 intro pins s σ H xs us Q I r h;obtain⟨i,j,rfl,q⟩:=h;obtain⟨u,w',rfl,⟨t,rfl⟩,⟨t',rfl⟩⟩:=vals2 r;refine min_two_ints (I.ok.hd hc) fun h' tk k=>⟨_,H,I.kept k,?_,q⟩
 by_cases hj:j < i
 · rw [if_pos hj,if_pos hj];exact⟨_,rfl⟩
 · rw [if_neg hj,if_neg hj];exact⟨_,rfl⟩
theorem a6T:a1z X (.type "int") (fun xs H Q=>(∃i,xs=[.int i]/\Q (.int i) H)\/∃k,xs=[.bl k]/\Q (.int (if k then 1 else 0)) H):=by
 intro pins s σ H xs us Q I r h;rcases h with⟨i,rfl,q⟩ | ⟨k,rfl,q⟩
 · obtain⟨u,rfl,t,rfl⟩:=a6g r;exact call_int_int ⟨.int i,H,I,⟨_,rfl⟩,q⟩
 · obtain⟨u,rfl,r1⟩:=a6g r;cases r1;exact call_int_bool ⟨.int (if k then 1 else 0),H,I.tok _,⟨_,rfl⟩,q⟩
end
structure ObjM (h:Heap)(x dx C:Addr)(mA:Str->Option Value):Prop where
 obj:h.get? x=some (PySem.W.instObj C dx)
 ns:h.Ns1 dx mA
 ne:dx≠x
theorem b0T {h:Heap}{dx:Addr}{mA:Str->Option Value}(n:h.Ns1 dx mA):∃od,h.get? dx=some od/\∀name,PySem.W.lookIn name od=some (mA name):=by
 obtain⟨o,es,ep,ho,hd,hk,_,hm⟩:=n;refine⟨o,ho,fun name=>?_⟩;have e:=hm name;unfold nsFind findBy at e;rw [<- Array.find?_toList] at e;unfold PySem.W.lookIn;rw [hd];dsimp only
 split
 · rename_i y q;rw [q] at e;exact congrArg some e
 · rename_i q;rw [q] at e
   have a:es.toList.any (·.refKey)=false:=by
     rw [List.any_eq_false];intro y hy;obtain⟨z,t,hkey⟩:=hk y (Array.mem_toList_iff.mp hy);simp [DictEntry.refKey,hkey]
   have a':¬es.toList.any (·.refKey)=true:=by rw [a];exact x0R
   rw [if_neg a'];exact congrArg some e
theorem ObjM.look {h:Heap}{x dx C:Addr}{mA:Str->Option Value}(I:ObjM h x dx C mA):∃od,PySem.W.InstAt h x (PySem.W.instObj C dx) C (some od)/\∀name,PySem.W.lookIn name od=some (mA name):=
 let ⟨od,ho,hl⟩:=b0T I.ns
 ⟨od,⟨I.obj,rfl,rfl,ho⟩,hl⟩
section
variable {P:x0G}{w:World}{H H':Hp}{h h':Heap}{a C dx:Addr}{fs fs':List (Str×V)}
theorem b5I (hok:HOk P w H h)(e:H a=some (.ins C dx fs)):∃mA,ObjM h a dx C mA/\(∀f,RelO (fs.lookup f) (mA f))/\PySem.Within mA (fs.map (·.1))/\fs.length<=1000/\H dx=some (.own a):=by
 obtain⟨d,z,ne,ob,mA,n,r,q⟩:=(show a1n P w H h a (.ins C dx fs) from hok a _ e);exact⟨mA,⟨ob,n,ne⟩,r,q,z,d⟩
end
structure Cls (K:x0b)(C:Addr):Prop where
 pg:PySem.W.plainGet K C Str.empty=true
 hd:PySem.W.hasDictIn K C=true
 po:PySem.W.plainOver K C=true
 sa:PySem.W.findIn K (.ref C) "__setattr__"=some (some (.builtin "object.__setattr__"))
theorem Cls.get {K:x0b}{C:Addr}(c:Cls K C)(f:Str):PySem.W.plainGet K C f=true:=c.pg
section
variable {X:Cx}{pins:List (Addr×Obj)}{σ:St}{H:Hp}{s:Shared}{A:Around}{E:Value->Shared->Prop}{Q:Value->Shared->Prop}{c:Value}{b:Bool}
inductive TyOf (K:x0b)(H:Hp):V->Value->Prop where
 | non:TyOf K H .non (.type "NoneType")
 | bl (x:Bool):TyOf K H (.bl x) (.type "bool")
 | int (i:Int):TyOf K H (.int i) (.type "int")
 | str (x:Str):TyOf K H (.str x) (.type "str")
 | flt (x:UInt64):TyOf K H (.flt x) (.type "float")
 | lst {a:Addr} {xs:List V} (e:H a=some (.lst xs)):TyOf K H (.ref a) (.type "list")
 | frz {a:Addr} {o:Obj} {xs:List V} (e:H a=some (.frz o (.lst xs))):TyOf K H (.ref a) (.type "list")
 | tup {a:Addr} {xs:List V} (e:H a=some (.tup xs)):TyOf K H (.ref a) (.type "tuple")
 | dK {a:Addr} {kvs:List (Key×V)} (e:H a=some (.dK kvs)):TyOf K H (.ref a) (.type "dict")
 | dT {a:Addr} {kvs:List (List Key×V)} (e:H a=some (.dT kvs)):TyOf K H (.ref a) (.type "dict")
 | ins {a C dx:Addr} {fs:List (Str×V)} (e:H a=some (.ins C dx fs)) (cl:Cls K C) (ha:PySem.W.findIn K (.ref C) "__class__"=some (some (.builtin "object.__class__")))
     (hn:PySem.W.specialIn K (.builtin "object.__class__") "__get__"=some (some (.builtin "getset_descriptor.__get__"))) (htk:PySem.W.takesIn K (.builtin "object.__class__")=some true)
     (hm:PySem.W.mroIn K C (.type "object")=some true):TyOf K H (.ref a) (.ref C)
theorem b1j {x:V}{u t:Value}(I:Inv X pins σ H s)(rx:RelV x u)(ty:TyOf X.K H x t)(e:x4c X.K t c=some b)(h:∀tk,Q (.bool b) { s with toks:=tk }) :
   wpAny (model X.prog X.w) A (call (.builtin "isinstance") [u,c]) Q E s:=by
 cases ty with
 | non=>cases(show u=x2Z from rx);exact x1F PySem.W.kitx_none I.kIn True.intro e (fun z=>nomatch z) h
 | bl y=>cases(show u=Value.bool y from rx);exact x1F PySem.W.kitx_bool I.kIn True.intro e (fun z=>nomatch z) h
 | int i=>obtain⟨t,q⟩:=(show ∃t,u=Value.int i t from rx);cases q;exact x1F PySem.W.kitx_int I.kIn True.intro e (fun z=>nomatch z) h
 | str y=>obtain⟨t,q⟩:=(show ∃t,u=Value.str y t from rx);cases q;exact x1F PySem.W.kitx_str I.kIn True.intro e (fun z=>nomatch z) h
 | flt y=>obtain⟨t,q⟩:=(show ∃t,u=Value.float y t from rx);cases q;exact x1F PySem.W.kitx_float I.kIn True.intro e (fun z=>nomatch z) h
 | @lst a xs ea =>
   cases(show u=x1l a from rx);obtain⟨_,_,n,_,h1⟩:=(show a1n X.prog X.w H s.heap a (.lst xs) from I.hok a _ ea);exact x1F PySem.W.kitx_list I.kIn ⟨_,h1,rfl⟩ e (fun z=>nomatch z) h
 | @frz a ob xs ea =>
   cases(show u=x1l a from rx);obtain⟨_,_,_,n,_,h1⟩:=(show a1n X.prog X.w H s.heap a (.frz ob (.lst xs)) from I.hok a _ ea);exact x1F PySem.W.kitx_list I.kIn ⟨_,h1,rfl⟩ e (fun z=>nomatch z) h
 | @tup a xs ea =>
   cases(show u=x1l a from rx);obtain⟨_,_,_,p⟩:=(show a1n X.prog X.w H s.heap a (.tup xs) from I.hok a _ ea);obtain⟨o,h1,h2,_⟩:=p;exact x1F PySem.W.kitx_tuple I.kIn ⟨o,h1,(Prod.mk.inj h2).1⟩ e (fun z=>nomatch z) h
 | @dK a kvs ea =>
   cases(show u=x1l a from rx);obtain⟨_,_,vs,_,p⟩:=(show a1n X.prog X.w H s.heap a (.dK kvs) from I.hok a _ ea);obtain⟨o,es,ep,h1,h2,_⟩:=p;exact x1F PySem.W.kitx_dict I.kIn ⟨o,h1,h2.1⟩ e (fun z=>nomatch z) h
 | @dT a kvs ea =>
   cases(show u=x1l a from rx);obtain⟨_,_,xs,_,o,es,ep,h1,h2,_⟩:=(show a1n X.prog X.w H s.heap a (.dT kvs) from I.hok a _ ea);exact x1F PySem.W.kitx_dict I.kIn ⟨o,h1,h2.1⟩ e (fun z=>nomatch z) h
 | @ins a C dx fs ea cl ha hn htk hm =>
   cases(show u=x1l a from rx);obtain⟨mA,O,_⟩:=b5I I.hok ea;obtain⟨od,J,_⟩:=O.look;exact x1F (PySem.W.kitx_own (cl.get _) cl.hd ha hn htk hm) I.kIn J e (fun z=>nomatch z) h
end
structure Room (k:Nat)(A:Around):Prop where
 hd:A.handled=none
 dp:A.depth + 3 * k + 5 < recursionLimit
 un:A.units + 16 * k + 200 < cLine
 gd:A.guards=some []
theorem Room.mono {j k:Nat}{A:Around}(r:Room k A)(h:j<=k):Room j A:=⟨r.hd,by have:=r.dp;omega,by have:=r.un;omega,r.gd⟩
theorem Room.deeper {k:Nat}{A:Around}(r:Room (k + 1) A)(env:Env):Room k (A.deeper env):=
 ⟨r.hd,by have:=r.dp;show A.depth + 1 + 3 * k + 5 < _;omega,by have:=r.un;show A.units + 3 + 16 * k + 200 < _;omega,r.gd⟩
theorem Room.in1 {k:Nat}{A:Around}(r:Room (k + 1) A):Room k A.in1:=
 ⟨r.hd,by have:=r.dp;show A.depth + 3 * k + 5 < _;omega,by have:=r.un;show A.units + 1 + 16 * k + 200 < _;omega,r.gd⟩
theorem Room.depth {k:Nat}{A:Around}(r:Room k A):A.depth < recursionLimit:=by have:=r.dp;omega
theorem Room.units {k:Nat}{A:Around}(r:Room k A):A.units + 64 < cLine:=by have:=r.un;omega
noncomputable def tNil:TA:=fun _ H Q=>Q [] H
noncomputable def a3c (ta:TE)(tr:TA):TA:=fun σ H Q=>ta σ H fun x H1=>tr σ H1 fun xs H2=>Q (x::xs) H2
section
variable {X:Cx}{e:Expr}{es:List Expr}{te:TE}{t:TA}{pos:Pos}
theorem a0E:PA X [] tNil:=fun _ _ _ _ H Q I h=>Calls.spliced_nil ⟨[],H,I,.nil,h⟩
theorem a0o (ha:PE X e te)(hr:PA X es t)(hs:x1h (e::es) X.env=(false,eval e X.env)::x1h es X.env:=by rfl):PA X (e::es) (a3c te t):=by
 intro pos pins s σ H Q I h;rw [hs];show wpAny _ _ (spliced ((false,eval e X.env)::backTo pos (x1h es X.env))) _ _ s;refine Calls.spliced_cons (thn (ha pins s σ H _ I h) fun u s1 ⟨x,H1,I1,r1,q1⟩=>?_);exact thn (hr pos pins s1 σ H1 _ I1 q1) fun us s2 ⟨xs,H2,I2,r2,q2⟩=>⟨x::xs,H2,I2,.cons r1 r2,q2⟩
noncomputable def tTup (t:TA):TE:=fun σ H Q=>t σ H fun xs H1=>xs.length<=x0B/\∀p,H1 p=none->Q (.ref p) (upd H1 p (.tup xs))
noncomputable def tLst (t:TA):TE:=fun σ H Q=>t σ H fun xs H1=>xs.length<=x0B/\∀p,H1 p=none->Q (.ref p) (upd H1 p (.lst xs))
theorem b0t {x1}(h:PA X es t):PE X (.Tuple es x1 pos) (tTup t):=by
 intro pins s σ H Q I hq;refine wpAny_Tuple_spliced (thn (h pos pins s σ H _ I hq) fun us s1 ⟨xs,H1,I1,r,z,q⟩=>⟨by rw [<- r.length];exact z,?_⟩);have hf:H1 s1.heap.objs.size=none:=I1.hok.fresh (x0m _);refine⟨.ref s1.heap.objs.size,upd H1 s1.heap.objs.size (.tup xs),I1.laid (t':=s1.toks) (fun b u e=>x0d _ e) (x0m _) ?_,rfl,q _ hf⟩;exact⟨z,us,r,⟨_,x0s _ rfl,rfl,_,rfl⟩⟩
theorem b3N (h:PA X es t):PE X (.List es pos) (tLst t):=by
 intro pins s σ H Q I hq;refine wpAny_List_spliced (thn (h pos pins s σ H _ I hq) fun us s1 ⟨xs,H1,I1,r,z,q⟩=>⟨by rw [<- r.length];exact z,?_⟩);have hf:H1 s1.heap.objs.size=none:=I1.hok.fresh (x0m _);refine⟨.ref s1.heap.objs.size,upd H1 s1.heap.objs.size (.lst xs),I1.laid (t':=s1.toks) (fun b u e=>x0d _ e) (x0m _) ?_,rfl,q _ hf⟩;exact⟨z,us,0,r,x0s _ rfl⟩
end
noncomputable abbrev Sp:=List V->Hp->VK->XK->Prop
noncomputable abbrev CXT:=List Env->Hp->Shared->XK->Value->Shared->Prop
structure Env0 (P:x0G)(w:World)(K:x0b)(mg:Str->Option Value)(base:Heap)(A:Around)(outer:List Env)(s:Shared)(H:Hp):Prop where
 frames:A.frames=some outer
 mod:Mod K mg base
 bs:∀b o,base.get? b=some o->s.heap.get? b=some o/\H b=none
 bsz:base.objs.size<=s.heap.objs.size
 funs:s.heap.FunFrames base outer
 frf:∀b∈frs outer,H b=none
 hok:HOk P w H s.heap
 bare:AllBare s.gens
 nos:NS H
noncomputable def CE (outer:List Env)(P:x0G)(w:World)(H:Hp)(s:Shared)(Q:VK)(u:Value)(s':Shared):Prop:=
 ∃v H',s'.os=s.os/\AllBare s'.gens/\Un (frs outer) [] H H' s.heap s'.heap/\HOk P w H' s'.heap/\RelV v u/\Q v H'
noncomputable def CR (CX:CXT)(outer:List Env)(P:x0G)(w:World)(H:Hp)(s:Shared)(Q:VK)(E:XK)(r:Result)(s':Shared):Prop:=
 match r with
 | .ok (.ret u)=>CE outer P w H s Q u s'
 | .ok _=>False
 | .error e=>CX outer H s E e s'
structure FnOk (P:x0G)(w:World)(K:x0b)(mg:Str->Option Value)(base:Heap)(CX:CXT)(k:Nat)(f:Addr)(fd:x4d)(ps:List Str)(sp:Sp):Prop where
 len:∀vs H Q E,sp vs H Q E->vs.length=ps.length
 run:∀(A:Around) (outer:List Env) (s:Shared) (H:Hp) (args:Args) (us:List Value) (vs:List V) (Q:VK) (E:XK),Room k A->Env0 P w K mg base A outer s H->BindsTo s fd args (ps.zip us)->Vals vs us->sp vs H Q E->
   x2x (model P w) A (.call (.ref f) args) (CR CX outer P w H s Q E) s
theorem FnOk.imp {P:x0G}{w:World}{K:x0b}{mg:Str->Option Value}{base:Heap}{CX:CXT}{k:Nat}{f:Addr}{fd:x4d}{ps:List Str}{sp sp':Sp}(F:FnOk P w K mg base CX k f fd ps sp)
   (h:∀vs H Q E,sp' vs H Q E->sp vs H Q E):FnOk P w K mg base CX k f fd ps sp':=
 ⟨fun vs H Q E q=>F.len vs H Q E (h _ _ _ _ q),fun A outer s H args us vs Q E hr he hb hv hs=>F.run A outer s H args us vs Q E hr he hb hv (h _ _ _ _ hs)⟩
section
variable {X:Cx}{pins:List (Addr×Obj)}{σ:St}{H:Hp}{s s':Shared}
theorem Inv.env0 (I:Inv X pins σ H s):Env0 X.prog X.w X.K X.mg X.base X.A X.stack s H:=
 ⟨I.ok.frames,I.ok.mod,I.bs,x1f I.ok.bsz I.sz,I.stack,I.stkFree,I.hok,I.bare,I.nos⟩
theorem Inv.after {Q:VK}{u:Value}(I:Inv X pins σ H s)(h:CE X.stack X.prog X.w H s Q u s'):EP X pins σ Q u s':=by
 obtain⟨v,H',os,bare,un,hok,r,q⟩:=h;obtain⟨hh,g,d,t,os'⟩:=s';obtain rfl:os'=s.os:=os;exact⟨v,H',I.call (h':=hh) (g':=g) (d':=d) (t':=t) (ch:=[]) un hok bare (fun b z=>absurd z (by simp)),r,q⟩
end
noncomputable def tCall (sp:Sp)(dvs:List V)(E:XK)(t:TA):TE:=fun σ H Q=>t σ H fun vs H1=>sp (vs++dvs) H1 Q E
noncomputable def a9F (K:x0b)(fd:x4d)(ps:List Str)(ds:List Value):Prop:=
 ∀(s:Shared) (us:List Value),K.In s.heap->(us++ds).length=ps.length->BindsTo s fd ⟨us,[]⟩ (ps.zip (us++ds))
theorem a9F.all {K:x0b}{fd:x4d}{ps:List Str}(h:∀us:List Value,us.length=ps.length->x4w fd ⟨us,[]⟩=pure (ps.zip us)):a9F K fd ps []:=fun s us _ hl=>by
 rw [x1t] at hl ⊢;exact .of_eq (h us hl)
noncomputable def b1V (CX:CXT)(X:Cx)(E:XK):Prop:=∀(pins:List (Addr×Obj)) (σ:St) (H:Hp) (s:Shared) (e:Value) (s':Shared),Inv X pins σ H s->CX X.stack H s E e s'->X.xe e s'
section
variable {X:Cx}{CX:CXT}{k:Nat}{f C:Addr}{fd:x4d}{ps:List Str}{sp:Sp}{dvs:List V}{ds:List Value}{E:XK}{x m:Str}{p pos apos:Pos}{e o:Expr}{es:List Expr}{ta:TE}{t:TA}
theorem run_fn {pins:List (Addr×Obj)}{σ:St}{H:Hp}{s:Shared}{Q:VK}{us:List Value}{vs:List V}(F:FnOk X.prog X.w X.K X.mg X.base CX k f fd ps sp)(hr:Room k X.A)(hb:a9F X.K fd ps ds)(hd:Vals dvs ds)(hx:b1V CX X E)
   (I:Inv X pins σ H s) (r:Vals vs us) (h:sp (vs++dvs) H Q E):wpAny (model X.prog X.w) X.A (call (.ref f) us) (EP X pins σ Q) X.xe s:=by
 have r2:Vals (vs++dvs) (us++ds):=r.append hd;have hl:(us++ds).length=ps.length:=by rw [<- r2.length];exact F.len _ _ _ _ h
 refine wpAny_call (x3y (F.run X.A X.stack s H ⟨us,[]⟩ (us++ds) (vs++dvs) Q E hr I.env0 (hb s us I.kIn hl) r2 h) fun r s' hq=>?_);cases r with
 | error e=>exact hx pins σ H s e s' I hq
 | ok fl =>
   cases fl with
   | ret u=>exact I.after hq
   | next=>exact x3h hq
   | brk=>exact x3h hq
   | cont=>exact x3h hq
theorem b5f (F:FnOk X.prog X.w X.K X.mg X.base CX k f fd ps sp)(hr:Room k X.A)(hg:Gl X x)(hm:X.mg x=some (.ref f))(hk:x4e X.K (.ref f)=true)(hb:a9F X.K fd ps ds)(hd:Vals dvs ds)(hx:b1V CX X E)
   (ha:PA X (e::es) t) (hdb:(x == ("__debug__":Str))=false:=by decide) (he:x1h (e::es) X.env=(false,eval e X.env)::x1h es X.env:=by rfl) (hpl:(backTo pos (x1h es X.env)).any (·.1)=false:=by rfl) :
   PE X (.Call (.Name x p) (e::es) [] pos) (tCall sp dvs E t):=by
 intro pins s σ H Q I h;refine x3G (b5B I hg hm ?_ hdb);refine PySem.W.callWith_K (h₀:=X.base) I.ok.mod.kin hk (thn (ha pos pins s σ H _ I h) fun us s1 ⟨vs,H1,I1,r,q⟩=>⟨I1.kIn,?_⟩) he hpl;exact run_fn F hr hb hd hx I1 r q
end
noncomputable def PK (X:Cx)(kws:List x3p)(t:TA):Prop:=
 ∀(pos:Pos) (pins:List (Addr×Obj)) (s:Shared) (σ:St) (H:Hp) (Q:List V->Hp->Prop),Inv X pins σ H s->t σ H Q->wpAny (model X.prog X.w) X.A (evalAll ((x4f pos (x2y kws X.env)).map (·.2))) (AP X pins σ Q) X.xe s
structure a0s (N P:List Str)(sc:Scope):Prop where
 kind:sc.kind=.function
 co:sc.isCoroutine=false
 gen:sc.isGenerator=false
 nd:N.Nodup
 pre:N.take P.length=P
 par:∀x∈P,sc.names.lookup x=some .local\/sc.names.lookup x=some .cell
 nofree:∀y∈sc.names,y.2≠.free
theorem a6V {kindOf:Str->Option NameKind}{x:Str}:∀{binds:List (Str×Value)} {m:Str->Option Value},(∀v,(x,v)∉binds)->bindL kindOf binds m x=m x
 | [],_,_=>rfl
 | (n, v) :: r, m, h => by
   unfold bindL;rw [a6V fun w hw=>h w (x0f _ hw)]
   split
   · have:x≠n:=by rintro rfl;exact h v x0g
     simp [this]
   · rfl
theorem a6X {kindOf:Str->Option NameKind}{x:Str}:∀{binds:List (Str×Value)} {m:Str->Option Value},(∀v,(x,v)∉binds)->bindC kindOf binds m x=m x
 | [],_,_=>rfl
 | (n, v) :: r, m, h => by
   unfold bindC;rw [a6X fun w hw=>h w (x0f _ hw)]
   split
   · rfl
   · have:x≠n:=by rintro rfl;exact h v x0g
     simp [this]
theorem a6W {kindOf:Str->Option NameKind}{x:Str}{v:Value}:∀{P:List Str} {vs:List Value} {i:Nat} {m:Str->Option Value},P.Nodup->P[i]?=some x->vs[i]?=some v->kindOf x=some .local->
   bindL kindOf (P.zip vs) m x=some v
 | [],_,_,_,_,h,_,_=>by simp at h
 | _::_,[],_,_,_,_,h,_=>by simp at h
 | p :: P, w :: vs, 0, m, nd, h1, h2, hk => by
   simp at h1 h2;subst h1;subst h2;show bindL kindOf ((p,w)::P.zip vs) m p=_;unfold bindL;rw [a6V fun v hv=>(x1x.mp nd).1 (List.of_mem_zip hv).1,if_pos hk];simp
 | p :: P, w :: vs, i + 1, m, nd, h1, h2, hk => by
   show bindL kindOf ((p,w)::P.zip vs) m x=_;unfold bindL;exact a6W (i:=i) (x1x.mp nd).2 (by simpa using h1) (by simpa using h2) hk
theorem a6Y {kindOf:Str->Option NameKind}{x:Str}{v:Value}:∀{P:List Str} {vs:List Value} {i:Nat} {m:Str->Option Value},P.Nodup->P[i]?=some x->vs[i]?=some v->kindOf x≠some .local->
   bindC kindOf (P.zip vs) m x=some v
 | [],_,_,_,_,h,_,_=>by simp at h
 | _::_,[],_,_,_,_,h,_=>by simp at h
 | p :: P, w :: vs, 0, m, nd, h1, h2, hk => by
   simp at h1 h2;subst h1;subst h2;show bindC kindOf ((p,w)::P.zip vs) m p=_;unfold bindC;rw [a6X fun v hv=>(x1x.mp nd).1 (List.of_mem_zip hv).1,if_neg hk];simp
 | p :: P, w :: vs, i + 1, m, nd, h1, h2, hk => by
   show bindC kindOf ((p,w)::P.zip vs) m x=_;unfold bindC;exact a6Y (i:=i) (x1x.mp nd).2 (by simpa using h1) (by simpa using h2) hk
noncomputable def start (N:List Str)(vs:List V):St:=vs.map some++x3a (N.length - vs.length) none
noncomputable def cxOf (CX:CXT)(P:x0G)(w:World)(K:x0b)(mg:Str->Option Value)(base:Heap)(N:List Str)(qual:Str)(scope:Scope)(f:Addr)(cd:Value)(A:Around)(outer:List Env)(s:Shared)(H:Hp)(E:XK):Cx where
 prog:=P
 w:=w
 K:=K
 mg:=mg
 base:=base
 A:=A.deeper (envOfC qual scope s.heap.objs.size f cd)
 N:=N
 s₀:=s
 H₀:=H
 env:=envOfC qual scope s.heap.objs.size f cd
 outer:=outer
 stack:=envOfC qual scope s.heap.objs.size f cd::outer
 ex:=[]
 calm:=true
 fn:=fun _=>true
 pn:=[]
 xe:=fun e s'=>wpAny (model P w) (A.deeper (envOfC qual scope s.heap.objs.size f cd)) (leaving (envOfC qual scope s.heap.objs.size f cd) e) (fun _ s''=>CX outer H s E e s'') (fun e' s''=>CX outer H s E e' s'') s'
theorem a8A {sc:Scope}{n:Nat}{x:Str}(h:sc.names.lookup x=some .cell):∃c,(cellsFrom n sc.names []).lookup x=some c:=by
 have q:=PySem.W.cellsFrom_some sc.names n [] (.inl h);exact x2D.mp q
theorem b1l {CX:CXT}{P:x0G}{w:World}{K:x0b}{mg:Str->Option Value}{base:Heap}{N ps:List Str}{qual:Str}{scope:Scope}{f:Addr}{cd:Value}{A:Around}{outer:List Env}{s s1:Shared}{H:Hp}{E:XK}{us:List Value}{vs:List V}
   (S:a0s N ps scope) (hd:A.handled=none) (e0:Env0 P w K mg base A outer s H) (hl:vs.length=ps.length) (r:Vals vs us)
   (x:InCallC s s.heap.objs.size (bindL (envOfC qual scope s.heap.objs.size f cd).kindOf (ps.zip us) fun _=>none) (cellsFrom (s.heap.objs.size + 1) scope.names []) (bindC (envOfC qual scope s.heap.objs.size f cd).kindOf (ps.zip us) fun _=>none) s1) :
   Inv (cxOf CX P w K mg base N qual scope f cd A outer s H E) [] (start N vs) H s1:=by
 have hpl:ps.length<=N.length:=by have:=congrArg List.length S.pre;rw [x1e] at this;omega
 obtain⟨h1,tk,rfl,hk⟩:=x.done;have noA:∀b:Addr,b∉(cxOf CX P w K mg base N qual scope f cd A outer s H E).ex:=fun b z=>absurd (show b∈([]:List Addr) from z) (by simp)
 refine⟨⟨e0.mod,S.kind,rfl,rfl,x0m _,fun y z c h1 h2=>?_,fun y hy=>?_,fun y c _ h=>?_,fun _=>hd,Around.frames_deeper e0.frames,.inr ⟨rfl,rfl⟩,fun b z=>absurd z (noA b),e0.bs,e0.bsz,fun b _ _=>noA b,fun b z=>absurd z (noA b),e0.funs,e0.frf,e0.nos⟩,
   rfl,e0.bare,Un.kept hk,⟨_,x.toInCall.ns,fun i y v h1 h2 h3=>?_⟩,fun y c h=>⟨_,x.cell y c h⟩,e0.hok.fresh (x0m _),fun y c h=>?_,fun p hp=>absurd (show p∈([]:List (Addr×Obj)) from hp) (by simp),e0.hok.kept hk,?_⟩
 · exact name_of_addr x.apart (x1C h1) (x1C h2)
 · have hy:scope.names.lookup y=some .cell\/scope.names.lookup y=some .free:=hy;rcases hy with hy | hy
   · exact a8A hy
   · exact absurd rfl (S.nofree _ (x1C hy))
 · exact x2r (x.above y c (x1C h))
 · have hi:i < vs.length:=by
     unfold start at h2
     by_cases hi:i < vs.length
     · exact hi
     · rw [x0I (by simpa using hi)] at h2;rw [x2N] at h2
       split at h2 <;> cases h2
   have ha:vs[i]?=some v:=by
     unfold start at h2;rw [x0Q (by simpa using hi),x0p] at h2;cases e:vs[i]? with
     | none=>rw [e] at h2;cases h2
     | some a=>rw [e] at h2;cases h2;rfl
   obtain⟨u,hu,rv⟩:=r.get ha
   have hp:ps[i]?=some y:=by
     rw [<- S.pre,List.getElem?_take_of_lt (by omega)];exact h1
   have ndP:ps.Nodup:=by rw [<- S.pre];exact S.nd.sublist (List.take_sublist _ _)
   refine⟨u,rv,?_⟩;rcases S.par y (x0u hp) with k | k
   · exact .inl ⟨k,a6W ndP hp hu k⟩
   · obtain⟨c,e⟩:=a8A (n:=s.heap.objs.size + 1) k;refine .inr ⟨.inl k,c,e,?_⟩;have q:=x.cell y c e;rw [a6Y ndP hp hu (by show scope.names.lookup y≠_;rw [k];decide)] at q;exact q
 · exact e0.hok.fresh (x2r (x.above y c (x1C h)))
 · unfold start;show _=N.length;rw [x0l,x0e,x1K];omega
theorem fn_of {CX:CXT}{P:x0G}{w:World}{K:x0b}{mg:Str->Option Value}{base:Heap}{k:Nat}{f:Addr}{name qual:Str}{params:x4U}{body:List Stmt}{scope:Scope}{dV kV doc pm cdv ct oc:Value}{an od:Option Addr}
   {osl:Array (Option Value)} {N ps:List Str} {sp:Sp} (lk:K.lookup f=some ⟨oc,od,.func (x2h name qual params body scope dV kV doc pm an cdv ct),osl⟩) (hcd:x4O K cdv qual=true) (S:a0s N ps scope)
   (len:∀vs H Q E,sp vs H Q E->vs.length=ps.length)
   (hbody:∀(A:Around) (outer:List Env) (s:Shared) (H:Hp) (vs:List V) (Q:VK) (E:XK),Room k (A.deeper (envOfC qual scope s.heap.objs.size f cdv))->sp vs H Q E->
     ∃t,PSs (cxOf CX P w K mg base N qual scope f cdv A outer s H E) body t/\t { nx:=fun _ H'=>Q .non H',rt:=Q } (start N vs) H) :
   FnOk P w K mg base CX (k + 1) f (x2h name qual params body scope dV kV doc pm an cdv ct) ps sp:=by
 refine⟨len,fun A outer s H args us vs Q E hr e0 hb r hsp=>?_⟩;have hl:=len _ _ _ _ hsp;have KX:K.In s.heap:=e0.mod.kin.keeps fun b o e=>(e0.bs b o e).1;have lim:s.heap.NoLimit:=e0.mod.nolimit.keeps fun b o e=>(e0.bs b o e).1
 have hkind:∀y∈ps.zip us,scope.names.lookup y.1=some .local\/(scope.names.lookup y.1=some .cell/\((cellsFrom (s.heap.objs.size + 1) scope.names []).lookup y.1).isSome=true):=fun⟨n,v⟩ hy=>by
   rcases S.par n (List.of_mem_zip hy).1 with q | q
   · exact .inl q
   · exact .inr ⟨q,PySem.W.cellsFrom_some _ _ _ (.inl q)⟩
 refine codeAny_call_function hr.depth (KX _ _ lk) rfl S.co S.gen rfl (PySem.W.codeRec_of KX hcd) (hb _ _ _ _ ?_);refine wpAny_newFunctionEnv_cells S.kind hkind fun env he s1 x=>?_;subst he;refine⟨lim.keeps x.toInCall.keep,codeAny_func ?_⟩;obtain⟨t,ht,hq⟩:=hbody A outer s H vs Q E (hr.deeper _) hsp;have I:Inv (cxOf CX P w K mg base N qual scope f cdv A outer s H E) [] (start N vs) H s1:=b1l S hr.hd e0 hl r x;refine x1g (ht [] s1 (start N vs) H _ I hq) (fun fl s' hs=>?_) fun e s' hs=>hs
 have fin:∀{σ':St} {H':Hp} {v:V} {u:Value},Inv (cxOf CX P w K mg base N qual scope f cdv A outer s H E) [] σ' H' s'->RelV v u->Q v H'->CE outer P w H s Q u s':=
   fun {σ' H' v u} J rv q=>⟨v,H',J.os,J.bare,J.base,J.hok,rv,q⟩
 cases fl with
 | ret u =>
   obtain⟨v,σ',H',J,rv,q⟩:=hs;exact fin J rv q
 | next =>
   obtain⟨σ',H',J,q⟩:=hs;exact fin (v:=V.non) (u:=x2Z) J rfl q
 | brk =>
   obtain⟨_,_,_,q⟩:=hs;exact x3h q
 | cont =>
   obtain⟨_,_,_,q⟩:=hs;exact x3h q
section
variable {X:Cx}{x:Str}{p pos:Pos}{e:Expr}{es:List Expr}{t:TA}{id T:String}{r:List V->Hp->VK->Prop}
noncomputable def tCB (r:List V->Hp->VK->Prop)(t:TA):TE:=fun σ H Q=>t σ H fun vs H1=>r vs H1 Q
theorem a1s (hc:a1z X (.builtin id) r)(hg:Gl X x)(hm:X.mg x=none)(hv:x1i x=some (.builtin id))(ha:PA X (e::es) t)(hn:x≠"__name__":=by decide)(hdb:(x == ("__debug__":Str))=false:=by decide)
   (he:x1h (e::es) X.env=(false,eval e X.env)::x1h es X.env:=by rfl) (hpl:(backTo pos (x1h es X.env)).any (·.1)=false:=by rfl):PE X (.Call (.Name x p) (e::es) [] pos) (tCB r t):=by
 intro pins s σ H Q I h;refine x3G (a5q I hg hm hv ?_ hn hdb);exact PyProof.Rows.callWith_builtin1 (thn (ha pos pins s σ H _ I h) fun us s1 ⟨vs,H1,I1,r1,q1⟩=>hc pins s1 σ H1 vs us Q I1 r1 q1) he hpl
theorem a2a (hc:a1z X (.type T) r)(hg:Gl X x)(hm:X.mg x=none)(hv:x1i x=some (.type T))(ha:PA X (e::es) t)(hn:x≠"__name__":=by decide)(hdb:(x == ("__debug__":Str))=false:=by decide)
   (he:x1h (e::es) X.env=(false,eval e X.env)::x1h es X.env:=by rfl) (hpl:(backTo pos (x1h es X.env)).any (·.1)=false:=by rfl):PE X (.Call (.Name x p) (e::es) [] pos) (tCB r t):=by
 intro pins s σ H Q I h;refine x3G (a5q I hg hm hv ?_ hn hdb);exact x3e (thn (ha pos pins s σ H _ I h) fun us s1 ⟨vs,H1,I1,r1,q1⟩=>hc pins s1 σ H1 vs us Q I1 r1 q1) he hpl
end
end L2
namespace HT
open PySem PyProof.Rows
section
variable {prog:x0G}{w:World}{A:Around}{E:Value->Shared->Prop}{s:Shared}
theorem cat_tup {t b:Addr}{vs ws:List Value}{Q:Value->Shared->Prop}(ht:IsTup s.heap t vs.toArray)(hb:IsTup s.heap b ws.toArray)(hv:vs≠[])
   (h1:ws=[]->Q (.ref t) s) (h2:ws≠[]->Q (.ref s.heap.objs.size) { s with heap:=s.heap.push { cls:=.type "tuple",data:=.seq (vs++ws).toArray } })
   (hsz:vs.length + ws.length<=x0B):wpAny (model prog w) A (x3j .Add (.ref t) (.ref b)) Q E s:=by
 obtain⟨⟨cls,dd,data,sl⟩,ho,hc,n,hd⟩:=id ht;obtain⟨⟨cls2,dd2,data2,sl2⟩,ho2,hc2,n2,hd2⟩:=id hb;simp only at hc hd hc2 hd2;subst hc hd hc2 hd2;have e:vs.toArray++ws.toArray=(vs++ws).toArray:=by simp
 by_cases hw:ws=[]
 · exact concat_meets ⟨_,ho,rfl⟩ ⟨_,ho2,rfl⟩ noFill_tuple_add seq_tuple_add x3Q x3H (x3z _ _)
     (tuple_addW1 t b vs.toArray ws.toArray n n2 dd dd2 sl sl2 (by simpa using hv) (by simp [hw])) ⟨ho,ho2,h1 hw⟩
 · refine concat_meets ⟨_,ho,rfl⟩ ⟨_,ho2,rfl⟩ noFill_tuple_add seq_tuple_add x3Q x3H (x3z _ _)
     (tuple_addW2 t b vs.toArray ws.toArray n n2 dd dd2 sl sl2 (by simpa using hv) (by simpa using hw) (by rw [x0q,x0q];exact hsz)) ⟨ho,ho2,?_⟩
   rw [e];exact h2 hw
noncomputable def sIx (n d:Nat):Option Int->Nat
 | none=>d
 | some v=>if v < 0 then(v + (n:Int)).toNat else min v.toNat n
theorem sIx_none (n d:Nat):sIx n d none=d:=rfl
theorem sIx_nat (n d k:Nat):sIx n d (some (k:Int))=min k n:=by
 show(if(k:Int) < 0 then((k:Int) + (n:Int)).toNat else min (k:Int).toNat n)=min k n;rw [if_neg (by omega),x3W]
theorem sIx_le (n d:Nat)(hd:d<=n)(o:Option Int):sIx n d o<=n:=by
 cases o with
 | none=>exact hd
 | some v =>
   show(if v < 0 then(v + (n:Int)).toNat else min v.toNat n)<=n
   by_cases hv:v < 0
   · rw [if_pos hv];omega
   · rw [if_neg hv];exact Nat.min_le_right _ _
theorem b1E (v:Int)(n d:Nat):(if v < 0 then max (v + (n:Int)) 0 else min v (n:Int))=((sIx n d (some v):Nat):Int):=by
 show(if v < 0 then max (v + (n:Int)) 0 else min v (n:Int))=(((if v < 0 then(v + (n:Int)).toNat else min v.toNat n):Nat):Int)
 by_cases hv:v < 0
 · simp only [if_pos hv];omega
 · simp only [if_neg hv];omega
theorem a9D (lo hi:Option Int)(n:Nat):x3r lo hi 1 (n:Int)=(((sIx n 0 lo:Nat):Int),((sIx n n hi:Nat):Int)):=by
 have h1:¬((1:Int) < 0):=by omega
 unfold x3r;simp only [h1,if_false];refine Prod.ext ?_ ?_
 · cases lo with
   | none=>rfl
   | some v=>exact b1E v n 0
 · cases hi with
   | none=>rfl
   | some v=>exact b1E v n n
theorem a8S (i j:Nat):x2z (i:Int) (j:Int) 1=j - i:=by
 unfold x2z;have h1:(1:Int) > 0:=by omega
 simp only [h1,if_true,Int.ediv_one]
 split <;> omega
theorem a5j {v:Value}{o:Option Int}{Q:Option Int->Shared->Prop}(p:IsPart v o)(h:Q o s):wpAny (model prog w) A (Builtin.Slice.slicePartIndex v) Q E s:=by
 cases p with
 | none=>exact slicePart_none h
 | int i t=>exact slicePart_int h
theorem a2q {sl:Addr}{vl vu:Value}{lo hi:Option Int}{n:Nat}{Q:Int×Int×Nat->Shared->Prop}(hs:s.heap.IsSliceOf sl vl vu .none)(pl:IsPart vl lo)(pu:IsPart vu hi)
   (h:Q (((sIx n 0 lo:Nat):Int),1,sIx n n hi - sIx n 0 lo) s):wpAny (model prog w) A (x4K (.ref sl) (pure (n:Int))) Q E s:=by
 obtain⟨os,hos,hcs,hds⟩:=id hs;unfold x4K Builtin.Slice.sliceFields;refine x0a (x0a (x3v hos hds (x:=vl) rfl (x0a (x3v hos hds (x:=vu) rfl (x0a (x3v hos hds (x:=.none) rfl (x0h ?_)))))));refine x0a (slicePart_none ?_);show wpAny _ _ (if((1:Int) == 0)=true then _ else _) _ _ s;rw [if_neg (by decide)];refine x0a (a5j pl (x0a (a5j pu (x0a (x0h ?_)))));show wpAny _ _ (match x3r lo hi 1 (n:Int) with | (lo,hi)=>pure (lo,(1:Int),x2z lo hi 1)) _ _ s;rw [a9D lo hi n];show wpAny _ _ (pure (((sIx n 0 lo:Nat):Int),(1:Int),x2z ((sIx n 0 lo:Nat):Int) ((sIx n n hi:Nat):Int) 1)) _ _ s;rw [a8S];exact x0h h
theorem b2F (xs:Array Value)(i k:Nat):((x0L k).filterMap fun(m:Nat)=>xs[((i:Int) + (m:Int) * 1).toNat]?).toArray=((xs.toList.drop i).take k).toArray:=by
 have e:(fun(m:Nat)=>xs[((i:Int) + (m:Int) * 1).toNat]?)=fun m=>xs[i + m]?:=by
   funext m
   have:((i:Int) + (m:Int) * 1).toNat=i + m:=by omega
   rw [this]
 rw [e];have:=pick_run xs i k;rw [List.filterMap_map] at this;have e2:((fun x=>xs[x]?)∘fun x=>i + x)=fun m=>xs[i + m]?:=rfl;rw [e2] at this;rw [this]
theorem getItem_tuple_cut {t sl:Addr}{items:Array Value}{vl vu:Value}{lo hi:Option Int}{Q:Value->Shared->Prop}(ht:IsTup s.heap t items)(hs:s.heap.IsSliceOf sl vl vu .none)(pl:IsPart vl lo)(pu:IsPart vu hi)
   (hw:¬(sIx items.size 0 lo=0/\sIx items.size items.size hi=items.size))
   (h:Q (.ref s.heap.objs.size) { s with heap:=s.heap.push { cls:=.type "tuple",data:=.seq ((items.toList.drop (sIx items.size 0 lo)).take (sIx items.size items.size hi - sIx items.size 0 lo)).toArray } })
   (hsz:items.size<=x0B):wpAny (model prog w) A (getItem (.ref t) (.ref sl)) Q E s:=by
 have htake:sizeOk (.seq ((items.toList.drop (sIx items.size 0 lo)).take (sIx items.size items.size hi - sIx items.size 0 lo)).toArray):=by
   show((items.toList.drop (sIx items.size 0 lo)).take (sIx items.size items.size hi - sIx items.size 0 lo)).toArray.size<=x0B;rw [x0q,x1e,x1y,x0z];omega
 have hj:sIx items.size items.size hi<=items.size:=sIx_le _ _ (x0m _) hi;obtain⟨os,hos,hcs,hds⟩:=id hs;have hTs:s.TypeIs (.ref sl) "slice":=⟨os,hos,hcs⟩;unfold getItem
 try with_reducible refine x0V ?_
 first | refine x0a (x0h ?_) | skip
 refine x0a (wpAny_sequenceKey ht.typeIs (by decide) ?_)
 refine x0a (x1p (name:=x0j "__getitem__") ht.typeIs x1T
   (x1m x1T ht.typeIs entry_tuple_getitem ?_ (args_tuple_getitem _ _)))
 show wpAny _ _ (x4L (.ref t)>>=_) _ _ s;refine x0a (tupleItemsOf_ ht ?_);refine x0a (x4i hTs ?_);rw [if_pos (by decide)];refine x0a (a2q hs pl pu ?_)
 have hno:¬((((sIx items.size 0 lo:Nat):Int) == 0 && (1:Int) == 1 && (sIx items.size items.size hi - sIx items.size 0 lo) == items.size)=true):=by
   intro q;rw [x1r,x1r] at q;have q1:((sIx items.size 0 lo:Nat):Int)=0:=eq_of_beq q.1.1;have q2:sIx items.size items.size hi - sIx items.size 0 lo=items.size:=eq_of_beq q.2;exact hw ⟨by omega,by omega⟩
 show wpAny _ _ (if(((sIx items.size 0 lo:Nat):Int) == 0 && (1:Int) == 1 && (sIx items.size items.size hi - sIx items.size 0 lo) == items.size)=true then _ else _) _ _ s;rw [if_neg hno,b2F]
 first
   | exact x0a (m:=x2E _) (x0Z (x0h ⟨_,rfl,x0h h⟩) htake)
   | exact x0a (m:=x2E _) (x0Z (x0a (x0h (x0h ⟨_,rfl,x0h h⟩))) htake)
   | exact x0a (x0a (m:=x2E _) (x0Z (x0h (x0h ⟨_,rfl,x0h h⟩)) htake))
   | exact x0a (x0a (m:=x2E _) (x0Z (x0h ⟨_,rfl,x0h h⟩) htake))
end
end HT
namespace L2
open PySem PySem.Spec PyProof.Rows
noncomputable abbrev TO:=St->Hp->(Option Int->Hp->Prop)->Prop
noncomputable def PO (X:Cx)(e:Option Expr)(t:TO):Prop:=
 ∀ (pins : List (Addr × Obj)) (s : Shared) (σ : St) (H : Hp) (Q : Option Int -> Hp -> Prop), Inv X pins σ H s -> t σ H Q ->
   wpAny (model X.prog X.w) X.A (evalPart e X.env) (fun u s'=>∃o H',Inv X pins σ H' s'/\IsPart u o/\Q o H') X.xe s
noncomputable def b4y:TO:=fun _ H Q=>Q none H
noncomputable def tPart (t:TE):TO:=fun σ H Q=>t σ H fun x H1=>∃i,x=.int i/\Q (some i) H1
section
variable {X:Cx}{e:Expr}{te:TE}{lo hi:Option Expr}{tl th:TO}{pos p2:Pos}
theorem b4Z:PO X none b4y:=by
 intro pins s σ H Q I h;rw [evalPart_none];exact x0h ⟨none,H,I,.none,h⟩
theorem b4Y (h:PE X e te):PO X (some e) (tPart te):=by
 intro pins s σ H Q I hw;rw [evalPart_some];refine thn (h pins s σ H _ I hw) fun u s1 ⟨x,H1,I1,r1,q1⟩=>?_;obtain⟨i,rfl,q⟩:=q1;obtain⟨t,rfl⟩:=r1;exact⟨some i,H1,I1,.int i t,q⟩
noncomputable def SlR (X:Cx)(r:V->Option Int->Option Int->Hp->VK->Prop):Prop:=
 ∀ (pins : List (Addr × Obj)) (s : Shared) (σ : St) (H : Hp) (x : V) (v vl vu : Value) (lo hi : Option Int) (sl : Addr) (Q : VK), Inv X pins σ H s -> RelV x v -> s.heap.IsSliceOf sl vl vu .none -> IsPart vl lo -> IsPart vu hi -> r x lo hi H Q ->
   ∃T id,typeLookup (.type T) "__getitem__"=pure (some (.builtin id))/\s.TypeIs v T/\wpAny (model X.prog X.w) X.A (getItem v (.ref sl)) (EP X pins σ Q) X.xe s
theorem SlR.or {r r':V->Option Int->Option Int->Hp->VK->Prop}(h:SlR X r)(h':SlR X r'):SlR X (fun x lo hi H Q=>r x lo hi H Q\/r' x lo hi H Q):=by
 intro pins s σ H x v vl vu lo hi sl Q I rx hs pl pu q;rcases q with q | q
 · exact h pins s σ H x v vl vu lo hi sl Q I rx hs pl pu q
 · exact h' pins s σ H x v vl vu lo hi sl Q I rx hs pl pu q
noncomputable def tSl (r:V->Option Int->Option Int->Hp->VK->Prop)(te:TE)(tl th:TO):TE:=fun σ H Q=>te σ H fun x H1=>tl σ H1 fun l H2=>th σ H2 fun u H3=>r x l u H3 Q
theorem b2H {r:V->Option Int->Option Int->Hp->VK->Prop}(hr:SlR X r)(he:PE X e te)(hl:PO X lo tl)(hu:PO X hi th):PE X (.Subscript e (.Slice lo hi none p2) pos) (tSl r te tl th):=by
 intro pins s σ H Q I h;refine Subscript_ (thn (he pins s σ H _ I h) fun v s1 ⟨x,H1,I1,r1,q1⟩=>?_);refine wpAny_Slice (thn (hl pins s1 σ H1 _ I1 q1) fun vl s2 ⟨l,H2,I2,pl,q2⟩=>thn (hu pins s2 σ H2 _ I2 q2) fun vu s3 ⟨u,H3,I3,pu,q3⟩=>?_);rw [evalPart_none];refine x0h ?_;have I4:Inv X pins σ H3 { s3 with heap:=s3.heap.push { cls:=.type "slice",data:=.fields #[vl,vu,.none] } }:=I3.kept (t':=s3.toks) fun b ob q=>x0d _ q;obtain⟨T,id,hT,ht,hg⟩:=hr pins { s3 with heap:=s3.heap.push { cls:=.type "slice",data:=.fields #[vl,vu,.none] } } σ H3 x v vl vu l u s3.heap.objs.size Q I4 r1 (Heap.IsSliceOf.new ..) pl pu q3;show wpAny (model X.prog X.w) X.A (subscriptTail e (.Slice lo hi none p2) v (.ref s3.heap.objs.size)) (EP X pins σ Q) X.xe { s3 with heap:=s3.heap.push { cls:=.type "slice",data:=.fields #[vl,vu,.none] } };exact tail_any (ops:=[.ref s3.heap.objs.size,v]) ht hT hg (by with_unfolding_all rfl)
noncomputable def cutV (xs:List V)(lo hi:Option Int):List V:=(xs.drop (HT.sIx xs.length 0 lo)).take (HT.sIx xs.length xs.length hi - HT.sIx xs.length 0 lo)
theorem a4W (xs:List V)(lo hi:Option Int):(cutV xs lo hi).length<=xs.length:=by
 unfold cutV;rw [x1e,x1y];omega
noncomputable def rSlT (K:x0b):V->Option Int->Option Int->Hp->VK->Prop:=fun x lo hi H Q=>∃a xs,x=.ref a/\SqT K H a xs/\
 ¬(HT.sIx xs.length 0 lo=0/\HT.sIx xs.length xs.length hi=xs.length)/\∀p,H p=none->Q (.ref p) (upd H p (.tup (cutV xs lo hi)))
theorem sl_tup:SlR X (rSlT X.K):=by
 intro pins s σ H x v vl vu lo hi sl Q I rx hs pl pu h;obtain⟨a,xs,rfl,hx,hw,q⟩:=h;cases rx;obtain⟨its,r,ht,hz⟩:=I.tuple hx;have hlen:its.toArray.size=xs.length:=by rw [x0q];exact r.length.symm
 refine⟨"tuple",_,PyProof.Rows.slot_tuple_getitem.lookup,ht.typeIs,?_⟩;refine HT.getItem_tuple_cut ht hs pl pu (by rw [hlen];exact hw) ?_ (by rw [hlen];exact hz);rw [hlen];refine⟨.ref s.heap.objs.size,_,I.laid (t':=s.toks) (o:=.tup (cutV xs lo hi)) (fun b ob q=>x0d _ q) (x0m _) ?_,rfl,q _ (I.hok.fresh (x0m _))⟩;exact⟨x1f (a4W xs lo hi) hz,_,(r.drop (HT.sIx xs.length 0 lo)).take (HT.sIx xs.length xs.length hi - HT.sIx xs.length 0 lo),a2Q.new _ _⟩
noncomputable def rCatT (K:x0b):R2:=fun x y H Q=>∃a b xs ys,x=.ref a/\y=.ref b/\SqT K H a xs/\SqT K H b ys/\xs≠[]/\xs.length + ys.length<=x0B/\
 (ys=[]->Q (.ref a) H)/\(ys≠[]->∀p,H p=none->Q (.ref p) (upd H p (.tup (xs++ys))))
theorem Vals.nil_iff {xs:List V}{us:List Value}(r:Vals xs us):us=[]↔xs=[]:=by
 cases r with
 | nil=>simp
 | cons _ _=>simp
theorem b5k:OpR X (x3j .Add) (rCatT X.K):=by
 intro pins s σ H x y v u Q I rx ry h;obtain⟨a,b,xs,ys,rfl,rfl,ha,hb,hx,hz,q1,q2⟩:=h;cases rx;cases ry;obtain⟨its,r1,p1,_⟩:=I.tuple ha;obtain⟨its2,r2,p2,_⟩:=I.tuple hb;refine HT.cat_tup p1 p2 (fun z=>hx (r1.nil_iff.mp z)) (fun z=>⟨.ref a,H,I,rfl,q1 (r2.nil_iff.mp z)⟩) (fun z=>?_) (by rw [<- r1.length,<- r2.length];exact hz);refine⟨.ref s.heap.objs.size,_,I.laid (t':=s.toks) (o:=.tup (xs++ys)) (fun b ob q=>x0d _ q) (x0m _) ?_,rfl,q2 (fun w=>z (r2.nil_iff.mpr w)) _ (I.hok.fresh (x0m _))⟩;exact⟨by rw [x0l];exact hz,_,r1.append r2,a2Q.new _ _⟩
end
noncomputable def ixN (n:Nat)(i:Int):Option Nat:=if 0<=i then(if i < n then some i.toNat else none) else if -(n:Int)<=i then some (i + n).toNat else none
noncomputable def atI {α:Type}(xs:List α)(i:Int):Option α:=(ixN xs.length i).bind fun j=>xs[j]?
theorem a7F {n:Nat}{i:Int}{j:Nat}(h:ixN n i=some j):seqIndex? i n=some j/\j < n/\-(n:Int)<=i/\i < n:=by
 unfold ixN at h
 by_cases h0:0<=i
 · rw [if_pos h0] at h
   by_cases h1:i < n
   · rw [if_pos h1] at h;have e:i.toNat=j:=x0H h;exact⟨by rw [seqIndex_of h0 h1,e],by omega,by omega,h1⟩
   · rw [if_neg h1] at h;cases h
 · rw [if_neg h0] at h
   by_cases h1:-(n:Int)<=i
   · rw [if_pos h1] at h;have e:(i + n).toNat=j:=x0H h;exact⟨by rw [seqIndex_neg (by omega) h1,e],by omega,h1,by omega⟩
   · rw [if_neg h1] at h;cases h
theorem a7L {α:Type}{xs:List α}{i:Int}{v:α}(h:atI xs i=some v):∃j,seqIndex? i xs.length=some j/\xs[j]?=some v/\j < xs.length/\-(xs.length:Int)<=i/\i < xs.length:=by
 unfold atI at h;cases e:ixN xs.length i with
 | none=>rw [e] at h;cases h
 | some j =>
   rw [e] at h;obtain⟨h1,h2,h3,h4⟩:=a7F e;exact⟨j,h1,h,h2,h3,h4⟩
theorem a7K {α:Type}{xs:List α}{j:Nat}{v:α}(h:xs[j]?=some v):atI xs (j:Int)=some v:=by
 have hj:j < xs.length:=(x0i.mp h).1
 have e:ixN xs.length (j:Int)=some j:=by
   unfold ixN;rw [if_pos (by omega),if_pos (by omega)];simp
 unfold atI;rw [e];exact h
noncomputable def b1U (b:Expr):Prop:=∀o i,subscripted b false o i=operate [o,i] (getItem o i)
noncomputable def IxR (X:Cx)(r:R2):Prop:=
 ∀ (value slice : Expr) (pins : List (Addr × Obj)) (s : Shared) (σ : St) (H : Hp) (x y : V) (v u : Value) (Q : VK), Inv X pins σ H s -> RelV x v -> RelV y u -> r x y H Q ->
   subscripted slice false v u=operate [v,u] (getItem v u)->wpAny (model X.prog X.w) X.A (subscriptTail value slice v u) (EP X pins σ Q) X.xe s
noncomputable def MtR (X:Cx)(id:String)(r:V->List V->Hp->VK->Prop):Prop:=
 ∀ (pins : List (Addr × Obj)) (s : Shared) (σ : St) (H : Hp) (x : V) (xs : List V) (v : Value) (us : List Value) (Q : VK), Inv X pins σ H s -> RelV x v -> Vals xs us -> r x xs H Q ->
   wpAny (model X.prog X.w) X.A (call (.builtin id) (v::us)) (EP X pins σ Q) X.xe s
section
variable {X:Cx}{a b:Expr}{ta tb:TE}{pos:Pos}
theorem IxR.or {r r':R2}(h:IxR X r)(h':IxR X r'):IxR X (fun x y H Q=>r x y H Q\/r' x y H Q):=by
 intro value slice pins s σ H x y v u Q I rx ry q hs;rcases q with q | q
 · exact h value slice pins s σ H x y v u Q I rx ry q hs
 · exact h' value slice pins s σ H x y v u Q I rx ry q hs
theorem a6t {r:R2}(hr:IxR X r)(ha:PE X a ta)(hb:PE X b tb)(hs:b1U b):PE X (.Subscript a b pos) (tOp r ta tb):=by
 intro pins s σ H Q I h;exact Subscript_ (binT ha hb I h fun v u s2 x y H2 I2 rx ry q=>hr a b pins s2 σ H2 x y v u Q I2 rx ry q (hs _ _))
noncomputable def rIxL (K:x0b):R2:=fun x y H Q=>∃p xs i v,x=.ref p/\y=.int i/\SqL K H p xs/\atI xs i=some v/\Q v H
noncomputable def rIxT (K:x0b):R2:=fun x y H Q=>∃p xs i v,x=.ref p/\y=.int i/\SqT K H p xs/\atI xs i=some v/\Q v H
noncomputable def rIxS:R2:=fun x y H Q=>∃z i c,x=.str z/\y=.int i/\z.length<=x0B/\atI z.cps.toList i=some c/\Q (.str ⟨#[c]⟩) H
theorem a2A:IxR X (rIxL X.K):=by
 intro value slice pins s σ H x y v u Q I rx ry h hs;obtain⟨p,xs,i,z,rfl,rfl,hq,he,q⟩:=h;cases rx;obtain⟨t,rfl⟩:=ry;obtain⟨its,r,pl,hz⟩:=I.list hq;obtain⟨j,h1,h2,h3,h4,h5⟩:=a7L he;obtain⟨w,ew,rw'⟩:=r.get h2;have hl:=r.length;have hn:=a4H;have fin:EP X pins σ Q w s:=⟨z,H,I,rw',q⟩
 by_cases h0:0<=i
 · have hj:i.toNat=j:=by
     rw [seqIndex_of h0 h5] at h1;exact x0H h1
   exact item_listR pl.isList h0 (by omega) (by rw [hj];simpa using ew) fin hs
 · have hj:(i + (its.toArray.size:Int)).toNat=j:=by
     rw [seqIndex_neg (by omega) h4] at h1;rw [x0q,<- hl];exact x0H h1
   exact subscriptTail_builtinR (x:=w) pl.isList.typeIs slot_list_getitem.lookup
     (wpAny_getItem_list_neg (Q:=fun r s'=>r=w/\EP X pins σ Q r s') pl.isList (by omega) (by rw [x0q] <;> omega) (by omega) (by rw [hj];simpa using ew) ⟨rfl,fin⟩) hs
theorem ix_tup:IxR X (rIxT X.K):=by
 intro value slice pins s σ H x y v u Q I rx ry h hs;obtain⟨p,xs,i,z,rfl,rfl,hq,he,q⟩:=h;cases rx;obtain⟨t,rfl⟩:=ry;obtain⟨its,r,pl,hz⟩:=I.tuple hq;obtain⟨j,h1,h2,h3,h4,h5⟩:=a7L he;obtain⟨w,ew,rw'⟩:=r.get h2;have hl:=r.length;have hn:=a4H;have fin:EP X pins σ Q w s:=⟨z,H,I,rw',q⟩
 exact subscriptTail_builtinR (x:=w) pl.typeIs slot_tuple_getitem.lookup
   (getItem_tuple (j:=j) (Q:=fun r s'=>r=w/\EP X pins σ Q r s') pl (by omega) (by omega) (by rw [x0q,<- hl];exact h1) (by simpa using ew) ⟨rfl,fin⟩) hs
theorem ix_str:IxR X rIxS:=by
 intro value slice pins s σ H x y v u Q I rx ry h hs;obtain⟨z,i,c,rfl,rfl,hz,he,q⟩:=h;obtain⟨t,rfl⟩:=rx;obtain⟨t',rfl⟩:=ry;obtain⟨j,h1,h2,h3,h4,h5⟩:=a7L he;have hl:z.cps.toList.length=z.length:=by simp [Str.length]
 rw [hl] at h1 h4 h5;have hn:=a4H
 exact tail_any (typeIs_str s z t) slot_str_getitem.lookup (getItem_str (c:=c) (by
   have e1:decide (i < -(2 ^ 63:Int))=false:=decide_eq_false (by omega);have e2:decide (i>=2 ^ 63)=false:=decide_eq_false (by omega)
   rw [e1,e2,x3I]) (by rw [h1];simpa using h2) ⟨.str ⟨#[c]⟩,H,I.tok _,⟨_,rfl⟩,q⟩) hs
noncomputable def rIx (K:x0b):R2:=fun x y H Q=>rIxL K x y H Q\/rIxT K x y H Q\/rIxS x y H Q
theorem ix_seq:IxR X (rIx X.K):=a2A.or (ix_tup.or ix_str)
theorem a9b (its:List Value)(n j:Nat)(u:Value):x0J (·.setIfInBounds j u) { cls:=.type "list",data:=.seq its.toArray n }={ cls:=.type "list",data:=.seq (its.set j u).toArray n }:=by
 simp [x0J]
theorem Inv.lst {pins:List (Addr×Obj)}{σ:St}{H:Hp}{s:Shared}{p:Addr}{xs:List V}(I:Inv X pins σ H s)(h:H p=some (.lst xs)) :
   ∃(its:List Value) (n:Nat),Vals xs its/\s.heap.get? p=some { cls:=.type "list",data:=.seq its.toArray n }/\xs.length<=x0B:=by
 obtain⟨z,its,n,r,e⟩:=I.hok p _ h;exact⟨its,n,r,e,z⟩
theorem Inv.lstUpd {pins:List (Addr×Obj)}{σ:St}{H:Hp}{s:Shared}{p:Addr}{xs ys:List V}{its its':List Value}{n n':Nat}{f:Obj->Obj}(I:Inv X pins σ H s)(h:H p=some (.lst xs))
   (ho:s.heap.get? p=some { cls:=.type "list",data:=.seq its.toArray n }) (hf:f { cls:=.type "list",data:=.seq its.toArray n }={ cls:=.type "list",data:=.seq its'.toArray n' }) (r:Vals ys its') (hz:ys.length<=x0B) (t:Nat) :
   Inv X pins σ (upd H p (.lst ys)) { s with heap:=s.heap.update p f,toks:=t }:=by
 have e:(s.heap.update p f).get? p=some { cls:=.type "list",data:=.seq its'.toArray n' }:=by
   rw [x1Z f ho (by rw [hf] <;> rfl),hf]
 refine I.write (x:=p) (e:=p) (by rw [h];trivial) (.inl rfl) (fun b u hb q=>(x1R _ _ (Ne.symm hb)).trans q) ⟨_,e⟩ ?_;exact⟨hz,its',n',r,e⟩
noncomputable def b4J:V->V->V->Hp->(Hp->Prop)->Prop:=fun o i v H Q=>∃p xs k j,o=.ref p/\i=.int k/\H p=some (.lst xs)/\ixN xs.length k=some j/\Q (upd H p (.lst (xs.set j v)))
theorem a5D:PSet X b4J:=by
 intro pins s σ H o i v ov iv u Q I ro ri rv h;obtain⟨p,xs,k,j,rfl,rfl,hp,hj,q⟩:=h;cases ro;obtain⟨t,rfl⟩:=ri;obtain⟨its,n,r,ho,hz⟩:=I.lst hp;obtain⟨h1,h2,h3,h4⟩:=a7F hj;have hl:=r.length;have hn:=a4H
 have I':Inv X pins σ (upd H p (.lst (xs.set j v))) { s with heap:=s.heap.update p (x0J (·.setIfInBounds j u)) }:=
   I.lstUpd hp ho (a9b its n j u) (r.set rv j) (by rw [x0X];exact hz) s.toks
 by_cases h0:0<=k
 · have hk:k.toNat=j:=by
     rw [seqIndex_of h0 h4] at h1;exact x0H h1
   exact PySem.W.ki_setAt ho h0 (by omega) (by rw [x0q,<- hl];exact h4) (by rw [hk];exact⟨_,I',q⟩)
 · have hk:(k + (its.toArray.size:Int)).toNat=j:=by
     rw [seqIndex_neg (by omega) h3] at h1;rw [x0q,<- hl];exact x0H h1
   exact PySem.W.ki_setBack ho (by omega) (by rw [x0q,<- hl];exact h3) (by omega) (by rw [hk];exact⟨_,I',q⟩)
theorem a6n (lo hi:Option Int)(n:Nat):(x3X lo hi none n).1=((HT.sIx n 0 lo:Nat):Int)/\(x3X lo hi none n).2.1=((HT.sIx n n hi:Nat):Int)/\(x3X lo hi none n).2.2=1:=by
 refine⟨?_,?_,rfl⟩
 · cases lo with
   | none=>simp [x3X,HT.sIx]
   | some i =>
     simp only [x3X,HT.sIx,Option.getD_none,show(1:Int) > 0 by decide,if_true]
     by_cases h:i < 0
     · simp only [h,if_true] <;> omega
     · simp only [h,if_false] <;> omega
 · cases hi with
   | none=>simp [x3X,HT.sIx]
   | some i =>
     simp only [x3X,HT.sIx,Option.getD_none,show(1:Int) > 0 by decide,if_true]
     by_cases h:i < 0
     · simp only [h,if_true] <;> omega
     · simp only [h,if_false] <;> omega
theorem a5C (its:List Value)(lo hi:Option Int):slicePick its.toArray lo hi none=((its.drop (HT.sIx its.length 0 lo)).take (HT.sIx its.length its.length hi - HT.sIx its.length 0 lo)).toArray:=by
 obtain⟨h1,h2,h3⟩:=a6n lo hi its.toArray.size;unfold slicePick;rw [h1,h2,h3];simp only [sliceRange_one,pick_run,x0q] <;> rfl
noncomputable def rSlL (K:x0b):V->Option Int->Option Int->Hp->VK->Prop:=fun x lo hi H Q=>∃a xs,x=.ref a/\SqL K H a xs/\∀p,H p=none->Q (.ref p) (upd H p (.lst (cutV xs lo hi)))
theorem b4G:SlR X (rSlL X.K):=by
 intro pins s σ H x v vl vu lo hi sl Q I rx hs pl pu h;obtain⟨a,xs,rfl,hx,q⟩:=h;cases rx;obtain⟨its,r,ht,hz⟩:=I.list hx;have hlen:=r.length;refine⟨"list",_,slot_list_getitem.lookup,ht.isList.typeIs,?_⟩;refine wpAny_getItem_list_slice ht.isList hs pl pu .none (by simp) ?_ (by rw [x0q] <;> omega)
 rw [a5C,<- hlen];refine⟨.ref s.heap.objs.size,_,I.laid (t':=s.toks) (o:=.lst (cutV xs lo hi)) (fun b ob q=>x0d _ q) (x0m _) ?_,rfl,q _ (I.hok.fresh (x0m _))⟩;exact⟨x1f (a4W xs lo hi) hz,_,0,(r.drop (HT.sIx xs.length 0 lo)).take (HT.sIx xs.length xs.length hi - HT.sIx xs.length 0 lo),x0s _ rfl⟩
noncomputable def a2Y:V->Bool
 | .non=>true
 | .bl _=>true
 | .int _=>true
 | .str _=>true
 | _=>false
noncomputable def eqV:V->V->Bool
 | .non,.non=>true
 | .bl a,.bl b=>a == b
 | .bl a,.int b=>(if a then 1 else 0) == b
 | .int a,.bl b=>a == (if b then 1 else 0)
 | .int a,.int b=>a == b
 | .str a,.str b=>a == b
 | _,_=>false
theorem b4b {A:Around}{s:Shared}{y x:V}{u v:Value}(ry:RelV y u)(rx:RelV x v)(fy:a2Y y=true)(fx:a2Y x=true):x3Y A s u v (eqV y x):=by
 cases y with
 | non =>
   cases ry;cases x with
   | non=>cases rx;exact SeqAt.EqAt.same _
   | bl b=>cases rx;exact SeqAt.EqAt.none_bool b
   | int b=>obtain⟨t,rfl⟩:=rx;exact SeqAt.EqAt.none_int b t
   | str b=>obtain⟨t,rfl⟩:=rx;exact SeqAt.EqAt.none_str b t
   | _=>exact absurd (show false=true from fx) x0R
 | bl a =>
   cases ry;cases x with
   | non=>cases rx;exact SeqAt.EqAt.bool_none a
   | bl b=>cases rx;exact SeqAt.EqAt.bool_bool a b
   | int b=>obtain⟨t,rfl⟩:=rx;exact SeqAt.EqAt.bool_int a b t
   | str b=>obtain⟨t,rfl⟩:=rx;exact SeqAt.EqAt.bool_str a b t
   | _=>exact absurd (show false=true from fx) x0R
 | int a =>
   obtain⟨t',rfl⟩:=ry;cases x with
   | non=>cases rx;exact SeqAt.EqAt.int_none a t'
   | bl b=>cases rx;exact SeqAt.EqAt.int_bool a t' b
   | int b=>obtain⟨t,rfl⟩:=rx;exact SeqAt.EqAt.int_int a t' b t
   | str b=>obtain⟨t,rfl⟩:=rx;exact SeqAt.EqAt.int_str a t' b t
   | _=>exact absurd (show false=true from fx) x0R
 | str a =>
   obtain⟨t',rfl⟩:=ry;cases x with
   | non=>cases rx;exact SeqAt.EqAt.str_none a t'
   | bl b=>cases rx;exact SeqAt.EqAt.str_bool a t' b
   | int b=>obtain⟨t,rfl⟩:=rx;exact SeqAt.EqAt.str_int a t' b t
   | str b=>obtain⟨t,rfl⟩:=rx;exact SeqAt.EqAt.str_str a t' b t
   | _=>exact absurd (show false=true from fx) x0R
 | _=>exact absurd (show false=true from fy) x0R
theorem a6u:OpR X (x1J .NotIn) (fun x y H Q=>∃i j,x=.str i/\y=.str j/\Q (.bl (!(!(x1M j i 0 j.length 1).isEmpty))) H):=by
 intro pins s σ H x y v u Q I rx ry h;obtain⟨i,j,rfl,rfl,q⟩:=h;obtain⟨t,rfl⟩:=rx;obtain⟨t',rfl⟩:=ry;exact notIn_str ⟨.bl _,H,I,rfl,q⟩
theorem a4a:a1z X (.builtin "len") (fun xs H Q=>∃p ys,xs=[.ref p]/\(SqL X.K H p ys\/SqT X.K H p ys)/\Q (.int ys.length) H):=by
 intro pins s σ H xs us Q I r h;obtain⟨p,ys,rfl,hq,q⟩:=h;obtain⟨u,rfl,rx⟩:=a6g r;cases rx;have hn:=a4H;rcases hq with hq | hq
 · obtain⟨its,r',pl,hz⟩:=I.list hq;have hlen:=r'.length;exact Calls.call_len_list pl.isList (by simp only [x0q] <;> omega) ⟨.int ys.length,H,I.tok _,⟨s.toks + 1,by rw [x0q,hlen]⟩,q⟩
 · obtain⟨its,r',pl,hz⟩:=I.tuple hq;have hlen:=r'.length;exact len_tuple pl (by simp only [x0q] <;> omega) ⟨.int ys.length,H,I.tok _,⟨s.toks + 1,by rw [x0q,hlen]⟩,q⟩
theorem a6R:a1z X (.builtin "len") (fun xs H Q=>∃z,xs=[.str z]/\z.length<=x0B/\Q (.int z.length) H):=by
 intro pins s σ H xs us Q I r h;obtain⟨z,rfl,hz,q⟩:=h;obtain⟨u,rfl,t,rfl⟩:=a6g r;have hn:=a4H;exact len_str (by omega) ⟨.int z.length,H,I.tok _,⟨_,rfl⟩,q⟩
theorem a1z.or {f:Value}{r r':List V->Hp->VK->Prop}(h:a1z X f r)(h':a1z X f r'):a1z X f (fun xs H Q=>r xs H Q\/r' xs H Q):=by
 intro pins s σ H xs us Q I rs q;rcases q with q | q
 · exact h pins s σ H xs us Q I rs q
 · exact h' pins s σ H xs us Q I rs q
theorem a6Q:a1z X (.type "list") (fun xs H Q=>∃p ys,xs=[.ref p]/\(SqL X.K H p ys\/SqT X.K H p ys)/\∀l,H l=none->Q (.ref l) (upd H l (.lst ys))):=by
 intro pins s σ H xs us Q I r h;obtain⟨p,ys,rfl,hq,q⟩:=h;obtain⟨u,rfl,rx⟩:=a6g r;cases rx
 have fin:∀(its:List Value),Vals ys its->ys.length<=x0B->∀(h':Heap) (c':Nat),(∀b o',s.heap.get? b=some o'->h'.get? b=some o')->
     h'.get? s.heap.objs.size=some { cls:=.type "list",dict:=none,data:=.seq its.toArray c',slots:=#[] }->EP X pins σ Q (.ref s.heap.objs.size) { s with heap:=h' }:=fun its r' hz h' c' kp e=>
   ⟨.ref s.heap.objs.size,_,I.laid (t':=s.toks) kp (x0m _) (show a1n X.prog X.w _ h' _ (.lst ys) from⟨hz,its,c',r',e⟩),rfl,q _ (I.hok.fresh (x0m _))⟩
 rcases hq with hq | hq
 · obtain⟨its,r',pl,hz⟩:=I.list hq;have hlen:=r'.length;obtain⟨o,ho,hc,n,hd⟩:=pl.isList;exact call_list_seq p (.inl rfl) ho hc hd (fun h' c' kp e=>fin its r' hz h' c' kp e) (by simp only [x0q] <;> omega)
 · obtain⟨its,r',pl,hz⟩:=I.tuple hq;have hlen:=r'.length;obtain⟨o,ho,hc,n,hd⟩:=pl;exact call_list_seq p (.inr rfl) ho hc hd (fun h' c' kp e=>fin its r' hz h' c' kp e) (by simp only [x0q] <;> omega)
theorem a6a:a1z X (.type "tuple") (fun xs H Q=>∃p ys,xs=[.ref p]/\((SqL X.K H p ys/\∀l,H l=none->Q (.ref l) (upd H l (.tup ys)))\/(SqT X.K H p ys/\Q (.ref p) H))):=by
 intro pins s σ H xs us Q I r h;obtain⟨p,ys,rfl,h⟩:=h;obtain⟨u,rfl,rx⟩:=a6g r;cases rx;rcases h with⟨hq,q⟩ | ⟨hq,q⟩
 · obtain⟨its,r',pl,hz⟩:=I.list hq;have hlen:=r'.length;refine call_tuple_list pl.isList (fun h' kp=>?_) (by simp only [x0q] <;> omega)
   have I1:Inv X pins σ H { s with heap:=h' }:=I.kept (t':=s.toks) kp
   have I2:Inv X pins σ (upd H h'.objs.size (.tup ys)) { s with heap:=h'.push { cls:=.type "tuple",data:=.seq its.toArray } }:=
     I1.laid (t':=s.toks) (fun b o e=>x0d _ e) (x0m _) (show a1n X.prog X.w _ _ _ (.tup ys) from⟨hz,its,r',a2Q.new _ _⟩)
   exact⟨.ref h'.objs.size,_,I2,rfl,q _ (I1.hok.fresh (x0m _))⟩
 · obtain⟨its,r',pl,hz⟩:=I.tuple hq;exact call_tuple_same pl ⟨.ref p,H,I,rfl,q⟩
noncomputable def tyV (K:x0b)(T:String)(x:V)(H:Hp):Prop:=match x with
 | .str _=>T="str"
 | .int _=>T="int"
 | .ref p=>(T="list"/\∃xs,SqL K H p xs)\/(T="tuple"/\((∃o,K.lookup p=some o/\o.cls=.type "tuple"/\o.dict=none)\/∃xs,H p=some (.tup xs)))\/
     (T="dict"/\((∃kvs,H p=some (.dK kvs))\/∃kvs,H p=some (.dT kvs)))\/(T="set"/\∃S n,H p=some (.set S n))
 | _=>False
theorem tyV_is {pins:List (Addr×Obj)}{σ:St}{H:Hp}{s:Shared}{T:String}{x:V}{v:Value}(I:Inv X pins σ H s)(r:RelV x v)(ty:tyV X.K T x H) :
   s.TypeIs v T/\∀a,v=.ref a->∃ob,s.heap.get? a=some ob/\ob.dict=none:=by
 cases x with
 | str z =>
   obtain⟨t,rfl⟩:=r;cases(show T="str" from ty);exact⟨typeIs_str s z t,fun _ e=>nomatch e⟩
 | int i =>
   obtain⟨t,rfl⟩:=r;cases(show T="int" from ty);exact⟨typeIs_int s i t,fun _ e=>nomatch e⟩
 | ref p =>
   cases r;rcases ty with⟨rfl,xs,hq⟩ | ⟨rfl,hk⟩ | ⟨rfl,hk⟩ | ⟨rfl,S,n,hk⟩
   · obtain⟨its,_,pl,_⟩:=I.list hq;refine⟨pl.isList.typeIs,fun a e=>?_⟩;cases e;obtain⟨o,n,e,c,hd,_⟩:=pl;exact⟨o,e,hd⟩
   · rcases hk with⟨o,hk,hc,hd⟩ | ⟨xs,hk⟩
     · refine⟨⟨o,I.kIn p o hk,hc⟩,fun a e=>?_⟩;cases e;exact⟨o,I.kIn _ o hk,hd⟩
     · obtain⟨_,_,_,o,e,c,_⟩:=(show a1n X.prog X.w H s.heap p (.tup xs) from I.hok p _ hk);refine⟨⟨o,e,(Prod.mk.inj c).1⟩,fun a e2=>?_⟩;cases e2;exact⟨o,e,(Prod.mk.inj c).2⟩
   · have z:∃o,s.heap.get? p=some o/\o.ExactDict:=by
       rcases hk with⟨kvs,hk⟩ | ⟨kvs,hk⟩
       · obtain⟨_,_,_,_,o,_,_,e,ex,_⟩:=I.hok p _ hk;exact⟨o,e,ex⟩
       · obtain⟨_,_,_,_,o,_,_,e,ex,_⟩:=I.hok p _ hk;exact⟨o,e,ex⟩
     obtain⟨o,e,ex⟩:=z;refine⟨⟨o,e,ex.1⟩,fun a e2=>?_⟩;cases e2;exact⟨o,e,ex.2.1⟩
   · obtain⟨o,_,_,_,e,ex,_⟩:=I.hok p _ hk;refine⟨⟨o,e,ex.1⟩,fun a e2=>?_⟩;cases e2;exact⟨o,e,ex.2.1⟩
 | _=>exact x3h ty
noncomputable def tBM (K:x0b)(T:String)(r:V->List V->Hp->VK->Prop)(to:TE)(t:TA):TE:=fun σ H Q=>to σ H fun x H1=>tyV K T x H1/\t σ H1 fun xs H2=>r x xs H2 Q
variable {o e:Expr}{es:List Expr}{to:TE}{t:TA}{name:Str}{apos cpos:Pos}{T id:String}{r:V->List V->Hp->VK->Prop}
theorem a7u (pa:PlainAttrs T)(slot:Slot T name id)(hty:typeOf (.builtin id)=pure (.type "method_descriptor"))(hm:MtR X id r)(ho:PE X o to)(ha:PA X (e::es) t)
   (hbase:x2O o name X.env (eval o X.env)=eval o X.env:=by rfl)
   (hfew:((backTo cpos (x1h (e::es) X.env)).all (fun x=>!x.1) && (x4f cpos (x2y [] X.env)).all (fun x=>x.1.isSome)
     && decide ((e::es).length + ([]:List x3p).length + (if([]:List x3p).isEmpty then 0 else 1) < 30))=true:=by rfl)
   (hline:(apos.endLine == cpos.line)=true:=by rfl) (hs:x1h (e::es) X.env=(false,eval e X.env)::x1h es X.env:=by rfl) (hplain:(backTo cpos (x1h es X.env)).any (·.1)=false:=by rfl) :
   PE X (.Call (.Attribute o name apos) (e::es) [] cpos) (tBM X.K T r to t):=by
 intro pins s σ H Q I h;refine wpAny_Call_method_late hbase hfew hline rfl (thn (ho pins s σ H _ I h) fun v s1 ⟨x,H1,I1,r1,ty,q1⟩=>?_);obtain⟨h1,h2⟩:=tyV_is I1 r1 ty;refine⟨T,id,pa,slot,hty,h1,h2,?_⟩;have hA:=ha cpos pins s1 σ H1 _ I1 q1;rw [hs] at hA ⊢;refine Calls.callWith_builtin (by show(false || (backTo cpos (x1h es X.env)).any (·.1))=false;rw [hplain] <;> rfl) (Calls.evalArgs_plain ?_)
 exact thn hA fun us s2 ⟨vs,H2,I2,r2,q2⟩=>hm pins s2 σ H2 x vs v us Q I2 r1 r2 q2
end
noncomputable def MtM (X:Cx)(id:String)(r:V->List V->Hp->VK->Prop):Prop:=
 ∀ (pins : List (Addr × Obj)) (s : Shared) (σ : St) (H : Hp) (x : V) (xs : List V) (v : Value) (us : List Value) (Q : VK), Inv X pins σ H s -> RelV x v -> Vals xs us -> r x xs H Q ->
   wpAny (model X.prog X.w) X.A (call (.builtin id) (v::us)) (EP X pins σ Q) X.xe s
theorem Vals.one {x:V}{us:List Value}(h:Vals [x] us):∃u,us=[u]/\RelV x u:=by
 cases h with | cons r h=>cases h;exact⟨_,rfl,r⟩
theorem Vals.two {x y:V}{us:List Value}(h:Vals [x,y] us):∃u v,us=[u,v]/\RelV x u/\RelV y v:=by
 cases h with | cons r h=>cases h with | cons q h=>cases h;exact⟨_,_,rfl,r,q⟩
theorem Vals.eraseIdx:∀{xs:List V} {us:List Value} (i:Nat),Vals xs us->Vals (xs.eraseIdx i) (us.eraseIdx i)
 | _,_,_,.nil=>.nil
 | _,_,0,.cons _ t=>t
 | _,_,i + 1,.cons r t=>.cons r (Vals.eraseIdx i t)
theorem a4I {α:Type}:∀(l:List α) (i:Nat),(l.eraseIdx i).length<=l.length
 | [],_=>x0m _
 | _::_,0=>x2P _
 | _::r,i + 1=>Nat.succ_le_succ (a4I r i)
section
variable {X:Cx}{pins:List (Addr×Obj)}{σ:St}{H:Hp}{s:Shared}{l b:Addr}{xs ys zs:List V}
theorem Inv.lset {its its':List Value}{n:Nat}{f:Array Value->Array Value}{t':Nat}(I:Inv X pins σ H s)(hH:H l=some (.lst xs))
   (e:s.heap.get? l=some { cls:=.type "list",data:=.seq its.toArray n }) (hf:f its.toArray=its'.toArray) (hv:Vals ys its') (hz:ys.length<=x0B) :
   Inv X pins σ (upd H l (.lst ys)) { s with heap:=s.heap.update l (x0J f),toks:=t' }:=by
 have q:=PySem.IsL.update e f;rw [hf] at q;refine I.write (x:=l) (e:=l) (by rw [hH];exact trivial) (.inl rfl) (fun b' u hb hu=>(x1R s.heap (x0J f) (Ne.symm hb)).trans hu) ⟨_,q⟩ ?_;exact⟨hz,its',_,hv,q⟩
theorem Inv.lnew {its:List Value}{t':Nat}(I:Inv X pins σ H s)(hv:Vals ys its)(hz:ys.length<=x0B) :
   Inv X pins σ (upd H s.heap.objs.size (.lst ys)) { s with heap:=s.heap.push { cls:=.type "list",data:=.seq its.toArray },toks:=t' }:=
 I.laid (fun _ _ q=>x0d _ q) (x0m _) ⟨hz,its,0,hv,x0s _ rfl⟩
theorem Inv.fresh (I:Inv X pins σ H s):H s.heap.objs.size=none:=I.hok.fresh (x0m _)
theorem Inv.lstM (I:Inv X pins σ H s)(hH:H l=some (.lst xs)):xs.length<=x0B/\∃(its:List Value) (n:Nat),Vals xs its/\xs.length=its.length/\s.heap.get? l=some { cls:=.type "list",data:=.seq its.toArray n }:=by
 obtain⟨z,its,n,r,e⟩:=I.hok l _ hH;exact⟨z,its,n,r,r.length,e⟩
theorem b2P {n:Nat}(h:n<=x0B):x3A n=false:=by
 unfold x3A;exact decide_eq_false (by omega)
end
section
variable {X:Cx}
noncomputable def a9V:V->List V->Hp->VK->Prop:=fun x vs H Q=>∃l xs y,x=.ref l/\vs=[y]/\H l=some (.lst xs)/\xs.length < x0B/\Q .non (upd H l (.lst (xs++[y])))
theorem a6y:MtM X "list.append" a9V:=by
 intro pins s σ H x vs v us Q I rx rv h;obtain⟨l,xs,y,rfl,rfl,hH,hz,q⟩:=h;cases rx;obtain⟨u,rfl,ru⟩:=rv.one;obtain⟨z,its,n,r,hl,e⟩:=I.lstM hH;refine call_meets F.slot_list_append ⟨_,e,rfl⟩ F.entry_list_append (F.args_list_append_2 _ _) (PySem.list_append l its.toArray n u (by rw [x0q];omega)) ⟨e,?_⟩;refine⟨.non,_,I.lset (its':=its++[u]) hH e (by simp) (r.append (.cons ru .nil)) ?_,rfl,q⟩;rw [x0l,x0E];omega
noncomputable def a9U:V->List V->Hp->VK->Prop:=fun x vs H Q=>∃l b xs zs,x=.ref l/\vs=[.ref b]/\H l=some (.lst xs)/\H b=some (.lst zs)/\xs.length + zs.length<=x0B/\Q .non (upd H l (.lst (xs++zs)))
theorem b0L:MtM X "list.extend" a9U:=by
 intro pins s σ H x vs v us Q I rx rv h;obtain⟨l,b,xs,zs,rfl,rfl,hH,hB,hz,q⟩:=h;cases rx;obtain⟨u,rfl,ru⟩:=rv.one;cases ru;obtain⟨z,its,n,r,hl,e⟩:=I.lstM hH;obtain⟨z2,its2,n2,r2,hl2,e2⟩:=I.lstM hB;have hsz:its.toArray.size + its2.toArray.size<=x0B:=by rw [x0q,x0q];omega
 have hlong:¬(!its.toArray.isEmpty && x3A (its.toArray.size + its2.toArray.size))=true:=by
   rw [b2P hsz,Bool.and_false];exact x0R
 refine call_meets F.slot_list_extend ⟨_,e,rfl⟩ F.entry_list_extend (F.args_list_extend_2 _ _)
   (AutoSeq1.list_extend_list_list_0 l its.toArray n b its2.toArray n2 hlong (by rw [x0q];omega) (by omega)) ⟨e,e2,?_⟩
 refine⟨.non,_,I.lset (its':=its++its2) hH e (by simp) (r.append r2) ?_,rfl,q⟩;rw [x0l];omega
noncomputable def b3F:V->List V->Hp->VK->Prop:=fun x vs H Q=>∃l xs i k y,x=.ref l/\vs=[.int i]/\H l=some (.lst xs)/\-(2 ^ 63)<=i/\i < 2 ^ 63/\seqIndex? i xs.length=some k/\xs[k]?=some y/\Q y (upd H l (.lst (xs.eraseIdx k)))
theorem b2T:MtM X "list.pop" b3F:=by
 intro pins s σ H x vs v us Q I rx rv h;obtain⟨l,xs,i,k,y,rfl,rfl,hH,h1,h2,hk,hy,q⟩:=h;cases rx;obtain⟨u,rfl,ru⟩:=rv.one;obtain⟨t,rfl⟩:=ru;obtain⟨z,its,n,r,hl,e⟩:=I.lstM hH;obtain⟨w,hw,rw'⟩:=r.get hy
 refine call_meets F.slot_list_pop ⟨_,e,rfl⟩ F.entry_list_pop (F.args_list_pop_2 _ _)
   (MeetsSeq.list_pop_at l its.toArray n i t k w (fitsIndex_both h1 h2) (by rw [x0q,<- hl];exact hk) (by rw [<- x0P];exact hw) (by rw [x0q];omega)) ⟨e,?_⟩
 refine⟨y,_,I.lset (its':=its.eraseIdx k) hH e ?_ (r.eraseIdx k) ?_,rw',q⟩
 · show its.toArray.eraseIdxIfInBounds k=(its.eraseIdx k).toArray;rw [List.eraseIdxIfInBounds_toArray]
 · have:=a4I xs k;omega
noncomputable def rCat:R2:=fun x y H Q=>∃l b xs zs,x=.ref l/\y=.ref b/\H l=some (.lst xs)/\H b=some (.lst zs)/\xs.length + zs.length<=x0B/\∀p,H p=none->Q (.ref p) (upd H p (.lst (xs++zs)))
theorem op_cat:OpR X (x3j .Add) rCat:=by
 intro pins s σ H x y v u Q I rx ry h;obtain⟨l,b,xs,zs,rfl,rfl,hH,hB,hz,q⟩:=h;cases rx;cases ry;obtain⟨z,its,n,r,hl,e⟩:=I.lstM hH;obtain⟨z2,its2,n2,r2,hl2,e2⟩:=I.lstM hB;refine PySem.P.add_list e e2 ?_ (by rw [x0q,x0q];omega);have ea:its.toArray++its2.toArray=(its++its2).toArray:=by simp
 rw [ea];exact⟨.ref _,_,I.lnew (t':=s.toks) (r.append r2) (by rw [x0l];omega),rfl,q _ I.fresh⟩
end
end L2
namespace Att
open PySem PySem.W PySem.Calls PyProof.Rows
theorem a4N {P:Params}{h:Heap}:∀(ns:List Int) (vs:List Value),WellAll P h vs (ns.map WData.int)->IntsAre vs ns:=by
 intro ns
 induction ns with
 | nil =>
   intro vs w;rw [List.map_nil] at w;cases w;exact .nil
 | cons n ns ih =>
   intro vs w;rw [x0v] at w;cases w with
   | cons a b =>
     cases a;exact .cons _ _ (ih _ b)
theorem a9Q {l:OpenLaw}{n:Nat}(hn:l.most=some n){P:Params}{h:Heap}{args:List WData}{vals:List Value}
   (hpre:l.row.toRowW.claim.pre args=true) (hwl:WellAll P h vals args) :
   ∃a vs ns,vals=[x1l a]/\args=[WData.list (ns.map WData.int)]/\h.get? a=some { cls:=.type "list",data:=.seq vs.toArray }/\IntsAre vs ns/\ns.length<=n:=by
 have hsh:WShape.hasAll [] args [.list .int]=true:=(pre_splitW hpre).1;have hc:l.pre.holds [] { args:=args }=true:=(pre_splitW hpre).2;obtain⟨d,r,rfl,h1,h2⟩:=hasAllW_cons hsh;obtain rfl:=hasAllW_nil h2;obtain⟨xs,rfl,h3⟩:=hasW_list h1;obtain⟨ns,rfl⟩:=items_int h3
 have hlen:ns.length<=n:=by
   unfold OpenLaw.pre at hc
   have h4:(WTm.not (.lt (.lit (.int (n:Int))) (.len (.arg 0)))).holds [] { args:=[.list (ns.map .int)] }=true:=by
     have h4:=(holds_andW hc).1;rw [hn] at h4;exact h4
   have h5:=condW_of h4 (w_not (w_lt w_lit (w_len_list (w_arg rfl))));rw [x0e] at h5;refine x2W fun q=>?_;have q':(n:Int) < ((ns.length:Nat):Int):=by omega
   first
     | (rw [decide_eq_true q'] at h5;exact absurd h5 (by decide))
     | (simp at h5;omega)
 cases hwl with
 | cons w1 w2 =>
   cases w2;cases w1 with
   | list ho hall=>exact⟨_,_,ns,rfl,rfl,ho,a4N ns _ hall,hlen⟩
theorem b0o (l:OpenLaw)(args:List WData):l.row.toRowW.claim.post args (.bool true) args=true:=
 postW_of (r:=l.row.toRowW) (X:=(true == true))
   (show WShape.has [] (.bool true) .bool=true by first | rfl | decide | simp [WShape.has,WShape.arms,WShape.armsAll])
   (show(WTm.eq .res (.lit (.bool true))).value [] { args:=args,res:=some (.bool true),after:=args }=some (.bool (true == true)) from w_eq_bool (w_res rfl) w_lit) rfl
theorem attach_call {l:OpenLaw}{n:Nat}{q:x0G}{loose:List Str}{XP:(Str->Option Value)->Heap->Prop}{YP:World->Heap->Prop}{d:DefRec}
   (hn:l.most=some n) (hdf:d.params.defaults=[])
   (call:∀(w:World) (s₀ s₁:Shared) (mg mb:Str->Option Value) (fa:Addr) (o:Obj) (pm cd doc:Value) (a:Addr) (vs:List Value) (ns:List Int),
     Ground q loose [] XP w s₀ mg mb s₁.heap->YP w s₁.heap->
     s₁.heap.get? fa=some o->o.data=.func (docDef d.name d.params d.body d.scope pm cd doc)->s₁.heap.CodeRec cd d.name->mg d.name=some (.ref fa)->
     s₁.heap.get? a=some { cls:=.type "list",data:=.seq vs.toArray }->IntsAre vs ns->ns.length<=n->s₁.gens=#[]->
     x2x (model l.prog w) callerA (.call (.ref fa) ⟨[.ref a],[]⟩) (fun r s'=>r=.ok (.ret (.bool true))/\OldK s₁.heap s'.heap/\s'.os=s₁.os/\AllBare s'.gens) s₁) :
   WalkO q loose XP YP l.row.toRowW d [] (fun f vs=>PySem.call f vs):=by
 intro w s₀ s₁ mg mb G Y fa o pm cd doc dV kV ho hd hcd hD hmg hg args vals as hpre hlay hrd hwl hlo;obtain rfl:dV=.none:=Dflts.none hD hdf;obtain rfl:kV=.none:=Dflts.noKw hD;obtain⟨a,vs,ns,rfl,rfl,hobj,hints,hlen⟩:=a9Q hn hpre hwl;refine enter_call (x3y (call w s₀ s₁ mg mb fa o pm cd doc a vs ns G Y ho (fd_plain hd) hcd hmg hobj hints hlen hg) fun r s' hq=>?_);obtain⟨rfl,h2,h3,h4⟩:=hq;exact⟨.inl ⟨.bool true,.bool true,[],rfl,fun _=>rfl,.bool true,b0o l _,fun _=>⟨x4V,fun _ hm=>(nomatch hm)⟩⟩,h2,h3,h4⟩
end Att
namespace L2
open PySem PySem.Spec PyProof.Rows
theorem a9I {vs:List Value}{ns:List Int}(h:IntsAre vs ns):Vals (ns.map V.int) vs:=by
 induction h with
 | nil=>exact .nil
 | cons n t _ ih=>exact .cons ⟨t,rfl⟩ ih
noncomputable abbrev KOf {K:x0b}{h:Heap}(_:K.In h):x0b:=K
noncomputable def a1p (s:Stmt):x4U:=match s with
 | .FunctionDef _ a _ _ _ _ _ _ _ _=>a
 | _=>{ posonlyargs:=[],args:=[],vararg:=none,kwonlyargs:=[],kw_defaults:=[],kwarg:=none,defaults:=[] }
noncomputable def a0P (s:Stmt):List Stmt:=match s with
 | .FunctionDef _ _ b _ _ _ _ _ _ _=>b
 | _=>[]
noncomputable def a0i (s:Stmt):Scope:=match s with
 | .FunctionDef _ _ _ _ _ _ sc _ _ _=>sc
 | _=>{ kind:=.function,names:=[],isGenerator:=false,isCoroutine:=false }
noncomputable abbrev CX0:CXT:=fun _ _ _ _ _ _=>False
noncomputable abbrev E0:XK:=fun _ _ _=>False
theorem pass0 {X:Cx}:b1V CX0 X E0:=fun _ _ _ _ _ _ _ h=>h.elim
structure Fun (K:x0b)(x qual:Str)(st:Stmt)(f:Addr)(fd:x4d):Prop where
 ex:∃(oc:Value) (od:Option Addr) (kV doc pm:Value) (an:Option Addr) (cdv ct:Value) (osl:Array (Option Value)),
   fd=x2h x qual (a1p st) (a0P st) (a0i st) .none kV doc pm an cdv ct/\K.lookup f=some ⟨oc,od,.func fd,osl⟩/\x4O K cdv qual=true
 kp:x4e K (.ref f)=true
section
variable {P:x0G}{w:World}{K:x0b}{mg:Str->Option Value}{base:Heap}
theorem Fun.ok {x qual:Str}{st:Stmt}{f:Addr}{fd:x4d}{N ps:List Str}{k:Nat}{sp:Sp}(F:Fun K x qual st f fd)(S:a0s N ps (a0i st))(len:∀vs H Q E,sp vs H Q E->vs.length=ps.length)
   (hbody:∀(cdv:Value) (A:Around) (outer:List Env) (s:Shared) (H:Hp) (vs:List V) (Q:VK) (E:XK),Room k (A.deeper (envOfC qual (a0i st) s.heap.objs.size f cdv))->sp vs H Q E->
     ∃t,PSs (cxOf CX0 P w K mg base N qual (a0i st) f cdv A outer s H E).nox (a0P st) t/\t { nx:=fun _ H'=>Q .non H',rt:=Q } (start N vs) H):FnOk P w K mg base CX0 (k + 1) f fd ps sp:=by
 obtain⟨oc,od,kV,doc,pm,an,cdv,ct,osl,rfl,lk,hcd⟩:=F.ex;refine fn_of lk hcd S len fun A outer s H vs Q E hr hsp=>?_;obtain⟨t,h,q⟩:=hbody cdv A outer s H vs Q E hr hsp;exact⟨t,h.nox,q⟩
theorem Fun.binds {x qual:Str}{st:Stmt}{f:Addr}{fd:x4d}{ps:List Str}(F:Fun K x qual st f fd)
   (h:∀(kV doc pm:Value) (an:Option Addr) (cdv ct:Value) (us:List Value),us.length=ps.length->x4w (x2h x qual (a1p st) (a0P st) (a0i st) .none kV doc pm an cdv ct) ⟨us,[]⟩=pure (ps.zip us)):a9F K fd ps []:=by
 obtain⟨oc,od,kV,doc,pm,an,cdv,ct,osl,rfl,lk,hcd⟩:=F.ex;exact .all (h kV doc pm an cdv ct)
theorem fun_mk {x qual:Str}{st:Stmt}{f:Addr}{oc:Value}{od an:Option Addr}{osl:Array (Option Value)}{kV doc pm cdv ct:Value}(l:K.lookup f=some ⟨oc,od,.func (x2h x qual (a1p st) (a0P st) (a0i st) .none kV doc pm an cdv ct),osl⟩)
   (c:x4O K cdv qual=true) (k:x4e K (.ref f)=true):Fun K x qual st f (x2h x qual (a1p st) (a0P st) (a0i st) .none kV doc pm an cdv ct):=⟨⟨oc,od,kV,doc,pm,an,cdv,ct,osl,rfl,l,c⟩,k⟩
end
section
variable {X:Cx}
theorem pv (i:Nat){x:Str}{pos:Pos}(hN:X.N[i]?=some x:=by rfl)(hv:Vis X.env.scope x:=by first | exact Or.inl rfl | exact Or.inr (Or.inl rfl) | exact Or.inr (Or.inr rfl))(hd:(x == ("__debug__":Str))=false:=by decide)
   (hcd:(x == ("__classdict__":Str))=false:=by decide):PE X (.Name x pos) (tVar i):=b3M hN hv hd hcd
end
theorem iteF {A B:Prop}(h:B):if false=true then A else B:=by
 rw [if_neg x0R];exact h
theorem iteT {A B:Prop}(h:A):if true=true then A else B:=by
 rw [if_pos rfl];exact h
theorem ite2 {c A B:Prop}[Decidable c](h1:c->A)(h2:¬c->B):if c then A else B:=by
 by_cases h:c
 · rw [if_pos h];exact h1 h
 · rw [if_neg h];exact h2 h
noncomputable def Same (H H':Hp):Prop:=∀b o,H b=some o->H' b=some o
theorem Same.refl (H:Hp):Same H H:=fun _ _ h=>h
end L2
end
section
namespace L2
open PySem PySem.Spec PyProof.Rows
variable {iter:Expr}{cl:List (Str×Addr)}{N:List Str}{cs:List (Option Nat)}{J:It}{tn:Nat->Heap->Prop}{Y:Cx}{W:Nat->Nat->St->Hp->Prop}{tt:TT}
theorem a4X {prog:x0G}{w:World}{A:Around}{R:Result->Shared->Prop}{s:Shared}{elt target:Expr}{ifs:List Expr}{scope:Scope}{pos:Pos}{it acc:Value}{env:Env}(I:Nat->Shared->Prop)
   (turn:∀n s,I n s->wpAny (model prog w) A (pyNext it) (fun r s₁=>match r with
     | none=>R (.ok .next) s₁
     | some v=>wpAny (model prog w) A (x2l target it v) (fun _ s₁'=>wpAny (model prog w) A (assign target env v) (fun _ s₂=>
         wpAny (model prog w) A (forIn ifs true fun c r=>if r=true then do let ok ← isTrue c env (eval c env);pure (x2m ok) else pure (x2m r)) (fun ok s₃=>
           if ok=true then wpAny (model prog w) A (eval elt env) (fun x s₄=>
             wpAny (model prog w) A (call (.builtin "list.append") [acc,x]) (fun _ s₅=>∃m,m < n/\I m s₅) (fun _ _=>False) s₄) (fun _ _=>False) s₃
           else ∃m,m < n/\I m s₃) (fun _ _=>False) s₂) (fun _ _=>False) s₁') (fun _ _=>False) s₁) (fun _ _=>False) s)
   (n:Nat) (h:I n s) :
   x2x (model prog w) A (.compLoop (.ListComp elt [⟨target,iter,ifs,0⟩] scope pos) 0 it acc env) R s:=by
 refine codeAny_loop rfl I (fun n s hI=>?_) n h;show wpAny _ A ((compTurn (.ListComp elt [⟨target,iter,ifs,0⟩] scope pos) 0 it acc env).onRaise (fun x=>do noteFrame x env;theTreesLotGoes x)) _ _ s;refine wpAny_noted ?_;rw [compTurn_list];refine x0a (x1V (x0a (x1g (turn n s hI) (fun r s₁ h₁=>?_) fun _ _ h'=>h'.elim)));cases r with
 | none=>exact x0h h₁
 | some v =>
   refine x0a (x1g h₁ (fun _ s₁' h₁'=>?_) fun _ _ h'=>h'.elim);refine x0a (x1g h₁' (fun _ s₂ h₂=>x0a (x1g h₂ (fun ok s₃ h₃=>?_) fun _ _ h'=>h'.elim)) fun _ _ h'=>h'.elim);cases ok with
   | false=>exact x0h ⟨rfl,h₃⟩
   | true =>
     exact x0a (x0a (x1g h₃ (fun x s₄ h₄=>x0a (x1g h₄ (fun _ s₅ h₅=>x0h (x0h ⟨rfl,h₅⟩)) fun _ _ h'=>h'.elim)) fun _ _ h'=>h'.elim))
noncomputable def a0z (X:Cx)(scope:Scope)(cl:List (Str×Addr))(N:List Str)(fp:List Addr)(C:Addr)(s:Shared)(H:Hp):Cx where
 prog:=X.prog
 w:=X.w
 K:=X.K
 mg:=X.mg
 base:=X.base
 A:=X.A
 N:=N
 s₀:=s
 H₀:=H
 env:=compEnvC scope cl C X.env
 outer:=X.stack
 stack:=X.stack
 ex:=fp
 fn:=fun _=>false
 calm:=X.calm
 pn:=X.pn
 xe:=fun _ _=>False
structure a1x (X:Cx)(scope:Scope)(cl:List (Str×Addr))(N:List Str)(cs:List (Option Nat)):Prop where
 clos:closureFor scope X.env=pure cl
 kind:scope.kind=.function
 nocell:∀y∈scope.names,y.2≠.cell
 names:∀y∈scope.names,y.2=.local->scope.names.lookup y.1=some .local
 sub:∀x c,cl.lookup x=some c->X.env.cells.lookup x=some c
 has:∀x,((relabel scope X.env).names.lookup x=some .cell\/(relabel scope X.env).names.lookup x=some .free)->∃c,cl.lookup x=some c
 len:cs.length=N.length
 cap:∀(k j:Nat) (x:Str),cs[k]?=some (some j)->N[k]?=some x->X.N[j]?=some x/\Vis X.env.scope x/\X.env.kindOf x≠some .local/\(∃c,cl.lookup x=some c)/\((relabel scope X.env).names.lookup x=some .cell\/(relabel scope X.env).names.lookup x=some .free)
noncomputable def b1R:List (Str×Addr)->List (Str×Addr)->Prop
 | [],_=>True
 | y::r,cells=>cells.lookup y.1=some y.2/\b1R r cells
theorem b1R.get:∀{cl cells:List (Str×Addr)},b1R cl cells->∀x c,cl.lookup x=some c->cells.lookup x=some c
 | [],_,_,_,_,h=>by cases h
 | (y, d) :: r, cells, ⟨h1, h2⟩, x, c, h => by
   rw [x4n] at h;cases e:x == y with
   | true =>
     rw [e] at h;have ey:x=y:=by simpa using e
     cases h;rw [ey];exact h1
   | false=>rw [e] at h;exact b1R.get h2 x c h
theorem a0R {X:Cx}{scope:Scope}(clos:closureFor scope X.env=pure cl)(kind:scope.kind=.function)(nocell:(scope.names.all fun y=>!(y.2 == .cell))=true)
   (names:(scope.names.all fun y=>!(y.2 == .local) || scope.names.lookup y.1 == some .local)=true) (sub:b1R cl X.env.cells)
   (has:((relabel scope X.env).names.all fun y=>!(y.2 == .cell || y.2 == .free) || (cl.lookup y.1).isSome)=true) (len:cs.length=N.length)
   (cap:((cs.zip N).all fun y=>match y.1 with | none=>true | some j=>X.N[j]? == some y.2 && (X.env.scope.names.lookup y.2 == some .cell || X.env.scope.names.lookup y.2 == some .free) && (cl.lookup y.2).isSome &&
     ((relabel scope X.env).names.lookup y.2 == some .cell || (relabel scope X.env).names.lookup y.2 == some .free))=true):a1x X scope cl N cs:=by
 refine⟨clos,kind,fun y hy=>?_,fun y hy e=>?_,sub.get,fun x hx=>?_,len,fun k j x hk hN=>?_⟩
 · have:=x0A.mp nocell y hy;intro z;rw [z] at this;cases this
 · have:=x0A.mp names y hy;rw [e] at this
   simpa using this
 · rcases hx with hx | hx
   · have:=x0A.mp has _ (x1C hx);exact x2D.mp (by simpa using this)
   · have:=x0A.mp has _ (x1C hx);exact x2D.mp (by simpa using this)
 · have hz:(cs.zip N)[k]?=some (some j,x):=by rw [List.getElem?_zip_eq_some];exact⟨hk,hN⟩
   have:=x0A.mp cap _ (x0u hz);simp only [x1r,x3J,beq_iff_eq] at this;obtain⟨⟨⟨h1,h2⟩,h3⟩,h4⟩:=this;refine⟨h1,?_,?_,x2D.mp h3,h4⟩
   · rcases h2 with h2 | h2
     · exact .inr (.inl h2)
     · exact .inr (.inr h2)
   · intro z;have z':X.env.scope.names.lookup x=some .local:=z;rw [z'] at h2;rcases h2 with h2 | h2 <;> cases h2
noncomputable def a9z (cs:List (Option Nat))(σ:St):St:=cs.map fun o=>o.bind fun j=>(σ[j]?).bind id
noncomputable def PIf (X:Cx)(ifs:List Expr)(t:TT):Prop:=
 ∀ (pins : List (Addr × Obj)) (s : Shared) (σ : St) (H : Hp) (Q : Bool -> Hp -> Prop), Inv X pins σ H s -> t σ H Q ->
   wpAny (model X.prog X.w) X.A (forIn ifs true fun c r=>if r=true then do let ok ← isTrue c X.env (eval c X.env);pure (x2m ok) else pure (x2m r)) (TP X pins σ Q) X.xe s
noncomputable def tTru:TT:=fun _ H Q=>Q true H
theorem b5b {X:Cx}:PIf X [] tTru:=fun pins s σ H Q I h=>wpAny_tests_nil ⟨H,I,h⟩
theorem b5a {X:Cx}{c:Expr}{t:TT}(h:PT X c t):PIf X [c] t:=fun pins s σ H Q I hq=>wpAny_tests_one (h pins s σ H Q I hq)
noncomputable def CompW (J:It)(g:TG)(tt:TT)(te:TE)(Q:VK)(D:Addr)(σc:St)(H1:Hp):Prop:=∃W:Nat->Nat->St->Hp->Prop,(∃m,W 0 m σc H1)/\
 ∀i m σ' H',W i m σ' H'->(J.stop i H'/\Q (.ref D) H')\/(J.go i H'/\∀x H2,J.yld i H' x H2->g x σ' H2 fun σ3 H3=>tt σ3 H3 fun b H4=>
    if b=true then te σ3 H4 fun v H5=>∃ys,H5 D=some (.lst ys)/\ys.length < x0B/\∃m',m' < m/\W (i + 1) m' σ3 (upd H5 D (.lst (ys++[v])))
    else ∃m',m' < m/\W (i + 1) m' σ3 H4)
noncomputable def tComp (cs:List (Option Nat))(wi:TI)(g:TG)(tt:TT)(te:TE):TE:=fun σ H Q=>wi σ H fun J H1=>∀D,H1 D=none->CompW J g tt te Q D (a9z cs σ) (upd H1 D (.lst []))
theorem a5V {X:Cx}{scope:Scope}(S:a1x X scope cl N cs){pins:List (Addr×Obj)}{σ:St}{H:Hp}{s:Shared}{fp:List Addr}{h₁:Heap}{tk:Nat}
   (I:Inv X pins σ H s) (f2:∀b∈fp,FpOk X pins H b) (ho:∀b∈fp,∃o,s.heap.get? b=some o)
   (old:∀b o,s.heap.get? b=some o->h₁.get? b=some o) (hns:h₁.Ns (s.heap.objs.size + 1) (fun x=>([]:List (Str×Value)).reverse.lookup x))
   (hD:h₁.get? s.heap.objs.size=some { cls:=.type "list",data:=.seq ([]:List Value).toArray }) :
   Inv (a0z X scope cl N fp (s.heap.objs.size + 1) s H) pins (a9z cs σ) (upd H s.heap.objs.size (.lst [])) { s with heap:=h₁,toks:=tk }:=by
 have lt:∀b o,s.heap.get? b=some o->b < s.heap.objs.size:=fun b o e=>x0o e;have neC:∀b o,s.heap.get? b=some o->b≠s.heap.objs.size + 1:=fun b o e=>x0r (x1d (lt b o e));have neD:∀b o,s.heap.get? b=some o->b≠s.heap.objs.size:=fun b o e=>x0r (lt b o e);have nstk:∀b,b≠X.env.locals->b∉X.fs->b∉frs X.stack:=fun b h1 h2 hb=>(x0k.mp (I.stkSub b hb)).elim h1 h2
 have cellO:∀x c,cl.lookup x=some c->∃v o,s.heap.get? c=some o/\s.heap.IsCell c v:=fun x c e=>by
   obtain⟨v,q⟩:=I.cell x c (S.sub x c e);obtain⟨o,h1,_⟩:=id q;exact⟨v,o,h1,q⟩
 refine⟨⟨I.ok.mod,S.kind,I.ok.glob,I.ok.blt,x2P _,fun x y c h1 h2=>I.ok.inj x y c (S.sub x c h1) (S.sub y c h2),fun x hx=>S.has x hx,fun x c hx=>(by cases hx),I.ok.hd,I.ok.frames,.inl rfl,fun b hb=>?_,I.bs,x1f I.ok.bsz I.sz,fun b o e hb=>?_,fun b hb=>?_,I.stack,I.stkFree,I.nos⟩,
   rfl,I.bare,Un.laid old (x0m _) I.fresh I.bigS,⟨_,hns,fun i x v e1 e2 e3=>?_⟩,fun x c e=>?_,?_,fun x c e=>?_,fun p hp=>?_,I.hok.laid old (x0m _) ⟨x0U _,[],0,.nil,hD⟩,?_⟩
 · obtain⟨o,e⟩:=ho b hb;exact⟨neC b o e,fun x c ec=>(f2 b hb).2.2.2.2.1 x c (S.sub x c ec)⟩
 · rcases(f2 b hb).2.2.2.1 with z | z
   · exact I.ok.noex b o e z
   · exact absurd (x0x (x0o e) (x1f I.ok.bsz z)) (x1U _)
 · exact nstk b (f2 b hb).2.1 (f2 b hb).2.2.1
 · have e2':(cs.map fun o=>o.bind fun j=>(σ[j]?).bind id)[i]?=some (some v):=e2;rw [x0p] at e2';cases ec:cs[i]? with
   | none=>rw [ec] at e2';cases e2'
   | some o =>
     rw [ec] at e2';cases o with
     | none=>cases e2'
     | some j =>
       have e2'':(σ[j]?).bind id=some v:=by simpa using e2'
       cases es:σ[j]? with
       | none=>rw [es] at e2'';cases e2''
       | some ov =>
         rw [es] at e2'';have e4:ov=some v:=by simpa using e2''
         subst e4;obtain⟨hN,hv,hnl,⟨c,hc⟩,hk⟩:=S.cap i j x ec e1;obtain⟨m,hn,hl⟩:=I.loc;obtain⟨u,r,l⟩:=hl j x v hN es hv;refine⟨u,r,?_⟩;rcases l with⟨hk',_⟩ | ⟨_,c',hc',z⟩
         · exact absurd hk' hnl
         · have ecc:c'=c:=by
             have:=S.sub x c hc;rw [hc'] at this;exact x0H this
           subst ecc;obtain⟨o,h1,h2⟩:=z;exact .inr ⟨hk,c',hc,⟨o,old _ o h1,h2⟩⟩
 · obtain⟨v,o,h1,o',h2,h3⟩:=cellO x c e;exact⟨v,o',old _ o' h2,h3⟩
 · show upd H s.heap.objs.size (.lst []) (s.heap.objs.size + 1)=none;rw [a0j (Nat.succ_ne_self _)];exact I.hok.fresh (x2P _)
 · obtain⟨v,o,h1,_⟩:=cellO x c e;rw [a0j (neD c o h1)];exact I.freeC x c (S.sub x c e)
 · obtain⟨e,n,ne,nf,d⟩:=I.pin p hp;exact⟨old _ _ e,by rw [a0j (neD _ _ e)];exact n,neC _ _ e,nstk _ ne nf,d⟩
 · show(cs.map _).length=N.length;rw [x0e];exact S.len
theorem Inv.uncomp {X:Cx}{scope:Scope}{pins:List (Addr×Obj)}{σ σ':St}{H H':Hp}{s s':Shared}{fp:List Addr}{h':Heap}
   (I:Inv X pins σ H s) (f2:∀b∈fp,FpOk X pins H b)
   (J:Inv (a0z X scope cl N fp (s.heap.objs.size + 1) s H) pins σ' H' s') (hs:∀b,b≠s.heap.objs.size + 1->h'.get? b=s'.heap.get? b) :
   Inv X pins σ H' { s' with heap:=h' }:=by
 obtain⟨hh,g,d,t,os'⟩:=s';obtain rfl:os'=s.os:=J.os;have U:Un (frs X.stack) fp H H' s.heap hh:=J.base;have old:∀b o,s.heap.get? b=some o->b≠s.heap.objs.size + 1:=fun b o e=>x0r (x1d (x0o e));have hs':∀b,b≠s.heap.objs.size + 1->h'.get? b=hh.get? b:=hs
 have trC:∀b u,H' b=some u->b≠s.heap.objs.size + 1:=fun b u e z=>by
   have q:H' (s.heap.objs.size + 1)=none:=J.free;rw [z,q] at e;cases e
 show Inv X pins σ H' { s with heap:=h',gens:=g,drawn:=d,toks:=t };refine I.call (h':=h') (g':=g) (d':=d) (t':=t) (ch:=fp) ⟨fun b o e n hb hx=>?_,fun b o e n hb hx=>?_,U.free,fun b o e hx=>?_,U.tups,U.frzs,U.tbls,U.sys⟩ (fun b u e=>?_) J.bare fun b hb=>?_
 · rw [hs' b (old b o e)];exact U.keep b o e n hb hx
 · rw [hs' b (old b o e)];exact U.slot b o e n hb hx
 · rw [hs' b (old b o e)];exact U.there b o e hx
 · refine(J.hok b u e).stay (fun c v hc q=>?_) (fun _ q=>q) fun _ _ q=>q
   have ne:c≠s.heap.objs.size + 1:=by
     rcases hc with z | z
     · rw [z];exact trC b u e
     · exact trC c _ z
   rw [hs' c ne];exact q
 · exact⟨(f2 b hb).2.2.2.1,(f2 b hb).2.1,(f2 b hb).2.2.2.2.1,(f2 b hb).2.2.2.2.2⟩
theorem a6e {P:x0G}{w:World}{K:x0b}{tg:Expr}{fp:List Addr}{it:Addr}{pins:List (Addr×Obj)}{i n:Nat}{s5 s7:Shared}{σ7:St}{H7:Hp}(T:Turn P w K tg J fp it tn)(st5:tn (i + 1) s5.heap)(I7:Inv Y (pins++a5m fp s5.heap) σ7 H7 s7)(n7:∃m',m' < n/\W (i + 1) m' σ7 H7):∃m,m < n/\∃i σ' H',Inv Y pins σ' H' s7/\tn i s7.heap/\(∀b∈fp,H' b=none)/\W i m σ' H':=by
 obtain⟨m',hm,w7⟩:=n7;have pn:∀b∈fp,∀o,s5.heap.get? b=some o->_:=fun b hb o e=>I7.pin (b,o) (x0t _ (x0t _ (a3H hb e)));refine⟨m',hm,i + 1,σ7,H7,I7.unpinned,T.keep _ _ _ st5 fun b hb o e=>(pn b hb o e).1,fun b hb=>?_,w7⟩;obtain⟨o,e,d⟩:=T.obj _ _ st5 b hb;exact(pn b hb o e).2.1
theorem a7g {pins:List (Addr×Obj)}{tg elt:Expr}{ifs:List Expr}{g:TG}{te:TE}{fp:List Addr}{it D:Addr}{N:St->Hp->Prop}{Rn:Shared->Prop}(T:Turn Y.prog Y.w Y.K tg J fp it tn)(hc:Y.calm=true)(stat:∀{H':Hp},(∀b∈fp,H' b=none)->∀b∈fp,FpOk Y pins H' b)(hg:PG Y tg g)(hf:PIf Y ifs tt)(he:PE Y elt te)(fin:∀s σ H,Inv Y pins σ H s->N σ H->Rn s)
   (turn:∀i m σ' H',W i m σ' H'->(J.stop i H'/\N σ' H')\/(J.go i H'/\∀x H2,J.yld i H' x H2->g x σ' H2 fun σ3 H3=>tt σ3 H3 fun b H4=>
    if b=true then te σ3 H4 fun v H5=>∃ys,H5 D=some (.lst ys)/\ys.length < x0B/\∃m',m' < m/\W (i + 1) m' σ3 (upd H5 D (.lst (ys++[v])))
    else ∃m',m' < m/\W (i + 1) m' σ3 H4)) (n:Nat) (s:Shared) (hI:∃i σ' H',Inv Y pins σ' H' s/\tn i s.heap/\(∀b∈fp,H' b=none)/\W i n σ' H') :
   wpAny (model Y.prog Y.w) Y.A (pyNext (.ref it)) (fun r s₁=>match r with
     | none=>Rn s₁
     | some v=>wpAny (model Y.prog Y.w) Y.A (x2l tg (.ref it) v) (fun _ s₁'=>wpAny (model Y.prog Y.w) Y.A (assign tg Y.env v) (fun _ s₂=>
         wpAny (model Y.prog Y.w) Y.A (forIn ifs true fun c r=>if r=true then do let ok ← isTrue c Y.env (eval c Y.env);pure (x2m ok) else pure (x2m r)) (fun ok s₃=>
           if ok=true then wpAny (model Y.prog Y.w) Y.A (eval elt Y.env) (fun x s₄=>
             wpAny (model Y.prog Y.w) Y.A (call (.builtin "list.append") [.ref D,x]) (fun _ s₅=>∃m,m < n/\∃i σ' H',Inv Y pins σ' H' s₅/\tn i s₅.heap/\(∀b∈fp,H' b=none)/\W i m σ' H') Y.xe s₄) Y.xe s₃
           else ∃m,m < n/\∃i σ' H',Inv Y pins σ' H' s₃/\tn i s₃.heap/\(∀b∈fp,H' b=none)/\W i m σ' H') Y.xe s₂) Y.xe s₁') Y.xe s₁) Y.xe s:=by
 obtain⟨i,σ3,H3,I3,st3,fr3,w3⟩:=hI;rcases turn i n σ3 H3 w3 with⟨stop,qn⟩ | ⟨go,step⟩
 · refine thn (T.done Y rfl rfl rfl hc i pins s σ3 H3 Y.xe I3 (stat fr3) st3 stop) fun r s4 ⟨hr,I4⟩=>?_;subst hr;exact fin s4 σ3 H3 I4 qn
 · refine thn (T.item Y rfl rfl rfl hc i pins s σ3 H3 Y.xe I3 (stat fr3) st3 go) fun r s4 ⟨u,hr,h4⟩=>?_;subst hr;refine thn h4 fun _ s5 ⟨x,H5,I5,r5,y5,st5,fr5⟩=>?_;refine thn (hg _ s5 σ3 H5 x u _ (I5.pinned (stat fr5) (T.obj _ _ st5)) r5 (step x H5 y5)) fun _ s6 ⟨σ6,H6,I6,q6⟩=>?_;refine thn (hf _ s6 σ6 H6 _ I6 q6) fun ok s7 ⟨H7,I7,q7⟩=>?_;cases ok with
   | false=>exact a6e T st5 I7 q7
   | true =>
     refine thn (he _ s7 σ6 H7 _ I7 q7) fun y s8 ⟨v8,H8,I8,r8,ys,e8,z8,n8⟩=>?_;have ma:=a6y (X:=Y) _ s8 σ6 H8 (.ref D) [v8] (.ref D) [y] (fun v H9=>∃m',m' < n/\W (i + 1) m' σ6 H9) I8 rfl (.cons r8 .nil) ⟨_,ys,v8,rfl,rfl,e8,z8,n8⟩;exact thn ma fun _ s9 ⟨v9,H9,I9,_,q9⟩=>a6e T st5 I9 q9
theorem b0v {X:Cx}{scope:Scope}{elt tg:Expr}{ifs:List Expr}{pos:Pos}{wi:TI}{g:TG}{te:TE}(S:a1x X scope cl N cs)(hc:X.calm=true)(hi:PI X tg iter wi)
   (hb:∀(fp:List Addr) (C:Addr) (s:Shared) (H:Hp),PG (a0z X scope cl N fp C s H) tg g/\PIf (a0z X scope cl N fp C s H) ifs tt/\PE (a0z X scope cl N fp C s H) elt te)
   (hs:∀x,x1s iter X.env x=pure x:=by intro _;rfl) :
   PE X (.ListComp elt [⟨tg,iter,ifs,0⟩] scope pos) (tComp cs wi g tt te):=by
 intro pins s σ H Q I h;rw [eval_ListComp];refine x3B (use:=none) rfl hs S.clos S.kind S.names (thn (hi pins s σ H _ I h) fun v s1 h1=>thn h1 fun itv s2 h2=>?_);obtain⟨it,fp,tn,J,H2,rfl,I2,T,st2,f2,q⟩:=h2
 have ho:∀b∈fp,∃o,s2.heap.get? b=some o:=fun b hb=>by
   obtain⟨o,e,_⟩:=T.obj 0 _ st2 b hb;exact⟨o,e⟩
 refine x0Z (x3q S.nocell (by intro y hy;simp at hy) (fun h₁ hns₁ hsb₁=>?_) S.kind);dsimp only at hns₁ hsb₁ ⊢;have hC:(s2.heap.push { cls:=.type "list",dict:=none,data:=.seq ([]:List Value).toArray }).objs.size=s2.heap.objs.size + 1:=by rw [x1X]
 generalize hH2:s2.heap.push { cls:=.type "list",dict:=none,data:=.seq ([]:List Value).toArray }=hp2 at hns₁ hsb₁ hC ⊢;have old:∀b o,s2.heap.get? b=some o->h₁.get? b=some o:=fun b o e=>hsb₁.extBut b o (by rw [hC];exact x0r (x1d (x0o e))) (x0d _ (hH2▸x0d _ e));have hD:h₁.get? s2.heap.objs.size=some { cls:=.type "list",data:=.seq ([]:List Value).toArray }:=hsb₁.extBut _ _ (by rw [hC];exact x0r (x2e _)) (x0d _ (hH2▸x0s _ rfl));rw [hC] at hns₁ ⊢;obtain⟨W,⟨m0,w0⟩,turn⟩:=q s2.heap.objs.size I2.fresh;have Ic:=a5V S (tk:=s2.toks + ([]:List (Str×Value)).length) I2 f2 ho old hns₁ hD;have nstk:∀b,b≠X.env.locals->b∉X.fs->b∉frs X.stack:=fun b h1 h2 hb=>(x0k.mp (I2.stkSub b hb)).elim h1 h2
 have stat:∀{H':Hp},(∀b∈fp,H' b=none)->∀b∈fp,FpOk (a0z X scope cl N fp (s2.heap.objs.size + 1) s2 H2) pins H' b:=fun hn b hb=>by
   obtain⟨o,e⟩:=ho b hb;exact⟨hn b hb,x0r (x1d (x0o e)),nstk b (f2 b hb).2.1 (f2 b hb).2.2.1,.inl hb,fun x c ec=>(f2 b hb).2.2.2.2.1 x c (S.sub x c ec),(f2 b hb).2.2.2.2.2⟩
 obtain⟨hg,hf,he⟩:=hb fp (s2.heap.objs.size + 1) s2 H2;have st1:tn 0 h₁:=T.keep _ _ _ st2 fun b hb o e=>old b o e
 have fr1:∀b∈fp,upd H2 s2.heap.objs.size (.lst []) b=none:=fun b hb=>by
   obtain⟨o,e⟩:=ho b hb;rw [a0j (x0r (x0o e))];exact(f2 b hb).1
 have loop:∀s₃:Shared,s₃={ s2 with heap:=h₁,toks:=s2.toks + ([]:List (Str×Value)).length }->
     x2x (model X.prog X.w) X.A (.compLoop (.ListComp elt [⟨tg,iter,ifs,0⟩] scope pos) 0 (.ref it) (.ref s2.heap.objs.size) (compEnvC scope cl (s2.heap.objs.size + 1) X.env))
       (compPost (model X.prog X.w) X.A X.xe none (EP X pins σ Q) (.ref s2.heap.objs.size) (s2.heap.objs.size + 1)) s₃:=by
   rintro s₃ rfl;refine a4X _ (a7g (Y:=a0z X scope cl N fp (s2.heap.objs.size + 1) s2 H2) T hc stat hg hf he (fun s4 σ3 H3 I4 qn=>?_) turn) m0 ⟨0,_,_,Ic,st1,fr1,w0⟩;obtain⟨m4,hn4,_⟩:=I4.loc;exact⟨m4,hn4,fun h' hs'=>⟨.ref s2.heap.objs.size,H3,Inv.uncomp I2 f2 I4 fun b hb=>hs'.2 b hb,rfl,qn⟩⟩
 exact x3R (loop _ rfl) (T.self _ 0 _ _ _ st1 (loop _ rfl))
end L2
end
section
namespace L2
open PySem PySem.Spec PyProof.Rows
section
variable {X:Cx}
theorem Vals.getE {xs:List V}{us:List Value}(r:Vals xs us){j:Nat}(h:j < us.length):∃x,xs[j]?=some x/\RelV x us[j]:=by
 have hl:=r.length;have h':j < xs.length:=by omega
 obtain⟨u,e,q⟩:=r.get (i:=j) (x:=xs[j]) (by simp [h']);refine⟨xs[j],by simp [h'],?_⟩;have e':us[j]?=some us[j]:=by simp [h]
 rw [e'] at e;cases e;exact q
theorem a8v {x:V}(h:a2Y x=true):eqV x x=true:=by
 cases x <;> simp_all [a2Y,eqV]
theorem a7J:a1z X (.builtin "isinstance") (fun vs H Q=>∃x n t b,vs=[x,.ty n]/\TyOf X.K H x t/\x4c X.K t (.type n)=some b/\Q (.bl b) H):=by
 intro pins s σ H vs us Q I rv h;obtain⟨x,n,t,b,rfl,ty,e,q⟩:=h;obtain⟨u,v,rfl,r1,r2⟩:=rv.two;cases r2;exact b1j I r1 ty e fun tk=>⟨.bl b,H,I.tok tk,rfl,q⟩
theorem a6U:∀{bs:List Bool} {us:List Value} {j:Nat} {u:Value},Vals (bs.map V.bl) us->us[j]?=some u->∃b,bs[j]?=some b/\u=Value.bool b:=by
 intro bs us j u r e
 have hj:j < us.length:=by
   obtain⟨h,_⟩:=x0i.mp e;exact h
 obtain⟨x,e1,q1⟩:=r.getE hj;rw [x0p] at e1;cases eb:bs[j]? with
 | none=>rw [eb] at e1;cases e1
 | some b =>
   rw [eb] at e1;cases e1;have e2:us[j]?=some us[j]:=by simp [hj]
   rw [e2] at e;cases e;exact⟨b,rfl,q1⟩
theorem a8O (bs:List Bool):((x0L bs.length).all fun i=>(bs[i]?).getD true)=bs.all id:=by
 rw [x2F,x0A,x0A];constructor
 · intro h b hb;obtain⟨i,hi,rfl⟩:=x2n hb;have:=h i (x0N.mpr hi)
   simpa [x0c hi] using this
 · intro h i hi;have hi':=x0N.mp hi;simp only [x0c hi',x3t];exact h _ (x2q hi')
theorem a8N (bs:List Bool):((x0L bs.length).any fun i=>(bs[i]?).getD false)=bs.any id:=by
 rw [x2F,x2f,x2f];constructor
 · rintro⟨i,hi,e⟩;have hi':=x0N.mp hi;simp only [x0c hi',x3t] at e;exact⟨_,x2q hi',e⟩
 · rintro⟨b,hb,e⟩;obtain⟨i,hi,rfl⟩:=x2n hb;exact⟨i,x0N.mpr hi,by simp only [x0c hi,x3t];exact e⟩
theorem a5r {s:Shared}{h':Heap}{o:Obj}(hk:∀b x,b∉[s.heap.objs.size]->(s.heap.push o).get? b=some x->h'.get? b=some x):∀b x,s.heap.get? b=some x->h'.get? b=some x:=
 fun b x e=>hk b x (fun hm=>by rw [x0n.mp hm] at e;exact x1U _ (x0o e)) (x0d _ e)
noncomputable def rAll (K:x0b):List V->Hp->VK->Prop:=fun vs H Q=>∃(p:Addr) (bs:List Bool),vs=[.ref p]/\SqL K H p (bs.map V.bl)/\Q (.bl (bs.all id)) H
noncomputable def rAny (K:x0b):List V->Hp->VK->Prop:=fun vs H Q=>∃(p:Addr) (bs:List Bool),vs=[.ref p]/\SqL K H p (bs.map V.bl)/\Q (.bl (bs.any id)) H
theorem b3u (hc:X.calm=true):a1z X (.builtin "all") (rAll X.K):=by
 intro pins s σ H vs us Q I rv h;obtain⟨p,bs,rfl,hq,q⟩:=h;obtain⟨u,rfl,r1⟩:=rv.one;cases r1;obtain⟨its,r,pl,hz⟩:=I.list hq;have hl:=pl.isList;have hlt:p < s.heap.objs.size:=by obtain⟨_,e,_⟩:=hl;exact x0o e
 have len:its.toArray.size=bs.length:=by simpa using r.length.symm
 refine call_all_walk (x3i hl ?_)
 refine⟨s.heap.objs.size,[s.heap.objs.size,p],[s.heap.objs.size],its.toArray.size,_,_,fun i=>(bs[i]?).getD true,rfl,Walks.list (A:=X.A.in1) (I.ok.hd hc) _ p (x0r hlt) its.toArray,
   ⟨⟨_,x0s _ rfl,rfl,rfl⟩,hl.push _⟩,fun i v s' Q' E' hP hQ=>?_,fun h' tk hk=>?_⟩
 · obtain⟨b,e,rfl⟩:=a6U r (j:=i) (u:=v) (by simpa using hP);simp only [e,x3t] at hQ;exact x1z hQ
 · rw [len,a8O];exact⟨.bl _,H,I.kept (a5r hk),rfl,q⟩
theorem b3t (hc:X.calm=true):a1z X (.builtin "any") (rAny X.K):=by
 intro pins s σ H vs us Q I rv h;obtain⟨p,bs,rfl,hq,q⟩:=h;obtain⟨u,rfl,r1⟩:=rv.one;cases r1;obtain⟨its,r,pl,hz⟩:=I.list hq;have hl:=pl.isList;have hlt:p < s.heap.objs.size:=by obtain⟨_,e,_⟩:=hl;exact x0o e
 have len:its.toArray.size=bs.length:=by simpa using r.length.symm
 refine call_any_walk (x3i hl ?_)
 refine⟨s.heap.objs.size,[s.heap.objs.size,p],[s.heap.objs.size],its.toArray.size,_,_,fun i=>(bs[i]?).getD false,rfl,Walks.list (A:=X.A.in1) (I.ok.hd hc) _ p (x0r hlt) its.toArray,
   ⟨⟨_,x0s _ rfl,rfl,rfl⟩,hl.push _⟩,fun i v s' Q' E' hP hQ=>?_,fun h' tk hk=>?_⟩
 · obtain⟨b,e,rfl⟩:=a6U r (j:=i) (u:=v) (by simpa using hP);simp only [e,x3t] at hQ;exact x1z hQ
 · rw [len,a8N];exact⟨.bl _,H,I.kept (a5r hk),rfl,q⟩
theorem Inv.turnedNew {pins:List (Addr×Obj)}{σ:St}{H:Hp}{s:Shared}{h':Heap}{t':Nat}{ch:List Addr}{xs:List V}(I:Inv X pins σ H s)(k:∀b o,b∉ch->s.heap.get? b=some o->h'.get? b=some o)
   (hf:∀b∈ch,FpOk X pins H b) (new:a1n X.prog X.w (upd H s.heap.objs.size (.tup xs)) h' s.heap.objs.size (.tup xs)):Inv X pins σ (upd H s.heap.objs.size (.tup xs)) { s with heap:=h',toks:=t' }:=by
 have nch:∀b u,H b=some u->b∉ch:=fun b u e z=>by rw [(hf b z).1] at e;cases e
 have nD:∀b o,s.heap.get? b=some o->b≠s.heap.objs.size:=fun b o e=>x0r (x0o e)
 refine I.step (g':=s.gens) (d':=s.drawn) (ch:=ch) (fun b hb=>⟨(hf b hb).2.2.2.1,(hf b hb).2.1,(hf b hb).2.2.2.2.1,(hf b hb).2.2.2.2.2⟩) (fun b o _ _ hc e _=>k b o hc e) (fun b o _ _ hc e _=>⟨o.slots,k b o hc e⟩) (fun b o _ e n=>by rw [a0j (nD b o e)];exact n)
   (fun b o hc e=>⟨o,k b o hc e⟩) (fun b ys e=>by rw [a0j (a0J e I.fresh)];exact e) (fun b o u e=>by rw [a0j (a0J e I.fresh)];exact e) (fun b ps e=>⟨#[],by rw [a0j (a0J e I.fresh),e];simp⟩) (fun z=>by unfold NS;rw [a0j (x0r I.bigS)];exact z) (fun m hm=>?_) (fun b u e=>?_) I.bare
 · obtain⟨o,es,ep,ho,r⟩:=hm;exact⟨o,es,ep,k _ o (fun z=>(hf _ z).2.1 rfl) ho,r⟩
 · by_cases hb:b=s.heap.objs.size
   · subst hb;rw [a0l] at e;cases e;exact new
   · rw [a0j hb] at e;refine(I.hok b u e).stay (fun c v hc q=>k c v ?_ q) (fun c q=>by rw [a0j (a0J q I.fresh)];exact q) fun c ys q=>by rw [a0j (a0J q I.fresh)];exact q
     rcases hc with z | z
     · rw [z];exact nch b u e
     · exact nch c _ z
end
end L2
end
section
namespace L2
open PySem PySem.Spec PyProof.Rows
theorem a8B:x1i "len"=some (.builtin "len"):=by decide +kernel
theorem bt_abs:x1i "abs"=some (.builtin "abs"):=by decide +kernel
theorem bt_min:x1i "min"=some (.builtin "min"):=by decide +kernel
theorem bt_max:x1i "max"=some (.builtin "max"):=by decide +kernel
theorem bt_all:x1i "all"=some (.builtin "all"):=by decide +kernel
theorem bt_any:x1i "any"=some (.builtin "any"):=by decide +kernel
theorem a6c:x1i "isinstance"=some (.builtin "isinstance"):=by decide +kernel
theorem a5b:x1i "sorted"=some (.builtin "sorted"):=by decide +kernel
theorem b4k:x1i "int"=some (.type "int"):=by decide +kernel
theorem bt_str:x1i "str"=some (.type "str"):=by decide +kernel
theorem b5V:x1i "list"=some (.type "list"):=by decide +kernel
theorem a3t:x1i "tuple"=some (.type "tuple"):=by decide +kernel
theorem b1N:x1i "set"=some (.type "set"):=by decide +kernel
theorem a9L {tA:TT}{ta tb:TE}{σ:St}{H:Hp}{R:VK}(p:V->Prop)(h:(∀v,p v->R v H)->tIf tA ta tb σ H R)(hp:∀v,p v->R v H):tIf tA ta tb σ H R:=h hp
theorem at_map {ns:List Int}{k:Int}(h0:0<=k)(h:k < (ns.length:Int)):∃v,atI (ns.map V.int) k=some (.int v):=by
 have hk:k.toNat < ns.length:=by omega
 have q:atI (ns.map V.int) ((k.toNat:Nat):Int)=some (.int ns[k.toNat]):=a7K (by rw [x0p,x0c hk] <;> rfl)
 rw [show((k.toNat:Nat):Int)=k by omega] at q;exact⟨_,q⟩
theorem kit_of {K:x0b}{T S:String}{b:Bool}(h:(if(x1q T == x1q S)=true then some true else if PySem.W.kitMeta S=true then(fastBuiltinMro T).map (·.contains (.type S)) else none)=some b):x4c K (.type T) (.type S)=some b:=h
structure Kn (P:x0G)(w:World)(K:x0b)(mg:Str->Option Value)(base:Heap)(x:Str)(k:Nat)(ps:List Str)(sp:Sp):Prop where
 ex:∃(f:Addr) (fd:x4d),FnOk P w K mg base CX0 k f fd ps sp/\a9F K fd ps []/\x4e K (.ref f)=true/\mg x=some (.ref f)/\∃oc od osl,K.lookup f=some ⟨oc,od,.func fd,osl⟩
structure Fn0 (K:x0b)(mg:Str->Option Value)(x:Str)(st:Stmt):Prop where
 ex:∃(f:Addr) (fd:x4d),Fun K x x st f fd/\mg x=some (.ref f)
theorem a0Q {K:x0b}{h:Heap}{mg:Str->Option Value}{x:Str}{st:Stmt}(X:K.In h)(G:h.Ns x2k mg){f:Addr}{oc:Value}{od an:Option Addr}{osl:Array (Option Value)}{kV doc pm cdv ct:Value}
   (a:PySem.W.nsIn K x2k x=some (some (.ref f))) (l:K.lookup f=some ⟨oc,od,.func (x2h x x (a1p st) (a0P st) (a0i st) .none kV doc pm an cdv ct),osl⟩)
   (c:x4O K cdv x=true) (k:x4e K (.ref f)=true):Fn0 K mg x st:=⟨f,_,fun_mk l c k,PySem.W.mg_of X G a⟩
section
variable {P:x0G}{w:World}{K:x0b}{mg:Str->Option Value}{base:Heap}
theorem Fn0.ok {x:Str}{st:Stmt}{N ps:List Str}{k:Nat}{sp:Sp}(F:Fn0 K mg x st)(S:a0s N ps (a0i st))(len:∀vs H Q E,sp vs H Q E->vs.length=ps.length)
   (bd:∀(kV doc pm:Value) (an:Option Addr) (cdv ct:Value) (us:List Value),us.length=ps.length->x4w (x2h x x (a1p st) (a0P st) (a0i st) .none kV doc pm an cdv ct) ⟨us,[]⟩=pure (ps.zip us))
   (hbody:∀(f:Addr) (cdv:Value) (A:Around) (outer:List Env) (s:Shared) (H:Hp) (vs:List V) (Q:VK) (E:XK),Room k (A.deeper (envOfC x (a0i st) s.heap.objs.size f cdv))->sp vs H Q E->
     ∃t,PSs (cxOf CX0 P w K mg base N x (a0i st) f cdv A outer s H E).nox (a0P st) t/\t { nx:=fun _ H'=>Q .non H',rt:=Q } (start N vs) H):Kn P w K mg base x (k + 1) ps sp:=by
 obtain⟨f,fd,F1,m⟩:=F.ex
 have lk:∃oc od osl,K.lookup f=some ⟨oc,od,.func fd,osl⟩:=by
   obtain⟨oc,od,kV,doc,pm,an,cdv,ct,osl,_,lk,hcd⟩:=F1.ex;exact⟨oc,od,osl,lk⟩
 exact⟨f,fd,F1.ok S len fun cdv A outer s H vs Q E hr h=>hbody f cdv A outer s H vs Q E hr h,F1.binds bd,F1.kp,m,lk⟩
theorem Kn.imp {x:Str}{k:Nat}{ps:List Str}{sp sp':Sp}(G:Kn P w K mg base x k ps sp)(h:∀vs H Q E,sp' vs H Q E->sp vs H Q E):Kn P w K mg base x k ps sp':=by
 obtain⟨f,fd,a,b,c,d⟩:=G.ex;exact⟨f,fd,a.imp h,b,c,d⟩
end
section
variable {X:Cx}{x:Str}{p pos:Pos}{e:Expr}{es:List Expr}{t:TA}{ps:List Str}{sp:Sp}{j k:Nat}
theorem pe_fn (G:Kn X.prog X.w X.K X.mg X.base x k ps sp)(hr:Room j X.A)(hk:k<=j)(hg:Gl X x)(ha:PA X (e::es) t)(hdb:(x == ("__debug__":Str))=false:=by decide)
   (he:x1h (e::es) X.env=(false,eval e X.env)::x1h es X.env:=by rfl) (hpl:(backTo pos (x1h es X.env)).any (·.1)=false:=by rfl) :
   PE X (.Call (.Name x p) (e::es) [] pos) (tCall sp [] E0 t):=by
 intro pins s σ H Q I h;obtain⟨f,fd,F,hb,hkp,hm,_⟩:=G.ex;exact b5f F (hr.mono hk) hg hm hkp hb .nil pass0 ha hdb he hpl pins s σ H Q I h
end
end L2
end
section
namespace L2
open PySem PySem.Spec PyProof.Rows
section
variable {X:Cx}
theorem a8V:OpR X (x3j .Mult) (fun x y H Q=>∃i n,x=.str i/\y=.int n/\i.length<=100/\0<=n/\n<=1000/\Q (.str (x4Z i n)) H):=by
 intro pins s σ H x y v u Q I rx ry h;obtain⟨i,n,rfl,rfl,h1,h2,h3,q⟩:=h;obtain⟨t,rfl⟩:=rx;obtain⟨t',rfl⟩:=ry;exact SB.mul (mulOk_of 100 1000 h1 h3 (by omega) (by decide) (by decide)) fun t' tk=>⟨.str _,H,I.tok _,⟨_,rfl⟩,q⟩
theorem b4C:∀{ys:List Str} {us:List Value},Vals (ys.map V.str) us->StrsAre us ys:=by
 intro ys
 induction ys with
 | nil => intro us r; cases us with
   | nil=>exact .nil
   | cons a b=>cases r
 | cons y ys ih =>
   intro us r;cases us with
   | nil=>cases r
   | cons u us =>
     have r':Vals (V.str y::ys.map V.str) (u::us):=r;cases r' with
     | cons h t =>
       obtain⟨tk,rfl⟩:=h;exact .cons y tk (ih t)
theorem b5q:MtR X "str.join" (fun x vs H Q=>∃(sep:Str) (l:Addr) (ys:List Str),x=.str sep/\vs=[.ref l]/\SqL X.K H l (ys.map V.str)/\(ys.map (·.length)).sum + ys.length * sep.length<=16777216/\Q (.str (Txt.join sep ys)) H):=by
 intro pins s σ H x vs v us Q I rx rv h;obtain⟨sep,l,ys,rfl,rfl,hq,hz,q⟩:=h;obtain⟨t,rfl⟩:=rx;obtain⟨u,rfl,ru⟩:=rv.one;obtain rfl:u=x1l l:=ru;obtain⟨its,r,pl,_⟩:=I.list hq;exact join_list pl.isList (by simpa using b4C r) hz fun t' k=>⟨.str _,H,I.tok _,⟨_,rfl⟩,q⟩
theorem a3K (x y:Str):(x++y).cps.toList=x.cps.toList++y.cps.toList:=by
 show(x.cps++y.cps).toList=_;simp
theorem b1p (l:List (Array Nat)):∀acc:Array Nat,(l.foldl (·++·) acc).toList=acc.toList++(l.map (·.toList)).flatten:=by
 induction l with
 | nil=>intro acc;simp
 | cons a r ih=>intro acc;rw [List.foldl_cons,ih];simp
theorem b5T (x:Str)(n:Int):(x4Z x n).cps.toList=(x3a n.toNat x.cps.toList).flatten:=by
 unfold x4Z
 split
 · rename_i h;rw [show n.toNat=0 by omega]
   rfl
 · split
   · rename_i h0 h;rw [x3J] at h;rcases h with h | h
     · have:n=1:=by simpa using h
       subst this;simp
     · have hz:x.cps.toList=[]:=by
         have:x.length=0:=by simpa using h
         have h2:x.cps.size=0:=this;exact x1n (by simpa using h2)
       rw [hz];simp
   · show((x3a n.toNat x.cps).foldl (·++·) #[]).toList=_;rw [b1p];simp
theorem b1x:∀ys:List Str,(Txt.join (x0j "") ys).cps.toList=(ys.map (·.cps.toList)).flatten:=by
 have h:∀ys:List Str,(Str.join (x0j "") ys).cps.toList=(ys.map (·.cps.toList)).flatten:=by
   intro ys
   induction ys with
   | nil=>rfl
   | cons a r ih =>
     cases r with
     | nil=>simp [Str.join]
     | cons b r =>
       show((a++x0j "")++Str.join (x0j "") (b::r)).cps.toList=_;rw [a3K,a3K,ih];have z:(x0j "").cps.toList=[]:=by decide
       rw [z];simp
 intro ys;show(Builtin.Str.glued (x0j "") ys).cps.toList=_;rw [StrLaws.glued_eq_join];exact h ys
theorem a5A (x:Str):x.length=x.cps.toList.length:=by
 show x.cps.size=_;simp
end
section
variable {X:Cx}{pos:Pos}
noncomputable def b4x (i j k:Nat)(ta:TA):TS:=fun D σ H=>ta σ H fun vs H1=>∃u v w,vs=[u,v,w]/\D.nx (((σ.set i (some u)).set j (some v)).set k (some w)) H1
theorem b4W {i j k:Nat}{x y z:Str}{a b c:Expr}{ta:TA}{px py pz pt:Pos}{kt k2 pt2}(hc:X.calm=true)(hN:X.N.Nodup)(hi:X.N[i]?=some x)(hj:X.N[j]?=some y)(hk:X.N[k]?=some z)(hij:i≠j)(hik:i≠k)(hjk:j≠k)
   (hx:X.env.scope.names.lookup x=some .local) (hy:X.env.scope.names.lookup y=some .local) (hz:X.env.scope.names.lookup z=some .local) (ha:PA X [a,b,c] ta)
   (hw:x3F [.Tuple [.Name x px,.Name y py,.Name z pz] kt pt] (.Tuple [a,b,c] k2 pt2) X.env=pure (some [x,y,z]))
   (hs:x3E [.Tuple [.Name x px,.Name y py,.Name z pz] kt pt] (.Tuple [a,b,c] k2 pt2) pos.line X.env=pure false:=by rfl) :
   PS X (.Assign [.Tuple [.Name x px,.Name y py,.Name z pz] kt pt] (.Tuple [a,b,c] k2 pt2) pos) (b4x i j k ta):=by
 intro pins s σ H D I h;rw [exec_Assign_arm];refine x0a (x1V ?_);rw [hs];refine x0a (x0h ?_);rw [if_neg (by decide)];refine x0a (Tuple_ (thn (ha _ pins s σ H _ I h) fun us s1 ⟨vs,H1,I1,r1,q1⟩=>?_));obtain⟨v,w,w2,e1,q1⟩:=q1;subst e1
 obtain⟨u1,u2,u3,rfl,rv,rw',rw2⟩:∃u1 u2 u3,us=[u1,u2,u3]/\RelV v u1/\RelV w u2/\RelV w2 u3:=by
   cases r1 with
   | cons p q =>
     cases q with
     | cons p' q' =>
       cases q' with
       | cons p2 q2 =>
         cases q2;exact⟨_,_,_,rfl,p,p',p2⟩
 refine x0Z ?_ (by show 3<=x0B;decide);have I2:Inv X pins σ H1 { s1 with heap:=s1.heap.push { cls:=.type "tuple",data:=.seq [u1,u2,u3].toArray } }:=I1.kept (t':=s1.toks) fun b o e=>x0d _ e;rw [hw];refine x0a (x0h ?_);show wpAny (model X.prog X.w) X.A (do rule "assign.swapped-stores";let items ← unpackItems (.ref s1.heap.objs.size) 3 none;x3D [fun v=>x4v X.env z v,fun v=>x4v X.env y v,fun v=>x4v X.env x v] items.reverse;pure Flow.next) _ _ _;refine x0a (x3U (x0a (unpackItems_tuple (items:=#[u1,u2,u3]) (I.ok.hd hc) (IsTup.new s1.heap _) fun h' hx'=>?_)));have I3:=I2.kept (h':=h') (t':=s1.toks) fun b o e=>hx' b o (x0r (x0o e)) e;show wpAny _ _ (x3D [fun v=>x4v X.env z v,fun v=>x4v X.env y v,fun v=>x4v X.env x v] [u3,u2,u1]>>=fun _=>pure Flow.next) _ _ _;refine x0a (x2s (x4b (a2e I3 hN hk (.inl hz) rw2 (fun s2 I4=>?_) (.inr hz))));refine x2s (x4b (a2e I4 hN hj (.inl hy) rw' (fun s3 I5=>?_) (.inr hy)));refine x2s (x4b (a2e I5 hN hi (.inl hx) rv (fun s4 I6=>assignInOrder_nil (x0h ?_)) (.inr hx)));rw [List.set_comm _ _ (Ne.symm hjk),List.set_comm _ _ (Ne.symm hik),List.set_comm _ _ (Ne.symm hij)] at I6;exact⟨_,H1,I6,q1⟩
end
theorem Same.lay {H H':Hp}{p:Addr}{o:HO}(s:Same H H')(h:H' p=none):Same H (upd H' p o):=fun b u e=>by
 rw [a0j (a0J (s b u e) h)];exact s b u e
theorem a7E {n:Nat}{d:Int}(h0:0<=d)(h1:d < n):ixN n d=some d.toNat:=by
 unfold ixN;rw [if_pos h0,if_pos h1]
theorem b1P {α:Type}{xs:List α}{d:Int}(h0:0<=d)(h1:d < xs.length):∃x,xs[d.toNat]?=some x/\atI xs d=some x:=by
 have hk:d.toNat < xs.length:=by omega
 refine⟨xs[d.toNat],x0c hk,?_⟩;unfold atI;rw [a7E h0 h1];exact x0c hk
end L2
end
section
namespace L2
open PySem PySem.Spec PyProof.Rows
section
variable {X:Cx}
theorem b0A:OpR X (x1J .LtE) (fun x y H Q=>∃i j,x=.str i/\y=.str j/\Q (.bl (!decide (j.cps.toList < i.cps.toList))) H):=by
 intro pins s σ H x y v u Q I rx ry h;obtain⟨i,j,rfl,rfl,q⟩:=h;obtain⟨t,rfl⟩:=rx;obtain⟨t',rfl⟩:=ry;exact PySem.P.le_str ⟨.bl _,H,I,rfl,q⟩
noncomputable def rSlS:V->Option Int->Option Int->Hp->VK->Prop:=fun x lo hi H Q=>∃z,x=.str z/\z.length<=x0B/\Q (.str (Txt.slice z lo hi)) H
theorem sl_str:SlR X rSlS:=by
 intro pins s σ H x v vl vu lo hi sl Q I rx hs pl pu h;obtain⟨z,rfl,hz,q⟩:=h;obtain⟨t,rfl⟩:=rx;refine⟨"str",_,F.slot_str_getitem.lookup,typeIs_str _ _ _,?_⟩;cases pl with
 | none =>
   cases pu with
   | none=>exact x2Q (l:=none) (u:=none) (st:=none) hs rfl (x4D ⟨x1f (Txt.slice_le z _ _) hz,fun t' k=>⟨.str _,H,I.tok _,⟨_,rfl⟩,q⟩⟩)
   | int j tj=>exact x2Q (l:=none) (u:=some (j,tj)) (st:=none) hs rfl (x4D ⟨x1f (Txt.slice_le z _ _) hz,fun t' k=>⟨.str _,H,I.tok _,⟨_,rfl⟩,q⟩⟩)
 | int i ti =>
   cases pu with
   | none=>exact x2Q (l:=some (i,ti)) (u:=none) (st:=none) hs rfl (x4D ⟨x1f (Txt.slice_le z _ _) hz,fun t' k=>⟨.str _,H,I.tok _,⟨_,rfl⟩,q⟩⟩)
   | int j tj=>exact x2Q (l:=some (i,ti)) (u:=some (j,tj)) (st:=none) hs rfl (x4D ⟨x1f (Txt.slice_le z _ _) hz,fun t' k=>⟨.str _,H,I.tok _,⟨_,rfl⟩,q⟩⟩)
noncomputable def rCatA (K:x0b):R2:=fun x y H Q=>∃a b xs ys,x=.ref a/\y=.ref b/\SqT K H a xs/\SqT K H b ys/\xs.length + ys.length<=x0B/\
 (xs=[]->Q (.ref b) H)/\(xs≠[]->ys=[]->Q (.ref a) H)/\(xs≠[]->ys≠[]->∀p,H p=none->Q (.ref p) (upd H p (.tup (xs++ys))))
theorem b5l:OpR X (x3j .Add) (rCatA X.K):=by
 intro pins s σ H x y v u Q I rx ry h;obtain⟨a,b,xs,ys,rfl,rfl,ha,hb,hz,q0,q1,q2⟩:=h
 by_cases hx:xs=[]
 · cases rx;cases ry;obtain⟨its,r1,p1,_⟩:=I.tuple ha;obtain⟨its2,r2,p2,_⟩:=I.tuple hb;obtain⟨⟨cls,dd,data,sl⟩,ho,hc,n,hd⟩:=id p1;obtain⟨⟨cls2,dd2,data2,sl2⟩,ho2,hc2,n2,hd2⟩:=id p2;simp only at hc hd hc2 hd2;subst hc hd hc2 hd2;have he:its=[]:=r1.nil_iff.mpr hx
   exact concat_meets ⟨_,ho,rfl⟩ ⟨_,ho2,rfl⟩ noFill_tuple_add seq_tuple_add x3Q x3H (x3z _ _)
     (tuple_addW0 a b its.toArray its2.toArray n n2 dd dd2 sl sl2 (by simp [he])) ⟨ho,ho2,⟨.ref b,H,I,rfl,q0 hx⟩⟩
 · exact b5k pins s σ H _ _ v u Q I rx ry ⟨a,b,xs,ys,rfl,rfl,ha,hb,hx,hz,q1 hx,q2 hx⟩
end
end L2
end
section
namespace Pu
open PySem PySem.Spec L2
inductive PV where
 | non | bl (b:Bool) | int (i:Int) | str (x:Str) | ty (n:String) | pot (k:Nat)
 | tup (xs:List PV) | lst (xs:List PV) | dct (ks:List Key) (xs:List PV)
 /-- the script -/
 | scr (ns:List Int)
structure Gh where
 M:List Addr
 pots:List Addr
noncomputable def KLst (K:x0b)(a:Addr)(xs:List V):Prop:=∃(o:Obj) (its:Array Value) (n:Nat),K.lookup a=some o/\o.cls=.type "list"/\o.dict=none/\o.data=.seq its n/\its.size<=x0B/\Vals xs its.toList
noncomputable def AtL (M:List Addr)(H:Hp)(a:Addr)(xs:List V):Prop:=a∉M/\H a=some (.lst xs)
noncomputable def AtT (M:List Addr)(H:Hp)(a:Addr)(xs:List V):Prop:=a∉M/\H a=some (.tup xs)
theorem AtL.sq {K:x0b}{M:List Addr}{H:Hp}{a:Addr}{xs:List V}(h:AtL M H a xs):SqL K H a xs:=SqL.of h.2
theorem AtT.sq {K:x0b}{M:List Addr}{H:Hp}{a:Addr}{xs:List V}(h:AtT M H a xs):SqT K H a xs:=SqT.of h.2
mutual
noncomputable def Rep (K:x0b)(G:Gh)(H:Hp):PV->V->Prop
 | .non,v=>v=.non
 | .bl b,v=>v=.bl b
 | .int i,v=>v=.int i
 | .str x,v=>v=.str x
 | .ty n,v=>v=.ty n
 | .pot k,v=>∃p,G.pots[k]?=some p/\v=.ref p
 | .tup xs,v=>∃a vs,v=.ref a/\AtT G.M H a vs/\Reps K G H xs vs
 | .lst xs,v=>∃a vs,v=.ref a/\AtL G.M H a vs/\Reps K G H xs vs
 | .scr ns,v=>∃a,v=.ref a/\((a∉G.M/\∃o,H a=some (.frz o (.lst (ns.map V.int))))\/KLst K a (ns.map V.int))
 | .dct ks xs,v=>∃a kvs,v=.ref a/\a∉G.M/\H a=some (.dK kvs)/\kvs.map (·.1)=ks/\Reps K G H xs (kvs.map (·.2))
noncomputable def Reps (K:x0b)(G:Gh)(H:Hp):List PV->List V->Prop
 | [],vs=>vs=[]
 | x::xs,vs=>∃v r,vs=v::r/\Rep K G H x v/\Reps K G H xs r
end
section
variable {K:x0b}{G G':Gh}{H H':Hp}
mutual
theorem Rep.mono (hk:∀b o,b∉G.M->H b=some o->H' b=some o)(hM:∀a∈G'.M,a∈G.M\/H a=none)(hp:∀(k:Nat) (p:Addr),G.pots[k]?=some p->G'.pots[k]?=some p):∀(x:PV) (v:V),Rep K G H x v->Rep K G' H' x v
 | .non,v,h=>h
 | .bl b,v,h=>h
 | .int i,v,h=>h
 | .str x,v,h=>h
 | .ty n,v,h=>h
 | .pot k, v, h => by
   obtain⟨p,e,r⟩:=h;exact⟨p,hp k p e,r⟩
 | .tup xs, v, h => by
   obtain⟨a,vs,e,t,r⟩:=h;refine⟨a,vs,e,?_,Reps.mono hk hM hp xs vs r⟩;obtain⟨n,t⟩:=t;exact⟨fun z=>(hM a z).elim n (fun z=>by rw [z] at t;cases t),hk a _ n t⟩
 | .lst xs, v, h => by
   obtain⟨a,vs,e,t,r⟩:=h;refine⟨a,vs,e,?_,Reps.mono hk hM hp xs vs r⟩;obtain⟨n,t⟩:=t;exact⟨fun z=>(hM a z).elim n (fun z=>by rw [z] at t;cases t),hk a _ n t⟩
 | .scr ns, v, h => by
   obtain⟨a,e,h⟩:=h;refine⟨a,e,?_⟩;rcases h with⟨n,o,t⟩ | h
   · exact .inl ⟨fun z=>(hM a z).elim n (fun z=>by rw [z] at t;cases t),o,hk a _ n t⟩
   · exact .inr h
 | .dct ks xs, v, h => by
   obtain⟨a,kvs,e,n,t,ek,r⟩:=h;exact⟨a,kvs,e,fun z=>(hM a z).elim n (fun z=>by rw [z] at t;cases t),hk a _ n t,ek,Reps.mono hk hM hp xs _ r⟩
theorem Reps.mono (hk:∀b o,b∉G.M->H b=some o->H' b=some o)(hM:∀a∈G'.M,a∈G.M\/H a=none)(hp:∀(k:Nat) (p:Addr),G.pots[k]?=some p->G'.pots[k]?=some p):∀(xs:List PV) (vs:List V),Reps K G H xs vs->Reps K G' H' xs vs
 | [],vs,h=>h
 | x :: xs, vs, h => by
   obtain⟨v,r,e,hx,hr⟩:=h;exact⟨v,r,e,Rep.mono hk hM hp x v hx,Reps.mono hk hM hp xs r hr⟩
end
theorem Rep.same {x:PV}{v:V}(h:Rep K G H x v)(s:Same H H'):Rep K G H' x v:=Rep.mono (fun b o _ e=>s b o e) (fun a z=>.inl z) (fun _ _ e=>e) x v h
theorem Reps.same {x:List PV}{v:List V}(h:Reps K G H x v)(s:Same H H'):Reps K G H' x v:=Reps.mono (fun b o _ e=>s b o e) (fun a z=>.inl z) (fun _ _ e=>e) x v h
noncomputable def Fr (G:Gh)(H H':Hp):Prop:=∀b o,b∉G.M->H b=some o->H' b=some o
theorem Fr.refl:Fr G H H:=fun _ _ _ e=>e
theorem Fr.trans {H2:Hp}(a:Fr G H H')(b:Fr G H' H2):Fr G H H2:=fun c o n e=>b c o n (a c o n e)
theorem Fr.of (s:Same H H'):Fr G H H':=fun b o _ e=>s b o e
theorem Rep.fr {x:PV}{v:V}(h:Rep K G H x v)(s:Fr G H H'):Rep K G H' x v:=Rep.mono s (fun a z=>.inl z) (fun _ _ e=>e) x v h
theorem Reps.fr {x:List PV}{v:List V}(h:Reps K G H x v)(s:Fr G H H'):Reps K G H' x v:=Reps.mono s (fun a z=>.inl z) (fun _ _ e=>e) x v h
theorem Reps.length:∀{xs:List PV} {vs:List V},Reps K G H xs vs->xs.length=vs.length
 | [],vs,h=>by cases(show vs=[] from h);rfl
 | x :: xs, vs, h => by
   obtain⟨v,r,e,hx,hr⟩:=h;subst e;simp [Reps.length hr]
theorem Reps.get:∀{xs:List PV} {vs:List V} {i:Nat} {v:V},Reps K G H xs vs->vs[i]?=some v->∃x,xs[i]?=some x/\Rep K G H x v
 | [],vs,i,v,h,e=>by cases(show vs=[] from h);simp at e
 | x :: xs, vs, i, v, h, e => by
   obtain⟨w,r,e1,hx,hr⟩:=h;subst e1;cases i with
   | zero=>simp at e;subst e;exact⟨x,rfl,hx⟩
   | succ i=>simpa using Reps.get (i:=i) hr (by simpa using e)
theorem Reps.get':∀{xs:List PV} {vs:List V} {i:Nat} {x:PV},Reps K G H xs vs->xs[i]?=some x->∃v,vs[i]?=some v/\Rep K G H x v:=fun {xs vs i x} h e=>by
 obtain⟨hi,_⟩:=x0i.mp e;have hl:=h.length;have e2:vs[i]?=some (vs[i]'(by omega)):=x0c (by omega);obtain⟨y,ey,r⟩:=h.get e2;rw [e] at ey;cases ey;exact⟨_,e2,r⟩
theorem Reps.append:∀{xs ys:List PV} {vs us:List V},Reps K G H xs vs->Reps K G H ys us->Reps K G H (xs++ys) (vs++us)
 | [],ys,vs,us,h,h'=>by cases(show vs=[] from h);exact h'
 | x :: xs, ys, vs, us, h, h' => by
   obtain⟨w,r,e1,hx,hr⟩:=h;subst e1;exact⟨w,r++us,rfl,hx,Reps.append hr h'⟩
theorem Reps.take:∀{xs:List PV} {vs:List V} (n:Nat),Reps K G H xs vs->Reps K G H (xs.take n) (vs.take n)
 | xs,vs,0,h=>by simp [Reps]
 | [],vs,n + 1,h=>by cases(show vs=[] from h);exact rfl
 | x :: xs, vs, n + 1, h => by
   obtain⟨w,r,e1,hx,hr⟩:=h;subst e1;exact⟨w,r.take n,rfl,hx,Reps.take n hr⟩
theorem Reps.drop:∀{xs:List PV} {vs:List V} (n:Nat),Reps K G H xs vs->Reps K G H (xs.drop n) (vs.drop n)
 | xs,vs,0,h=>by simpa using h
 | [],vs,n + 1,h=>by cases(show vs=[] from h);exact rfl
 | x :: xs, vs, n + 1, h => by
   obtain⟨w,r,e1,hx,hr⟩:=h;subst e1;exact Reps.drop n hr
theorem Reps.one {x:PV}{v:V}(h:Rep K G H x v):Reps K G H [x] [v]:=⟨v,[],rfl,h,rfl⟩
theorem Reps.set:∀{xs:List PV} {vs:List V} (n:Nat) {x:PV} {v:V},Reps K G H xs vs->Rep K G H x v->Reps K G H (xs.set n x) (vs.set n v)
 | [],vs,n,x,v,h,_=>by cases(show vs=[] from h);exact rfl
 | y :: xs, vs, 0, x, v, h, h' => by
   obtain⟨w,r,e1,hx,hr⟩:=h;subst e1;exact⟨v,r,rfl,h',hr⟩
 | y :: xs, vs, n + 1, x, v, h, h' => by
   obtain⟨w,r,e1,hx,hr⟩:=h;subst e1;exact⟨w,r.set n v,rfl,hx,Reps.set n hr h'⟩
theorem Reps.eraseIdx:∀{xs:List PV} {vs:List V} (n:Nat),Reps K G H xs vs->Reps K G H (xs.eraseIdx n) (vs.eraseIdx n)
 | [],vs,n,h=>by cases(show vs=[] from h);exact rfl
 | y :: xs, vs, 0, h => by
   obtain⟨w,r,e1,hx,hr⟩:=h;subst e1;exact hr
 | y :: xs, vs, n + 1, h => by
   obtain⟨w,r,e1,hx,hr⟩:=h;subst e1;exact⟨w,r.eraseIdx n,rfl,hx,Reps.eraseIdx n hr⟩
mutual
noncomputable def noMut:PV->Bool
 | .lst _=>false
 | .dct _ _=>false
 | .tup xs=>a3X xs
 | _=>true
noncomputable def a3X:List PV->Bool
 | []=>true
 | x::xs=>noMut x && a3X xs
end
noncomputable def MutO:HO->Prop
 | .lst _=>True
 | .dK _=>True
 | .dT _=>True
 | .set _ _=>True
 | .tbl _=>True
 | _=>False
mutual
theorem Rep.noMut {M':List Addr}(hm:∀a∈G.M,∃o,H a=some o/\MutO o):∀(x:PV) (v:V),Pu.noMut x=true->Rep K ⟨M',G.pots⟩ H x v->Rep K G H x v
 | .non,v,_,h=>h
 | .bl b,v,_,h=>h
 | .int i,v,_,h=>h
 | .str x,v,_,h=>h
 | .ty n,v,_,h=>h
 | .pot k,v,_,h=>h
 | .tup xs, v, e, h => by
   obtain⟨a,vs,ev,t,r⟩:=h;refine⟨a,vs,ev,?_,Reps.noMut hm xs vs (by simpa [Pu.noMut] using e) r⟩;obtain⟨n,t⟩:=t;refine⟨fun z=>?_,t⟩;obtain⟨o,e1,e2⟩:=hm a z;rw [e1] at t;cases t;exact e2
 | .scr ns, v, _, h => by
   obtain⟨a,e,h⟩:=h;refine⟨a,e,?_⟩;rcases h with⟨n,o,t⟩ | h
   · refine .inl ⟨fun z=>?_,o,t⟩;obtain⟨o',e1,e2⟩:=hm a z;rw [e1] at t;cases t;exact e2
   · exact .inr h
theorem Reps.noMut {M':List Addr}(hm:∀a∈G.M,∃o,H a=some o/\MutO o):∀(xs:List PV) (vs:List V),Pu.a3X xs=true->Reps K ⟨M',G.pots⟩ H xs vs->Reps K G H xs vs
 | [],vs,_,h=>h
 | x :: xs, vs, e, h => by
   obtain⟨v,r,ev,hx,hr⟩:=h;have e':Pu.noMut x=true/\Pu.a3X xs=true:=by simpa [Pu.a3X] using e
   exact⟨v,r,ev,Rep.noMut hm x v e'.1 hx,Reps.noMut hm xs r e'.2 hr⟩
end
end
inductive OK where
 | lst | dk (ks:List Key) | dt (ks:List (List Key)) | st (zs:List Key)
noncomputable def memS (zs:List Key)(k:Key):Bool:=zs.any fun z=>decide (z=k)
noncomputable def mkO:OK->List V->HO
 | .lst,vs=>.lst vs
 | .dk ks,vs=>.dK (ks.zip vs)
 | .dt ks,vs=>.dT (ks.zip vs)
 | .st zs,_=>.set (memS zs) zs.length
theorem b0M (k:OK)(vs:List V):MutO (mkO k vs):=by cases k <;> trivial
inductive Slot where
 | v (x:PV)
 | ow (k:OK) (xs:List PV)
noncomputable abbrev Slot.own (xs:List PV):Slot:=.ow .lst xs
noncomputable abbrev Env:=List (Option Slot)
structure PotK where
 at_:List Addr->Hp->Addr->Nat->Prop
 mono:∀{M H p n m},at_ M H p n->n<=m->at_ M H p m
 keep:∀{M H H' p n},at_ M H p n->H' p=H p->(∀b o,b∉M->H b=some o->H' b=some o)->at_ M H' p n
 more:∀{M M' H p n},at_ M H p n->(∀a∈M',a∈M\/H a=none)->at_ M' H p n
 mu:∀{M H p n},at_ M H p n->∃o,H p=some o/\MutO o
 /-- what is known of all pots together -/
 has:List Addr->Prop:=fun _=>True
 hasM:∀{l:List Addr} {p:Addr},has l->p∉l->has (l++[p]):=by intro _ _ _ _;trivial
structure Ct where
 K:x0b
 T:PotK
 M0:List Addr
 pots0:List Addr
 H0:Hp
 np:Bool
noncomputable def b1T (C:Ct)(G:Gh)(H:Hp)(o:Option (Option V)):Slot->Prop
 | .v x=>∃v,o=some (some v)/\Rep C.K G H x v
 | .ow k xs=>∃a vs,o=some (some (.ref a))/\a∈G.M/\a∉C.M0/\a∉G.pots/\H a=some (mkO k vs)/\Reps C.K G H xs vs
structure SR (C:Ct)(G:Gh)(σ:St)(H:Hp)(env:Env)(n:Nat):Prop where
 frame:∀b o,b∉C.pots0->C.H0 b=some o->H b=some o
 sub:∀a∈G.M,a∈C.M0\/C.H0 a=none
 sup:∀a∈C.M0,a∈G.M
 pots:∀p∈G.pots,p∈G.M/\C.T.at_ G.M H p n
 pre:∃l,G.pots=C.pots0++l/\(l=[]\/C.np=true)
 mu:∀a∈G.M,∃o,H a=some o/\MutO o
 slots:∀(i:Nat) (s:Slot),env[i]?=some (some s)->b1T C G H (σ[i]?) s
 inj:∀(i j:Nat) (xs ys:OK×List PV) (a:Addr),env[i]?=some (some (.ow xs.1 xs.2))->env[j]?=some (some (.ow ys.1 ys.2))->σ[i]?=some (some (.ref a))->σ[j]?=some (some (.ref a))->i=j
 p0:(∀p∈C.pots0,p∈C.M0)/\C.T.has G.pots
 len:env.length=σ.length
 newp:∀p∈G.pots,p∉C.pots0->p∈C.M0->False
section
variable {C:Ct}{G G':Gh}{σ:St}{H H':Hp}{env:Env}{n:Nat}
theorem SR.hasG (S:SR C G σ H env n):C.T.has G.pots:=S.p0.2
theorem SR.fresh (S:SR C G σ H env n){p:Addr}(h:H p=none):p∉G.M:=fun z=>by
 obtain⟨o,e,_⟩:=S.mu p z;rw [h] at e;cases e
theorem SR.same (S:SR C G σ H env n)(s:Same H H'):SR C G σ H' env n where
 frame b o hb e:=s b o (S.frame b o hb e)
 sub:=S.sub
 sup:=S.sup
 pots p hp:=⟨(S.pots p hp).1,C.T.keep (S.pots p hp).2 (by
   obtain⟨o,e,_⟩:=C.T.mu (S.pots p hp).2
   rw [e,s p o e]) fun b o _ e=>s b o e⟩
 pre:=S.pre
 mu a ha:=by
   obtain⟨o,e,m⟩:=S.mu a ha;exact⟨o,s a o e,m⟩
 slots i x e:=by
   have:=S.slots i x e;cases x with
   | v x =>
     obtain⟨v,e1,r⟩:=this;exact⟨v,e1,r.same s⟩
   | ow kk xs =>
     obtain⟨a,vs,e1,h1,h2,h3,h4,r⟩:=this;exact⟨a,vs,e1,h1,h2,h3,s _ _ h4,r.same s⟩
 inj:=S.inj
 p0:=S.p0
 len:=S.len
 newp:=S.newp
theorem Same.lay1 {p:Addr}{o:HO}(h:H p=none):Same H (upd H p o):=(Same.refl H).lay h
end
end Pu
end
section
namespace Pu
open PySem PySem.Spec L2
noncomputable abbrev PK:=PV->Env->Nat->Prop
noncomputable abbrev pE:=Env->Nat->PK->Prop
noncomputable abbrev pT:=Env->Nat->(Bool->Env->Nat->Prop)->Prop
noncomputable abbrev pA:=Env->Nat->(List PV->Env->Nat->Prop)->Prop
noncomputable abbrev pF:=List PV->Nat->(PV->Nat->Prop)->Prop
noncomputable def RdV (K:x0b)(G:Gh)(H:Hp)(x:PV)(v:V):Prop:=Rep K G H x v\/∃a vs xs,x=.lst xs/\v=.ref a/\H a=some (.lst vs)/\Reps K G H xs vs
noncomputable def RdS (C:Ct)(G:Gh)(σ:St)(H:Hp)(env:Env)(x:PV)(v:V):Prop:=Rep C.K G H x v\/∃(i:Nat) (a:Addr) (xs:List PV),env[i]?=some (some (.ow .lst xs))/\σ[i]?=some (some (.ref a))/\x=.lst xs/\v=.ref a
noncomputable def EOk (K:x0b)(T:PotK)(t:TE)(pe:pE):Prop:=∀(C:Ct) (G:Gh) (σ:St) (H:Hp) (env:Env) (n:Nat) (R:PK) (Q:VK),C.K=K->C.T=T->SR C G σ H env n->pe env n R->
 (∀x env' n' v H',R x env' n'->SR C G σ H' env' n'->Rep K G H' x v->Fr G H H'->Q v H')->t σ H Q
noncomputable def ROk (K:x0b)(T:PotK)(t:TE)(pe:pE):Prop:=∀(C:Ct) (G:Gh) (σ:St) (H:Hp) (env:Env) (n:Nat) (R:PK) (Q:VK),C.K=K->C.T=T->SR C G σ H env n->pe env n R->
 (∀x env' n' v H',R x env' n'->SR C G σ H' env' n'->RdS C G σ H' env' x v->Fr G H H'->Q v H')->t σ H Q
noncomputable def NOk (K:x0b)(T:PotK)(t:TE)(pn:pA):Prop:=∀(C:Ct) (G:Gh) (σ:St) (H:Hp) (env:Env) (n:Nat) (R:List PV->Env->Nat->Prop) (Q:VK),C.K=K->C.T=T->SR C G σ H env n->pn env n R->
 (∀xs env' n' a vs Hb,R xs env' n'->SR C G σ Hb env' n'->Fr G H Hb->Hb a=none->Reps K G Hb xs vs->Q (.ref a) (upd Hb a (.lst vs)))->t σ H Q
noncomputable def TOk (K:x0b)(T:PotK)(t:TT)(pt:pT):Prop:=∀(C:Ct) (G:Gh) (σ:St) (H:Hp) (env:Env) (n:Nat) (R:Bool->Env->Nat->Prop) (Q:Bool->Hp->Prop),C.K=K->C.T=T->SR C G σ H env n->pt env n R->
 (∀b env' n' H',R b env' n'->SR C G σ H' env' n'->Fr G H H'->Q b H')->t σ H Q
noncomputable def AOk (K:x0b)(T:PotK)(t:TA)(pa:pA):Prop:=∀(C:Ct) (G:Gh) (σ:St) (H:Hp) (env:Env) (n:Nat) (R:List PV->Env->Nat->Prop) (Q:List V->Hp->Prop),C.K=K->C.T=T->SR C G σ H env n->pa env n R->
 (∀xs env' n' vs H',R xs env' n'->SR C G σ H' env' n'->Reps K G H' xs vs->Fr G H H'->Q vs H')->t σ H Q
structure EW (X:Cx)(e:Expr)(t:TE):Prop where
 h:PE X e t
structure SW (X:Cx)(st:Stmt)(t:TS):Prop where
 h:PS X st t
structure GW (X:Cx)(e:Expr)(g:TG):Prop where
 h:PG X e g
theorem vw {X:Cx}(i:Nat){x:Str}{pos:Pos}(hN:X.N[i]?=some x:=by rfl)(hv:Vis X.env.scope x:=by first | exact Or.inl rfl | exact Or.inr (Or.inl rfl) | exact Or.inr (Or.inr rfl))(hd:(x == ("__debug__":Str))=false:=by decide)(hcd:(x == ("__classdict__":Str))=false:=by decide):EW X (.Name x pos) (tVar i):=⟨b3M hN hv hd hcd⟩
noncomputable def QE {ι:Type}(T:PotK)(K:x0b)(F:ι->Cx)(e:Expr)(pe:pE):Prop:=∃t,(∀z,PE (F z) e t)/\EOk K T t pe
noncomputable def QR {ι:Type}(T:PotK)(K:x0b)(F:ι->Cx)(e:Expr)(pe:pE):Prop:=∃t,(∀z,PE (F z) e t)/\ROk K T t pe
noncomputable def QN {ι:Type}(T:PotK)(K:x0b)(F:ι->Cx)(e:Expr)(pn:pA):Prop:=∃t,(∀z,PE (F z) e t)/\NOk K T t pn
noncomputable def QT {ι:Type}(T:PotK)(K:x0b)(F:ι->Cx)(e:Expr)(pt:pT):Prop:=∃t,(∀z,PT (F z) e t)/\TOk K T t pt
noncomputable def QW {ι:Type}(T:PotK)(K:x0b)(F:ι->Cx)(e:Expr)(pt:pT):Prop:=∃t,(∀z,PW (F z) e t)/\TOk K T t pt
noncomputable def QA {ι:Type}(T:PotK)(K:x0b)(F:ι->Cx)(es:List Expr)(pa:pA):Prop:=∃t,(∀z,PA (F z) es t)/\AOk K T t pa
section
variable {T:PotK}{ι:Type}{K:x0b}{F:ι->Cx}{e a b:Expr}{es:List Expr}{pe pa pb:pE}
variable {v:V}{g':Int->Int->PV}
theorem Reps.nil {K:x0b}{G:Gh}{H:Hp}:Reps K G H [] []:=rfl
theorem Reps.cons {K:x0b}{G:Gh}{H:Hp}{x:PV}{xs:List PV}{v:V}{vs:List V}(h:Rep K G H x v)(h':Reps K G H xs vs):Reps K G H (x::xs) (v::vs):=⟨v,vs,rfl,h,h'⟩
theorem RdS.rd {C:Ct}{G:Gh}{σ:St}{H:Hp}{env:Env}{n:Nat}{x:PV}(S:SR C G σ H env n)(h:RdS C G σ H env x v):RdV C.K G H x v:=by
 rcases h with h | ⟨i,a,xs,e1,e2,ex,ev⟩
 · exact .inl h
 · obtain⟨a',vs,e3,_,_,_,h4,r⟩:=S.slots i _ e1;rw [e2] at e3;cases e3;exact .inr ⟨a,vs,xs,ex,ev,h4,r⟩
theorem RdS.fr {C:Ct}{G:Gh}{σ:St}{H H':Hp}{env:Env}{x:PV}(h:RdS C G σ H env x v)(f:Fr G H H'):RdS C G σ H' env x v:=by
 rcases h with h | h
 · exact .inl (h.fr f)
 · exact .inr h
theorem RdV.lst {K:x0b}{G:Gh}{H:Hp}{xs:List PV}{v:V}(h:RdV K G H (.lst xs) v):∃a vs,v=.ref a/\SqL K H a vs/\Reps K G H xs vs:=by
 rcases h with⟨a,vs,e,t,r⟩ | ⟨a,vs,ys,ex,ev,h4,r⟩
 · exact⟨a,vs,e,t.sq,r⟩
 · cases ex;exact⟨a,vs,ev,SqL.of h4,r⟩
theorem RdV.rep {K:x0b}{G:Gh}{H:Hp}{x:PV}(h:RdV K G H x v)(hx:∀xs,x≠.lst xs):Rep K G H x v:=by
 rcases h with h | ⟨a,vs,ys,ex,ev,h4,r⟩
 · exact h
 · exact absurd ex (hx ys)
theorem RdV.tup {K:x0b}{G:Gh}{H:Hp}{xs:List PV}{v:V}(h:RdV K G H (.tup xs) v):∃a vs,v=.ref a/\SqT K H a vs/\Reps K G H xs vs:=by
 obtain⟨a,vs,e,t,r⟩:=h.rep (fun _ z=>nomatch z);exact⟨a,vs,e,t.sq,r⟩
theorem RdV.int {K:x0b}{G:Gh}{H:Hp}{i:Int}(h:RdV K G H (.int i) v):v=.int i:=h.rep (fun _ z=>nomatch z)
theorem RdV.str {K:x0b}{G:Gh}{H:Hp}{i:Str}(h:RdV K G H (.str i) v):v=.str i:=h.rep (fun _ z=>nomatch z)
theorem RdV.bl {K:x0b}{G:Gh}{H:Hp}{i:Bool}(h:RdV K G H (.bl i) v):v=.bl i:=h.rep (fun _ z=>nomatch z)
theorem RdV.non {K:x0b}{G:Gh}{H:Hp}(h:RdV K G H .non v):v=.non:=h.rep (fun _ z=>nomatch z)
noncomputable def qV (i:Nat):pE:=fun env n R=>match env[i]? with | some (some (.v x))=>R x env n | _=>False
noncomputable def qO (i:Nat):pE:=fun env n R=>match env[i]? with | some (some (.ow .lst xs))=>R (.lst xs) env n | _=>False
noncomputable def qC (c:PV):pE:=fun env n R=>R c env n
theorem qV_ex {i:Nat}{env:Env}{n:Nat}{R:PK}(h:qV i env n R):∃x,env[i]?=some (some (.v x))/\R x env n:=by
 unfold qV at h
 split at h
 · exact⟨_,by assumption,h⟩
 · exact h.elim
theorem qO_ex {i:Nat}{env:Env}{n:Nat}{R:PK}(h:qO i env n R):∃xs,env[i]?=some (some (.ow .lst xs))/\R (.lst xs) env n:=by
 unfold qO at h
 split at h
 · exact⟨_,by assumption,h⟩
 · exact h.elim
theorem a0a (i:Nat){x:Str}{pos:Pos}(h:∀z,EW (F z) (.Name x pos) (tVar i)):QE T K F (.Name x pos) (qV i):=by
 refine⟨_,fun z=>(h z).h,fun C G σ H env n R Q hK hT S hp k=>?_⟩;obtain⟨x,e,r⟩:=qV_ex hp;obtain⟨v,ev,rv⟩:=S.slots i _ e;exact⟨v,ev,k _ _ _ _ _ r S (hK▸rv) Fr.refl⟩
theorem a4r (i:Nat){x:Str}{pos:Pos}(h:∀z,EW (F z) (.Name x pos) (tVar i)):QR T K F (.Name x pos) (qO i):=by
 refine⟨_,fun z=>(h z).h,fun C G σ H env n R Q hK hT S hp k=>?_⟩;obtain⟨xs,e,r⟩:=qO_ex hp;obtain⟨a,vs,ev,_,_,_,_,rv⟩:=S.slots i _ e;exact⟨.ref a,ev,k _ _ _ _ _ r S (.inr ⟨i,a,xs,e,ev,rfl,rfl⟩) Fr.refl⟩
theorem QE.r (h:QE T K F e pe):QR T K F e pe:=by
 obtain⟨t,h1,h2⟩:=h;exact⟨t,h1,fun C G σ H env n R Q hK hT S hp k=>h2 C G σ H env n R Q hK hT S hp fun x env' n' v H' r S' rp f=>k x env' n' v H' r S' (.inl (by rw [hK];exact rp)) f⟩
theorem ok_c {K:x0b}{c:PV}(h:∀G H,Rep K G H c v):EOk K T (tC v) (qC c):=fun C G σ H env n R Q hK hT S hp k=>k _ _ _ _ _ hp S (h G H) Fr.refl
theorem a0f {i j pos}:QE T K F (.Constant (.int i) j pos) (qC (.int i)):=⟨_,fun z=>a0I,ok_c fun _ _=>rfl⟩
theorem a3A {i j pos}:QE T K F (.Constant (.bool i) j pos) (qC (.bl i)):=⟨_,fun z=>pe_bl,ok_c fun _ _=>rfl⟩
theorem a0A {i j pos}:QE T K F (.Constant (.str i) j pos) (qC (.str i)):=⟨_,fun z=>pe_str,ok_c fun _ _=>rfl⟩
theorem a4u {j pos}:QE T K F (.Constant .none j pos) (qC .non):=⟨_,fun z=>pe_non,ok_c fun _ _=>rfl⟩
noncomputable abbrev w1:=PV->(PV->Prop)->Prop
noncomputable abbrev w2:=PV->PV->(PV->Prop)->Prop
noncomputable def W2 (K:x0b)(r:R2)(w:w2):Prop:=∀(G:Gh) (H:Hp) (x y:PV) (v u:V) (R:PV->Prop) (Q:VK),(∀p,H p=none->p∉G.M)->RdV K G H x v->RdV K G H y u->w x y R->
 (∀z v' H',R z->Same H H'->Rep K G H' z v'->Q v' H')->r v u H Q
noncomputable def qOp (w:w2)(pa pb:pE):pE:=fun env n R=>pa env n fun x env1 n1=>pb env1 n1 fun y env2 n2=>w x y fun z=>R z env2 n2
noncomputable def qOpR (w:w2)(pa pb:pE):pE:=fun env n R=>pa env n fun x env1 n1=>pb env1 n1 fun y env2 n2=>env2=env1/\w x y fun z=>R z env2 n2
noncomputable def qUn (w:w1)(pa:pE):pE:=fun env n R=>pa env n fun x env1 n1=>w x fun z=>R z env1 n1
theorem b0D {K:x0b}{r:R2}{w:w2}{ta tb:TE}(hw:W2 K r w)(ha:EOk K T ta pa)(hb:ROk K T tb pb):EOk K T (tOp r ta tb) (qOp w pa pb):=fun C G σ H env n R Q hK hT S hp k=>by
 refine ha C G σ H env n _ _ hK hT S hp fun x env1 n1 v H1 p1 S1 r1 f1=>?_;refine hb C G σ H1 env1 n1 _ _ hK hT S1 p1 fun y env2 n2 u H2 p2 S2 r2 f2=>?_;subst hK;exact hw G H2 x y v u _ _ (fun p hp=>S2.fresh hp) (.inl (r1.fr f2)) (r2.rd S2) p2 fun z v' H' rz s rv=>k _ _ _ _ _ rz (S2.same s) rv ((f1.trans f2).trans (Fr.of s))
theorem ok_opR {K:x0b}{r:R2}{w:w2}{ta tb:TE}(hw:W2 K r w)(ha:ROk K T ta pa)(hb:ROk K T tb pb):EOk K T (tOp r ta tb) (qOpR w pa pb):=fun C G σ H env n R Q hK hT S hp k=>by
 refine ha C G σ H env n _ _ hK hT S hp fun x env1 n1 v H1 p1 S1 r1 f1=>?_;refine hb C G σ H1 env1 n1 _ _ hK hT S1 p1 fun y env2 n2 u H2 p2 S2 r2 f2=>?_;subst hK;obtain⟨e,p2⟩:=p2;subst e;exact hw G H2 x y v u _ _ (fun p hp=>S2.fresh hp) ((r1.fr f2).rd S2) (r2.rd S2) p2 fun z v' H' rz s rv=>k _ _ _ _ _ rz (S2.same s) rv ((f1.trans f2).trans (Fr.of s))
noncomputable def wI (C:Int->Int->Prop)(g:Int->Int->PV):w2:=fun x y R=>match x,y with | .int i,.int j=>C i j/\R (g i j) | _,_=>False
theorem W2.I {K:x0b}{C:Int->Int->Prop}{g:Int->Int->V}(hg:∀i j G H,Rep K G H (g' i j) (g i j)):W2 K (rI C g) (wI C g'):=by
 intro G H x y v u R Q hf rx ry hw k;unfold wI at hw
 split at hw
 · exact⟨_,_,rx.int,ry.int,hw.1,k _ _ _ hw.2 (Same.refl _) (hg _ _ _ _)⟩
 · exact hw.elim
noncomputable def wI0 (g:Int->Int->PV):w2:=fun x y R=>match x,y with | .int i,.int j=>R (g i j) | _,_=>False
theorem W2.I0 {K:x0b}{g:Int->Int->V}(hg:∀i j G H,Rep K G H (g' i j) (g i j)):W2 K (rI0 g) (wI0 g'):=by
 intro G H x y v u R Q hf rx ry hw k;unfold wI0 at hw
 split at hw
 · exact⟨_,_,rx.int,ry.int,k _ _ _ hw (Same.refl _) (hg _ _ _ _)⟩
 · exact hw.elim
noncomputable def wAdd:w2:=fun x y R=>match x,y with
 | .int i,.int j=>R (.int (i + j))
 | .str i,.str j=>i.length + j.length<=1000000/\R (.str (i++j))
 | .tup xs,.tup ys=>xs.length + ys.length<=1000000/\R (.tup (xs++ys))
 | _,_=>False
theorem mil {n:Nat}(h:n<=1000000):n<=x0B:=x1f h (by rw [x1c];decide)
theorem mil' {n:Nat}(h:n<=1000000):n < x0B:=x3K h (by rw [x1c];decide)
theorem a4o {K:x0b}{G:Gh}{H:Hp}{p:Addr}{xs:List PV}{vs:List V}(hf:p∉G.M)(hn:H p=none)(r:Reps K G H xs vs):Rep K G (upd H p (.tup vs)) (.tup xs) (.ref p):=
 ⟨p,vs,rfl,⟨hf,a0l⟩,r.same (Same.lay1 hn)⟩
theorem a5F {K:x0b}{G:Gh}{H:Hp}{p:Addr}{xs:List PV}{vs:List V}(hf:p∉G.M)(hn:H p=none)(r:Reps K G H xs vs):Rep K G (upd H p (.lst vs)) (.lst xs) (.ref p):=
 ⟨p,vs,rfl,⟨hf,a0l⟩,r.same (Same.lay1 hn)⟩
theorem W2.add {K:x0b}:W2 K (fun x y H Q=>(rI0 fun i j=>.int (i + j)) x y H Q\/(∃i j,x=.str i/\y=.str j/\i.length + j.length<=x0B/\Q (.str (i++j)) H)\/rCatA K x y H Q) wAdd:=by
 intro G H x y v u R Q hf rx ry hw k;unfold wAdd at hw
 split at hw
 · exact .inl ⟨_,_,rx.int,ry.int,k _ _ _ hw (Same.refl _) rfl⟩
 · exact .inr (.inl ⟨_,_,rx.str,ry.str,mil hw.1,k _ _ _ hw.2 (Same.refl _) rfl⟩)
 · rename_i xs ys;obtain⟨a,vs,ea,ta,ra⟩:=rx.rep (fun _ z=>nomatch z);obtain⟨b,us,eb,tb,rb⟩:=ry.rep (fun _ z=>nomatch z);refine .inr (.inr ⟨a,b,vs,us,ea,eb,ta.sq,tb.sq,?_,fun z=>?_,fun z1 z2=>?_,fun z1 z2 p hp=>?_⟩)
   · rw [<- ra.length,<- rb.length];exact mil hw.1
   · subst z;have:xs=[]:=x1n ra.length;subst this;exact k _ _ _ hw.2 (Same.refl _) ⟨b,us,rfl,tb,rb⟩
   · subst z2;have:ys=[]:=x1n rb.length;subst this;exact k _ _ _ hw.2 (Same.refl _) (by rw [x1t];exact⟨a,vs,rfl,ta,ra⟩)
   · exact k _ _ _ hw.2 (Same.lay1 hp) (a4o (hf p hp) hp (ra.append rb))
 · exact hw.elim
theorem a0N {pos:Pos}(ha:QE T K F a pa)(hb:QE T K F b pb)(hK:∀z,(F z).K=K:=by intro _;rfl):QE T K F (.BinOp a .Add b pos) (qOp wAdd pa pb):=by
 obtain⟨ta,h1,h2⟩:=ha;obtain⟨tb,h3,h4⟩:=hb.r;exact⟨_,fun z=>a1u (a3W.or (a8W.or (hK z▸b5l))) (h1 z) (h3 z),b0D W2.add h2 h4⟩
theorem b2t {op:Operator}{r:R2}{w:w2}{pos:Pos}(ho:∀z,OpR (F z) (x3j op) r)(hw:W2 K r w)(ha:QE T K F a pa)(hb:QE T K F b pb):QE T K F (.BinOp a op b pos) (qOp w pa pb):=by
 obtain⟨ta,h1,h2⟩:=ha;obtain⟨tb,h3,h4⟩:=hb.r;exact⟨_,fun z=>a1u (ho z) (h1 z) (h3 z),b0D hw h2 h4⟩
noncomputable def wSub:w2:=wI0 fun i j=>.int (i - j)
noncomputable def wMul:w2:=fun x y R=>match x,y with
 | .int i,.int j=>CMul i j/\R (.int (i * j))
 | .str i,.int n=>i.length<=100/\0<=n/\n<=1000/\R (.str (x4Z i n))
 | _,_=>False
noncomputable def b4s:w2:=wI CDiv fun i j=>.int (i / j)
noncomputable def wMod:w2:=wI (fun _ j=>0 < j) fun i j=>.int (i % j)
theorem W2.mul {K:x0b}:W2 K (fun x y H Q=>(rI CMul fun i j=>.int (i * j)) x y H Q\/(∃i n,x=.str i/\y=.int n/\i.length<=100/\0<=n/\n<=1000/\Q (.str (x4Z i n)) H)) wMul:=by
 intro G H x y v u R Q hf rx ry hw k;unfold wMul at hw
 split at hw
 · exact .inl ⟨_,_,rx.int,ry.int,hw.1,k _ _ _ hw.2 (Same.refl _) rfl⟩
 · exact .inr ⟨_,_,rx.str,ry.int,hw.1,hw.2.1,hw.2.2.1,k _ _ _ hw.2.2.2 (Same.refl _) rfl⟩
 · exact hw.elim
theorem b0a {pos:Pos}(ha:QE T K F a pa)(hb:QE T K F b pb):QE T K F (.BinOp a .Sub b pos) (qOp wSub pa pb):=b2t (fun _=>op_sub) (W2.I0 fun _ _ _ _=>rfl) ha hb
theorem a8e {pos:Pos}(ha:QE T K F a pa)(hb:QE T K F b pb):QE T K F (.BinOp a .Mult b pos) (qOp wMul pa pb):=b2t (fun _=>a3V.or a8V) W2.mul ha hb
theorem b4Q {pos:Pos}(ha:QE T K F a pa)(hb:QE T K F b pb):QE T K F (.BinOp a .FloorDiv b pos) (qOp b4s pa pb):=b2t (fun _=>a7v) (W2.I fun _ _ _ _=>rfl) ha hb
theorem b0c {pos:Pos}(ha:QE T K F a pa)(hb:QE T K F b pb):QE T K F (.BinOp a .Mod b pos) (qOp wMod pa pb):=b2t (fun _=>a4C) (W2.I fun _ _ _ _=>rfl) ha hb
end
end Pu
end
section
namespace L2
open PySem PySem.Spec PyProof.Rows
noncomputable def EqD (K:x0b)(H:Hp):Nat->V->V->Bool->Prop
 | 0,x,y,b=>a2Y x=true/\a2Y y=true/\b=eqV x y
 | d + 1, x, y, b => (a2Y x = true /\ a2Y y = true /\ b = eqV x y) \/
   (∃p q xs ys,∃f:Nat->Bool,x=.ref p/\y=.ref q/\SqT K H p xs/\SqT K H q ys/\(∀(j:Nat) x' y',xs[j]?=some x'->ys[j]?=some y'->EqD K H d x' y' (f j))/\b=((x0L (min xs.length ys.length)).all f && xs.length == ys.length))\/
   (∃p q xs ys,∃f:Nat->Bool,x=.ref p/\y=.ref q/\SqL K H p xs/\SqL K H q ys/\(∀(j:Nat) x' y',xs[j]?=some x'->ys[j]?=some y'->EqD K H d x' y' (f j))/\b=((x0L (min xs.length ys.length)).all f && xs.length == ys.length))\/
   (b=false/\((∃p xs,x=.ref p/\(SqT K H p xs\/SqL K H p xs)/\a2Y y=true)\/(∃p xs,y=.ref p/\(SqT K H p xs\/SqL K H p xs)/\a2Y x=true)\/
     (∃p q xs ys,x=.ref p/\y=.ref q/\SqT K H p xs/\SqL K H q ys)\/(∃p q xs ys,x=.ref p/\y=.ref q/\SqL K H p xs/\SqT K H q ys)))
section
variable {X:Cx}{pins:List (Addr×Obj)}{σ:St}{H:Hp}{s:Shared}
theorem a2r (I:Inv X pins σ H s){p:Addr}{xs ys:List V}(h:SqT X.K H p xs)(h':SqL X.K H p ys):False:=by
 obtain⟨its,r,⟨o,e,c,n,d⟩,_⟩:=I.tuple h;obtain⟨its',r',⟨o',n',e',c',_,d'⟩,_⟩:=I.list h';rw [e] at e';cases e';rw [c] at c';injection c' with c';exact absurd c' (by decide)
theorem EqD.refl (I:Inv X pins σ H s):∀(d:Nat) (x:V) (b:Bool),EqD X.K H d x x b->b=true:=by
 intro d
 induction d with
 | zero =>
   intro x b h;obtain⟨h1,_,rfl⟩:=h;exact a8v h1
 | succ d ih =>
   intro x b h;rcases h with⟨h1,_,rfl⟩ | ⟨p,q,xs,ys,f,e1,e2,s1,s2,hf,rfl⟩ | ⟨p,q,xs,ys,f,e1,e2,s1,s2,hf,rfl⟩ | ⟨rfl,h⟩
   · exact a8v h1
   · subst e1;cases e2;have:=I.tuple_inj s1 s2;subst this;simp only [x4M,beq_self_eq_true,x3L,x0A,x0N];intro j hj;exact ih _ _ (hf j xs[j] xs[j] (by simp [hj]) (by simp [hj]))
   · subst e1;cases e2;have:=I.list_inj s1 s2;subst this;simp only [x4M,beq_self_eq_true,x3L,x0A,x0N];intro j hj;exact ih _ _ (hf j xs[j] xs[j] (by simp [hj]) (by simp [hj]))
   · rcases h with⟨p,xs,rfl,_,h⟩ | ⟨p,xs,rfl,_,h⟩ | ⟨p,q,xs,ys,e1,e2,s1,s2⟩ | ⟨p,q,xs,ys,e1,e2,s1,s2⟩
     · cases h
     · cases h
     · subst e1;cases e2;exact(a2r I s1 s2).elim
     · subst e1;cases e2;exact(a2r I s2 s1).elim
theorem Inv.sqL (I:Inv X pins σ H s){p:Addr}{xs:List V}(h:SqL X.K H p xs):∃its:List Value,Vals xs its/\s.heap.IsList p its.toArray:=by
 obtain⟨its,r,pl,_⟩:=I.list h;exact⟨its,r,pl.isList⟩
theorem Inv.sqT (I:Inv X pins σ H s){p:Addr}{xs:List V}(h:SqT X.K H p xs):∃its:List Value,Vals xs its/\s.heap.IsTuple p its.toArray:=by
 obtain⟨its,r,pl,_⟩:=I.tuple h;exact⟨its,r,pl⟩
theorem a4p (I:Inv X pins σ H s){A:Around}(hu:A.units < cLine){p:Addr}{xs:List V}(hq:SqT X.K H p xs\/SqL X.K H p xs){y:V}{w:Value}(ry:RelV y w)(fy:a2Y y=true) :
   x4W A s (.ref p) w false/\x4j A s (.ref p) w true/\x4W A s w (.ref p) false/\x4j A s w (.ref p) true/\x3Y A s (.ref p) w false/\x3Y A s w (.ref p) false:=by
 rcases hq with hq | hq
 · obtain⟨its,r,il⟩:=I.sqT hq;cases y with
   | non=>cases ry;exact⟨.tuple_none il hu,.tuple_none il hu,.none_tuple il hu,.none_tuple il hu,.tuple_none il hu,.none_tuple il hu⟩
   | bl b=>cases ry;exact⟨.tuple_bool b il hu,.tuple_bool b il hu,.bool_tuple b il hu,.bool_tuple b il hu,.tuple_bool b il hu,.bool_tuple b il hu⟩
   | int i=>obtain⟨t,rfl⟩:=ry;exact⟨.tuple_int i t il hu,.tuple_int i t il hu,.int_tuple i t il hu,.int_tuple i t il hu,.tuple_int i t il hu,.int_tuple i t il hu⟩
   | str i=>obtain⟨t,rfl⟩:=ry;exact⟨.tuple_str i t il hu,.tuple_str i t il hu,.str_tuple i t il hu,.str_tuple i t il hu,.tuple_str i t il hu,.str_tuple i t il hu⟩
   | _=>cases fy
 · obtain⟨its,r,il⟩:=I.sqL hq;cases y with
   | non=>cases ry;exact⟨.list_none il hu,.list_none il hu,.none_list il hu,.none_list il hu,.list_none il hu,.none_list il hu⟩
   | bl b=>cases ry;exact⟨.list_bool b il hu,.list_bool b il hu,.bool_list b il hu,.bool_list b il hu,.list_bool b il hu,.bool_list b il hu⟩
   | int i=>obtain⟨t,rfl⟩:=ry;exact⟨.list_int i t il hu,.list_int i t il hu,.int_list i t il hu,.int_list i t il hu,.list_int i t il hu,.int_list i t il hu⟩
   | str i=>obtain⟨t,rfl⟩:=ry;exact⟨.list_str i t il hu,.list_str i t il hu,.str_list i t il hu,.str_list i t il hu,.list_str i t il hu,.str_list i t il hu⟩
   | _=>cases fy
theorem a9S {A:Around}{x y:V}{u w:Value}(rx:RelV x u)(ry:RelV y w)(fx:a2Y x=true)(fy:a2Y y=true):x4W A s u w (eqV x y)/\x4j A s u w (!eqV x y):=by
 cases x with
 | non =>
   cases rx;cases y with
   | non=>cases ry;exact⟨.none_none,.none_none⟩
   | bl j=>cases ry;exact⟨.none_bool j,.none_bool j⟩
   | int j=>obtain⟨t,rfl⟩:=ry;exact⟨.none_int j t,.none_int j t⟩
   | str j=>obtain⟨t,rfl⟩:=ry;exact⟨.none_str j t,.none_str j t⟩
   | _=>cases fy
 | bl i =>
   cases rx;cases y with
   | non=>cases ry;exact⟨.bool_none i,.bool_none i⟩
   | bl j=>cases ry;exact⟨.bool_bool i j,.bool_bool i j⟩
   | int j=>obtain⟨t,rfl⟩:=ry;exact⟨.bool_int i j t,.bool_int i j t⟩
   | str j=>obtain⟨t,rfl⟩:=ry;exact⟨.bool_str i j t,.bool_str i j t⟩
   | _=>cases fy
 | int i =>
   obtain⟨ti,rfl⟩:=rx;cases y with
   | non=>cases ry;exact⟨.int_none i ti,.int_none i ti⟩
   | bl j=>cases ry;exact⟨.int_bool i ti j,.int_bool i ti j⟩
   | int j=>obtain⟨t,rfl⟩:=ry;exact⟨.int_int i ti j t,.int_int i ti j t⟩
   | str j=>obtain⟨t,rfl⟩:=ry;exact⟨.int_str i ti j t,.int_str i ti j t⟩
   | _=>cases fy
 | str i =>
   obtain⟨ti,rfl⟩:=rx;cases y with
   | non=>cases ry;exact⟨.str_none i ti,.str_none i ti⟩
   | bl j=>cases ry;exact⟨.str_bool i ti j,.str_bool i ti j⟩
   | int j=>obtain⟨t,rfl⟩:=ry;exact⟨.str_int i ti j t,.str_int i ti j t⟩
   | str j=>obtain⟨t,rfl⟩:=ry;exact⟨.str_str i ti j t,.str_str i ti j t⟩
   | _=>cases fy
 | _=>cases fx
theorem in1_units (A:Around):A.in1.units=A.units + 1:=rfl
theorem EqD.at (I:Inv X pins σ H s):∀(d:Nat) (A:Around) (x y:V) (u w:Value) (b:Bool),A.units + d < cLine->RelV x u->RelV y w->EqD X.K H d x y b->x3Y A s u w b/\x4W A s u w b/\x4j A s u w (!b):=by
 intro d
 induction d with
 | zero =>
   intro A x y u w b hu rx ry h;obtain⟨h1,h2,rfl⟩:=h;exact⟨b4b rx ry h1 h2,a9S rx ry h1 h2⟩
 | succ d ih =>
   intro A x y u w b hu rx ry h;have hu0:A.units < cLine:=by omega
   have hu1:A.in1.units + d < cLine:=by rw [in1_units];omega
   have hrefl:=EqD.refl I (d + 1) x b;rcases h with⟨h1,h2,rfl⟩ | ⟨p,q,xs,ys,f,e1,e2,s1,s2,hf,eb⟩ | ⟨p,q,xs,ys,f,e1,e2,s1,s2,hf,eb⟩ | ⟨rfl,h⟩
   · exact⟨b4b rx ry h1 h2,a9S rx ry h1 h2⟩
   · subst e1 e2;cases rx;cases ry;obtain⟨its,r1,t1⟩:=I.sqT s1;obtain⟨its2,r2,t2⟩:=I.sqT s2;have z1:its.toArray.size=xs.length:=by simpa using r1.length.symm
     have z2:its2.toArray.size=ys.length:=by simpa using r2.length.symm
     have he:∀j (h1:j < its.toArray.size) (h2:j < its2.toArray.size),x3Y A.in1 s its.toArray[j] its2.toArray[j] (f j):=by
       intro j h1 h2;obtain⟨x',e1,q1⟩:=r1.getE (j:=j) (by simpa using h1);obtain⟨y',e2,q2⟩:=r2.getE (j:=j) (by simpa using h2);exact(ih A.in1 x' y' _ _ (f j) hu1 (by simpa using q1) (by simpa using q2) (hf j x' y' e1 e2)).1
     have rc:x4W A s (.ref p) (.ref q) b:=by
       rw [eb,<- z1,<- z2];exact SeqAt.RcAt.tuples t1 t2 hu0 he
     have rn:x4j A s (.ref p) (.ref q) (!b):=by
       rw [eb,<- z1,<- z2];exact SeqAt.RcNeAt.tuples t1 t2 hu0 he
     refine⟨?_,rc,rn⟩
     by_cases hpq:p=q
     · subst hpq;rw [hrefl (.inr (.inl ⟨p,p,xs,ys,f,rfl,rfl,s1,s2,hf,eb⟩))];exact .same _
     · exact .of_refs hpq rc
   · subst e1 e2;cases rx;cases ry;obtain⟨its,r1,t1⟩:=I.sqL s1;obtain⟨its2,r2,t2⟩:=I.sqL s2;have z1:its.toArray.size=xs.length:=by simpa using r1.length.symm
     have z2:its2.toArray.size=ys.length:=by simpa using r2.length.symm
     have he:∀j (h1:j < its.toArray.size) (h2:j < its2.toArray.size),x3Y A.in1 s its.toArray[j] its2.toArray[j] (f j):=by
       intro j h1 h2;obtain⟨x',e1,q1⟩:=r1.getE (j:=j) (by simpa using h1);obtain⟨y',e2,q2⟩:=r2.getE (j:=j) (by simpa using h2);exact(ih A.in1 x' y' _ _ (f j) hu1 (by simpa using q1) (by simpa using q2) (hf j x' y' e1 e2)).1
     have rr:x4W A s (.ref p) (.ref q) b/\x4j A s (.ref p) (.ref q) (!b):=by
       by_cases hl:xs.length=ys.length
       · have e3:b=(x0L its.toArray.size).all f:=by rw [eb,hl,x4M,beq_self_eq_true,x3L,z1,hl]
         rw [e3];exact⟨SeqAt.RcAt.lists t1 t2 (by rw [z1,z2,hl]) hu0 he,SeqAt.RcNeAt.lists t1 t2 (by rw [z1,z2,hl]) hu0 he⟩
       · have e3:b=false:=by
           rw [eb];have:(xs.length == ys.length)=false:=by simpa using hl
           rw [this,Bool.and_false]
         rw [e3];have e4:(its.toArray.size != its2.toArray.size)=true:=by rw [z1,z2];simpa using hl
         exact⟨SeqAt.RcAt.lists_lengths t1 t2 e4 hu0,SeqAt.RcNeAt.lists_lengths t1 t2 e4 hu0⟩
     refine⟨?_,rr⟩
     by_cases hpq:p=q
     · subst hpq;rw [hrefl (.inr (.inr (.inl ⟨p,p,xs,ys,f,rfl,rfl,s1,s2,hf,eb⟩)))];exact .same _
     · exact .of_refs hpq rr.1
   · rcases h with⟨p,xs,rfl,hq,fy⟩ | ⟨p,xs,rfl,hq,fx⟩ | ⟨p,q,xs,ys,e1,e2,s1,s2⟩ | ⟨p,q,xs,ys,e1,e2,s1,s2⟩
     · cases rx;obtain⟨a1,a2,a3,a4,a5,a6⟩:=a4p I hu0 hq ry fy;exact⟨a5,a1,a2⟩
     · cases ry;obtain⟨a1,a2,a3,a4,a5,a6⟩:=a4p I hu0 hq rx fx;exact⟨a6,a3,a4⟩
     · subst e1 e2;cases rx;cases ry;obtain⟨its,r1,t1⟩:=I.sqT s1;obtain⟨its2,r2,t2⟩:=I.sqL s2;exact⟨.tuple_list t1 t2 hu0,.tuple_list t1 t2 hu0,.tuple_list t1 t2 hu0⟩
     · subst e1 e2;cases rx;cases ry;obtain⟨its,r1,t1⟩:=I.sqL s1;obtain⟨its2,r2,t2⟩:=I.sqT s2;exact⟨.list_tuple t1 t2 hu0,.list_tuple t1 t2 hu0,.list_tuple t1 t2 hu0⟩
end
section
variable {X:Cx}
noncomputable def rEqD (K:x0b)(d:Nat)(neg:Bool):R2:=fun x y H Q=>∃b,EqD K H d x y b/\Q (.bl (if neg then !b else b)) H
theorem op_eqD (d:Nat)(hu:X.A.units + d < cLine):OpR X (x1J .Eq) (rEqD X.K d false):=by
 intro pins s σ H x y v u Q I rx ry h;obtain⟨b,hb,q⟩:=h;exact(hb.at I d X.A x y v u b hu rx ry).2.1 X.prog X.w X.xe _ ⟨.bl _,H,I,rfl,q⟩
theorem op_neD (d:Nat)(hu:X.A.units + d < cLine):OpR X (x1J .NotEq) (rEqD X.K d true):=by
 intro pins s σ H x y v u Q I rx ry h;obtain⟨b,hb,q⟩:=h;exact(hb.at I d X.A x y v u b hu rx ry).2.2 X.prog X.w X.xe _ ⟨.bl _,H,I,rfl,q⟩
noncomputable def rInD (K:x0b)(d:Nat)(neg:Bool):R2:=fun x y H Q=>∃p ys,∃f:Nat->Bool,y=.ref p/\(SqL K H p ys\/SqT K H p ys)/\(∀(j:Nat) z,ys[j]?=some z->EqD K H d z x (f j))/\Q (.bl (if neg then !((x0L ys.length).any f) else(x0L ys.length).any f)) H
theorem a5w {n:Nat}{f g:Nat->Bool}(h:∀j,j < n->f j=g j):(x0L n).all f=(x0L n).all g:=by
 rw [x2F,x0A,x0A];constructor
 · intro k j hj;rw [<- h j (x0N.mp hj)];exact k j hj
 · intro k j hj;rw [h j (x0N.mp hj)];exact k j hj
theorem EqD.det {pins:List (Addr×Obj)}{σ:St}{H:Hp}{s:Shared}(I:Inv X pins σ H s):∀(d:Nat) (x y:V) (b b':Bool),EqD X.K H d x y b->EqD X.K H d x y b'->b=b':=by
 intro d
 induction d with
 | zero =>
   intro x y b b' h h';rw [h.2.2,h'.2.2]
 | succ d ih =>
   intro x y b b' h h';rcases h with⟨h1,h2,rfl⟩ | ⟨p,q,xs,ys,f,rfl,rfl,s1,s2,hf,rfl⟩ | ⟨p,q,xs,ys,f,rfl,rfl,s1,s2,hf,rfl⟩ | ⟨rfl,h⟩
   · rcases h' with⟨h1',h2',rfl⟩ | ⟨p,q,xs,ys,f,rfl,rfl,s1,s2,hf,rfl⟩ | ⟨p,q,xs,ys,f,rfl,rfl,s1,s2,hf,rfl⟩ | ⟨rfl,h⟩
     · rfl
     · cases h1
     · cases h1
     · rcases h with⟨p,xs,rfl,_,h⟩ | ⟨p,xs,rfl,_,h⟩ | ⟨p,q,xs,ys,rfl,rfl,s1,s2⟩ | ⟨p,q,xs,ys,rfl,rfl,s1,s2⟩
       · cases h1
       · cases h2
       · cases h1
       · cases h1
   · rcases h' with⟨h1',h2',rfl⟩ | ⟨p',q',xs',ys',f',e1,e2,s1',s2',hf',rfl⟩ | ⟨p',q',xs',ys',f',e1,e2,s1',s2',hf',rfl⟩ | ⟨rfl,h⟩
     · cases h1'
     · cases e1;cases e2;have:=I.tuple_inj s1 s1';subst this;have:=I.tuple_inj s2 s2';subst this;rw [a5w fun j hj=>ih _ _ _ _ (hf j (xs[j]'(by omega)) (ys[j]'(by omega)) (x0c _) (x0c _)) (hf' j (xs[j]'(by omega)) (ys[j]'(by omega)) (x0c _) (x0c _))]
     · cases e1;exact(a2r I s1 s1').elim
     · rcases h with⟨p',xs',e1,_,h⟩ | ⟨p',xs',e1,_,h⟩ | ⟨p',q',xs',ys',e1,e2,s1',s2'⟩ | ⟨p',q',xs',ys',e1,e2,s1',s2'⟩
       · cases h
       · cases h
       · cases e2;exact(a2r I s2 s2').elim
       · cases e1;exact(a2r I s1 s1').elim
   · rcases h' with⟨h1',h2',rfl⟩ | ⟨p',q',xs',ys',f',e1,e2,s1',s2',hf',rfl⟩ | ⟨p',q',xs',ys',f',e1,e2,s1',s2',hf',rfl⟩ | ⟨rfl,h⟩
     · cases h1'
     · cases e1;exact(a2r I s1' s1).elim
     · cases e1;cases e2;have:=I.list_inj s1 s1';subst this;have:=I.list_inj s2 s2';subst this;rw [a5w fun j hj=>ih _ _ _ _ (hf j (xs[j]'(by omega)) (ys[j]'(by omega)) (x0c _) (x0c _)) (hf' j (xs[j]'(by omega)) (ys[j]'(by omega)) (x0c _) (x0c _))]
     · rcases h with⟨p',xs',e1,_,h⟩ | ⟨p',xs',e1,_,h⟩ | ⟨p',q',xs',ys',e1,e2,s1',s2'⟩ | ⟨p',q',xs',ys',e1,e2,s1',s2'⟩
       · cases h
       · cases h
       · cases e1;exact(a2r I s1' s1).elim
       · cases e2;exact(a2r I s2' s2).elim
   · rcases h' with⟨h1',h2',rfl⟩ | ⟨p',q',xs',ys',f',rfl,rfl,s1',s2',hf',rfl⟩ | ⟨p',q',xs',ys',f',rfl,rfl,s1',s2',hf',rfl⟩ | ⟨rfl,h'⟩
     · rcases h with⟨p,xs,rfl,_,h⟩ | ⟨p,xs,rfl,_,h⟩ | ⟨p,q,xs,ys,rfl,rfl,s1,s2⟩ | ⟨p,q,xs,ys,rfl,rfl,s1,s2⟩
       · cases h1'
       · cases h2'
       · cases h1'
       · cases h1'
     · rcases h with⟨p,xs,e1,_,h⟩ | ⟨p,xs,e1,_,h⟩ | ⟨p,q,xs,ys,e1,e2,s1,s2⟩ | ⟨p,q,xs,ys,e1,e2,s1,s2⟩
       · cases h
       · cases h
       · cases e2;exact(a2r I s2' s2).elim
       · cases e1;exact(a2r I s1' s1).elim
     · rcases h with⟨p,xs,e1,_,h⟩ | ⟨p,xs,e1,_,h⟩ | ⟨p,q,xs,ys,e1,e2,s1,s2⟩ | ⟨p,q,xs,ys,e1,e2,s1,s2⟩
       · cases h
       · cases h
       · cases e1;exact(a2r I s1 s1').elim
       · cases e2;exact(a2r I s2 s2').elim
     · rfl
open Classical in
theorem a8r {pins:List (Addr×Obj)}{σ:St}{H:Hp}{s:Shared}(I:Inv X pins σ H s){d:Nat}{A:Around}(hu:A.units + d < cLine){ys:List V}{its:List Value}(r:Vals ys its){x:V}{v:Value}(rx:RelV x v){f:Nat->Bool}(hf:∀(j:Nat) z,ys[j]?=some z->EqD X.K H d z x (f j)) :
   ∃e:Value->Bool,(∀y,y∈its->x3Y A s y v (e y))/\its.any e=(x0L ys.length).any f:=by
 have key:∀(j j':Nat) (z:Value),its[j]?=some z->its[j']?=some z->f j=f j':=by
   intro j j' z h h';obtain⟨hj,_⟩:=x0i.mp h;obtain⟨hj',_⟩:=x0i.mp h';obtain⟨w1,a1,b1⟩:=r.getE hj;obtain⟨w2,a2,b2⟩:=r.getE hj';rw [x0c hj] at h;rw [x0c hj'] at h';cases h;rw [x0H h'] at b2;have:=b1.inj b2;subst this;exact EqD.det I d _ _ _ _ (hf j _ a1) (hf j' _ a2)
 let e:Value->Bool:=fun y=>decide (∃j,its[j]?=some y/\f j=true)
 have he:∀(j:Nat) (y:Value),its[j]?=some y->e y=f j:=by
   intro j y h;show decide _=_;cases hb:f j with
   | true=>exact decide_eq_true ⟨j,h,hb⟩
   | false=>exact decide_eq_false fun⟨j',h1,h2⟩=>by rw [key j j' y h h1,h2] at hb;cases hb
 refine⟨e,fun y hy=>?_,?_⟩
 · obtain⟨j,hj,rfl⟩:=x2n hy;obtain⟨w1,a1,b1⟩:=r.getE hj;rw [he j _ (x0c hj)];exact((hf j w1 a1).at I d A w1 x _ v (f j) hu b1 rx).1
 · have hl:=r.length;rw [x2F,x2f,x2f];constructor
   · rintro⟨y,hy,h⟩;obtain⟨j,hj,rfl⟩:=x2n hy;exact⟨j,x0N.mpr (by omega),by rw [<- he j _ (x0c hj)];exact h⟩
   · rintro⟨j,hj,h⟩;have hj':j < its.length:=by have:=x0N.mp hj;omega
     exact⟨its[j],x2q hj',by rw [he j _ (x0c hj')];exact h⟩
theorem op_inD (d:Nat)(hu:X.A.units + (d + 1) < cLine):OpR X (x1J .In) (rInD X.K d false):=by
 intro pins s σ H x y v u Q I rx ry h;obtain⟨p,ys,f,rfl,hq,hf,q⟩:=h;cases ry;rcases hq with hq | hq
 · obtain⟨its,r,il⟩:=I.sqL hq;obtain⟨e,h1,h2⟩:=a8r I (A:=X.A.in1) (by rw [in1_units];omega) r rx hf;refine SeqAt.in_listAt e il (fun y hy=>h1 y (by simpa using hy)) ⟨.bl _,H,I,rfl,?_⟩;rw [show its.toArray.any e=its.any e by simp,h2];exact q
 · obtain⟨its,r,il⟩:=I.sqT hq;obtain⟨e,h1,h2⟩:=a8r I (A:=X.A.in1) (by rw [in1_units];omega) r rx hf;refine SeqAt.in_tupleAt e il (fun y hy=>h1 y (by simpa using hy)) ⟨.bl _,H,I,rfl,?_⟩;rw [show its.toArray.any e=its.any e by simp,h2];exact q
theorem b0y (d:Nat)(hu:X.A.units + (d + 1) < cLine):OpR X (x1J .NotIn) (rInD X.K d true):=by
 intro pins s σ H x y v u Q I rx ry h;obtain⟨p,ys,f,rfl,hq,hf,q⟩:=h;cases ry;rcases hq with hq | hq
 · obtain⟨its,r,il⟩:=I.sqL hq;obtain⟨e,h1,h2⟩:=a8r I (A:=X.A.in1) (by rw [in1_units];omega) r rx hf;refine SeqAt.notIn_listAt e il (fun y hy=>h1 y (by simpa using hy)) ⟨.bl _,H,I,rfl,?_⟩;rw [show its.toArray.any e=its.any e by simp,h2];exact q
 · obtain⟨its,r,il⟩:=I.sqT hq;obtain⟨e,h1,h2⟩:=a8r I (A:=X.A.in1) (by rw [in1_units];omega) r rx hf;refine SeqAt.notIn_tupleAt e il (fun y hy=>h1 y (by simpa using hy)) ⟨.bl _,H,I,rfl,?_⟩;rw [show its.toArray.any e=its.any e by simp,h2];exact q
end
end L2
namespace Pu
open PySem PySem.Spec L2
noncomputable def a3S:PV->Bool
 | .non=>true
 | .bl _=>true
 | .int _=>true
 | .str _=>true
 | _=>false
noncomputable def cmpb:Nat->PV->Bool
 | 0,x=>a3S x
 | d + 1,.tup xs=>xs.all (cmpb d)
 | d + 1,.lst xs=>xs.all (cmpb d)
 | _ + 1,x=>a3S x
mutual
noncomputable def eqP:PV->PV->Bool
 | .non,.non=>true
 | .bl a,.bl b=>a == b
 | .bl a,.int b=>(if a then 1 else 0) == b
 | .int a,.bl b=>a == (if b then 1 else 0)
 | .int a,.int b=>a == b
 | .str a,.str b=>a == b
 | .tup xs,.tup ys=>eqPs xs ys
 | .lst xs,.lst ys=>eqPs xs ys
 | _,_=>false
noncomputable def eqPs:List PV->List PV->Bool
 | [],[]=>true
 | x::xs,y::ys=>eqP x y && eqPs xs ys
 | _,_=>false
end
theorem a3J:∀(xs ys:List PV),((x0L (min xs.length ys.length)).all (fun j=>match xs[j]?,ys[j]? with | some x,some y=>eqP x y | _,_=>false) && xs.length == ys.length)=eqPs xs ys
 | [],[]=>rfl
 | [],_::_=>rfl
 | _::_,[]=>rfl
 | x :: xs, y :: ys => by
   have ih:=a3J xs ys;show _=(eqP x y && eqPs xs ys);rw [<- ih];simp only [x0K,Nat.succ_min_succ,List.range_succ_eq_map,List.all_cons,List.all_map,Function.comp_def,x2R,x1N];rw [Bool.and_assoc]
   congr 1
   simp
end Pu
end
section
namespace Pu
open PySem PySem.Spec L2
section
variable {K:x0b}{G:Gh}{H:Hp}
inductive Sort3 (K:x0b)(G:Gh)(H:Hp)(d:Nat)(x:PV)(v:V):Prop where
 | fl (h:a2Y v=true) (s:a3S x=true)
 | tp (p:Addr) (xs:List PV) (vs:List V) (e:x=.tup xs) (ev:v=.ref p) (h:SqT K H p vs) (r:Reps K G H xs vs) (c:xs.all (cmpb d)=true)
 | ls (p:Addr) (xs:List PV) (vs:List V) (e:x=.lst xs) (ev:v=.ref p) (h:SqL K H p vs) (r:Reps K G H xs vs) (c:xs.all (cmpb d)=true)
theorem a3I {x:PV}{v:V}(s:a3S x=true)(h:RdV K G H x v):a2Y v=true:=by
 cases x with
 | non=>rw [h.non];rfl
 | bl b=>rw [h.bl];rfl
 | int b=>rw [h.int];rfl
 | str b=>rw [h.str];rfl
 | _=>cases s
theorem b2d {d:Nat}{x:PV}{v:V}(c:cmpb (d + 1) x=true)(h:RdV K G H x v):Sort3 K G H d x v:=by
 cases x with
 | tup xs =>
   obtain⟨a,vs,e,t,r⟩:=h.tup;exact .tp a xs vs rfl e t r c
 | lst xs =>
   obtain⟨a,vs,e,t,r⟩:=h.lst;exact .ls a xs vs rfl e t r c
 | non=>exact .fl (a3I c h) c
 | bl _=>exact .fl (a3I c h) c
 | int _=>exact .fl (a3I c h) c
 | str _=>exact .fl (a3I c h) c
 | ty _=>cases c
 | pot _=>cases c
 | scr _=>cases c
 | dct _ _=>cases c
theorem b1t {x y:PV}{v u:V}(sx:a3S x=true)(sy:a3S y=true)(hx:RdV K G H x v)(hy:RdV K G H y u):eqP x y=eqV v u:=by
 cases x with
 | non =>
   cases hx.non;cases y with
   | non=>cases hy.non;rfl
   | bl j=>cases hy.bl;rfl
   | int j=>cases hy.int;rfl
   | str j=>cases hy.str;rfl
   | _=>cases sy
 | bl i =>
   cases hx.bl;cases y with
   | non=>cases hy.non;rfl
   | bl j=>cases hy.bl;rfl
   | int j=>cases hy.int;rfl
   | str j=>cases hy.str;rfl
   | _=>cases sy
 | int i =>
   cases hx.int;cases y with
   | non=>cases hy.non;rfl
   | bl j=>cases hy.bl;rfl
   | int j=>cases hy.int;rfl
   | str j=>cases hy.str;rfl
   | _=>cases sy
 | str i =>
   cases hx.str;cases y with
   | non=>cases hy.non;rfl
   | bl j=>cases hy.bl;rfl
   | int j=>cases hy.int;rfl
   | str j=>cases hy.str;rfl
   | _=>cases sy
 | _=>cases sx
theorem a8w {xs:List PV}{y:PV}(sy:a3S y=true):eqP (.tup xs) y=false/\eqP (.lst xs) y=false/\eqP y (.tup xs)=false/\eqP y (.lst xs)=false:=by
 cases y <;> first | exact⟨rfl,rfl,rfl,rfl⟩ | cases sy
theorem a8x:∀(d:Nat) (x y:PV) (v u:V),cmpb d x=true->cmpb d y=true->RdV K G H x v->RdV K G H y u->EqD K H d v u (eqP x y):=by
 intro d
 induction d with
 | zero=>intro x y v u cx cy hx hy;exact⟨a3I cx hx,a3I cy hy,b1t cx cy hx hy⟩
 | succ d ih =>
   intro x y v u cx cy hx hy
   have el:∀(xs ys:List PV) (vs us:List V),Reps K G H xs vs->Reps K G H ys us->xs.all (cmpb d)=true->ys.all (cmpb d)=true->∀(j:Nat) x' y',vs[j]?=some x'->us[j]?=some y'->EqD K H d x' y' (match xs[j]?,ys[j]? with | some x,some y=>eqP x y | _,_=>false):=by
     intro xs ys vs us r1 r2 c1 c2 j x' y' e1 e2;obtain⟨x1,ex,rx⟩:=r1.get e1;obtain⟨y1,ey,ry⟩:=r2.get e2;rw [ex,ey];exact ih x1 y1 x' y' (x0A.mp c1 x1 (x0u ex)) (x0A.mp c2 y1 (x0u ey)) (.inl rx) (.inl ry)
   cases b2d cx hx with
   | fl fx sx =>
     cases b2d cy hy with
     | fl fy sy=>exact .inl ⟨fx,fy,b1t sx sy hx hy⟩
     | tp q ys us e ev h r c=>subst e;exact .inr (.inr (.inr ⟨(a8w sx).2.2.1,.inr (.inl ⟨q,us,ev,.inl h,fx⟩)⟩))
     | ls q ys us e ev h r c=>subst e;exact .inr (.inr (.inr ⟨(a8w sx).2.2.2,.inr (.inl ⟨q,us,ev,.inr h,fx⟩)⟩))
   | tp p xs vs e ev h r c =>
     subst e;cases b2d cy hy with
     | fl fy sy=>exact .inr (.inr (.inr ⟨(a8w sy).1,.inl ⟨p,vs,ev,.inl h,fy⟩⟩))
     | tp q ys us e2 ev2 h2 r2 c2 =>
       subst e2;refine .inr (.inl ⟨p,q,vs,us,_,ev,ev2,h,h2,el xs ys vs us r r2 c c2,?_⟩);rw [<- r.length,<- r2.length];exact(a3J xs ys).symm
     | ls q ys us e2 ev2 h2 r2 c2=>subst e2;exact .inr (.inr (.inr ⟨rfl,.inr (.inr (.inl ⟨p,q,vs,us,ev,ev2,h,h2⟩))⟩))
   | ls p xs vs e ev h r c =>
     subst e;cases b2d cy hy with
     | fl fy sy=>exact .inr (.inr (.inr ⟨(a8w sy).2.1,.inl ⟨p,vs,ev,.inr h,fy⟩⟩))
     | tp q ys us e2 ev2 h2 r2 c2=>subst e2;exact .inr (.inr (.inr ⟨rfl,.inr (.inr (.inr ⟨p,q,vs,us,ev,ev2,h,h2⟩))⟩))
     | ls q ys us e2 ev2 h2 r2 c2 =>
       subst e2;refine .inr (.inr (.inl ⟨p,q,vs,us,_,ev,ev2,h,h2,el xs ys vs us r r2 c c2,?_⟩));rw [<- r.length,<- r2.length];exact(a3J xs ys).symm
end
section
variable {T:PotK}{ι:Type}{K:x0b}{F:ι->Cx}{e a b c:Expr}{es rest:List Expr}{pe pa pb pc:pE}{pos:Pos}
variable {op op':CmpOp}{w':w2}
noncomputable def grd (b:Bool)(P:Prop):Prop:=match b with | true=>P | false=>False
theorem grd_t {P:Prop}:grd true P=P:=rfl
theorem grd_i {b:Bool}{P:Prop}(h:b=true)(p:P):grd b P:=by subst h;exact p
theorem b3i {b:Bool}{P:Prop}(h:grd b P):b=true:=by cases b;exact h.elim;rfl
theorem a9r {b:Bool}{P:Prop}(h:grd b P):P:=by cases b;exact h.elim;exact h
theorem gd2 {a b:Bool}{P:Prop}(h1:a=true)(h2:b=true)(p:P):grd a (grd b P):=grd_i h1 (grd_i h2 p)
noncomputable def wEq (d:Nat):w2:=fun x y R=>grd (cmpb d x) (grd (cmpb d y) (R (.bl (eqP x y))))
noncomputable def wNe (d:Nat):w2:=fun x y R=>grd (cmpb d x) (grd (cmpb d y) (R (.bl (!eqP x y))))
theorem W2.eq {K:x0b}(d:Nat):W2 K (rEqD K d false) (wEq d):=fun G H x y v u R Q hf rx ry hw k=>⟨_,a8x d x y v u (b3i hw) (b3i (a9r hw)) rx ry,k _ _ _ (a9r (a9r hw)) (Same.refl _) rfl⟩
theorem W2.ne {K:x0b}(d:Nat):W2 K (rEqD K d true) (wNe d):=fun G H x y v u R Q hf rx ry hw k=>⟨_,a8x d x y v u (b3i hw) (b3i (a9r hw)) rx ry,k _ _ _ (a9r (a9r hw)) (Same.refl _) rfl⟩
noncomputable def memP (x:PV)(ys:List PV):Bool:=ys.any fun y=>eqP y x
noncomputable def wIn (d:Nat)(neg:Bool):w2:=fun x y R=>match x,y with
 | .str i,.str j=>R (.bl (if neg then !(!(x1M j i 0 j.length 1).isEmpty) else !(x1M j i 0 j.length 1).isEmpty))
 | x,.lst ys=>cmpb d x=true/\ys.all (cmpb d)=true/\R (.bl (if neg then !memP x ys else memP x ys))
 | x,.tup ys=>cmpb d x=true/\ys.all (cmpb d)=true/\R (.bl (if neg then !memP x ys else memP x ys))
 | _,_=>False
theorem a5p {x:PV}:∀ys:List PV,((x0L ys.length).any fun j=>match ys[j]? with | some y=>eqP y x | none=>false)=memP x ys
 | []=>rfl
 | y :: ys => by
   have ih:=a5p (x:=x) ys;show _=(eqP y x || memP x ys);rw [<- ih];simp only [x0K,List.range_succ_eq_map,List.any_cons,List.any_map,Function.comp_def,x2R,x1N]
theorem W2.in_ {K:x0b}(d:Nat)(neg:Bool){r:R2}(hr:∀x y H Q,(∃i j,x=.str i/\y=.str j/\Q (.bl (if neg then !(!(x1M j i 0 j.length 1).isEmpty) else !(x1M j i 0 j.length 1).isEmpty)) H)\/rInD K d neg x y H Q->r x y H Q):W2 K r (wIn d neg):=by
 intro G H x y v u R Q hf rx ry hw k;refine hr _ _ _ _ ?_
 have seq:∀(ys:List PV) (p:Addr) (us:List V),u=.ref p->(SqL K H p us\/SqT K H p us)->Reps K G H ys us->cmpb d x=true/\ys.all (cmpb d)=true/\R (.bl (if neg then !memP x ys else memP x ys))->rInD K d neg v u H Q:=by
   intro ys p us eu hq r h;refine⟨p,us,fun j=>match ys[j]? with | some y=>eqP y x | none=>false,eu,hq,fun j z ez=>?_,?_⟩
   · obtain⟨y1,ey,ry⟩:=r.get ez;dsimp only;rw [ey];exact a8x d y1 x z v (x0A.mp h.2.1 y1 (x0u ey)) h.1 (.inl ry) rx
   · rw [<- r.length,a5p];exact k _ _ _ h.2.2 (Same.refl _) rfl
 unfold wIn at hw
 split at hw
 · exact .inl ⟨_,_,rx.str,ry.str,k _ _ _ hw (Same.refl _) rfl⟩
 · obtain⟨p,us,eu,hq,r⟩:=ry.lst;exact .inr (seq _ p us eu (.inl hq) r hw)
 · obtain⟨p,us,eu,hq,r⟩:=ry.tup;exact .inr (seq _ p us eu (.inr hq) r hw)
 · exact hw.elim
noncomputable def wLt:w2:=fun x y R=>match x,y with | .int i,.int j=>R (.bl (decide (i < j))) | .str i,.str j=>R (.bl (decide (i.cps.toList < j.cps.toList))) | _,_=>False
noncomputable def wLe:w2:=fun x y R=>match x,y with | .int i,.int j=>R (.bl (decide (i<=j))) | .str i,.str j=>R (.bl (!decide (j.cps.toList < i.cps.toList))) | _,_=>False
noncomputable def wGt:w2:=wI0 fun i j=>.bl (decide (j < i))
theorem W2.lt {K:x0b}:W2 K (fun x y H Q=>(rI0 fun i j=>.bl (decide (i < j))) x y H Q\/∃i j,x=.str i/\y=.str j/\Q (.bl (decide (i.cps.toList < j.cps.toList))) H) wLt:=by
 intro G H x y v u R Q hf rx ry hw k;unfold wLt at hw
 split at hw
 · exact .inl ⟨_,_,rx.int,ry.int,k _ _ _ hw (Same.refl _) rfl⟩
 · exact .inr ⟨_,_,rx.str,ry.str,k _ _ _ hw (Same.refl _) rfl⟩
 · exact hw.elim
theorem W2.le {K:x0b}:W2 K (fun x y H Q=>(rI0 fun i j=>.bl (decide (i<=j))) x y H Q\/∃i j,x=.str i/\y=.str j/\Q (.bl (!decide (j.cps.toList < i.cps.toList))) H) wLe:=by
 intro G H x y v u R Q hf rx ry hw k;unfold wLe at hw
 split at hw
 · exact .inl ⟨_,_,rx.int,ry.int,k _ _ _ hw (Same.refl _) rfl⟩
 · exact .inr ⟨_,_,rx.str,ry.str,k _ _ _ hw (Same.refl _) rfl⟩
 · exact hw.elim
noncomputable def isNon:PV->Bool
 | .non=>true
 | _=>false
noncomputable def a7f:w2:=fun x y R=>match y with | .non=>R (.bl (!isNon x)) | _=>False
theorem isnon {K:x0b}{G:Gh}{H:Hp}{x:PV}{v:V}(h:RdV K G H x v):decide (v=.non)=isNon x:=by
 cases x with
 | non=>rw [h.non];rfl
 | bl b=>rw [h.bl];rfl
 | int b=>rw [h.int];rfl
 | str b=>rw [h.str];rfl
 | tup xs=>obtain⟨a,vs,e,_⟩:=h.tup;rw [e];rfl
 | lst xs=>obtain⟨a,vs,e,_⟩:=h.lst;rw [e];rfl
 | ty n=>rw [show v=.ty n from h.rep (fun _ z=>nomatch z)];rfl
 | pot k=>obtain⟨p,_,e⟩:=h.rep (fun _ z=>nomatch z);rw [e];rfl
 | scr k=>obtain⟨p,e,_⟩:=h.rep (fun _ z=>nomatch z);rw [e];rfl
 | dct ks xs=>obtain⟨a,kvs,e,_⟩:=h.rep (fun _ z=>nomatch z);rw [e];rfl
theorem W2.notN {K:x0b}:W2 K (fun x y H Q=>y=.non/\Q (.bl (!decide (x=.non))) H) a7f:=by
 intro G H x y v u R Q hf rx ry hw k;unfold a7f at hw
 split at hw
 · refine⟨ry.non,k _ _ _ hw (Same.refl _) ?_⟩;rw [isnon rx]
   rfl
 · exact hw.elim
structure Cmp {ι:Type}(K:x0b)(F:ι->Cx)(op:CmpOp)(w:w2):Prop where
 ex:∃r,(∀z,OpR (F z) (x1J op) r)/\W2 K r w
theorem cEq (d:Nat){k:Nat}(hr:∀z,Room k (F z).A)(hd:d<=30:=by decide)(hK:∀z,(F z).K=K:=by intro _;rfl):Cmp K F .Eq (wEq d):=⟨_,fun z=>hK z▸op_eqD d (by have:=(hr z).units;omega),W2.eq d⟩
theorem cNe (d:Nat){k:Nat}(hr:∀z,Room k (F z).A)(hd:d<=30:=by decide)(hK:∀z,(F z).K=K:=by intro _;rfl):Cmp K F .NotEq (wNe d):=⟨_,fun z=>hK z▸op_neD d (by have:=(hr z).units;omega),W2.ne d⟩
theorem cIn (d:Nat){k:Nat}(hr:∀z,Room k (F z).A)(hd:d<=30:=by decide)(hK:∀z,(F z).K=K:=by intro _;rfl):Cmp K F .In (wIn d false):=⟨_,fun z=>b0B.or (hK z▸op_inD d (by have:=(hr z).units;omega)),W2.in_ d false fun _ _ _ _ h=>h⟩
theorem a3s (d:Nat){k:Nat}(hr:∀z,Room k (F z).A)(hd:d<=30:=by decide)(hK:∀z,(F z).K=K:=by intro _;rfl):Cmp K F .NotIn (wIn d true):=⟨_,fun z=>a6u.or (hK z▸b0y d (by have:=(hr z).units;omega)),W2.in_ d true fun _ _ _ _ h=>h⟩
theorem cLt:Cmp K F .Lt wLt:=⟨_,fun _=>b5j.or b0z,W2.lt⟩
theorem cLe:Cmp K F .LtE wLe:=⟨_,fun _=>op_le.or b0A,W2.le⟩
theorem cGt:Cmp K F .Gt wGt:=⟨_,fun _=>op_gt,W2.I0 fun _ _ _ _=>rfl⟩
theorem b1L:Cmp K F .IsNot a7f:=⟨_,fun _=>b5i,W2.notN⟩
theorem a0D {w:w2}(hc:Cmp K F op w)(ha:QE T K F a pa)(hb:QR T K F b pb)(hm:x3k op b=false):QE T K F (.Compare a [op] [b] pos) (qOp w pa pb):=by
 obtain⟨r,ho,hw⟩:=hc.ex;obtain⟨ta,h1,h2⟩:=ha;obtain⟨tb,h3,h4⟩:=hb;exact⟨_,fun z=>b0w (ho z) (h1 z) (h3 z) hm,b0D hw h2 h4⟩
noncomputable def qB (pe:pE):pT:=fun env n R=>pe env n fun x env' n'=>match x with | .bl b=>R b env' n' | _=>False
theorem ok_b {K:x0b}{t:TE}(h:EOk K T t pe):TOk K T (tB t) (qB pe):=fun C G σ H env n R Q hK hT S hp k=>by
 refine h C G σ H env n _ _ hK hT S hp fun x env' n' v H' r S' rp f=>?_;cases x with
 | bl b=>exact⟨b,rp,k _ _ _ _ r S' f⟩
 | _=>exact r.elim
theorem a7w {K:x0b}{t:TE}(h:EOk K T t pe):TOk K T (b4w t) (qB pe):=fun C G σ H env n R Q hK hT S hp k=>by
 refine h C G σ H env n _ _ hK hT S hp fun x env' n' v H' r S' rp f=>?_;cases x with
 | bl b=>exact⟨b,rp,k _ _ _ _ r S' f⟩
 | _=>exact r.elim
theorem a1D (h:QE T K F e pe)(he:∀z whole,isTrue e (F z).env whole=(do let v ← whole;x4X e.pos;x3T [v] (truthy v)):=by intro _ _;rfl):QT T K F e (qB pe):=by
 obtain⟨t,h1,h2⟩:=h;exact⟨_,fun z=>pt_val (h1 z) (he z),ok_b h2⟩
theorem a0u {w:w2}(hc:Cmp K F op w)(ha:QE T K F a pa)(hb:QR T K F b pb)(hm:x3k op b=false):QT T K F (.Compare a [op] [b] pos) (qB (qOp w pa pb)):=by
 obtain⟨r,ho,hw⟩:=hc.ex;obtain⟨ta,h1,h2⟩:=ha;obtain⟨tb,h3,h4⟩:=hb;exact⟨_,fun z=>a4x (ho z) (h1 z) (h3 z) hm,a7w (b0D hw h2 h4)⟩
theorem b4K {w:w2}(hc:Cmp K F op w)(ha:QR T K F a pa)(hb:QR T K F b pb)(hm:x3k op b=false):QT T K F (.Compare a [op] [b] pos) (qB (qOpR w pa pb)):=by
 obtain⟨r,ho,hw⟩:=hc.ex;obtain⟨ta,h1,h2⟩:=ha;obtain⟨tb,h3,h4⟩:=hb;exact⟨_,fun z=>a4x (ho z) (h1 z) (h3 z) hm,a7w (ok_opR hw h2 h4)⟩
noncomputable def a4w (w w':w2)(pa pb pc:pE):pE:=fun env n R=>pa env n fun x env1 n1=>pb env1 n1 fun y env2 n2=>w x y fun z=>match z with | .bl k=>if k=true then pc env2 n2 fun u env3 n3=>w' y u fun z=>R z env3 n3 else R (.bl false) env2 n2 | _=>False
theorem a8k {K:x0b}{r r':R2}{w:w2}{ta tb tc:TE}(hw:W2 K r w)(hw':W2 K r' w')(ha:EOk K T ta pa)(hb:EOk K T tb pb)(hc:EOk K T tc pc):EOk K T (a9M r r' ta tb tc) (a4w w w' pa pb pc):=fun C G σ H env n R Q hK hT S hp k=>by
 refine ha C G σ H env n _ _ hK hT S hp fun x env1 n1 v H1 p1 S1 r1 f1=>?_;refine hb C G σ H1 env1 n1 _ _ hK hT S1 p1 fun y env2 n2 u H2 p2 S2 r2 f2=>?_;subst hK;refine hw G H2 x y v u _ _ (fun p hp=>S2.fresh hp) (.inl (r1.fr f2)) (.inl r2) p2 fun z v' H' rz s rv=>?_;cases z with
 | bl kk =>
   refine⟨kk,rv,?_⟩;cases kk with
   | false=>exact k _ _ _ _ _ rz (S2.same s) rfl ((f1.trans f2).trans (Fr.of s))
   | true =>
     refine hc C G σ H' env2 n2 _ _ rfl hT (S2.same s) rz fun c3 env3 n3 v3 H3 p3 S3 r3 f3=>?_;exact hw' G H3 y c3 u v3 _ _ (fun p hp=>S3.fresh hp) (.inl ((r2.same s).fr f3)) (.inl r3) p3 fun z v' H4 rz s4 rv=>k _ _ _ _ _ rz (S3.same s4) rv ((((f1.trans f2).trans (Fr.of s)).trans f3).trans (Fr.of s4))
 | _=>exact rz.elim
theorem b2v {w:w2}(hc:Cmp K F op w)(hc':Cmp K F op' w')(ha:QE T K F a pa)(hb:QE T K F b pb)(hcc:QE T K F c pc)(hm:lastMarks [op,op'] [b,c]=false:=by with_unfolding_all rfl):QE T K F (.Compare a [op,op'] [b,c] pos) (a4w w w' pa pb pc):=by
 obtain⟨r,ho,hw⟩:=hc.ex;obtain⟨r',ho',hw'⟩:=hc'.ex;obtain⟨ta,a1,a2⟩:=ha;obtain⟨tb,b1,b2⟩:=hb;obtain⟨tc,c1,c2⟩:=hcc;exact⟨_,fun z=>b2J (ho z) (ho' z) (a1 z) (b1 z) (c1 z) hm,a8k hw hw' a2 b2 c2⟩
theorem b2n {w:w2}(hc:Cmp K F op w)(hc':Cmp K F op' w')(ha:QE T K F a pa)(hb:QE T K F b pb)(hcc:QE T K F c pc)(hm:lastMarks [op,op'] [b,c]=false:=by with_unfolding_all rfl):QT T K F (.Compare a [op,op'] [b,c] pos) (qB (a4w w w' pa pb pc)):=by
 obtain⟨r,ho,hw⟩:=hc.ex;obtain⟨r',ho',hw'⟩:=hc'.ex;obtain⟨ta,a1,a2⟩:=ha;obtain⟨tb,b1,b2⟩:=hb;obtain⟨tc,c1,c2⟩:=hcc;exact⟨_,fun z=>b2z (ho z) (ho' z) (a1 z) (b1 z) (c1 z) hm,a7w (a8k hw hw' a2 b2 c2)⟩
variable {pt pu:pT}
noncomputable def qAnd (t u:pT):pT:=fun env n R=>t env n fun b env1 n1=>if b=true then u env1 n1 R else R false env1 n1
noncomputable def qOr (t u:pT):pT:=fun env n R=>t env n fun b env1 n1=>if b=true then R true env1 n1 else u env1 n1 R
noncomputable def qNot (t:pT):pT:=fun env n R=>t env n fun b env1 n1=>R (!b) env1 n1
theorem ok_and {K:x0b}{t u:TT}(h:TOk K T t pt)(h':TOk K T u pu):TOk K T (tAnd t u) (qAnd pt pu):=fun C G σ H env n R Q hK hT S hp k=>by
 refine h C G σ H env n _ _ hK hT S hp fun b env1 n1 H1 p1 S1 f1=>?_;cases b with
 | true=>exact h' C G σ H1 env1 n1 _ _ hK hT S1 p1 fun b env2 n2 H2 p2 S2 f2=>k _ _ _ _ p2 S2 (f1.trans f2)
 | false=>exact k _ _ _ _ p1 S1 f1
theorem ok_or {K:x0b}{t u:TT}(h:TOk K T t pt)(h':TOk K T u pu):TOk K T (tOr t u) (qOr pt pu):=fun C G σ H env n R Q hK hT S hp k=>by
 refine h C G σ H env n _ _ hK hT S hp fun b env1 n1 H1 p1 S1 f1=>?_;cases b with
 | false=>exact h' C G σ H1 env1 n1 _ _ hK hT S1 p1 fun b env2 n2 H2 p2 S2 f2=>k _ _ _ _ p2 S2 (f1.trans f2)
 | true=>exact k _ _ _ _ p1 S1 f1
theorem ok_not {K:x0b}{t:TT}(h:TOk K T t pt):TOk K T (tNot t) (qNot pt):=fun C G σ H env n R Q hK hT S hp k=>h C G σ H env n _ _ hK hT S hp fun b env1 n1 H1 p1 S1 f1=>k _ _ _ _ p1 S1 f1
theorem a3z (ha:QT T K F a pt):QW T K F (.BoolOp .And [a] pos) pt:=let ⟨t,h1,h2⟩:=ha;⟨t,fun z=>b4V (h1 z),h2⟩
theorem a3i (ha:QT T K F a pt):QW T K F (.BoolOp .Or [a] pos) pt:=let ⟨t,h1,h2⟩:=ha;⟨t,fun z=>pw_or1 (h1 z),h2⟩
theorem a5l (ha:QT T K F a pt)(hb:QW T K F (.BoolOp .And (b::rest) pos) pu):QW T K F (.BoolOp .And (a::b::rest) pos) (qAnd pt pu):=let ⟨t,h1,h2⟩:=ha;let ⟨u,h3,h4⟩:=hb;⟨_,fun z=>pw_and (h1 z) (h3 z),ok_and h2 h4⟩
theorem a4q (ha:QT T K F a pt)(hb:QW T K F (.BoolOp .Or (b::rest) pos) pu):QW T K F (.BoolOp .Or (a::b::rest) pos) (qOr pt pu):=let ⟨t,h1,h2⟩:=ha;let ⟨u,h3,h4⟩:=hb;⟨_,fun z=>pw_or (h1 z) (h3 z),ok_or h2 h4⟩
theorem QW.qt (h:QW T K F e pt):QT T K F e pt:=let ⟨t,h1,h2⟩:=h;⟨t,fun z=>(h1 z).pt,h2⟩
theorem a2N (ha:QT T K F a pt):QT T K F (.UnaryOp .Not a pos) (qNot pt):=let ⟨t,h1,h2⟩:=ha;⟨_,fun z=>pt_not (h1 z),ok_not h2⟩
noncomputable def a2L (pa pb:pE):pE:=fun env n R=>pa env n fun x env1 n1=>match x with | .bl b=>if b=true then pb env1 n1 R else R (.bl false) env1 n1 | _=>False
noncomputable def qOrV (pa pb:pE):pE:=fun env n R=>pa env n fun x env1 n1=>match x with | .bl b=>if b=true then R (.bl true) env1 n1 else pb env1 n1 R | _=>False
noncomputable def b4T (pa:pE):pE:=fun env n R=>pa env n fun x env1 n1=>match x with | .bl b=>R (.bl (!b)) env1 n1 | _=>False
theorem a1O {op}(h:QE T K F a pa):QE T K F (.BoolOp op [a] pos) pa:=let ⟨t,h1,h2⟩:=h;⟨t,fun z=>pe_one (h1 z),h2⟩
theorem a1Y (ha:QE T K F a pa)(hb:QE T K F (.BoolOp .And (b::rest) pos) pb):QE T K F (.BoolOp .And (a::b::rest) pos) (a2L pa pb):=by
 obtain⟨t,h1,h2⟩:=ha;obtain⟨u,h3,h4⟩:=hb;refine⟨_,fun z=>pe_and (h1 z) (h3 z),fun C G σ H env n R Q hK hT S hp k=>?_⟩;refine h2 C G σ H env n _ _ hK hT S hp fun x env1 n1 v H1 p1 S1 r1 f1=>?_;cases x with
 | bl c =>
   refine⟨c,r1,?_⟩;cases c with
   | true=>exact h4 C G σ H1 env1 n1 _ _ hK hT S1 p1 fun x env2 n2 v H2 p2 S2 r2 f2=>k _ _ _ _ _ p2 S2 r2 (f1.trans f2)
   | false=>exact k _ _ _ _ _ p1 S1 rfl f1
 | _=>exact p1.elim
theorem b4N (ha:QE T K F a pa)(hb:QE T K F (.BoolOp .Or (b::rest) pos) pb):QE T K F (.BoolOp .Or (a::b::rest) pos) (qOrV pa pb):=by
 obtain⟨t,h1,h2⟩:=ha;obtain⟨u,h3,h4⟩:=hb;refine⟨_,fun z=>pe_or (h1 z) (h3 z),fun C G σ H env n R Q hK hT S hp k=>?_⟩;refine h2 C G σ H env n _ _ hK hT S hp fun x env1 n1 v H1 p1 S1 r1 f1=>?_;cases x with
 | bl c =>
   refine⟨c,r1,?_⟩;cases c with
   | false=>exact h4 C G σ H1 env1 n1 _ _ hK hT S1 p1 fun x env2 n2 v H2 p2 S2 r2 f2=>k _ _ _ _ _ p2 S2 r2 (f1.trans f2)
   | true=>exact k _ _ _ _ _ p1 S1 rfl f1
 | _=>exact p1.elim
theorem qe_not (ha:QE T K F a pa):QE T K F (.UnaryOp .Not a pos) (b4T pa):=by
 obtain⟨t,h1,h2⟩:=ha;refine⟨_,fun z=>pe_not (h1 z),fun C G σ H env n R Q hK hT S hp k=>?_⟩;refine h2 C G σ H env n _ _ hK hT S hp fun x env1 n1 v H1 p1 S1 r1 f1=>?_;cases x with
 | bl c=>exact⟨c,r1,k _ _ _ _ _ p1 S1 rfl f1⟩
 | _=>exact p1.elim
noncomputable def qIf (t:pT)(pa pb:pE):pE:=fun env n R=>t env n fun b env1 n1=>if b=true then pa env1 n1 R else pb env1 n1 R
theorem b4P (hc:QT T K F c pt)(ha:QE T K F a pa)(hb:QE T K F b pb):QE T K F (.IfExp c a b pos) (qIf pt pa pb):=by
 obtain⟨tc,c1,c2⟩:=hc;obtain⟨t,h1,h2⟩:=ha;obtain⟨u,h3,h4⟩:=hb;refine⟨_,fun z=>a5K (c1 z) (h1 z) (h3 z),fun C G σ H env n R Q hK hT S hp k=>?_⟩;refine c2 C G σ H env n _ _ hK hT S hp fun d env1 n1 H1 p1 S1 f1=>?_;cases d with
 | true=>exact h2 C G σ H1 env1 n1 _ _ hK hT S1 p1 fun x env2 n2 v H2 p2 S2 r2 f2=>k _ _ _ _ _ p2 S2 r2 (f1.trans f2)
 | false=>exact h4 C G σ H1 env1 n1 _ _ hK hT S1 p1 fun x env2 n2 v H2 p2 S2 r2 f2=>k _ _ _ _ _ p2 S2 r2 (f1.trans f2)
variable {pl pr:pA}
noncomputable def qNil:pA:=fun env n R=>R [] env n
noncomputable def a0c (pe:pE)(pr:pA):pA:=fun env n R=>pe env n fun x env1 n1=>pr env1 n1 fun xs env2 n2=>R (x::xs) env2 n2
theorem a0g:QA T K F [] qNil:=⟨_,fun _=>a0E,fun C G σ H env n R Q hK hT S hp k=>k _ _ _ _ _ hp S Reps.nil Fr.refl⟩
theorem b5n {K:x0b}{t:TE}{u:TA}(h:EOk K T t pe)(h':AOk K T u pr):AOk K T (a3c t u) (a0c pe pr):=fun C G σ H env n R Q hK hT S hp k=>by
 refine h C G σ H env n _ _ hK hT S hp fun x env1 n1 v H1 p1 S1 r1 f1=>?_;exact h' C G σ H1 env1 n1 _ _ hK hT S1 p1 fun xs env2 n2 vs H2 p2 S2 r2 f2=>k _ _ _ _ _ p2 S2 (.cons (r1.fr f2) r2) (f1.trans f2)
noncomputable def a0v:Expr->Bool
 | .Starred ..=>false
 | _=>true
theorem a0e {e:Expr}{es:List Expr}{env:PySem.Env}(h:a0v e=true):x1h (e::es) env=(false,eval e env)::x1h es env:=by
 cases e <;> first | rfl | cases h
theorem a0b (ha:QE T K F e pe)(hr:QA T K F es pr)(h:a0v e=true:=by rfl):QA T K F (e::es) (a0c pe pr):=by
 obtain⟨t,h1,h2⟩:=ha;obtain⟨u,h3,h4⟩:=hr;exact⟨_,fun z=>a0o (h1 z) (h3 z) (a0e h),b5n h2 h4⟩
noncomputable def qTup (pa:pA):pE:=fun env n R=>pa env n fun xs env1 n1=>xs.length<=1000000/\R (.tup xs) env1 n1
noncomputable def qLst (pa:pA):pA:=fun env n R=>pa env n fun xs env1 n1=>xs.length<=1000000/\R xs env1 n1
noncomputable def qL (pn:pA):pE:=fun env n R=>pn env n fun xs env1 n1=>R (.lst xs) env1 n1
theorem a0W {x1}(h:QA T K F es pl):QE T K F (.Tuple es x1 pos) (qTup pl):=by
 obtain⟨t,h1,h2⟩:=h;refine⟨_,fun z=>b0t (h1 z),fun C G σ H env n R Q hK hT S hp k=>?_⟩;refine h2 C G σ H env n _ _ hK hT S hp fun xs env1 n1 vs H1 p1 S1 r1 f1=>⟨by rw [<- r1.length];exact mil p1.1,fun p hp=>?_⟩;exact k _ _ _ _ _ p1.2 (S1.same (Same.lay1 hp)) (a4o (S1.fresh hp) hp r1) (f1.trans (Fr.of (Same.lay1 hp)))
theorem a1o (h:QA T K F es pl):QN T K F (.List es pos) (qLst pl):=by
 obtain⟨t,h1,h2⟩:=h;refine⟨_,fun z=>b3N (h1 z),fun C G σ H env n R Q hK hT S hp k=>?_⟩;exact h2 C G σ H env n _ _ hK hT S hp fun xs env1 n1 vs H1 p1 S1 r1 f1=>⟨by rw [<- r1.length];exact mil p1.1,fun p hp=>k _ _ _ _ _ _ p1.2 S1 f1 hp r1⟩
theorem QN.ee (h:QN T K F e pl):QE T K F e (qL pl):=by
 obtain⟨t,h1,h2⟩:=h;refine⟨t,h1,fun C G σ H env n R Q hK hT S hp k=>?_⟩;refine h2 C G σ H env n _ _ hK hT S hp fun xs env1 n1 a vs Hb p1 S1 f1 hn r1=>?_;exact k _ _ _ _ _ p1 (S1.same (Same.lay1 hn)) (a5F (S1.fresh hn) hn r1) (f1.trans (Fr.of (Same.lay1 hn)))
theorem a6v {K:x0b}{t:TE}(h:ROk K T t pe){C:Ct}{G:Gh}{σ:St}{H:Hp}{env:Env}{n:Nat}{R:PK}{Q:List V->Hp->Prop}(hK:C.K=K)(hT:C.T=T)(S:SR C G σ H env n)(hp:pe env n R)
   (k:∀x env' n' v H',R x env' n'->SR C G σ H' env' n'->RdS C G σ H' env' x v->Fr G H H'->Q [v] H'):a3c t tNil σ H Q:=
 h C G σ H env n _ _ hK hT S hp fun x env1 n1 v H1 p1 S1 r1 f1=>k _ _ _ _ _ p1 S1 r1 f1
end
end Pu
end
section
namespace HT
open PySem PySem.Spec PyProof.Rows
section
variable {prog:x0G}{w:World}{A:Around}{E:Value->Shared->Prop}{s:Shared}
theorem getItem_tuple_whole {t sl:Addr}{items:Array Value}{vl vu:Value}{lo hi:Option Int}{Q:Value->Shared->Prop}(ht:IsTup s.heap t items)(hs:s.heap.IsSliceOf sl vl vu .none)(pl:IsPart vl lo)(pu:IsPart vu hi)
   (hw:sIx items.size 0 lo=0/\sIx items.size items.size hi=items.size) (h:Q (.ref t) s):wpAny (model prog w) A (getItem (.ref t) (.ref sl)) Q E s:=by
 obtain⟨os,hos,hcs,hds⟩:=id hs;have hTs:s.TypeIs (.ref sl) "slice":=⟨os,hos,hcs⟩;have hTt:s.TypeIs (.ref t) "tuple":=ht.typeIs;unfold getItem
 try with_reducible refine x0V ?_
 first | refine x0a (x0h ?_) | skip
 refine x0a (wpAny_sequenceKey ht.typeIs (by decide) ?_)
 refine x0a (x1p (name:=x0j "__getitem__") ht.typeIs x1T
   (x1m x1T ht.typeIs entry_tuple_getitem ?_ (args_tuple_getitem _ _)))
 show wpAny _ _ (x4L (.ref t)>>=_) _ _ s;refine x0a (tupleItemsOf_ ht ?_);refine x0a (x4i hTs ?_);rw [if_pos (by decide)];refine x0a (a2q hs pl pu ?_)
 have hyes:(((sIx items.size 0 lo:Nat):Int) == 0 && (1:Int) == 1 && (sIx items.size items.size hi - sIx items.size 0 lo) == items.size)=true:=by
   rw [hw.1,hw.2];simp
 show wpAny _ _ (if(((sIx items.size 0 lo:Nat):Int) == 0 && (1:Int) == 1 && (sIx items.size items.size hi - sIx items.size 0 lo) == items.size)=true then _ else _) _ _ s;rw [if_pos hyes];unfold Builtin.Tuple.tupleIsExact;refine x0a (x0a (x4i hTt (x0h ?_)));rw [if_pos (by rfl)];exact x0a (x3U (x0h ⟨_,rfl,x0h h⟩))
end
end HT
namespace L2
open PySem PySem.Spec PyProof.Rows
section
variable {X:Cx}
noncomputable def rSlTA (K:x0b):V->Option Int->Option Int->Hp->VK->Prop:=fun x lo hi H Q=>∃a xs,x=.ref a/\SqT K H a xs/\
 (cutV xs lo hi=xs->Q (.ref a) H)/\∀p,H p=none->Q (.ref p) (upd H p (.tup (cutV xs lo hi)))
theorem b4F:SlR X (rSlTA X.K):=by
 intro pins s σ H x v vl vu lo hi sl Q I rx hs pl pu h;obtain⟨a,xs,rfl,hx,h1,h2⟩:=h
 by_cases hw:HT.sIx xs.length 0 lo=0/\HT.sIx xs.length xs.length hi=xs.length
 · cases rx;obtain⟨its,r,ht,hz⟩:=I.tuple hx;have hlen:its.toArray.size=xs.length:=by rw [x0q];exact r.length.symm
   refine⟨"tuple",_,PyProof.Rows.slot_tuple_getitem.lookup,ht.typeIs,?_⟩;refine HT.getItem_tuple_whole ht hs pl pu (by rw [hlen];exact hw) ⟨.ref a,H,I,rfl,h1 ?_⟩;unfold cutV;rw [hw.1,hw.2];simp
 · exact sl_tup pins s σ H (.ref a) v vl vu lo hi sl Q I rx hs pl pu ⟨a,xs,rfl,hx,hw,h2⟩
end
end L2
namespace Pu
open PySem PySem.Spec L2
section
variable {T:PotK}{ι:Type}{K:x0b}{F:ι->Cx}{e a b c:Expr}{es rest:List Expr}{pe pa pb pc:pE}{pos:Pos}{pl pr:pA}
noncomputable def wIx:w2:=fun x y R=>match x,y with
 | .lst xs,.int i=>match atI xs i with | some z=>R z | none=>False
 | .tup xs,.int i=>match atI xs i with | some z=>R z | none=>False
 | .scr ns,.int i=>match atI ns i with | some z=>R (.int z) | none=>False
 | .str z,.int i=>z.length<=1000000/\match atI z.cps.toList i with | some c=>R (.str ⟨#[c]⟩) | none=>False
 | _,_=>False
theorem a8C {K:x0b}{G:Gh}{H:Hp}{xs:List PV}{vs:List V}(r:Reps K G H xs vs){i:Int}{z:PV}(h:atI xs i=some z):∃v,atI vs i=some v/\Rep K G H z v:=by
 unfold atI at h ⊢;rw [<- r.length];cases e:ixN xs.length i with
 | none=>rw [e] at h;cases h
 | some j =>
   rw [e] at h;exact r.get' h
theorem a6o {K:x0b}{G:Gh}{H:Hp}{ns:List Int}{v:V}(h:RdV K G H (.scr ns) v):∃a,v=.ref a/\SqL K H a (ns.map V.int):=by
 obtain⟨a,e,h⟩:=h.rep (fun _ z=>nomatch z);refine⟨a,e,?_⟩;rcases h with⟨_,o,h⟩ | h
 · exact .inl (.inr ⟨o,h⟩)
 · exact .inr h
theorem W2.ix {K:x0b}:W2 K (rIx K) wIx:=by
 intro G H x y v u R Q hf rx ry hw k;unfold wIx at hw
 split at hw
 · rename_i xs i;obtain⟨a,vs,ev,hq,r⟩:=rx.lst;cases ez:atI xs i with
   | none=>rw [ez] at hw;exact hw.elim
   | some z =>
     rw [ez] at hw;obtain⟨v',e1,r1⟩:=a8C r ez;exact .inl ⟨a,vs,i,v',ev,ry.int,hq,e1,k _ _ _ hw (Same.refl _) r1⟩
 · rename_i xs i;obtain⟨a,vs,ev,hq,r⟩:=rx.tup;cases ez:atI xs i with
   | none=>rw [ez] at hw;exact hw.elim
   | some z =>
     rw [ez] at hw;obtain⟨v',e1,r1⟩:=a8C r ez;exact .inr (.inl ⟨a,vs,i,v',ev,ry.int,hq,e1,k _ _ _ hw (Same.refl _) r1⟩)
 · rename_i ns i;obtain⟨a,ev,hq⟩:=a6o rx;cases ez:atI ns i with
   | none=>rw [ez] at hw;exact hw.elim
   | some z =>
     rw [ez] at hw;refine .inl ⟨a,_,i,.int z,ev,ry.int,hq,?_,k _ _ _ hw (Same.refl _) rfl⟩;unfold atI at ez ⊢;rw [x0e];cases e:ixN ns.length i with
     | none=>rw [e] at ez;cases ez
     | some j =>
       rw [e] at ez;show(ns.map V.int)[j]?=_;rw [x0p,show ns[j]?=some z from ez]
       rfl
 · rename_i z i;obtain⟨hz,hw⟩:=hw;cases ez:atI z.cps.toList i with
   | none=>rw [ez] at hw;exact hw.elim
   | some c =>
     rw [ez] at hw;exact .inr (.inr ⟨z,i,c,rx.str,ry.int,mil hz,ez,k _ _ _ hw (Same.refl _) rfl⟩)
 · exact hw.elim
theorem a0w (ha:QE T K F a pa)(hb:QE T K F b pb)(hs:b1U b:=by exact fun _ _=>rfl)(hK:∀z,(F z).K=K:=by intro _;rfl):QE T K F (.Subscript a b pos) (qOp wIx pa pb):=by
 obtain⟨ta,h1,h2⟩:=ha;obtain⟨tb,h3,h4⟩:=hb.r;exact⟨_,fun z=>a6t (hK z▸ix_seq) (h1 z) (h3 z) hs,b0D W2.ix h2 h4⟩
noncomputable abbrev pO:=Env->Nat->(Option Int->Env->Nat->Prop)->Prop
noncomputable def qNo:pO:=fun env n R=>R none env n
noncomputable def a1t (pe:pE):pO:=fun env n R=>pe env n fun x env1 n1=>match x with | .int i=>R (some i) env1 n1 | _=>False
noncomputable def OOk (K:x0b)(T:PotK)(t:TO)(po:pO):Prop:=∀(C:Ct) (G:Gh) (σ:St) (H:Hp) (env:Env) (n:Nat) (R:Option Int->Env->Nat->Prop) (Q:Option Int->Hp->Prop),C.K=K->C.T=T->SR C G σ H env n->po env n R->
 (∀x env' n' H',R x env' n'->SR C G σ H' env' n'->Fr G H H'->Q x H')->t σ H Q
noncomputable def QO {ι:Type}(T:PotK)(K:x0b)(F:ι->Cx)(e:Option Expr)(po:pO):Prop:=∃t,(∀z,PO (F z) e t)/\OOk K T t po
theorem a3k:QO T K F none qNo:=⟨_,fun _=>b4Z,fun C G σ H env n R Q hK hT S hp k=>k _ _ _ _ hp S Fr.refl⟩
theorem a0U (h:QE T K F e pe):QO T K F (some e) (a1t pe):=by
 obtain⟨t,h1,h2⟩:=h;refine⟨_,fun z=>b4Y (h1 z),fun C G σ H env n R Q hK hT S hp k=>?_⟩;refine h2 C G σ H env n _ _ hK hT S hp fun x env1 n1 v H1 p1 S1 r1 f1=>?_;cases x with
 | int i=>exact⟨i,r1,k _ _ _ _ p1 S1 f1⟩
 | _=>exact p1.elim
noncomputable def cutP {α:Type}(xs:List α)(lo hi:Option Int):List α:=(xs.drop (HT.sIx xs.length 0 lo)).take (HT.sIx xs.length xs.length hi - HT.sIx xs.length 0 lo)
theorem Reps.cut {K:x0b}{G:Gh}{H:Hp}{xs:List PV}{vs:List V}(r:Reps K G H xs vs)(lo hi:Option Int):Reps K G H (cutP xs lo hi) (cutV vs lo hi):=by
 unfold cutP cutV;rw [<- r.length];exact(r.drop _).take _
noncomputable def wSl (x:PV)(lo hi:Option Int)(R:PV->Prop):Prop:=match x with
 | .lst xs=>R (.lst (cutP xs lo hi))
 | .scr ns=>R (.lst ((cutP ns lo hi).map PV.int))
 | .tup xs=>R (.tup (cutP xs lo hi))
 | .str z=>z.length<=1000000/\R (.str (Txt.slice z lo hi))
 | _=>False
noncomputable def qSl (pe:pE)(pl ph:pO):pE:=fun env n R=>pe env n fun x env1 n1=>pl env1 n1 fun lo env2 n2=>ph env2 n2 fun hi env3 n3=>wSl x lo hi fun z=>R z env3 n3
theorem a6p {K:x0b}{G:Gh}{H:Hp}:∀ns:List Int,Reps K G H (ns.map PV.int) (ns.map V.int):=by
 intro xq
 induction xq with
 | nil =>
   exact rfl
 | cons i ns ih =>
   exact⟨.int i,ns.map V.int,rfl,rfl,ih⟩
theorem a7H {α β:Type}(f:α->β)(xs:List α)(lo hi:Option Int):cutP (xs.map f) lo hi=(cutP xs lo hi).map f:=by
 unfold cutP;rw [x0e,x4x,x4y]
theorem sl_ok {K:x0b}{G:Gh}{H:Hp}{x:PV}{v:V}{lo hi:Option Int}{R:PV->Prop}{Q:VK}(hf:∀p,H p=none->p∉G.M)(rx:RdV K G H x v)(hw:wSl x lo hi R)(k:∀z v' H',R z->Same H H'->Rep K G H' z v'->Q v' H') :
   rSlL K v lo hi H Q\/rSlTA K v lo hi H Q\/rSlS v lo hi H Q:=by
 unfold wSl at hw
 split at hw
 · obtain⟨a,vs,ev,hq,r⟩:=rx.lst;exact .inl ⟨a,vs,ev,hq,fun p hp=>k _ _ _ hw (Same.lay1 hp) (a5F (hf p hp) hp (r.cut lo hi))⟩
 · rename_i ns;obtain⟨a,ev,hq⟩:=a6o rx;refine .inl ⟨a,_,ev,hq,fun p hp=>k _ _ _ hw (Same.lay1 hp) (a5F (hf p hp) hp ?_)⟩;have:=(a6p (K:=K) (G:=G) (H:=H) ns).cut lo hi;rw [a7H] at this;exact this
 · obtain⟨a,vs,ev,t,r⟩:=rx.rep (fun _ z=>nomatch z);refine .inr (.inl ⟨a,vs,ev,t.sq,fun z=>k _ _ _ hw (Same.refl _) ?_,fun p hp=>k _ _ _ hw (Same.lay1 hp) (a4o (hf p hp) hp (r.cut lo hi))⟩);have rc:=r.cut lo hi;rw [z] at rc;exact⟨a,vs,rfl,t,rc⟩
 · exact .inr (.inr ⟨_,rx.str,mil hw.1,k _ _ _ hw.2 (Same.refl _) rfl⟩)
 · exact hw.elim
theorem a2K {lo hi:Option Expr}{p2:Pos}{ql qh:pO}(he:QE T K F e pe)(hl:QO T K F lo ql)(hh:QO T K F hi qh)(hK:∀z,(F z).K=K:=by intro _;rfl):QE T K F (.Subscript e (.Slice lo hi none p2) pos) (qSl pe ql qh):=by
 obtain⟨t,h1,h2⟩:=he;obtain⟨tl,l1,l2⟩:=hl;obtain⟨th,u1,u2⟩:=hh;refine⟨_,fun z=>b2H ((hK z▸b4G).or ((hK z▸b4F).or sl_str)) (h1 z) (l1 z) (u1 z),fun C G σ H env n R Q hK hT S hp k=>?_⟩;refine h2 C G σ H env n _ _ hK hT S hp fun x env1 n1 v H1 p1 S1 r1 f1=>?_;refine l2 C G σ H1 env1 n1 _ _ hK hT S1 p1 fun lo env2 n2 H2 p2 S2 f2=>?_;refine u2 C G σ H2 env2 n2 _ _ hK hT S2 p2 fun hi env3 n3 H3 p3 S3 f3=>?_;exact sl_ok (fun p hp=>S3.fresh hp) (.inl ((r1.fr f2).fr f3)) p3 fun z v' H' rz s rv=>k _ _ _ _ _ rz (S3.same s) rv (((f1.trans f2).trans f3).trans (Fr.of s))
noncomputable def WA1 (K:x0b)(r:List V->Hp->VK->Prop)(w:w1):Prop:=∀(G:Gh) (H:Hp) (x:PV) (v:V) (R:PV->Prop) (Q:VK),(∀p,H p=none->p∉G.M)->RdV K G H x v->w x R->
 (∀z v' H',R z->Same H H'->Rep K G H' z v'->Q v' H')->r [v] H Q
theorem b3P {K:x0b}{r:List V->Hp->VK->Prop}{w:w1}{t:TE}(hw:WA1 K r w)(h:ROk K T t pe):EOk K T (tCB r (a3c t tNil)) (qUn w pe):=fun C G σ H env n R Q hK hT S hp k=>by
 refine a6v h hK hT S hp fun x env1 n1 v H1 p1 S1 r1 f1=>?_;subst hK;exact hw G H1 x v _ _ (fun p hp=>S1.fresh hp) (r1.rd S1) p1 fun z v' H' rz s rv=>k _ _ _ _ _ rz (S1.same s) rv (f1.trans (Fr.of s))
theorem b0f {x:Str}{id:String}{r:List V->Hp->VK->Prop}{w:w1}{p:Pos}(hc:∀z,a1z (F z) (.builtin id) r)(hw:WA1 K r w)(hg:∀z,Gl (F z) x)(hm:∀z,(F z).mg x=none)(hv:x1i x=some (.builtin id))(ha:QR T K F e pe)(hs:a0v e=true:=by rfl)(hn:x≠"__name__":=by decide)(hdb:(x == ("__debug__":Str))=false:=by decide) :
   QE T K F (.Call (.Name x p) [e] [] pos) (qUn w pe):=by
 obtain⟨t,h1,h2⟩:=ha;exact⟨_,fun z=>a1s (hc z) (hg z) (hm z) hv (a0o (h1 z) a0E (a0e hs)) hn hdb (a0e hs),b3P hw h2⟩
theorem b3I {x:Str}{id:String}{r:List V->Hp->VK->Prop}{w:w1}{p:Pos}(hc:∀z,a1z (F z) (.type id) r)(hw:WA1 K r w)(hg:∀z,Gl (F z) x)(hm:∀z,(F z).mg x=none)(hv:x1i x=some (.type id))(ha:QR T K F e pe)(hs:a0v e=true:=by rfl)(hn:x≠"__name__":=by decide)(hdb:(x == ("__debug__":Str))=false:=by decide) :
   QE T K F (.Call (.Name x p) [e] [] pos) (qUn w pe):=by
 obtain⟨t,h1,h2⟩:=ha;exact⟨_,fun z=>a2a (hc z) (hg z) (hm z) hv (a0o (h1 z) a0E (a0e hs)) hn hdb (a0e hs),b3P hw h2⟩
noncomputable def wLen:w1:=fun x R=>match x with
 | .lst xs=>R (.int xs.length)
 | .tup xs=>R (.int xs.length)
 | .scr xs=>R (.int xs.length)
 | .str z=>z.length<=1000000/\R (.int z.length)
 | _=>False
theorem WA1.len {K:x0b}:WA1 K (fun xs H Q=>(∃p ys,xs=[.ref p]/\(SqL K H p ys\/SqT K H p ys)/\Q (.int ys.length) H)\/∃z,xs=[.str z]/\z.length<=x0B/\Q (.int z.length) H) wLen:=by
 intro G H x v R Q hf rx hw k;unfold wLen at hw
 split at hw
 · obtain⟨a,vs,ev,hq,r⟩:=rx.lst;exact .inl ⟨a,vs,by rw [ev],.inl hq,k _ _ _ hw (Same.refl _) (by rw [r.length];rfl)⟩
 · obtain⟨a,vs,ev,hq,r⟩:=rx.tup;exact .inl ⟨a,vs,by rw [ev],.inr hq,k _ _ _ hw (Same.refl _) (by rw [r.length];rfl)⟩
 · obtain⟨a,ev,hq⟩:=a6o rx;exact .inl ⟨a,_,by rw [ev],.inl hq,k _ _ _ hw (Same.refl _) (by rw [x0e];rfl)⟩
 · exact .inr ⟨_,by rw [rx.str],mil hw.1,k _ _ _ hw.2 (Same.refl _) rfl⟩
 · exact hw.elim
theorem a1e {p:Pos}(hg:∀z,Gl (F z) "len")(hm:∀z,(F z).mg "len"=none)(ha:QR T K F e pe)(hs:a0v e=true:=by rfl)(hK:∀z,(F z).K=K:=by intro _;rfl):QE T K F (.Call (.Name "len" p) [e] [] pos) (qUn wLen pe):=b0f (fun z=>(hK z▸a4a).or a6R) WA1.len hg hm a8B ha hs
noncomputable def wInt:w1:=fun x R=>match x with | .int i=>R (.int i) | .bl b=>R (.int (if b then 1 else 0)) | _=>False
theorem b2r {p:Pos}(hg:∀z,Gl (F z) "int")(hm:∀z,(F z).mg "int"=none)(ha:QR T K F e pe)(hs:a0v e=true:=by rfl):QE T K F (.Call (.Name "int" p) [e] [] pos) (qUn wInt pe):=b3I (fun _=>a6T) (fun G H x v R Q hf rx hw k=>by
 unfold wInt at hw
 split at hw
 · exact .inl ⟨_,by rw [rx.int],k _ _ _ hw (Same.refl _) rfl⟩
 · exact .inr ⟨_,by rw [rx.bl],k _ _ _ hw (Same.refl _) rfl⟩
 · exact hw.elim) hg hm b4k ha hs
noncomputable def a2M:List PV->Option (List Bool)
 | []=>some []
 | .bl b::xs=>(a2M xs).map (b::·)
 | _=>none
theorem a3w {K:x0b}{G:Gh}{H:Hp}:∀{xs:List PV} {vs:List V} {bs:List Bool},a2M xs=some bs->Reps K G H xs vs->vs=bs.map V.bl
 | [],vs,bs,h,r=>by cases h;exact r
 | .bl b :: xs, vs, bs, h, r => by
   obtain⟨v,t,e,rv,rt⟩:=r;cases e1:a2M xs with
   | none=>simp [a2M,e1] at h
   | some cs =>
     have:b::cs=bs:=by simpa [a2M,e1] using h
     subst this;rw [e,show v=.bl b from rv,a3w e1 rt]
     rfl
 | .non::_,_,_,h,_=>by cases h
 | .int _::_,_,_,h,_=>by cases h
 | .str _::_,_,_,h,_=>by cases h
 | .ty _::_,_,_,h,_=>by cases h
 | .pot _::_,_,_,h,_=>by cases h
 | .tup _::_,_,_,h,_=>by cases h
 | .lst _::_,_,_,h,_=>by cases h
 | .dct _ _::_,_,_,h,_=>by cases h
 | .scr _::_,_,_,h,_=>by cases h
theorem a9K:∀bs:List Bool,a2M (bs.map PV.bl)=some bs:=by
 intro xq
 induction xq with
 | nil =>
   exact rfl
 | cons b bs ih =>
   simp [a2M,ih]
noncomputable def wAll:w1:=fun x R=>match x with | .lst xs=>(match a2M xs with | some bs=>R (.bl (bs.all id)) | none=>False) | _=>False
noncomputable def wAny:w1:=fun x R=>match x with | .lst xs=>(match a2M xs with | some bs=>R (.bl (bs.any id)) | none=>False) | _=>False
theorem b0g {p:Pos}(hc:∀z,(F z).calm=true)(hg:∀z,Gl (F z) "all")(hm:∀z,(F z).mg "all"=none)(ha:QR T K F e pe)(hs:a0v e=true:=by rfl)(hK:∀z,(F z).K=K:=by intro _;rfl):QE T K F (.Call (.Name "all" p) [e] [] pos) (qUn wAll pe):=b0f (fun z=>hK z▸b3u (hc z)) (fun G H x v R Q hf rx hw k=>by
 unfold wAll at hw
 split at hw
 · rename_i xs;obtain⟨a,vs,ev,hq,r⟩:=rx.lst
   split at hw
   · rename_i bs eb;exact⟨a,bs,by rw [ev],a3w eb r▸hq,k _ _ _ hw (Same.refl _) rfl⟩
   · exact hw.elim
 · exact hw.elim) hg hm bt_all ha hs
theorem b3J {p:Pos}(hc:∀z,(F z).calm=true)(hg:∀z,Gl (F z) "any")(hm:∀z,(F z).mg "any"=none)(ha:QR T K F e pe)(hs:a0v e=true:=by rfl)(hK:∀z,(F z).K=K:=by intro _;rfl):QE T K F (.Call (.Name "any" p) [e] [] pos) (qUn wAny pe):=b0f (fun z=>hK z▸b3t (hc z)) (fun G H x v R Q hf rx hw k=>by
 unfold wAny at hw
 split at hw
 · rename_i xs;obtain⟨a,vs,ev,hq,r⟩:=rx.lst
   split at hw
   · rename_i bs eb;exact⟨a,bs,by rw [ev],a3w eb r▸hq,k _ _ _ hw (Same.refl _) rfl⟩
   · exact hw.elim
 · exact hw.elim) hg hm bt_any ha hs
noncomputable def a2t:w1:=fun x R=>match x with | .lst xs=>R (.tup xs) | .tup xs=>R (.tup xs) | _=>False
theorem a2G {p:Pos}(hg:∀z,Gl (F z) "tuple")(hm:∀z,(F z).mg "tuple"=none)(ha:QR T K F e pe)(hs:a0v e=true:=by rfl)(hK:∀z,(F z).K=K:=by intro _;rfl):QE T K F (.Call (.Name "tuple" p) [e] [] pos) (qUn a2t pe):=b3I (fun z=>hK z▸a6a) (fun G H x v R Q hf rx hw k=>by
 unfold a2t at hw
 split at hw
 · obtain⟨a,vs,ev,hq,r⟩:=rx.lst;exact⟨a,vs,by rw [ev],.inl ⟨hq,fun l hl=>k _ _ _ hw (Same.lay1 hl) (a4o (hf l hl) hl r)⟩⟩
 · obtain⟨a,vs,ev,t,r⟩:=rx.rep (fun _ z=>nomatch z);exact⟨a,vs,by rw [ev],.inr ⟨t.sq,k _ _ _ hw (Same.refl _) ⟨a,vs,rfl,t,r⟩⟩⟩
 · exact hw.elim) hg hm a3t ha hs
noncomputable def a2T (pe:pE):pA:=fun env n R=>pe env n fun x env1 n1=>match x with | .lst xs=>R xs env1 n1 | .tup xs=>R xs env1 n1 | .scr ns=>R (ns.map PV.int) env1 n1 | _=>False
theorem a2h {p:Pos}(hg:∀z,Gl (F z) "list")(hm:∀z,(F z).mg "list"=none)(ha:QR T K F e pe)(hs:a0v e=true:=by rfl)(hK:∀z,(F z).K=K:=by intro _;rfl):QN T K F (.Call (.Name "list" p) [e] [] pos) (a2T pe):=by
 obtain⟨t,h1,h2⟩:=ha;refine⟨_,fun z=>a2a (hK z▸a6Q) (hg z) (hm z) b5V (a0o (h1 z) a0E (a0e hs)) (by decide) (by decide) (a0e hs),fun C G σ H env n R Q hK hT S hp k=>?_⟩;refine a6v h2 hK hT S hp fun x env1 n1 v H1 p1 S1 r1 f1=>?_;have rd:RdV K G H1 x v:=hK▸r1.rd S1;cases x with
 | lst xs =>
   obtain⟨a,vs,ev,hq,r⟩:=rd.lst;exact⟨a,vs,by rw [ev],.inl hq,fun l hl=>k _ _ _ _ _ _ p1 S1 f1 hl r⟩
 | tup xs =>
   obtain⟨a,vs,ev,hq,r⟩:=rd.tup;exact⟨a,vs,by rw [ev],.inr hq,fun l hl=>k _ _ _ _ _ _ p1 S1 f1 hl r⟩
 | scr ns =>
   obtain⟨a,ev,hq⟩:=a6o rd;exact⟨a,_,by rw [ev],.inl hq,fun l hl=>k _ _ _ _ _ _ p1 S1 f1 hl (a6p ns)⟩
 | _=>exact p1.elim
theorem tyw {X:Cx}{x:Str}{m:String}{pos:Pos}(hg:Gl X x)(hm:X.mg x=none)(hv:x1i x=some (.type m))(hn:x≠"__name__":=by decide)(hd:(x == ("__debug__":Str))=false:=by decide):EW X (.Name x pos) (tC (.ty m)):=⟨b5g (v:=.ty m) hg hm hv rfl hn hd⟩
noncomputable def tyP:PV->Option String
 | .non=>some "NoneType"
 | .bl _=>some "bool"
 | .int _=>some "int"
 | .str _=>some "str"
 | .tup _=>some "tuple"
 | .lst _=>some "list"
 | .dct _ _=>some "dict"
 | _=>none
noncomputable def isT (t n:String):Bool:=t == n || (t == "bool" && n == "int")
noncomputable def wIsi (n:String):w1:=fun x R=>match tyP x with | some t=>R (.bl (isT t n)) | none=>False
theorem b5F {K:x0b}{t n:String}(ht:t∈["NoneType","bool","int","str","tuple","list","dict"])(hn:n∈["bool","int","str","tuple","list"]):x4c K (.type t) (.type n)=some (isT t n):=by
 refine kit_of ?_;have:∀t∈["NoneType","bool","int","str","tuple","list","dict"],∀n∈["bool","int","str","tuple","list"],(if(x1q t == x1q n)=true then some true else if PySem.W.kitMeta n=true then(fastBuiltinMro t).map (·.contains (.type n)) else none)=some (isT t n):=by decide +kernel
 exact this t ht n hn
theorem a6q {p:Pos}{n:String}{b:Expr}(hn:n∈["bool","int","str","tuple","list"])(hg:∀z,Gl (F z) "isinstance")(hm:∀z,(F z).mg "isinstance"=none)(ha:QE T K F a pa)(hb:∀z,EW (F z) b (tC (.ty n)))(hs:a0v a=true:=by rfl)(hs2:a0v b=true:=by rfl)(hK:∀z,(F z).K=K:=by intro _;rfl):QE T K F (.Call (.Name "isinstance" p) [a,b] [] pos) (qUn (wIsi n) pa):=by
 obtain⟨t,h1,h2⟩:=ha;refine⟨_,fun z=>a1s (hK z▸a7J) (hg z) (hm z) a6c (a0o (h1 z) (a0o (hb z).h a0E (a0e hs2)) (a0e hs)) (by decide) (by decide) (a0e hs) (by rw [a0e hs2];rfl),fun C G σ H env n' R Q hK hT S hp k=>?_⟩;refine h2 C G σ H env n' _ _ hK hT S hp fun x env1 n1 v H1 p1 S1 r1 f1=>?_;unfold wIsi at p1
 have fin:∀t,TyOf K H1 v (.type t)->tyP x=some t->t∈["NoneType","bool","int","str","tuple","list","dict"]->∃x' n'' t' b',[v,V.ty n]=[x',.ty n'']/\TyOf K H1 x' t'/\x4c K t' (.type n'')=some b'/\Q (.bl b') H1:=by
   intro t ty e m;rw [e] at p1;exact⟨v,n,_,_,rfl,ty,b5F m hn,k _ _ _ _ _ p1 S1 rfl f1⟩
 cases x with
 | non=>cases(show v=.non from r1);exact fin _ .non rfl (by decide)
 | bl b=>cases(show v=.bl b from r1);exact fin _ (.bl b) rfl (by decide)
 | int b=>cases(show v=.int b from r1);exact fin _ (.int b) rfl (by decide)
 | str b=>cases(show v=.str b from r1);exact fin _ (.str b) rfl (by decide)
 | tup xs=>obtain⟨a,vs,rfl,t,r⟩:=r1;exact fin _ (.tup t.2) rfl (by decide)
 | lst xs=>obtain⟨a,vs,rfl,t,r⟩:=r1;exact fin _ (.lst t.2) rfl (by decide)
 | dct ks xs=>obtain⟨a,kvs,rfl,_,t,r⟩:=r1;exact fin _ (.dK t) rfl (by decide)
 | ty n=>exact p1.elim
 | pot k=>exact p1.elim
 | scr ns=>exact p1.elim
noncomputable def wMin:w2:=fun x y R=>match x,y with | .int i,.int j=>R (.int (if j < i then j else i)) | _,_=>False
noncomputable def wMax:w2:=fun x y R=>match x,y with | .int i,.int j=>R (.int (if j > i then j else i)) | _,_=>False
theorem b3O {K:x0b}{r:List V->Hp->VK->Prop}{w:w2}{t u:TE}(hw:W2 K (fun x y H Q=>r [x,y] H Q) w)(h:EOk K T t pa)(h':EOk K T u pb):EOk K T (tCB r (a3c t (a3c u tNil))) (qOp w pa pb):=fun C G σ H env n R Q hK hT S hp k=>by
 refine h C G σ H env n _ _ hK hT S hp fun x env1 n1 v H1 p1 S1 r1 f1=>?_;refine h' C G σ H1 env1 n1 _ _ hK hT S1 p1 fun y env2 n2 u H2 p2 S2 r2 f2=>?_;exact hw G H2 x y v u _ _ (fun p hp=>S2.fresh hp) (.inl (r1.fr f2)) (.inl r2) p2 fun z v' H' rz s rv=>k _ _ _ _ _ rz (S2.same s) rv ((f1.trans f2).trans (Fr.of s))
theorem qe_min {p:Pos}(hc:∀z,(F z).calm=true)(hg:∀z,Gl (F z) "min")(hm:∀z,(F z).mg "min"=none)(ha:QE T K F a pa)(hb:QE T K F b pb)(hs:a0v a=true:=by rfl)(hs2:a0v b=true:=by rfl):QE T K F (.Call (.Name "min" p) [a,b] [] pos) (qOp wMin pa pb):=by
 obtain⟨t,h1,h2⟩:=ha;obtain⟨u,h3,h4⟩:=hb;refine⟨_,fun z=>a1s (b1J (hc z)) (hg z) (hm z) bt_min (a0o (h1 z) (a0o (h3 z) a0E (a0e hs2)) (a0e hs)) (by decide) (by decide) (a0e hs) (by rw [a0e hs2];rfl),b3O (fun G H x y v u R Q hf rx ry hw k=>?_) h2 h4⟩;unfold wMin at hw
 split at hw
 · exact⟨_,_,by rw [rx.int,ry.int],k _ _ _ hw (Same.refl _) rfl⟩
 · exact hw.elim
theorem qe_max {p:Pos}(hc:∀z,(F z).calm=true)(hg:∀z,Gl (F z) "max")(hm:∀z,(F z).mg "max"=none)(ha:QE T K F a pa)(hb:QE T K F b pb)(hs:a0v a=true:=by rfl)(hs2:a0v b=true:=by rfl):QE T K F (.Call (.Name "max" p) [a,b] [] pos) (qOp wMax pa pb):=by
 obtain⟨t,h1,h2⟩:=ha;obtain⟨u,h3,h4⟩:=hb;refine⟨_,fun z=>a1s (b1K (hc z)) (hg z) (hm z) bt_max (a0o (h1 z) (a0o (h3 z) a0E (a0e hs2)) (a0e hs)) (by decide) (by decide) (a0e hs) (by rw [a0e hs2];rfl),b3O (fun G H x y v u R Q hf rx ry hw k=>?_) h2 h4⟩;unfold wMax at hw
 split at hw
 · exact⟨_,_,by rw [rx.int,ry.int],k _ _ _ hw (Same.refl _) rfl⟩
 · exact hw.elim
noncomputable def a0k (K:x0b)(T:PotK)(f:pF):Sp:=fun vs H Q _=>∃(G:Gh) (xs:List PV) (n:Nat) (R:PV->Nat->Prop),(∀p∈G.pots,p∈G.M/\T.at_ G.M H p n)/\(∀a∈G.M,∃o,H a=some o/\MutO o)/\T.has G.pots/\Reps K G H xs vs/\f xs n R/\
 ∀r n' v H',R r n'->Rep K G H' r v->(∀p∈G.pots,T.at_ G.M H' p n')->(∀b o,b∉G.pots->H b=some o->H' b=some o)->Q v H'
noncomputable def a0t (f:pF)(pa:pA):pE:=fun env n R=>pa env n fun xs env1 n1=>f xs n1 fun r n2=>R r env1 n2
theorem SR.call {C:Ct}{G:Gh}{σ:St}{H H':Hp}{env:Env}{n n':Nat}(S:SR C G σ H env n)(hk:∀b o,b∉G.pots->H b=some o->H' b=some o)(hp:∀p∈G.pots,C.T.at_ G.M H' p n'):SR C G σ H' env n' where
 frame b o hb e:=by
   by_cases hp:b∈G.pots
   · -- a pot that is new since the entry has no old object
     obtain⟨l,el,_⟩:=S.pre;rw [el] at hp;rcases x0C.mp hp with z | z
     · exact absurd z hb
     · have hM:=(S.pots b (by rw [el];exact hp)).1;rcases S.sub b hM with z2 | z2
       · exact(S.newp b (by rw [el];exact hp) hb z2).elim
       · rw [z2] at e;cases e
   · exact hk b o hp (S.frame b o hb e)
 sub:=S.sub
 sup:=S.sup
 pots p h:=⟨(S.pots p h).1,hp p h⟩
 pre:=S.pre
 mu a ha:=by
   by_cases h:a∈G.pots
   · exact C.T.mu (hp a h)
   · obtain⟨o,e,m⟩:=S.mu a ha;exact⟨o,hk a o h e,m⟩
 slots i x e:=by
   have f:Fr G H H':=fun b o hb he=>hk b o (fun z=>hb (S.pots b z).1) he;have:=S.slots i x e;cases x with
   | v x =>
     obtain⟨v,e1,r⟩:=this;exact⟨v,e1,r.fr f⟩
   | ow kk xs =>
     obtain⟨a,vs,e1,h1,h2,h3,h4,r⟩:=this;exact⟨a,vs,e1,h1,h2,h3,hk _ _ h3 h4,r.fr f⟩
 inj:=S.inj
 p0:=S.p0
 len:=S.len
 newp:=S.newp
theorem a0x {x:Str}{p:Pos}{f:pF}{ps:List Str}{k j:Nat}(hG:∀z,Kn (F z).prog (F z).w (F z).K (F z).mg (F z).base x k ps (a0k K T f))(hr:∀z,Room j (F z).A)(hk:k<=j)(hg:∀z,Gl (F z) x)(ha:QA T K F (e::es) pl)(hdb:(x == ("__debug__":Str))=false:=by decide)
   (hs:a0v e=true:=by rfl) (hpl:∀z,(backTo pos (x1h es (F z).env)).any (·.1)=false:=by intro _;rfl):QE T K F (.Call (.Name x p) (e::es) [] pos) (a0t f pl):=by
 obtain⟨t,h1,h2⟩:=ha;refine⟨_,fun z=>pe_fn (hG z) (hr z) hk (hg z) (h1 z) hdb (a0e hs) (hpl z),fun C G σ H env n R Q hK hT S hp k=>?_⟩;refine h2 C G σ H env n _ _ hK hT S hp fun xs env1 n1 vs H1 p1 S1 r1 f1=>?_;subst hT;rw [x1t];refine⟨G,xs,n1,_,fun p hp=>S1.pots p hp,S1.mu,S1.hasG,r1,p1,fun r n' v H' rr rv hp hk'=>?_⟩;exact k _ _ _ _ _ rr (S1.call hk' hp) rv (f1.trans fun b o hb e=>hk' b o (fun z=>hb (S1.pots b z).1) e)
end
end Pu
end
section
namespace Pu
open PySem PySem.Spec L2
noncomputable abbrev pG:=PV->Env->(Env->Prop)->Prop
noncomputable abbrev pGs:=List PV->Env->(Env->Prop)->Prop
noncomputable def GOk (K:x0b)(g:TG)(pg:pG):Prop:=∀(C:Ct) (G:Gh) (σ:St) (H:Hp) (env:Env) (n:Nat) (x:PV) (v:V) (R:Env->Prop) (Q:St->Hp->Prop),C.K=K->SR C G σ H env n->Rep K G H x v->pg x env R->
 (∀env' σ',R env'->SR C G σ' H env' n->Q σ' H)->g v σ H Q
noncomputable def GsOk (K:x0b)(g:TGs)(pg:pGs):Prop:=∀(C:Ct) (G:Gh) (σ:St) (H:Hp) (env:Env) (n:Nat) (x:List PV) (v:List V) (R:Env->Prop) (Q:St->Hp->Prop),C.K=K->SR C G σ H env n->Reps K G H x v->pg x env R->
 (∀env' σ',R env'->SR C G σ' H env' n->Q σ' H)->g v σ H Q
noncomputable def QG {ι:Type}(K:x0b)(F:ι->Cx)(e:Expr)(pg:pG):Prop:=∃g,(∀z,PG (F z) e g)/\GOk K g pg
noncomputable def QGs {ι:Type}(K:x0b)(F:ι->Cx)(e:List Expr)(pg:pGs):Prop:=∃g,(∀z,PGs (F z) e g)/\GsOk K g pg
noncomputable def gN (i:Nat):pG:=fun x env R=>R (env.set i (some (.v x)))
noncomputable def gNl:pGs:=fun xs env R=>match xs with | []=>R env | _=>False
noncomputable def gCn (g:pG)(r:pGs):pGs:=fun xs env R=>match xs with | x::xs=>g x env fun env1=>r xs env1 R | []=>False
noncomputable def gTp (k:Nat)(g:pGs):pG:=fun x env R=>match x with | .tup xs=>xs.length=k/\g xs env R | _=>False
theorem SR.set {C:Ct}{G:Gh}{σ:St}{H:Hp}{env:Env}{n:Nat}(S:SR C G σ H env n)(i:Nat){x:PV}{v:V}(r:Rep C.K G H x v):SR C G (σ.set i (some v)) H (env.set i (some (.v x))) n where
 frame:=S.frame
 sub:=S.sub
 sup:=S.sup
 pots:=S.pots
 pre:=S.pre
 mu:=S.mu
 slots j s e:=by
   by_cases h:i=j
   · subst h
     by_cases hl:i < env.length
     · rw [x0y hl] at e;cases e;exact⟨v,by rw [x0y (by rw [<- S.len];exact hl)],r⟩
     · rw [x0T (by rw [x0X];omega)] at e;cases e
   · rw [x0D h] at e ⊢;exact S.slots j s e
 inj j k xs ys a e1 e2 e3 e4:=by
   have nj:∀(j:Nat) (xs:OK×List PV),(env.set i (some (.v x)))[j]?=some (some (Slot.ow xs.1 xs.2))->i≠j:=by
     intro j xs e h;subst h
     by_cases hl:i < env.length
     · rw [x0y hl] at e;cases e
     · rw [x0T (by rw [x0X];omega)] at e;cases e
   have n1:=nj j xs e1;have n2:=nj k ys e2;rw [x0D n1] at e1 e3;rw [x0D n2] at e2 e4;exact S.inj j k xs ys a e1 e2 e3 e4
 p0:=S.p0
 len:=by rw [x0X,x0X];exact S.len
 newp:=S.newp
section
variable {T:PotK}{ι:Type}{K:x0b}{F:ι->Cx}{e a b c:Expr}{es rest:List Expr}{pe pa pb pc:pE}{pos:Pos}{pl pr:pA}{pg:pG}{pgs:pGs}{pt:pT}
theorem a0m {X:Cx}(i:Nat){x:Str}{pos:Pos}(hN:X.N.Nodup)(hi:X.N[i]?=some x)(hx:Loc X.env.scope x)(hf:X.fn x=true\/X.env.scope.names.lookup x=some .local:=by first | exact .inl rfl | exact .inr rfl | assumption):GW X (.Name x pos) (a1J i):=⟨b5e hN hi hx hf⟩
theorem a0p {i:Nat}{x:Str}(h:∀z,GW (F z) (.Name x pos) (a1J i)):QG K F (.Name x pos) (gN i):=⟨_,fun z=>(h z).h,fun C G σ H env n x v R Q hK S r hp k=>k _ _ hp (S.set i (hK▸r))⟩
theorem a1R:QGs K F [] gNl:=⟨_,fun _=>a7r,fun C G σ H env n x v R Q hK S r hp k=>by
 cases x with
 | nil=>exact⟨r,k _ _ hp S⟩
 | cons _ _=>exact hp.elim⟩
theorem a0C (h1:QG K F e pg)(h2:QGs K F es pgs)(hs:∀z,(x1k (e::es) (F z).env).map (·.2)=assign e (F z).env::(x1k es (F z).env).map (·.2):=by intro _;rfl):QGs K F (e::es) (gCn pg pgs):=by
 obtain⟨g,a1,a2⟩:=h1;obtain⟨gs,b1,b2⟩:=h2;refine⟨_,fun z=>a4g (a1 z) (b1 z) (hs z),fun C G σ H env n x v R Q hK S r hp k=>?_⟩;cases x with
 | nil=>exact hp.elim
 | cons x xs =>
   obtain⟨u,us,rfl,ru,rs⟩:=r;exact⟨u,us,rfl,a2 C G σ H env n x u _ _ hK S ru hp fun env' σ' re S'=>b2 C G σ' H env' n xs us _ _ hK S' rs re k⟩
theorem a3l {m:Nat}{k:Nat}(hc:∀z,(F z).calm=true)(h:QGs K F es pgs)(hn:∀z,(x1k es (F z).env).length=m:=by intro _;rfl)(hst:∀z,(x1k es (F z).env).findIdx? (·.1)=none:=by intro _;rfl)(hK:∀z,(F z).K=K:=by intro _;rfl):QG K F (.Tuple es k pos) (gTp m pgs):=by
 obtain⟨g,a1,a2⟩:=h;refine⟨_,fun z=>hK z▸b0r (hc z) (a1 z) (hn z) (hst z),fun C G σ H env n x v R Q hK S r hp k=>?_⟩;cases x with
 | tup xs =>
   obtain⟨a,vs,rfl,t,rs⟩:=r;exact⟨a,vs,rfl,t.sq,by rw [<- rs.length];exact hp.1,a2 C G σ H env n xs vs _ _ hK S rs hp.2 k⟩
 | _=>exact hp.elim
noncomputable def ItR (K:x0b)(G:Gh)(H:Hp)(J:It)(xs:List PV):Prop:=∀(G2:Gh) (H2:Hp),(∀b o,b∉G.M->H b=some o->H2 b=some o)->(∀a∈G2.M,a∈G.M\/H a=none)->(∀(k:Nat) (p:Addr),G.pots[k]?=some p->G2.pots[k]?=some p)->(∀p,H2 p=none->p∉G2.M)->
 (∀(i:Nat) x,xs[i]?=some x->J.go i H2/\∀v H3,J.yld i H2 v H3->Same H2 H3/\Rep K G2 H3 x v)/\∀i,xs.length<=i->J.stop i H2
noncomputable def IOk (K:x0b)(T:PotK)(wi:TI)(pi:pA):Prop:=∀(C:Ct) (G:Gh) (σ:St) (H:Hp) (env:Env) (n:Nat) (R:List PV->Env->Nat->Prop) (Q:It->Hp->Prop),C.K=K->C.T=T->SR C G σ H env n->pi env n R->
 (∀xs env' n' J H',R xs env' n'->SR C G σ H' env' n'->Fr G H H'->ItR K G H' J xs->Q J H')->wi σ H Q
noncomputable def QI {ι:Type}(T:PotK)(K:x0b)(F:ι->Cx)(tg iter:Expr)(pi:pA):Prop:=∃wi,(∀z,PI (F z) tg iter wi)/\IOk K T wi pi
variable {tg:Expr}
variable {us:List V}{J:It}
theorem b3e {K:x0b}{G:Gh}{H:Hp}{a:Addr}{xs:List PV}{vs:List V}(t:AtL G.M H a vs)(r:Reps K G H xs vs):ItR K G H (Itl K a) xs:=by
 intro G2 H2 hk hM hp hf;have hq:SqL K H2 a vs:=SqL.of (hk a _ t.1 t.2);have r2:Reps K G2 H2 xs vs:=Reps.mono hk hM hp _ _ r;refine⟨fun i x e=>?_,fun i hi=>⟨vs,hq,by rw [<- r.length];exact hi⟩⟩;obtain⟨v,ev,rv⟩:=r2.get' e;refine⟨⟨vs,v,hq,ev⟩,fun v' H3 y=>?_⟩;obtain⟨e3,y⟩:=y;subst e3;have:=y vs hq;rw [ev] at this;cases this;exact⟨Same.refl _,rv⟩
theorem b5H {K:x0b}{G:Gh}{H:Hp}{a:Addr}{xs:List PV}{vs:List V}(t:AtT G.M H a vs)(r:Reps K G H xs vs):ItR K G H (Itt K a) xs:=by
 intro G2 H2 hk hM hp hf;have hq:SqT K H2 a vs:=SqT.of (hk a _ t.1 t.2);have r2:Reps K G2 H2 xs vs:=Reps.mono hk hM hp _ _ r;refine⟨fun i x e=>?_,fun i hi=>⟨vs,hq,by rw [<- r.length];exact hi⟩⟩;obtain⟨v,ev,rv⟩:=r2.get' e;refine⟨⟨vs,v,hq,ev⟩,fun v' H3 y=>?_⟩;obtain⟨e3,y⟩:=y;subst e3;have:=y vs hq;rw [ev] at this;cases this;exact⟨Same.refl _,rv⟩
noncomputable def qIl (pe:pE):pA:=fun env n R=>pe env n fun x env1 n1=>match x with | .lst xs=>R xs env1 n1 | _=>False
noncomputable def qIt (pe:pE):pA:=fun env n R=>pe env n fun x env1 n1=>match x with | .tup xs=>R xs env1 n1 | _=>False
theorem a2S (h:QE T K F e pe)(hK:∀z,(F z).K=K:=by intro _;rfl):QI T K F tg e (qIl pe):=by
 obtain⟨t,h1,h2⟩:=h;refine⟨_,fun z=>hK z▸b5d (h1 z),fun C G σ H env n R Q hK hT S hp k=>?_⟩;refine h2 C G σ H env n _ _ hK hT S hp fun x env1 n1 v H1 p1 S1 r1 f1=>?_;cases x with
 | lst xs =>
   obtain⟨a,vs,rfl,t,r⟩:=r1;exact⟨a,rfl,⟨vs,t.sq⟩,k _ _ _ _ _ p1 S1 f1 (b3e t r)⟩
 | _=>exact p1.elim
theorem a2O (h:QE T K F e pe)(hK:∀z,(F z).K=K:=by intro _;rfl):QI T K F tg e (qIt pe):=by
 obtain⟨t,h1,h2⟩:=h;refine⟨_,fun z=>hK z▸pi_tup (h1 z),fun C G σ H env n R Q hK hT S hp k=>?_⟩;refine h2 C G σ H env n _ _ hK hT S hp fun x env1 n1 v H1 p1 S1 r1 f1=>?_;cases x with
 | tup xs =>
   obtain⟨a,vs,rfl,t,r⟩:=r1;exact⟨a,rfl,⟨vs,t.sq⟩,k _ _ _ _ _ p1 S1 f1 (b5H t r)⟩
 | _=>exact p1.elim
theorem b1g {K:x0b}{G:Gh}{H:Hp}(lo:Int)(m:Nat):ItR K G H (Itr lo m) ((x0L m).map fun(k:Nat)=>PV.int (lo + k)):=by
 intro G2 H2 hk hM hp hf;refine⟨fun i x e=>?_,fun i hi=>(show m<=i by simpa using hi)⟩;rw [x0p] at e;cases e1:(x0L m)[i]? with
 | none=>rw [e1] at e;cases e
 | some j =>
   rw [e1] at e;cases e;obtain⟨hi,e2⟩:=x0i.mp e1;rw [List.getElem_range] at e2;subst e2;refine⟨(show i < m by simpa using hi),fun v H3 y=>?_⟩;obtain⟨e3,y⟩:=y;subst e3 y;exact⟨Same.refl _,rfl⟩
noncomputable def a5H (pe:pE):pA:=fun env n R=>pe env n fun x env1 n1=>match x with | .int j=>(-1000000<=j/\j<=1000000)/\R ((x0L j.toNat).map fun(k:Nat)=>PV.int (0 + k)) env1 n1 | _=>False
theorem a1F {p:Pos}(hg:∀z,Gl (F z) "range")(hm:∀z,(F z).mg "range"=none)(h:QE T K F e pe)(hs:a0v e=true:=by rfl):QI T K F tg (.Call (.Name "range" p) [e] [] pos) (a5H pe):=by
 obtain⟨t,h1,h2⟩:=h;refine⟨_,fun z=>b0q (hg z) (hm z) (a0o (h1 z) a0E (a0e hs)) (by rw [a0e hs];rfl),fun C G σ H env n R Q hK hT S hp k=>?_⟩;refine a6v (pe:=pe) (fun C G σ H env n R Q hK hT S hp k=>h2 C G σ H env n R Q hK hT S hp fun x env' n' v H' r S' rp f=>k x env' n' v H' r S' (.inl (hK▸rp)) f) hK hT S hp fun x env1 n1 v H1 p1 S1 r1 f1=>?_;cases x with
 | int j=>exact⟨j,by rw [(r1.rd S1).int],by omega,by omega,k _ _ _ _ _ p1.2 S1 f1 (b1g 0 _)⟩
 | _=>exact p1.elim
noncomputable def a6M (xs:List PV):List PV:=xs.zipIdx.map fun y=>.tup [.int (y.2:Nat),y.1]
theorem a6L {xs:List PV}{i:Nat}{x:PV}(h:(a6M xs)[i]?=some x):∃y,xs[i]?=some y/\x=.tup [.int (i:Nat),y]:=by
 unfold a6M at h;rw [x0p,List.getElem?_zipIdx] at h;cases e:xs[i]? with
 | none=>rw [e] at h;cases h
 | some y =>
   rw [e] at h;cases h;exact⟨y,rfl,by simp⟩
theorem a4T (xs:List PV):(a6M xs).length=xs.length:=by unfold a6M;simp
noncomputable def capS:Option (Option Slot)->Option Slot
 | some (some (.v x))=>some (.v x)
 | _=>none
noncomputable def capV (cs:List (Option Nat))(env:Env):Env:=cs.map fun o=>o.bind fun j=>capS (env[j]?)
noncomputable def a2Z (g:pG)(tt:pT)(te:pE):List PV->Env->Nat->(List PV->Nat->Prop)->Prop
 | [],_,n,R=>R [] n
 | x::xs,env,n,R=>g x env fun env1=>tt env1 n fun b env2 n2=>if b=true then te env2 n2 fun y env3 n3=>a2Z g tt te xs env3 n3 fun ys n4=>R (y::ys) n4 else a2Z g tt te xs env2 n2 R
noncomputable def qTru:pT:=fun env n R=>R true env n
noncomputable def a3n (cs:List (Option Nat))(pi:pA)(g:pG)(tt:pT)(te:pE):pA:=fun env n R=>pi env n fun xs env1 n1=>xs.length<=1000000/\a2Z g tt te xs (capV cs env1) n1 fun ys n2=>R ys env1 n2
structure Inn (K:x0b)(T:PotK)(G:Gh)(σ:St)(H:Hp)(env:Env)(n:Nat):Prop where
 pots:∀p∈G.pots,p∈G.M/\T.at_ G.M H p n
 has:T.has G.pots
 mu:∀a∈G.M,∃o,H a=some o/\MutO o
 slots:∀(i:Nat) (s:Slot),env[i]?=some (some s)->∃x v,s=.v x/\σ[i]?=some (some v)/\Rep K G H x v
 len:env.length=σ.length
theorem Inn.sr {K:x0b}{T:PotK}{G:Gh}{σ:St}{H:Hp}{env:Env}{n:Nat}(I:Inn K T G σ H env n):SR ⟨K,T,G.M,G.pots,H,false⟩ G σ H env n where
 frame b o _ e:=e
 sub a ha:=.inl ha
 sup a ha:=ha
 pots:=I.pots
 pre:=⟨[],by simp,.inl rfl⟩
 mu:=I.mu
 slots i s e:=by
   obtain⟨x,v,rfl,ev,r⟩:=I.slots i s e;exact⟨v,ev,r⟩
 inj i j xs ys a e1:=by
   obtain⟨x,v,z,_⟩:=I.slots i _ e1;cases z
 p0:=⟨fun p hp=>(I.pots p hp).1,I.has⟩
 len:=I.len
 newp p hp hn:=absurd hp hn
theorem SR.inn {K:x0b}{T:PotK}{G:Gh}{σ:St}{H H0:Hp}{env:Env}{n:Nat}(S:SR ⟨K,T,G.M,G.pots,H0,false⟩ G σ H env n):Inn K T G σ H env n where
 pots:=S.pots
 has:=S.hasG
 mu:=S.mu
 slots i s e:=by
   cases s with
   | v x =>
     obtain⟨v,ev,r⟩:=S.slots i _ e;exact⟨x,v,rfl,ev,r⟩
   | ow kk xs =>
     obtain⟨a,vs,ev,h1,h2,_⟩:=S.slots i _ e;exact absurd h1 h2
 len:=S.len
theorem b4v {K:x0b}:TOk K T tTru qTru:=fun C G σ H env n R Q hK hT S hp k=>k _ _ _ _ hp S Fr.refl
structure CI (K:x0b)(T:PotK)(G:Gh)(H1:Hp)(D:Addr)(σ:St)(H:Hp)(env:Env)(n:Nat)(acc:List PV)(us:List V):Prop where
 inn:Inn K T ⟨D::G.M,G.pots⟩ σ H env n
 kp:∀b o,b∉G.pots->H1 b=some o->H b=some o
 eD:H D=some (.lst us)
 ra:Reps K ⟨D::G.M,G.pots⟩ H acc us
theorem CI.start {K:x0b}{T:PotK}{G:Gh}{H1:Hp}{D:Addr}{σ:St}{env:Env}{n:Nat}(hD:H1 D=none)(I0:Inn K T G σ H1 env n):CI K T G H1 D σ (upd H1 D (.lst [])) env n [] []:=by
 have lay:∀b o,H1 b=some o->upd H1 D (.lst []) b=some o:=fun b o e=>Same.lay1 hD b o e;have new:∀a,a∈D::G.M->a∈G.M\/H1 a=none:=fun a ha=>(x0k.mp ha).elim (fun z=>.inr (z▸hD)) .inl;refine⟨⟨fun p hp=>⟨x0f _ (I0.pots p hp).1,?_⟩,I0.has,fun a ha=>?_,fun i s e=>?_,I0.len⟩,fun b o _ e=>lay b o e,a0l,rfl⟩
 · have h1:=T.more (M':=D::G.M) (I0.pots p hp).2 new;obtain⟨o,e,_⟩:=T.mu h1;exact T.keep h1 (by rw [e,lay p o e]) fun b o _ e=>lay b o e
 · rcases x0k.mp ha with rfl | ha
   · exact⟨_,a0l,trivial⟩
   · obtain⟨o,e,m⟩:=I0.mu a ha;exact⟨o,lay a o e,m⟩
 · obtain⟨x,v,rfl,ev,r⟩:=I0.slots i s e;exact⟨x,v,rfl,ev,Rep.mono (G':=⟨D::G.M,G.pots⟩) (fun b o _ e=>lay b o e) new (fun _ _ e=>e) _ _ r⟩
theorem CI.go {K:x0b}{T:PotK}{G:Gh}{H1:Hp}{D:Addr}{σ σ':St}{H H':Hp}{env env':Env}{n n':Nat}{acc:List PV}(c:CI K T G H1 D σ H env n acc us)(nD:D∉G.pots)(S:SR ⟨K,T,D::G.M,G.pots,H,false⟩ ⟨D::G.M,G.pots⟩ σ' H' env' n'):CI K T G H1 D σ' H' env' n' acc us:=
 ⟨S.inn,fun b o hb e=>S.frame b o hb (c.kp b o hb e),S.frame D _ nD c.eD,Reps.mono (fun b o hb e=>S.frame b o (fun z=>hb (c.inn.pots b z).1) e) (fun a ha=>.inl ha) (fun _ _ e=>e) _ _ c.ra⟩
theorem CI.fD {G:Gh}{D:Addr}{H:Hp}(o:HO):Fr ⟨D::G.M,G.pots⟩ H (upd H D o):=fun b u hb e=>by
 rw [a0j (fun z=>hb (by rw [z];exact x0g))];exact e
theorem CI.add {K:x0b}{T:PotK}{G:Gh}{H1:Hp}{D:Addr}{σ:St}{H:Hp}{env:Env}{n:Nat}{acc:List PV}{y:PV}{u:V}(c:CI K T G H1 D σ H env n acc us)(nD:D∉G.pots)(hD:H1 D=none)(r:Rep K ⟨D::G.M,G.pots⟩ H y u):CI K T G H1 D σ (upd H D (.lst (us++[u]))) env n (acc++[y]) (us++[u]):=by
 refine⟨⟨fun p hp=>⟨(c.inn.pots p hp).1,T.keep (c.inn.pots p hp).2 (a0j fun z=>nD (by rw [<- z];exact hp)) (CI.fD _)⟩,c.inn.has,fun a ha=>?_,fun q s e=>?_,c.inn.len⟩,fun b o hb e=>?_,a0l,(c.ra.append (.one r)).fr (CI.fD _)⟩
 · by_cases haD:a=D
   · subst haD;exact⟨_,a0l,trivial⟩
   · rw [a0j haD];exact c.inn.mu a ha
 · obtain⟨x,v,rfl,ev,r⟩:=c.inn.slots q s e;exact⟨x,v,rfl,ev,r.fr (CI.fD _)⟩
 · rw [a0j (fun z=>by rw [z,hD] at e;cases e)];exact c.kp b o hb e
theorem CI.it {K:x0b}{T:PotK}{G:Gh}{H1:Hp}{D:Addr}{σ:St}{H:Hp}{env:Env}{n:Nat}{acc:List PV}{xs:List PV}(c:CI K T G H1 D σ H env n acc us)(hD:H1 D=none)(hJ:ItR K G H1 J xs):(∀(i:Nat) x,xs[i]?=some x->J.go i H/\∀v H3,J.yld i H v H3->Same H H3/\Rep K ⟨D::G.M,G.pots⟩ H3 x v)/\∀i,xs.length<=i->J.stop i H:=
 hJ ⟨D::G.M,G.pots⟩ H (fun b o hb e=>by
   by_cases z:b∈G.pots
   · obtain⟨h1,_⟩:=c.inn.pots b z;rcases x0k.mp h1 with rfl | h1
     · rw [hD] at e;cases e
     · exact absurd h1 hb
   · exact c.kp b o z e) (fun a ha=>(x0k.mp (show a∈D::G.M from ha)).elim (fun z=>.inr (z▸hD)) .inl) (fun _ _ e=>e) fun p hp=>c.inn.sr.fresh hp
theorem b1y {K:x0b}{T:PotK}{g:TG}{tt:TT}{te:TE}{pg:pG}{ptt:pT}{pte:pE}(hg:GOk K g pg)(ht:TOk K T tt ptt)(he:EOk K T te pte){G:Gh}{H1:Hp}{xs:List PV}(hJ:ItR K G H1 J xs)(hl:xs.length<=1000000)
   {σc:St} {env:Env} {n:Nat} {R:List PV->Nat->Prop} {Q:VK} {D:Addr} (hD:H1 D=none) (I0:Inn K T G σc H1 env n) (hp:a2Z pg ptt pte xs env n R)
   (hQ:∀ys n' us H',R ys n'->(∀p∈G.pots,T.at_ (D::G.M) H' p n')->(∀b o,b∉G.pots->H1 b=some o->H' b=some o)->H' D=some (.lst us)->Reps K ⟨D::G.M,G.pots⟩ H' ys us->Q (.ref D) H') :
   CompW J g tt te Q D σc (upd H1 D (.lst [])):=by
 have nD:D∉G.pots:=fun z=>I0.sr.fresh hD (I0.pots D z).1;refine⟨fun i m σ H=>m=xs.length - i/\i<=xs.length/\∃env n acc us,CI K T G H1 D σ H env n acc us/\acc.length<=i/\a2Z pg ptt pte (xs.drop i) env n fun ys n'=>R (acc++ys) n',⟨xs.length,rfl,x0U _,env,n,[],[],.start hD I0,x0m _,hp⟩,?_⟩;rintro i m σ H ⟨rfl,hi,env,n,acc,us,c,la,hc⟩;obtain⟨hgo,hstop⟩:=c.it hD hJ
 by_cases hlt:i < xs.length
 · obtain⟨g1,g2⟩:=hgo i _ (x0c hlt);refine .inr ⟨g1,fun v H2 y=>?_⟩;obtain⟨s2,rv⟩:=g2 v H2 y;rw [x1A hlt] at hc;refine hg _ _ σ H2 env n xs[i] v _ _ rfl (c.inn.sr.same s2) rv hc fun env1 σ1 hc1 S2=>?_;refine ht _ _ σ1 H2 env1 n _ _ rfl rfl S2 hc1 fun b env2 n2 H4 hc2 S4 f4=>?_;cases b with
   | false=>exact⟨xs.length - (i + 1),x2B _ _ hlt,rfl,hlt,env2,n2,acc,us,c.go nD S4,x3Z la,hc2⟩
   | true =>
     refine he _ _ σ1 H4 env2 n2 _ _ rfl rfl S4 hc2 fun y env3 n3 u H5 hc3 S5 r5 f5=>?_;have c5:=c.go nD S5;refine⟨us,c5.eD,by rw [<- c.ra.length];exact mil' (by omega),xs.length - (i + 1),x2B _ _ hlt,rfl,hlt,env3,n3,acc++[y],us++[u],c5.add nD hD r5,by rw [x0l,x0E];omega,?_⟩;simp only [x0S];exact hc3
 · obtain rfl:i=xs.length:=Nat.le_antisymm hi (x2W hlt);refine .inl ⟨hstop _ (x0m _),?_⟩;rw [x4o] at hc;have hc':R (acc++[]) n:=hc;rw [x1t] at hc';exact hQ _ n us H hc' (fun p hp=>(c.inn.pots p hp).2) c.kp c.eD c.ra
end
end Pu
end
section
namespace Pu
open PySem PySem.Spec L2
section
variable {T:PotK}{ι:Type}{K:x0b}{F:ι->Cx}{e a b c:Expr}{es rest:List Expr}{pe pa pb pc:pE}{pos:Pos}{pl pr:pA}{pg:pG}{pgs:pGs}{pt:pT}
noncomputable def QIf {ι:Type}(T:PotK)(K:x0b)(F:ι->Cx)(ifs:List Expr)(pt:pT):Prop:=∃t,(∀z,PIf (F z) ifs t)/\TOk K T t pt
theorem a2R:QIf T K F [] qTru:=⟨_,fun _=>b5b,b4v⟩
theorem a4t (h:QT T K F c pt):QIf T K F [c] pt:=let ⟨t,h1,h2⟩:=h;⟨t,fun z=>b5a (h1 z),h2⟩
theorem a7I {C:Ct}{G:Gh}{σ:St}{H:Hp}{env:Env}{n:Nat}(S:SR C G σ H env n)(cs:List (Option Nat)):Inn C.K C.T G (a9z cs σ) H (capV cs env) n where
 pots:=S.pots
 has:=S.hasG
 mu:=S.mu
 len:=by simp [capV,a9z]
 slots i s e:=by
   unfold capV at e;rw [x0p] at e;cases ec:cs[i]? with
   | none=>rw [ec] at e;cases e
   | some o =>
     rw [ec] at e;cases o with
     | none=>cases e
     | some j =>
       have e':capS (env[j]?)=some s:=by simpa using e
       unfold capS at e'
       split at e'
       · rename_i x ex;cases e';obtain⟨v,ev,r⟩:=S.slots j _ ex;refine⟨x,v,rfl,?_,r⟩;unfold a9z;rw [x0p,ec];simp [ev]
       · cases e'
noncomputable def cutH (H:Hp)(D:Addr):Hp:=fun b=>if b=D then none else H b
theorem a1q {H:Hp}{D b:Addr}(h:b≠D):cutH H D b=H b:=if_neg h
theorem a5y {H:Hp}{D:Addr}{o:HO}(h:H D=some o):upd (cutH H D) D o=H:=by
 funext b
 by_cases hb:b=D
 · subst hb;rw [a0l,h]
 · rw [a0j hb,a1q hb]
theorem a2i {scope:Scope}{cl:ι->List (Str×Addr)}{N:List Str}{cs:List (Option Nat)}{elt tg iter:Expr}{ifs:List Expr}{pi:pA}{ptt:pT}{pte:pE}(S:∀z,a1x (F z) scope (cl z) N cs)(hc:∀z,(F z).calm=true)(hi:QI T K F tg iter pi)
   (hg:QG K (fun y:ι×List Addr×Addr×Shared×Hp=>a0z (F y.1) scope (cl y.1) N y.2.1 y.2.2.1 y.2.2.2.1 y.2.2.2.2) tg pg) (ht:QIf T K (fun y:ι×List Addr×Addr×Shared×Hp=>a0z (F y.1) scope (cl y.1) N y.2.1 y.2.2.1 y.2.2.2.1 y.2.2.2.2) ifs ptt)
   (he:QE T K (fun y:ι×List Addr×Addr×Shared×Hp=>a0z (F y.1) scope (cl y.1) N y.2.1 y.2.2.1 y.2.2.2.1 y.2.2.2.2) elt pte)
   (hs:∀z x,x1s iter (F z).env x=pure x:=by intro _ _;rfl):QN T K F (.ListComp elt [⟨tg,iter,ifs,0⟩] scope pos) (a3n cs pi pg ptt pte):=by
 obtain⟨wi,i1,i2⟩:=hi;obtain⟨g,hg0,hg⟩:=hg;obtain⟨tt,ht0,ht⟩:=ht;obtain⟨te,he0,he⟩:=he;refine⟨_,fun z=>b0v (S z) (hc z) (i1 z) (fun fp C s H=>⟨hg0 (z,fp,C,s,H),ht0 (z,fp,C,s,H),he0 (z,fp,C,s,H)⟩) (hs z),fun C G σ H env n R Q hK hT S hp k=>?_⟩;refine i2 C G σ H env n _ _ hK hT S hp fun xs env1 n1 J H1 p1 S1 f1 hJ=>?_;intro D hD;have hDM:=S1.fresh hD;refine b1y (G:=G) hg ht he hJ p1.1 hD (hT▸hK▸a7I S1 cs) p1.2 fun ys n2 us H' rr hpots hk eD ry=>?_
 -- the heap without D
 have nD:∀b o,H1 b=some o->b≠D:=fun b o e z=>by rw [z,hD] at e;cases e
 have hD0:C.H0 D=none:=by
   cases z:C.H0 D with
   | none=>rfl
   | some o =>
     by_cases hp:D∈C.pots0
     · exact absurd (S1.sup D (S1.p0.1 D hp)) hDM
     · have:=S1.frame D o hp z;rw [hD] at this;cases this
 have hk2:∀b o,b∉G.pots->H1 b=some o->cutH H' D b=some o:=fun b o hb e=>by rw [a1q (nD b o e)];exact hk b o hb e
 have nc:∀b,b∉D::G.M->b≠D:=fun b hb z=>hb (by rw [z];exact x0g);have np:∀p∈G.pots,p≠D:=fun p hp z=>hDM (z▸(S1.pots p hp).1)
 have Sb:SR C G σ (cutH H' D) env1 n2:=S1.call hk2 fun p hp=>by
   subst hT;have h2:=C.T.keep (hpots p hp) (H':=cutH H' D) (a1q (np p hp)) fun b o hb e=>by rw [a1q (nc b hb)];exact e
   exact C.T.more h2 fun a ha=>.inl (x0f _ ha)
 have:=k ys env1 n2 D us (cutH H' D) rr Sb (f1.trans fun b o hb e=>hk2 b o (fun z=>hb (S1.pots b z).1) e) (by unfold cutH;rw [if_pos rfl]) ?_
 · rw [a5y eD] at this;exact this
 · exact Reps.mono (G:=⟨D::G.M,G.pots⟩) (fun b o hb e=>by rw [a1q (nc b hb)];exact e) (fun a ha=>.inl (x0f _ ha)) (fun _ _ e=>e) _ _ ry
end
end Pu
end
section
namespace Pu
open PySem PySem.Spec L2
structure a6Z where
 nx:Env->Nat->Prop
 rt:PV->Nat->Prop
 bk:Env->Nat->Prop:=fun _ _=>False
 ct:Env->Nat->Prop:=fun _ _=>False
noncomputable abbrev pS:=a6Z->Env->Nat->Prop
structure Ext (G:Gh)(H:Hp)(G':Gh)(H':Hp):Prop where
 keep:∀b o,b∉G.M->H b=some o->H' b=some o
 new:∀a∈G'.M,a∈G.M\/H a=none
 pot:∀(k:Nat) (p:Addr),G.pots[k]?=some p->G'.pots[k]?=some p
theorem Ext.refl {G:Gh}{H:Hp}:Ext G H G H:=⟨fun _ _ _ e=>e,fun _ h=>.inl h,fun _ _ e=>e⟩
theorem Ext.fr {G:Gh}{H H':Hp}(f:Fr G H H'):Ext G H G H':=⟨f,fun _ h=>.inl h,fun _ _ e=>e⟩
theorem Ext.trans {G G1 G2:Gh}{H H1 H2:Hp}(a:Ext G H G1 H1)(b:Ext G1 H1 G2 H2):Ext G H G2 H2 where
 keep c o hc e:=b.keep c o (fun z=>(a.new c z).elim hc fun z=>by rw [z] at e;cases e) (a.keep c o hc e)
 new c hc:=(b.new c hc).elim (fun z=>a.new c z) fun z=>by
   by_cases hM:c∈G.M
   · exact .inl hM
   · refine .inr ?_;cases e:H c with
     | none=>rfl
     | some o=>rw [a.keep c o hM e] at z;cases z
 pot k p e:=b.pot k p (a.pot k p e)
structure Link (C:Ct)(G:Gh)(H:Hp)(PD:a6Z)(D:Ends):Prop where
 nx:∀env n G' σ H',PD.nx env n->SR C G' σ H' env n->Ext G H G' H'->D.nx σ H'
 rt:∀x n v G' σ H' env,PD.rt x n->SR C G' σ H' env n->Rep C.K ⟨C.M0,G'.pots⟩ H' x v->Ext G H G' H'->D.rt v H'
 bk:∀env n G' σ H',PD.bk env n->SR C G' σ H' env n->Ext G H G' H'->D.bk σ H'
 ct:∀env n G' σ H',PD.ct env n->SR C G' σ H' env n->Ext G H G' H'->D.ct σ H'
theorem Link.ext {C:Ct}{G G':Gh}{H H':Hp}{PD:a6Z}{D:Ends}(L:Link C G H PD D)(x:Ext G H G' H'):Link C G' H' PD D:=
 ⟨fun env n G2 σ H2 p S e=>L.nx env n G2 σ H2 p S (x.trans e),fun y n v G2 σ H2 env p S r e=>L.rt y n v G2 σ H2 env p S r (x.trans e),fun env n G2 σ H2 p S e=>L.bk env n G2 σ H2 p S (x.trans e),fun env n G2 σ H2 p S e=>L.ct env n G2 σ H2 p S (x.trans e)⟩
noncomputable def SOk (K:x0b)(T:PotK)(np:Bool)(t:TS)(ps:pS):Prop:=∀(C:Ct) (G:Gh) (σ:St) (H:Hp) (env:Env) (n:Nat) (PD:a6Z) (D:Ends),C.K=K->C.T=T->C.np=np->SR C G σ H env n->ps PD env n->Link C G H PD D->t D σ H
noncomputable def QS {ι:Type}(T:PotK)(np:Bool)(K:x0b)(F:ι->Cx)(st:Stmt)(ps:pS):Prop:=∃t,(∀z,PS (F z) st t)/\SOk K T np t ps
noncomputable def QSs {ι:Type}(T:PotK)(np:Bool)(K:x0b)(F:ι->Cx)(st:List Stmt)(ps:pS):Prop:=∃t,(∀z,PSs (F z) st t)/\SOk K T np t ps
theorem SR.out {C:Ct}{G:Gh}{σ:St}{H:Hp}{env:Env}{n:Nat}(S:SR C G σ H env n){x:PV}{v:V}(r:Rep C.K G H x v):Rep C.K ⟨C.M0,G.pots⟩ H x v:=
 Rep.mono (G':=⟨C.M0,G.pots⟩) (fun _ _ _ e=>e) (fun a ha=>.inl (S.sup a ha)) (fun _ _ e=>e) _ _ r
theorem SR.old {C:Ct}{G:Gh}{σ:St}{H:Hp}{env:Env}{n:Nat}(S:SR C G σ H env n){a:Addr}(h:H a=none):C.H0 a=none:=by
 cases z:C.H0 a with
 | none=>rfl
 | some o =>
   by_cases hp:a∈C.pots0
   · exact absurd (S.sup a (S.p0.1 a hp)) (S.fresh h)
   · have:=S.frame a o hp z;rw [h] at this;cases this
theorem SR.moreO {C:Ct}{G:Gh}{σ:St}{H:Hp}{env:Env}{n:Nat}(S:SR C G σ H env n){a:Addr}{ob:HO}(mo:MutO ob)(h:H a=none):SR C ⟨a::G.M,G.pots⟩ σ (upd H a ob) env n where
 frame b o hb e:=Same.lay1 h b o (S.frame b o hb e)
 sub b hb:=(x0k.mp hb).elim (fun z=>.inr (z▸S.old h)) (S.sub b)
 sup b hb:=x0f _ (S.sup b hb)
 pots p hp:=⟨x0f _ (S.pots p hp).1,by
   have h1:=C.T.more (M':=a::G.M) (S.pots p hp).2 (fun c hc=>(x0k.mp hc).elim (fun z=>.inr (z▸h)) .inl);obtain⟨o,e,_⟩:=C.T.mu h1
   exact C.T.keep h1 (by rw [e,Same.lay1 h p o e]) fun b o _ e=>Same.lay1 h b o e⟩
 pre:=S.pre
 mu b hb:=by
   rcases x0k.mp hb with rfl | hb
   · exact⟨_,a0l,mo⟩
   · obtain⟨o,e,m⟩:=S.mu b hb;exact⟨o,Same.lay1 h b o e,m⟩
 slots i s e:=by
   have mm:∀{x:PV} {v:V},Rep C.K G H x v->Rep C.K ⟨a::G.M,G.pots⟩ (upd H a ob) x v:=fun r=>Rep.mono (G':=⟨a::G.M,G.pots⟩) (H':=upd H a ob) (fun b o _ e=>Same.lay1 h b o e) (fun c hc=>(x0k.mp (show c∈a::G.M from hc)).elim (fun z=>.inr (z▸h)) .inl) (fun _ _ e=>e) _ _ r;have:=S.slots i s e;cases s with
   | v x =>
     obtain⟨v,e1,r⟩:=this;exact⟨v,e1,mm r⟩
   | ow kk xs =>
     obtain⟨b,us,e1,h1,h2,h3,h4,r⟩:=this;exact⟨b,us,e1,x0f _ h1,h2,h3,Same.lay1 h _ _ h4,Reps.mono (G':=⟨a::G.M,G.pots⟩) (H':=upd H a ob) (fun b o _ e=>Same.lay1 h b o e) (fun c hc=>(x0k.mp (show c∈a::G.M from hc)).elim (fun z=>.inr (z▸h)) .inl) (fun _ _ e=>e) _ _ r⟩
 inj:=S.inj
 p0:=S.p0
 len:=S.len
 newp:=S.newp
theorem SR.more {C:Ct}{G:Gh}{σ:St}{H:Hp}{env:Env}{n:Nat}(S:SR C G σ H env n){a:Addr}{vs:List V}(h:H a=none):SR C ⟨a::G.M,G.pots⟩ σ (upd H a (.lst vs)) env n:=S.moreO (ob:=.lst vs) trivial h
theorem SR.ow {C:Ct}{G:Gh}{σ:St}{H:Hp}{env:Env}{n:Nat}(S:SR C G σ H env n)(i:Nat)(kk:OK){a:Addr}{xs:List PV}{vs:List V}(h:H a=none)(r:Reps C.K G H xs vs) :
   SR C ⟨a::G.M,G.pots⟩ (σ.set i (some (.ref a))) (upd H a (mkO kk vs)) (env.set i (some (.ow kk xs))) n:=by
 have S1:=S.moreO (b0M kk vs) h;have aM:a∉G.M:=S.fresh h;have r1:Reps C.K ⟨a::G.M,G.pots⟩ (upd H a (mkO kk vs)) xs vs:=Reps.mono (G':=⟨a::G.M,G.pots⟩) (H':=upd H a (mkO kk vs)) (fun b o _ e=>Same.lay1 h b o e) (fun c hc=>(x0k.mp (show c∈a::G.M from hc)).elim (fun z=>.inr (z▸h)) .inl) (fun _ _ e=>e) _ _ r
 have other:∀(j:Nat) (ys:OK×List PV),env[j]?=some (some (Slot.ow ys.1 ys.2))->σ[j]?≠some (some (.ref a)):=by
   intro j ys e z;obtain⟨b,us,e1,h1,_⟩:=S.slots j _ e;rw [z] at e1;cases e1;exact aM h1
 exact {
   frame:=S1.frame
   sub:=S1.sub
   sup:=S1.sup
   pots:=S1.pots
   pre:=S1.pre
   mu:=S1.mu
   slots:=fun j s e=>by
     by_cases hj:i=j
     · subst hj
       by_cases hl:i < env.length
       · rw [x0y hl] at e;cases e;exact⟨a,vs,by rw [x0y (by rw [<- S.len];exact hl)],x0g,fun z=>aM (S.sup a z),fun z=>aM (S.pots a z).1,a0l,r1⟩
       · rw [x0T (by rw [x0X];omega)] at e;cases e
     · rw [x0D hj] at e ⊢;exact S1.slots j s e
   inj:=fun j k xs' ys b e1 e2 e3 e4=>by
     by_cases hj:i=j
     · by_cases hk:i=k
       · omega
       · subst hj;rw [x0D hk] at e2 e4
         by_cases hl:i < σ.length
         · rw [x0y hl] at e3;cases e3;exact absurd e4 (other k ys e2)
         · rw [x0T (by rw [x0X];omega)] at e3;cases e3
     · rw [x0D hj] at e1 e3
       by_cases hk:i=k
       · subst hk
         by_cases hl:i < σ.length
         · rw [x0y hl] at e4;cases e4;exact absurd e3 (other j xs' e1)
         · rw [x0T (by rw [x0X];omega)] at e4;cases e4
       · rw [x0D hk] at e2 e4;exact S.inj j k xs' ys b e1 e2 e3 e4
   p0:=S.p0
   len:=by rw [x0X,x0X];exact S.len
   newp:=S.newp }
theorem SR.own {C:Ct}{G:Gh}{σ:St}{H:Hp}{env:Env}{n:Nat}(S:SR C G σ H env n)(i:Nat){a:Addr}{xs:List PV}{vs:List V}(h:H a=none)(r:Reps C.K G H xs vs) :
   SR C ⟨a::G.M,G.pots⟩ (σ.set i (some (.ref a))) (upd H a (.lst vs)) (env.set i (some (.ow .lst xs))) n:=S.ow i .lst h r
theorem SR.putO {C:Ct}{G:Gh}{σ:St}{H:Hp}{env:Env}{n:Nat}(S:SR C G σ H env n){i:Nat}{kk:OK}(k':OK){a:Addr}{xs ys:List PV}{vs:List V}(e:env[i]?=some (some (.ow kk xs)))(ea:σ[i]?=some (some (.ref a)))(r:Reps C.K G H ys vs) :
   SR C G σ (upd H a (mkO k' vs)) (env.set i (some (.ow k' ys))) n/\Fr G H (upd H a (mkO k' vs)):=by
 obtain⟨a',us,ea',aM,a0,ap,eH,_⟩:=S.slots i _ e;rw [ea] at ea';cases ea';have f:Fr G H (upd H a (mkO k' vs)):=fun b o hb he=>by rw [a0j (fun z=>hb (by rw [z];exact aM))];exact he
 refine⟨{
   frame:=fun b o hb he=>?_
   sub:=S.sub
   sup:=S.sup
   pots:=fun p hp=>⟨(S.pots p hp).1,C.T.keep (S.pots p hp).2 (a0j fun z=>ap (by rw [<- z];exact hp)) f⟩
   pre:=S.pre
   mu:=fun b hb=>?_
   slots:=fun j s es=>?_
   inj:=fun j k xs' ys' b e1 e2 e3 e4=>?_
   p0:=S.p0
   len:=by rw [x0X];exact S.len
   newp:=S.newp },f⟩
 · have hb2:b≠a:=fun z=>by
     rcases S.sub a aM with z2 | z2
     · exact a0 z2
     · rw [z,z2] at he;cases he
   rw [a0j hb2];exact S.frame b o hb he
 · by_cases hba:b=a
   · subst hba;exact⟨_,a0l,b0M k' vs⟩
   · obtain⟨o,he,m⟩:=S.mu b hb;exact⟨o,by rw [a0j hba];exact he,m⟩
 · by_cases hj:i=j
   · subst hj;have hl:i < env.length:=(x0i.mp e).1;rw [x0y hl] at es;cases es;exact⟨a,vs,ea,aM,a0,ap,a0l,r.fr f⟩
   · rw [x0D hj] at es;have:=S.slots j s es;cases s with
     | v x =>
       obtain⟨v,e1,r⟩:=this;exact⟨v,e1,r.fr f⟩
     | ow kz zs =>
       obtain⟨b,us',e1,h1,h2,h3,h4,r⟩:=this;have hba:b≠a:=fun z=>hj (S.inj i j (kk,xs) (kz,zs) a e es ea (by rw [e1,z]));exact⟨b,us',e1,h1,h2,h3,by rw [a0j hba];exact h4,r.fr f⟩
 · have back:∀(j:Nat) (zs:OK×List PV),(env.set i (some (.ow k' ys)))[j]?=some (some (Slot.ow zs.1 zs.2))->∃zs':OK×List PV,env[j]?=some (some (.ow zs'.1 zs'.2)):=by
     intro j zs h
     by_cases hj:i=j
     · subst hj;exact⟨(kk,xs),e⟩
     · rw [x0D hj] at h;exact⟨zs,h⟩
   obtain⟨z1,e1'⟩:=back j xs' e1;obtain⟨z2,e2'⟩:=back k ys' e2;exact S.inj j k z1 z2 b e1' e2' e3 e4
theorem SR.put {C:Ct}{G:Gh}{σ:St}{H:Hp}{env:Env}{n:Nat}(S:SR C G σ H env n){i:Nat}{a:Addr}{xs ys:List PV}{vs:List V}(e:env[i]?=some (some (.ow .lst xs)))(ea:σ[i]?=some (some (.ref a)))(r:Reps C.K G H ys vs) :
   SR C G σ (upd H a (.lst vs)) (env.set i (some (.ow .lst ys))) n/\Fr G H (upd H a (.lst vs)):=S.putO .lst e ea r
section
variable {T:PotK}{np:Bool}{ι:Type}{K:x0b}{F:ι->Cx}{e a b c:Expr}{es:List Expr}{st:Stmt}{rest:List Stmt}{pe pa pb pc:pE}{pos:Pos}{pl pr:pA}{pg:pG}{pt:pT}{p1 p2:pS}
noncomputable def qNx:pS:=fun D env n=>D.nx env n
noncomputable def qSeq (p q:pS):pS:=fun D env n=>p { D with nx:=fun e m=>q D e m } env n
theorem a0r:QSs T np K F [] qNx:=⟨_,fun _=>b0m,fun C G σ H env n PD D hK hT hn S hp L=>L.nx _ _ _ _ _ hp S Ext.refl⟩
theorem a0h (h:QS T np K F st p1):QSs T np K F [st] p1:=let ⟨t,h1,h2⟩:=h;⟨t,fun z=>a5J (h1 z),h2⟩
theorem a0d (h:QS T np K F st p1)(h':QSs T np K F rest p2):QSs T np K F (st::rest) (qSeq p1 p2):=by
 obtain⟨t,a1,a2⟩:=h;obtain⟨u,b1,b2⟩:=h';refine⟨_,fun z=>a1j (a1 z) (b1 z),fun C G σ H env n PD D hK hT hn S hp L=>?_⟩;refine a2 C G σ H env n _ _ hK hT hn S hp ⟨fun env1 n1 G1 σ1 H1 q1 S1 x1=>?_,L.rt,L.bk,L.ct⟩;exact b2 C G1 σ1 H1 env1 n1 PD D hK hT hn S1 q1 (L.ext x1)
theorem a0M {X:Cx}{i:Nat}{x:Str}{e:Expr}{pos' pos:Pos}(hN:X.N.Nodup)(hi:X.N[i]?=some x)(hx:Loc X.env.scope x)(hs:x4T e (some (.Name x pos')) pos.line X.env=pure false:=by rfl)(hf:X.fn x=true\/X.env.scope.names.lookup x=some .local:=by first | exact .inl rfl | exact .inr rfl | assumption)(te:TE)(h:EW X e te):SW X (.Assign [.Name x pos'] e pos) (tAsg te (a1J i)):=⟨a3U hN hi hx h.h hs hf⟩
theorem a3Q {X:Cx}{tg e:Expr}{pos:Pos}(hs:x3E [tg] e pos.line X.env=pure false:=by rfl)(hw:x3F [tg] e X.env=pure none:=by rfl)(h1:(x1k [tg] X.env).map (·.2)=[assign tg X.env]:=by rfl)(te:TE)(g:TG)(h:EW X e te)(hg:GW X tg g):SW X (.Assign [tg] e pos) (tAsg te g):=⟨b0n h.h hg.h hs hw h1⟩
theorem a1g {X:Cx}{e:Expr}{pos:Pos}(hs:x4T e none pos.line X.env=pure false:=by rfl)(te:TE)(h:EW X e te):SW X (.Expr e pos) (b4A te):=⟨b4X h.h hs⟩
noncomputable def qSet (i:Nat)(pe:pE):pS:=fun D env n=>pe env n fun x env1 n1=>D.nx (env1.set i (some (.v x))) n1
theorem a0V (i:Nat)(h:∀z te,EW (F z) e te->SW (F z) st (tAsg te (a1J i)))(he:QE T K F e pe):QS T np K F st (qSet i pe):=by
 obtain⟨t,a1,a2⟩:=he;refine⟨_,fun z=>(h z _ ⟨a1 z⟩).h,fun C G σ H env n PD D hK hT hn S hp L=>?_⟩;refine a2 C G σ H env n _ _ hK hT S hp fun x env1 n1 v H1 q1 S1 r1 f1=>?_;exact L.nx _ _ _ _ _ q1 (S1.set i (hK▸r1)) (Ext.fr f1)
noncomputable def qOwn (i:Nat)(pn:pA):pS:=fun D env n=>pn env n fun xs env1 n1=>D.nx (env1.set i (some (.ow .lst xs))) n1
theorem a4k {G:Gh}{H:Hp}{a:Addr}{o:HO}(h:H a=none):Ext G H ⟨a::G.M,G.pots⟩ (upd H a o):=⟨fun b u _ e=>Same.lay1 h b u e,fun c hc=>(x0k.mp (show c∈a::G.M from hc)).elim (fun z=>.inr (z▸h)) .inl,fun _ _ e=>e⟩
theorem qs_own (i:Nat)(h:∀z te,EW (F z) e te->SW (F z) st (tAsg te (a1J i)))(he:QN T K F e pl):QS T np K F st (qOwn i pl):=by
 obtain⟨t,a1,a2⟩:=he;refine⟨_,fun z=>(h z _ ⟨a1 z⟩).h,fun C G σ H env n PD D hK hT hn S hp L=>?_⟩;refine a2 C G σ H env n _ _ hK hT S hp fun xs env1 n1 a vs Hb q1 S1 f1 hn1 r1=>?_;exact L.nx _ _ _ _ _ q1 (S1.own i hn1 (hK▸r1)) ((Ext.fr f1).trans (a4k hn1))
noncomputable def qAsg (pe:pE)(g:pG):pS:=fun D env n=>pe env n fun x env1 n1=>g x env1 fun env2=>D.nx env2 n1
theorem a8c {tg:Expr}(h:∀z te g,EW (F z) e te->GW (F z) tg g->SW (F z) st (tAsg te g))(he:QE T K F e pe)(hg:QG K F tg pg):QS T np K F st (qAsg pe pg):=by
 obtain⟨t,a1,a2⟩:=he;obtain⟨g,b1,b2⟩:=hg;refine⟨_,fun z=>(h z _ _ ⟨a1 z⟩ ⟨b1 z⟩).h,fun C G σ H env n PD D hK hT hn S hp L=>?_⟩;refine a2 C G σ H env n _ _ hK hT S hp fun x env1 n1 v H1 q1 S1 r1 f1=>?_;exact b2 C G σ H1 env1 n1 x v _ _ hK S1 r1 q1 fun env' σ' re S'=>L.nx _ _ _ _ _ re S' (Ext.fr f1)
noncomputable def a1Z (pe:pE):pS:=fun D env n=>pe env n fun _ env1 n1=>D.nx env1 n1
theorem a1h (h:∀z te,EW (F z) e te->SW (F z) st (b4A te))(he:QE T K F e pe):QS T np K F st (a1Z pe):=by
 obtain⟨t,a1,a2⟩:=he;refine⟨_,fun z=>(h z _ ⟨a1 z⟩).h,fun C G σ H env n PD D hK hT hn S hp L=>?_⟩;exact a2 C G σ H env n _ _ hK hT S hp fun x env1 n1 v H1 q1 S1 r1 f1=>L.nx _ _ _ _ _ q1 S1 (Ext.fr f1)
noncomputable def qRet (pe:pE):pS:=fun D env n=>pe env n fun x _ n1=>D.rt x n1
theorem a0q (he:QE T K F e pe):QS T np K F (.Return (some e) pos) (qRet pe):=by
 obtain⟨t,a1,a2⟩:=he;refine⟨_,fun z=>a8i (a1 z),fun C G σ H env n PD D hK hT hn S hp L=>?_⟩;exact a2 C G σ H env n _ _ hK hT S hp fun x env1 n1 v H1 q1 S1 r1 f1=>L.rt _ _ _ _ _ _ _ q1 S1 (S1.out (hK▸r1)) (Ext.fr f1)
noncomputable def qRetO (i:Nat):pS:=fun D env n=>match env[i]? with | some (some (.ow .lst xs))=>D.rt (.lst xs) n | _=>False
noncomputable def qIfS (t:pT)(p q:pS):pS:=fun D env n=>t env n fun b env1 n1=>if b=true then p D env1 n1 else q D env1 n1
theorem a0X {x y:List Stmt}(hc:QT T K F c pt)(h1:QSs T np K F x p1)(h2:QSs T np K F y p2):QS T np K F (.If c x y pos) (qIfS pt p1 p2):=by
 obtain⟨tc,c1,c2⟩:=hc;obtain⟨t,a1,a2⟩:=h1;obtain⟨u,b1,b2⟩:=h2;refine⟨_,fun z=>ps_if (c1 z) (a1 z) (b1 z),fun C G σ H env n PD D hK hT hn S hp L=>?_⟩;refine c2 C G σ H env n _ _ hK hT S hp fun d env1 n1 H1 q1 S1 f1=>?_;cases d with
 | true=>exact a2 C G σ H1 env1 n1 PD D hK hT hn S1 q1 (L.ext (Ext.fr f1))
 | false=>exact b2 C G σ H1 env1 n1 PD D hK hT hn S1 q1 (L.ext (Ext.fr f1))
noncomputable def forL (g:pG)(b:pS)(D:a6Z):List PV->Env->Nat->Prop
 | [],env,n=>D.nx env n
 | x::xs,env,n=>g x env fun env1=>b { D with nx:=fun e m=>forL g b D xs e m,ct:=fun e m=>forL g b D xs e m,bk:=D.nx } env1 n
noncomputable def qFor (pi:pA)(g:pG)(b:pS):pS:=fun D env n=>pi env n fun xs env1 n1=>forL g b D xs env1 n1
theorem a1X {tg iter:Expr}{body:List Stmt}(hc:∀z,(F z).calm=true)(hi:QI T K F tg iter pl)(hg:QG K F tg pg)(hb:QSs T np K F body p1)(hp:∀z,PassesOwn (model (F z).prog (F z).w) (F z).A (F z).env (F z).xe:=by intro _;exact PassesOwn.never)(hs:∀z x,x1s iter (F z).env x=pure x:=by intro _ _;rfl):QS T np K F (.For tg iter body [] pos) (qFor pl pg p1):=by
 obtain⟨wi,i1,i2⟩:=hi;obtain⟨g,g1,g2⟩:=hg;obtain⟨t,b1,b2⟩:=hb;refine⟨_,fun z=>ps_for (hp z) (hc z) (i1 z) (g1 z) (b1 z) (hs z),fun C G σ H env n PD D hK hT hn S hp L=>?_⟩;refine i2 C G σ H env n _ _ hK hT S hp fun xs env1 n1 J H1 q1 S1 f1 hJ=>?_;have L1:=L.ext (Ext.fr f1);refine⟨fun i m σ H=>m=xs.length - i/\i<=xs.length/\∃G' env n,SR C G' σ H env n/\Ext G H1 G' H/\forL pg p1 PD (xs.drop i) env n,⟨xs.length,by simp,x0U _,G,env1,n1,S1,Ext.refl,by simpa using q1⟩,?_⟩;rintro i m σ' H' ⟨rfl,hi,G',env',n',S',x',q'⟩;have hf:∀p,H' p=none->p∉G'.M:=fun p hp=>S'.fresh hp;obtain⟨hgo,hstop⟩:=hJ G' H' x'.keep x'.new x'.pot hf
 by_cases hlt:i < xs.length
 · obtain⟨go1,go2⟩:=hgo i _ (x0c hlt);rw [x1A hlt] at q';refine .inr ⟨go1,fun σ H=>∃G' env n,SR C G' σ H env n/\Ext G H1 G' H/\forL pg p1 PD (xs.drop (i + 1)) env n,fun σ2 H2 h2=>⟨xs.length - (i + 1),by omega,rfl,hlt,h2⟩,fun v H2 y=>?_⟩;obtain⟨s2,rv⟩:=go2 v H2 y;have x2:Ext G' H' G' H2:=Ext.fr (Fr.of s2);refine g2 C G' σ' H2 env' n' _ v _ _ hK (S'.same s2) rv q' fun env2 σ2 q2 S2=>?_;refine b2 C G' σ2 H2 env2 n' _ _ hK hT hn S2 q2 ⟨fun e3 n3 G3 σ3 H3 q3 S3 x3=>?_,fun y n3 v G3 σ3 H3 e3 q3 S3 r3 x3=>?_,fun e3 n3 G3 σ3 H3 q3 S3 x3=>?_,fun e3 n3 G3 σ3 H3 q3 S3 x3=>?_⟩
   · exact⟨G3,e3,n3,S3,(x'.trans x2).trans x3,q3⟩
   · exact L1.rt _ _ _ _ _ _ _ q3 S3 r3 ((x'.trans x2).trans x3)
   · exact L1.nx _ _ _ _ _ q3 S3 ((x'.trans x2).trans x3)
   · exact⟨G3,e3,n3,S3,(x'.trans x2).trans x3,q3⟩
 · have ei:i=xs.length:=by omega
   subst ei;rw [x4o] at q';exact .inl ⟨hstop _ (x0m _),L1.nx _ _ _ _ _ q' S' x'⟩
noncomputable def a3O (t:pT)(b:pS)(D:a6Z):Nat->Env->Nat->Prop
 | 0,_,_=>False
 | k + 1,env,n=>t env n fun c env1 n1=>if c=true then b { D with nx:=fun e m=>a3O t b D k e m,ct:=fun e m=>a3O t b D k e m,bk:=D.nx } env1 n1 else D.nx env1 n1
noncomputable def b3K (t:pT)(b:pS):pS:=fun D env n=>∃k,a3O t b D k env n
theorem b2o {body:List Stmt}(hc:QT T K F c pt)(hb:QSs T np K F body p1)(hp:∀z,PassesOwn (model (F z).prog (F z).w) (F z).A (F z).env (F z).xe:=by intro _;exact PassesOwn.never):QS T np K F (.While c body [] pos) (b3K pt p1):=by
 obtain⟨tc,c1,c2⟩:=hc;obtain⟨t,b1,b2⟩:=hb;refine⟨_,fun z=>b2A (hp z) (c1 z) (b1 z),fun C G σ H env n PD D hK hT hn S hp L=>?_⟩;obtain⟨k,hp⟩:=hp;refine⟨fun m σ H'=>∃G' env n,SR C G' σ H' env n/\Ext G H G' H'/\a3O pt p1 PD m env n,⟨k,G,env,n,S,Ext.refl,hp⟩,?_⟩;rintro m σ1 H1 ⟨G1,env1,n1,S1,x1,q1⟩;cases m with
 | zero=>exact q1.elim
 | succ m =>
   refine c2 C G1 σ1 H1 env1 n1 _ _ hK hT S1 q1 fun d env2 n2 H2 q2 S2 f2=>?_;have x2:=x1.trans (Ext.fr f2);cases d with
   | false=>exact iteF (L.nx _ _ _ _ _ q2 S2 x2)
   | true =>
     refine iteT ⟨fun σ H'=>∃G' env n,SR C G' σ H' env n/\Ext G H G' H'/\a3O pt p1 PD m env n,fun σ' H' h=>⟨m,by omega,h⟩,?_⟩;exact b2 C G1 σ1 H2 env2 n2 _ _ hK hT hn S2 q2 ⟨fun e3 n3 G3 σ3 H3 q3 S3 x3=>⟨G3,e3,n3,S3,x2.trans x3,q3⟩,fun y n3 v G3 σ3 H3 e3 q3 S3 r3 x3=>L.rt _ _ _ _ _ _ _ q3 S3 r3 (x2.trans x3),fun e3 n3 G3 σ3 H3 q3 S3 x3=>L.nx _ _ _ _ _ q3 S3 (x2.trans x3),fun e3 n3 G3 σ3 H3 q3 S3 x3=>⟨G3,e3,n3,S3,x2.trans x3,q3⟩⟩
noncomputable def a7q (i:Nat)(pe:pE):pE:=fun env n R=>pe env n fun y env1 n1=>match env1[i]? with | some (some (.ow .lst xs))=>xs.length < 1000000/\R .non (env1.set i (some (.ow .lst (xs++[y])))) n1 | _=>False
theorem a1i (i:Nat){x:Str}{p ap:Pos}(hv:∀z,EW (F z) (.Name x p) (tVar i))(he:QE T K F e pe)(hs:a0v e=true:=by rfl)(hbase:∀z,x2O (.Name x p) "append" (F z).env (eval (.Name x p) (F z).env)=eval (.Name x p) (F z).env:=by intro _;rfl)(hline:(ap.endLine == pos.line)=true:=by rfl)
   (hfew:∀z,((backTo pos (x1h [e] (F z).env)).all (fun x=>!x.1) && (x4f pos (x2y [] (F z).env)).all (fun x=>x.1.isSome) && decide (([e]:List Expr).length + ([]:List x3p).length + (if([]:List x3p).isEmpty then 0 else 1) < 30))=true:=by intro _;rfl) (hK:∀z,(F z).K=K:=by intro _;rfl):QE T K F (.Call (.Attribute (.Name x p) "append" ap) [e] [] pos) (fun env n R=>(∃xs,env[i]?=some (some (.ow .lst xs)))/\a7q i pe env n R):=by
 obtain⟨t,a1,a2⟩:=he;refine⟨tBM K "list" a9V (tVar i) (a3c t tNil),fun z=>hK z▸a7u x2g PySem.F.slot_list_append PySem.F.type_list_append a6y (hv z).h (a0o (a1 z) a0E (a0e hs)) (hbase z) (hfew z) hline (a0e hs),fun C G σ H env n R Q hK hT S hp k=>?_⟩;obtain⟨⟨xs0,e0⟩,hp⟩:=hp;obtain⟨a,vs,ev,h1,h2,h3,h4,r⟩:=S.slots i _ e0;refine⟨.ref a,ev,.inl ⟨rfl,vs,SqL.of h4⟩,?_⟩;refine a2 C G σ H env n _ _ hK hT S hp fun y env1 n1 v H1 q1 S1 r1 f1=>?_
 split at q1
 · rename_i xs ex;obtain⟨a',us,ev',g1,g2,g3,g4,r'⟩:=S1.slots i _ ex;rw [ev] at ev';cases ev';subst hK;obtain⟨S2,f2⟩:=S1.put ex ev (r'.append (.one r1));exact⟨a,us,v,rfl,rfl,g4,by rw [<- r'.length];exact mil' (by omega),k _ _ _ _ _ q1.2 S2 rfl (f1.trans f2)⟩
 · exact q1.elim
noncomputable def b0j (i:Nat)(pe:pE):pE:=fun env n R=>pe env n fun y env1 n1=>match env1[i]?,y with | some (some (.ow .lst xs)),.int d=>xs.length<=1000000/\(match ixN xs.length d with | some j=>(match xs[j]? with | some z=>R z (env1.set i (some (.ow .lst (xs.eraseIdx j)))) n1 | none=>False) | none=>False) | _,_=>False
theorem b2s (i:Nat){x:Str}{p ap:Pos}(hv:∀z,EW (F z) (.Name x p) (tVar i))(he:QE T K F e pe)(hs:a0v e=true:=by rfl)(hbase:∀z,x2O (.Name x p) "pop" (F z).env (eval (.Name x p) (F z).env)=eval (.Name x p) (F z).env:=by intro _;rfl)(hline:(ap.endLine == pos.line)=true:=by rfl)
   (hfew:∀z,((backTo pos (x1h [e] (F z).env)).all (fun x=>!x.1) && (x4f pos (x2y [] (F z).env)).all (fun x=>x.1.isSome) && decide (([e]:List Expr).length + ([]:List x3p).length + (if([]:List x3p).isEmpty then 0 else 1) < 30))=true:=by intro _;rfl) (hK:∀z,(F z).K=K:=by intro _;rfl) :
   QE T K F (.Call (.Attribute (.Name x p) "pop" ap) [e] [] pos) (fun env n R=>(∃xs,env[i]?=some (some (.ow .lst xs)))/\b0j i pe env n R):=by
 obtain⟨t,a1,a2⟩:=he;refine⟨tBM K "list" b3F (tVar i) (a3c t tNil),fun z=>hK z▸a7u x2g PySem.F.slot_list_pop PySem.F.type_list_pop b2T (hv z).h (a0o (a1 z) a0E (a0e hs)) (hbase z) (hfew z) hline (a0e hs),fun C G σ H env n R Q hK hT S hp k=>?_⟩;obtain⟨⟨xs0,e0⟩,hp⟩:=hp;obtain⟨a,vs,ev,h1,h2,h3,h4,r⟩:=S.slots i _ e0;refine⟨.ref a,ev,.inl ⟨rfl,vs,SqL.of h4⟩,?_⟩;refine a2 C G σ H env n _ _ hK hT S hp fun y env1 n1 v H1 q1 S1 r1 f1=>?_
 split at q1
 · rename_i xs d ex;obtain⟨hlen,q1⟩:=q1
   split at q1
   · rename_i j ej
     split at q1
     · rename_i z ez;obtain⟨a',us,ev',g1,g2,g3,g4,r'⟩:=S1.slots i _ ex;rw [ev] at ev';cases ev';subst hK;obtain⟨S2,f2⟩:=S1.put ex ev (r'.eraseIdx j);obtain⟨w,e1,rw'⟩:=r'.get' ez;obtain⟨q1',q2',q3',q4'⟩:=a7F ej;refine⟨a,us,d,j,w,rfl,by rw [show v=.int d from r1],g4,?_,?_,by rw [<- r'.length];exact q1',e1,k _ _ _ _ _ q1 S2 (rw'.fr f2) (f1.trans f2)⟩
       · omega
       · omega
     · exact q1.elim
   · exact q1.elim
 · exact q1.elim
end
end Pu
end
section
namespace Pu
open PySem PySem.Spec L2
noncomputable abbrev pSl:=Env->Nat->(Slot->Env->Nat->Prop)->Prop
noncomputable def a7N (σ:St)(env:Env)(a:Addr):Prop:=∃(j:Nat) (ys:OK×List PV),env[j]?=some (some (.ow ys.1 ys.2))/\σ[j]?=some (some (.ref a))
theorem SR.slot {C:Ct}{G:Gh}{σ:St}{H:Hp}{env:Env}{n:Nat}(S:SR C G σ H env n)(i:Nat){s:Slot}{v:V}(r:b1T C G H (some (some v)) s)(h:∀(xs:OK×List PV) a,s=.ow xs.1 xs.2->v=.ref a->¬a7N σ env a):SR C G (σ.set i (some v)) H (env.set i (some s)) n where
 frame:=S.frame
 sub:=S.sub
 sup:=S.sup
 pots:=S.pots
 pre:=S.pre
 mu:=S.mu
 slots j t e:=by
   by_cases hj:i=j
   · subst hj
     by_cases hl:i < env.length
     · rw [x0y hl] at e;cases e;rw [x0y (by rw [<- S.len];exact hl)];exact r
     · rw [x0T (by rw [x0X];omega)] at e;cases e
   · rw [x0D hj] at e ⊢;exact S.slots j t e
 inj j k xs ys b e1 e2 e3 e4:=by
   by_cases hj:i=j
   · by_cases hk:i=k
     · omega
     · subst hj;rw [x0D hk] at e2 e4
       by_cases hl:i < env.length
       · rw [x0y hl] at e1;rw [x0y (by rw [<- S.len];exact hl)] at e3;cases e1;cases e3;exact absurd ⟨k,ys,e2,e4⟩ (h xs b rfl rfl)
       · rw [x0T (by rw [x0X];omega)] at e1;cases e1
   · rw [x0D hj] at e1 e3
     by_cases hk:i=k
     · subst hk
       by_cases hl:i < env.length
       · rw [x0y hl] at e2;rw [x0y (by rw [<- S.len];exact hl)] at e4;cases e2;cases e4;exact absurd ⟨j,xs,e1,e3⟩ (h ys b rfl rfl)
       · rw [x0T (by rw [x0X];omega)] at e2;cases e2
     · rw [x0D hk] at e2 e4;exact S.inj j k xs ys b e1 e2 e3 e4
 p0:=S.p0
 len:=by rw [x0X,x0X];exact S.len
 newp:=S.newp
noncomputable def Ct.guard (C:Ct)(a:Addr)(vs:List V):Ct:={ C with M0:=a::C.M0,H0:=upd C.H0 a (.lst vs) }
theorem SR.guard {C:Ct}{G:Gh}{σ:St}{H:Hp}{env:Env}{n:Nat}(S:SR C G σ H env n){a:Addr}(vs:List V)(h:H a=none):SR (C.guard a vs) ⟨a::G.M,G.pots⟩ σ (upd H a (.lst vs)) env n:=by
 have S1:=S.more (vs:=vs) h;have aM:=S.fresh h
 exact {
   frame:=fun b o hb e=>by
     by_cases hba:b=a
     · subst hba;have e':upd C.H0 b (.lst vs) b=some o:=e;rw [a0l] at e' ⊢;exact e'
     · have e':upd C.H0 a (.lst vs) b=some o:=e;rw [a0j hba] at e';exact S1.frame b o hb e'
   sub:=fun b hb=>by
     by_cases hba:b=a
     · exact .inl (by rw [hba];exact x0g)
     · rcases S1.sub b hb with z | z
       · exact .inl (x0f _ z)
       · refine .inr ?_;show upd C.H0 a (.lst vs) b=none;rw [a0j hba];exact z
   sup:=fun b hb=>by
     rcases x0k.mp (show b∈a::C.M0 from hb) with rfl | z
     · exact x0g
     · exact S1.sup b z
   pots:=S1.pots
   pre:=S1.pre
   mu:=S1.mu
   slots:=fun i s e=>by
     cases s with
     | v x =>
       obtain⟨v,ev,r⟩:=S1.slots i _ e;exact⟨v,ev,r⟩
     | ow kk xs =>
       obtain⟨b,us,ev,h1,h2,h3,h4,r⟩:=S1.slots i _ e;obtain⟨b',us',ev',g1,_⟩:=S.slots i _ e;rw [ev] at ev';cases ev';refine⟨b,us,ev,h1,fun z=>?_,h3,h4,r⟩;rcases x0k.mp (show b∈a::C.M0 from z) with rfl | z
       · exact aM g1
       · exact h2 z
   inj:=S1.inj
   p0:=⟨fun p hp=>x0f _ (S1.p0.1 p hp),S1.p0.2⟩
   len:=S1.len
   newp:=fun p hp hn hM=>by
     rcases x0k.mp (show p∈a::C.M0 from hM) with rfl | z
     · exact aM (S.pots p hp).1
     · exact S1.newp p hp hn z }
theorem SR.unguard {C:Ct}{G:Gh}{σ:St}{H:Hp}{env:Env}{n:Nat}{a:Addr}{vs:List V}(S:SR (C.guard a vs) G σ H env n)(ha:a∉C.M0)(hp0:∀p∈C.pots0,p∈C.M0)(h0:C.H0 a=none):SR C G σ H env n/\H a=some (.lst vs)/\¬a7N σ env a:=by
 have hap:a∉C.pots0:=fun z=>ha (hp0 a z)
 refine⟨{
   frame:=fun b o hb e=>S.frame b o hb (by
     show upd C.H0 a (.lst vs) b=some o
     rw [a0j (fun z=>by rw [z,h0] at e;cases e)];exact e)
   sub:=fun b hb=>by
     by_cases hba:b=a
     · exact .inr (hba▸h0)
     · rcases S.sub b hb with z | z
       · rcases x0k.mp (show b∈a::C.M0 from z) with z | z
         · exact absurd z hba
         · exact .inl z
       · have z':upd C.H0 a (.lst vs) b=none:=z;rw [a0j hba] at z';exact .inr z'
   sup:=fun b hb=>S.sup b (x0f _ hb)
   pots:=S.pots
   pre:=S.pre
   mu:=S.mu
   slots:=fun i s e=>by
     cases s with
     | v x =>
       obtain⟨v,ev,r⟩:=S.slots i _ e;exact⟨v,ev,r⟩
     | ow kk xs =>
       obtain⟨b,us,ev,h1,h2,h3,h4,r⟩:=S.slots i _ e;exact⟨b,us,ev,h1,fun z=>h2 (x0f _ z),h3,h4,r⟩
   inj:=S.inj
   p0:=⟨hp0,S.p0.2⟩
   len:=S.len
   newp:=fun p hp hn hM=>S.newp p hp hn (x0f _ hM) },S.frame a _ hap a0l,?_⟩
 rintro⟨j,ys,e1,e2⟩;obtain⟨b,us,ev,h1,h2,_⟩:=S.slots j _ e1;rw [e2] at ev;cases ev;exact h2 x0g
noncomputable def LOk (K:x0b)(T:PotK)(t:TE)(pl:pSl):Prop:=∀(C:Ct) (G:Gh) (σ:St) (H:Hp) (env:Env) (n:Nat) (R:Slot->Env->Nat->Prop) (Q:VK),C.K=K->C.T=T->SR C G σ H env n->pl env n R->
 (∀x env' n' v H',R (.v x) env' n'->SR C G σ H' env' n'->Rep K G H' x v->Fr G H H'->Q v H')->
 (∀xs env' n' a vs Hb,R (.ow .lst xs) env' n'->SR C G σ Hb env' n'->Fr G H Hb->Hb a=none->Reps K G Hb xs vs->Q (.ref a) (upd Hb a (.lst vs)))->t σ H Q
noncomputable def QL {ι:Type}(T:PotK)(K:x0b)(F:ι->Cx)(e:Expr)(pl:pSl):Prop:=∃t,(∀z,PE (F z) e t)/\LOk K T t pl
noncomputable def sV (pe:pE):pSl:=fun env n R=>pe env n fun x env1 n1=>R (.v x) env1 n1
noncomputable def sO (pn:pA):pSl:=fun env n R=>pn env n fun xs env1 n1=>R (.ow .lst xs) env1 n1
section
variable {T:PotK}{np:Bool}{ι:Type}{K:x0b}{F:ι->Cx}{e a b c:Expr}{es:List Expr}{st:Stmt}{rest:List Stmt}{pe pa pb pc:pE}{pos:Pos}{pl pr:pA}{pg:pG}{pt:pT}{p1 p2:pS}{s1 s2 s3:pSl}
theorem ql_v (h:QE T K F e pe):QL T K F e (sV pe):=let ⟨t,h1,h2⟩:=h;⟨t,h1,fun C G σ H env n R Q hK hT S hp k _=>h2 C G σ H env n _ _ hK hT S hp fun x env' n' v H' r S' rp f=>k x env' n' v H' r S' rp f⟩
theorem ql_o (h:QN T K F e pl):QL T K F e (sO pl):=let ⟨t,h1,h2⟩:=h;⟨t,h1,fun C G σ H env n R Q hK hT S hp _ k=>h2 C G σ H env n _ _ hK hT S hp fun xs env' n' a vs Hb r S' f hn rs=>k xs env' n' a vs Hb r S' f hn rs⟩
noncomputable def Got (C:Ct)(G:Gh)(H:Hp)(σ:St)(env:Env)(s:Slot)(v:V):Prop:=b1T C G H (some (some v)) s/\∀(xs:OK×List PV) a,s=.ow xs.1 xs.2->v=.ref a->¬a7N σ env a
theorem a8s {t:TE}{C:Ct}{G:Gh}{σ:St}{H:Hp}{env:Env}{n:Nat}{R:Slot->Env->Nat->Prop}{Q:VK}(h:LOk K T t s1)(hK:C.K=K)(hT:C.T=T)(S:SR C G σ H env n)(hp:s1 env n R)
   (k:∀s env' n' v G' H',R s env' n'->SR C G' σ H' env' n'->Ext G H G' H'->Got C G' H' σ env' s v->Q v H'):t σ H Q:=by
 refine h C G σ H env n _ _ hK hT S hp (fun x env' n' v H' r S' rp f=>?_) fun xs env' n' a vs Hb r S' f hn rs=>?_
 · exact k _ _ _ _ _ _ r S' (Ext.fr f) ⟨⟨v,rfl,hK▸rp⟩,fun _ _ z=>nomatch z⟩
 · have aM:=S'.fresh hn;have S1:=S'.more (vs:=vs) hn;refine k _ _ _ _ _ _ r S1 ((Ext.fr f).trans (a4k hn)) ⟨⟨a,vs,rfl,x0g,fun z=>aM (S'.sup a z),fun z=>aM (S'.pots a z).1,a0l,?_⟩,fun ys b e1 e2=>?_⟩
   · exact Reps.mono (G':=⟨a::G.M,G.pots⟩) (H':=upd Hb a (.lst vs)) (fun b o _ e=>Same.lay1 hn b o e) (fun c hc=>(x0k.mp (show c∈a::G.M from hc)).elim (fun z=>.inr (z▸hn)) .inl) (fun _ _ e=>e) _ _ (hK▸rs)
   · cases e2;rintro⟨j,zs,z1,z2⟩;obtain⟨b,us,ev,g1,_⟩:=S'.slots j _ z1;rw [z2] at ev;cases ev;exact aM g1
theorem a7G {t u:TE}{C:Ct}{G:Gh}{σ:St}{H:Hp}{env:Env}{n:Nat}{R:Slot->Slot->Env->Nat->Prop}{Q:V->V->Hp->Prop}(h:LOk K T t s1)(h':LOk K T u s2)(hK:C.K=K)(hT:C.T=T)(S:SR C G σ H env n)(hp:s1 env n fun x env1 n1=>s2 env1 n1 fun y env2 n2=>R x y env2 n2)
   (k:∀x y env' n' v w G' H',R x y env' n'->SR C G' σ H' env' n'->Ext G H G' H'->Got C G' H' σ env' x v->Got C G' H' σ env' y w->(∀(xs ys:OK×List PV) a,x=.ow xs.1 xs.2->y=.ow ys.1 ys.2->v=.ref a->w≠.ref a)->Q v w H'):t σ H fun v H1=>u σ H1 fun w H2=>Q v w H2:=by
 refine h C G σ H env n _ _ hK hT S hp (fun x env1 n1 v H1 q1 S1 r1 f1=>?_) fun xs env1 n1 a vs Hb q1 S1 f1 hn rs=>?_
 · refine a8s h' hK hT S1 q1 fun y env2 n2 w G2 H2 q2 S2 x2 g2=>?_;exact k _ _ _ _ _ _ _ _ q2 S2 ((Ext.fr f1).trans x2) ⟨⟨v,rfl,Rep.mono x2.keep x2.new x2.pot _ _ (hK▸r1)⟩,fun _ _ z=>nomatch z⟩ g2 (fun _ _ _ z=>nomatch z)
 · have aM:=S1.fresh hn;have S1g:=S1.guard vs hn;have a0:a∉C.M0:=fun z=>aM (S1.sup a z);have aH:=S1.old hn;have x1:Ext G H ⟨a::G.M,G.pots⟩ (upd Hb a (.lst vs)):=(Ext.fr f1).trans (a4k hn);have r1:Reps C.K ⟨a::G.M,G.pots⟩ (upd Hb a (.lst vs)) xs vs:=Reps.mono (G':=⟨a::G.M,G.pots⟩) (H':=upd Hb a (.lst vs)) (fun b o _ e=>Same.lay1 hn b o e) (fun c hc=>(x0k.mp (show c∈a::G.M from hc)).elim (fun z=>.inr (z▸hn)) .inl) (fun _ _ e=>e) _ _ (hK▸rs);refine a8s (C:=C.guard a vs) h' hK hT S1g q1 fun y env2 n2 w G2 H2 q2 S2 x2 g2=>?_;obtain⟨S3,e3,no⟩:=S2.unguard a0 S1.p0.1 aH;have aM2:a∈G2.M:=S2.sup a x0g
   have ap2:a∉G2.pots:=fun z=>by
     by_cases hz:a∈C.pots0
     · exact a0 (S1.p0.1 a hz)
     · exact S2.newp a z hz x0g
   have gy:Got C G2 H2 σ env2 y w:=by
     refine⟨?_,g2.2⟩;cases y with
     | v x=>exact g2.1
     | ow kk ys =>
       obtain⟨b,us,ev,h1,h2,h3,h4,r⟩:=g2.1;exact⟨b,us,ev,h1,fun z=>h2 (x0f _ z),h3,h4,r⟩
   refine k _ _ _ _ _ _ _ _ q2 S3 (x1.trans x2) ⟨⟨a,vs,rfl,aM2,a0,ap2,e3,Reps.mono x2.keep x2.new x2.pot _ _ r1⟩,fun _ _ _ e=>by cases e;exact no⟩ gy fun xs' ys b ex ey ev ew=>?_;subst ey;cases ev;obtain⟨b,us,ev,h1,h2,_⟩:=g2.1;rw [ew] at ev;cases ev;exact h2 x0g
structure AW (X:Cx)(es:List Expr)(t:TA):Prop where
 h:PA X es t
theorem a3d {X:Cx}{i j:Nat}{x y:Str}{a b:Expr}{px py pt:Pos}{kt k2 pt2}{pos:Pos}(hc:X.calm=true)(hN:X.N.Nodup)(hi:X.N[i]?=some x)(hj:X.N[j]?=some y)(hij:i≠j)
   (hx:X.env.scope.names.lookup x=some .local) (hy:X.env.scope.names.lookup y=some .local) (hw:x3F [.Tuple [.Name x px,.Name y py] kt pt] (.Tuple [a,b] k2 pt2) X.env=pure (some [x,y]))
   (hs:x3E [.Tuple [.Name x px,.Name y py] kt pt] (.Tuple [a,b] k2 pt2) pos.line X.env=pure false:=by rfl) (ta:TA) (h:AW X [a,b] ta) :
   SW X (.Assign [.Tuple [.Name x px,.Name y py] kt pt] (.Tuple [a,b] k2 pt2) pos) (tPar i j ta):=⟨ps_par hc hN hi hj hij hx hy h.h hw hs⟩
theorem b4B {X:Cx}{i j k:Nat}{x y z:Str}{a b c:Expr}{px py pz pt:Pos}{kt k2 pt2}{pos:Pos}(hc:X.calm=true)(hN:X.N.Nodup)(hi:X.N[i]?=some x)(hj:X.N[j]?=some y)(hk:X.N[k]?=some z)(hij:i≠j)(hik:i≠k)(hjk:j≠k)
   (hx:X.env.scope.names.lookup x=some .local) (hy:X.env.scope.names.lookup y=some .local) (hz:X.env.scope.names.lookup z=some .local) (hw:x3F [.Tuple [.Name x px,.Name y py,.Name z pz] kt pt] (.Tuple [a,b,c] k2 pt2) X.env=pure (some [x,y,z]))
   (hs:x3E [.Tuple [.Name x px,.Name y py,.Name z pz] kt pt] (.Tuple [a,b,c] k2 pt2) pos.line X.env=pure false:=by rfl) (ta:TA) (h:AW X [a,b,c] ta) :
   SW X (.Assign [.Tuple [.Name x px,.Name y py,.Name z pz] kt pt] (.Tuple [a,b,c] k2 pt2) pos) (b4x i j k ta):=⟨b4W hc hN hi hj hk hij hik hjk hx hy hz h.h hw hs⟩
noncomputable def qPar (i j:Nat)(s1 s2:pSl):pS:=fun D env n=>s1 env n fun a env1 n1=>s2 env1 n1 fun b env2 n2=>D.nx ((env2.set i (some a)).set j (some b)) n2
theorem a4B {σ:St}{env:Env}{i:Nat}{s:Slot}{v:V}{a:Addr}(hl:env.length=σ.length)(h:a7N (σ.set i (some v)) (env.set i (some s)) a):a7N σ env a\/((∃xs:OK×List PV,s=.ow xs.1 xs.2)/\v=.ref a):=by
 obtain⟨j,ys,e1,e2⟩:=h
 by_cases hj:i=j
 · subst hj
   by_cases hl':i < env.length
   · rw [x0y hl'] at e1;rw [x0y (by omega)] at e2;cases e1;cases e2;exact .inr ⟨⟨_,rfl⟩,rfl⟩
   · rw [x0T (by rw [x0X];omega)] at e1;cases e1
 · rw [x0D hj] at e1 e2;exact .inl ⟨j,ys,e1,e2⟩
theorem a3j (i j:Nat)(h:∀z ta,AW (F z) [a,b] ta->SW (F z) st (tPar i j ta))(h1:QL T K F a s1)(h2:QL T K F b s2)(n1:a0v a=true:=by rfl)(n2:a0v b=true:=by rfl):QS T np K F st (qPar i j s1 s2):=by
 obtain⟨t,a1,a2⟩:=h1;obtain⟨u,b1,b2⟩:=h2;refine⟨_,fun z=>(h z _ ⟨a0o (a1 z) (a0o (b1 z) a0E (a0e n2)) (a0e n1)⟩).h,fun C G σ H env n PD D hK hT hn S hp L=>?_⟩;refine a7G (Q:=fun v w H2=>∃v' w',[v,w]=[v',w']/\D.nx ((σ.set i (some v')).set j (some w')) H2) a2 b2 hK hT S hp fun x y env2 n2 v w G2 H2 q S2 x2 gx gy ne=>?_;refine⟨v,w,rfl,L.nx _ _ _ _ _ q ((S2.slot i gx.1 gx.2).slot j gy.1 fun ys b e1 e2 z=>?_) x2⟩;rcases a4B S2.len z with z | ⟨⟨xs,ex⟩,ev⟩
 · exact gy.2 ys b e1 e2 z
 · exact ne xs ys b ex e1 ev e2
noncomputable def b4S (i j k:Nat)(s1:pE)(s2 s3:pSl):pS:=fun D env n=>s1 env n fun a env1 n1=>s2 env1 n1 fun b env2 n2=>s3 env2 n2 fun c env3 n3=>D.nx (((env3.set i (some (.v a))).set j (some b)).set k (some c)) n3
theorem b4M (i j k:Nat)(h:∀z ta,AW (F z) [a,b,c] ta->SW (F z) st (b4x i j k ta))(h0:QE T K F a pe)(h1:QL T K F b s1)(h2:QL T K F c s2)(n0:a0v a=true:=by rfl)(n1:a0v b=true:=by rfl)(n2:a0v c=true:=by rfl):QS T np K F st (b4S i j k pe s1 s2):=by
 obtain⟨t0,z1,z2⟩:=h0;obtain⟨t,a1,a2⟩:=h1;obtain⟨u,b1,b2⟩:=h2;refine⟨_,fun z=>(h z _ ⟨a0o (z1 z) (a0o (a1 z) (a0o (b1 z) a0E (a0e n2)) (a0e n1)) (a0e n0)⟩).h,fun C G σ H env n PD D hK hT hn S hp L=>?_⟩;refine z2 C G σ H env n _ _ hK hT S hp fun x0 env0 m0 v0 H0 q0 S0 r0 f0=>?_;refine a7G (Q:=fun v w H2=>∃u' v' w',[v0,v,w]=[u',v',w']/\D.nx (((σ.set i (some u')).set j (some v')).set k (some w')) H2) a2 b2 hK hT S0 q0 fun x y env2 n2 v w G2 H2 q S2 x2 gx gy ne=>?_;have r2:Rep C.K G2 H2 x0 v0:=Rep.mono x2.keep x2.new x2.pot _ _ (hK▸r0);have S3:=S2.set i r2
 have o3:∀a,a7N (σ.set i (some v0)) (env2.set i (some (.v x0))) a->a7N σ env2 a:=fun a z=>by
   rcases a4B S2.len z with z | ⟨⟨xs,ex⟩,_⟩
   · exact z
   · cases ex
 have S4:=S3.slot j gx.1 fun xs b e1 e2 z=>gx.2 xs b e1 e2 (o3 b z);refine⟨v0,v,w,rfl,L.nx _ _ _ _ _ q (S4.slot k gy.1 fun ys b e1 e2 z=>?_) ((Ext.fr f0).trans x2)⟩;rcases a4B S3.len z with z | ⟨⟨xs,ex⟩,ev⟩
 · exact gy.2 ys b e1 e2 (o3 b z)
 · exact ne xs ys b ex e1 ev e2
theorem gw_at {X:Cx}{i:Nat}{o ix:Expr}{pos:Pos}(ho:EW X o (tVar i))(ha:∀v,assign (.Subscript o ix pos) X.env v=(do
     let ov ← x3T [v] (eval o X.env)
     let iv ← x3T [v,ov] (eval ix X.env)
     x4X pos
     x3T [v,ov,iv] (setItem ov iv v)
     release [v,ov,iv] []):=by intro _;rfl) (ti:TE) (hi:EW X ix ti):GW X (.Subscript o ix pos) (gSub (tVar i) ti b4J):=⟨b0s ho.h hi.h a5D ha⟩
noncomputable def gAt (i:Nat)(pe:pE):PV->Env->Nat->(Env->Nat->Prop)->Prop:=fun x env n R=>pe env n fun y env1 n1=>match env1[i]?,y with | some (some (.ow .lst xs)),.int d=>(match ixN xs.length d with | some j=>R (env1.set i (some (.ow .lst (xs.set j x)))) n1 | none=>False) | _,_=>False
noncomputable def qPut (i:Nat)(pv:pE)(pe:pE):pS:=fun D env n=>pv env n fun x env1 n1=>(∃xs,env1[i]?=some (some (.ow .lst xs)))/\gAt i pe x env1 n1 D.nx
theorem qs_put (i:Nat){v o ix:Expr}{pv:pE}(h:∀z te g,EW (F z) v te->GW (F z) (.Subscript o ix pos) g->SW (F z) st (tAsg te g))(hv:QE T K F v pv)(hg:∀z ti,EW (F z) ix ti->GW (F z) (.Subscript o ix pos) (gSub (tVar i) ti b4J))(he:QE T K F ix pe):QS T np K F st (qPut i pv pe):=by
 obtain⟨tv,v1,v2⟩:=hv;obtain⟨ti,i1,i2⟩:=he;refine⟨_,fun z=>(h z _ _ ⟨v1 z⟩ (hg z _ ⟨i1 z⟩)).h,fun C G σ H env n PD D hK hT hn S hp L=>?_⟩;refine v2 C G σ H env n _ _ hK hT S hp fun x env1 n1 v H1 q1 S1 r1 f1=>?_;obtain⟨⟨xs0,e0⟩,q1⟩:=q1;obtain⟨a,vs,ev,h1,h2,h3,h4,r⟩:=S1.slots i _ e0;refine⟨.ref a,ev,?_⟩;refine i2 C G σ H1 env1 n1 _ _ hK hT S1 q1 fun y env2 n2 w H2 q2 S2 r2 f2=>?_
 split at q2
 · rename_i xs d ex
   split at q2
   · rename_i j ej;obtain⟨a',us,ev',g1,g2,g3,g4,r'⟩:=S2.slots i _ ex;rw [ev] at ev';cases ev';subst hK;obtain⟨S3,f3⟩:=S2.put ex ev (r'.set j (r1.fr f2));exact⟨a,us,d,j,rfl,r2,g4,by rw [<- r'.length];exact ej,L.nx _ _ _ _ _ q2 S3 (Ext.fr ((f1.trans f2).trans f3))⟩
   · exact q2.elim
 · exact q2.elim
noncomputable def b3j (i:Nat)(env:Env):Env:=match env[i]? with | some (some (.ow .lst xs))=>env.set i (some (.v (.lst xs))) | _=>env
theorem SR.freeze {C:Ct}{G:Gh}{σ:St}{H:Hp}{env:Env}{n:Nat}(S:SR C G σ H env n)(i:Nat):∃G',SR C G' σ H (b3j i env) n/\Ext G H G' H:=by
 unfold b3j
 split
 · rename_i xs ex;obtain⟨a,vs,ev,h1,h2,h3,h4,r⟩:=S.slots i _ ex
   let G':Gh:=⟨G.M.filter (·≠a),G.pots⟩
   have sub:∀b∈G'.M,b∈G.M:=fun b hb=>(x0W.mp hb).1;have mm:∀{x:PV} {v:V},Rep C.K G H x v->Rep C.K G' H x v:=fun r=>Rep.mono (G':=G') (fun _ _ _ e=>e) (fun b hb=>.inl (sub b hb)) (fun _ _ e=>e) _ _ r;have mms:∀{x:List PV} {v:List V},Reps C.K G H x v->Reps C.K G' H x v:=fun r=>Reps.mono (G':=G') (fun _ _ _ e=>e) (fun b hb=>.inl (sub b hb)) (fun _ _ e=>e) _ _ r
   refine⟨G',{
     frame:=S.frame
     sub:=fun b hb=>S.sub b (sub b hb)
     sup:=fun b hb=>x0W.mpr ⟨S.sup b hb,decide_eq_true (show b≠a from fun z=>h2 (by rw [<- z];exact hb))⟩
     pots:=fun p hp=>⟨x0W.mpr ⟨(S.pots p hp).1,decide_eq_true (show p≠a from fun z=>h3 (by rw [<- z];exact hp))⟩,C.T.more (S.pots p hp).2 fun b hb=>.inl (sub b hb)⟩
     pre:=S.pre
     mu:=fun b hb=>S.mu b (sub b hb)
     slots:=fun j s es=>?_
     inj:=fun j k xs' ys b e1 e2 e3 e4=>?_
     p0:=S.p0
     len:=by rw [x0X];exact S.len
     newp:=S.newp },⟨fun _ _ _ e=>e,fun b hb=>.inl (sub b hb),fun _ _ e=>e⟩⟩
   · by_cases hj:i=j
     · subst hj;rw [x0y (x0i.mp ex).1] at es;cases es;exact⟨.ref a,ev,a,vs,rfl,⟨fun z=>by simpa using(x0W.mp z).2,h4⟩,mms r⟩
     · rw [x0D hj] at es;have:=S.slots j s es;cases s with
       | v x =>
         obtain⟨v,e1,r⟩:=this;exact⟨v,e1,mm r⟩
       | ow kz zs =>
         obtain⟨b,us,e1,g1,g2,g3,g4,r⟩:=this;have hba:b≠a:=fun z=>hj (S.inj i j (.lst,xs) (kz,zs) a ex es ev (by rw [e1,z]));exact⟨b,us,e1,x0W.mpr ⟨g1,by simpa using hba⟩,g2,g3,g4,mms r⟩
   · have back:∀(j:Nat) (zs:OK×List PV),(env.set i (some (.v (.lst xs))))[j]?=some (some (Slot.ow zs.1 zs.2))->env[j]?=some (some (.ow zs.1 zs.2)):=by
       intro j zs h
       by_cases hj:i=j
       · subst hj;rw [x0y (x0i.mp ex).1] at h;cases h
       · rw [x0D hj] at h;exact h
     exact S.inj j k xs' ys b (back j _ e1) (back k _ e2) e3 e4
 · exact⟨G,S,Ext.refl⟩
noncomputable def a2k (i:Nat)(p:pS):pS:=fun D env n=>p D (b3j i env) n
theorem a1E (i:Nat)(h:QS T np K F st p1):QS T np K F st (a2k i p1):=by
 obtain⟨t,a1,a2⟩:=h;refine⟨t,a1,fun C G σ H env n PD D hK hT hn S hp L=>?_⟩;obtain⟨G',S',x'⟩:=S.freeze i;exact a2 C G' σ H _ n PD D hK hT hn S' hp (L.ext x')
end
end Pu
end
section
namespace Pu
open PySem PySem.Spec L2
noncomputable def a3e (N:List Str)(xs:List PV):Env:=xs.map (fun x=>some (.v x))++x3a (N.length - xs.length) none
noncomputable def fnP (N ps:List Str)(body:pS):pF:=fun xs n R=>xs.length=ps.length/\body ⟨fun _ m=>R .non m,R,fun _ _=>False,fun _ _=>False⟩ (a3e N xs) n
theorem a5B {K:x0b}{T:PotK}{G:Gh}{H:Hp}{n:Nat}{np:Bool}{N:List Str}{xs:List PV}{vs:List V}(hp:∀p∈G.pots,p∈G.M/\T.at_ G.M H p n)(hm:∀a∈G.M,∃o,H a=some o/\MutO o)(hh:T.has G.pots)(r:Reps K G H xs vs) :
   SR ⟨K,T,G.M,G.pots,H,np⟩ G (L2.start N vs) H (a3e N xs) n where
 frame b o _ e:=e
 sub a ha:=.inl ha
 sup a ha:=ha
 pots:=hp
 pre:=⟨[],by simp,.inl rfl⟩
 mu:=hm
 slots i s e:=by
   unfold a3e at e
   by_cases hi:i < xs.length
   · rw [x0Q (by simpa using hi),x0p] at e;cases ex:xs[i]? with
     | none=>rw [ex] at e;cases e
     | some x =>
       rw [ex] at e;cases e;obtain⟨v,ev,rv⟩:=r.get' ex;refine⟨v,?_,rv⟩;unfold L2.start;rw [x0Q (by rw [x0e,<- r.length];exact hi),x0p,ev]
       rfl
   · rw [x0I (by simpa using hi),x2N] at e
     split at e <;> cases e
 inj i j xs' ys a e1:=by
   exfalso
   unfold a3e at e1
   by_cases hi:i < xs.length
   · rw [x0Q (by simpa using hi),x0p] at e1;cases ex:xs[i]? with
     | none=>rw [ex] at e1;cases e1
     | some x=>rw [ex] at e1;cases e1
   · rw [x0I (by simpa using hi),x2N] at e1
     split at e1 <;> cases e1
 p0:=⟨fun p h=>(hp p h).1,hh⟩
 len:=by unfold a3e L2.start;simp [r.length]
 newp p h hn:=absurd h hn
section
variable {P:x0G}{w:World}{K:x0b}{mg:Str->Option Value}{base:Heap}{T:PotK}
theorem bd1 {P:List Value->Prop}(h:∀a,P [a])(us:List Value)(e:us.length=1):P us:=by
 obtain⟨a,rfl⟩:=List.length_eq_one_iff.mp e;exact h a
theorem bdS {n:Nat}{P:List Value->Prop}(h:∀a us,us.length=n->P (a::us))(us:List Value)(e:us.length=n + 1):P us:=by
 obtain⟨a,us,rfl⟩:=List.exists_cons_of_length_eq_add_one e;exact h a us (Nat.succ.inj e)
theorem bd2 {P:List Value->Prop}(h:∀a b,P [a,b])(us:List Value)(e:us.length=2):P us:=bdS (fun a us e=>bd1 (P:=fun us=>P (a::us)) (h a) us e) us e
theorem bd3 {P:List Value->Prop}(h:∀a b c,P [a,b,c])(us:List Value)(e:us.length=3):P us:=bdS (fun a us e=>bd2 (P:=fun us=>P (a::us)) (h a) us e) us e
theorem bd4 {P:List Value->Prop}(h:∀a b c d,P [a,b,c,d])(us:List Value)(e:us.length=4):P us:=bdS (fun a us e=>bd3 (P:=fun us=>P (a::us)) (h a) us e) us e
theorem a1N {x:Str}{st:Stmt}{N ps:List Str}{k:Nat}{body:pS}(F0:Fn0 K mg x st)(sc:a0s N ps (a0i st))
   (bd:∀(kV doc pm:Value) (an:Option Addr) (cdv ct:Value) (us:List Value),us.length=ps.length->x4w (x2h x x (a1p st) (a0P st) (a0i st) .none kV doc pm an cdv ct) ⟨us,[]⟩=pure (ps.zip us))
   (h:∀(f:Addr) (cdv:Value) (A:Around) (outer:List PySem.Env) (s:Shared) (H:Hp) (E:XK),Room k (A.deeper (x4E x (a0i st) s.heap.objs.size f cdv))->
     QSs T false K (fun _:Unit=>(cxOf CX0 P w K mg base N x (a0i st) f cdv A outer s H E).nox) (a0P st) body) :
   Kn P w K mg base x (k + 1) ps (a0k K T (fnP N ps body)):=by
 refine F0.ok sc (fun vs H Q E h=>?_) bd (fun f cdv A outer s H vs Q E hr hsp=>?_)
 · obtain⟨G,xs,n,R,_,_,_,r,hf,_⟩:=h;rw [<- r.length];exact hf.1
 · obtain⟨t,h1,h2⟩:=h f cdv A outer s H E hr;obtain⟨G,xs,n,R,hp,hm,hh,r,hf,k'⟩:=hsp;refine⟨t,h1 (),?_⟩;have S0:=a5B (N:=N) (np:=false) hp hm hh r
   have fin:∀(x:PV) (n':Nat) (v:V) (G':Gh) (σ:St) (H':Hp) (env:Env),R x n'->SR ⟨K,T,G.M,G.pots,H,false⟩ G' σ H' env n'->Rep K ⟨G.M,G'.pots⟩ H' x v->Q v H':=by
     intro x n' v G' σ H' env rr S' rv
     have ep:G'.pots=G.pots:=by
       obtain⟨l,el,hl⟩:=S'.pre;rcases hl with hl | hl
       · rw [el,hl,x1t]
       · cases hl
     rw [ep] at rv;exact k' _ _ _ _ rr rv (fun p hp'=>T.more (S'.pots p (by rw [ep];exact hp')).2 fun a ha=>.inl (S'.sup a ha)) S'.frame
   refine h2 _ G _ H _ n _ _ rfl rfl rfl S0 hf.2 ⟨fun env n' G' σ H' q S' _=>?_,fun x n' v G' σ H' env q S' rv _=>fin x n' v G' σ H' env q S' rv,fun _ _ _ _ _ q=>q.elim,fun _ _ _ _ _ q=>q.elim⟩;exact fin .non n' .non G' σ H' env q S' rfl
end
structure b3A (own seed go:Int):Prop where
 o0:0<=own
 s0:0<=seed
 s1:seed < 2 ^ 62
 g0:0<=go
 g1:go<=2 ^ 40
noncomputable def PotAt (H:Hp)(p:Addr)(n:Nat):Prop:=∃own seed go,H p=some (.lst [.int own,.int seed,.int go])/\b3A own seed go/\go<=(n:Int)
noncomputable def potL:PotK where
 at_:=fun _ H p n=>PotAt H p n
 mono:=fun⟨own,seed,go,a,b,c⟩ h=>⟨own,seed,go,a,b,by omega⟩
 keep:=fun⟨own,seed,go,a,b,c⟩ e _=>⟨own,seed,go,e.trans a,b,c⟩
 more:=fun h _=>h
 mu:=fun⟨own,seed,go,a,b,c⟩=>⟨_,a,trivial⟩
noncomputable def a9C:pF:=fun xs n R=>match xs with | [.pot _,.int m]=>(0 < m/\m < 1000000/\n < 1000000000)/\∀d:Int,0<=d->d < m->R (.int d) (n + 1) | _=>False
section
variable {P:x0G}{w:World}{K:x0b}{mg:Str->Option Value}{base:Heap}
noncomputable def spDraw:Sp:=fun vs H Q _=>∃(p:Addr) (own seed go many:Int),vs=[.ref p,.int many]/\H p=some (.lst [.int own,.int seed,.int go])/\b3A own seed go/\go < 2 ^ 40/\0 < many/\many < 1000000/\
 ∀d own' seed' go',0<=d->d < many->b3A own' seed' go'->go'<=go + 1->Q (.int d) (upd H p (.lst [.int own',.int seed',.int go']))
theorem b1w {x:Str}{k:Nat}{ps:List Str}(G:Kn P w K mg base x k ps spDraw):Kn P w K mg base x k ps (a0k K potL a9C):=G.imp fun vs H Q E h=>by
 obtain⟨G,xs,n,R,hp,hm,_,r,hf,k⟩:=h;unfold a9C at hf
 split at hf
 · rename_i kk m;obtain⟨v,rr,rfl,rv,u,r2,rfl,ru,rfl⟩:=r;obtain⟨p,ep,rfl⟩:=rv;obtain rfl:u=.int m:=ru;have pin:p∈G.pots:=x0u ep;obtain⟨pM,own,seed,go,e,ok,hg⟩:=hp p pin;refine⟨p,own,seed,go,m,rfl,e,ok,by omega,hf.1.1,hf.1.2.1,fun d own' seed' go' d0 d1 ok' g'=>?_⟩;refine k _ _ _ _ (hf.2 d d0 d1) rfl (fun q hq=>?_) fun b o hb eb=>?_
   · by_cases hqp:q=p
     · subst hqp;exact⟨own',seed',go',a0l,ok',by omega⟩
     · obtain⟨_,o2,s2,g2,e2,ok2,hg2⟩:=hp q hq;exact⟨o2,s2,g2,by rw [a0j hqp];exact e2,ok2,by omega⟩
   · rw [a0j (fun z=>hb (by rw [z];exact pin))];exact eb
 · exact hf.elim
noncomputable def b2c (K:x0b):Sp:=fun vs H Q _=>∃(a:Addr) (ns:List Int) (k:Int),vs=[.ref a,.int k]/\SqL K H a (ns.map V.int)/\0<=k/\k<=1000/\
 ∀p own seed,H p=none->b3A own seed 0->Q (.ref p) (upd H p (.lst [.int own,.int seed,.int 0]))
end
end Pu
end
section
namespace Pu
open PySem PySem.Spec L2
section
variable {T:PotK}{np:Bool}{ι:Type}{K:x0b}{F:ι->Cx}{e a b c:Expr}{es:List Expr}{pe pa pb pc:pE}{pos:Pos}{pl pr:pA}
theorem RdV.lst' {G:Gh}{H:Hp}{xs:List PV}{v:V}(h:RdV K G H (.lst xs) v):∃a vs,v=.ref a/\H a=some (.lst vs)/\Reps K G H xs vs:=by
 rcases h with⟨a,vs,e,t,r⟩ | ⟨a,vs,ys,ex,ev,h4,r⟩
 · exact⟨a,vs,e,t.2,r⟩
 · cases ex;exact⟨a,vs,ev,h4,r⟩
noncomputable def qCat (pa pb:pE):pA:=fun env n R=>pa env n fun x env1 n1=>pb env1 n1 fun y env2 n2=>match x,y with | .lst xs,.lst ys=>env2=env1/\xs.length + ys.length<=1000000/\R (xs++ys) env2 n2 | _,_=>False
theorem a9Y (ha:QR T K F a pa)(hb:QR T K F b pb):QN T K F (.BinOp a .Add b pos) (qCat pa pb):=by
 obtain⟨t,a1,a2⟩:=ha;obtain⟨u,b1,b2⟩:=hb;refine⟨_,fun z=>a1u op_cat (a1 z) (b1 z),fun C G σ H env n R Q hK hT S hp k=>?_⟩;refine a2 C G σ H env n _ _ hK hT S hp fun x env1 n1 v H1 q1 S1 r1 f1=>?_;refine b2 C G σ H1 env1 n1 _ _ hK hT S1 q1 fun y env2 n2 w H2 q2 S2 r2 f2=>?_
 split at q2
 · rename_i xs ys;obtain⟨e1,hl,q2⟩:=q2;subst e1;obtain⟨l,vs,ev,e1,rx⟩:=RdV.lst' ((r1.fr f2).rd S2);obtain⟨m,us,ew,e2,ry⟩:=RdV.lst' (r2.rd S2);exact⟨l,m,vs,us,ev,ew,e1,e2,by rw [<- rx.length,<- ry.length];exact mil hl,fun p hn=>k _ _ _ _ _ _ q2 S2 (f1.trans f2) hn (hK▸rx.append ry)⟩
 · exact q2.elim
noncomputable def a2d:List PV->Option (List Str)
 | []=>some []
 | .str b::xs=>(a2d xs).map (b::·)
 | _=>none
theorem a1W {G:Gh}{H:Hp}:∀{xs:List PV} {vs:List V} {bs:List Str},a2d xs=some bs->Reps K G H xs vs->vs=bs.map V.str
 | [],vs,bs,h,r=>by cases h;exact r
 | .str b :: xs, vs, bs, h, r => by
   obtain⟨v,t,e,rv,rt⟩:=r;cases e1:a2d xs with
   | none=>simp [a2d,e1] at h
   | some cs =>
     have:b::cs=bs:=by simpa [a2d,e1] using h
     subst this;rw [e,show v=.str b from rv,a1W e1 rt]
     rfl
 | .non::_,_,_,h,_=>by cases h
 | .int _::_,_,_,h,_=>by cases h
 | .bl _::_,_,_,h,_=>by cases h
 | .ty _::_,_,_,h,_=>by cases h
 | .pot _::_,_,_,h,_=>by cases h
 | .tup _::_,_,_,h,_=>by cases h
 | .lst _::_,_,_,h,_=>by cases h
 | .dct _ _::_,_,_,h,_=>by cases h
 | .scr _::_,_,_,h,_=>by cases h
theorem a6h:∀bs:List Str,a2d (bs.map PV.str)=some bs:=by
 intro xq
 induction xq with
 | nil =>
   exact rfl
 | cons b bs ih =>
   simp [a2d,ih]
noncomputable def b4r:w2:=fun x y R=>match x,y with | .str sep,.lst xs=>(match a2d xs with | some ys=>(ys.map (·.length)).sum + ys.length * sep.length<=1000000/\R (.str (Txt.join sep ys)) | none=>False) | _,_=>False
noncomputable def b4U (pa pb:pE):pE:=fun env n R=>pa env n fun x env1 n1=>match x with | .str sep=>pb env1 n1 fun y env2 n2=>b4r (.str sep) y fun z=>R z env2 n2 | _=>False
theorem b4O {ap:Pos}(ha:QE T K F a pa)(hb:QR T K F b pb)(hs:a0v b=true:=by rfl)(hbase:∀z,x2O a "join" (F z).env (eval a (F z).env)=eval a (F z).env:=by intro _;rfl)(hline:(ap.endLine == pos.line)=true:=by rfl)
   (hfew:∀z,((backTo pos (x1h [b] (F z).env)).all (fun x=>!x.1) && (x4f pos (x2y [] (F z).env)).all (fun x=>x.1.isSome) && decide (([b]:List Expr).length + ([]:List x3p).length + (if([]:List x3p).isEmpty then 0 else 1) < 30))=true:=by intro _;rfl)
   (hK:∀z,(F z).K=K:=by intro _;rfl):QE T K F (.Call (.Attribute a "join" ap) [b] [] pos) (b4U pa pb):=by
 obtain⟨t,a1,a2⟩:=ha;obtain⟨u,b1,b2⟩:=hb
 refine⟨tBM K "str" (fun x vs H Q=>∃(sep:Str) (l:Addr) (ys:List Str),x=.str sep/\vs=[.ref l]/\SqL K H l (ys.map V.str)/\(ys.map (·.length)).sum + ys.length * sep.length<=16777216/\Q (.str (Txt.join sep ys)) H) t (a3c u tNil),
   fun z=>hK z▸a7u PySem.F.plainAttrs_str PySem.F.slot_str_join PySem.F.type_str_join b5q (a1 z) (a0o (b1 z) a0E (a0e hs)) (hbase z) (hfew z) hline (a0e hs),fun C G σ H env n R Q hK hT S hp k=>?_⟩
 refine a2 C G σ H env n _ _ hK hT S hp fun x env1 n1 v H1 q1 S1 r1 f1=>?_;cases x with
 | str sep =>
   obtain rfl:v=.str sep:=r1;refine⟨rfl,a6v b2 hK hT S1 q1 fun y env2 n2 w H2 q2 S2 r2 f2=>?_⟩;unfold b4r at q2
   split at q2
   · rename_i sep' xs e1;cases e1
     split at q2
     · rename_i ys ey;have rd:RdV K G H2 (.lst xs) w:=hK▸r2.rd S2;obtain⟨l,vs,ev,hq,rs⟩:=rd.lst;exact⟨sep,l,ys,rfl,by rw [ev],a1W ey rs▸hq,by omega,k _ _ _ _ _ q2.2 S2 rfl (f1.trans f2)⟩
     · exact q2.elim
   · exact q2.elim
 | _=>exact q1.elim
noncomputable def a7R:PV->Option Bool
 | .non=>some false
 | .bl b=>some b
 | .int i=>some (i != 0)
 | .str z=>if z.length<=1000000 then some ((z.length:Int) != 0) else none
 | .lst xs=>some (!xs.isEmpty)
 | .tup xs=>some (!xs.isEmpty)
 | _=>none
noncomputable def b0i (pe:pE):pT:=fun env n R=>pe env n fun x env1 n1=>match a7R x with | some b=>R b env1 n1 | none=>False
theorem a3Y {G:Gh}{H:Hp}{xs:List PV}{vs:List V}(r:Reps K G H xs vs):(!vs.isEmpty)=!xs.isEmpty:=by
 have:=r.length;cases xs <;> cases vs <;> simp_all
theorem b3D {G:Gh}{H:Hp}{x:PV}{v:V}{b:Bool}(h:a7R x=some b)(r:RdV K G H x v):TruV K v H b:=by
 cases x with
 | non=>rw [r.non];cases h;rfl
 | bl c=>rw [r.bl];cases h;rfl
 | int i=>rw [r.int];cases h;rfl
 | str z =>
   rw [r.str]
   by_cases hz:z.length<=1000000
   · have h':(if z.length<=1000000 then some ((z.length:Int) != 0) else none)=some b:=h;rw [if_pos hz] at h';cases h';exact⟨mil hz,rfl⟩
   · have h':(if z.length<=1000000 then some ((z.length:Int) != 0) else none)=some b:=h;rw [if_neg hz] at h';cases h'
 | lst xs=>obtain⟨a,vs,ev,hq,rs⟩:=r.lst;rw [ev];cases h;exact .inl ⟨vs,hq,(a3Y rs).symm⟩
 | tup xs=>obtain⟨a,vs,ev,hq,rs⟩:=r.tup;rw [ev];cases h;exact .inr (.inl ⟨vs,hq,(a3Y rs).symm⟩)
 | _=>cases h
theorem b2m (h:QR T K F e pe)(he:∀z whole,isTrue e (F z).env whole=(do let v ← whole;x4X e.pos;x3T [v] (truthy v)):=by intro _ _;rfl)(hK:∀z,(F z).K=K:=by intro _;rfl):QT T K F e (b0i pe):=by
 obtain⟨t,a1,a2⟩:=h;refine⟨_,fun z=>hK z▸b2y (a1 z) (he z),fun C G σ H env n R Q hK hT S hp k=>?_⟩;refine a2 C G σ H env n _ _ hK hT S hp fun x env1 n1 v H1 q1 S1 r1 f1=>?_
 split at q1
 · rename_i b eb;exact⟨b,hK▸b3D eb (r1.rd S1),k _ _ _ _ q1 S1 f1⟩
 · exact q1.elim
end
noncomputable def a0Y (i:Nat)(pe:pE):pE:=fun env n R=>(∃xs,env[i]?=some (some (.ow .lst xs)))/\a7q i pe env n R
noncomputable def a7p (i:Nat)(pe:pE):pE:=fun env n R=>(∃xs,env[i]?=some (some (.ow .lst xs)))/\b0j i pe env n R
noncomputable abbrev b__law_draw:pF:=a9C
end Pu
end
section
namespace Pu
open PySem PySem.Spec L2
theorem a9y {te:pE}{rest:Env}(P:PV->Prop)(c N:Nat):∀(xs:List PV) (s0:Option Slot) (n:Nat) (R:List PV->Nat->Prop),
   (∀x∈xs,∀m Q,m<=N->(∀y m',P y->m'<=m + c->Q y (some (.v x)::rest) m')->te (some (.v x)::rest) m Q)->n + c * xs.length<=N->(∀ys n',ys.length=xs.length->(∀y∈ys,P y)->n'<=n + c * xs.length->R ys n')->a2Z (gN 0) qTru te xs (s0::rest) n R:=by
 intro xq
 induction xq with
 | nil =>
   intro _ n _ _ _ h;exact h [] n rfl (fun _ z=>nomatch z) (by omega)
 | cons x xs ih =>
   intro s0 n R ht hN h;have hl:c * (x::xs).length=c * xs.length + c:=by rw [x0K,Nat.mul_succ]
   show te (some (.v x)::rest) n _;refine ht x x0g n _ (by omega) fun y m' py hm=>?_;refine ih _ m' _ (fun y hy=>ht y (x0f _ hy)) (by omega) fun ys n' e p hn=>?_;exact h (y::ys) n' (by simp [e]) (fun z hz=>(x0k.mp hz).elim (fun e=>e▸py) (p z)) (by omega)
theorem a0Z {g:pG}{b:pS}{D:a6Z}(I:Nat->Env->Nat->Prop):∀(xs:List PV) (k:Nat) (env:Env) (n:Nat),I k env n->
   (∀(i:Nat) x env n (N:Env->Nat->Prop),xs[i]?=some x->I (k + i) env n->(∀e m,I (k + i + 1) e m->N e m)->g x env fun env1=>b { D with nx:=N,ct:=N,bk:=D.nx } env1 n)->(∀env n,I (k + xs.length) env n->D.nx env n)->forL g b D xs env n:=by
 intro xq
 induction xq with
 | nil =>
   intro k env n h0 _ hd;exact hd env n h0
 | cons x xs ih =>
   intro k env n h0 hs hd;show g x env fun env1=>b { D with nx:=fun e m=>forL g b D xs e m,ct:=fun e m=>forL g b D xs e m,bk:=D.nx } env1 n;refine hs 0 x env n _ rfl h0 fun e m h1=>?_;refine ih (k + 1) e m h1 (fun i y env n N e1 h2 h3=>?_) fun env n h2=>hd env n (by rw [x0K,show k + (xs.length + 1)=k + 1 + xs.length by omega];exact h2);refine hs (i + 1) y env n N (by simpa using e1) (by rw [show k + (i + 1)=k + 1 + i by omega];exact h2) fun e m h4=>h3 e m (by rw [show k + 1 + i + 1=k + (i + 1) + 1 by omega];exact h4)
theorem a3y {j i:Nat}{lo:Int}{x:PV}(h:((x0L j).map fun(k:Nat)=>PV.int (lo + k))[i]?=some x):i < j/\x=.int (lo + i):=by
 rw [x0p] at h;cases e:(x0L j)[i]? with
 | none=>rw [e] at h;cases h
 | some y =>
   rw [e] at h;obtain⟨h1,h2⟩:=x0i.mp e;rw [List.getElem_range] at h2;cases h;subst h2;exact⟨by simpa using h1,rfl⟩
theorem a2u {j:Nat}{lo:Int}:((x0L j).map fun(k:Nat)=>PV.int (lo + k)).length=j:=by simp
theorem b1Q {α:Type}{xs:List α}{d:Int}(h0:0<=d)(h1:d < xs.length):∃x,x∈xs/\atI xs d=some x:=by
 obtain⟨x,e1,e2⟩:=b1P h0 h1;exact⟨x,x0u e1,e2⟩
theorem sx_int {n d:Nat}{k:Int}(h:0<=k):HT.sIx n d (some k)=min k.toNat n:=by
 obtain⟨j,rfl⟩:=x2S h;exact HT.sIx_nat n d j
theorem b3Z (a b:Int):eqP (.int a) (.int b)=decide (a=b):=rfl
theorem a3q (a b:Str):eqP (.str a) (.str b)=decide (a=b):=rfl
theorem b4a (a b:Bool):eqP (.bl a) (.bl b)=decide (a=b):=rfl
theorem eqP_ll (xs ys:List PV):eqP (.lst xs) (.lst ys)=eqPs xs ys:=rfl
theorem a4S (xs ys:List PV):eqP (.tup xs) (.tup ys)=eqPs xs ys:=rfl
theorem a2C (x y:PV)(xs ys:List PV):eqPs (x::xs) (y::ys)=(eqP x y && eqPs xs ys):=rfl
theorem a4R:eqPs [] []=true:=rfl
theorem if_t {A B:Prop}{b:Bool}(h:b=true)(q:A):if b=true then A else B:=by rw [if_pos h];exact q
theorem if_f {A B:Prop}{b:Bool}(h:b=false)(q:B):if b=true then A else B:=by rw [if_neg (by rw [h];exact x0R)];exact q
end Pu
end
section
namespace Pu
open PySem PySem.Spec L2
section
variable {T:PotK}{np:Bool}{ι:Type}{K:x0b}{F:ι->Cx}{a b:Expr}{st:Stmt}{pos:Pos}{s1 s2:pSl}
theorem gw_two {X:Cx}(K:x0b)(i j:Nat){x y:Str}{px py pos:Pos}{k:Nat}(hc:X.calm=true)(h1:GW X (.Name x px) (a1J i))(h2:GW X (.Name y py) (a1J j))(hn:(x1k [.Name x px,.Name y py] X.env).length=2:=by rfl)(hst:(x1k [.Name x px,.Name y py] X.env).findIdx? (·.1)=none:=by rfl)
   (hs:(x1k [.Name x px,.Name y py] X.env).map (·.2)=assign (.Name x px) X.env::(x1k [.Name y py] X.env).map (·.2):=by rfl) (hs2:(x1k [.Name y py] X.env).map (·.2)=assign (.Name y py) X.env::(x1k [] X.env).map (·.2):=by rfl) (hK:X.K=K:=by rfl) :
   GW X (.Tuple [.Name x px,.Name y py] k pos) (gTup K 2 (a6K (a1J i) (a6K (a1J j) gNil))):=⟨hK▸b0r hc (a4g h1.h (a4g h2.h a7r hs2) hs) hn hst⟩
theorem b4L (i j:Nat){tg:Expr}{k:Nat}{p:Pos}(h:∀z te g,EW (F z) (.Tuple [a,b] k p) te->GW (F z) tg g->SW (F z) st (tAsg te g))(hg:∀z,GW (F z) tg (gTup K 2 (a6K (a1J i) (a6K (a1J j) gNil))))(h1:QL T K F a s1)(h2:QL T K F b s2)(n1:a0v a=true:=by rfl)(n2:a0v b=true:=by rfl):QS T np K F st (qPar i j s1 s2):=by
 obtain⟨t,a1,a2⟩:=h1;obtain⟨u,b1,b2⟩:=h2;refine⟨_,fun z=>(h z _ _ ⟨b0t (a0o (a1 z) (a0o (b1 z) a0E (a0e n2)) (a0e n1))⟩ (hg z)).h,fun C G σ H env n PD D hK hT hn S hp L=>?_⟩;refine a7G (Q:=fun v w H2=>[v,w].length<=x0B/\∀p,H2 p=none->gTup K 2 (a6K (a1J i) (a6K (a1J j) gNil)) (.ref p) σ (upd H2 p (.tup [v,w])) D.nx) a2 b2 hK hT S hp fun x y env2 n2 v w G2 H2 q S2 x2 gx gy ne=>?_;refine⟨by show 2<=x0B;decide,fun p hn'=>⟨p,[v,w],rfl,SqT.of a0l,rfl,v,[w],rfl,w,[],rfl,rfl,?_⟩⟩;have sm:Same H2 (upd H2 p (.tup [v,w])):=Same.lay1 hn';have S3:=S2.same sm
 have keep:∀{s:Slot} {u:V},b1T C G2 H2 (some (some u)) s->b1T C G2 (upd H2 p (.tup [v,w])) (some (some u)) s:=fun {s u} r=>by
   cases s with
   | v x=>obtain⟨v',e,r⟩:=r;exact⟨v',e,r.same sm⟩
   | ow kk xs=>obtain⟨b,us,e,h1,h2,h3,h4,r⟩:=r;exact⟨b,us,e,h1,h2,h3,sm _ _ h4,r.same sm⟩
 refine L.nx _ _ _ _ _ q ((S3.slot i (keep gx.1) gx.2).slot j (keep gy.1) fun ys b e1 e2 z=>?_) (x2.trans (Ext.fr (Fr.of sm)));rcases a4B S3.len z with z | ⟨⟨xs,ex⟩,ev⟩
 · exact gy.2 ys b e1 e2 z
 · exact ne xs ys b ex e1 ev e2
end
end Pu
end
section
namespace L2
open PySem PySem.Spec PyProof.Rows
section
variable {κ:Type}[DecidableEq κ]
noncomputable def valV (kvs:List (κ×V))(k:κ):Option V:=(kvs.find? fun kv=>decide (kv.1=k)).map (·.2)
noncomputable def putK (kvs:List (κ×V))(k:κ)(v:V):List (κ×V):=
 if(kvs.any fun kv=>decide (kv.1=k))=true then kvs.map (fun kv=>if kv.1=k then(kv.1,v) else kv) else kvs++[(k,v)]
theorem KV.keys {kvs:List (κ×V)}{vs:List (κ×Value)}(r:KV kvs vs):kvs.map (·.1)=vs.map (·.1):=by
 unfold KV at r
 induction r with
 | nil=>rfl
 | cons h t ih=>rw [x0v,x0v,ih,h.1]
end
theorem kV_is {P:x0G}{w:World}{k:Key}{u:Value}(r:RelV (kV k) u):(a0F P w).is k u=true:=by
 cases k with
 | inl i=>obtain⟨t,e⟩:=(show ∃t,u=Value.int i t from r);subst e;exact a4E P w i t
 | inr x=>obtain⟨t,e⟩:=(show ∃t,u=Value.str x t from r);subst e;exact a2n P w x t
theorem items_are {P:x0G}{w:World}:∀{ks:List Key} {us:List Value},Vals (ks.map kV) us->ItemsAre (a0F P w) ks us
 | [],_,r=>by rw [List.map_nil] at r;cases r;exact .nil
 | k :: ks, _, r => by
   rw [x0v] at r;cases r with
   | cons h t=>exact .cons (kV_is h) (items_are t)
noncomputable def DGet (H:Hp)(a:Addr)(y:V)(r:Option V):Prop:=
 (∃kvs k,Rd H a (.dK kvs)/\y=kV k/\r=valV kvs k)\/∃kvs k b,Rd H a (.dT kvs)/\y=.ref b/\H b=some (.tup (k.map kV))/\r=valV kvs k
noncomputable def DPut (H:Hp)(a:Addr)(y v:V)(H':Hp):Prop:=
 (∃kvs k,H a=some (.dK kvs)/\y=kV k/\kvs.length < x0B/\H'=upd H a (.dK (putK kvs k v)))\/
 ∃kvs k b,H a=some (.dT kvs)/\y=.ref b/\H b=some (.tup (k.map kV))/\kvs.length < x0B/\H'=upd H a (.dT (putK kvs k v))
theorem DGet.k {H:Hp}{a:Addr}{kvs:List (Key×V)}{k:Key}(e:H a=some (.dK kvs)):DGet H a (kV k) (valV kvs k):=.inl ⟨kvs,k,.inl e,rfl,rfl⟩
theorem DGet.t {H:Hp}{a b:Addr}{kvs:List (List Key×V)}{k:List Key}(e:H a=some (.dT kvs))(eb:H b=some (.tup (k.map kV))):DGet H a (.ref b) (valV kvs k):=.inr ⟨kvs,k,b,.inl e,rfl,eb,rfl⟩
theorem DPut.k {H:Hp}{a:Addr}{kvs:List (Key×V)}{k:Key}{v:V}(e:H a=some (.dK kvs))(hl:kvs.length < x0B):DPut H a (kV k) v (upd H a (.dK (putK kvs k v))):=.inl ⟨kvs,k,e,rfl,hl,rfl⟩
theorem DPut.t {H:Hp}{a b:Addr}{kvs:List (List Key×V)}{k:List Key}{v:V}(e:H a=some (.dT kvs))(eb:H b=some (.tup (k.map kV)))(hl:kvs.length < x0B) :
   DPut H a (.ref b) v (upd H a (.dT (putK kvs k v))):=.inr ⟨kvs,k,b,e,rfl,eb,hl,rfl⟩
end L2
end
section
namespace Pu
open PySem PySem.Spec L2
section
variable {T:PotK}{ι:Type}{K:x0b}{F:ι->Cx}{e:Expr}{pe:pE}{pos:Pos}
noncomputable def a2U (i:Nat)(pe:pE):pE:=fun env n R=>(∃xs,env[i]?=some (some (.ow .lst xs)))/\pe env n fun y env1 n1=>match env1[i]?,y with | some (some (.ow .lst xs)),.lst ys=>xs.length + ys.length<=1000000/\R .non (env1.set i (some (.ow .lst (xs++ys)))) n1 | _,_=>False
theorem a3m (i:Nat){x:Str}{p ap:Pos}(hv:∀z,EW (F z) (.Name x p) (tVar i))(he:QE T K F e pe)(hs:a0v e=true:=by rfl)(hbase:∀z,x2O (.Name x p) "extend" (F z).env (eval (.Name x p) (F z).env)=eval (.Name x p) (F z).env:=by intro _;rfl)(hline:(ap.endLine == pos.line)=true:=by rfl)
   (hfew:∀z,((backTo pos (x1h [e] (F z).env)).all (fun x=>!x.1) && (x4f pos (x2y [] (F z).env)).all (fun x=>x.1.isSome) && decide (([e]:List Expr).length + ([]:List x3p).length + (if([]:List x3p).isEmpty then 0 else 1) < 30))=true:=by intro _;rfl) (hK:∀z,(F z).K=K:=by intro _;rfl):QE T K F (.Call (.Attribute (.Name x p) "extend" ap) [e] [] pos) (a2U i pe):=by
 obtain⟨t,a1,a2⟩:=he;refine⟨tBM K "list" a9U (tVar i) (a3c t tNil),fun z=>hK z▸a7u x2g PySem.F.slot_list_extend PySem.F.type_list_extend b0L (hv z).h (a0o (a1 z) a0E (a0e hs)) (hbase z) (hfew z) hline (a0e hs),fun C G σ H env n R Q hK hT S hp k=>?_⟩;obtain⟨⟨xs0,e0⟩,hp⟩:=hp;obtain⟨a,vs,ev,h1,h2,h3,h4,r⟩:=S.slots i _ e0;refine⟨.ref a,ev,.inl ⟨rfl,vs,SqL.of h4⟩,?_⟩;refine a2 C G σ H env n _ _ hK hT S hp fun y env1 n1 v H1 q1 S1 r1 f1=>?_
 split at q1
 · rename_i xs ys ex;obtain⟨a',us,ev',g1,g2,g3,g4,r'⟩:=S1.slots i _ ex;rw [ev] at ev';cases ev';subst hK;obtain⟨b,ws,rfl,tb,rb⟩:=r1;obtain⟨S2,f2⟩:=S1.put ex ev (r'.append rb);exact⟨a,b,us,ws,rfl,rfl,g4,tb.2,by rw [<- r'.length,<- rb.length];exact mil q1.1,k _ _ _ _ _ q1.2 S2 rfl (f1.trans f2)⟩
 · exact q1.elim
end
end Pu
end
section
namespace L2
open PySem PySem.Spec PyProof.Rows
theorem a3x:∀{ys:List Str} {us:List Value},Vals (ys.map V.str) us->StrsAre us ys
 | [],us,r=>by rw [List.map_nil] at r;cases r;exact .nil
 | y :: ys, us, r => by
   rw [x0v] at r;cases r with
   | cons r1 r2 =>
     obtain⟨t,e⟩:=r1;subst e;exact .cons y t (a3x r2)
section
variable {X:Cx}
noncomputable def b3H (K:x0b):V->List V->Hp->VK->Prop:=fun x vs H Q=>∃(l:Addr) (k:Str) (ys:List Str),x=.ref l/\vs=[.str k]/\SqL K H l (ys.map V.str)/\Q (.int (countIn (.str k) (ys.map PyData.str))) H
theorem b2V:MtM X "list.count" (b3H X.K):=by
 intro pins s σ H x vs v us Q I rx rv h;obtain⟨l,k,ys,rfl,rfl,hq,q⟩:=h;cases rx;obtain⟨u,rfl,ru⟩:=rv.one;obtain⟨t,rfl⟩:=ru;obtain⟨its,r,p,hz⟩:=I.list hq;exact count_list_strs p.isList (a3x r) ⟨.int _,H,I.tok _,⟨_,rfl⟩,q⟩
end
end L2
namespace Pu
open PySem PySem.Spec PyProof.Rows L2
section
variable {T:PotK}{ι:Type}{K:x0b}{F:ι->Cx}{e c:Expr}{pe pc:pE}{pos:Pos}
noncomputable def a7P:w2:=fun x y R=>match x,y with | .lst xs,.str k=>(match a2d xs with | some ys=>R (.int (countIn (.str k) (ys.map PyData.str))) | none=>False) | _,_=>False
theorem b2u {ap:Pos}(he:QE T K F e pe)(hc:QE T K F c pc)(hs:a0v c=true:=by rfl)(hbase:∀z,x2O e "count" (F z).env (eval e (F z).env)=eval e (F z).env:=by intro _;rfl)(hline:(ap.endLine == pos.line)=true:=by rfl)
   (hfew:∀z,((backTo pos (x1h [c] (F z).env)).all (fun x=>!x.1) && (x4f pos (x2y [] (F z).env)).all (fun x=>x.1.isSome) && decide (([c]:List Expr).length + ([]:List x3p).length + (if([]:List x3p).isEmpty then 0 else 1) < 30))=true:=by intro _;rfl) (hK:∀z,(F z).K=K:=by intro _;rfl):QE T K F (.Call (.Attribute e "count" ap) [c] [] pos) (fun env n R=>pe env n fun x env1 n1=>(∃xs,x=.lst xs)/\pc env1 n1 fun y env2 n2=>a7P x y fun z=>R z env2 n2):=by
 obtain⟨t,a1,a2⟩:=he;obtain⟨u,b1,b2⟩:=hc;refine⟨tBM K "list" (b3H K) t (a3c u tNil),fun z=>hK z▸a7u x2g PySem.F.slot_list_count PySem.F.type_list_count b2V (a1 z) (a0o (b1 z) a0E (a0e hs)) (hbase z) (hfew z) hline (a0e hs),fun C G σ H env n R Q hK hT S hp k=>?_⟩;refine a2 C G σ H env n _ _ hK hT S hp fun x env1 n1 v H1 q1 S1 r1 f1=>?_;obtain⟨⟨xs,rfl⟩,q1⟩:=q1;obtain⟨a,vs,rfl,ta,ra⟩:=r1;refine⟨.inl ⟨rfl,vs,SqL.of ta.2⟩,?_⟩;refine b2 C G σ H1 env1 n1 _ _ hK hT S1 q1 fun y env2 n2 w H2 q2 S2 r2 f2=>?_;unfold a7P at q2
 split at q2
 · rename_i xs' kk e1;cases e1
   split at q2
   · rename_i ys ey;obtain⟨a',vs',e3,ta',ra'⟩:=(show Rep K G H1 (.lst xs) (.ref a) from⟨a,vs,rfl,ta,ra⟩).fr f2;cases e3;exact⟨a,kk,ys,rfl,by rw [show w=.str kk from r2],a1W ey ra'▸SqL.of ta'.2,k _ _ _ _ _ q2 S2 rfl (f1.trans f2)⟩
   · exact q2.elim
 · exact q2.elim
end
end Pu
namespace Pu
noncomputable def b3L (pe pc:pE):pE:=fun env n R=>pe env n fun x env1 n1=>(∃xs,x=.lst xs)/\pc env1 n1 fun y env2 n2=>a7P x y fun z=>R z env2 n2
end Pu
end
section
namespace L2
open PySem PySem.Spec PyProof.Rows
theorem a8R {X:Cx}{scope:Scope}{cl:List (Str×Addr)}{N:List Str}{cs:List (Option Nat)}{elt tg iter:Expr}{ifs:List Expr}{pos spos py:Pos}{wi:TI}{g:TG}{tt:TT}{te:TE}{i:Nat}{y:Str}(hN:X.N.Nodup)(hiy:X.N[i]?=some y)(hy:Loc X.env.scope y)(S:a1x X scope cl N cs)(hc:X.calm=true)(hi:PI X tg iter wi)
   (hb:∀(fp:List Addr) (C:Addr) (s:Shared) (H:Hp),PG (a0z X scope cl N fp C s H) tg g/\PIf (a0z X scope cl N fp C s H) ifs tt/\PE (a0z X scope cl N fp C s H) elt te)
   (hsw:x4T (.ListComp elt [⟨tg,iter,ifs,0⟩] scope pos) (some (.Name y py)) spos.line X.env=pure true:=by rfl)
   (hs:∀x,x1s iter X.env x=pure x:=by intro _;rfl) (hff:X.fn y=true\/X.env.scope.names.lookup y=some .local:=by first | exact .inl rfl | exact .inr rfl | assumption) :
   PS X (.Assign [.Name y py] (.ListComp elt [⟨tg,iter,ifs,0⟩] scope pos) spos) (tAsg (tComp cs wi g tt te) (a1J i)):=by
 have bn:∀(M:Model) (A:Around) (v:Value) (Q:Unit->Shared->Prop) (E:Value->Shared->Prop) (s:Shared),wpAny M A (storeName X.env y v) Q E s->wpAny M A (assign (.Name y py) X.env v) Q E s:=fun M A v Q E s h=>wpAny_assign_Name h;intro pins s σ H DD I h;rw [exec_Assign_Name_used _ _ _ _ hsw];refine x0a (x1V (x0a ?_));show wpAny _ _ (do let _ ← comprehension (.ListComp elt [⟨tg,iter,ifs,0⟩] scope pos) scope X.env _ (newList []) false (eval iter X.env) (some (assign (.Name y py) X.env))) _ _ s;refine x0a (x1g (Q:=fun _ s'=>SP X pins DD .next s') ?_ (fun _ s' hq=>x0h (x0h hq)) fun _ _ e=>e);refine x3B (use:=some (assign (.Name y py) X.env)) rfl hs S.clos S.kind S.names (thn (hi pins s σ H _ I h) fun v s1 h1=>thn h1 fun itv s2 h2=>?_);obtain⟨it,fp,tn,J,H2,rfl,I2,T,st2,f2,q⟩:=h2
 have ho:∀b∈fp,∃o,s2.heap.get? b=some o:=fun b hb=>by
   obtain⟨o,e,_⟩:=T.obj 0 _ st2 b hb;exact⟨o,e⟩
 refine x0Z (x3q S.nocell (by intro y hy;simp at hy) (fun h₁ hns₁ hsb₁=>?_) S.kind);dsimp only at hns₁ hsb₁ ⊢;have hC:(s2.heap.push { cls:=.type "list",dict:=none,data:=.seq ([]:List Value).toArray }).objs.size=s2.heap.objs.size + 1:=by rw [x1X]
 generalize hH2:s2.heap.push { cls:=.type "list",dict:=none,data:=.seq ([]:List Value).toArray }=hp2 at hns₁ hsb₁ hC ⊢;have old:∀b o,s2.heap.get? b=some o->h₁.get? b=some o:=fun b o e=>hsb₁.extBut b o (by rw [hC];exact x0r (x1d (x0o e))) (x0d _ (hH2▸x0d _ e));have hD:h₁.get? s2.heap.objs.size=some { cls:=.type "list",data:=.seq ([]:List Value).toArray }:=hsb₁.extBut _ _ (by rw [hC];exact x0r (x2e _)) (x0d _ (hH2▸x0s _ rfl));rw [hC] at hns₁ ⊢;obtain⟨W,⟨m0,w0⟩,turn⟩:=q s2.heap.objs.size I2.fresh;have Ic:=a5V S (tk:=s2.toks + ([]:List (Str×Value)).length) I2 f2 ho old hns₁ hD;have nstk:∀b,b≠X.env.locals->b∉X.fs->b∉frs X.stack:=fun b h1 h2 hb=>(x0k.mp (I2.stkSub b hb)).elim h1 h2
 have stat:∀{H':Hp},(∀b∈fp,H' b=none)->∀b∈fp,FpOk (a0z X scope cl N fp (s2.heap.objs.size + 1) s2 H2) pins H' b:=fun hn b hb=>by
   obtain⟨o,e⟩:=ho b hb;exact⟨hn b hb,x0r (x1d (x0o e)),nstk b (f2 b hb).2.1 (f2 b hb).2.2.1,.inl hb,fun x c ec=>(f2 b hb).2.2.2.2.1 x c (S.sub x c ec),(f2 b hb).2.2.2.2.2⟩
 obtain⟨hg,hf,he⟩:=hb fp (s2.heap.objs.size + 1) s2 H2;have st1:tn 0 h₁:=T.keep _ _ _ st2 fun b hb o e=>old b o e
 have fr1:∀b∈fp,upd H2 s2.heap.objs.size (.lst []) b=none:=fun b hb=>by
   obtain⟨o,e⟩:=ho b hb;rw [a0j (x0r (x0o e))];exact(f2 b hb).1
 have loop:∀s₃:Shared,s₃={ s2 with heap:=h₁,toks:=s2.toks + ([]:List (Str×Value)).length }->
     x2x (model X.prog X.w) X.A (.compLoop (.ListComp elt [⟨tg,iter,ifs,0⟩] scope pos) 0 (.ref it) (.ref s2.heap.objs.size) (compEnvC scope cl (s2.heap.objs.size + 1) X.env))
       (compPost (model X.prog X.w) X.A X.xe (some (assign (.Name y py) X.env)) (fun _ s'=>SP X pins DD .next s') (.ref s2.heap.objs.size) (s2.heap.objs.size + 1)) s₃:=by
   rintro s₃ rfl;refine a4X _ (a7g (Y:=a0z X scope cl N fp (s2.heap.objs.size + 1) s2 H2) T hc stat hg hf he (fun s4 σ3 H3 I4 qn=>?_) turn) m0 ⟨0,_,_,Ic,st1,fr1,w0⟩;obtain⟨m4,hn4,_⟩:=I4.loc;have I5:Inv X pins σ H3 s4:=Inv.uncomp (h':=s4.heap) I2 f2 I4 fun b hb=>rfl;have oldne:∀b o,s2.heap.get? b=some o->b≠s2.heap.objs.size + 1:=fun b o e=>x0r (x1d (x0o e));have locne:X.env.locals≠s2.heap.objs.size + 1:=x0r (x1d I2.lt)
   have cellne:∀x c,X.env.cells.lookup x=some c->c≠s2.heap.objs.size + 1:=fun x c e=>by
     obtain⟨v,o,h1,_⟩:=I2.cell x c e;exact oldne c o h1
   refine bn _ _ _ _ _ _ (a6k I5 hN hiy hy (v:=.ref s2.heap.objs.size) rfl (fun s6 I6 ⟨a6,sb6,ha6⟩=>?_) hff)
   have ane:s2.heap.objs.size + 1≠a6:=by
     rcases ha6 with rfl | ha6
     · exact Ne.symm locne
     · exact Ne.symm (cellne _ _ ha6)
   refine⟨m4,hn4.sameBut sb6 ane,fun h' hs'=>⟨_,H3,?_,qn⟩⟩;have hs7:∀b,b≠s2.heap.objs.size + 1->h'.get? b=s6.heap.get? b:=fun b hb=>hs'.2 b hb;have U0:Un (frs X.stack) [s2.heap.objs.size + 1] H3 H3 s6.heap s6.heap:=Un.refl
   have trC:∀b u,H3 b=some u->b≠s2.heap.objs.size + 1:=fun b u e z=>by
     have q:H3 (s2.heap.objs.size + 1)=none:=I4.free;rw [z,q] at e;cases e
   obtain⟨hh6,g6,d6,t6,os6⟩:=s6;refine I6.call (h':=h') (g':=g6) (d':=d6) (t':=t6) (ch:=[s2.heap.objs.size + 1]) ⟨fun b o e n hb hx=>?_,fun b o e n hb hx=>?_,U0.free,fun b o e hx=>?_,U0.tups,U0.frzs,U0.tbls,U0.sys⟩ (fun b u e=>?_) I6.bare fun b hb=>?_
   · have hb':b≠s2.heap.objs.size + 1:=fun z=>hx (by rw [z];exact x0n.mpr rfl);rw [hs7 b hb'];exact U0.keep b o e n hb hx
   · have hb':b≠s2.heap.objs.size + 1:=fun z=>hx (by rw [z];exact x0n.mpr rfl);rw [hs7 b hb'];exact U0.slot b o e n hb hx
   · have hb':b≠s2.heap.objs.size + 1:=fun z=>hx (by rw [z];exact x0n.mpr rfl);rw [hs7 b hb'];exact U0.there b o e hx
   · refine(I6.hok b u e).stay (fun c v hc q=>?_) (fun _ q=>q) fun _ _ q=>q
     have ne:c≠s2.heap.objs.size + 1:=by
       rcases hc with z | z
       · rw [z];exact trC b u e
       · exact trC c _ z
     rw [hs7 c ne];exact q
   · rw [x0n.mp hb];refine⟨.inr (x3Z I2.sz),Ne.symm locne,cellne,fun p hp=>?_⟩;exact oldne _ _ (I2.pin p hp).1
 exact x3R (loop _ rfl) (T.self _ 0 _ _ _ st1 (loop _ rfl))
end L2
namespace Pu
open PySem PySem.Spec L2
noncomputable def SwOk (X:Cx)(e:Expr)(t:TE):Prop:=∀(i:Nat) (y:Str) (py spos:Pos),X.N.Nodup->X.N[i]?=some y->Loc X.env.scope y->x4T e (some (.Name y py)) spos.line X.env=pure true->(X.fn y=true\/X.env.scope.names.lookup y=some .local)->PS X (.Assign [.Name y py] e spos) (tAsg t (a1J i))
noncomputable def QNC {ι:Type}(T:PotK)(K:x0b)(F:ι->Cx)(e:Expr)(pn:pA):Prop:=∃t,(∀z,PE (F z) e t)/\(∀z,SwOk (F z) e t)/\NOk K T t pn
section
variable {T:PotK}{np:Bool}{ι:Type}{K:x0b}{F:ι->Cx}{e:Expr}{pl:pA}{pg:pG}{pos:Pos}
theorem b0h {scope:Scope}{cl:ι->List (Str×Addr)}{N:List Str}{cs:List (Option Nat)}{elt tg iter:Expr}{ifs:List Expr}{pi:pA}{ptt:pT}{pte:pE}(S:∀z,a1x (F z) scope (cl z) N cs)(hc:∀z,(F z).calm=true)(hi:QI T K F tg iter pi)
   (hg:QG K (fun y:ι×List Addr×Addr×Shared×Hp=>a0z (F y.1) scope (cl y.1) N y.2.1 y.2.2.1 y.2.2.2.1 y.2.2.2.2) tg pg) (ht:QIf T K (fun y:ι×List Addr×Addr×Shared×Hp=>a0z (F y.1) scope (cl y.1) N y.2.1 y.2.2.1 y.2.2.2.1 y.2.2.2.2) ifs ptt)
   (he:QE T K (fun y:ι×List Addr×Addr×Shared×Hp=>a0z (F y.1) scope (cl y.1) N y.2.1 y.2.2.1 y.2.2.2.1 y.2.2.2.2) elt pte)
   (hs:∀z x,x1s iter (F z).env x=pure x:=by intro _ _;rfl):QNC T K F (.ListComp elt [⟨tg,iter,ifs,0⟩] scope pos) (a3n cs pi pg ptt pte):=by
 obtain⟨wi,i1,i2⟩:=hi;obtain⟨g,hg0,hg⟩:=hg;obtain⟨tt,ht0,ht⟩:=ht;obtain⟨te,he0,he⟩:=he;refine⟨_,fun z=>b0v (S z) (hc z) (i1 z) (fun fp C s H=>⟨hg0 (z,fp,C,s,H),ht0 (z,fp,C,s,H),he0 (z,fp,C,s,H)⟩) (hs z),fun z i y py spos hN hi hy hsw hf=>a8R hN hi hy (S z) (hc z) (i1 z) (fun fp C s H=>⟨hg0 (z,fp,C,s,H),ht0 (z,fp,C,s,H),he0 (z,fp,C,s,H)⟩) hsw (hs z) hf,fun C G σ H env n R Q hK hT S hp k=>?_⟩;refine i2 C G σ H env n _ _ hK hT S hp fun xs env1 n1 J H1 p1 S1 f1 hJ=>?_;intro D hD;have hDM:=S1.fresh hD;refine b1y (G:=G) hg ht he hJ p1.1 hD (hT▸hK▸a7I S1 cs) p1.2 fun ys n2 us H' rr hpots hk eD ry=>?_
 -- the heap without D
 have nD:∀b o,H1 b=some o->b≠D:=fun b o e z=>by rw [z,hD] at e;cases e
 have hD0:C.H0 D=none:=by
   cases z:C.H0 D with
   | none=>rfl
   | some o =>
     by_cases hp:D∈C.pots0
     · exact absurd (S1.sup D (S1.p0.1 D hp)) hDM
     · have:=S1.frame D o hp z;rw [hD] at this;cases this
 have hk2:∀b o,b∉G.pots->H1 b=some o->cutH H' D b=some o:=fun b o hb e=>by rw [a1q (nD b o e)];exact hk b o hb e
 have nc:∀b,b∉D::G.M->b≠D:=fun b hb z=>hb (by rw [z];exact x0g);have np:∀p∈G.pots,p≠D:=fun p hp z=>hDM (z▸(S1.pots p hp).1)
 have Sb:SR C G σ (cutH H' D) env1 n2:=S1.call hk2 fun p hp=>by
   subst hT;have h2:=C.T.keep (hpots p hp) (H':=cutH H' D) (a1q (np p hp)) fun b o hb e=>by rw [a1q (nc b hb)];exact e
   exact C.T.more h2 fun a ha=>.inl (x0f _ ha)
 have:=k ys env1 n2 D us (cutH H' D) rr Sb (f1.trans fun b o hb e=>hk2 b o (fun z=>hb (S1.pots b z).1) e) (by unfold cutH;rw [if_pos rfl]) ?_
 · rw [a5y eD] at this;exact this
 · exact Reps.mono (G:=⟨D::G.M,G.pots⟩) (fun b o hb e=>by rw [a1q (nc b hb)];exact e) (fun a ha=>.inl (x0f _ ha)) (fun _ _ e=>e) _ _ ry
theorem a9W (i:Nat){y:Str}{py spos:Pos}(h:QNC T K F e pl)(hN:∀z,(F z).N.Nodup)(hi:∀z,(F z).N[i]?=some y)(hy:∀z,Loc (F z).env.scope y)(hsw:∀z,x4T e (some (.Name y py)) spos.line (F z).env=pure true:=by intro _;rfl)(hf:∀z,(F z).fn y=true\/(F z).env.scope.names.lookup y=some .local:=by intro _;first | exact .inl rfl | exact .inr rfl):QS T np K F (.Assign [.Name y py] e spos) (qSet i (qL pl)):=by
 obtain⟨t,a1,a3,a2⟩:=h
 have he:EOk K T t (qL pl):=fun C G σ H env n R Q hK hT S hp k=>by
   refine a2 C G σ H env n _ _ hK hT S hp fun xs env1 n1 a vs Hb p1 S1 f1 hn r1=>?_;exact k _ _ _ _ _ p1 (S1.same (Same.lay1 hn)) (a5F (S1.fresh hn) hn r1) (f1.trans (Fr.of (Same.lay1 hn)))
 refine⟨_,fun z=>a3 z i y py spos (hN z) (hi z) (hy z) (hsw z) (hf z),fun C G σ H env n PD D hK hT hn S hp L=>?_⟩;refine he C G σ H env n _ _ hK hT S hp fun x env1 n1 v H1 q1 S1 r1 f1=>?_;exact L.nx _ _ _ _ _ q1 (S1.set i (hK▸r1)) (Ext.fr f1)
end
end Pu
end
section
namespace L2
open PySem PySem.Spec PyProof.Rows
noncomputable def met (val:Nat->Key):Nat->List Key
 | 0=>[]
 | i + 1=>if(met val i).any (fun y=>decide (y=val i)) then met val i else met val i++[val i]
theorem met_le (val:Nat->Key):∀i,(met val i).length<=i:=by
 intro xq
 induction xq with
 | zero =>
   exact x0m _
 | succ i ih =>
   have:=ih;unfold met
   split
   · omega
   · rw [x0l,x0E];omega
theorem b0P (val:Nat->Key)(i:Nat)(k:Key):(met val (i + 1)).any (fun y=>decide (y=k))=((met val i).any (fun y=>decide (y=k)) || decide (k=val i)):=by
 show(if(met val i).any (fun y=>decide (y=val i)) then met val i else met val i++[val i]).any (fun y=>decide (y=k))=_
 by_cases hk:k=val i
 · subst hk;rw [decide_eq_true rfl,Bool.or_true]
   split
   · assumption
   · rw [List.any_append];simp
 · rw [decide_eq_false hk,x3I]
   split
   · rfl
   · rw [List.any_append]
     have:([val i].any (fun y=>decide (y=k)))=false:=by
       rw [List.any_cons,List.any_nil,x3I];exact decide_eq_false (Ne.symm hk)
     rw [this,x3I]
theorem b0O (val:Nat->Key)(i:Nat):(met val (i + 1)).length=if(met val i).any (fun y=>decide (y=val i)) then(met val i).length else(met val i).length + 1:=by
 show(if(met val i).any (fun y=>decide (y=val i)) then met val i else met val i++[val i]).length=_
 split
 · rfl
 · rw [x0l,x0E]
section
variable {prog:x0G}{w:World}{A:Around}{R:Result->Shared->Prop}{I:Addr}{fp wr:List Addr}{G:Array GenState->Array GenState->Prop}{n:Nat}{P:Nat->Value->Prop}{St:Nat->Shared->Prop}
theorem b2f (Wk:WalksS prog w A.in1 I fp wr G n P St)(S:Addr)(nf:S∉fp)(val:Nat->Key)(hv:∀i v,P i v->(a0F prog w).is (val i) v=true/\v.scannable=true)(room:n + 1 < scanBound) :
   ∀ (k i : Nat) (s : Shared), n - i = k -> i <= n -> St i s -> s.heap.SetOf (a0F prog w) S (fun q => (met val i).any (fun y => decide (y = q))) (met val i).length ->
     (∀s',Moved (S::wr) G s s'->s'.heap.SetOf (a0F prog w) S (fun q=>(met val n).any (fun y=>decide (y=q))) (met val n).length->R (.ok (.ret .none)) s')->
     x2x (model prog w) A (.builtin "set.update.loop" ⟨[.ref S,.ref I],[]⟩) R s:=by
 have nw:S∉wr:=fun h=>nf (Wk.sub _ h);have sub:∀b∈wr,b∈S::wr:=fun b hb=>x0f _ hb;intro k
 induction k with
 | zero =>
   intro i s hk hi st so fin;have ei:i=n:=by omega
   subst ei;refine x1O x2T ?_;rw [x1B x1D _];refine x0a (m:=pyNext (.ref I)) (Wk.done s _ _ st fun s' mv=>?_);refine x0h (fin s' (mv.mono sub) ?_);obtain⟨o,es,ep,t,ho,more⟩:=so;exact⟨o,es,ep,t,mv.heap S _ nw ho,more⟩
 | succ k ih =>
   intro i s hk hi st so fin;have lt:i < n:=by omega
   refine x1O x2T ?_;rw [x1B x1D _];refine x0a (m:=pyNext (.ref I)) (Wk.item i s _ _ lt st fun v s' pv' st' mv=>?_);obtain⟨kv,sc⟩:=hv i v pv'
   have so':s'.heap.SetOf (a0F prog w) S (fun q=>(met val i).any (fun y=>decide (y=q))) (met val i).length:=by
     obtain⟨o,es,ep,t,ho,more⟩:=so;exact⟨o,es,ep,t,mv.heap S _ nw ho,more⟩
   refine x0a (m:=x3T [v] (setAdd S v)) (x0V ?_);unfold setAdd;refine x0V (x0a ((a0F prog w).pyHash (k:=val i) kv ?_));have rm:(met val i).length + 1 < scanBound:=by have:=met_le val i;omega
   refine wpAny_setAddHashed_of (knd:=a0F prog w) (s:={ s' with toks:=s'.toks + 1 }) kv sc so' rm fun h' sb so2=>?_
   have so3:h'.SetOf (a0F prog w) S (fun q=>(met val (i + 1)).any (fun y=>decide (y=q))) (met val (i + 1)).length:=by
     have e1:(fun q=>(met val i).any (fun y=>decide (y=q)) || decide (q=val i))=fun q=>(met val (i + 1)).any (fun y=>decide (y=q)):=funext fun q=>(b0P val i q).symm;rw [b0O,<- e1];exact so2
   refine x0h ⟨x2t x1D _,ih (i + 1) _ (by omega) lt (Wk.frame _ s' _ _ st' (x2P _) fun b hb o e=>?_) so3 fun s2 mv2 so4=>?_⟩
   · rw [sb.2 b (fun z:b=S=>nf (by rw [<- z];exact hb))];exact e
   · refine fin s2 (Moved.trans Wk.gtrans ((mv.mono sub).then_heap (x2P _) fun b o hb e=>?_) mv2) so4;rw [sb.2 b (fun z:b=S=>hb (by rw [z];exact x0g))];exact e
end
section
variable {prog:x0G}{w:World}{A:Around}{E:Value->Shared->Prop}{s:Shared}
theorem a7j:isSubtype (.type "tuple") (.type "set")=pure false:=by rw [x3b] <;> kernel_rfl
theorem a6i:isSubtype (.type "tuple") (.type "frozenset")=pure false:=by rw [x3b] <;> kernel_rfl
theorem a6j:isSubtype (.type "list") (.type "set")=pure false:=by rw [x3b] <;> kernel_rfl
theorem a5z:isSubtype (.type "list") (.type "frozenset")=pure false:=by rw [x3b] <;> kernel_rfl
theorem b5p (x:Value){Q₁:Value->Shared->Prop}
   (h:∀led:Bool,led=(!(w.params.followText "set-order"))->Q₁ (.ref s.heap.objs.size) { s with heap:=s.heap.push { cls:=.type "set",dict:=none,data:=.set #[] 0 (.fresh 0 0 led) } }) :
   x2x (model prog w) A (.call (.builtin "set.__new__") ⟨[.type "set",x],[]⟩) (wants Q₁ E) s:=by
 refine codeAny_of_tree (show wpAny (model prog w) A.in1 (checkBuiltinCall "set.__new__" ⟨[.type "set",x],[]⟩>>=fun _=>again (.builtin "set.__new__" ⟨[.type "set",x],[]⟩)) _ _ s from ?_);refine x0a (wpAny_of_eq (F.newCall_set_1 x) (x0h ⟨x2t F.plain_set_new _,x1O F.entry_set_new ?_⟩));rw [x1B F.plain_set_new _];unfold x3c.«set.__new__» Builtin.Frozenset.newClass;have ss:=sub_set_self;obtain⟨hp,gs,dr,tk,sy⟩:=s;dsimp only
 wp_walk
 refine x4p (x0h ?_);dsimp only;unfold newObj;refine x0a (wpAny_alloc (x0h (x0h (h _ ?_))))
 first | rfl | simp
noncomputable abbrev soN (led:Bool):Obj:={ cls:=.type "set",dict:=none,data:=.set #[] 0 (.fresh 0 0 led) }
theorem a8a {a:Addr}{its:Array Value}{Z:Heap->Prop}{Q:Value->Shared->Prop}(hd:A.handled=none)(ht:s.heap.IsList a its\/s.heap.IsTuple a its)
   (lp:∀(I:Addr) (St:Nat->Shared->Prop) (fp:List Addr) (G:Array GenState->Array GenState->Prop) (s1:Shared) (R:Result->Shared->Prop) (led:Bool),led=(!(w.params.followText "set-order"))->s.heap.objs.size < I->
     WalksS prog w A.in1.in1.in1 I fp [I] G its.size (fun i v=>its[i]?=some v) St->s.heap.objs.size∉fp->St 0 s1->s1.heap.get? s.heap.objs.size=some (soN led)->(∀b o,s.heap.get? b=some o->s1.heap.get? b=some o)->
     (∀s',Moved [s.heap.objs.size,I] G s1 s'->Z s'.heap->R (.ok (.ret .none)) s')->x2x (model prog w) A.in1.in1 (.builtin "set.update.loop" ⟨[.ref s.heap.objs.size,.ref I],[]⟩) R s1)
   (fin:∀(h':Heap) (tk:Nat),Z h'->(∀b o,b < s.heap.objs.size->s.heap.get? b=some o->h'.get? b=some o)->Q (.ref s.heap.objs.size) { s with heap:=h',toks:=tk }):wpAny (model prog w) A (call (.type "set") [.ref a]) Q E s:=by
 obtain⟨c,tl,mr⟩:=PySem.F.called_set.mro;have md:=PySem.F.called_set.made;have sb:=PySem.F.called_set.sub;refine wpAny_call (codeAny_of_tree (show wpAny (model prog w) _ (callAny (.type "set") _) _ _ s from ?_));refine x0h ⟨Code.quiet_builtin _ (by decide +kernel),x1O PySem.F.entry_type_call ?_⟩;rw [Around.under_plain (weight_type_call_type "set" [.ref a] []) rfl];have x1:=PySem.F.called_set.notType;have x2:=PySem.F.called_set.canCreate;have x3:=PySem.F.typeCall_set_1 (.ref a)
 repeat (any_goals (first | wp_step | assumption))
 refine x3y (b5p (.ref a) (E:=E) (Q₁:=fun ob s₁=>∃led:Bool,led=(!(w.params.followText "set-order"))/\ob=.ref s.heap.objs.size/\s₁={ s with heap:=s.heap.push (soN led) }) fun led hl=>⟨led,hl,rfl,rfl⟩) fun r s₁ hr=>?_;cases r with
 | error e=>exact hr
 | ok fl =>
   cases fl with
   | ret ob =>
     obtain⟨led,hled,rfl,rfl⟩:=hr;have g0:(s.heap.push (soN led)).get? s.heap.objs.size=some (soN led):=x0s _ rfl;have ty:Shared.TypeIs { s with heap:=s.heap.push (soN led) } (.ref s.heap.objs.size) "set":=⟨_,g0,rfl⟩;have y1:=PySem.F.called_set.init.lookup;have y2:=PySem.F.called_set.init.bind (.ref s.heap.objs.size)
     repeat (any_goals (first | wp_step | assumption))
     refine x3y (codeAny_call_builtin (R:=wants (fun r s₂=>r=.none/\∃h' tk,s₂={ s with heap:=h',toks:=tk }/\Z h'/\
         (∀b o,b < s.heap.objs.size->s.heap.get? b=some o->h'.get? b=some o)) E) PySem.F.called_set.init.plain PySem.F.entry_set_init (PySem.check_set_init_1 ty ?_)) fun r₂ s₂ hr₂=>?_
     · clear fin;have h3:A.in1.in1.in1.handled=none:=by simp [hd]
       unfold x3c.«set.__init__» noKeywords Builtin.Frozenset.updateFrom;generalize hP:pyIter=PI;rcases ht with⟨⟨oc,od,odt,os⟩,ho,hc,nl,hdl⟩ | ⟨⟨oc,od,odt,os⟩,ho,hc,nl,hdl⟩ <;>
       · cases hc;cases hdl;have ho':=x0d (soN led) ho;have z1:=a6j;have z2:=a5z;have z3:(x1q "list" == x1q "dict")=false:=by decide
         have z4:=a7j;have z5:=a6i;have z6:(x1q "tuple" == x1q "dict")=false:=by decide
         wp_walk
         subst hP;have la:a < s.heap.objs.size:=x0o ho;have n1:a≠(s.heap.push (soN led)).objs.size:=by rw [x1X];exact x0r (x1d la)
         have lI:s.heap.objs.size < (s.heap.push (soN led)).objs.size:=by rw [x1X];exact x2e _
         have n2:s.heap.objs.size∉[(s.heap.push (soN led)).objs.size,a]:=fun z=>by
           rcases x0k.mp z with z | z
           · exact x0r lI z
           · exact x3x la (x0n.mp z)
         have en:∀{s1 s':Shared} {G},Moved [s.heap.objs.size,(s.heap.push (soN led)).objs.size] G s1 s'->Z s'.heap->s1.gens=s.gens->s1.drawn=s.drawn->s1.os=s.os->(∀b o,s.heap.get? b=some o->s1.heap.get? b=some o)->(∀x y,G x y->y=x)->∃h' tk,s'={ s with heap:=h',toks:=tk }/\Z h'/\(∀b o,b < s.heap.objs.size->s.heap.get? b=some o->h'.get? b=some o):=by
           intro s1 s' G mv zz e1 e2 e3 kp hG;obtain⟨h',g',d',tk',os'⟩:=s';obtain rfl:g'=s.gens:=(hG _ _ mv.gens).trans e1;obtain rfl:d'=s.drawn:=mv.drawn.trans e2;obtain rfl:os'=s.os:=mv.os.trans e3;refine⟨h',tk',rfl,zz,fun b o hb e=>mv.heap b o (fun z=>?_) (kp _ _ e)⟩;rcases x0k.mp z with z | z
           · exact x0r hb z
           · exact x0r (x4h hb lI) (x0n.mp z)
         first
           | (refine x3i ⟨_,ho',rfl,nl,rfl⟩ (x0a (wpAny_runValue ?_))
              refine lp _ _ _ _ _ _ led hled lI ((Walks.list h3 _ a n1 its).toS) n2 ⟨⟨_,x0s _ rfl,rfl,rfl⟩,⟨_,x0d _ ho',rfl,nl,rfl⟩⟩ (x0d _ g0) (fun b o e=>x0d _ (x0d _ e)) fun s' mv zz=>x0h (x0h ⟨rfl,?_⟩))
           | (refine x3d ⟨_,ho',rfl,nl,rfl⟩ (x0a (wpAny_runValue ?_))
              refine lp _ _ _ _ _ _ led hled lI ((Walks.tuple h3 _ a n1 its).toS) n2 ⟨⟨_,x0s _ rfl,rfl,rfl⟩,⟨_,x0d _ ho',rfl,nl,rfl⟩⟩ (x0d _ g0) (fun b o e=>x0d _ (x0d _ e)) fun s' mv zz=>x0h (x0h ⟨rfl,?_⟩))
         exact en mv zz rfl rfl rfl (fun b o e=>x0d _ (x0d _ e)) fun _ _ e=>e
     · cases r₂ with
       | error e=>exact hr₂
       | ok fl₂ =>
         cases fl₂ with
         | ret r =>
           obtain⟨rfl,h',tk,rfl,so',kp⟩:=hr₂
           repeat (any_goals (first | wp_step | assumption))
           exact fin _ _ so' kp
         | _=>exact hr₂.elim
   | _=>exact hr.elim
theorem set_of {h:Heap}{S:Addr}{val:Nat->Key}{led:Bool}(g1:h.get? S=some (soN led)):h.SetOf (a0F prog w) S (fun q=>(met val 0).any (fun y=>decide (y=q))) (met val 0).length:=by
 refine⟨soN led,#[],0,.fresh 0 0 led,g1,⟨rfl,rfl,rfl⟩,rfl,fun e he=>(nomatch he),fun k=>⟨fun z=>(nomatch z),fun⟨e,he,_⟩=>(nomatch he)⟩,by decide,?_,rfl⟩;cases led <;> decide
theorem a5v {a:Addr}{its:Array Value}{val:Nat->Key}{Q:Value->Shared->Prop}(hd:A.handled=none)(ht:s.heap.IsList a its\/s.heap.IsTuple a its)(hv:∀(i:Nat) (v:Value),its[i]?=some v->(a0F prog w).is (val i) v=true/\v.scannable=true)(room:its.size + 1 < scanBound)
   (fin:∀(h':Heap) (tk:Nat),h'.SetOf (a0F prog w) s.heap.objs.size (fun q=>(met val its.size).any (fun y=>decide (y=q))) (met val its.size).length->
     (∀b o,b < s.heap.objs.size->s.heap.get? b=some o->h'.get? b=some o)->Q (.ref s.heap.objs.size) { s with heap:=h',toks:=tk }):wpAny (model prog w) A (call (.type "set") [.ref a]) Q E s:=
 a8a hd ht (fun I St fp G s1 R led _ _ Wk nf h0 g1 _ k=>b2f Wk _ nf val hv room (its.size - 0) 0 s1 rfl (x0U _) h0 (set_of g1) k) fin
end
end L2
end
section
namespace L2
open PySem PySem.Spec PyProof.Rows
noncomputable def a1V (ys:List Str)(i:Nat):Key:=x4B (ys.getD i (x0j ""))
noncomputable def SetX (X:Cx)(p:Addr)(S:Key->Bool)(n:Nat):HO:=.ext fun h=>h.SetOf (a0F X.prog X.w) p S n
theorem a7V {ys:List Str}{us:List Value}(r:Vals (ys.map V.str) us){i:Nat}{u:Value}(h:us[i]?=some u):∃t,u=.str (ys.getD i (x0j "")) t:=by
 obtain⟨hi,e⟩:=x0i.mp h;obtain⟨x,ex,rx⟩:=r.getE hi;rw [x0p] at ex;cases ey:ys[i]? with
 | none=>rw [ey] at ex;cases ex
 | some y =>
   rw [ey] at ex;cases ex;obtain⟨t,et⟩:=rx;refine⟨t,?_⟩;rw [<- e,et,List.getD,ey]
   rfl
section
variable {X:Cx}
theorem b1H (hc:X.calm=true):a1z X (.type "set") (fun vs H Q=>∃(a:Addr) (ys:List Str),vs=[.ref a]/\SqT X.K H a (ys.map V.str)/\ys.length<=1000/\∀p,H p=none->Q (.ref p) (upd H p (SetX X p (fun q=>(met (a1V ys) ys.length).any (fun y=>decide (y=q))) (met (a1V ys) ys.length).length))):=by
 intro pins s σ H vs us Q I rv h;obtain⟨a,ys,rfl,hq,hl,k⟩:=h;obtain⟨u,rfl,ru⟩:=rv.one;obtain rfl:u=.ref a:=ru;obtain⟨its,r,ht,_⟩:=I.tuple hq;have sz:its.toArray.size=ys.length:=by have:=r.length;rw [x0e] at this;simpa using this.symm
 refine a5v (val:=a1V ys) (I.ok.hd hc) (.inr ht) (fun i v e=>?_) (by rw [sz];unfold scanBound;omega) fun h' tk so kp=>?_
 · obtain⟨t,rfl⟩:=a7V r (by simpa using e);exact⟨a2n _ _ _ _,rfl⟩
 · rw [sz] at so
   have I1:Inv X pins σ (upd H s.heap.objs.size (SetX X s.heap.objs.size (fun q=>(met (a1V ys) ys.length).any (fun y=>decide (y=q))) (met (a1V ys) ys.length).length)) { s with heap:=h',toks:=tk }:=
     I.laid (fun b o e=>kp b o (x0o e) e) (x0m _) ⟨so,by obtain⟨o,_,_,_,e,_⟩:=so;exact⟨o,e⟩,fun h1 h2 x k2=>by
       obtain⟨o,es,ep,t,e,more⟩:=x
       exact⟨o,es,ep,t,k2 o e,more⟩⟩
   exact⟨.ref s.heap.objs.size,_,I1,rfl,k _ (I.hok.fresh (x0m _))⟩
theorem a6S:a1z X (.builtin "len") (fun vs H Q=>∃p S n,vs=[.ref p]/\H p=some (SetX X p S n)/\Q (.int n) H):=by
 intro pins s σ H vs us Q I rv h;obtain⟨p,S,n,rfl,e,q⟩:=h;obtain⟨u,rfl,ru⟩:=rv.one;obtain rfl:u=.ref p:=ru;obtain⟨so,_,_⟩:=I.hok p _ e;obtain⟨o,es,ep,t,ho,hex,hd,_,_,hb,hf,hn⟩:=so;refine call_len_set ho hex hd hf (by unfold scanBound at hb;omega) ⟨.int n,H,I.tok _,⟨_,by rw [hn]⟩,q⟩
noncomputable def b4z (K:x0b)(t:TE):TE:=fun σ H Q=>t σ H fun x H1=>∃(a:Addr) (ys:List Str),x=.ref a/\SqT K H1 a (ys.map V.str)/\ys.length<=1000/\∀H2,Same H1 H2->Q (.int (met (a1V ys) ys.length).length) H2
theorem b0u {e:Expr}{t:TE}{p1 p2 pos pos2:Pos}(hc:X.calm=true)(g1:Gl X "len")(m1:X.mg "len"=none)(g2:Gl X "set")(m2:X.mg "set"=none)(he:PE X e t)(hs:x1h [e] X.env=(false,eval e X.env)::x1h [] X.env)(tm:∀(σ:St) (H:Hp) (Q Q':VK),t σ H Q->(∀v H',Q v H'->Q' v H')->t σ H Q') :
   PE X (.Call (.Name "len" p1) [.Call (.Name "set" p2) [e] [] pos2] [] pos) (b4z X.K t):=by
 have i1:=a2a (p:=p2) (pos:=pos2) (b1H hc) g2 m2 b1N (a0o he a0E hs) (by decide) (by decide) hs rfl;have i2:=a1s (p:=p1) (pos:=pos) a6S g1 m1 a8B (a0o i1 a0E rfl) (by decide) (by decide) rfl rfl;intro pins s σ H Q I h;refine i2 pins s σ H Q I ?_;refine tm σ H _ _ h fun x H1 hx=>?_;obtain⟨a,ys,rfl,hq,hl,k⟩:=hx;exact⟨a,ys,rfl,hq,hl,fun p hn=>⟨p,_,_,rfl,a0l,k _ ((Same.refl _).lay hn)⟩⟩
end
end L2
namespace Pu
open PySem PySem.Spec L2
section
variable {T:PotK}{ι:Type}{K:x0b}{F:ι->Cx}{pos:Pos}
noncomputable def a5x:w1:=fun x R=>match x with | .tup xs=>(match a2d xs with | some ys=>ys.length<=1000/\R (.int (met (a1V ys) ys.length).length) | none=>False) | _=>False
theorem b0d (i:Nat){x:Str}{p p1 p2 pos2:Pos}(hc:∀z,(F z).calm=true)(g1:∀z,Gl (F z) "len")(m1:∀z,(F z).mg "len"=none)(g2:∀z,Gl (F z) "set")(m2:∀z,(F z).mg "set"=none)(hv:∀z,EW (F z) (.Name x p) (tVar i))(hK:∀z,(F z).K=K:=by intro _;rfl) :
   QE T K F (.Call (.Name "len" p1) [.Call (.Name "set" p2) [.Name x p] [] pos2] [] pos) (qUn a5x (qV i)):=by
 refine⟨_,fun z=>hK z▸b0u (hc z) (g1 z) (m1 z) (g2 z) (m2 z) (hv z).h rfl (fun σ H Q Q' ⟨v,e,q⟩ k=>⟨v,e,k _ _ q⟩),fun C G σ H env n R Q hK hT S hp k=>?_⟩;obtain⟨x,e,r⟩:=qV_ex hp;obtain⟨v,ev,rv⟩:=S.slots i _ e;refine⟨v,ev,?_⟩;unfold a5x at r
 split at r
 · rename_i xs
   split at r
   · rename_i ys ey;obtain⟨a,vs,rfl,t,rs⟩:=rv;exact⟨a,ys,rfl,a1W ey rs▸t.sq,r.1,fun H2 s2=>k _ _ _ _ _ r.2 (S.same s2) rfl (Fr.of s2)⟩
   · exact r.elim
 · exact r.elim
end
end Pu
end
section
namespace Pu
open PySem PySem.Spec L2
noncomputable abbrev LETS:Str:=x0j "abcdefghijklmnopqrstuvwxyz"
theorem met_in (val:Nat->Key)(k:Key):∀i,(met val i).any (fun y=>decide (y=k))=true->∃j,j < i/\k=val j:=by
 intro xq
 induction xq with
 | zero =>
   intro h;simp [met] at h
 | succ i ih =>
   intro h;rw [b0P,x3J] at h;rcases h with h | h
   · obtain⟨j,hj,e⟩:=ih h;exact⟨j,by omega,e⟩
   · exact⟨i,by omega,of_decide_eq_true h⟩
theorem b0N (ys:List Str)(h:ys.Nodup):∀n,n<=ys.length->(met (a1V ys) n).length=n:=by
 intro xq
 induction xq with
 | zero =>
   intro _;exact rfl
 | succ n ih =>
   intro hn;have ih:=ih (by omega);rw [b0O,if_neg,ih];intro z;obtain⟨j,hj,e⟩:=met_in _ _ n z
   have kat:∀m,(hm:m < ys.length)->a1V ys m=x4B ys[m]:=fun m hm=>by
     unfold a1V;rw [List.getD,x0c hm];rfl
   rw [kat n (by omega),kat j (by omega)] at e;have e2:ys[n]'(by omega)=ys[j]'(by omega):=Sum.inr.inj e;exact(x1b.mp h j n (by omega) (by omega) hj) e2.symm
end Pu
end
section
namespace L2
open PySem PySem.Spec PyProof.Rows
variable {items:Array Value}
noncomputable def ItB (b:Bool)(h:Heap)(it l:Addr)(i:Nat):Prop:=match b with | true=>h.IsListIter it l i | false=>h.IsTupleIter it l i
noncomputable def SeB (b:Bool)(h:Heap)(l:Addr)(items:Array Value):Prop:=match b with | true=>h.IsList l items | false=>h.IsTuple l items
theorem ItB.at {b:Bool}{h h':Heap}{it l:Addr}{i:Nat}(x:ItB b h it l i)(e:∀o,h.get? it=some o->h'.get? it=some o):ItB b h' it l i:=by
 cases b with
 | true=>exact(show h.IsListIter it l i from x).at e
 | false=>exact(show h.IsTupleIter it l i from x).at e
theorem SeB.at {b:Bool}{h h':Heap}{l:Addr}(x:SeB b h l items)(e:∀o,h.get? l=some o->h'.get? l=some o):SeB b h' l items:=by
 cases b with
 | true=>exact(show h.IsList l items from x).at e
 | false=>exact(show h.IsTuple l items from x).at e
theorem ItB.obj {b:Bool}{h:Heap}{it l:Addr}{i:Nat}(x:ItB b h it l i):∃o,h.get? it=some o/\(o.cls=.type "list_iterator"\/o.cls=.type "tuple_iterator")/\∀v,o.data≠.cell v:=by
 cases b with
 | true=>obtain⟨o,e,c,d⟩:=(show h.IsListIter it l i from x);exact⟨o,e,.inl c,fun v z=>by rw [d] at z;cases z⟩
 | false=>obtain⟨o,e,c,d⟩:=(show h.IsTupleIter it l i from x);exact⟨o,e,.inr c,fun v z=>by rw [d] at z;cases z⟩
theorem SeB.obj {b:Bool}{h:Heap}{l:Addr}(x:SeB b h l items):∃o,h.get? l=some o/\(o.cls=.type "list"\/o.cls=.type "tuple"):=by
 cases b with
 | true=>obtain⟨o,e,c,d⟩:=(show h.IsList l items from x);exact⟨o,e,.inl c⟩
 | false=>obtain⟨o,e,c,d⟩:=(show h.IsTuple l items from x);exact⟨o,e,.inr c⟩
theorem ItB.ne {b b':Bool}{h:Heap}{it l a:Addr}{i:Nat}(x:ItB b h it l i)(y:SeB b' h a items):a≠it:=fun z=>by
 obtain⟨o,e,c,_⟩:=x.obj;obtain⟨o',e',c'⟩:=y.obj;rw [z,e] at e';cases e';rcases c with c | c <;> rcases c' with c' | c' <;> (rw [c] at c';exact absurd c' (by decide))
section
variable {prog:x0G}{w:World}{A:Around}{E:Value->Shared->Prop}{s:Shared}
variable {items:Array Value}
theorem a8Z {it t:Addr}{i:Nat}{x:Value}{Q:Value->Shared->Prop}(hit:s.heap.IsTupleIter it t i)(ht:s.heap.IsTuple t items)(hx:items[i]?=some x)
   (hQ:∀h',h'.IsTupleIter it t (i + 1)->x1Y it s.heap h'->Q x { s with heap:=h' }):wpAny (model prog w) A (x1G (.ref it)) Q E s:=by
 obtain⟨oi,hoi,hci,hdi⟩:=id hit;obtain⟨ot,hot,_,nt,hdt⟩:=ht;have ty:=hit.typeIs;unfold x1G
 refine x0a (x1p (name:=x0j "__next__") ty x2p
   (x1m x2p ty F.entry_tuple_iterator_next ?_ (F.args_tuple_iterator_next_1 _)))
 show wpAny _ _ (field (.ref it) 0>>=_) _ _ s;refine x0a (x3v hoi hdi (x:=.ref t) rfl ?_);show wpAny _ _ (if(x1l t == x2Z)=true then _ else _) _ _ s;rw [if_neg (show ¬((x1l t == x2Z)=true) from x0R)];show wpAny _ _ (field (.ref it) 1>>=_) _ _ s;refine x0a (x3v hoi hdi (x:=.int i 0) rfl ?_);show wpAny _ _ (seqItems? (.ref t)>>=_) _ _ s;refine x0a (x3s hot hdt ?_);simp only [x3W,hx];refine x0a (x2A hoi hdi (by simp) (x0h ⟨x,rfl,x0h (hQ _ ?_ (x0M ..))⟩));exact⟨_,x1Z _ hoi (Obj.isFreed_of_fields (x3M hdi _)),(Obj.cls_mapFields ..).trans hci,by rw [x3M hdi];simp [rawInt]⟩
theorem b0I {it t:Addr}{i:Nat}{Q:Value->Shared->Prop}(hh:A.handled=none)(hit:s.heap.IsTupleIter it t i)(ht:s.heap.IsTuple t items)(hx:items[i]?=none)
   (hE:∀h' e,x4Y it s.heap h'->(∃o,h'.get? e=some o/\o.cls=.type "StopIteration")->E (.ref e) { s with heap:=h' }):wpAny (model prog w) A (x1G (.ref it)) Q E s:=by
 obtain⟨oi,hoi,hci,hdi⟩:=id hit;obtain⟨ot,hot,_,nt,hdt⟩:=ht;have ty:=hit.typeIs;unfold x1G
 refine x0a (x1p (name:=x0j "__next__") ty x2p
   (x1m x2p ty F.entry_tuple_iterator_next ?_ (F.args_tuple_iterator_next_1 _)))
 show wpAny _ _ (field (.ref it) 0>>=_) _ _ s;refine x0a (x3v hoi hdi (x:=.ref t) rfl ?_);show wpAny _ _ (if(x1l t == x2Z)=true then _ else _) _ _ s;rw [if_neg (show ¬((x1l t == x2Z)=true) from x0R)];show wpAny _ _ (field (.ref it) 1>>=_) _ _ s;refine x0a (x3v hoi hdi (x:=.int i 0) rfl ?_);show wpAny _ _ (seqItems? (.ref t)>>=_) _ _ s;refine x0a (x3s hot hdt ?_);simp only [x3W,hx];refine x0a (x3U (x0a (x2A hoi hdi (by simp) ?_)));show wpAny _ _ (newExc (.type "StopIteration") []>>=_) _ _ _;refine x0a ?_;simp only [newExc,newTuple];refine x0a (x0Z ?_ (by size_fits));refine x0a (m:=firstArgMember _ _) (wpAny_of_eq (a:=x2Z) (by first | rfl | (simp only [firstArgMember];rfl)) ?_);refine x0Z ?_ (by size_fits);simp only [raiseNew];refine x0a (wpAny_handled ?_)
 first | rw [show A.in1.handled=none from hh] | rw [hh]
 refine x0a (x0h (wpAny_throw ?_));exact hE _ _ (((x0M ..).extBut.push _).push _) ⟨_,x0s _ rfl,rfl⟩
theorem a9a {b:Bool}{it t:Addr}{i:Nat}{x:Value}{Q:Value->Shared->Prop}(hit:ItB b s.heap it t i)(ht:SeB b s.heap t items)(hx:items[i]?=some x)
   (hQ:∀h',ItB b h' it t (i + 1)->x1Y it s.heap h'->Q x { s with heap:=h' }):wpAny (model prog w) A (x1G (.ref it)) Q E s:=by
 cases b with
 | true=>exact wpAny_nextOf_list_item hit ht hx hQ
 | false=>exact a8Z hit ht hx hQ
theorem a6x {b:Bool}{it t:Addr}{i:Nat}{Q:Value->Shared->Prop}(hh:A.handled=none)(hit:ItB b s.heap it t i)(ht:SeB b s.heap t items)(hx:items[i]?=none)
   (hE:∀h' e,x4Y it s.heap h'->(∃o,h'.get? e=some o/\o.cls=.type "StopIteration")->E (.ref e) { s with heap:=h' }):wpAny (model prog w) A (x1G (.ref it)) Q E s:=by
 cases b with
 | true=>exact wpAny_nextOf_list_end hh hit ht hx hE
 | false=>exact b0I hh hit ht hx hE
theorem drawsB {b:Bool}(hh:A.handled=none)(it l:Addr)(hne:l≠it)(items:Array Value):Draws prog w A it [it,l] items.size (fun i v=>items[i]?=some v) (fun i h=>ItB b h it l i/\SeB b h l items) where
 live:=fun _ _ st=>let ⟨o,ho,_⟩:=st.1.obj;⟨o,ho⟩
 frame:=fun _ _ _ st hk=>⟨st.1.at fun o e=>hk it (by simp) o e,st.2.at fun o e=>hk l (by simp) o e⟩
 item:=fun i s Q E hi st hQ=>by
   refine a9a st.1 st.2 (x:=items[i]) (by simp [hi]) fun h' hit' hs'=>?_;exact hQ _ h' s.toks (by simp [hi]) ⟨hit',st.2.at fun o e=>hs'.extBut _ o hne e⟩ hs'
 done:=fun s Q E st hE=>a6x hh st.1 st.2 (by simp) hE
theorem b3m (l:Addr)(items:Array Value)(n:Nat)(dct:Option Addr)(sl:Array (Option Value)) :
   Meets (x3c.«enumerate.__new__» ⟨[.type "enumerate",.ref l],[]⟩) (fun _ R s=>s.heap.get? l=some { cls:=.type "tuple",dict:=dct,data:=.seq items n,slots:=sl }/\
     R (.ok (.ret (.ref (s.heap.push { cls := .type "tuple_iterator", data := .fields #[.ref l, .int 0 0] }).objs.size)))
       { s with heap:=(s.heap.push { cls:=.type "tuple_iterator",data:=.fields #[.ref l,.int 0 0] }).push { cls:=.type "enumerate",data:=.fields #[.none,.bool false,.ref s.heap.objs.size,rawInt 0,.none,.none] } }):=
 .of_wp fun prog w A R s hyp=>by
   obtain⟨hp,g,d,tk,os⟩:=s;obtain⟨hl,fin⟩:=hyp;have hsub:=sub_enumerate;have hL:Heap.IsTuple (Shared.heap ⟨hp,g,d,tk,os⟩) l items:=⟨_,hl,rfl,n,rfl⟩
   wp_walk using x2G hl
   refine wpAny_stack_any fun st=>x0h ?_
   split
   · rename_i c _ _ _ _ _;cases(c == x1q "enumerate")
     · wp_walk using x2G hl,x3d hL
       exact⟨_,rfl,fin⟩
     · wp_walk using x2G hl,x3d hL
       exact⟨_,rfl,fin⟩
   · wp_walk using x2G hl,x3d hL
     exact⟨_,rfl,fin⟩
theorem enumT {l:Addr}{Q:Value->Shared->Prop}(hL:s.heap.IsTuple l items)
   (h:∀h',IsEnum h' (s.heap.objs.size + 1) s.heap.objs.size 0 .none->h'.IsTupleIter s.heap.objs.size l 0->(∀b o,s.heap.get? b=some o->h'.get? b=some o)->Q (.ref (s.heap.objs.size + 1)) { s with heap:=h' }) :
   wpAny (model prog w) A (call (.type "enumerate") [.ref l]) Q E s:=by
 obtain⟨⟨c,dct,dt,sl⟩,hl,hc,n,hd⟩:=hL
 replace hc:c=.type "tuple":=hc
 replace hd:dt=.seq items n:=hd
 subst hc hd;refine callType_new F.called_enumerate (by decide) (F.typeCall_enumerate_1 _) (F.newCall_enumerate_1 _) (fun obj=>F.args_object_init_2 obj _) F.entry_enumerate_new (b3m l items n dct sl) ⟨hl,?_⟩;have hz:(s.heap.push { cls:=.type "tuple_iterator",data:=.fields #[.ref l,.int 0 0] }).objs.size=s.heap.objs.size + 1:=x1X ..;show _/\_;rw [hz]
 have he:IsEnum ((s.heap.push { cls:=.type "tuple_iterator",data:=.fields #[.ref l,.int 0 0] }).push { cls:=.type "enumerate",data:=.fields #[.none,.bool false,.ref s.heap.objs.size,rawInt 0,.none,.none] }) (s.heap.objs.size + 1) s.heap.objs.size 0 .none:=by
   have:=x0s (s.heap.push { cls:=.type "tuple_iterator",data:=.fields #[.ref l,.int 0 0] }) (o:={ cls:=.type "enumerate",data:=.fields #[.none,.bool false,.ref s.heap.objs.size,rawInt 0,.none,.none] }) rfl;rw [hz] at this;exact this
 exact⟨⟨_,he,rfl⟩,h _ he ⟨_,x0d _ (x0s _ rfl),rfl,rfl⟩ fun b o x=>x0d _ (x0d _ x)⟩
theorem enumB {b:Bool}{l:Addr}{Q:Value->Shared->Prop}(hL:SeB b s.heap l items)
   (h:∀h',IsEnum h' (s.heap.objs.size + 1) s.heap.objs.size 0 .none->ItB b h' s.heap.objs.size l 0->(∀b o,s.heap.get? b=some o->h'.get? b=some o)->Q (.ref (s.heap.objs.size + 1)) { s with heap:=h' }) :
   wpAny (model prog w) A (call (.type "enumerate") [.ref l]) Q E s:=by
 cases b with
 | true=>exact call_enumerate_list hL fun h' a b _ c=>h h' a b c
 | false=>exact enumT hL h
theorem b3n {b:Bool}{e it l:Addr}{j:Nat}{i:Int}{old:Value}{Q:Option Value->Shared->Prop}(hh:A.handled=none)(he:IsEnum s.heap e it i old)(hit:ItB b s.heap it l j)(ht:SeB b s.heap l items)(hx:items[j]?=none)
   (hQ:∀h',x4Y it s.heap h'->Q none { s with heap:=h' }):wpAny (model prog w) A (pyNext (.ref e)) Q E s:=by
 have ty:s.TypeIs (.ref e) "enumerate":=⟨_,he,rfl⟩;unfold pyNext;refine x0a (x3N (x1p (name:=x0j "__next__") ty F.slot_enumerate_next (x1m F.slot_enumerate_next ty F.entry_enumerate_next ?_ (F.args_enumerate_next_1 _))));show wpAny _ _ (field (.ref e) 2>>=_) _ _ _;refine x0a (x3v he rfl (x:=.ref it) rfl ?_);refine x0a (a6x (A:=A.in1) hh hit ht hx fun h' x he' hx'=>?_);obtain⟨o,ho,hc⟩:=hx';exact x0a (wpAny_isInstance (T:="StopIteration") (b:=true) ⟨o,ho,hc⟩ isSubtype_stop (x0h (hQ _ he')))
end
noncomputable def SqB (b:Bool)(K:x0b)(H:Hp)(a:Addr)(xs:List V):Prop:=match b with | true=>SqL K H a xs | false=>SqT K H a xs
section
variable {X:Cx}
theorem Inv.seqB {b:Bool}{a:Addr}{xs:List V}{pins:List (Addr×Obj)}{σ:St}{H:Hp}{s:Shared}(I:Inv X pins σ H s)(h:SqB b X.K H a xs):∃its:List Value,Vals xs its/\SeB b s.heap a its.toArray/\xs.length<=x0B:=by
 cases b with
 | true=>obtain⟨its,r,p,z⟩:=I.list h;exact⟨its,r,p.isList,z⟩
 | false=>obtain⟨its,r,p,z⟩:=I.tuple h;exact⟨its,r,p,z⟩
theorem Inv.seqB_inj {b:Bool}{a:Addr}{xs ys:List V}{pins:List (Addr×Obj)}{σ:St}{H:Hp}{s:Shared}(I:Inv X pins σ H s)(h:SqB b X.K H a xs)(h':SqB b X.K H a ys):xs=ys:=by
 cases b with
 | true=>exact I.list_inj h h'
 | false=>exact I.tuple_inj h h'
noncomputable def IteB (b:Bool)(K:x0b)(a:Addr):It:=
 ⟨fun i H=>∃xs x,SqB b K H a xs/\xs[i]?=some x,fun i H x H'=>∃p v,H p=none/\x=.ref p/\H'=upd H p (.tup [.int i,v])/\∀xs,SqB b K H a xs->xs[i]?=some v,fun i H=>∃xs,SqB b K H a xs/\xs.length<=i⟩
theorem a8H {b:Bool}{P:x0G}{w:World}{K:x0b}{elts:List Expr}{x1}{pos:Pos}(a e it:Addr)(hne:e≠it) :
   Turn P w K (.Tuple elts x1 pos) (IteB b K a) [e,it] e (fun i h=>(∃old,IsEnum h e it i old)/\ItB b h it a i) where
 mem:=by simp
 obj:=fun i h st c hc=>by
   obtain⟨⟨old,he⟩,st⟩:=st;obtain⟨o,e1,_,d⟩:=st.obj;have hc':c=e\/c=it:=by simpa using hc
   rcases hc' with rfl | rfl
   · exact⟨_,he,fun v z=>by cases z⟩
   · exact⟨o,e1,d⟩
 keep:=fun i h h' st k=>by
   obtain⟨⟨old,he⟩,st⟩:=st;exact⟨⟨old,k e (by simp) _ he⟩,st.at fun o e=>k it (by simp) o e⟩
 item:=by
   intro X hP hw hK hc i pins s σ H E I hf st hg;subst hP hw hK;obtain⟨⟨old,he⟩,st⟩:=st;obtain⟨xs,x,hq,hx⟩:=hg;obtain⟨its,rv,p,hz⟩:=I.seqB hq;obtain⟨u,hu,ru⟩:=rv.get hx;have nla:a≠it:=st.ne p
   have nea:e≠a:=fun z=>by
     obtain⟨o,e1,c1⟩:=p.obj;rw [<- z,he] at e1;cases e1;rcases c1 with c1 | c1
     · exact absurd (show x1q "enumerate"=x1q "list" from c1) (by decide)
     · exact absurd (show x1q "enumerate"=x1q "tuple" from c1) (by decide)
   have hi:i < its.toArray.size:=by
     obtain⟨h1,_⟩:=x0i.mp hu
     simpa using h1
   refine wpAny_pyNext_enum_itemD (drawsB (A:=X.A.in1) (I.ok.hd hc) it a nla its.toArray) he ⟨st,p⟩ hi hne (by simp [hne,nea]) fun y h' tk hy he' st' ht hz' k=>?_
   have ey:y=u:=by
     have:its[i]?=some y:=by simpa using hy
     rw [hu] at this;exact(x0H this).symm
   subst ey;refine⟨_,rfl,wpAny_letOwnedTupleGo_enum (s:={ s with heap:=h',toks:=tk + 1 }) he' fun h'' he'' sb=>?_⟩;have hpe:s.heap.objs.size≠e:=x3x (x0o he);have ht'':h''.get? s.heap.objs.size=some { cls:=.type "tuple",data:=.seq #[.int i tk,y] }:=(sb.2 _ hpe).trans ht
   have k':∀c o,c∉[e,it]->s.heap.get? c=some o->h''.get? c=some o:=fun c o hb q=>by
     have hb1:c≠e:=fun z=>hb (by simp [z]);have hb2:c≠it:=fun z=>hb (by simp [z]);exact(sb.2 c hb1).trans (k c o hb1 hb2 q)
   have I1:Inv X pins σ (upd H s.heap.objs.size (.tup [.int i,x])) { s with heap:=h'',toks:=tk + 1 }:=
     I.turnedNew k' hf ⟨by show 2<=x0B;decide,[.int i tk,y],.cons ⟨_,rfl⟩ (.cons ru .nil),⟨_,ht'',rfl,_,rfl⟩⟩
   refine⟨.ref s.heap.objs.size,_,I1,rfl,⟨_,x,I.fresh,rfl,rfl,fun ys hy=>by rw [I.seqB_inj hy hq];exact hx⟩,⟨⟨y,he''⟩,st'.1.at fun o q=>(sb.2 it (Ne.symm hne)).trans q⟩,fun c hb=>?_⟩;have hb':c=e\/c=it:=by simpa using hb
   have hbs:c≠s.heap.objs.size:=by
     rcases hb' with rfl | rfl
     · exact Ne.symm hpe
     · obtain⟨o,e1,_⟩:=st.obj;exact x0r (x0o e1)
   rw [a0j hbs];exact(hf c hb).1
 done:=by
   intro X hP hw hK hc i pins s σ H E I hf st hg;subst hP hw hK;obtain⟨⟨old,he⟩,st⟩:=st;obtain⟨xs,hq,hx⟩:=hg;obtain⟨its,rv,p,hz⟩:=I.seqB hq;obtain⟨f0,f1,f2,f3,f4,f5⟩:=hf it (by simp);have hl:=rv.length;refine b3n (I.ok.hd hc) he st p (x3S (by rw [x0q];omega)) fun h' eb=>⟨rfl,I.turned (t':=s.toks) (fun c o hb e=>eb c o hb e) f0 f1 f3 f4 f5⟩
 self:=fun _ _ _ _ _ st h=>by
   obtain⟨⟨old,he⟩,_⟩:=st;exact wpAny_pyIter_enum he h
noncomputable def iEnumB (b:Bool)(K:x0b)(ta:TA):TI:=fun σ H R=>ta σ H fun vs H1=>∃a,vs=[.ref a]/\(∃xs,SqB b K H1 a xs)/\R (IteB b K a) H1
theorem b2G (b:Bool){l:Expr}{ta:TA}{p pos:Pos}{elts:List Expr}{x1}{tpos:Pos}(hg:Gl X "enumerate")(hm:X.mg "enumerate"=none)(ha:PA X [l] ta)(hs:x1h [l] X.env=[(false,eval l X.env)]:=by rfl) :
   PI X (.Tuple elts x1 tpos) (.Call (.Name "enumerate" p) [l] [] pos) (iEnumB b X.K ta):=by
 intro pins s σ H R I h;refine Call_ (a5q I hg hm boot_enumerate (x3e (thn (ha pos pins s σ H _ I h) fun us s1 ⟨vs,H1,I1,r1,q1⟩=>?_) hs rfl));obtain⟨a,e,⟨xs,hq⟩,q⟩:=q1;subst e;obtain⟨u,rfl,ru⟩:=r1.one;obtain rfl:u=x1l a:=ru;obtain⟨its,rv,pl,hz⟩:=I1.seqB hq;refine enumB pl fun h' hE hI hk=>?_;refine wpAny_pyIter_enum hE ?_;have I2:Inv X pins σ H1 { s1 with heap:=h' }:=I1.kept (t':=s1.toks) hk;refine⟨s1.heap.objs.size + 1,[s1.heap.objs.size + 1,s1.heap.objs.size],_,_,H1,rfl,I2,a8H a _ _ (Nat.succ_ne_self _),⟨⟨_,hE⟩,hI⟩,fun c hb=>?_,q⟩;have hb':c=s1.heap.objs.size + 1\/c=s1.heap.objs.size:=by simpa using hb
 rcases hb' with rfl | rfl
 · exact I1.fpOk (x2P _) (I1.hok.fresh (x2P _))
 · exact I1.fpOk (x0m _) (I1.hok.fresh (x0m _))
end
end L2
end
section
namespace Pu
open PySem PySem.Spec L2
section
variable {T:PotK}{ι:Type}{K:x0b}{F:ι->Cx}{e a b tg:Expr}{pe pa pb:pE}{pos:Pos}
noncomputable def a8h (pe:pE):pA:=fun env n R=>pe env n fun x env1 n1=>match x with | .tup xs=>R (a6M xs) env1 n1 | _=>False
theorem a8d {p:Pos}{elts:List Expr}{x1:Nat}{tpos:Pos}(hg:∀z,Gl (F z) "enumerate")(hm:∀z,(F z).mg "enumerate"=none)(h:QE T K F e pe)(hs:a0v e=true:=by rfl)(hK:∀z,(F z).K=K:=by intro _;rfl):QI T K F (.Tuple elts x1 tpos) (.Call (.Name "enumerate" p) [e] [] pos) (a8h pe):=by
 obtain⟨t,h1,h2⟩:=h;refine⟨_,fun z=>hK z▸b2G false (hg z) (hm z) (a0o (h1 z) a0E (a0e hs)) (by rw [a0e hs];rfl),fun C G σ H env n R Q hK hT S hp k=>?_⟩;refine h2 C G σ H env n _ _ hK hT S hp fun x env1 n1 v H1 p1 S1 r1 f1=>?_;cases x with
 | tup xs =>
   obtain⟨a,vs,rfl,t,r⟩:=r1;refine⟨a,rfl,⟨vs,t.sq⟩,k _ _ _ _ _ p1 S1 f1 ?_⟩;intro G2 H2 hk hM hp hf;have hq:SqB false K H2 a vs:=SqT.of (hk a _ t.1 t.2);have r2:Reps K G2 H2 xs vs:=Reps.mono hk hM hp _ _ r;refine⟨fun i x e=>?_,fun i hi=>⟨vs,hq,by rw [<- r.length,<- a4T];exact hi⟩⟩;obtain⟨y,ey,rfl⟩:=a6L e;obtain⟨v,ev,rv⟩:=r2.get' ey;refine⟨⟨vs,v,hq,ev⟩,fun v' H3 y=>?_⟩;obtain⟨p,w,hn,rfl,rfl,y⟩:=y;have:=y vs hq;rw [ev] at this;cases this;exact⟨Same.lay1 hn,a4o (hf p hn) hn (.cons rfl (.one rv))⟩
 | _=>exact p1.elim
end
end Pu
end
section
namespace Pu
open PySem PySem.Spec L2
theorem a2H {te:pE}{rest:Env}{α:Type}(f:α->PV)(g:α->PV):∀(xs:List α) (s0:Option Slot) (n:Nat) (R:List PV->Nat->Prop),(∀x∈xs,∀m Q,Q (g x) (some (.v (f x))::rest) m->te (some (.v (f x))::rest) m Q)->R (xs.map g) n->a2Z (gN 0) qTru te (xs.map f) (s0::rest) n R:=by
 intro xq
 induction xq with
 | nil =>
   intro _ _ _ _ h;exact h
 | cons x xs ih =>
   intro s0 n R ht h;show te (some (.v (f x))::rest) n _;refine ht x x0g n _ ?_;exact ih _ n _ (fun y hy=>ht y (x0f _ hy)) h
theorem a9x {te:pE}{rest:Env}{α:Type}(u v g:α->PV):∀(xs:List α) (s0 s1:Option Slot) (n:Nat) (R:List PV->Nat->Prop),(∀x∈xs,∀m Q,Q (g x) (some (.v (u x))::some (.v (v x))::rest) m->te (some (.v (u x))::some (.v (v x))::rest) m Q)->R (xs.map g) n->a2Z (gTp 2 (gCn (gN 0) (gCn (gN 1) gNl))) qTru te (xs.map fun x=>.tup [u x,v x]) (s0::s1::rest) n R:=by
 intro xq
 induction xq with
 | nil =>
   intro _ _ _ _ _ h;exact h
 | cons x xs ih =>
   intro s0 s1 n R ht h;refine⟨rfl,?_⟩;show te (some (.v (u x))::some (.v (v x))::rest) n _;refine ht x x0g n _ ?_;exact ih _ _ n _ (fun y hy=>ht y (x0f _ hy)) h
end Pu
end
section
namespace L2
open PySem PySem.W PyProof.Rows
namespace Kr
noncomputable def run {α:Type}(lt:Nat->Nat->Bool):KasT α->α
 | .ret a=>a
 | .ask i j k=>run lt (k (lt i j))
theorem a2F {α β:Type}(lt:Nat->Nat->Bool)(f:α->KasT β):∀t:KasT α,run lt (t.bind f)=run lt (f (run lt t))
 | .ret a=>rfl
 | .ask i j k=>a2F lt f (k (lt i j))
structure Ord (lt:Nat->Nat->Bool):Prop where
 ir:∀a,lt a a=false
 tr:∀a b c,lt a b=true->lt b c=true->lt a c=true
 nt:∀a b c,lt a c=true->lt a b=true\/lt b c=true
variable {lt:Nat->Nat->Bool}(O:Ord lt)
include O
theorem Ord.as {a b:Nat}(h:lt a b=true):lt b a=false:=by
 cases e:lt b a with
 | false=>rfl
 | true=>have:=O.tr _ _ _ h e;rw [O.ir] at this;cases this
theorem Ord.le {a b c:Nat}(h1:lt b a=false)(h2:lt c b=false):lt c a=false:=by
 cases e:lt c a with
 | false=>rfl
 | true=>rcases O.nt c b a e with h | h <;> simp_all
theorem Ord.l1 {a b c:Nat}(h1:lt a b=true)(h2:lt c b=false):lt a c=true:=by
 rcases O.nt a c b h1 with h | h
 · exact h
 · rw [h2] at h;cases h
theorem Ord.l2 {a b c:Nat}(h1:lt b a=false)(h2:lt b c=true):lt a c=true:=by
 rcases O.nt b a c h2 with h | h
 · rw [h1] at h;cases h
 · exact h
omit O
noncomputable def g (p:Array Nat)(i:Nat):Nat:=p.getD i 0
theorem g_eq (p:Array Nat)(i:Nat):g p i=(p[i]?).getD 0:=by unfold g;rw [x1u]
theorem a5f {p:Array Nat}{i j:Nat}(h:j<=p.size)(k:Nat):g (x3f p i j) k=if i<=k/\k < j then g p (i + j - 1 - k) else g p k:=by
 unfold x3f;rw [g_eq,getElem?_mirror_all h]
 split <;> rw [g_eq]
theorem g_bub {p:Array Nat}{k l:Nat}(h:k < p.size)(hl:l<=k)(i:Nat):g (bubble p k (k - l)) i=if i=l then g p k else if l < i/\i<=k then g p (i - 1) else g p i:=by
 rw [g_eq,getElem?_bubble h (k - l) (by omega),show k - (k - l)=l by omega]
 split
 · rw [g_eq]
 · split <;> rw [g_eq]
theorem a2f (p:Array Nat)(i j:Nat):(x3f p i j).size=p.size:=mirror_size _ _ _ _
theorem a3g (p:Array Nat)(i j:Nat):(x3f p i j).Perm p:=mirror_perm _ _ _ _
noncomputable def S (lt:Nat->Nat->Bool)(p:Array Nat)(k:Nat):Prop:=∀i j,i<=j->j < k->lt (g p j) (g p i)=false
noncomputable def D (lt:Nat->Nat->Bool)(p:Array Nat)(k:Nat):Prop:=∀i j,i<=j->j < k->lt (g p i) (g p j)=false
noncomputable def B (lt:Nat->Nat->Bool)(p:Array Nat)(a k:Nat):Prop:=∀i j,a<=i->i < k->a<=j->j < k->lt (g p i) (g p j)=false
include O
theorem S_succ {p:Array Nat}{n:Nat}(h:S lt p n)(hn:1<=n)(hl:lt (g p n) (g p (n - 1))=false):S lt p (n + 1):=by
 intro i j hij hj;rcases Nat.lt_succ_iff_lt_or_eq.mp hj with h1 | h1
 · exact h i j hij h1
 · subst h1;rcases Nat.lt_or_eq_of_le hij with h2 | h2
   · exact O.le (h i (j - 1) (by omega) (by omega)) hl
   · rw [h2];exact O.ir _
theorem b4l (p:Array Nat):∀(f n:Nat),1<=n->S lt p n->n<=run lt (x4a p f n)/\run lt (x4a p f n)<=n + f/\S lt p (run lt (x4a p f n))/\(run lt (x4a p f n)=n + f\/lt (g p (run lt (x4a p f n))) (g p (run lt (x4a p f n) - 1))=true):=by
 intro xq
 induction xq with
 | zero =>
   intro n hn h;exact⟨x0m _,x0m _,h,.inl rfl⟩
 | succ f ih =>
   intro n hn h;show n<=run lt (if lt (g p n) (g p (n - 1))=true then .ret n else x4a p f (n + 1))/\run lt (if lt (g p n) (g p (n - 1))=true then .ret n else x4a p f (n + 1))<=n + (f + 1)/\S lt p (run lt (if lt (g p n) (g p (n - 1))=true then .ret n else x4a p f (n + 1)))/\(run lt (if lt (g p n) (g p (n - 1))=true then .ret n else x4a p f (n + 1))=n + (f + 1)\/lt (g p (run lt (if lt (g p n) (g p (n - 1))=true then .ret n else x4a p f (n + 1)))) (g p (run lt (if lt (g p n) (g p (n - 1))=true then .ret n else x4a p f (n + 1)) - 1))=true);cases e:lt (g p n) (g p (n - 1)) with
   | true =>
     rw [if_pos rfl];exact⟨x0m _,by show n<=_;omega,h,.inr e⟩
   | false =>
     rw [if_neg (by simp)];obtain⟨h1,h2,h3,h4⟩:=ih (n + 1) (by omega) (S_succ O h hn e);exact⟨by omega,by omega,h3,h4.imp (fun x=>by omega) id⟩
theorem D_rev {p:Array Nat}{a n:Nat}(hn:n<=p.size)(h:D lt p n)(hb:B lt p a n):D lt (x3f p a n) n:=by
 intro i j hij hj;rw [a5f hn,a5f hn]
 by_cases c1:a<=i
 · rw [if_pos ⟨c1,by omega⟩,if_pos ⟨by omega,hj⟩];exact hb _ _ (by omega) (by omega) (by omega) (by omega)
 · rw [if_neg (by omega)]
   by_cases c2:a<=j
   · rw [if_pos ⟨c2,hj⟩];exact h _ _ (by omega) (by omega)
   · rw [if_neg (by omega)];exact h _ _ hij hj
theorem a7b {p:Array Nat}{n:Nat}(h:D lt p n)(hn:1<=n)(hl:lt (g p (n - 1)) (g p n)=false):D lt p (n + 1):=by
 intro i j hij hj;rcases Nat.lt_succ_iff_lt_or_eq.mp hj with h1 | h1
 · exact h i j hij h1
 · subst h1;rcases Nat.lt_or_eq_of_le hij with h2 | h2
   · exact O.le hl (h i (j - 1) (by omega) (by omega))
   · rw [h2];exact O.ir _
theorem b5Q:∀(f:Nat) (p:Array Nat) (n q:Nat),q + 1<=n->n + f<=p.size->D lt p n->B lt p (n - (q + 1)) n->
   ∃p' n' q',run lt (x4z f p n q)=(p',n',q')/\p'.Perm p/\p'.size=p.size/\n<=n'/\n'<=n + f/\q' + 1<=n'/\D lt p' n'/\B lt p' (n' - (q' + 1)) n':=by
 intro xq
 induction xq with
 | zero =>
   intro p n q hq hs h hb;exact⟨p,n,q,rfl,x2H _,rfl,x0m _,x0m _,hq,h,hb⟩
 | succ f ih =>
   intro p n q hq hs h hb
   have one:∀p n,B lt p (n + 1 - (0 + 1)) (n + 1):=fun p n i j h1 h2 h3 h4=>by
     have:i=j:=by omega
     rw [this];exact O.ir _
   cases e:lt (g p n) (g p (n - 1)) with
   | true =>
     by_cases c:q > 0
     · have hd:=D_rev O (by omega:n<=p.size) h hb;have e1:g (x3f p (n - (q + 1)) n) n=g p n:=by rw [a5f (by omega),if_neg (by omega)]
       have e2:g (x3f p (n - (q + 1)) n) (n - 1)=g p (n - (q + 1)):=by rw [a5f (by omega),if_pos (by omega)];congr 1;omega
       have e3:lt (g p (n - (q + 1))) (g p n)=false:=O.as (O.l1 e (hb _ _ (by omega) (by omega) (by omega) (by omega)));obtain⟨p',n',q',a1,a2,a3,a4,a5,a6,a7,a8⟩:=ih (x3f p (n - (q + 1)) n) (n + 1) 0 (by omega) (by rw [a2f];omega) (a7b O hd (by omega) (by rw [e1,e2];exact e3)) (one _ _);refine⟨p',n',q',?_,a2.trans (a3g _ _ _),by rw [a3,a2f],by omega,by omega,a6,a7,a8⟩;show run lt (if lt (g p n) (g p (n - 1))=true then(if q > 0 then x4z f (x3f p (n - (q + 1)) n) (n + 1) 0 else x4z f p (n + 1) 0) else _)=_;rw [if_pos e,if_pos c];exact a1
     · obtain⟨p',n',q',a1,a2,a3,a4,a5,a6,a7,a8⟩:=ih p (n + 1) 0 (by omega) (by omega) (a7b O h (by omega) (O.as e)) (one _ _);refine⟨p',n',q',?_,a2,a3,by omega,by omega,a6,a7,a8⟩;show run lt (if lt (g p n) (g p (n - 1))=true then(if q > 0 then x4z f (x3f p (n - (q + 1)) n) (n + 1) 0 else x4z f p (n + 1) 0) else _)=_;rw [if_pos e,if_neg c];exact a1
   | false =>
     cases e':lt (g p (n - 1)) (g p n) with
     | true =>
       refine⟨p,n,q,?_,x2H _,rfl,x0m _,by omega,hq,h,hb⟩;show run lt (if lt (g p n) (g p (n - 1))=true then _ else KasT.ask (g p (n - 1)) (g p n) fun d=>if d=true then .ret (p,n,q) else x4z f p (n + 1) (q + 1))=_;rw [if_neg (by rw [e];simp)];show run lt (if lt (g p (n - 1)) (g p n)=true then .ret (p,n,q) else x4z f p (n + 1) (q + 1))=_;rw [if_pos e'];rfl
     | false =>
       have hb':B lt p (n + 1 - (q + 1 + 1)) (n + 1):=by
         have up:∀i,n - (q + 1)<=i->i < n->lt (g p i) (g p n)=false/\lt (g p n) (g p i)=false:=fun i h1 h2=>
           ⟨O.le e' (hb i (n - 1) h1 h2 (by omega) (by omega)),O.le (hb (n - 1) i (by omega) (by omega) h1 h2) e⟩
         intro i j h1 h2 h3 h4
         by_cases ci:i < n
         · by_cases cj:j < n
           · exact hb i j (by omega) ci (by omega) cj
           · rw [show j=n by omega];exact(up i (by omega) ci).1
         · rw [show i=n by omega]
           by_cases cj:j < n
           · exact(up j (by omega) cj).2
           · rw [show j=n by omega];exact O.ir _
       obtain⟨p',n',q',a1,a2,a3,a4,a5,a6,a7,a8⟩:=ih p (n + 1) (q + 1) (by omega) (by omega) (a7b O h (by omega) e') hb';refine⟨p',n',q',?_,a2,a3,by omega,by omega,a6,a7,a8⟩;show run lt (if lt (g p n) (g p (n - 1))=true then _ else KasT.ask (g p (n - 1)) (g p n) fun d=>if d=true then .ret (p,n,q) else x4z f p (n + 1) (q + 1))=_;rw [if_neg (by rw [e];simp)];show run lt (if lt (g p (n - 1)) (g p n)=true then .ret (p,n,q) else x4z f p (n + 1) (q + 1))=_;rw [if_neg (by rw [e'];simp)];exact a1
theorem S_of_D {p:Array Nat}{n:Nat}(hn:n<=p.size)(h:D lt p n):S lt (x3f p 0 n) n:=by
 intro i j hij hj;rw [a5f hn,a5f hn,if_pos ⟨by omega,hj⟩,if_pos ⟨by omega,by omega⟩];exact h _ _ (by omega) (by omega)
theorem a7S {p:Array Nat}{n nrem:Nat}(h1:1<=n)(hn:n<=nrem)(hs:nrem<=p.size)(h:D lt p n) :
   ∃m p',run lt (kas_tail3 n nrem p)=(m,p')/\p'.Perm p/\p'.size=p.size/\1<=m/\m<=nrem/\S lt p' m:=by
 obtain⟨a1,a2,a3,_⟩:=b4l O (x3f p 0 n) (nrem - n) n h1 (S_of_D O (by omega) h);refine⟨_,x3f p 0 n,?_,a3g _ _ _,a2f _ _ _,?_,?_,a3⟩
 · unfold kas_tail3;rw [a2F];rfl
 · omega
 · omega
theorem a4U {p:Array Nat}{n nrem:Nat}(h1:1<=n)(hn:n + 1<=nrem)(hs:nrem<=p.size)(h:D lt p (n + 1)) :
   ∃m p',run lt (kas_descPart n nrem p)=(m,p')/\p'.Perm p/\p'.size=p.size/\1<=m/\m<=nrem/\S lt p' m:=by
 obtain⟨p',n',q',a1,a2,a3,a4,a5,a6,a7,a8⟩:=b5Q O (nrem - (n + 1)) p (n + 1) 0 (by omega) (by omega) h (fun i j h1 h2 h3 h4=>by
   have:i=j:=by omega
   rw [this];exact O.ir _)
 unfold kas_descPart;rw [a2F,a1];dsimp only
 by_cases c:q' > 0
 · rw [if_pos c];obtain⟨m,p2,b1,b2,b3,b4,b5,b6⟩:=a7S O (p:=x3f p' (n' - (q' + 1)) n') (n:=n') (nrem:=nrem) (by omega) (by omega) (by rw [a2f];omega) (D_rev O (by omega) a7 a8);exact⟨m,p2,b1,(b2.trans (a3g _ _ _)).trans a2,by rw [b3,a2f,a3],b4,b5,b6⟩
 · rw [if_neg c];obtain⟨m,p2,b1,b2,b3,b4,b5,b6⟩:=a7S O (p:=p') (n:=n') (nrem:=nrem) (by omega) (by omega) (by omega) a7;exact⟨m,p2,b1,b2.trans a2,by rw [b3,a3],b4,b5,b6⟩
theorem b3p {p:Array Nat}{n:Nat}(h1:1<=n)(hs:p.size=n):∃m p',run lt (kas_count n p)=(m,p')/\p'.Perm p/\p'.size=p.size/\1<=m/\m<=n/\S lt p' m:=by
 have s1:S lt p 1:=fun i j h2 h3=>by
   have:i=j:=by omega
   rw [this];exact O.ir _
 obtain⟨a1,a2,a3,a4⟩:=b4l O p (n - 1) 1 (x0m _) s1;unfold kas_count;rw [a2F];generalize run lt (x4a p (n - 1) 1)=k at a1 a2 a3 a4 ⊢
 by_cases c:k=n
 · rw [if_pos (by rw [c];exact beq_self_eq_true n)];exact⟨k,p,rfl,x2H _,rfl,a1,by omega,a3⟩
 · rw [if_neg (by simpa using c)];have a5:lt (g p k) (g p (k - 1))=true:=a4.resolve_left (by omega)
   by_cases c1:k > 1
   · rw [if_pos c1];show ∃m p',run lt (if lt (g p 0) (g p (k - 1))=true then .ret (k,p) else kas_descPart k n (x3f p 0 k))=(m,p')/\_;cases e:lt (g p 0) (g p (k - 1)) with
     | true=>rw [if_pos rfl];exact⟨k,p,rfl,x2H _,rfl,a1,by omega,a3⟩
     | false =>
       rw [if_neg (by simp)]
       have al:∀i j,i < k->j < k->lt (g p i) (g p j)=false:=fun i j hi hj=>by
         have x1:=a3 j (k - 1) (by omega) (by omega);have x2:=a3 0 i (by omega) hi;exact O.le (O.le x1 e) x2
       have hd:D lt (x3f p 0 k) (k + 1):=by
         refine a7b O (fun i j hij hj=>?_) a1 ?_
         · rw [a5f (by omega),a5f (by omega),if_pos ⟨by omega,by omega⟩,if_pos ⟨by omega,hj⟩];exact al _ _ (by omega) (by omega)
         · rw [a5f (by omega),a5f (by omega),if_pos ⟨by omega,by omega⟩,if_neg (by omega)];exact O.as (O.l1 a5 (al _ _ (by omega) (by omega)))
       obtain⟨m,p2,b1,b2,b3,b4,b5,b6⟩:=a4U O (p:=x3f p 0 k) (n:=k) (nrem:=n) a1 (by omega) (by rw [a2f];omega) hd;exact⟨m,p2,b1,b2.trans (a3g _ _ _),by rw [b3,a2f],b4,b5,b6⟩
   · rw [if_neg c1];have hk:k=1:=by omega
     subst hk
     exact a4U O (x0m _) (by omega) (by omega) (a7b O (fun i j h2 h3=>by
       have:i=j:=by omega
       rw [this];exact O.ir _) (x0m _) (O.as a5))
theorem b2D {p:Array Nat}{k:Nat}(h:S lt p k):∀(f l r:Nat),l<=r->r<=k->r - l<=f->(∀i,i < l->lt (g p k) (g p i)=false)->(∀i,r<=i->i < k->lt (g p k) (g p i)=true)->
   run lt (x2X p k f l r)<=k/\(∀i,i < run lt (x2X p k f l r)->lt (g p k) (g p i)=false)/\(∀i,run lt (x2X p k f l r)<=i->i < k->lt (g p k) (g p i)=true):=by
 intro xq
 induction xq with
 | zero =>
   intro l r h1 h2 h3 h4 h5;have:l=r:=by omega
   subst this;exact⟨h2,h4,h5⟩
 | succ f ih =>
   intro l r h1 h2 h3 h4 h5
   by_cases c:l>=r
   · have:l=r:=by omega
     subst this;unfold x2X;rw [if_pos c];exact⟨h2,h4,h5⟩
   · have e:run lt (x2X p k (f + 1) l r)=run lt (if lt (g p k) (g p ((l + r) / 2))=true then x2X p k f l ((l + r) / 2) else x2X p k f ((l + r) / 2 + 1) r):=by
       conv=>lhs;unfold x2X
       rw [if_neg c];rfl
     rw [e];cases e2:lt (g p k) (g p ((l + r) / 2)) with
     | true =>
       rw [if_pos rfl];exact ih l ((l + r) / 2) (by omega) (by omega) (by omega) h4 fun i i1 i2=>O.l1 e2 (h _ _ i1 i2)
     | false =>
       rw [if_neg (by simp)];exact ih ((l + r) / 2 + 1) r (by omega) h2 (by omega) (fun i i1=>O.le (h i ((l + r) / 2) (by omega) (by omega)) e2) h5
theorem bin_ok:∀(f:Nat) (p:Array Nat) (k:Nat),k + f<=p.size->S lt p k->(run lt (kas_bin f p k)).Perm p/\(run lt (kas_bin f p k)).size=p.size/\S lt (run lt (kas_bin f p k)) (k + f):=by
 intro xq
 induction xq with
 | zero =>
   intro p k _ h;exact⟨x2H _,rfl,h⟩
 | succ f ih =>
   intro p k hs h;obtain⟨a1,a2,a3⟩:=b2D O h k 0 k (by omega) (x0m _) (by omega) (fun i z=>by omega) (fun i z z2=>by omega)
   have e:run lt (kas_bin (f + 1) p k)=run lt (kas_bin f (bubble p k (k - run lt (x2X p k k 0 k))) (k + 1)):=by
     show run lt ((x2X p k k 0 k).bind fun l=>kas_bin f (bubble p k (k - l)) (k + 1))=_;rw [a2F]
   rw [e];generalize run lt (x2X p k k 0 k)=l at a1 a2 a3 ⊢
   have hS:S lt (bubble p k (k - l)) (k + 1):=by
     intro i j hij hj;rw [g_bub (by omega) a1,g_bub (by omega) a1]
     by_cases ci:i=l
     · rw [if_pos ci]
       by_cases cj:j=l
       · rw [if_pos cj];exact O.ir _
       · rw [if_neg cj,if_pos ⟨by omega,by omega⟩];exact O.as (a3 _ (by omega) (by omega))
     · rw [if_neg ci]
       by_cases cj:j=l
       · rw [if_pos cj,if_neg (by omega)];exact a2 _ (by omega)
       · rw [if_neg cj]
         by_cases c2:l < j
         · rw [if_pos ⟨c2,by omega⟩]
           by_cases c3:l < i
           · rw [if_pos ⟨c3,by omega⟩];exact h _ _ (by omega) (by omega)
           · rw [if_neg (by omega)];exact h _ _ (by omega) (by omega)
         · rw [if_neg (by omega),if_neg (by omega)];exact h _ _ hij (by omega)
   obtain⟨b1,b2,b3⟩:=ih (bubble p k (k - l)) (k + 1) (by rw [bubble_size];omega) hS;exact⟨b1.trans (bubble_perm _ _ _),by rw [b2,bubble_size],by rw [show k + (f + 1)=k + 1 + f by omega];exact b3⟩
theorem sort_ok {n:Nat}(h1:1<=n):(run lt (x3u n)).Perm (List.toArray (x0L n))/\(run lt (x3u n)).size=n/\S lt (run lt (x3u n)) n:=by
 have hz:(List.toArray (x0L n)).size=n:=by simp
 obtain⟨m,p,a1,a2,a3,a4,a5,a6⟩:=b3p O (p:=List.toArray (x0L n)) h1 hz;unfold x3u;rw [a2F,a1];dsimp only
 by_cases c:m < n
 · rw [if_pos c,Nat.max_eq_left a4];obtain⟨b1,b2,b3⟩:=bin_ok O (n - m) p m (by omega) a6;rw [show m + (n - m)=n by omega] at b3;exact⟨b1.trans a2,by rw [b2,a3,hz],b3⟩
 · rw [if_neg c];have:m=n:=by omega
   subst this;exact⟨a2,by rw [<- hz,<- a3];rfl,a6⟩
omit O
noncomputable def InQ {α:Type}(n:Nat)(Q:α->Prop):KasT α->Prop
 | .ret a=>Q a
 | .ask i j k=>i < n/\j < n/\∀b,InQ n Q (k b)
theorem a2J {α β:Type}{n:Nat}{Q:α->Prop}{R:β->Prop}{f:α->KasT β}(hf:∀a,Q a->InQ n R (f a)):∀t:KasT α,InQ n Q t->InQ n R (t.bind f)
 | .ret a,h=>hf a h
 | .ask _ _ k,h=>⟨h.1,h.2.1,fun b=>a2J hf (k b) (h.2.2 b)⟩
noncomputable def En (n:Nat)(p:Array Nat):Prop:=0 < n/\∀x∈p,x < n
theorem En.g {n:Nat}{p:Array Nat}(h:En n p)(i:Nat):p.getD i 0 < n:=by
 by_cases c:i < p.size
 · rw [show p.getD i 0=p[i] by simp [Array.getD,c]];exact h.2 _ (Array.getElem_mem c)
 · rw [show p.getD i 0=0 by simp [Array.getD,c]];exact h.1
theorem En.perm {n:Nat}{p q:Array Nat}(h:En n p)(hp:q.Perm p):En n q:=⟨h.1,fun x hx=>h.2 x (hp.mem_iff.mp hx)⟩
theorem En.rev {n:Nat}{p:Array Nat}(h:En n p)(i j:Nat):En n (x3f p i j):=h.perm (a3g _ _ _)
theorem b4m {n:Nat}{p:Array Nat}(h:En n p):∀f m,InQ n (fun _=>True) (x4a p f m):=by
 intro xq
 induction xq with
 | zero =>
   intro _;exact trivial
 | succ f ih =>
   intro m
   exact⟨h.g _,h.g _,fun b=>by
   cases b with
   | true=>exact trivial
   | false=>exact ih (m + 1)⟩
theorem b5R {n:Nat}:∀f p m q,En n p->InQ n (fun r=>En n r.1) (x4z f p m q):=by
 intro xq
 induction xq with
 | zero =>
   intro _ _ _ h;exact h
 | succ f ih =>
   intro p m q h
   exact⟨h.g _,h.g _,fun b=>by
   cases b with
   | true =>
     show InQ n _ (if q > 0 then _ else _)
     by_cases c:q > 0
     · rw [if_pos c];exact ih _ _ _ (h.rev _ _)
     · rw [if_neg c];exact ih _ _ _ h
   | false =>
     refine⟨h.g _,h.g _,fun d=>?_⟩;cases d with
     | true=>exact h
     | false=>exact ih _ _ _ h⟩
theorem a7T {n m k:Nat}{p:Array Nat}(h:En n p):InQ n (fun r=>En n r.2) (kas_tail3 m k p):=by
 unfold kas_tail3;refine a2J (Q:=fun _=>True) (fun a _=>?_) _ (b4m (h.rev _ _) _ _);exact(h.rev _ _:En n _)
theorem a4V {n m k:Nat}{p:Array Nat}(h:En n p):InQ n (fun r=>En n r.2) (kas_descPart m k p):=a2J (fun r hr=>by
   by_cases c:r.2.2 > 0
   · rw [if_pos c];exact a7T (hr.rev _ _)
   · rw [if_neg c];exact a7T hr) _ (b5R _ _ _ _ h)
theorem b3q {n k:Nat}{p:Array Nat}(h:En n p):InQ n (fun r=>En n r.2) (kas_count k p):=a2J (fun m _=>by
   by_cases c:(m == k)=true
   · rw [if_pos c];exact h
   · rw [if_neg c]
     by_cases c1:m > 1
     · rw [if_pos c1];refine⟨h.g _,h.g _,fun b=>?_⟩;cases b with
       | true=>exact h
       | false=>exact a4V (h.rev _ _)
     · rw [if_neg c1];exact a4V h) _ (b4m h _ _)
theorem b2E {n k:Nat}{p:Array Nat}(h:En n p):∀f l r,InQ n (fun _=>True) (x2X p k f l r):=by
 intro xq
 induction xq with
 | zero =>
   intro _ _;exact trivial
 | succ f ih =>
   intro l r;unfold x2X
   by_cases c:l>=r
   · rw [if_pos c];exact trivial
   · rw [if_neg c];refine⟨h.g _,h.g _,fun b=>?_⟩;cases b with
     | true=>exact ih _ _
     | false=>exact ih _ _
theorem bin_in {n:Nat}:∀f p k,En n p->InQ n (fun _=>True) (kas_bin f p k):=by
 intro xq
 induction xq with
 | zero =>
   intro _ _ _;exact trivial
 | succ f ih =>
   intro p k h;exact a2J (fun l _=>ih _ _ (h.perm (bubble_perm _ _ _))) _ (b2E h k 0 k)
theorem sort_in {n:Nat}(h1:1<=n):InQ n (fun _=>True) (x3u n):=a2J (fun r hr=>by
   by_cases c:r.1 < n
   · rw [if_pos c];exact bin_in _ _ _ hr
   · rw [if_neg c];exact trivial) _ (b3q ⟨h1,fun x hx=>by simpa using hx⟩)
theorem wp_run {α:Type}{lt:Nat->Nat->Bool}{n:Nat}{P:α->Prop}{ask:Nat->Nat->(Bool->Shared->Prop)->Shared->Prop}{Q:α->Shared->Prop}{s:Shared}(h:∀i j C,i < n->j < n->C (lt i j) s->ask i j C s):∀t:KasT α,InQ n P t->Q (run lt t) s->t.kasWp ask Q s
 | .ret a,_,q=>q
 | .ask i j k,hi,q=>h i j _ hi.1 hi.2.1 (wp_run h (k (lt i j)) (hi.2.2 _) q)
theorem out_ok {α:Type}(lt:α->α->Bool)(O:(∀a,lt a a=false)/\(∀a b c,lt a b=true->lt b c=true->lt a c=true)/\(∀a b c,lt a c=true->lt a b=true\/lt b c=true))(d:α)(xs:List α)(h1:1<=xs.length) :
   let p:=run (fun i j=>lt (xs.getD i d) (xs.getD j d)) (x3u xs.length)
   (p.toList.map fun i=>xs.getD i d).Perm xs/\(p.toList.map fun i=>xs.getD i d).Pairwise (fun a b=>lt b a=false):=by
 intro p;have OO:Ord fun i j=>lt (xs.getD i d) (xs.getD j d):=⟨fun a=>O.1 _,fun a b c=>O.2.1 _ _ _,fun a b c=>O.2.2 _ _ _⟩;obtain⟨a1,a2,a3⟩:=sort_ok OO h1;constructor
 · have hp:p.toList.Perm (x0L xs.length):=x3n.mp a1;have:=hp.map fun i=>xs.getD i d;refine this.trans (List.Perm.of_eq ?_)
   apply List.ext_getElem (by simp)
   intro i h2 h3;simp [h3]
 · rw [x1b];intro i j hi hj hij;have hi':i < p.size:=by simpa using hi
   have hj':j < p.size:=by simpa using hj
   have:=a3 i j (x2r hij) (by rw [<- a2];exact hj');simp only [List.getElem_map,Array.getElem_toList];have e1:g p i=p[i]:=by unfold g;simp [Array.getD,hi']
   have e2:g p j=p[j]:=by unfold g;simp [Array.getD,hj']
   have this':lt (xs.getD (g p j) d) (xs.getD (g p i) d)=false:=this;rw [e1,e2] at this';exact this'
end Kr
end L2
end
section
namespace L2
open PySem PySem.W PySem.Spec PyProof.Rows
noncomputable def a3o (lt:Nat->Nat->Bool)(vs:List Value):List Value:=if vs.length < 2 then vs else(Kr.run lt (x3u vs.length)).toList.map fun i=>vs.getD i x2Z
section
variable {prog:x0G}{w:World}{A:Around}{E:Value->Shared->Prop}{s:Shared}
noncomputable def b3B (h h1:Heap)(a:Addr):Prop:=∀b o,b≠a->h.get? b=some o->h1.get? b=some o
theorem a5i {a:Addr}{vs:List Value}{n:Nat}{lt:Nat->Nat->Bool}{P:PySem.Fin->Shared->Prop}(ho:s.heap.get? a=some (seqObj "list" vs.toArray n))(h64:vs.length < 64)
   (hk:2<=vs.length->∀h1,b3B s.heap h1 a->∃κ,(∀Q:SortKind->Shared->Prop,Q κ { s with heap:=h1 }->wpAny (model prog w) A (keyKind' vs.toArray) Q E { s with heap:=h1 })/\∀i j (C:Bool->Shared->Prop),i < vs.length->j < vs.length->C (lt i j) { s with heap:=h1 }->kas_ask prog w A κ vs i j C { s with heap:=h1 })
   (h:∀h2 e,b3B s.heap h2 a->h2.get? a=some (seqObj "list" (a3o lt vs).toArray e)->P (.done (.ret .none)) { s with heap:=h2 }):wpAny (model prog w) A (x3c.«list.sort» ⟨[.ref a],[]⟩) P E s:=by
 have ha:a < s.heap.objs.size:=x0o ho;have hsz:vs.toArray.size=vs.length:=by simp
 rw [list_sort_plain];refine x0a (listItems_at ho rfl ?_);refine x0a (x3l ho rfl ?_ (by rw [hsz,x1c];omega) (x0U _));obtain⟨e1,ho1⟩:∃e1,(s.heap.update a (x0J fun _=>(#[]:Array Value))).get? a=some (seqObj "list" #[] e1):=⟨_,x3g ho fun _=>#[]⟩;refine x0a (seqEpoch_at ho1 rfl ?_);refine x0a (wpAny_newTuple ?_ (by show vs.length<=_;rw [x1c];omega));refine x0a (x4A ?_ (x0U _));refine x0V ?_;show wpAny (model prog w) A _ P E { s with heap:=((s.heap.update a (x0J fun _=>(#[]:Array Value))).push (seqObj "tuple" vs.toArray 0)).push (seqObj "list" #[] 0) };have ho3:=x0d (seqObj "list" #[] 0) (x0d (seqObj "tuple" vs.toArray 0) ho1)
 have k3:b3B s.heap (((s.heap.update a (x0J fun _=>(#[]:Array Value))).push (seqObj "tuple" vs.toArray 0)).push (seqObj "list" #[] 0)) a:=fun b o hb e=>
   x0d _ (x0d _ (((x0M s.heap a (x0J fun _=>(#[]:Array Value))).2 b hb).trans e))
 generalize ((s.heap.update a (x0J fun _=>(#[]:Array Value))).push (seqObj "tuple" vs.toArray 0)).push (seqObj "list" #[] 0)=h3 at ho3 k3 ⊢;dsimp only
 have last:∀out:Array Value,out.size=vs.length->out=(a3o lt vs).toArray->∃e,(h3.update a (x0J fun _=>out)).get? a=some (seqObj "list" (a3o lt vs).toArray e)/\b3B s.heap (h3.update a (x0J fun _=>out)) a:=fun out _ eo=>
   ⟨_,by rw [<- eo];exact x3g ho3 fun _=>out,fun b o hb e=>((x0M h3 a (x0J fun _=>out)).2 b hb).trans (k3 b o hb e)⟩
 by_cases h2:vs.toArray.size < 2
 · rw [if_pos h2,if_pos h2];refine x0a (x0h ?_);rw [StateT.run_pure];refine x0a (x0h ?_);dsimp only
   have eo:(arrOf (SortSt.mk' general' (vs.toArray.zip vs.toArray) #[] 7 none)).map (·.2)=(a3o lt vs).toArray:=by
     have e2:(arrOf (SortSt.mk' general' (vs.toArray.zip vs.toArray) #[] 7 none))=vs.toArray.zip vs.toArray:=rfl;rw [e2];unfold a3o;rw [if_pos (by omega)]
     apply Array.toList_inj.mp
     rw [Array.toList_map,Array.toList_zip];exact List.map_snd_zip (x0m _)
   obtain⟨e,x1,x2⟩:=last _ (by rw [eo];unfold a3o;rw [if_pos (by omega)];simp) eo;refine x0a (seqEpoch_at ho3 rfl ?_);refine x0a (x3l ho3 rfl ?_ (x0U _) (by rw [eo];unfold a3o;rw [if_pos (by omega),hsz,x1c];omega));simp only [bne_self_eq_false,x0w,if_false];exact x0h (h _ e x2 x1)
 · rw [if_neg h2,if_neg h2];have l2:2<=vs.length:=by omega
   obtain⟨κ,q1,q2⟩:=hk l2 h3 k3;refine x0a (q1 _ ?_);have wp:=Kr.wp_run (Q:=fun p s'=>p=Kr.run lt (x3u vs.length)/\s'={ s with heap:=h3 }) (P:=fun _=>True) q2 (x3u vs.length) (Kr.sort_in (by omega)) ⟨rfl,rfl⟩;refine x0a (x1g (kat_run (E:=E) (Q:=fun st' s'=>∃p:Array Nat,p.size=vs.length/\arrOf st'=p.map (kas_item (vs.toArray.zip vs.toArray))/\failedOf st'=none/\p=Kr.run lt (x3u vs.length)/\s'={ s with heap:=h3 }) rfl l2 h64 (fun p' st' s' a1 a2 a3 a4=>⟨p',a1,a2,a3,a4⟩) wp) ?_ fun _ _ e=>e);rintro⟨⟨⟩,st'⟩ s' ⟨p,hp,har,hf,ep,rfl⟩;dsimp only
   have eo:(arrOf st').map (·.2)=(a3o lt vs).toArray:=by
     rw [kat_snds rfl har,ep];unfold a3o;rw [if_neg (by omega)]
   have so:((arrOf st').map (·.2)).size=vs.length:=by rw [eo];unfold a3o;rw [if_neg (by omega),x0q,x0e,x0z,<- ep,hp]
   obtain⟨e,x1,x2⟩:=last _ so eo;refine x0a (seqEpoch_at ho3 rfl ?_);refine x0a (x3l ho3 rfl ?_ (x0U _) (by rw [so,x1c];omega));rw [hf];simp only [bne_self_eq_false,x0w,if_false];exact x0h (h _ e x2 x1)
theorem a6l {v:Value}{vs:List Value}{lt:Nat->Nat->Bool}{Q:Value->Shared->Prop}(h64:vs.length < 64)
   (hcol:∀(R:List Value->Shared->Prop),(∀h1 tk,(∀b o,s.heap.get? b=some o->h1.get? b=some o)->s.heap.objs.size<=h1.objs.size->R vs { s with heap:=h1,toks:=tk })->wpAny (model prog w) A.in1 (collect v) R E s)
   (hk:2<=vs.length->∀(A:Around) (E:Value->Shared->Prop) h1 tk,(∀b o,s.heap.get? b=some o->h1.get? b=some o)->∃κ,(∀Q:SortKind->Shared->Prop,Q κ { s with heap:=h1,toks:=tk }->wpAny (model prog w) A (keyKind' vs.toArray) Q E { s with heap:=h1,toks:=tk })/\∀i j (C:Bool->Shared->Prop),i < vs.length->j < vs.length->C (lt i j) { s with heap:=h1,toks:=tk }->kas_ask prog w A κ vs i j C { s with heap:=h1,toks:=tk })
   (h:∀h2 tk D e,(∀b o,s.heap.get? b=some o->h2.get? b=some o)->s.heap.objs.size<=D->h2.get? D=some (seqObj "list" (a3o lt vs).toArray e)->Q (.ref D) { s with heap:=h2,toks:=tk }) :
   wpAny (model prog w) A (call (.builtin "sorted") [v]) Q E s:=by
 refine Calls.call_function_entry kind_sorted plain_sorted entry_sorted (args_sorted1 _) ?_;unfold x3c.«sorted»;refine x0a (m:=checkCount "sorted" 1 1 _) (x0h ?_);refine x0a (hcol _ fun h1 tk k1 z1=>?_);refine x0a (x4A ?_ (by rw [x1c];omega));have hoL:(h1.push (seqObj "list" vs.toArray 0)).get? h1.objs.size=some (seqObj "list" vs.toArray 0):=x0s _ rfl;have kL:∀b o,s.heap.get? b=some o->(h1.push (seqObj "list" vs.toArray 0)).get? b=some o:=fun b o e=>x0d _ (k1 b o e);have ne:∀b o,s.heap.get? b=some o->b≠h1.objs.size:=fun b o e=>x0r (x0x (x0o e) z1);refine x0a (x0V (x1m slot_list_sort ⟨_,hoL,rfl⟩ entry_list_sort ?body (args_list_sort _)))
 case body=>
   refine a5i (lt:=lt) (s:={ s with heap:=h1.push (seqObj "list" vs.toArray 0),toks:=tk }) hoL h64 (fun l2 h3 k3=>?_) fun h3 e k3 e3=>?_
   · exact hk l2 _ _ h3 tk fun b o x=>k3 b o (ne b o x) (kL b o x)
   · exact⟨_,rfl,x0h ⟨_,rfl,h h3 tk _ e (fun b o x=>k3 b o (ne b o x) (kL b o x)) z1 e3⟩⟩
end
end L2
end
section
namespace L2
open PySem PySem.W PySem.Spec PyProof.Rows
noncomputable def a1M:Key->Key->Bool
 | .inl a,.inl b=>decide (a < b)
 | .inr a,.inr b=>decide (a.cps.toList < b.cps.toList)
 | .inl _,.inr _=>true
 | .inr _,.inl _=>false
noncomputable def lexK:List Key->List Key->Bool
 | [],[]=>false
 | [],_::_=>true
 | _::_,[]=>false
 | x::xs,y::ys=>if x=y then lexK xs ys else a1M x y
theorem b5U {a b:Str}(h:a.cps.toList=b.cps.toList):a=b:=by
 cases a;cases b
 congr 1
 exact Array.toList_inj.mp h
theorem a5N (x:Key):a1M x x=false:=by
 cases x with
 | inl a=>exact decide_eq_false (Int.lt_irrefl a)
 | inr a=>exact decide_eq_false (List.lt_irrefl _)
theorem b2Z {x y z:Key}(h1:a1M x y=true)(h2:a1M y z=true):a1M x z=true:=by
 cases x <;> cases y <;> cases z <;> simp only [a1M,decide_eq_true_eq,reduceCtorEq] at * <;> first | omega | exact List.lt_trans h1 h2 | skip
theorem b0S {x y:Key}(h:x≠y):a1M x y=true\/a1M y x=true:=by
 cases x with
 | inl a =>
   cases y with
   | inl b =>
     have:a≠b:=fun e=>h (by rw [e]);simp only [a1M,decide_eq_true_eq];omega
   | inr b=>exact .inl rfl
 | inr a =>
   cases y with
   | inl b=>exact .inr rfl
   | inr b =>
     have hn:a.cps.toList≠b.cps.toList:=fun e=>h (by rw [b5U e]);simp only [a1M,decide_eq_true_eq]
     by_cases c:a.cps.toList < b.cps.toList
     · exact .inl c
     · by_cases c2:b.cps.toList < a.cps.toList
       · exact .inr c2
       · exact absurd (List.le_antisymm (List.not_lt.mp c2) (List.not_lt.mp c)) hn
theorem b0V:∀x:List Key,lexK x x=false:=by
 intro xq
 induction xq with
 | nil =>
   exact rfl
 | cons x xs ih =>
   show(if x=x then lexK xs xs else _)=false;rw [if_pos rfl,ih]
theorem a5Q:∀{x y z:List Key},lexK x y=true->lexK y z=true->lexK x z=true
 | [],[],_,h,_=>by cases h
 | [],_::_,[],_,h=>by cases h
 | [],_::_,_::_,_,_=>rfl
 | _::_,[],_,h,_=>by cases h
 | _::_,_::_,[],_,h=>by cases h
 | x :: xs, y :: ys, z :: zs, h1, h2 => by
   change (if x=y then lexK xs ys else a1M x y)=true at h1
   change (if y=z then lexK ys zs else a1M y z)=true at h2
   show(if x=z then lexK xs zs else a1M x z)=true
   by_cases c1:x=y
   · rw [if_pos c1] at h1;subst c1
     by_cases c2:x=z
     · rw [if_pos c2] at h2 ⊢;exact a5Q h1 h2
     · rw [if_neg c2] at h2 ⊢;exact h2
   · rw [if_neg c1] at h1
     by_cases c2:y=z
     · subst c2;rw [if_neg c1];exact h1
     · rw [if_neg c2] at h2;have h3:=b2Z h1 h2
       by_cases c3:x=z
       · rw [c3,a5N] at h3;cases h3
       · rw [if_neg c3];exact h3
theorem a5R:∀{x y:List Key},x≠y->lexK x y=true\/lexK y x=true
 | [],[],h=>absurd rfl h
 | [],_::_,_=>.inl rfl
 | _::_,[],_=>.inr rfl
 | x :: xs, y :: ys, h => by
   show(if x=y then lexK xs ys else a1M x y)=true\/(if y=x then lexK ys xs else a1M y x)=true
   by_cases c:x=y
   · rw [if_pos c,if_pos c.symm];exact a5R fun e=>h (by rw [c,e])
   · rw [if_neg c,if_neg (fun e=>c e.symm)];exact b0S c
theorem b0U {x y z:List Key}(h:lexK x z=true):lexK x y=true\/lexK y z=true:=by
 by_cases c:x=y
 · subst c;exact .inr h
 · rcases a5R c with h1 | h1
   · exact .inl h1
   · exact .inr (a5Q h1 h)
theorem b5A {x y:List Key}(h1:lexK x y=false)(h2:lexK y x=false):x=y:=by
 by_cases c:x=y
 · exact c
 · rcases a5R c with h | h
   · rw [h1] at h;cases h
   · rw [h2] at h;cases h
noncomputable def Al:List Key->List Key->Prop
 | .inl _::xs,.inl _::ys=>Al xs ys
 | .inr _::xs,.inr _::ys=>Al xs ys
 | _::_,_::_=>False
 | _,_=>True
noncomputable def KeyV:Key->Value->Prop
 | .inl i,v=>∃t,v=.int i t
 | .inr z,v=>∃t,v=.str z t
inductive a7a:List Key->List Value->Prop
 | nil:a7a [] []
 | cons {k v ks vs} (h:KeyV k v) (t:a7a ks vs):a7a (k::ks) (v::vs)
section
variable {prog:x0G}{w:World}{A:Around}{E:Value->Shared->Prop}{s:Shared}
variable {v:Value}
theorem a9s {x y:Key}{u:Value}{xs ys:List Key}{Q:Bool->Shared->Prop}(hx:KeyV x u)(hy:KeyV y v)(al:Al (x::xs) (y::ys))(h:Q (decide (x=y)) s):wpAny (model prog w) A (eqBool u v) Q E s:=by
 cases x with
 | inl a =>
   cases y with
   | inl b =>
     obtain⟨t,rfl⟩:=hx;obtain⟨t',rfl⟩:=hy;refine wpAny_eqBool_int ?_
     have e:(a == b)=decide ((x2w a:Key)=.inl b):=by
       rw [x2u];exact decide_eq_decide.mpr ⟨fun e=>by rw [e],fun e=>by injection e⟩
     rw [e];exact h
   | inr b=>exact al.elim
 | inr a =>
   cases y with
   | inl b=>exact al.elim
   | inr b =>
     obtain⟨t,rfl⟩:=hx;obtain⟨t',rfl⟩:=hy;refine eqBool_str ?_
     have e:(a == b)=decide ((x4B a:Key)=.inr b):=by
       rw [x2u];exact decide_eq_decide.mpr ⟨fun e=>by rw [e],fun e=>by injection e⟩
     rw [e];exact h
theorem lt_key {x y:Key}{u:Value}{xs ys:List Key}{Q:Value->Shared->Prop}(hx:KeyV x u)(hy:KeyV y v)(al:Al (x::xs) (y::ys))(h:Q (.bool (a1M x y)) s):wpAny (model prog w) A (x1J .Lt u v) Q E s:=by
 cases x with
 | inl a =>
   cases y with
   | inl b =>
     obtain⟨t,rfl⟩:=hx;obtain⟨t',rfl⟩:=hy;exact PyProof.Rows.lt_int h
   | inr b=>exact al.elim
 | inr a =>
   cases y with
   | inl b=>exact al.elim
   | inr b =>
     obtain⟨t,rfl⟩:=hx;obtain⟨t',rfl⟩:=hy;exact PyProof.Rows.lt_str h
theorem a4D {x y:Key}{u:Value}{xs ys:List Key}{b:Bool}{Q:Bool->Shared->Prop}(hx:KeyV x u)(hy:KeyV y v)(al:Al (x::xs) (y::ys))(h:Q (a1M x y) s):wpAny (model prog w) A (oneLt' b u v) Q E s:=by
 cases b with
 | false=>exact kat_one u v (lt_key hx hy al h)
 | true =>
   cases x with
   | inl a =>
     cases y with
     | inl b =>
       obtain⟨t,rfl⟩:=hx;obtain⟨t',rfl⟩:=hy;exact oneLt_int h
     | inr b=>exact al.elim
   | inr a =>
     cases y with
     | inl b=>exact al.elim
     | inr b =>
       obtain⟨t,rfl⟩:=hx;obtain⟨t',rfl⟩:=hy;exact oneLt_str h
theorem b5z {b fin:Bool}{Q:Bool->Shared->Prop}:∀{xs ys:List Key} {us vs:List Value} (i:Nat),a7a xs us->a7a ys vs->Al xs ys->fin=decide (us.length < vs.length)->Q (lexK xs ys) s->KatLex prog w A b fin Q (us.zip vs) i s:=by
 intro xs
 induction xs with
 | nil =>
   intro ys us vs i hx hy al hf h;cases hx;refine kat_nil ?_;cases hy with
   | nil=>rw [hf];exact h
   | cons _ _=>rw [hf];exact h
 | cons x xs ih =>
   intro ys us vs i hx hy al hf h;cases hx with
   | @cons _ u _ us' hx1 hx2 =>
     cases hy with
     | nil=>rw [List.zip_nil_right];refine kat_nil ?_;rw [hf];exact h
     | @cons y v ys' vs' hy1 hy2 =>
       rw [x1P];refine kat_cons (a9s hx1 hy1 al ?_);have h':Q (if x=y then lexK xs ys' else a1M x y) s:=h
       by_cases c:x=y
       · rw [decide_eq_true c];rw [if_pos c] at h';refine kat_yes (ih (i + 1) hx2 hy2 ?_ ?_ h')
         · cases x <;> cases y <;> first | exact al | exact al.elim
         · rw [hf,x0K,x0K];exact decide_eq_decide.mpr (by omega)
       · rw [decide_eq_false c];rw [if_neg c] at h';exact kat_no (a4D hx1 hy1 al h')
noncomputable def TupK (h:Heap)(v:Value)(ks:List Key):Prop:=∃a o items n,v=.ref a/\h.get? a=some o/\o.cls=.type "tuple"/\o.data=.seq items n/\a7a ks items.toList
theorem b5Y {b:Bool}{u:Value}{xs ys:List Key}{Q:Bool->Shared->Prop}(hx:TupK s.heap u xs)(hy:TupK s.heap v ys)(al:Al xs ys)(h:Q (lexK xs ys) s):wpAny (model prog w) A (keyLt' (tuples' b) u v) Q E s:=by
 obtain⟨a,o,items,n,rfl,ho,hc,hd,hk⟩:=hx;obtain⟨a',o',items',n',rfl,ho',hc',hd',hk'⟩:=hy;exact kat_lt ho hd ho' hd' (b5z 0 hk hk' al (by rw [x0z,x0z]) h)
end
end L2
end
section
namespace L2
open PySem PySem.W PySem.Spec PyProof.Rows
theorem a5S:∀{ks:List Key} {us:List Value},Vals (ks.map kV) us->a7a ks us
 | [],_,h=>by cases h;exact .nil
 | .inl i :: ks, _, h => by
   cases h with
   | cons h1 h2=>exact .cons h1 (a5S h2)
 | .inr z :: ks, _, h => by
   cases h with
   | cons h1 h2=>exact .cons h1 (a5S h2)
section
variable {X:Cx}
variable {ks:List Key}{kss:List (List Key)}{α β:Type}
theorem a7i {pins:List (Addr×Obj)}{σ:St}{H:Hp}{s:Shared}(I:Inv X pins σ H s){a:Addr}(h:SqT X.K H a (ks.map kV)):TupK s.heap (.ref a) ks:=by
 obtain⟨its,r,⟨o,ho,hc,n,hd⟩,_⟩:=I.tuple h;exact⟨a,o,its.toArray,n,rfl,ho,hc,hd,a5S r⟩
theorem TupK.keep {h h':Heap}{v:Value}(t:TupK h v ks)(k:∀b o,h.get? b=some o->h'.get? b=some o):TupK h' v ks:=by
 obtain⟨a,o,its,n,e,ho,hc,hd,hk⟩:=t;exact⟨a,o,its,n,e,k _ _ ho,hc,hd,hk⟩
noncomputable def KM (K:x0b)(H:Hp):Nat->V->List Key->Prop
 | 0,y,ks=>∃i,y=.int i/\ks=[.inl i]
 | 1,y,ks=>∃z,y=.str z/\ks=[.inr z]
 | _,y,ks=>∃a,y=.ref a/\SqT K H a (ks.map kV)/\ks≠[]
noncomputable def Kv1 (h:Heap):Nat->Value->List Key->Prop
 | 0,u,ks=>∃i t,u=.int i t/\ks=[.inl i]
 | 1,u,ks=>∃z t,u=.str z t/\ks=[.inr z]
 | _,u,ks=>TupK h u ks/\ks≠[]
noncomputable def ltIx (kss:List (List Key))(i j:Nat):Bool:=lexK (kss.getD i []) (kss.getD j [])
theorem a5O (kss:List (List Key)):Kr.Ord (ltIx kss):=⟨fun _=>b0V _,fun _ _ _ h1 h2=>a5Q h1 h2,fun _ _ _ h=>b0U h⟩
noncomputable def a7c (kss:List (List Key)):Prop:=∀x∈kss,∀y∈kss,Al x y
theorem kv1_of {pins:List (Addr×Obj)}{σ:St}{H:Hp}{s:Shared}(I:Inv X pins σ H s)(m:Nat){ys:List V}{vs:List Value}(a:Vals ys vs)(b:Paired (KM X.K H m) ys kss):Paired (Kv1 s.heap m) vs kss:=by
 induction a generalizing kss with
 | nil=>cases b;exact .nil
 | cons h1 _ ih => cases b with
   | cons h2 r2 =>
     refine .cons ?_ (ih r2);rcases m with _ | _ | m
     · obtain⟨i,e1,e2⟩:=h2;subst e1;obtain⟨t,rfl⟩:=h1;exact⟨i,t,rfl,e2⟩
     · obtain⟨i,e1,e2⟩:=h2;subst e1;obtain⟨t,rfl⟩:=h1;exact⟨i,t,rfl,e2⟩
     · obtain⟨a,e1,e2,e3⟩:=h2;subst e1;cases h1;exact⟨a7i I e2,e3⟩
theorem Kv1.keep {h h':Heap}(k:∀b o,h.get? b=some o->h'.get? b=some o)(m:Nat){u:Value}(x:Kv1 h m u ks):Kv1 h' m u ks:=by
 match m,x with
 | 0,x=>exact x
 | 1,x=>exact x
 | _ + 2,x=>exact⟨x.1.keep k,x.2⟩
theorem a1G {F:α->β->Prop}{xs:List α}{ys:List β}(h:Paired F xs ys)(d:α)(e:β):∀i,i < xs.length->F (xs.getD i d) (ys.getD i e):=by
 induction h with
 | nil=>intro i hi;exact absurd hi (x2I _)
 | cons h1 _ ih =>
   intro i hi;cases i with
   | zero=>exact h1
   | succ i=>exact ih i (Nat.lt_of_succ_lt_succ hi)
theorem a4z {F:α->β->Prop}{xs:List α}{ys:List β}(h:Paired F xs ys):∀x∈xs,∃y∈ys,F x y:=by
 induction h with
 | nil=>intro x hx;cases hx
 | cons h1 _ ih =>
   intro x hx;rcases x0k.mp hx with rfl | hx
   · exact⟨_,x0g,h1⟩
   · obtain⟨y,hy,hf⟩:=ih x hx;exact⟨y,x0f _ hy,hf⟩
theorem a7h {h:Heap}{m:Nat}{vs:List Value}(p:Paired (Kv1 h (m + 2)) vs kss):∃fs,KatTups h vs fs/\fs.length=vs.length/\∀f∈fs,∃k r,(k::r)∈kss/\KeyV k f:=by
 induction p with
 | nil=>exact⟨[],trivial,rfl,fun _ z=>nomatch z⟩
 | cons h1 _ ih =>
   obtain⟨⟨a,o,its,n,rfl,ho,hc,hd,hk⟩,hne⟩:=h1;obtain⟨fs,t,hl,hf⟩:=ih;cases e:its.toList with
   | nil=>rw [e] at hk;cases hk;exact absurd rfl hne
   | cons f us =>
     rw [e] at hk;cases hk with
     | @cons k _ ks _ h2 h3 =>
       have ef:its[0]?=some f:=by rw [<- x0P,e];rfl
       refine⟨f::fs,KatTups.cons ho hc hd ef t,by rw [x0K,x0K,hl],fun g hg=>?_⟩;rcases x0k.mp hg with rfl | hg
       · exact⟨k,ks,x0g,h2⟩
       · obtain⟨k',r',h4,h5⟩:=hf g hg;exact⟨k',r',x0f _ h4,h5⟩
theorem a6m {prog:x0G}{w:World}{s:Shared}{m:Nat}{vs:List Value}(h2:2<=vs.length)(p:Paired (Kv1 s.heap m) vs kss)(al:a7c kss)(A:Around)(E:Value->Shared->Prop)(h1:Heap)(tk:Nat)(k:∀b o,s.heap.get? b=some o->h1.get? b=some o) :
   ∃κ,(∀Q:SortKind->Shared->Prop,Q κ { s with heap:=h1,toks:=tk }->wpAny (model prog w) A (keyKind' vs.toArray) Q E { s with heap:=h1,toks:=tk })/\∀i j (C:Bool->Shared->Prop),i < vs.length->j < vs.length->C (ltIx kss i j) { s with heap:=h1,toks:=tk }->kas_ask prog w A κ vs i j C { s with heap:=h1,toks:=tk }:=by
 have p1:Paired (Kv1 h1 m) vs kss:=Paired.imp' (fun _ _ x=>x.keep k m) p;have lk:=Paired.length p1
 have mem:∀i,i < vs.length->kss.getD i []∈kss:=fun i hi=>by
   rw [x0O,x0c (by omega)];exact x2q _
 match m,p1 with
 | 0, p1 =>
   refine⟨oneType',fun Q q=>kas_kind (T:=.type "int") h2 (fun v hv=>?_) rfl rfl q,fun i j C hi hj c=>?_⟩
   · obtain⟨ks,_,i,t,rfl,_⟩:=a4z p1 v hv;exact Looks.of_pure rfl
   · obtain⟨a,t,e1,e2⟩:=a1G p1 .none [] i hi;obtain⟨b,t',e3,e4⟩:=a1G p1 .none [] j hj;unfold kas_ask;unfold ltIx at c;rw [e1,e3,keyLt'_oneType];rw [e2,e4] at c;refine a4D (x:=.inl a) (y:=.inl b) (xs:=[]) (ys:=[]) ⟨t,rfl⟩ ⟨t',rfl⟩ trivial ?_
     have e:lexK [.inl a] [.inl b]=a1M (.inl a) (.inl b):=by
       show(if(x2w a:Key)=.inl b then false else a1M (.inl a) (.inl b))=_
       by_cases c:(x2w a:Key)=.inl b
       · rw [if_pos c,c,a5N]
       · rw [if_neg c]
     rw [<- e];exact c
 | 1, p1 =>
   refine⟨oneType',fun Q q=>kas_kind (T:=.type "str") h2 (fun v hv=>?_) rfl rfl q,fun i j C hi hj c=>?_⟩
   · obtain⟨ks,_,i,t,rfl,_⟩:=a4z p1 v hv;exact Looks.of_pure rfl
   · obtain⟨a,t,e1,e2⟩:=a1G p1 .none [] i hi;obtain⟨b,t',e3,e4⟩:=a1G p1 .none [] j hj;unfold kas_ask;unfold ltIx at c;rw [e1,e3,keyLt'_oneType];rw [e2,e4] at c;refine a4D (x:=.inr a) (y:=.inr b) (xs:=[]) (ys:=[]) ⟨t,rfl⟩ ⟨t',rfl⟩ trivial ?_
     have e:lexK [.inr a] [.inr b]=a1M (.inr a) (.inr b):=by
       show(if(x4B a:Key)=.inr b then false else a1M (.inr a) (.inr b))=_
       by_cases c:(x4B a:Key)=.inr b
       · rw [if_pos c,c,a5N]
       · rw [if_neg c]
     rw [<- e];exact c
 | m' + 2, p1 =>
   obtain⟨fs,kt,fl,hf⟩:=a7h p1
   have asks:∀b i j (C:Bool->Shared->Prop),i < vs.length->j < vs.length->C (ltIx kss i j) { s with heap:=h1,toks:=tk }->kas_ask prog w A (tuples' b) vs i j C { s with heap:=h1,toks:=tk }:=fun b i j C hi hj c=>by
     have x1:=a1G p1 .none [] i hi;have x2:=a1G p1 .none [] j hj;exact b5Y (s:={ s with heap:=h1,toks:=tk }) x1.1 x2.1 (al _ (mem i hi) _ (mem j hj)) c
   obtain⟨f0,fr,rfl⟩:∃f0 fr,fs=f0::fr:=by
     cases fs with
     | nil=>rw [<- fl] at h2;exact absurd h2 (by simp)
     | cons a r=>exact⟨a,r,rfl⟩
   obtain⟨k0,r0,m0,v0⟩:=hf f0 x0g
   have all:∀T:String,(∀f k r,(k::r)∈kss->KeyV k f->typeOf f=pure (.type T))->∀v∈f0::fr,Looks (model prog w) h1 (typeOf v) (.type T):=fun T hT v hv=>by
     obtain⟨k,r,h3,h4⟩:=hf v hv;exact Looks.of_pure (hT v k r h3 h4)
   cases k0 with
   | inl i0 =>
     refine⟨tuples' (x1q "int" != x1q "tuple"),fun Q q=>kat_kind (s:={ s with heap:=h1,toks:=tk }) kt (by simp) (all "int" fun f k r h3 h4=>?_) rfl q,asks _⟩;cases k with
     | inl i=>obtain⟨t,rfl⟩:=h4;rfl
     | inr z=>exact(al _ m0 _ h3).elim
   | inr i0 =>
     refine⟨tuples' (x1q "str" != x1q "tuple"),fun Q q=>kat_kind (s:={ s with heap:=h1,toks:=tk }) kt (by simp) (all "str" fun f k r h3 h4=>?_) rfl q,asks _⟩;cases k with
     | inr i=>obtain⟨t,rfl⟩:=h4;rfl
     | inl z=>exact(al _ m0 _ h3).elim
noncomputable def outV (lt:Nat->Nat->Bool)(ys:List V):List V:=if ys.length < 2 then ys else(Kr.run lt (x3u ys.length)).toList.map fun i=>ys.getD i .non
theorem a7Q {lt:Nat->Nat->Bool}{ys:List V}{vs:List Value}(r:Vals ys vs)(O:Kr.Ord lt):Vals (outV lt ys) (a3o lt vs):=by
 unfold outV a3o;rw [r.length]
 by_cases c:vs.length < 2
 · rw [if_pos c,if_pos c];exact r
 · rw [if_neg c,if_neg c];obtain⟨a1,a2,_⟩:=Kr.sort_ok O (n:=vs.length) (by omega)
   have hm:∀i∈(Kr.run lt (x3u vs.length)).toList,i < vs.length:=fun i hi=>by
     have:=(x3n.mp a1).mem_iff.mp hi
     simpa using this
   generalize (Kr.run lt (x3u vs.length)).toList=is at hm
   induction is with
   | nil=>exact .nil
   | cons i is ih =>
     refine .cons ?_ (ih fun j hj=>hm j (x0f _ hj));exact a1G r .non .none i (by rw [r.length];exact hm i x0g)
theorem a6P:a1z X (.builtin "sorted") (fun xs H Q=>∃p ys m kss,xs=[.ref p]/\SqL X.K H p ys/\ys.length < 64/\Paired (KM X.K H m) ys kss/\a7c kss/\∀l,H l=none->Q (.ref l) (upd H l (.lst (outV (ltIx kss) ys)))):=by
 intro pins s σ H xs us Q I r h;obtain⟨p,ys,m,kss,rfl,hq,h64,hp,al,q⟩:=h;obtain⟨u,rfl,rx⟩:=a6g r;cases rx;obtain⟨its,r',pl,hz⟩:=I.list hq;have hlen:=r'.length;have pk:=kv1_of I m r' hp;have O:=a5O kss;refine a6l (vs:=its) (lt:=ltIx kss) (by omega) (fun R hR=>?_) (fun h2 A E h1 tk k=>a6m h2 pk al A E h1 tk k) fun h2 tk D e k hD ho=>?_
 · refine collect_list pl.isList (hR _ s.toks (fun b o e=>?_) ?_) (by omega)
   · have hlt:b < s.heap.objs.size:=x0o e;rw [Heap.get?_update_ne _ _ _ _ (x0r hlt)];exact x0d _ e
   · rw [Heap.size_update,size_push'];omega
 · have vo:=a7Q r' O
   have hl:(outV (ltIx kss) ys).length<=x0B:=by
     unfold outV
     split
     · omega
     · rw [x0e,x0z,(Kr.sort_ok O (by omega)).2.1];omega
   exact⟨.ref D,_,I.laid (t':=tk) k hD (show a1n X.prog X.w _ h2 _ (.lst (outV (ltIx kss) ys)) from⟨hl,_,e,vo,ho⟩),rfl,q _ (I.hok.fresh hD)⟩
end
end L2
end
section
namespace Pu
open PySem PySem.Spec L2
noncomputable def kP:Key->PV
 | .inl i=>.int i
 | .inr z=>.str z
noncomputable def a6C:List PV->Option (List Key)
 | []=>some []
 | .int i::r=>(a6C r).map (.inl i::·)
 | .str z::r=>(a6C r).map (.inr z::·)
 | _=>none
noncomputable def keyP:PV->List Key
 | .int i=>[.inl i]
 | .str z=>[.inr z]
 | .tup xs=>(a6C xs).getD []
 | _=>[]
theorem a4J:∀ks:List Key,a6C (ks.map kP)=some ks
 | []=>rfl
 | .inl i::r=>by show(a6C (r.map kP)).map _=_;rw [a4J r];rfl
 | .inr i::r=>by show(a6C (r.map kP)).map _=_;rw [a4J r];rfl
theorem a1k (ks:List Key):keyP (.tup (ks.map kP))=ks:=by show(a6C (ks.map kP)).getD []=_;rw [a4J];rfl
theorem a3h {K:x0b}{G:Gh}{H:Hp}:∀(ks:List Key) {us:List V},Reps K G H (ks.map kP) us->us=ks.map kV
 | [],_,h=>h
 | .inl i :: r, _, h => by
   obtain⟨v,t,rfl,h1,h2⟩:=h;rw [a3h r h2,show v=.int i from h1];rfl
 | .inr i :: r, _, h => by
   obtain⟨v,t,rfl,h1,h2⟩:=h;rw [a3h r h2,show v=.str i from h1];rfl
section
variable {T:PotK}{ι:Type}{K:x0b}{F:ι->Cx}{e:Expr}{pe:pE}{pos:Pos}
variable {us:List V}
noncomputable def b1S (xs:List PV):Prop:=(∀x∈xs,∃i,x=.int i)\/(∀x∈xs,∃z,x=.str z)\/((∀x∈xs,∃ks,x=.tup (ks.map kP)/\ks≠[])/\∀x∈xs,∀y∈xs,Al (keyP x) (keyP y))
noncomputable def Srt (ys xs:List PV):Prop:=ys.Perm xs/\ys.Pairwise fun a b=>lexK (keyP b) (keyP a)=false
noncomputable def a4v (pe:pE):pA:=fun env n R=>pe env n fun x env1 n1=>match x with | .lst xs=>xs.length < 64/\b1S xs/\∀ys,Srt ys xs->R ys env1 n1 | _=>False
theorem a2g {G:Gh}{H:Hp}{P:PV->V->List Key->Prop}:∀(xs:List PV) {us:List V},Reps K G H xs us->(∀x∈xs,∀v,Rep K G H x v->P x v (keyP x))->Paired (fun v ks=>∃x,x∈xs/\P x v ks) us (xs.map keyP):=by
 intro xq
 induction xq with
 | nil =>
   intro _ h _;cases h;exact .nil
 | cons x xs ih =>
   intro _ h hP;obtain⟨v,t,rfl,h1,h2⟩:=h;refine .cons ⟨x,x0g,hP x x0g v h1⟩ ?_;exact Paired.imp' (fun v ks ⟨y,hy,hp⟩=>⟨y,x0f _ hy,hp⟩) (ih h2 fun y hy=>hP y (x0f _ hy))
theorem km_of {G:Gh}{H:Hp}{xs:List PV}(r:Reps K G H xs us)(h:b1S xs):∃m,Paired (KM K H m) us (xs.map keyP)/\a7c (xs.map keyP):=by
 rcases h with h | h | ⟨h,h'⟩
 · refine⟨0,Paired.imp' (fun v ks ⟨_,_,hp⟩=>hp) (a2g (P:=fun _ v ks=>KM K H 0 v ks) xs r fun x hx v hv=>?_),fun a ha b hb=>?_⟩
   · obtain⟨i,rfl⟩:=h x hx;exact⟨i,hv,rfl⟩
   · obtain⟨x,hx,rfl⟩:=x0F.mp ha;obtain⟨y,hy,rfl⟩:=x0F.mp hb;obtain⟨i,rfl⟩:=h x hx;obtain⟨j,rfl⟩:=h y hy;exact trivial
 · refine⟨1,Paired.imp' (fun v ks ⟨_,_,hp⟩=>hp) (a2g (P:=fun _ v ks=>KM K H 1 v ks) xs r fun x hx v hv=>?_),fun a ha b hb=>?_⟩
   · obtain⟨i,rfl⟩:=h x hx;exact⟨i,hv,rfl⟩
   · obtain⟨x,hx,rfl⟩:=x0F.mp ha;obtain⟨y,hy,rfl⟩:=x0F.mp hb;obtain⟨i,rfl⟩:=h x hx;obtain⟨j,rfl⟩:=h y hy;exact trivial
 · refine⟨2,Paired.imp' (fun v ks ⟨_,_,hp⟩=>hp) (a2g (P:=fun _ v ks=>KM K H 2 v ks) xs r fun x hx v hv=>?_),fun a ha b hb=>?_⟩
   · obtain⟨ks,rfl,hne⟩:=h x hx;obtain⟨a,vs,rfl,at',rr⟩:=hv;rw [a1k];refine⟨a,rfl,?_,hne⟩;rw [a3h ks rr] at at';exact SqT.of at'.2
   · obtain⟨x,hx,rfl⟩:=x0F.mp ha;obtain⟨y,hy,rfl⟩:=x0F.mp hb;exact h' x hx y hy
noncomputable def outP (xs:List PV):List PV:=if xs.length < 2 then xs else(Kr.run (ltIx (xs.map keyP)) (x3u xs.length)).toList.map fun i=>xs.getD i .non
theorem a8t (xs:List PV)(i:Nat):(xs.map keyP).getD i []=keyP (xs.getD i .non):=by
 rw [x0O,x0O,x0p];cases xs[i]? <;> rfl
theorem b0x (xs:List PV):Srt (outP xs) xs:=by
 unfold outP
 by_cases c:xs.length < 2
 · rw [if_pos c];refine⟨List.Perm.refl _,?_⟩
   match xs,c with
   | [],_=>exact .nil
   | [x],_=>exact List.pairwise_singleton _ _
 · rw [if_neg c]
   have e:ltIx (xs.map keyP)=fun i j=>lexK (keyP (xs.getD i .non)) (keyP (xs.getD j .non)):=by
     funext i j
     unfold ltIx;rw [a8t,a8t]
   rw [e];exact Kr.out_ok (fun a b:PV=>lexK (keyP a) (keyP b)) ⟨fun _=>b0V _,fun _ _ _ h1 h2=>a5Q h1 h2,fun _ _ _ h=>b0U h⟩ .non xs (by omega)
theorem a9R {G:Gh}{H:Hp}{xs:List PV}(r:Reps K G H xs us)(i:Nat)(hi:i < xs.length):Rep K G H (xs.getD i .non) (us.getD i .non):=by
 induction xs generalizing us i with
 | nil=>exact absurd hi (x2I _)
 | cons x xs ih =>
   obtain⟨v,t,rfl,h1,h2⟩:=r;cases i with
   | zero=>exact h1
   | succ i=>exact ih h2 i (Nat.lt_of_succ_lt_succ hi)
theorem a8b {G:Gh}{H:Hp}{xs:List PV}(r:Reps K G H xs us):Reps K G H (outP xs) (outV (ltIx (xs.map keyP)) us):=by
 unfold outP outV;have hl:us.length=xs.length:=r.length.symm;rw [hl]
 by_cases c:xs.length < 2
 · rw [if_pos c,if_pos c];exact r
 · rw [if_neg c,if_neg c];obtain⟨a1,a2,_⟩:=Kr.sort_ok (a5O (xs.map keyP)) (n:=xs.length) (by omega)
   have hm:∀i∈(Kr.run (ltIx (xs.map keyP)) (x3u xs.length)).toList,i < xs.length:=fun i hi=>by
     have:=(x3n.mp a1).mem_iff.mp hi
     simpa using this
   generalize (Kr.run (ltIx (xs.map keyP)) (x3u xs.length)).toList=is at hm
   induction is with
   | nil=>exact rfl
   | cons i is ih=>exact⟨_,_,rfl,a9R r i (hm i x0g),ih fun j hj=>hm j (x0f _ hj)⟩
theorem a4s {p:Pos}(hg:∀z,Gl (F z) "sorted")(hm:∀z,(F z).mg "sorted"=none)(ha:QR T K F e pe)(hs:a0v e=true:=by rfl)(hK:∀z,(F z).K=K:=by intro _;rfl):QN T K F (.Call (.Name "sorted" p) [e] [] pos) (a4v pe):=by
 obtain⟨t,h1,h2⟩:=ha;refine⟨_,fun z=>a1s (hK z▸a6P) (hg z) (hm z) a5b (a0o (h1 z) a0E (a0e hs)) (by decide) (by decide) (a0e hs),fun C G σ H env n R Q hK hT S hp k=>?_⟩;refine a6v h2 hK hT S hp fun x env1 n1 v H1 p1 S1 r1 f1=>?_;have rd:RdV K G H1 x v:=hK▸r1.rd S1;cases x with
 | lst xs =>
   obtain⟨h64,so,q⟩:=p1;obtain⟨a,us,rfl,hq,r⟩:=rd.lst;obtain⟨m,pk,al⟩:=km_of r so;have hl:us.length=xs.length:=r.length.symm;exact⟨a,us,m,xs.map keyP,rfl,hq,by omega,pk,al,fun l hl=>k _ _ _ _ _ _ (q _ (b0x xs)) S1 f1 hl (a8b r)⟩
 | _=>exact p1.elim
end
end Pu
end
section
namespace Pu
open PySem PySem.Spec L2
noncomputable def tupP (ks:List Key):PV:=.tup (ks.map kP)
end Pu
end
section
namespace L2
open PySem PySem.Spec PyProof.Rows
section
variable {prog:x0G}{w:World}{A:Around}{E:Value->Shared->Prop}{s:Shared}
theorem a4b {t:Addr}{its:Array Value}{ys:List Str}{k:Str}{tok:Tok}{j:Nat}{Q:Value->Shared->Prop}(ht:s.heap.IsTuple t its)(hS:StrsAre its.toList ys)(hj:ys[j]?=some k)(hlt:∀i,i < j->ys[i]?≠some k)(hsm:ys.length<=1000000)
   (h:∀tk,Q (.int j tk) { s with toks:=s.toks + 1 }):wpAny (model prog w) A (call (.builtin "tuple.index") [.ref t,.str k tok]) Q E s:=by
 obtain⟨o,ho,hc,n,hd⟩:=id ht;have hT:s.TypeIs (.ref t) "tuple":=⟨o,ho,hc⟩;refine x1m F.slot_tuple_index hT F.entry_tuple_index ?_ (F.args_tuple_index_2 _ _);unfold x3c.«tuple.index»;refine x0a (wpAny_of_eq (a:=(x1l t,[Value.str k tok])) rfl ?_);refine x0a (wpAny_tupleItemsOf ho hd ?_);dsimp only;refine x0a (x0h (x0a (x0h ?_)));refine x0a ?_;have hlen:ys.length=its.toList.length:=(StrsAre.length hS).symm
 have at_:∀(i:Nat) (y:Str),ys[i]?=some y->∃u,its[i]?=some (.str y u):=by
   intro i y hy
   have:∀{us:List Value} {zs:List Str},StrsAre us zs->∀(i:Nat),zs[i]?=some y->∃u,us[i]?=some (.str y u):=by
     intro us zs hh
     induction hh with
     | nil=>intro i h;cases h
     | cons x t _ ih =>
       intro i h;cases i with
       | zero=>cases h;exact⟨t,rfl⟩
       | succ i=>exact ih i (by simpa using h)
   obtain⟨u,hu⟩:=this hS i hy;exact⟨u,by rw [<- x0P];exact hu⟩
 have hjl:j < its.size:=by
   have:=(x0i.mp hj).1;rw [hlen,x0z] at this;exact this
 rw [Std.Legacy.Range.forIn_eq_forIn_range'];refine x4q _ (fun rest r s'=>r.1=none/\s'=s/\∃i,rest=List.range' i (its.size - i)/\i<=j) _ ?_ ?_ _ _ ⟨rfl,rfl,0,?_,x0U _⟩
 · rintro x rest ⟨r1,r2⟩ s' ⟨hr,rfl,i0,hi,hij⟩;have hil:its.size - i0=(its.size - i0 - 1) + 1:=by omega
   rw [hil,List.range'_succ] at hi;obtain⟨i,hxi⟩:∃i,x=i:=⟨x,rfl⟩;injection hi with h1 h2;subst h2;have hi0:i0=i:=by rw [<- hxi,h1]
   subst hi0;subst hxi;clear h1
   revert hij hil
   generalize x=i;intro hij hil;have hiy:i < ys.length:=by rw [hlen,x0z];omega
   obtain⟨u,hu⟩:=at_ i ys[i] (x0c hiy);rw [hu];dsimp only;refine x0a (eqBool_str ?_)
   by_cases c:i=j
   · subst c
     have:ys[i]=k:=by
       have:=x0c hiy;rw [hj] at this;exact(x0H this).symm
     rw [this,beq_self_eq_true,if_pos rfl];refine x0a (x0a (wpAny_mkInt (x0h (x0h ?_))));exact x0h ⟨_,rfl,h _⟩
   · have:ys[i]≠k:=fun e=>hlt i (by omega) (by rw [x0c hiy,e]);rw [beq_eq_false_iff_ne.mpr this,if_neg x0R];refine x0h ⟨rfl,rfl,i + 1,?_,by omega⟩;rw [show its.size - (i + 1)=its.size - i - 1 by omega]
 · rintro⟨r1,r2⟩ s' ⟨hr,rfl,i,hi,hij⟩;have hil:its.size - i=(its.size - i - 1) + 1:=by omega
   rw [hil,List.range'_succ] at hi;cases hi
 · simp [Std.Legacy.Range.size]
end
section
variable {X:Cx}
noncomputable def b3G (K:x0b):V->List V->Hp->VK->Prop:=fun x vs H Q=>∃(l:Addr) (k:Str) (ys:List Str) (j:Nat),x=.ref l/\vs=[.str k]/\SqT K H l (ys.map V.str)/\ys.length<=1000000/\ys[j]?=some k/\(∀i,i < j->ys[i]?≠some k)/\Q (.int j) H
theorem b2U:MtM X "tuple.index" (b3G X.K):=by
 intro pins s σ H x vs v us Q I rx rv h;obtain⟨l,k,ys,j,rfl,rfl,hq,hz0,hj,hlt,q⟩:=h;cases rx;obtain⟨u,rfl,ru⟩:=rv.one;obtain⟨t,rfl⟩:=ru;obtain⟨its,r,p,hz⟩:=I.tuple hq;exact a4b p (a3x r) hj hlt hz0 fun tk=>⟨.int j,H,I.tok _,⟨_,rfl⟩,q⟩
end
end L2
end
section
namespace Pu
open PySem PySem.Spec PyProof.Rows L2
section
variable {T:PotK}{ι:Type}{K:x0b}{F:ι->Cx}{e c:Expr}{pe pc:pE}{pos:Pos}
noncomputable def a3P:w2:=fun x y R=>match x,y with | .tup xs,.str k=>(match a2d xs with | some ys=>ys.length<=1000000/\∃j:Nat,ys[j]?=some k/\(∀i,i < j->ys[i]?≠some k)/\R (.int j) | none=>False) | _,_=>False
noncomputable def a2s (pe pc:pE):pE:=fun env n R=>pe env n fun x env1 n1=>(∃xs,x=.tup xs)/\pc env1 n1 fun y env2 n2=>a3P x y fun z=>R z env2 n2
theorem a1r {ap:Pos}(he:QE T K F e pe)(hc:QE T K F c pc)(hs:a0v c=true:=by rfl)(hbase:∀z,x2O e "index" (F z).env (eval e (F z).env)=eval e (F z).env:=by intro _;rfl)(hline:(ap.endLine == pos.line)=true:=by rfl)
   (hfew:∀z,((backTo pos (x1h [c] (F z).env)).all (fun x=>!x.1) && (x4f pos (x2y [] (F z).env)).all (fun x=>x.1.isSome) && decide (([c]:List Expr).length + ([]:List x3p).length + (if([]:List x3p).isEmpty then 0 else 1) < 30))=true:=by intro _;rfl) (hK:∀z,(F z).K=K:=by intro _;rfl):QE T K F (.Call (.Attribute e "index" ap) [c] [] pos) (a2s pe pc):=by
 obtain⟨t,a1,a2⟩:=he;obtain⟨u,b1,b2⟩:=hc;refine⟨tBM K "tuple" (b3G K) t (a3c u tNil),fun z=>hK z▸a7u PySem.F.plainAttrs_tuple PySem.F.slot_tuple_index PySem.F.type_tuple_index b2U (a1 z) (a0o (b1 z) a0E (a0e hs)) (hbase z) (hfew z) hline (a0e hs),fun C G σ H env n R Q hK hT S hp k=>?_⟩;refine a2 C G σ H env n _ _ hK hT S hp fun x env1 n1 v H1 q1 S1 r1 f1=>?_;obtain⟨⟨xs,rfl⟩,q1⟩:=q1;obtain⟨a,vs,rfl,ta,ra⟩:=r1;refine⟨?_,?_⟩
 · exact .inr (.inl ⟨rfl,.inr ⟨vs,ta.2⟩⟩)
 refine b2 C G σ H1 env1 n1 _ _ hK hT S1 q1 fun y env2 n2 w H2 q2 S2 r2 f2=>?_;unfold a3P at q2
 split at q2
 · rename_i xs' kk e1;cases e1
   split at q2
   · rename_i ys ey;obtain⟨hz,j,hj,hlt,q3⟩:=q2;obtain⟨a',vs',e3,ta',ra'⟩:=(show Rep K G H1 (.tup xs) (.ref a) from⟨a,vs,rfl,ta,ra⟩).fr f2;cases e3;exact⟨a,kk,ys,j,rfl,by rw [show w=.str kk from r2],a1W ey ra'▸SqT.of ta'.2,hz,hj,hlt,k _ _ _ _ _ q3 S2 rfl (f1.trans f2)⟩
   · exact q2.elim
 · exact q2.elim
end
end Pu
end
section
namespace Pu
open PySem PySem.Spec L2
noncomputable def frzS:Slot->Option Slot
 | .v x=>some (.v x)
 | .ow .lst xs=>some (.v (.lst xs))
 | .ow (.dk ks) xs=>if ks.length=xs.length then some (.v (.dct ks xs)) else none
 | .ow (.dt _) _=>none
 | .ow (.st _) _=>none
noncomputable def frz (env:Env):Env:=env.map fun o=>o.bind frzS
noncomputable def a7M (T:PotK):Prop:=∀M M' H p n,T.at_ M H p n->(∀a∈M',a∈M\/∃o,H a=some o/\MutO o)->T.at_ M' H p n
theorem SR.lend {C:Ct}{G:Gh}{σ:St}{H:Hp}{env:Env}{n:Nat}(S:SR C G σ H env n):SR ⟨C.K,C.T,G.pots,G.pots,H,C.np⟩ ⟨G.pots,G.pots⟩ σ H (frz env) n where
 frame _ _ _ e:=e
 sub a ha:=.inl ha
 sup a ha:=ha
 pots p hp:=⟨hp,C.T.more (S.pots p hp).2 fun b hb=>.inl (S.pots b hb).1⟩
 pre:=⟨[],(x1t _).symm,.inl rfl⟩
 mu a ha:=S.mu a (S.pots a ha).1
 slots i s e:=by
   have mm:∀{x:PV} {v:V},Rep C.K G H x v->Rep C.K ⟨G.pots,G.pots⟩ H x v:=fun r=>Rep.mono (G':=⟨G.pots,G.pots⟩) (fun _ _ _ e=>e) (fun b hb=>.inl (S.pots b hb).1) (fun _ _ e=>e) _ _ r;have mms:∀{x:List PV} {v:List V},Reps C.K G H x v->Reps C.K ⟨G.pots,G.pots⟩ H x v:=fun r=>Reps.mono (G':=⟨G.pots,G.pots⟩) (fun _ _ _ e=>e) (fun b hb=>.inl (S.pots b hb).1) (fun _ _ e=>e) _ _ r;unfold frz at e;rw [x0p] at e;cases h:env[i]? with
   | none=>rw [h] at e;cases e
   | some o =>
     rw [h] at e;cases o with
     | none=>cases e
     | some t =>
       have q:=S.slots i t h;have e':frzS t=some s:=by simpa using e
       cases t with
       | v x =>
         cases e';obtain⟨v,e1,r⟩:=q;exact⟨v,e1,mm r⟩
       | ow k xs =>
         obtain⟨a,vs,ev,h1,h2,h3,h4,r⟩:=q;cases k with
         | lst=>cases e';exact⟨.ref a,ev,a,vs,rfl,⟨h3,h4⟩,mms r⟩
         | dk ks =>
           have e':(if ks.length=xs.length then some (Slot.v (.dct ks xs)) else none)=some s:=e'
           split at e'
           · rename_i hl;cases e';have hlv:ks.length=vs.length:=by rw [hl];exact r.length
             refine⟨.ref a,ev,a,ks.zip vs,rfl,h3,h4,List.map_fst_zip (x4N hlv),?_⟩;rw [List.map_snd_zip (x4N hlv.symm)];exact mms r
           · cases e'
         | dt ks=>cases e'
         | st ks=>cases e'
 inj i j xs ys a e1:=by
   have:∀o:Option Slot,o.bind frzS≠some (.ow xs.1 xs.2):=by
     intro o z;cases o with
     | none=>cases z
     | some t =>
       cases t with
       | v x=>cases z
       | ow k ys =>
         cases k with
         | lst=>cases z
         | dk ks =>
           have z:(if ks.length=ys.length then some (Slot.v (.dct ks ys)) else none)=some (.ow xs.1 xs.2):=z
           split at z <;> cases z
         | dt ks=>cases z
         | st ks=>cases z
   unfold frz at e1;rw [x0p] at e1;cases h:env[i]? with
   | none=>rw [h] at e1;cases e1
   | some o=>rw [h] at e1;exact absurd (x0H e1) (this o)
 p0:=⟨fun p hp=>hp,S.hasG⟩
 len:=by unfold frz;rw [x0e];exact S.len
 newp p hp h:=absurd hp h
theorem SR.back {C:Ct}{G:Gh}{σ:St}{H H':Hp}{env env':Env}{n n':Nat}(hT:a7M C.T)(S:SR C G σ H env n)(S':SR ⟨C.K,C.T,G.pots,G.pots,H,C.np⟩ ⟨G.pots,G.pots⟩ σ H' env' n'):SR C G σ H' env n':=
 S.call (fun b o hb e=>S'.frame b o hb e) fun p hp=>hT _ _ _ _ _ (S'.pots p hp).2 fun a ha=>by
   by_cases h:a∈G.pots
   · exact .inl h
   · obtain⟨o,e,m⟩:=S.mu a ha;exact .inr ⟨o,S'.frame a o h e,m⟩
noncomputable def b2x (pe:pE):pE:=fun env n R=>pe (frz env) n fun x env' n'=>noMut x=true/\R x env n'
noncomputable def a8g (pn:pA):pA:=fun env n R=>pn (frz env) n fun xs env' n'=>a3X xs=true/\R xs env n'
section
variable {T:PotK}{ι:Type}{K:x0b}{F:ι->Cx}{e:Expr}{pe:pE}{pn:pA}
theorem b0e (hT:a7M T)(h:QE T K F e pe):QE T K F e (b2x pe):=by
 obtain⟨t,h1,h2⟩:=h;refine⟨t,h1,fun C G σ H env n R Q hK hT' S hp k=>?_⟩;refine h2 ⟨C.K,C.T,G.pots,G.pots,H,C.np⟩ ⟨G.pots,G.pots⟩ σ H (frz env) n _ _ hK hT' S.lend hp fun x env' n' v H' r S' rp f=>?_;have S2:=S.back (by rw [hT'];exact hT) S';exact k _ _ _ _ _ r.2 S2 (Rep.noMut S2.mu _ _ r.1 rp) fun b o hb e=>S'.frame b o (fun z=>hb (S.pots b z).1) e
theorem b2N {t:TE}(hT:a7M T)(h2:NOk K T t pn):NOk K T t (a8g pn):=fun C G σ H env n R Q hK hT' S hp k=>by
 refine h2 ⟨C.K,C.T,G.pots,G.pots,H,C.np⟩ ⟨G.pots,G.pots⟩ σ H (frz env) n _ _ hK hT' S.lend hp fun xs env' n' a vs Hb r S' f hb rp=>?_;have S2:=S.back (by rw [hT'];exact hT) S';exact k _ _ _ _ _ _ r.2 S2 (fun b o hb e=>S'.frame b o (fun z=>hb (S.pots b z).1) e) hb (Reps.noMut S2.mu _ _ r.1 rp)
theorem b4R (hT:a7M T)(h:QNC T K F e pn):QNC T K F e (a8g pn):=by
 obtain⟨t,h1,h3,h2⟩:=h;exact⟨t,h1,h3,b2N hT h2⟩
end
theorem a4y:a7M potL:=fun _ _ _ _ _ h _=>h
end Pu
end
section
namespace L2
open PySem PySem.Spec PyProof.Rows PySem.MeetsSeq PySem.SeqAt
theorem a5G (l:Addr)(items:Array Value)(n:Nat)(x:Value)(e:Value->Bool)(j:Nat)(hj:j < items.size)(hit:e items[j]=true)(k:Nat)(hs1:items.size<=x0B) :
   ∀ i : Nat, j - i = k -> i <= j -> (∀ m (hm : m < items.size), i <= m -> m < j -> e items[m] = false) -> Meets (x3c.«list.remove.loop» ⟨[.ref l, x, rawInt i], []⟩)
     (fun A R s=>s.heap.get? l=some { cls:=.type "list",dict:=none,data:=.seq items n,slots:=#[] }/\(∀y,y∈items->EqAt A.in1 s y x (e y))/\R (.ok (.ret .none)) { s with heap:=s.heap.update l (x0J fun xs=>xs.eraseIdxIfInBounds j) }):=by
 induction k with
 | zero =>
   intro i hk hij hno prog w A R s h;obtain⟨hp,g,d,tk,os⟩:=s;obtain⟨hl,he,h⟩:=h;have hij':i=j:=by omega
   subst hij'
   wp_walk using x4F hl
   have hi:items[((i:Nat):Int).toNat]?=some items[i]:=by simp [hj]
   rw [hi];refine x0a (he _ (Array.getElem_mem hj) prog w _ _ ?_);rw [hit];have hz':(items.eraseIdxIfInBounds i).size<=x0B + 1:=x1f (size_erased items _) (x3Z hs1)
   wp_walk using(wpAny_updateSeq hl rfl (hz:=hs1) (_hz':=hz')),x4F hl
   simpa using h
 | succ k ih =>
   intro i hk hij hno prog w A R s h;obtain⟨hp,g,d,tk,os⟩:=s;obtain⟨hl,he,h⟩:=h;have hlt:i < items.size:=by omega
   wp_walk using x4F hl
   have hi:items[((i:Nat):Int).toNat]?=some items[i]:=by simp [hlt]
   have hc:((i:Int) + 1)=((i + 1:Nat):Int):=by push_cast;rfl
   rw [hi];refine x0a (he _ (Array.getElem_mem hlt) prog w _ _ ?_);rw [hno i hlt (x0m _) (by omega)]
   wp_walk
   rw [hc]
   exact⟨x2t plain_remove_loop _,x1O entry_remove_loop (by
     rw [x1B plain_remove_loop _]
     exact ih (i + 1) (by omega) (by omega) (fun m hm h1 h2=>hno m hm (by omega) h2) prog w A R _ ⟨hl,he,h⟩)⟩
theorem a5P (l:Addr)(items:Array Value)(n:Nat)(x:Value)(e:Value->Bool)(j:Nat)(hj:j < items.size)(hit:e items[j]=true)(hno:∀m (hm:m < items.size),m < j->e items[m]=false)(hs1:items.size<=x0B) :
   Meets (x3c.«list.remove» ⟨[.ref l,x],[]⟩)
     (fun A R s=>s.heap.get? l=some { cls:=.type "list",dict:=none,data:=.seq items n,slots:=#[] }/\(∀y,y∈items->EqAt A.in1 s y x (e y))/\R (.ok (.ret .none)) { s with heap:=s.heap.update l (x0J fun xs=>xs.eraseIdxIfInBounds j) }):=by
 intro prog w A R s h;obtain⟨hp,g,d,tk,os⟩:=s;obtain⟨hl,he,h⟩:=h
 wp_walk using x4F hl
 exact⟨x2t plain_remove_loop _,x1O entry_remove_loop (by
   rw [x1B plain_remove_loop _]
   exact a5G l items n x e j hj hit _ hs1 0 rfl (x0U _) (fun m hm _ h2=>hno m hm h2) prog w A R _ ⟨hl,he,h⟩)⟩
noncomputable def a9T (K:x0b)(d:Nat):V->List V->Hp->VK->Prop:=fun x vs H Q=>∃l xs y,∃f:Nat->Bool,∃j,x=.ref l/\vs=[y]/\H l=some (.lst xs)/\(∀(j:Nat) z,xs[j]?=some z->EqD K H d z y (f j))/\f j=true/\(∀i,i < j->f i=false)/\j < xs.length/\Q .non (upd H l (.lst (xs.eraseIdx j)))
section
variable {X:Cx}
open Classical in
theorem b5J {pins:List (Addr×Obj)}{σ:St}{H:Hp}{s:Shared}(I:Inv X pins σ H s){d:Nat}{A:Around}(hu:A.units + d < cLine){ys:List V}{its:List Value}(r:Vals ys its){x:V}{v:Value}(rx:RelV x v){f:Nat->Bool}(hf:∀(j:Nat) z,ys[j]?=some z->EqD X.K H d z x (f j)) :
   ∃e:Value->Bool,(∀y,y∈its->x3Y A s y v (e y))/\(∀(j:Nat) (hj:j < its.length),e its[j]=f j):=by
 have key:∀(j j':Nat) (z:Value),its[j]?=some z->its[j']?=some z->f j=f j':=by
   intro j j' z h h';obtain⟨hj,_⟩:=x0i.mp h;obtain⟨hj',_⟩:=x0i.mp h';obtain⟨w1,a1,b1⟩:=r.getE hj;obtain⟨w2,a2,b2⟩:=r.getE hj';rw [x0c hj] at h;rw [x0c hj'] at h';cases h;rw [x0H h'] at b2;have:=b1.inj b2;subst this;exact EqD.det I d _ _ _ _ (hf j _ a1) (hf j' _ a2)
 let e:Value->Bool:=fun y=>decide (∃j,its[j]?=some y/\f j=true)
 have he:∀(j:Nat) (y:Value),its[j]?=some y->e y=f j:=by
   intro j y h;show decide _=_;cases hb:f j with
   | true=>exact decide_eq_true ⟨j,h,hb⟩
   | false=>exact decide_eq_false fun⟨j',h1,h2⟩=>by rw [key j j' y h h1,h2] at hb;cases hb
 refine⟨e,fun y hy=>?_,?_⟩
 · obtain⟨j,hj,rfl⟩:=x2n hy;obtain⟨w1,a1,b1⟩:=r.getE hj;rw [he j _ (x0c hj)];exact((hf j w1 a1).at I d A w1 x _ v (f j) hu b1 rx).1
 · intro j hj;exact he j _ (x0c hj)
end
theorem b0K {X:Cx}(d:Nat)(hu:X.A.units + (d + 1) < cLine):MtM X "list.remove" (a9T X.K d):=by
 intro pins s σ H x vs v us Q I rx rv h;obtain⟨l,xs,y,f,j,rfl,rfl,hH,hf,hj,hno,hlt,q⟩:=h;cases rx;obtain⟨u,rfl,ru⟩:=rv.one;obtain⟨z,its,n,r,hl,e⟩:=I.lstM hH;obtain⟨ee,h1,h2⟩:=b5J I (A:=X.A.in1) (by rw [in1_units];omega) r ru hf;have hlt':j < its.length:=by omega
 refine call_meets F.slot_list_remove ⟨_,e,rfl⟩ F.entry_list_remove (F.args_list_remove_2 _ _) (a5P l its.toArray n u ee j (by simpa using hlt') (by simpa using(h2 j hlt').trans hj) (fun m hm hmj=>by simpa using(h2 m (by simpa using hm)).trans (hno m hmj)) (by rw [x0q];omega)) ⟨e,fun y hy=>h1 y (by simpa using hy),?_⟩;refine⟨.non,_,I.lset (its':=its.eraseIdx j) hH e ?_ (r.eraseIdx j) ?_,rfl,q⟩
 · show its.toArray.eraseIdxIfInBounds j=(its.eraseIdx j).toArray;rw [List.eraseIdxIfInBounds_toArray]
 · have:=a4I xs j;omega
end L2
namespace Pu
open PySem PySem.Spec L2
section
variable {T:PotK}{ι:Type}{K:x0b}{F:ι->Cx}{e:Expr}{pe:pE}{pos:Pos}
noncomputable def a7o (d i:Nat)(pe:pE):pE:=fun env n R=>(∃xs,env[i]?=some (some (.ow .lst xs)))/\pe env n fun y env1 n1=>match env1[i]? with
 | some (some (.ow .lst xs))=>cmpb d y=true/\xs.all (cmpb d)=true/\∃j:Nat,(∃z,xs[j]?=some z/\eqP z y=true)/\(∀i,i < j->∀z,xs[i]?=some z->eqP z y=false)/\R .non (env1.set i (some (.ow .lst (xs.eraseIdx j)))) n1
 | _=>False
theorem b0b (d i:Nat){k0:Nat}{x:Str}{p ap:Pos}(hr:∀z,Room k0 (F z).A)(hv:∀z,EW (F z) (.Name x p) (tVar i))(he:QE T K F e pe)(hd:d<=30:=by decide)(hs:a0v e=true:=by rfl)(hbase:∀z,x2O (.Name x p) "remove" (F z).env (eval (.Name x p) (F z).env)=eval (.Name x p) (F z).env:=by intro _;rfl)(hline:(ap.endLine == pos.line)=true:=by rfl)
   (hfew:∀z,((backTo pos (x1h [e] (F z).env)).all (fun x=>!x.1) && (x4f pos (x2y [] (F z).env)).all (fun x=>x.1.isSome) && decide (([e]:List Expr).length + ([]:List x3p).length + (if([]:List x3p).isEmpty then 0 else 1) < 30))=true:=by intro _;rfl) (hK:∀z,(F z).K=K:=by intro _;rfl):QE T K F (.Call (.Attribute (.Name x p) "remove" ap) [e] [] pos) (a7o d i pe):=by
 obtain⟨t,a1,a2⟩:=he;refine⟨tBM K "list" (a9T K d) (tVar i) (a3c t tNil),fun z=>hK z▸a7u x2g PySem.F.slot_list_remove PySem.F.type_list_remove (b0K d (by have:=(hr z).units;omega)) (hv z).h (a0o (a1 z) a0E (a0e hs)) (hbase z) (hfew z) hline (a0e hs),fun C G σ H env n R Q hK hT S hp k=>?_⟩;obtain⟨⟨xs0,e0⟩,hp⟩:=hp;obtain⟨a,vs,ev,h1,h2,h3,h4,r⟩:=S.slots i _ e0;refine⟨.ref a,ev,.inl ⟨rfl,vs,SqL.of h4⟩,?_⟩;refine a2 C G σ H env n _ _ hK hT S hp fun y env1 n1 v H1 q1 S1 r1 f1=>?_
 split at q1
 · rename_i xs ex;obtain⟨cy,cx,j,⟨z,ej,hz⟩,hno,q2⟩:=q1;obtain⟨a',us,ev',g1,g2,g3,g4,r'⟩:=S1.slots i _ ex;rw [ev] at ev';cases ev';subst hK;obtain⟨S2,f2⟩:=S1.put ex ev (r'.eraseIdx j);have hj:j < xs.length:=(x0i.mp ej).1;refine⟨a,us,v,fun m=>match xs[m]? with | some z=>eqP z y | none=>false,j,rfl,rfl,g4,fun m w em=>?_,?_,fun m hm=>?_,by rw [<- r'.length];exact hj,k _ _ _ _ _ q2 S2 rfl (f1.trans f2)⟩
   · have hm:m < xs.length:=by rw [r'.length];exact(x0i.mp em).1
     obtain⟨w',ew',rw'⟩:=r'.get' (x0c hm);rw [em] at ew';cases ew';dsimp only;rw [x0c hm];exact a8x d _ _ _ _ (x0A.mp cx _ (x2q hm)) cy (.inl rw') (.inl r1)
   · dsimp only;rw [ej];exact hz
   · dsimp only;rw [x0c (show m < xs.length by omega)];exact hno m hm _ (x0c _)
 · exact q1.elim
end
end Pu
end
section
namespace Pu
open PySem PySem.Spec L2
noncomputable abbrev pSlN:=Env->Nat->(List Slot->Env->Nat->Prop)->Prop
noncomputable def b2e:pSlN:=fun env n R=>R [] env n
noncomputable def a3f (s:pSl)(r:pSlN):pSlN:=fun env n R=>s env n fun a env1 n1=>r env1 n1 fun ss env2 n2=>R (a::ss) env2 n2
noncomputable def setAll:List Nat->List Slot->Env->Env
 | i::is,s::ss,env=>setAll is ss (env.set i (some s))
 | _,_,env=>env
noncomputable def a7n:List Nat->List V->St->St
 | i::is,v::vs,σ=>a7n is vs (σ.set i (some v))
 | _,_,σ=>σ
noncomputable def Gots (C:Ct)(G:Gh)(H:Hp)(σ:St)(env:Env):List Slot->List V->Prop
 | [],vs=>vs=[]
 | s::ss,vs=>∃v r,vs=v::r/\Got C G H σ env s v/\(∀(xs:OK×List PV) a,s=.ow xs.1 xs.2->v=.ref a->∀(ys:OK×List PV) w,(Slot.ow ys.1 ys.2,w)∈ss.zip r->w≠.ref a)/\Gots C G H σ env ss r
noncomputable def LsOk (K:x0b)(T:PotK)(t:TA)(sl:pSlN):Prop:=∀(C:Ct) (G:Gh) (σ:St) (H:Hp) (env:Env) (n:Nat) (R:List Slot->Env->Nat->Prop) (Q:List V->Hp->Prop),C.K=K->C.T=T->SR C G σ H env n->sl env n R->
 (∀ss env' n' vs G' H',R ss env' n'->SR C G' σ H' env' n'->Ext G H G' H'->Gots C G' H' σ env' ss vs->Q vs H')->t σ H Q
noncomputable def QLs {ι:Type}(T:PotK)(K:x0b)(F:ι->Cx)(es:List Expr)(sl:pSlN):Prop:=∃t,(∀z,PA (F z) es t)/\LsOk K T t sl
section
variable {T:PotK}{np:Bool}{ι:Type}{K:x0b}{F:ι->Cx}{e:Expr}{es:List Expr}{st:Stmt}{s1:pSl}{sl:pSlN}{pos:Pos}
theorem a9Z:QLs T K F [] b2e:=⟨tNil,fun z=>a0E,fun C G σ H env n R Q hK hT S hp k=>k _ _ _ _ _ _ hp S Ext.refl rfl⟩
theorem Gots.unguard {C:Ct}{G:Gh}{H:Hp}{σ:St}{env:Env}{a:Addr}{us:List V}:∀{ss:List Slot} {vs:List V},Gots (C.guard a us) G H σ env ss vs->Gots C G H σ env ss vs/\∀(ys:OK×List PV) w,(Slot.ow ys.1 ys.2,w)∈ss.zip vs->w≠.ref a
 | [],_,h=>⟨h,fun _ _ z=>by simp at z⟩
 | s :: ss, vs, h => by
   obtain⟨v,r,rfl,g,ne,h⟩:=h;obtain⟨h1,h2⟩:=Gots.unguard h
   have gy:Got C G H σ env s v:=by
     refine⟨?_,g.2⟩;cases s with
     | v x=>exact g.1
     | ow kk ys =>
       obtain⟨b,us,ev,g1,g2,g3,g4,r⟩:=g.1;exact⟨b,us,ev,g1,fun z=>g2 (x0f _ z),g3,g4,r⟩
   refine⟨⟨v,r,rfl,gy,ne,h1⟩,fun ys w hw ew=>?_⟩;rw [x1P] at hw;rcases x0k.mp hw with e | hw
   · cases e;obtain⟨b,us,ev,g1,g2,_⟩:=g.1;rw [ew] at ev;cases ev;exact g2 x0g
   · exact h2 ys w hw ew
theorem a2j (h:QL T K F e s1)(hr:QLs T K F es sl)(n1:a0v e=true:=by rfl):QLs T K F (e::es) (a3f s1 sl):=by
 obtain⟨t,a1,a2⟩:=h;obtain⟨u,b1,b2⟩:=hr;refine⟨a3c t u,fun z=>a0o (a1 z) (b1 z) (a0e n1),fun C G σ H env n R Q hK hT S hp k=>?_⟩;refine a2 C G σ H env n _ _ hK hT S hp (fun x env1 n1 v H1 q1 S1 r1 f1=>?_) fun xs env1 n1 a vs Hb q1 S1 f1 hn rs=>?_
 · refine b2 C G σ H1 env1 n1 _ _ hK hT S1 q1 fun ss env2 n2 ws G2 H2 q2 S2 x2 g2=>?_;exact k _ _ _ _ _ _ q2 S2 ((Ext.fr f1).trans x2) ⟨v,ws,rfl,⟨⟨v,rfl,Rep.mono x2.keep x2.new x2.pot _ _ (hK▸r1)⟩,fun _ _ z=>nomatch z⟩,(fun _ _ z=>nomatch z),g2⟩
 · have aM:=S1.fresh hn;have S1g:=S1.guard vs hn;have a0:a∉C.M0:=fun z=>aM (S1.sup a z);have aH:=S1.old hn;have x1:Ext G H ⟨a::G.M,G.pots⟩ (upd Hb a (.lst vs)):=(Ext.fr f1).trans (a4k hn);have r1:Reps C.K ⟨a::G.M,G.pots⟩ (upd Hb a (.lst vs)) xs vs:=Reps.mono (G':=⟨a::G.M,G.pots⟩) (H':=upd Hb a (.lst vs)) (fun b o _ e=>Same.lay1 hn b o e) (fun c hc=>(x0k.mp (show c∈a::G.M from hc)).elim (fun z=>.inr (z▸hn)) .inl) (fun _ _ e=>e) _ _ (hK▸rs);refine b2 (C.guard a vs) ⟨a::G.M,G.pots⟩ σ (upd Hb a (.lst vs)) env1 n1 _ _ hK hT S1g q1 fun ss env2 n2 ws G2 H2 q2 S2 x2 g2=>?_;obtain⟨S3,e3,no⟩:=S2.unguard a0 S1.p0.1 aH;have aM2:a∈G2.M:=S2.sup a x0g
   have ap2:a∉G2.pots:=fun z=>by
     by_cases hz:a∈C.pots0
     · exact a0 (S1.p0.1 a hz)
     · exact S2.newp a z hz x0g
   obtain⟨g3,g4⟩:=Gots.unguard g2;refine k _ _ _ _ _ _ q2 S3 (x1.trans x2) ⟨.ref a,ws,rfl,⟨⟨a,vs,rfl,aM2,a0,ap2,e3,Reps.mono x2.keep x2.new x2.pot _ _ r1⟩,fun _ _ _ e=>by cases e;exact no⟩,fun xs' b ex ev ys w hw=>?_,g3⟩;cases ev;exact g4 ys w hw
theorem Gots.len {C:Ct}{G:Gh}{H:Hp}{σ:St}{env:Env}:∀{ss:List Slot} {vs:List V},Gots C G H σ env ss vs->ss.length=vs.length
 | [],_,h=>by cases(show _=[] from h);rfl
 | s :: ss, vs, h => by
   obtain⟨v,r,rfl,g,ne,h⟩:=h;have:=Gots.len h;simp [this]
theorem Gots.set {C:Ct}{G:Gh}{H:Hp}{σ:St}{env:Env}{i:Nat}{s0:Slot}{v0:V}(hl:env.length=σ.length):∀{ss:List Slot} {vs:List V},Gots C G H σ env ss vs->(∀(xs:OK×List PV) a,s0=.ow xs.1 xs.2->v0=.ref a->∀(ys:OK×List PV) w,(Slot.ow ys.1 ys.2,w)∈ss.zip vs->w≠.ref a)->Gots C G H (σ.set i (some v0)) (env.set i (some s0)) ss vs
 | [],_,h,_=>h
 | s :: ss, vs, h, no => by
   obtain⟨v,r,rfl,g,ne,h⟩:=h;refine⟨v,r,rfl,⟨g.1,fun xs a e1 e2 z=>?_⟩,ne,Gots.set hl h fun xs a e1 e2 ys w hw=>no xs a e1 e2 ys w (by rw [x1P];exact x0f _ hw)⟩;rcases a4B hl z with z | ⟨⟨zs,ez⟩,ev⟩
   · exact g.2 xs a e1 e2 z
   · exact no zs a ez ev xs v (by rw [x1P,e1];exact x0g) e2
theorem SR.setAll {C:Ct}{G:Gh}{H:Hp}{n:Nat}:∀(is:List Nat) (ss:List Slot) (vs:List V) {σ:St} {env:Env},SR C G σ H env n->Gots C G H σ env ss vs->SR C G (a7n is vs σ) H (Pu.setAll is ss env) n
 | [],_,_,_,_,S,_=>S
 | i::is,[],vs,_,_,S,g=>by cases(show vs=[] from g);exact S
 | i :: is, s :: ss, vs, σ, env, S, g => by
   obtain⟨v,r,rfl,g1,ne,g2⟩:=g;exact SR.setAll is ss r (S.slot i g1.1 g1.2) (g2.set S.len ne)
theorem Gots.same {C:Ct}{G:Gh}{H H':Hp}{σ:St}{env:Env}(sm:Same H H'):∀{ss:List Slot} {vs:List V},Gots C G H σ env ss vs->Gots C G H' σ env ss vs
 | [],_,h=>h
 | s :: ss, vs, h => by
   obtain⟨v,r,rfl,g,ne,h⟩:=h;refine⟨v,r,rfl,⟨?_,g.2⟩,ne,h.same sm⟩;have r:=g.1;cases s with
   | v x=>obtain⟨v',e,r⟩:=r;exact⟨v',e,r.same sm⟩
   | ow kk xs=>obtain⟨b,us,e,h1,h2,h3,h4,r⟩:=r;exact⟨b,us,e,h1,h2,h3,sm _ _ h4,r.same sm⟩
noncomputable def a3Z:List Nat->TGs
 | []=>gNil
 | i::is=>a6K (a1J i) (a3Z is)
theorem a6J:∀(is:List Nat) (vs:List V) {σ:St} {H:Hp} {Q:St->Hp->Prop},is.length=vs.length->Q (a7n is vs σ) H->a3Z is vs σ H Q
 | [],[],_,_,_,_,q=>⟨rfl,q⟩
 | i::is,v::vs,σ,H,Q,h,q=>⟨v,vs,rfl,a6J is vs (by simpa using h) q⟩
theorem b3S {X:Cx}(K:x0b){es:List Expr}{k m:Nat}{is:List Nat}(hc:X.calm=true)(h:PGs X es (a3Z is))(hn:(x1k es X.env).length=m:=by rfl)(hst:(x1k es X.env).findIdx? (·.1)=none:=by rfl)(hK:X.K=K:=by rfl):GW X (.Tuple es k pos) (gTup K m (a3Z is)):=⟨hK▸b0r hc h hn hst⟩
theorem a7s {X:Cx}{i:Nat}{is:List Nat}(h1:GW X e (a1J i))(h2:PGs X es (a3Z is))(hs:(x1k (e::es) X.env).map (·.2)=assign e X.env::(x1k es X.env).map (·.2):=by rfl):PGs X (e::es) (a3Z (i::is)):=a4g h1.h h2 hs
theorem pgs_n {X:Cx}:PGs X [] (a3Z []):=a7r
noncomputable def b2w (is:List Nat)(sl:pSlN):pS:=fun D env n=>sl env n fun ss env1 n1=>ss.length=is.length/\D.nx (setAll is ss env1) n1
theorem a9X (is:List Nat){tg:Expr}{k:Nat}{p:Pos}(h:∀z te g,EW (F z) (.Tuple es k p) te->GW (F z) tg g->SW (F z) st (tAsg te g))(hg:∀z,GW (F z) tg (gTup K is.length (a3Z is)))(h1:QLs T K F es sl)(hz:is.length<=100:=by decide):QS T np K F st (b2w is sl):=by
 obtain⟨t,a1,a2⟩:=h1;refine⟨_,fun z=>(h z _ _ ⟨b0t (a1 z)⟩ (hg z)).h,fun C G σ H env n PD D hK hT hn S hp L=>?_⟩;refine a2 C G σ H env n _ _ hK hT S hp fun ss env2 n2 vs G2 H2 q S2 x2 g=>?_;have lv:vs.length=is.length:=g.len.symm.trans q.1;refine⟨by rw [lv];exact x1f hz (by decide),fun p hn'=>⟨p,vs,rfl,SqT.of a0l,lv,a6J is vs lv.symm ?_⟩⟩;have sm:Same H2 (upd H2 p (.tup vs)):=Same.lay1 hn';exact L.nx _ _ _ _ _ q.2 (SR.setAll is ss vs (S2.same sm) (g.same sm)) (x2.trans (Ext.fr (Fr.of sm)))
end
end Pu
end
section
namespace L2
open PySem PySem.Spec PyProof.Rows
section
variable {prog:x0G}{w:World}{A:Around}{E:Value->Shared->Prop}{s:Shared}
theorem b1v {it t:Addr}{items:Array Value}(hne:t≠it):∀(n i:Nat) (s:Shared) (Q:List Value->Shared->Prop),s.heap.IsListIter it t i->s.heap.IsList t items->i + n<=items.size->
   (∀h':Heap,h'.IsListIter it t (i + n)->x1Y it s.heap h'->Q ((items.toList.drop i).take n) { s with heap:=h' })->wpAny (model prog w) A (draw (.ref it) n) Q E s:=by
 intro xq
 induction xq with
 | zero =>
   intro i s Q hit _ _ hQ;show wpAny _ _ (pure []) Q E s;exact x0h (by simpa using hQ s.heap hit (Heap.SameBut.refl ..))
 | succ n ih =>
   intro i s Q hit ht hle hQ;have hlt:i < items.size:=by omega
   show wpAny _ _ (pyNext (.ref it)>>=_) Q E s;refine x0a (wpAny_pyNext_list_item hit ht (x:=items[i]) (by simp [hlt]) fun h₁ hit₁ hs₁=>?_);refine x0a (x0V (ih (i + 1) _ _ hit₁ (ht.extBut hs₁.extBut hne) (by omega) fun h₂ hit₂ hs₂=>x0h ?_));have hd:items.toList.drop i=items[i]::items.toList.drop (i + 1):=by simp [x1A,hlt]
   have:=hQ h₂ (by rw [show i + (n + 1)=i + 1 + n by omega];exact hit₂) (hs₁.trans hs₂);rw [hd,List.take_succ_cons] at this;exact this
theorem a3M {env:Env}{elts:List Expr}{x1}{pos:Pos}{t:Addr}{items:Array Value}{Q:Unit->Shared->Prop}(hh:A.handled=none)(ht:s.heap.IsList t items)
   (hn:(x1k elts env).length=items.size) (hstar:(x1k elts env).findIdx? (·.1)=none)
   (h:∀h',x4Y s.heap.objs.size s.heap h'->wpAny (model prog w) A (x3D ((x1k elts env).map (·.2)) items.toList) Q E { s with heap:=h' }) :
   wpAny (model prog w) A (assign (.Tuple elts x1 pos) env (.ref t)) Q E s:=by
 rw [assign_Tuple];refine x0a (x1V ?_);have hlt:t≠s.heap.objs.size:=by obtain⟨o,ho,_⟩:=ht;exact x0r (x0o ho)
 unfold unpack;rw [hn,hstar];refine x0a (x0V ?_);unfold unpackItems;refine x0a ?_;unfold notIterableAtAll;refine x0a (wpAny_specialOf ht.typeIs slot_list_iter.lookup ?_);refine x0h ?_;simp only [x0w,if_false];refine x0a (x0V (x3i ht ?_));refine x0a (x0V (b1v hlt items.size 0 _ _ ⟨_,x0s _ rfl,rfl,rfl⟩ (ht.push _) (by omega) fun h₁ hit₁ hs₁=>?_))
 have hall:List.take items.size (List.drop 0 items.toList)=items.toList:=by
   rw [x4P];exact x1S (by simp)
 rw [hall];rw [if_neg (by simp)];have ht₁:h₁.IsList t items:=(ht.push _).extBut hs₁.extBut hlt;refine x0a (x0V (wpAny_pyNext_list_end hh hit₁ ht₁ (by simp) fun h₂ he₂=>?_));simp only [Option.isSome_none,x0w,if_false];exact x0h (h h₂ fun b o hb e=>he₂ b o hb (hs₁.extBut b o hb (x0d _ e)))
end
section
variable {X:Cx}{pos:Pos}
noncomputable def gLst (K:x0b)(n:Nat)(t:TGs):TG:=fun v σ H Q=>∃a xs,v=.ref a/\SqL K H a xs/\xs.length=n/\t xs σ H Q
theorem pg_lst {es:List Expr}{k:Nat}{t:TGs}{n:Nat}(hc:X.calm=true)(h:PGs X es t)
   (hn:(x1k es X.env).length=n:=by rfl) (hst:(x1k es X.env).findIdx? (·.1)=none:=by rfl):PG X (.Tuple es k pos) (gLst X.K n t):=by
 intro pins s σ H v u Q I r hw;obtain⟨a,xs,e1,hq,hl,hw⟩:=hw;subst e1;cases r;obtain⟨its,rv,ht⟩:=I.sqL hq;refine a3M (I.ok.hd hc) ht (by simp [hn,<- hl,rv.length]) hst fun h' hx=>?_;have I1:Inv X pins σ H { s with heap:=h' }:=I.kept (t':=s.toks) fun b o e=>hx b o (x0r (x0o e)) e;exact h pins _ σ H xs _ Q I1 (by simpa using rv) hw
end
end L2
namespace Pu
open PySem PySem.Spec L2
section
variable {ι:Type}{K:x0b}{F:ι->Cx}{es:List Expr}{pgs:pGs}{pos:Pos}
noncomputable def gTl (m:Nat)(g:pGs):pG:=fun x env R=>match x with | .lst xs=>xs.length=m/\g xs env R | _=>False
theorem qg_lst {m:Nat}{k:Nat}(hc:∀z,(F z).calm=true)(h:QGs K F es pgs)(hn:∀z,(x1k es (F z).env).length=m:=by intro _;rfl)(hst:∀z,(x1k es (F z).env).findIdx? (·.1)=none:=by intro _;rfl)(hK:∀z,(F z).K=K:=by intro _;rfl):QG K F (.Tuple es k pos) (gTl m pgs):=by
 obtain⟨g,a1,a2⟩:=h;refine⟨_,fun z=>hK z▸pg_lst (hc z) (a1 z) (hn z) (hst z),fun C G σ H env n x v R Q hK S r hp k=>?_⟩;cases x with
 | lst xs =>
   obtain⟨a,vs,rfl,t,rs⟩:=r;exact⟨a,vs,rfl,t.sq,by rw [<- rs.length];exact hp.1,a2 C G σ H env n xs vs _ _ hK S rs hp.2 k⟩
 | _=>exact hp.elim
end
end Pu
end
section
namespace L2
open PySem PySem.Spec PyProof.Rows
noncomputable abbrev LC2 (elt t1 i1 t2 i2:Expr)(ifs:List Expr)(scope:Scope)(pos:Pos):Expr:=.ListComp elt [⟨t1,i1,[],0⟩,⟨t2,i2,ifs,0⟩] scope pos
theorem a9w (elt t1 i1 t2 i2:Expr)(ifs:List Expr)(scope:Scope)(pos:Pos)(it acc:Value)(env:Env) :
   compTurn (LC2 elt t1 i1 t2 i2 ifs scope pos) 1 it acc env=(do
     x4X i2.pos
     match ← pyNext it with
     | none=>pure (.done .next)
     | some v =>
       x2l t2 it v
       assign t2 env v
       let mut ok:=true
       for c in ifs do
         if ok then ok ← isTrue c env (eval c env)
       if ok then
         (do let _ ← call (.builtin "list.append") [acc,<- eval elt env])
       again (.compLoop (LC2 elt t1 i1 t2 i2 ifs scope pos) 1 it acc env)):=by rfl
section
variable {prog:x0G}{w:World}{A:Around}{R:Result->Shared->Prop}{s:Shared}{elt t1 i1 t2 i2:Expr}{ifs:List Expr}{scope:Scope}{pos:Pos}{it acc:Value}{env:Env}
theorem loop_i (I:Nat->Shared->Prop)
   (turn:∀n s,I n s->wpAny (model prog w) A (pyNext it) (fun r s₁=>match r with
     | none=>R (.ok .next) s₁
     | some v=>wpAny (model prog w) A (x2l t2 it v) (fun _ s₁'=>wpAny (model prog w) A (assign t2 env v) (fun _ s₂=>
         wpAny (model prog w) A (forIn ifs true fun c r=>if r=true then do let ok ← isTrue c env (eval c env);pure (x2m ok) else pure (x2m r)) (fun ok s₃=>
           if ok=true then wpAny (model prog w) A (eval elt env) (fun x s₄=>
             wpAny (model prog w) A (call (.builtin "list.append") [acc,x]) (fun _ s₅=>∃m,m < n/\I m s₅) (fun _ _=>False) s₄) (fun _ _=>False) s₃
           else ∃m,m < n/\I m s₃) (fun _ _=>False) s₂) (fun _ _=>False) s₁') (fun _ _=>False) s₁) (fun _ _=>False) s)
   (n:Nat) (h:I n s):x2x (model prog w) A (.compLoop (LC2 elt t1 i1 t2 i2 ifs scope pos) 1 it acc env) R s:=by
 refine codeAny_loop rfl I (fun n s hI=>?_) n h;show wpAny _ A ((compTurn (LC2 elt t1 i1 t2 i2 ifs scope pos) 1 it acc env).onRaise (fun x=>do noteFrame x env;theTreesLotGoes x)) _ _ s;refine wpAny_noted ?_;rw [a9w];refine x0a (x1V (x0a (x1g (turn n s hI) (fun r s₁ h₁=>?_) fun _ _ h'=>h'.elim)));cases r with
 | none=>exact x0h h₁
 | some v =>
   refine x0a (x1g h₁ (fun _ s₁' h₁'=>?_) fun _ _ h'=>h'.elim);refine x0a (x1g h₁' (fun _ s₂ h₂=>x0a (x1g h₂ (fun ok s₃ h₃=>?_) fun _ _ h'=>h'.elim)) fun _ _ h'=>h'.elim);cases ok with
   | false=>exact x0h ⟨rfl,h₃⟩
   | true =>
     exact x0a (x0a (x1g h₃ (fun x s₄ h₄=>x0a (x1g h₄ (fun _ s₅ h₅=>x0h (x0h ⟨rfl,h₅⟩)) fun _ _ h'=>h'.elim)) fun _ _ h'=>h'.elim))
theorem b4D (h0:x2x (model prog w) A (.compLoop (LC2 elt t1 i1 t2 i2 ifs scope pos) 1 it acc env) R s)
   (h:wpAny (model prog w) A (pyIter it) (fun it' s'=>x2x (model prog w) A (.compLoop (LC2 elt t1 i1 t2 i2 ifs scope pos) 1 it' acc env) R s') (fun _ _=>False) s) :
   x2x (model prog w) A (.compStart (LC2 elt t1 i1 t2 i2 ifs scope pos) 1 it acc env) R s:=by
 refine codeAny_of_tree ?_;show wpAny _ _ ((compStart (LC2 elt t1 i1 t2 i2 ifs scope pos) 1 it acc env).onRaise (fun x=>do noteFrame x env;x4X theWindowsPlace)) _ _ s;refine wpAny_notedAt ?_;unfold compStart;show wpAny _ _ (ask>>=_) _ _ s;refine x0a (x4p (wpAny_ite ?_))
 split
 · first
     | exact x0a (x0h (x0h (And.intro rfl h0)))
     | exact x0h (And.intro rfl h0)
 · first
     | exact x0a (x3U (x0a (x1V (x0a (x1g h (fun it' s' h'=>x0h (And.intro rfl h')) fun _ _ x=>x.elim)))))
     | (refine x0a (x3U ?_);show wpAny _ _ (x4X i2.pos>>=_) _ _ s;exact x0a (x1V (x0a (x1g h (fun it' s' h'=>x0h (And.intro rfl h')) fun _ _ x=>x.elim))))
theorem loop_o (hs:∀x,x1s i2 env x=pure x)(I:Nat->Shared->Prop)
   (turn:∀n s,I n s->wpAny (model prog w) A (pyNext it) (fun r s₁=>match r with
     | none=>R (.ok .next) s₁
     | some v=>wpAny (model prog w) A (x2l t1 it v) (fun _ s₁'=>wpAny (model prog w) A (assign t1 env v) (fun _ s₂=>
         wpAny (model prog w) A (eval i2 env) (fun x s₃=>wpAny (model prog w) A (pyIter x) (fun it2 s₄=>
           x2x (model prog w) A (.compStart (LC2 elt t1 i1 t2 i2 ifs scope pos) 1 it2 acc env) (fun r s'=>r=.ok .next/\∃m,m < n/\I m s') s₄) (fun _ _=>False) s₃) (fun _ _=>False) s₂) (fun _ _=>False) s₁') (fun _ _=>False) s₁) (fun _ _=>False) s)
   (n:Nat) (h:I n s):x2x (model prog w) A (.compLoop (LC2 elt t1 i1 t2 i2 ifs scope pos) 0 it acc env) R s:=by
 refine codeAny_loop rfl I (fun n s hI=>?_) n h;show wpAny _ A ((compTurn (LC2 elt t1 i1 t2 i2 ifs scope pos) 0 it acc env).onRaise (fun x=>do noteFrame x env;theTreesLotGoes x)) _ _ s;refine wpAny_noted ?_;unfold compTurn;show wpAny _ _ (x4X i1.pos>>=_) _ _ s;refine x0a (x1V ?_);refine x0a (x1g (turn n s hI) (fun r s₁ h₁=>?_) fun _ _ h'=>h'.elim);cases r with
 | none=>exact x0h h₁
 | some v =>
   refine x0a (x1g h₁ (fun _ s₁' h₁'=>?_) fun _ _ h'=>h'.elim);refine x0a (x1g h₁' (fun _ s₂ h₂=>x0a (wpAny_tests_nil ?_)) fun _ _ h'=>h'.elim);refine x0a (x1g h₂ (fun x s₃ h₃=>?_) fun _ _ h'=>h'.elim);refine x0a (x1V ?_);show wpAny _ _ (x1s i2 env x>>=fun x=>(x3T [x] (pyIter x)>>=fun it2=>(runOwn (.compStart (LC2 elt t1 i1 t2 i2 ifs scope pos) 1 it2 acc env) env>>=fun _=>again (.compLoop (LC2 elt t1 i1 t2 i2 ifs scope pos) 0 it acc env)))) _ _ _;refine x0a (wpAny_of_eq (hs x) (x0a (x0V (x1g h₃ (fun it2 s₄ h₄=>?_) fun _ _ h'=>h'.elim))));refine x0a (wpAny_runOwn ?_);rw [Around.mark_none];refine x3y h₄ fun r s' hr=>?_;obtain⟨rfl,hr⟩:=hr;exact x0h ⟨rfl,hr⟩
end
noncomputable def b4p (J:It)(g:TG)(tt:TT)(te:TE)(D:Addr)(N:St->Hp->Prop)(σ:St)(H:Hp):Prop:=∃W:Nat->Nat->St->Hp->Prop,(∃m,W 0 m σ H)/\
 ∀i m σ' H',W i m σ' H'->(J.stop i H'/\N σ' H')\/(J.go i H'/\∀x H2,J.yld i H' x H2->g x σ' H2 fun σ3 H3=>tt σ3 H3 fun b H4=>
    if b=true then te σ3 H4 fun v H5=>∃ys,H5 D=some (.lst ys)/\ys.length < x0B/\∃m',m' < m/\W (i + 1) m' σ3 (upd H5 D (.lst (ys++[v])))
    else ∃m',m' < m/\W (i + 1) m' σ3 H4)
noncomputable def b4o (J:It)(g1:TG)(wi2:TI)(g2:TG)(tt:TT)(te:TE)(Q:VK)(D:Addr)(σc:St)(H1:Hp):Prop:=∃W:Nat->Nat->St->Hp->Prop,(∃m,W 0 m σc H1)/\
 ∀i m σ' H',W i m σ' H'->(J.stop i H'/\Q (.ref D) H')\/(J.go i H'/\∀x H2,J.yld i H' x H2->g1 x σ' H2 fun σ3 H3=>wi2 σ3 H3 fun J2 H4=>b4p J2 g2 tt te D (fun σ5 H5=>∃m',m' < m/\W (i + 1) m' σ5 H5) σ3 H4)
noncomputable def tComp2 (cs:List (Option Nat))(wi:TI)(g1:TG)(wi2:TI)(g2:TG)(tt:TT)(te:TE):TE:=fun σ H Q=>wi σ H fun J H1=>∀D,H1 D=none->b4o J g1 wi2 g2 tt te Q D (a9z cs σ) (upd H1 D (.lst []))
theorem b2I {X:Cx}{scope:Scope}{cl:List (Str×Addr)}{N:List Str}{cs:List (Option Nat)}{elt t1 i1 t2 i2:Expr}{ifs:List Expr}{pos:Pos}{wi1 wi2:TI}{g1 g2:TG}{tt:TT}{te:TE}(S:a1x X scope cl N cs)(hc:X.calm=true)(hi:PI X t1 i1 wi1)
   (hb:∀(fp:List Addr) (C:Addr) (s:Shared) (H:Hp),PG (a0z X scope cl N fp C s H) t1 g1/\PI (a0z X scope cl N fp C s H) t2 i2 wi2/\PG (a0z X scope cl N fp C s H) t2 g2/\PIf (a0z X scope cl N fp C s H) ifs tt/\PE (a0z X scope cl N fp C s H) elt te)
   (hs2:∀fp C s H x,x1s i2 (a0z X scope cl N fp C s H).env x=pure x)
   (hs:∀x,x1s i1 X.env x=pure x:=by intro _;rfl) :
   PE X (LC2 elt t1 i1 t2 i2 ifs scope pos) (tComp2 cs wi1 g1 wi2 g2 tt te):=by
 intro pins s σ H Q I h;rw [eval_ListComp];refine x3B (use:=none) rfl hs S.clos S.kind S.names (thn (hi pins s σ H _ I h) fun v s1 h1=>thn h1 fun itv s2 h2=>?_);obtain⟨it,fp,tn,J,H2,rfl,I2,T,st2,f2,q⟩:=h2
 have ho:∀b∈fp,∃o,s2.heap.get? b=some o:=fun b hb=>by
   obtain⟨o,e,_⟩:=T.obj 0 _ st2 b hb;exact⟨o,e⟩
 refine x0Z (x3q S.nocell (by intro y hy;simp at hy) (fun h₁ hns₁ hsb₁=>?_) S.kind);dsimp only at hns₁ hsb₁ ⊢;have hC:(s2.heap.push { cls:=.type "list",dict:=none,data:=.seq ([]:List Value).toArray }).objs.size=s2.heap.objs.size + 1:=by rw [x1X]
 generalize hH2:s2.heap.push { cls:=.type "list",dict:=none,data:=.seq ([]:List Value).toArray }=hp2 at hns₁ hsb₁ hC ⊢;have old:∀b o,s2.heap.get? b=some o->h₁.get? b=some o:=fun b o e=>hsb₁.extBut b o (by rw [hC];exact x0r (x1d (x0o e))) (x0d _ (hH2▸x0d _ e));have hD:h₁.get? s2.heap.objs.size=some { cls:=.type "list",data:=.seq ([]:List Value).toArray }:=hsb₁.extBut _ _ (by rw [hC];exact x0r (x2e _)) (x0d _ (hH2▸x0s _ rfl));rw [hC] at hns₁ ⊢;obtain⟨W,⟨m0,w0⟩,turn⟩:=q s2.heap.objs.size I2.fresh;have Ic:=a5V S (tk:=s2.toks + ([]:List (Str×Value)).length) I2 f2 ho old hns₁ hD;have nstk:∀b,b≠X.env.locals->b∉X.fs->b∉frs X.stack:=fun b h1 h2 hb=>(x0k.mp (I2.stkSub b hb)).elim h1 h2
 have stat:∀{H':Hp},(∀b∈fp,H' b=none)->∀b∈fp,FpOk (a0z X scope cl N fp (s2.heap.objs.size + 1) s2 H2) pins H' b:=fun hn b hb=>by
   obtain⟨o,e⟩:=ho b hb;exact⟨hn b hb,x0r (x1d (x0o e)),nstk b (f2 b hb).2.1 (f2 b hb).2.2.1,.inl hb,fun x c ec=>(f2 b hb).2.2.2.2.1 x c (S.sub x c ec),(f2 b hb).2.2.2.2.2⟩
 obtain⟨hg,hi2,hg2,hf,he⟩:=hb fp (s2.heap.objs.size + 1) s2 H2;have st1:tn 0 h₁:=T.keep _ _ _ st2 fun b hb o e=>old b o e
 have fr1:∀b∈fp,upd H2 s2.heap.objs.size (.lst []) b=none:=fun b hb=>by
   obtain⟨o,e⟩:=ho b hb;rw [a0j (x0r (x0o e))];exact(f2 b hb).1
 have loop:∀s₃:Shared,s₃={ s2 with heap:=h₁,toks:=s2.toks + ([]:List (Str×Value)).length }->
     x2x (model X.prog X.w) X.A (.compLoop (LC2 elt t1 i1 t2 i2 ifs scope pos) 0 (.ref it) (.ref s2.heap.objs.size) (compEnvC scope cl (s2.heap.objs.size + 1) X.env))
       (compPost (model X.prog X.w) X.A X.xe none (EP X pins σ Q) (.ref s2.heap.objs.size) (s2.heap.objs.size + 1)) s₃:=by
   rintro s₃ rfl;refine loop_o (hs2 fp (s2.heap.objs.size + 1) s2 H2) (fun n s'=>∃i σ' H',Inv (a0z X scope cl N fp (s2.heap.objs.size + 1) s2 H2) pins σ' H' s'/\tn i s'.heap/\(∀b∈fp,H' b=none)/\W i n σ' H') ?_ m0 ⟨0,_,_,Ic,st1,fr1,w0⟩;rintro n s3 ⟨i,σ3,H3,I3,st3,fr3,w3⟩;rcases turn i n σ3 H3 w3 with⟨stop,qn⟩ | ⟨go,step⟩
   · refine thn (T.done (a0z X scope cl N fp (s2.heap.objs.size + 1) s2 H2) rfl rfl rfl hc i pins s3 σ3 H3 (fun _ _=>False) I3 (stat fr3) st3 stop) fun r s4 ⟨hr,I4⟩=>?_;subst hr;obtain⟨m4,hn4,_⟩:=I4.loc;exact⟨m4,hn4,fun h' hs'=>⟨.ref s2.heap.objs.size,H3,Inv.uncomp I2 f2 I4 fun b hb=>hs'.2 b hb,rfl,qn⟩⟩
   · refine thn (T.item (a0z X scope cl N fp (s2.heap.objs.size + 1) s2 H2) rfl rfl rfl hc i pins s3 σ3 H3 (fun _ _=>False) I3 (stat fr3) st3 go) fun r s4 ⟨u,hr,h4⟩=>?_;subst hr;refine thn h4 fun _ s5 ⟨x,H5,I5,r5,y5,st5,fr5⟩=>?_;have I5':=I5.pinned (stat fr5) (T.obj _ _ st5);refine thn (hg _ s5 σ3 H5 x u _ I5' r5 (step x H5 y5)) fun _ s6 ⟨σ6,H6,I6,q6⟩=>?_;refine thn (hi2 _ s6 σ6 H6 _ I6 q6) fun v7 s7 h7=>thn h7 fun itv s8 h8=>?_;obtain⟨it2,fp2,tn2,J2,H8,rfl,I8,T2,st8,f8,W2,⟨m2,w2⟩,turn2⟩:=h8;have stat2:∀{H':Hp},(∀b∈fp2,H' b=none)->∀b∈fp2,FpOk (a0z X scope cl N fp (s2.heap.objs.size + 1) s2 H2) (pins++a5m fp s5.heap) H' b:=fun hn b hb=>⟨hn b hb,(f8 b hb).2⟩
     have inner:x2x (model X.prog X.w) X.A (.compLoop (LC2 elt t1 i1 t2 i2 ifs scope pos) 1 (.ref it2) (.ref s2.heap.objs.size) (compEnvC scope cl (s2.heap.objs.size + 1) X.env)) (fun r s'=>r=.ok .next/\∃m,m < n/\∃i σ' H',Inv (a0z X scope cl N fp (s2.heap.objs.size + 1) s2 H2) pins σ' H' s'/\tn i s'.heap/\(∀b∈fp,H' b=none)/\W i m σ' H') s8:=by
       exact loop_i _ (a7g (Y:=a0z X scope cl N fp (s2.heap.objs.size + 1) s2 H2) T2 hc stat2 hg2 hf he (fun s10 σ9 H9 I10 qn2=>⟨rfl,a6e T st5 I10 qn2⟩) turn2) m2 ⟨0,σ6,H8,I8,st8,fun b hb=>(f8 b hb).1,w2⟩
     exact b4D inner (T2.self _ 0 _ _ _ st8 inner)
 exact x3R (loop _ rfl) (T.self _ 0 _ _ _ st1 (loop _ rfl))
end L2
end
section
namespace Pu
open PySem PySem.Spec L2
noncomputable def b1B (g:pG)(tt:pT)(te:pE):List PV->Env->Nat->(List PV->Env->Nat->Prop)->Prop
 | [],env,n,R=>R [] env n
 | x::xs,env,n,R=>g x env fun env1=>tt env1 n fun b env2 n2=>if b=true then te env2 n2 fun y env3 n3=>b1B g tt te xs env3 n3 fun ys e m=>R (y::ys) e m else b1B g tt te xs env2 n2 R
noncomputable def a4Y (g1:pG)(pi2:pA)(g2:pG)(tt:pT)(te:pE):List PV->Env->Nat->(List PV->Nat->Prop)->Prop
 | [],_,n,R=>R [] n
 | x::xs,env,n,R=>g1 x env fun env1=>pi2 env1 n fun ys env2 n2=>ys.length<=1000/\b1B g2 tt te ys env2 n2 fun zs env3 n3=>a4Y g1 pi2 g2 tt te xs env3 n3 fun ws n4=>R (zs++ws) n4
noncomputable def b0k (cs:List (Option Nat))(pi1:pA)(g1:pG)(pi2:pA)(g2:pG)(tt:pT)(te:pE):pA:=fun env n R=>pi1 env n fun xs env1 n1=>xs.length<=1000/\a4Y g1 pi2 g2 tt te xs (capV cs env1) n1 fun ys n2=>R ys env1 n2
theorem b1A {K:x0b}{T:PotK}{J:It}{g:TG}{tt:TT}{te:TE}{pg:pG}{ptt:pT}{pte:pE}(hg:GOk K g pg)(ht:TOk K T tt ptt)(he:EOk K T te pte){G:Gh}{H1 H4:Hp}{ys:List PV}{D:Addr}(hJ:ItR K ⟨D::G.M,G.pots⟩ H4 J ys)(nD:D∉G.pots)(hD:H1 D=none){σ:St}{env:Env}{n:Nat}{acc:List PV}{us:List V}{P:List PV->Env->Nat->Prop}{N:St->Hp->Prop}(c:CI K T G H1 D σ H4 env n acc us)(hl:acc.length + ys.length<=1001000)(hc:b1B pg ptt pte ys env n P)
   (hN:∀zs env n us σ H,P zs env n->CI K T G H1 D σ H env n (acc++zs) us->zs.length<=ys.length->N σ H):b4p J g tt te D N σ H4:=by
 refine⟨fun j m σ H'=>m=ys.length - j/\j<=ys.length/\∃env n zs us2,CI K T G H1 D σ H' env n (acc++zs) us2/\Fr ⟨D::G.M,G.pots⟩ H4 H'/\zs.length<=j/\b1B pg ptt pte (ys.drop j) env n fun ws e m=>P (zs++ws) e m,⟨ys.length,rfl,x0U _,env,n,[],us,by rw [x1t];exact c,Fr.refl,x0m _,hc⟩,?_⟩;rintro j m σ5 H5 ⟨rfl,hj,env5,n5,zs,us5,c5,fr5,la5,hc5⟩;obtain⟨hgo5,hstop5⟩:=hJ _ H5 fr5 (fun a ha=>.inl ha) (fun _ _ e=>e) fun p hp=>c5.inn.sr.fresh hp
 by_cases hlt5:j < ys.length
 · obtain⟨u1,u2⟩:=hgo5 j _ (x0c hlt5);refine .inr ⟨u1,fun v6 H6 y6=>?_⟩;obtain⟨s6,rv6⟩:=u2 v6 H6 y6;rw [x1A hlt5] at hc5;have np:∀b,b∉D::G.M->b∉G.pots:=fun b hb z=>hb (c5.inn.pots b z).1;refine hg _ _ σ5 H6 env5 n5 ys[j] v6 _ _ rfl (c5.inn.sr.same s6) rv6 hc5 fun env7 σ7 hc7 S7=>?_;refine ht _ _ σ7 H6 env7 n5 _ _ rfl rfl S7 hc7 fun b env8 n8 H8 hc8 S8 f8=>?_;cases b with
   | false=>exact⟨ys.length - (j + 1),x2B _ _ hlt5,rfl,hlt5,env8,n8,zs,us5,c5.go nD S8,fun b o hb e=>S8.frame b o (np b hb) (fr5 b o hb e),x3Z la5,hc8⟩
   | true =>
     refine he _ _ σ7 H8 env8 n8 _ _ rfl rfl S8 hc8 fun y env9 n9 u H9 hc9 S9 r9 f9=>?_;have c9:=c5.go nD S9;have c10:=c9.add nD hD r9;rw [x0S] at c10;refine⟨us5,c9.eD,by rw [<- c5.ra.length,x0l];exact x3K (show _<=1001000 by omega) (by rw [x1c];decide),ys.length - (j + 1),x2B _ _ hlt5,rfl,hlt5,env9,n9,zs++[y],us5++[u],c10,Fr.trans (fun b o hb e=>S9.frame b o (np b hb) (fr5 b o hb e)) (CI.fD _),by rw [x0l];exact Nat.succ_le_succ la5,?_⟩;simp only [x0S];exact hc9
 · obtain rfl:j=ys.length:=Nat.le_antisymm hj (x2W hlt5);rw [x4o] at hc5;have h5:P (zs++[]) env5 n5:=hc5;rw [x1t] at h5;exact .inl ⟨hstop5 _ (x0m _),hN zs env5 n5 us5 σ5 H5 h5 c5 la5⟩
theorem b3r {K:x0b}{T:PotK}{J:It}{g1 g2:TG}{wi2:TI}{tt:TT}{te:TE}{pg1 pg2:pG}{pi2:pA}{ptt:pT}{pte:pE}(hg1:GOk K g1 pg1)(hi2:IOk K T wi2 pi2)(hg2:GOk K g2 pg2)(ht:TOk K T tt ptt)(he:EOk K T te pte){G:Gh}{H1:Hp}{xs:List PV}(hJ:ItR K G H1 J xs)(hl:xs.length<=1000)
   {σc:St} {env:Env} {n:Nat} {R:List PV->Nat->Prop} {Q:VK} {D:Addr} (hD:H1 D=none) (I0:Inn K T G σc H1 env n) (hp:a4Y pg1 pi2 pg2 ptt pte xs env n R)
   (hQ:∀ys n' us H',R ys n'->(∀p∈G.pots,T.at_ (D::G.M) H' p n')->(∀b o,b∉G.pots->H1 b=some o->H' b=some o)->H' D=some (.lst us)->Reps K ⟨D::G.M,G.pots⟩ H' ys us->Q (.ref D) H') :
   b4o J g1 wi2 g2 tt te Q D σc (upd H1 D (.lst [])):=by
 have nD:D∉G.pots:=fun z=>I0.sr.fresh hD (I0.pots D z).1;refine⟨fun i m σ H=>m=xs.length - i/\i<=xs.length/\∃env n acc us,CI K T G H1 D σ H env n acc us/\acc.length<=1000 * i/\a4Y pg1 pi2 pg2 ptt pte (xs.drop i) env n fun ys n'=>R (acc++ys) n',⟨xs.length,rfl,x0U _,env,n,[],[],.start hD I0,x0m _,hp⟩,?_⟩;rintro i m σ H ⟨rfl,hi,env,n,acc,us,c,la,hc⟩;obtain⟨hgo,hstop⟩:=c.it hD hJ
 by_cases hlt:i < xs.length
 · obtain⟨gg1,gg2⟩:=hgo i _ (x0c hlt);refine .inr ⟨gg1,fun v H2 y=>?_⟩;obtain⟨s2,rv⟩:=gg2 v H2 y;rw [x1A hlt] at hc;refine hg1 _ _ σ H2 env n xs[i] v _ _ rfl (c.inn.sr.same s2) rv hc fun env1 σ1 hc1 S2=>?_;refine hi2 _ _ σ1 H2 env1 n _ _ rfl rfl S2 hc1 fun ys env2 n2 J2 H4 q4 S4 f4 hJ2=>?_;refine b1A hg2 ht he hJ2 nD hD (c.go nD S4) (by have:=q4.1;omega) q4.2 fun zs env5 n5 us5 σ5 H5 h5 c5 lz=>⟨xs.length - (i + 1),x2B _ _ hlt,rfl,hlt,env5,n5,acc++zs,us5,c5,by rw [x0l];have:=q4.1;omega,?_⟩;simp only [x0S];exact h5
 · obtain rfl:i=xs.length:=Nat.le_antisymm hi (x2W hlt);rw [x4o] at hc;have hc':R (acc++[]) n:=hc;rw [x1t] at hc';exact .inl ⟨hstop _ (x0m _),hQ _ n us H hc' (fun p hp=>(c.inn.pots p hp).2) c.kp c.eD c.ra⟩
section
variable {T:PotK}{ι:Type}{K:x0b}{F:ι->Cx}{pg1 pg2:pG}{pos:Pos}
theorem b2q {scope:Scope}{cl:ι->List (Str×Addr)}{N:List Str}{cs:List (Option Nat)}{elt t1 i1 t2 i2:Expr}{ifs:List Expr}{pi1 pi2:pA}{ptt:pT}{pte:pE}(S:∀z,a1x (F z) scope (cl z) N cs)(hc:∀z,(F z).calm=true)(hi:QI T K F t1 i1 pi1)
   (hg:QG K (fun y:ι×List Addr×Addr×Shared×Hp=>a0z (F y.1) scope (cl y.1) N y.2.1 y.2.2.1 y.2.2.2.1 y.2.2.2.2) t1 pg1)
   (hi2:QI T K (fun y:ι×List Addr×Addr×Shared×Hp=>a0z (F y.1) scope (cl y.1) N y.2.1 y.2.2.1 y.2.2.2.1 y.2.2.2.2) t2 i2 pi2)
   (hg2:QG K (fun y:ι×List Addr×Addr×Shared×Hp=>a0z (F y.1) scope (cl y.1) N y.2.1 y.2.2.1 y.2.2.2.1 y.2.2.2.2) t2 pg2)
   (ht:QIf T K (fun y:ι×List Addr×Addr×Shared×Hp=>a0z (F y.1) scope (cl y.1) N y.2.1 y.2.2.1 y.2.2.2.1 y.2.2.2.2) ifs ptt)
   (he:QE T K (fun y:ι×List Addr×Addr×Shared×Hp=>a0z (F y.1) scope (cl y.1) N y.2.1 y.2.2.1 y.2.2.2.1 y.2.2.2.2) elt pte)
   (hs:∀z x,x1s i1 (F z).env x=pure x:=by intro _ _;rfl) (hs2:∀z fp C s H x,x1s i2 (a0z (F z) scope (cl z) N fp C s H).env x=pure x:=by intro _ _ _ _ _ _;rfl):QN T K F (LC2 elt t1 i1 t2 i2 ifs scope pos) (b0k cs pi1 pg1 pi2 pg2 ptt pte):=by
 obtain⟨wi,i1',i2'⟩:=hi;obtain⟨g,hg0,hg⟩:=hg;obtain⟨wj,j1,j2⟩:=hi2;obtain⟨g2,hg20,hg2⟩:=hg2;obtain⟨tt,ht0,ht⟩:=ht;obtain⟨te,he0,he⟩:=he;refine⟨_,fun z=>b2I (S z) (hc z) (i1' z) (fun fp C s H=>⟨hg0 (z,fp,C,s,H),j1 (z,fp,C,s,H),hg20 (z,fp,C,s,H),ht0 (z,fp,C,s,H),he0 (z,fp,C,s,H)⟩) (hs2 z) (hs z),fun C G σ H env n R Q hK hT S hp k=>?_⟩;refine i2' C G σ H env n _ _ hK hT S hp fun xs env1 n1 J H1 p1 S1 f1 hJ=>?_;intro D hD;have hDM:=S1.fresh hD;refine b3r (G:=G) hg j2 hg2 ht he hJ p1.1 hD (hT▸hK▸a7I S1 cs) p1.2 fun ys n2 us H' rr hpots hk eD ry=>?_;have nD:∀b o,H1 b=some o->b≠D:=fun b o e z=>by rw [z,hD] at e;cases e
 have hk2:∀b o,b∉G.pots->H1 b=some o->cutH H' D b=some o:=fun b o hb e=>by rw [a1q (nD b o e)];exact hk b o hb e
 have nc:∀b,b∉D::G.M->b≠D:=fun b hb z=>hb (by rw [z];exact x0g);have np:∀p∈G.pots,p≠D:=fun p hp z=>hDM (z▸(S1.pots p hp).1)
 have Sb:SR C G σ (cutH H' D) env1 n2:=S1.call hk2 fun p hp=>by
   subst hT;have h2:=C.T.keep (hpots p hp) (H':=cutH H' D) (a1q (np p hp)) fun b o hb e=>by rw [a1q (nc b hb)];exact e
   exact C.T.more h2 fun a ha=>.inl (x0f _ ha)
 have:=k ys env1 n2 D us (cutH H' D) rr Sb (f1.trans fun b o hb e=>hk2 b o (fun z=>hb (S1.pots b z).1) e) (by unfold cutH;rw [if_pos rfl]) ?_
 · rw [a5y eD] at this;exact this
 · exact Reps.mono (G:=⟨D::G.M,G.pots⟩) (fun b o hb e=>by rw [a1q (nc b hb)];exact e) (fun a ha=>.inl (x0f _ ha)) (fun _ _ e=>e) _ _ ry
end
end Pu
end
section
namespace L2
open PySem PySem.W PySem.Spec PyProof.Rows
noncomputable def a9v (X:Cx)(scope:Scope)(N:List Str)(qual:Str)(f c':Addr)(cl:List (Str×Addr))(s:Shared)(H:Hp):Cx where
 prog:=X.prog
 w:=X.w
 K:=X.K
 mg:=X.mg
 base:=X.base
 A:=X.A.in1.in1.deeper (envX qual scope s.heap.objs.size f (.ref c') cl)
 N:=N
 s₀:=s
 H₀:=H
 env:=envX qual scope s.heap.objs.size f (.ref c') cl
 outer:=X.stack
 stack:=envX qual scope s.heap.objs.size f (.ref c') cl::X.stack
 ex:=[]
 calm:=true
 fn:=fun _=>false
 pn:=[]
 xe:=fun _ _=>False
structure a3v (scope:Scope)(x y:Str):Prop where
 kind:scope.kind=.function
 co:scope.isCoroutine=false
 gen:scope.isGenerator=false
 hx:scope.names.lookup x=some .local
 hy:scope.names.lookup y=some .free
 fr:∀z,scope.names.lookup z=some .free->z=y
 nc:∀z∈scope.names,z.2≠.cell
 ne:(y == x)=false
section
variable {X:Cx}{pins:List (Addr×Obj)}{σ:St}{H:Hp}{s:Shared}
variable {c':Addr}{vx vy:V}{ux uy:Value}
theorem b0Y {scope:Scope}{x y qual:Str}{f c:Addr}{h1:Heap}{tk k:Nat}(I:Inv X pins σ H s)(hr:Room k X.A)(S:a3v scope x y)(hc:s.heap.IsCell c (some uy))(hH:H c=none)(ry:RelV vy uy)(rx:RelV vx ux)
   (hns:h1.Ns s.heap.objs.size (fun z=>[(x,ux)].reverse.lookup z)) (hsb:x1Y s.heap.objs.size (s.heap.push { cls:=.type "frame",data:=.dict #[] }) h1) :
   Inv (a9v X scope [x,y] qual f c' [(y,c)] s H) [] [some vx,some vy] H { s with heap:=h1,toks:=tk }:=by
 have hk:∀b o,s.heap.get? b=some o->h1.get? b=some o:=fun b o e=>hsb.extBut b o (x0r (x0o e)) (x0d _ e);have noA:∀b:Addr,b∉(a9v X scope [x,y] qual f c' [(y,c)] s H).ex:=fun b z=>absurd (show b∈([]:List Addr) from z) (by simp);have e0:=I.env0
 have cl1:∀z d,([(y,c)]:List (Str×Addr)).lookup z=some d->z=y/\d=c:=fun z d e=>by
   rw [x4n] at e;cases q:z == y with
   | true=>rw [q] at e;cases e;exact⟨eq_of_beq q,rfl⟩
   | false=>rw [q] at e;cases e
 have cy:([(y,c)]:List (Str×Addr)).lookup y=some c:=by rw [x4n,beq_self_eq_true]
 refine⟨⟨e0.mod,S.kind,rfl,rfl,x0m _,fun a b d h1 h2=>?_,fun z hz=>?_,fun z d h _=>absurd (show false=true from h) x0R,fun _=>hr.hd,Around.frames_deeper (show X.A.in1.in1.frames=_ from e0.frames),.inr ⟨rfl,rfl⟩,fun b z=>absurd z (noA b),e0.bs,e0.bsz,fun b _ _=>noA b,fun b z=>absurd z (noA b),e0.funs,e0.frf,e0.nos⟩,
   rfl,e0.bare,Un.kept hk,⟨_,hns,fun i z v h1 h2 h3=>?_⟩,fun z d h=>?_,e0.hok.fresh (x0m _),fun z d h=>?_,fun p hp=>absurd (show p∈([]:List (Addr×Obj)) from hp) (by simp),e0.hok.kept hk,rfl⟩
 · exact((cl1 _ _ h1).1).trans (cl1 _ _ h2).1.symm
 · have hz:scope.names.lookup z=some .cell\/scope.names.lookup z=some .free:=hz;rcases hz with hz | hz
   · exact absurd rfl (S.nc _ (x1C hz))
   · exact⟨c,by rw [S.fr z hz];exact cy⟩
 · match i,h1,h2 with
   | 0, h1, h2 =>
     cases h1;cases h2;refine⟨ux,rx,.inl ⟨S.hx,?_⟩⟩;show([(x,ux)]:List (Str×Value)).reverse.lookup x=some ux;rw [List.reverse_singleton,x4n,beq_self_eq_true]
   | 1, h1, h2 =>
     cases h1;cases h2;obtain⟨o,ho,hd⟩:=hc;exact⟨uy,ry,.inr ⟨.inr S.hy,c,cy,o,hk _ _ ho,hd⟩⟩
   | i + 2,h1,h2=>cases h2
 · obtain⟨rfl,rfl⟩:=cl1 z d h;obtain⟨o,ho,hd⟩:=hc;exact⟨_,o,hk _ _ ho,hd⟩
 · obtain⟨rfl,rfl⟩:=cl1 z d h;exact hH
theorem b3b {scope:Scope}{x y qual:Str}{params:x4U}{body:Expr}{f c:Addr}{pm ctv:Value}{k:Nat}{tb:TE}{Q:VK}{E:Value->Shared->Prop}(I:Inv X pins σ H s)(hr:Room k X.A)(S:a3v scope x y)
   (hc:s.heap.IsCell c (some uy)) (hH:H c=none) (ry:RelV vy uy) (rx:RelV vx ux) (fo:s.heap.get? f=some (kla_obj "<lambda>" qual params body scope [(y,c)] pm c' ctv)) (hcd:s.heap.CodeRec (.ref c') qual)
   (bd:∀u,x4w (kla_fn "<lambda>" qual params body scope [(y,c)] pm (.ref c') ctv) ⟨[u],[]⟩=pure [(x,u)])
   (hb:PE (a9v X scope [x,y] qual f c' [(y,c)] s H) body tb) (ht:tb [some vx,some vy] H Q) :
   wpAny (model X.prog X.w) X.A.in1.in1 (call (.ref f) [ux]) (EP X pins σ Q) E s:=by
 refine wpAny_call ?_;refine kla_callFunE (fd:=kla_fn "<lambda>" qual params body scope [(y,c)] pm (.ref c') ctv) (show X.A.depth < recursionLimit from hr.depth) fo rfl S.co S.gen rfl hcd ?_;rw [bd];refine x0h (x3q S.nc (fun z hz=>?_) (fun h1 hns hsb=>⟨?_,?_⟩) S.kind)
 · rw [x0n.mp hz];exact S.hx
 · refine I.nolimit.keeps fun b o e=>?_;exact hsb.extBut b o (x0r (x0o e)) (x0d _ e)
 · refine kla_codeExpr (x1g (hb [] _ [some vx,some vy] H Q (b0Y (tk:=s.toks + 1) I hr S hc hH ry rx hns hsb) ht) (fun v s' h=>?_) fun _ _ z=>z.elim);obtain⟨v',H',J,r,q⟩:=h;exact I.after ⟨v',H',J.os,J.bare,J.base,J.hok,r,q⟩
end
end L2
end
section
namespace L2
open PySem PySem.W PySem.Spec PyProof.Rows
noncomputable def a4e (c':Addr)(qual:Str):HO:=.ext fun h=>h.CodeRec (.ref c') qual
noncomputable def a9j (tb:TE)(vy:V)(kS c':Addr)(qual:Str):List V->List Int->Hp->(List Int->Hp->Prop)->Prop
 | [],ks,H,R=>R ks H
 | x::xs,ks,H,R=>H c'=some (a4e c' qual)/\tb [some x,some vy] H fun y H1=>∃k,y=.int k/\H1 kS=some (.lst (ks.map V.int))/\a9j tb vy kS c' qual xs (ks++[k]) (upd H1 kS (.lst ((ks++[k]).map V.int))) R
noncomputable def KOut (ks:List Int)(xs ys:List V):Prop:=∃ps:List (Int×V),ps.Perm (ks.zip xs)/\ys=ps.map Prod.snd/\ps.Pairwise fun p q=>p.1<=q.1
section
variable {prog:x0G}{w:World}{A:Around}{E:Value->Shared->Prop}{s:Shared}{a kS:Addr}{vs:List Value}{kz:List Int}{keys:Array Value}{e e1:Nat}{P:PySem.Fin->Shared->Prop}
theorem kTail {st:SortSt}(nk:s.heap.get? kS=some (seqObj "list" keys e))(na:s.heap.get? a=some (seqObj "list" #[] e1))(hka:kS≠a)
   (hk:IntsAre keys.toList kz) (hlen:kz.length=vs.length) (h64:vs.length < 64) (hp:(arrOf st).Perm (keys.zip vs.toArray)) (hs:SortedTo (arrOf st) (arrOf st).size) (hfl:failedOf st=none)
   (h:∀h' out c c2,(∀b o,b≠a->b≠kS->s.heap.get? b=some o->h'.get? b=some o)->h'.get? a=some (seqObj "list" out c)->h'.get? kS=some (seqObj "list" #[] c2)->KskOut false kz vs out.toList->P (.done (.ret .none)) { s with heap:=h' }) :
   wpAny (model prog w) A (ksk_tail a false e1 (.ref kS) st) P E s:=by
 have hsz:keys.size=vs.length:=by
   have h1:=hk.length;rw [x0z] at h1;omega
 have hsz2:(arrOf st).size=vs.length:=by rw [hp.size_eq,Array.size_zip,hsz,x0q,x4M]
 have s1:=x0M s.heap kS (x0J fun _=>(#[]:Array Value));have na1:(s.heap.update kS (x0J fun _=>(#[]:Array Value))).get? a=some (seqObj "list" #[] e1):=(s1.2 a hka.symm).trans na;obtain⟨ck,hck⟩:∃c,(s.heap.update kS (x0J fun _=>(#[]:Array Value))).get? kS=some (seqObj "list" #[] c):=⟨_,x3g nk fun _=>#[]⟩;have s2:=x0M (s.heap.update kS (x0J fun _=>(#[]:Array Value))) a (x0J fun _=>(arrOf st).map (·.2))
 obtain⟨c2,hc2⟩:∃c2,((s.heap.update kS (x0J fun _=>(#[]:Array Value))).update a (x0J fun _=>(arrOf st).map (·.2))).get? a=some (seqObj "list" ((arrOf st).map (·.2)) c2):=
   ⟨_,x3g na1 fun _=>(arrOf st).map (·.2)⟩
 unfold ksk_tail
 try dsimp only
 refine x0a (x3l nk rfl ?_ (by rw [hsz,x1c];omega) (x0U _));refine x0a (wpAny_letGo ?_);refine x0a (seqEpoch_at na1 rfl ?_);simp only [x0w,if_false];refine x0a (x3l na1 rfl ?_ (x0U _) (x1f (x4N ((Array.size_map ..).trans hsz2)) (by rw [x1c];omega)));rw [hfl];simp only [bne_self_eq_false,x0w,if_false];exact x0h (h _ _ c2 ck (fun b o h1 h2 e=>(s2.2 b h1).trans ((s1.2 b h2).trans e)) hc2 ((s2.2 kS hka).trans hck) (ksk_out (b:=false) hk hp hs))
theorem kEnd (nk:s.heap.get? kS=some (seqObj "list" keys e))(na:s.heap.get? a=some (seqObj "list" #[] e1))(hka:kS≠a)
   (hk:IntsAre keys.toList kz) (hlen:kz.length=vs.length) (h64:vs.length < 64)
   (h:∀h' out c c2,(∀b o,b≠a->b≠kS->s.heap.get? b=some o->h'.get? b=some o)->h'.get? a=some (seqObj "list" out c)->h'.get? kS=some (seqObj "list" #[] c2)->KskOut false kz vs out.toList->P (.done (.ret .none)) { s with heap:=h' }) :
   wpAny (model prog w) A (ksk_end a false vs.toArray e1 (.ref kS) keys) P E s:=by
 have hsz:keys.size=vs.length:=by
   have h1:=hk.length;rw [x0z] at h1;omega
 have hzs:(keys.zip vs.toArray).size=vs.length:=by rw [Array.size_zip,hsz,x0q,x4M]
 unfold ksk_end;simp only [x0w,if_false]
 by_cases h2:vs.toArray.size < 2
 · rw [if_pos h2,if_pos h2];refine x0a (x0h ?_);rw [StateT.run_pure];refine x0a (x0h ?_)
   try dsimp only
   refine kTail (st:=SortSt.mk' general' (keys.zip vs.toArray) #[] 7 none) nk na hka hk hlen h64 (x2H _) ?_ rfl h;intro i j hij hj;have hj2:j < (keys.zip vs.toArray).size:=hj;rw [hzs] at hj2;rw [x0q] at h2;have:i=j:=by omega
   subst this;exact Int.le_refl _
 · rw [if_neg h2,if_neg h2];rw [x0q] at h2;rw [ksk_kind hk (by rw [hsz];omega)];refine x0a (x0h ?_)
   refine x0a (x1g (wpS_sortRuns (a₀:=keys.zip vs.toArray) (st:=SortSt.mk' oneType' (keys.zip vs.toArray) #[] 7 none)
     (Q:=fun _ st'=>(arrOf st').Perm (keys.zip vs.toArray)/\failedOf st'=none/\SortedTo (arrOf st') (keys.zip vs.toArray).size)
     (ksk_intKeys hk) ⟨x2H _,rfl,rfl,rfl⟩ (by rw [hzs];omega) (by rw [hzs];exact h64) fun st' a1 a2 a3=>⟨a1,a2,a3⟩) ?_ fun _ _ e=>e)
   rintro⟨⟨⟩,st'⟩ s' ⟨rfl,hp,hf,hs⟩
   try dsimp only
   exact kTail nk na hka hk hlen h64 hp (by rw [hp.size_eq];exact hs) hf h
end
theorem b1m:∀{ks:List Int} {us:List Value},Vals (ks.map V.int) us->IntsAre us ks
 | [],_,h=>by cases h;exact .nil
 | k :: ks, _, h => by
   cases h with
   | cons h1 h2 =>
     obtain⟨t,rfl⟩:=h1;exact .cons k t (b1m h2)
theorem b5E {ks:List Int}{xs:List V}{vs:List Value}{out:List Value}(r:Vals xs vs)(h:KskOut false ks vs out):∃ys,KOut ks xs ys/\Vals ys out:=by
 obtain⟨ps,hp,rfl,ho⟩:=h
 replace ho:ps.Pairwise fun p q=>p.1<=q.1:=by simpa using ho
 have ab:∀(ks:List Int) {xs:List V} {vs:List Value},Vals xs vs->(ks.zip vs).map (fun p=>(p.1,(absV p.2).getD .non))=ks.zip xs:=by
   intro ks
   induction ks with
   | nil=>intro xs vs _;rfl
   | cons k ks ih =>
     intro xs vs r;cases r with
     | nil=>rfl
     | cons h1 h2 =>
       rw [x1P,x1P,x0v,ih h2];show(k,(absV _).getD _)::_=_;rw [h1.abs];rfl
 have rl:∀(ks:List Int) {xs:List V} {vs:List Value},Vals xs vs->∀p∈ks.zip vs,RelV ((absV p.2).getD .non) p.2:=by
   intro ks
   induction ks with
   | nil=>intro xs vs _ p hp;cases hp
   | cons k ks ih =>
     intro xs vs r p hp;cases r with
     | nil=>cases hp
     | cons h1 h2 =>
       rcases x0k.mp hp with rfl | hp
       · show RelV ((absV _).getD _) _;rw [h1.abs];exact h1
       · exact ih h2 p hp
 refine⟨ps.map fun p=>(absV p.2).getD .non,⟨ps.map fun p=>(p.1,(absV p.2).getD .non),?_,by rw [x2a];rfl,?_⟩,?_⟩
 · rw [<- ab ks r];exact hp.map _
 · rw [x1L];exact ho
 · have rl2:∀p∈ps,RelV ((absV p.2).getD .non) p.2:=fun p h=>rl ks r p (hp.mem_iff.mp h);clear hp ho
   induction ps with
   | nil=>exact .nil
   | cons p ps ih=>exact .cons (rl2 p x0g) (ih fun q hq=>rl2 q (x0f _ hq))
section
variable {X:Cx}{pins:List (Addr×Obj)}{σ:St}{H:Hp}{s:Shared}
theorem Inv.retrack {a kS:Addr}{ob:Obj}{ks ys:List V}{out:List Value}{c c2:Nat}{h':Heap}(I:Inv X ((a,ob)::pins) σ H s)(hk:H kS=some (.lst ks))(ha0:X.s₀.heap.objs.size<=a)(hp0:∀p∈X.pn++pins,p.1≠a)(hsa:x2b < a)(hsk:x2b < kS)
   (keep:∀b o,b≠a->b≠kS->s.heap.get? b=some o->h'.get? b=some o) (ea:h'.get? a=some (seqObj "list" out.toArray c)) (ek:h'.get? kS=some (seqObj "list" #[] c2)) (r:Vals ys out) (hl:ys.length<=x0B) :
   Inv X pins σ (upd (upd H kS (.lst [])) a (.lst ys)) { s with heap:=h' }:=by
 obtain⟨ea0,na,neL,nf,nc⟩:=I.pin (a,ob) (x0t _ x0g);have nka:kS≠a:=fun z=>by rw [z,na] at hk;cases hk
 have I0:Inv X pins σ H s:=I.pins_of fun p hp=>by
   obtain⟨z1,z2,z3,z4,z5⟩:=I.pin p (x0t _ (x0f _ hp));exact⟨z1,z2,z3,z4,z5⟩
 have oth:∀b,b≠a->b≠kS->upd (upd H kS (.lst [])) a (.lst ys) b=H b:=fun b h1 h2=>by rw [a0j h1,a0j h2]
 have ne1:∀b u,H b=some u->(∀z,u≠.lst z)->b≠a/\b≠kS:=fun b u e hu=>⟨(fun z=>by rw [z,na] at e;cases e),(fun z=>by rw [z,hk] at e;cases e;exact hu _ rfl)⟩;refine I0.step (g':=s.gens) (d':=s.drawn) (t':=s.toks) (ch:=[a]) (fun b hb=>?_) (fun b o _ _ hc e n=>?_) (fun b o _ _ hc e n=>⟨o.slots,?_⟩) (fun b o hc e n=>?_) (fun b o hc e=>?_) (fun b xs e=>?_) (fun b o u e=>?_) (fun b ps e=>⟨#[],?_⟩) (fun z=>?_) (fun m hm=>?_) (fun b u e=>?_) I.bare
 · have e:b=a:=by simpa using hb
   subst e;refine⟨.inr ha0,neL,fun x d e z=>?_,hp0⟩;subst z;obtain⟨v,o,ho,hd⟩:=I.cell x _ e;rw [ea0] at ho;cases ho;exact nc _ hd
 · exact keep b o (fun z=>hc (by simp [z])) (fun z=>by rw [z,hk] at n;cases n) e
 · exact keep b o (fun z=>hc (by simp [z])) (fun z=>by rw [z,hk] at n;cases n) e
 · rw [oth b (fun z=>hc (by simp [z])) (fun z=>by rw [z,hk] at n;cases n)];exact n
 · by_cases h2:b=kS
   · exact⟨_,h2▸ek⟩
   · exact⟨o,keep b o (fun z=>hc (by simp [z])) h2 e⟩
 · obtain⟨h1,h2⟩:=ne1 b _ e (fun z q=>by cases q);rw [oth b h1 h2];exact e
 · obtain⟨h1,h2⟩:=ne1 b _ e (fun z q=>by cases q);rw [oth b h1 h2];exact e
 · obtain⟨h1,h2⟩:=ne1 b _ e (fun z q=>by cases q);rw [oth b h1 h2,e];simp
 · unfold NS at z ⊢;rw [oth x2b (x0r hsa) (x0r hsk)];exact z
 · obtain⟨o,es,ep,ho,r'⟩:=hm;exact⟨o,es,ep,keep _ o (Ne.symm neL) (fun z=>by have:=I.free;rw [z,hk] at this;cases this) ho,r'⟩
 · by_cases h1:b=a
   · subst h1;rw [a0l] at e;cases e;exact⟨hl,out,c,r,ea⟩
   · rw [a0j h1] at e
     by_cases h2:b=kS
     · subst h2;rw [a0l] at e;cases e;exact⟨x0U _,[],c2,.nil,ek⟩
     · rw [a0j h2] at e;refine(I0.hok b u e).stay (fun d v hc q=>keep d v ?_ ?_ q) (fun d q=>?_) fun d xs q=>?_
       · rcases hc with z | z
         · rw [z];exact h1
         · exact(ne1 d _ z (fun z q=>by cases q)).1
       · rcases hc with z | z
         · rw [z];exact h2
         · exact(ne1 d _ z (fun z q=>by cases q)).2
       · obtain⟨z1,z2⟩:=ne1 d _ q (fun z q=>by cases q);rw [oth d z1 z2];exact q
       · obtain⟨z1,z2⟩:=ne1 d _ q (fun z q=>by cases q);rw [oth d z1 z2];exact q
end
end L2
end
section
namespace L2
open PySem PySem.W PySem.Spec PyProof.Rows
structure a7O (X:Cx)(scope:Scope)(params:x4U)(body:Expr)(qual x y:Str)(c:Addr)(iy:Nat)(k:Nat)(tb:TE):Prop where
 sc:a3v scope x y
 room:Room k X.A
 cell:X.env.cells.lookup y=some c
 isc:X.env.scope.names.lookup y=some .cell
 nm:X.N[iy]?=some y
 bd:∀(pm ct cd u:Value),x4w (kla_fn "<lambda>" qual params body scope [(y,c)] pm cd ct) ⟨[u],[]⟩=pure [(x,u)]
 pe:∀(f c':Addr) (s:Shared) (H:Hp),PE (a9v X scope [x,y] qual f c' [(y,c)] s H) body tb
section
variable {X:Cx}{pins:List (Addr×Obj)}{σ:St}{H:Hp}{s:Shared}{scope:Scope}{params:x4U}{body:Expr}{qual x y:Str}{c:Addr}{iy k:Nat}{tb:TE}
variable {vy:V}{c':Addr}{ctv pm:Value}
theorem a7O.val (L:a7O X scope params body qual x y c iy k tb)(I:Inv X pins σ H s)(hv:σ[iy]?=some (some vy)):∃uy,RelV vy uy/\s.heap.IsCell c (some uy):=by
 obtain⟨m,hn,hl⟩:=I.loc;obtain⟨u,r,l⟩:=hl iy y vy L.nm hv (.inr (.inl L.isc));refine⟨u,r,?_⟩;rcases l with⟨z,_⟩ | ⟨_,d,e,q⟩
 · have z':X.env.scope.names.lookup y=some .local:=z;rw [L.isc] at z';cases z'
 · rw [L.cell] at e;cases e;exact q
theorem a7O.run (L:a7O X scope params body qual x y c iy k tb)(I:Inv X pins σ H s){vx:V}{ux:Value}{f:Addr}{Q:VK}{E:Value->Shared->Prop}(hv:σ[iy]?=some (some vy))(rx:RelV vx ux)
   (fo:(f,kla_obj "<lambda>" qual params body scope [(y,c)] pm c' ctv)∈pins) (hcd:H c'=some (a4e c' qual)) (ht:tb [some vx,some vy] H Q) :
   wpAny (model X.prog X.w) X.A.in1.in1 (call (.ref f) [ux]) (EP X pins σ Q) E s:=by
 obtain⟨uy,ry,hc⟩:=L.val I hv;obtain⟨e1,_⟩:=I.pin _ (x0t _ fo);obtain⟨e2,_⟩:=(show a1n X.prog X.w H s.heap c' (a4e c' qual) from I.hok c' _ hcd);exact b3b I L.room L.sc hc (I.freeC _ _ L.cell) ry rx e1 e2 (fun u=>L.bd pm ctv (.ref c') u) (L.pe f c' s H) ht
theorem kRest (L:a7O X scope params body qual x y c iy k tb){f a kS:Addr}{xs:List V}{vs:List Value}{e1:Nat}{R:List Int->Hp->Prop}{P:PySem.Fin->Shared->Prop}{E:Value->Shared->Prop}(I:Inv X ((a,seqObj "list" #[] e1)::pins) σ H s)(hv:σ[iy]?=some (some vy))
   (fo:(f,kla_obj "<lambda>" qual params body scope [(y,c)] pm c' ctv)∈pins) (hk:H kS=some (.lst [])) (rv:Vals xs vs) (h64:xs.length < 64) (hka:kS≠a) (ht:a9j tb vy kS c' qual xs [] H R)
   (h:∀s' H3 ks h' out c1 c2,Inv X ((a,seqObj "list" #[] e1)::pins) σ H3 s'->H3 kS=some (.lst (ks.map V.int))->R ks H3->(∀b o,b≠a->b≠kS->s'.heap.get? b=some o->h'.get? b=some o)->h'.get? a=some (seqObj "list" out c1)->
     h'.get? kS=some (seqObj "list" #[] c2)->KskOut false ks vs out.toList->P (.done (.ret .none)) { s' with heap:=h' }) :
   wpAny (model X.prog X.w) X.A.in1.in1 (ksk_rest a (.ref f) false vs.toArray e1 (.ref kS)) P E s:=by
 have lv:xs.length=vs.length:=rv.length;unfold ksk_rest;refine x0a (x3U ?_)
 first
   | rw [List.forIn_toArray]
   | (rw [<- x3O];simp only [x3w])
   | rw [<- x3O]
 refine x0a (ksk_fold (fun i s'=>∃H' ks,Inv X ((a,seqObj "list" #[] e1)::pins) σ H' s'/\H' kS=some (.lst (ks.map V.int))/\ks.length=i/\a9j tb vy kS c' qual (xs.drop i) ks H' R) vs 0 s
   ⟨H,[],I,hk,rfl,by simpa using ht⟩ ?step ?done)
 case step=>
   rintro j u s' hx ⟨H',ks,I',hk',hl,hc⟩;simp only [x1w] at hl hc ⊢;have hj:j < vs.length:=(x0i.mp hx).1;have hjx:j < xs.length:=by omega
   obtain⟨u2,hu2,ru⟩:=rv.get (x0c hjx);rw [hx] at hu2;cases hu2;rw [x1A hjx] at hc;obtain⟨hcd,hc⟩:=hc;refine x0a (x3N (x1g (L.run I' hv ru (x0f _ fo) hcd hc (E:=fun _ _=>False)) (fun v s'' he=>?_) fun _ _ hF=>hF.elim));obtain⟨w,H1,I1,rw1,kk,rfl,hk1,hc1⟩:=he;obtain⟨t2,rfl⟩:=rw1
   try dsimp only
   obtain⟨zl,its,n,ri,oi⟩:=(show a1n X.prog X.w H1 s''.heap kS (.lst (ks.map V.int)) from I1.hok kS _ hk1);have li:its.length=ks.length:=by rw [<- ri.length,x0e]
   have s1:=x0M s''.heap kS (x0J (·.push (.int kk t2)));obtain⟨c2,hc2⟩:∃c2,(s''.heap.update kS (x0J (·.push (.int kk t2)))).get? kS=some (seqObj "list" (its.toArray.push (.int kk t2)) c2):=⟨_,x3g oi (·.push (.int kk t2))⟩;refine x0a (x3l oi rfl ?_ (by rw [x0q,li,x1c];omega) (x1f (x4N (Array.size_push ..)) (by rw [x0q,li,x1c];omega)));refine x0h ⟨rfl,upd H1 kS (.lst ((ks++[kk]).map V.int)),ks++[kk],?_,a0l,by rw [x0l,hl];rfl,hc1⟩;refine I1.write (t':=s''.toks) (by rw [hk1];trivial) (.inl rfl) (fun b o hb e=>(s1.2 b hb).trans e) ⟨_,hc2⟩ ⟨?_,its++[.int kk t2],c2,?_,?_⟩
   · rw [x0e,x0l,x1c];simp;omega
   · rw [x0Y];exact ri.append (.cons ⟨t2,rfl⟩ .nil)
   · rw [hc2];simp
 case done=>
   rintro s' ⟨H3,ks,I3,hk3,hl,hc⟩;simp only [x1w] at hl hc;rw [x2o (by omega)] at hc;obtain⟨zl,its,n,ri,oi⟩:=(show a1n X.prog X.w H3 s'.heap kS (.lst (ks.map V.int)) from I3.hok kS _ hk3);obtain⟨ea,_⟩:=I3.pin (a,seqObj "list" #[] e1) (x0t _ x0g)
   try dsimp only
   refine x0a (listItems_at oi rfl ?_);exact kEnd oi ea hka (by simpa using b1m ri) (by omega) (by omega) fun h' out c1 c2 z1 z2 z3 z4=>h s' H3 ks h' out c1 c2 I3 hk3 hc z1 z2 z3 z4
theorem a8L (L:a7O X scope params body qual x y c iy k tb){f l:Addr}{xs:List V}{vs:List Value}{Q:VK}{E:Value->Shared->Prop}(I:Inv X pins σ H s)(hv:σ[iy]?=some (some vy))
   (fo:(f,kla_obj "<lambda>" qual params body scope [(y,c)] pm c' ctv)∈pins) (hl:s.heap.IsList l vs.toArray) (rv:Vals xs vs) (h64:xs.length < 64)
   (h:∀kS a,H kS=none->H a=none->kS≠a->a9j tb vy kS c' qual xs [] (upd H kS (.lst [])) fun ks H3=>H3 a=none->∀ys,KOut ks xs ys->Q (.ref a) (upd (upd H3 kS (.lst [])) a (.lst ys))) :
   wpAny (model X.prog X.w) X.A (call (.builtin "sorted") [.ref l] [(x0j "key",.ref f)]) (EP X pins σ Q) E s:=by
 have lv:xs.length=vs.length:=rv.length;refine call_function_entry_kw kind_sorted plain_sorted entry_sorted (ksk_s1 _ _) ?_;unfold x3c.«sorted»;refine x0a (m:=checkCount "sorted" 1 1 _) (x0h ?_);refine x0a (collect_list hl ?_ (by rw [x1c];omega));refine x0a (x4A ?_ (by rw [x1c];omega))
 have hsz:((s.heap.push (seqObj "list" #[] 0)).update s.heap.objs.size (x0J (·++vs.toArray))).objs.size=s.heap.objs.size + 1:=by
   rw [Heap.size_update,size_push']
 have hoL:(((s.heap.push (seqObj "list" #[] 0)).update s.heap.objs.size (x0J (·++vs.toArray))).push (seqObj "list" vs.toArray 0)).get? (s.heap.objs.size + 1)=some (seqObj "list" vs.toArray 0):=by
   rw [<- hsz];exact x0s _ rfl
 have keep:∀b o,s.heap.get? b=some o->(((s.heap.push (seqObj "list" #[] 0)).update s.heap.objs.size (x0J (·++vs.toArray))).push (seqObj "list" vs.toArray 0)).get? b=some o:=fun b o q=>by
   have hlt:b < s.heap.objs.size:=x0o q;rw [Heap.get?_push_ne _ _ _ (by rw [hsz];exact x0r (x1d hlt)),Heap.get?_update_ne _ _ _ _ (x0r hlt),Heap.get?_push_ne _ _ _ (x0r hlt)];exact q
 show wpAny _ _ _ _ _ { s with heap:=((s.heap.push (seqObj "list" #[] 0)).update s.heap.objs.size (x0J (·++vs.toArray))).push (seqObj "list" vs.toArray 0) };rw [hsz];generalize ((s.heap.push (seqObj "list" #[] 0)).update s.heap.objs.size (x0J (·++vs.toArray))).push (seqObj "list" vs.toArray 0)=g1 at hoL keep ⊢;have haS:s.heap.objs.size<=s.heap.objs.size + 1:=x2P _;generalize s.heap.objs.size + 1=a at hoL haS ⊢;refine x0a (x0V (wpAny_call_entry_kw slot_list_sort ⟨_,hoL,rfl⟩ entry_list_sort ?body (ksk_l1 _ _)))
 case body=>
   show wpAny (model X.prog X.w) X.A.in1.in1 (x3c.«list.sort» ⟨[.ref a],[(x0j "key",.ref f)]⟩) _ _ _;rw [ksk_t1 f a];have ha:a < g1.objs.size:=x0o hoL;have s1:=x0M g1 a (x0J fun _=>(#[]:Array Value));obtain⟨e1,ho1⟩:∃e1,(g1.update a (x0J fun _=>(#[]:Array Value))).get? a=some (seqObj "list" #[] e1):=⟨_,x3g hoL fun _=>#[]⟩;have hkS:((g1.update a (x0J fun _=>(#[]:Array Value))).push (seqObj "tuple" vs.toArray 0)).objs.size=g1.objs.size + 1:=by rw [size_push',Heap.size_update]
   unfold ksk_tree;refine x0a (listItems_at hoL rfl ?_);refine x0a (x3l hoL rfl ?_ (by rw [x0q,x1c];omega) (x0U _));refine x0a (seqEpoch_at ho1 rfl ?_);refine x0a (wpAny_newTuple ?_ (by show vs.length<=_;rw [x1c];omega));refine x0a (x4A ?_ (x0U _));refine x0V ?_;show wpAny (model X.prog X.w) X.A.in1.in1 _ _ _ { s with heap:=((g1.update a (x0J fun _=>(#[]:Array Value))).push (seqObj "tuple" vs.toArray 0)).push (seqObj "list" #[] 0) };rw [hkS];have oK:(((g1.update a (x0J fun _=>(#[]:Array Value))).push (seqObj "tuple" vs.toArray 0)).push (seqObj "list" #[] 0)).get? (g1.objs.size + 1)=some (seqObj "list" #[] 0):=by rw [<- hkS];exact x0s _ rfl
   have oA:(((g1.update a (x0J fun _=>(#[]:Array Value))).push (seqObj "tuple" vs.toArray 0)).push (seqObj "list" #[] 0)).get? a=some (seqObj "list" #[] e1):=x0d _ (x0d _ ho1)
   have kp:∀b o,s.heap.get? b=some o->(((g1.update a (x0J fun _=>(#[]:Array Value))).push (seqObj "tuple" vs.toArray 0)).push (seqObj "list" #[] 0)).get? b=some o:=fun b o q=>
     x0d _ (x0d _ ((s1.2 b (x0r (x0x (x0o q) haS))).trans (keep b o q)))
   generalize ((g1.update a (x0J fun _=>(#[]:Array Value))).push (seqObj "tuple" vs.toArray 0)).push (seqObj "list" #[] 0)=g3 at oK oA kp ⊢;have hkS2:s.heap.objs.size<=g1.objs.size + 1:=x1f haS (x2r (x1d ha));have hka:g1.objs.size + 1≠a:=x3x (x1d ha);generalize g1.objs.size + 1=kS at oK hkS2 hka ⊢;have nk:H kS=none:=I.hok.fresh hkS2;have na:H a=none:=I.hok.fresh haS;have I5:Inv X pins σ (upd H kS (.lst [])) { s with heap:=g3 }:=I.laid (t':=s.toks) kp hkS2 ⟨x0U _,[],0,.nil,oK⟩;have aL:a≠X.env.locals:=x3x (x0x I.lt haS);have aF:a∉X.fs:=I.nofs haS
   have I6:Inv X ((a,seqObj "list" #[] e1)::pins) σ (upd H kS (.lst [])) { s with heap:=g3 }:=I5.pins_of fun p hp=>by
     rcases x0k.mp hp with rfl | hp
     · exact⟨oA,by rw [a0j hka.symm];exact na,aL,aF,fun v z=>by cases z⟩
     · exact I5.pin p (x0t _ hp)
   refine kRest L I6 hv fo a0l rv h64 hka (h kS a nk na hka) fun s' H3 ks h' out c1 c2 I3 hk3 hR z1 z2 z3 z4=>⟨_,rfl,?_⟩;obtain⟨ys,ko,ry⟩:=b5E rv z4;have hn3:H3 a=none:=(I3.pin (a,seqObj "list" #[] e1) (x0t _ x0g)).2.1
   have ly:ys.length<=x0B:=by
     obtain⟨ps,hp,rfl,_⟩:=ko;rw [x0e,hp.length_eq,List.length_zip,x1c];omega
   refine x0h ⟨_,rfl,.ref a,_,I3.retrack hk3 (x1f I.sz haS) (fun p hp=>?_) (x0x I.bigS haS) (x0x I.bigS hkS2) z1 (out:=out.toList) (by simpa using z2) z3 ry ly,rfl,hR hn3 ys ko⟩;exact x0r (x0x (x0o (I.pin p hp).1) haS)
end
end L2
end
section
namespace L2
open PySem PySem.W PySem.Spec PyProof.Rows
theorem a6N {h h':Heap}{c':Addr}{q:Str}(x:h.CodeRec (.ref c') q)(k:∀o,h.get? c'=some o->h'.get? c'=some o):h'.CodeRec (.ref c') q:=by
 obtain⟨c,oc,vs,t,e,h1,h2,h3⟩:=x;cases e;exact⟨_,oc,vs,t,rfl,k _ h1,h2,h3⟩
theorem b3s {P:x0G}{w:World}{H:Hp}{h:Heap}{c':Addr}{q:Str}(x:h.CodeRec (.ref c') q):a1n P w H h c' (a4e c' q):=by
 refine⟨x,?_,fun h1 h2 y k=>a6N y k⟩;obtain⟨c,oc,vs,t,e,h1,_⟩:=x;cases e;exact⟨oc,h1⟩
section
variable {X:Cx}{pins:List (Addr×Obj)}{σ:St}{H:Hp}{s:Shared}
theorem Inv.grow {Pt c':Addr}{ps more:Array Value}{qual:Str}{h':Heap}{t':Nat}(I:Inv X pins σ H s)(hP:H Pt=some (.tbl ps))(hx:x4Y Pt s.heap h')(hge:s.heap.objs.size<=c')(hrec:h'.CodeRec (.ref c') qual)(htb:h'.get? Pt=some (tabObj (ps++more))) :
   Inv X pins σ (upd (upd H c' (a4e c' qual)) Pt (.tbl (ps++more))) { s with heap:=h',toks:=t' }:=by
 have nc:H c'=none:=I.hok.fresh hge;have oth:∀b,b≠Pt->b≠c'->upd (upd H c' (a4e c' qual)) Pt (.tbl (ps++more)) b=H b:=fun b h1 h2=>by rw [a0j h1,a0j h2]
 have ne1:∀b u,H b=some u->(∀z,u≠.tbl z)->b≠Pt/\b≠c':=fun b u e hu=>⟨(fun z=>by rw [z,hP] at e;cases e;exact hu _ rfl),(fun z=>by rw [z,nc] at e;cases e)⟩;have ne2:∀b o,s.heap.get? b=some o->H b=none->b≠Pt/\b≠c':=fun b o e n=>⟨(fun z=>by rw [z,hP] at n;cases n),x0r (x0x (x0o e) hge)⟩;refine I.un ⟨fun b o e n _ _=>hx b o (ne2 b o e n).1 e,fun b o e n _ _=>⟨o.slots,hx b o (ne2 b o e n).1 e⟩,fun b o e n _=>?_,fun b o e _=>?_,fun b xs e=>?_,fun b o u e=>?_,fun b qs e=>?_,fun z=>?_⟩ (fun b u e=>?_)
 · obtain⟨h1,h2⟩:=ne2 b o e n;rw [oth b h1 h2];exact n
 · by_cases hb:b=Pt
   · exact⟨_,hb▸htb⟩
   · exact⟨o,hx b o hb e⟩
 · obtain⟨h1,h2⟩:=ne1 b _ e (fun z q=>by cases q);rw [oth b h1 h2];exact e
 · obtain⟨h1,h2⟩:=ne1 b _ e (fun z q=>by cases q);rw [oth b h1 h2];exact e
 · by_cases hb:b=Pt
   · subst hb;rw [hP] at e;cases e;exact⟨more,a0l⟩
   · have h2:b≠c':=fun z=>by rw [z,nc] at e;cases e
     exact⟨#[],by rw [oth b hb h2,e];simp⟩
 · have h2:x2b≠c':=x0r (x0x I.bigS hge)
   have h1:x2b≠Pt:=fun q=>by
     unfold NS at z;rw [q,hP] at z;rcases z with z | ⟨_,_,z⟩ <;> cases z
   unfold NS at z ⊢;rw [oth _ h1 h2];exact z
 · by_cases h1:b=Pt
   · subst h1;rw [a0l] at e;cases e;exact htb
   · rw [a0j h1] at e
     by_cases h2:b=c'
     · subst h2;rw [a0l] at e;cases e;exact b3s hrec
     · rw [a0j h2] at e;refine(I.hok b u e).stay (fun d v hc q=>hx d v ?_ q) (fun d q=>?_) fun d xs q=>?_
       · rcases hc with z | z
         · rw [z];exact h1
         · exact(ne1 d _ z (fun z q=>by cases q)).1
       · obtain⟨z1,z2⟩:=ne1 d _ q (fun z q=>by cases q);rw [oth d z1 z2];exact q
       · obtain⟨z1,z2⟩:=ne1 d _ q (fun z q=>by cases q);rw [oth d z1 z2];exact q
end
noncomputable def a7U (qual:Str)(tb:TE)(vy:V)(xs:List V)(Q:VK)(c':Addr)(H2:Hp):Prop:=∀kS a,H2 kS=none->H2 a=none->kS≠a->a9j tb vy kS c' qual xs [] (upd H2 kS (.lst [])) fun ks H3=>H3 a=none->∀ys,KOut ks xs ys->Q (.ref a) (upd (upd H3 kS (.lst [])) a (.lst ys))
noncomputable def b3E (K:Frag)(Pt:Addr)(lpos:Pos)(qual:Str)(iy:Nat)(te tb:TE):TE:=fun σ H Q=>te σ H fun x H1=>∃a xs vy ps,x=.ref a/\SqL K H1 a xs/\xs.length < 64/\σ[iy]?=some (some vy)/\H1 Pt=some (.tbl ps)/\TriplesOk ps.toList/\
 ((codeAmong lpos ps.toList=none/\∀c',H1 c'=none->a7U qual tb vy xs Q c' (upd (upd H1 c' (a4e c' qual)) Pt (.tbl (ps++#[rawInt lpos.line,rawInt lpos.col,.ref c']))))\/∃c',codeAmong lpos ps.toList=some (.ref c')/\H1 c'=some (a4e c' qual)/\a7U qual tb vy xs Q c' H1)
section
variable {X:Cx}{scope:Scope}{params:x4U}{body:Expr}{qual x y:Str}{c cd Pt:Addr}{iy k:Nat}{tb te:TE}{e:Expr}{p pos kpos lpos:Pos}
theorem a8T (L:a7O X scope params body qual x y c iy k tb)(hq:X.env.qual++"<lambda>"=qual)(hcl:closureFor scope X.env=pure [(y,c)])(hcode:X.env.code=.ref cd)(C:CodeHd X.base cd Pt)(hB:X.base.BuiltinsAt X.mg Pt)(hg:Gl X "sorted")(hm:X.mg "sorted"=none)
   (he:PE X e te) (hs:x1h [e] X.env=[(false,eval e X.env)]) (hdef:defaultsOf params X.env=([],[])) :
   PE X (.Call (.Name "sorted" p) [e] [⟨some "key",.Lambda params body scope lpos,kpos⟩] pos) (b3E X.K Pt lpos qual iy te tb):=by
 intro pins s σ H Q I h;refine x3G (a5q I hg hm a5b ?_);refine callWith_kw ?_ (by rw [hs];rfl) (by rw [hs];rfl);rw [hs];show wpAny _ _ (spliced ((false,eval e X.env)::[])) _ _ s;refine Calls.spliced_cons (thn (he pins s σ H _ I h) fun u s1 ⟨x',H1,I1,r1,q1⟩=>?_);refine Calls.spliced_nil ?_;obtain⟨a,xs,vy,ps,rfl,hS,h64,hv,hP,ht,hR⟩:=q1;obtain rfl:u=.ref a:=r1;obtain⟨its,rv,⟨ol,nl,ho,hcl',hdl,hsl⟩,_⟩:=I1.list hS;have eP:s1.heap.get? Pt=some (tabObj ps):=I1.hok Pt _ hP;have aP:a≠Pt:=fun z=>by rw [z,eP] at ho;cases ho;cases hcl'
 have C1:CodeHd s1.heap cd Pt:=C.keeps fun b o q=>I1.bk b o q
 have B1:s1.heap.BuiltinsAt X.mg Pt:=by
   obtain⟨bm,o,z1,z2,z3,z4,z5,z6⟩:=hB;exact⟨bm,o,z1,z2,z3,z4,I1.bk _ _ z5,z6⟩
 have gP:x2k≠Pt:=fun q=>by
   obtain⟨o,es,ep,e,hd,_⟩:=I1.mod.glob.keeps I1.bk;rw [q,eP] at e;cases e;cases hd
 refine kws_cons (kla_eval hdef ?_);rw [hq]
 -- behind the making
 have fin:∀(c':Addr) (ctv:Value) (h':Heap) (tk:Nat) (H2:Hp),Inv X pins σ H2 { s1 with heap:=h',toks:=tk }->h'.IsList a its.toArray->a7U qual tb vy xs Q c' H2->
     wpAny (model X.prog X.w) X.A (evalAll ((x4f pos (x2y [] X.env)).map (·.2))) (fun vs s2=>wpAny (model X.prog X.w) X.A (call (.builtin "sorted") [.ref a] (((x4f pos (x2y [⟨some "key",.Lambda params body scope lpos,kpos⟩] X.env)).filterMap (·.1)).zip (.ref h'.objs.size::vs))) (EP X pins σ Q) X.xe s2) X.xe
       { s1 with heap:=h'.push (kla_obj "<lambda>" qual params body scope [(y,c)] ((X.mg "__name__").getD .none) c' ctv),toks:=tk }:=by
   intro c' ctv h' tk H2 I2 hl hR;refine kws_nil ?_;show wpAny (model X.prog X.w) X.A (call (.builtin "sorted") [.ref a] [(x0j "key",.ref h'.objs.size)]) (EP X pins σ Q) X.xe _;have I3:Inv X pins σ H2 { s1 with heap:=h'.push (kla_obj "<lambda>" qual params body scope [(y,c)] ((X.mg "__name__").getD .none) c' ctv),toks:=tk }:=I2.kept (t':=tk) fun b o q=>x0d _ q
   have I4:Inv X ((h'.objs.size,kla_obj "<lambda>" qual params body scope [(y,c)] ((X.mg "__name__").getD .none) c' ctv)::pins) σ H2 { s1 with heap:=h'.push (kla_obj "<lambda>" qual params body scope [(y,c)] ((X.mg "__name__").getD .none) c' ctv),toks:=tk }:=I3.pins_of fun q hq=>by
     rcases x0k.mp hq with rfl | hq
     · exact⟨x0s _ rfl,I2.hok.fresh (x0m _),x3x I2.lt,I2.nofs (x0m _),fun v z=>by cases z⟩
     · exact I3.pin q (x0t _ hq)
   refine thn (a8L L I4 hv x0g (let ⟨o9,z1,z2⟩:=hl;⟨o9,x0d _ z1,z2⟩) rv h64 hR) fun v s2 h2=>?_;obtain⟨v',H5,I5,r5,q5⟩:=h2;exact⟨v',H5,I5.pins_of fun q hq=>I5.pin q (x0t _ (x0f _ hq)),r5,q5⟩
 rcases hR with⟨hnf,hR⟩ | ⟨c',hf,hc',hR⟩
 · refine kla_makeFunction (mg:=X.mg) hcl I1.ok.glob (I1.mod.glob.keeps I1.bk) hcode C1 eP ht hnf gP B1 fun c' ctv h' tk hx hge hlt hrec htb=>?_;exact fin c' ctv h' tk _ (I1.grow hP hx hge hrec htb) ⟨ol,hx _ _ aP ho,hcl',nl,hsl⟩ (hR c' (I1.hok.fresh hge))
 · refine kla_makeFunctionHit (mg:=X.mg) hcl I1.ok.glob (I1.mod.glob.keeps I1.bk) hcode C1 eP ht hf B1 fun ctv h' tk hk hsz=>?_;exact fin c' ctv h' tk _ (I1.kept (t':=tk) hk) ⟨ol,hk _ _ ho,hcl',nl,hsl⟩ hR
end
end L2
end
section
namespace L2
open PySem PySem.Spec PyProof.Rows
noncomputable def insL {α:Type}(xs:List α)(k:Nat)(y:α):List α:=xs.take k++y::xs.drop k
theorem a4j {α:Type}(xs:List α)(k:Nat)(y:α):(insL xs k y).length=xs.length + 1:=by
 unfold insL;rw [x0l,x0K,x1e,x1y];omega
end L2
end
section
namespace Pu
open PySem PySem.Spec L2
section
variable {ι:Type}{K:x0b}{F:ι->Cx}{e:Expr}{es:List Expr}{st:Stmt}{pos:Pos}{pl:pA}{pe pa pb:pE}
theorem SR.potG {C:Ct}{G:Gh}{σ:St}{H H':Hp}{env:Env}{n:Nat}(S:SR C G σ H env n)(hn:C.np=true){p:Addr}{ob:HO}(mo:MutO ob)(h:H p=none)(sm:Same H H')(h':H' p=some ob)(ok:C.T.at_ (p::G.M) H' p n) :
   SR C ⟨p::G.M,G.pots++[p]⟩ σ H' env n:=by
 have hM:∀a∈p::G.M,a∈G.M\/H a=none:=fun a ha=>(x0k.mp ha).elim (fun z=>.inr (z▸h)) .inl
 have hp:∀(k:Nat) (q:Addr),G.pots[k]?=some q->(G.pots++[p])[k]?=some q:=fun k q e=>by
   obtain⟨hk,_⟩:=x0i.mp e;rw [x0Q hk];exact e
 have mm:∀{x:PV} {v:V},Rep C.K G H x v->Rep C.K ⟨p::G.M,G.pots++[p]⟩ H' x v:=fun r=>Rep.mono (G':=⟨p::G.M,G.pots++[p]⟩) (fun b o _ e=>sm b o e) hM hp _ _ r;have mms:∀{x:List PV} {v:List V},Reps C.K G H x v->Reps C.K ⟨p::G.M,G.pots++[p]⟩ H' x v:=fun r=>Reps.mono (G':=⟨p::G.M,G.pots++[p]⟩) (fun b o _ e=>sm b o e) hM hp _ _ r;have pM:=S.fresh h
 exact {
   frame:=fun b o hb e=>sm b o (S.frame b o hb e)
   sub:=fun a ha=>(x0k.mp ha).elim (fun z=>.inr (z▸S.old h)) (S.sub a)
   sup:=fun a ha=>x0f _ (S.sup a ha)
   pots:=fun q hq=>by
     rcases x0C.mp hq with z | z
     · refine⟨x0f _ (S.pots q z).1,?_⟩;have h1:=C.T.more (M':=p::G.M) (S.pots q z).2 hM;obtain⟨o,e,_⟩:=C.T.mu h1;exact C.T.keep h1 (by rw [e,sm q o e]) fun b o _ e=>sm b o e
     · rw [x0n.mp z];exact⟨x0g,ok⟩
   pre:=by
     obtain⟨l,el,_⟩:=S.pre;exact⟨l++[p],by show G.pots++[p]=_;rw [el,x0S],.inr hn⟩
   mu:=fun a ha=>by
     rcases x0k.mp ha with rfl | ha
     · exact⟨ob,h',mo⟩
     · obtain⟨o,e,m⟩:=S.mu a ha;exact⟨o,sm a o e,m⟩
   slots:=fun i s e=>by
     cases s with
     | v x =>
       obtain⟨v,ev,r⟩:=S.slots i _ e;exact⟨v,ev,mm r⟩
     | ow kk xs =>
       obtain⟨b,us,ev,h1,h2,h3,h4,r⟩:=S.slots i _ e;refine⟨b,us,ev,x0f _ h1,h2,fun z=>?_,sm _ _ h4,mms r⟩;rcases x0C.mp z with z | z
       · exact h3 z
       · rw [x0n.mp z] at h1;exact pM h1
   inj:=S.inj
   p0:=⟨S.p0.1,C.T.hasM S.p0.2 fun z=>pM (S.pots p z).1⟩
   len:=S.len
   newp:=fun q hq hn' hM=>by
     rcases x0C.mp hq with z | z
     · exact S.newp q z hn' hM
     · rw [x0n.mp z] at hM
       exact pM (S.sup p hM) }
end
end Pu
end
section
namespace Pu
open PySem PySem.W PySem.Spec L2
noncomputable def TabG (lpos:Pos)(qual:Str)(M:List Addr)(H:Hp)(ps:Array Value):Prop:=TriplesOk ps.toList/\(codeAmong lpos ps.toList=none\/∃c',codeAmong lpos ps.toList=some (.ref c')/\c'∉M/\H c'=some (a4e c' qual))
noncomputable def tabK (T:PotK)(Pt:Addr)(lpos:Pos)(qual:Str):PotK where
 at_:=fun M H p n=>(p≠Pt/\T.at_ M H p n)\/(p=Pt/\∃ps,H Pt=some (.tbl ps)/\TabG lpos qual M H ps)
 mono:=fun h hl=>h.imp (fun z=>⟨z.1,T.mono z.2 hl⟩) id
 keep:=fun h e k=>by
   rcases h with⟨h1,h2⟩ | ⟨rfl,ps,h2,h3,h4⟩
   · exact .inl ⟨h1,T.keep h2 e k⟩
   · refine .inr ⟨rfl,ps,e.trans h2,h3,h4.imp id ?_⟩;rintro⟨c',z1,z2,z3⟩;exact⟨c',z1,z2,k _ _ z2 z3⟩
 more:=fun h k=>by
   rcases h with⟨h1,h2⟩ | ⟨rfl,ps,h2,h3,h4⟩
   · exact .inl ⟨h1,T.more h2 k⟩
   · refine .inr ⟨rfl,ps,h2,h3,h4.imp id ?_⟩;rintro⟨c',z1,z2,z3⟩;exact⟨c',z1,(fun z=>(k c' z).elim z2 (fun q=>by rw [q] at z3;cases z3)),z3⟩
 mu:=fun h=>by
   rcases h with⟨h1,h2⟩ | ⟨rfl,ps,h2,_⟩
   · exact T.mu h2
   · exact⟨_,h2,trivial⟩
 has:=fun l=>∃l',l=Pt::l'/\Pt∉l'
 hasM:=fun {l p} h hp=>by
   obtain⟨l',rfl,h2⟩:=h;refine⟨l'++[p],rfl,fun z=>?_⟩;rcases x0C.mp z with z | z
   · exact h2 z
   · exact hp (by rw [<- x0n.mp z];exact x0g)
noncomputable def a2P:pF:=fun xs n R=>match xs with | [.pot (_ + 1),.int m]=>(0 < m/\m < 1000000/\n < 1000000000)/\∀d:Int,0<=d->d < m->R (.int d) (n + 1) | _=>False
section
variable {P:x0G}{w:World}{K:x0b}{mg:Str->Option Value}{base:Heap}{T:PotK}{Pt:Addr}{lpos:Pos}{qual:Str}
theorem b3o {x:Str}{k:Nat}{ps:List Str}(G:Kn P w K mg base x k ps (a0k K T a9C))(hT:T.has=fun _=>True):Kn P w K mg base x k ps (a0k K (tabK T Pt lpos qual) a2P):=G.imp fun vs H Q E h=>by
 obtain⟨G,xs,n,R,hp,hm,hh,r,hf,k⟩:=h;unfold a2P at hf
 split at hf
 · rename_i kk m;obtain⟨v,rr,rfl,rv,u,r2,rfl,ru,rfl⟩:=r;obtain⟨p,ep,rfl⟩:=rv;obtain rfl:u=.int m:=ru;obtain⟨l',el,nl⟩:=hh;have epl:l'[kk]?=some p:=by rw [el] at ep;simpa using ep
   have pl:p∈l':=x0u epl;have sub:∀q∈l',q∈G.pots:=fun q hq=>by rw [el];exact x0f _ hq
   have at1:∀q∈l',q∈G.M/\T.at_ G.M H q n:=fun q hq=>by
     obtain⟨a1,a2⟩:=hp q (sub q hq);rcases a2 with⟨_,a2⟩ | ⟨z,_⟩
     · exact⟨a1,a2⟩
     · exact absurd (z▸hq) nl
   have ptM:Pt∈G.pots:=by rw [el];exact x0g
   refine⟨⟨G.M,l'⟩,[.pot kk,.int m],n,fun r n'=>R r n'/\∃d,r=.int d,at1,hm,by rw [hT];trivial,⟨_,_,rfl,⟨p,epl,rfl⟩,_,_,rfl,rfl,rfl⟩,⟨hf.1,fun d d0 d1=>⟨hf.2 d d0 d1,d,rfl⟩⟩,fun r n' v H' rr rv hp' hk=>?_⟩
   have nr:Rep K G H' r v:=by
     obtain⟨_,d,rfl⟩:=rr;exact rv
   refine k r n' v H' rr.1 nr (fun q hq=>?_) fun b o hb e=>hk b o (fun z=>hb (sub b z)) e;rw [el] at hq;rcases x0k.mp hq with rfl | hq
   · rcases(hp q ptM).2 with⟨z,_⟩ | ⟨_,ps,z1,z2,z3⟩
     · exact absurd rfl z
     · refine .inr ⟨rfl,ps,hk _ _ nl z1,z2,z3.imp id ?_⟩;rintro⟨c',y1,y2,y3⟩;exact⟨c',y1,y2,hk _ _ (fun z=>y2 ((hp c' (sub c' z)).1)) y3⟩
   · exact .inl ⟨fun z=>nl (z▸hq),hp' q hq⟩
 · exact hf.elim
end
end Pu
end
section
namespace Pu
open PySem PySem.W PySem.Spec L2
noncomputable def a7B (pk:pE)(y:PV):List PV->Nat->(List Int->Nat->Prop)->Prop
 | [],n,R=>R [] n
 | x::xs,n,R=>pk [some (.v x),some (.v y)] n fun r _ n1=>∃k,r=.int k/\a7B pk y xs n1 fun ks n2=>R (k::ks) n2
noncomputable def SrtK (ks:List Int)(xs ys:List PV):Prop:=∃ps:List (Int×PV),ps.Perm (ks.zip xs)/\ys=ps.map Prod.snd/\ps.Pairwise fun p q=>p.1<=q.1
noncomputable def a8f (iy:Nat)(pe pk:pE):pA:=fun env n R=>pe env n fun x env1 n1=>match x,env1[iy]? with
 | .lst xs,some (some (.v y))=>xs.length < 64/\a7B pk y xs n1 fun ks n2=>∀ys,SrtK ks xs ys->R ys env1 n2
 | _,_=>False
theorem a6r {α β:Type}{f:α->β}{ps m:List β}(h:ps.Perm m):∀l:List α,m=l.map f->∃l':List α,l'.Perm l/\ps=l'.map f:=by
 induction h with
 | nil=>intro l e;exact⟨l,.refl _,e⟩
 | cons x _ ih =>
   intro l e;cases l with
   | nil=>cases e
   | cons a l =>
     rw [x0v] at e;injection e with e1 e2;obtain⟨l',p,q⟩:=ih l e2;exact⟨a::l',.cons a p,by rw [x0v,e1,q]⟩
 | swap x y r =>
   intro l e
   match l,e with
   | a :: b :: l, e =>
     rw [x0v,x0v] at e;injection e with e1 e2;injection e2 with e2 e3;exact⟨b::a::l,.swap _ _ _,by rw [x0v,x0v,e1,e2,e3]⟩
 | trans _ _ ih1 ih2 =>
   intro l e;obtain⟨l2,p2,q2⟩:=ih2 l e;obtain⟨l1,p1,q1⟩:=ih1 l2 q2;exact⟨l1,p1.trans p2,q1⟩
theorem zip3 {K:x0b}{G:Gh}{H:Hp}:∀(ks:List Int) (xs:List PV) (us:List V),Reps K G H xs us->∃l:List (Int×PV×V),ks.zip us=l.map (fun t=>(t.1,t.2.2))/\ks.zip xs=l.map (fun t=>(t.1,t.2.1))/\∀t∈l,Rep K G H t.2.1 t.2.2
 | [],xs,us,_=>⟨[],by simp,by simp,fun _ z=>nomatch z⟩
 | k::ks,[],us,h=>by cases(show us=[] from h);exact⟨[],rfl,rfl,fun _ z=>nomatch z⟩
 | k :: ks, x :: xs, us, h => by
   obtain⟨v,r,rfl,h1,h2⟩:=h;obtain⟨l,e1,e2,h3⟩:=zip3 ks xs r h2;refine⟨(k,x,v)::l,by rw [x1P,e1];rfl,by rw [x1P,e2];rfl,fun t ht=>?_⟩;rcases x0k.mp ht with rfl | ht
   · exact h1
   · exact h3 t ht
theorem b2k {K:x0b}{G:Gh}{H:Hp}:∀(l:List (Int×PV×V)),(∀t∈l,Rep K G H t.2.1 t.2.2)->Reps K G H (l.map fun t=>t.2.1) (l.map fun t=>t.2.2):=by
 intro xq
 induction xq with
 | nil =>
   intro _;exact rfl
 | cons t l ih =>
   intro h;exact⟨_,_,rfl,h t x0g,ih fun s hs=>h s (x0f _ hs)⟩
theorem b1a {K:x0b}{G:Gh}{H:Hp}{ks:List Int}{xs:List PV}{us ys:List V}(r:Reps K G H xs us)(h:KOut ks us ys):∃ys',SrtK ks xs ys'/\Reps K G H ys' ys:=by
 obtain⟨ps,hp,rfl,ho⟩:=h;obtain⟨l,e1,e2,h3⟩:=zip3 ks xs us r;rw [e1] at hp;obtain⟨l',p',rfl⟩:=a6r hp l rfl;refine⟨l'.map fun t=>t.2.1,⟨l'.map fun t=>(t.1,t.2.1),by rw [e2];exact p'.map _,by rw [x2a];rfl,?_⟩,?_⟩
 · rw [x1L] at ho ⊢;exact ho
 · rw [x2a];exact b2k l' fun t ht=>h3 t (p'.mem_iff.mp ht)
section
variable {T:PotK}{K:x0b}{Pt:Addr}{lpos:Pos}{qual:Str}
theorem b5G {tb:TE}{pk:pE}(hb:EOk K T tb pk){G:Gh}{H1 H2:Hp}{kS c':Addr}{y:PV}{vy:V}(hh:T.has G.pots)(h0:∀b o,b∉G.pots->H1 b=some o->H2 b=some o)(k1:H1 kS=none)(k2:H2 kS=none)(kM:kS∉G.M)(pM:∀p∈G.pots,p∈G.M)(hm:∀a∈G.M,∃o,H1 a=some o/\MutO o)
   (hc:H2 c'=some (a4e c' qual)) (cM:c'∉G.M) (ry:Rep K G H1 y vy) {R4:List Int->Hp->Prop} {RR:List Int->Nat->Prop}
   (fin:∀ks H4 n2,RR ks n2->(∀b o,b∉G.pots->H2 b=some o->H4 b=some o)->(∀p∈G.pots,T.at_ (kS::G.M) H4 p n2)->H4 kS=some (.lst (ks.map V.int))->R4 ks H4) :
   ∀(xs:List PV) (us:List V) (ks:List Int) (n:Nat) (H3:Hp),Reps K G H1 xs us->(∀b o,b∉G.pots->H2 b=some o->H3 b=some o)->(∀p∈G.pots,T.at_ (kS::G.M) H3 p n)->H3 kS=some (.lst (ks.map V.int))->a7B pk y xs n (fun more n2=>RR (ks++more) n2)->a9j tb vy kS c' qual us ks H3 R4:=by
 intro xq
 induction xq with
 | nil =>
   intro us ks n H3 r fr at3 e3 hk;cases(show us=[] from r);exact fin ks H3 n (by simpa [a7B] using hk) fr at3 e3
 | cons x xs ih =>
   intro us ks n H3 r fr at3 e3 hk;obtain⟨u,us,rfl,rx,rr⟩:=r;have kP:kS∉G.pots:=fun z=>kM (pM _ z);have neK:∀b o,H2 b=some o->b≠kS:=fun b o e z=>by rw [z,k2] at e;cases e
   let GD:Gh:=⟨kS::G.M,G.pots⟩
   have fr1:∀b o,b∉G.M->H1 b=some o->H3 b=some o:=fun b o hb e=>fr b o (fun z=>hb (pM b z)) (h0 b o (fun z=>hb (pM b z)) e);have mv:∀{x:PV} {v:V},Rep K G H1 x v->Rep K GD H3 x v:=fun r=>Rep.mono (G':=GD) fr1 (fun a ha=>(x0k.mp (show a∈kS::G.M from ha)).elim (fun z=>.inr (z▸k1)) .inl) (fun _ _ e=>e) _ _ r
   have I:Inn K T GD [some u,some vy] H3 [some (.v x),some (.v y)] n:=by
     refine⟨fun p hp=>⟨x0f _ (pM p hp),at3 p hp⟩,hh,fun a ha=>?_,fun i s e=>?_,rfl⟩
     · rcases x0k.mp (show a∈kS::G.M from ha) with rfl | ha
       · exact⟨_,e3,trivial⟩
       · by_cases hp:a∈G.pots
         · exact T.mu (at3 a hp)
         · obtain⟨o,e,m⟩:=hm a ha;exact⟨o,fr a o hp (h0 a o hp e),m⟩
     · match i,e with
       | 0,e=>cases e;exact⟨x,u,rfl,rfl,mv rx⟩
       | 1,e=>cases e;exact⟨y,vy,rfl,rfl,mv ry⟩
       | _ + 2,e=>cases e
   refine⟨fr c' _ (fun z=>cM (pM _ z)) hc,?_⟩;refine hb _ GD _ H3 _ n _ _ rfl rfl I.sr hk fun q env' n1 v H4 rq S4 rv f4=>?_;obtain⟨k,rfl,hk2⟩:=rq;have e4:H4 kS=some (.lst (ks.map V.int)):=S4.frame kS _ kP e3;refine⟨k,rv,e4,?_⟩;refine ih us (ks++[k]) n1 _ rr (fun b o hp e=>?_) (fun p hp=>?_) a0l (by simpa [x0S] using hk2)
   · rw [a0j (neK b o e)];exact S4.frame b o hp (fr b o hp e)
   · refine T.keep (S4.pots p hp).2 (a0j fun z=>kP (z▸hp)) fun b o hb e=>?_;rw [a0j (fun z=>hb (by rw [z];exact x0g))];exact e
theorem b0F {te tb:TE}{pe pk:pE}{iy:Nat}(h2:ROk K (tabK T Pt lpos qual) te pe)(hb:EOk K (tabK T Pt lpos qual) tb pk):NOk K (tabK T Pt lpos qual) (b3E K Pt lpos qual iy te tb) (a8f iy pe pk):=by
 intro C G σ H env n R Q hK hT S hp k;refine h2 C G σ H env n _ _ hK hT S hp fun x env1 n1 v H1 p1 S1 r1 f1=>?_;have rd:RdV K G H1 x v:=hK▸r1.rd S1
 split at p1
 · rename_i xs y ey;obtain⟨h64,p1⟩:=p1;obtain⟨a,us,rfl,hq,r⟩:=rd.lst;obtain⟨vy,ev,ry⟩:=S1.slots iy _ ey;rw [hK] at ry;have hh:(tabK T Pt lpos qual).has G.pots:=hT▸S1.hasG;obtain⟨l',el,nl⟩:=id hh;have ptM:Pt∈G.pots:=by rw [el];exact x0g
   have atH:∀p∈G.pots,p∈G.M/\(tabK T Pt lpos qual).at_ G.M H1 p n1:=fun p hp=>hT▸S1.pots p hp;have pM:∀p∈G.pots,p∈G.M:=fun p hp=>(atH p hp).1
   obtain⟨ps,eP,tg⟩:∃ps,H1 Pt=some (.tbl ps)/\TabG lpos qual G.M H1 ps:=by
     rcases(atH Pt ptM).2 with⟨z,_⟩ | ⟨_,z⟩
     · exact absurd rfl z
     · exact z
   have ul:us.length=xs.length:=r.length.symm
   have rest:∀c' H2,(∀b o,b∉G.pots->H1 b=some o->H2 b=some o)->(∀p∈G.pots,(tabK T Pt lpos qual).at_ G.M H2 p n1)->H2 c'=some (a4e c' qual)->c'∉G.M->a7U qual tb vy us Q c' H2:=by
     intro c' H2 h0 at2 hc cM kS a2 nk na hka
     have k1:H1 kS=none:=by
       cases e:H1 kS with
       | none=>rfl
       | some o =>
         by_cases hp:kS∈G.pots
         · obtain⟨o2,e2,_⟩:=(tabK T Pt lpos qual).mu (at2 kS hp);rw [nk] at e2;cases e2
         · rw [h0 kS o hp e] at nk;cases nk
     have kM:kS∉G.M:=S1.fresh k1;refine b5G hb hh h0 k1 nk kM pM S1.mu hc cM ry (RR:=fun ks n2=>∀ys,SrtK ks xs ys->R ys env1 n2) (fun ks H4 n2 rr fr4 at4 e4 n4 ys ko=>?_) xs us [] n1 _ r (fun b o hp e=>?_) (fun p hp=>?_) a0l p1
     · obtain⟨ys',so,ry'⟩:=b1a r ko;have ne4:∀b o,H2 b=some o->b≠kS:=fun b o e z=>by rw [z,nk] at e;cases e
       have hk4:∀b o,b∉G.pots->H1 b=some o->upd H4 kS (.lst []) b=some o:=fun b o hp e=>by
         have e2:=h0 b o hp e;rw [a0j (ne4 b o e2)];exact fr4 b o hp e2
       have fr:Fr G H1 (upd H4 kS (.lst [])):=fun b o hb e=>hk4 b o (fun z=>hb (pM b z)) e;refine k ys' env1 n2 a2 ys (upd H4 kS (.lst [])) (rr ys' so) (S1.call hk4 fun p hp=>?_) (f1.trans fr) (by rw [a0j hka.symm];exact n4) (ry'.fr fr);rw [hT];have h5:=(tabK T Pt lpos qual).more (M':=G.M) (at4 p hp) fun a ha=>.inl (x0f _ ha)
       -- kS is none of the pots' things
       have h6:=(tabK T Pt lpos qual).keep (H':=upd H4 kS (.lst [])) (at4 p hp) (a0j fun z=>kM (pM _ (z▸hp))) fun b o hb e=>by
         rw [a0j (fun z=>hb (by rw [z];exact x0g))];exact e
       exact(tabK T Pt lpos qual).more (M':=G.M) h6 fun a ha=>.inl (x0f _ ha)
     · rw [a0j (fun z=>by rw [z,nk] at e;cases e)];exact e
     · have h5:=(tabK T Pt lpos qual).more (M':=kS::G.M) (at2 p hp) fun a ha=>(x0k.mp ha).elim (fun z=>.inr (z▸nk)) .inl
       exact(tabK T Pt lpos qual).keep h5 (a0j fun z=>kM (pM _ (z▸hp))) fun b o hb e=>by
         rw [a0j (fun z=>hb (by rw [z];exact x0g))];exact e
   refine⟨a,us,vy,ps,rfl,hq,by omega,ev,eP,tg.1,?_⟩;rcases tg.2 with hn | ⟨c',z1,z2,z3⟩
   · refine .inl ⟨hn,fun c' hc'=>rest c' _ (fun b o hp e=>?_) (fun p hp=>?_) ?_ (S1.fresh hc')⟩
     · have b1:b≠Pt:=fun z=>hp (by rw [z];exact ptM);rw [a0j b1,a0j (fun z=>by rw [z,hc'] at e;cases e)];exact e
     · by_cases hpp:p=Pt
       · subst hpp;refine .inr ⟨rfl,_,a0l,?_,.inr ⟨c',?_,S1.fresh hc',?_⟩⟩
         · have e:(ps++#[rawInt lpos.line,rawInt lpos.col,x1l c']).toList=ps.toList++[rawInt lpos.line,rawInt lpos.col,.ref c']:=by simp
           rw [e];exact TriplesOk_snoc _ _ _ _ tg.1
         · have e:(ps++#[rawInt lpos.line,rawInt lpos.col,x1l c']).toList=ps.toList++[rawInt lpos.line,rawInt lpos.col,.ref c']:=by simp
           rw [e];exact codeAmong_snoc _ tg.1 hn
         · rw [a0j (fun z=>by rw [z,eP] at hc';cases hc'),a0l]
       · rcases(atH p hp).2 with⟨_,z⟩ | ⟨z,_⟩
         · refine .inl ⟨hpp,?_⟩;have nc:p≠c':=fun q=>S1.fresh hc' (by rw [<- q];exact pM p hp);have z2:=T.keep (H':=upd H1 c' (a4e c' qual)) z (a0j nc) fun b o _ e=>by rw [a0j (fun q=>by rw [q,hc'] at e;cases e)];exact e
           exact T.keep z2 (by rw [a0j hpp]) fun b o hb e=>by rw [a0j (fun q=>hb (by rw [q];exact pM _ ptM))];exact e
         · exact absurd z hpp
     · rw [a0j (fun z=>by rw [z,eP] at hc';cases hc'),a0l]
   · exact .inr ⟨c',z1,z3,rest c' H1 (fun _ _ _ e=>e) (fun p hp=>(atH p hp).2) z3 z2⟩
 · exact p1.elim
end
section
variable {T:PotK}{ι:Type}{K:x0b}{F:ι->Cx}{Pt cd:Addr}{lpos p pos kpos:Pos}{qual x y:Str}{e body:Expr}{pe pk:pE}{scope:Scope}{params:x4U}{iy k:Nat}{c:ι->Addr}
theorem b2p (he:QR (tabK T Pt lpos qual) K F e pe)
   (hb:QE (tabK T Pt lpos qual) K (fun q:ι×Addr×Addr×Shared×Hp=>a9v (F q.1) scope [x,y] qual q.2.1 q.2.2.1 [(y,c q.1)] q.2.2.2.1 q.2.2.2.2) body pk)
   (S:a3v scope x y) (hr:∀z,Room k (F z).A) (hc:∀z,(F z).env.cells.lookup y=some (c z)) (hi:∀z,(F z).env.scope.names.lookup y=some .cell) (hn:∀z,(F z).N[iy]?=some y)
   (bd:∀z (pm ct cdv u:Value),x4w (kla_fn "<lambda>" qual params body scope [(y,c z)] pm cdv ct) ⟨[u],[]⟩=pure [(x,u)])
   (hq:∀z,(F z).env.qual++"<lambda>"=qual) (hcl:∀z,closureFor scope (F z).env=pure [(y,c z)]) (hcode:∀z,(F z).env.code=.ref cd) (C:∀z,CodeHd (F z).base cd Pt) (hB:∀z,(F z).base.BuiltinsAt (F z).mg Pt)
   (hg:∀z,Gl (F z) "sorted") (hm:∀z,(F z).mg "sorted"=none) (hdef:∀z,defaultsOf params (F z).env=([],[])) (hs:a0v e=true:=by rfl) (hK:∀z,(F z).K=K:=by intro _;rfl) :
   QN (tabK T Pt lpos qual) K F (.Call (.Name "sorted" p) [e] [⟨some "key",.Lambda params body scope lpos,kpos⟩] pos) (a8f iy pe pk):=by
 obtain⟨t,h1,h2⟩:=he;obtain⟨u,h3,h4⟩:=hb;refine⟨_,fun z=>hK z▸a8T (c:=c z) (k:=k) (tb:=u) ⟨S,hr z,hc z,hi z,hn z,bd z,fun f c' s H=>h3 (z,f,c',s,H)⟩ (hq z) (hcl z) (hcode z) (C z) (hB z) (hg z) (hm z) (h1 z) (a0e hs) (hdef z),b0F h2 h4⟩
end
end Pu
end
section
namespace L2
open PySem PySem.W PySem.Spec PyProof.Rows
noncomputable def b6b (Pt:Addr)(H:Hp):Prop:=∀b,H b=none\/(∃o xs,H b=some (.frz o (.lst xs)))\/(b=Pt/\H b=some (.tbl #[]))
theorem b0X {P:x0G}{w:World}{K:Frag}{mg mb:Str->Option Value}{CX:CXT}{k:Nat}{fa a Pt cd:Addr}{fd:x4d}{x:Str}{sp:Sp}{s₁:Shared}{vs:List Value}{ns:List Int}
   (KX:K.In s₁.heap) (hns:s₁.heap.Ns x2k mg) (hb:s₁.heap.Ns builtinsNs mb) (hbb:∀x:Str,x≠"__name__"->mb x=x1i x) (hlim:s₁.heap.NoLimit) (hg:s₁.gens=#[])
   (ha:s₁.heap.get? a=some { cls:=.type "list",data:=.seq vs.toArray }) (hi:IntsAre vs ns) (hl:ns.length<=x0B) (hr:Room k callerA)
   (hP:s₁.heap.get? Pt=some (tabObj #[])) (hC:CodeHd s₁.heap cd Pt) (hB:s₁.heap.BuiltinsAt mg Pt) (hKP:K.lookup Pt=none) (hsy:x2b≠Pt)
   (F:∀base:Heap,K.In base->base.Ns x2k mg->CodeHd base cd Pt->base.BuiltinsAt mg Pt->FnOk P w K mg base CX k fa fd [x] sp) (hbind:∀(s:Shared) (u:Value),BindsTo s fd ⟨[u],[]⟩ [(x,u)])
   (hsp:∀H:Hp,b6b Pt H->H Pt=some (.tbl #[])->SqL K H a (ns.map V.int)->sp [.ref a] H (fun v _=>v=.bl true) fun _ _ _=>False)
   (hCX:∀H e s',CX [] H s₁ (fun _ _ _=>False) e s'->False) :
   x2x (model P w) callerA (.call (.ref fa) ⟨[.ref a],[]⟩) (fun r s'=>r=.ok (.ret (.bool true))/\OldK s₁.heap s'.heap/\s'.os=s₁.os/\AllBare s'.gens) s₁:=by
 have rv:=a9I hi;have lenV:=hi.length;have haP:a≠Pt:=fun z=>by rw [z,hP] at ha;cases ha
 have core:∀H:Hp,b6b Pt H->H Pt=some (.tbl #[])->SqL K H a (ns.map V.int)->HOk P w H s₁.heap->(∀b,H b≠none->b=a\/b=Pt)->(H a≠none->K.lookup a=none)->
     x2x (model P w) callerA (.call (.ref fa) ⟨[.ref a],[]⟩) (fun r s'=>r=.ok (.ret (.bool true))/\OldK s₁.heap s'.heap/\s'.os=s₁.os/\AllBare s'.gens) s₁:=by
   intro H hO hPt hS hok hA hK;have base_of:∀{b:Addr} {o:Obj},s₁.heap.get? b=some o->H b=none->(hidT s₁.heap H).get? b=some o:=fun e n=>b3h e n
   have noA:∀{b:Addr} {o:Obj},s₁.heap.get? b=some o->(∀n,o.data≠.seq vs.toArray n)->(∀ps,o.data≠.fields ps)->H b=none:=fun {b o} e d1 d2=>by
     cases q:H b with
     | none=>rfl
     | some u =>
       rcases hA b (by rw [q];simp) with e' | e'
       · subst e';rw [ha] at e;cases e;exact absurd rfl (d1 _)
       · subst e';rw [hP] at e;cases e;exact absurd rfl (d2 _)
   have nsK:∀{b:Addr} {m:Str->Option Value},s₁.heap.Ns b m->(hidT s₁.heap H).Ns b m:=fun {b m} ⟨o,es,ep,e,d,r⟩=>⟨o,es,ep,base_of e (noA e (fun n z=>by rw [d] at z;cases z) (fun n z=>by rw [d] at z;cases z)),d,r⟩
   have hKb:K.In (hidT s₁.heap H):=fun b o e=>base_of (KX b o e) (by
     cases q:H b with
     | none=>rfl
     | some u =>
       rcases hA b (by rw [q];simp) with e' | e'
       · subst e';rw [hK (by rw [q];simp)] at e;cases e
       · subst e'
         rw [hKP] at e;cases e)
   have hM:Mod K mg (hidT s₁.heap H):=⟨hKb,nsK hns,⟨mb,nsK hb,hbb⟩,let ⟨mc,h1,h2⟩:=hlim;⟨mc,nsK h1,h2⟩⟩
   have hC':CodeHd (hidT s₁.heap H) cd Pt:=by
     obtain⟨o,vs',file,tf,flags,tg,inF,text,tt,e1,r1,r2,r3,r4,r5,r6,r7,r8,hne⟩:=hC;refine⟨o,vs',file,tf,flags,tg,inF,text,tt,base_of e1 ?_,r1,r2,r3,r4,r5,r6,r7,r8,hne⟩;cases q:H cd with
     | none=>rfl
     | some u =>
       rcases hA cd (by rw [q];simp) with e' | e'
       · subst e';rw [ha] at e1;cases e1;have z:x1q "list"=x1q "code":=r1;injection z with z;exact absurd z (by decide)
       · exact absurd e' hne
   have hB':(hidT s₁.heap H).BuiltinsAt mg Pt:=by
     obtain⟨bm,o,z1,z2,z3,z4,z5,z6,z7,z8⟩:=hB;exact⟨bm,o,z1,z2,z3,z4,base_of z5 (noA z5 (fun n z=>by rw [z8] at z;cases z) (fun n z=>by rw [z8] at z;cases z)),z6,z7,z8⟩
   have nsy:NS H:=by
     rcases hO x2b with z | ⟨o,xs,z⟩ | ⟨z,_⟩
     · exact .inl z
     · exact .inr ⟨o,_,z⟩
     · exact absurd z hsy
   have e0:Env0 P w K mg (hidT s₁.heap H) callerA [] s₁ H:=⟨rfl,hM,fun b o e=>b5o e,x4N (b1n _ _),trivial,fun b hb=>absurd (show b∈([]:List Addr) from hb) (by simp),hok,.of_eq hg,nsy⟩;refine x3y ((F _ hKb (nsK hns) hC' hB').run callerA [] s₁ H ⟨[.ref a],[]⟩ [.ref a] [.ref a] _ _ hr e0 (hbind s₁ (.ref a)) (.cons rfl .nil) (hsp H hO hPt hS)) fun r s' h=>?_;cases r with
   | error e=>exact(hCX H e s' h).elim
   | ok fl =>
     cases fl with
     | next=>exact x3h h
     | brk=>exact x3h h
     | cont=>exact x3h h
     | ret u =>
       obtain⟨v,H',os,bare,un,hok',r',q⟩:=h;have q':v=.bl true:=q;subst q';obtain rfl:u=Value.bool true:=r'
       have kept:∀b o,b≠Pt->s₁.heap.get? b=some o->s'.heap.get? b=some o:=fun b o hb e=>by
         cases q:H b with
         | none=>exact un.keep b o e q (by intro z;exact absurd (show b∈([]:List Addr) from z) (by simp)) (by simp)
         | some u =>
           rcases hO b with z | ⟨ob,xs,z⟩ | ⟨z,_⟩
           · rw [q] at z;cases z
           · have z2:=un.frzs b ob _ z;obtain⟨e1,_⟩:=hok b _ z;obtain⟨e2,_⟩:=hok' b _ z2;rw [e] at e1;cases e1;exact e2
           · exact absurd z hb
       obtain⟨more,hm⟩:=un.tbls Pt #[] hPt;have eP:s'.heap.get? Pt=some (tabObj (#[]++more)):=hok' Pt _ hm;refine⟨rfl,⟨fun b o e=>?_,fun b o e=>?_⟩,os,bare⟩
       · by_cases hb:b=Pt
         · subst hb;rw [hP] at e;cases e;exact .inr (.inl ⟨(hC.tab hP).isCodeTable,rfl,#[],more,rfl,eP⟩)
         · exact .inl (kept b o hb e)
       · by_cases hb:b=Pt
         · subst hb;exact⟨_,eP⟩
         · exact⟨o,kept b o hb e⟩
 have tabOk:∀(H:Hp),a1n P w H s₁.heap Pt (.tbl #[]):=fun H=>hP;cases hk:K.lookup a with
 | some o =>
   have e:=KX a o hk;rw [ha] at e;cases e;refine core (fun b=>if b=Pt then some (.tbl #[]) else none) (fun b=>?_) (if_pos rfl) (.inr ⟨_,vs.toArray,_,hk,rfl,rfl,rfl,by rw [x0q,lenV];exact hl,by simpa using rv⟩) (fun b u z=>?_) (fun b z=>?_) fun z=>absurd (if_neg haP) z
   · by_cases hb:b=Pt
     · exact .inr (.inr ⟨hb,if_pos hb⟩)
     · exact .inl (if_neg hb)
   · by_cases hb:b=Pt
     · have z':=(if_pos hb).symm.trans z;cases z';subst hb;exact tabOk _
     · have z':=(if_neg hb).symm.trans z;cases z'
   · by_cases hb:b=Pt
     · exact .inr hb
     · exact absurd (if_neg hb) z
 | none =>
   refine core (fun b=>if b=Pt then some (.tbl #[]) else if b=a then some (.frz { cls:=.type "list",data:=.seq vs.toArray } (.lst (ns.map V.int))) else none) (fun b=>?_) (if_pos rfl) (.inl (.inr ⟨{ cls:=.type "list",data:=.seq vs.toArray },?_⟩)) (fun b u z=>?_) (fun b z=>?_) fun _=>hk
   · by_cases hb:b=Pt
     · exact .inr (.inr ⟨hb,if_pos hb⟩)
     · by_cases hb2:b=a
       · exact .inr (.inl ⟨_,_,by simp only [if_neg hb,if_pos hb2];rfl⟩)
       · exact .inl (by simp only [if_neg hb,if_neg hb2])
   · show(if a=Pt then _ else if a=a then _ else _)=_;rw [if_neg haP,if_pos rfl]
   · have z:(if b=Pt then some (HO.tbl #[]) else if b=a then some (.frz { cls:=.type "list",data:=.seq vs.toArray } (.lst (ns.map V.int))) else none)=some u:=z
     by_cases hb:b=Pt
     · rw [if_pos hb] at z;cases z;subst hb;exact tabOk _
     · rw [if_neg hb] at z
       by_cases hb2:b=a
       · rw [if_pos hb2] at z;cases z;subst hb2;exact⟨ha,by rw [x0e];exact hl,vs,_,rv,ha⟩
       · rw [if_neg hb2] at z;cases z
   · by_cases hb:b=Pt
     · exact .inr hb
     · by_cases hb2:b=a
       · exact .inl hb2
       · exact absurd (show(if b=Pt then _ else if b=a then _ else none)=none by rw [if_neg hb,if_neg hb2]) z
structure Fn0C (K:Frag)(mg:Str->Option Value)(x:Str)(st:Stmt)(cd:Addr):Prop where
 ex:∃(f:Addr) (oc:Value) (od:Option Addr) (kV doc pm:Value) (an:Option Addr) (ct:Value) (osl:Array (Option Value)),K.lookup f=some ⟨oc,od,.func (fnOf x x (a1p st) (a0P st) (a0i st) .none kV doc pm an (.ref cd) ct),osl⟩/\codeIn K (.ref cd) x=true/\keepIn K (.ref f)=true/\mg x=some (.ref f)
theorem b5M {K:Frag}{h:Heap}{mg:Str->Option Value}{x:Str}{st:Stmt}(X:K.In h)(G:h.Ns x2k mg){f cd:Addr}{oc:Value}{od an:Option Addr}{osl:Array (Option Value)}{kV doc pm ct:Value}
   (a:nsIn K x2k x=some (some (.ref f))) (l:K.lookup f=some ⟨oc,od,.func (fnOf x x (a1p st) (a0P st) (a0i st) .none kV doc pm an (.ref cd) ct),osl⟩)
   (c:codeIn K (.ref cd) x=true) (k:keepIn K (.ref f)=true):Fn0C K mg x st cd:=⟨f,oc,od,kV,doc,pm,an,ct,osl,l,c,k,mg_of X G a⟩
section
variable {P:x0G}{w:World}{K:Frag}{mg:Str->Option Value}{base:Heap}
theorem Fn0C.ok {x:Str}{st:Stmt}{cd:Addr}{N ps:List Str}{k:Nat}{sp:Sp}(F:Fn0C K mg x st cd)(S:a0s N ps (a0i st))(len:∀vs H Q E,sp vs H Q E->vs.length=ps.length)
   (bd:∀(kV doc pm:Value) (an:Option Addr) (cdv ct:Value) (us:List Value),us.length=ps.length->x4w (fnOf x x (a1p st) (a0P st) (a0i st) .none kV doc pm an cdv ct) ⟨us,[]⟩=pure (ps.zip us))
   (hbody:∀(f:Addr) (A:Around) (outer:List Env) (s:Shared) (H:Hp) (vs:List V) (Q:VK) (E:XK),Room k (A.deeper (envOfC x (a0i st) s.heap.objs.size f (.ref cd)))->sp vs H Q E->
     ∃t,PSs (cxOf CX0 P w K mg base N x (a0i st) f (.ref cd) A outer s H E).nox (a0P st) t/\t { nx:=fun _ H'=>Q .non H',rt:=Q } (start N vs) H):Kn P w K mg base x (k + 1) ps sp:=by
 obtain⟨f,oc,od,kV,doc,pm,an,ct,osl,l,hcd,kp,m⟩:=F.ex;refine⟨f,_,fn_of l hcd S len fun A outer s H vs Q E hr hsp=>?_,.all (bd kV doc pm an (.ref cd) ct),kp,m,oc,od,osl,l⟩;obtain⟨t,h,q⟩:=hbody f A outer s H vs Q E hr hsp;exact⟨t,h.nox,q⟩
end
noncomputable def a7Z (K:Frag)(Pt:Addr):Sp:=fun vs H Q _=>∃(a:Addr) (ns:List Int),vs=[.ref a]/\SqL K H a (ns.map V.int)/\ns.length<=63/\b6b Pt H/\H Pt=some (.tbl #[])/\∀H',Q (.bl true) H'
theorem a9H {l:OpenLaw}{q:x0G}{loose:List Str}{XP:(Str->Option Value)->Heap->Prop}{d:DefRec}{K:Params->Frag}{as:List Addr}{e:∀P,as=(K P).map (·.1)}{Pt:Addr}{x:Str}{k:Nat}(hn:l.most=some 63)(hdf:d.params.defaults=[])(hk:Room k callerA)(hsy:x2b≠Pt)
   (F:∀(w:World) (mg:Str->Option Value) (h:Heap),(K w.params).In h->h.Ns x2k mg->∃st x' st',Fn0 (K w.params) mg d.name st/\(∃cd,Fn0C (K w.params) mg x' st' cd/\codeHdIn (K w.params) cd Pt=true)/\(K w.params).lookup Pt=none/\
     (∀(kV doc pm:Value) (an:Option Addr) (cdv ct:Value) (s:Shared) (u:Value),BindsTo s (fnOf d.name d.name (a1p st) (a0P st) (a0i st) .none kV doc pm an cdv ct) ⟨[u],[]⟩ [(x,u)])/\
     ∀cd,Fn0C (K w.params) mg x' st' cd->∀base:Heap,(K w.params).In base->base.Ns x2k mg->CodeHd base cd Pt->base.BuiltinsAt mg Pt->Kn l.prog w (K w.params) mg base d.name k [x] (a7Z (K w.params) Pt)) :
   WalkO q loose XP (kmHook K as e [Pt]).says l.row.toRowW d [] (fun f vs=>PySem.call f vs):=by
 refine Att.attach_call hn hdf fun w s₀ s₁ mg mb fa o pm cdv doc a vs ns G Y ho hd hcd hmg hobj hints hlen hg=>?_;have KX:=km_in_of Y;have hP:=km_tabs_of Y Pt x0g;obtain⟨st,x',st',F0,⟨cd,fC,hhd⟩,hKP,hb,hF⟩:=F w mg _ KX G.T.g;obtain⟨f,fd,F1,m⟩:=F0.ex;have e:=hmg.symm.trans m;cases e;have hC:=codeHd_of_K KX hhd
 have hB:s₁.heap.BuiltinsAt mg Pt:=by
   obtain⟨bm,ob,b1,b2,b3,b4,b5,b6⟩:=G.T.bmain;refine⟨bm,ob,b1,b2,fun q=>?_,fun q=>?_,b3,b4,b5,b6⟩
   · obtain⟨o,es,ep,e,hd,_⟩:=G.T.g;rw [q,e] at b3;cases b3;rw [hd] at b6;cases b6
   · rw [q,hP] at b3;cases b3;cases b4
 refine b0X (x:=x) (CX:=CX0) (sp:=a7Z (K w.params) Pt) (fd:=fd) KX G.T.g G.T.b G.T.builtins G.T.nolimit hg hobj hints (x1f hlen (by decide)) hk hP hC hB hKP hsy (fun base kb nb c1 c2=>?_) (fun s u=>?_) (fun H hO hPt hS=>⟨a,ns,rfl,hS,hlen,hO,hPt,fun _=>rfl⟩) fun _ _ _ z=>z
 · obtain⟨f',fd',a',b',c',m',oc',od',osl',lk'⟩:=(hF cd fC base kb nb c1 c2).ex;have e:=m.symm.trans m';cases e;obtain⟨oc,od,kV,doc,pm,an,cdv,ct,osl,_,lk,hcd⟩:=F1.ex;have e2:=lk.symm.trans lk';cases e2;exact a'
 · obtain⟨oc,od,kV,doc,pm,an,cdv,ct,osl,rfl,lk,hcd⟩:=F1.ex;exact hb kV doc pm an cdv ct s u
end L2
namespace Pu
open PySem PySem.W PySem.Spec L2
section
variable {P:x0G}{w:World}{K:x0b}{mg:Str->Option Value}{base:Heap}{T:PotK}{Pt:Addr}{lpos:Pos}{qual:Str}
theorem fn_okC {x:Str}{st:Stmt}{cd:Addr}{N ps:List Str}{k:Nat}{body:pS}(F0:Fn0C K mg x st cd)(sc:a0s N ps (a0i st))
   (bd:∀(kV doc pm:Value) (an:Option Addr) (cdv ct:Value) (us:List Value),us.length=ps.length->x4w (x2h x x (a1p st) (a0P st) (a0i st) .none kV doc pm an cdv ct) ⟨us,[]⟩=pure (ps.zip us))
   (h:∀(f:Addr) (A:Around) (outer:List PySem.Env) (s:Shared) (H:Hp) (E:XK),Room k (A.deeper (x4E x (a0i st) s.heap.objs.size f (.ref cd)))->
     QSs T false K (fun _:Unit=>(cxOf CX0 P w K mg base N x (a0i st) f (.ref cd) A outer s H E).nox) (a0P st) body) :
   Kn P w K mg base x (k + 1) ps (a0k K T (fnP N ps body)):=by
 refine F0.ok sc (fun vs H Q E h=>?_) bd (fun f A outer s H vs Q E hr hsp=>?_)
 · obtain⟨G,xs,n,R,_,_,_,r,hf,_⟩:=h;rw [<- r.length];exact hf.1
 · obtain⟨t,h1,h2⟩:=h f A outer s H E hr;obtain⟨G,xs,n,R,hp,hm,hh,r,hf,k'⟩:=hsp;refine⟨t,h1 (),?_⟩;have S0:=a5B (N:=N) (np:=false) hp hm hh r
   have fin:∀(x:PV) (n':Nat) (v:V) (G':Gh) (σ:St) (H':Hp) (env:Env),R x n'->SR ⟨K,T,G.M,G.pots,H,false⟩ G' σ H' env n'->Rep K ⟨G.M,G'.pots⟩ H' x v->Q v H':=by
     intro x n' v G' σ H' env rr S' rv
     have ep:G'.pots=G.pots:=by
       obtain⟨l,el,hl⟩:=S'.pre;rcases hl with hl | hl
       · rw [el,hl,x1t]
       · cases hl
     rw [ep] at rv;exact k' _ _ _ _ rr rv (fun p hp'=>T.more (S'.pots p (by rw [ep];exact hp')).2 fun a ha=>.inl (S'.sup a ha)) S'.frame
   refine h2 _ G _ H _ n _ _ rfl rfl rfl S0 hf.2 ⟨fun env n' G' σ H' q S' _=>?_,fun x n' v G' σ H' env q S' rv _=>fin x n' v G' σ H' env q S' rv,fun _ _ _ _ _ q=>q.elim,fun _ _ _ _ _ q=>q.elim⟩;exact fin .non n' .non G' σ H' env q S' rfl
theorem b5C {x:Str}{st:Stmt}{N:List Str}{y:Str}{k:Nat}{body:pS}(F0:Fn0 K mg x st)(sc:a0s N [y] (a0i st))
   (bd:∀(kV doc pm:Value) (an:Option Addr) (cdv ct:Value) (us:List Value),us.length=[y].length->x4w (x2h x x (a1p st) (a0P st) (a0i st) .none kV doc pm an cdv ct) ⟨us,[]⟩=pure ([y].zip us))
   (h:∀(f:Addr) (cdv:Value) (A:Around) (outer:List PySem.Env) (s:Shared) (H:Hp) (E:XK),Room k (A.deeper (x4E x (a0i st) s.heap.objs.size f cdv))->
     QSs (tabK T Pt lpos qual) true K (fun _:Unit=>(cxOf CX0 P w K mg base N x (a0i st) f cdv A outer s H E).nox) (a0P st) body)
   (hlaw:∀ns:List Int,ns.length<=63->body ⟨fun _ _=>False,fun r _=>r=.bl true,fun _ _=>False,fun _ _=>False⟩ (a3e N [.scr ns]) 0) :
   Kn P w K mg base x (k + 1) [y] (a7Z K Pt):=by
 refine F0.ok sc (fun vs H Q E h=>?_) bd (fun f cdv A outer s H vs Q E hr hsp=>?_)
 · obtain⟨a,ns,rfl,_⟩:=h
   rfl
 · obtain⟨t,h1,h2⟩:=h f cdv A outer s H E hr;obtain⟨a,ns,rfl,hS,hl,hO,hPt,q⟩:=hsp;refine⟨t,h1 (),?_⟩
   let G:Gh:=⟨[Pt],[Pt]⟩
   have r:Reps K G H [.scr ns] [.ref a]:=by
     refine .one ⟨a,rfl,?_⟩;rcases hS with(hS | ⟨o,hS⟩) | hS
     · rcases hO a with z | ⟨o,xs,z⟩ | ⟨_,z⟩
       · rw [z] at hS;cases hS
       · rw [z] at hS;cases hS
       · rw [z] at hS;cases hS
     · refine .inl ⟨fun z=>?_,o,hS⟩;rw [x0n.mp (show a∈[Pt] from z),hPt] at hS;cases hS
     · exact .inr hS
   have S0:=a5B (T:=tabK T Pt lpos qual) (N:=N) (np:=true) (n:=0) (G:=G) (fun p hp=>by
       rw [x0n.mp (show p∈[Pt] from hp)];exact⟨x0g,.inr ⟨rfl,#[],hPt,trivial,.inl rfl⟩⟩) (fun a ha=>by
       rw [x0n.mp (show a∈[Pt] from ha)]
       exact⟨_,hPt,trivial⟩) ⟨[],rfl,by simp⟩ r
   refine h2 _ G _ H _ 0 _ _ rfl rfl rfl S0 (hlaw ns hl) ⟨fun _ _ _ _ _ q=>q.elim,fun x n' v G' σ H' env qq S' rv _=>?_,fun _ _ _ _ _ q=>q.elim,fun _ _ _ _ _ q=>q.elim⟩;subst qq;obtain rfl:v=.bl true:=rv;exact q H'
end
end Pu
namespace L2
open PySem PySem.W PySem.Spec PyProof.Rows
theorem b2i {X:Cx}{k:Nat}{scope:Scope}{N:List Str}{qual:Str}{f c':Addr}{cl:List (Str×Addr)}{s:Shared}{H:Hp}(hr:Room (k + 3) X.A):Room k (a9v X scope N qual f c' cl s H).A:=((hr.in1).in1).deeper _
theorem b0Z {scope:Scope}{x y:Str}(kind:scope.kind=.function)(co:scope.isCoroutine=false)(gen:scope.isGenerator=false)(hx:scope.names.lookup x=some .local)(hy:scope.names.lookup y=some .free)
   (fr:(scope.names.filter fun z=>z.2 == .free).map (·.1)=[y]) (nc:∀z∈scope.names,z.2≠.cell) (ne:(y == x)=false):a3v scope x y:=by
 refine⟨kind,co,gen,hx,hy,fun z hz=>?_,nc,ne⟩;have h1:z∈(scope.names.filter fun z=>z.2 == .free).map (·.1):=x0F.mpr ⟨(z,.free),x0W.mpr ⟨x1C hz,rfl⟩,rfl⟩;rw [fr] at h1;exact x0n.mp h1
noncomputable abbrev ptOf {h:Heap}{c P:Addr}(_:PySem.W.CodeHd h c P):Addr:=P
end L2
end
section
namespace Pu
open PySem L2
theorem a3r {tt:pT}{rest:Pu.Env}{α:Type}(f:α->PV)(c:α->Bool):∀(xs:List α) (s0:Option Slot) (n:Nat) (R:List PV->Nat->Prop),(∀x∈xs,∀m Q,Q (c x) (some (.v (f x))::rest) m->tt (some (.v (f x))::rest) m Q)->R ((xs.filter c).map f) n->a2Z (gN 0) tt (qV 0) (xs.map f) (s0::rest) n R:=by
 intro xq
 induction xq with
 | nil =>
   intro _ _ _ _ h;exact h
 | cons x xs ih =>
   intro s0 n R ht h;show tt (some (.v (f x))::rest) n _;refine ht x x0g n _ ?_
   by_cases hc:c x=true
   · rw [if_pos hc];rw [List.filter_cons,if_pos hc] at h;show a2Z (gN 0) tt (qV 0) (xs.map f) (some (.v (f x))::rest) n _;exact ih _ n _ (fun y hy=>ht y (x0f _ hy)) h
   · rw [if_neg hc];rw [List.filter_cons,if_neg hc] at h;exact ih _ n _ (fun y hy=>ht y (x0f _ hy)) h
end Pu
end
section
namespace Pu
open PySem PySem.Spec L2
variable {z:Str}
noncomputable def lt (f t:Int)(k:Nat):Nat:=97 + ((f + (k:Int) * t) % 26).toNat
theorem a4F {zs:List Str}:memP (.str z) (zs.map PV.str)=decide (z∈zs):=by
 unfold memP;rw [List.any_map,x2F,x2f,decide_eq_true_iff];constructor
 · rintro⟨y,hy,e⟩;have e':decide (y=z)=true:=by rw [<- a3q];exact e
   rw [<- of_decide_eq_true e'];exact hy
 · intro h;refine⟨z,h,?_⟩;show eqP (.str z) (.str z)=true;rw [a3q];exact decide_eq_true rfl
theorem a3N (zs:List Str)(d:Nat):(zs.map PV.str).all (cmpb d)=true:=by
 rw [List.all_map,x0A];intro x _;cases d <;> rfl
theorem a4O {zs:List Str}{P:List PV}(hP:zs.map PV.str=P){R:PV->Prop}(h:R (.bl (decide (z∈zs)))):wIn 4 false (.str z) (.tup P) R:=by
 subst hP;exact⟨rfl,a3N zs 4,by rw [a4F];exact h⟩
theorem a4h {zs:List Str}{P:List PV}(hP:zs.map PV.str=P){R:PV->Prop}(h:R (.bl (!decide (z∈zs)))):wIn 4 true (.str z) (.tup P) R:=by
 subst hP;exact⟨rfl,a3N zs 4,by rw [a4F];exact h⟩
theorem a5W {zs:List Str}{P:List PV}(hP:zs.map PV.str=P){R:PV->Prop}(h:R (.bl (decide (z∈zs)))):wIn 4 false (.str z) (.lst P) R:=by
 subst hP;exact⟨rfl,a3N zs 4,by rw [a4F];exact h⟩
theorem a5M {zs:List Str}{P:List PV}(hP:zs.map PV.str=P){R:PV->Prop}(h:R (.bl (!decide (z∈zs)))):wIn 4 true (.str z) (.lst P) R:=by
 subst hP;exact⟨rfl,a3N zs 4,by rw [a4F];exact h⟩
noncomputable abbrev rowP (zs:List Str):PV:=.tup (zs.map PV.str)
inductive Ev where
 | d (x:Str) | t (x y:Str)
noncomputable abbrev DROP:Str:=x0j "drop"
noncomputable abbrev a0L:Str:=x0j "touch"
noncomputable def evK:Ev->List Key
 | .d x=>[.inr DROP,.inr x]
 | .t x y=>[.inr a0L,.inr x,.inr y]
noncomputable def evP (e:Ev):PV:=tupP (evK e)
theorem a4Q (x:Str):evP (.d x)=.tup [.str DROP,.str x]:=rfl
theorem a2B (x y:Str):evP (.t x y)=.tup [.str a0L,.str x,.str y]:=rfl
noncomputable def shP (es:List Ev):PV:=.tup (es.map evP)
theorem ev_al (a b:Ev):Al (evK a) (evK b):=by cases a <;> cases b <;> trivial
theorem ev_inj {a b:Ev}(h:evK a=evK b):a=b:=by
 cases a <;> cases b <;> simp_all [evK]
theorem ev_ne (e:Ev):evK e≠[]:=by cases e <;> simp [evK]
theorem b3U (es:List Ev):∀ys:List PV,(∀y∈ys,y∈es.map evP)->∃es':List Ev,ys=es'.map evP/\∀e∈es',e∈es:=by
 intro xq
 induction xq with
 | nil =>
   intro _;exact⟨[],rfl,fun _ z=>nomatch z⟩
 | cons y ys ih =>
   intro h;obtain⟨e,he,rfl⟩:=x0F.mp (h y x0g);obtain⟨es',rfl,h2⟩:=ih fun z hz=>h z (x0f _ hz);exact⟨e::es',rfl,fun z hz=>(x0k.mp hz).elim (fun e'=>e'▸he) (h2 z)⟩
theorem a5t (es:List Ev):b1S (es.map evP):=by
 refine .inr (.inr ⟨fun x hx=>?_,fun x hx y hy=>?_⟩)
 · obtain⟨e,_,rfl⟩:=x0F.mp hx;exact⟨evK e,rfl,ev_ne e⟩
 · obtain⟨e,_,rfl⟩:=x0F.mp hx;obtain⟨e',_,rfl⟩:=x0F.mp hy;unfold evP tupP;rw [a1k,a1k];exact ev_al e e'
theorem b1s {es:List Ev}{ys:List PV}(h:Srt ys (es.map evP)):∃es':List Ev,ys=es'.map evP/\es'.Perm es:=by
 obtain⟨es',rfl,_⟩:=b3U es ys fun y hy=>h.1.mem_iff.mp hy;refine⟨es',rfl,?_⟩;have:=h.1;clear h
 have inj:∀{a b:List Ev},(a.map evP).Perm (b.map evP)->a.Perm b:=by
   intro a b p;have h1:=p.map fun y=>(match y with | .tup [_,.str x]=>Ev.d x | .tup [_,.str x,.str y]=>Ev.t x y | _=>Ev.d (x0j ""));rw [x2a,x2a] at h1
   have e:((fun y=>(match y with | PV.tup [_,.str x]=>Ev.d x | .tup [_,.str x,.str y]=>Ev.t x y | _=>Ev.d (x0j "")))∘evP)=id:=by
     funext e
     cases e <;> rfl
   rw [e,List.map_id,List.map_id] at h1;exact h1
 exact inj this
noncomputable def evB:Ev->List Str
 | .d x=>[x]
 | .t x y=>[x,y]
theorem a3B {es es':List Ev}(h:es'.Perm es):(es'.flatMap evB).Perm (es.flatMap evB):=h.flatMap_right evB
theorem nd_ix {zs:List Str}(nd:zs.Nodup){i j:Nat}(h1:zs[i]?=some z)(h2:zs[j]?=some z):i=j:=by
 obtain⟨l1,e1⟩:=x0i.mp h1;obtain⟨l2,e2⟩:=x0i.mp h2;rcases x2i i j with h | h | h
 · exact absurd (e1.trans e2.symm) (x1b.mp nd i j l1 l2 h)
 · exact h
 · exact absurd (e2.trans e1.symm) (x1b.mp nd j i l2 l1 h)
noncomputable def ixS (zs:List Str)(z:Str):Nat:=zs.findIdx fun y=>decide (y=z)
theorem a4M {zs:List Str}(h:z∈zs):zs[ixS zs z]?=some z/\∀i,i < ixS zs z->zs[i]?≠some z:=by
 unfold ixS;have hl:zs.findIdx (fun y=>decide (y=z)) < zs.length:=List.findIdx_lt_length_of_exists ⟨z,h,by simp⟩;refine⟨?_,fun i hi e=>?_⟩
 · rw [x0c hl];have:=List.findIdx_getElem (w:=hl);rw [of_decide_eq_true this]
 · have:=List.not_of_lt_findIdx hi;obtain⟨l1,e1⟩:=x0i.mp e;rw [e1] at this;simp at this
theorem a6I {zs:List Str}(h:z∈zs):ixS zs z < zs.length:=(x0i.mp (a4M h).1).1
theorem m_ix {zs:List Str}{P:List PV}(hP:zs.map PV.str=P)(h:z∈zs)(hl:zs.length<=1000000){R:PV->Prop}(q:R (.int (ixS zs z))):a3P (.tup P) (.str z) R:=by
 subst hP;unfold a3P;dsimp only;rw [a6h];exact⟨hl,ixS zs z,(a4M h).1,(a4M h).2,q⟩
end Pu
end
section
namespace Pu
open PySem PySem.Spec L2
variable {α:Type}
inductive Mk where
 | d | o | t | u
 deriving DecidableEq
noncomputable def run (r:Int):Nat->List Nat->List Mk->Option (List Nat)
 | _,st,[]=>some st
 | k,st,.t::m=>run r (k + 1) (k::st) m
 | k,st,.d::m=>run r (k + 1) st m
 | k,[],.o::m=>run r (k + 1) [] m
 | _,_::_,.o::_=>none
 | _,[],.u::_=>none
 | k,p::st,.u::m=>if(k:Int) - p - 1<=r then run r (k + 1) st m else none
noncomputable def Cl (r:Int)(k:Nat)(m:List Mk):Prop:=∀st,run r k st m=some st
theorem Cl.d {r:Int}{k:Nat}{m:List Mk}(h:Cl r (k + 1) m):Cl r k (.d::m):=fun st=>h st
inductive PE where
 | d (i:Nat) | t (i j:Nat)
noncomputable def nm (zs:List Str)(i:Nat):Str:=zs.getD i (x0j "")
theorem b2R {zs:List Str}{i:Nat}(h:i < zs.length):zs[i]?=some (nm zs i):=by
 unfold nm;rw [x0O,x0c h];rfl
theorem nm_inj {zs:List Str}(nd:zs.Nodup){i j:Nat}(hi:i < zs.length)(hj:j < zs.length)(h:nm zs i=nm zs j):i=j:=nd_ix nd (b2R hi) (by rw [h];exact b2R hj)
structure Fair (zs:List Str)(es:List Ev):Prop where
 nd:(es.flatMap evB).Nodup
 sub:∀b∈es.flatMap evB,b∈zs
theorem Fair.perm {zs:List Str}{es es':List Ev}(h:Fair zs es)(p:es'.Perm es):Fair zs es':=
 ⟨(a3B p).nodup_iff.mpr h.nd,fun b hb=>h.sub b ((a3B p).mem_iff.mp hb)⟩
theorem b1f {zs:List Str}{x y:Str}(hx:x∈zs)(hy:y∈zs)(h:ixS zs x=ixS zs y):x=y:=by
 have h1:=(a4M hx).1;rw [h,(a4M hy).1] at h1;exact(x0H h1).symm
theorem a2X {β:Type}{f:α->β}{l:List α}{i:Nat}{y:β}(h:(l.map f)[i]?=some y):∃x,l[i]?=some x/\y=f x:=by
 rw [x0p] at h;cases e:l[i]? with
 | none=>rw [e] at h;cases h
 | some x=>rw [e] at h;exact⟨x,rfl,(x0H h).symm⟩
theorem a3b {l:List α}{i:Nat}{x:α}(h:l[i]?=some x):l.take (i + 1)=l.take i++[x]:=by
 rw [List.take_add_one,h];rfl
theorem b4e (xs:List α){a b:Nat}(h:b<=xs.length):cutP xs (some (a:Int)) (some (b:Int))=(xs.take b).drop a:=by
 unfold cutP;rw [HT.sIx_nat,HT.sIx_nat,x4G h,List.drop_take];rcases Nat.le_total a xs.length with h2 | h2
 · rw [x4G h2]
 · rw [Nat.min_eq_right h2,x2o (x0m _),x2o h2];simp
theorem b4d (xs:List α)(b:Nat):cutP xs none (some (b:Int))=xs.take b:=by
 unfold cutP;rw [HT.sIx_none,HT.sIx_nat,x4P,Nat.sub_zero];rcases Nat.le_total b xs.length with h2 | h2
 · rw [x4G h2]
 · rw [Nat.min_eq_right h2,x1S (x0m _),x1S h2]
theorem b4c (xs:List α)(a:Nat):cutP xs (some (a:Int)) none=xs.drop a:=by
 unfold cutP;rw [HT.sIx_nat,HT.sIx_none];rcases Nat.le_total a xs.length with h2 | h2
 · rw [x4G h2];exact x1S (by rw [x1y];exact x0m _)
 · rw [Nat.min_eq_right h2,x2o h2,x2o (x0m _)];simp
theorem at2_0 {a b:α}:atI [a,b] 0=some a:=rfl
theorem at2_1 {a b:α}:atI [a,b] 1=some b:=rfl
theorem at3_0 {a b c:α}:atI [a,b,c] 0=some a:=rfl
theorem at3_1 {a b c:α}:atI [a,b,c] 1=some b:=rfl
theorem at3_2 {a b c:α}:atI [a,b,c] 2=some c:=rfl
theorem a9t:decide (DROP=x0j "touch")=false:=by decide +kernel
theorem b4u:decide (a0L=x0j "touch")=true:=by decide +kernel
theorem a5h:decide (a0L=x0j "drop")=false:=by decide +kernel
noncomputable def isTo:Ev->Bool
 | .d _=>false
 | .t _ _=>true
end Pu
end
section
namespace SeT
open PySem PySem.SetTable L2
noncomputable def lp (mask:Nat)(h:Int):Nat->Nat×Nat
 | 0=>(bits h % (mask + 1),bits h)
 | k + 1=>leap mask (lp mask h k).1 (lp mask h k).2
noncomputable def rn (mask i:Nat):Nat:=runEnd mask i - i
noncomputable def vs (mask:Nat)(h:Int)(k off:Nat):Nat:=(lp mask h k).1 + off
theorem b5y (mask:Nat)(h:Int):∀k,(lp mask h k).1<=mask:=by
 intro xq
 induction xq with
 | zero =>
   exact x3m (Nat.mod_lt _ (Nat.succ_pos mask))
 | succ k ih =>
   exact x3m (Nat.mod_lt _ (Nat.succ_pos mask))
theorem rn_9 (mask i:Nat):rn mask i<=9:=by unfold rn runEnd;split <;> omega
theorem b4t {mask:Nat}{h:Int}{k off:Nat}(ho:off<=rn mask (lp mask h k).1):vs mask h k off<=mask:=by
 have:=b5y mask h k;unfold rn runEnd at ho;unfold vs
 split at ho <;> omega
theorem b5x (mask:Nat)(h:Int):∀k,(lp mask h k).2=bits h / 32 ^ k:=by
 intro xq
 induction xq with
 | zero =>
   simp [lp]
 | succ k ih =>
   show(lp mask h k).2 / 32=_;rw [ih,Nat.div_div_eq_div_mul,Nat.pow_succ]
theorem b5W (h:Int):bits h < 2 ^ 64:=by
 unfold bits;have h1:=x2J h (show(2 ^ 64:Int)≠0 by decide);have h2:=x2c h (show(0:Int) < 2 ^ 64 by decide);omega
theorem pert_0 (mask:Nat)(h:Int)(k:Nat)(hk:13<=k):(lp mask h k).2=0:=by
 rw [b5x];refine Nat.div_eq_of_lt (x0x (b5W h) ?_);exact x1f (by decide) (Nat.pow_le_pow_right (by decide) hk)
noncomputable def orb (M:Nat):Nat->Nat
 | 0=>0
 | m + 1=>(orb M m * 5 + 1) % M
noncomputable def itr (M a:Nat):Nat->Nat
 | 0=>a
 | m + 1=>(itr M a m * 5 + 1) % M
theorem b1h (M m0:Nat):∀m,itr M (orb M m0) m=orb M (m0 + m):=by
 intro xq
 induction xq with
 | zero =>
   exact rfl
 | succ m ih =>
   show(itr M (orb M m0) m * 5 + 1) % M=(orb M (m0 + m) * 5 + 1) % M;rw [ih]
theorem b5h {M:Nat}(h:orb M M=0):∀m,orb M (M + m)=orb M m:=by
 intro xq
 induction xq with
 | zero =>
   exact h
 | succ m ih =>
   show(orb M (M + m) * 5 + 1) % M=(orb M m * 5 + 1) % M;rw [ih]
theorem b3R (mask:Nat)(h:Int):∀m,(lp mask h (13 + m)).1=itr (mask + 1) (lp mask h 13).1 m:=by
 intro xq
 induction xq with
 | zero =>
   exact rfl
 | succ m ih =>
   show((lp mask h (13 + m)).1 * 5 + 1 + (lp mask h (13 + m)).2 / 32) % (mask + 1)=(itr (mask + 1) (lp mask h 13).1 m * 5 + 1) % (mask + 1);rw [pert_0 mask h (13 + m) (by omega),ih,Nat.zero_div,Nat.add_zero]
noncomputable def Msk (mask:Nat):Prop:=mask=7\/mask=31\/mask=127
noncomputable def chk (M:Nat):Bool:=(x0L M).all fun e=>(x0L M).any fun m=>orb M m == e
theorem chk8:chk 8=true:=by decide +kernel
theorem chk32:chk 32=true:=by decide +kernel
theorem chk128:chk 128=true:=by decide +kernel
theorem b4i {M:Nat}(h:chk M=true){e:Nat}(he:e < M):∃m,m < M/\orb M m=e:=by
 unfold chk at h;rw [x0A] at h;have:=h e (x0N.mpr he);rw [x2f] at this;obtain⟨m,hm,e1⟩:=this;exact⟨m,x0N.mp hm,by simpa using e1⟩
theorem goes {mask:Nat}(hm:Msk mask)(h:Int){e:Nat}(he:e<=mask):∃K,K<=mask + 14/\(lp mask h K).1=e:=by
 have ck:chk (mask + 1)=true/\orb (mask + 1) (mask + 1)=0:=by
   rcases hm with rfl | rfl | rfl
   · exact⟨chk8,by decide +kernel⟩
   · exact⟨chk32,by decide +kernel⟩
   · exact⟨chk128,by decide +kernel⟩
 obtain⟨m0,h0,e0⟩:=b4i ck.1 (Nat.lt_succ_of_le (b5y mask h 13));obtain⟨m1,h1,e1⟩:=b4i ck.1 (Nat.lt_succ_of_le he)
 by_cases c:m0<=m1
 · refine⟨13 + (m1 - m0),by omega,?_⟩;rw [b3R,<- e0,b1h,show m0 + (m1 - m0)=m1 by omega,e1]
 · refine⟨13 + (mask + 1 + m1 - m0),by omega,?_⟩;rw [b3R,<- e0,b1h,show m0 + (mask + 1 + m1 - m0)=mask + 1 + m1 by omega,b5h ck.2,e1]
noncomputable def Rise (xs:List Nat):Prop:=xs.Pairwise (· < ·)
theorem b3y (xs:Array Nat)(j:Nat)(hr:Rise xs.toList):∀(fuel lo hi:Nat),lo<=hi->hi<=xs.size->hi - lo<=fuel->(∀(i:Nat) x,i < lo->xs[i]?=some x->x < j)->(∀(i:Nat) x,hi<=i->xs[i]?=some x->j<=x)->
   ∃p,below.go xs j fuel lo hi=p/\p<=xs.size/\(∀(i:Nat) x,i < p->xs[i]?=some x->x < j)/\(∀(i:Nat) x,p<=i->xs[i]?=some x->j<=x):=by
 intro xq
 induction xq with
 | zero =>
   intro lo hi h1 h2 h3 h4 h5;exact⟨lo,rfl,by omega,h4,fun i x hi' e=>h5 i x (by omega) e⟩
 | succ fuel ih =>
   intro lo hi h1 h2 h3 h4 h5;unfold below.go
   by_cases c:lo < hi
   · rw [if_pos c];have hm:(lo + hi) / 2 < xs.size:=by omega
     have hm1:lo<=(lo + hi) / 2:=by omega
     have hm2:(lo + hi) / 2 < hi:=by omega
     dsimp only;generalize (lo + hi) / 2=mid at hm hm1 hm2 ⊢;have eg:xs.getD mid j=xs[mid]:=by simp [Array.getD,hm]
     have em:xs[mid]?=some xs[mid]:=x1j hm
     have up:∀(a b:Nat) x y,a < b->xs[a]?=some x->xs[b]?=some y->x < y:=fun a b x y hab ea eb=>by
       rw [<- x0P] at ea eb;obtain⟨la,ea⟩:=x0i.mp ea;obtain⟨lb,eb⟩:=x0i.mp eb;rw [<- ea,<- eb];exact x1b.mp hr a b la lb hab
     rw [eg]
     by_cases c2:xs[mid] < j
     · rw [if_pos c2];refine ih (mid + 1) hi (by omega) h2 (by omega) (fun i x hi' e=>?_) h5;rcases x4k i mid with h | h
       · exact x4h (up i mid x _ h e em) c2
       · have:i=mid:=by omega
         subst this;rw [em] at e;cases e;exact c2
     · rw [if_neg c2];refine ih lo mid (by omega) (by omega) (by omega) h4 fun i x hi' e=>?_;rcases x4k mid i with h | h
       · exact x2r (x3K (x2W c2) (up mid i _ x h em e))
       · have:i=mid:=by omega
         subst this;rw [em] at e;cases e;exact x2W c2
   · rw [if_neg c];exact⟨lo,rfl,by omega,h4,fun i x hi' e=>h5 i x (by omega) e⟩
theorem a3u (xs:Array Nat)(j:Nat)(hr:Rise xs.toList):below xs j<=xs.size/\(∀(i:Nat) x,i < below xs j->xs[i]?=some x->x < j)/\(∀(i:Nat) x,below xs j<=i->xs[i]?=some x->j<=x):=by
 obtain⟨p,e,h⟩:=b3y xs j hr xs.size 0 xs.size (x0U _) (x0m _) (x0m _) (fun i x hi _=>by omega) (fun i x hi e=>by
   rw [x3S hi] at e;cases e)
 unfold below;rw [e];exact h
theorem b3x {xs:Array Nat}{j i:Nat}(hr:Rise xs.toList)(h:xs[i]?=some j):below xs j=i:=by
 obtain⟨h1,h2,h3⟩:=a3u xs j hr;rcases x2i (below xs j) i with c | c | c
 · have hb:below xs j < xs.size:=x4h c (by
     obtain⟨l,_⟩:=Array.getElem?_eq_some_iff.mp h;exact l)
   have e:=x1j hb;have a1:=h3 _ _ (x0m _) e;have e':=e;rw [<- x0P] at e' h;obtain⟨la,ea⟩:=x0i.mp e';obtain⟨lb,eb⟩:=x0i.mp h;have:=x1b.mp hr _ _ la lb c;rw [ea,eb] at this;omega
 · exact c
 · exact absurd (h2 i j c h) (x1U j)
theorem a8q {α:Type}(xs:Array α)(p:Nat)(x:α)(hp:p<=xs.size):(insertAt xs p x).toList=insL xs.toList p x:=by
 unfold insertAt insL;simp;exact x1S (by rw [x1y,x0z];exact x0m _)
theorem b2j {xs:Array Nat}{j:Nat}(hr:Rise xs.toList)(hj:j∉xs.toList):Rise (insL xs.toList (below xs j) j):=by
 obtain⟨h1,h2,h3⟩:=a3u xs j hr;unfold insL
 have mt:∀a∈xs.toList.take (below xs j),a < j:=fun a ha=>by
   obtain⟨i,hi,e⟩:=List.mem_iff_getElem.mp ha;rw [List.getElem_take] at e;rw [x1e] at hi;exact h2 i a (by omega) (by rw [<- x0P,x0c (by omega),e])
 have md:∀a∈xs.toList.drop (below xs j),j < a:=fun a ha=>by
   obtain⟨i,hi,e⟩:=List.mem_iff_getElem.mp ha;rw [List.getElem_drop] at e;rw [x1y] at hi;have hle:=h3 (below xs j + i) a (by omega) (by rw [<- x0P,x0c (by omega),e]);have hne:a≠j:=fun z=>hj (by rw [<- z];exact x4s ha);omega
 refine x4t.mpr ⟨hr.sublist (List.take_sublist _ _),List.pairwise_cons.mpr ⟨md,hr.sublist (List.drop_sublist _ _)⟩,fun a ha b hb=>?_⟩;rcases x0k.mp hb with rfl | hb
 · exact mt a ha
 · exact x4h (mt a ha) (md b hb)
end SeT
end
section
namespace SeT
open PySem PySem.SetTable L2
noncomputable def Lx (k' o' k o:Nat):Prop:=k' < k\/(k'=k/\o' < o)
noncomputable def Rch (mask:Nat)(O:Nat->Prop)(s:Nat)(h:Int):Prop:=∃k o,o<=rn mask (lp mask h k).1/\vs mask h k o=s/\∀k' o',o'<=rn mask (lp mask h k').1->Lx k' o' k o->O (vs mask h k' o')
theorem Rch.mono {mask:Nat}{O O':Nat->Prop}{s:Nat}{h:Int}(r:Rch mask O s h)(f:∀x,O x->O' x):Rch mask O' s h:=by
 obtain⟨k,o,h1,h2,h3⟩:=r;exact⟨k,o,h1,h2,fun k' o' a b=>f _ (h3 k' o' a b)⟩
structure TOk (t:x2d)(hs:List Int):Prop where
 size:t.place.toList.length=hs.length
 dum:t.dummies=#[]
 mask:Msk t.mask
 rise:Rise t.place.toList
 lim:∀s∈t.place.toList,s<=t.mask
 room:hs.length < t.mask
 reach:∀(i:Nat) s h,t.place.toList[i]?=some s->hs[i]?=some h->Rch t.mask (·∈t.place.toList) s h
section
variable {t:x2d}{hs:List Int}{h:Int}
variable {mask:Nat}
theorem TOk.fits (T:TOk t hs):t.fits hs.length=true:=by
 have h1:=T.size;have h2:=T.room;unfold SetTable.fits SetTable.fill;rw [T.dum];simp only [x0z] at h1;simp [h1];omega
theorem TOk.odd (T:TOk t hs):t.gaveWay=false:=by
 unfold SetTable.gaveWay;rcases T.mask with e | e | e <;> rw [e] <;> decide
theorem b1o (j:Nat):has #[] j=false:=by unfold has;simp
theorem TOk.slot_live (T:TOk t hs){i j:Nat}(e:t.place.toList[i]?=some j):t.slot j=.live i:=by
 unfold SetTable.slot;have e':t.place[i]?=some j:=by rw [<- x0P];exact e
 rw [b3x T.rise e'];simp [e']
theorem TOk.slot_empty (T:TOk t hs){j:Nat}(e:j∉t.place.toList):t.slot j=.empty:=by
 unfold SetTable.slot
 have:¬(t.place[below t.place j]? == some j)=true:=fun z=>by
   have z':t.place[below t.place j]?=some j:=by simpa using z
   rw [<- x0P] at z';exact e (x0u z')
 dsimp only;rw [if_neg this,T.dum,b1o]
 rfl
theorem TOk.free (T:TOk t hs):∃e,e<=t.mask/\e∉t.place.toList:=by
 refine x1H fun z=>?_
 have sub:x0L (t.mask + 1) ⊆ t.place.toList:=fun x hx=>by
   refine x1H fun y=>z ⟨x,x3m (x0N.mp hx),y⟩
 have:=(List.nodup_range (n:=t.mask + 1)).length_le_of_subset sub;rw [x2K,T.size] at this;have:=T.room;omega
noncomputable def pb (mask:Nat)(h:Int)(k o:Nat):Probe:={ j:=vs mask h k o,more:=rn mask (lp mask h k).1 - o,i:=(lp mask h k).1,perturb:=(lp mask h k).2,dummy:=none }
theorem pb_adv (t:x2d)(h:Int)(k o:Nat):t.advance (pb t.mask h k o)=if o < rn t.mask (lp t.mask h k).1 then pb t.mask h k (o + 1) else pb t.mask h (k + 1) 0:=by
 unfold SetTable.advance
 by_cases c:o < rn t.mask (lp t.mask h k).1
 · rw [if_pos c,if_pos (show(pb t.mask h k o).more > 0 by show rn t.mask (lp t.mask h k).1 - o > 0;omega)];unfold pb vs
   congr 1
 · rw [if_neg c,if_neg (show ¬(pb t.mask h k o).more > 0 by show ¬rn t.mask (lp t.mask h k).1 - o > 0;omega)]
   rfl
noncomputable def nx (mask:Nat)(h:Int)(k o:Nat):Nat×Nat:=if o < rn mask (lp mask h k).1 then(k,o + 1) else(k + 1,0)
theorem pb_nx (t:x2d)(h:Int)(k o:Nat):t.advance (pb t.mask h k o)=pb t.mask h (nx t.mask h k o).1 (nx t.mask h k o).2:=by
 rw [pb_adv];unfold nx;split <;> rfl
theorem nx_ok {h:Int}{k o:Nat}(ho:o<=rn mask (lp mask h k).1):(nx mask h k o).2<=rn mask (lp mask h (nx mask h k o).1).1:=by
 unfold nx;split
 · rename_i c;exact c
 · exact x0U _
theorem nx_lx {h:Int}{k o k' o':Nat}(ho:o<=rn mask (lp mask h k).1)(ho':o'<=rn mask (lp mask h k').1)(l:Lx k' o' (nx mask h k o).1 (nx mask h k o).2):Lx k' o' k o\/(k'=k/\o'=o):=by
 unfold nx at l
 split at l
 · rcases l with l | ⟨rfl,l⟩
   · exact .inl (.inl l)
   · have l':o' < o + 1:=l;rcases x4k o' o with c | c
     · exact .inl (.inr ⟨rfl,c⟩)
     · exact .inr ⟨rfl,by omega⟩
 · rename_i c;rcases l with l | ⟨_,l⟩
   · have l':k' < k + 1:=l;rcases x4k k' k with c2 | c2
     · exact .inl (.inl c2)
     · have:k'=k:=by omega
       subst this;rcases x4k o' o with c3 | c3
       · exact .inl (.inr ⟨rfl,c3⟩)
       · exact .inr ⟨rfl,by omega⟩
   · exact absurd l (x2I _)
noncomputable def far (K k o:Nat):Nat:=10 * (K - k) + 1 - o
theorem b3T {h:Int}{K k o:Nat}(ho:o<=rn mask (lp mask h k).1)(hk:k < K):far K (nx mask h k o).1 (nx mask h k o).2 < far K k o/\(nx mask h k o).1<=K/\((nx mask h k o).1=K->(nx mask h k o).2=0):=by
 have r9:=rn_9 mask (lp mask h k).1;unfold nx far
 split
 · refine⟨by show 10 * (K - k) + 1 - (o + 1) < _;omega,by show k<=K;omega,fun z=>?_⟩;have:k=K:=z;omega
 · refine⟨by show 10 * (K - (k + 1)) + 1 - 0 < _;omega,by show k + 1<=K;omega,fun _=>rfl⟩
theorem b2B (T:TOk t hs)(at_:Nat->Int)(ha:∀(i:Nat) x,hs[i]?=some x->at_ i=x){K e:Nat}(hK:(lp t.mask h K).1=e)(he:e∉t.place.toList):∀(fuel k o:Nat),k<=K->(k=K->o=0)->o<=rn t.mask (lp t.mask h k).1->far K k o<=fuel->
   ∃ k2 o2, o2 <= rn t.mask (lp t.mask h k2).1 /\ k2 <= K /\ (k2 = K -> o2 = 0) /\ ¬ Lx k2 o2 k o /\ (∀ k' o', o' <= rn t.mask (lp t.mask h k').1 -> ¬ Lx k' o' k o -> Lx k' o' k2 o2 -> ∃ (i : Nat) (x : Int), t.place.toList[i]? = some (vs t.mask h k' o') /\ hs[i]? = some x /\ x ≠ h) /\
     ((vs t.mask h k2 o2∉t.place.toList/\probe.go t at_ h fuel (pb t.mask h k o)=some (.empty (vs t.mask h k2 o2) none))\/
       ∃i,k2 < K/\t.place.toList[i]?=some (vs t.mask h k2 o2)/\hs[i]?=some h/\probe.go t at_ h fuel (pb t.mask h k o)=some (.candidate (vs t.mask h k2 o2) i (pb t.mask h (nx t.mask h k2 o2).1 (nx t.mask h k2 o2).2))):=by
 intro xq
 induction xq with
 | zero =>
   intro k o h1 h2 h3 h4;have r9:=rn_9 t.mask (lp t.mask h k).1;unfold far at h4;have:¬k=K:=fun z=>by have:=h2 z;omega
   omega
 | succ fuel ih =>
   intro k o h1 h2 h3 h4;have irr:¬Lx k o k o:=fun z=>z.elim (x1U k) fun z=>x1U o z.2
   by_cases hm:vs t.mask h k o∈t.place.toList
   · obtain⟨i,hi⟩:=x2v.mp hm
     obtain⟨x,hx⟩:∃x,hs[i]?=some x:=by
       have:=(x0i.mp hi).1;rw [T.size] at this;exact⟨_,x0c this⟩
     have hkK:k < K:=by
       refine Nat.lt_of_le_of_ne h1 fun z=>?_;have o0:=h2 z;subst z;subst o0;exact he (by rw [<- hK];exact hm)
     have sl:=T.slot_live hi
     by_cases c:x=h
     · subst c;refine⟨k,o,h3,h1,h2,irr,fun k' o' _ n l=>absurd l n,.inr ⟨i,hkK,hi,hx,?_⟩⟩;unfold probe.go;rw [show(pb t.mask x k o).j=vs t.mask x k o from rfl,sl];dsimp only;rw [ha i x hx,beq_self_eq_true,if_pos rfl,pb_nx]
     · obtain⟨f1,f2,f3⟩:=b3T (K:=K) h3 hkK;obtain⟨k2,o2,a1,a2,a3,a4,a5,a6⟩:=ih (nx t.mask h k o).1 (nx t.mask h k o).2 f2 f3 (nx_ok h3) (by omega)
       have step:probe.go t at_ h (fuel + 1) (pb t.mask h k o)=probe.go t at_ h fuel (pb t.mask h (nx t.mask h k o).1 (nx t.mask h k o).2):=by
         rw [<- pb_nx]
         conv=>lhs;unfold probe.go
         rw [show(pb t.mask h k o).j=vs t.mask h k o from rfl,sl];dsimp only;rw [ha i x hx,if_neg (by simpa using c)]
       rw [step];refine⟨k2,o2,a1,a2,a3,fun z=>a4 ?_,fun k' o' p1 p2 p3=>?_,a6⟩
       · unfold nx
         split
         · rcases z with z | ⟨rfl,z⟩
           · exact .inl z
           · exact .inr ⟨rfl,by show o2 < o + 1;omega⟩
         · rcases z with z | ⟨rfl,z⟩
           · exact .inl (by show k2 < k + 1;omega)
           · exact .inl (by show k2 < k2 + 1;omega)
       · by_cases c2:Lx k' o' (nx t.mask h k o).1 (nx t.mask h k o).2
         · rcases nx_lx h3 p1 c2 with c3 | ⟨rfl,rfl⟩
           · exact absurd c3 p2
           · exact⟨i,x,hi,hx,c⟩
         · exact a5 k' o' p1 c2 p3
   · refine⟨k,o,h3,h1,h2,irr,fun k' o' _ n l=>absurd l n,.inl ⟨hm,?_⟩⟩;unfold probe.go;rw [show(pb t.mask h k o).j=vs t.mask h k o from rfl,T.slot_empty hm]
     rfl
theorem TOk.put (T:TOk t hs){s:Nat}(hs1:s∉t.place.toList)(hl:s<=t.mask)(hr:Rch t.mask (·∈t.place.toList) s h)(hroom:hs.length + 1 < t.mask) :
   (t.put s).2=below t.place s/\(t.put s).2<=hs.length/\(t.put s).1.plain=t.plain/\(t.put s).1.led=t.led/\TOk (t.put s).1 (insL hs (t.put s).2 h):=by
 have p1:=(a3u t.place s T.rise).1;have sz:t.place.size=hs.length:=by rw [<- T.size,x0z]
 have pl:(t.put s).1.place.toList=insL t.place.toList (below t.place s) s:=a8q _ _ _ p1;have mk:(t.put s).1.mask=t.mask:=rfl
 have dm:(t.put s).1.dummies=#[]:=by
   show(if has t.dummies s then eraseAt t.dummies (below t.dummies s) else t.dummies)=#[];rw [T.dum,b1o];rfl
 refine⟨rfl,by show below t.place s<=_;omega,rfl,rfl,?_⟩;have hp:(t.put s).2=below t.place s:=rfl;rw [hp]
 have mem:∀x,x∈t.place.toList->x∈insL t.place.toList (below t.place s) s:=fun x hx=>by
   unfold insL;rw [<- x4l (below t.place s) t.place.toList] at hx;rcases x0C.mp hx with hx | hx
   · exact x1a _ hx
   · exact x0t _ (x0f _ hx)
 refine⟨?_,dm,by rw [mk];exact T.mask,by rw [pl];exact b2j T.rise hs1,fun x hx=>?_,by rw [mk,a4j];exact hroom,fun i x y ex ey=>?_⟩
 · rw [pl,a4j,a4j,T.size]
 · rw [pl] at hx;rw [mk];unfold insL at hx;rcases x0C.mp hx with hx | hx
   · exact T.lim x (x4u hx)
   · rcases x0k.mp hx with rfl | hx
     · exact hl
     · exact T.lim x (x4s hx)
 · rw [pl] at ex ⊢;rw [mk];generalize below t.place s=p at *;have lt:(t.place.toList.take p).length=p:=by rw [x1e,T.size];omega
   have lh:(hs.take p).length=p:=by rw [x1e];omega
   unfold insL at ex ey;rcases x2i i p with c | c | c
   · rw [x0Q (by omega),List.getElem?_take,if_pos c] at ex ey;exact(T.reach i x y ex ey).mono mem
   · subst c;rw [x0I (by omega),lt,x3C] at ex;rw [x0I (by omega),lh,x3C] at ey;cases ex;cases ey;exact hr.mono mem
   · rw [x0I (by omega),lt,show i - p=(i - p - 1) + 1 by omega,x1N,List.getElem?_drop,show p + (i - p - 1)=i - 1 by omega] at ex;rw [x0I (by omega),lh,show i - p=(i - p - 1) + 1 by omega,x1N,List.getElem?_drop,show p + (i - p - 1)=i - 1 by omega] at ey;exact(T.reach (i - 1) x y ex ey).mono mem
end
end SeT
end
section
namespace SeT
open PySem PySem.SetTable L2
variable {mask:Nat}
structure Own (mask:Nat)(ow:Array (Option Nat))(sl:List Nat):Prop where
 size:ow.size=mask + 1
 nd:sl.Nodup
 lim:∀s∈sl,s<=mask
 has:∀(k s:Nat),sl[k]?=some s->ow[s]?=some (some k)
 no:∀s,s<=mask->s∉sl->ow[s]?=some none
theorem Own.none {ow:Array (Option Nat)}{sl:List Nat}(O:Own mask ow sl){s:Nat}(hs:s<=mask):(ow.getD s (some 0)).isNone=decide (s∉sl):=by
 rw [x1u]
 by_cases c:s∈sl
 · obtain⟨k,hk⟩:=x2v.mp c;rw [O.has k s hk,decide_eq_false (not_not_intro c)];rfl
 · rw [O.no s hs c,decide_eq_true c];rfl
theorem b5L {ow:Array (Option Nat)}{sl:List Nat}{h:Int}(O:Own mask ow sl){K e:Nat}(hK:(lp mask h K).1=e)(he:e∉sl):∀(fuel k:Nat),k<=K->K - k < fuel->
   ∃k2 o2,o2<=rn mask (lp mask h k2).1/\layClean.free mask ow fuel (lp mask h k).1 (lp mask h k).2=some (vs mask h k2 o2)/\vs mask h k2 o2∉sl/\∀k' o',o'<=rn mask (lp mask h k').1->k<=k'->Lx k' o' k2 o2->vs mask h k' o'∈sl:=by
 intro xq
 induction xq with
 | zero =>
   intro k _ h2;exact absurd h2 (x2I _)
 | succ fuel ih =>
   intro k h1 h2;have le:=b5y mask h k;have ge:(lp mask h k).1<=runEnd mask (lp mask h k).1:=by unfold runEnd;split <;> omega
   have er:runEnd mask (lp mask h k).1 + 1 - (lp mask h k).1=rn mask (lp mask h k).1 + 1:=by unfold rn;omega
   have isn:∀o,o<=rn mask (lp mask h k).1->(ow.getD ((lp mask h k).1 + o) (some 0)).isNone=decide (vs mask h k o∉sl):=fun o ho=>O.none (b4t ho);unfold layClean.free;rw [er];cases ef:(x0L (rn mask (lp mask h k).1 + 1)).find? (fun o=>(ow.getD ((lp mask h k).1 + o) (some 0)).isNone) with
   | some o2 =>
     obtain⟨p1,p2,p3⟩:=List.find?_range_eq_some.mp ef;have ho2:o2<=rn mask (lp mask h k).1:=by have:=x0N.mp p2;omega
     rw [isn o2 ho2] at p1;refine⟨k,o2,ho2,rfl,of_decide_eq_true p1,fun k' o' q1 q2 q3=>?_⟩;rcases q3 with q3 | ⟨rfl,q3⟩
     · omega
     · have:=p3 o' q3;rw [isn o' (by omega)] at this;exact x1H fun z=>by rw [decide_eq_true z] at this;cases this
   | none =>
     have all:∀o,o<=rn mask (lp mask h k).1->vs mask h k o∈sl:=fun o ho=>by
       have:=List.find?_eq_none.mp ef o (x0N.mpr (by omega));rw [isn o ho] at this;exact x1H fun z=>this (decide_eq_true z)
     have hkK:k < K:=by
       refine Nat.lt_of_le_of_ne h1 fun z=>?_;subst z;exact he (by rw [<- hK];exact all 0 (x0U _))
     obtain⟨k2,o2,a1,a2,a3,a4⟩:=ih (k + 1) hkK (by omega);refine⟨k2,o2,a1,a2,a3,fun k' o' q1 q2 q3=>?_⟩;rcases x4k k k' with c | c
     · exact a4 k' o' q1 c q3
     · have:k'=k:=by omega
       subst this;exact all o' q1
theorem Own.put {ow:Array (Option Nat)}{sl:List Nat}(O:Own mask ow sl){s:Nat}(hs:s<=mask)(hn:s∉sl):Own mask (ow.setIfInBounds s (some sl.length)) (sl++[s]) where
 size:=by rw [Array.size_setIfInBounds];exact O.size
 nd:=x2j.mpr ⟨O.nd,by simp,fun a ha b hb e=>hn (by rw [<- x0n.mp hb,<- e];exact ha)⟩
 lim:=fun x hx=>(x0C.mp hx).elim (O.lim x) fun z=>by rw [x0n.mp z];exact hs
 has:=fun k x e=>by
   have hsz:s < ow.size:=by rw [O.size];omega
   by_cases c:k < sl.length
   · rw [x0Q c] at e;have hx:x∈sl:=x0u e;rw [Array.getElem?_setIfInBounds_ne (fun z=>hn (by rw [z];exact hx))];exact O.has k x e
   · have hk:k=sl.length:=by
       have:=(x0i.mp e).1;rw [x0l,x0E] at this;omega
     subst hk;rw [x0I (x0m _),x3C] at e;have e':s=x:=by simpa using e
     subst e';rw [Array.getElem?_setIfInBounds_self,if_pos hsz]
 no:=fun x hx hx'=>by
   have n1:x∉sl:=fun z=>hx' (x1a _ z);have n2:s≠x:=fun z=>hx' (x0t _ (by rw [z];simp));rw [Array.getElem?_setIfInBounds_ne n2];exact O.no x hx n1
theorem Own.nil (mask:Nat):Own mask (x4H (mask + 1) (Option.none:Option Nat)) []:=⟨by simp,by simp,(fun _ z=>nomatch z),(fun k s e=>by simp at e),fun s hs _=>by rw [Array.getElem?_replicate,if_pos (by omega)]⟩
noncomputable def b1Z (mask:Nat)(acc:Option (Array (Option Nat)×Nat))(h:Int):Option (Array (Option Nat)×Nat):=do
 let (owner,k) ← acc
 let j ← layClean.free mask owner (turns mask) (bits h % (mask + 1)) (bits h)
 pure (owner.setIfInBounds j (some k),k + 1)
theorem lay_go (hm:Msk mask):∀(rest done:List Int) (ow:Array (Option Nat)) (sl:List Nat),Own mask ow sl->sl.length=done.length->done.length + rest.length<=mask->(∀(k s:Nat) h,sl[k]?=some s->done[k]?=some h->Rch mask (·∈sl) s h)->
   ∃ow' sl',rest.foldl (b1Z mask) (some (ow,done.length))=some (ow',(done++rest).length)/\Own mask ow' sl'/\sl'.length=(done++rest).length/\∀(k s:Nat) h,sl'[k]?=some s->(done++rest)[k]?=some h->Rch mask (·∈sl') s h:=by
 intro xq
 induction xq with
 | nil =>
   intro done ow sl O hl hle hr;exact⟨ow,sl,by simp,O,by simpa using hl,fun k s h e1 e2=>hr k s h e1 (by simpa using e2)⟩
 | cons h rest ih =>
   intro done ow sl O hl hle hr;rw [x0K] at hle
   obtain⟨e,he1,he2⟩:∃e,e<=mask/\e∉sl:=by
     refine x1H fun z=>?_;have sub:x0L (mask + 1) ⊆ sl:=fun x hx=>x1H fun y=>z ⟨x,x3m (x0N.mp hx),y⟩;have:=(List.nodup_range (n:=mask + 1)).length_le_of_subset sub;rw [x2K,hl] at this;omega
   obtain⟨K,hK1,hK2⟩:=goes hm h he1;obtain⟨k2,o2,a1,a2,a3,a4⟩:=b5L O hK2 he2 (turns mask) 0 (x0U _) (by unfold turns;omega);have O':=O.put (b4t a1) a3
   have st:b1Z mask (some (ow,done.length)) h=some (ow.setIfInBounds (vs mask h k2 o2) (some sl.length),(done++[h]).length):=by
     unfold b1Z;show(layClean.free mask ow (turns mask) (lp mask h 0).1 (lp mask h 0).2).bind _=_;rw [a2,hl,x0l]
     rfl
   have mem:∀x,x∈sl->x∈sl++[vs mask h k2 o2]:=fun x hx=>x1a _ hx
   obtain⟨ow',sl',b1,b2,b3,b4⟩:=ih (done++[h]) _ _ O' (by rw [x0l,x0l,hl];rfl) (by rw [x0l,x0E];omega) fun k s x e1 e2=>by
     by_cases c:k < sl.length
     · rw [x0Q c] at e1;rw [x0Q (by omega)] at e2;exact(hr k s x e1 e2).mono mem
     · have hk:k=sl.length:=by
         have:=(x0i.mp e1).1;rw [x0l,x0E] at this;omega
       subst hk;rw [x0I (x0m _),x3C] at e1;rw [x0I (by omega),hl,x3C] at e2;cases e1;cases e2;exact⟨k2,o2,a1,rfl,fun k' o' q1 q2=>mem _ (a4 k' o' q1 (x0U _) q2)⟩
   refine⟨ow',sl',?_,b2,by rw [b3,x0S];rfl,fun k s x e1 e2=>b4 k s x e1 (by rw [x0S];exact e2)⟩;rw [List.foldl_cons,st,b1,x0S];rfl
theorem a7A (mask:Nat)(hs:Array Int):layClean mask hs=(hs.toList.foldl (b1Z mask) (some (x4H (mask + 1) none,0))).map (·.1):=by
 unfold layClean;rw [<- Array.foldl_toList]
 rfl
noncomputable def live (mask:Nat)(ow:Array (Option Nat)):List (Nat×Nat):=(x0L (mask + 1)).filterMap fun j=>(ow.getD j none).map (j,·)
theorem a2p {ow:Array (Option Nat)}{sl:List Nat}(O:Own mask ow sl){j k:Nat}:(j,k)∈live mask ow↔sl[k]?=some j:=by
 unfold live;rw [List.mem_filterMap];constructor
 · rintro⟨x,hx,e⟩;have hxm:x<=mask:=x3m (x0N.mp hx)
   by_cases c:x∈sl
   · obtain⟨q,hq⟩:=x2v.mp c;rw [x1u,O.has q x hq] at e;have e':(x,q)=(j,k):=by simpa using e
     cases e';exact hq
   · rw [x1u,O.no x hxm c] at e;cases e
 · intro h;have hj:=O.lim j (x0u h);refine⟨j,x0N.mpr (by omega),?_⟩;rw [x1u,O.has k j h];rfl
theorem a6B (mask:Nat)(ow:Array (Option Nat)):Rise ((live mask ow).map (·.1)):=by
 unfold live Rise;rw [x1L];refine List.Pairwise.filterMap _ (R:=(· < ·)) (fun a b hab x hx y hy=>?_) List.pairwise_lt_range;cases e1:ow.getD a none with
 | none=>rw [e1] at hx;cases hx
 | some p =>
   cases e2:ow.getD b none with
   | none=>rw [e2] at hy;cases hy
   | some q =>
     rw [e1] at hx;rw [e2] at hy;have hx':(a,p)=x:=by simpa using hx
     have hy':(b,q)=y:=by simpa using hy
     rw [<- hx',<- hy'];exact hab
theorem a9i {ow:Array (Option Nat)}{sl:List Nat}(O:Own mask ow sl):((live mask ow).map (·.2)).Perm (x0L sl.length):=by
 have nd:((live mask ow).map (·.2)).Nodup:=by
   have h1:(live mask ow).Pairwise fun a b=>a.1 < b.1:=x1L.mp (a6B mask ow);rw [x1Q,x1L];refine List.Pairwise.imp_of_mem (fun {a b} ha hb hab e=>?_) h1;have x1:=(a2p (j:=a.1) (k:=a.2) O).mp ha;have x2:=(a2p (j:=b.1) (k:=b.2) O).mp hb;rw [e] at x1;rw [x1] at x2;have:=x0H x2;omega
 refine(List.perm_ext_iff_of_nodup nd List.nodup_range).mpr fun k=>?_;rw [x0N,x0F];constructor
 · rintro⟨⟨j,k'⟩,h,rfl⟩;exact(x0i.mp ((a2p O).mp h)).1
 · intro h;exact⟨(sl[k],k),(a2p O).mpr (x0c h),rfl⟩
theorem b5D {fi mo:Nat}{led pl:Bool}(hm:Msk mask)(hs:Array Int)(hl:hs.toList.length < mask) :
   ∃t' order,laid mask fi mo led pl hs=some (t',order)/\order.toList.Perm (x0L hs.toList.length)/\t'.led=led/\t'.plain=pl/\t'.mask=mask/\TOk t' (order.toList.map fun k=>hs.toList.getD k 0):=by
 obtain⟨ow,sl,e,O,l,r⟩:=lay_go hm hs.toList [] _ [] (Own.nil mask) rfl (by simp;simp at hl;omega) (fun k s h e=>by simp at e);rw [x2L] at e l r
 have el:laid mask fi mo led pl hs=some ({ mask,place:=((live mask ow).map (·.1)).toArray,dummies:=#[],finger:=fi,led,moves:=mo,plain:=pl },((live mask ow).map (·.2)).toArray):=by
   unfold laid;rw [a7A,show(some (x4H (mask + 1) (none:Option Nat),0))=some (x4H (mask + 1) none,([]:List Int).length) from rfl,e]
   rfl
 have po:=a9i O;rw [l] at po;refine⟨_,_,el,po,rfl,rfl,rfl,?_⟩
 have ml:∀x,x∈(live mask ow).map (·.1)↔x∈sl:=fun x=>by
   rw [x0F];constructor
   · rintro⟨⟨j,k⟩,h,rfl⟩;exact x0u ((a2p O).mp h)
   · intro h;obtain⟨k,hk⟩:=x2v.mp h;exact⟨(x,k),(a2p O).mpr hk,rfl⟩
 refine⟨by simp,rfl,hm,a6B mask ow,fun s h=>O.lim s ((ml s).mp h),?_,fun i s h e1 e2=>?_⟩
 · rw [x0e,po.length_eq,x2K];exact hl
 · have e1':((live mask ow).map (·.1))[i]?=some s:=e1;have e2':(((live mask ow).map (·.2)).map fun k=>hs.toList.getD k 0)[i]?=some h:=e2;rw [x0p] at e1';rw [x0p,x0p] at e2';cases ex:(live mask ow)[i]? with
   | none=>rw [ex] at e1';cases e1'
   | some y =>
     rw [ex] at e1' e2';have a1:y.1=s:=by simpa using e1'
     have a2:hs.toList.getD y.2 0=h:=by simpa using e2'
     have my:=(a2p (j:=y.1) (k:=y.2) O).mp (x0u ex);have lk:y.2 < hs.toList.length:=by rw [<- l];exact(x0i.mp my).1
     have hk:hs.toList[y.2]?=some h:=by rw [<- a2,x0O,x0c lk];rfl
     rw [a1] at my;exact(r y.2 s h my hk).mono fun x hx=>(ml x).mpr hx
end SeT
end
section
namespace SeT
open PySem PySem.Spec PyProof.Rows L2
section
variable (prog:x0G)(w:World)
noncomputable abbrev TK:HeapKind prog w (List Key):=tupleKind (a0F prog w)
noncomputable def enS (x:List Key×Addr):Int×Value:=((TK prog w).hash x.1,.ref x.2)
structure SetK (h:Heap)(a:Addr)(o:Obj)(es:Array (Int×Value))(ep:Nat)(t:x2d)(xs:List (List Key×Addr)):Prop where
 ho:h.get? a=some o
 ex:o.ExactSet
 hd:o.data=.set es ep t
 hes:es.toList=xs.map (enS prog w)
 hk:∀x∈xs,(TK prog w).is h x.1 x.2
 nd:(xs.map (·.1)).Nodup
 tb:TOk t (xs.map fun x=>(TK prog w).hash x.1)
 few:5 * xs.length < 3 * t.mask
 led:t.led=!(w.params.followText "set-order")
end
section
variable {prog:x0G}{w:World}{A:Around}{E:Value->Shared->Prop}{s:Shared}{a:Addr}{o:Obj}{es:Array (Int×Value)}{ep:Nat}{t:x2d}{xs:List (List Key×Addr)}
theorem SetK.sz {h:Heap}(S:SetK prog w h a o es ep t xs):es.size=xs.length:=by rw [<- x0z,S.hes,x0e]
theorem SetK.fits {h:Heap}(S:SetK prog w h a o es ep t xs):t.fits es.size=true:=by
 have:=S.tb.fits;rw [x0e] at this;rw [S.sz];exact this
theorem SetK.at {h:Heap}(S:SetK prog w h a o es ep t xs){i:Nat}{y:List Key×Addr}(e:xs[i]?=some y):es[i]?=some (enS prog w y):=by
 rw [<- x0P,S.hes,x0p,e];rfl
theorem a8p {ks:List Key}{vs:List Value}(h:ItemsAre (a0F prog w) ks vs):∀v∈vs,(∃i t,v=.int i t)\/∃x t,v=.str x t:=by
 induction h with
 | nil=>intro v hv;cases hv
 | @cons k v ks vs h1 _ ih =>
   intro u hu;rcases x0k.mp hu with rfl | hu
   · rcases a0H h1 with⟨i,t,_,rfl⟩ | ⟨x,t,_,rfl⟩
     · exact .inl ⟨i,t,rfl⟩
     · exact .inr ⟨x,t,rfl⟩
   · exact ih u hu
theorem a8z {r:Addr}{k:List Key}{Q:Bool->Shared->Prop}(hk:(TK prog w).is s.heap k r)(h:Q false s):wpAny (model prog w) A (ofAClassStatement 8 (.ref r)) Q E s:=by
 obtain⟨ob,items,n,e,c,d,its⟩:=hk;unfold ofAClassStatement;refine x0a (x4i (⟨ob,e,c⟩:s.TypeIs (.ref r) "tuple") ?_);dsimp only;simp only [beq_self_eq_true,↓reduceIte];refine x0a (x0h ?_);simp only [x3P,x0w,↓reduceIte];refine x0a (x3s e d ?_);dsimp only;refine x0a ?_;rw [<- x3O];refine x4q _ (fun rest r s'=>r.1=none/\s'=s/\∀v∈rest,(∃i t,v=.int i t)\/∃x t,v=.str x t) _ ?_ ?_ _ _ ⟨rfl,rfl,a8p its⟩
 · rintro v rest r s' ⟨hr,rfl,all⟩
   have e0:ofAClassStatement 7 v=pure false:=by
     rcases all v x0g with⟨i,t,rfl⟩ | ⟨x,t,rfl⟩ <;> rfl
   rw [e0];refine x0a (x0h ?_);simp only [x0w,↓reduceIte];exact x0h ⟨rfl,rfl,fun u hu=>all u (x0f _ hu)⟩
 · rintro⟨r1,r2⟩ s' ⟨hr,rfl,_⟩;simp only at hr;subst hr;exact x0h h
theorem b4H {r:Addr}{k:List Key}(hu:A.units < cLine)(hk:(TK prog w).is s.heap k r):∀(l:List Value),(∀v∈l,∃b kb,v=.ref b/\(TK prog w).is s.heap kb b)->∀{Q:Bool->Shared->Prop},Q false s->wpAny (model prog w) A (searchCouldBeSeen (.ref r) l) Q E s:=by
 intro l hl Q h;unfold searchCouldBeSeen;refine x0a ?_;refine x4q _ (fun rest r s'=>r.1=none/\s'=s/\∀v∈rest,∃b kb,v=.ref b/\(TK prog w).is s.heap kb b) _ ?_ ?_ _ _ ⟨rfl,rfl,hl⟩
 · rintro v rest q s' ⟨hr,rfl,all⟩;obtain⟨b,kb,rfl,hb⟩:=all v x0g;have fin:∀v∈rest,∃b kb,v=x1l b/\(TK prog w).is s'.heap kb b:=fun u hu=>all u (x0f _ hu);dsimp only
   split
   · exact x0h ⟨rfl,rfl,fin⟩
   · refine x0a ((TK prog w).quiet hk ?_);simp only [x3P,x0w,↓reduceIte];refine x0a ((TK prog w).quiet hb ?_);simp only [x3P,x0w,↓reduceIte];refine x0a (a8z hk ?_);simp only [x0w,↓reduceIte];refine x0a (a8z hb ?_);simp only [x0w,↓reduceIte];exact x0h ⟨rfl,rfl,fin⟩
 · rintro⟨r1,r2⟩ s' ⟨hr,rfl,_⟩;simp only at hr;subst hr;exact x0h h
theorem b2h {b:Addr}{Q:Bool->Shared->Prop}(h:Q true s):wpAny (model prog w) A (isSame (.ref b) (.ref b)) Q E s:=by
 show wpAny _ A (if(b == b)=true then pure true else _) Q E s;rw [if_pos (by simp)];exact x0h h
theorem b3a {α:Type}{b:Bool}{m:Sem Bool}{u v:Sem α}{Q:α->Shared->Prop}(hm:∀Q':Bool->Shared->Prop,Q' false s->wpAny (model prog w) A m Q' E s)(hv:wpAny (model prog w) A v Q E s):wpAny (model prog w) A (if b=true then(do let x ← m;if x=true then u else v) else v) Q E s:=by
 split
 · refine x0a (hm _ ?_);simp only [x0w,↓reduceIte];exact hv
 · exact hv
theorem search {r:Addr}{k:List Key}(hu:A.units < cLine)(S:SetK prog w s.heap a o es ep t xs)(hk:(TK prog w).is s.heap k r){K e:Nat}(hK:(lp t.mask ((TK prog w).hash k) K).1=e)(he:e∉t.place.toList)(hK2:K<=t.mask + 14){Q:SetFound->Shared->Prop}
   (hQ1:k∈xs.map (·.1)->Q (.there none) s) (hQ2:∀sl,sl∉t.place.toList->sl<=t.mask->Rch t.mask (·∈t.place.toList) sl ((TK prog w).hash k)->k∉xs.map (·.1)->Q (.free sl false) s) :
   ∀ (fuel kk oo : Nat) (st : Option SetTable.Probe), st.getD (t.probeStart ((TK prog w).hash k)) = pb t.mask ((TK prog w).hash k) kk oo -> kk <= K -> (kk = K -> oo = 0) -> oo <= rn t.mask (lp t.mask ((TK prog w).hash k) kk).1 -> far K kk oo <= fuel ->
     (∀k' o',o'<=rn t.mask (lp t.mask ((TK prog w).hash k) k').1->Lx k' o' kk oo->∃(i:Nat) (y:List Key×Addr),t.place.toList[i]?=some (vs t.mask ((TK prog w).hash k) k' o')/\xs[i]?=some y/\y.1≠k)->
     wpAny (model prog w) A (setSearchFrom a (.ref r) ((TK prog w).hash k) true fuel st) Q E s:=by
 intro xq
 induction xq with
 | zero =>
   intro kk oo st _ h1 h2 h3 h4 _;have r9:=rn_9 t.mask (lp t.mask ((TK prog w).hash k) kk).1;unfold far at h4;have:¬kk=K:=fun z=>by have:=h2 z;omega
   omega
 | succ fuel ih =>
   intro kk oo st hst h1 h2 h3 h4 done;have farK:far K kk oo<=10 * SetTable.turns t.mask:=by unfold far SetTable.turns;omega
   have hat:∀(i:Nat) x,(xs.map fun x=>(TK prog w).hash x.1)[i]?=some x->(es[i]?.map (·.1)).getD 0=x:=fun i x e=>by
     rw [x0p] at e;cases ex:xs[i]? with
     | none=>rw [ex] at e;cases e
     | some y =>
       rw [ex] at e;rw [S.at ex];exact x0H e
   obtain⟨k2,o2,a1,a2,a3,a4,a5,a6⟩:=b2B S.tb (fun i=>(es[i]?.map (·.1)).getD 0) hat hK he (10 * SetTable.turns t.mask) kk oo h1 h2 h3 farK
   have done2:∀k' o',o'<=rn t.mask (lp t.mask ((TK prog w).hash k) k').1->Lx k' o' k2 o2->∃(i:Nat) (y:List Key×Addr),t.place.toList[i]?=some (vs t.mask ((TK prog w).hash k) k' o')/\xs[i]?=some y/\y.1≠k:=fun k' o' p1 p2=>by
     by_cases c:Lx k' o' kk oo
     · exact done k' o' p1 c
     · obtain⟨i,x,q1,q2,q3⟩:=a5 k' o' p1 c p2;rw [x0p] at q2;cases ex:xs[i]? with
       | none=>rw [ex] at q2;cases q2
       | some y =>
         rw [ex] at q2;have q2':(TK prog w).hash y.1=x:=by simpa using q2
         exact⟨i,y,q1,ex,fun z=>q3 (by rw [<- q2',z])⟩
   unfold setSearchFrom;refine x0a (x1v S.ho S.hd S.fits ?_);dsimp only;rw [S.tb.odd];simp only [x0w,↓reduceIte];refine x0a (x0h ?_);rw [hst];generalize hpr:t.probe _ ((TK prog w).hash k) (pb t.mask ((TK prog w).hash k) kk oo)=pr;rcases a6 with⟨em,ep2⟩ | ⟨i,hkK,pi,hi,ep2⟩
   · have epr:pr=some (.empty (vs t.mask ((TK prog w).hash k) k2 o2) none):=by rw [<- hpr];exact ep2
     rw [epr];dsimp only;refine x0h (hQ2 _ em (b4t a1) ⟨k2,o2,a1,rfl,fun k' o' p1 p2=>?_⟩ fun hin=>?_)
     · obtain⟨i,y,q1,_⟩:=done2 k' o' p1 p2;exact x0u q1
     · obtain⟨y,hy,ey⟩:=x0F.mp hin;obtain⟨iy,hiy⟩:=x2v.mp hy
       obtain⟨sy,hsy⟩:∃sy,t.place.toList[iy]?=some sy:=by
         have:=(x0i.mp hiy).1;have h2:=S.tb.size;rw [x0e] at h2;exact⟨_,x0c (by omega)⟩
       obtain⟨ky,oy,b1,b2,b3⟩:=S.tb.reach iy sy ((TK prog w).hash k) hsy (by rw [x0p,hiy];show some ((TK prog w).hash y.1)=_;rw [ey])
       -- the empty place is not ahead of y's
       have nl:¬Lx k2 o2 ky oy:=fun z=>em (b3 k2 o2 a1 z);have ne:¬(k2=ky/\o2=oy):=fun⟨z1,z2⟩=>em (by rw [z1,z2,b2];exact x0u hsy)
       have lt:Lx ky oy k2 o2:=by
         rcases x2i ky k2 with c | c | c
         · exact .inl c
         · subst c;rcases x2i oy o2 with d | d | d
           · exact .inr ⟨rfl,d⟩
           · exact absurd ⟨rfl,d.symm⟩ ne
           · exact absurd (.inr ⟨rfl,d⟩) nl
         · exact absurd (.inl c) nl
       obtain⟨i',y',q1,q2,q3⟩:=done2 ky oy b1 lt;rw [b2] at q1
       have ii:i'=iy:=by
         obtain⟨l1,e1⟩:=x0i.mp q1;obtain⟨l2,e2⟩:=x0i.mp hsy;rcases x2i i' iy with c | c | c
         · have:=x1b.mp S.tb.rise _ _ l1 l2 c;omega
         · exact c
         · have:=x1b.mp S.tb.rise _ _ l2 l1 c;omega
       rw [ii,hiy] at q2;cases q2;exact q3 ey
   · have epr:pr=some (.candidate (vs t.mask ((TK prog w).hash k) k2 o2) i (pb t.mask ((TK prog w).hash k) (nx t.mask ((TK prog w).hash k) k2 o2).1 (nx t.mask ((TK prog w).hash k) k2 o2).2)):=by rw [<- hpr];exact ep2
     rw [epr];dsimp only
     obtain⟨y,hy⟩:∃y,xs[i]?=some y:=by
       rw [x0p] at hi;cases ex:xs[i]? with
       | none=>rw [ex] at hi;cases hi
       | some y=>exact⟨y,rfl⟩
     have hyk:=S.hk y (x0u hy);have hey:=S.at hy;refine b3a (fun Q' h=>b4H hu hk _ (fun v hv=>?_) h) ?_
     · obtain⟨z,hz,rfl⟩:=x0F.mp hv
       have hz':z∈es.toList:=by
         rw [Array.toList_filter] at hz;exact(x0W.mp hz).1
       rw [S.hes] at hz';obtain⟨y',hy',rfl⟩:=x0F.mp hz';exact⟨y'.2,y'.1,rfl,S.hk y' hy'⟩
     rw [hey];show wpAny (model prog w) A (x3T [.ref y.2] (eqBool (.ref y.2) (.ref r))>>=_) Q E s;refine x0a (x0V ((TK prog w).eqBool hu hyk hk ?_));refine x0a (x1v S.ho S.hd S.fits ?_);dsimp only
     by_cases c:y.1=k
     · rw [decide_eq_true c];simp only [Bool.and_self,↓reduceIte];exact x0h (hQ1 (x0F.mpr ⟨y,x0u hy,c⟩))
     · rw [decide_eq_false c];simp only [Bool.and_false,x0w,↓reduceIte];have sm:t.sameMemory t.moves t.mask=some true:=by unfold SetTable.sameMemory;simp
       rw [sm];simp only [↓reduceIte];rw [S.tb.slot_live pi];dsimp only;rw [hey];show wpAny (model prog w) A (isSame (.ref y.2) (.ref y.2)>>=_) Q E s;refine x0a (b2h ?_);refine x0a (x0h ?_);simp only [↓reduceIte];obtain⟨f1,f2,f3⟩:=b3T (K:=K) a1 hkK
       have fle:far K k2 o2<=far K kk oo:=by
         unfold far;have r9:=rn_9 t.mask (lp t.mask ((TK prog w).hash k) kk).1;rcases x2i k2 kk with c | c | c
         · exact absurd (.inl c) a4
         · subst c;have:¬o2 < oo:=fun z=>a4 (.inr ⟨rfl,z⟩);omega
         · omega
       refine ih _ _ _ rfl f2 f3 (nx_ok a1) (by omega) fun k' o' p1 p2=>?_;rcases nx_lx a1 p1 p2 with q | ⟨rfl,rfl⟩
       · exact done2 k' o' p1 q
       · exact⟨i,y,pi,hy,c⟩
end
end SeT
end
section
namespace SeT
open PySem PySem.Spec PyProof.Rows L2
section
variable {prog:x0G}{w:World}{A:Around}{E:Value->Shared->Prop}{s:Shared}{a:Addr}{o:Obj}{es:Array (Int×Value)}{ep:Nat}{t:x2d}{xs:List (List Key×Addr)}
theorem hbv {r:Addr}{k:List Key}{Q:Bool->Shared->Prop}(hk:(TK prog w).is s.heap k r)(h:∀b,Q b s):wpAny (model prog w) A (hashByValue 8 (.ref r)) Q E s:=by
 have hT:s.TypeIs (.ref r) "tuple":=IsTupleKey.typeIs hk;obtain⟨ob,items,n,e,c,d,its⟩:=hk;unfold hashByValue;refine x0a (wpAny_specialOf hT F.slot_tuple_hash.lookup ?_);dsimp only;refine x0a (x3s e d ?_);refine x0a ?_;show wpAny _ _ (forIn items _ _) _ _ s;rw [<- x3O];refine x4q _ (fun rest q s'=>q.1=none/\s'=s/\∀v∈rest,(∃i t,v=.int i t)\/∃x t,v=.str x t) _ ?_ ?_ _ _ ⟨rfl,rfl,a8p its⟩
 · rintro v rest q s' ⟨hr,rfl,all⟩
   have e0:∃b,hashByValue 7 v=pure b:=by
     rcases all v x0g with⟨i,t,rfl⟩ | ⟨x,t,rfl⟩
     · exact⟨true,rfl⟩
     · exact⟨false,rfl⟩
   obtain⟨b,e0⟩:=e0;rw [e0];refine x0a (x0h ?_);cases b with
   | true =>
     simp only [x3P,x0w,↓reduceIte];exact x0h ⟨rfl,rfl,fun u hu=>all u (x0f _ hu)⟩
   | false =>
     simp only [Bool.not_false,↓reduceIte];exact x0h (x0h (h _))
 · rintro⟨r1,r2⟩ s' ⟨hr,rfl,_⟩;simp only at hr;subst hr;exact x0h (h _)
theorem b1k {h h':Heap}{k:List Key}{r:Addr}(hk:(TK prog w).is h k r)(ho:h.get? a=some o)(ex:o.ExactSet)(sb:x1Y a h h'):(TK prog w).is h' k r:=by
 obtain⟨ob,items,n,e,c,d,its⟩:=hk
 have ne:r≠a:=fun z=>by
   rw [z,ho] at e;cases e;rw [ex.1] at c;exact absurd c (by decide)
 exact⟨ob,items,n,(sb.2 r ne).trans e,c,d,its⟩
theorem TOk.pl {hs:List Int}(T:TOk t hs)(b:Bool):TOk { t with plain:=b } hs:=⟨T.size,T.dum,T.mask,T.rise,T.lim,T.room,T.reach⟩
theorem b3l {n m:Nat}(hm:Msk m)(h:5 * n < 3 * m):n + 1 < m:=by rcases hm with rfl | rfl | rfl <;> omega
theorem b0l {h:Heap}{es':Array (Int×Value)}{t':x2d}(ho:h.get? a=some o)(hd:o.data=.set es ep t):(h.update a (Obj.putSet es' t')).get? a=some { o with data:=.set es' (ep + 1) t' }:=by
 have:=x1Z (Obj.putSet es' t') ho (by rw [putSet_of es' t' hd];rfl);rw [putSet_of es' t' hd] at this;exact this
theorem b0Q {α β:Type}(f:α->β)(l:List α)(p:Nat)(x:α):(insL l p x).map f=insL (l.map f) p (f x):=by
 unfold insL;rw [x0Y,x0v,x4x,x4y]
theorem b3f {α:Type}(l:List α)(p:Nat)(x:α):(insL l p x).Perm (x::l):=by
 unfold insL;have h1:(l.take p++x::l.drop p).Perm (x::(l.take p++l.drop p)):=List.perm_middle;rw [x4l] at h1;exact h1
theorem a5o {α:Type}(l:List α)(ord:List Nat)(d:α)(p:ord.Perm (x0L l.length)):ord.filterMap (fun k=>l[k]?)=ord.map (fun k=>l.getD k d)/\(ord.map fun k=>l.getD k d).Perm l:=by
 have lt:∀k∈ord,k < l.length:=fun k hk=>x0N.mp (p.mem_iff.mp hk);constructor
 · clear p
   induction ord with
   | nil=>rfl
   | cons k ord ih =>
     have hk:=lt k x0g;rw [x2M,x0c hk,x0v,ih fun j hj=>lt j (x0f _ hj),x0O,x0c hk]
     rfl
 · have h1:=p.map fun k=>l.getD k d
   have h2:(x0L l.length).map (fun k=>l.getD k d)=l:=by
     apply List.ext_getElem?
     intro i;rw [x0p]
     by_cases c:i < l.length
     · rw [List.getElem?_range c,x0c c];show some (l.getD i d)=_;rw [x0O,x0c c];rfl
     · rw [x0T (by simpa using c),x0T (by omega)];rfl
   rw [h2] at h1;exact h1
theorem relay {n:Nat}{Q:Unit->Shared->Prop}(ho:s.heap.get? a=some o)(ex:o.ExactSet)(hd:o.data=.set es ep t)(hes:es.toList=xs.map (enS prog w))(hk:∀x∈xs,(TK prog w).is s.heap x.1 x.2)(nd:(xs.map (·.1)).Nodup)(tb:TOk t (xs.map fun x=>(TK prog w).hash x.1))(led:t.led=!(w.params.followText "set-order"))
   (hn:n=xs.length) (hfull:(t.mask=7/\n=5)\/(t.mask=31/\n=19))
   (h:∀h' o' es' ep' t' xs',x1Y a s.heap h'->SetK prog w h' a o' es' ep' t' xs'->xs'.Perm xs->Q () { s with heap:=h' }):wpAny (model prog w) A (setRelay a (x4g n)) Q E s:=by
 have sz:es.size=xs.length:=by rw [<- x0z,hes,x0e]
 have fit:t.fits es.size=true:=by
   have:=tb.fits;rw [x0e] at this;rw [sz];exact this
 obtain⟨m',hm',sa,fewm,lt⟩:∃m',Msk m'/\SetTable.sizeAbove (x4g n) - 1=m'/\5 * n < 3 * m'/\SetTable.sizeAbove (x4g n)<=128:=by
   rcases hfull with⟨_,rfl⟩ | ⟨_,rfl⟩
   · exact⟨31,.inr (.inl rfl),by decide,by decide,by decide⟩
   · exact⟨127,.inr (.inr rfl),by decide,by decide,by decide⟩
 have hsl:(es.map (·.1)).toList=xs.map fun x=>(TK prog w).hash x.1:=by
   rw [Array.toList_map,hes,x2a];rfl
 have hll:(es.map (·.1)).toList.length=n:=by rw [hsl,x0e,hn]
 obtain⟨t',ord,el,po,l1,l2,l3,T'⟩:=b5D (fi:=t.finger) (mo:=t.movedTo m') (led:=t.led) (pl:=t.plain) hm' (es.map (·.1)) (by rw [hll];rcases hm' with rfl | rfl | rfl <;> omega)
 have er:t.relaid (es.map (·.1)) (x4g n)=some (t',ord):=by
   unfold SetTable.relaid;rw [sa];exact el
 rw [hll] at po;have po':ord.toList.Perm (x0L xs.length):=by rw [<- hn];exact po
 obtain⟨x0,hx0⟩:∃x0:List Key×Addr,True:=⟨([],0),trivial⟩;have ol:=a5o xs ord.toList x0 po';have lt2:∀k∈ord.toList,k < xs.length:=fun k hk=>x0N.mp (po'.mem_iff.mp hk)
 have es2:(ord.filterMap (es[·]?)).toList=(ord.toList.map fun k=>xs.getD k x0).map (enS prog w):=by
   rw [Array.toList_filterMap,x2a]
   have:∀l:List Nat,(∀k∈l,k < xs.length)->l.filterMap (fun k=>es[k]?)=l.map ((enS prog w)∘fun k=>xs.getD k x0):=by
     intro l
     induction l with
     | nil=>intro _;rfl
     | cons k l ih =>
       intro hl;have hk:=hl k x0g
       have e1:es[k]?=some (enS prog w (xs.getD k x0)):=by
         rw [<- x0P,hes,x0p,x0c hk,x0O,x0c hk];rfl
       rw [x2M,e1,x0v,ih fun j hj=>hl j (x0f _ hj)]
       rfl
   exact this ord.toList lt2
 have z2:(ord.filterMap (es[·]?)).size=es.size:=by
   rw [<- x0z,es2,x0e,x0e,po'.length_eq,x2K,sz]
 unfold setRelay;refine x0a (x1v ho hd fit ?_);dsimp only;rw [if_neg (by rw [x1c];omega),er]
 show wpAny (model prog w) A ((do
   let es':=ord.filterMap (es[·]?)
   if es'.size != es.size then unsupported "internal:set-table-lost-an-element"
   pure (es',t'))>>=fun(x:Array (Int×Value)×x2d)=>storeSet a x.1 x.2) Q E s
 dsimp only;rw [if_neg (by rw [z2];simp)];refine x0a (x0a (x0h (x0h ?_)));have fz:(ord.filterMap (es[·]?)).size<=x0B:=by rw [z2,sz,<- hn,x1c];rcases hfull with⟨_,rfl⟩ | ⟨_,rfl⟩ <;> decide
 refine wpAny_storeSet_of ho hd ?_ fz;have sb:=x0M s.heap a (Obj.putSet (ord.filterMap (es[·]?)) t');have pk:=po';refine h _ _ _ _ _ (ord.toList.map fun k=>xs.getD k x0) sb ⟨b0l ho hd,ex,rfl,es2,fun x hx=>?_,?_,?_,?_,by rw [l1];exact led⟩ ol.2
 · exact b1k (hk x (ol.2.mem_iff.mp hx)) ho ex sb
 · exact((ol.2.map (·.1)).nodup_iff).mpr nd
 · have e3:(ord.toList.map fun k=>xs.getD k x0).map (fun x=>(TK prog w).hash x.1)=ord.toList.map fun k=>(es.map (·.1)).toList.getD k 0:=by
     rw [x2a,hsl];refine List.map_congr_left fun k hk=>?_;have hk':=lt2 k hk;show(TK prog w).hash (xs.getD k x0).1=_;rw [x0O,x0O,x0p,x0c hk'];rfl
   rw [e3];exact T'
 · rw [x0e,po'.length_eq,x2K,<- hn];show 5 * n < 3 * t'.mask;omega
theorem add {r:Addr}{k:List Key}{Q:Bool->Shared->Prop}(hu:A.units < cLine)(S:SetK prog w s.heap a o es ep t xs)(hk:(TK prog w).is s.heap k r)(h63:xs.length + 1<=63)
   (h1:k∈xs.map (·.1)->Q false s) (h2:k∉xs.map (·.1)->∀h' o' es' ep' t' xs',x1Y a s.heap h'->SetK prog w h' a o' es' ep' t' xs'->xs'.Perm ((k,r)::xs)->Q true { s with heap:=h' }) :
   wpAny (model prog w) A (setAddHashed a (.ref r) ((TK prog w).hash k)) Q E s:=by
 unfold setAddHashed setAddHashedIn;refine x0V (x0a (x1v S.ho S.hd S.fits ?_));dsimp only;have nb:byScan (.ref r) es=false:=by unfold byScan Value.scannable;simp
 rw [nb];simp only [x0w,↓reduceIte];obtain⟨e,he1,he2⟩:=S.tb.free;obtain⟨K,hK1,hK2⟩:=goes S.tb.mask ((TK prog w).hash k) he1
 have f0:far K 0 0<=100000:=by
   unfold far;rcases S.tb.mask with z | z | z <;> rw [z] at hK1 <;> omega
 refine x0a ?_;unfold setSearch;refine search hu S hk hK2 he2 hK1 (fun hin=>?_) (fun sl n1 n2 n3 n4=>?_) 100000 0 0 none rfl (x0U _) (fun _=>rfl) (x0U _) f0 (fun k' o' _ l=>?_)
 · exact x0h (h1 hin)
 · dsimp only;refine x0a (x1v S.ho S.hd S.fits ?_);have hr:=b3l S.tb.mask (by have:=S.few;exact this);obtain⟨p1,p2,p3,p4,T1⟩:=S.tb.put n1 n2 n3 (by rw [x0e];exact hr);rw [x0e] at p2;have ek:insL (xs.map fun x=>(TK prog w).hash x.1) (t.put sl).2 ((TK prog w).hash k)=(insL xs (t.put sl).2 (k,r)).map fun x=>(TK prog w).hash x.1:=(b0Q (fun x:List Key×Addr=>(TK prog w).hash x.1) xs (t.put sl).2 (k,r)).symm;rw [ek] at T1
   have es1:(SetTable.insertAt es (t.put sl).2 ((TK prog w).hash k,.ref r)).toList=(insL xs (t.put sl).2 (k,r)).map (enS prog w):=by
     rw [a8q _ _ _ (by rw [S.sz];exact p2),S.hes,b0Q];rfl
   have pm:=b3f xs (t.put sl).2 (k,r);have mk1:(t.put sl).1.mask=t.mask:=rfl
   have nd1:((insL xs (t.put sl).2 (k,r)).map (·.1)).Nodup:=by
     refine((pm.map (·.1)).nodup_iff).mpr ?_;rw [x0v,x1x];exact⟨n4,S.nd⟩
   have hk1:∀x∈insL xs (t.put sl).2 (k,r),(TK prog w).is s.heap x.1 x.2:=fun x hx=>by
     rcases x0k.mp (pm.mem_iff.mp hx) with rfl | hx
     · exact hk
     · exact S.hk x hx
   have len1:(insL xs (t.put sl).2 (k,r)).length=xs.length + 1:=a4j _ _ _
   have fill1:∀b,({ (t.put sl).1 with plain:=b }:x2d).fill=xs.length + 1:=fun b=>by
     show(t.put sl).1.place.size + (t.put sl).1.dummies.size=_;rw [T1.dum,<- x0z,T1.size,x0e,len1];rfl
   dsimp only;generalize (t.put sl).2=p at *;generalize ht1:(t.put sl).1=t1 at *;generalize hes1:SetTable.insertAt es p ((TK prog w).hash k,.ref r)=esN at *;generalize hxs1:insL xs p (k,r)=xs1 at *
   -- what follows, whatever is said of the hash
   have tail:∀b:Bool,wpAny (model prog w) A (do
       storeSet a esN { t1 with plain:=b }
       if(!false && ({ t1 with plain:=b }:x2d).tooFull)=true then do
         setRelay a (x4g (es.size + 1))
         pure true
       else pure true) Q E s:=fun b=>by
     have ez:esN.size<=x0B:=by rw [<- x0z,es1,x0e,len1,x1c];omega
     refine x0a (wpAny_storeSet_of S.ho S.hd ?_ ez);have sb:=x0M s.heap a (Obj.putSet esN { t1 with plain:=b });have hk2:∀x∈xs1,(TK prog w).is (s.heap.update a (Obj.putSet esN { t1 with plain:=b })) x.1 x.2:=fun x hx=>b1k (hk1 x hx) S.ho S.ex sb;have ob:=b0l (es':=esN) (t':={ t1 with plain:=b }) S.ho S.hd;have T2:=TOk.pl T1 b
     by_cases c:({ t1 with plain:=b }:x2d).tooFull=true
     · rw [if_pos (by rw [c];rfl)]
       have c':(xs.length + 1) * 5>=t.mask * 3:=by
         unfold SetTable.tooFull at c;rw [fill1 b] at c;have:=of_decide_eq_true c;rw [<- mk1];exact this
       have few:=S.few;refine x0a (relay (n:=es.size + 1) ob S.ex rfl es1 hk2 nd1 T2 (by show t1.led=_;rw [p4];exact S.led) (by rw [S.sz,len1]) ?_ fun h' o' es' ep' t' xs' sb' S' p'=>?_)
       · show(t1.mask=7/\_)\/(t1.mask=31/\_);rw [mk1,S.sz];rcases S.tb.mask with z | z | z
         · exact .inl ⟨z,by omega⟩
         · exact .inr ⟨z,by omega⟩
         · omega
       · exact x0h (h2 n4 _ _ _ _ _ _ (sb.trans sb') S' (p'.trans pm))
     · rw [if_neg (by simpa using c)];refine x0h (h2 n4 _ _ _ _ _ xs1 sb ⟨ob,S.ex,rfl,es1,hk2,nd1,T2,?_,by show t1.led=_;rw [p4];exact S.led⟩ pm)
       have:¬((xs.length + 1) * 5>=t.mask * 3):=fun z=>c (by
         unfold SetTable.tooFull;rw [fill1 b]
         exact decide_eq_true (by show(xs.length + 1) * 5>=t1.mask * 3;rw [mk1];exact z))
       show 5 * xs1.length < 3 * t1.mask;rw [len1,mk1];omega
   split
   · refine x0a (hbv hk fun b=>?_);cases b with
     | true =>
       simp only [↓reduceIte];exact tail t1.plain
     | false =>
       simp only [x0w,↓reduceIte];exact tail false
   · refine x0a (x0h ?_);simp only [↓reduceIte];exact tail t1.plain
 · rcases l with l | ⟨_,l⟩
   · exact absurd l (x2I _)
   · exact absurd l (x2I _)
end
end SeT
end
section
namespace SeT
open PySem PySem.Spec PyProof.Rows L2
noncomputable def Holds (prog:x0G)(w:World)(h:Heap)(S:Addr)(rs:List (List Key×Addr)):Prop:=
 ∃o es ep t xs,SetK prog w h S o es ep t xs/\(∀x∈xs,x∈rs)/\∀x∈rs,x.1∈xs.map (·.1)
theorem a4i {prog:x0G}{w:World}{h h':Heap}{k:List Key}{r:Addr}(hk:(TK prog w).is h k r)(kp:∀o,h.get? r=some o->h'.get? r=some o):(TK prog w).is h' k r:=by
 obtain⟨ob,items,n,e,c,d,its⟩:=hk;exact⟨ob,items,n,kp _ e,c,d,its⟩
theorem SetK.at' {prog:x0G}{w:World}{h h':Heap}{a:Addr}{o:Obj}{es:Array (Int×Value)}{ep:Nat}{t:x2d}{xs:List (List Key×Addr)}(S:SetK prog w h a o es ep t xs)(k0:h'.get? a=some o)(kp:∀x∈xs,∀o,h.get? x.2=some o->h'.get? x.2=some o):SetK prog w h' a o es ep t xs:=
 ⟨k0,S.ex,S.hd,S.hes,(fun x hx=>a4i (S.hk x hx) (kp x hx)),S.nd,S.tb,S.few,S.led⟩
theorem Holds.at' {prog:x0G}{w:World}{h h':Heap}{a:Addr}{rs:List (List Key×Addr)}(S:Holds prog w h a rs)(k0:∀o,h.get? a=some o->h'.get? a=some o)(kp:∀x∈rs,∀o,h.get? x.2=some o->h'.get? x.2=some o):Holds prog w h' a rs:=by
 obtain⟨o,es,ep,t,xs,S1,S2,S3⟩:=S;exact⟨o,es,ep,t,xs,S1.at' (k0 o S1.ho) fun x hx=>kp x (S2 x hx),S2,S3⟩
theorem Holds.len {prog:x0G}{w:World}{h:Heap}{a:Addr}{o:Obj}{es:Array (Int×Value)}{ep:Nat}{t:x2d}{xs rs:List (List Key×Addr)}(S:SetK prog w h a o es ep t xs)(hs:∀x∈xs,x∈rs):xs.length<=rs.length:=by
 have n1:xs.Nodup:=(x1L.mp S.nd).imp fun h e=>h (by rw [e]);exact n1.length_le_of_subset hs
section
variable {prog:x0G}{w:World}{A:Around}{R:Result->Shared->Prop}{I:Addr}{fp wr:List Addr}{G:Array GenState->Array GenState->Prop}{n:Nat}{P:Nat->Value->Prop}{St:Nat->Shared->Prop}
theorem b2M {h h':Heap}{S:Addr}{rs:List (List Key×Addr)}{i:Nat}{y:List Key×Addr}(hy:rs[i]?=some y){o:Obj}{es:Array (Int×Value)}{ep:Nat}{t:x2d}{xs:List (List Key×Addr)}(S1:SetK prog w h S o es ep t xs)(S2:∀x∈xs,x∈rs.take i)(S3:∀x∈rs.take i,x.1∈xs.map (·.1))(hin:y.1∈xs.map (·.1)):Holds prog w h S (rs.take (i + 1)):=by
 have e:rs.take (i + 1)=rs.take i++[y]:=by rw [List.take_succ,hy];rfl
 rw [e];exact⟨o,es,ep,t,xs,S1,fun x hx=>x1a _ (S2 x hx),fun x hx=>(x0C.mp hx).elim (S3 x) fun z=>by rw [x0n.mp z];exact hin⟩
theorem a9O (Wk:WalksS prog w A.in1 I fp wr G n P St)(S:Addr)(nf:S∉fp)(rs:List (List Key×Addr))(hn:rs.length=n)(hv:∀i v,P i v->∃y,rs[i]?=some y/\v=.ref y.2)(ap:∀y∈rs,y.2∉wr/\y.2≠S)(hu:A.in1.units < cLine)(room:n<=63) :
   ∀ (k i : Nat) (s : Shared), n - i = k -> i <= n -> St i s -> (∀ y ∈ rs, (TK prog w).is s.heap y.1 y.2) -> Holds prog w s.heap S (rs.take i) ->
     (∀s',Moved (S::wr) G s s'->Holds prog w s'.heap S rs->R (.ok (.ret .none)) s')->
     x2x (model prog w) A (.builtin "set.update.loop" ⟨[.ref S,.ref I],[]⟩) R s:=by
 have nw:S∉wr:=fun h=>nf (Wk.sub _ h);have sub:∀b∈wr,b∈S::wr:=fun b hb=>x0f _ hb;intro k
 induction k with
 | zero =>
   intro i s hk hi st its so fin;have ei:i=n:=by omega
   subst ei;refine x1O x2T ?_;rw [x1B x1D _];refine x0a (m:=pyNext (.ref I)) (Wk.done s _ _ st fun s' mv=>?_);refine x0h (fin s' (mv.mono sub) ?_);rw [x1S (by omega)] at so;exact so.at' (fun o e=>mv.heap S _ nw e) fun x hx o e=>mv.heap _ _ (ap x hx).1 e
 | succ k ih =>
   intro i s hk hi st its so fin;have lt:i < n:=by omega
   refine x1O x2T ?_;rw [x1B x1D _];refine x0a (m:=pyNext (.ref I)) (Wk.item i s _ _ lt st fun v s' pv' st' mv=>?_);obtain⟨y,hy,rfl⟩:=hv i v pv';have my:y∈rs:=x0u hy;have its':∀y∈rs,(TK prog w).is s'.heap y.1 y.2:=fun y hy=>a4i (its y hy) fun o e=>mv.heap _ _ (ap y hy).1 e;have so':Holds prog w s'.heap S (rs.take i):=so.at' (fun o e=>mv.heap S _ nw e) fun x hx o e=>mv.heap _ _ (ap x (x4u hx)).1 e;refine x0a (m:=x3T [.ref y.2] (setAdd S (.ref y.2))) (x0V ?_);unfold setAdd;refine x0V (x0a ((TK prog w).pyHash hu (its' y my) ?_));obtain⟨o,es,ep,t,xs,S1,S2,S3⟩:=so'
   have l63:xs.length + 1<=63:=by
     have:=Holds.len S1 S2;rw [x1e] at this;omega
   have next:∀h',x1Y S s'.heap h'->Holds prog w h' S (rs.take (i + 1))->x2x (model prog w) A (.builtin "set.update.loop" ⟨[.ref S,.ref I],[]⟩) R { s' with heap:=h',toks:=s'.toks + (TK prog w).draws y.1 }:=fun h' sb so3=>by
     refine ih (i + 1) _ (by omega) lt (Wk.frame _ s' _ _ st' (Nat.le_add_right _ _) fun b hb o e=>?_) (fun z hz=>a4i (its' z hz) fun o e=>?_) so3 fun s2 mv2 so4=>?_
     · rw [sb.2 b (fun z:b=S=>nf (by rw [<- z];exact hb))];exact e
     · rw [sb.2 z.2 (ap z hz).2];exact e
     · refine fin s2 (Moved.trans Wk.gtrans ((mv.mono sub).then_heap (Nat.le_add_right _ _) fun b o hb e=>?_) mv2) so4;rw [sb.2 b (fun z:b=S=>hb (by rw [z];exact x0g))];exact e
   refine add (s:={ s' with toks:=s'.toks + (TK prog w).draws y.1 }) hu S1 (its' y my) l63 (fun hin=>?_) fun hin h' o' es' ep' t' xs' sb S1' pm=>?_
   · exact x0h ⟨x2t x1D _,next s'.heap (Heap.SameBut.refl _ _) (b2M (h':=s'.heap) hy S1 S2 S3 hin)⟩
   · refine x0h ⟨x2t x1D _,next h' sb ⟨o',es',ep',t',xs',S1',fun x hx=>?_,fun x hx=>?_⟩⟩
     · rw [List.take_succ,hy];rcases x0k.mp (pm.mem_iff.mp hx) with rfl | z
       · exact x0t _ (x0n.mpr rfl)
       · exact x1a _ (S2 x z)
     · rw [List.take_succ,hy] at hx;rw [(pm.map (·.1)).mem_iff,x0v];rcases x0C.mp hx with z | z
       · exact x0f _ (S3 x z)
       · have:x=y:=by simpa using z
         rw [this];exact x0g
end
end SeT
end
section
namespace SeT
open PySem PySem.Spec PyProof.Rows L2
section
variable {prog:x0G}{w:World}{A:Around}{E:Value->Shared->Prop}{s:Shared}
theorem b3k (h:Heap)(S:Addr)(led:Bool)(hl:led=!(w.params.followText "set-order"))(e:h.get? S=some { cls:=.type "set",dict:=none,data:=.set #[] 0 (.fresh 0 0 led) }):Holds prog w h S []:=by
 refine⟨_,#[],0,.fresh 0 0 led,[],⟨e,⟨rfl,rfl,rfl⟩,rfl,rfl,(fun _ z=>nomatch z),by simp,⟨rfl,rfl,.inl rfl,by unfold Rise;exact x4V,(fun _ z=>nomatch z),(show 0 < 7 by decide),fun i s h e=>?_⟩,(show 5 * 0 < 3 * 7 by decide),hl⟩,(fun _ z=>nomatch z),fun _ z=>nomatch z⟩;have:([]:List Nat)[i]?=some s:=e;simp at this
theorem a5a {a:Addr}{its:Array Value}{rs:List (List Key×Addr)}{Q:Value->Shared->Prop}(hd:A.handled=none)(hu:A.units + 64 < cLine)(ht:s.heap.IsList a its\/s.heap.IsTuple a its)(hv:its.toList=rs.map fun y=>x1l y.2)(hk:∀y∈rs,(TK prog w).is s.heap y.1 y.2)(room:rs.length<=63)
   (fin:∀(h':Heap) (tk:Nat),Holds prog w h' s.heap.objs.size rs->
     (∀b o,b < s.heap.objs.size->s.heap.get? b=some o->h'.get? b=some o)->Q (.ref s.heap.objs.size) { s with heap:=h',toks:=tk }):wpAny (model prog w) A (call (.type "set") [.ref a]) Q E s:=by
 have sz:rs.length=its.size:=by rw [<- x0z,hv,x0e]
 have lo:∀y∈rs,y.2 < s.heap.objs.size:=fun y hy=>by
   obtain⟨ob,items,n,e,_⟩:=hk y hy;exact x0o e
 refine a8a hd ht (fun I St fp G s1 R led hl lI Wk nf h0 g1 kp k=>?_) fin;refine a9O Wk _ nf rs sz (fun i v e=>?_) (fun y hy=>⟨fun z=>?_,x0r (lo y hy)⟩) (by simp only [Around.in1_units];omega) (by omega) (its.size - 0) 0 s1 rfl (x0U _) h0 (fun y hy=>a4i (hk y hy) fun o e=>kp _ _ e) (b3k _ _ led hl g1) k
 · rw [<- x0P,hv,x0p] at e;cases er:rs[i]? with
   | none=>rw [er] at e;cases e
   | some y=>rw [er] at e;cases e;exact⟨y,rfl,rfl⟩
 · exact absurd (x4h (lo y hy) lI) (by rw [x0n.mp z];exact x1U _)
end
end SeT
end
section
namespace SeT
open PySem PySem.Spec PyProof.Rows L2
theorem a1C:Slot "set_iterator" "__next__" "set_iterator.__next__":=.of (owner:="set_iterator") (n:="__next__")
 (by rw [typeLookup_type,builtinLookup_eq_fast];kernel_rfl)
 (by decide +kernel)
 (by decide +kernel)
 (by decide +kernel)
 (by first | exact .inl (by decide +kernel) | exact .inr (by decide +kernel))
 (by rw [x3b];kernel_rfl)
theorem a9N:Slot "set_iterator" "__iter__" "set_iterator.__iter__":=.of (owner:="set_iterator") (n:="__iter__")
 (by rw [typeLookup_type,builtinLookup_eq_fast];kernel_rfl)
 (by decide +kernel)
 (by decide +kernel)
 (by decide +kernel)
 (by first | exact .inl (by decide +kernel) | exact .inr (by decide +kernel))
 (by rw [x3b];kernel_rfl)
theorem a5Z:entryFor table "set_iterator.__next__"=some x3c.«set_iterator.__next__»:=entryFor_of_tree (by kernel_rfl)
theorem b5O:entryFor table "set_iterator.__iter__"=some x3c.«dict_keyiterator.__iter__»:=
 entryFor_alias (id':="dict_keyiterator.__iter__") (by kernel_rfl) rfl (by decide +kernel) (by kernel_rfl)
theorem b5P:entryFor table "set.__iter__"=some x3c.«frozenset.__iter__»:=
 entryFor_alias (id':="frozenset.__iter__") (by kernel_rfl) rfl (by decide +kernel) (by kernel_rfl)
theorem ow_it:Manifest.owners.lookup (String.ofList (['r','o','t','a','r','e','t','i','_','t','e','s']).reverse)=some Manifest.sig_set_iterator:=by kernel_rfl
theorem a6d (x:Value):argsOk "set_iterator.__next__" ⟨[x],[]⟩:=by
 unfold argsOk;rw [signature?_of (id:="set_iterator.__next__") (n:=['_','_','t','x','e','n','_','_']) (o:=['r','o','t','a','r','e','t','i','_','t','e','s']) (by kernel_rfl) ow_it];kernel_rfl
theorem b5Z (x:Value):argsOk "set_iterator.__iter__" ⟨[x],[]⟩:=by
 unfold argsOk;rw [signature?_of (id:="set_iterator.__iter__") (n:=['_','_','r','e','t','i','_','_']) (o:=['r','o','t','a','r','e','t','i','_','t','e','s']) (by kernel_rfl) ow_it];kernel_rfl
theorem erase_perm {α:Type}:∀(l:List α) (i:Nat) (x:α),l[i]?=some x->(x::l.eraseIdx i).Perm l
 | [],i,x,e=>by simp at e
 | y :: l, 0, x, e => by
   have:y=x:=by simpa using e
   rw [this];exact .refl _
 | y :: l, i + 1, x, e => by
   have h:=erase_perm l i x (by simpa using e);show(x::y::l.eraseIdx i).Perm (y::l);exact(x4Q y x _).trans (h.cons y)
theorem b5c {α:Type}(next:Nat->Nat):∀(fuel k:Nat) (left:List α) (out:Array α),fuel=left.length->(pickOrder.go next fuel k left out).toList.Perm (out.toList++left):=by
 intro xq
 induction xq with
 | zero =>
   intro k left out h;have:left=[]:=x1n h.symm;subst this;unfold pickOrder.go;rw [x1t]
 | succ fuel ih =>
   intro k left out h;have lt:next k % left.length < left.length:=Nat.mod_lt _ (by omega)
   have e:left[next k % left.length]?=some left[next k % left.length]:=x0c lt;unfold pickOrder.go;rw [e];dsimp only;have le:(left.eraseIdx (next k % left.length)).length=fuel:=by rw [x3o lt];omega
   refine(ih (k + 1) _ _ le.symm).trans ?_;rw [Array.toList_push,x0S];exact List.Perm.append_left _ (erase_perm _ _ _ e)
theorem b0p {α:Type}(next:Nat->Nat)(xs:Array α):(pickOrder next xs).toList.Perm xs.toList:=by
 have:=b5c next xs.size 0 xs.toList #[] (by simp)
 exact this
section
variable {prog:x0G}{w:World}{A:Around}{E:Value->Shared->Prop}{s:Shared}
theorem chosen {src:Source}{n:Nat}{Q:Nat->Shared->Prop}(hn:0 < n)(h:∀i d,i < n->Q i { s with drawn:=d }):wpAny (model prog w) A (choose src n) Q E s:=by
 intro Γ p _;unfold choose;rw [Sem.wp];refine⟨by omega,?_⟩;rw [Sem.wp];exact h _ _ (Nat.mod_lt _ hn)
theorem a5u {α:Type}:∀(n:Nat) (xs:List α) (s:Shared) (Q:List α->Shared->Prop),n=xs.length->(∀ys d,ys.Perm xs->Q ys { s with drawn:=d })->wpAny (model prog w) A (drawOrder n xs) Q E s
 | 0, xs, s, Q, hn, h => by
   have:xs=[]:=x1n hn.symm;subst this;exact x0h (h [] s.drawn (.refl _))
 | n + 1,[],s,Q,hn,h=>by simp at hn
 | n + 1, x :: xs, s, Q, hn, h => by
   unfold drawOrder;refine x0a (chosen (by simp) fun i d hi=>?_);have e:(x::xs)[i]?=some (x::xs)[i]:=x0c hi;rw [e];dsimp only;have le:((x::xs).eraseIdx i).length=n:=by rw [x3o hi];omega
   refine x0a (a5u n _ _ _ le.symm fun ys d2 hp=>x0h ?_);exact h _ d2 ((hp.cons _).trans (erase_perm _ _ _ e))
noncomputable def a2D (h:Heap)(I a:Addr)(fst:Value)(i n ep:Nat):Prop:=∃o,h.get? I=some o/\o.cls=.type "set_iterator"/\o.data=.fields #[fst,.int i 0,.ref a,.int n 0,.int ep 0]
theorem a2D.ty {I a:Addr}{fst:Value}{i n ep:Nat}(x:a2D s.heap I a fst i n ep):s.TypeIs (.ref I) "set_iterator":=by
 obtain⟨o,ho,hc,_⟩:=x;exact⟨o,ho,hc⟩
theorem a2D.at' {h h':Heap}{I a:Addr}{fst:Value}{i n ep:Nat}(x:a2D h I a fst i n ep)(e:∀o,h.get? I=some o->h'.get? I=some o):a2D h' I a fst i n ep:=by
 obtain⟨o,ho,r⟩:=x;exact⟨o,e _ ho,r⟩
theorem a2D.put {h:Heap}{I a:Addr}{fst:Value}{i n ep:Nat}(x:a2D h I a fst i n ep)(k:Nat)(v:Value):∃o,(h.update I (Obj.mapFields (·.setIfInBounds k v))).get? I=some o/\o.cls=.type "set_iterator"/\o.data=.fields (#[fst,.int i 0,.ref a,.int n 0,.int ep 0].setIfInBounds k v):=by
 obtain⟨o,ho,hc,hd⟩:=x;exact⟨_,x1Z _ ho (Obj.isFreed_of_fields (x3M hd _)),(Obj.cls_mapFields ..).trans hc,x3M hd _⟩
theorem b1i {I a:Addr}{fst:Value}{i n ep:Nat}{Q:Value->Shared->Prop}(x:a2D s.heap I a fst i n ep)(h:Q (.ref I) s):wpAny (model prog w) A (pyIter (.ref I)) Q E s:=by
 refine wpAny_pyIter_slot x.ty a9N (x1m a9N x.ty b5O (show wpAny (model prog w) _ (ret (.ref I)) _ _ s from ?_) (b5Z _));exact x0h ⟨_,rfl,"set_iterator",_,x.ty,a1C.lookup,h⟩
theorem a7X {h1:Heap}{Q0:PySem.Fin->Shared->Prop}{Q:Option Value->Shared->Prop}(hh:A.handled=none)(h:∀h',(∀b o,h1.get? b=some o->h'.get? b=some o)->Q none { s with heap:=h' }) :
   wpAny (model prog w) A.in1 ((newExc (.type "StopIteration") []>>=fun x=>raiseNew x:Sem PySem.Fin)) Q0 (fun e s'=>wpAny (model prog w) A (do if ← isInstance e (.type "StopIteration") then pure none else throw e) Q E s') { s with heap:=h1 }:=by
 refine x0a ?_;simp only [newExc,newTuple];refine x0a (x0Z ?_ (by size_fits));refine x0a (m:=firstArgMember _ _) (wpAny_of_eq (a:=x2Z) (by first | rfl | (simp only [firstArgMember];rfl)) ?_);refine x0Z ?_ (by size_fits);simp only [raiseNew];refine x0a (wpAny_handled ?_);rw [show A.in1.handled=none from hh];refine x0a (x0h (wpAny_throw ?_));refine x0a (wpAny_isInstance (T:="StopIteration") (b:=true) ⟨_,x0s _ rfl,rfl⟩ isSubtype_stop ?_);exact x0h (h _ fun b o e=>x0d _ (x0d _ e))
end
end SeT
end
section
namespace SeT
open PySem PySem.Spec PyProof.Rows L2
section
variable {prog:x0G}{w:World}{A:Around}{E:Value->Shared->Prop}{s:Shared}{I a:Addr}{n i ep:Nat}{o:Obj}{es:Array (Int×Value)}{t:x2d}
theorem b0H {slot nx:Nat}{x:Value}{Q:Option Value->Shared->Prop}(hit:a2D s.heap I a (.int slot 0) i n ep)(ho:s.heap.get? a=some o)(hd:o.data=.set es ep t)(hf:t.fits es.size=true)(hn:es.size=n)
   (hs:∀(A:Around) (E:Value->Shared->Prop) (Q':Option (Value×Nat)->Shared->Prop),Q' (some (x,nx)) s->wpAny (model prog w) A (setNext a slot i ep) Q' E s)
   (hQ:∀h',a2D h' I a (.int nx 0) (i + 1) n ep->x1Y I s.heap h'->Q (some x) { s with heap:=h' }):wpAny (model prog w) A (pyNext (.ref I)) Q E s:=by
 obtain⟨oi,hoi,hci,hdi⟩:=id hit;unfold pyNext;refine x0a (x3N (x1p (name:=x0j "__next__") hit.ty a1C (x1m a1C hit.ty a5Z ?_ (a6d _))));unfold x3c.«set_iterator.__next__»;refine x0a (x0h ?_);refine x0a (wpAny_fieldsOf hoi hdi ?_);dsimp only;refine x0a (x2U ho hd hf ?_);rw [if_neg (by rw [hn];simp)];refine x0a (hs _ _ _ ?_);dsimp only;refine x0a (x2A hoi hdi (by simp) ?_);obtain⟨o1,e1,c1,d1⟩:=hit.put 0 (rawInt nx);have h1:a2D (s.heap.update I (Obj.mapFields (·.setIfInBounds 0 (rawInt nx)))) I a (.int nx 0) i n ep:=⟨o1,e1,c1,by rw [d1];simp [rawInt]⟩;refine x0a (x2A (s:={ s with heap:=s.heap.update I (Obj.mapFields (·.setIfInBounds 0 (rawInt nx))) }) e1 d1 (by simp) ?_);obtain⟨o2,e2,c2,d2⟩:=h1.put 1 (rawInt (i + 1));refine x0h ⟨_,rfl,x0h (hQ _ ⟨o2,e2,c2,by rw [d2];simp [rawInt]⟩ ?_)⟩;exact(x0M s.heap I _).trans (x0M _ I _)
theorem b2S {slot:Nat}{Q:Option Value->Shared->Prop}(hh:A.handled=none)(hit:a2D s.heap I a (.int slot 0) i n ep)(ho:s.heap.get? a=some o)(hd:o.data=.set es ep t)(hf:t.fits es.size=true)(hn:es.size=n)
   (hs:∀(A:Around) (E:Value->Shared->Prop) (Q':Option (Value×Nat)->Shared->Prop),Q' none s->wpAny (model prog w) A (setNext a slot i ep) Q' E s)
   (hQ:∀h',(∀b o,b≠I->s.heap.get? b=some o->h'.get? b=some o)->Q none { s with heap:=h' }):wpAny (model prog w) A (pyNext (.ref I)) Q E s:=by
 obtain⟨oi,hoi,hci,hdi⟩:=id hit;unfold pyNext;refine x0a (x3N (x1p (name:=x0j "__next__") hit.ty a1C (x1m a1C hit.ty a5Z ?_ (a6d _))));unfold x3c.«set_iterator.__next__»;refine x0a (x0h ?_);refine x0a (wpAny_fieldsOf hoi hdi ?_);dsimp only;refine x0a (x2U ho hd hf ?_);rw [if_neg (by rw [hn];simp)];refine x0a (hs _ _ _ ?_);dsimp only;refine x0a (x2A hoi hdi (by simp) ?_);exact a7X hh fun h' k=>hQ h' fun b o hb e=>k b o (((x0M s.heap I _).2 b hb).trans e)
end
end SeT
end
section
namespace SeT
open PySem PySem.Spec PyProof.Rows L2
section
variable {prog:x0G}{w:World}{A:Around}{E:Value->Shared->Prop}{s:Shared}{I a tp:Addr}{n i ep:Nat}{o:Obj}{es:Array (Int×Value)}{t:x2d}{ps:Array Value}
theorem a9u {p:Nat}{hx:Int}{x:Value}{Q:Option Value->Shared->Prop}(hit:a2D s.heap I a (.ref tp) i n ep)(ht:s.heap.IsTuple tp ps)(ho:s.heap.get? a=some o)(hd:o.data=.set es ep t)(hf:t.fits es.size=true)(hn:es.size=n)
   (hp:ps[i]?=some (.int p 0)) (he:es[p]?=some (hx,x))
   (hQ:∀h',a2D h' I a (.ref tp) (i + 1) n ep->x1Y I s.heap h'->Q (some x) { s with heap:=h' }):wpAny (model prog w) A (pyNext (.ref I)) Q E s:=by
 obtain⟨oi,hoi,hci,hdi⟩:=id hit;obtain⟨ot,hot,hct,nt,hdt⟩:=ht;unfold pyNext;refine x0a (x3N (x1p (name:=x0j "__next__") hit.ty a1C (x1m a1C hit.ty a5Z ?_ (a6d _))));unfold x3c.«set_iterator.__next__»;refine x0a (x0h ?_);refine x0a (wpAny_fieldsOf hoi hdi ?_);dsimp only;refine x0a (x2U ho hd hf ?_);rw [if_neg (by rw [hn];simp)];refine x0a (x3s hot hdt ?_);dsimp only;rw [show((i:Int).toNat)=i from rfl,hp];dsimp only;refine x0a (m:=setNextDrawn a _ _) (x0a (x1v ho hd hf ?_));dsimp only;rw [if_neg (by simp)];rw [show((p:Int).toNat)=p from rfl,he];dsimp only;refine x0h ?_;refine x0a (x2A hoi hdi (by simp) ?_);obtain⟨o2,e2,c2,d2⟩:=hit.put 1 (rawInt (i + 1));refine x0h ⟨_,rfl,x0h (hQ _ ⟨o2,e2,c2,by rw [d2];simp [rawInt]⟩ ?_)⟩;exact x0M s.heap I _
theorem b1u {Q:Option Value->Shared->Prop}(hh:A.handled=none)(hit:a2D s.heap I a (.ref tp) i n ep)(ht:s.heap.IsTuple tp ps)(ho:s.heap.get? a=some o)(hd:o.data=.set es ep t)(hf:t.fits es.size=true)(hn:es.size=n)
   (hp:ps[i]?=none)
   (hQ:∀h',(∀b o,b≠I->s.heap.get? b=some o->h'.get? b=some o)->Q none { s with heap:=h' }):wpAny (model prog w) A (pyNext (.ref I)) Q E s:=by
 obtain⟨oi,hoi,hci,hdi⟩:=id hit;obtain⟨ot,hot,hct,nt,hdt⟩:=ht;unfold pyNext;refine x0a (x3N (x1p (name:=x0j "__next__") hit.ty a1C (x1m a1C hit.ty a5Z ?_ (a6d _))));unfold x3c.«set_iterator.__next__»;refine x0a (x0h ?_);refine x0a (wpAny_fieldsOf hoi hdi ?_);dsimp only;refine x0a (x2U ho hd hf ?_);rw [if_neg (by rw [hn];simp)];refine x0a (x3s hot hdt ?_);dsimp only;rw [show((i:Int).toNat)=i from rfl,hp];dsimp only;refine x0a (x2A hoi hdi (by simp) ?_);obtain⟨o2,e2,c2,d2⟩:=hit.put 0 (rawInt 0);refine x0a (x2A (s:={ s with heap:=s.heap.update I (Obj.mapFields (·.setIfInBounds 0 (rawInt 0))) }) e2 d2 (by simp) ?_);exact a7X hh fun h' k=>hQ h' fun b o hb e=>k b o (((x0M _ I _).2 b hb).trans (((x0M s.heap I _).2 b hb).trans e))
theorem a5g (hh:A.handled=none){ys:List Value}{sl:Nat->Nat}(hn:es.size=ys.length)(ne:a≠I)(hd:o.data=.set es ep t)(hf:t.fits es.size=true)
   (hs:∀(i:Nat) (s:Shared) (A:Around) (E:Value->Shared->Prop) (Q':Option (Value×Nat)->Shared->Prop),s.heap.get? a=some o->i<=ys.length->Q' (ys[i]?.map fun x=>(x,sl (i + 1))) s->wpAny (model prog w) A (setNext a (sl i) i ep) Q' E s) :
   Walks prog w A I [I,a] [I] ys.length (fun i v=>ys[i]?=some v) (fun i h=>a2D h I a (.int (sl i) 0) i ys.length ep/\h.get? a=some o) where
 sub:=fun b hb=>by rw [x0n.mp hb];exact x0g
 frame:=fun _ _ _ st hk=>⟨st.1.at' fun o e=>hk I x0g o e,hk a (x0f _ (x0n.mpr rfl)) o st.2⟩
 item:=fun i s Q E hi st hQ=>by
   have e:ys[i]?=some ys[i]:=x0c hi;refine b0H st.1 st.2 hd hf hn (x:=ys[i]) (nx:=sl (i + 1)) (fun A E Q' q=>hs i s A E Q' st.2 (x2r hi) (by rw [e];exact q)) fun h' hit' sb=>?_;exact hQ _ h' s.toks e ⟨hit',(sb.2 a ne).trans st.2⟩ fun b o hb e=>(sb.2 b (fun z=>hb (x0n.mpr z))).trans e
 done:=fun s Q E st hQ=>b2S hh st.1 st.2 hd hf hn (fun A E Q' q=>hs _ s A E Q' st.2 (x0m _) (by rw [x0T (x0m _)];exact q)) fun h' k=>hQ h' s.toks fun b o hb e=>k b o (fun z=>hb (x0n.mpr z)) e
 self:=fun _ _ _ _ st hQ=>b1i st.1 hQ
theorem a8E (hh:A.handled=none){pl:List Nat}(hn:es.size=pl.length)(ne:a≠I)(nt:tp≠I)(hd:o.data=.set es ep t)(hf:t.fits es.size=true)(hps:ps=(pl.map fun(i:Nat)=>rawInt i).toArray)(hpl:∀p∈pl,p < es.size) :
   Walks prog w A I [I,a,tp] [I] pl.length (fun i v=>∃p x,pl[i]?=some p/\es[p]?=some x/\v=x.2) (fun i h=>a2D h I a (.ref tp) i pl.length ep/\h.get? a=some o/\h.IsTuple tp ps) where
 sub:=fun b hb=>by rw [x0n.mp hb];exact x0g
 frame:=fun _ _ _ st hk=>⟨st.1.at' fun o e=>hk I x0g o e,hk a (by simp) o st.2.1,st.2.2.at fun o e=>hk tp (by simp) o e⟩
 item:=fun i s Q E hi st hQ=>by
   have e:pl[i]?=some pl[i]:=x0c hi;have lt:=hpl _ (x0u e);have ep':ps[i]?=some (.int (pl[i]:Nat) 0):=by rw [hps,List.getElem?_toArray,x0p,e];rfl
   have ex:es[pl[i]]?=some es[pl[i]]:=x1j lt;refine a9u st.1 st.2.2 st.2.1 hd hf hn ep' (hx:=es[pl[i]].1) (x:=es[pl[i]].2) ex fun h' hit' sb=>?_;exact hQ _ h' s.toks ⟨_,_,e,ex,rfl⟩ ⟨hit',(sb.2 a ne).trans st.2.1,st.2.2.at fun o e=>(sb.2 tp nt).trans e⟩ fun b o hb e=>(sb.2 b (fun z=>hb (x0n.mpr z))).trans e
 done:=fun s Q E st hQ=>b1u hh st.1 st.2.2 st.2.1 hd hf hn (by rw [hps,List.getElem?_toArray,x0p,x0T (x0m _)];rfl) fun h' k=>hQ h' s.toks fun b o hb e=>k b o (fun z=>hb (x0n.mpr z)) e
 self:=fun _ _ _ _ st hQ=>b1i st.1 hQ
end
end SeT
end
section
namespace SeT
open PySem PySem.Spec PyProof.Rows L2
noncomputable def a3R (pl:Array Nat):Nat->Nat
 | 0=>0
 | i + 1=>pl.getD i 0 + 1
theorem a9B {pl:Array Nat}(hr:Rise pl.toList):∀{i:Nat},i<=pl.size->SetTable.below pl (a3R pl i)=i:=by
 intro xq
 induction xq with
 | zero =>
   intro _;obtain⟨h1,h2,h3⟩:=a3u pl (a3R pl 0) hr;refine Nat.eq_zero_of_not_pos fun c=>?_;have lt:0 < pl.size:=by omega
   have:=h2 0 pl[0] c (x1j lt);exact x2I _ this
 | succ i ih =>
   intro hi;have lt:i < pl.size:=hi;have e:a3R pl (i + 1)=pl[i] + 1:=by show pl.getD i 0 + 1=_;rw [x1u,x1j lt];rfl
   obtain⟨h1,h2,h3⟩:=a3u pl (a3R pl (i + 1)) hr;rw [e] at h1 h2 h3 ⊢
   have a1:¬SetTable.below pl (pl[i] + 1)<=i:=fun c=>by
     have:=h3 i pl[i] c (x1j lt);omega
   have a2:¬i + 1 < SetTable.below pl (pl[i] + 1):=fun c=>by
     have l2:i + 1 < pl.size:=by omega
     have:=h2 (i + 1) pl[i + 1] c (x1j l2);have l2':i + 1 < pl.toList.length:=by simpa using l2
     have:=x1b.mp hr i (i + 1) (by omega) l2' (by omega);simp only [Array.getElem_toList] at this;omega
   omega
theorem a7t {α β:Type}{f:α->β}:∀{ys:List β} {xs:List α},ys.Perm (xs.map f)->∃zs:List α,zs.Perm xs/\ys=zs.map f:=by
 intro ys xs h;generalize e:xs.map f=l at h
 induction h generalizing xs with
 | nil =>
   have:xs=[]:=by simpa using e
   subst this;exact⟨[],.refl _,rfl⟩
 | @cons b l1 l2 h1 ih =>
   match xs,e with
   | x :: xs, e =>
     rw [x0v] at e;injection e with ea eb;obtain⟨zs,z1,z2⟩:=ih eb;exact⟨x::zs,z1.cons x,by rw [z2,x0v,ea]⟩
 | swap a b l =>
   match xs,e with
   | x :: y :: xs, e =>
     rw [x0v,x0v] at e;injection e with ea eb;injection eb with ec ed;exact⟨y::x::xs,x4Q x y xs,by rw [x0v,x0v,ea,ec,ed]⟩
 | trans h1 h2 ih1 ih2 =>
   obtain⟨zs,z1,z2⟩:=ih2 e;obtain⟨us,u1,u2⟩:=ih1 z2.symm;exact⟨us,u1.trans z1,u2⟩
section
variable {prog:x0G}{w:World}{A:Around}{E:Value->Shared->Prop}{s:Shared}{a:Addr}{ep:Nat}{o:Obj}{es:Array (Int×Value)}{t:x2d}{xs:List (List Key×Addr)}
theorem a6b {Q:Bool->Shared->Prop}(h:Q (w.params.followText "set-order") s):wpAny (model prog w) A setsByText Q E s:=x0a (x4p (x0h h))
noncomputable def dr (es:Array (Int×Value))(t:x2d):Bool:=!t.plain && decide (es.size > 1)
theorem a8Y {h0:Heap}(S:SetK prog w h0 a o es ep t xs)(ho:s.heap.get? a=some o)(hb:w.params.followText "set-order"=false)(hd:dr es t=false){i:Nat}(hi:i<=xs.length){Q:Option (Value×Nat)->Shared->Prop}
   (h:Q ((xs.map fun x=>x1l x.2)[i]?.map fun x=>(x,a3R t.place (i + 1))) s):wpAny (model prog w) A (setNext a (a3R t.place i) i ep) Q E s:=by
 have sp:t.place.size=xs.length:=by have:=S.tb.size;rw [x0e] at this;simpa using this
 unfold setNext;refine x0a (x1v ho S.hd S.fits ?_);dsimp only;refine x0a (a6b ?_);rw [hb];simp only [x0w,↓reduceIte];have e1:(!t.plain && decide (es.size > 1))=false:=hd;show wpAny _ _ (if(!t.plain && decide (es.size > 1))=true then _ else _) _ _ _;rw [e1];simp only [x0w,↓reduceIte];have el:t.led=true:=by rw [S.led,hb];rfl
 refine x0a (show wpAny _ _ (if(!t.led && !es.isEmpty)=true then _ else _) _ _ _ from ?_);rw [el];simp only [x3P,x1W,x0w,↓reduceIte];refine x0h ?_;rw [a9B S.tb.rise (by omega)];refine x0h ?_;cases ex:xs[i]? with
 | none =>
   have:es[i]?=none:=x3S (by rw [S.sz];exact List.getElem?_eq_none_iff.mp ex);rw [this];rw [x0p,ex] at h;exact h
 | some y =>
   rw [x0p,ex] at h;have lt:i < t.place.size:=by rw [sp];exact(x0i.mp ex).1
   rw [S.at ex,x1j lt];have:a3R t.place (i + 1)=t.place[i] + 1:=by show t.place.getD i 0 + 1=_;rw [x1u,x1j lt];rfl
   rw [this] at h;exact h
theorem b0G {h0:Heap}(S:SetK prog w h0 a o es ep t xs)(ho:s.heap.get? a=some o)(hb:w.params.followText "set-order"=true){i:Nat}{Q:Option (Value×Nat)->Shared->Prop}
   (h:Q (((pickOrder (w.params.setOrder a ep) es).toList.map (·.2))[i]?.map fun x=>(x,0)) s):wpAny (model prog w) A (setNext a 0 i ep) Q E s:=by
 unfold setNext;refine x0a (x1v ho S.hd S.fits ?_);dsimp only;refine x0a (a6b ?_);rw [hb];simp only [↓reduceIte];rw [if_neg (by simp)];refine x0a (m:=setWalk a) ?_;unfold setWalk;refine x0a (x1v ho S.hd S.fits ?_);dsimp only;refine x0a (a6b ?_);rw [hb];simp only [↓reduceIte];refine x0a (x4p (x0h (x0h ?_)));rw [x0p,x0P,Option.map_map] at h;exact h
theorem b2g {Q:Value->Shared->Prop}(hh:A.handled=none)(S:SetK prog w s.heap a o es ep t xs)
   (hQ:∀(h':Heap) (d:_) (I:Addr) (fp:List Addr) (ys:List (List Key×Addr)) (P:Nat->Value->Prop) (St:Nat->Heap->Prop),(∀b o,s.heap.get? b=some o->h'.get? b=some o)->s.heap.objs.size<=I->I < h'.objs.size->(∀b∈fp,b=a\/s.heap.objs.size<=b)->ys.Perm xs->
     (∀i v,P i v->∃y,ys[i]?=some y/\v=.ref y.2)->Walks prog w A I fp [I] xs.length P St->St 0 h'->Q (.ref I) { s with heap:=h',drawn:=d }):wpAny (model prog w) A (pyIter (.ref a)) Q E s:=by
 have hT:s.TypeIs (.ref a) "set":=⟨o,S.ho,S.ex.1⟩;have la:a < s.heap.objs.size:=x0o S.ho;refine wpAny_pyIter_slot hT F.slot_set_iter (x1m F.slot_set_iter hT b5P ?_ (F.args_set_iter_1 _));unfold x3c.«frozenset.__iter__» Builtin.Frozenset.slot0 Builtin.Frozenset.sizeOf;refine x0a (x0a (x0h (x0h ?_)));refine x0a (x0a (x2U S.ho S.hd S.fits (x0h ?_)));unfold setDrawn;refine x0a (x0a (x1v S.ho S.hd S.fits ?_));dsimp only;refine x0a (a6b (x0h ?_));show wpAny _ _ (if(!(w.params.followText "set-order") && dr es t)=true then _ else _) _ _ _
 by_cases c:(!(w.params.followText "set-order") && dr es t)=true
 · rw [if_pos c];refine x0a (a5u es.size (x0L es.size) _ _ (by simp) fun pl d hp=>?_);have lp:pl.length=xs.length:=by rw [hp.length_eq,x2K,S.sz]
   have lt:∀p∈pl,p < es.size:=fun p h=>x0N.mp (hp.mem_iff.mp h)
   have few:xs.length<=127:=by
     have:=S.few;rcases S.tb.mask with z | z | z <;> rw [z] at this <;> omega
   refine x0a (wpAny_newTuple ?_ (by rw [x1c,x0e];omega));have g1:(s.heap.push { cls:=.type "tuple",data:=.seq (pl.map fun(i:Nat)=>rawInt i).toArray }).get? a=some o:=x0d _ S.ho;refine x0a (m:=setEpoch a) (x0a (x1v (s:={ s with drawn:=d,heap:=s.heap.push { cls:=.type "tuple",data:=.seq (pl.map fun(i:Nat)=>rawInt i).toArray } }) g1 S.hd S.fits (x0h ?_)));refine x0a (x0Z (x0h ⟨_,rfl,"set_iterator",_,⟨_,x0s _ rfl,rfl⟩,a1C.lookup,?_⟩));have sz1:(s.heap.push { cls:=.type "tuple",data:=.seq (pl.map fun(i:Nat)=>rawInt i).toArray }).objs.size=s.heap.objs.size + 1:=x1X ..;refine hQ _ d (s.heap.push { cls:=.type "tuple",data:=.seq (pl.map fun(i:Nat)=>rawInt i).toArray }).objs.size [(s.heap.push { cls:=.type "tuple",data:=.seq (pl.map fun(i:Nat)=>rawInt i).toArray }).objs.size,a,s.heap.objs.size] (pl.map fun p=>xs.getD p ([],0)) _ _ (fun b o e=>x0d _ (x0d _ e)) (by rw [sz1];exact x2P _) (Nat.lt_of_lt_of_eq (x2e _) (x1X ..).symm) (fun b hb=>?_) ?_ ?_ (lp▸a8E (es:=es) (o:=o) (t:=t) (ep:=ep) (tp:=s.heap.objs.size) (pl:=pl) hh (by rw [S.sz,lp]) (by rw [sz1];exact x0r (x1d la)) (by rw [sz1];exact x0r (x2e _)) S.hd S.fits rfl lt) ?_
   · rcases x0k.mp hb with rfl | hb
     · exact .inr (by rw [sz1];exact x2P _)
     · rcases x0k.mp hb with rfl | hb
       · exact .inl rfl
       · exact .inr (by rw [x0n.mp hb];exact x0m _)
   · exact(a5o xs pl ([],0) (by rw [<- S.sz];exact hp)).2
   · rintro i v ⟨p,x,e1,e2,rfl⟩;have lx:p < xs.length:=by rw [<- S.sz];exact lt p (x0u e1)
     refine⟨xs.getD p ([],0),by rw [x0p,e1];rfl,?_⟩;have e3:=S.at (x0c lx);rw [e3] at e2;rw [x0O,x0c lx];cases e2
     rfl
   · refine⟨⟨_,x0s _ rfl,rfl,?_⟩,x0d _ g1,⟨_,x0d _ (x0s _ rfl),rfl,0,rfl⟩⟩;show x3V _=x3V _;rw [S.sz]
     first | rfl | (rw [lp];rfl)
 · rw [if_neg c];refine x0a (x0h ?_);refine x0a (m:=setEpoch a) (x0a (x1v S.ho S.hd S.fits (x0h ?_)));refine x0a (x0Z (x0h ⟨_,rfl,"set_iterator",_,⟨_,x0s _ rfl,rfl⟩,a1C.lookup,?_⟩))
   by_cases cb:w.params.followText "set-order"=true
   · have pm:=b0p (w.params.setOrder a ep) es;have lp:((pickOrder (w.params.setOrder a ep) es).toList.map (·.2)).length=xs.length:=by rw [x0e,pm.length_eq,x0z,S.sz]
     obtain⟨ys,e1,e2⟩:∃ys:List (List Key×Addr),ys.Perm xs/\(pickOrder (w.params.setOrder a ep) es).toList.map (·.2)=ys.map fun x=>x1l x.2:=by
       rw [S.hes] at pm;obtain⟨ys,y1,y2⟩:=a7t pm;refine⟨ys,y1,?_⟩;rw [y2,x2a]
       rfl
     rw [e2] at lp;refine hQ _ s.drawn s.heap.objs.size [s.heap.objs.size,a] ys (fun i v=>(ys.map fun(x:List Key×Addr)=>x1l x.2)[i]?=some v) _ (fun b o e=>x0d _ e) (x0m _) (by rw [x1X];exact x2e _) (fun b hb=>?_) e1 ?_ (lp▸a5g (es:=es) (o:=o) (t:=t) (ep:=ep) (ys:=ys.map fun(x:List Key×Addr)=>x1l x.2) (sl:=fun _=>0) hh (by rw [S.sz,lp]) (x0r la) S.hd S.fits fun i s' A E Q' e hi q=>?_) ?_
     · rcases x0k.mp hb with rfl | hb
       · exact .inr (x0m _)
       · exact .inl (x0n.mp hb)
     · intro i v e;rw [x0p] at e;cases ex:ys[i]? with
       | none=>rw [ex] at e;cases e
       | some y=>rw [ex] at e;cases e;exact⟨y,rfl,rfl⟩
     · refine⟨⟨_,x0s _ rfl,rfl,?_⟩,x0d _ S.ho⟩;show x3V _=x3V _;rw [S.sz]
       first | rfl | (rw [lp];rfl)
     · exact b0G S e cb (by rw [e2];exact q)
   · have cb':w.params.followText "set-order"=false:=by simpa using cb
     have cd:dr es t=false:=by
       rw [cb'] at c
       simpa using c
     have lp:(xs.map fun x=>x1l x.2).length=xs.length:=x0e ..;refine hQ _ s.drawn s.heap.objs.size [s.heap.objs.size,a] xs (fun i v=>(xs.map fun(x:List Key×Addr)=>x1l x.2)[i]?=some v) _ (fun b o e=>x0d _ e) (x0m _) (by rw [x1X];exact x2e _) (fun b hb=>?_) (.refl _) ?_ (lp▸a5g (es:=es) (o:=o) (t:=t) (ep:=ep) (ys:=xs.map fun(x:List Key×Addr)=>x1l x.2) (sl:=a3R t.place) hh (by rw [S.sz,lp]) (x0r la) S.hd S.fits fun i s' A E Q' e hi q=>?_) ?_
     · rcases x0k.mp hb with rfl | hb
       · exact .inr (x0m _)
       · exact .inl (x0n.mp hb)
     · intro i v e;rw [x0p] at e;cases ex:xs[i]? with
       | none=>rw [ex] at e;cases e
       | some y=>rw [ex] at e;cases e;exact⟨y,rfl,rfl⟩
     · refine⟨⟨_,x0s _ rfl,rfl,?_⟩,x0d _ S.ho⟩;show x3V _=x3V _;rw [S.sz]
       first | rfl | (rw [lp];rfl)
     · exact a8Y S e cb' cd (by omega) q
end
end SeT
end
section
namespace SeT
open PySem PySem.W PySem.Spec PyProof.Rows L2
section
variable {prog:x0G}{w:World}{A:Around}{E:Value->Shared->Prop}{s:Shared}{a:Addr}{ep:Nat}{o:Obj}{es:Array (Int×Value)}{t:x2d}{xs:List (List Key×Addr)}
theorem b3g {r:Addr}{Q:Bool->Shared->Prop}(hT:s.TypeIs (.ref r) "set")(h:Q false s):wpAny (model prog w) A (x4I (.ref r)) Q E s:=by
 unfold x4I;refine x0a (wpAny_specialOf hT PySem.F.slot_set_len.lookup ?_);generalize hid:("set.__len__":String)=id0
 wp_delta
 rw [show splitId id0=some ("set","__len__") from by subst hid;decide +kernel];subst hid;refine x0a (wpAny_isInstance (T:="set") (b:=true) hT (by rw [x3b];kernel_rfl) ?_);refine wpAny_ite_split (fun z=>absurd z (by decide)) fun _=>?_;refine wpAny_ite_split (fun _=>x0a (x4i hT (x0h h))) fun z=>absurd (by decide +kernel) z
theorem a8M {R:Result->Shared->Prop}(S:SetK prog w s.heap a o es ep t xs)(hh:A.handled=none)(L:Addr)(ne:L≠a)(res:Value)(c₀:Nat)(hL:s.heap.get? L=some { cls:=.type "list",data:=.seq #[] c₀ })
   (hR:∀h' d tk c' (ys:List (List Key×Addr)),(∀b o,b≠L->s.heap.get? b=some o->h'.get? b=some o)->h'.get? L=some { cls:=.type "list",dict:=none,data:=.seq (ys.map fun y=>x1l y.2).toArray c',slots:=#[] }->ys.Perm xs->R (.ok (.ret res)) { s with heap:=h',drawn:=d,toks:=tk }) :
   wpAny (model prog w) A.in1 (x4J (.ref L) (.ref a) res)
     (fun fin s'=>match fin with | .done f=>R (.ok f) s' | .again c'=>c'.quiet=true/\x2x (model prog w) A c' R s') (fun e s'=>R (.error e) s') s:=by
 have hT:s.TypeIs (.ref a) "set":=⟨o,S.ho,S.ex.1⟩;have lL:L < s.heap.objs.size:=x0o hL
 have few:xs.length<=x0B:=by
   have:=S.few;rw [x1c];rcases S.tb.mask with z | z | z <;> rw [z] at this <;> omega
 unfold x4J;refine x0a (x4i (T:="set") hT ?_);have h1:Builtin.List.listSameRef (.ref L) (.ref a)=false:=by simp [Builtin.List.listSameRef,ne]
 have h2:(x1q "set" == x1q "list")=false:=by decide
 have h3:(x1q "set" == x1q "tuple")=false:=by decide
 simp only [h1,h2,h3,x3I,x0w,if_false];refine x0a (b2g (A:=A.in1) hh S fun h1 d I fp ys P St k1 hI hI2 hfp pm hP W st=>?_);have nI:L≠I:=x0r (x0x lL hI);have nf:L∉fp:=fun z=>(hfp L z).elim ne fun z=>absurd lL (Nat.not_lt.mpr z);have hL1:=k1 _ _ hL
 have key:∀(h:Heap) (c₁ tk:Nat),St 0 h->(∀b o,b≠L->s.heap.get? b=some o->h.get? b=some o)->
     h.get? L=some { cls:=.type "list",data:=.seq #[] c₁ }->x2x (model prog w) A (.builtin "list.extend.loop" ⟨[.ref L,.ref I,res],[]⟩) R { s with heap:=h,drawn:=d,toks:=tk }:=by
   intro h c₁ tk hst hk hS₁;refine codeAny_extend_loopS W.toS few L nf res xs.length 0 _ #[] c₁ rfl (x0U _) hst hS₁ (ItemsOf.nil _) fun s' acc' c' hm hS' hacc=>?_;rw [Moved.eq_with hm]
   have ea:acc'=(ys.map fun y=>x1l y.2).toArray:=by
     apply Array.toList_inj.mp
     rw [x3w]
     apply List.ext_getElem?
     intro i;rw [x0P,x0p];cases e:acc'[i]? with
     | none =>
       have:ys[i]?=none:=by
         rw [List.getElem?_eq_none_iff,pm.length_eq];have:=Array.getElem?_eq_none_iff.mp e;rw [hacc.1] at this;exact this
       rw [this];rfl
     | some v =>
       obtain⟨y,e1,rfl⟩:=hP i v (hacc.2 i v e);rw [e1];rfl
   refine hR s'.heap d s'.toks c' ys (fun b o hb e=>hm.heap b o (fun hmem=>?_) (hk b o hb e)) (by rw [<- ea];exact hS') pm;rcases x0k.mp hmem with e' | hmem
   · exact hb e'
   · exact absurd (x0o e) (by rw [x0n.mp hmem];exact Nat.not_lt.mpr hI)
 refine x0a (x0V (b3g (s:={ s with heap:=h1,drawn:=d }) ⟨o,k1 _ _ S.ho,S.ex.1⟩ ?_));refine wpAny_ite_split (fun _=>?_) (fun _=>x0h ⟨x2t PySem.F.plain_extend_loop _,key _ c₀ _ st (fun b o _ e=>k1 b o e) hL1⟩);refine x0a (x3U ?_);refine x0a (show wpAny (model prog w) _ (updateSeq L (·.push .none)>>=fun _=>updateSeq L (·.pop)) _ _ _ from ?_);refine x0a (wpAny_updateSeq hL1 rfl ?_);have hS₂:=x1Z (x0J (·.push x2Z)) hL1 rfl;refine wpAny_updateSeq (hz:=by seq_fits) hS₂ rfl ?_;have hS₃:=x1Z (x0J (·.pop)) hS₂ rfl;refine x0h ⟨x2t PySem.F.plain_extend_loop _,key _ _ _ ?_ (fun b o hb e=>?_) hS₃⟩
 · refine W.frame 0 _ _ st fun b hb o e=>?_;have hbS:b≠L:=fun h=>nf (h▸hb);exact(x1R _ _ (Ne.symm hbS)).trans ((x1R _ _ (Ne.symm hbS)).trans e)
 · exact(x1R _ _ (Ne.symm hb)).trans ((x1R _ _ (Ne.symm hb)).trans (k1 b o e))
theorem a7m {R:List Value->Shared->Prop}(S:SetK prog w s.heap a o es ep t xs)(hh:A.handled=none)
   (h:∀(h':Heap) (d:_) (tk:Nat) (ys:List (List Key×Addr)),(∀b o,s.heap.get? b=some o->h'.get? b=some o)->s.heap.objs.size<=h'.objs.size->ys.Perm xs->R (ys.map fun y=>x1l y.2) { s with heap:=h',drawn:=d,toks:=tk }) :
   wpAny (model prog w) A (collect (.ref a)) R E s:=by
 unfold collect;refine x0a (wpAny_runValue (x1O entry_proto_collect' ?_));rw [x1B PySem.F.plain_proto_collect _];refine(show wpAny (model prog w) A.in1 (newList []>>=fun l=>again (.builtin "list.__iadd__" ⟨[l,.ref a],[]⟩)) _ _ s from ?_);refine x0a (x0Z (x0h ⟨x2t PySem.F.plain_list_iadd _,x1O entry_list_iadd' ?_⟩));rw [x1B PySem.F.plain_list_iadd _];have hS:(s.heap.push { cls:=.type "list",data:=.seq ([]:List Value).toArray }).get? s.heap.objs.size=some { cls:=.type "list",data:=.seq #[] }:=x0s _ rfl;have S1:SetK prog w (s.heap.push { cls:=.type "list",data:=.seq ([]:List Value).toArray }) a o es ep t xs:=S.at' (x0d _ S.ho) fun x hx o e=>x0d _ e
 have key:=a8M (A:=A) (s:={ s with heap:=s.heap.push { cls:=.type "list",data:=.seq ([]:List Value).toArray } })
   (R:=fun(q:Result) (s':Shared)=>∃(h':Heap) (d:_) (tk:Nat) (ys:List (List Key×Addr)) (c:Nat),q=.ok (.ret (.ref s.heap.objs.size))/\s'={ s with heap:=h',drawn:=d,toks:=tk }/\
     (∀b o,s.heap.get? b=some o->h'.get? b=some o)/\h'.get? s.heap.objs.size=some { cls:=.type "list",dict:=none,data:=.seq (ys.map fun y=>x1l y.2).toArray c,slots:=#[] }/\ys.Perm xs)
   S1 hh s.heap.objs.size (x3x (x0o S.ho)) (.ref s.heap.objs.size) 0 hS
   (fun h' d tk c ys hk hS' hp=>⟨h',d,tk,ys,c,rfl,rfl,fun b o e=>hk b o (x0r (x0o e)) (x0d _ e),hS',hp⟩)
 refine x1g key (fun fin s' x=>?_) fun e s' x=>?_
 · cases fin with
   | done f =>
     obtain⟨h',d,tk,ys,c,e,rfl,hk,hS',hp⟩:=x;cases e;refine x0a (wpAny_load hS' (x0h ?_));have:=h h' d tk ys hk (x2r (x0o hS')) hp
     simpa using this
   | again c₁ =>
     refine⟨x.1,x3y x.2 fun q s₂ y=>?_⟩;obtain⟨h',d,tk,ys,c,rfl,rfl,hk,hS',hp⟩:=y;refine x0a (wpAny_load hS' (x0h ?_));have:=h h' d tk ys hk (x2r (x0o hS')) hp
     simpa using this
 · obtain⟨_,_,_,_,_,e',_⟩:=x;cases e'
end
end SeT
end
section
namespace SeT
open PySem PySem.W PySem.Spec PyProof.Rows L2
noncomputable abbrev rfs (ys:List (List Key×Addr)):List Value:=ys.map fun y=>x1l y.2
noncomputable abbrev kks (ys:List (List Key×Addr)):List (List Key):=ys.map (·.1)
section
variable {prog:x0G}{w:World}{A:Around}{E:Value->Shared->Prop}{s:Shared}{a:Addr}{ep:Nat}{o:Obj}{es:Array (Int×Value)}{t:x2d}{xs:List (List Key×Addr)}
theorem a8K {Q:Value->Shared->Prop}(S:SetK prog w s.heap a o es ep t xs)(hh:A.handled=none)(h64:xs.length < 64)(pk:∀x∈xs,TupK s.heap (.ref x.2) x.1/\x.1≠[])(al:a7c (kks xs))
   (h:∀ys h2 d tk D e,List.Perm ys xs->(∀b o,s.heap.get? b=some o->h2.get? b=some o)->s.heap.objs.size<=D->h2.get? D=some (seqObj "list" (a3o (ltIx (kks ys)) (rfs ys)).toArray e)->Q (.ref D) { s with heap:=h2,drawn:=d,toks:=tk }) :
   wpAny (model prog w) A (call (.builtin "sorted") [.ref a]) Q E s:=by
 refine Calls.call_function_entry kind_sorted plain_sorted entry_sorted (args_sorted1 _) ?_;unfold x3c.«sorted»;refine x0a (m:=checkCount "sorted" 1 1 _) (x0h ?_);refine x0a (a7m (A:=A.in1) S hh fun h1 d tk ys k1 z1 pm=>?_);have hlen:(rfs ys).length=xs.length:=by rw [x0e,pm.length_eq]
 refine x0a (x4A ?_ (by rw [x1c,x0e,pm.length_eq];omega));have hoL:(h1.push (seqObj "list" (rfs ys).toArray 0)).get? h1.objs.size=some (seqObj "list" (rfs ys).toArray 0):=x0s _ rfl;have kL:∀b o,s.heap.get? b=some o->(h1.push (seqObj "list" (rfs ys).toArray 0)).get? b=some o:=fun b o e=>x0d _ (k1 b o e);have ne:∀b o,s.heap.get? b=some o->b≠h1.objs.size:=fun b o e=>x0r (x0x (x0o e) z1)
 have pk1:Paired (Kv1 s.heap 2) (rfs ys) (kks ys):=by
   have hy:∀y∈ys,TupK s.heap (.ref y.2) y.1/\y.1≠[]:=fun y hy=>pk y (pm.mem_iff.mp hy);clear hlen hoL kL pm
   induction ys with
   | nil=>exact .nil
   | cons y ys ih=>exact .cons (hy y x0g) (ih fun z hz=>hy z (x0f _ hz))
 have al1:a7c (kks ys):=fun x hx y hy=>al x ((pm.map (·.1)).mem_iff.mp hx) y ((pm.map (·.1)).mem_iff.mp hy);refine x0a (x0V (x1m slot_list_sort ⟨_,hoL,rfl⟩ entry_list_sort ?body (args_list_sort _)))
 case body=>
   refine a5i (lt:=ltIx (kks ys)) (s:={ s with heap:=h1.push (seqObj "list" (rfs ys).toArray 0),drawn:=d,toks:=tk }) hoL (by omega) (fun l2 h3 k3=>?_) fun h3 e k3 e3=>?_
   · exact a6m (s:={ s with drawn:=d }) l2 pk1 al1 _ _ h3 tk fun b o x=>k3 b o (ne b o x) (kL b o x)
   · exact⟨_,rfl,x0h ⟨_,rfl,h ys h3 d tk _ e pm (fun b o x=>k3 b o (ne b o x) (kL b o x)) z1 e3⟩⟩
end
theorem items_are {prog:x0G}{w:World}:∀{ks:List Key} {vs:List Value},a7a ks vs->ItemsAre (a0F prog w) ks vs:=by
 intro ks vs h
 induction h with
 | nil=>exact .nil
 | @cons k v ks vs h1 _ ih =>
   refine .cons ?_ ih
   match k,h1 with
   | .inl i,⟨t,e⟩=>subst e;exact a4E _ _ _ _
   | .inr z,⟨t,e⟩=>subst e;exact a2n _ _ _ _
theorem is_of {prog:x0G}{w:World}{h:Heap}{r:Addr}{k:List Key}(x:TupK h (.ref r) k):(TK prog w).is h k r:=by
 obtain⟨a,o,items,n,e,ho,hc,hd,hk⟩:=x;cases e;exact⟨o,items,n,ho,hc,hd,items_are hk⟩
section
variable {X:Cx}
noncomputable def SetO (X:Cx)(p:Addr)(rs:List (List Key×Addr)):HO:=.ext fun h=>∃h0 o es ep t xs,SetK X.prog X.w h0 p o es ep t xs/\h.get? p=some o/\(∀x∈xs,x∈rs)/\∀x∈rs,x.1∈kks xs
theorem b2K {K:x0b}{H:Hp}{ys:List V}{kss:List (List Key)}(p:Paired (KM K H 2) ys kss):∃rs:List (List Key×Addr),kks rs=kss/\(rs.map fun y=>V.ref y.2)=ys/\∀y∈rs,SqT K H y.2 (y.1.map kV)/\y.1≠[]:=by
 induction p with
 | nil=>exact⟨[],rfl,rfl,fun _ z=>nomatch z⟩
 | cons h1 _ ih =>
   obtain⟨rs,e1,e2,e3⟩:=ih;obtain⟨a,rfl,hq,hne⟩:=h1;refine⟨(_,a)::rs,by rw [<- e1];rfl,by rw [<- e2];rfl,fun y hy=>?_⟩;rcases x0k.mp hy with rfl | hy
   · exact⟨hq,hne⟩
   · exact e3 y hy
theorem a6f:∀(rs:List (List Key×Addr)) {its:List Value},Vals (rs.map fun y=>V.ref y.2) its->its=rfs rs:=by
 intro xq
 induction xq with
 | nil =>
   intro _ h;cases h;rfl
 | cons y rs ih =>
   intro _ h;cases h with
   | cons h1 h2=>rw [ih h2,show _=x1l y.2 from h1];rfl
theorem b1I (hc:X.calm=true)(hu:X.A.units + 64 < cLine):a1z X (.type "set") (fun vs H Q=>∃a ys kss,vs=[.ref a]/\(SqL X.K H a ys\/SqT X.K H a ys)/\Paired (KM X.K H 2) ys kss/\ys.length<=63/\
   ∀p rs,H p=none->kks rs=kss->(rs.map fun y=>V.ref y.2)=ys->(∀y∈rs,SqT X.K H y.2 (y.1.map kV)/\y.1≠[])->Q (.ref p) (upd H p (SetO X p rs))):=by
 intro pins s σ H vs us Q I rv h;obtain⟨a,ys,kss,rfl,hq,hp,hl,q⟩:=h;obtain⟨u,rfl,ru⟩:=rv.one;obtain rfl:u=.ref a:=ru;obtain⟨rs,e1,rfl,e3⟩:=b2K hp;have hk:∀y∈rs,(TK X.prog X.w).is s.heap y.1 y.2:=fun y hy=>is_of (a7i I (e3 y hy).1);rw [x0e] at hl
 have fin:∀(h':Heap) (tk:Nat),Holds X.prog X.w h' s.heap.objs.size rs->(∀b o,b < s.heap.objs.size->s.heap.get? b=some o->h'.get? b=some o)->EP X pins σ Q (.ref s.heap.objs.size) { s with heap:=h',toks:=tk }:=fun h' tk so kp=>by
   obtain⟨o,es,ep,t,xs,S1,S2,S3⟩:=so
   have I1:Inv X pins σ (upd H s.heap.objs.size (SetO X s.heap.objs.size rs)) { s with heap:=h',toks:=tk }:=
     I.laid (fun b o e=>kp b o (x0o e) e) (x0m _) ⟨⟨h',o,es,ep,t,xs,S1,S1.ho,S2,S3⟩,⟨o,S1.ho⟩,fun h1 h2 x k2=>by
       obtain⟨h0,o,es,ep,t,xs,S1,g,S2,S3⟩:=x
       exact⟨h0,o,es,ep,t,xs,S1,k2 o g,S2,S3⟩⟩
   exact⟨.ref s.heap.objs.size,_,I1,rfl,q _ rs (I.hok.fresh (x0m _)) e1 rfl e3⟩
 rcases hq with hq | hq
 · obtain⟨its,r,pl,_⟩:=I.list hq;refine a5a (rs:=rs) (I.ok.hd hc) hu (.inl pl.isList) ?_ hk hl fin;rw [x3w];exact a6f rs r
 · obtain⟨its,r,ht,_⟩:=I.tuple hq;refine a5a (rs:=rs) (I.ok.hd hc) hu (.inr ht) ?_ hk hl fin;rw [x3w];exact a6f rs r
theorem inv_dr {pins:List (Addr×Obj)}{σ:L2.St}{H:Hp}{s:Shared}(I:Inv X pins σ H s)(d:_):Inv X pins σ H { s with drawn:=d }:=⟨I.ok,I.os,I.bare,I.base,I.loc,I.cell,I.free,I.freeC,I.pin,I.hok,I.len⟩
theorem a6O (hc:X.calm=true):a1z X (.builtin "sorted") (fun vs H Q=>∃p rs,vs=[.ref p]/\H p=some (SetO X p rs)/\rs.length < 64/\(∀y∈rs,SqT X.K H y.2 (y.1.map kV)/\y.1≠[])/\a7c (kks rs)/\
   ∀l zs,H l=none->(kks zs).Nodup->(∀z∈zs,z∈rs)->(∀y∈rs,y.1∈kks zs)->Q (.ref l) (upd H l (.lst (outV (ltIx (kks zs)) (zs.map fun z=>V.ref z.2))))):=by
 intro pins s σ H vs us Q I rv h;obtain⟨p,rs,rfl,e,h64,hk,al,q⟩:=h;obtain⟨u,rfl,ru⟩:=rv.one;obtain rfl:u=.ref p:=ru;obtain⟨⟨h0,o,es,ep,t,xs,S0,g,S2,S3⟩,_,_⟩:=I.hok p _ e;have tk:∀x∈xs,TupK s.heap (.ref x.2) x.1:=fun x hx=>a7i I (hk x (S2 x hx)).1;have S:SetK X.prog X.w s.heap p o es ep t xs:=⟨g,S0.ex,S0.hd,S0.hes,(fun x hx=>is_of (tk x hx)),S0.nd,S0.tb,S0.few,S0.led⟩;have lx:xs.length < 64:=x3K (Holds.len S S2) h64;refine a8K S (I.ok.hd hc) lx (fun x hx=>⟨tk x hx,(hk x (S2 x hx)).2⟩) (fun x hx y hy=>?_) fun ys h2 d t2 D e pm k hD ho=>?_
 · obtain⟨x',hx',rfl⟩:=x0F.mp hx;obtain⟨y',hy',rfl⟩:=x0F.mp hy;exact al _ (x0F.mpr ⟨x',S2 x' hx',rfl⟩) _ (x0F.mpr ⟨y',S2 y' hy',rfl⟩)
 · have vv:Vals (ys.map fun y=>V.ref y.2) (rfs ys):=by
     clear pm ho
     induction ys with
     | nil=>exact .nil
     | cons y ys ih=>exact .cons rfl ih
   have O:=a5O (kks ys);have vo:=a7Q vv O;have ly:ys.length=xs.length:=pm.length_eq
   have hlo:(outV (ltIx (kks ys)) (ys.map fun y=>V.ref y.2)).length<=x0B:=by
     rw [x1c];unfold outV
     split
     · rw [x0e];omega
     · rw [x0e,x0z,(Kr.sort_ok O (by rename_i c;rw [x0e] at c ⊢;omega)).2.1,x0e];omega
   have I1:=inv_dr (I.laid (t':=t2) k hD (show a1n X.prog X.w _ h2 _ (.lst _) from⟨hlo,_,e,vo,ho⟩)) d;exact⟨.ref D,_,I1,rfl,q _ ys (I.hok.fresh hD) ((pm.map (·.1)).nodup_iff.mpr S.nd) (fun z hz=>S2 z (pm.mem_iff.mp hz)) fun y hy=>(pm.map (·.1)).mem_iff.mpr (S3 y hy)⟩
end
end SeT
end
section
namespace SeT
open PySem PySem.W PySem.Spec PyProof.Rows L2
section
variable {X:Cx}
noncomputable def tMo (t:TE):TE:=fun σ H Q=>∃Q',t σ H Q'/\∀v H',Q' v H'->Q v H'
theorem pe_mo {e:Expr}{t:TE}(h:PE X e t):PE X e (tMo t):=by
 intro pins s σ H Q I ⟨Q',h1,h2⟩;exact x1g (h pins s σ H Q' I h1) (fun u s' ⟨v,H',I',r,q⟩=>⟨v,H',I',r,h2 _ _ q⟩) fun _ _ e=>e
noncomputable def a8I (K:x0b)(t:TE):TE:=fun σ H Q=>∃Q',t σ H Q'/\∀x H1,Q' x H1->∃a ys kss,x=.ref a/\(SqL K H1 a ys\/SqT K H1 a ys)/\Paired (KM K H1 2) ys kss/\ys.length<=63/\a7c kss/\
 ∀H2 l rs zs,Same H1 H2->H2 l=none->kks rs=kss->(rs.map fun y=>V.ref y.2)=ys->(kks zs).Nodup->(∀z∈zs,z∈rs)->(∀y∈rs,y.1∈kks zs)->Q (.ref l) (upd H2 l (.lst (outV (ltIx (kks zs)) (zs.map fun z=>V.ref z.2))))
theorem b2b {K:x0b}{H H':Hp}{a:Addr}{xs:List V}(h:SqT K H a xs)(s:Same H H'):SqT K H' a xs:=by
 rcases h with h | h
 · left;rcases h with h | ⟨o,h⟩
   · exact .inl (s _ _ h)
   · exact .inr ⟨o,s _ _ h⟩
 · exact .inr h
theorem a6s {e:Expr}{t:TE}{k:Nat}{p1 p2 pos pos2:Pos}(hc:X.calm=true)(hr:Room k X.A)(g1:Gl X "sorted")(m1:X.mg "sorted"=none)(g2:Gl X "set")(m2:X.mg "set"=none)(he:PE X e t)(hs:x1h [e] X.env=(false,eval e X.env)::x1h [] X.env) :
   PE X (.Call (.Name "sorted" p1) [.Call (.Name "set" p2) [e] [] pos2] [] pos) (a8I X.K t):=by
 have i1:=a2a (p:=p2) (pos:=pos2) (b1I hc hr.units) g2 m2 b1N (a0o (pe_mo he) a0E hs) (by decide) (by decide) hs rfl;have i2:=a1s (p:=p1) (pos:=pos) (a6O hc) g1 m1 a5b (a0o i1 a0E rfl) (by decide) (by decide) rfl rfl;intro pins s σ H Q I ⟨Q',h1,h2⟩;refine i2 pins s σ H Q I ⟨Q',h1,fun x H1 hx=>?_⟩;obtain⟨a,ys,kss,rfl,hq,hp,hl,al,q⟩:=h2 x H1 hx;refine⟨a,ys,kss,rfl,hq,hp,hl,fun p rs hn ek eu hk=>?_⟩;have sm:Same H1 (upd H1 p (SetO X p rs)):=(Same.refl _).lay hn;refine⟨p,rs,rfl,a0l,?_,fun y hy=>⟨b2b (hk y hy).1 sm,(hk y hy).2⟩,by rw [ek];exact al,fun l zs hl nd z1 z2=>q _ l rs zs sm hl ek eu nd z1 z2⟩;have:rs.length=ys.length:=by rw [<- eu,x0e]
 omega
end
end SeT
namespace Pu
open PySem PySem.Spec L2
noncomputable def a9E (xs:List PV):Prop:=(∀x∈xs,∃ks,x=.tup (ks.map kP)/\ks≠[])/\∀x∈xs,∀y∈xs,Al (keyP x) (keyP y)
noncomputable def SrtS (ys xs:List PV):Prop:=ys.Nodup/\(∀y,y∈ys↔y∈xs)/\ys.Pairwise fun a b=>lexK (keyP b) (keyP a)=false
noncomputable def wSet (R:List PV->Prop)(xs:List PV):Prop:=xs.length<=63/\a9E xs/\∀ys,SrtS ys xs->R ys
noncomputable def a1B (pe:pE):pA:=fun env n R=>pe env n fun x env1 n1=>match x with | .lst xs=>wSet (fun ys=>R ys env1 n1) xs | .tup xs=>wSet (fun ys=>R ys env1 n1) xs | _=>False
noncomputable abbrev zP (z:List Key×Addr):PV:=.tup (z.1.map kP)
theorem keyP_z (z:List Key×Addr):keyP (zP z)=z.1:=a1k z.1
theorem zP_inj {ks js:List Key}(h:(PV.tup (ks.map kP))=.tup (js.map kP)):ks=js:=by rw [<- a1k ks,h,a1k]
section
variable {T:PotK}{ι:Type}{K:x0b}{F:ι->Cx}{e:Expr}{pe:pE}{pos:Pos}
theorem a5k {G:Gh}{H:Hp}:∀{xs:List PV} {rs:List (List Key×Addr)},Reps K G H xs (rs.map fun y=>V.ref y.2)->SeT.kks rs=xs.map keyP->(∀x∈xs,∃ks,x=.tup (ks.map kP)/\ks≠[])->xs=rs.map zP/\∀z∈rs,Rep K G H (zP z) (.ref z.2)
 | [],[],_,_,_=>⟨rfl,fun _ z=>nomatch z⟩
 | [],_::_,h,_,_=>by cases h
 | x :: xs, [], h, _, _ => by
   obtain⟨_,_,e,_⟩:=h;cases e
 | x :: xs, r :: rs, h, hk, hx => by
   obtain⟨v,t,e,h1,h2⟩:=h;rw [x0v] at e;injection e with e1 e2;subst e1;subst e2;have hk':r.1::SeT.kks rs=keyP x::xs.map keyP:=hk;injection hk' with k1 k2;obtain⟨a1,a2⟩:=a5k h2 k2 fun y hy=>hx y (x0f _ hy);obtain⟨ks,rfl,_⟩:=hx x x0g;rw [a1k] at k1;have ez:zP r=.tup (ks.map kP):=by show PV.tup (r.1.map kP)=_;rw [k1]
   refine⟨by rw [x0v,ez,<- a1],fun z hz=>?_⟩;rcases x0k.mp hz with rfl | hz
   · rw [ez];exact h1
   · exact a2 z hz
theorem b4I {G:Gh}{H:Hp}:∀(zs:List (List Key×Addr)),(∀z∈zs,Rep K G H (zP z) (.ref z.2))->Reps K G H (zs.map zP) (zs.map fun z=>V.ref z.2):=by
 intro xq
 induction xq with
 | nil =>
   intro _;exact rfl
 | cons z zs ih =>
   intro h;exact⟨_,_,rfl,h z x0g,ih fun y hy=>h y (x0f _ hy)⟩
theorem SrtS.of {xs:List PV}{zs:List (List Key×Addr)}{rs:List (List Key×Addr)}(e:xs=rs.map zP)(nd:(SeT.kks zs).Nodup)(h1:∀z∈zs,z∈rs)(h2:∀y∈rs,y.1∈SeT.kks zs):SrtS (outP (zs.map zP)) xs:=by
 obtain⟨p,pw⟩:=b0x (zs.map zP);refine⟨p.nodup_iff.mpr ?_,fun y=>?_,pw⟩
 · rw [x1Q,x1L];have:zs.Pairwise fun a b=>a.1≠b.1:=x1L.mp nd;exact this.imp fun hab h=>hab (zP_inj h)
 · rw [p.mem_iff,e,x0F,x0F];constructor
   · rintro⟨z,hz,rfl⟩;exact⟨z,h1 z hz,rfl⟩
   · rintro⟨z,hz,rfl⟩;obtain⟨z',hz',ez⟩:=x0F.mp (h2 z hz);exact⟨z',hz',by show PV.tup (z'.1.map kP)=PV.tup (z.1.map kP);rw [ez]⟩
theorem a3T {k:Nat}{p p2 pos2:Pos}(hc:∀z,(F z).calm=true)(hr:∀z,Room k (F z).A)(hg:∀z,Gl (F z) "sorted")(hm:∀z,(F z).mg "sorted"=none)(hg2:∀z,Gl (F z) "set")(hm2:∀z,(F z).mg "set"=none)(ha:QR T K F e pe)(hs:a0v e=true:=by rfl)(hK:∀z,(F z).K=K:=by intro _;rfl) :
   QN T K F (.Call (.Name "sorted" p) [.Call (.Name "set" p2) [e] [] pos2] [] pos) (a1B pe):=by
 obtain⟨t,h1,h2⟩:=ha;refine⟨_,fun z=>hK z▸SeT.a6s (hc z) (hr z) (hg z) (hm z) (hg2 z) (hm2 z) (h1 z) (a0e hs),fun C G σ H env n R Q hK hT S hp k=>?_⟩;refine⟨fun v H1=>∃x env1 n1,(match x with | PV.lst xs=>wSet (fun ys=>R ys env1 n1) xs | .tup xs=>wSet (fun ys=>R ys env1 n1) xs | _=>False)/\SR C G σ H1 env1 n1/\RdS C G σ H1 env1 x v/\Fr G H H1,h2 C G σ H env n _ _ hK hT S hp fun x env1 n1 v H1 p1 S1 r1 f1=>⟨x,env1,n1,p1,S1,r1,f1⟩,fun v H1 ⟨x,env1,n1,p1,S1,r1,f1⟩=>?_⟩;have rd:RdV K G H1 x v:=hK▸r1.rd S1
 have main:∀(xs:List PV) (a:Addr) (us:List V),wSet (fun ys=>R ys env1 n1) xs->(SqL K H1 a us\/SqT K H1 a us)->Reps K G H1 xs us->∃a' ys kss,V.ref a=.ref a'/\(SqL K H1 a' ys\/SqT K H1 a' ys)/\Paired (KM K H1 2) ys kss/\ys.length<=63/\a7c kss/\
     ∀H2 l rs zs,Same H1 H2->H2 l=none->SeT.kks rs=kss->(rs.map fun y=>V.ref y.2)=ys->(SeT.kks zs).Nodup->(∀z∈zs,z∈rs)->(∀y∈rs,y.1∈SeT.kks zs)->Q (.ref l) (upd H2 l (.lst (outV (ltIx (SeT.kks zs)) (zs.map fun z=>V.ref z.2)))):=by
   intro xs a us ⟨h63,ok,q⟩ hq r;obtain⟨m,pk,al⟩:=km_of r (.inr (.inr ok))
   have pk2:Paired (KM K H1 2) us (xs.map keyP):=Paired.imp' (fun v ks ⟨_,_,hp⟩=>hp) (a2g (P:=fun _ v ks=>KM K H1 2 v ks) xs r fun x hx v hv=>by
     obtain⟨ks,rfl,hne⟩:=ok.1 x hx;obtain⟨a,vs,rfl,at',rr⟩:=hv;rw [a1k];refine⟨a,rfl,?_,hne⟩;rw [a3h ks rr] at at'
     exact SqT.of at'.2)
   refine⟨a,us,xs.map keyP,rfl,hq,pk2,by rw [<- r.length];exact h63,al,fun H2 l rs zs sm hl ek eu nd z1 z2=>?_⟩;subst eu;obtain⟨ex,rz⟩:=a5k r ek ok.1;have rr:Reps K G H2 (zs.map zP) (zs.map fun z=>V.ref z.2):=(b4I zs fun z hz=>rz z (z1 z hz)).same sm;have ro:=a8b rr;have ekz:(zs.map zP).map keyP=SeT.kks zs:=by rw [x2a];exact List.map_congr_left fun z _=>keyP_z z
   rw [ekz] at ro;exact k _ _ _ _ _ _ (q _ (SrtS.of ex nd z1 z2)) (S1.same sm) (f1.trans (Fr.of sm)) hl ro
 cases x with
 | lst xs =>
   obtain⟨a,us,rfl,hq,r⟩:=rd.lst;exact main xs a us p1 (.inl hq) r
 | tup xs =>
   obtain⟨a,us,rfl,hq,r⟩:=rd.tup;exact main xs a us p1 (.inr hq) r
 | _=>exact p1.elim
end
end Pu
end
section
namespace L2
open PySem PySem.Spec PyProof.Rows
section
variable {X:Cx}
theorem a9A (hc:X.calm=true):a1z X (.type "set") (fun vs H Q=>∃(a:Addr) (ys:List Str),vs=[.ref a]/\SqL X.K H a (ys.map V.str)/\ys.length<=1000/\∀p,H p=none->Q (.ref p) (upd H p (SetX X p (fun q=>(met (a1V ys) ys.length).any (fun y=>decide (y=q))) (met (a1V ys) ys.length).length))):=by
 intro pins s σ H vs us Q I rv h;obtain⟨a,ys,rfl,hq,hl,k⟩:=h;obtain⟨u,rfl,ru⟩:=rv.one;obtain rfl:u=.ref a:=ru;obtain⟨its,r,ht,_⟩:=I.list hq;have sz:its.toArray.size=ys.length:=by have:=r.length;rw [x0e] at this;simpa using this.symm
 refine a5v (val:=a1V ys) (I.ok.hd hc) (.inl ht.isList) (fun i v e=>?_) (by rw [sz];unfold scanBound;omega) fun h' tk so kp=>?_
 · obtain⟨t,rfl⟩:=a7V r (by simpa using e);exact⟨a2n _ _ _ _,rfl⟩
 · rw [sz] at so
   have I1:Inv X pins σ (upd H s.heap.objs.size (SetX X s.heap.objs.size (fun q=>(met (a1V ys) ys.length).any (fun y=>decide (y=q))) (met (a1V ys) ys.length).length)) { s with heap:=h',toks:=tk }:=
     I.laid (fun b o e=>kp b o (x0o e) e) (x0m _) ⟨so,by obtain⟨o,_,_,_,e,_⟩:=so;exact⟨o,e⟩,fun h1 h2 x k2=>by
       obtain⟨o,es,ep,t,e,more⟩:=x
       exact⟨o,es,ep,t,k2 o e,more⟩⟩
   exact⟨.ref s.heap.objs.size,_,I1,rfl,k _ (I.hok.fresh (x0m _))⟩
noncomputable def b1Y (K:x0b)(t:TE):TE:=fun σ H Q=>∃Q',t σ H Q'/\∀x H1,Q' x H1->∃(a:Addr) (ys:List Str),x=.ref a/\SqL K H1 a (ys.map V.str)/\ys.length<=1000/\∀H2,Same H1 H2->Q (.int (met (a1V ys) ys.length).length) H2
theorem a8U {e:Expr}{t:TE}{p1 p2 pos pos2:Pos}(hc:X.calm=true)(g1:Gl X "len")(m1:X.mg "len"=none)(g2:Gl X "set")(m2:X.mg "set"=none)(he:PE X e t)(hs:x1h [e] X.env=(false,eval e X.env)::x1h [] X.env) :
   PE X (.Call (.Name "len" p1) [.Call (.Name "set" p2) [e] [] pos2] [] pos) (b1Y X.K t):=by
 have i1:=a2a (p:=p2) (pos:=pos2) (a9A hc) g2 m2 b1N (a0o (SeT.pe_mo he) a0E hs) (by decide) (by decide) hs rfl;have i2:=a1s (p:=p1) (pos:=pos) a6S g1 m1 a8B (a0o i1 a0E rfl) (by decide) (by decide) rfl rfl;intro pins s σ H Q I ⟨Q',h1,h2⟩;refine i2 pins s σ H Q I ⟨Q',h1,fun x H1 hx=>?_⟩;obtain⟨a,ys,rfl,hq,hl,k⟩:=h2 x H1 hx;exact⟨a,ys,rfl,hq,hl,fun p hn=>⟨p,_,_,rfl,a0l,k _ ((Same.refl _).lay hn)⟩⟩
end
end L2
namespace Pu
open PySem PySem.Spec L2
section
variable {T:PotK}{ι:Type}{K:x0b}{F:ι->Cx}{pos:Pos}{e:Expr}{pe:pE}
noncomputable def a3a:w1:=fun x R=>match x with | .lst xs=>(match a2d xs with | some ys=>ys.length<=1000/\R (.int (met (a1V ys) ys.length).length) | none=>False) | _=>False
theorem a8Q {p1 p2 pos2:Pos}(hc:∀z,(F z).calm=true)(g1:∀z,Gl (F z) "len")(m1:∀z,(F z).mg "len"=none)(g2:∀z,Gl (F z) "set")(m2:∀z,(F z).mg "set"=none)(he:QE T K F e pe)(hs:a0v e=true:=by rfl)(hK:∀z,(F z).K=K:=by intro _;rfl) :
   QE T K F (.Call (.Name "len" p1) [.Call (.Name "set" p2) [e] [] pos2] [] pos) (qUn a3a pe):=by
 obtain⟨t,h1,h2⟩:=he;refine⟨_,fun z=>hK z▸a8U (hc z) (g1 z) (m1 z) (g2 z) (m2 z) (h1 z) (a0e hs),fun C G σ H env n R Q hK hT S hp k=>?_⟩;refine⟨_,h2 C G σ H env n _ (fun v H'=>∃x env' n',a3a x (fun r=>R r env' n')/\SR C G σ H' env' n'/\Rep K G H' x v/\Fr G H H') hK hT S hp (fun x env' n' v H' r S' rv f=>⟨x,env',n',r,S',rv,f⟩),fun v H1 hx=>?_⟩;obtain⟨x,env1,n1,r,S1,rv,f1⟩:=hx;unfold a3a at r
 split at r
 · rename_i xs
   split at r
   · rename_i ys ey;obtain⟨a,vs,rfl,t,rs⟩:=rv;exact⟨a,ys,rfl,a1W ey rs▸t.sq,r.1,fun H2 s2=>k _ _ _ _ _ r.2 (S1.same s2) rfl (f1.trans (Fr.of s2))⟩
   · exact r.elim
 · exact r.elim
end
end Pu
end
section
namespace L2
open PySem PySem.Spec PyProof.Rows
section
variable {X:Cx}{a b:Expr}{rest:List Expr}{ta tb:TE}{pos:Pos}
theorem pe_orT (ha:PE X a ta)(hb:PE X (.BoolOp .Or (b::rest) pos) tb):PE X (.BoolOp .Or (a::b::rest) pos) (fun σ H Q=>ta σ H fun x H1=>∃k,TruV X.K x H1 k/\if k=true then Q x H1 else tb σ H1 Q):=by
 intro pins s σ H Q I h;refine BoolOp_or (thn (ha pins s σ H _ I h) fun v s1 ⟨x,H1,I1,r1,q1⟩=>?_);refine thn (b3C pins s1 σ H1 x v (fun k H=>if k=true then Q x H else tb σ H Q) I1 r1 q1) fun c s2 ⟨H2,I2,q2⟩=>?_;cases c with
 | false=>exact hb pins s2 σ H2 Q I2 q2
 | true=>exact⟨x,H2,I2,r1,q2⟩
end
end L2
namespace Pu
open PySem PySem.Spec L2
section
variable {T:PotK}{ι:Type}{K:x0b}{F:ι->Cx}{a b:Expr}{rest:List Expr}{pa pb:pE}{pos:Pos}
noncomputable def qOrT (pa pb:pE):pE:=fun env n R=>pa env n fun x env1 n1=>match a7R x with | some b=>if b=true then R x env1 n1 else pb env1 n1 R | none=>False
theorem qe_orT (ha:QE T K F a pa)(hb:QE T K F (.BoolOp .Or (b::rest) pos) pb)(hK:∀z,(F z).K=K:=by intro _;rfl):QE T K F (.BoolOp .Or (a::b::rest) pos) (qOrT pa pb):=by
 obtain⟨t,a1,a2⟩:=ha;obtain⟨u,b1,b2⟩:=hb;refine⟨_,fun z=>hK z▸pe_orT (a1 z) (b1 z),fun C G σ H env n R Q hK hT S hp k=>?_⟩;refine a2 C G σ H env n _ _ hK hT S hp fun x env1 n1 v H1 q1 S1 r1 f1=>?_
 split at q1
 · rename_i c ec;refine⟨c,b3D ec (.inl r1),?_⟩;cases c with
   | true =>
     rw [if_pos rfl] at q1 ⊢;exact k _ _ _ _ _ q1 S1 r1 f1
   | false =>
     rw [if_neg x0R] at q1 ⊢;exact b2 C G σ H1 env1 n1 _ _ hK hT S1 q1 fun y env2 n2 w H2 q2 S2 r2 f2=>k _ _ _ _ _ q2 S2 r2 (f1.trans f2)
 · exact q1.elim
end
end Pu
end
section
namespace Pu
open PySem PySem.Spec L2
noncomputable def btwU (st:List Str)(x y:Str):List Str:=(st.take (max (ixS st x) (ixS st y))).drop (min (ixS st x) (ixS st y) + 1)
theorem b1M {st:List Str}{x y:Str}(hx:x∈st)(hy:y∈st)(h:ixS st y < ixS st x):(btwU st x y).length=ixS st x - ixS st y - 1:=by
 have:=a6I hx;unfold btwU;rw [x1y,x1e];omega
theorem a2o {st:List Str}(nd:st.Nodup){x y z:Str}(hx:x∈st)(hy:y∈st):z∈btwU st x y↔z∈st/\min (ixS st x) (ixS st y) < ixS st z/\ixS st z < max (ixS st x) (ixS st y):=by
 unfold btwU;constructor
 · intro h;obtain⟨q,hq,e⟩:=x2n h;rw [x1y,x1e] at hq;rw [List.getElem_drop,List.getElem_take] at e;have hm:z∈st:=by rw [<- e];exact x2q _
   have ez:st[min (ixS st x) (ixS st y) + 1 + q]?=some z:=by rw [x0c (by omega),e]
   have:=nd_ix nd (a4M hm).1 ez;exact⟨hm,by omega,by omega⟩
 · rintro⟨hm,h1,h2⟩;have hl:=a6I hm;have e:=(a4M hm).1;refine x0u (i:=ixS st z - (min (ixS st x) (ixS st y) + 1)) ?_;rw [List.getElem?_drop,show min (ixS st x) (ixS st y) + 1 + (ixS st z - (min (ixS st x) (ixS st y) + 1))=ixS st z by omega,List.getElem?_take,if_pos h2];exact e
structure a4f (r:Int)(st:List Str)(es:List Ev):Prop where
 fair:Fair st es
 ahead:∀x y,Ev.t x y∈es->ixS st y < ixS st x
 near:∀x y,Ev.t x y∈es->((btwU st x y).length:Int)<=r
 full:∀x y,Ev.t x y∈es->∀z∈btwU st x y,z∈es.flatMap evB
 plain:∀x y x' y',Ev.t x y∈es->Ev.t x' y'∈es->(x'∈btwU st x y↔y'∈btwU st x y)
theorem Fair.tx {st:List Str}{es:List Ev}(h:Fair st es){x y:Str}(he:Ev.t x y∈es):x∈st/\y∈st:=
 ⟨h.sub x (x1o.mpr ⟨_,he,by simp [evB]⟩),h.sub y (x1o.mpr ⟨_,he,by simp [evB]⟩)⟩
theorem a4f.perm {r:Int}{st:List Str}{es es':List Ev}(h:a4f r st es)(p:es'.Perm es):a4f r st es':=
 ⟨h.fair.perm p,fun x y hx=>h.ahead x y (p.mem_iff.mp hx),fun x y hx=>h.near x y (p.mem_iff.mp hx),fun x y hx z hz=>(a3B p).mem_iff.mpr (h.full x y (p.mem_iff.mp hx) z hz),fun x y x' y' hx hx'=>h.plain x y x' y' (p.mem_iff.mp hx) (p.mem_iff.mp hx')⟩
end Pu
end
section
namespace Pu
open PySem PySem.W PySem.Spec L2
theorem a4m {T:PotK}{Pt:Addr}{lpos:Pos}{qual:Str}(h:a7M T):a7M (tabK T Pt lpos qual):=fun M M' H p n ha hm=>by
 rcases ha with⟨h1,h2⟩ | ⟨rfl,ps,h2,h3,h4⟩
 · exact .inl ⟨h1,h _ _ _ _ _ h2 hm⟩
 · refine .inr ⟨rfl,ps,h2,h3,h4.imp id ?_⟩;rintro⟨c',z1,z2,z3⟩;refine⟨c',z1,fun z=>?_,z3⟩;rcases hm c' z with z | ⟨o,e,m⟩
   · exact z2 z
   · rw [z3] at e;cases e;exact m
section
variable {ι:Type}{K:x0b}{F:ι->Cx}{e:Expr}{es:List Expr}{st:Stmt}{pos:Pos}{pl:pA}{pe pa pb:pE}{Pt:Addr}{lpos:Pos}{qual:Str}
noncomputable def a5I (i:Nat)(pa pb:pE):pS:=fun D env n=>pa env n fun x env1 n1=>pb env1 n1 fun y env2 n2=>match x,y with | .scr _,.int k=>(0<=k/\k<=1000)/\∀q:Nat,D.nx (env2.set i (some (.v (.pot (q + 1))))) n2 | _,_=>False
theorem a8P (i:Nat){x:Str}{p:Pos}{a b:Expr}{k j:Nat}{ps:List Str}(h:∀z te,EW (F z) (.Call (.Name x p) [a,b] [] pos) te->SW (F z) st (tAsg te (a1J i)))(hG:∀z,Kn (F z).prog (F z).w (F z).K (F z).mg (F z).base x k ps (b2c K))(hr:∀z,Room j (F z).A)(hk:k<=j)(hg:∀z,Gl (F z) x)
   (ha:QE (tabK potL Pt lpos qual) K F a pa) (hb:QE (tabK potL Pt lpos qual) K F b pb) (n1:a0v a=true:=by rfl) (n2:a0v b=true:=by rfl) (hdb:(x == ("__debug__":Str))=false:=by decide):QS (tabK potL Pt lpos qual) true K F st (a5I i pa pb):=by
 obtain⟨t,a1,a2⟩:=ha;obtain⟨u,b1,b2⟩:=hb;refine⟨_,fun z=>(h z _ ⟨pe_fn (hG z) (hr z) hk (hg z) (a0o (a1 z) (a0o (b1 z) a0E (a0e n2)) (a0e n1)) hdb (a0e n1) (by rw [a0e n2];rfl)⟩).h,fun C G σ H env n PD D hK hT hn S hp L=>?_⟩;refine a2 C G σ H env n _ _ hK hT S hp fun x env1 n1 v H1 q1 S1 r1 f1=>?_;refine b2 C G σ H1 env1 n1 _ _ hK hT S1 q1 fun y env2 n2 w H2 q2 S2 r2 f2=>?_
 split at q2
 · rename_i ns kk;obtain⟨a,ev,hq⟩:=a6o (.inl (r1.fr f2));refine(show b2c K [v,w] H2 (fun x H1=>a1J i x σ H1 D.nx) E0 from ?_);refine⟨a,ns,kk,by rw [ev,show w=.int kk from r2],hq,q2.1.1,q2.1.2,fun p own seed hn' ok=>?_⟩;have hh:(tabK potL Pt lpos qual).has G.pots:=hT▸S2.hasG;obtain⟨l',el,nl⟩:=hh;have ptM:Pt∈G.pots:=by rw [el];exact x0g
   have S3:=S2.potG hn (p:=p) (ob:=.lst [.int own,.int seed,.int 0]) trivial hn' (Same.lay1 hn') a0l (by
     rw [hT]
     exact .inl ⟨fun z=>S2.fresh hn' (by rw [z];exact(S2.pots _ ptM).1),own,seed,0,a0l,ok,by omega⟩)
   have S4:=S3.set i (x:=.pot (l'.length + 1)) (v:=.ref p) ⟨p,by show(G.pots++[p])[l'.length + 1]?=_;rw [el];simp,rfl⟩;refine L.nx _ _ _ _ _ (q2.2 _) S4 ((Ext.fr (f1.trans f2)).trans ⟨fun b o _ e=>Same.lay1 hn' b o e,fun c hc=>(x0k.mp (show c∈p::G.M from hc)).elim (fun z=>.inr (z▸hn')) .inl,fun k q e=>?_⟩);obtain⟨hk,_⟩:=x0i.mp e;show(G.pots++[p])[k]?=_;rw [x0Q hk];exact e
 · exact q2.elim
end
end Pu
end
section
namespace Tb
open PySem L2 Pu
noncomputable abbrev b__law_draw:pF:=a2P
noncomputable abbrev lamP:PySem.Pos:=⟨56,48,56,88⟩
noncomputable abbrev lamQ:PySem.Str:=x0j "order_of.<locals>.<lambda>"
noncomputable def a1H:pS:=(qSeq (qPar 2 3 (sO (a2T (qV 1))) (sO (qLst qNil)))
   (qSeq (b3K (qB (qOpR (wNe 4) (qO 2) (qL (qLst qNil)))) (a1Z (a0Y 3 (a7p 2 (a0t b__law_draw (a0c (qV 0) (a0c (qUn wLen (qO 2)) qNil)))))))
   (qRet (qUn a2t (qO 3)))))
noncomputable def a0B:pF:=fnP ["_law_pot_here","_law_some","_law_left","_law_found"] ["_law_pot_here","_law_some"] a1H
noncomputable def a2y:pS:=(qSeq (qPar 2 3 (sV (qC (.str (x0j "abcdefghijklmnopqrstuvwxyz")))) (sO (qLst qNil)))
   (qSeq (b4S 4 5 6 (a0t b__law_draw (a0c (qV 0) (a0c (qC (.int 4)) qNil))) (sV (a0t b__law_draw (a0c (qV 0) (a0c (qC (.int 26)) qNil)))) (sV (qOp wAdd (qC (.int 1)) (a0t b__law_draw (a0c (qV 0) (a0c (qC (.int 8)) qNil))))))
   (qSeq (qPar 7 8 (sV (a0t b__law_draw (a0c (qV 0) (a0c (qV 6) qNil)))) (sV (qOp wIx (qV 2) (a0t b__law_draw (a0c (qV 0) (a0c (qC (.int 26)) qNil))))))
   (qSeq (qFor (a5H (qV 1)) (gN 9) (qSeq (qSet 10 (qOp wIx (qV 2) (qOp wMod (qOp wAdd (qV 5) (qOp wMul (qC (.int 7)) (qV 9))) (qC (.int 26)))))
   (qSeq (qIfS (qB (qOp (wEq 4) (qV 4) (qC (.int 0)))) (qSet 10 (qOp wAdd (qV 10) (b4U (qC (.str (x0j ""))) (qL (a3n [none,some 2,some 0] (a5H (a0t b__law_draw (a0c (qV 0) (a0c (qC (.int 8)) qNil)))) (gN 0) qTru (qOp wIx (qV 1) (a0t b__law_draw (a0c (qV 2) (a0c (qC (.int 26)) qNil))))))))) qNx)
   (qSeq (qIfS (qB (qOp (wEq 4) (qV 4) (qC (.int 1)))) (qSet 10 (qOp wMul (qOp wIx (qV 2) (qOp wMod (qOp wAdd (qV 5) (qOp b4s (qV 9) (qC (.int 8)))) (qC (.int 26)))) (qOp wAdd (qC (.int 1)) (qOp wMod (qV 9) (qC (.int 8)))))) qNx)
   (qSeq (qIfS (qB (qOp wGt (qV 4) (qC (.int 1)))) (qSet 10 (qOp wAdd (qOp wAdd (qOp wMul (qV 8) (qV 7)) (qV 10)) (qOp wMul (qV 8) (qOp wSub (qOp wSub (qV 6) (qC (.int 1))) (qV 7))))) qNx)
   (a1Z (a0Y 3 (qV 10))))))))
   (qSeq (qSet 11 (qOp wIx (qL (qLst (a0c (qC (.str (x0j "drop"))) (a0c (qC (.str (x0j "touch"))) (a0c (qC (.str (x0j "none"))) (a0c (qC (.str (x0j "d"))) (a0c (qC (.str (x0j "u"))) (a0c (qC (.str (x0j "t"))) (a0c (qC (.str (x0j "o"))) qNil))))))))) (a0t b__law_draw (a0c (qV 0) (a0c (qC (.int 7)) qNil)))))
   (qSeq (qIfS (qAnd (qB (qOp (wEq 4) (a0t b__law_draw (a0c (qV 0) (a0c (qC (.int 3)) qNil))) (qC (.int 0)))) (qB (qOp (wIn 4 true) (qV 11) (qO 3)))) (qPut 3 (qV 11) (a0t b__law_draw (a0c (qV 0) (a0c (qV 1) qNil)))) qNx)
   (a2k 3 (qRet (a0t a0B (a0c (qV 0) (a0c (qV 3) qNil)))))))))))
noncomputable def a1P:pF:=fnP ["_law_pot_here","_law_many","_law_letters","_law_found","_law_way","_law_first","_law_size","_law_spot","_law_fill","_law_k","_law_own","_law_odd"] ["_law_pot_here","_law_many"] a2y
noncomputable def a2z:pS:=(qSeq (qAsg (qTup (a0c (qV 0) (a0c (qV 1) qNil))) (gTp 2 (gCn (gTp 2 (gCn (gN 2) (gCn (gN 3) gNl))) (gCn (gTp 2 (gCn (gN 4) (gCn (gN 5) gNl))) gNl))))
   (qRet (qOrV (qOp wLt (qV 3) (qV 4)) (qOrV (qOp wLt (qV 5) (qV 2)) (qOrV (a2L (qOp wLt (qV 2) (qV 4)) (qOp wLt (qV 5) (qV 3))) (a2L (qOp wLt (qV 4) (qV 2)) (qOp wLt (qV 3) (qV 5))))))))
noncomputable def a1Q:pF:=fnP ["_law_one","_law_other","_law_a","_law_b","_law_c","_law_d"] ["_law_one","_law_other"] a2z
noncomputable def a2w:pS:=(qSeq (b2w [3,4,5,6] (a3f (sV (qUn wLen (qV 1))) (a3f (sO (qLst qNil)) (a3f (sO (qLst qNil)) (a3f (sO (qLst qNil)) b2e)))))
   (qSeq (qFor (a5H (a0t b__law_draw (a0c (qV 0) (a0c (qOp wAdd (qV 3) (qC (.int 1))) qNil)))) (gN 7) (qSeq (qAsg (qTup (a0c (a0t b__law_draw (a0c (qV 0) (a0c (qV 3) qNil))) (a0c (qOp wAdd (qC (.int 1)) (a0t b__law_draw (a0c (qV 0) (a0c (qOp wAdd (qV 2) (qC (.int 1))) qNil)))) qNil))) (gTp 2 (gCn (gN 8) (gCn (gN 9) gNl))))
   (qIfS (qAnd (qB (qOp wLt (qOp wAdd (qV 8) (qV 9)) (qV 3))) (qB (b2x (qUn wAll (qL (a3n [none,some 8,some 9] (qIl (qV 4)) (gN 0) qTru (a0t a1Q (a0c (qTup (a0c (qV 1) (a0c (qOp wAdd (qV 1) (qV 2)) qNil))) (a0c (qV 0) qNil))))))))) (qSeq (a1Z (a0Y 4 (qTup (a0c (qV 8) (a0c (qOp wAdd (qV 8) (qV 9)) qNil)))))
   (qSeq (a1Z (a2U 5 (qL (qLst (a0c (qV 8) (a0c (qOp wAdd (qV 8) (qV 9)) qNil))))))
   (a1Z (a0Y 6 (qTup (a0c (qC (.str (x0j "touch"))) (a0c (qOp wIx (qV 1) (qOp wAdd (qV 8) (qV 9))) (a0c (qOp wIx (qV 1) (qV 8)) qNil)))))))) qNx)))
   (qSeq (qFor (a8h (qV 1)) (gTp 2 (gCn (gN 10) (gCn (gN 11) gNl))) (qSeq (a2k 4 (qSet 12 (qUn wAny (qL (a3n [none,none,some 10] (qIl (qV 4)) (gTp 2 (gCn (gN 0) (gCn (gN 1) gNl))) qTru (a4w wLt wLt (qV 0) (qV 2) (qV 1)))))))
   (qIfS (qAnd (qB (qOp (wIn 4 true) (qV 10) (qO 5))) (qOr (b0i (qV 12)) (qB (qOp (wEq 4) (a0t b__law_draw (a0c (qV 0) (a0c (qC (.int 3)) qNil))) (qC (.int 0)))))) (a1Z (a0Y 6 (qTup (a0c (qC (.str (x0j "drop"))) (a0c (qV 11) qNil))))) qNx)))
   (qRet (qUn a2t (qL (a4v (qO 6))))))))
noncomputable def a1v:pF:=fnP ["_law_pot_here","_law_start","_law_reach","_law_n","_law_pairs","_law_ends","_law_events","_law_tour","_law_at","_law_far","_law_place","_law_boat","_law_within"] ["_law_pot_here","_law_start","_law_reach"] a2w
noncomputable def a2W:pS:=(qSeq (qPar 4 5 (sV (a0t b__law_draw (a0c (qV 0) (a0c (qC (.int 6)) qNil)))) (sV (a0t b__law_draw (a0c (qV 0) (a0c (qOp wAdd (qUn wLen (qV 2)) (qC (.int 1))) qNil)))))
   (qSeq (qSet 6 (qL (qCat (qL (a2T (qV 1))) (qL (a2T (qV 3))))))
   (qSeq (qPar 7 8 (sV (qOp wIx (qV 6) (a0t b__law_draw (a0c (qV 0) (a0c (qUn wLen (qV 6)) qNil))))) (sV (qOp wIx (qV 6) (a0t b__law_draw (a0c (qV 0) (a0c (qUn wLen (qV 6)) qNil))))))
   (qSeq (qSet 9 (qIf (qOr (qB (qOp (wEq 4) (qV 7) (qV 8))) (qB (qOp (wEq 4) (a0t b__law_draw (a0c (qV 0) (a0c (qC (.int 3)) qNil))) (qC (.int 0))))) (qL (qLst (a0c (qTup (a0c (qC (.str (x0j "drop"))) (a0c (qV 7) qNil))) qNil))) (qL (qLst (a0c (qTup (a0c (qC (.str (x0j "touch"))) (a0c (qV 7) (a0c (qV 8) qNil)))) qNil)))))
   (qSeq (qIfS (qOr (qB (qOp wGt (qV 4) (qC (.int 3)))) (qB (qOp (wEq 4) (qV 5) (qUn wLen (qV 2))))) (qRet (qUn a2t (qL (a1B (qL (qCat (qL (a2T (qV 2))) (qV 9))))))) qNx)
   (qSeq (qPar 10 11 (sV (qOp wIx (qV 2) (qV 5))) (sO (a2T (qOp wAdd (qSl (qV 2) qNo (a1t (qV 5))) (qSl (qV 2) (a1t (qOp wAdd (qV 5) (qC (.int 1)))) qNo)))))
   (qSeq (qIfS (qAnd (qB (qOp (wEq 4) (qV 4) (qC (.int 1)))) (qB (qOp (wEq 4) (qOp wIx (qV 10) (qC (.int 0))) (qC (.str (x0j "touch")))))) (a1Z (a0Y 11 (qTup (a0c (qC (.str (x0j "touch"))) (a0c (qOp wIx (qV 10) (qC (.int 2))) (a0c (qOp wIx (qV 10) (qC (.int 1))) qNil)))))) qNx)
   (qSeq (qIfS (qB (qOp (wEq 4) (qV 4) (qC (.int 2)))) (a1Z (a2U 11 (qV 9))) qNx)
   (qSeq (qIfS (qAnd (qB (qOp (wEq 4) (qV 4) (qC (.int 3)))) (qB (qOp (wIn 4 true) (qV 7) (qV 10)))) (a1Z (a0Y 11 (qOp wAdd (qSl (qV 10) qNo (a1t (qOp wSub (qUn wLen (qV 10)) (qC (.int 1))))) (qTup (a0c (qV 7) qNil))))) qNx)
   (qRet (qUn a2t (qL (a1B (qO 11))))))))))))))
noncomputable def a1L:pF:=fnP ["_law_pot_here","_law_start","_law_sheet_here","_law_spare","_law_way","_law_at","_law_boats_here","_law_one","_law_other","_law_more","_law_event","_law_rest"] ["_law_pot_here","_law_start","_law_sheet_here","_law_spare"] a2W
noncomputable def a3F:pS:=(qRet (qL (b0k [none,none] (qIt (qV 0)) (gN 0) (qIt (qSl (qV 0) (a1t (qC (.int 1))) qNo)) (gN 1) qTru (qV 1))))
noncomputable def a1a:pF:=fnP ["events"] ["events"] a3F
noncomputable def a2l:pS:=(qSeq (qSet 2 (a0t a1a (a0c (qV 1) qNil)))
   (qSeq (qFor (qIl (qV 2)) (gN 3) (qSeq (qIfS (qB (qOp (wIn 4 true) (qV 3) (qV 0))) (qRet (qTup (a0c (qC (.str (x0j "strange"))) (a0c (qV 3) qNil)))) qNx)
   (qIfS (qB (qOp wGt (b3L (qV 2) (qV 3)) (qC (.int 1)))) (qRet (qTup (a0c (qC (.str (x0j "twice"))) (a0c (qV 3) qNil)))) qNx)))
   (qRet (qC .non))))
noncomputable def a1l:pF:=fnP ["start","sheet","boats","boat"] ["start","sheet"] a2l
noncomputable def a2v:pS:=(qRet (qL (a3n [none] (qIt (qV 0)) (gN 0) (qB (qOp (wEq 4) (qOp wIx (qV 0) (qC (.int 0))) (qC (.str (x0j "touch"))))) (qV 0))))
noncomputable def a0O:pF:=fnP ["events"] ["events"] a2v
noncomputable def a3D:pS:=(qRet (qOp wGt (a2s (qV 0) (qOp wIx (qV 1) (qC (.int 2)))) (a2s (qV 0) (qOp wIx (qV 1) (qC (.int 1))))))
noncomputable def a2I:pF:=fnP ["start","touch"] ["start","touch"] a3D
noncomputable def a4A:pS:=(qSeq (qAsg (qL (a4v (qL (qLst (a0c (a2s (qV 0) (qOp wIx (qV 1) (qC (.int 1)))) (a0c (a2s (qV 0) (qOp wIx (qV 1) (qC (.int 2)))) qNil)))))) (gTl 2 (gCn (gN 2) (gCn (gN 3) gNl))))
   (qRet (qSl (qV 0) (a1t (qOp wAdd (qV 2) (qC (.int 1)))) (a1t (qV 3)))))
noncomputable def a0G:pF:=fnP ["start","touch","low","high"] ["start","touch"] a4A
noncomputable def a5L:pS:=(qRet (qOp wGt (qUn wLen (a0t a0G (a0c (qV 0) (a0c (qV 2) qNil)))) (qV 1)))
noncomputable def a4l:pF:=fnP ["start","reach","touch"] ["start","reach","touch"] a5L
noncomputable def a1S:pS:=(qSeq (qIfS (qB (a0t a2I (a0c (qV 0) (a0c (qV 3) qNil)))) (qRet (qTup (a0c (qC (.str (x0j "wrong"))) (a0c (qV 3) qNil)))) qNx)
   (qSeq (qIfS (qB (a0t a4l (a0c (qV 0) (a0c (qV 1) (a0c (qV 3) qNil))))) (qRet (qTup (a0c (qC (.str (x0j "far"))) (a0c (qV 3) qNil)))) qNx)
   (qSeq (qSet 4 (a0t a1a (a0c (qV 2) qNil)))
   (qSeq (qFor (qIt (a0t a0G (a0c (qV 0) (a0c (qV 3) qNil)))) (gN 5) (qIfS (qB (qOp (wIn 4 true) (qV 5) (qV 4))) (qRet (qTup (a0c (qC (.str (x0j "stays"))) (a0c (qV 3) (a0c (qV 5) qNil))))) qNx))
   (qRet (qC .non))))))
noncomputable def a1b:pF:=fnP ["start","reach","sheet","touch","boats","boat"] ["start","reach","sheet","touch"] a1S
noncomputable def a3E:pS:=(qSeq (qIfS (qB (qOp (wNe 4) (qUn a3a (a0t a1a (a0c (qTup (a0c (qV 1) (a0c (qV 2) qNil))) qNil))) (qC (.int 4)))) (qRet (qC (.bl false))) qNx)
   (qSeq (qSet 3 (a0t a0G (a0c (qV 0) (a0c (qV 1) qNil))))
   (qRet (qOp (wNe 4) (qOp (wIn 4 false) (qOp wIx (qV 2) (qC (.int 1))) (qV 3)) (qOp (wIn 4 false) (qOp wIx (qV 2) (qC (.int 2))) (qV 3))))))
noncomputable def a2c:pF:=fnP ["start","one","other","inner"] ["start","one","other"] a3E
noncomputable def a1T:pS:=(qSeq (qFor (qIl (qV 2)) (gN 3) (qIfS (qB (a0t a2c (a0c (qV 0) (a0c (qV 1) (a0c (qV 3) qNil))))) (qRet (qTup (a0c (qC (.str (x0j "cross"))) (a0c (qV 1) (a0c (qV 3) qNil))))) qNx))
   (qRet (qC .non)))
noncomputable def a1c:pF:=fnP ["start","touch","touches","other"] ["start","touch","touches"] a1T
noncomputable def a2V:pS:=(qSeq (qSet 3 (a0t a1l (a0c (qV 0) (a0c (qV 2) qNil))))
   (qSeq (qIfS (qB (qOp a7f (qV 3) (qC .non))) (qRet (qV 3)) qNx)
   (qSeq (qSet 4 (a0t a0O (a0c (qV 2) qNil)))
   (qSeq (qFor (qIl (qV 4)) (gN 5) (qSeq (qSet 3 (qOrT (a0t a1b (a0c (qV 0) (a0c (qV 1) (a0c (qV 2) (a0c (qV 5) qNil))))) (a0t a1c (a0c (qV 0) (a0c (qV 5) (a0c (qV 4) qNil))))))
   (qIfS (qB (qOp a7f (qV 3) (qC .non))) (qRet (qV 3)) qNx)))
   (qRet (qC .non))))))
noncomputable def a1K:pF:=fnP ["start","reach","sheet","reason","touches","touch"] ["start","reach","sheet"] a2V
noncomputable def a3C:pS:=(qSeq (qSet 3 (a0t a1K (a0c (qV 0) (a0c (qV 1) (a0c (qV 2) qNil)))))
   (qSeq (qIfS (qB (qOp a7f (qV 3) (qC .non))) (qRet (qTup (a0c (qC (.str (x0j "unsound"))) (a0c (qV 3) qNil)))) qNx)
   (qSeq (qSet 4 (qL (a3n [none] (qIt (qV 2)) (gN 0) (qB (qOp (wEq 4) (qOp wIx (qV 0) (qC (.int 0))) (qC (.str (x0j "drop"))))) (qV 0))))
   (qSeq (qSet 5 (qL (a8f 0 (a0t a0O (a0c (qV 2) qNil)) (qUn wLen (a0t a0G (a0c (qV 1) (a0c (qV 0) qNil)))))))
   (qRet (qTup (a0c (qC (.str (x0j "course"))) (a0c (qUn a2t (qL (qCat (qV 4) (qV 5)))) qNil))))))))
noncomputable def a2b:pF:=fnP ["start","reach","sheet","reason","drops","inner_first"] ["start","reach","sheet"] a3C
noncomputable def a1U:pS:=(qSeq (qAsg (qTup (a0c (a2s (qV 0) (qOp wIx (qV 1) (qC (.int 1)))) (a0c (a2s (qV 0) (qOp wIx (qV 1) (qC (.int 2)))) qNil))) (gTp 2 (gCn (gN 2) (gCn (gN 3) gNl))))
   (qRet (qL (a3n [none,none,some 2,some 3] (a8h (qV 0)) (gTp 2 (gCn (gN 0) (gCn (gN 1) gNl))) (qB (a4w wLt wLt (qOp wMin (qV 2) (qV 3)) (qV 0) (qOp wMax (qV 2) (qV 3)))) (qV 1)))))
noncomputable def a1d:pF:=fnP ["_law_start","_law_event","_law_one","_law_other"] ["_law_start","_law_event"] a1U
noncomputable def a1I:pS:=(qSeq (qIfS (qOr (qNot (qB (qUn (wIsi "tuple") (qV 2)))) (qOr (qB (qOp (wNe 4) (qUn wLen (qV 2)) (qC (.int 3)))) (qB (qOp (wIn 4 true) (qV 2) (qV 1))))) (qRet (qC (.bl false))) qNx)
   (qRet (a2L (qOp (wIn 4 false) (qOp wIx (qV 2) (qC (.int 1))) (qV 0)) (qOp (wIn 4 false) (qOp wIx (qV 2) (qC (.int 2))) (qV 0)))))
noncomputable def a0K:pF:=fnP ["_law_start","_law_sheet_here","_law_thing"] ["_law_start","_law_sheet_here","_law_thing"] a1I
noncomputable def a0y:pS:=(qSeq (qIfS (qOr (qNot (qB (qUn (wIsi "tuple") (qV 3)))) (qOr (qB (qOp (wIn 4 true) (qUn wLen (qV 3)) (qTup (a0c (qC (.int 2)) (a0c (qC (.int 3)) qNil))))) (qNot (qB (qUn (wIsi "str") (qOp wIx (qV 3) (qC (.int 0)))))))) (qRet (qC (.bl false))) qNx)
   (qSeq (qSet 4 (qUn wLen (qL (a3n [none,some 3] (qIt (qV 2)) (gN 0) (qB (qOp (wIn 4 false) (qOp wIx (qV 1) (qC (.int 1))) (qSl (qV 0) (a1t (qC (.int 1))) qNo))) (qV 0)))))
   (qSeq (qIfS (qOr (qB (qOp (wEq 4) (qOp wIx (qV 3) (qC (.int 0))) (qC (.str (x0j "strange"))))) (qB (qOp (wEq 4) (qOp wIx (qV 3) (qC (.int 0))) (qC (.str (x0j "twice")))))) (qSeq (qSet 5 (qIf (qB (qOp (wEq 4) (qOp wIx (qV 3) (qC (.int 0))) (qC (.str (x0j "strange"))))) (a2L (qOp wGt (qV 4) (qC (.int 0))) (qOp (wIn 4 true) (qOp wIx (qV 3) (qC (.int 1))) (qV 0))) (qOp wGt (qV 4) (qC (.int 1)))))
   (qRet (a2L (qV 5) (qOp (wEq 4) (qUn wLen (qV 3)) (qC (.int 2)))))) qNx)
   (qSeq (qIfS (qNot (qB (a0t a0K (a0c (qV 0) (a0c (qV 2) (a0c (qOp wIx (qV 3) (qC (.int 1))) qNil)))))) (qRet (qC (.bl false))) qNx)
   (qSeq (qSet 6 (a0t a1d (a0c (qV 0) (a0c (qOp wIx (qV 3) (qC (.int 1))) qNil))))
   (qSeq (qIfS (qAnd (qB (qOp (wEq 4) (qUn wLen (qV 3)) (qC (.int 2)))) (qB (qOp (wEq 4) (qOp wIx (qV 3) (qC (.int 0))) (qC (.str (x0j "wrong")))))) (qRet (qOp wGt (a2s (qV 0) (qOp wIx (qOp wIx (qV 3) (qC (.int 1))) (qC (.int 2)))) (a2s (qV 0) (qOp wIx (qOp wIx (qV 3) (qC (.int 1))) (qC (.int 1)))))) qNx)
   (qSeq (qIfS (qB (qOp (wEq 4) (qUn wLen (qV 3)) (qC (.int 2)))) (qRet (a2L (qOp (wEq 4) (qOp wIx (qV 3) (qC (.int 0))) (qC (.str (x0j "far")))) (qOp wGt (qUn wLen (qV 6)) (qV 1)))) qNx)
   (qSeq (qIfS (qB (qOp (wEq 4) (qOp wIx (qV 3) (qC (.int 0))) (qC (.str (x0j "stays"))))) (qRet (a2L (qOp (wIn 4 false) (qOp wIx (qV 3) (qC (.int 2))) (qV 6)) (b4T (qUn wAny (qL (a3n [none,some 3] (qIt (qV 2)) (gN 0) qTru (qOp (wIn 4 false) (qOp wIx (qV 1) (qC (.int 2))) (qSl (qV 0) (a1t (qC (.int 1))) qNo)))))))) qNx)
   (qSeq (qIfS (qOr (qB (qOp (wNe 4) (qOp wIx (qV 3) (qC (.int 0))) (qC (.str (x0j "cross"))))) (qNot (qB (a0t a0K (a0c (qV 0) (a0c (qV 2) (a0c (qOp wIx (qV 3) (qC (.int 2))) qNil))))))) (qRet (qC (.bl false))) qNx)
   (qSeq (qSet 7 (qOp wAdd (qSl (qOp wIx (qV 3) (qC (.int 1))) (a1t (qC (.int 1))) qNo) (qSl (qOp wIx (qV 3) (qC (.int 2))) (a1t (qC (.int 1))) qNo)))
   (qRet (a2L (qOp (wEq 4) (qUn a5x (qV 7)) (qC (.int 4))) (qOp (wNe 4) (qOp (wIn 4 false) (qOp wIx (qV 7) (qC (.int 2))) (qV 6)) (qOp (wIn 4 false) (qOp wIx (qV 7) (qC (.int 3))) (qV 6)))))))))))))))
noncomputable def a0S:pF:=fnP ["_law_start","_law_reach","_law_sheet_here","_law_thing","_law_many","_law_good","_law_between_here","_law_boats_here"] ["_law_start","_law_reach","_law_sheet_here","_law_thing"] a0y
noncomputable def a3G:pS:=(qSeq (qIfS (qNot (qB (qUn wAll (qL (a3n [none,some 0,some 2] (qIt (qSl (qV 3) (a1t (qC (.int 1))) qNo)) (gN 0) qTru (a2L (qOp (wIn 4 false) (qV 0) (qV 1)) (qOp (wIn 4 true) (qV 0) (qV 2)))))))) (qRet (qC (.bl false))) qNx)
   (qSeq (qIfS (qB (qOp (wEq 4) (qOp wIx (qV 3) (qC (.int 0))) (qC (.str (x0j "drop"))))) (qRet (qC (.bl true))) qNx)
   (qSeq (qPar 4 5 (sV (a2s (qV 0) (qOp wIx (qV 3) (qC (.int 1))))) (sV (a2s (qV 0) (qOp wIx (qV 3) (qC (.int 2))))))
   (qSeq (qSet 6 (qSl (qV 0) (a1t (qOp wAdd (qV 5) (qC (.int 1)))) (a1t (qV 4))))
   (qRet (a2L (qOp wLt (qV 5) (qV 4)) (a2L (qOp wLe (qUn wLen (qV 6)) (qV 1)) (qUn wAll (qL (a3n [none,some 2] (qIt (qV 6)) (gN 0) qTru (qOp (wIn 4 false) (qV 0) (qV 1))))))))))))
noncomputable def a1f:pF:=fnP ["_law_start","_law_reach","_law_out","_law_event","_law_behind","_law_ahead","_law_between_here"] ["_law_start","_law_reach","_law_out","_law_event"] a3G
noncomputable def a2m:pS:=(qSeq (b2w [3,4,5] (a3f (sO (a2T (qV 2))) (a3f (sO (qLst qNil)) (a3f (sO (qLst qNil)) b2e))))
   (qSeq (qFor (a5H (qUn wLen (qV 2))) (gN 6) (qSeq (qSet 7 (qL (a8g (a3n [none,some 0,some 1,some 4] (qIl (qV 3)) (gN 0) (qB (a0t a1f (a0c (qV 1) (a0c (qV 2) (a0c (qV 3) (a0c (qV 0) qNil)))))) (qV 0)))))
   (qSeq (qIfS (qB (qOp (wEq 4) (qV 7) (qL (qLst qNil)))) (a2k 3 (a2k 5 (qRet (qTup (a0c (qV 5) (a0c (qV 3) qNil)))))) qNx)
   (qSeq (a1Z (a0Y 5 (qOp wIx (qV 7) (qC (.int 0)))))
   (qSeq (a1Z (a2U 4 (qL (a2T (qSl (qOp wIx (qV 7) (qC (.int 0))) (a1t (qC (.int 1))) qNo)))))
   (a1Z (a7o 4 3 (qOp wIx (qV 7) (qC (.int 0))))))))))
   (a2k 3 (a2k 5 (qRet (qTup (a0c (qV 5) (a0c (qV 3) qNil))))))))
noncomputable def a1m:pF:=fnP ["_law_start","_law_reach","_law_sheet_here","_law_left","_law_out","_law_found","_law_tour","_law_some"] ["_law_start","_law_reach","_law_sheet_here"] a2m
noncomputable def a1y:pS:=(qSeq (qIfS (qOr (qNot (qB (qUn (wIsi "tuple") (qV 3)))) (qB (qOp (wNe 4) (qUn a2t (qL (a4v (qL (a2T (qV 3)))))) (qV 2)))) (qRet (qC (.bl false))) qNx)
   (qSeq (qOwn 4 (qLst qNil))
   (qSeq (qFor (qIt (qV 3)) (gN 5) (qSeq (qIfS (qNot (qB (b2x (a0t a1f (a0c (qV 0) (a0c (qV 1) (a0c (qV 4) (a0c (qV 5) qNil)))))))) (qRet (qC (.bl false))) qNx)
   (a1Z (a2U 4 (qL (a2T (qSl (qV 5) (a1t (qC (.int 1))) qNo)))))))
   (qRet (qC (.bl true))))))
noncomputable def a0T:pF:=fnP ["_law_start","_law_reach","_law_sheet_here","_law_events","_law_out","_law_event"] ["_law_start","_law_reach","_law_sheet_here","_law_events"] a1y
noncomputable def a2x:pS:=(qSeq (qPar 3 4 (sV (a0t a2b (a0c (qV 0) (a0c (qV 1) (a0c (qV 2) qNil))))) (sV (qOp wIx (a0t a1m (a0c (qV 0) (a0c (qV 1) (a0c (qV 2) qNil)))) (qC (.int 1)))))
   (qSeq (qIfS (qOr (qNot (qB (qUn (wIsi "tuple") (qV 3)))) (qB (qOp (wNe 4) (qUn wLen (qV 3)) (qC (.int 2))))) (qRet (qC (.bl false))) qNx)
   (qSeq (qIfS (qB (qOp (wEq 4) (qV 4) (qL (qLst qNil)))) (qRet (a2L (qOp (wEq 4) (qOp wIx (qV 3) (qC (.int 0))) (qC (.str (x0j "course")))) (a0t a0T (a0c (qV 0) (a0c (qV 1) (a0c (qV 2) (a0c (qOp wIx (qV 3) (qC (.int 1))) qNil))))))) qNx)
   (qRet (a2L (qOp (wEq 4) (qOp wIx (qV 3) (qC (.int 0))) (qC (.str (x0j "unsound")))) (a0t a0S (a0c (qV 0) (a0c (qV 1) (a0c (qV 2) (a0c (qOp wIx (qV 3) (qC (.int 1))) qNil))))))))))
noncomputable def a1w:pF:=fnP ["_law_start","_law_reach","_law_sheet_here","_law_found","_law_left"] ["_law_start","_law_reach","_law_sheet_here"] a2x
noncomputable def b2L:pS:=(qSeq (qFor (a5H (qOp wAdd (qC (.int 1)) (qUn wLen (qSl (qV 0) qNo (a1t (qC (.int 5))))))) (gN 1) (qSeq (a5I 2 (qV 0) (qV 1))
   (qSeq (qSet 3 (qOp wIx (qL (qLst (a0c (qOp wAdd (qC (.int 1)) (a0t b__law_draw (a0c (qV 2) (a0c (qC (.int 9)) qNil)))) (a0c (qOp wAdd (qC (.int 1)) (a0t b__law_draw (a0c (qV 2) (a0c (qC (.int 24)) qNil)))) qNil)))) (qUn wInt (qOp (wEq 4) (a0t b__law_draw (a0c (qV 2) (a0c (qC (.int 5)) qNil))) (qC (.int 0))))))
   (qSeq (qPar 4 5 (sV (a0t a1P (a0c (qV 2) (a0c (qOp wAdd (qV 3) (qC (.int 2))) qNil)))) (sV (a0t b__law_draw (a0c (qV 2) (a0c (qC (.int 8)) qNil)))))
   (qSeq (qPar 6 7 (sV (qSl (qV 4) qNo (a1t (qV 3)))) (sO (qLst qNil)))
   (qSeq (qFor (a5H (qC (.int 6))) (gN 8) (qSeq (qSet 9 (a0t a1v (a0c (qV 2) (a0c (qV 6) (a0c (qV 5) qNil)))))
   (qSeq (qFor (a5H (a0t b__law_draw (a0c (qV 2) (a0c (qC (.int 3)) qNil)))) (gN 10) (qSet 9 (a0t a1L (a0c (qV 2) (a0c (qV 6) (a0c (qV 9) (a0c (qSl (qV 4) (a1t (qV 3)) qNo) qNil)))))))
   (a1Z (a0Y 7 (qTup (a0c (qIf (qB (qOp (wEq 4) (a0t b__law_draw (a0c (qV 2) (a0c (qC (.int 4)) qNil))) (qC (.int 0)))) (a0t a0B (a0c (qV 2) (a0c (qV 6) qNil))) (qV 6)) (a0c (qV 9) qNil))))))))
   (a2k 7 (qFor (qIl (qV 7)) (gTp 2 (gCn (gN 11) (gCn (gN 9) gNl))) (qIfS (qNot (qB (a0t a1w (a0c (qV 11) (a0c (qV 5) (a0c (qV 9) qNil)))))) (qRet (qC (.bl false))) qNx)))))))))
   (qRet (qC (.bl true))))
end Tb
end
section
namespace Tb
open PySem L2 Pu
noncomputable def top (i:Nat):Stmt:=PySem.Challenge.pw_touchboats_k08_orders_or_reasons.main.body.getD i (.Pass ⟨0,0,0,0⟩)
section
variable {P:x0G}{w:World}{K:x0b}{mg:Str->Option Value}{base:Heap}{Pt cd:Addr}
theorem a4K (F0:Fn0 K mg "_law_shuffled" (top 15))(g__law_draw:Kn P w K mg base "_law_draw" 1 ["_law_pot_here","_law_many"] (a0k K (tabK potL Pt lamP lamQ) a2P))(m_len:mg "len"=none)(m_list:mg "list"=none)(m_tuple:mg "tuple"=none):Kn P w K mg base "_law_shuffled" 2 ["_law_pot_here","_law_some"] (a0k K (tabK potL Pt lamP lamQ) a0B):=by
 have sc:a0s ["_law_pot_here","_law_some","_law_left","_law_found"] ["_law_pot_here","_law_some"] (a0i (top 15)):=⟨rfl,rfl,rfl,by decide +kernel,rfl,by decide +kernel,by decide +kernel⟩
 exact a1N F0 sc (fun _ _ _ _ _ _=>bd2 fun _ _=>rfl) (k:=1) (body:=a1H) (fun f cdv A outer s H E hr=>(a0d (a3j 2 3 (fun _=>a3d (i:=2) (j:=3) rfl sc.nd rfl rfl (by decide) rfl rfl rfl) (ql_o (a2h (fun _=>rfl) (fun _=>m_list) (QE.r (a0a 1 fun _=>vw 1)))) (ql_o (a1o a0g)))
   (a0d (b2o (b4K (cNe 4 fun _=>hr) (a4r 2 fun _=>vw 2) (QE.r (QN.ee (a1o a0g))) (a0n _)) (a0h (a1h (fun _=>a1g) (a1i 3 (fun _=>vw 3) (b2s 2 (fun _=>vw 2) (a0x (fun _=>g__law_draw) (fun _=>hr) (by decide) (fun _=>rfl) (a0b (a0a 0 fun _=>vw 0) (a0b (a1e (fun _=>rfl) (fun _=>m_len) (a4r 2 fun _=>vw 2)) a0g))))))))
   (a0h (a0q (a2G (fun _=>rfl) (fun _=>m_tuple) (a4r 3 fun _=>vw 3)))))))
theorem a6G (F0:Fn0 K mg "_law_boats" (top 16))(g__law_draw:Kn P w K mg base "_law_draw" 1 ["_law_pot_here","_law_many"] (a0k K (tabK potL Pt lamP lamQ) a2P))(g__law_shuffled:Kn P w K mg base "_law_shuffled" 2 ["_law_pot_here","_law_some"] (a0k K (tabK potL Pt lamP lamQ) a0B))(m_range:mg "range"=none):Kn P w K mg base "_law_boats" 3 ["_law_pot_here","_law_many"] (a0k K (tabK potL Pt lamP lamQ) a1P):=by
 have sc:a0s ["_law_pot_here","_law_many","_law_letters","_law_found","_law_way","_law_first","_law_size","_law_spot","_law_fill","_law_k","_law_own","_law_odd"] ["_law_pot_here","_law_many"] (a0i (top 16)):=⟨rfl,rfl,rfl,by decide +kernel,rfl,by decide +kernel,by decide +kernel⟩
 exact a1N F0 sc (fun _ _ _ _ _ _=>bd2 fun _ _=>rfl) (k:=2) (body:=a2y) (fun f cdv A outer s H E hr=>(a0d (b4L 2 3 (fun _=>a3Q) (fun _=>gw_two K 2 3 rfl (a0m 2 sc.nd rfl (Or.inr rfl)) (a0m 3 sc.nd rfl (Or.inl rfl))) (ql_v a0A) (ql_o (a1o a0g)))
   (a0d (b4M 4 5 6 (fun _=>b4B (i:=4) (j:=5) (k:=6) rfl sc.nd rfl rfl rfl (by decide) (by decide) (by decide) rfl rfl rfl rfl) (a0x (fun _=>g__law_draw) (fun _=>hr) (by decide) (fun _=>rfl) (a0b (a0a 0 fun _=>vw 0) (a0b a0f a0g))) (ql_v (a0x (fun _=>g__law_draw) (fun _=>hr) (by decide) (fun _=>rfl) (a0b (a0a 0 fun _=>vw 0) (a0b a0f a0g)))) (ql_v (a0N a0f (a0x (fun _=>g__law_draw) (fun _=>hr) (by decide) (fun _=>rfl) (a0b (a0a 0 fun _=>vw 0) (a0b a0f a0g))))))
   (a0d (a3j 7 8 (fun _=>a3d (i:=7) (j:=8) rfl sc.nd rfl rfl (by decide) rfl rfl rfl) (ql_v (a0x (fun _=>g__law_draw) (fun _=>hr) (by decide) (fun _=>rfl) (a0b (a0a 0 fun _=>vw 0) (a0b (a0a 6 fun _=>vw 6) a0g)))) (ql_v (a0w (a0a 2 fun _=>vw 2) (a0x (fun _=>g__law_draw) (fun _=>hr) (by decide) (fun _=>rfl) (a0b (a0a 0 fun _=>vw 0) (a0b a0f a0g))))))
   (a0d (a1X (fun _=>rfl) (a1F (fun _=>rfl) (fun _=>m_range) (a0a 1 fun _=>vw 1)) (a0p fun _=>a0m 9 sc.nd rfl (Or.inl rfl)) (a0d (a0V 10 (fun _=>a0M (i:=10) sc.nd rfl (Or.inl rfl)) (a0w (a0a 2 fun _=>vw 2) (b0c (a0N (a0a 5 fun _=>vw 5) (a8e a0f (a0a 9 fun _=>vw 9))) a0f)))
   (a0d (a0X (a0u (cEq 4 fun _=>hr) (a0a 4 fun _=>vw 4) (QE.r a0f) (a0n _)) (a0h (a0V 10 (fun _=>a0M (i:=10) sc.nd rfl (Or.inl rfl)) (a0N (a0a 10 fun _=>vw 10) (b4O a0A (QE.r (QN.ee (a2i (N:=["_law_j","_law_letters","_law_pot_here"]) (cs:=[none,some 2,some 0]) (fun _=>a0R rfl rfl rfl rfl ⟨rfl,⟨rfl,trivial⟩⟩ rfl rfl rfl) (fun _=>rfl) (a1F (fun _=>rfl) (fun _=>m_range) (a0x (fun _=>g__law_draw) (fun _=>hr) (by decide) (fun _=>rfl) (a0b (a0a 0 fun _=>vw 0) (a0b a0f a0g)))) (a0p fun _=>a0m 0 (show x1Q (["_law_j","_law_letters","_law_pot_here"]:List Str) by decide +kernel) rfl (Or.inl rfl)) a2R (a0w (a0a 1 fun _=>vw 1) (a0x (fun _=>g__law_draw) (fun _=>hr) (by decide) (fun _=>rfl) (a0b (a0a 2 fun _=>vw 2) (a0b a0f a0g))))))))))) a0r)
   (a0d (a0X (a0u (cEq 4 fun _=>hr) (a0a 4 fun _=>vw 4) (QE.r a0f) (a0n _)) (a0h (a0V 10 (fun _=>a0M (i:=10) sc.nd rfl (Or.inl rfl)) (a8e (a0w (a0a 2 fun _=>vw 2) (b0c (a0N (a0a 5 fun _=>vw 5) (b4Q (a0a 9 fun _=>vw 9) a0f)) a0f)) (a0N a0f (b0c (a0a 9 fun _=>vw 9) a0f))))) a0r)
   (a0d (a0X (a0u cGt (a0a 4 fun _=>vw 4) (QE.r a0f) (a0n _)) (a0h (a0V 10 (fun _=>a0M (i:=10) sc.nd rfl (Or.inl rfl)) (a0N (a0N (a8e (a0a 8 fun _=>vw 8) (a0a 7 fun _=>vw 7)) (a0a 10 fun _=>vw 10)) (a8e (a0a 8 fun _=>vw 8) (b0a (b0a (a0a 6 fun _=>vw 6) a0f) (a0a 7 fun _=>vw 7)))))) a0r)
   (a0h (a1h (fun _=>a1g) (a1i 3 (fun _=>vw 3) (a0a 10 fun _=>vw 10)))))))))
   (a0d (a0V 11 (fun _=>a0M (i:=11) sc.nd rfl (Or.inl rfl)) (a0w (QN.ee (a1o (a0b a0A (a0b a0A (a0b a0A (a0b a0A (a0b a0A (a0b a0A (a0b a0A a0g))))))))) (a0x (fun _=>g__law_draw) (fun _=>hr) (by decide) (fun _=>rfl) (a0b (a0a 0 fun _=>vw 0) (a0b a0f a0g)))))
   (a0d (a0X (QW.qt (a5l (a0u (cEq 4 fun _=>hr) (a0x (fun _=>g__law_draw) (fun _=>hr) (by decide) (fun _=>rfl) (a0b (a0a 0 fun _=>vw 0) (a0b a0f a0g))) (QE.r a0f) (a0n _)) (a3z (a0u (a3s 4 fun _=>hr) (a0a 11 fun _=>vw 11) (a4r 3 fun _=>vw 3) rfl)))) (a0h (qs_put 3 (fun _=>a3Q) (a0a 11 fun _=>vw 11) (fun _=>gw_at (vw 3)) (a0x (fun _=>g__law_draw) (fun _=>hr) (by decide) (fun _=>rfl) (a0b (a0a 0 fun _=>vw 0) (a0b (a0a 1 fun _=>vw 1) a0g))))) a0r)
   (a0h (a1E 3 (a0q (a0x (fun _=>g__law_shuffled) (fun _=>hr) (by decide) (fun _=>rfl) (a0b (a0a 0 fun _=>vw 0) (a0b (a0a 3 fun _=>vw 3) a0g)))))))))))))
theorem a6H (F0:Fn0 K mg "_law_apart" (top 17)):Kn P w K mg base "_law_apart" 1 ["_law_one","_law_other"] (a0k K (tabK potL Pt lamP lamQ) a1Q):=by
 have sc:a0s ["_law_one","_law_other","_law_a","_law_b","_law_c","_law_d"] ["_law_one","_law_other"] (a0i (top 17)):=⟨rfl,rfl,rfl,by decide +kernel,rfl,by decide +kernel,by decide +kernel⟩
 exact a1N F0 sc (fun _ _ _ _ _ _=>bd2 fun _ _=>rfl) (k:=0) (body:=a2z) (fun f cdv A outer s H E hr=>(a0d (a8c (fun _=>a3Q) (a0W (a0b (a0a 0 fun _=>vw 0) (a0b (a0a 1 fun _=>vw 1) a0g))) (a3l (fun _=>rfl) (a0C (a3l (fun _=>rfl) (a0C (a0p fun _=>a0m 2 sc.nd rfl (Or.inl rfl)) (a0C (a0p fun _=>a0m 3 sc.nd rfl (Or.inl rfl)) a1R))) (a0C (a3l (fun _=>rfl) (a0C (a0p fun _=>a0m 4 sc.nd rfl (Or.inl rfl)) (a0C (a0p fun _=>a0m 5 sc.nd rfl (Or.inl rfl)) a1R))) a1R))))
   (a0h (a0q (b4N (a0D cLt (a0a 3 fun _=>vw 3) (QE.r (a0a 4 fun _=>vw 4)) (a0n _)) (b4N (a0D cLt (a0a 5 fun _=>vw 5) (QE.r (a0a 2 fun _=>vw 2)) (a0n _)) (b4N (a1Y (a0D cLt (a0a 2 fun _=>vw 2) (QE.r (a0a 4 fun _=>vw 4)) (a0n _)) (a1O (a0D cLt (a0a 5 fun _=>vw 5) (QE.r (a0a 3 fun _=>vw 3)) (a0n _)))) (a1O (a1Y (a0D cLt (a0a 4 fun _=>vw 4) (QE.r (a0a 2 fun _=>vw 2)) (a0n _)) (a1O (a0D cLt (a0a 3 fun _=>vw 3) (QE.r (a0a 5 fun _=>vw 5)) (a0n _))))))))))))
theorem a6E (F0:Fn0 K mg "_law_sheet" (top 18))(g__law_draw:Kn P w K mg base "_law_draw" 1 ["_law_pot_here","_law_many"] (a0k K (tabK potL Pt lamP lamQ) a2P))(g__law_apart:Kn P w K mg base "_law_apart" 1 ["_law_one","_law_other"] (a0k K (tabK potL Pt lamP lamQ) a1Q))(m_all:mg "all"=none)(m_any:mg "any"=none)(m_enumerate:mg "enumerate"=none)(m_len:mg "len"=none)(m_range:mg "range"=none)(m_sorted:mg "sorted"=none)(m_tuple:mg "tuple"=none):Kn P w K mg base "_law_sheet" 2 ["_law_pot_here","_law_start","_law_reach"] (a0k K (tabK potL Pt lamP lamQ) a1v):=by
 have sc:a0s ["_law_pot_here","_law_start","_law_reach","_law_n","_law_pairs","_law_ends","_law_events","_law_tour","_law_at","_law_far","_law_place","_law_boat","_law_within"] ["_law_pot_here","_law_start","_law_reach"] (a0i (top 18)):=⟨rfl,rfl,rfl,by decide +kernel,rfl,by decide +kernel,by decide +kernel⟩
 exact a1N F0 sc (fun _ _ _ _ _ _=>bd3 fun _ _ _=>rfl) (k:=1) (body:=a2w) (fun f cdv A outer s H E hr=>(a0d (a9X [3,4,5,6] (fun _=>a3Q) (fun _=>b3S K rfl (a7s (a0m 3 sc.nd rfl (Or.inl rfl)) (a7s (a0m 4 sc.nd rfl (Or.inl rfl)) (a7s (a0m 5 sc.nd rfl (Or.inl rfl)) (a7s (a0m 6 sc.nd rfl (Or.inl rfl)) pgs_n))))) (a2j (ql_v (a1e (fun _=>rfl) (fun _=>m_len) (QE.r (a0a 1 fun _=>vw 1)))) (a2j (ql_o (a1o a0g)) (a2j (ql_o (a1o a0g)) (a2j (ql_o (a1o a0g)) a9Z)))))
   (a0d (a1X (fun _=>rfl) (a1F (fun _=>rfl) (fun _=>m_range) (a0x (fun _=>g__law_draw) (fun _=>hr) (by decide) (fun _=>rfl) (a0b (a0a 0 fun _=>vw 0) (a0b (a0N (a0a 3 fun _=>vw 3) a0f) a0g)))) (a0p fun _=>a0m 7 sc.nd rfl (Or.inl rfl)) (a0d (a8c (fun _=>a3Q) (a0W (a0b (a0x (fun _=>g__law_draw) (fun _=>hr) (by decide) (fun _=>rfl) (a0b (a0a 0 fun _=>vw 0) (a0b (a0a 3 fun _=>vw 3) a0g))) (a0b (a0N a0f (a0x (fun _=>g__law_draw) (fun _=>hr) (by decide) (fun _=>rfl) (a0b (a0a 0 fun _=>vw 0) (a0b (a0N (a0a 2 fun _=>vw 2) a0f) a0g)))) a0g))) (a3l (fun _=>rfl) (a0C (a0p fun _=>a0m 8 sc.nd rfl (Or.inr rfl)) (a0C (a0p fun _=>a0m 9 sc.nd rfl (Or.inr rfl)) a1R))))
   (a0h (a0X (QW.qt (a5l (a0u cLt (a0N (a0a 8 fun _=>vw 8) (a0a 9 fun _=>vw 9)) (QE.r (a0a 3 fun _=>vw 3)) (a0n _)) (a3z (a1D (b0e (a4m a4y) (b0g (fun _=>rfl) (fun _=>rfl) (fun _=>m_all) (QE.r (QN.ee (a2i (N:=["_law_one","_law_at","_law_far"]) (cs:=[none,some 8,some 9]) (fun _=>a0R rfl rfl rfl rfl ⟨rfl,⟨rfl,trivial⟩⟩ rfl rfl rfl) (fun _=>rfl) (a2S (a0a 4 fun _=>vw 4)) (a0p fun _=>a0m 0 (show x1Q (["_law_one","_law_at","_law_far"]:List Str) by decide +kernel) rfl (Or.inl rfl)) a2R (a0x (fun _=>g__law_apart) (fun _=>hr) (by decide) (fun _=>rfl) (a0b (a0W (a0b (a0a 1 fun _=>vw 1) (a0b (a0N (a0a 1 fun _=>vw 1) (a0a 2 fun _=>vw 2)) a0g))) (a0b (a0a 0 fun _=>vw 0) a0g)))))))))))) (a0d (a1h (fun _=>a1g) (a1i 4 (fun _=>vw 4) (a0W (a0b (a0a 8 fun _=>vw 8) (a0b (a0N (a0a 8 fun _=>vw 8) (a0a 9 fun _=>vw 9)) a0g)))))
   (a0d (a1h (fun _=>a1g) (a3m 5 (fun _=>vw 5) (QN.ee (a1o (a0b (a0a 8 fun _=>vw 8) (a0b (a0N (a0a 8 fun _=>vw 8) (a0a 9 fun _=>vw 9)) a0g))))))
   (a0h (a1h (fun _=>a1g) (a1i 6 (fun _=>vw 6) (a0W (a0b a0A (a0b (a0w (a0a 1 fun _=>vw 1) (a0N (a0a 8 fun _=>vw 8) (a0a 9 fun _=>vw 9))) (a0b (a0w (a0a 1 fun _=>vw 1) (a0a 8 fun _=>vw 8)) a0g))))))))) a0r))))
   (a0d (a1X (fun _=>rfl) (a8d (fun _=>rfl) (fun _=>m_enumerate) (a0a 1 fun _=>vw 1)) (a3l (fun _=>rfl) (a0C (a0p fun _=>a0m 10 sc.nd rfl (Or.inr rfl)) (a0C (a0p fun _=>a0m 11 sc.nd rfl (Or.inl rfl)) a1R))) (a0d (a1E 4 (a0V 12 (fun _=>a0M (i:=12) sc.nd rfl (Or.inl rfl)) (b3J (fun _=>rfl) (fun _=>rfl) (fun _=>m_any) (QE.r (QN.ee (a2i (N:=["_law_a","_law_b","_law_place"]) (cs:=[none,none,some 10]) (fun _=>a0R rfl rfl rfl rfl ⟨rfl,trivial⟩ rfl rfl rfl) (fun _=>rfl) (a2S (a0a 4 fun _=>vw 4)) (a3l (fun _=>rfl) (a0C (a0p fun _=>a0m 0 (show x1Q (["_law_a","_law_b","_law_place"]:List Str) by decide +kernel) rfl (Or.inl rfl)) (a0C (a0p fun _=>a0m 1 (show x1Q (["_law_a","_law_b","_law_place"]:List Str) by decide +kernel) rfl (Or.inl rfl)) a1R))) a2R (b2v cLt cLt (a0a 0 fun _=>vw 0) (a0a 2 fun _=>vw 2) (a0a 1 fun _=>vw 1))))))))
   (a0h (a0X (QW.qt (a5l (a0u (a3s 4 fun _=>hr) (a0a 10 fun _=>vw 10) (a4r 5 fun _=>vw 5) rfl) (a3z (QW.qt (a4q (b2m (QE.r (a0a 12 fun _=>vw 12))) (a3i (a0u (cEq 4 fun _=>hr) (a0x (fun _=>g__law_draw) (fun _=>hr) (by decide) (fun _=>rfl) (a0b (a0a 0 fun _=>vw 0) (a0b a0f a0g))) (QE.r a0f) (a0n _)))))))) (a0h (a1h (fun _=>a1g) (a1i 6 (fun _=>vw 6) (a0W (a0b a0A (a0b (a0a 11 fun _=>vw 11) a0g)))))) a0r))))
   (a0h (a0q (a2G (fun _=>rfl) (fun _=>m_tuple) (QE.r (QN.ee (a4s (fun _=>rfl) (fun _=>m_sorted) (a4r 6 fun _=>vw 6)))))))))))
theorem a7D (F0:Fn0 K mg "_law_bent" (top 24))(g__law_draw:Kn P w K mg base "_law_draw" 1 ["_law_pot_here","_law_many"] (a0k K (tabK potL Pt lamP lamQ) a2P))(m_len:mg "len"=none)(m_list:mg "list"=none)(m_set:mg "set"=none)(m_sorted:mg "sorted"=none)(m_tuple:mg "tuple"=none):Kn P w K mg base "_law_bent" 2 ["_law_pot_here","_law_start","_law_sheet_here","_law_spare"] (a0k K (tabK potL Pt lamP lamQ) a1L):=by
 have sc:a0s ["_law_pot_here","_law_start","_law_sheet_here","_law_spare","_law_way","_law_at","_law_boats_here","_law_one","_law_other","_law_more","_law_event","_law_rest"] ["_law_pot_here","_law_start","_law_sheet_here","_law_spare"] (a0i (top 24)):=⟨rfl,rfl,rfl,by decide +kernel,rfl,by decide +kernel,by decide +kernel⟩
 exact a1N F0 sc (fun _ _ _ _ _ _=>bd4 fun _ _ _ _=>rfl) (k:=1) (body:=a2W) (fun f cdv A outer s H E hr=>(a0d (a3j 4 5 (fun _=>a3d (i:=4) (j:=5) rfl sc.nd rfl rfl (by decide) rfl rfl rfl) (ql_v (a0x (fun _=>g__law_draw) (fun _=>hr) (by decide) (fun _=>rfl) (a0b (a0a 0 fun _=>vw 0) (a0b a0f a0g)))) (ql_v (a0x (fun _=>g__law_draw) (fun _=>hr) (by decide) (fun _=>rfl) (a0b (a0a 0 fun _=>vw 0) (a0b (a0N (a1e (fun _=>rfl) (fun _=>m_len) (QE.r (a0a 2 fun _=>vw 2))) a0f) a0g)))))
   (a0d (a0V 6 (fun _=>a0M (i:=6) sc.nd rfl (Or.inl rfl)) (QN.ee (a9Y (QE.r (QN.ee (a2h (fun _=>rfl) (fun _=>m_list) (QE.r (a0a 1 fun _=>vw 1))))) (QE.r (QN.ee (a2h (fun _=>rfl) (fun _=>m_list) (QE.r (a0a 3 fun _=>vw 3))))))))
   (a0d (a3j 7 8 (fun _=>a3d (i:=7) (j:=8) rfl sc.nd rfl rfl (by decide) rfl rfl rfl) (ql_v (a0w (a0a 6 fun _=>vw 6) (a0x (fun _=>g__law_draw) (fun _=>hr) (by decide) (fun _=>rfl) (a0b (a0a 0 fun _=>vw 0) (a0b (a1e (fun _=>rfl) (fun _=>m_len) (QE.r (a0a 6 fun _=>vw 6))) a0g))))) (ql_v (a0w (a0a 6 fun _=>vw 6) (a0x (fun _=>g__law_draw) (fun _=>hr) (by decide) (fun _=>rfl) (a0b (a0a 0 fun _=>vw 0) (a0b (a1e (fun _=>rfl) (fun _=>m_len) (QE.r (a0a 6 fun _=>vw 6))) a0g))))))
   (a0d (a0V 9 (fun _=>a0M (i:=9) sc.nd rfl (Or.inl rfl)) (b4P (QW.qt (a4q (a0u (cEq 4 fun _=>hr) (a0a 7 fun _=>vw 7) (QE.r (a0a 8 fun _=>vw 8)) (a0n _)) (a3i (a0u (cEq 4 fun _=>hr) (a0x (fun _=>g__law_draw) (fun _=>hr) (by decide) (fun _=>rfl) (a0b (a0a 0 fun _=>vw 0) (a0b a0f a0g))) (QE.r a0f) (a0n _))))) (QN.ee (a1o (a0b (a0W (a0b a0A (a0b (a0a 7 fun _=>vw 7) a0g))) a0g))) (QN.ee (a1o (a0b (a0W (a0b a0A (a0b (a0a 7 fun _=>vw 7) (a0b (a0a 8 fun _=>vw 8) a0g)))) a0g)))))
   (a0d (a0X (QW.qt (a4q (a0u cGt (a0a 4 fun _=>vw 4) (QE.r a0f) (a0n _)) (a3i (a0u (cEq 4 fun _=>hr) (a0a 5 fun _=>vw 5) (QE.r (a1e (fun _=>rfl) (fun _=>m_len) (QE.r (a0a 2 fun _=>vw 2)))) (a0n _))))) (a0h (a0q (a2G (fun _=>rfl) (fun _=>m_tuple) (QE.r (QN.ee (a3T (fun _=>rfl) (fun _=>hr) (fun _=>rfl) (fun _=>m_sorted) (fun _=>rfl) (fun _=>m_set) (QE.r (QN.ee (a9Y (QE.r (QN.ee (a2h (fun _=>rfl) (fun _=>m_list) (QE.r (a0a 2 fun _=>vw 2))))) (QE.r (a0a 9 fun _=>vw 9))))))))))) a0r)
   (a0d (a3j 10 11 (fun _=>a3d (i:=10) (j:=11) rfl sc.nd rfl rfl (by decide) rfl rfl rfl) (ql_v (a0w (a0a 2 fun _=>vw 2) (a0a 5 fun _=>vw 5))) (ql_o (a2h (fun _=>rfl) (fun _=>m_list) (QE.r (a0N (a2K (a0a 2 fun _=>vw 2) a3k (a0U (a0a 5 fun _=>vw 5))) (a2K (a0a 2 fun _=>vw 2) (a0U (a0N (a0a 5 fun _=>vw 5) a0f)) a3k))))))
   (a0d (a0X (QW.qt (a5l (a0u (cEq 4 fun _=>hr) (a0a 4 fun _=>vw 4) (QE.r a0f) (a0n _)) (a3z (a0u (cEq 4 fun _=>hr) (a0w (a0a 10 fun _=>vw 10) a0f) (QE.r a0A) (a0n _))))) (a0h (a1h (fun _=>a1g) (a1i 11 (fun _=>vw 11) (a0W (a0b a0A (a0b (a0w (a0a 10 fun _=>vw 10) a0f) (a0b (a0w (a0a 10 fun _=>vw 10) a0f) a0g))))))) a0r)
   (a0d (a0X (a0u (cEq 4 fun _=>hr) (a0a 4 fun _=>vw 4) (QE.r a0f) (a0n _)) (a0h (a1h (fun _=>a1g) (a3m 11 (fun _=>vw 11) (a0a 9 fun _=>vw 9)))) a0r)
   (a0d (a0X (QW.qt (a5l (a0u (cEq 4 fun _=>hr) (a0a 4 fun _=>vw 4) (QE.r a0f) (a0n _)) (a3z (a0u (a3s 4 fun _=>hr) (a0a 7 fun _=>vw 7) (QE.r (a0a 10 fun _=>vw 10)) rfl)))) (a0h (a1h (fun _=>a1g) (a1i 11 (fun _=>vw 11) (a0N (a2K (a0a 10 fun _=>vw 10) a3k (a0U (b0a (a1e (fun _=>rfl) (fun _=>m_len) (QE.r (a0a 10 fun _=>vw 10))) a0f))) (a0W (a0b (a0a 7 fun _=>vw 7) a0g)))))) a0r)
   (a0h (a0q (a2G (fun _=>rfl) (fun _=>m_tuple) (QE.r (QN.ee (a3T (fun _=>rfl) (fun _=>hr) (fun _=>rfl) (fun _=>m_sorted) (fun _=>rfl) (fun _=>m_set) (a4r 11 fun _=>vw 11)))))))))))))))))
theorem a9o (F0:Fn0 K mg "boats_of" (top 1)):Kn P w K mg base "boats_of" 1 ["events"] (a0k K (tabK potL Pt lamP lamQ) a1a):=by
 have sc:a0s ["events"] ["events"] (a0i (top 1)):=⟨rfl,rfl,rfl,by decide +kernel,rfl,by decide +kernel,by decide +kernel⟩;exact a1N F0 sc (fun _ _ _ _ _ _=>bd1 fun _=>rfl) (k:=0) (body:=a3F) (fun f cdv A outer s H E hr=>(a0h (a0q (QN.ee (b2q (N:=["event","boat"]) (cs:=[none,none]) (fun _=>a0R rfl rfl rfl rfl trivial rfl rfl rfl) (fun _=>rfl) (a2O (a0a 0 fun _=>vw 0)) (a0p fun _=>a0m 0 (show x1Q (["event","boat"]:List Str) by decide +kernel) rfl (Or.inl rfl)) (a2O (a2K (a0a 0 fun _=>vw 0) (a0U a0f) a3k)) (a0p fun _=>a0m 1 (show x1Q (["event","boat"]:List Str) by decide +kernel) rfl (Or.inl rfl)) a2R (a0a 1 fun _=>vw 1))))))
theorem a5T (F0:Fn0 K mg "boat_reason" (top 7))(g_boats_of:Kn P w K mg base "boats_of" 1 ["events"] (a0k K (tabK potL Pt lamP lamQ) a1a)):Kn P w K mg base "boat_reason" 2 ["start","sheet"] (a0k K (tabK potL Pt lamP lamQ) a1l):=by
 have sc:a0s ["start","sheet","boats","boat"] ["start","sheet"] (a0i (top 7)):=⟨rfl,rfl,rfl,by decide +kernel,rfl,by decide +kernel,by decide +kernel⟩
 exact a1N F0 sc (fun _ _ _ _ _ _=>bd2 fun _ _=>rfl) (k:=1) (body:=a2l) (fun f cdv A outer s H E hr=>(a0d (a0V 2 (fun _=>a0M (i:=2) sc.nd rfl (Or.inl rfl)) (a0x (fun _=>g_boats_of) (fun _=>hr) (by decide) (fun _=>rfl) (a0b (a0a 1 fun _=>vw 1) a0g)))
   (a0d (a1X (fun _=>rfl) (a2S (a0a 2 fun _=>vw 2)) (a0p fun _=>a0m 3 sc.nd rfl (Or.inl rfl)) (a0d (a0X (a0u (a3s 4 fun _=>hr) (a0a 3 fun _=>vw 3) (QE.r (a0a 0 fun _=>vw 0)) rfl) (a0h (a0q (a0W (a0b a0A (a0b (a0a 3 fun _=>vw 3) a0g))))) a0r)
   (a0h (a0X (a0u cGt (b2u (a0a 2 fun _=>vw 2) (a0a 3 fun _=>vw 3)) (QE.r a0f) (a0n _)) (a0h (a0q (a0W (a0b a0A (a0b (a0a 3 fun _=>vw 3) a0g))))) a0r))))
   (a0h (a0q a4u)))))
theorem a6D (F0:Fn0 K mg "touches_of" (top 2)):Kn P w K mg base "touches_of" 1 ["events"] (a0k K (tabK potL Pt lamP lamQ) a0O):=by
 have sc:a0s ["events"] ["events"] (a0i (top 2)):=⟨rfl,rfl,rfl,by decide +kernel,rfl,by decide +kernel,by decide +kernel⟩;exact a1N F0 sc (fun _ _ _ _ _ _=>bd1 fun _=>rfl) (k:=0) (body:=a2v) (fun f cdv A outer s H E hr=>(a0h (a0q (QN.ee (a2i (N:=["event"]) (cs:=[none]) (fun _=>a0R rfl rfl rfl rfl trivial rfl rfl rfl) (fun _=>rfl) (a2O (a0a 0 fun _=>vw 0)) (a0p fun _=>a0m 0 (show x1Q (["event"]:List Str) by decide +kernel) rfl (Or.inl rfl)) (a4t (a0u (cEq 4 fun _=>hr) (a0w (a0a 0 fun _=>vw 0) a0f) (QE.r a0A) (a0n _))) (a0a 0 fun _=>vw 0))))))
theorem a9m (F0:Fn0 K mg "is_wrong" (top 4)):Kn P w K mg base "is_wrong" 1 ["start","touch"] (a0k K (tabK potL Pt lamP lamQ) a2I):=by
 have sc:a0s ["start","touch"] ["start","touch"] (a0i (top 4)):=⟨rfl,rfl,rfl,by decide +kernel,rfl,by decide +kernel,by decide +kernel⟩;exact a1N F0 sc (fun _ _ _ _ _ _=>bd2 fun _ _=>rfl) (k:=0) (body:=a3D) (fun f cdv A outer s H E hr=>(a0h (a0q (a0D cGt (a1r (a0a 0 fun _=>vw 0) (a0w (a0a 1 fun _=>vw 1) a0f)) (QE.r (a1r (a0a 0 fun _=>vw 0) (a0w (a0a 1 fun _=>vw 1) a0f))) (a0n _)))))
theorem b1e (F0:Fn0 K mg "between" (top 3))(m_sorted:mg "sorted"=none):Kn P w K mg base "between" 1 ["start","touch"] (a0k K (tabK potL Pt lamP lamQ) a0G):=by
 have sc:a0s ["start","touch","low","high"] ["start","touch"] (a0i (top 3)):=⟨rfl,rfl,rfl,by decide +kernel,rfl,by decide +kernel,by decide +kernel⟩
 exact a1N F0 sc (fun _ _ _ _ _ _=>bd2 fun _ _=>rfl) (k:=0) (body:=a4A) (fun f cdv A outer s H E hr=>(a0d (a8c (fun _=>a3Q) (QN.ee (a4s (fun _=>rfl) (fun _=>m_sorted) (QE.r (QN.ee (a1o (a0b (a1r (a0a 0 fun _=>vw 0) (a0w (a0a 1 fun _=>vw 1) a0f)) (a0b (a1r (a0a 0 fun _=>vw 0) (a0w (a0a 1 fun _=>vw 1) a0f)) a0g))))))) (qg_lst (fun _=>rfl) (a0C (a0p fun _=>a0m 2 sc.nd rfl (Or.inl rfl)) (a0C (a0p fun _=>a0m 3 sc.nd rfl (Or.inl rfl)) a1R))))
   (a0h (a0q (a2K (a0a 0 fun _=>vw 0) (a0U (a0N (a0a 2 fun _=>vw 2) a0f)) (a0U (a0a 3 fun _=>vw 3)))))))
theorem b3d (F0:Fn0 K mg "is_far" (top 5))(g_between:Kn P w K mg base "between" 1 ["start","touch"] (a0k K (tabK potL Pt lamP lamQ) a0G))(m_len:mg "len"=none):Kn P w K mg base "is_far" 2 ["start","reach","touch"] (a0k K (tabK potL Pt lamP lamQ) a4l):=by
 have sc:a0s ["start","reach","touch"] ["start","reach","touch"] (a0i (top 5)):=⟨rfl,rfl,rfl,by decide +kernel,rfl,by decide +kernel,by decide +kernel⟩;exact a1N F0 sc (fun _ _ _ _ _ _=>bd3 fun _ _ _=>rfl) (k:=1) (body:=a5L) (fun f cdv A outer s H E hr=>(a0h (a0q (a0D cGt (a1e (fun _=>rfl) (fun _=>m_len) (QE.r (a0x (fun _=>g_between) (fun _=>hr) (by decide) (fun _=>rfl) (a0b (a0a 0 fun _=>vw 0) (a0b (a0a 2 fun _=>vw 2) a0g))))) (QE.r (a0a 1 fun _=>vw 1)) (a0n _)))))
theorem a5c (F0:Fn0 K mg "touch_reason" (top 8))(g_is_wrong:Kn P w K mg base "is_wrong" 1 ["start","touch"] (a0k K (tabK potL Pt lamP lamQ) a2I))(g_is_far:Kn P w K mg base "is_far" 2 ["start","reach","touch"] (a0k K (tabK potL Pt lamP lamQ) a4l))(g_boats_of:Kn P w K mg base "boats_of" 1 ["events"] (a0k K (tabK potL Pt lamP lamQ) a1a))(g_between:Kn P w K mg base "between" 1 ["start","touch"] (a0k K (tabK potL Pt lamP lamQ) a0G)):Kn P w K mg base "touch_reason" 3 ["start","reach","sheet","touch"] (a0k K (tabK potL Pt lamP lamQ) a1b):=by
 have sc:a0s ["start","reach","sheet","touch","boats","boat"] ["start","reach","sheet","touch"] (a0i (top 8)):=⟨rfl,rfl,rfl,by decide +kernel,rfl,by decide +kernel,by decide +kernel⟩
 exact a1N F0 sc (fun _ _ _ _ _ _=>bd4 fun _ _ _ _=>rfl) (k:=2) (body:=a1S) (fun f cdv A outer s H E hr=>(a0d (a0X (a1D (a0x (fun _=>g_is_wrong) (fun _=>hr) (by decide) (fun _=>rfl) (a0b (a0a 0 fun _=>vw 0) (a0b (a0a 3 fun _=>vw 3) a0g)))) (a0h (a0q (a0W (a0b a0A (a0b (a0a 3 fun _=>vw 3) a0g))))) a0r)
   (a0d (a0X (a1D (a0x (fun _=>g_is_far) (fun _=>hr) (by decide) (fun _=>rfl) (a0b (a0a 0 fun _=>vw 0) (a0b (a0a 1 fun _=>vw 1) (a0b (a0a 3 fun _=>vw 3) a0g))))) (a0h (a0q (a0W (a0b a0A (a0b (a0a 3 fun _=>vw 3) a0g))))) a0r)
   (a0d (a0V 4 (fun _=>a0M (i:=4) sc.nd rfl (Or.inl rfl)) (a0x (fun _=>g_boats_of) (fun _=>hr) (by decide) (fun _=>rfl) (a0b (a0a 2 fun _=>vw 2) a0g)))
   (a0d (a1X (fun _=>rfl) (a2O (a0x (fun _=>g_between) (fun _=>hr) (by decide) (fun _=>rfl) (a0b (a0a 0 fun _=>vw 0) (a0b (a0a 3 fun _=>vw 3) a0g)))) (a0p fun _=>a0m 5 sc.nd rfl (Or.inl rfl)) (a0h (a0X (a0u (a3s 4 fun _=>hr) (a0a 5 fun _=>vw 5) (QE.r (a0a 4 fun _=>vw 4)) rfl) (a0h (a0q (a0W (a0b a0A (a0b (a0a 3 fun _=>vw 3) (a0b (a0a 5 fun _=>vw 5) a0g)))))) a0r)))
   (a0h (a0q a4u)))))))
theorem a9n (F0:Fn0 K mg "is_cross" (top 6))(g_boats_of:Kn P w K mg base "boats_of" 1 ["events"] (a0k K (tabK potL Pt lamP lamQ) a1a))(g_between:Kn P w K mg base "between" 1 ["start","touch"] (a0k K (tabK potL Pt lamP lamQ) a0G))(m_len:mg "len"=none)(m_set:mg "set"=none):Kn P w K mg base "is_cross" 2 ["start","one","other"] (a0k K (tabK potL Pt lamP lamQ) a2c):=by
 have sc:a0s ["start","one","other","inner"] ["start","one","other"] (a0i (top 6)):=⟨rfl,rfl,rfl,by decide +kernel,rfl,by decide +kernel,by decide +kernel⟩
 exact a1N F0 sc (fun _ _ _ _ _ _=>bd3 fun _ _ _=>rfl) (k:=1) (body:=a3E) (fun f cdv A outer s H E hr=>(a0d (a0X (a0u (cNe 4 fun _=>hr) (a8Q (fun _=>rfl) (fun _=>rfl) (fun _=>m_len) (fun _=>rfl) (fun _=>m_set) (a0x (fun _=>g_boats_of) (fun _=>hr) (by decide) (fun _=>rfl) (a0b (a0W (a0b (a0a 1 fun _=>vw 1) (a0b (a0a 2 fun _=>vw 2) a0g))) a0g))) (QE.r a0f) (a0n _)) (a0h (a0q a3A)) a0r)
   (a0d (a0V 3 (fun _=>a0M (i:=3) sc.nd rfl (Or.inl rfl)) (a0x (fun _=>g_between) (fun _=>hr) (by decide) (fun _=>rfl) (a0b (a0a 0 fun _=>vw 0) (a0b (a0a 1 fun _=>vw 1) a0g))))
   (a0h (a0q (a0D (cNe 4 fun _=>hr) (a0D (cIn 4 fun _=>hr) (a0w (a0a 2 fun _=>vw 2) a0f) (QE.r (a0a 3 fun _=>vw 3)) rfl) (QE.r (a0D (cIn 4 fun _=>hr) (a0w (a0a 2 fun _=>vw 2) a0f) (QE.r (a0a 3 fun _=>vw 3)) rfl)) (a0n _)))))))
theorem a5d (F0:Fn0 K mg "cross_reason" (top 9))(g_is_cross:Kn P w K mg base "is_cross" 2 ["start","one","other"] (a0k K (tabK potL Pt lamP lamQ) a2c)):Kn P w K mg base "cross_reason" 3 ["start","touch","touches"] (a0k K (tabK potL Pt lamP lamQ) a1c):=by
 have sc:a0s ["start","touch","touches","other"] ["start","touch","touches"] (a0i (top 9)):=⟨rfl,rfl,rfl,by decide +kernel,rfl,by decide +kernel,by decide +kernel⟩
 exact a1N F0 sc (fun _ _ _ _ _ _=>bd3 fun _ _ _=>rfl) (k:=2) (body:=a1T) (fun f cdv A outer s H E hr=>(a0d (a1X (fun _=>rfl) (a2S (a0a 2 fun _=>vw 2)) (a0p fun _=>a0m 3 sc.nd rfl (Or.inl rfl)) (a0h (a0X (a1D (a0x (fun _=>g_is_cross) (fun _=>hr) (by decide) (fun _=>rfl) (a0b (a0a 0 fun _=>vw 0) (a0b (a0a 1 fun _=>vw 1) (a0b (a0a 3 fun _=>vw 3) a0g))))) (a0h (a0q (a0W (a0b a0A (a0b (a0a 1 fun _=>vw 1) (a0b (a0a 3 fun _=>vw 3) a0g)))))) a0r)))
   (a0h (a0q a4u))))
theorem a7C (F0:Fn0 K mg "reason_of" (top 10))(g_boat_reason:Kn P w K mg base "boat_reason" 2 ["start","sheet"] (a0k K (tabK potL Pt lamP lamQ) a1l))(g_touches_of:Kn P w K mg base "touches_of" 1 ["events"] (a0k K (tabK potL Pt lamP lamQ) a0O))(g_cross_reason:Kn P w K mg base "cross_reason" 3 ["start","touch","touches"] (a0k K (tabK potL Pt lamP lamQ) a1c))(g_touch_reason:Kn P w K mg base "touch_reason" 3 ["start","reach","sheet","touch"] (a0k K (tabK potL Pt lamP lamQ) a1b)):Kn P w K mg base "reason_of" 4 ["start","reach","sheet"] (a0k K (tabK potL Pt lamP lamQ) a1K):=by
 have sc:a0s ["start","reach","sheet","reason","touches","touch"] ["start","reach","sheet"] (a0i (top 10)):=⟨rfl,rfl,rfl,by decide +kernel,rfl,by decide +kernel,by decide +kernel⟩
 exact a1N F0 sc (fun _ _ _ _ _ _=>bd3 fun _ _ _=>rfl) (k:=3) (body:=a2V) (fun f cdv A outer s H E hr=>(a0d (a0V 3 (fun _=>a0M (i:=3) sc.nd rfl (Or.inl rfl)) (a0x (fun _=>g_boat_reason) (fun _=>hr) (by decide) (fun _=>rfl) (a0b (a0a 0 fun _=>vw 0) (a0b (a0a 2 fun _=>vw 2) a0g))))
   (a0d (a0X (a0u b1L (a0a 3 fun _=>vw 3) (QE.r a4u) (a0n _)) (a0h (a0q (a0a 3 fun _=>vw 3))) a0r)
   (a0d (a0V 4 (fun _=>a0M (i:=4) sc.nd rfl (Or.inl rfl)) (a0x (fun _=>g_touches_of) (fun _=>hr) (by decide) (fun _=>rfl) (a0b (a0a 2 fun _=>vw 2) a0g)))
   (a0d (a1X (fun _=>rfl) (a2S (a0a 4 fun _=>vw 4)) (a0p fun _=>a0m 5 sc.nd rfl (Or.inl rfl)) (a0d (a0V 3 (fun _=>a0M (i:=3) sc.nd rfl (Or.inl rfl)) (qe_orT (a0x (fun _=>g_touch_reason) (fun _=>hr) (by decide) (fun _=>rfl) (a0b (a0a 0 fun _=>vw 0) (a0b (a0a 1 fun _=>vw 1) (a0b (a0a 2 fun _=>vw 2) (a0b (a0a 5 fun _=>vw 5) a0g))))) (a1O (a0x (fun _=>g_cross_reason) (fun _=>hr) (by decide) (fun _=>rfl) (a0b (a0a 0 fun _=>vw 0) (a0b (a0a 5 fun _=>vw 5) (a0b (a0a 4 fun _=>vw 4) a0g)))))))
   (a0h (a0X (a0u b1L (a0a 3 fun _=>vw 3) (QE.r a4u) (a0n _)) (a0h (a0q (a0a 3 fun _=>vw 3))) a0r))))
   (a0h (a0q a4u)))))))
theorem a9l (F0:Fn0C K mg "order_of" (top 11) cd)(hC:PySem.W.CodeHd base cd Pt)(hB:base.BuiltinsAt mg Pt)(g_reason_of:Kn P w K mg base "reason_of" 4 ["start","reach","sheet"] (a0k K (tabK potL Pt lamP lamQ) a1K))(g_touches_of:Kn P w K mg base "touches_of" 1 ["events"] (a0k K (tabK potL Pt lamP lamQ) a0O))(g_between:Kn P w K mg base "between" 1 ["start","touch"] (a0k K (tabK potL Pt lamP lamQ) a0G))(m_len:mg "len"=none)(m_sorted:mg "sorted"=none)(m_tuple:mg "tuple"=none):Kn P w K mg base "order_of" 5 ["start","reach","sheet"] (a0k K (tabK potL Pt lamP lamQ) a2b):=by
 have sc:a0s ["start","reach","sheet","reason","drops","inner_first"] ["start","reach","sheet"] (a0i (top 11)):=⟨rfl,rfl,rfl,by decide +kernel,rfl,by decide +kernel,by decide +kernel⟩
 exact fn_okC F0 sc (fun _ _ _ _ _ _=>bd3 fun _ _ _=>rfl) (k:=4) (body:=a3C) (fun f A outer s H E hr=>(a0d (a0V 3 (fun _=>a0M (i:=3) sc.nd rfl (Or.inl rfl)) (a0x (fun _=>g_reason_of) (fun _=>hr) (by decide) (fun _=>rfl) (a0b (a0a 0 fun _=>vw 0) (a0b (a0a 1 fun _=>vw 1) (a0b (a0a 2 fun _=>vw 2) a0g)))))
   (a0d (a0X (a0u b1L (a0a 3 fun _=>vw 3) (QE.r a4u) (a0n _)) (a0h (a0q (a0W (a0b a0A (a0b (a0a 3 fun _=>vw 3) a0g))))) a0r)
   (a0d (a9W 4 (b0h (N:=["event"]) (cs:=[none]) (fun _=>a0R rfl rfl rfl rfl trivial rfl rfl rfl) (fun _=>rfl) (a2O (a0a 2 fun _=>vw 2)) (a0p fun _=>a0m 0 (show x1Q (["event"]:List Str) by decide +kernel) rfl (Or.inl rfl)) (a4t (a0u (cEq 4 fun _=>hr) (a0w (a0a 0 fun _=>vw 0) a0f) (QE.r a0A) (a0n _))) (a0a 0 fun _=>vw 0)) (fun _=>sc.nd) (fun _=>rfl) (fun _=>Or.inl rfl))
   (a0d (a0V 5 (fun _=>a0M (i:=5) sc.nd rfl (Or.inl rfl)) (QN.ee (b2p (x:="touch") (y:="start") (iy:=0) (c:=fun _=>s.heap.objs.size + 1) (QE.r (a0x (fun _=>g_touches_of) (fun _=>hr) (by decide) (fun _=>rfl) (a0b (a0a 2 fun _=>vw 2) a0g))) (a1e (fun _=>rfl) (fun _=>m_len) (QE.r (a0x (fun _=>g_between) (fun _=>b2i hr) (by decide) (fun _=>rfl) (a0b (a0a 1 fun _=>vw 1) (a0b (a0a 0 fun _=>vw 0) a0g))))) (b0Z rfl rfl rfl rfl rfl rfl (by decide +kernel) (by decide +kernel)) (fun _=>hr) (fun _=>rfl) (fun _=>rfl) (fun _=>rfl) (fun _ _ _ _ _=>rfl) (fun _=>rfl) (fun _=>rfl) (fun _=>rfl) (fun _=>hC) (fun _=>hB) (fun _=>rfl) (fun _=>m_sorted) (fun _=>rfl))))
   (a0h (a0q (a0W (a0b a0A (a0b (a2G (fun _=>rfl) (fun _=>m_tuple) (QE.r (QN.ee (a9Y (QE.r (a0a 4 fun _=>vw 4)) (QE.r (a0a 5 fun _=>vw 5)))))) a0g))))))))))
theorem a5e (F0:Fn0 K mg "_law_between" (top 22))(m_enumerate:mg "enumerate"=none)(m_max:mg "max"=none)(m_min:mg "min"=none):Kn P w K mg base "_law_between" 1 ["_law_start","_law_event"] (a0k K (tabK potL Pt lamP lamQ) a1d):=by
 have sc:a0s ["_law_start","_law_event","_law_one","_law_other"] ["_law_start","_law_event"] (a0i (top 22)):=⟨rfl,rfl,rfl,by decide +kernel,rfl,by decide +kernel,by decide +kernel⟩
 exact a1N F0 sc (fun _ _ _ _ _ _=>bd2 fun _ _=>rfl) (k:=0) (body:=a1U) (fun f cdv A outer s H E hr=>(a0d (a8c (fun _=>a3Q) (a0W (a0b (a1r (a0a 0 fun _=>vw 0) (a0w (a0a 1 fun _=>vw 1) a0f)) (a0b (a1r (a0a 0 fun _=>vw 0) (a0w (a0a 1 fun _=>vw 1) a0f)) a0g))) (a3l (fun _=>rfl) (a0C (a0p fun _=>a0m 2 sc.nd rfl (Or.inr rfl)) (a0C (a0p fun _=>a0m 3 sc.nd rfl (Or.inr rfl)) a1R))))
   (a0h (a0q (QN.ee (a2i (N:=["_law_place","_law_boat","_law_one","_law_other"]) (cs:=[none,none,some 2,some 3]) (fun _=>a0R rfl rfl rfl rfl ⟨rfl,⟨rfl,trivial⟩⟩ rfl rfl rfl) (fun _=>rfl) (a8d (fun _=>rfl) (fun _=>m_enumerate) (a0a 0 fun _=>vw 0)) (a3l (fun _=>rfl) (a0C (a0p fun _=>a0m 0 (show x1Q (["_law_place","_law_boat","_law_one","_law_other"]:List Str) by decide +kernel) rfl (Or.inl rfl)) (a0C (a0p fun _=>a0m 1 (show x1Q (["_law_place","_law_boat","_law_one","_law_other"]:List Str) by decide +kernel) rfl (Or.inl rfl)) a1R))) (a4t (b2n cLt cLt (qe_min (fun _=>rfl) (fun _=>rfl) (fun _=>m_min) (a0a 2 fun _=>vw 2) (a0a 3 fun _=>vw 3)) (a0a 0 fun _=>vw 0) (qe_max (fun _=>rfl) (fun _=>rfl) (fun _=>m_max) (a0a 2 fun _=>vw 2) (a0a 3 fun _=>vw 3)))) (a0a 1 fun _=>vw 1)))))))
theorem a4L (F0:Fn0 K mg "_law_is_touch" (top 21))(m_isinstance:mg "isinstance"=none)(m_len:mg "len"=none)(m_tuple:mg "tuple"=none):Kn P w K mg base "_law_is_touch" 1 ["_law_start","_law_sheet_here","_law_thing"] (a0k K (tabK potL Pt lamP lamQ) a0K):=by
 have sc:a0s ["_law_start","_law_sheet_here","_law_thing"] ["_law_start","_law_sheet_here","_law_thing"] (a0i (top 21)):=⟨rfl,rfl,rfl,by decide +kernel,rfl,by decide +kernel,by decide +kernel⟩
 exact a1N F0 sc (fun _ _ _ _ _ _=>bd3 fun _ _ _=>rfl) (k:=0) (body:=a1I) (fun f cdv A outer s H E hr=>(a0d (a0X (QW.qt (a4q (a2N (a1D (a6q (n:="tuple") (by decide) (fun _=>rfl) (fun _=>m_isinstance) (a0a 2 fun _=>vw 2) (fun _=>tyw rfl m_tuple a3t)))) (a4q (a0u (cNe 4 fun _=>hr) (a1e (fun _=>rfl) (fun _=>m_len) (QE.r (a0a 2 fun _=>vw 2))) (QE.r a0f) (a0n _)) (a3i (a0u (a3s 4 fun _=>hr) (a0a 2 fun _=>vw 2) (QE.r (a0a 1 fun _=>vw 1)) rfl))))) (a0h (a0q a3A)) a0r)
   (a0h (a0q (a1Y (a0D (cIn 4 fun _=>hr) (a0w (a0a 2 fun _=>vw 2) a0f) (QE.r (a0a 0 fun _=>vw 0)) rfl) (a1O (a0D (cIn 4 fun _=>hr) (a0w (a0a 2 fun _=>vw 2) a0f) (QE.r (a0a 0 fun _=>vw 0)) rfl)))))))
theorem a4c (F0:Fn0 K mg "_law_is_reason" (top 23))(g__law_is_touch:Kn P w K mg base "_law_is_touch" 1 ["_law_start","_law_sheet_here","_law_thing"] (a0k K (tabK potL Pt lamP lamQ) a0K))(g__law_between:Kn P w K mg base "_law_between" 1 ["_law_start","_law_event"] (a0k K (tabK potL Pt lamP lamQ) a1d))(m_any:mg "any"=none)(m_isinstance:mg "isinstance"=none)(m_len:mg "len"=none)(m_set:mg "set"=none)(m_str:mg "str"=none)(m_tuple:mg "tuple"=none):Kn P w K mg base "_law_is_reason" 2 ["_law_start","_law_reach","_law_sheet_here","_law_thing"] (a0k K (tabK potL Pt lamP lamQ) a0S):=by
 have sc:a0s ["_law_start","_law_reach","_law_sheet_here","_law_thing","_law_many","_law_good","_law_between_here","_law_boats_here"] ["_law_start","_law_reach","_law_sheet_here","_law_thing"] (a0i (top 23)):=⟨rfl,rfl,rfl,by decide +kernel,rfl,by decide +kernel,by decide +kernel⟩
 exact a1N F0 sc (fun _ _ _ _ _ _=>bd4 fun _ _ _ _=>rfl) (k:=1) (body:=a0y) (fun f cdv A outer s H E hr=>(a0d (a0X (QW.qt (a4q (a2N (a1D (a6q (n:="tuple") (by decide) (fun _=>rfl) (fun _=>m_isinstance) (a0a 3 fun _=>vw 3) (fun _=>tyw rfl m_tuple a3t)))) (a4q (a0u (a3s 4 fun _=>hr) (a1e (fun _=>rfl) (fun _=>m_len) (QE.r (a0a 3 fun _=>vw 3))) (QE.r (a0W (a0b a0f (a0b a0f a0g)))) rfl) (a3i (a2N (a1D (a6q (n:="str") (by decide) (fun _=>rfl) (fun _=>m_isinstance) (a0w (a0a 3 fun _=>vw 3) a0f) (fun _=>tyw rfl m_str bt_str)))))))) (a0h (a0q a3A)) a0r)
   (a0d (a0V 4 (fun _=>a0M (i:=4) sc.nd rfl (Or.inl rfl)) (a1e (fun _=>rfl) (fun _=>m_len) (QE.r (QN.ee (a2i (N:=["_law_event","_law_thing"]) (cs:=[none,some 3]) (fun _=>a0R rfl rfl rfl rfl ⟨rfl,trivial⟩ rfl rfl rfl) (fun _=>rfl) (a2O (a0a 2 fun _=>vw 2)) (a0p fun _=>a0m 0 (show x1Q (["_law_event","_law_thing"]:List Str) by decide +kernel) rfl (Or.inl rfl)) (a4t (a0u (cIn 4 fun _=>hr) (a0w (a0a 1 fun _=>vw 1) a0f) (QE.r (a2K (a0a 0 fun _=>vw 0) (a0U a0f) a3k)) rfl)) (a0a 0 fun _=>vw 0))))))
   (a0d (a0X (QW.qt (a4q (a0u (cEq 4 fun _=>hr) (a0w (a0a 3 fun _=>vw 3) a0f) (QE.r a0A) (a0n _)) (a3i (a0u (cEq 4 fun _=>hr) (a0w (a0a 3 fun _=>vw 3) a0f) (QE.r a0A) (a0n _))))) (a0d (a0V 5 (fun _=>a0M (i:=5) sc.nd rfl (Or.inl rfl)) (b4P (a0u (cEq 4 fun _=>hr) (a0w (a0a 3 fun _=>vw 3) a0f) (QE.r a0A) (a0n _)) (a1Y (a0D cGt (a0a 4 fun _=>vw 4) (QE.r a0f) (a0n _)) (a1O (a0D (a3s 4 fun _=>hr) (a0w (a0a 3 fun _=>vw 3) a0f) (QE.r (a0a 0 fun _=>vw 0)) rfl))) (a0D cGt (a0a 4 fun _=>vw 4) (QE.r a0f) (a0n _))))
   (a0h (a0q (a1Y (a0a 5 fun _=>vw 5) (a1O (a0D (cEq 4 fun _=>hr) (a1e (fun _=>rfl) (fun _=>m_len) (QE.r (a0a 3 fun _=>vw 3))) (QE.r a0f) (a0n _))))))) a0r)
   (a0d (a0X (a2N (a1D (a0x (fun _=>g__law_is_touch) (fun _=>hr) (by decide) (fun _=>rfl) (a0b (a0a 0 fun _=>vw 0) (a0b (a0a 2 fun _=>vw 2) (a0b (a0w (a0a 3 fun _=>vw 3) a0f) a0g)))))) (a0h (a0q a3A)) a0r)
   (a0d (a0V 6 (fun _=>a0M (i:=6) sc.nd rfl (Or.inl rfl)) (a0x (fun _=>g__law_between) (fun _=>hr) (by decide) (fun _=>rfl) (a0b (a0a 0 fun _=>vw 0) (a0b (a0w (a0a 3 fun _=>vw 3) a0f) a0g))))
   (a0d (a0X (QW.qt (a5l (a0u (cEq 4 fun _=>hr) (a1e (fun _=>rfl) (fun _=>m_len) (QE.r (a0a 3 fun _=>vw 3))) (QE.r a0f) (a0n _)) (a3z (a0u (cEq 4 fun _=>hr) (a0w (a0a 3 fun _=>vw 3) a0f) (QE.r a0A) (a0n _))))) (a0h (a0q (a0D cGt (a1r (a0a 0 fun _=>vw 0) (a0w (a0w (a0a 3 fun _=>vw 3) a0f) a0f)) (QE.r (a1r (a0a 0 fun _=>vw 0) (a0w (a0w (a0a 3 fun _=>vw 3) a0f) a0f))) (a0n _)))) a0r)
   (a0d (a0X (a0u (cEq 4 fun _=>hr) (a1e (fun _=>rfl) (fun _=>m_len) (QE.r (a0a 3 fun _=>vw 3))) (QE.r a0f) (a0n _)) (a0h (a0q (a1Y (a0D (cEq 4 fun _=>hr) (a0w (a0a 3 fun _=>vw 3) a0f) (QE.r a0A) (a0n _)) (a1O (a0D cGt (a1e (fun _=>rfl) (fun _=>m_len) (QE.r (a0a 6 fun _=>vw 6))) (QE.r (a0a 1 fun _=>vw 1)) (a0n _)))))) a0r)
   (a0d (a0X (a0u (cEq 4 fun _=>hr) (a0w (a0a 3 fun _=>vw 3) a0f) (QE.r a0A) (a0n _)) (a0h (a0q (a1Y (a0D (cIn 4 fun _=>hr) (a0w (a0a 3 fun _=>vw 3) a0f) (QE.r (a0a 6 fun _=>vw 6)) rfl) (a1O (qe_not (b3J (fun _=>rfl) (fun _=>rfl) (fun _=>m_any) (QE.r (QN.ee (a2i (N:=["_law_event","_law_thing"]) (cs:=[none,some 3]) (fun _=>a0R rfl rfl rfl rfl ⟨rfl,trivial⟩ rfl rfl rfl) (fun _=>rfl) (a2O (a0a 2 fun _=>vw 2)) (a0p fun _=>a0m 0 (show x1Q (["_law_event","_law_thing"]:List Str) by decide +kernel) rfl (Or.inl rfl)) a2R (a0D (cIn 4 fun _=>hr) (a0w (a0a 1 fun _=>vw 1) a0f) (QE.r (a2K (a0a 0 fun _=>vw 0) (a0U a0f) a3k)) rfl)))))))))) a0r)
   (a0d (a0X (QW.qt (a4q (a0u (cNe 4 fun _=>hr) (a0w (a0a 3 fun _=>vw 3) a0f) (QE.r a0A) (a0n _)) (a3i (a2N (a1D (a0x (fun _=>g__law_is_touch) (fun _=>hr) (by decide) (fun _=>rfl) (a0b (a0a 0 fun _=>vw 0) (a0b (a0a 2 fun _=>vw 2) (a0b (a0w (a0a 3 fun _=>vw 3) a0f) a0g))))))))) (a0h (a0q a3A)) a0r)
   (a0d (a0V 7 (fun _=>a0M (i:=7) sc.nd rfl (Or.inl rfl)) (a0N (a2K (a0w (a0a 3 fun _=>vw 3) a0f) (a0U a0f) a3k) (a2K (a0w (a0a 3 fun _=>vw 3) a0f) (a0U a0f) a3k)))
   (a0h (a0q (a1Y (a0D (cEq 4 fun _=>hr) (b0d 7 (fun _=>rfl) (fun _=>rfl) (fun _=>m_len) (fun _=>rfl) (fun _=>m_set) fun _=>vw 7) (QE.r a0f) (a0n _)) (a1O (a0D (cNe 4 fun _=>hr) (a0D (cIn 4 fun _=>hr) (a0w (a0a 7 fun _=>vw 7) a0f) (QE.r (a0a 6 fun _=>vw 6)) rfl) (QE.r (a0D (cIn 4 fun _=>hr) (a0w (a0a 7 fun _=>vw 7) a0f) (QE.r (a0a 6 fun _=>vw 6)) rfl)) (a0n _)))))))))))))))))
theorem a9p (F0:Fn0 K mg "_law_can" (top 19))(m_all:mg "all"=none)(m_len:mg "len"=none):Kn P w K mg base "_law_can" 1 ["_law_start","_law_reach","_law_out","_law_event"] (a0k K (tabK potL Pt lamP lamQ) a1f):=by
 have sc:a0s ["_law_start","_law_reach","_law_out","_law_event","_law_behind","_law_ahead","_law_between_here"] ["_law_start","_law_reach","_law_out","_law_event"] (a0i (top 19)):=⟨rfl,rfl,rfl,by decide +kernel,rfl,by decide +kernel,by decide +kernel⟩
 exact a1N F0 sc (fun _ _ _ _ _ _=>bd4 fun _ _ _ _=>rfl) (k:=0) (body:=a3G) (fun f cdv A outer s H E hr=>(a0d (a0X (a2N (a1D (b0g (fun _=>rfl) (fun _=>rfl) (fun _=>m_all) (QE.r (QN.ee (a2i (N:=["_law_boat","_law_start","_law_out"]) (cs:=[none,some 0,some 2]) (fun _=>a0R rfl rfl rfl rfl ⟨rfl,⟨rfl,trivial⟩⟩ rfl rfl rfl) (fun _=>rfl) (a2O (a2K (a0a 3 fun _=>vw 3) (a0U a0f) a3k)) (a0p fun _=>a0m 0 (show x1Q (["_law_boat","_law_start","_law_out"]:List Str) by decide +kernel) rfl (Or.inl rfl)) a2R (a1Y (a0D (cIn 4 fun _=>hr) (a0a 0 fun _=>vw 0) (QE.r (a0a 1 fun _=>vw 1)) rfl) (a1O (a0D (a3s 4 fun _=>hr) (a0a 0 fun _=>vw 0) (QE.r (a0a 2 fun _=>vw 2)) rfl))))))))) (a0h (a0q a3A)) a0r)
   (a0d (a0X (a0u (cEq 4 fun _=>hr) (a0w (a0a 3 fun _=>vw 3) a0f) (QE.r a0A) (a0n _)) (a0h (a0q a3A)) a0r)
   (a0d (a3j 4 5 (fun _=>a3d (i:=4) (j:=5) rfl sc.nd rfl rfl (by decide) rfl rfl rfl) (ql_v (a1r (a0a 0 fun _=>vw 0) (a0w (a0a 3 fun _=>vw 3) a0f))) (ql_v (a1r (a0a 0 fun _=>vw 0) (a0w (a0a 3 fun _=>vw 3) a0f))))
   (a0d (a0V 6 (fun _=>a0M (i:=6) sc.nd rfl (Or.inl rfl)) (a2K (a0a 0 fun _=>vw 0) (a0U (a0N (a0a 5 fun _=>vw 5) a0f)) (a0U (a0a 4 fun _=>vw 4))))
   (a0h (a0q (a1Y (a0D cLt (a0a 5 fun _=>vw 5) (QE.r (a0a 4 fun _=>vw 4)) (a0n _)) (a1Y (a0D cLe (a1e (fun _=>rfl) (fun _=>m_len) (QE.r (a0a 6 fun _=>vw 6))) (QE.r (a0a 1 fun _=>vw 1)) (a0n _)) (a1O (b0g (fun _=>rfl) (fun _=>rfl) (fun _=>m_all) (QE.r (QN.ee (a2i (N:=["_law_boat","_law_out"]) (cs:=[none,some 2]) (fun _=>a0R rfl rfl rfl rfl ⟨rfl,trivial⟩ rfl rfl rfl) (fun _=>rfl) (a2O (a0a 6 fun _=>vw 6)) (a0p fun _=>a0m 0 (show x1Q (["_law_boat","_law_out"]:List Str) by decide +kernel) rfl (Or.inl rfl)) a2R (a0D (cIn 4 fun _=>hr) (a0a 0 fun _=>vw 0) (QE.r (a0a 1 fun _=>vw 1)) rfl)))))))))))))))
theorem a5U (F0:Fn0 K mg "_law_course" (top 20))(g__law_can:Kn P w K mg base "_law_can" 1 ["_law_start","_law_reach","_law_out","_law_event"] (a0k K (tabK potL Pt lamP lamQ) a1f))(m_len:mg "len"=none)(m_list:mg "list"=none)(m_range:mg "range"=none):Kn P w K mg base "_law_course" 2 ["_law_start","_law_reach","_law_sheet_here"] (a0k K (tabK potL Pt lamP lamQ) a1m):=by
 have sc:a0s ["_law_start","_law_reach","_law_sheet_here","_law_left","_law_out","_law_found","_law_tour","_law_some"] ["_law_start","_law_reach","_law_sheet_here"] (a0i (top 20)):=⟨rfl,rfl,rfl,by decide +kernel,rfl,by decide +kernel,by decide +kernel⟩
 exact a1N F0 sc (fun _ _ _ _ _ _=>bd3 fun _ _ _=>rfl) (k:=1) (body:=a2m) (fun f cdv A outer s H E hr=>(a0d (a9X [3,4,5] (fun _=>a3Q) (fun _=>b3S K rfl (a7s (a0m 3 sc.nd rfl (Or.inl rfl)) (a7s (a0m 4 sc.nd rfl (Or.inr rfl)) (a7s (a0m 5 sc.nd rfl (Or.inl rfl)) pgs_n)))) (a2j (ql_o (a2h (fun _=>rfl) (fun _=>m_list) (QE.r (a0a 2 fun _=>vw 2)))) (a2j (ql_o (a1o a0g)) (a2j (ql_o (a1o a0g)) a9Z))))
   (a0d (a1X (fun _=>rfl) (a1F (fun _=>rfl) (fun _=>m_range) (a1e (fun _=>rfl) (fun _=>m_len) (QE.r (a0a 2 fun _=>vw 2)))) (a0p fun _=>a0m 6 sc.nd rfl (Or.inl rfl)) (a0d (a9W 7 (b4R (a4m a4y) (b0h (N:=["_law_event","_law_start","_law_reach","_law_out"]) (cs:=[none,some 0,some 1,some 4]) (fun _=>a0R rfl rfl rfl rfl ⟨rfl,⟨rfl,⟨rfl,trivial⟩⟩⟩ rfl rfl rfl) (fun _=>rfl) (a2S (a0a 3 fun _=>vw 3)) (a0p fun _=>a0m 0 (show x1Q (["_law_event","_law_start","_law_reach","_law_out"]:List Str) by decide +kernel) rfl (Or.inl rfl)) (a4t (a1D (a0x (fun _=>g__law_can) (fun _=>hr) (by decide) (fun _=>rfl) (a0b (a0a 1 fun _=>vw 1) (a0b (a0a 2 fun _=>vw 2) (a0b (a0a 3 fun _=>vw 3) (a0b (a0a 0 fun _=>vw 0) a0g))))))) (a0a 0 fun _=>vw 0))) (fun _=>sc.nd) (fun _=>rfl) (fun _=>Or.inl rfl))
   (a0d (a0X (a0u (cEq 4 fun _=>hr) (a0a 7 fun _=>vw 7) (QE.r (QN.ee (a1o a0g))) (a0n _)) (a0h (a1E 3 (a1E 5 (a0q (a0W (a0b (a0a 5 fun _=>vw 5) (a0b (a0a 3 fun _=>vw 3) a0g))))))) a0r)
   (a0d (a1h (fun _=>a1g) (a1i 5 (fun _=>vw 5) (a0w (a0a 7 fun _=>vw 7) a0f)))
   (a0d (a1h (fun _=>a1g) (a3m 4 (fun _=>vw 4) (QN.ee (a2h (fun _=>rfl) (fun _=>m_list) (QE.r (a2K (a0w (a0a 7 fun _=>vw 7) a0f) (a0U a0f) a3k))))))
   (a0h (a1h (fun _=>a1g) (b0b 4 3 (fun _=>hr) (fun _=>vw 3) (a0w (a0a 7 fun _=>vw 7) a0f)))))))))
   (a0h (a1E 3 (a1E 5 (a0q (a0W (a0b (a0a 5 fun _=>vw 5) (a0b (a0a 3 fun _=>vw 3) a0g))))))))))
theorem a4d (F0:Fn0 K mg "_law_is_course" (top 25))(g__law_can:Kn P w K mg base "_law_can" 1 ["_law_start","_law_reach","_law_out","_law_event"] (a0k K (tabK potL Pt lamP lamQ) a1f))(m_isinstance:mg "isinstance"=none)(m_list:mg "list"=none)(m_sorted:mg "sorted"=none)(m_tuple:mg "tuple"=none):Kn P w K mg base "_law_is_course" 2 ["_law_start","_law_reach","_law_sheet_here","_law_events"] (a0k K (tabK potL Pt lamP lamQ) a0T):=by
 have sc:a0s ["_law_start","_law_reach","_law_sheet_here","_law_events","_law_out","_law_event"] ["_law_start","_law_reach","_law_sheet_here","_law_events"] (a0i (top 25)):=⟨rfl,rfl,rfl,by decide +kernel,rfl,by decide +kernel,by decide +kernel⟩
 exact a1N F0 sc (fun _ _ _ _ _ _=>bd4 fun _ _ _ _=>rfl) (k:=1) (body:=a1y) (fun f cdv A outer s H E hr=>(a0d (a0X (QW.qt (a4q (a2N (a1D (a6q (n:="tuple") (by decide) (fun _=>rfl) (fun _=>m_isinstance) (a0a 3 fun _=>vw 3) (fun _=>tyw rfl m_tuple a3t)))) (a3i (a0u (cNe 4 fun _=>hr) (a2G (fun _=>rfl) (fun _=>m_tuple) (QE.r (QN.ee (a4s (fun _=>rfl) (fun _=>m_sorted) (QE.r (QN.ee (a2h (fun _=>rfl) (fun _=>m_list) (QE.r (a0a 3 fun _=>vw 3))))))))) (QE.r (a0a 2 fun _=>vw 2)) (a0n _))))) (a0h (a0q a3A)) a0r)
   (a0d (qs_own 4 (fun _=>a0M (i:=4) sc.nd rfl (Or.inl rfl)) (a1o a0g))
   (a0d (a1X (fun _=>rfl) (a2O (a0a 3 fun _=>vw 3)) (a0p fun _=>a0m 5 sc.nd rfl (Or.inl rfl)) (a0d (a0X (a2N (a1D (b0e (a4m a4y) (a0x (fun _=>g__law_can) (fun _=>hr) (by decide) (fun _=>rfl) (a0b (a0a 0 fun _=>vw 0) (a0b (a0a 1 fun _=>vw 1) (a0b (a0a 4 fun _=>vw 4) (a0b (a0a 5 fun _=>vw 5) a0g)))))))) (a0h (a0q a3A)) a0r)
   (a0h (a1h (fun _=>a1g) (a3m 4 (fun _=>vw 4) (QN.ee (a2h (fun _=>rfl) (fun _=>m_list) (QE.r (a2K (a0a 5 fun _=>vw 5) (a0U a0f) a3k)))))))))
   (a0h (a0q a3A))))))
theorem a6F (F0:Fn0 K mg "_law_right" (top 26))(g_order_of:Kn P w K mg base "order_of" 5 ["start","reach","sheet"] (a0k K (tabK potL Pt lamP lamQ) a2b))(g__law_course:Kn P w K mg base "_law_course" 2 ["_law_start","_law_reach","_law_sheet_here"] (a0k K (tabK potL Pt lamP lamQ) a1m))(g__law_is_course:Kn P w K mg base "_law_is_course" 2 ["_law_start","_law_reach","_law_sheet_here","_law_events"] (a0k K (tabK potL Pt lamP lamQ) a0T))(g__law_is_reason:Kn P w K mg base "_law_is_reason" 2 ["_law_start","_law_reach","_law_sheet_here","_law_thing"] (a0k K (tabK potL Pt lamP lamQ) a0S))(m_isinstance:mg "isinstance"=none)(m_len:mg "len"=none)(m_tuple:mg "tuple"=none):Kn P w K mg base "_law_right" 6 ["_law_start","_law_reach","_law_sheet_here"] (a0k K (tabK potL Pt lamP lamQ) a1w):=by
 have sc:a0s ["_law_start","_law_reach","_law_sheet_here","_law_found","_law_left"] ["_law_start","_law_reach","_law_sheet_here"] (a0i (top 26)):=⟨rfl,rfl,rfl,by decide +kernel,rfl,by decide +kernel,by decide +kernel⟩
 exact a1N F0 sc (fun _ _ _ _ _ _=>bd3 fun _ _ _=>rfl) (k:=5) (body:=a2x) (fun f cdv A outer s H E hr=>(a0d (a3j 3 4 (fun _=>a3d (i:=3) (j:=4) rfl sc.nd rfl rfl (by decide) rfl rfl rfl) (ql_v (a0x (fun _=>g_order_of) (fun _=>hr) (by decide) (fun _=>rfl) (a0b (a0a 0 fun _=>vw 0) (a0b (a0a 1 fun _=>vw 1) (a0b (a0a 2 fun _=>vw 2) a0g))))) (ql_v (a0w (a0x (fun _=>g__law_course) (fun _=>hr) (by decide) (fun _=>rfl) (a0b (a0a 0 fun _=>vw 0) (a0b (a0a 1 fun _=>vw 1) (a0b (a0a 2 fun _=>vw 2) a0g)))) a0f)))
   (a0d (a0X (QW.qt (a4q (a2N (a1D (a6q (n:="tuple") (by decide) (fun _=>rfl) (fun _=>m_isinstance) (a0a 3 fun _=>vw 3) (fun _=>tyw rfl m_tuple a3t)))) (a3i (a0u (cNe 4 fun _=>hr) (a1e (fun _=>rfl) (fun _=>m_len) (QE.r (a0a 3 fun _=>vw 3))) (QE.r a0f) (a0n _))))) (a0h (a0q a3A)) a0r)
   (a0d (a0X (a0u (cEq 4 fun _=>hr) (a0a 4 fun _=>vw 4) (QE.r (QN.ee (a1o a0g))) (a0n _)) (a0h (a0q (a1Y (a0D (cEq 4 fun _=>hr) (a0w (a0a 3 fun _=>vw 3) a0f) (QE.r a0A) (a0n _)) (a1O (a0x (fun _=>g__law_is_course) (fun _=>hr) (by decide) (fun _=>rfl) (a0b (a0a 0 fun _=>vw 0) (a0b (a0a 1 fun _=>vw 1) (a0b (a0a 2 fun _=>vw 2) (a0b (a0w (a0a 3 fun _=>vw 3) a0f) a0g))))))))) a0r)
   (a0h (a0q (a1Y (a0D (cEq 4 fun _=>hr) (a0w (a0a 3 fun _=>vw 3) a0f) (QE.r a0A) (a0n _)) (a1O (a0x (fun _=>g__law_is_reason) (fun _=>hr) (by decide) (fun _=>rfl) (a0b (a0a 0 fun _=>vw 0) (a0b (a0a 1 fun _=>vw 1) (a0b (a0a 2 fun _=>vw 2) (a0b (a0w (a0a 3 fun _=>vw 3) a0f) a0g)))))))))))))
theorem k_law (F0:Fn0 K mg "law" (top 27))(g__law_pot:Kn P w K mg base "_law_pot" 1 ["_law_script","_law_k"] (b2c K))(g__law_draw:Kn P w K mg base "_law_draw" 1 ["_law_pot_here","_law_many"] (a0k K (tabK potL Pt lamP lamQ) a2P))(g__law_boats:Kn P w K mg base "_law_boats" 3 ["_law_pot_here","_law_many"] (a0k K (tabK potL Pt lamP lamQ) a1P))(g__law_sheet:Kn P w K mg base "_law_sheet" 2 ["_law_pot_here","_law_start","_law_reach"] (a0k K (tabK potL Pt lamP lamQ) a1v))(g__law_bent:Kn P w K mg base "_law_bent" 2 ["_law_pot_here","_law_start","_law_sheet_here","_law_spare"] (a0k K (tabK potL Pt lamP lamQ) a1L))(g__law_shuffled:Kn P w K mg base "_law_shuffled" 2 ["_law_pot_here","_law_some"] (a0k K (tabK potL Pt lamP lamQ) a0B))(g__law_right:Kn P w K mg base "_law_right" 6 ["_law_start","_law_reach","_law_sheet_here"] (a0k K (tabK potL Pt lamP lamQ) a1w))(m_int:mg "int"=none)(m_len:mg "len"=none)(m_range:mg "range"=none)(hlaw:∀ns:List Int,ns.length<=63->b2L ⟨fun _ _=>False,fun r _=>r=.bl true,fun _ _=>False,fun _ _=>False⟩ (a3e ["_law_script","_law_k","_law_pot_here","_law_many","_law_boats_here","_law_reach","_law_start","_law_cases","_law_tour","_law_sheet_here","_law_more","_law_some"] [.scr ns]) 0):Kn P w K mg base "law" 7 ["_law_script"] (a7Z K Pt):=by
 have sc:a0s ["_law_script","_law_k","_law_pot_here","_law_many","_law_boats_here","_law_reach","_law_start","_law_cases","_law_tour","_law_sheet_here","_law_more","_law_some"] ["_law_script"] (a0i (top 27)):=⟨rfl,rfl,rfl,by decide +kernel,rfl,by decide +kernel,by decide +kernel⟩
 exact b5C (T:=potL) (Pt:=Pt) (lpos:=lamP) (qual:=lamQ) F0 sc (fun _ _ _ _ _ _=>bd1 fun _=>rfl) (k:=6) (body:=b2L) (fun f cdv A outer s H E hr=>(a0d (a1X (fun _=>rfl) (a1F (fun _=>rfl) (fun _=>m_range) (a0N a0f (a1e (fun _=>rfl) (fun _=>m_len) (QE.r (a2K (a0a 0 fun _=>vw 0) a3k (a0U a0f)))))) (a0p fun _=>a0m 1 sc.nd rfl (Or.inl rfl)) (a0d (a8P 2 (fun _=>a0M (i:=2) sc.nd rfl (Or.inl rfl)) (fun _=>g__law_pot) (fun _=>hr) (by decide) (fun _=>rfl) (a0a 0 fun _=>vw 0) (a0a 1 fun _=>vw 1))
   (a0d (a0V 3 (fun _=>a0M (i:=3) sc.nd rfl (Or.inl rfl)) (a0w (QN.ee (a1o (a0b (a0N a0f (a0x (fun _=>g__law_draw) (fun _=>hr) (by decide) (fun _=>rfl) (a0b (a0a 2 fun _=>vw 2) (a0b a0f a0g)))) (a0b (a0N a0f (a0x (fun _=>g__law_draw) (fun _=>hr) (by decide) (fun _=>rfl) (a0b (a0a 2 fun _=>vw 2) (a0b a0f a0g)))) a0g)))) (b2r (fun _=>rfl) (fun _=>m_int) (QE.r (a0D (cEq 4 fun _=>hr) (a0x (fun _=>g__law_draw) (fun _=>hr) (by decide) (fun _=>rfl) (a0b (a0a 2 fun _=>vw 2) (a0b a0f a0g))) (QE.r a0f) (a0n _))))))
   (a0d (a3j 4 5 (fun _=>a3d (i:=4) (j:=5) rfl sc.nd rfl rfl (by decide) rfl rfl rfl) (ql_v (a0x (fun _=>g__law_boats) (fun _=>hr) (by decide) (fun _=>rfl) (a0b (a0a 2 fun _=>vw 2) (a0b (a0N (a0a 3 fun _=>vw 3) a0f) a0g)))) (ql_v (a0x (fun _=>g__law_draw) (fun _=>hr) (by decide) (fun _=>rfl) (a0b (a0a 2 fun _=>vw 2) (a0b a0f a0g)))))
   (a0d (a3j 6 7 (fun _=>a3d (i:=6) (j:=7) rfl sc.nd rfl rfl (by decide) rfl rfl rfl) (ql_v (a2K (a0a 4 fun _=>vw 4) a3k (a0U (a0a 3 fun _=>vw 3)))) (ql_o (a1o a0g)))
   (a0d (a1X (fun _=>rfl) (a1F (fun _=>rfl) (fun _=>m_range) a0f) (a0p fun _=>a0m 8 sc.nd rfl (Or.inl rfl)) (a0d (a0V 9 (fun _=>a0M (i:=9) sc.nd rfl (Or.inl rfl)) (a0x (fun _=>g__law_sheet) (fun _=>hr) (by decide) (fun _=>rfl) (a0b (a0a 2 fun _=>vw 2) (a0b (a0a 6 fun _=>vw 6) (a0b (a0a 5 fun _=>vw 5) a0g)))))
   (a0d (a1X (fun _=>rfl) (a1F (fun _=>rfl) (fun _=>m_range) (a0x (fun _=>g__law_draw) (fun _=>hr) (by decide) (fun _=>rfl) (a0b (a0a 2 fun _=>vw 2) (a0b a0f a0g)))) (a0p fun _=>a0m 10 sc.nd rfl (Or.inl rfl)) (a0h (a0V 9 (fun _=>a0M (i:=9) sc.nd rfl (Or.inl rfl)) (a0x (fun _=>g__law_bent) (fun _=>hr) (by decide) (fun _=>rfl) (a0b (a0a 2 fun _=>vw 2) (a0b (a0a 6 fun _=>vw 6) (a0b (a0a 9 fun _=>vw 9) (a0b (a2K (a0a 4 fun _=>vw 4) (a0U (a0a 3 fun _=>vw 3)) a3k) a0g))))))))
   (a0h (a1h (fun _=>a1g) (a1i 7 (fun _=>vw 7) (a0W (a0b (b4P (a0u (cEq 4 fun _=>hr) (a0x (fun _=>g__law_draw) (fun _=>hr) (by decide) (fun _=>rfl) (a0b (a0a 2 fun _=>vw 2) (a0b a0f a0g))) (QE.r a0f) (a0n _)) (a0x (fun _=>g__law_shuffled) (fun _=>hr) (by decide) (fun _=>rfl) (a0b (a0a 2 fun _=>vw 2) (a0b (a0a 6 fun _=>vw 6) a0g))) (a0a 6 fun _=>vw 6)) (a0b (a0a 9 fun _=>vw 9) a0g)))))))))
   (a0h (a1E 7 (a1X (fun _=>rfl) (a2S (a0a 7 fun _=>vw 7)) (a3l (fun _=>rfl) (a0C (a0p fun _=>a0m 11 sc.nd rfl (Or.inl rfl)) (a0C (a0p fun _=>a0m 9 sc.nd rfl (Or.inl rfl)) a1R))) (a0h (a0X (a2N (a1D (a0x (fun _=>g__law_right) (fun _=>hr) (by decide) (fun _=>rfl) (a0b (a0a 11 fun _=>vw 11) (a0b (a0a 5 fun _=>vw 5) (a0b (a0a 9 fun _=>vw 9) a0g)))))) (a0h (a0q a3A)) a0r)))))))))))
   (a0h (a0q a3A)))) hlaw
end
end Tb
end
section
namespace Tb
open PySem L2 Pu
variable {fi way:Int}{x' y' z:Str}{α:Type}{ts:List Ev}{q:Nat}{a1 a3 a6 a8:Option Pu.Slot}{NX:Pu.Env->Nat->Prop}
theorem b3X (a b:Int):eqP (.int a) (.int b)=decide (a=b):=by
 show(a == b)=_;rw [x2u]
theorem b3W (a b:Str):eqP (.str a) (.str b)=decide (a=b):=by
 show(a == b)=_;rw [x2u]
theorem b3Y (a b:Bool):eqP (.bl a) (.bl b)=decide (a=b):=by
 show(a == b)=_;rw [x2u]
theorem wsa:decide (x0j "strange"=x0j "strange")=true:=by with_unfolding_all rfl
theorem wsb:decide (x0j "twice"=x0j "strange")=false:=by with_unfolding_all rfl
theorem wsc:decide (x0j "twice"=x0j "twice")=true:=by with_unfolding_all rfl
theorem wsd:decide (x0j "wrong"=x0j "strange")=false:=by with_unfolding_all rfl
theorem wse:decide (x0j "wrong"=x0j "twice")=false:=by with_unfolding_all rfl
theorem wsf:decide (x0j "wrong"=x0j "wrong")=true:=by with_unfolding_all rfl
theorem wsg:decide (x0j "far"=x0j "strange")=false:=by with_unfolding_all rfl
theorem wsh:decide (x0j "far"=x0j "twice")=false:=by with_unfolding_all rfl
theorem wsi:decide (x0j "far"=x0j "wrong")=false:=by with_unfolding_all rfl
theorem wsj:decide (x0j "far"=x0j "far")=true:=by with_unfolding_all rfl
theorem wsk:decide (x0j "stays"=x0j "strange")=false:=by with_unfolding_all rfl
theorem wsl:decide (x0j "stays"=x0j "twice")=false:=by with_unfolding_all rfl
theorem wsm:decide (x0j "stays"=x0j "stays")=true:=by with_unfolding_all rfl
theorem wsn:decide (x0j "cross"=x0j "strange")=false:=by with_unfolding_all rfl
theorem wso:decide (x0j "cross"=x0j "twice")=false:=by with_unfolding_all rfl
theorem wsp:decide (x0j "cross"=x0j "stays")=false:=by with_unfolding_all rfl
theorem wsq:decide (x0j "cross"=x0j "cross")=true:=by with_unfolding_all rfl
theorem wsA:decide (((2:Nat):Int)=2)=true:=by with_unfolding_all rfl
theorem wsB:decide (((3:Nat):Int)=2)=false:=by with_unfolding_all rfl
set_option compiler.extract_closed false in
set_option hygiene false in
local macro_rules | `(tactic| walk_at "pd")=>`(tactic| dsimp only [dreduceIte,true_and,and_true,x0w,beq_self_eq_true,Nat.reduceLeDiff,Nat.reduceLT,Int.reduceLT,Int.reduceLE,x0U,b3X,b3W,b3Y,wsa,wsb,wsc,wsd,wse,wsf,wsg,wsh,wsi,wsj,wsk,wsl,wsm,wsn,wso,wsp,wsq,wsA,wsB,qSeq,qNx,qSet,qOwn,qAsg,a1Z,qRet,qRetO,qIfS,qPar,b4S,sV,sO,qPut,gAt,a2k,b3j,qV,qO,qC,qOp,qOpR,qUn,wI,wI0,wAdd,wSub,wMul,b4s,wMod,wEq,wNe,wLt,wLe,wGt,a7f,qB,a4w,qAnd,qOr,qNot,a2L,qOrV,b4T,qIf,qNil,a0c,qTup,qLst,qL,wIx,qNo,a1t,qSl,wSl,wLen,wInt,wAll,wAny,a2t,a2T,wIsi,wMin,wMax,a0t,gN,gNl,gCn,gTp,qIl,qIt,a5H,capV,capS,qTru,a3n,qCat,b4U,b4r,b0i,a0Y,a7q,a7p,b0j,a3e,tyP,isT,List.map,List.set,x0K,List.length_nil,x2R,x1N,List.cons_append,x2L,x3a,Nat.reduceSub,Nat.reduceAdd,Option.bind,x3P,Bool.not_false,Bool.true_or,Bool.false_or,x3I,x2V,x1W,String.reduceBEq,cmpb,grd_t,a3S,eqP_ll,a4S,a2C,a4R,decide_true,decide_false,a9C,a7R,a2U,b3L,a7P,a5x,a8h,qFor,a4v,a6C,a2s,b__law_draw,at2_0,at2_1,at3_0,at3_1,at3_2,a1B,wSet,b2x,a8g,frz,frzS,b2w,a3f,b2e,setAll,gTl,noMut,a7o,b0k,a2P,a5I,qOrT,a8f,a3a])
set_option hygiene false in
local macro_rules | `(tactic| walk_at "pu")=>`(tactic| (try walk_at "pd") <;> (try simp only [b3X,b3W,b3Y,decide_true,decide_false,true_and,and_true,reduceIte,Nat.reduceLeDiff,Nat.reduceLT,Int.reduceLT,Int.reduceLE,x0U,beq_self_eq_true,x0w]))
noncomputable def Good:Ev->Prop
 | .d _=>True
 | .t x y=>x≠y
noncomputable def SrE (es:List Ev):Prop:=(es.map evP).Pairwise fun a b=>lexK (keyP b) (keyP a)=false
theorem erase_perm {α:Type}:∀(l:List α) (i:Nat) (h:i < l.length),(l[i]::l.eraseIdx i).Perm l
 | x::l,0,_=>.refl _
 | x :: l, i + 1, h => by
   have h0:i < l.length:=by simpa using h
   have ih:=erase_perm l i h0;exact(x4Q x l[i] (l.eraseIdx i)).trans (ih.cons x)
theorem a7x {k:Nat}{s1:Option Slot}{D:a6Z}(N:Nat)(hN:N<=999999000):∀(m:Nat) (left found:List PV) (n:Nat),left.length=m->found.length + left.length<=1000->left.all (cmpb 3)=true->n + left.length<=N->
   (∀ys n',ys.Perm (found++left)->n'<=n + left.length->D.nx [some (.v (.pot (k + 1))),s1,some (.own []),some (.own ys)] n')->
   a3O (qB (qOpR (wNe 4) (qO 2) (qL (qLst qNil)))) (a1Z (a0Y 3 (a7p 2 (a0t b__law_draw (a0c (qV 0) (a0c (qUn wLen (qO 2)) qNil)))))) D (m + 1) [some (.v (.pot (k + 1))),s1,some (.own left),some (.own found)] n:=by
 intro m
 induction m with
 | zero =>
   intro left found n hl hs pl hn hD;have:left=[]:=x1n hl;subst this;simp only [a3O];walk_at "pu";exact hD found n (by simp) (by omega)
 | succ m ih =>
   intro left found n hl hs pl hn hD;cases left with
   | nil=>cases hl
   | cons y r =>
     rw [a3O];have hl':r.length=m:=by simpa using hl
     rw [x0K] at hs hn;walk_at "pu";refine gd2 pl rfl (if_t rfl ⟨⟨_,rfl⟩,⟨_,rfl⟩,⟨by omega,by omega,by omega⟩,fun d d0 d1=>⟨by omega,?_⟩⟩);have d1':d < ((y::r).length:Int):=by rw [x0K];exact d1
     rw [a7E (n:=r.length + 1) d0 d1];have hk:d.toNat < (y::r).length:=by omega
     dsimp only;rw [x0c hk];refine⟨by omega,?_⟩;have le:((y::r).eraseIdx d.toNat).length=r.length:=by rw [x3o hk];rfl
     refine ih ((y::r).eraseIdx d.toNat) (found++[(y::r)[d.toNat]]) (n + 1) (by omega) (by rw [x0l,x0E,le];omega) (x0A.mpr fun z hz=>x0A.mp pl z (List.mem_of_mem_eraseIdx hz)) (by omega) fun ys n' p h'=>?_;rw [le] at h';refine hD ys n' (p.trans ?_) (by rw [x0K];omega);rw [x0S];exact(erase_perm _ _ hk).append_left found
theorem b3Q {k n:Nat}{xs:List PV}{R:PV->Nat->Prop}{x:PV}(hx:x=.lst xs\/x=.tup xs)(hl:xs.length<=1000)(hn:n<=999990000)(hp:xs.all (cmpb 3)=true)(h:∀ys n',ys.Perm xs->n'<=n + xs.length->R (.tup ys) n'):a0B [.pot (k + 1),x] n R:=by
 rcases hx with rfl | rfl
 all_goals
   refine⟨rfl,?_⟩;unfold a1H;walk_at "pu";exact⟨_,a7x 999999000 (x0m _) xs.length xs [] n rfl (by simpa using hl) hp (by omega) fun ys n' p h'=>h ys n' (by simpa using p) h'⟩
noncomputable def chI (x:Int):Nat:=97 + (x % 26).toNat
theorem b1G (x:Int):atI LETS.cps.toList (x % 26)=some (chI x):=by
 have h:∀n:Nat,n < 26->atI LETS.cps.toList (n:Int)=some (97 + n):=by decide
 have h0:0<=x % 26:=x2J _ (by decide);have h1:x % 26 < 26:=x2c _ (by decide);have:=h (x % 26).toNat (by omega);rw [show(((x % 26).toNat:Nat):Int)=x % 26 by omega] at this;exact this
theorem chI_d {d:Int}(d0:0<=d)(d1:d < 26):atI LETS.cps.toList d=some (chI d):=by
 have:=b1G d;rw [show d % 26=d by omega] at this;exact this
theorem a5E {c:Nat}{n:Int}:(x4Z ⟨#[c]⟩ n).cps.toList=x3a n.toNat c:=by
 rw [b5T]
 induction n.toNat with
 | zero=>rfl
 | succ k ih=>rw [List.replicate_succ,List.flatten_cons,ih];rfl
noncomputable def one1 (y:PV):Prop:=∃c:Nat,y=.str ⟨#[c]⟩
theorem b0C:∀ys:List PV,(∀y∈ys,one1 y)->∃zs:List Str,a2d ys=some zs/\zs.length=ys.length/\(zs.map (·.length)).sum=ys.length/\(Txt.join (x0j "") zs).length=ys.length:=by
 intro ys h
 have key:∃zs:List Str,a2d ys=some zs/\zs.length=ys.length/\(zs.map (·.length)).sum=ys.length/\(zs.map fun z=>z.cps.toList).flatten.length=ys.length:=by
   induction ys with
   | nil=>exact⟨[],rfl,rfl,rfl,rfl⟩
   | cons y ys ih =>
     obtain⟨c,rfl⟩:=h y x0g;obtain⟨zs,e1,e2,e3,e4⟩:=ih fun z hz=>h z (x0f _ hz);refine⟨⟨#[c]⟩::zs,?_,by rw [x0K,x0K,e2],?_,?_⟩
     · show(a2d ys).map _=_;rw [e1];rfl
     · rw [x0v,List.sum_cons,e3,x0K];show 1 + _=_;omega
     · rw [x0v,List.flatten_cons,x0l,e4,show(PV.str ⟨#[c]⟩::ys).length=ys.length + 1 from rfl];show 1 + _=_;omega
 obtain⟨zs,e1,e2,e3,e4⟩:=key;exact⟨zs,e1,e2,e3,by rw [a5A,b1x];exact e4⟩
structure Ky (way fi sp:Int)(j:Nat)(z:Str):Prop where
 a:way=0->z.cps.toList[0]?=some (chI (fi + 7 * j))
 b:way=1->z.cps.toList=x3a (1 + j % 8) (chI (fi + ((j / 8:Nat):Int)))
 c:1 < way->z.cps.toList[sp.toNat]?=some (chI (fi + 7 * j))
theorem b1F {j k:Nat}(hj:j < 26)(hk:k < 26)(h:chI (fi + 7 * j)=chI (fi + 7 * k)):j=k:=by
 unfold chI at h;omega
theorem Ky.inj {sp:Int}{j k:Nat}(w0:0<=way)(hj:j < 26)(hk:k < 26)(h1:Ky way fi sp j z)(h2:Ky way fi sp k z):j=k:=by
 by_cases c0:way=0
 · have:=(h1.a c0).symm.trans (h2.a c0);exact b1F hj hk (x0H this)
 · by_cases c1:way=1
   · have e:=(h1.b c1).symm.trans (h2.b c1);have l:=congrArg List.length e;rw [x1K,x1K] at l;have hd:=congrArg (fun l=>l[0]?) e;simp only [x2N] at hd;rw [if_pos (by omega),if_pos (by omega)] at hd;have hd:=x0H hd;unfold chI at hd;omega
   · have:=(h1.c (by omega)).symm.trans (h2.c (by omega));exact b1F hj hk (x0H this)
theorem b3c {sp:Int}{zs:List Str}(w0:0<=way)(hl:zs.length<=26)(h:∀(j:Nat) (z:Str),zs[j]?=some z->Ky way fi sp j z):zs.Nodup:=by
 refine x1b.mpr fun i j hi hj hij e=>?_;have e1:=x0c hi;have e2:=x0c hj;have k1:=h i _ e1;have k2:=h j zs[i] (by rw [e2,e]);have:=Ky.inj w0 (by omega) (by omega) k1 k2;omega
theorem a6w {α:Type}{x:α}:∀{l:List α} (i:Nat),l.Nodup->x∉l->(l.set i x).Nodup
 | [],_,h,_=>h
 | y :: l, 0, h, hx => by
   rw [List.set_cons_zero,x1x];exact⟨fun z=>hx (x0f _ z),(x1x.mp h).2⟩
 | y :: l, i + 1, h, hx => by
   rw [List.set_cons_succ,x1x];refine⟨fun z=>?_,a6w i (x1x.mp h).2 fun z=>hx (x0f _ z)⟩;rcases List.mem_or_eq_of_mem_set z with z | z
   · exact(x1x.mp h).1 z
   · exact hx (by rw [<- z];exact x0g)
theorem a8j {β:Type}{f:α->β}{ys:List β}{xs:List α}(h:ys.Perm (xs.map f)):∃zs:List α,ys=zs.map f/\zs.Perm xs:=by
 generalize e:xs.map f=l at h
 induction h generalizing xs with
 | nil=>exact⟨[],rfl,by rw [List.map_eq_nil_iff.mp e]⟩
 | @cons y l1 l2 h ih =>
   cases xs with
   | nil=>cases e
   | cons x xs =>
     rw [x0v] at e;injection e with e1 e2;obtain⟨zs,rfl,p⟩:=ih e2;exact⟨x::zs,by rw [x0v,e1],p.cons x⟩
 | @swap a b l =>
   match xs,e with
   | x :: x' :: xs, e =>
     rw [x0v,x0v] at e;injection e with e1 e;injection e with e2 e3;exact⟨x'::x::xs,by rw [x0v,x0v,e1,e2,e3],.swap ..⟩
 | @trans l1 l2 l3 h1 h2 ih1 ih2 =>
   obtain⟨zs,rfl,p⟩:=ih2 e;obtain⟨ws,rfl,p'⟩:=ih1 rfl;exact⟨ws,rfl,p'.trans p⟩
theorem a7W (zs:List Str)(d:Nat):(zs.map PV.str).all (cmpb d)=true:=a3N zs d
theorem b5u {k n:Nat}{many:Int}{R:PV->Nat->Prop}(h0:1<=many)(h1:many<=26)(hn:n<=999900000)(h:∀zs n',(zs.length:Int)=many->zs.Nodup->n'<=n + 1000->R (rowP zs) n'):a1P [.pot (k + 1),.int many] n R:=by
 refine⟨rfl,?_⟩;unfold a2y;have jl:(x0j "").length=0:=rfl;have l26:LETS.length=26:=by decide +kernel
 walk_at "pu";refine⟨by omega,fun way w0 w1=>⟨by omega,fun fi f0 f1=>⟨by omega,fun sz z0 z1=>⟨⟨by omega,by omega,by omega⟩,fun sp p0 p1=>⟨by omega,fun fl l0 l1=>⟨by rw [show(x0j "abcdefghijklmnopqrstuvwxyz").length=26 from l26];decide,?_⟩⟩⟩⟩⟩⟩;rw [chI_d l0 l1];generalize chI fl=c;refine⟨⟨by omega,by omega⟩,?_⟩;refine a0Z (fun i env m=>∃s9 s10,∃found:List Str,env=[some (.v (.pot (k + 1))),some (.v (.int many)),some (.v (.str LETS)),some (.own (found.map PV.str)),some (.v (.int way)),some (.v (.int fi)),some (.v (.int (1 + sz))),some (.v (.int sp)),some (.v (.str ⟨#[c]⟩)),s9,s10,none]/\found.length=i/\(∀(j:Nat) (z:Str),found[j]?=some z->Ky way fi sp j z)/\m<=n + 5 + i * 9) _ 0 _ _ ⟨none,none,[],rfl,rfl,(fun _ _ z=>nomatch z),by omega⟩ (fun i x env m N ex hI hN=>?_) (fun env m hI=>?_)
 · obtain⟨hi,rfl⟩:=a3y ex;obtain⟨s9,s10,found,rfl,hf,pf,hm⟩:=hI;have hi2:i < 26:=by omega
   have fin:∀(z:Str) (m':Nat),Ky way fi sp i z->m'<=m + 9->(∃xs,([some (.v (.pot (k + 1))),some (.v (.int many)),some (.v (.str LETS)),some (.own (found.map PV.str)),some (.v (.int way)),some (.v (.int fi)),some (.v (.int (1 + sz))),some (.v (.int sp)),some (.v (.str ⟨#[c]⟩)),some (.v (.int (0 + i))),some (.v (.str z)),none]:Pu.Env)[3]?=some (some (.own xs)))/\(found.map PV.str).length < 1000000/\N [some (.v (.pot (k + 1))),some (.v (.int many)),some (.v (.str LETS)),some (.own (found.map PV.str++[.str z])),some (.v (.int way)),some (.v (.int fi)),some (.v (.int (1 + sz))),some (.v (.int sp)),some (.v (.str ⟨#[c]⟩)),some (.v (.int (0 + i))),some (.v (.str z)),none] m':=by
     intro z m' az hm';refine⟨⟨_,rfl⟩,by rw [x0e];omega,hN _ _ ⟨_,_,found++[z],by rw [x0Y];rfl,by rw [x0l,x0E];omega,fun j y hy=>?_,by omega⟩⟩
     by_cases cj:j < found.length
     · rw [x0Q cj] at hy;exact pf j y hy
     · have hj:j=found.length:=by
         obtain⟨hh,_⟩:=x0i.mp hy;rw [x0l,x0E] at hh;omega
       subst hj;rw [x0I (x0m _),x3C] at hy;have hy':z=y:=by simpa using hy
       rw [<- hy',hf,x1w];exact az
   have ec1:=b1G (fi + 7 * (0 + i));have ll:LETS.length<=1000000:=by rw [l26];decide
   have zi:(0:Int) + (i:Int)=(i:Int):=by omega
   generalize hF:found.map PV.str=FF at fin ⊢;walk_at "pu";simp only [ec1,ll,true_and];have l1c:∀c:Nat,(⟨#[c]⟩:Str).length=1:=fun _=>rfl;have e8:0<=(0 + (i:Int)) % 8/\(0 + (i:Int)) % 8 < 8:=⟨x2J _ (by decide),x2c _ (by decide)⟩;refine⟨.inl ⟨by decide,by decide⟩,?_⟩
   by_cases a0:way=0
   · have b0:decide (way=0)=true:=decide_eq_true a0;have b1:decide (way=1)=false:=decide_eq_false (by omega);have b2:decide (1 < way)=false:=decide_eq_false (by omega);simp only [b0,b1,b2,reduceIte,x0w];refine⟨by omega,fun d d0 d1=>⟨⟨by omega,by omega⟩,by rw [a2u];omega,?_⟩⟩;refine a9y one1 1 999999000 _ _ _ _ (fun y hy m Q hm hQ=>?_) (by rw [a2u];omega) fun ys n2 hl hp hn2=>?_
     · walk_at "pu";refine⟨by omega,fun u u0 u1=>⟨ll,?_⟩⟩;rw [chI_d u0 u1];exact hQ _ _ ⟨_,rfl⟩ (by omega)
     · rw [a2u] at hl hn2;obtain⟨zs,e1,l1,l2,hJ⟩:=b0C ys hp;rw [e1];dsimp only;generalize Txt.join (x0j "") zs=J at hJ ⊢;refine⟨by rw [l2,jl];omega,by rw [l1c];omega,fin _ _ ⟨fun _=>?_,fun z=>absurd (a0.symm.trans z) (by decide),fun z=>by omega⟩ (by omega)⟩;rw [a3K,zi];rfl
   · have b0:decide (way=0)=false:=decide_eq_false a0
     by_cases a1:way=1
     · have b1:decide (way=1)=true:=decide_eq_true a1;have b2:decide (1 < way)=false:=decide_eq_false (by omega);simp only [b0,b1,b2,reduceIte,x0w];have ec2:=b1G (fi + (0 + i) / 8);simp only [ec2];refine⟨⟨by decide,by decide⟩,by rw [l1c];decide,by omega,by omega,fin _ _ ⟨fun z=>absurd z a0,fun _=>?_,fun z=>by omega⟩ (by omega)⟩;rw [a5E,show(1 + (0 + (i:Int)) % 8).toNat=1 + i % 8 by omega,show fi + (0 + (i:Int)) / 8=fi + ((i / 8:Nat):Int) by omega]
     · have b1:decide (way=1)=false:=decide_eq_false a1;have b2:decide (1 < way)=true:=decide_eq_true (by omega);simp only [b0,b1,b2,reduceIte,x0w];have g1:(x4Z ⟨#[c]⟩ sp).length<=8:=by rw [a5A,a5E,x1K];omega
       have g2:(x4Z ⟨#[c]⟩ (1 + sz - 1 - sp)).length<=8:=by rw [a5A,a5E,x1K];omega
       have g3:(x4Z ⟨#[c]⟩ sp++(⟨#[chI (fi + 7 * (0 + i))]⟩:Str)).length<=9:=by
         rw [a5A] at g1 ⊢;rw [a3K,x0l];show _ + 1<=9;omega
       refine⟨by rw [l1c];decide,by omega,by omega,by rw [l1c];omega,by rw [l1c];decide,by omega,by omega,by omega,fin _ _ ⟨fun z=>absurd z a0,fun z=>absurd z a1,fun _=>?_⟩ (by omega)⟩;rw [a3K,a3K,a5E,zi,x0S,x0I (by rw [x1K];exact x0m _),x1K,x3C]
       rfl
 · obtain⟨s9,s10,found,rfl,hf,pf,hm⟩:=hI;rw [a2u] at hf hm;have nd:found.Nodup:=b3c w0 (by omega) pf;generalize hF:found.map PV.str=FF;walk_at "pu"
   have sh:∀(ys:List Str) (m':Nat),ys.length=found.length->ys.Nodup->m'<=m + 5->a0B [PV.pot (k + 1),PV.lst (ys.map PV.str)] m' fun r n2=>R r n2:=fun ys m' e p hm'=>b3Q (.inl rfl) (by rw [x0e];omega) (by omega) (a7W _ _) fun zs n' p2 h2=>by
     obtain⟨ws,rfl,pw⟩:=a8j p2;rw [x0e] at h2;exact h ws n' (by rw [pw.length_eq];omega) (pw.nodup_iff.mpr p) (by omega)
   refine⟨by omega,fun d d0 d1=>?_⟩;obtain⟨x,hx,ex⟩:=b1Q (xs:=[PV.str (x0j "drop"),PV.str (x0j "touch"),PV.str (x0j "none"),PV.str (x0j "d"),PV.str (x0j "u"),PV.str (x0j "t"),PV.str (x0j "o")]) d0 d1;rw [ex]
   have bx:∃z:Str,x=.str z:=by
     simp only [x0k,x2Y,or_false] at hx;rcases hx with rfl | rfl | rfl | rfl | rfl | rfl | rfl <;> exact⟨_,rfl⟩
   obtain⟨z,rfl⟩:=bx;refine⟨by omega,fun e e0 e1=>?_⟩
   by_cases c0:e=0
   · rw [if_pos (decide_eq_true c0)];subst hF;refine a5M rfl ?_
     by_cases cz:z∈found
     · exact if_f (by rw [decide_eq_true cz];rfl) (sh found _ rfl nd (by omega))
     · refine if_t (by rw [decide_eq_false cz];rfl) ⟨⟨_,rfl⟩,⟨by omega,by omega,by omega⟩,fun j j0 j1=>?_⟩;rw [a7E j0 (by rw [x0e];omega)];have:=sh (found.set j.toNat z) _ (x0X ..) (a6w j.toNat nd cz) (show m + 1 + 1 + 1<=m + 5 by omega);rw [List.map_set] at this;exact this
   · rw [if_neg (by simpa using c0)];subst hF;exact sh found _ rfl nd (by omega)
noncomputable def btw (st:List Str)(x y:Str):List Str:=(st.take (ixS st x)).drop (ixS st y + 1)
noncomputable def lcan (st:List Str)(r:Int)(out:List Str)(e:Ev):Bool:=
 (evB e).all (fun b=>decide (b∈st) && !decide (b∈out)) && (match e with
   | .d _=>true
   | .t x y=>decide (ixS st y < ixS st x) && (decide (((btw st x y).length:Int)<=r) && (btw st x y).all fun b=>decide (b∈out)))
theorem a2E (xs:List α)(f:α->Bool):a2M (xs.map fun x=>PV.bl (f x))=some (xs.map f):=by
 rw [<- a9K (xs.map f),x2a];rfl
theorem a8D (xs:List α)(f:α->Bool):(xs.map f).all id=xs.all f:=by rw [List.all_map];rfl
theorem b4n (xs:List α)(f:α->Bool):(xs.map f).any id=xs.any f:=by rw [List.any_map];rfl
theorem b5S {st:List Str}{x y:Str}(hx:x∈st):cutP (st.map PV.str) (some ((ixS st y:Nat) + 1:Int)) (some ((ixS st x:Nat):Int))=(btw st x y).map PV.str:=by
 have:=b4e (st.map PV.str) (a:=ixS st y + 1) (b:=ixS st x) (by rw [x0e];exact x2r (a6I hx));unfold btw;rw [x4y,x4x,<- this]
 rfl
theorem lc_d {st out:List Str}{r:Int}{x:Str}:lcan st r out (.d x)=[x].all (fun b=>decide (b∈st) && !decide (b∈out)):=by unfold lcan;rw [x3L];rfl
theorem m_can {st out:List Str}{r:Int}{e:Ev}{n:Nat}{R:PV->Nat->Prop}(hs:st.length<=100)(h:R (.bl (lcan st r out e)) n):a1f [rowP st,.int r,.lst (out.map PV.str),evP e] n R:=by
 refine⟨rfl,?_⟩;unfold a3G
 have go:∀(bs:List Str) (s0:Option Pu.Slot) (R':List PV->Nat->Prop),R' (bs.map fun b=>PV.bl (decide (b∈st) && !decide (b∈out))) n->a2Z (gN 0) qTru (a2L (qOp (wIn 4 false) (qV 0) (qV 1)) (qOp (wIn 4 true) (qV 0) (qV 2))) (bs.map PV.str) [s0,some (.v (rowP st)),some (.v (.lst (out.map PV.str)))] n R':=by
   intro bs s0 R' h';refine a2H PV.str _ bs s0 n R' (fun b hb m Q hQ=>?_) h';generalize hS:rowP st=S at *;generalize hO:PV.lst (out.map PV.str)=O at *;walk_at "pu";subst hS hO;refine a4O rfl ?_;dsimp only
   by_cases c:b∈st
   · rw [decide_eq_true c,x2V] at hQ;rw [if_pos (decide_eq_true c)];exact a5M rfl hQ
   · rw [decide_eq_false c,x1W] at hQ;rw [if_neg (by simpa using c)];exact hQ
 have go2:∀(bs:List Str) (s0:Option Pu.Slot) (R':List PV->Nat->Prop),R' (bs.map fun b=>PV.bl (decide (b∈out))) n->a2Z (gN 0) qTru (qOp (wIn 4 false) (qV 0) (qV 1)) (bs.map PV.str) [s0,some (.v (.lst (out.map PV.str)))] n R':=by
   intro bs s0 R' h';refine a2H PV.str _ bs s0 n R' (fun b hb m Q hQ=>?_) h';generalize hO:PV.lst (out.map PV.str)=O at *;walk_at "pu";subst hO;exact a5W rfl hQ
 cases e with
 | d x =>
   rw [a4Q];generalize hO:PV.lst (out.map PV.str)=O at *;walk_at "pu";rw [show cutP [PV.str DROP,PV.str x] (some 1) none=[x].map PV.str from rfl];refine⟨by simp,go _ _ _ ?_⟩;rw [a2E];dsimp only;rw [a8D];rw [lc_d] at h;cases hb:[x].all (fun b=>decide (b∈st) && !decide (b∈out)) with
   | false=>rw [hb] at h;exact h
   | true=>rw [hb] at h;exact h
 | t x y =>
   rw [a2B];unfold lcan at h;rw [show evB (.t x y)=[x,y] from rfl] at h;dsimp only at h;generalize hO:PV.lst (out.map PV.str)=O at *;walk_at "pu";rw [show cutP [PV.str a0L,PV.str x,PV.str y] (some 1) none=[x,y].map PV.str from rfl];refine⟨by simp,go _ _ _ ?_⟩;rw [a2E];dsimp only;rw [a8D];cases hb:[x,y].all (fun b=>decide (b∈st) && !decide (b∈out)) with
   | false=>rw [hb,x1W] at h;exact h
   | true =>
     rw [hb,x2V] at h
     have hm:∀b∈[x,y],b∈st:=fun b hb'=>by
       have:=x0A.mp hb b hb';rw [x1r] at this;exact of_decide_eq_true this.1
     have hx:x∈st:=hm x (by simp);have hy:y∈st:=hm y (by simp);rw [if_neg (by simp),if_neg (by rw [a5h];simp)];refine⟨⟨_,rfl⟩,m_ix rfl hx (by omega) ?_⟩;refine⟨⟨_,rfl⟩,m_ix rfl hy (by omega) ?_⟩;dsimp only;rw [b5S hx,x0e];have bl:(btw st x y).length<=100:=by unfold btw;rw [x1y,x1e];omega
     generalize btw st x y=B at *
     by_cases c1:ixS st y < ixS st x
     · rw [if_pos (decide_eq_true (by omega))];rw [decide_eq_true c1,x2V] at h
       by_cases c2:(B.length:Int)<=r
       · rw [if_pos (decide_eq_true c2)];rw [decide_eq_true c2,x2V] at h;refine⟨by omega,go2 _ _ _ ?_⟩;rw [a2E];dsimp only;rw [a8D];exact h
       · rw [if_neg (by simpa using c2)];rw [decide_eq_false c2,x1W] at h;exact h
     · rw [if_neg (by simp;omega)];rw [decide_eq_false c1,x1W] at h;exact h
theorem b2Q (e:Ev):noMut (evP e)=true:=by cases e <;> rfl
theorem a8X {f:α->PV}(h:∀a,noMut (f a)=true):∀l:List α,a3X (l.map f)=true:=by
 intro xq
 induction xq with
 | nil =>
   exact rfl
 | cons a l ih =>
   show(noMut (f a) && a3X (l.map f))=true;rw [h a,ih];rfl
theorem b4h (e:Ev)(d:Nat):cmpb (d + 1) (evP e)=true:=by cases e <;> cases d <;> rfl
theorem a4Z (es:List Ev)(d:Nat):(es.map evP).all (cmpb (d + 1))=true:=x0A.mpr fun y hy=>by
 obtain⟨e,_,rfl⟩:=x0F.mp hy;exact b4h e d
theorem a6z {α β:Type}(f:α->β):∀(l:List α) (j:Nat),(l.eraseIdx j).map f=(l.map f).eraseIdx j
 | [],_=>rfl
 | _::_,0=>rfl
 | a :: l, j + 1 => by
   show f a::(l.eraseIdx j).map f=f a::(l.map f).eraseIdx j;rw [a6z f l j]
theorem at_hd {x:α}{xs:List α}:atI (x::xs) 0=some x:=a7K (xs:=x::xs) (j:=0) rfl
theorem ev_eqP {a b:Ev}(h:eqP (evP a) (evP b)=true):a=b:=by
 cases a with
 | d x =>
   cases b with
   | d y =>
     rw [a4Q,a4Q] at h;simp only [a4S,a2C,a4R,a3q,x3L,decide_true,x2V,decide_eq_true_eq] at h;rw [h]
   | t y z =>
     rw [a4Q,a2B] at h;simp only [a4S,a2C,a3q] at h;rw [show decide (DROP=a0L)=false by decide +kernel,x1W] at h;cases h
 | t x x' =>
   cases b with
   | d y =>
     rw [a4Q,a2B] at h;simp only [a4S,a2C,a3q] at h;rw [show decide (a0L=DROP)=false by decide +kernel,x1W] at h;cases h
   | t y z =>
     rw [a2B,a2B] at h;simp only [a4S,a2C,a4R,a3q,x3L,decide_true,x2V,x1r,decide_eq_true_eq] at h;rw [h.1,h.2]
theorem a5X (a:Ev):eqP (evP a) (evP a)=true:=by
 cases a with
 | d x=>rw [a4Q];simp [a4S,a2C,a4R,a3q]
 | t x y=>rw [a2B];simp [a4S,a2C,a4R,a3q]
theorem b5N {l:List Ev}{e:Ev}(h:e∈l):∃j:Nat,l[j]?=some e/\(∃z,(l.map evP)[j]?=some z/\eqP z (evP e)=true)/\∀i:Nat,i < j->∀z,(l.map evP)[i]?=some z->eqP z (evP e)=false:=by
 have hj:l.findIdx (fun x=>eqP (evP x) (evP e)) < l.length:=List.findIdx_lt_length_of_exists ⟨e,h,a5X e⟩;have hg:=List.findIdx_getElem (w:=hj);have ee:=ev_eqP hg;refine⟨_,by rw [x0c hj,ee],⟨evP e,by rw [x0p,x0c hj,ee];rfl,a5X e⟩,fun i hi z hz=>?_⟩;obtain⟨x,hx,rfl⟩:=a2X hz;have hx':=x0i.mp hx;have:=List.not_of_lt_findIdx hi;rw [hx'.2] at this
 simpa using this
theorem a5Y (e:Ev){xs:List PV}(h:evP e=.tup xs):cutP xs (some 1) none=(evB e).map PV.str:=by
 cases e with
 | d x=>rw [a4Q] at h;cases h;rfl
 | t x y=>rw [a2B] at h;cases h;rfl
noncomputable def wlk (st:List Str)(r:Int):List Ev->Nat->List Str->Option Nat
 | [],_,_=>none
 | e::es,k,out=>if lcan st r out e=true then wlk st r es (k + 1) (out++evB e) else some k
theorem a8n {st out:List Str}{r:Int}{e:Ev}(h:lcan st r out e=true):∀b∈evB e,b∈st/\b∉out:=fun b hb=>by
 unfold lcan at h;rw [x1r] at h;have:=x0A.mp h.1 b hb;rw [x1r] at this;exact⟨of_decide_eq_true this.1,by simpa using this.2⟩
theorem b1W {st:List Str}{r:Int}{e:Ev}:∀(f:List Ev) (k:Nat) (o:List Str),wlk st r f k o=none->lcan st r (o++f.flatMap evB) e=true->wlk st r (f++[e]) k o=none:=by
 intro xq
 induction xq with
 | nil =>
   intro k o _ h;rw [List.flatMap_nil,x1t] at h;show(if lcan st r o e=true then none else some k)=none;rw [if_pos h]
 | cons a f ih =>
   intro k o w h;have w':(if lcan st r o a=true then wlk st r f (k + 1) (o++evB a) else some k)=none:=w;show(if lcan st r o a=true then wlk st r (f++[e]) (k + 1) (o++evB a) else some k)=none
   by_cases c:lcan st r o a=true
   · rw [if_pos c] at w' ⊢;refine ih (k + 1) (o++evB a) w' ?_;rw [x1E] at h;rw [x0S];exact h
   · rw [if_neg c] at w';cases w'
theorem b2X {st:List Str}{r:Int}{es:List Ev}{n:Nat}{R:PV->Nat->Prop}(hs:st.length<=100)(he:es.length<=100)(h:∀f l:List Ev,(f++l).Perm es->wlk st r f 0 []=none->(∀e∈l,lcan st r (f.flatMap evB) e=false)->R (.tup [.lst (f.map evP),.lst (l.map evP)]) n):a1m [rowP st,.int r,shP es] n R:=by
 refine⟨rfl,?_⟩;unfold a2m shP;have hc:∀(o:List Str) (e:Ev) {n:Nat} {R:PV->Nat->Prop},R (.bl (lcan st r o e)) n->a1f [rowP st,.int r,.lst (o.map PV.str),evP e] n R:=fun o e {n R} q=>m_can hs q;generalize hS:rowP st=S at *;generalize hE:es.map evP=E;have El:E.length=es.length:=by rw [<- hE,x0e]
 walk_at "pu";refine⟨by omega,?_⟩;refine a0Z (fun i env m=>∃s6 s7,∃(f l:List Ev) (o:List Str),env=[some (.v S),some (.v (.int r)),some (.v (.tup E)),some (.own (l.map evP)),some (.own (o.map PV.str)),some (.own (f.map evP)),s6,s7]/\(f++l).Perm es/\o.length<=2 * i/\o=f.flatMap evB/\wlk st r f 0 []=none/\f.length=i/\m=n) _ 0 _ _ ⟨none,none,[],es,[],by rw [hE];rfl,.refl _,by simp,rfl,rfl,rfl,rfl⟩ (fun i x env m N ex hI hN=>?_) (fun env m hI=>?_)
 · obtain⟨hi,rfl⟩:=a3y ex;obtain⟨s6,s7,f,l,o,rfl,pm,ol,eo,wf,fl,rfl⟩:=hI;generalize hL:l.map evP=L;generalize hO:o.map PV.str=O;generalize hF:f.map evP=F;walk_at "pu";have Ll:L.length=l.length:=by rw [<- hL,x0e]
   have Fl:F.length=f.length:=by rw [<- hF,x0e]
   have Ol:O.length=o.length:=by rw [<- hO,x0e]
   have pl:=pm.length_eq;rw [x0l] at pl;refine⟨by omega,?_⟩;rw [<- hL];refine a3r evP (lcan st r o) _ _ _ _ (fun e he m' Q hQ=>?_) ?_
   · generalize hP:evP e=P at *;walk_at "pu";rw [<- hP,<- hO];refine hc o e ?_;rw [hP,hO];exact hQ
   · refine⟨a8X b2Q _,gd2 (a4Z _ _) rfl ?_⟩;cases hf:l.filter (lcan st r o) with
     | nil =>
       refine if_t rfl ?_;rw [<- hF];refine h f l pm wf fun e he=>?_;rw [<- eo];cases q:lcan st r o e with
       | false=>rfl
       | true=>exact absurd (x0W.mpr ⟨he,q⟩) (by rw [hf];exact x2Y)
     | cons e0 rest =>
       have mf:=x0W.mp (show e0∈l.filter (lcan st r o) by rw [hf];exact x0g);have m0:e0∈l:=mf.1;refine if_f rfl ⟨⟨_,rfl⟩,?_⟩;rw [x0v,show atI (evP e0::rest.map evP) 0=some (evP e0) from at_hd];refine⟨by omega,⟨_,rfl⟩,?_⟩;obtain⟨xs,hxs⟩:∃xs,evP e0=.tup xs:=⟨_,rfl⟩;have ec:=a5Y e0 hxs;have bl:(evB e0).length<=2:=by cases e0 <;> simp [evB]
       obtain⟨j,j1,j2,j3⟩:=b5N m0;have c4:=b4h e0 3;rw [hxs] at j2 j3 c4 ⊢;dsimp only;rw [ec];refine⟨by rw [x0e];omega,⟨_,rfl⟩,c4,a4Z _ _,j,j2,j3,hN _ _ ⟨some (.v (.int (0 + (i:Int)))),some (.v (.lst (.tup xs::rest.map evP))),f++[e0],l.eraseIdx j,o++evB e0,?_,?_,by rw [x0l];omega,by rw [x1I,eo];simp,?_,by rw [x0l,fl];rfl,rfl⟩⟩
       · rw [<- hF,<- hO,x0Y,x0Y,a6z,List.map_singleton,hxs]
       · have hjl:=(x0i.mp j1);have:=erase_perm l j hjl.1;rw [hjl.2] at this;rw [x0S];exact(this.append_left f).trans pm
       · refine b1W f 0 [] wf ?_;rw [x2L,<- eo];exact mf.2
 · obtain⟨s6,s7,f,l,o,rfl,pm,ol,eo,wf,fl,rfl⟩:=hI;walk_at "pu";rw [a2u,x1w] at fl;have pl:=pm.length_eq;rw [x0l] at pl;refine h f l pm wf fun e he=>?_;have:l=[]:=x1n (by omega);rw [this] at he;cases he
theorem b4E {a b:Int}{ys:List PV}(h:Srt ys [.int a,.int b]):ys=[.int (min a b),.int (max a b)]:=by
 obtain⟨p,q⟩:=h;have l:=p.length_eq
 match ys,l with
 | [u, v], _ =>
   have hq:lexK (keyP v) (keyP u)=false:=by simpa using q
   have two:(u=.int a/\v=.int b)\/(u=.int b/\v=.int a):=by
     have hu:u∈[PV.int a,PV.int b]:=p.mem_iff.mp (by simp);rcases x0k.mp hu with e | hu
     · subst e;exact .inl ⟨rfl,by simpa using(List.perm_cons _).mp p⟩
     · have e:u=.int b:=by simpa using hu
       subst e;have p2:=p.trans (x4Q (PV.int b) (PV.int a) []);exact .inr ⟨rfl,by simpa using(List.perm_cons _).mp p2⟩
   rcases two with⟨rfl,rfl⟩ | ⟨rfl,rfl⟩
   · have:¬b < a:=by
       intro c
       have e:lexK [x2w b] [x2w a]=true:=by
         show(if(x2w b:Key)=x2w a then lexK [] [] else decide (b < a))=true;rw [if_neg (by intro z;cases z;omega)];exact decide_eq_true c
       rw [show keyP (PV.int b)=[x2w b] from rfl,show keyP (PV.int a)=[x2w a] from rfl,e] at hq;cases hq
     rw [show min a b=a by omega,show max a b=b by omega]
   · have:¬a < b:=by
       intro c
       have e:lexK [x2w a] [x2w b]=true:=by
         show(if(x2w a:Key)=x2w b then lexK [] [] else decide (a < b))=true;rw [if_neg (by intro z;cases z;omega)];exact decide_eq_true c
       rw [show keyP (PV.int b)=[x2w b] from rfl,show keyP (PV.int a)=[x2w a] from rfl,e] at hq;cases hq
     rw [show min a b=b by omega,show max a b=a by omega]
theorem a3p {st:List Str}{x y:Str}{n:Nat}{R:PV->Nat->Prop}(hs:st.length<=100)(hx:x∈st)(hy:y∈st)(h:R (rowP (btwU st x y)) n):a0G [rowP st,evP (.t x y)] n R:=by
 refine⟨rfl,?_⟩;unfold a4A;have hix:∀z∈st,∀{R:PV->Prop},R (.int (ixS st z))->a3P (.tup (st.map PV.str)) (.str z) R:=fun z hz {R} q=>m_ix rfl hz (by omega) q;have hr0:rowP st=.tup (st.map PV.str):=rfl;have lx:=a6I hx;have ly:=a6I hy
 have hcut:cutP (st.map PV.str) (some (min (ixS st x:Int) (ixS st y) + 1)) (some (max (ixS st x:Int) (ixS st y)))=(btwU st x y).map PV.str:=by
   have:=b4e (st.map PV.str) (a:=min (ixS st x) (ixS st y) + 1) (b:=max (ixS st x) (ixS st y)) (by rw [x0e];omega);unfold btwU;rw [x4y,x4x,<- this]
   congr 2 <;> omega
 generalize hZ:st.map PV.str=Z at *;rw [hr0,a2B];walk_at "pu";refine⟨⟨_,rfl⟩,hix x hx ?_⟩;refine⟨⟨_,rfl⟩,hix y hy ?_⟩;refine⟨.inl (by simp),fun ys hys=>?_⟩;rw [b4E hys];refine⟨rfl,?_⟩;walk_at "pu";rw [hcut];exact h
theorem b5r {st:List Str}{x y:Str}{n:Nat}{R:PV->Nat->Prop}(hs:st.length<=100)(hx:x∈st)(hy:y∈st)(h:R (.bl (decide (ixS st x < ixS st y))) n):a2I [rowP st,evP (.t x y)] n R:=by
 refine⟨rfl,?_⟩;unfold a3D;have hix:∀z∈st,∀{R:PV->Prop},R (.int (ixS st z))->a3P (.tup (st.map PV.str)) (.str z) R:=fun z hz {R} q=>m_ix rfl hz (by omega) q;have hr0:rowP st=.tup (st.map PV.str):=rfl;generalize hZ:st.map PV.str=Z at *;rw [hr0,a2B];walk_at "pu";refine⟨⟨_,rfl⟩,hix y hy ?_⟩;refine⟨⟨_,rfl⟩,hix x hx ?_⟩;dsimp only;rw [show decide ((ixS st x:Int) < ixS st y)=decide (ixS st x < ixS st y) by rw [decide_eq_decide];omega];exact h
theorem m_far {st:List Str}{r:Int}{x y:Str}{n:Nat}{R:PV->Nat->Prop}(hs:st.length<=100)(hx:x∈st)(hy:y∈st)(h:R (.bl (decide (r < ((btwU st x y).length:Int)))) n):a4l [rowP st,.int r,evP (.t x y)] n R:=by
 refine⟨rfl,?_⟩;unfold a5L;generalize hS:rowP st=S;generalize hT:evP (.t x y)=T;walk_at "pu";subst hS hT;refine a3p hs hx hy ?_;dsimp only;rw [x0e];exact h
theorem a6A {es:List Ev}{n:Nat}{R:PV->Nat->Prop}(hl:es.length<=1000000)(h:R (.lst ((es.filter isTo).map evP)) n):a0O [shP es] n R:=by
 refine⟨rfl,?_⟩;unfold a2v shP;generalize hE:es.map evP=E;have El:E.length=es.length:=by rw [<- hE,x0e]
 walk_at "pu";refine⟨by omega,?_⟩;rw [<- hE];refine a3r evP isTo _ _ _ _ (fun e he m Q hQ=>?_) h;cases e with
 | d x =>
   rw [a4Q] at *;walk_at "pu";rw [a9t];exact hQ
 | t x y =>
   rw [a2B] at *;walk_at "pu";exact hQ
theorem a3L:∀(es:List Ev) (s0 s1:Option Pu.Slot) (n:Nat) (R:List PV->Nat->Prop),R ((es.flatMap evB).map PV.str) n->a4Y (gN 0) (qIt (qSl (qV 0) (a1t (qC (.int 1))) qNo)) (gN 1) qTru (qV 1) (es.map evP) [s0,s1] n R
 | [],_,_,_,_,h=>h
 | .d x :: es, s0, s1, n, R, h => by
   have ih:=a3L es (some (.v (.tup [.str DROP,.str x]))) (some (.v (.str x))) n (fun ws n4=>R (.str x::ws) n4) h;rw [x0v,a4Q];have e:cutP [PV.str DROP,PV.str x] (some 1) none=[.str x]:=rfl;generalize es.map evP=E at *;unfold a4Y;walk_at "pu";rw [e];exact⟨by simp,ih⟩
 | .t x y :: es, s0, s1, n, R, h => by
   have ih:=a3L es (some (.v (.tup [.str a0L,.str x,.str y]))) (some (.v (.str y))) n (fun ws n4=>R (.str x::.str y::ws) n4) h;rw [x0v,a2B];have e:cutP [PV.str a0L,PV.str x,PV.str y] (some 1) none=[.str x,.str y]:=rfl;generalize es.map evP=E at *;unfold a4Y;walk_at "pu";rw [e];exact⟨by simp,ih⟩
theorem a4G {es:List Ev}{n:Nat}{R:PV->Nat->Prop}(hl:es.length<=1000)(h:R (.lst ((es.flatMap evB).map PV.str)) n):a1a [shP es] n R:=by
 refine⟨rfl,?_⟩;unfold a3F shP;have go:=fun R' h'=>a3L es none none n R' h';generalize hE:es.map evP=E at *;have El:E.length=es.length:=by rw [<- hE,x0e]
 walk_at "pu";exact⟨by omega,go _ h⟩
noncomputable def evL (st:List Str):Ev->Int
 | .d _=>0
 | .t x y=>((btwU st x y).length:Int)
theorem a8o {st:List Str}{n:Nat}(hs:st.length<=100):∀(ts:List Ev) (R:List Int->Nat->Prop),(∀e∈ts,∃x y,e=.t x y/\x∈st/\y∈st)->R (ts.map (evL st)) n->a7B (qUn wLen (a0t a0G (a0c (qV 1) (a0c (qV 0) qNil)))) (rowP st) (ts.map evP) n R
 | [],R,_,h=>h
 | e :: ts, R, ht, h => by
   obtain⟨x,y,rfl,hx,hy⟩:=ht e x0g;have ih:=a8o hs (n:=n) ts (fun ks n2=>R (evL st (.t x y)::ks) n2) (fun e he=>ht e (x0f _ he)) h;have mb:∀{R:PV->Nat->Prop},R (rowP (btwU st x y)) n->a0G [rowP st,evP (.t x y)] n R:=fun q=>a3p hs hx hy q;rw [x0v];generalize ts.map evP=E at *;generalize hW:rowP st=W at *;generalize hT:evP (.t x y)=T at *;unfold a7B;walk_at "pu";refine mb ?_
   try dsimp only
   refine⟨_,rfl,?_⟩;have e:(((btwU st x y).map PV.str).length:Int)=evL st (.t x y):=by rw [x0e];rfl
   rw [e];exact ih
theorem b2a {f:Ev->Int}{ys:List PV}(h:SrtK (ts.map f) (ts.map evP) ys):∃ts':List Ev,ys=ts'.map evP/\ts'.Perm ts/\ts'.Pairwise fun a b=>f a<=f b:=by
 obtain⟨ps,hp,rfl,ho⟩:=h
 have e:(ts.map f).zip (ts.map evP)=ts.map fun e=>(f e,evP e):=by
   clear hp
   induction ts with
   | nil=>rfl
   | cons t ts ih=>simp [ih]
 rw [e] at hp;obtain⟨l,pl,rfl⟩:=a6r hp ts rfl;refine⟨l,by rw [x2a];rfl,pl,?_⟩;rw [x1L] at ho;exact ho
noncomputable def isDr (e:Ev):Bool:=!isTo e
inductive Rs where
 | strange (b:Str) | twice (b:Str) | wrong (x y:Str) | far (x y:Str) | stays (x y z:Str) | cross (x y x' y':Str)
noncomputable def rsP:Rs->PV
 | .strange b=>.tup [.str (x0j "strange"),.str b]
 | .twice b=>.tup [.str (x0j "twice"),.str b]
 | .wrong x y=>.tup [.str (x0j "wrong"),evP (.t x y)]
 | .far x y=>.tup [.str (x0j "far"),evP (.t x y)]
 | .stays x y z=>.tup [.str (x0j "stays"),evP (.t x y),.str z]
 | .cross x y x' y'=>.tup [.str (x0j "cross"),evP (.t x y),evP (.t x' y')]
theorem a4n (w:Rs):∃a l,rsP w=.tup (a::l):=by cases w <;> exact⟨_,_,rfl⟩
noncomputable abbrev four (x y x' y':Str):Prop:=((met (a1V [x,y,x',y']) [x,y,x',y'].length).length:Int)=4
noncomputable def Tin (st:List Str)(es:List Ev)(x y:Str):Prop:=Ev.t x y∈es/\x∈st/\y∈st
noncomputable def isRs (r:Int)(st:List Str)(es:List Ev):Rs->Prop
 | .strange b=>b∈es.flatMap evB/\b∉st
 | .twice b=>2<=(es.filter fun e=>decide (b∈evB e)).length
 | .wrong x y=>Tin st es x y/\ixS st x < ixS st y
 | .far x y=>Tin st es x y/\r < ((btwU st x y).length:Int)
 | .stays x y z=>Tin st es x y/\z∈btwU st x y/\z∉es.flatMap evB
 | .cross x y x' y'=>Tin st es x y/\Tin st es x' y'/\four x y x' y'/\¬(x'∈btwU st x y↔y'∈btwU st x y)
noncomputable def cntS (x:Str)(l:List Str):Int:=PySem.Spec.countIn (.str x) (l.map PySem.PyData.str)
theorem a1A (x y:Str)(l:List Str):cntS x (y::l)=(if y=x then 1 else 0) + cntS x l:=by
 show(if PySem.Spec.same (.str y) (.str x) then 1 else 0) + cntS x l=_;have e:PySem.Spec.same (.str y) (.str x)=decide (y=x):=rfl;rw [e]
 by_cases c:y=x
 · rw [decide_eq_true c,if_pos c];rfl
 · rw [decide_eq_false c,if_neg c];rfl
theorem cnt_nn (x:Str):∀l:List Str,0<=cntS x l:=by
 intro xq
 induction xq with
 | nil =>
   exact Int.le_refl _
 | cons y l ih =>
   rw [a1A];have:=ih
   split <;> omega
theorem b1C {x:Str}:∀{l:List Str},x∈l->1<=cntS x l
 | y :: l, h => by
   rw [a1A];have:=cnt_nn x l
   by_cases c:y=x
   · rw [if_pos c];omega
   · rw [if_neg c];have:=b1C ((x0k.mp h).elim (fun z=>absurd z.symm c) id);omega
theorem b4f:∀{l:List Str},(∀b∈l,cntS b l<=1)->l.Nodup
 | [],_=>x4R
 | y :: l, h => by
   refine x1x.mpr ⟨fun z=>?_,b4f fun b hb=>?_⟩
   · have h1:=h y x0g;rw [a1A,if_pos rfl] at h1;have:=b1C z;omega
   · have h1:=h b (x0f _ hb);rw [a1A] at h1
     split at h1 <;> omega
theorem b1D (b:Str):∀{es:List Ev},(∀e∈es,Good e)->cntS b (es.flatMap evB)=((es.filter fun e=>decide (b∈evB e)).length:Int)
 | [],_=>rfl
 | e :: es, hg => by
   have ih:=b1D b (es:=es) fun x hx=>hg x (x0f _ hx);have ge:=hg e x0g;rw [x1E,List.filter_cons];cases e with
   | d x =>
     show cntS b (x::es.flatMap evB)=_;rw [a1A,ih]
     by_cases c:x=b
     · rw [if_pos c,if_pos (decide_eq_true (by simp [evB,c])),x0K];omega
     · rw [if_neg c,if_neg (by simp [evB];exact fun z=>c z.symm)];omega
   | t x y =>
     have ge:x≠y:=ge;show cntS b (x::y::es.flatMap evB)=_;rw [a1A,a1A,ih]
     by_cases c:x=b
     · rw [if_pos c,if_neg (fun z=>ge (c.trans z.symm)),if_pos (decide_eq_true (by simp [evB,c])),x0K];omega
     · by_cases c2:y=b
       · rw [if_neg c,if_pos c2,if_pos (decide_eq_true (by simp [evB,c2])),x0K];omega
       · rw [if_neg c,if_neg c2,if_neg (by simp [evB];exact⟨fun z=>c z.symm,fun z=>c2 z.symm⟩)];omega
theorem a9h {r:Int}{st:List Str}{es:List Ev}{n:Nat}{R:PV->Nat->Prop}(hg:∀e∈es,Good e)(hl:es.length<=1000)(h:Fair st es->R .non n)(h1:∀w,isRs r st es w->R (rsP w) n):a1l [rowP st,shP es] n R:=by
 refine⟨rfl,?_⟩;unfold a2l;have hr0:rowP st=.tup (st.map PV.str):=rfl;generalize hS:shP es=S;have nin:∀{z:Str} {R:PV->Prop},R (.bl (!decide (z∈st)))->wIn 4 true (.str z) (.tup (st.map PV.str)) R:=fun q=>a4h rfl q;rw [hr0];generalize hZ:st.map PV.str=Z at *;walk_at "pu";rw [<- hS];refine a4G hl ?_;rw [hS];have tx:=a6h (es.flatMap evB);generalize hB:(es.flatMap evB).map PV.str=B at *;refine a0Z (fun i env m=>∃s3,env=[some (.v (.tup Z)),some (.v S),some (.v (.lst B)),s3]/\m=n/\∀b∈(es.flatMap evB).take i,b∈st/\cntS b (es.flatMap evB)<=1) _ 0 _ _ ⟨none,rfl,rfl,fun b hb=>by simp at hb⟩ (fun i x env m N ex hI hN=>?_) (fun env m hI=>?_)
 · obtain⟨s3,rfl,rfl,hb⟩:=hI;rw [<- hB] at ex;obtain⟨z,ez,rfl⟩:=a2X ex;have zm:=x0u ez;rw [x1w] at hb hN;walk_at "pu";refine nin ?_
   by_cases c:z∈st
   · rw [decide_eq_true c];refine if_f rfl ?_;refine⟨⟨_,rfl⟩,?_⟩;rw [tx];dsimp only
     by_cases c2:1 < cntS z (es.flatMap evB)
     · refine if_t (decide_eq_true c2) ?_;refine h1 (.twice z) ?_;show 2<=_;rw [b1D z hg] at c2;omega
     · refine if_f (decide_eq_false c2) (hN _ _ ⟨_,rfl,rfl,fun b hb'=>?_⟩);rw [a3b ez] at hb';rcases x0C.mp hb' with hb' | hb'
       · exact hb b hb'
       · rw [x0n.mp hb'];exact⟨c,by omega⟩
   · rw [decide_eq_false c];exact if_t rfl (h1 (.strange z) ⟨zm,c⟩)
 · obtain⟨s3,rfl,rfl,hb⟩:=hI;rw [x1w,<- hB,x0e,x4r] at hb;have fr:Fair st es:=⟨b4f fun b hb'=>(hb b hb').2,fun b hb'=>(hb b hb').1⟩;walk_at "pu";exact h fr
theorem a9c {r:Int}{st:List Str}{es:List Ev}{x y:Str}{n:Nat}{R:PV->Nat->Prop}(hs:st.length<=100)(fr:Fair st es)(hg:∀e∈es,Good e)(he:Ev.t x y∈es)(hl:es.length<=1000)
   (h:ixS st y < ixS st x->((btwU st x y).length:Int)<=r->(∀z∈btwU st x y,z∈es.flatMap evB)->R .non n) (h1:∀w,isRs r st es w->R (rsP w) n):a1b [rowP st,.int r,shP es,evP (.t x y)] n R:=by
 refine⟨rfl,?_⟩;unfold a1S;obtain⟨hx,hy⟩:=fr.tx he;have ti:Tin st es x y:=⟨he,hx,hy⟩;have ne:ixS st x≠ixS st y:=fun z=>(show x≠y from hg _ he) (b1f hx hy z);generalize hS:shP es=S;generalize hW:rowP st=W;generalize hT:evP (.t x y)=T;walk_at "pu";subst hW hT;refine b5r hs hx hy ?_
 by_cases c:ixS st x < ixS st y
 · exact if_t (decide_eq_true c) (h1 (.wrong x y) ⟨ti,c⟩)
 refine if_f (decide_eq_false c) ?_;refine m_far hs hx hy ?_
 by_cases c2:r < ((btwU st x y).length:Int)
 · exact if_t (decide_eq_true c2) (h1 (.far x y) ⟨ti,c2⟩)
 refine if_f (decide_eq_false c2) ?_;rw [<- hS];refine a4G hl ?_;rw [hS];refine a3p hs hx hy ?_;have nin:∀{z:Str} {R:PV->Prop},R (.bl (!decide (z∈es.flatMap evB)))->wIn 4 true (.str z) (.lst ((es.flatMap evB).map PV.str)) R:=fun q=>a5M rfl q;generalize hB:(es.flatMap evB).map PV.str=B at *;have st_:∀z∈btwU st x y,z∉es.flatMap evB->R (.tup [.str (x0j "stays"),evP (.t x y),.str z]) n:=fun z h2 h3=>h1 (.stays x y z) ⟨ti,h2,h3⟩;generalize hW:rowP st=W;generalize hT:evP (.t x y)=T at *;refine a0Z (fun i env m=>∃s5,env=[some (.v W),some (.v (.int r)),some (.v S),some (.v T),some (.v (.lst B)),s5]/\m=n/\∀z∈(btwU st x y).take i,z∈es.flatMap evB) _ 0 _ _ ⟨none,rfl,rfl,fun b hb=>by simp at hb⟩ (fun i z env m N ex hI hN=>?_) (fun env m hI=>?_)
 · obtain⟨s5,rfl,rfl,hb⟩:=hI;obtain⟨z,ez,rfl⟩:=a2X ex;rw [x1w] at hb hN;walk_at "pu";refine nin ?_
   by_cases c3:z∈es.flatMap evB
   · rw [decide_eq_true c3];refine if_f rfl (hN _ _ ⟨_,rfl,rfl,fun b hb'=>?_⟩);rw [a3b ez] at hb';rcases x0C.mp hb' with hb' | hb'
     · exact hb b hb'
     · rw [x0n.mp hb'];exact c3
   · rw [decide_eq_false c3];exact if_t rfl (st_ z (x0u ez) c3)
 · obtain⟨s5,rfl,rfl,hb⟩:=hI;rw [x1w,x0e,x4r] at hb;walk_at "pu";exact h (by omega) (by omega) hb
theorem a9e {st:List Str}{x y:Str}{n:Nat}{R:PV->Nat->Prop}(hs:st.length<=100)(hx:x∈st)(hy:y∈st)(h:(four x y x' y'->(x'∈btwU st x y↔y'∈btwU st x y))->R (.bl false) n)(h1:four x y x' y'->¬(x'∈btwU st x y↔y'∈btwU st x y)->R (.bl true) n):a2c [rowP st,evP (.t x y),evP (.t x' y')] n R:=by
 refine⟨rfl,?_⟩;unfold a3E;have mb:∀{R:PV->Nat->Prop},R (.lst [.str x,.str y,.str x',.str y']) n->a1a [.tup [.tup [.str a0L,.str x,.str y],.tup [.str a0L,.str x',.str y']]] n R:=fun q=>a4G (es:=[.t x y,.t x' y']) (by simp) q;have mw:∀{R:PV->Nat->Prop},R (rowP (btwU st x y)) n->a0G [rowP st,.tup [.str a0L,.str x,.str y]] n R:=fun q=>a3p hs hx hy q;generalize hW:rowP st=W at *;rw [a2B,a2B];walk_at "pu";refine mb ?_;have tx:a2d [.str x,.str y,.str x',.str y']=some [x,y,x',y']:=rfl;dsimp only;rw [tx];dsimp only;refine⟨by simp,?_⟩
 by_cases c:four x y x' y'
 · refine if_f (by rw [decide_eq_true (show((met (a1V [x,y,x',y']) [x,y,x',y'].length).length:Int)=4 from c)];rfl) ?_;refine mw ?_;refine a4O rfl ?_;refine a4O rfl ?_;rw [b4a]
   by_cases c2:x'∈btwU st x y↔y'∈btwU st x y
   · rw [decide_eq_decide.mpr c2];have:=h fun _=>c2;generalize decide (y'∈btwU st x y)=b;cases b <;> exact this
   · have e:decide (decide (x'∈btwU st x y)=decide (y'∈btwU st x y))=false:=decide_eq_false fun z=>c2 (decide_eq_decide.mp z);rw [e];exact h1 c c2
 · refine if_t (by rw [decide_eq_false (show ¬((met (a1V [x,y,x',y']) [x,y,x',y'].length).length:Int)=4 from c)];rfl) ?_;exact h fun z=>absurd z c
theorem a9g {r:Int}{st:List Str}{es:List Ev}{x y:Str}{n:Nat}{R:PV->Nat->Prop}(hs:st.length<=100)(fr:Fair st es)(he:Ev.t x y∈es)(h:(∀x' y',Ev.t x' y'∈es->four x y x' y'->(x'∈btwU st x y↔y'∈btwU st x y))->R .non n)(h1:∀w,isRs r st es w->R (rsP w) n):a1c [rowP st,evP (.t x y),.lst ((es.filter isTo).map evP)] n R:=by
 refine⟨rfl,?_⟩;unfold a1T;obtain⟨hx,hy⟩:=fr.tx he;have mi:∀{x' y':Str} {R:PV->Nat->Prop},((four x y x' y'->(x'∈btwU st x y↔y'∈btwU st x y))->R (.bl false) n)->(four x y x' y'->¬(x'∈btwU st x y↔y'∈btwU st x y)->R (.bl true) n)->a2c [rowP st,evP (.t x y),evP (.t x' y')] n R:=fun q q'=>a9e hs hx hy q q';have cr:∀{x' y':Str},Ev.t x' y'∈es->four x y x' y'->¬(x'∈btwU st x y↔y'∈btwU st x y)->R (.tup [.str (x0j "cross"),evP (.t x y),evP (.t x' y')]) n:=fun {x' y'} he' c c2=>h1 (.cross x y x' y') ⟨⟨he,hx,hy⟩,⟨he',(fr.tx he').1,(fr.tx he').2⟩,c,c2⟩;generalize hW:rowP st=W at *;generalize hT:evP (.t x y)=T at *;generalize hL:(es.filter isTo).map evP=L;walk_at "pu";refine a0Z (fun i env m=>∃s3,env=[some (.v W),some (.v T),some (.v (.lst L)),s3]/\m=n/\∀x' y',Ev.t x' y'∈(es.filter isTo).take i->four x y x' y'->(x'∈btwU st x y↔y'∈btwU st x y)) _ 0 _ _ ⟨none,rfl,rfl,fun x' y' z=>by simp at z⟩ (fun i z env m N ex hI hN=>?_) (fun env m hI=>?_)
 · obtain⟨s3,rfl,rfl,hb⟩:=hI;rw [<- hL] at ex;obtain⟨e,ee,rfl⟩:=a2X ex;rw [x1w] at hb hN;obtain⟨em,et⟩:=x0W.mp (x0u ee);cases e with
   | d z=>cases et
   | t x' y' =>
     have cr':=fun c c2=>cr em c c2;generalize hU:evP (.t x' y')=U at *;walk_at "pu";rw [<- hU];refine mi (fun c=>?_) fun c c2=>?_
     · rw [hU];refine if_f rfl (hN _ _ ⟨_,rfl,rfl,fun a b hab=>?_⟩);rw [a3b ee] at hab;rcases x0C.mp hab with hab | hab
       · exact hb a b hab
       · cases x0n.mp hab;exact c
     · rw [hU];exact if_t rfl (cr' c c2)
 · obtain⟨s3,rfl,rfl,hb⟩:=hI;rw [x1w,<- hL,x0e,x4r] at hb;have:=h fun x' y' he'=>hb x' y' (x0W.mpr ⟨he',rfl⟩);walk_at "pu";exact this
theorem b1q {x:Str}:∀{l:List Ev},(l.flatMap evB).Nodup->∀a∈l,∀b∈l,x∈evB a->x∈evB b->a=b
 | [],_,a,ha,_,_,_,_=>by cases ha
 | c :: l, nd, a, ha, b, hb, xa, xb => by
   rw [x1E] at nd;obtain⟨_,n2,n3⟩:=x2j.mp nd;rcases x0k.mp ha with rfl | ha' <;> rcases x0k.mp hb with rfl | hb'
   · rfl
   · exact absurd rfl (n3 x xa x (x1o.mpr ⟨b,hb',xb⟩))
   · exact absurd rfl (n3 x xb x (x1o.mpr ⟨a,ha',xa⟩))
   · exact b1q n2 a ha' b hb' xa xb
theorem b2C {st:List Str}{es:List Ev}{x y:Str}(nd:st.Nodup)(fr:Fair st es)(hg:∀e∈es,Good e)(he:Ev.t x y∈es)(he':Ev.t x' y'∈es)(h:four x y x' y'->(x'∈btwU st x y↔y'∈btwU st x y)):x'∈btwU st x y↔y'∈btwU st x y:=by
 by_cases c:Ev.t x y=Ev.t x' y'
 · cases c;obtain⟨hx,hy⟩:=fr.tx he;rw [a2o nd hx hy,a2o nd hx hy];omega
 · refine h ?_;have n1:x≠y:=hg _ he;have n2:x'≠y':=hg _ he';have nn:∀z,z∈evB (.t x y)->z∉evB (.t x' y'):=fun z z1 z2=>c (b1q fr.nd _ he _ he' z1 z2);have a:=nn x (by simp [evB]);have b:=nn y (by simp [evB]);simp only [evB,x0k,x2Y,or_false,not_or] at a b
   have nd4:[x,y,x',y'].Nodup:=by
     simp only [x1x,x0k,x2Y,or_false,not_or,not_false_eq_true,and_true,x4R];exact⟨⟨n1,a.1,a.2⟩,⟨b.1,b.2⟩,n2⟩
   show((met (a1V [x,y,x',y']) [x,y,x',y'].length).length:Int)=4;rw [b0N _ nd4 _ (x0m _)]
   rfl
theorem b0R {r:Int}{st:List Str}{es:List Ev}{n:Nat}{R:PV->Nat->Prop}(hs:st.length<=100)(nd:st.Nodup)(hg:∀e∈es,Good e)(hl:es.length<=1000)(h:a4f r st es->R .non n)(h1:∀w,isRs r st es w->R (rsP w) n):a1K [rowP st,.int r,shP es] n R:=by
 refine⟨rfl,?_⟩;unfold a2V;have mt:∀{x y:Str} {R:PV->Nat->Prop},Fair st es->Ev.t x y∈es->(ixS st y < ixS st x->((btwU st x y).length:Int)<=r->(∀z∈btwU st x y,z∈es.flatMap evB)->R .non n)->(∀w,isRs r st es w->R (rsP w) n)->a1b [rowP st,.int r,shP es,evP (.t x y)] n R:=fun fr he q q'=>a9c hs fr hg he hl q q';have mc:∀{x y:Str} {R:PV->Nat->Prop},Fair st es->Ev.t x y∈es->((∀x' y',Ev.t x' y'∈es->four x y x' y'->(x'∈btwU st x y↔y'∈btwU st x y))->R .non n)->(∀w,isRs r st es w->R (rsP w) n)->a1c [rowP st,evP (.t x y),.lst ((es.filter isTo).map evP)] n R:=fun fr he q q'=>a9g hs fr he q q';have mb:∀{R:PV->Nat->Prop},(Fair st es->R .non n)->(∀w,isRs r st es w->R (rsP w) n)->a1l [rowP st,shP es] n R:=fun q q'=>a9h hg hl q q';have mo:∀{R:PV->Nat->Prop},R (.lst ((es.filter isTo).map evP)) n->a0O [shP es] n R:=fun q=>a6A (by omega) q;generalize hW:rowP st=W at *;generalize hS:shP es=S at *;generalize hL:(es.filter isTo).map evP=L at *;walk_at "pu";refine mb (fun fr=>?_) fun w hw=>?_
 rotate_left
 · obtain⟨a,l,e⟩:=a4n w;have:=h1 w hw;rw [e] at this ⊢
   first | exact this | (walk_at "pu";exact this)
 try dsimp only
 refine mo ?_;refine a0Z (fun i env m=>∃s5,env=[some (.v W),some (.v (.int r)),some (.v S),some (.v .non),some (.v (.lst L)),s5]/\m=n/\∀x y,Ev.t x y∈(es.filter isTo).take i->ixS st y < ixS st x/\((btwU st x y).length:Int)<=r/\(∀z∈btwU st x y,z∈es.flatMap evB)/\∀x' y',Ev.t x' y'∈es->four x y x' y'->(x'∈btwU st x y↔y'∈btwU st x y)) _ 0 _ _ ⟨none,rfl,rfl,fun x' y' z=>by simp at z⟩ (fun i z env m N ex hI hN=>?_) (fun env m hI=>?_)
 · obtain⟨s3,rfl,rfl,hb⟩:=hI;rw [<- hL] at ex;obtain⟨e,ee,rfl⟩:=a2X ex;rw [x1w] at hb hN;obtain⟨em,et⟩:=x0W.mp (x0u ee);cases e with
   | d z=>cases et
   | t x' y' =>
     generalize hU:evP (.t x' y')=U at *;walk_at "pu";rw [<- hU];refine mt fr em (fun z1 z2 z3=>?_) fun w hw=>?_
     · walk_at "pu";refine mc fr em (fun z4=>?_) fun w hw=>?_
       · rw [hU];refine hN _ _ ⟨_,rfl,rfl,fun a b hab=>?_⟩;rw [a3b ee] at hab;rcases x0C.mp hab with hab | hab
         · exact hb a b hab
         · cases x0n.mp hab;exact⟨z1,z2,z3,z4⟩
       · obtain⟨a,l,e⟩:=a4n w;have:=h1 w hw;rw [e] at this ⊢
         first | exact this | (walk_at "pu";exact this)
     · obtain⟨a,l,e⟩:=a4n w;have:=h1 w hw;rw [e] at this ⊢
       first | exact this | (walk_at "pu";exact this)
 · obtain⟨s3,rfl,rfl,hb⟩:=hI;rw [x1w,<- hL,x0e,x4r] at hb;have hb':∀x y,Ev.t x y∈es->_:=fun x y he=>hb x y (x0W.mpr ⟨he,rfl⟩);have:=h ⟨fr,fun x y he=>(hb' x y he).1,fun x y he=>(hb' x y he).2.1,fun x y he=>(hb' x y he).2.2.1,fun x y x' y' he he'=>b2C nd fr hg he he' ((hb' x y he).2.2.2 x' y' he')⟩;walk_at "pu";exact this
theorem b2W {r:Int}{st:List Str}{es:List Ev}{n:Nat}{R:PV->Nat->Prop}(hs:st.length<=63)(nd:st.Nodup)(hg:∀e∈es,Good e)(hl:es.length<=63)
   (h:a4f r st es->∀ts:List Ev,ts.Perm (es.filter isTo)->(ts.Pairwise fun a b=>evL st a<=evL st b)->R (.tup [.str (x0j "course"),.tup ((es.filter isDr++ts).map evP)]) n)
   (h1:∀w,isRs r st es w->R (.tup [.str (x0j "unsound"),rsP w]) n):a2b [rowP st,.int r,shP es] n R:=by
 refine⟨rfl,?_⟩;unfold a3C;have mr:∀{R:PV->Nat->Prop},(a4f r st es->R .non n)->(∀w,isRs r st es w->R (rsP w) n)->a1K [rowP st,.int r,shP es] n R:=fun q q'=>b0R (by omega) nd hg (by omega) q q';have mo:∀{R:PV->Nat->Prop},R (.lst ((es.filter isTo).map evP)) n->a0O [shP es] n R:=fun q=>a6A (by omega) q
 have tl:((es.filter isTo).map evP).length < 64:=by
   rw [x0e];have:=List.length_filter_le isTo es;omega
 have dl:((es.filter isDr).map evP).length < 64:=by
   rw [x0e];have:=List.length_filter_le isDr es;omega
 have kk:Fair st es->∀R,R ((es.filter isTo).map (evL st)) n->a7B (qUn wLen (a0t a0G (a0c (qV 1) (a0c (qV 0) qNil)))) (rowP st) ((es.filter isTo).map evP) n R:=fun fr R q=>a8o (by omega) _ R (fun e he=>by
   obtain⟨em,et⟩:=x0W.mp he;cases e with
   | d z=>cases et
   | t x y =>
     obtain⟨hx,hy⟩:=fr.tx em
     exact⟨x,y,rfl,hx,hy⟩) q
 have hS':shP es=.tup (es.map evP):=rfl;have El:(es.map evP).length=es.length:=x0e ..
 have cf:=fun R' q=>a3r (tt:=(qB (qOp (wEq 4) (qOp wIx (qV 0) (qC (.int 0))) (qC (.str (x0j "drop")))))) (rest:=[]) evP isDr es none n R' (fun e he m Q hQ=>by
   cases e with
   | d x =>
     rw [a4Q] at *;walk_at "pu";exact hQ
   | t x y =>
     rw [a2B] at *;walk_at "pu";rw [a5h]
     exact hQ) q
 generalize hW:rowP st=W at *;generalize hS:shP es=S at *;generalize hL:(es.filter isTo).map evP=L at *;generalize hD:(es.filter isDr).map evP=D at *;generalize hE:es.map evP=E at *;walk_at "pu";refine mr (fun so=>?_) fun w hw=>?_
 rotate_left
 · obtain⟨a,l,e⟩:=a4n w;have:=h1 w hw;rw [e] at this ⊢
   first | exact this | (walk_at "pu";exact this)
 try dsimp only
 rw [hS']
 try dsimp only
 refine⟨by omega,cf _ ?_⟩;rw [<- hS'];refine mo ?_
 try dsimp only
 refine⟨tl,kk so.fair _ fun ys hy=>?_⟩;rw [<- hL] at hy;obtain⟨ts,rfl,pt,ot⟩:=b2a hy;have:=h so ts pt ot;rw [x0Y,hD] at this;have tsl:(ts.map evP).length < 64:=by rw [x0e,pt.length_eq,<- x0e (f:=evP),hL];exact tl
 generalize ts.map evP=TE at *
 try dsimp only
 refine⟨by omega,this⟩
theorem at_nm {zs:List Str}{Z:List PV}(hZ:zs.map PV.str=Z){i:Nat}(h:i < zs.length):atI Z (i:Int)=some (.str (nm zs i)):=by
 obtain⟨x,e1,e2⟩:=b1P (xs:=Z) (d:=(i:Int)) (by omega) (by rw [<- hZ,x0e];omega);rw [e2];rw [x3W,<- hZ,x0p,b2R h] at e1;exact e1.symm
noncomputable def apB (a b c d:Int):Bool:=decide (b < c) || (decide (d < a) || ((decide (a < c) && decide (d < b)) || (decide (c < a) && decide (b < d))))
noncomputable def apt (p q:Nat×Nat):Prop:=apB p.1 p.2 q.1 q.2=true
theorem b3z (a b c d:Int):apB a b c d=apB c d a b:=by
 unfold apB;rw [x2F];simp only [x3J,x1r,decide_eq_true_eq];omega
theorem b2Y {a b c d:Int}{n:Nat}{R:PV->Nat->Prop}(h:R (.bl (apB a b c d)) n):a1Q [.tup [.int a,.int b],.tup [.int c,.int d]] n R:=by
 refine⟨rfl,?_⟩;unfold a2z;unfold apB at h;walk_at "pu";cases h1:decide (b < c) <;> rw [h1] at h <;> cases h2:decide (d < a) <;> rw [h2] at h <;> cases h3:decide (a < c) <;> rw [h3] at h <;> cases h4:decide (d < b) <;> rw [h4] at h <;> cases h5:decide (c < a) <;> rw [h5] at h <;> exact h
structure Snd (n:Nat)(r:Int)(ps:List (Nat×Nat))(ds:List Nat):Prop where
 pr:∀p∈ps,p.1 < p.2/\p.2 < n/\(p.2:Int) - p.1 - 1<=r
 ap:ps.Pairwise apt
 dn:ds.Nodup
 dl:∀d∈ds,d < n/\d∉ps.flatMap fun p=>[p.1,p.2]
 dw:∀d,d < n->d∉(ps.flatMap fun p=>[p.1,p.2])->(∃p∈ps,p.1 < d/\d < p.2)->d∈ds
noncomputable def tch (zs:List Str)(p:Nat×Nat):Ev:=.t (nm zs p.2) (nm zs p.1)
noncomputable def drp (zs:List Str)(d:Nat):Ev:=.d (nm zs d)
noncomputable def a4P (zs:List Str)(ps:List (Nat×Nat))(ds:List Nat):List Ev:=ps.map (tch zs)++ds.map (drp zs)
theorem Snd.good {zs:List Str}{r:Int}{ps:List (Nat×Nat)}{ds:List Nat}(nd:zs.Nodup)(h:Snd zs.length r ps ds):∀e∈a4P zs ps ds,Good e:=fun e he=>by
 rcases x0C.mp he with he | he
 · obtain⟨p,hp,rfl⟩:=x0F.mp he;obtain⟨h1,h2,_⟩:=h.pr p hp;exact fun z=>by have:=nm_inj nd h2 (by omega) z;omega
 · obtain⟨p,hp,rfl⟩:=x0F.mp he
   trivial
noncomputable def pinN (k:Nat):PV:=.int (k:Int)
noncomputable def prP (p:Nat×Nat):PV:=.tup [.int (p.1:Int),.int (p.2:Int)]
theorem memN (k:Nat):∀xs:List Nat,memP (.int (k:Int)) (xs.map pinN)=decide (k∈xs):=by
 intro xq
 induction xq with
 | nil =>
   exact rfl
 | cons x xs ih =>
   show(eqP (.int (x:Int)) (.int (k:Int)) || memP (.int (k:Int)) (xs.map pinN))=_;rw [ih,b3Z,x2F];simp only [x3J,decide_eq_true_eq,x0k];constructor
   · rintro(e | e)
     · exact .inl (by omega)
     · exact .inr e
   · rintro(e | e)
     · exact .inl (by omega)
     · exact .inr e
theorem cmpN (xs:List Nat)(d:Nat):(xs.map pinN).all (cmpb d)=true:=x0A.mpr fun y hy=>by
 obtain⟨k,_,rfl⟩:=x0F.mp hy;cases d <;> rfl
theorem b5s {n:Nat}{zs:List Str}{r:Int}{R:PV->Nat->Prop}(h1:1<=zs.length)(h2:zs.length<=24)(r0:0<=r)(r1:r<=7)(hn:n<=999990000)(h:∀ps ds (es:List Ev) n',Snd zs.length r ps ds->es.Perm (a4P zs ps ds)->SrE es->ps.length<=24->ds.length<=24->n'<=n + 200->R (shP es) n'):a1v [.pot (q + 1),rowP zs,.int r] n R:=by
 refine⟨rfl,?_⟩;unfold a2w;have hr0:rowP zs=.tup (zs.map PV.str):=rfl;have hat:∀i:Nat,i < zs.length->atI (zs.map PV.str) (i:Int)=some (.str (nm zs i)):=fun i hi=>at_nm rfl hi;generalize hZ:zs.map PV.str=Z at *;have Zl:Z.length=zs.length:=by rw [<- hZ,x0e]
 rw [hr0];walk_at "pu";refine⟨by omega,fun d d0 d1=>⟨by omega,?_⟩⟩;refine a0Z (fun i env m=>∃s7 s8 s9,∃ps:List (Nat×Nat),env=[some (.v (.pot (q + 1))),some (.v (.tup Z)),some (.v (.int r)),some (.v (.int (Z.length:Int))),some (.own (ps.map prP)),some (.own ((ps.flatMap fun p=>[p.1,p.2]).map pinN)),some (.own ((ps.map (tch zs)).map evP)),s7,s8,s9,none,none,none]/\(∀p∈ps,p.1 < p.2/\p.2 < zs.length/\(p.2:Int) - p.1 - 1<=r)/\ps.Pairwise apt/\ps.length<=i/\m<=n + 1 + 2 * i) _ 0 _ _ ⟨none,none,none,[],rfl,(fun _ z=>by cases z),x4V,by simp,by omega⟩ (fun i x env m N ex hI hN=>?_) (fun env m hI=>?_)
 · obtain⟨hi,rfl⟩:=a3y ex;obtain⟨s7,s8,s9,ps,rfl,hp,ha,hl,hm⟩:=hI;generalize hA:ps.map prP=A;generalize hB:(ps.flatMap fun p=>[p.1,p.2]).map pinN=B;generalize hC:(ps.map (tch zs)).map evP=C;walk_at "pu";have Al:A.length=ps.length:=by rw [<- hA,x0e]
   have Bl:B.length=2 * ps.length:=by rw [<- hB,x0e];clear hA hB hC hp ha hl Al;induction ps with | nil=>rfl | cons p ps ih=>rw [x1E,x0l,ih,show(p::ps).length=ps.length + 1 from rfl];show 2 + _=_;omega
   have Cl:C.length=ps.length:=by rw [<- hC,x0e,x0e]
   refine⟨by omega,fun a a0 a1=>⟨by omega,fun f f0 f1=>?_⟩⟩;have skip:∀m',m'<=m + 2->N [some (.v (.pot (q + 1))),some (.v (.tup Z)),some (.v (.int r)),some (.v (.int (Z.length:Int))),some (.own A),some (.own B),some (.own C),some (.v (.int (0 + i))),some (.v (.int a)),some (.v (.int (1 + f))),none,none,none] m':=fun m' hm'=>hN _ _ ⟨some (.v (.int (0 + i))),some (.v (.int a)),some (.v (.int (1 + f))),ps,by rw [hA,hB,hC],hp,ha,by omega,by omega⟩
   by_cases c1:a + (1 + f) < (Z.length:Int)
   · rw [if_pos (decide_eq_true c1)];refine⟨by omega,?_⟩;obtain⟨an,rfl⟩:=x2S a0;obtain⟨fn,rfl⟩:=x2S f0;have e1:(an:Int) + (1 + fn)=((an + 1 + fn:Nat):Int):=by omega
     rw [<- hA];refine a2H prP (fun p=>.bl (apB an ((an + 1 + fn:Nat):Int) p.1 p.2)) _ _ _ _ (fun p hp' m' Q hQ=>?_) ?_
     · unfold prP at hQ ⊢;walk_at "pu";refine b2Y ?_;rw [e1];exact hQ
     · rw [a2E];dsimp only;rw [a8D];cases hb:ps.all fun p=>apB an ((an + 1 + fn:Nat):Int) p.1 p.2 with
       | false=>rw [hA];exact skip _ (by omega)
       | true =>
         rw [hA];refine⟨⟨_,rfl⟩,by omega,⟨_,rfl⟩,by omega,⟨_,rfl⟩,?_⟩;rw [e1,hat (an + 1 + fn) (by omega),hat an (by omega)];refine⟨by omega,hN _ _ ⟨some (.v (.int (0 + i))),some (.v (.int (an:Int))),some (.v (.int (1 + (fn:Int)))),ps++[(an,an + 1 + fn)],?_,fun p hp'=>?_,?_,by rw [x0l,x0E];omega,by omega⟩⟩
         · rw [x0Y,x1I,x0Y,x0Y,x0Y,hA,hB,hC]
           rfl
         · rcases x0C.mp hp' with hp' | hp'
           · exact hp p hp'
           · rw [x0n.mp hp'];exact⟨by show an < an + 1 + fn;omega,by show an + 1 + fn < _;omega,by show((an + 1 + fn:Nat):Int) - an - 1<=r;omega⟩
         · rw [x4t];refine⟨ha,List.pairwise_singleton _ _,fun p hp' p2 hp2=>?_⟩;rw [x0n.mp hp2];show apB p.1 p.2 an ((an + 1 + fn:Nat):Int)=true;rw [b3z];exact x0A.mp hb p hp'
   · rw [if_neg (by simpa using c1)];exact skip _ (by omega)
 · obtain⟨s7,s8,s9,ps,rfl,hp,ha,hl,hm⟩:=hI;rw [a2u] at hl hm;generalize hA:ps.map prP=A;generalize hB:(ps.flatMap fun p=>[p.1,p.2]).map pinN=B;have Al:A.length=ps.length:=by rw [<- hA,x0e]
   dsimp only;refine a0Z (fun i env m'=>∃s4 s10 s11 s12,∃ds:List Nat,env=[some (.v (.pot (q + 1))),some (.v (.tup Z)),some (.v (.int r)),some (.v (.int (Z.length:Int))),s4,some (.own B),some (.own ((a4P zs ps ds).map evP)),s7,s8,s9,s10,s11,s12]/\(s4=some (.own A)\/s4=some (.v (.lst A)))/\ds.Nodup/\(∀d∈ds,d < i/\d∉ps.flatMap fun p=>[p.1,p.2])/\(∀d,d < i->d∉(ps.flatMap fun p=>[p.1,p.2])->(∃p∈ps,p.1 < d/\d < p.2)->d∈ds)/\ds.length<=i/\m'<=m + i) _ 0 _ _ ⟨some (.own A),none,none,none,[],by unfold a4P;simp,.inl rfl,x4R,(fun _ z=>by cases z),(fun _ z=>by omega),by simp,by omega⟩ (fun i x env m' N ex hI hN=>?_) (fun env m' hI=>?_)
   · obtain⟨y,ey,rfl⟩:=a6L ex;rw [<- hZ] at ey;obtain⟨z,ez,rfl⟩:=a2X ey;obtain⟨s4,s10,s11,s12,ds,rfl,h4,nd,hd,hw,dl,hm'⟩:=hI;have hi:=(x0i.mp ez).1;have enm:z=nm zs i:=by have:=b2R hi;rw [ez] at this;exact x0H this
     subst enm;generalize hC:(a4P zs ps ds).map evP=C;have Cl:C.length=ps.length + ds.length:=by rw [<- hC,x0e];unfold a4P;rw [x0l,x0e,x0e]
     have drop1:∀m'',m''<=m' + 1->i∉(ps.flatMap fun p=>[p.1,p.2])->∀b:Bool,N [some (.v (.pot (q + 1))),some (.v (.tup Z)),some (.v (.int r)),some (.v (.int (Z.length:Int))),some (.v (.lst A)),some (.own B),some (.own (C++[PV.tup [PV.str (x0j "drop"),PV.str (nm zs i)]])),s7,s8,s9,some (.v (.int (i:Int))),some (.v (.str (nm zs i))),some (.v (.bl b))] m'':=fun m'' hm'' hni b=>by
       refine hN _ _ ⟨some (.v (.lst A)),some (.v (.int (i:Int))),some (.v (.str (nm zs i))),some (.v (.bl b)),ds++[i],?_,.inr rfl,?_,fun d hd'=>?_,fun d h1 h2 h3=>?_,by rw [x0l,x0E];omega,by omega⟩
       · have:(a4P zs ps (ds++[i])).map evP=C++[PV.tup [PV.str (x0j "drop"),PV.str (nm zs i)]]:=by
           rw [<- hC];unfold a4P;rw [x0Y,x0Y,x0Y,x0Y,x0S];rfl
         rw [this]
       · rw [x2j];refine⟨nd,by simp,fun a ha b hb e=>?_⟩;rw [x0n.mp hb] at e;have:=(hd a ha).1;omega
       · rcases x0C.mp hd' with hd' | hd'
         · exact⟨by have:=(hd d hd').1;omega,(hd d hd').2⟩
         · rw [x0n.mp hd'];exact⟨by omega,hni⟩
       · by_cases c:d < 0 + i
         · exact x1a _ (hw d c h2 h3)
         · exact x0t _ (x0n.mpr (by omega))
     have stay:∀m'',m''<=m' + 1->(i∉(ps.flatMap fun p=>[p.1,p.2])->¬∃p∈ps,p.1 < i/\i < p.2)->∀b:Bool,N [some (.v (.pot (q + 1))),some (.v (.tup Z)),some (.v (.int r)),some (.v (.int (Z.length:Int))),some (.v (.lst A)),some (.own B),some (.own C),s7,s8,s9,some (.v (.int (i:Int))),some (.v (.str (nm zs i))),some (.v (.bl b))] m'':=fun m'' hm'' hni b=>by
       refine hN _ _ ⟨some (.v (.lst A)),some (.v (.int (i:Int))),some (.v (.str (nm zs i))),some (.v (.bl b)),ds,by rw [hC],.inr rfl,nd,fun d hd'=>⟨by have:=(hd d hd').1;omega,(hd d hd').2⟩,fun d h1 h2 h3=>?_,by omega,by omega⟩
       by_cases c:d < 0 + i
       · exact hw d c h2 h3
       · have:d=i:=by omega
         subst this;exact absurd h3 (hni h2)
     have key:(ps.any fun p=>decide (p.1 < i) && decide (i < p.2))=true↔∃p∈ps,p.1 < i/\i < p.2:=by
       rw [x2f];simp only [x1r,decide_eq_true_eq]
     rcases h4 with rfl | rfl <;> walk_at "pu"
     all_goals
       refine⟨by omega,?_⟩;rw [<- hA];refine a9x (fun p:Nat×Nat=>PV.int (p.1:Int)) (fun p=>PV.int (p.2:Int)) (fun p=>PV.bl (decide (p.1 < i) && decide (i < p.2))) ps _ _ _ _ (fun p hp' m'' Q hQ=>?_) ?_
       · walk_at "pu"
         by_cases c1:p.1 < i
         · rw [if_pos (decide_eq_true (by omega))];rw [decide_eq_true c1,x2V] at hQ;rw [show decide ((i:Int) < (p.2:Int))=decide (i < p.2) by rw [decide_eq_decide];omega];exact hQ
         · rw [if_neg (by simp;omega)];rw [decide_eq_false c1,x1W] at hQ;exact hQ
       · rw [a2E];dsimp only;rw [b4n];generalize hb:(ps.any fun p=>decide (p.1 < i) && decide (i < p.2))=b at key ⊢;rw [hA,<- hB];refine⟨rfl,cmpN _ _,?_⟩;rw [memN,hB]
         by_cases ci:i∈ps.flatMap fun p=>[p.1,p.2]
         · rw [decide_eq_true ci];exact stay m' (by omega) (fun z=>absurd ci z) b
         · rw [decide_eq_false ci];refine if_t rfl ?_;cases b with
           | true=>exact if_t rfl ⟨⟨_,rfl⟩,by omega,drop1 m' (by omega) ci true⟩
           | false =>
             refine if_f rfl ⟨by omega,fun e e0 e1=>?_⟩
             by_cases ce:e=0
             · exact if_t (decide_eq_true ce) ⟨⟨_,rfl⟩,by omega,drop1 (m' + 1) (by omega) ci false⟩
             · exact if_f (decide_eq_false ce) (stay (m' + 1) (by omega) (fun _ z=>by cases key.mpr z) false)
   · obtain⟨s4,s10,s11,s12,ds,rfl,h4,nd,hd,hw,dl,hm'⟩:=hI;rw [a4T,x1w,Zl] at hd hw dl hm';dsimp only;have Cl:((a4P zs ps ds).map evP).length=ps.length + ds.length:=by rw [x0e];unfold a4P;rw [x0l,x0e,x0e]
     refine⟨by rw [Cl];omega,a5t _,fun ys hys=>?_⟩;obtain⟨es,rfl,pe⟩:=b1s hys;exact h ps ds es _ ⟨hp,ha,nd,hd,hw⟩ pe hys.2 (by omega) (by omega) (by omega)
noncomputable def b3w:pS:=(qSeq (qIfS (qAnd (qB (qOp (wEq 4) (qV 4) (qC (.int 1)))) (qB (qOp (wEq 4) (qOp wIx (qV 10) (qC (.int 0))) (qC (.str (x0j "touch")))))) (a1Z (a0Y 11 (qTup (a0c (qC (.str (x0j "touch"))) (a0c (qOp wIx (qV 10) (qC (.int 2))) (a0c (qOp wIx (qV 10) (qC (.int 1))) qNil)))))) qNx)
   (qSeq (qIfS (qB (qOp (wEq 4) (qV 4) (qC (.int 2)))) (a1Z (a2U 11 (qV 9))) qNx)
   (qSeq (qIfS (qAnd (qB (qOp (wEq 4) (qV 4) (qC (.int 3)))) (qB (qOp (wIn 4 true) (qV 7) (qV 10)))) (a1Z (a0Y 11 (qOp wAdd (qSl (qV 10) qNo (a1t (qOp wSub (qUn wLen (qV 10)) (qC (.int 1))))) (qTup (a0c (qV 7) qNil))))) qNx)
   (qRet (qUn a2t (qL (a1B (qO 11))))))))
noncomputable def b1O:pS:=(qSeq (qIfS (qOr (qB (qOp wGt (qV 4) (qC (.int 3)))) (qB (qOp (wEq 4) (qV 5) (qUn wLen (qV 2))))) (qRet (qUn a2t (qL (a1B (qL (qCat (qL (a2T (qV 2))) (qV 9))))))) qNx)
   (qSeq (qPar 10 11 (sV (qOp wIx (qV 2) (qV 5))) (sO (a2T (qOp wAdd (qSl (qV 2) qNo (a1t (qV 5))) (qSl (qV 2) (a1t (qOp wAdd (qV 5) (qC (.int 1)))) qNo))))) b3w))
theorem a9P (es:List Ev):a9E (es.map evP):=by
 refine⟨fun x hx=>?_,fun x hx y hy=>?_⟩
 · obtain⟨e,_,rfl⟩:=x0F.mp hx;exact⟨evK e,rfl,ev_ne e⟩
 · obtain⟨e,_,rfl⟩:=x0F.mp hx;obtain⟨f,_,rfl⟩:=x0F.mp hy;show Al (keyP (.tup ((evK e).map kP))) (keyP (.tup ((evK f).map kP)));rw [a1k,a1k];exact ev_al e f
theorem a7l {R:List PV->Prop}{xs:List Ev}(hl:xs.length<=63)(h:∀es':List Ev,(∀e∈es',e∈xs)->SrE es'->es'.length<=xs.length->R (es'.map evP)):(xs.map evP).length<=63/\a9E (xs.map evP)/\∀ys,SrtS ys (xs.map evP)->R ys:=by
 refine⟨by rw [x0e];exact hl,a9P xs,fun ys hys=>?_⟩;obtain⟨es',rfl,he⟩:=b3U xs ys fun y hy=>(hys.2.1 y).mp hy;refine h es' he hys.2.2 ?_;have:=hys.1.length_le_of_subset fun y hy=>(hys.2.1 y).mp hy;rw [x0e,x0e] at this;exact this
theorem le3m {n:Nat}:n<=3->n<=1000000:=fun h=>x1f h (by decide)
theorem b5v {n:Nat}{a2 a5:Option Pu.Slot}{one:Str}{e1 e:Ev}{rs:List Ev}{R:PV->Nat->Prop}(hr:rs.length<=60)(g1:Good e1)(ge:Good e)(hg:∀e∈rs,Good e)(h:∀es':List Ev,(∀e∈es',Good e)->SrE es'->es'.length<=rs.length + 1->R (shP es') n) :
   b3w { nx:=NX,rt:=R } [some (.v (.pot (q + 1))),a1,a2,a3,some (.v (.int way)),a5,a6,some (.v (.str one)),a8,some (.v (.lst [evP e1])),some (.v (evP e)),some (.own (rs.map evP))] n:=by
 have fin0:(rs.map evP).length<=63/\a9E (rs.map evP)/\∀ys,SrtS ys (rs.map evP)->R (.tup ys) n:=a7l (R:=fun ys=>R (.tup ys) n) (by omega) fun es' h1 hs h2=>h es' (fun e he=>hg e (h1 e he)) hs (by omega)
 have fin1:∀x:Ev,Good x->(rs.map evP++[evP x]).length<=63/\a9E (rs.map evP++[evP x])/\∀ys,SrtS ys (rs.map evP++[evP x])->R (.tup ys) n:=fun x gx=>by
   have:=a7l (R:=fun ys=>R (.tup ys) n) (xs:=rs++[x]) (by rw [x0l,x0E];omega) fun es' h1 hs h2=>h es' (fun e he=>?_) hs (by rw [x0l,x0E] at h2;omega)
   · rw [x0Y] at this;exact this
   · rcases x0C.mp (h1 e he) with z | z
     · exact hg e z
     · rw [x0n.mp z];exact gx
 have Sl:(rs.map evP).length=rs.length:=x0e ..
 have ways:(decide (way=1)=true/\decide (way=2)=false/\decide (way=3)=false)\/(decide (way=1)=false/\decide (way=2)=true/\decide (way=3)=false)\/(decide (way=1)=false/\decide (way=2)=false/\decide (way=3)=true)\/(decide (way=1)=false/\decide (way=2)=false/\decide (way=3)=false):=by
   by_cases c1:way=1
   · subst c1;exact .inl ⟨rfl,rfl,rfl⟩
   · by_cases c2:way=2
     · subst c2;exact .inr (.inl ⟨rfl,rfl,rfl⟩)
     · by_cases c3:way=3
       · subst c3;exact .inr (.inr (.inl ⟨rfl,rfl,rfl⟩))
       · exact .inr (.inr (.inr ⟨decide_eq_false c1,decide_eq_false c2,decide_eq_false c3⟩))
 have f1:=fin1 e1 g1;generalize hP:evP e1=P at *;cases e with
 | d x =>
   have f3:=fin1 (.d one) trivial;rw [a4Q] at f3 ⊢;generalize hS:rs.map evP=S at *;have Sx:S.length < 1000000:=by omega
   rcases ways with⟨b1,b2,b3⟩ | ⟨b1,b2,b3⟩ | ⟨b1,b2,b3⟩ | ⟨b1,b2,b3⟩
   · exact if_t b1 (if_f b2 (if_f b3 (if_f rfl fin0)))
   · exact if_f b1 (if_f rfl (if_t b2 ⟨⟨_,rfl⟩,Sx,if_f b3 (if_f rfl f1)⟩))
   · refine if_f b1 (if_f rfl (if_f b2 (if_t b3 ?_)));walk_at "pd";refine a4h (zs:=[DROP,x]) rfl ?_;dsimp only
     by_cases c:one∈[DROP,x]
     · rw [decide_eq_true c];exact fin0
     · rw [decide_eq_false c];exact⟨⟨_,rfl⟩,le3m (by decide),le3m (x4m rfl),Sx,f3⟩
   · exact if_f b1 (if_f rfl (if_f b2 (if_f b3 (if_f rfl fin0))))
 | t x y =>
   have f2:=fin1 (.t y x) (fun z=>ge z.symm);have f3:=fun(z:x≠one)=>fin1 (.t x one) z;rw [a2B] at f2 f3 ⊢;generalize hS:rs.map evP=S at *;have Sx:S.length < 1000000:=by omega
   rcases ways with⟨b1,b2,b3⟩ | ⟨b1,b2,b3⟩ | ⟨b1,b2,b3⟩ | ⟨b1,b2,b3⟩
   · exact if_t b1 ⟨⟨_,rfl⟩,le3m (x4m rfl),Sx,if_f b2 (if_f b3 (if_f rfl f2))⟩
   · exact if_f b1 (if_f rfl (if_t b2 ⟨⟨_,rfl⟩,Sx,if_f b3 (if_f rfl f1)⟩))
   · refine if_f b1 (if_f rfl (if_f b2 (if_t b3 ?_)));walk_at "pd";refine a4h (zs:=[a0L,x,y]) rfl ?_;dsimp only
     by_cases c:one∈[a0L,x,y]
     · rw [decide_eq_true c];exact fin0
     · rw [decide_eq_false c];exact⟨⟨_,rfl⟩,le3m (by decide),le3m (x4m rfl),Sx,f3 fun z=>c (by rw [z];simp)⟩
   · exact if_f b1 (if_f rfl (if_f b2 (if_f b3 (if_f rfl fin0))))
theorem b5w {n:Nat}{pl:Nat}{one:Str}{e1:Ev}{es:List Ev}{R:PV->Nat->Prop}(hl:es.length<=60)(hp:pl<=es.length)(g1:Good e1)(hg:∀e∈es,Good e)(h:∀es':List Ev,(∀e∈es',Good e)->SrE es'->es'.length<=es.length + 1->R (shP es') n) :
   b1O { nx:=NX,rt:=R } [some (.v (.pot (q + 1))),a1,some (.v (.tup (es.map evP))),a3,some (.v (.int way)),some (.v (.int (pl:Int))),a6,some (.v (.str one)),a8,some (.v (.lst [evP e1])),none,none] n:=by
 have f1:(es.map evP++[evP e1]).length<=63/\a9E (es.map evP++[evP e1])/\∀ys,SrtS ys (es.map evP++[evP e1])->R (.tup ys) n:=by
   have:=a7l (R:=fun ys=>R (.tup ys) n) (xs:=es++[e1]) (by rw [x0l,x0E];omega) fun es' h1 hs h2=>h es' (fun e he=>?_) hs (by rw [x0l,x0E] at h2;omega)
   · rw [x0Y] at this;exact this
   · rcases x0C.mp (h1 e he) with z | z
     · exact hg e z
     · rw [x0n.mp z];exact g1
 have fu:∀(hlt:pl < es.length),b3w { nx:=NX,rt:=R } [some (.v (.pot (q + 1))),a1,some (.v (.tup (es.map evP))),a3,some (.v (.int way)),some (.v (.int (pl:Int))),a6,some (.v (.str one)),a8,some (.v (.lst [evP e1])),some (.v (evP es[pl])),some (.own ((es.take pl++es.drop (pl + 1)).map evP))] n:=fun hlt=>by
   have ll:(es.take pl++es.drop (pl + 1)).length=es.length - 1:=by rw [x0l,x1e,x1y];omega
   refine b5v (by omega) g1 (hg _ (x2q hlt)) (fun e he=>?_) fun es' h1 hs h2=>h es' h1 hs (by omega);rcases x0C.mp he with z | z
   · exact hg e (x4u z)
   · exact hg e (x4s z)
 unfold b1O;generalize b3w=U at *;have ai:∀hlt:pl < es.length,atI (es.map evP) (pl:Int)=some (evP es[pl]):=fun hlt=>a7K (by rw [x0p,x0c hlt];rfl);have c1:=b4d (es.map evP) pl;have c2:=b4c (es.map evP) (pl + 1);have cm:(es.take pl++es.drop (pl + 1)).map evP=(es.map evP).take pl++(es.map evP).drop (pl + 1):=by rw [x0Y,x4x,x4y]
 generalize hP:evP e1=P at *;have El:(es.map evP).length=es.length:=x0e ..;generalize hE:es.map evP=E at *;walk_at "pu";have r1:E.length<=999999:=by omega
 by_cases d1:3 < way
 · exact if_t (decide_eq_true d1) ⟨r1,f1⟩
 · refine if_f (decide_eq_false d1) ?_
   by_cases d2:(pl:Int)=(E.length:Int)
   · exact if_t (decide_eq_true d2) ⟨r1,f1⟩
   · refine if_f (decide_eq_false d2) ?_;have hlt:pl < es.length:=by omega
     have e2:cutP E (some ((pl:Int) + 1)) none=E.drop (pl + 1):=by rw [<- c2];rfl
     rw [ai hlt,c1,e2];have:=fu hlt;rw [cm] at this;exact⟨by rw [x1e,x1y];omega,this⟩
theorem b5X:a2W=(qSeq (qPar 4 5 (sV (a0t b__law_draw (a0c (qV 0) (a0c (qC (.int 6)) qNil)))) (sV (a0t b__law_draw (a0c (qV 0) (a0c (qOp wAdd (qUn wLen (qV 2)) (qC (.int 1))) qNil)))))
   (qSeq (qSet 6 (qL (qCat (qL (a2T (qV 1))) (qL (a2T (qV 3))))))
   (qSeq (qPar 7 8 (sV (qOp wIx (qV 6) (a0t b__law_draw (a0c (qV 0) (a0c (qUn wLen (qV 6)) qNil))))) (sV (qOp wIx (qV 6) (a0t b__law_draw (a0c (qV 0) (a0c (qUn wLen (qV 6)) qNil))))))
   (qSeq (qSet 9 (qIf (qOr (qB (qOp (wEq 4) (qV 7) (qV 8))) (qB (qOp (wEq 4) (a0t b__law_draw (a0c (qV 0) (a0c (qC (.int 3)) qNil))) (qC (.int 0))))) (qL (qLst (a0c (qTup (a0c (qC (.str (x0j "drop"))) (a0c (qV 7) qNil))) qNil))) (qL (qLst (a0c (qTup (a0c (qC (.str (x0j "touch"))) (a0c (qV 7) (a0c (qV 8) qNil)))) qNil))))) b1O)))):=rfl
theorem m_bent {n:Nat}{st sp:List Str}{es:List Ev}{R:PV->Nat->Prop}(h1:1<=(st++sp).length)(h2:(st++sp).length<=100)(he:es.length<=60)(hg:∀e∈es,Good e)(hn:n<=999990000)(h:∀(es':List Ev) n',(∀e∈es',Good e)->SrE es'->es'.length<=es.length + 1->n'<=n + 10->R (shP es') n'):a1L [.pot (q + 1),rowP st,shP es,rowP sp] n R:=by
 refine⟨rfl,?_⟩;rw [b5X];have hs0:shP es=.tup (es.map evP):=rfl;have hr0:rowP st=.tup (st.map PV.str):=rfl;have hr1:rowP sp=.tup (sp.map PV.str):=rfl
 have fin:∀(way:Int) (at_:Int) (one:Str) (e1:Ev) (n':Nat) (a1 a3 a6 a8:Option Pu.Slot),0<=at_->at_ < (es.map evP).length + 1->Good e1->n'<=n + 10->b1O { nx:=fun _ m=>R PV.non m,rt:=R } [some (.v (.pot (q + 1))),a1,some (.v (.tup (es.map evP))),a3,some (.v (.int way)),some (.v (.int at_)),a6,some (.v (.str one)),a8,some (.v (.lst [evP e1])),none,none] n':=fun way at_ one e1 n' a1 a3 a6 a8 p0 p1 g1 hn'=>by
   obtain⟨pl,rfl⟩:=x2S p0;rw [x0e] at p1;exact b5w he (by omega) g1 hg fun es' g hs l=>h es' n' g hs l hn'
 generalize hE:es.map evP=E at *;have El:E.length=es.length:=by rw [<- hE,x0e]
 have hat:∀d:Int,0<=d->d < (st.map PV.str++sp.map PV.str).length->∃z:Str,atI (st.map PV.str++sp.map PV.str) d=some (.str z):=fun d d0 d1=>by
   obtain⟨x,hx,ex⟩:=b1Q d0 d1;rw [<- x0Y] at hx;obtain⟨z,_,rfl⟩:=x0F.mp hx;exact⟨z,ex⟩
 generalize hA:st.map PV.str=A at *;generalize hB:sp.map PV.str=B at *;have ABl:A.length + B.length=(st++sp).length:=by rw [<- hA,<- hB,x0e,x0e,x0l]
 have ABl2:(A++B).length=(st++sp).length:=by rw [x0l,ABl]
 rw [hs0,hr0,hr1];generalize hT:b1O=T at *;walk_at "pu";refine⟨by omega,fun way w0 w1=>⟨by omega,fun pl p0 p1=>⟨by omega,by omega,fun a a0 a1=>?_⟩⟩⟩;obtain⟨x,ex⟩:=hat a a0 a1;rw [ex];refine⟨by omega,fun b b0 b1=>?_⟩;obtain⟨y,ey⟩:=hat b b0 b1;rw [ey];refine gd2 rfl rfl ?_;rw [a3q]
 by_cases c:x=y
 · exact if_t (decide_eq_true c) (fin way pl x (.d x) _ _ _ _ _ p0 p1 trivial (by omega))
 · refine if_f (decide_eq_false c) ⟨by omega,fun d d0 d1=>?_⟩
   by_cases c2:d=0
   · exact if_t (decide_eq_true c2) (fin way pl x (.d x) _ _ _ _ _ p0 p1 trivial (by omega))
   · exact if_f (decide_eq_false c2) (fin way pl x (.t x y) _ _ _ _ _ p0 p1 c (by omega))
theorem b1X {st:List Str}{r:Int}:∀(es:List Ev) (k:Nat) (o:List Str),(∀e∈es,Good e)->wlk st r es k o=none->(es.flatMap evB).Nodup/\∀b∈es.flatMap evB,b∈st/\b∉o:=by
 intro xq
 induction xq with
 | nil =>
   intro _ _ _ _;exact⟨x4R,fun _ z=>by cases z⟩
 | cons e es ih =>
   intro k o hg h;have h':(if lcan st r o e=true then wlk st r es (k + 1) (o++evB e) else some k)=none:=h
   by_cases c:lcan st r o e=true
   · rw [if_pos c] at h';obtain⟨i1,i2⟩:=ih (k + 1) (o++evB e) (fun x hx=>hg x (x0f _ hx)) h';have hm:=a8n c;have ge:=hg e x0g
     have ne:(evB e).Nodup:=by
       cases e with
       | d x=>simp [evB]
       | t x y=>have:x≠y:=ge;simp [evB,this]
     rw [x1E];refine⟨x2j.mpr ⟨ne,i1,fun a ha b hb e'=>?_⟩,fun b hb=>?_⟩
     · subst e';exact(i2 a hb).2 (x0t _ ha)
     · rcases x0C.mp hb with hb | hb
       · exact hm b hb
       · exact⟨(i2 b hb).1,fun z=>(i2 b hb).2 (x1a _ z)⟩
   · rw [if_neg c] at h';cases h'
theorem b1b (e:Ev):keyP (evP e)=evK e:=a1k (evK e)
theorem a7Y:∀{a b:List Ev},a.Perm b->SrE a->SrE b->a=b
 | [],b,p,_,_=>(List.Perm.nil_eq p)
 | x::a,[],p,_,_=>absurd p.length_eq (by simp)
 | x :: a, y :: b, p, ha, hb => by
   unfold SrE at ha hb;rw [x0v,List.pairwise_cons] at ha hb
   have e:x=y:=by
     have hx:x∈y::b:=p.mem_iff.mp x0g;have hy:y∈x::a:=p.mem_iff.mpr x0g;rcases x0k.mp hx with e | hx
     · exact e
     · rcases x0k.mp hy with e | hy
       · exact e.symm
       · have h1:=ha.1 (evP y) (List.mem_map_of_mem hy);have h2:=hb.1 (evP x) (List.mem_map_of_mem hx);rw [b1b,b1b] at h1 h2;exact ev_inj (b5A h2 h1)
   subst e;rw [a7Y ((List.perm_cons _).mp p) ha.2 hb.2]
theorem b4j {st:List Str}{x y:Str}(h:ixS st y < ixS st x):btw st x y=btwU st x y:=by
 unfold btw btwU;rw [show max (ixS st x) (ixS st y)=ixS st x by omega,show min (ixS st x) (ixS st y)=ixS st y by omega]
theorem a8m {st out:List Str}{r:Int}{x y:Str}:lcan st r out (.t x y)=true↔(x∈st/\x∉out)/\(y∈st/\y∉out)/\ixS st y < ixS st x/\((btwU st x y).length:Int)<=r/\∀z∈btwU st x y,z∈out:=by
 constructor
 · intro h;have hm:=a8n h;unfold lcan at h;rw [x1r,x1r,x1r] at h;have h1:=of_decide_eq_true h.2.1;rw [b4j h1] at h;exact⟨hm x (by simp [evB]),hm y (by simp [evB]),h1,of_decide_eq_true h.2.2.1,fun z hz=>of_decide_eq_true (x0A.mp h.2.2.2 z hz)⟩
 · rintro⟨⟨a1,a2⟩,⟨b1,b2⟩,c,d,e⟩;unfold lcan;dsimp only;rw [b4j c];simp only [x1r,decide_eq_true_eq,x0A,evB,x0k,x2Y,or_false,Bool.not_eq_true',decide_eq_false_iff_not];refine⟨fun b hb=>?_,c,d,e⟩;rcases hb with rfl | rfl
   · exact⟨a1,a2⟩
   · exact⟨b1,b2⟩
theorem b0W {st out:List Str}{r:Int}{x:Str}:lcan st r out (.d x)=true↔x∈st/\x∉out:=by
 rw [lc_d];simp
theorem a7d {st:List Str}{r:Int}:∀(p:List Ev) (e:Ev) (s:List Ev) (k:Nat) (o:List Str),wlk st r (p++e::s) k o=none->lcan st r (o++p.flatMap evB) e=true:=by
 intro xq
 induction xq with
 | nil =>
   intro e s k o h;have h':(if lcan st r o e=true then wlk st r s (k + 1) (o++evB e) else some k)=none:=h
   by_cases c:lcan st r o e=true
   · simpa using c
   · rw [if_neg c] at h';cases h'
 | cons a p ih =>
   intro e s k o h;have h':(if lcan st r o a=true then wlk st r (p++e::s) (k + 1) (o++evB a) else some k)=none:=h
   by_cases c:lcan st r o a=true
   · rw [if_pos c] at h';have:=ih e s (k + 1) (o++evB a) h';rw [x0S] at this;exact this
   · rw [if_neg c] at h';cases h'
theorem b4q {st:List Str}{r:Int}:∀(es:List Ev) (k:Nat) (o:List Str),(∀p e s,es=p++e::s->lcan st r (o++p.flatMap evB) e=true)->wlk st r es k o=none:=by
 intro xq
 induction xq with
 | nil =>
   intro _ _ _;exact rfl
 | cons e es ih =>
   intro k o h;have h1:=h [] e es rfl;rw [List.flatMap_nil,x1t] at h1;show(if lcan st r o e=true then wlk st r es (k + 1) (o++evB e) else some k)=none;rw [if_pos h1];refine ih _ _ fun p e' s he=>?_;have:=h (e::p) e' s (by rw [he];rfl);rw [x1E,<- x0S] at this;exact this
theorem a9G {st:List Str}{r:Int}{f:List Ev}(nd:st.Nodup)(hg:∀e∈f,Good e)(h:wlk st r f 0 []=none):a4f r st f:=by
 obtain⟨f1,f2⟩:=b1X f 0 [] hg h;have fr:Fair st f:=⟨f1,fun b hb=>(f2 b hb).1⟩
 have at_:∀x y,Ev.t x y∈f->∃p s,f=p++.t x y::s/\ixS st y < ixS st x/\((btwU st x y).length:Int)<=r/\∀z∈btwU st x y,z∈p.flatMap evB:=fun x y he=>by
   obtain⟨p,s,e⟩:=List.append_of_mem he;have:=a7d p (.t x y) s 0 [] (by rw [<- e];exact h);rw [x2L] at this;obtain⟨_,_,a,b,c⟩:=a8m.mp this;exact⟨p,s,e,a,b,c⟩
 -- a later one lies not between
 have later:∀x y x' y',Ev.t x y∈f->Ev.t x' y'∈f->(∃p s,f=p++.t x y::s/\Ev.t x' y'∈s/\∀z∈btwU st x y,z∈p.flatMap evB)->x'∉btwU st x y/\y'∉btwU st x y:=fun x y x' y' _ _ ⟨p,s,e,hs,hb⟩=>by
   have nd2:=fr.nd;rw [e,x1I,x1E] at nd2;have dis:=(x2j.mp nd2).2.2;have no:∀z∈evB (.t x' y'),z∉btwU st x y:=fun z hz hb'=>dis z (hb z hb') z (x0t _ (x1o.mpr ⟨_,hs,hz⟩)) rfl;exact⟨no x' (by simp [evB]),no y' (by simp [evB])⟩
 refine⟨fr,fun x y he=>?_,fun x y he=>?_,fun x y he z hz=>?_,fun x y x' y' he he'=>?_⟩
 · obtain⟨p,s,e,a,b,c⟩:=at_ x y he;exact a
 · obtain⟨p,s,e,a,b,c⟩:=at_ x y he;exact b
 · obtain⟨p,s,e,a,b,c⟩:=at_ x y he;rw [e,x1I];exact x1a _ (c z hz)
 · obtain⟨hx,hy⟩:=fr.tx he;obtain⟨hx',hy'⟩:=fr.tx he';obtain⟨p,s,e,a,b,c⟩:=at_ x y he;obtain⟨p',s',e',a',b',c'⟩:=at_ x' y' he'
   by_cases ce:Ev.t x' y'=Ev.t x y
   · cases ce;rw [a2o nd hx hy,a2o nd hx hy];omega
   · have hm:=he';rw [e] at hm;rcases x0C.mp hm with hp | hs
     · -- the other one was ahead
       obtain⟨p1,s1,e1⟩:=List.append_of_mem hp;have e2:f=p1++.t x' y'::(s1++.t x y::s):=by rw [e,e1];simp
       have pre:=a7d p1 (.t x' y') (s1++.t x y::s) 0 [] (by rw [<- e2];exact h);rw [x2L] at pre;obtain⟨_,_,_,_,c2⟩:=a8m.mp pre;obtain⟨n1,n2⟩:=later x' y' x y he' he ⟨p1,_,e2,by simp,c2⟩;rw [a2o nd hx' hy'] at n1 n2;rw [a2o nd hx hy,a2o nd hx hy]
       have q:∀z∈evB (.t x y),∀z'∈evB (.t x' y'),z∈st->z'∈st->ixS st z≠ixS st z':=fun z hz z' hz' m m' ez=>by
         have:=b1f m m' ez;subst this;exact ce (b1q fr.nd _ he' _ he hz' hz)
       have q1:=q x (by simp [evB]) x' (by simp [evB]) hx hx';have q2:=q x (by simp [evB]) y' (by simp [evB]) hx hy';have q3:=q y (by simp [evB]) x' (by simp [evB]) hy hx';have q4:=q y (by simp [evB]) y' (by simp [evB]) hy hy';simp only [hx,hy,hx',hy',true_and] at n1 n2 ⊢;omega
     · rcases x0k.mp hs with hs | hs
       · exact absurd hs ce
       · obtain⟨n1,n2⟩:=later x y x' y' he he' ⟨p,s,e,hs,c⟩;exact⟨fun z=>absurd z n1,fun z=>absurd z n2⟩
theorem b0J {st:List Str}{r:Int}{es:List Ev}{x y:Str}(nd:st.Nodup)(so:a4f r st es)(he:Ev.t x y∈es)(he':Ev.t x' y'∈es)(hz:z∈btwU st x y)(hz':z∈evB (.t x' y')):(btwU st x' y').length < (btwU st x y).length:=by
 obtain⟨hx,hy⟩:=so.fair.tx he;obtain⟨hx',hy'⟩:=so.fair.tx he';have a:=so.ahead x y he;have a':=so.ahead x' y' he';have pl:=so.plain x y x' y' he he'
 have both:x'∈btwU st x y/\y'∈btwU st x y:=by
   simp only [evB,x0k,x2Y,or_false] at hz';rcases hz' with rfl | rfl
   · exact⟨hz,pl.mp hz⟩
   · exact⟨pl.mpr hz,hz⟩
 obtain⟨_,b1,b2⟩:=(a2o nd hx hy).mp both.1;obtain⟨_,b3,b4⟩:=(a2o nd hx hy).mp both.2;rw [b1M hx hy a,b1M hx' hy' a'];omega
theorem a8J {st:List Str}{r:Int}{es f l:List Ev}(nd:st.Nodup)(so:a4f r st es)(pm:(f++l).Perm es)(hl:∀e∈l,lcan st r (f.flatMap evB) e=false):l=[]:=by
 have fr2:=so.fair.perm pm;have nd2:=fr2.nd;rw [x1I] at nd2;have dis:=(x2j.mp nd2).2.2
 have hin:∀e∈l,∀b∈evB e,b∈st/\b∉f.flatMap evB:=fun e he b hb=>
   ⟨fr2.sub b (x1o.mpr ⟨e,x0t _ he,hb⟩),fun z=>dis b z b (x1o.mpr ⟨e,he,hb⟩) rfl⟩
 have nod:∀x,Ev.d x∉l:=fun x hx=>by
   have h1:=hl _ hx;rw [b0W.mpr (hin _ hx x (by simp [evB]))] at h1;cases h1
 have not:∀(k:Nat) (x y:Str),(btwU st x y).length<=k->Ev.t x y∉l:=by
   intro k
   induction k using Nat.strongRecOn with
   | _ k ih =>
     intro x y hk he;have hes:Ev.t x y∈es:=pm.mem_iff.mp (x0t _ he);have h1:=hl _ he
     have:lcan st r (f.flatMap evB) (.t x y)=true:=a8m.mpr ⟨hin _ he x (by simp [evB]),hin _ he y (by simp [evB]),so.ahead x y hes,so.near x y hes,fun z hz=>by
       obtain⟨e',he',hz'⟩:=x1o.mp (so.full x y hes z hz);rcases x0C.mp (pm.mem_iff.mpr he') with h | h
       · exact x1o.mpr ⟨e',h,hz'⟩
       · cases e' with
         | d w=>exact absurd h (nod w)
         | t x' y' =>
           have lt:=b0J nd so hes he' hz hz'
           exact absurd h (ih (btwU st x' y').length (by omega) x' y' (x0m _))⟩
     rw [this] at h1;cases h1
 cases l with
 | nil=>rfl
 | cons e l =>
   cases e with
   | d x=>exact absurd x0g (nod x)
   | t x y=>exact absurd x0g (not _ x y (x0m _))
theorem a5n (es:List Ev):(es.filter isDr++es.filter isTo).Perm es:=by
 have h:(es.filter isTo++es.filter (fun e=>!isTo e)).Perm es:=List.filter_append_perm isTo es;exact List.perm_append_comm.trans h
theorem a7k {st:List Str}{r:Int}{es:List Ev}(nd:st.Nodup)(so:a4f r st es)(pt:ts.Perm (es.filter isTo))(ot:ts.Pairwise fun a b=>evL st a<=evL st b):wlk st r (es.filter isDr++ts) 0 []=none:=by
 have pm:(es.filter isDr++ts).Perm es:=(pt.append_left _).trans (a5n es);have fr:=so.fair.perm pm;refine b4q _ 0 [] fun p e s he=>?_;rw [x2L];have nd2:=fr.nd;rw [he,x1I,x1E] at nd2;have dis:=(x2j.mp nd2).2.2;have mem:∀b∈evB e,b∈st/\b∉p.flatMap evB:=fun b hb=>⟨fr.sub b (by rw [he,x1I,x1E];exact x0t _ (x1a _ hb)),fun z=>dis b z b (x1a _ hb) rfl⟩;have hes:e∈es:=pm.mem_iff.mp (by rw [he];simp);cases e with
 | d x=>exact b0W.mpr (mem x (by simp [evB]))
 | t x y =>
   refine a8m.mpr ⟨mem x (by simp [evB]),mem y (by simp [evB]),so.ahead x y hes,so.near x y hes,fun z hz=>?_⟩;obtain⟨e',he',hz'⟩:=x1o.mp (so.full x y hes z hz);have hin:e'∈p++.t x y::s:=by rw [<- he];exact pm.mem_iff.mpr he'
   -- where the touch stands among the touches
   have tk:∃p2,ts=p2++.t x y::s/\p=es.filter isDr++p2:=by
     have hd:∀e∈es.filter isDr,e≠.t x y:=fun e h z=>by
       have:=(x0W.mp h).2;rw [z] at this;cases this
     rcases List.append_eq_append_iff.mp he with⟨a,h1,h2⟩ | ⟨a,h1,h2⟩
     · exact⟨a,h2,h1⟩
     · cases a with
       | nil=>exact⟨[],by simpa using h2.symm,by simpa using h1.symm⟩
       | cons c a =>
         have ec:c=.t x y:=by rw [List.cons_append] at h2;injection h2 with h2 _;exact h2.symm
         exact absurd ec (hd c (by rw [h1];simp))
   obtain⟨p2,t1,t2⟩:=tk;cases e' with
   | d w =>
     refine x1o.mpr ⟨.d w,?_,hz'⟩;rw [t2];exact x1a _ (x0W.mpr ⟨he',rfl⟩)
   | t x' y' =>
     have lt:=b0J nd so hes he' hz hz';rcases x0C.mp hin with h | h
     · exact x1o.mpr ⟨_,h,hz'⟩
     · exfalso
       rcases x0k.mp h with h | h
       · cases h;omega
       · rw [t1,x4t,List.pairwise_cons] at ot;have:=ot.2.1.1 _ h;unfold evL at this;simp only at this;omega
noncomputable def sel (lo hi:Nat):Nat->List Str->List Str
 | _,[]=>[]
 | k,z::zs=>if lo < k/\k < hi then z::sel lo hi (k + 1) zs else sel lo hi (k + 1) zs
theorem sel_eq {lo hi:Nat}:∀(zs:List Str) (k:Nat),sel lo hi k zs=(zs.take (hi - k)).drop (lo + 1 - k):=by
 intro xq
 induction xq with
 | nil =>
   intro k;simp [sel]
 | cons z zs ih =>
   intro k;unfold sel;rw [ih (k + 1)]
   by_cases c:k < hi
   · rw [show hi - k=(hi - (k + 1)) + 1 by omega,List.take_succ_cons]
     by_cases c2:lo < k
     · rw [if_pos ⟨c2,c⟩,show lo + 1 - k=0 by omega,show lo + 1 - (k + 1)=0 by omega,x4P,x4P]
     · rw [if_neg (by omega),show lo + 1 - k=(lo + 1 - (k + 1)) + 1 by omega,List.drop_succ_cons]
   · rw [if_neg (by omega),show hi - k=0 by omega,show hi - (k + 1)=0 by omega];simp
theorem a8y {a b n:Nat}:∀(zs:List Str) (k:Nat) (s0 s1:Option Pu.Slot) (R:List PV->Nat->Prop),R ((sel (min a b) (max a b) k zs).map PV.str) n->a2Z (gTp 2 (gCn (gN 0) (gCn (gN 1) gNl))) (qB (a4w wLt wLt (qOp wMin (qV 2) (qV 3)) (qV 0) (qOp wMax (qV 2) (qV 3)))) (qV 1) (((zs.map PV.str).zipIdx k).map fun y=>PV.tup [.int (y.2:Nat),y.1]) [s0,s1,some (.v (.int (a:Int))),some (.v (.int (b:Int)))] n R
 | [],k,s0,s1,R,h=>h
 | z :: zs, k, s0, s1, R, h => by
   rw [x0v,List.zipIdx_cons,x0v];have ih:=fun R' q=>a8y (a:=a) (b:=b) (n:=n) zs (k + 1) (some (.v (.int (k:Int)))) (some (.v (.str z))) R' q;generalize ((zs.map PV.str).zipIdx (k + 1)).map (fun y=>PV.tup [.int (y.2:Nat),y.1])=Z at *;unfold a2Z;unfold sel at h;have e1:(if(b:Int) < a then(b:Int) else a)=((min a b:Nat):Int):=by split <;> omega
   have e2:(if(b:Int) > a then(b:Int) else a)=((max a b:Nat):Int):=by split <;> omega
   walk_at "pu";rw [e1,e2]
   by_cases c1:min a b < k
   · refine if_t (decide_eq_true (by omega)) ?_
     by_cases c2:k < max a b
     · refine if_t (decide_eq_true (by omega)) (ih _ ?_);rw [if_pos ⟨c1,c2⟩] at h;exact h
     · refine if_f (decide_eq_false (by omega)) (ih _ ?_);rw [if_neg (by omega)] at h;exact h
   · refine if_f (decide_eq_false (by omega)) (ih _ ?_);rw [if_neg (by omega)] at h;exact h
theorem a9d {st:List Str}{x y:Str}{n:Nat}{R:PV->Nat->Prop}(hs:st.length<=100)(hx:x∈st)(hy:y∈st)(h:R (.lst ((btwU st x y).map PV.str)) n):a1d [rowP st,evP (.t x y)] n R:=by
 refine⟨rfl,?_⟩;unfold a1U;have hix:∀z∈st,∀{R:PV->Prop},R (.int (ixS st z))->a3P (.tup (st.map PV.str)) (.str z) R:=fun z hz {R} q=>m_ix rfl hz (by omega) q;have hr0:rowP st=.tup (st.map PV.str):=rfl;have cs:=fun R' q=>a8y (a:=ixS st x) (b:=ixS st y) (n:=n) st 0 none none R' q;rw [sel_eq,Nat.sub_zero,Nat.sub_zero] at cs;have eb:(st.take (max (ixS st x) (ixS st y))).drop (min (ixS st x) (ixS st y) + 1)=btwU st x y:=rfl;rw [eb] at cs;have el:(a6M (st.map PV.str)).length=st.length:=by rw [a4T,x0e]
 have ee:a6M (st.map PV.str)=((st.map PV.str).zipIdx 0).map fun y=>PV.tup [.int (y.2:Nat),y.1]:=rfl;rw [<- ee] at cs;generalize hE:a6M (st.map PV.str)=E at *;generalize hZ:st.map PV.str=Z at *;rw [hr0,a2B];walk_at "pu";refine⟨⟨_,rfl⟩,hix x hx ?_⟩;refine⟨⟨_,rfl⟩,hix y hy ?_⟩
 try dsimp only
 rw [hE];exact⟨by omega,cs _ h⟩
theorem a7y {st:List Str}{es:List Ev}{x y:Str}{n:Nat}{R:PV->Nat->Prop}(h:Tin st es x y)(q:R (.bl true) n):a0K [rowP st,shP es,evP (.t x y)] n R:=by
 refine⟨rfl,?_⟩;unfold a1I;have hr0:rowP st=.tup (st.map PV.str):=rfl;have hs0:shP es=.tup (es.map evP):=rfl;have i1:∀{z:Str} {R:PV->Prop},R (.bl (decide (z∈st)))->wIn 4 false (.str z) (.tup (st.map PV.str)) R:=fun q=>a4O rfl q
 have i2:∀{R:PV->Prop},R (.bl false)->wIn 4 true (.tup [.str a0L,.str x,.str y]) (.tup (es.map evP)) R:=fun q=>by
   refine⟨rfl,a4Z es 3,?_⟩
   have e:memP (.tup [.str a0L,.str x,.str y]) (es.map evP)=true:=by
     unfold memP;rw [List.any_map,x2f];exact⟨_,h.1,a5X (.t x y)⟩
   rw [e];exact q
 generalize hE:es.map evP=E at *;generalize hZ:st.map PV.str=Z at *;rw [hr0,hs0,a2B];walk_at "pu";refine if_f (by decide) ?_;refine i2 ?_;refine if_f rfl ?_;refine i1 ?_;rw [decide_eq_true h.2.1];refine if_t (b:=true) rfl (i1 ?_);rw [decide_eq_true h.2.2];exact q
theorem a7e {d:Nat}{neg:Bool}{X:PV}{ys:List PV}{R:PV->Prop}(h1:cmpb d X=true)(h2:ys.all (cmpb d)=true)(h:R (.bl (if neg then !memP X ys else memP X ys))):wIn d neg X (.tup ys) R:=by
 cases X <;> exact⟨h1,h2,h⟩
theorem cmp_bs (bs:List Str):(bs.map PV.str).all (cmpb 4)=true:=a3N bs 4
theorem b1z {es:List Ev}{X T:PV}{n:Nat}(hX:cmpb 4 X=true)(hT:∀{R:PV->Prop},R X->wIx T (.int 1) R)(R:List PV->Nat->Prop)(h:R ((es.filter fun e=>memP X ((evB e).map PV.str)).map evP) n) :
   a2Z (gN 0) (qB (qOp (wIn 4 false) (qOp wIx (qV 1) (qC (.int 1))) (qSl (qV 0) (a1t (qC (.int 1))) qNo))) (qV 0) (es.map evP) [none,some (.v T)] n R:=by
 refine a3r evP (fun e=>memP X ((evB e).map PV.str)) es none n R (fun e he m Q hQ=>?_) h;cases hev:evP e with
 | tup xs =>
   have ec:=a5Y e hev;rw [hev] at hQ;simp only [qB,qOp,qV,qC,qSl,a1t,qNo,wSl,x2R,x1N];refine hT ?_;rw [ec];exact a7e hX (cmp_bs _) hQ
 | _=>cases e <;> cases hev
theorem a8u (es:List Ev)(b:Str):(es.filter fun e=>memP (.str b) ((evB e).map PV.str))=es.filter fun e=>decide (b∈evB e):=by
 congr 1
 funext e
 exact a4F
theorem i23 {R:PV->Prop}(q:R (.bl false)):wIn 4 true (.int ((2:Nat):Int)) (.tup [.int 2,.int 3]) R:=a7e rfl rfl q
theorem i33 {R:PV->Prop}(q:R (.bl false)):wIn 4 true (.int ((3:Nat):Int)) (.tup [.int 2,.int 3]) R:=a7e rfl rfl q
theorem a7z {r:Int}{st:List Str}{es:List Ev}{w:Rs}{n:Nat}{R:PV->Nat->Prop}(hs:st.length<=100)(hl:es.length<=1000)(h:isRs r st es w)(q:R (.bl true) n):a0S [rowP st,.int r,shP es,rsP w] n R:=by
 refine⟨rfl,?_⟩;have hr0:rowP st=.tup (st.map PV.str):=rfl;have hs0:shP es=.tup (es.map evP):=rfl;have El:(es.map evP).length=es.length:=x0e ..;have cm:=fun X T h1 h2 R' q'=>b1z (es:=es) (X:=X) (T:=T) (n:=n) h1 h2 R' q';have ni:∀{z:Str} {R:PV->Prop},R (.bl (!decide (z∈st)))->wIn 4 true (.str z) (.tup (st.map PV.str)) R:=fun q=>a4h rfl q;have lt:∀{x y:Str} {R:PV->Nat->Prop},Tin st es x y->R (.bl true) n->a0K [.tup (st.map PV.str),.tup (es.map evP),.tup [.str a0L,.str x,.str y]] n R:=fun h q=>a7y h q;have lb:∀{x y:Str} {R:PV->Nat->Prop},x∈st->y∈st->R (.lst ((btwU st x y).map PV.str)) n->a1d [.tup (st.map PV.str),.tup [.str a0L,.str x,.str y]] n R:=fun hx hy q=>a9d hs hx hy q;have hix:∀z∈st,∀{R:PV->Prop},R (.int (ixS st z))->a3P (.tup (st.map PV.str)) (.str z) R:=fun z hz {R} q=>m_ix rfl hz (by omega) q;rw [hr0,hs0];generalize hE:es.map evP=E at *;generalize hZ:st.map PV.str=Z at *;cases w with
 | strange b =>
   unfold rsP;have c1:=cm (.str b) (.tup [.str (x0j "strange"),.str b]) rfl (fun q=>q);rw [a8u] at c1;obtain⟨e,he,hb⟩:=x1o.mp h.1
   have pos:0 < ((es.filter fun e=>decide (b∈evB e)).map evP).length:=by
     rw [x0e];exact List.length_pos_of_mem (x0W.mpr ⟨he,decide_eq_true hb⟩)
   generalize (es.filter fun e=>decide (b∈evB e)).map evP=M at *;unfold a0y;walk_at "pd";refine⟨by decide,i23 (if_f rfl ⟨by omega,c1 _ ?_⟩)⟩;refine if_t (decide_eq_true (by omega)) (ni ?_);rw [decide_eq_false h.2];exact q
 | twice b =>
   unfold rsP;have c1:=cm (.str b) (.tup [.str (x0j "twice"),.str b]) rfl (fun q=>q);rw [a8u] at c1
   have pos:1 < ((es.filter fun e=>decide (b∈evB e)).map evP).length:=by
     rw [x0e];have h:2<=(es.filter fun e=>decide (b∈evB e)).length:=h;omega
   generalize (es.filter fun e=>decide (b∈evB e)).map evP=M at *;unfold a0y;walk_at "pd";refine⟨by decide,i23 (if_f rfl ⟨by omega,c1 _ ?_⟩)⟩;exact if_t (decide_eq_true (by omega)) q
 | wrong x y =>
   obtain⟨ti,c⟩:=h;rw [show rsP (.wrong x y)=.tup [.str (x0j "wrong"),.tup [.str a0L,.str x,.str y]] from rfl];have c1:=cm (.tup [.str a0L,.str x,.str y]) (.tup [.str (x0j "wrong"),.tup [.str a0L,.str x,.str y]]) rfl (fun q=>q);generalize (es.filter fun e=>memP (.tup [.str a0L,.str x,.str y]) ((evB e).map PV.str)).map evP=M at *;unfold a0y;walk_at "pd";refine⟨by decide,i23 (if_f rfl ⟨by omega,c1 _ ?_⟩)⟩;refine lt ti (if_f rfl (lb ti.2.1 ti.2.2 ?_));refine⟨⟨_,rfl⟩,hix y ti.2.2 ⟨⟨_,rfl⟩,hix x ti.2.1 ?_⟩⟩;dsimp only;rw [decide_eq_true (by omega)];exact q
 | far x y =>
   obtain⟨ti,c⟩:=h;rw [show rsP (.far x y)=.tup [.str (x0j "far"),.tup [.str a0L,.str x,.str y]] from rfl];have c1:=cm (.tup [.str a0L,.str x,.str y]) (.tup [.str (x0j "far"),.tup [.str a0L,.str x,.str y]]) rfl (fun q=>q);generalize (es.filter fun e=>memP (.tup [.str a0L,.str x,.str y]) ((evB e).map PV.str)).map evP=M at *;unfold a0y;walk_at "pd";refine⟨by decide,i23 (if_f rfl ⟨by omega,c1 _ ?_⟩)⟩;refine lt ti (if_f rfl (lb ti.2.1 ti.2.2 ?_));dsimp only;rw [x0e,decide_eq_true c];exact q
 | stays x y z =>
   obtain⟨ti,c,c2⟩:=h;rw [show rsP (.stays x y z)=.tup [.str (x0j "stays"),.tup [.str a0L,.str x,.str y],.str z] from rfl];have c1:=cm (.tup [.str a0L,.str x,.str y]) (.tup [.str (x0j "stays"),.tup [.str a0L,.str x,.str y],.str z]) rfl (fun q=>q);generalize (es.filter fun e=>memP (.tup [.str a0L,.str x,.str y]) ((evB e).map PV.str)).map evP=M at *;unfold a0y;walk_at "pd";refine⟨by decide,i33 (if_f rfl ⟨by omega,c1 _ ?_⟩)⟩;refine lt ti (if_f rfl (lb ti.2.1 ti.2.2 ?_));refine a5W rfl ?_;rw [decide_eq_true c];refine if_t (b:=true) rfl ⟨by omega,?_⟩;rw [<- hE];refine a2H evP (fun e=>.bl (decide (z∈evB e))) es _ n _ (fun e he m Q hQ=>?_) ?_
   · cases hev:evP e with
     | tup xs =>
       have ec:=a5Y e hev;rw [hev] at hQ;walk_at "pu";rw [ec];exact a4O rfl hQ
     | _=>cases e <;> cases hev
   · rw [a2E];dsimp only;rw [b4n]
     have e0:(es.any fun e=>decide (z∈evB e))=false:=by
       rw [List.any_eq_false];intro e he;rw [decide_eq_false (fun hz=>c2 (x1o.mpr ⟨e,he,hz⟩))];exact x0R
     rw [e0];exact q
 | cross x y x' y' =>
   obtain⟨ti,ti',c,c2⟩:=h;rw [show rsP (.cross x y x' y')=.tup [.str (x0j "cross"),.tup [.str a0L,.str x,.str y],.tup [.str a0L,.str x',.str y']] from rfl];have c1:=cm (.tup [.str a0L,.str x,.str y]) (.tup [.str (x0j "cross"),.tup [.str a0L,.str x,.str y],.tup [.str a0L,.str x',.str y']]) rfl (fun q=>q);generalize (es.filter fun e=>memP (.tup [.str a0L,.str x,.str y]) ((evB e).map PV.str)).map evP=M at *;unfold a0y;walk_at "pd";refine⟨by decide,i33 (if_f rfl ⟨by omega,c1 _ ?_⟩)⟩;refine lt ti (if_f rfl (lb ti.2.1 ti.2.2 ?_));refine lt ti' (if_f rfl ?_);have e1:cutP [PV.str a0L,PV.str x,PV.str y] (some 1) none++cutP [PV.str a0L,PV.str x',PV.str y'] (some 1) none=[.str x,.str y,.str x',.str y']:=rfl
   have l1:(cutP [PV.str a0L,PV.str x,PV.str y] (some 1) none).length + (cutP [PV.str a0L,PV.str x',PV.str y'] (some 1) none).length<=1000000:=by
     show(2:Nat) + 2<=1000000
     decide
   rw [e1];refine⟨l1,?_⟩;have tx:a2d [.str x,.str y,.str x',.str y']=some [x,y,x',y']:=rfl;rw [tx];dsimp only;refine⟨by simp,if_t (by rw [b3Z];exact decide_eq_true c) ?_⟩;have a2:atI [PV.str x,.str y,.str x',.str y'] 2=some (.str x'):=rfl;have a3:atI [PV.str x,.str y,.str x',.str y'] 3=some (.str y'):=rfl;rw [a2,a3];dsimp only;refine a5W rfl (a5W rfl ?_);rw [b4a,decide_eq_false fun z=>c2 (decide_eq_decide.mp z)];exact q
theorem b3V (e:Ev):(evB e).length<=2:=by cases e <;> simp [evB]
theorem fm_len:∀l:List Ev,(l.flatMap evB).length<=2 * l.length:=by
 intro xq
 induction xq with
 | nil =>
   simp
 | cons a l ih =>
   have:=b3V a;have:=ih;rw [x1E,x0l,x0K];omega
theorem a9f {r:Int}{st:List Str}{es cs:List Ev}{n:Nat}{R:PV->Nat->Prop}(hs:st.length<=100)(hl:es.length<=63)(so:SrE es)(pm:cs.Perm es)(hw:wlk st r cs 0 []=none)(q:R (.bl true) n):a0T [rowP st,.int r,shP es,.tup (cs.map evP)] n R:=by
 refine⟨rfl,?_⟩;unfold a1y;have mc:∀{o:List Str} {e:Ev} {R:PV->Nat->Prop},R (.bl (lcan st r o e)) n->a1f [rowP st,.int r,.lst (o.map PV.str),evP e] n R:=fun q=>m_can hs q;have cl:cs.length<=63:=by rw [pm.length_eq];exact hl
 have Cl:(cs.map evP).length=cs.length:=x0e ..
 have srt:∀ys,Srt ys (cs.map evP)->ys=es.map evP:=fun ys hy=>by
   obtain⟨cs',rfl,p'⟩:=b1s hy;rw [a7Y (p'.trans pm) hy.2 so]
 have sk:=a5t cs;have ce:=a4Z es 2;have hs0:shP es=.tup (es.map evP):=rfl
 have er:eqPs (es.map evP) (es.map evP)=true:=by
   clear srt sk ce hs0 Cl cl hw pm so hl
   induction es with
   | nil=>rfl
   | cons e es ih=>rw [x0v,a2C,a5X,ih];rfl
 generalize hW:rowP st=W at *;generalize hE:es.map evP=E at *;generalize hC:cs.map evP=C at *;rw [hs0];walk_at "pu";refine⟨by omega,sk,fun ys hy=>?_⟩;rw [srt ys hy];refine gd2 ce ce (if_f (by rw [er];rfl) ?_);refine a0Z (fun i env m=>∃s5,env=[some (.v W),some (.v (.int r)),some (.v (.tup E)),some (.v (.tup C)),some (.own (((cs.take i).flatMap evB).map PV.str)),s5]/\m=n) _ 0 _ _ ⟨none,rfl,rfl⟩ (fun i x env m N ex hI hN=>?_) (fun env m hI=>?_)
 · obtain⟨s5,rfl,rfl⟩:=hI;rw [<- hC] at ex;obtain⟨e,ee,rfl⟩:=a2X ex;rw [x1w] at hN ⊢
   have spl:cs=cs.take i++e::cs.drop (i + 1):=by
     have:=x4l i cs;rw [x1A (x0i.mp ee).1,(x0i.mp ee).2] at this;exact this.symm
   have can:=a7d (cs.take i) e (cs.drop (i + 1)) 0 [] (by rw [<- spl];exact hw);rw [x2L] at can;rw [a3b ee,x1I,List.flatMap_singleton,x0Y] at hN
   have bl:((cs.take i).flatMap evB).length<=200:=by
     have:=fm_len (cs.take i);rw [x1e] at this;omega
   have bl2:(((cs.take i).flatMap evB).map PV.str).length<=200:=by rw [x0e];exact bl
   have mc':=fun R' q'=>mc (o:=(cs.take i).flatMap evB) (e:=e) (R:=R') q';rw [can] at mc';generalize ((cs.take i).flatMap evB).map PV.str=O at *;cases hev:evP e with
   | tup xs =>
     have ec:=a5Y e hev;rw [hev] at mc';have el:(cutP xs (some 1) none).length<=2:=by rw [ec,x0e];exact b3V e
     walk_at "pu";refine mc' _ ⟨rfl,if_f rfl ⟨⟨_,rfl⟩,by omega,?_⟩⟩;rw [ec];exact hN _ _ ⟨_,rfl,rfl⟩
   | _=>cases e <;> cases hev
 · obtain⟨s5,rfl,rfl⟩:=hI;walk_at "pu";exact q
theorem b4g {b:Str}:∀{l:List Str},l.Nodup->cntS b l<=1
 | [],_=>by show(0:Int)<=1;decide
 | y :: l, nd => by
   obtain⟨n1,n2⟩:=x1x.mp nd;have ih:=b4g (b:=b) n2;rw [a1A]
   by_cases c:y=b
   · subst c;rw [if_pos rfl]
     by_cases z:cntS y l=0
     · omega
     · exfalso
       have:∀l:List Str,y∉l->cntS y l=0:=fun l=>by
         induction l with
         | nil=>intro _;rfl
         | cons a l ih =>
           intro h;rw [a1A,if_neg (fun e=>h (by rw [e];exact x0g)),ih fun z=>h (x0f _ z)]
           rfl
       exact z (this l n1)
   · rw [if_neg c];omega
theorem rs_not {r:Int}{st:List Str}{es:List Ev}{w:Rs}(hg:∀e∈es,Good e)(h:isRs r st es w):¬a4f r st es:=fun so=>by
 cases w with
 | strange b=>exact h.2 (so.fair.sub b h.1)
 | twice b =>
   have h2:2<=(es.filter fun e=>decide (b∈evB e)).length:=h;have:=b4g (b:=b) so.fair.nd;rw [b1D b hg] at this;omega
 | wrong x y=>have:=so.ahead x y h.1.1;have:=h.2;omega
 | far x y=>have:=so.near x y h.1.1;have:=h.2;omega
 | stays x y z=>exact h.2.2 (so.full x y h.1.1 z h.2.1)
 | cross x y x' y'=>exact h.2.2.2 (so.plain x y x' y' h.1.1 h.2.1.1)
theorem b5t {r:Int}{st:List Str}{es:List Ev}{n:Nat}{R:PV->Nat->Prop}(hs:st.length<=63)(nd:st.Nodup)(hg:∀e∈es,Good e)(so:SrE es)(hl:es.length<=60)(q:R (.bl true) n):a1w [rowP st,.int r,shP es] n R:=by
 refine⟨rfl,?_⟩;unfold a2x;have mo:∀{R:PV->Nat->Prop},(a4f r st es->∀ts:List Ev,ts.Perm (es.filter isTo)->(ts.Pairwise fun a b=>evL st a<=evL st b)->R (.tup [.str (x0j "course"),.tup ((es.filter isDr++ts).map evP)]) n)->(∀w,isRs r st es w->R (.tup [.str (x0j "unsound"),rsP w]) n)->a2b [rowP st,.int r,shP es] n R:=fun q q'=>b2W hs nd hg (by omega) q q';have mc:∀{R:PV->Nat->Prop},(∀f l:List Ev,(f++l).Perm es->wlk st r f 0 []=none->(∀e∈l,lcan st r (f.flatMap evB) e=false)->R (.tup [.lst (f.map evP),.lst (l.map evP)]) n)->a1m [rowP st,.int r,shP es] n R:=fun q=>b2X (by omega) (by omega) q;have mi:∀{cs:List Ev} {R:PV->Nat->Prop},cs.Perm es->wlk st r cs 0 []=none->R (.bl true) n->a0T [rowP st,.int r,shP es,.tup (cs.map evP)] n R:=fun pm hw q=>a9f (by omega) (by omega) so pm hw q;have mr:∀{w:Rs} {R:PV->Nat->Prop},isRs r st es w->R (.bl true) n->a0S [rowP st,.int r,shP es,rsP w] n R:=fun h q=>a7z (by omega) (by omega) h q;generalize hW:rowP st=W at *;generalize hS:shP es=S at *;walk_at "pu";refine mo (fun sd ts pt ot=>?_) fun w hw=>?_
 · have mi':=fun R' q'=>mi (cs:=es.filter isDr++ts) (R:=R') ((pt.append_left _).trans (a5n es)) (a7k nd sd pt ot) q';generalize (es.filter isDr++ts).map evP=C at *;walk_at "pu";refine mc fun f l pm wf hl'=>?_;have e:l=[]:=a8J nd sd pm hl';subst e;generalize f.map evP=F at *;walk_at "pu";exact gd2 rfl rfl (mi' _ q)
 · obtain⟨a,tl,e⟩:=a4n w;have mr':=fun R' q'=>mr (R:=R') hw q';rw [e] at mr' ⊢;walk_at "pu";refine mc fun f l pm wf hl'=>?_;cases l with
   | nil =>
     rw [x1t] at pm;exact absurd ((a9G nd (fun e he=>hg e (pm.mem_iff.mp he)) wf).perm pm.symm) (rs_not hg hw)
   | cons x l =>
     rw [x0v];generalize f.map evP=F at *;have ce:(evP x::l.map evP).all (cmpb 3)=true:=a4Z (x::l) 2;have en:eqPs (evP x::l.map evP) []=false:=rfl;generalize l.map evP=L at *;generalize evP x=X at *;walk_at "pu";exact gd2 ce rfl (if_f en (mr' _ q))
noncomputable def caseP (x:PV):Prop:=∃(st:List Str) (es:List Ev),x=.tup [rowP st,shP es]/\st.Nodup/\st.length<=24/\(∀e∈es,Good e)/\SrE es/\es.length<=60
theorem m_law (ns:List Int)(hl:ns.length<=63):b2L ⟨fun _ _=>False,fun r _=>r=.bl true,fun _ _=>False,fun _ _=>False⟩ (a3e ["_law_script","_law_k","_law_pot_here","_law_many","_law_boats_here","_law_reach","_law_start","_law_cases","_law_tour","_law_sheet_here","_law_more","_law_some"] [.scr ns]) 0:=by
 unfold b2L;walk_at "pu"
 have hc:(cutP ns none (some 5)).length<=5:=by
   unfold cutP;rw [sx_int (by decide),x1e];show min (min 5 ns.length - 0) _<=5;omega
 refine⟨⟨by rw [x0e];omega,by rw [x0e];omega⟩,?_⟩;rw [x0e];refine a0Z (fun i env m=>∃s1 s2 s3 s4 s5 s6 s7 s8 s9 s10 s11,env=[some (.v (.scr ns)),s1,s2,s3,s4,s5,s6,s7,s8,s9,s10,s11]/\m<=i * 10000) _ 0 _ _ ⟨none,none,none,none,none,none,none,none,none,none,none,rfl,by omega⟩ (fun i x env m N ex hI hN=>?_) (fun env m hI=>?_)
 · obtain⟨hi,rfl⟩:=a3y ex;obtain⟨s1,s2,s3,s4,s5,s6,s7,s8,s9,s10,s11,rfl,hm⟩:=hI;walk_at "pu";refine⟨⟨by omega,by omega⟩,fun q=>⟨by omega,fun a a0 a1=>⟨by omega,fun b b0 b1=>⟨by omega,fun c c0 c1=>?_⟩⟩⟩⟩
   have mk:∃k:Nat,atI [PV.int (1 + a),PV.int (1 + b)] (if decide (c=0)=true then 1 else 0)=some (.int (k:Int))/\1<=k/\k<=24:=by
     by_cases c2:c=0
     · refine⟨(1 + b).toNat,?_,by omega,by omega⟩;rw [if_pos (decide_eq_true c2),show((1 + b).toNat:Int)=1 + b by omega]
       rfl
     · refine⟨(1 + a).toNat,?_,by omega,by omega⟩;rw [if_neg (by simpa using c2),show((1 + a).toNat:Int)=1 + a by omega]
       rfl
   obtain⟨k,ek,k1,k2⟩:=mk;rw [ek];dsimp only;refine b5u (by omega) (by omega) (by omega) fun zs n1 lz ndz h1=>⟨by omega,fun r r0 r1=>?_⟩;have cz:=b4d zs k;have cy:=b4c zs k;have hr0:rowP zs=.tup (zs.map PV.str):=rfl;have e1:cutP (zs.map PV.str) none (some (k:Int))=(zs.take k).map PV.str:=by rw [a7H,cz]
   have e2:cutP (zs.map PV.str) (some (k:Int)) none=(zs.drop k).map PV.str:=by rw [a7H,cy]
   have l1:(zs.take k).length=k:=by rw [x1e];omega
   have l2:(zs.drop k).length=2:=by rw [x1y];omega
   have nd1:(zs.take k).Nodup:=ndz.sublist (List.take_sublist _ _);have ms:∀{m:Nat} {R:PV->Nat->Prop},m<=900000000->(∀(es:List Ev) n',(∀e∈es,Good e)->SrE es->es.length<=48->n'<=m + 200->R (shP es) n')->a1v [.pot (q + 1),.tup ((zs.take k).map PV.str),.int r] m R:=fun hm' h'=>b5s (zs:=zs.take k) (by omega) (by omega) r0 (by omega) (by omega) fun ps ds es n2 sd pe se l3 l4 h2=>h' es n2 (fun e he=>Snd.good nd1 sd e (pe.mem_iff.mp he)) se (by rw [pe.length_eq];unfold a4P;rw [x0l,x0e,x0e];omega) h2;have mb:∀{m:Nat} {es:List Ev} {R:PV->Nat->Prop},m<=900000000->(∀e∈es,Good e)->es.length<=60->(∀(es':List Ev) n',(∀e∈es',Good e)->SrE es'->es'.length<=es.length + 1->n'<=m + 10->R (shP es') n')->a1L [.pot (q + 1),.tup ((zs.take k).map PV.str),shP es,.tup ((zs.drop k).map PV.str)] m R:=fun hm' hg' le' h'=>m_bent (st:=zs.take k) (sp:=zs.drop k) (by rw [x0l];omega) (by rw [x0l];omega) le' hg' (by omega) h'
   have mh:∀{m:Nat} {R:PV->Nat->Prop},m<=900000000->(∀(ys:List Str) n',ys.Perm (zs.take k)->n'<=m + 24->R (rowP ys) n')->a0B [.pot (q + 1),.tup ((zs.take k).map PV.str)] m R:=fun hm' h'=>b3Q (.inr rfl) (by rw [x0e];omega) (by omega) (a7W _ 3) fun ys n' pm hn'=>by
     obtain⟨ys',rfl,p'⟩:=a8j pm;rw [x0e] at hn';exact h' ys' n' p' (by omega)
   have rt:∀{m:Nat} {st:List Str} {es:List Ev} {R:PV->Nat->Prop},st.Nodup->st.length<=24->(∀e∈es,Good e)->SrE es->es.length<=60->R (.bl true) m->a1w [rowP st,.int r,shP es] m R:=fun a1 a2 a3 a4 a5 a6=>b5t (by omega) a1 a3 a4 a5 a6;have row0:rowP (zs.take k)=.tup ((zs.take k).map PV.str):=rfl;rw [hr0];dsimp only;rw [e1];generalize hZ:zs.map PV.str=Z at *;generalize hA:(zs.take k).map PV.str=A at *;generalize hB:(zs.drop k).map PV.str=B at *;refine a0Z (fun j env m'=>∃t8 t9 t10 ys,env=[some (.v (.scr ns)),some (.v (.int (0 + i))),some (.v (.pot (q + 1))),some (.v (.int k)),some (.v (.tup Z)),some (.v (.int r)),some (.v (.tup A)),some (.own ys),t8,t9,t10,s11]/\ys.length=j/\(∀y∈ys,caseP y)/\m'<=n1 + 1 + 300 * j) _ 0 _ _ ⟨s8,s9,s10,[],rfl,rfl,(fun _ z=>nomatch z),by omega⟩ (fun j x env m' N' ex' hI hN'=>?_) (fun env m' hI=>?_)
   · obtain⟨hj,rfl⟩:=a3y ex';obtain⟨t8,t9,t10,ys,rfl,yl,hy,hm'⟩:=hI;have j6:j < 6:=hj;rw [x1w] at yl hm' hN';walk_at "pu";refine ms (by omega) fun es n2 hg se le h2=>⟨by omega,fun d d0 d1=>⟨by omega,?_⟩⟩;generalize hE0:shP es=S0;refine a0Z (fun u env m2=>∃v10 es,env=[some (.v (.scr ns)),some (.v (.int (0 + i))),some (.v (.pot (q + 1))),some (.v (.int k)),some (.v (.tup Z)),some (.v (.int r)),some (.v (.tup A)),some (.own ys),some (.v (.int (0 + j))),some (.v (shP es)),v10,s11]/\(∀e∈es,Good e)/\SrE es/\es.length<=48 + u/\m2<=n2 + 1 + 10 * u) _ 0 _ _ ⟨t10,es,by rw [hE0],hg,se,by omega,by omega⟩ (fun u x env m2 N2 ex2 hI hN2=>?_) (fun env m2 hI=>?_)
     · obtain⟨hu,rfl⟩:=a3y ex2;obtain⟨v10,es,rfl,hg,se,le,h3⟩:=hI;rw [x1w] at hN2 le h3;have u3:u < 3:=by omega
       generalize hE1:shP es=S1;walk_at "pu";rw [e2,<- hE1];refine mb (by omega) hg (by omega) fun es' n' hg' se' le' hn'=>?_;exact hN2 _ _ ⟨_,es',rfl,hg',se',by omega,by omega⟩
     · obtain⟨v10,es,rfl,hg,se,le,h3⟩:=hI;rw [x1w,a2u] at le h3;have dd:Int.toNat d<=2:=by omega
       have put:∀st n',st.Nodup->st.length<=24->n'<=m2 + 30->N' [some (.v (.scr ns)),some (.v (.int (0 + i))),some (.v (.pot (q + 1))),some (.v (.int k)),some (.v (.tup Z)),some (.v (.int r)),some (.v (.tup A)),some (.own (ys++[.tup [rowP st,shP es]])),some (.v (.int (0 + j))),some (.v (shP es)),v10,s11] n':=fun st n' nds sl hn'=>by
         refine hN' _ _ ⟨_,_,_,_,rfl,by rw [x0l,yl];rfl,fun y hy'=>?_,by omega⟩;rcases x0C.mp hy' with hy' | hy'
         · exact hy y hy'
         · rw [x0n.mp hy'];exact⟨st,es,rfl,nds,sl,hg,se,by omega⟩
       generalize hE1:shP es=S1 at *;walk_at "pu";refine⟨⟨_,rfl⟩,by omega,fun d2 d20 d21=>?_⟩
       by_cases cd:d2=0
       · refine if_t (decide_eq_true cd) (mh (by omega) fun st n' pm hn'=>⟨by omega,?_⟩);exact put st n' (pm.nodup_iff.mpr nd1) (by rw [pm.length_eq];omega) (by omega)
       · refine if_f (decide_eq_false cd) ⟨by omega,?_⟩;have:=put (zs.take k) (m2 + 1) nd1 (by omega) (by omega);rw [row0] at this;exact this
   · obtain⟨t8,t9,t10,ys,rfl,yl,hy,hm'⟩:=hI;rw [x1w,a2u] at yl hm';have y6:ys.length=6:=yl;have e6:Int.toNat 6=6:=rfl;rw [e6] at hm';walk_at "pu";refine a0Z (fun j env m2=>∃v9 v11,env=[some (.v (.scr ns)),some (.v (.int (0 + i))),some (.v (.pot (q + 1))),some (.v (.int k)),some (.v (.tup Z)),some (.v (.int r)),some (.v (.tup A)),some (.v (.lst ys)),t8,v9,t10,v11]/\m2=m') _ 0 _ _ ⟨t9,s11,rfl,rfl⟩ (fun j x env m2 N2 ex2 hI hN2=>?_) (fun env m2 hI=>?_)
     · obtain⟨v9,v11,rfl,rfl⟩:=hI;obtain⟨st,es,rfl,nds,sl,hg,se,le⟩:=hy x (x0u ex2);have rt':=fun R' q'=>rt (m:=m2) (R:=R') nds sl hg se le q';generalize rowP st=W at *;generalize shP es=S at *;walk_at "pu";refine rt' _ ?_;exact if_f rfl (hN2 _ _ ⟨_,_,rfl,rfl⟩)
     · obtain⟨v9,v11,rfl,rfl⟩:=hI;exact hN _ _ ⟨_,_,_,_,_,_,_,_,_,_,_,rfl,by omega⟩
 · trivial
end Tb
end
section
namespace Tb
open PySem L2 Pu
section
variable {P:x0G}{w:World}{K:x0b}{mg:Str->Option Value}{base:Heap}
theorem ok_pot (F:Fn0 K mg "_law_pot" (top 13))(m_len:mg "len"=none)(m_abs:mg "abs"=none)(m_int:mg "int"=none):Kn P w K mg base "_law_pot" 1 ["_law_script","_law_k"] (Pu.b2c K):=by
 have sc:a0s ["_law_script","_law_k","_law_cell","_law_size","_law_own"] ["_law_script","_law_k"] (a0i (top 13)):=⟨rfl,rfl,rfl,by decide +kernel,rfl,by decide +kernel,by decide +kernel⟩;refine F.ok sc (fun vs H Q E h=>?_) (fun _ _ _ _ _ _=>bd2 fun _ _=>rfl) (fun f cdv A outer s H vs Q E hr h=>?_)
 · obtain⟨a,ns,k,rfl,_⟩:=h
   rfl
 obtain⟨a,ns,k,rfl,hS,h0,h1,q⟩:=h
 refine⟨_,(a1j (a3U (i:=2) sc.nd rfl (Or.inl rfl) (a5K (a4x b5j (pv 1) (a1s a4a rfl m_len a8B (a0o (pv 0) a0E)) (a0n _)) (a6t a2A (pv 0) (pv 1) (fun _ _=>rfl)) a0I))
     (a1j (a3U (i:=3) sc.nd rfl (Or.inl rfl) (a1u a3W (a1u a3V a0I (a1s b3v rfl m_abs bt_abs (a0o (pv 2) a0E))) (a2a a6T rfl m_int b4k (a0o (b0w b5j (pv 2) a0I (a0n _)) a0E))))
     (a1j (a3U (i:=4) sc.nd rfl (Or.inl rfl) (a5K (a4x op_ge (pv 3) (a1u op_pow a0I a0I) (a0n _)) (pv 3) a0I))
     (a5J (a8i (b3N (a0o (pv 4) (a0o (a1u a3W (a1u a3W (a1u a4C (pv 3) a0I) (a1u a3V a0I (pv 1))) a0I) (a0o a0I a0E))))))))),?_⟩
 refine a9L (fun v=>∃c:Int,v=.int c) (fun key=>?_) ?_
 · refine⟨_,rfl,_,rfl,a,_,rfl,.inl hS,_,_,rfl,rfl,_,rfl,?_⟩;refine ite2 (fun c=>?_) (fun c=>?_)
   · have c':k < (((ns.map V.int).length:Nat):Int):=of_decide_eq_true c;rw [x0e] at c';obtain⟨v,qa⟩:=at_map (ns:=ns) h0 c';exact⟨_,rfl,_,rfl,a,_,_,_,rfl,rfl,hS,qa,key _ ⟨_,rfl⟩⟩
   · exact key _ ⟨0,rfl⟩
 rintro v ⟨c,rfl⟩;refine⟨_,rfl,_,rfl,_,_,rfl,rfl,.inl ⟨by decide,by decide⟩,?_⟩;refine⟨_,rfl,_,_,rfl,rfl,.inr ⟨_,rfl,?_⟩⟩;refine⟨_,_,rfl,rfl,?_⟩;dsimp only [a1J];generalize hz:(2:Int) * (if c < 0 then -c else c) + (if decide (c < 0)=true then 1 else 0)=z;have z0:0<=z:=by rw [<- hz];split <;> split <;> omega
 have m0:=x2J z (show(2305843009213693951:Int)≠0 by decide);have m1:=x2c z (show(0:Int) < 2305843009213693951 by decide);refine a9L (fun v=>∃o:Int,v=.int o/\0<=o) (fun key=>?_) ?_
 · refine⟨_,rfl,_,_,rfl,rfl,⟨by decide,by decide,by decide⟩,_,_,rfl,rfl,_,rfl,?_⟩;exact ite2 (fun _=>⟨_,rfl,key _ ⟨_,rfl,z0⟩⟩) (fun _=>key _ ⟨_,rfl,by decide⟩)
 rintro v ⟨o,rfl,o0⟩;refine⟨_,rfl,_,rfl,_,_,rfl,rfl,(by show(0:Int) < 2305843009213693951;decide),_,rfl,_,_,rfl,rfl,.inl ⟨by decide,by decide⟩,_,_,rfl,rfl,_,_,rfl,rfl,(by show 3<=x0B;decide),fun p hp=>?_⟩;exact q p _ _ hp ⟨o0,by omega,by omega,by decide,by decide⟩
theorem b5m (F:Fn0 K mg "_law_draw" (top 14)):Kn P w K mg base "_law_draw" 1 ["_law_pot_here","_law_many"] (a0k K potL a9C):=by
 refine b1w ?_;have sc:a0s ["_law_pot_here","_law_many","_law_digit","_law_go","_law_mixed"] ["_law_pot_here","_law_many"] (a0i (top 14)):=⟨rfl,rfl,rfl,by decide +kernel,rfl,by decide +kernel,by decide +kernel⟩;refine F.ok sc (fun vs H Q E h=>?_) (fun _ _ _ _ _ _=>bd2 fun _ _=>rfl) (fun f cdv A outer s H vs Q E hr h=>?_)
 · obtain⟨p,own,seed,go,many,rfl,_⟩:=h
   rfl
 obtain⟨p,own,seed,go,many,rfl,hp,⟨o0,s0,s1,g0,g1⟩,g2,n0,n1,q⟩:=h
 refine⟨_,(a1j (ps_if (a4x op_gt (a6t a2A (pv 0) a0I (fun _ _=>rfl)) a0I (a0n _)) (a1j (a3U (i:=2) sc.nd rfl (Or.inl rfl) (a1u a4C (a6t a2A (pv 0) a0I (fun _ _=>rfl)) (pv 1)))
     (a1j (b0n (a1u a7v (a6t a2A (pv 0) a0I (fun _ _=>rfl)) (pv 1)) (b0s (pv 0) a0I a5D))
     (a5J (a8i (pv 2))))) b0m)
     (a1j (b0n (a1u a3W (a6t a2A (pv 0) a0I (fun _ _=>rfl)) a0I) (b0s (pv 0) a0I a5D))
     (a1j (a3U (i:=3) sc.nd rfl (Or.inl rfl) (a6t a2A (pv 0) a0I (fun _ _=>rfl)))
     (a1j (a3U (i:=4) sc.nd rfl (Or.inl rfl) (a1u a4C (a1u a3V (a1u a3W (a6t a2A (pv 0) a0I (fun _ _=>rfl)) (a1u a3V a0I (pv 3))) (a1u a3W (a1u a3V (a1u a3V (pv 3) (pv 3)) a0I) a0I)) a0I))
     (a1j (a3U (i:=4) sc.nd rfl (Or.inl rfl) (a1u a4C (a1u a3V (pv 4) (a1u a3W (a1u a4C (pv 4) a0I) (pv 3))) a0I))
     (a5J (a8i (a1u a4C (a1u a7v (pv 4) a0I) (pv 1))))))))),?_⟩
 refine⟨_,rfl,p,_,0,_,rfl,rfl,SqL.of hp,rfl,_,_,rfl,rfl,_,rfl,?_⟩;refine ite2 (fun c=>?_) (fun c=>?_)
 · refine⟨_,rfl,p,_,0,_,rfl,rfl,SqL.of hp,rfl,_,rfl,_,_,rfl,rfl,n0,?_⟩;refine⟨_,rfl,p,_,0,_,rfl,rfl,SqL.of hp,rfl,_,rfl,_,_,rfl,rfl,⟨n0,by omega⟩,?_⟩;refine⟨_,rfl,p,_,0,0,rfl,rfl,hp,rfl,?_⟩;refine⟨_,rfl,?_⟩;exact q _ _ _ _ (x2J _ (by omega)) (x2c _ n0) ⟨Int.ediv_nonneg o0 (by omega),s0,s1,g0,g1⟩ (by omega)
 · refine⟨_,rfl,p,_,2,_,rfl,rfl,SqL.of hp,rfl,_,_,rfl,rfl,?_⟩;refine⟨_,rfl,p,_,2,2,rfl,rfl,hp,rfl,?_⟩;refine⟨_,rfl,p,_,2,_,rfl,rfl,SqL.of a0l,rfl,?_⟩;refine⟨_,rfl,p,_,1,_,rfl,rfl,SqL.of a0l,rfl,_,rfl,_,_,rfl,rfl,.inl ⟨by decide,by decide⟩,_,_,rfl,rfl,?_⟩;refine⟨_,rfl,_,rfl,_,_,rfl,rfl,.inl ⟨by omega,by omega⟩,_,_,rfl,rfl,.inr ⟨by decide,by decide⟩,_,_,rfl,rfl,_,_,rfl,rfl,.inl ⟨by omega,by omega⟩,_,_,rfl,rfl,(by show(0:Int) < 2305843009213693921;decide),?_⟩;dsimp only [a1J];generalize (seed + 40503 * (go + 1)) * ((go + 1) * (go + 1) * 65539 + 97)=y;have m0:=x2J y (show(2305843009213693921:Int)≠0 by decide);have m1:=x2c y (show(0:Int) < 2305843009213693921 by decide);generalize y % 2305843009213693921=z at m0 m1 ⊢;refine⟨_,rfl,_,rfl,_,_,rfl,rfl,(by show(0:Int) < 1000003;decide),_,rfl,_,_,rfl,rfl,_,_,rfl,rfl,.inl ⟨by omega,by omega⟩,_,_,rfl,rfl,(by show(0:Int) < 2305843009213693907;decide),?_⟩;refine⟨_,rfl,_,_,rfl,rfl,⟨by decide,by decide⟩,_,rfl,_,_,rfl,rfl,n0,?_⟩;exact q _ _ _ _ (x2J _ (by omega)) (x2c _ n0) ⟨o0,s0,s1,by omega,by omega⟩ (by omega)
theorem b2O {Pt:Addr}{lpos:Pos}{qual:Str}(F:Fn0 K mg "_law_draw" (top 14)):Kn P w K mg base "_law_draw" 1 ["_law_pot_here","_law_many"] (a0k K (tabK potL Pt lpos qual) a2P):=b3o (b5m F) rfl
end
end Tb
end
section
open PySem PySem.W PyProof.Rows
set_option maxRecDepth 100000 in
set_option maxHeartbeats 0 in
theorem PySem.Challenge.cw_touchboats_k08_orders_or_reasons_holds : PySem.Challenge.rw_touchboats_k08_orders_or_reasons.Holds := by
 w_on;o_law;k_head;(case hw=>w_witness2)
 k_fill
 refine L2.a9H (l:=PySem.Challenge.rw_touchboats_k08_orders_or_reasons) (x:="_law_script") (k:=7) rfl rfl ⟨rfl,by decide,by decide,rfl⟩ (by decide) ?F
 case F=>
   intro w mg h KX G
   have f__law_pot:L2.Fn0 (L2.KOf KX) mg "_law_pot" (Tb.top 13):=by
     dsimp only [L2.KOf]
     refine' L2.a0Q KX G ?a ?l ?c ?k
     (case a=>k_is);(case l=>k_is);(case c=>k_is);(case k=>k_is)
   have f__law_draw:L2.Fn0 (L2.KOf KX) mg "_law_draw" (Tb.top 14):=by
     dsimp only [L2.KOf]
     refine' L2.a0Q KX G ?a ?l ?c ?k
     (case a=>k_is);(case l=>k_is);(case c=>k_is);(case k=>k_is)
   have f__law_shuffled:L2.Fn0 (L2.KOf KX) mg "_law_shuffled" (Tb.top 15):=by
     dsimp only [L2.KOf]
     refine' L2.a0Q KX G ?a ?l ?c ?k
     (case a=>k_is);(case l=>k_is);(case c=>k_is);(case k=>k_is)
   have f__law_boats:L2.Fn0 (L2.KOf KX) mg "_law_boats" (Tb.top 16):=by
     dsimp only [L2.KOf]
     refine' L2.a0Q KX G ?a ?l ?c ?k
     (case a=>k_is);(case l=>k_is);(case c=>k_is);(case k=>k_is)
   have f__law_apart:L2.Fn0 (L2.KOf KX) mg "_law_apart" (Tb.top 17):=by
     dsimp only [L2.KOf]
     refine' L2.a0Q KX G ?a ?l ?c ?k
     (case a=>k_is);(case l=>k_is);(case c=>k_is);(case k=>k_is)
   have f__law_sheet:L2.Fn0 (L2.KOf KX) mg "_law_sheet" (Tb.top 18):=by
     dsimp only [L2.KOf]
     refine' L2.a0Q KX G ?a ?l ?c ?k
     (case a=>k_is);(case l=>k_is);(case c=>k_is);(case k=>k_is)
   have f__law_bent:L2.Fn0 (L2.KOf KX) mg "_law_bent" (Tb.top 24):=by
     dsimp only [L2.KOf]
     refine' L2.a0Q KX G ?a ?l ?c ?k
     (case a=>k_is);(case l=>k_is);(case c=>k_is);(case k=>k_is)
   have f_boats_of:L2.Fn0 (L2.KOf KX) mg "boats_of" (Tb.top 1):=by
     dsimp only [L2.KOf]
     refine' L2.a0Q KX G ?a ?l ?c ?k
     (case a=>k_is);(case l=>k_is);(case c=>k_is);(case k=>k_is)
   have f_boat_reason:L2.Fn0 (L2.KOf KX) mg "boat_reason" (Tb.top 7):=by
     dsimp only [L2.KOf]
     refine' L2.a0Q KX G ?a ?l ?c ?k
     (case a=>k_is);(case l=>k_is);(case c=>k_is);(case k=>k_is)
   have f_touches_of:L2.Fn0 (L2.KOf KX) mg "touches_of" (Tb.top 2):=by
     dsimp only [L2.KOf]
     refine' L2.a0Q KX G ?a ?l ?c ?k
     (case a=>k_is);(case l=>k_is);(case c=>k_is);(case k=>k_is)
   have f_is_wrong:L2.Fn0 (L2.KOf KX) mg "is_wrong" (Tb.top 4):=by
     dsimp only [L2.KOf]
     refine' L2.a0Q KX G ?a ?l ?c ?k
     (case a=>k_is);(case l=>k_is);(case c=>k_is);(case k=>k_is)
   have f_between:L2.Fn0 (L2.KOf KX) mg "between" (Tb.top 3):=by
     dsimp only [L2.KOf]
     refine' L2.a0Q KX G ?a ?l ?c ?k
     (case a=>k_is);(case l=>k_is);(case c=>k_is);(case k=>k_is)
   have f_is_far:L2.Fn0 (L2.KOf KX) mg "is_far" (Tb.top 5):=by
     dsimp only [L2.KOf]
     refine' L2.a0Q KX G ?a ?l ?c ?k
     (case a=>k_is);(case l=>k_is);(case c=>k_is);(case k=>k_is)
   have f_touch_reason:L2.Fn0 (L2.KOf KX) mg "touch_reason" (Tb.top 8):=by
     dsimp only [L2.KOf]
     refine' L2.a0Q KX G ?a ?l ?c ?k
     (case a=>k_is);(case l=>k_is);(case c=>k_is);(case k=>k_is)
   have f_is_cross:L2.Fn0 (L2.KOf KX) mg "is_cross" (Tb.top 6):=by
     dsimp only [L2.KOf]
     refine' L2.a0Q KX G ?a ?l ?c ?k
     (case a=>k_is);(case l=>k_is);(case c=>k_is);(case k=>k_is)
   have f_cross_reason:L2.Fn0 (L2.KOf KX) mg "cross_reason" (Tb.top 9):=by
     dsimp only [L2.KOf]
     refine' L2.a0Q KX G ?a ?l ?c ?k
     (case a=>k_is);(case l=>k_is);(case c=>k_is);(case k=>k_is)
   have f_reason_of:L2.Fn0 (L2.KOf KX) mg "reason_of" (Tb.top 10):=by
     dsimp only [L2.KOf]
     refine' L2.a0Q KX G ?a ?l ?c ?k
     (case a=>k_is);(case l=>k_is);(case c=>k_is);(case k=>k_is)
   have f__law_between:L2.Fn0 (L2.KOf KX) mg "_law_between" (Tb.top 22):=by
     dsimp only [L2.KOf]
     refine' L2.a0Q KX G ?a ?l ?c ?k
     (case a=>k_is);(case l=>k_is);(case c=>k_is);(case k=>k_is)
   have f__law_is_touch:L2.Fn0 (L2.KOf KX) mg "_law_is_touch" (Tb.top 21):=by
     dsimp only [L2.KOf]
     refine' L2.a0Q KX G ?a ?l ?c ?k
     (case a=>k_is);(case l=>k_is);(case c=>k_is);(case k=>k_is)
   have f__law_is_reason:L2.Fn0 (L2.KOf KX) mg "_law_is_reason" (Tb.top 23):=by
     dsimp only [L2.KOf]
     refine' L2.a0Q KX G ?a ?l ?c ?k
     (case a=>k_is);(case l=>k_is);(case c=>k_is);(case k=>k_is)
   have f__law_can:L2.Fn0 (L2.KOf KX) mg "_law_can" (Tb.top 19):=by
     dsimp only [L2.KOf]
     refine' L2.a0Q KX G ?a ?l ?c ?k
     (case a=>k_is);(case l=>k_is);(case c=>k_is);(case k=>k_is)
   have f__law_course:L2.Fn0 (L2.KOf KX) mg "_law_course" (Tb.top 20):=by
     dsimp only [L2.KOf]
     refine' L2.a0Q KX G ?a ?l ?c ?k
     (case a=>k_is);(case l=>k_is);(case c=>k_is);(case k=>k_is)
   have f__law_is_course:L2.Fn0 (L2.KOf KX) mg "_law_is_course" (Tb.top 25):=by
     dsimp only [L2.KOf]
     refine' L2.a0Q KX G ?a ?l ?c ?k
     (case a=>k_is);(case l=>k_is);(case c=>k_is);(case k=>k_is)
   have f__law_right:L2.Fn0 (L2.KOf KX) mg "_law_right" (Tb.top 26):=by
     dsimp only [L2.KOf]
     refine' L2.a0Q KX G ?a ?l ?c ?k
     (case a=>k_is);(case l=>k_is);(case c=>k_is);(case k=>k_is)
   have f_law:L2.Fn0 (L2.KOf KX) mg "law" (Tb.top 27):=by
     dsimp only [L2.KOf]
     refine' L2.a0Q KX G ?a ?l ?c ?k
     (case a=>k_is);(case l=>k_is);(case c=>k_is);(case k=>k_is)
   have z:∀x,PySem.W.nsIn (L2.KOf KX) x2k x=some none->mg x=none:=fun x e=>PySem.W.mg_none_of KX G e;have m_abs:mg "abs"=none:=z _ (by dsimp only [L2.KOf];k_is);have m_all:mg "all"=none:=z _ (by dsimp only [L2.KOf];k_is);have m_any:mg "any"=none:=z _ (by dsimp only [L2.KOf];k_is);have m_enumerate:mg "enumerate"=none:=z _ (by dsimp only [L2.KOf];k_is);have m_int:mg "int"=none:=z _ (by dsimp only [L2.KOf];k_is);have m_isinstance:mg "isinstance"=none:=z _ (by dsimp only [L2.KOf];k_is);have m_len:mg "len"=none:=z _ (by dsimp only [L2.KOf];k_is);have m_list:mg "list"=none:=z _ (by dsimp only [L2.KOf];k_is);have m_max:mg "max"=none:=z _ (by dsimp only [L2.KOf];k_is);have m_min:mg "min"=none:=z _ (by dsimp only [L2.KOf];k_is);have m_range:mg "range"=none:=z _ (by dsimp only [L2.KOf];k_is);have m_set:mg "set"=none:=z _ (by dsimp only [L2.KOf];k_is);have m_sorted:mg "sorted"=none:=z _ (by dsimp only [L2.KOf];k_is);have m_str:mg "str"=none:=z _ (by dsimp only [L2.KOf];k_is);have m_tuple:mg "tuple"=none:=z _ (by dsimp only [L2.KOf];k_is);refine⟨Tb.top 27,"order_of",Tb.top 11,f_law,?zc,?zp,fun _ _ _ _ _ _ s u=>.of_eq rfl,fun cd f_order_of base kb nb hC hB=>?_⟩
   case zc=>
     refine' ⟨_,L2.b5M KX G ?a ?l ?c ?k,?h⟩
     (case a=>k_is);(case l=>k_is);(case c=>k_is);(case k=>k_is);(case h=>kernel_rfl)
   case zp=>kernel_rfl
   have g__law_pot:=Tb.ok_pot (P:=PySem.Challenge.rw_touchboats_k08_orders_or_reasons.prog) (w:=w) (base:=base) f__law_pot m_len m_abs m_int;have g__law_draw:=Tb.b2O (Pt:=L2.ptOf hC) (lpos:=Tb.lamP) (qual:=Tb.lamQ) (P:=PySem.Challenge.rw_touchboats_k08_orders_or_reasons.prog) (w:=w) (base:=base) f__law_draw;have g__law_shuffled:=Tb.a4K (Pt:=L2.ptOf hC) (P:=PySem.Challenge.rw_touchboats_k08_orders_or_reasons.prog) (w:=w) (base:=base) f__law_shuffled g__law_draw m_len m_list m_tuple;have g__law_boats:=Tb.a6G (Pt:=L2.ptOf hC) (P:=PySem.Challenge.rw_touchboats_k08_orders_or_reasons.prog) (w:=w) (base:=base) f__law_boats g__law_draw g__law_shuffled m_range;have g__law_apart:=Tb.a6H (Pt:=L2.ptOf hC) (P:=PySem.Challenge.rw_touchboats_k08_orders_or_reasons.prog) (w:=w) (base:=base) f__law_apart;have g__law_sheet:=Tb.a6E (Pt:=L2.ptOf hC) (P:=PySem.Challenge.rw_touchboats_k08_orders_or_reasons.prog) (w:=w) (base:=base) f__law_sheet g__law_draw g__law_apart m_all m_any m_enumerate m_len m_range m_sorted m_tuple;have g__law_bent:=Tb.a7D (Pt:=L2.ptOf hC) (P:=PySem.Challenge.rw_touchboats_k08_orders_or_reasons.prog) (w:=w) (base:=base) f__law_bent g__law_draw m_len m_list m_set m_sorted m_tuple;have g_boats_of:=Tb.a9o (Pt:=L2.ptOf hC) (P:=PySem.Challenge.rw_touchboats_k08_orders_or_reasons.prog) (w:=w) (base:=base) f_boats_of;have g_boat_reason:=Tb.a5T (Pt:=L2.ptOf hC) (P:=PySem.Challenge.rw_touchboats_k08_orders_or_reasons.prog) (w:=w) (base:=base) f_boat_reason g_boats_of
   have g_touches_of:=Tb.a6D (Pt:=L2.ptOf hC) (P:=PySem.Challenge.rw_touchboats_k08_orders_or_reasons.prog) (w:=w) (base:=base) f_touches_of;have g_is_wrong:=Tb.a9m (Pt:=L2.ptOf hC) (P:=PySem.Challenge.rw_touchboats_k08_orders_or_reasons.prog) (w:=w) (base:=base) f_is_wrong;have g_between:=Tb.b1e (Pt:=L2.ptOf hC) (P:=PySem.Challenge.rw_touchboats_k08_orders_or_reasons.prog) (w:=w) (base:=base) f_between m_sorted;have g_is_far:=Tb.b3d (Pt:=L2.ptOf hC) (P:=PySem.Challenge.rw_touchboats_k08_orders_or_reasons.prog) (w:=w) (base:=base) f_is_far g_between m_len;have g_touch_reason:=Tb.a5c (Pt:=L2.ptOf hC) (P:=PySem.Challenge.rw_touchboats_k08_orders_or_reasons.prog) (w:=w) (base:=base) f_touch_reason g_is_wrong g_is_far g_boats_of g_between;have g_is_cross:=Tb.a9n (Pt:=L2.ptOf hC) (P:=PySem.Challenge.rw_touchboats_k08_orders_or_reasons.prog) (w:=w) (base:=base) f_is_cross g_boats_of g_between m_len m_set;have g_cross_reason:=Tb.a5d (Pt:=L2.ptOf hC) (P:=PySem.Challenge.rw_touchboats_k08_orders_or_reasons.prog) (w:=w) (base:=base) f_cross_reason g_is_cross;have g_reason_of:=Tb.a7C (Pt:=L2.ptOf hC) (P:=PySem.Challenge.rw_touchboats_k08_orders_or_reasons.prog) (w:=w) (base:=base) f_reason_of g_boat_reason g_touches_of g_cross_reason g_touch_reason;have g_order_of:=Tb.a9l (Pt:=L2.ptOf hC) (P:=PySem.Challenge.rw_touchboats_k08_orders_or_reasons.prog) (w:=w) (base:=base) f_order_of hC hB g_reason_of g_touches_of g_between m_len m_sorted m_tuple
   have g__law_between:=Tb.a5e (Pt:=L2.ptOf hC) (P:=PySem.Challenge.rw_touchboats_k08_orders_or_reasons.prog) (w:=w) (base:=base) f__law_between m_enumerate m_max m_min;have g__law_is_touch:=Tb.a4L (Pt:=L2.ptOf hC) (P:=PySem.Challenge.rw_touchboats_k08_orders_or_reasons.prog) (w:=w) (base:=base) f__law_is_touch m_isinstance m_len m_tuple;have g__law_is_reason:=Tb.a4c (Pt:=L2.ptOf hC) (P:=PySem.Challenge.rw_touchboats_k08_orders_or_reasons.prog) (w:=w) (base:=base) f__law_is_reason g__law_is_touch g__law_between m_any m_isinstance m_len m_set m_str m_tuple;have g__law_can:=Tb.a9p (Pt:=L2.ptOf hC) (P:=PySem.Challenge.rw_touchboats_k08_orders_or_reasons.prog) (w:=w) (base:=base) f__law_can m_all m_len;have g__law_course:=Tb.a5U (Pt:=L2.ptOf hC) (P:=PySem.Challenge.rw_touchboats_k08_orders_or_reasons.prog) (w:=w) (base:=base) f__law_course g__law_can m_len m_list m_range;have g__law_is_course:=Tb.a4d (Pt:=L2.ptOf hC) (P:=PySem.Challenge.rw_touchboats_k08_orders_or_reasons.prog) (w:=w) (base:=base) f__law_is_course g__law_can m_isinstance m_list m_sorted m_tuple;have g__law_right:=Tb.a6F (Pt:=L2.ptOf hC) (P:=PySem.Challenge.rw_touchboats_k08_orders_or_reasons.prog) (w:=w) (base:=base) f__law_right g_order_of g__law_course g__law_is_course g__law_is_reason m_isinstance m_len m_tuple;exact Tb.k_law (Pt:=L2.ptOf hC) (P:=PySem.Challenge.rw_touchboats_k08_orders_or_reasons.prog) (w:=w) (base:=base) f_law g__law_pot g__law_draw g__law_boats g__law_sheet g__law_bent g__law_shuffled g__law_right m_int m_len m_range (fun ns hl=>Tb.m_law ns hl)
end
