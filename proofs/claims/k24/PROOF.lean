import PyProof.Rows.All
import Wide.All
import OpenK.AllK
import Wide.FinOn
import PyProof.EqAt
import PyProof.EqKinds
import PyProof.TupleCall
import PyProof.NeKinds
import PyProof.EnumMake
import PyProof.ConsumeWalk
import KE.LcSums
import PyProof.ReprLen
import PyProof.StrLawsRepr
import PyProof.Rows.StrNews2
import PyProof.Rows.SetFrom
import PyProof.WalksMore
import PyProof.StrLawsChain
import PyProof.StrLawsTight
import PyProof.StrLawsIdx
import PyProof.ZipIter
import PyProof.Draws
import PyProof.Rows.FactsT2
import PyProof.ListStr
import PyProof.Rows.StrPartPair
import KE.KSortTup
import KE.KDictSum
import KE.KRevIter
import KE.KSortKey
import KE.KLam
import KE.KNestM
import PyProof.DictItems
import KE.KPairComp
import PyProof.AutoSeq1
import PyProof.SetNew
import PyProof.AttrMissHeap
import KE.KDictOf
import Lean
import PySem.Challenge.RW_touchboats_k24_days_of_one_boat_a_divisi
set_option compiler.extract_closed false
set_option Elab.async false
set_option linter.all false
set_option maxRecDepth 100000
set_option maxHeartbeats 4000000
open PySem.W renaming Frag->x0a,fnOf->x1W,kas_place->x2K,kas_rev->x2R,kas_sort->x3m,kas_asc->x3Y,keepIn->x4a,kas_desc->x4w,codeIn->x4O,methodObj->x4S
open PySem renaming wpAny_bind->x0b,wpAny_pure->x0h,sizeLine->x0w,Program->x0D,wpAny_mono->x0F,assignEach->x0G,wpAny_newObj_type->x0T,foldedSetIterable->x0U,wpAny_holding->x0W,starEach->x0Y,sysModules->x1g,sizeLine_eq->x1k,wpAny_field->x1l,bootBuiltins->x1s,mem_of_lookup->x1x,wpAny_callSpecial?_slot->x1A,wpAny_call_entry->x1C,wpAny_standAt->x1G,compareOp->x1H,letOwnedTupleGo->x1P,mainGlobals->x1T,wpAny_of_eq->x1U,wpAny_seqItems->x1X,wpAny_setField_rec->x2f,keywordEach->x2l,wpAny_newFunctionEnv->x2n,codeAny->x2q,wpAny_comprehension_free->x2s,codeAny_builtin->x2u,attributeBase->x2E,wpAny_getItem_str_slice->x2F,wpAny_Call_Name_kw->x2O,wpAny_truthy_bool->x2W,wpAny_rule->x2Y,wpAny_pyIter_list->x2Z,binaryOp->x3a,Keyword->x3h,wpAny_passesOwn->x3v,behindInMarks->x3w,tupleKind_room_in1->x3E,wpAny_pyNext_list_item->x3L,wpAny_pyIter_rangeiter->x3M,codeAny_compStart_list->x3P,sliceBounds->x3T,Builtin->x3W,FuncData->x3Z,backToKw->x4b,isSubtype_type->x4c,swapsWith->x4e,wpAny_pyNext_list_end->x4f,codeAny_mono->x4g,wpAny_typeOf->x4h,bindArgs->x4t,plainId_quiet->x4v,tupleKind->x4A,getItem->x4B,theTreesLotGoes->x4C,post_val_or_str->x4D,codeAny_of_tree->x4F,holding->x4N,Arguments->x4T
open PySem.Heap renaming get?_push_of_some->x0c,lt_size->x0n,get?_push_size->x0s,dictOf_iff->x1B,size_push->x1O,SameBut->x3r
open List renaming mem_cons_of_mem->x0d,mem_cons_self->x0e,getElem?_eq_getElem->x0f,mem_cons->x0i,length_map->x0k,getElem?_eq_some_iff->x0l,length_append->x0m,getElem?_set_ne->x0o,size_toArray->x0p,mem_singleton->x0q,getElem?_set_self->x0t,mem_append_right->x0u,getElem?_map->x0v,mem_append->x0y,drop_eq_getElem_cons->x0z,mem_of_getElem?->x0A,length_set->x0B,map_cons->x0C,drop_of_length_le->x0H,nodup_cons->x0J,length_singleton->x0K,length_cons->x0M,range->x0N,getElem?_append_left->x0P,not_mem_nil->x0V,getElem?_append_right->x0Z,getD_eq_getElem?_getD->x1a,mem_filter->x1c,getElem?_eq_none->x1d,append_nil->x1f,length_take->x1i,all_eq_true->x1j,append_assoc->x1o,zip_cons_cons->x1q,mem_append_left->x1t,take_of_length_le->x1u,foldl_cons->x1y,length_drop->x1z,mem_map->x1M,map_append->x1R,nil_append->x1S,drop_zero->x1Y,getElem_mem->x2c,drop_length->x2d,mem_range->x2k,pairwise_iff_getElem->x2m,map_nil->x2x,map_map->x2B,filterMap_cons->x2D,getElem_of_mem->x2G,find?_cons->x2P,length_nil->x2Q,take_append_drop->x2U,length_filter_le->x2V,reverse_cons->x3b,nodup_append->x3d,Nodup->x3e,mem_of_mem_take->x3i,take_length->x3o,length_reverse->x3q,getElem?_replicate->x3x,getElem?_cons_zero->x3A,getElem?_cons_succ->x3B,any_cons->x3C,getElem_range->x3D,length_zip->x3H,find?_cons_of_neg->x3R,nodup_nil->x4d,lookup_cons->x4n,map_snd_zip->x4o,mem_flatMap->x4p,mem_of_mem_drop->x4s,zip_append->x4H,map_set->x4M
open PySem.Str renaming ofString->x0g
open Nat renaming le_refl->x0j,ne_of_lt->x0r,lt_of_lt_of_le->x0x,le_trans->x0I,zero_le->x0L,lt_succ_of_lt->x0R,zero_add->x1b,min_eq_left->x1Z,sub_self->x2i,sub_succ_lt_self->x2o,ne_of_gt->x2w,le_of_eq->x2A,lt_irrefl->x2C,lt_succ_self->x3l,min_eq_right->x3n,le_succ->x3p,lt_of_le_of_lt->x3z,le_succ_of_le->x3U,min_self->x4j,sub_zero->x4l,le_of_not_lt->x4m,le_of_lt->x4J,le_total->x4L
open Bool renaming false_ne_true->x0E,false_eq_true->x1v,beq_eq_decide_eq->x2g,eq_iff_iff->x2p,and_eq_true->x2I,or_false->x4u
open PySem.Obj renaming mapSeq->x0O
open Sum renaming inr->x0Q,inl->x2j
open Option.some renaming inj->x0S
open PySem.Builtin.SmallTypes renaming nextOf->x0X,ownedTupleIsFree->x1E,ownedTupleHandOut->x3k
open Array renaming length_toList->x1e,perm_iff_toList_perm->x3g,getElem?_eq_none->x3Q
open PySem.Builtin.Slice renaming slicePlaces->x1h,sliceAdjust->x1N,sliceApplied->x2a,sliceFields->x4P
open PyProof.Rows renaming slot_tuple_getitem->x1m,callWith_type1->x1w,get?_update_seq->x2S,listUpdate_at->x3c,envOfC->x4E
open PySem.Builtin.Tuple renaming tupleExact->x1n,tupleItemsOf->x3f
open PySem.Builtin.Range renaming rangeFitsLong->x1p,rangeSize->x3u
open PySem.Value renaming ref->x1r,type->x1L,none->x2L,builtin->x4V
open PySem.Heap.SameBut renaming update->x1D
open Int renaming toNat_natCast->x1F,emod_lt_of_pos->x2h,emod_nonneg->x2T,eq_ofNat_of_zero_le->x3I
open PySem.Builtin.Str renaming occurrences->x1I
open ForInStep renaming yield->x1J
open PySem.PyData renaming showable->x1K,showableAll->x2e,shownAll->x2t,depth->x2y,shown->x2z,shownKv->x3j,depthAll->x3F,showableKv->x3V,str->x4q,depthKv->x4Q
open PySem.F renaming slot_dict_get->x1Q,slot_tuple_iterator_next->x2b,plainAttrs_list->x2H,entry_dict_get->x2M,args_tuple_add_2->x3s,entry_tuple_add->x3y,slot_tuple_add->x3N,slot_zip_next->x4G
open PySem.Around renaming under_plainId->x1V
open Option renaming isSome_iff_exists->x2r
open Array.Perm renaming refl->x2v
open PySem.Txt renaming slice->x2J,slice_le->x4i
open PySem.Calls renaming spliced_cons->x2N,callWith_builtin->x3O,spliced_nil->x3S,evalArgs_plain->x4r
open False renaming elim->x2X
open PySem.Paired renaming length->x3t
open PyProof.Rows.F renaming plain_set_update_loop->x3G
open PySem.Spec renaming countIn->x3J,same->x3K
open PySem.StrLaws renaming sliceText->x3X
open PySem.SeqAt renaming RcNeAt->x4k,EqAt->x4x,RcAt->x4U
open True renaming intro->x4y
open Prod.mk renaming inj->x4z
open PySem.Builtin.List renaming listFitsIndex->x4I
open PySem.Heap.IsSliceOf renaming new->x4K
open PySem.Value.type renaming inj->x4R
open PySem.Heap.DictOf renaming new->x4W
local macro_rules|`(tactic|omega)=>`(tactic|lia)
section
namespace L2
open PySem PySem.Spec PyProof.Rows
noncomputable abbrev Key:=Sum Int Str
noncomputable def a8Z:Key->Value->Bool
 | .inl k,v=>Value.isInt k v
 | .inr x,v=>Value.isStrOf x v
noncomputable def keyH (w:World):Key->Int
 | .inl k=>hashInt k
 | .inr x=>hashStr w x
theorem a0E:∀{k:Key} {v:Value},a8Z k v=true->(∃i t,k=x2j i/\v=Value.int i t)\/(∃x t,k=x0Q x/\v=Value.str x t)
 | .inl i, v, h => by
   obtain⟨t,e⟩:=Value.isInt_shape (k:=i) (v:=v) h;exact .inl ⟨i,t,rfl,e⟩
 | .inr x, v, h => by
   obtain⟨t,e⟩:=Value.isStrOf_shape (x:=x) (v:=v) h;exact .inr ⟨x,t,rfl,e⟩
theorem b0V (i:Int)(t:Tok):a8Z (.inl i) (.int i t)=true:=by simp [a8Z,Value.isInt]
theorem b0U (x:Str)(t:Tok):a8Z (.inr x) (.str x t)=true:=by simp [a8Z,Value.isStrOf]
theorem key_ll (a b:Int):decide ((x2j a:Key)=x2j b)=(a == b):=by
 by_cases e:a=b
 · subst e;simp
 · have h:¬(x2j a:Key)=x2j b:=fun q=>e (Sum.inl.inj q);rw [decide_eq_false h];exact(beq_eq_false_iff_ne.mpr e).symm
theorem key_rr (a b:Str):decide ((x0Q a:Key)=x0Q b)=decide (a=b):=by
 by_cases e:a=b
 · subst e;simp
 · have h:¬(x0Q a:Key)=x0Q b:=fun q=>e (Sum.inr.inj q);rw [decide_eq_false h,decide_eq_false e]
theorem key_lr (a:Int)(b:Str):decide ((x2j a:Key)=x0Q b)=false:=decide_eq_false (fun q=>nomatch q)
theorem key_rl (a:Str)(b:Int):decide ((x0Q a:Key)=x2j b)=false:=decide_eq_false (fun q=>nomatch q)
noncomputable def a0p (prog:x0D)(w:World):PySem.KeyKind prog w Key where
 is:=a8Z
 hash:=keyH w
 inj:=fun v a b ha hb=>by
   rcases a0E ha with⟨i,t,rfl,rfl⟩ | ⟨x,t,rfl,rfl⟩
   · rcases a0E hb with⟨j,u,rfl,e⟩ | ⟨y,u,rfl,e⟩
     · injection e with e1 _;rw [e1]
     · exact nomatch e
   · rcases a0E hb with⟨j,u,rfl,e⟩ | ⟨y,u,rfl,e⟩
     · exact nomatch e
     · injection e with e1 _;rw [e1]
 byValue:=fun k v h=>by
   rcases a0E h with⟨i,t,rfl,rfl⟩ | ⟨x,t,rfl,rfl⟩ <;> rfl
 pyHash:=fun hv h=>by
   rcases a0E hv with⟨i,t,rfl,rfl⟩ | ⟨x,t,rfl,rfl⟩
   · exact wpAny_pyHash_int h
   · exact wpAny_pyHash_str h
 eqBool:=fun hu hv h=>by
   rcases a0E hu with⟨i,t,rfl,rfl⟩ | ⟨x,t,rfl,rfl⟩
   · rcases a0E hv with⟨j,u,rfl,rfl⟩ | ⟨y,u,rfl,rfl⟩
     · rw [key_ll] at h;exact wpAny_eqBool_int h
     · rw [key_lr] at h;exact SeqAt.EqAt.int_str i t y u _ _ _ _ h
   · rcases a0E hv with⟨j,u,rfl,rfl⟩ | ⟨y,u,rfl,rfl⟩
     · rw [key_rl] at h;exact SeqAt.EqAt.str_int x t j u _ _ _ _ h
     · rw [key_rr] at h;exact wpAny_eqBool_str h
 «strs»:=fun k x t v h=>by
   rcases a0E h with⟨i,u,rfl,e⟩ | ⟨y,u,rfl,e⟩
   · exact nomatch e
   · injection e with e1 _;subst e1;cases v <;> rfl
theorem a7k (prog:x0D)(w:World)(i:Int)(t:Tok):(a0p prog w).is (.inl i) (.int i t)=true:=b0V i t
theorem a4n (prog:x0D)(w:World)(x:Str)(t:Tok):(a0p prog w).is (.inr x) (.str x t)=true:=b0U x t
inductive V where
 | non | bl (b:Bool) | int (i:Int) | str (x:Str) | byt (b:Array UInt8) | flt (b:UInt64) | ref (a:Addr) | ty (n:String)
 deriving DecidableEq
noncomputable def RelV:V->Value->Prop
 | .non,u=>u=x2L
 | .bl b,u=>u=Value.bool b
 | .int i,u=>∃t,u=Value.int i t
 | .str x,u=>∃t,u=Value.str x t
 | .byt b,u=>∃t,u=Value.bytes b t
 | .flt b,u=>∃t,u=Value.float b t
 | .ref a,u=>u=x1r a
 | .ty n,u=>u=x1L n
noncomputable abbrev Vals:List V->List Value->Prop:=Paired RelV
theorem Vals.length {xs:List V}{us:List Value}(r:Vals xs us):xs.length=us.length:=x3t r
theorem Vals.get:∀{xs:List V} {us:List Value} {i:Nat} {x:V},Vals xs us->xs[i]?=some x->∃u,us[i]?=some u/\RelV x u
 | _,_,_,_,.nil,e=>by simp at e
 | _,_,0,_,.cons r _,e=>by simp at e;subst e;exact⟨_,rfl,r⟩
 | _, _, i + 1, x, .cons _ t, e => by
   obtain⟨u,h1,h2⟩:=Vals.get (i:=i) (x:=x) t (by simpa using e);exact⟨u,by simpa using h1,h2⟩
theorem Vals.set {x:V}{u:Value}(r:RelV x u):∀{xs:List V} {us:List Value} (i:Nat),Vals xs us->Vals (xs.set i x) (us.set i u)
 | _,_,_,.nil=>.nil
 | _,_,0,.cons _ t=>.cons r t
 | _,_,i + 1,.cons q t=>.cons q (Vals.set r i t)
theorem Vals.append {xs ys:List V}{us ws:List Value}(h:Vals xs us)(s:Vals ys ws):Vals (xs++ys) (us++ws):=by
 induction h with
 | nil=>exact s
 | cons r _ ih=>exact .cons r ih
theorem Vals.take:∀{xs:List V} {us:List Value} (n:Nat),Vals xs us->Vals (xs.take n) (us.take n)
 | _,_,0,_=>.nil
 | _,_,_ + 1,.nil=>.nil
 | _,_,n + 1,.cons r t=>.cons r (Vals.take n t)
theorem Vals.drop:∀{xs:List V} {us:List Value} (n:Nat),Vals xs us->Vals (xs.drop n) (us.drop n)
 | _,_,0,r=>r
 | _,_,_ + 1,.nil=>.nil
 | _,_,n + 1,.cons _ t=>Vals.drop n t
noncomputable def RelO:Option V->Option Value->Prop
 | some v,some u=>RelV v u
 | none,none=>True
 | _,_=>False
noncomputable def KV {κ:Type}:List (κ×V)->List (κ×Value)->Prop:=Paired fun(p:κ×V) (q:κ×Value)=>p.1=q.1/\RelV p.2 q.2
noncomputable def kV:Key->V
 | .inl i=>.int i
 | .inr x=>.str x
inductive HO where
 /-- a list -/
 | lst (xs:List V)
 /-- a tuple (never changes) -/
 | tup (xs:List V)
 /-- a dict whose keys are ints and a3a; one whose keys are tuples of ints and a3a (the empty one is both) -/
 | dK (kvs:List (Key×V)) | dT (kvs:List (List Key×V))
 /-- a set of ints: its members, its size -/
 | set (S:Key->Bool) (n:Nat)
 /-- an instance of the class at C, its dict at dx, its attributes -/
 | ins (C dx:Addr) (fs:List (Str×V))
 /-- the dict of the instance at x -/
 | own (x:Addr)
 /-- the dict of an exception -/
 | xd (fs:List (Str×V))
 /-- a bound method, f of x -/
 | met (f x:Addr)
 /-- a range object lo, lo + 1, .. below hi -/
 | rng (lo hi:Int)
 /-- a thing that is known to the object (the script; a dict while a loop walks it): read, never written while it is so -/
 | frz (o:Obj) (u:HO)
 /-- a code object's table -/
 | tbl (ps:Array Value)
 /-- any other thing, by what is true of its one object (a def of one's own: SetO a S n := HO.ext fun h => ..) -/
 | ext (φ:Heap->Prop)
noncomputable abbrev Hp:=Addr->Option HO
noncomputable def upd (H:Hp)(a:Addr)(o:HO):Hp:=fun b=>if b=a then some o else H b
theorem a0f {H:Hp}{a:Addr}{o:HO}:upd H a o a=some o:=by unfold upd;rw [if_pos rfl]
theorem a0e {H:Hp}{a b:Addr}{o:HO}(h:b≠a):upd H a o b=H b:=by unfold upd;rw [if_neg h]
theorem a4Z {H:Hp}{a:Addr}{o u:HO}:upd (upd H a o) a u=upd H a u:=by
 funext b;unfold upd;split <;> rfl
theorem ne_of {H:Hp}{a b:Addr}{o u:HO}(h:H a=some o)(h':H b=some u)(d:o≠u):a≠b:=by
 intro e;subst e;rw [h] at h';exact d (x0S h')
theorem a0G {H:Hp}{a b:Addr}{o:HO}(h:H a=some o)(h':H b=none):a≠b:=by
 intro e;subst e;rw [h] at h';cases h'
noncomputable def a2j (h:Heap)(a:Addr)(items:Array Value):Prop:=∃o,h.get? a=some o/\(o.cls,o.dict)=(x1L "tuple",none)/\∃n,o.data=.seq items n
theorem a2j.is {h:Heap}{a:Addr}{items:Array Value}(x:a2j h a items):IsTup h a items:=let ⟨o,e,c,r⟩:=x;⟨o,e,(x4z c).1,r⟩
theorem a2j.lt {h:Heap}{a:Addr}{items:Array Value}(x:a2j h a items):a < h.objs.size:=let ⟨_,e,_⟩:=x;x0n e
theorem a2j.new (h:Heap)(items:Array Value):a2j (h.push { cls:=.type "tuple",data:=.seq items }) h.objs.size items:=⟨_,x0s _ rfl,rfl,_,rfl⟩
section
variable (P:x0D)(w:World)
noncomputable def a0U (H:Hp)(h:Heap)(a:Addr):HO->Prop
 | .lst xs=>xs.length<=x0w/\∃(its:List Value) (n:Nat),Vals xs its/\h.get? a=some { cls:=.type "list",data:=.seq its.toArray n }
 | .tup xs=>xs.length<=x0w/\∃its:List Value,Vals xs its/\a2j h a its.toArray
 | .dK kvs=>kvs.length<=x0w/\(a == x1g)=false/\∃vs,KV kvs vs/\h.DictOf (a0p P w) a vs
 | .dT kvs=>kvs.length<=x0w/\(a == x1g)=false/\∃xs:List (List Key×Addr×Value),
     Paired (fun(p:List Key×V) (q:List Key×Addr×Value)=>p.1=q.1/\H q.2.1=some (.tup (p.1.map kV))/\RelV p.2 q.2.2) kvs xs/\
     ∃o es ep,h.get? a=some o/\o.ExactDict/\o.data=.dict es ep/\es.toList=xs.map (entryOfKey (x4A (a0p P w)))/\(xs.map (·.1)).Nodup
 | .set S n=>h.SetOf (a0p P w) a S n
 | .ins C dx fs=>H dx=some (.own a)/\fs.length<=1000/\dx≠a/\h.get? a=some (PySem.W.instObj C dx)/\
     ∃mA,h.Ns1 dx mA/\(∀f,RelO (fs.lookup f) (mA f))/\PySem.Within mA (fs.map (·.1))
 | .own _=>∃o,h.get? a=some o
 | .xd fs=>∃mA,h.Ns1 a mA/\∀f,RelO (fs.lookup f) (mA f)
 | .rng lo hi=>∃t u v,h.get? a=some { cls:=.type "range",data:=.fields #[.int lo t,.int hi u,.int 1 v] }
 | .frz o u=>h.get? a=some o/\a0U H h a u
 | .tbl ps=>h.get? a=some { cls:=.none,data:=.fields ps }
 | .met f x=>h.get? a=some (x4S (.ref f) (.ref x))
 | .ext φ=>φ h/\(∃o,h.get? a=some o)/\∀h1 h2:Heap,φ h1->(∀o,h1.get? a=some o->h2.get? a=some o)->φ h2
noncomputable def HOk (H:Hp)(h:Heap):Prop:=∀a o,H a=some o->a0U P w H h a o
end
section
variable {P:x0D}{w:World}{H H':Hp}{h h':Heap}{a:Addr}{o:HO}
theorem a0U.lt (x:a0U P w H h a o):a < h.objs.size:=by
 cases o with
 | lst xs=>obtain⟨_,_,_,_,e⟩:=x;exact x0n e
 | tup xs=>obtain⟨_,_,_,p⟩:=x;exact p.lt
 | dK kvs=>obtain⟨_,_,_,_,o,_,_,e,_⟩:=x;exact x0n e
 | dT kvs=>obtain⟨_,_,_,_,o,_,_,e,_⟩:=x;exact x0n e
 | set S n=>obtain⟨o,_,_,_,e,_⟩:=x;exact x0n e
 | ins C dx fs=>obtain⟨_,_,_,e,_⟩:=x;exact x0n e
 | own y=>obtain⟨_,e⟩:=x;exact x0n e
 | xd fs=>obtain⟨_,⟨_,_,_,e,_⟩,_⟩:=x;exact x0n e
 | rng lo hi=>obtain⟨_,_,_,e⟩:=x;exact x0n e
 | frz ob u=>obtain⟨e,_⟩:=x;exact x0n e
 | tbl ps=>exact x0n (show h.get? a=some _ from x)
 | met f y=>exact x0n (show h.get? a=some _ from x)
 | ext φ=>obtain⟨_,⟨_,e⟩,_⟩:=x;exact x0n e
theorem Paired.mapP {α β:Type}{F G:α->β->Prop}{l₁:List α}{l₂:List β}(h:Paired F l₁ l₂)(f:∀a b,F a b->G a b):Paired G l₁ l₂:=by
 induction h with
 | nil=>exact .nil
 | cons r _ ih=>exact .cons (f _ _ r) ih
theorem Paired.imp' {α β:Type}{F G:α->β->Prop}(f:∀a b,F a b->G a b){l₁:List α}{l₂:List β}(r:Paired F l₁ l₂):Paired G l₁ l₂:=Paired.mapP r f
theorem a0U.stay (x:a0U P w H h a o)(k:∀b u,(b=a\/H b=some (.own a))->h.get? b=some u->h'.get? b=some u)
   (ho:∀b,H b=some (.own a)->H' b=some (.own a)) (ht:∀b xs,H b=some (.tup xs)->H' b=some (.tup xs)):a0U P w H' h' a o:=by
 induction o with
 | lst xs=>obtain⟨z,its,n,r,e⟩:=x;exact⟨z,its,n,r,k _ _ (.inl rfl) e⟩
 | tup xs=>obtain⟨z,its,r,ob,e,c⟩:=x;exact⟨z,its,r,ob,k _ _ (.inl rfl) e,c⟩
 | dK kvs=>obtain⟨z,y,vs,r,ob,es,ep,e,c⟩:=x;exact⟨z,y,vs,r,ob,es,ep,k _ _ (.inl rfl) e,c⟩
 | dT kvs =>
   obtain⟨z,y,xs,r,ob,es,ep,e,c⟩:=x;exact⟨z,y,xs,Paired.mapP r fun p q z=>⟨z.1,ht _ _ z.2.1,z.2.2⟩,ob,es,ep,k _ _ (.inl rfl) e,c⟩
 | set S n=>obtain⟨ob,es,ep,t,e,c⟩:=x;exact⟨ob,es,ep,t,k _ _ (.inl rfl) e,c⟩
 | ins C dx fs =>
   obtain⟨d,z,ne,e,mA,⟨od,es,ep,e2,c⟩,r⟩:=x;exact⟨ho _ d,z,ne,k _ _ (.inl rfl) e,mA,⟨od,es,ep,k _ _ (.inr d) e2,c⟩,r⟩
 | own y=>obtain⟨ob,e⟩:=x;exact⟨ob,k _ _ (.inl rfl) e⟩
 | xd fs=>obtain⟨mA,⟨od,es,ep,e,c⟩,r⟩:=x;exact⟨mA,⟨od,es,ep,k _ _ (.inl rfl) e,c⟩,r⟩
 | rng lo hi=>obtain⟨t,u,v,e⟩:=x;exact⟨t,u,v,k _ _ (.inl rfl) e⟩
 | frz ob u ih=>obtain⟨e,q⟩:=x;exact⟨k _ _ (.inl rfl) e,ih q⟩
 | tbl ps =>
   have e:h.get? a=some { cls:=.none,data:=.fields ps }:=x;show h'.get? a=some { cls:=.none,data:=.fields ps };exact k a _ (.inl rfl) e
 | met f y =>
   have e:h.get? a=some (x4S (.ref f) (.ref y)):=x;show h'.get? a=some (x4S (.ref f) (.ref y));exact k a _ (.inl rfl) e
 | ext φ=>obtain⟨p,⟨o,e⟩,st⟩:=x;exact⟨st _ _ p fun o q=>k _ _ (.inl rfl) q,⟨o,k _ _ (.inl rfl) e⟩,st⟩
theorem HOk.lt (x:HOk P w H h)(e:H a=some o):a < h.objs.size:=(x a o e).lt
theorem HOk.fresh (x:HOk P w H h)(e:h.objs.size<=a):H a=none:=by
 cases q:H a with
 | none=>rfl
 | some u=>exact absurd (x0x (x.lt q) e) (x2C _)
theorem HOk.kept (x:HOk P w H h)(k:∀b u,h.get? b=some u->h'.get? b=some u):HOk P w H h':=fun a o e=>
 (x a o e).stay (fun b u _ q=>k b u q) (fun _ q=>q) fun _ _ q=>q
theorem HOk.laid (x:HOk P w H h)(k:∀b u,h.get? b=some u->h'.get? b=some u)(hp:h.objs.size<=a)(new:a0U P w (upd H a o) h' a o):HOk P w (upd H a o) h':=fun b u e=>by
 have hn:=x.fresh hp
 by_cases hb:b=a
 · subst hb;rw [a0f] at e;cases e;exact new
 · rw [a0e hb] at e;exact(x b u e).stay (fun c v _ q=>k c v q) (fun c q=>by rw [a0e (a0G q hn)];exact q) fun c xs q=>by rw [a0e (a0G q hn)];exact q
end
noncomputable def Rd (H:Hp)(a:Addr)(u:HO):Prop:=H a=some u\/∃o,H a=some (.frz o u)
theorem Rd.ok {P:x0D}{w:World}{H:Hp}{h:Heap}{a:Addr}{u:HO}(r:Rd H a u)(x:HOk P w H h):a0U P w H h a u:=by
 rcases r with r | ⟨o,r⟩
 · exact x a u r
 · obtain⟨_,q⟩:=x a _ r;exact q
noncomputable def Mut:Option HO->Prop
 | some (.lst _)=>True
 | some (.dK _)=>True
 | some (.dT _)=>True
 | some (.set _ _)=>True
 | some (.ins _ _ _)=>True
 | some (.ext _)=>True
 | _=>False
section
variable {P:x0D}{w:World}{H:Hp}{h h':Heap}{x e:Addr}{o':HO}
theorem HOk.write (ok:HOk P w H h)(mu:Mut (H x))(he:e=x\/H e=some (.own x))(k:∀b u,b≠e->h.get? b=some u->h'.get? b=some u)(heo:∃u,h'.get? e=some u)
   (new:a0U P w (upd H x o') h' x o'):HOk P w (upd H x o') h':=fun b u q=>by
 have nown:∀c y,H c=some (.own y)->c≠x:=fun c y r z=>by subst z;rw [r] at mu;exact mu
 have ntup:∀c xs,H c=some (.tup xs)->c≠x:=fun c xs r z=>by subst z;rw [r] at mu;exact mu
 by_cases hb:b=x
 · subst hb;rw [a0f] at q;cases q;exact new
 · rw [a0e hb] at q
   by_cases hbe:b=e
   · have q':H b=some (.own x):=by
       rcases he with z | z
       · exact absurd (hbe.trans z) hb
       · rw [hbe];exact z
     rw [q] at q';cases q';obtain⟨v,hv⟩:=heo;exact⟨v,by rw [hbe];exact hv⟩
   · refine(ok b u q).stay (fun c v hc r=>k c v ?_ r) (fun c r=>by rw [a0e (nown c b r)];exact r) fun c xs r=>by rw [a0e (ntup c xs r)];exact r
     rcases hc with rfl | hc
     · exact hbe
     · rintro rfl;rcases he with z | z
       · exact nown c b hc z
       · rw [hc] at z;cases z;exact hb rfl
end
noncomputable def NS (H:Hp):Prop:=H x1g=none\/∃o u,H x1g=some (.frz o u)
structure Un (fs ex:List Addr)(H H':Hp)(h h':Heap):Prop where
 keep:∀b o,h.get? b=some o->H b=none->b∉fs->b∉ex->h'.get? b=some o
 slot:∀b o,h.get? b=some o->H b=none->b∈fs->b∉ex->∃sl,h'.get? b=some { o with slots:=sl }
 free:∀b o,h.get? b=some o->H b=none->b∉ex->H' b=none
 there:∀b o,h.get? b=some o->b∉ex->∃o',h'.get? b=some o'
 tups:∀b xs,H b=some (.tup xs)->H' b=some (.tup xs)
 frzs:∀b o u,H b=some (.frz o u)->H' b=some (.frz o u)
 tbls:∀b ps,H b=some (.tbl ps)->∃more,H' b=some (.tbl (ps++more))
 sys:NS H->NS H'
section
variable {fs fs' ex ex':List Addr}{H H1 H2:Hp}{h h1 h2 h':Heap}{a x e:Addr}{o:HO}
theorem Un.any (u:Un fs ex H H1 h h1){b:Addr}{ob:Obj}(q:h.get? b=some ob)(n:H b=none)(hx:b∉ex):∃sl,h1.get? b=some { ob with slots:=sl }:=by
 by_cases hb:b∈fs
 · exact u.slot b ob q n hb hx
 · exact⟨ob.slots,u.keep b ob q n hb hx⟩
theorem Un.kept (k:∀b u,h.get? b=some u->h'.get? b=some u):Un fs ex H H h h':=
 ⟨fun b ob q _ _ _=>k b ob q,fun b ob q _ _ _=>⟨ob.slots,k b ob q⟩,fun _ _ _ n _=>n,fun b ob q _=>⟨ob,k b ob q⟩,fun _ _ q=>q,fun _ _ _ q=>q,fun _ ps q=>⟨#[],by rw [q];simp⟩,fun z=>z⟩
theorem Un.refl:Un fs ex H H h h:=Un.kept fun _ _ q=>q
theorem Un.laid (k:∀b u,h.get? b=some u->h'.get? b=some u)(hp:h.objs.size<=a)(hn:H a=none)(hy:x1g < h.objs.size):Un fs ex H (upd H a o) h h' where
 keep:=fun b u q _ _ _=>k b u q
 slot:=fun b u q _ _ _=>⟨u.slots,k b u q⟩
 free:=fun b u q n _=>by rw [a0e (x0r (x0x (x0n q) hp))];exact n
 there:=fun b u q _=>⟨u,k b u q⟩
 tups:=fun b xs q=>by rw [a0e (a0G q hn)];exact q
 frzs:=fun b u xs q=>by rw [a0e (a0G q hn)];exact q
 tbls:=fun b ps q=>⟨#[],by rw [a0e (a0G q hn),q];simp⟩
 sys:=fun z=>by unfold NS;rw [a0e (x0r (x0x hy hp))];exact z
theorem Un.write (mu:Mut (H x))(he:e=x\/H e=some (.own x))(k:∀b u,b≠e->h.get? b=some u->h'.get? b=some u)(heo:∃u,h'.get? e=some u):Un fs ex H (upd H x o) h h':=by
 have hx:∀b,H b=none->b≠x:=fun b n z=>by subst z;rw [n] at mu;exact mu
 have hb:∀b,H b=none->b≠e:=fun b n z=>by
   subst z;rcases he with r | r
   · exact hx b n r
   · rw [n] at r;cases r
 have hm:∀b u,H b=some u->¬Mut (some u)->b≠x:=fun b u q nm z=>by subst z;rw [q] at mu;exact nm mu
 refine⟨fun b u q n _ _=>k b u (hb b n) q,fun b u q n _ _=>⟨u.slots,k b u (hb b n) q⟩,fun b u q n _=>by rw [a0e (hx b n)];exact n,fun b u q _=>?_,
   fun b xs q=>by rw [a0e (hm b _ q fun z=>z)];exact q,fun b u xs q=>by rw [a0e (hm b _ q fun z=>z)];exact q,fun b ps q=>⟨#[],by rw [a0e (hm b _ q fun z=>z),q];simp⟩,fun z=>by
     rcases z with z | ⟨ob,u,z⟩
     · exact .inl (by rw [a0e (hx _ z)];exact z)
     · exact .inr ⟨ob,u,by rw [a0e (hm _ _ z fun z=>z)];exact z⟩⟩
 by_cases hbe:b=e
 · subst hbe;exact heo
 · exact⟨u,k b u hbe q⟩
end
noncomputable def trk (h:Heap)(H:Hp):List Addr:=(x0N h.objs.size).filter fun a=>(H a).isSome
noncomputable def hidT (h:Heap)(H:Hp):Heap:=PySem.W.hideAll h (trk h H)
theorem b1i (h:Heap)(H:Hp):(hidT h H).objs.size=h.objs.size:=PySem.W.hideAll_size _ _
theorem b3s {h:Heap}{H:Hp}{b:Addr}{o:Obj}(e:h.get? b=some o)(n:H b=none):(hidT h H).get? b=some o:=
 PySem.W.hideAll_get _ e fun hm=>by
   have q:(H b).isSome=true:=(x1c.mp hm).2;rw [n] at q;simp at q
theorem b5A {h:Heap}{H:Hp}{b:Addr}{o:Obj}(e:(hidT h H).get? b=some o):h.get? b=some o/\H b=none:=by
 have e':h.get? b=some o:=PySem.W.of_hideAll (trk h H) e;refine⟨e',?_⟩;cases q:H b with
 | none=>rfl
 | some x =>
   have hm:b∈trk h H:=x1c.mpr ⟨x2k.mpr (x0n e'),by simp [q]⟩;have z:(hidT h H).get? b=none:=PySem.W.hideAll_none (trk h H) hm;rw [z] at e;cases e
noncomputable def b6m (g h:Heap)(L:Addr):List (Addr×Obj):=(x0N h.objs.size).filterMap fun a=>if a=L\/(g.get? a).isSome=true then none else(h.get? a).map fun o=>(a,o)
noncomputable def rest (g h:Heap)(L d:Addr):List (Addr×Obj):=(b6m g h L).filter fun p=>decide (p.1≠d)
structure Mod (K:x0a)(mg:Str->Option Value)(base:Heap):Prop where
 kin:K.In base
 glob:base.Ns x1T mg
 blt:∃mb,base.Ns builtinsNs mb/\∀x:Str,x≠"__name__"->mb x=x1s x
 nolimit:base.NoLimit
structure Cx where
 prog:x0D
 w:World
 K:x0a
 mg:Str->Option Value
 base:Heap
 A:Around
 N:List Str
 s₀:Shared
 H₀:Hp
 env:Env
 outer:List Env
 stack:List Env
 ex:List Addr
 fn:Str->Bool
 calm:Bool
 pn:List (Addr×Obj)
 xe:Value->Shared->Prop
noncomputable def frs (l:List Env):List Addr:=l.filterMap (·.frame)
noncomputable abbrev Cx.fs (X:Cx):List Addr:=frs X.outer
noncomputable def Vis (sc:Scope)(x:Str):Prop:=sc.names.lookup x=some .local\/sc.names.lookup x=some .cell\/sc.names.lookup x=some .free
noncomputable def Loc (sc:Scope)(x:Str):Prop:=sc.names.lookup x=some .local\/sc.names.lookup x=some .cell
noncomputable def Look (env:Env)(h:Heap)(m:Str->Option Value)(x:Str)(u:Value):Prop:=
 (env.kindOf x=some .local/\m x=some u)\/((env.kindOf x=some .cell\/env.kindOf x=some .free)/\∃c,env.cells.lookup x=some c/\h.IsCell c (some u))
structure Cx.Ok (X:Cx):Prop where
 mod:Mod X.K X.mg X.base
 kind:X.env.scope.kind=.function
 glob:X.env.globals=x1T
 blt:X.env.builtins=builtinsNs
 above:X.s₀.heap.objs.size<=X.env.locals
 inj:∀x y c,X.env.cells.lookup x=some c->X.env.cells.lookup y=some c->x=y
 has:∀x,(X.env.kindOf x=some .cell\/X.env.kindOf x=some .free)->∃c,X.env.cells.lookup x=some c
 cab:∀x c,X.fn x=true->X.env.cells.lookup x=some c->X.s₀.heap.objs.size<=c
 hd:X.calm=true->X.A.handled=none
 frames:X.A.frames=some X.stack
 stk:X.stack=X.outer\/(X.stack=X.env::X.outer/\X.env.frame=some X.env.locals)
 exf:∀b∈X.ex,b≠X.env.locals/\∀x c,X.env.cells.lookup x=some c->c≠b
 bs:∀b o,X.base.get? b=some o->X.s₀.heap.get? b=some o/\X.H₀ b=none
 bsz:X.base.objs.size<=X.s₀.heap.objs.size
 noex:∀b o,X.base.get? b=some o->b∉X.ex
 exfs:∀b∈X.ex,b∉X.fs
 funs:X.s₀.heap.FunFrames X.base X.outer
 frf:∀b∈X.fs,X.H₀ b=none
 nos:NS X.H₀
structure Inv (X:Cx)(pins:List (Addr×Obj))(σ:List (Option V))(H:Hp)(s:Shared):Prop where
 ok:X.Ok
 os:s.os=X.s₀.os
 bare:AllBare s.gens
 base:Un X.fs X.ex X.H₀ H X.s₀.heap s.heap
 loc:∃m,s.heap.Ns X.env.locals m/\∀(i:Nat) (x:Str) (v:V),X.N[i]?=some x->σ[i]?=some (some v)->Vis X.env.scope x->∃u,RelV v u/\Look X.env s.heap m x u
 cell:∀x c,X.env.cells.lookup x=some c->∃v,s.heap.IsCell c v
 free:H X.env.locals=none
 freeC:∀x c,X.env.cells.lookup x=some c->H c=none
 pin:∀p∈X.pn++pins,s.heap.get? p.1=some p.2/\H p.1=none/\p.1≠X.env.locals/\p.1∉X.fs/\∀v,p.2.data≠.cell v
 hok:HOk X.prog X.w H s.heap
 len:σ.length=X.N.length
section
variable {X:Cx}{pins:List (Addr×Obj)}{σ:List (Option V)}{H H':Hp}{s:Shared}{h':Heap}
variable {g':Array GenState}{t':Nat}{d':Drawn}{ch:List Addr}{M:Model}{Q:Unit->Shared->Prop}
theorem Cx.Ok.nofr (ok:X.Ok){b:Addr}{o:Obj}(e:X.base.get? b=some o):b∉X.fs:=fun hb=>by
 have:=(ok.funs.mem hb).1;rw [e] at this;cases this
theorem Inv.bs (I:Inv X pins σ H s):∀b o,X.base.get? b=some o->s.heap.get? b=some o/\H b=none:=fun b o e=>
 ⟨I.base.keep b o (I.ok.bs b o e).1 (I.ok.bs b o e).2 (I.ok.nofr e) (I.ok.noex b o e),I.base.free b o (I.ok.bs b o e).1 (I.ok.bs b o e).2 (I.ok.noex b o e)⟩
theorem Inv.bk (I:Inv X pins σ H s):∀b o,X.base.get? b=some o->s.heap.get? b=some o:=fun b o e=>(I.bs b o e).1
theorem Inv.mod (I:Inv X pins σ H s):Mod X.K X.mg X.base:=I.ok.mod
theorem Inv.nos (I:Inv X pins σ H s):NS H:=I.base.sys I.ok.nos
theorem Inv.bigS (I:Inv X pins σ H s):x1g < s.heap.objs.size:=Nat.lt_trans (by decide) (I.mod.glob.keeps I.bk).lt
theorem Inv.kIn (I:Inv X pins σ H s):X.K.In s.heap:=I.ok.mod.kin.keeps I.bk
theorem Inv.nolimit (I:Inv X pins σ H s):s.heap.NoLimit:=I.ok.mod.nolimit.keeps I.bk
theorem Inv.lt (I:Inv X pins σ H s):X.env.locals < s.heap.objs.size:=let ⟨_,hn,_⟩:=I.loc;hn.lt
theorem Inv.sz (I:Inv X pins σ H s):X.s₀.heap.objs.size<=s.heap.objs.size:=x0I I.ok.above (x4J I.lt)
theorem Inv.nofs (I:Inv X pins σ H s){a:Addr}(h:s.heap.objs.size<=a):a∉X.fs:=fun hb=>by
 obtain⟨_,o,ho,_⟩:=I.ok.funs.mem hb;exact absurd (x0x (x0n ho) (x0I I.sz h)) (x2C _)
theorem Inv.cne (I:Inv X pins σ H s):∀x c,X.env.cells.lookup x=some c->c≠X.env.locals:=fun x c e z=>by
 obtain⟨v,o,ho,hd⟩:=I.cell x c e;obtain⟨m,⟨o',es,ep,ho',hd',_⟩,_⟩:=I.loc;rw [z,ho'] at ho;cases ho;rw [hd'] at hd;cases hd
theorem Inv.funs (I:Inv X pins σ H s):s.heap.FunFrames X.base X.outer:=by
 have all:∀(l:List Env),(∀b∈frs l,b∈X.fs)->X.s₀.heap.FunFrames X.base l->s.heap.FunFrames X.base l:=by
   intro l
   induction l with
   | nil=>intro _ _;trivial
   | cons env r ih =>
     intro hs hl;obtain⟨hk,⟨L,o,hf,hn,ho,hd⟩,hr⟩:=hl;have hL:L∈X.fs:=hs L (by unfold frs;rw [x2D,hf];exact x0e);obtain⟨sl,e⟩:=I.base.slot L o ho (I.ok.frf L hL) hL fun z=>I.ok.exfs L z hL;exact⟨hk,⟨L,_,hf,hn,e,hd⟩,ih (fun b hb=>hs b (by unfold frs;rw [x2D,hf];exact x0d _ hb)) hr⟩
 exact all X.outer (fun _ hb=>hb) I.ok.funs
theorem Inv.stack (I:Inv X pins σ H s):s.heap.FunFrames X.base X.stack:=by
 rcases I.ok.stk with e | ⟨e,hf⟩
 · rw [e];exact I.funs
 · rw [e];obtain⟨m,hn,_⟩:=I.loc;refine .cons (by rw [I.ok.kind];decide) hf hn ?_ I.funs;exact Heap.get?_none_of_le (x0I I.ok.bsz I.ok.above)
theorem Inv.stkSub (I:Inv X pins σ H s):∀b∈frs X.stack,b∈X.env.locals::X.fs:=fun b hb=>by
 rcases I.ok.stk with e | ⟨e,hf⟩
 · rw [e] at hb;exact x0d _ hb
 · rw [e] at hb;unfold frs at hb;rw [x2D,hf] at hb;exact hb
theorem Inv.stkFree (I:Inv X pins σ H s):∀b∈frs X.stack,H b=none:=fun b hb=>by
 rcases x0i.mp (I.stkSub b hb) with e | hb
 · rw [e];exact I.free
 · obtain⟨_,o,ho,_⟩:=I.ok.funs.mem hb;exact I.base.free b o ho (I.ok.frf b hb) fun z=>I.ok.exfs b z hb
theorem Inv.step (I:Inv X pins σ H s)
   (hch:∀b∈ch,(b∈X.ex\/X.s₀.heap.objs.size<=b)/\b≠X.env.locals/\(∀x c,X.env.cells.lookup x=some c->c≠b)/\∀p∈X.pn++pins,p.1≠b)
   (keep:∀b o,b≠X.env.locals->b∉X.fs->b∉ch->s.heap.get? b=some o->H b=none->h'.get? b=some o)
   (slot:∀b o,b≠X.env.locals->b∈X.fs->b∉ch->s.heap.get? b=some o->H b=none->∃sl,h'.get? b=some { o with slots:=sl }) (free:∀b o,b∉ch->s.heap.get? b=some o->H b=none->H' b=none)
   (there:∀b o,b∉ch->s.heap.get? b=some o->∃o',h'.get? b=some o')
   (tups:∀b xs,H b=some (.tup xs)->H' b=some (.tup xs)) (frzs:∀b o u,H b=some (.frz o u)->H' b=some (.frz o u)) (tbls:∀b ps,H b=some (.tbl ps)->∃more,H' b=some (.tbl (ps++more))) (sys:NS H->NS H')
   (ns:∀m,s.heap.Ns X.env.locals m->h'.Ns X.env.locals m) (hok:HOk X.prog X.w H' h') (hg:AllBare g') :
   Inv X pins σ H' { s with heap:=h',gens:=g',drawn:=d',toks:=t' }:=by
 have neL:∀b o,X.s₀.heap.get? b=some o->b≠X.env.locals:=fun b o e=>x0r (x0x (x0n e) I.ok.above)
 have neC:∀b o,X.s₀.heap.get? b=some o->b∉X.ex->b∉ch:=fun b o e hx hb=>by
   rcases(hch b hb).1 with z | z
   · exact hx z
   · exact absurd (x0x (x0n e) z) (x2C _)
 have cellK:∀x c,X.env.cells.lookup x=some c->∀v,s.heap.IsCell c v->h'.IsCell c v:=fun x c e v ⟨o,ho,hd⟩=>by
   have nch:c∉ch:=fun z=>(hch c z).2.2.1 x c e rfl
   by_cases hc:c∈X.fs
   · obtain⟨sl,q⟩:=slot c o (I.cne x c e) hc nch ho (I.freeC x c e);exact⟨_,q,hd⟩
   · exact⟨o,keep c o (I.cne x c e) hc nch ho (I.freeC x c e),hd⟩
 refine⟨I.ok,I.os,hg,⟨fun b o e n hb hx=>?_,fun b o e n hb hx=>?_,fun b o e n hx=>?_,fun b o e hx=>?_,fun b xs e=>tups b xs (I.base.tups b xs e),fun b o xs e=>frzs b o xs (I.base.frzs b o xs e),fun b ps e=>?_,fun z=>sys (I.base.sys z)⟩,?_,fun x c e=>?_,?_,fun x c e=>?_,fun p hp=>?_,hok,I.len⟩
 · exact keep b o (neL b o e) hb (neC b o e hx) (I.base.keep b o e n hb hx) (I.base.free b o e n hx)
 · obtain⟨sl,e1⟩:=I.base.slot b o e n hb hx;obtain⟨sl',e2⟩:=slot b _ (neL b o e) hb (neC b o e hx) e1 (I.base.free b o e n hx);exact⟨sl',e2⟩
 · obtain⟨o',e1⟩:=I.base.there b o e hx;exact free b o' (neC b o e hx) e1 (I.base.free b o e n hx)
 · obtain⟨o',e1⟩:=I.base.there b o e hx;exact there b o' (neC b o e hx) e1
 · obtain⟨m1,e1⟩:=I.base.tbls b ps e;obtain⟨m2,e2⟩:=tbls b _ e1;exact⟨m1++m2,by rw [e2,Array.append_assoc]⟩
 · obtain⟨m,hn,hl⟩:=I.loc;refine⟨m,ns m hn,fun i x v e1 e2 e3=>?_⟩;obtain⟨u,r,l⟩:=hl i x v e1 e2 e3;refine⟨u,r,?_⟩;rcases l with l | ⟨k,c,e,z⟩
   · exact .inl l
   · exact .inr ⟨k,c,e,cellK x c e _ z⟩
 · obtain⟨v,z⟩:=I.cell x c e;exact⟨v,cellK x c e v z⟩
 · obtain⟨m,⟨o,_,_,ho,_⟩,_⟩:=I.loc;exact free _ o (fun z=>(hch _ z).2.1 rfl) ho I.free
 · obtain⟨v,o,ho,hd⟩:=I.cell x c e;exact free c o (fun z=>(hch c z).2.2.1 x c e rfl) ho (I.freeC x c e)
 · obtain⟨e,n,ne,nf,d⟩:=I.pin p hp;have nch:p.1∉ch:=fun z=>(hch p.1 z).2.2.2 p hp rfl;exact⟨keep p.1 p.2 ne nf nch e n,free p.1 p.2 nch e n,ne,nf,d⟩
theorem Inv.un (I:Inv X pins σ H s)(u:Un X.fs [] H H' s.heap h')(hok:HOk X.prog X.w H' h'):Inv X pins σ H' { s with heap:=h',toks:=t' }:=by
 obtain⟨m,⟨o,es,ep,ho,r⟩,_⟩:=id I.loc;obtain⟨sl,hL⟩:=u.any ho I.free (by simp)
 exact I.step (g':=s.gens) (d':=s.drawn) (ch:=[]) (fun _ z=>nomatch z) (fun b o _ hb _ e n=>u.keep b o e n hb (by simp)) (fun b o _ hb _ e n=>u.slot b o e n hb (by simp)) (fun b o _ e n=>u.free b o e n (by simp)) (fun b o _ e=>u.there b o e (by simp)) u.tups u.frzs u.tbls u.sys (fun m' hm=>by
   obtain⟨o',es',ep',ho',r'⟩:=hm;rw [ho] at ho';cases ho'
   exact⟨_,es',ep',hL,r'⟩) hok I.bare
theorem Inv.call (I:Inv X pins σ H s)(u:Un (frs X.stack) ch H H' s.heap h')(hok:HOk X.prog X.w H' h')(hg:AllBare g')
   (hch:∀b∈ch,(b∈X.ex\/X.s₀.heap.objs.size<=b)/\b≠X.env.locals/\(∀x c,X.env.cells.lookup x=some c->c≠b)/\∀p∈X.pn++pins,p.1≠b) :
   Inv X pins σ H' { s with heap:=h',gens:=g',drawn:=d',toks:=t' }:=by
 obtain⟨m,⟨o,es,ep,ho,r⟩,_⟩:=id I.loc;obtain⟨sl,hL⟩:=u.any ho I.free fun z=>(hch _ z).2.1 rfl
 exact I.step (ch:=ch) hch (fun b o hL hb hc e n=>u.keep b o e n (fun z=>(x0i.mp (I.stkSub b z)).elim hL hb) hc) (fun b o _ _ hc e n=>u.any e n hc) (fun b o hc e n=>u.free b o e n hc) (fun b o hc e=>u.there b o e hc) u.tups u.frzs u.tbls u.sys (fun m' hm=>by
   obtain⟨o',es',ep',ho',r'⟩:=hm;rw [ho] at ho';cases ho'
   exact⟨_,es',ep',hL,r'⟩) hok hg
theorem Inv.turned {it:Addr}(I:Inv X pins σ H s)(k:∀b o,b≠it->s.heap.get? b=some o->h'.get? b=some o)(hn:H it=none)(hL:it≠X.env.locals)
   (h1:it∈X.ex\/X.s₀.heap.objs.size<=it) (h2:∀x c,X.env.cells.lookup x=some c->c≠it) (h3:∀p∈X.pn++pins,p.1≠it):Inv X pins σ H { s with heap:=h',toks:=t' }:=by
 have nit:∀b u,H b=some u->b≠it:=fun b u e z=>by rw [z,hn] at e;cases e
 refine I.step (g':=s.gens) (d':=s.drawn) (ch:=[it]) (fun b hb=>?_) (fun b o _ _ hc e _=>k b o (fun z=>hc (by simp [z])) e) (fun b o _ _ hc e _=>⟨o.slots,k b o (fun z=>hc (by simp [z])) e⟩) (fun _ _ _ _ n=>n)
   (fun b o hc e=>⟨o,k b o (fun z=>hc (by simp [z])) e⟩) (fun _ _ e=>e) (fun _ _ _ e=>e) (fun b ps e=>⟨#[],by rw [e];simp⟩) (fun z=>z) (fun m hm=>?_) (fun b u e=>?_) I.bare
 · have e:b=it:=by simpa using hb
   subst e;exact⟨h1,hL,h2,h3⟩
 · obtain⟨o,es,ep,ho,r⟩:=hm;exact⟨o,es,ep,k _ o (Ne.symm hL) ho,r⟩
 · refine(I.hok b u e).stay (fun c v hc q=>k c v ?_ q) (fun _ q=>q) fun _ _ q=>q;rcases hc with z | z
   · rw [z];exact nit b u e
   · exact nit c _ z
theorem Inv.tok (I:Inv X pins σ H s)(t:Nat):Inv X pins σ H { s with toks:=t }:=I.un (h':=s.heap) (t':=t) Un.refl I.hok
theorem Inv.kept (I:Inv X pins σ H s)(k:∀b u,s.heap.get? b=some u->h'.get? b=some u):Inv X pins σ H { s with heap:=h',toks:=t' }:=I.un (Un.kept k) (I.hok.kept k)
theorem Inv.laid {a:Addr}{o:HO}(I:Inv X pins σ H s)(k:∀b u,s.heap.get? b=some u->h'.get? b=some u)(hp:s.heap.objs.size<=a)(new:a0U X.prog X.w (upd H a o) h' a o) :
   Inv X pins σ (upd H a o) { s with heap:=h',toks:=t' }:=I.un (Un.laid k hp (I.hok.fresh hp) I.bigS) (I.hok.laid k hp new)
theorem Inv.write {x e:Addr}{o:HO}(I:Inv X pins σ H s)(mu:Mut (H x))(he:e=x\/H e=some (.own x))(k:∀b u,b≠e->s.heap.get? b=some u->h'.get? b=some u)(heo:∃u,h'.get? e=some u)
   (new:a0U X.prog X.w (upd H x o) h' x o):Inv X pins σ (upd H x o) { s with heap:=h',toks:=t' }:=I.un (Un.write mu he k heo) (I.hok.write mu he k heo new)
theorem Inv.pins_of {pins':List (Addr×Obj)}(I:Inv X pins σ H s)(h:∀p∈pins',s.heap.get? p.1=some p.2/\H p.1=none/\p.1≠X.env.locals/\p.1∉X.fs/\∀v,p.2.data≠.cell v):Inv X pins' σ H s:=
 ⟨I.ok,I.os,I.bare,I.base,I.loc,I.cell,I.free,I.freeC,fun p hp=>(x0y.mp hp).elim (fun z=>I.pin p (x1t _ z)) (h p),I.hok,I.len⟩
theorem nodup_ix {N:List Str}(hN:N.Nodup){i j:Nat}{x:Str}(a:N[i]?=some x)(b:N[j]?=some x):i=j:=by
 obtain⟨h1,e1⟩:=x0l.mp a;obtain⟨h2,e2⟩:=x0l.mp b;exact(List.getElem_inj hN).mp (e1.trans e2.symm)
theorem a5L {A:Around}{E:Value->Shared->Prop}{i:Nat}{x:Str}{v:V}{u:Value}(I:Inv X pins σ H s)(hN:X.N.Nodup)(hi:X.N[i]?=some x)(hx:Loc X.env.scope x)(r:RelV v u)
   (h:∀s',Inv X pins (σ.set i (some v)) H s'->(∃a,x3r a s.heap s'.heap/\(a=X.env.locals\/X.env.cells.lookup x=some a))->Q () s') (hf:X.fn x=true\/X.env.scope.names.lookup x=some .local:=by first | exact .inl rfl | exact .inr rfl | assumption):wpAny M A (storeName X.env x u) Q E s:=by
 obtain⟨m,hn,hl⟩:=id I.loc;have hcls:(X.env.scope.kind == .class || (X.env.scope.kind == .module && X.env.locals != X.env.globals))=false:=by rw [I.ok.kind];rfl
 have hiσ:i < σ.length:=by rw [I.len];exact(x0l.mp hi).1
 have cne:=I.cne
 have tracked:∀{a:Addr} {h':Heap},(∃o,s.heap.get? a=some o/\H a=none)->x3r a s.heap h'->HOk X.prog X.w H h':=fun {a h'} ha hs b ob e=>by
   obtain⟨_,_,hfree⟩:=ha;refine(I.hok b ob e).stay (fun c w' hc q=>(hs.2 c ?_).trans q) (fun _ q=>q) fun _ _ q=>q;rintro rfl;rcases hc with rfl | hc
   · rw [hfree] at e;cases e
   · rw [hfree] at hc;cases hc
 rcases hx with hk | hk
 · refine wpAny_storeName_local hk hn (fun h' hn' hs=>?_) hcls;obtain⟨oL,_,_,hoL,_⟩:=id hn;refine h _ ⟨I.ok,I.os,I.bare,⟨fun b o e n hb hx=>?_,fun b o e n hb hx=>?_,I.base.free,fun b o e hx=>?_,I.base.tups,I.base.frzs,I.base.tbls,I.base.sys⟩,⟨_,hn',fun j y v' e1 e2 e3=>?_⟩,fun y c e=>?_,I.free,I.freeC,fun p hp=>?_,tracked ⟨oL,hoL,I.free⟩ hs,by simpa using I.len⟩ ⟨_,hs,.inl rfl⟩
   · exact(hs.2 b (x0r (x0x (x0n e) I.ok.above))).trans (I.base.keep b o e n hb hx)
   · obtain⟨sl,e1⟩:=I.base.slot b o e n hb hx;exact⟨sl,(hs.2 b (x0r (x0x (x0n e) I.ok.above))).trans e1⟩
   · obtain⟨o',e1⟩:=I.base.there b o e hx;exact⟨o',(hs.2 b (x0r (x0x (x0n e) I.ok.above))).trans e1⟩
   · by_cases hj:j=i
     · subst hj;rw [hi] at e1;cases e1;rw [x0t hiσ] at e2;cases e2;exact⟨u,r,.inl ⟨hk,by simp⟩⟩
     · rw [x0o (Ne.symm hj)] at e2;obtain⟨u',r',q⟩:=hl j y v' e1 e2 e3;refine⟨u',r',?_⟩;rcases q with⟨k,e⟩ | ⟨k,c,e,z⟩
       · refine .inl ⟨k,?_⟩;have:y≠x:=fun e=>hj (nodup_ix hN e1 (e▸hi));simp [this,e]
       · exact .inr ⟨k,c,e,z.sameBut hs (cne y c e)⟩
   · obtain⟨w',z⟩:=I.cell y c e;exact⟨w',z.sameBut hs (cne y c e)⟩
   · obtain⟨e,n,ne,nf,d⟩:=I.pin p hp;exact⟨(hs.2 p.1 ne).trans e,n,ne,nf,d⟩
 · have hfn:X.fn x=true:=by
     rcases hf with z | z
     · exact z
     · rw [z] at hk;cases hk
   obtain⟨c,hc⟩:=I.ok.has x (.inl hk);obtain⟨w',z⟩:=I.cell x c hc;refine wpAny_storeName_cell I.ok.kind hk hc z (fun h' hc' hs=>?_);obtain⟨oc,hoc,hocd⟩:=id z;refine h { s with heap:=h' } ⟨I.ok,I.os,I.bare,⟨fun b o e n hb hx=>?_,fun b o e n hb hx=>?_,I.base.free,fun b o e hx=>?_,I.base.tups,I.base.frzs,I.base.tbls,I.base.sys⟩,⟨m,hn.sameBut hs (Ne.symm (cne x c hc)),fun j y v' e1 e2 e3=>?_⟩,fun y c' e=>?_,I.free,I.freeC,fun p hp=>?_,tracked ⟨oc,hoc,I.freeC x c hc⟩ hs,by simpa using I.len⟩ ⟨c,hs,.inr hc⟩
   · exact(hs.2 b (x0r (x0x (x0n e) (I.ok.cab x c hfn hc)))).trans (I.base.keep b o e n hb hx)
   · obtain⟨sl,e1⟩:=I.base.slot b o e n hb hx;exact⟨sl,(hs.2 b (x0r (x0x (x0n e) (I.ok.cab x c hfn hc)))).trans e1⟩
   · obtain⟨o',e1⟩:=I.base.there b o e hx;exact⟨o',(hs.2 b (x0r (x0x (x0n e) (I.ok.cab x c hfn hc)))).trans e1⟩
   · by_cases hj:j=i
     · subst hj;rw [hi] at e1;cases e1;rw [x0t hiσ] at e2;cases e2;exact⟨u,r,.inr ⟨.inl hk,c,hc,hc'⟩⟩
     · rw [x0o (Ne.symm hj)] at e2;obtain⟨u',r',q⟩:=hl j y v' e1 e2 e3;refine⟨u',r',?_⟩;rcases q with q | ⟨k,c',e,z'⟩
       · exact .inl q
       · refine .inr ⟨k,c',e,z'.sameBut hs ?_⟩;rintro rfl;exact hj (nodup_ix hN e1 (I.ok.inj _ _ _ e hc▸hi))
   · by_cases hcc:c'=c
     · subst hcc;exact⟨_,hc'⟩
     · obtain⟨w2,z2⟩:=I.cell y c' e;exact⟨w2,z2.sameBut hs hcc⟩
   · obtain⟨e,n,ne,nf,d⟩:=I.pin p hp;refine⟨(hs.2 p.1 ?_).trans e,n,ne,nf,d⟩;intro q;rw [q,hoc] at e;have q':oc=p.2:=x0S e;exact d w' (by rw [<- q'];exact hocd)
theorem a3J {A:Around}{E:Value->Shared->Prop}{i:Nat}{x:Str}{v:V}{u:Value}(I:Inv X pins σ H s)(hN:X.N.Nodup)(hi:X.N[i]?=some x)(hx:Loc X.env.scope x)(r:RelV v u)
   (h:∀s',Inv X pins (σ.set i (some v)) H s'->Q () s') (hf:X.fn x=true\/X.env.scope.names.lookup x=some .local:=by first | exact .inl rfl | exact .inr rfl | assumption):wpAny M A (storeName X.env x u) Q E s:=
 a5L I hN hi hx r (fun s' I' _=>h s' I') hf
end
noncomputable abbrev XK:=Value->Option Addr->Hp->Prop
noncomputable abbrev St:=List (Option V)
noncomputable abbrev VK:=V->Hp->Prop
noncomputable abbrev TE:=St->Hp->VK->Prop
noncomputable abbrev TT:=St->Hp->(Bool->Hp->Prop)->Prop
noncomputable abbrev TA:=St->Hp->(List V->Hp->Prop)->Prop
structure Ends where
 nx:St->Hp->Prop
 rt:VK
 bk:St->Hp->Prop:=fun _ _=>False
 ct:St->Hp->Prop:=fun _ _=>False
noncomputable abbrev TS:=Ends->St->Hp->Prop
noncomputable def EP (X:Cx)(pins:List (Addr×Obj))(σ:St)(Q:VK)(u:Value)(s':Shared):Prop:=∃v H',Inv X pins σ H' s'/\RelV v u/\Q v H'
noncomputable def TP (X:Cx)(pins:List (Addr×Obj))(σ:St)(Q:Bool->Hp->Prop)(b:Bool)(s':Shared):Prop:=∃H',Inv X pins σ H' s'/\Q b H'
noncomputable def AP (X:Cx)(pins:List (Addr×Obj))(σ:St)(Q:List V->Hp->Prop)(us:List Value)(s':Shared):Prop:=∃vs H',Inv X pins σ H' s'/\Vals vs us/\Q vs H'
noncomputable def SP (X:Cx)(pins:List (Addr×Obj))(D:Ends)(f:Flow)(s':Shared):Prop:=
 match f with
 | .next=>∃σ' H',Inv X pins σ' H' s'/\D.nx σ' H'
 | .brk=>∃σ' H',Inv X pins σ' H' s'/\D.bk σ' H'
 | .cont=>∃σ' H',Inv X pins σ' H' s'/\D.ct σ' H'
 | .ret u=>∃v σ' H',Inv X pins σ' H' s'/\RelV v u/\D.rt v H'
noncomputable def PE (X:Cx)(e:Expr)(t:TE):Prop:=
 ∀(pins:List (Addr×Obj)) (s:Shared) (σ:St) (H:Hp) (Q:VK),Inv X pins σ H s->t σ H Q->wpAny (model X.prog X.w) X.A (eval e X.env) (EP X pins σ Q) X.xe s
noncomputable def PT (X:Cx)(e:Expr)(t:TT):Prop:=
 ∀(pins:List (Addr×Obj)) (s:Shared) (σ:St) (H:Hp) (Q:Bool->Hp->Prop),Inv X pins σ H s->t σ H Q->wpAny (model X.prog X.w) X.A (isTrue e X.env (eval e X.env)) (TP X pins σ Q) X.xe s
noncomputable def PW (X:Cx)(e:Expr)(t:TT):Prop:=
 ∀(whole:Sem Value) (pins:List (Addr×Obj)) (s:Shared) (σ:St) (H:Hp) (Q:Bool->Hp->Prop),Inv X pins σ H s->t σ H Q->wpAny (model X.prog X.w) X.A (isTrue e X.env whole) (TP X pins σ Q) X.xe s
theorem PW.pt {X:Cx}{e:Expr}{t:TT}(h:PW X e t):PT X e t:=h _
noncomputable def PA (X:Cx)(es:List Expr)(t:TA):Prop:=
 ∀(pos:Pos) (pins:List (Addr×Obj)) (s:Shared) (σ:St) (H:Hp) (Q:List V->Hp->Prop),Inv X pins σ H s->t σ H Q->wpAny (model X.prog X.w) X.A (spliced (backTo pos (x0Y es X.env))) (AP X pins σ Q) X.xe s
noncomputable def PS (X:Cx)(st:Stmt)(t:TS):Prop:=
 ∀(pins:List (Addr×Obj)) (s:Shared) (σ:St) (H:Hp) (D:Ends),Inv X pins σ H s->t D σ H->wpAny (model X.prog X.w) X.A (exec st X.env) (SP X pins D) X.xe s
noncomputable def PSs (X:Cx)(st:List Stmt)(t:TS):Prop:=
 ∀(pins:List (Addr×Obj)) (s:Shared) (σ:St) (H:Hp) (D:Ends),Inv X pins σ H s->t D σ H->wpAny (model X.prog X.w) X.A (execs st X.env) (SP X pins D) X.xe s
theorem thn {α:Type}{t:Sem α}{Q Q':α->Shared->Prop}{M:Model}{A:Around}{E:Value->Shared->Prop}{s:Shared}(h:wpAny M A t Q E s)(hQ:∀a s,Q a s->Q' a s):wpAny M A t Q' E s:=x0F h hQ fun _ _ x=>x
section
variable {X:Cx}
noncomputable def tVar (i:Nat):TE:=fun σ H Q=>∃v,σ[i]?=some (some v)/\Q v H
noncomputable def tC (v:V):TE:=fun _ H Q=>Q v H
theorem b4g {i:Nat}{x:Str}{pos:Pos}(hN:X.N[i]?=some x)(hv:Vis X.env.scope x)(hd:(x == ("__debug__":Str))=false:=by decide)(hcd:(x == ("__classdict__":Str))=false:=by decide):PE X (.Name x pos) (tVar i):=by
 intro pins s σ H Q I h;obtain⟨v,e,h⟩:=h;obtain⟨m,hn,hl⟩:=I.loc;obtain⟨u,r,l⟩:=hl i x v hN e hv;have fin:EP X pins σ Q u s:=⟨v,H,I,r,h⟩;rcases l with⟨hk,hm⟩ | ⟨hk,c,hc,hcell⟩
 · exact wpAny_Name (wpAny_loadName_local I.ok.kind hk hn hm fin) hd
 · rcases hk with hk | hk
   · exact wpAny_Name (wpAny_loadName_cell I.ok.kind hk hc hcell fin) hd
   · exact wpAny_Name (wpAny_loadName_free I.ok.kind hk hc hcell fin hcd) hd
theorem a0Q {i j pos}:PE X (.Constant (.int i) j pos) (tC (.int i)):=fun _ _ _ H _ I h=>wpAny_Constant_int ⟨.int i,H,I.tok _,⟨_,rfl⟩,h⟩
theorem pe_bl {b j pos}:PE X (.Constant (.bool b) j pos) (tC (.bl b)):=fun _ _ _ H _ I h=>Constant_bool ⟨.bl b,H,I,rfl,h⟩
theorem pe_non {j pos}:PE X (.Constant .none j pos) (tC .non):=fun _ _ _ H _ I h=>Constant_none ⟨.non,H,I,rfl,h⟩
theorem a0M {x j pos}:PE X (.Constant (.str x) j pos) (tC (.str x)):=fun _ _ _ H _ I h=>Calls.Constant_str ⟨.str x,H,I.tok _,⟨_,rfl⟩,h⟩
noncomputable def Gl (X:Cx)(x:Str):Prop:=X.env.kindOf x=some .globalImplicit
theorem b5J {E:Value->Shared->Prop}{pins:List (Addr×Obj)}{s:Shared}{σ:St}{H:Hp}{x:Str}{u:Value}{pos:Pos}{Q:Value->Shared->Prop}(I:Inv X pins σ H s)(hg:Gl X x)(hm:X.mg x=some u)(h:Q u s)
   (hd:(x == ("__debug__":Str))=false:=by decide):wpAny (model X.prog X.w) X.A (eval (.Name x pos) X.env) Q E s:=
 Calls.Name_function_global I.ok.kind hg (Calls.loadGlobal_global (by rw [I.ok.glob];exact I.mod.glob.keeps I.bk) hm h) hd
theorem a3z {E:Value->Shared->Prop}{pins:List (Addr×Obj)}{s:Shared}{σ:St}{H:Hp}{x:Str}{u:Value}{pos:Pos}{Q:Value->Shared->Prop}(I:Inv X pins σ H s)(hg:Gl X x)(hm:X.mg x=none)(hv:x1s x=some u)(h:Q u s)
   (hn:x≠"__name__":=by decide) (hd:(x == ("__debug__":Str))=false:=by decide):wpAny (model X.prog X.w) X.A (eval (.Name x pos) X.env) Q E s:=by
 obtain⟨mb,h1,h2⟩:=I.mod.blt;exact Calls.Name_function_global I.ok.kind hg (Calls.loadGlobal_builtin (by rw [I.ok.glob];exact I.mod.glob.keeps I.bk) hm (by rw [I.ok.blt];exact h1.keeps I.bk) ((h2 x hn).trans hv) h) hd
variable {a b:Expr}{ta tb:TE}{pos:Pos}
noncomputable def tB (t:TE):TT:=fun σ H Q=>t σ H fun x H1=>∃c,x=.bl c/\Q c H1
theorem pt_val {e:Expr}{t:TE}(h:PE X e t)(he:∀whole,isTrue e X.env whole=(do let v ← whole;standAt e.pos;x4N [v] (truthy v)):=by intro _;rfl):PT X e (tB t):=by
 intro pins s σ H Q I hw;refine isTrue_plain (thn (h pins s σ H _ I hw) fun v s1 ⟨x,H1,I1,r1,q1⟩=>?_) (he _);obtain⟨d,rfl,q⟩:=q1;cases r1;exact x2W ⟨H1,I1,q⟩
variable {tA tB':TT}{rest:List Expr}
noncomputable def tAnd (t u:TT):TT:=fun σ H Q=>t σ H fun c H1=>if c=true then u σ H1 Q else Q false H1
theorem b0j (ha:PT X a tA):PW X (.BoolOp .And [a] pos) tA:=by
 intro wh pins s σ H Q I h;refine isTrue_and (thn (ha pins s σ H Q I h) fun c s1 e=>?_);cases c with
 | true=>exact isTrue_and_nil e
 | false=>exact e
theorem b4d (ha:PT X a tA)(hb:PW X (.BoolOp .And (b::rest) pos) tB'):PW X (.BoolOp .And (a::b::rest) pos) (tAnd tA tB'):=by
 intro wh pins s σ H Q I h;refine isTrue_and (thn (ha pins s σ H _ I h) fun c s1 ⟨H1,I1,q1⟩=>?_);cases c with
 | true=>exact hb wh pins s1 σ H1 Q I1 q1
 | false=>exact⟨H1,I1,q1⟩
theorem pe_one {op}{t:TE}(h:PE X a t):PE X (.BoolOp op [a] pos) t:=fun pins s σ H Q I hw=>BoolOp_one (h pins s σ H Q I hw)
end
noncomputable def SqL (K:x0a)(H:Hp)(a:Addr)(xs:List V):Prop:=
 Rd H a (.lst xs)\/
   ∃(o:Obj) (its:Array Value) (n:Nat),K.lookup a=some o/\o.cls=.type "list"/\o.dict=none/\o.data=.seq its n/\its.size<=x0w/\Vals xs its.toList
noncomputable def SqT (K:x0a)(H:Hp)(a:Addr)(xs:List V):Prop:=
 Rd H a (.tup xs)\/
   ∃(o:Obj) (its:Array Value) (n:Nat),K.lookup a=some o/\o.cls=.type "tuple"/\o.data=.seq its n/\its.size<=x0w/\Vals xs its.toList
noncomputable def absV:Value->Option V
 | .none=>some .non
 | .bool b=>some (.bl b)
 | .int i _=>some (.int i)
 | .str x _=>some (.str x)
 | .bytes b _=>some (.byt b)
 | .float b _=>some (.flt b)
 | .ref a=>some (.ref a)
 | .type n=>some (.ty n)
 | _=>none
theorem RelV.abs {x:V}{u:Value}(r:RelV x u):absV u=some x:=by
 cases x with
 | non=>cases r;rfl
 | bl _=>cases r;rfl
 | int _=>obtain⟨t,rfl⟩:=r;rfl
 | str _=>obtain⟨t,rfl⟩:=r;rfl
 | byt _=>obtain⟨t,rfl⟩:=r;rfl
 | flt _=>obtain⟨t,rfl⟩:=r;rfl
 | ref _=>cases r;rfl
 | ty _=>cases r;rfl
theorem RelV.inj {x y:V}{u:Value}(r:RelV x u)(q:RelV y u):x=y:=x0S (r.abs.symm.trans q.abs)
theorem Vals.inj {xs ys:List V}{us:List Value}(h:Vals xs us)(h':Vals ys us):xs=ys:=by
 induction h generalizing ys with
 | nil=>cases h';rfl
 | cons r t ih=>cases h' with | cons r' t'=>rw [r.inj r',ih t']
section
variable {X:Cx}{pins:List (Addr×Obj)}{σ:St}{H:Hp}{s:Shared}{a:Addr}{xs ys:List V}
theorem SqL.of {K:x0a}(h:H a=some (.lst xs)):SqL K H a xs:=.inl (.inl h)
theorem SqT.of {K:x0a}(h:H a=some (.tup xs)):SqT K H a xs:=.inl (.inl h)
theorem Inv.list (I:Inv X pins σ H s)(h:SqL X.K H a xs):∃its:List Value,Vals xs its/\PlainL s.heap a its.toArray/\xs.length<=x0w:=by
 rcases h with h | ⟨o,its,n,hk,hc,hd,hs,hz,r⟩
 · obtain⟨z,its,n,r,e⟩:=h.ok I.hok;exact⟨its,r,⟨_,n,e,rfl,rfl,rfl⟩,z⟩
 · refine⟨its.toList,r,⟨o,n,I.kIn a o hk,hc,hd,by simpa using hs⟩,?_⟩;have e:=r.length;simp only [x1e] at e;omega
theorem Inv.tuple (I:Inv X pins σ H s)(h:SqT X.K H a xs):∃its:List Value,Vals xs its/\IsTup s.heap a its.toArray/\xs.length<=x0w:=by
 rcases h with h | ⟨o,its,n,hk,hc,hs,hz,r⟩
 · obtain⟨z,its,r,p⟩:=h.ok I.hok;exact⟨its,r,p.is,z⟩
 · refine⟨its.toList,r,⟨o,I.kIn a o hk,hc,n,by simpa using hs⟩,?_⟩;have e:=r.length;simp only [x1e] at e;omega
theorem Inv.list_inj (I:Inv X pins σ H s)(h:SqL X.K H a xs)(h':SqL X.K H a ys):xs=ys:=by
 obtain⟨its,r,⟨o,n,e,_,_,d⟩,_⟩:=I.list h;obtain⟨its',r',⟨o',n',e',_,_,d'⟩,_⟩:=I.list h';rw [e] at e';cases e';rw [d] at d';injection d' with d1 _;have:its=its':=by simpa using congrArg Array.toList d1
 subst this;exact r.inj r'
theorem Inv.tuple_inj (I:Inv X pins σ H s)(h:SqT X.K H a xs)(h':SqT X.K H a ys):xs=ys:=by
 obtain⟨its,r,⟨o,e,_,n,d⟩,_⟩:=I.tuple h;obtain⟨its',r',⟨o',e',_,n',d'⟩,_⟩:=I.tuple h';rw [e] at e';cases e';rw [d] at d';injection d' with d1 _;have:its=its':=by simpa using congrArg Array.toList d1
 subst this;exact r.inj r'
end
noncomputable abbrev Cx.wish (X:Cx)(E:Value->Shared->Prop):Cx:={ X with xe:=E }
noncomputable abbrev Cx.nox (X:Cx):Cx:=X.wish fun _ _=>False
theorem Cx.Ok.wish {X:Cx}(ok:X.Ok)(E:Value->Shared->Prop):(X.wish E).Ok:=
 ⟨ok.mod,ok.kind,ok.glob,ok.blt,ok.above,ok.inj,ok.has,ok.cab,ok.hd,ok.frames,ok.stk,ok.exf,ok.bs,ok.bsz,ok.noex,ok.exfs,ok.funs,ok.frf,ok.nos⟩
theorem Cx.Ok.unwish {X:Cx}{E:Value->Shared->Prop}(ok:(X.wish E).Ok):X.Ok:=
 ⟨ok.mod,ok.kind,ok.glob,ok.blt,ok.above,ok.inj,ok.has,ok.cab,ok.hd,ok.frames,ok.stk,ok.exf,ok.bs,ok.bsz,ok.noex,ok.exfs,ok.funs,ok.frf,ok.nos⟩
section
variable {X:Cx}{pins:List (Addr×Obj)}{σ:St}{H:Hp}{s:Shared}{E:Value->Shared->Prop}
theorem Inv.wish (I:Inv X pins σ H s)(E:Value->Shared->Prop):Inv (X.wish E) pins σ H s:=⟨I.ok.wish E,I.os,I.bare,I.base,I.loc,I.cell,I.free,I.freeC,I.pin,I.hok,I.len⟩
theorem Inv.unwish (I:Inv (X.wish E) pins σ H s):Inv X pins σ H s:=⟨I.ok.unwish,I.os,I.bare,I.base,I.loc,I.cell,I.free,I.freeC,I.pin,I.hok,I.len⟩
theorem SP.unwish {D:Ends}{f:Flow}{s':Shared}(h:SP (X.wish E) pins D f s'):SP X pins D f s':=by
 cases f with
 | next=>obtain⟨σ',H',I,q⟩:=h;exact⟨σ',H',I.unwish,q⟩
 | brk=>obtain⟨σ',H',I,q⟩:=h;exact⟨σ',H',I.unwish,q⟩
 | cont=>obtain⟨σ',H',I,q⟩:=h;exact⟨σ',H',I.unwish,q⟩
 | ret u=>obtain⟨v,σ',H',I,r,q⟩:=h;exact⟨v,σ',H',I.unwish,r,q⟩
theorem PSs.nox {st:List Stmt}{t:TS}(h:PSs X.nox st t):PSs X st t:=fun pins s σ H D I hw=>
 x0F (h pins s σ H D (I.wish _) hw) (fun _ _ q=>q.unwish) fun _ _ z=>x2X z
end
section
variable {X:Cx}{st:Stmt}{rest:List Stmt}{t u:TS}{e:Expr}{te:TE}{pos:Pos}
noncomputable def tNext:TS:=fun D σ H=>D.nx σ H
noncomputable def tSeq (t u:TS):TS:=fun D σ H=>t { D with nx:=u D } σ H
theorem a6Z:PSs X [] tNext:=fun _ _ σ H _ I h=>wpAny_execs_nil ⟨σ,H,I,h⟩
theorem a0J (h1:PS X st t)(h2:PSs X rest u):PSs X (st::rest) (tSeq t u):=by
 intro pins s σ H D I h;refine wpAny_execs_cons (thn (h1 pins s σ H { D with nx:=u D } I h) fun f s1 q=>?_);cases f with
 | next =>
   obtain⟨σ',H',I',q⟩:=q;exact h2 pins s1 σ' H' D I' q
 | ret v=>exact q
 | brk=>exact q
 | cont=>exact q
theorem a3f (h1:PS X st t):PSs X [st] t:=by
 intro pins s σ H D I h;refine wpAny_execs_cons (thn (h1 pins s σ H D I h) fun f s1 q=>?_);cases f with
 | next=>exact wpAny_execs_nil q
 | ret v=>exact q
 | brk=>exact q
 | cont=>exact q
theorem Inv.quiet {pins:List (Addr×Obj)}{σ:St}{H:Hp}{s:Shared}(I:Inv X pins σ H s):interactive X.env=false:=by simp [interactive,I.ok.kind]
noncomputable def a8z (te:TE):TS:=fun D σ H=>te σ H fun _ H1=>D.nx σ H1
theorem b5k (he:PE X e te)(hs:x4e e none pos.line X.env=pure false:=by rfl):PS X (.Expr e pos) (a8z te):=by
 intro pins s σ H D I h;exact wpAny_Expr_any (thn (he pins s σ H _ I h) fun v s1 ⟨x,H1,I1,r1,q1⟩=>⟨σ,H1,I1,q1⟩) I.quiet hs
noncomputable def tRet (te:TE):TS:=fun D σ H=>te σ H D.rt
theorem a6a (he:PE X e te):PS X (.Return (some e) pos) (tRet te):=by
 intro pins s σ H D I h;exact wpAny_Return_some (thn (he pins s σ H _ I h) fun v s1 ⟨x,H1,I1,r1,q1⟩=>⟨x,σ,H1,I1,r1,q1⟩)
noncomputable def tIfS (c:TT)(t u:TS):TS:=fun D σ H=>c σ H fun b H1=>if b=true then t D σ H1 else u D σ H1
theorem b2H {c:Expr}{a b:List Stmt}{tc:TT}(hc:PT X c tc)(ha:PSs X a t)(hb:PSs X b u):PS X (.If c a b pos) (tIfS tc t u):=by
 intro pins s σ H D I h;refine wpAny_If (thn (hc pins s σ H _ I h) fun d s1 ⟨H1,I1,q1⟩=>?_);cases d with
 | true=>exact ha pins s1 σ H1 D I1 q1
 | false=>exact hb pins s1 σ H1 D I1 q1
end
noncomputable abbrev TG:=V->St->Hp->(St->Hp->Prop)->Prop
noncomputable abbrev TGs:=List V->St->Hp->(St->Hp->Prop)->Prop
noncomputable def PG (X:Cx)(target:Expr)(t:TG):Prop:=
 ∀ (pins : List (Addr × Obj)) (s : Shared) (σ : St) (H : Hp) (v : V) (u : Value) (Q : St -> Hp -> Prop), Inv X pins σ H s -> RelV v u -> t v σ H Q ->
   wpAny (model X.prog X.w) X.A (assign target X.env u) (fun _ s'=>∃σ' H',Inv X pins σ' H' s'/\Q σ' H') X.xe s
noncomputable def PGs (X:Cx)(ts:List Expr)(t:TGs):Prop:=
 ∀ (pins : List (Addr × Obj)) (s : Shared) (σ : St) (H : Hp) (vs : List V) (us : List Value) (Q : St -> Hp -> Prop), Inv X pins σ H s -> Vals vs us -> t vs σ H Q ->
   wpAny (model X.prog X.w) X.A (assignInOrder ((x0G ts X.env).map (·.2)) us) (fun _ s'=>∃σ' H',Inv X pins σ' H' s'/\Q σ' H') X.xe s
noncomputable abbrev TSet:=V->V->V->Hp->(Hp->Prop)->Prop
noncomputable def PSet (X:Cx)(t:TSet):Prop:=
 ∀ (pins : List (Addr × Obj)) (s : Shared) (σ : St) (H : Hp) (o i v : V) (ov iv u : Value) (Q : Hp -> Prop), Inv X pins σ H s -> RelV o ov -> RelV i iv -> RelV v u -> t o i v H Q ->
   wpAny (model X.prog X.w) X.A (setItem ov iv u) (fun _ s'=>∃H',Inv X pins σ H' s'/\Q H') X.xe s
section
variable {X:Cx}{pos:Pos}
noncomputable def a1i (i:Nat):TG:=fun v σ H Q=>Q (σ.set i (some v)) H
theorem b5q {i:Nat}{x:Str}(hN:X.N.Nodup)(hi:X.N[i]?=some x)(hx:Loc X.env.scope x)(hf:X.fn x=true\/X.env.scope.names.lookup x=some .local:=by first | exact .inl rfl | exact .inr rfl | assumption):PG X (.Name x pos) (a1i i):=by
 intro pins s σ H v u Q I r h;exact wpAny_assign_Name (a3J I hN hi hx r (fun s' I'=>⟨_,H,I',h⟩) hf)
noncomputable def gNil:TGs:=fun vs σ H Q=>vs=[]/\Q σ H
noncomputable def a2X (t:TG)(u:TGs):TGs:=fun vs σ H Q=>∃v r,vs=v::r/\t v σ H fun σ' H'=>u r σ' H' Q
theorem a4h:PGs X [] gNil:=by
 intro pins s σ H vs us Q I r h;obtain⟨e,h⟩:=h;subst e;cases r;exact assignInOrder_nil ⟨σ,H,I,h⟩
theorem a1N {e:Expr}{es:List Expr}{t:TG}{u:TGs}(h1:PG X e t)(h2:PGs X es u)
   (hs:(x0G (e::es) X.env).map (·.2)=assign e X.env::(x0G es X.env).map (·.2):=by rfl):PGs X (e::es) (a2X t u):=by
 intro pins s σ H vs us Q I r h;obtain⟨v,vr,e1,h⟩:=h;subst e1;cases r with
 | cons r rr =>
   rw [hs];refine assignInOrder_cons (thn (h1 pins s σ H _ _ _ I r h) fun _ s1 ⟨σ1,H1,I1,q1⟩=>?_);exact h2 pins s1 σ1 H1 _ _ Q I1 rr q1
noncomputable def gTup (K:x0a)(n:Nat)(t:TGs):TG:=fun v σ H Q=>∃a xs,v=.ref a/\SqT K H a xs/\xs.length=n/\t xs σ H Q
theorem a6b {es:List Expr}{k:Nat}{t:TGs}{n:Nat}(hc:X.calm=true)(h:PGs X es t)
   (hn:(x0G es X.env).length=n:=by rfl) (hst:(x0G es X.env).findIdx? (·.1)=none:=by rfl):PG X (.Tuple es k pos) (gTup X.K n t):=by
 intro pins s σ H v u Q I r hw;obtain⟨a,xs,e1,hq,hl,hw⟩:=hw;subst e1;cases r;obtain⟨its,rv,ht,hz⟩:=I.tuple hq;refine assign_Tuple_tuple (I.ok.hd hc) ht (by simp [hn,<- hl,rv.length]) hst fun h' hx=>?_;have I1:Inv X pins σ H { s with heap:=h' }:=I.kept (t':=s.toks) fun b o e=>hx b o (x0r (x0n e)) e;exact h pins _ σ H xs _ Q I1 (by simpa using rv) hw
noncomputable def gSub (to ti:TE)(t:TSet):TG:=fun v σ H Q=>to σ H fun o H1=>ti σ H1 fun i H2=>t o i v H2 fun H3=>Q σ H3
theorem pg_sub {o i:Expr}{to ti:TE}{t:TSet}(ho:PE X o to)(hi:PE X i ti)(hs:PSet X t)
   (ha:∀v,assign (.Subscript o i pos) X.env v=(do
     let ov ← x4N [v] (eval o X.env)
     let iv ← x4N [v,ov] (eval i X.env)
     standAt pos
     x4N [v,ov,iv] (setItem ov iv v)
     release [v,ov,iv] []):=by intro _;rfl):PG X (.Subscript o i pos) (gSub to ti t):=by
 intro pins s σ H v u Q I r h;rw [ha];refine x0b (x0W (thn (ho pins s σ H _ I h) fun ov s1 ⟨x,H1,I1,r1,q1⟩=>?_));refine x0b (x0W (thn (hi pins s1 σ H1 _ I1 q1) fun iv s2 ⟨y,H2,I2,r2,q2⟩=>?_));refine x0b (x1G (x0b (x0W (thn (hs pins s2 σ H2 x y v ov iv u _ I2 r1 r2 r q2) fun _ s3 ⟨H3,I3,q3⟩=>?_))));exact wpAny_release ⟨σ,H3,I3,q3⟩
noncomputable def tAsg (te:TE)(g:TG):TS:=fun D σ H=>te σ H fun x H1=>g x σ H1 D.nx
theorem ps_asg {tg e:Expr}{te:TE}{g:TG}(he:PE X e te)(hg:PG X tg g)(hs:swapsWithSole [tg] e pos.line X.env=pure false:=by rfl)(hw:swappedStores [tg] e X.env=pure none:=by rfl)
   (h1:(x0G [tg] X.env).map (·.2)=[assign tg X.env]:=by rfl):PS X (.Assign [tg] e pos) (tAsg te g):=by
 intro pins s σ H D I h;refine wpAny_Assign_stores (thn (he pins s σ H _ I h) fun v s1 ⟨x,H1,I1,r1,q1⟩=>?_) hs hw;rw [h1];exact thn (hg pins s1 σ H1 x v _ I1 r1 q1) fun _ s2 q=>q
theorem b0k {i:Nat}{x:Str}{e:Expr}{te:TE}{pos':Pos}(hN:X.N.Nodup)(hi:X.N[i]?=some x)(hx:Loc X.env.scope x)(he:PE X e te)(hs:x4e e (some (.Name x pos')) pos.line X.env=pure false:=by rfl)(hf:X.fn x=true\/X.env.scope.names.lookup x=some .local:=by first | exact .inl rfl | exact .inr rfl | assumption) :
   PS X (.Assign [.Name x pos'] e pos) (tAsg te (a1i i)):=by
 intro pins s σ H D I h;refine wpAny_Assign_Name (thn (he pins s σ H _ I h) fun v s1 ⟨y,H1,I1,r1,q1⟩=>?_) hs;exact a3J I1 hN hi hx r1 (fun s2 I2=>⟨_,H1,I2,q1⟩) hf
noncomputable def tPar (i j:Nat)(ta:TA):TS:=fun D σ H=>ta σ H fun vs H1=>∃v w,vs=[v,w]/\D.nx ((σ.set i (some v)).set j (some w)) H1
theorem ps_par {i j:Nat}{x y:Str}{a b:Expr}{ta:TA}{px py pt:Pos}{kt k2 pt2}(hc:X.calm=true)(hN:X.N.Nodup)(hi:X.N[i]?=some x)(hj:X.N[j]?=some y)(hij:i≠j)
   (hx:X.env.scope.names.lookup x=some .local) (hy:X.env.scope.names.lookup y=some .local) (ha:PA X [a,b] ta)
   (hw:swappedStores [.Tuple [.Name x px,.Name y py] kt pt] (.Tuple [a,b] k2 pt2) X.env=pure (some [x,y]))
   (hs:swapsWithSole [.Tuple [.Name x px,.Name y py] kt pt] (.Tuple [a,b] k2 pt2) pos.line X.env=pure false:=by rfl) :
   PS X (.Assign [.Tuple [.Name x px,.Name y py] kt pt] (.Tuple [a,b] k2 pt2) pos) (tPar i j ta):=by
 intro pins s σ H D I h;rw [exec_Assign_arm];refine x0b (x1G ?_);rw [hs];refine x0b (x0h ?_);rw [if_neg (by decide)];refine x0b (Tuple_ (thn (ha _ pins s σ H _ I h) fun us s1 ⟨vs,H1,I1,r1,q1⟩=>?_));obtain⟨v,w,e1,q1⟩:=q1;subst e1
 obtain⟨u1,u2,rfl,rv,rw'⟩:∃u1 u2,us=[u1,u2]/\RelV v u1/\RelV w u2:=by
   cases r1 with
   | cons p q =>
     cases q with
     | cons p' q' =>
       cases q';exact⟨_,_,rfl,p,p'⟩
 refine x0T ?_ (by show 2<=x0w;decide);have I2:Inv X pins σ H1 { s1 with heap:=s1.heap.push { cls:=.type "tuple",data:=.seq [u1,u2].toArray } }:=I1.kept (t':=s1.toks) fun b o e=>x0c _ e;rw [hw];refine x0b (x0h ?_);show wpAny (model X.prog X.w) X.A (do rule "assign.swapped-stores";let items ← unpackItems (.ref s1.heap.objs.size) 2 none;assignInOrder [fun v=>bindName X.env y v,fun v=>bindName X.env x v] items.reverse;pure Flow.next) _ _ _;refine x0b (x2Y (x0b (unpackItems_tuple (items:=#[u1,u2]) (I.ok.hd hc) (IsTup.new s1.heap _) fun h' hx'=>?_)));have I3:=I2.kept (h':=h') (t':=s1.toks) fun b o e=>hx' b o (x0r (x0n e)) e;show wpAny _ _ (assignInOrder [fun v=>bindName X.env y v,fun v=>bindName X.env x v] [u2,u1]>>=fun _=>pure Flow.next) _ _ _;refine x0b (assignInOrder_cons (wpAny_bindName (a3J I3 hN hj (.inl hy) rw' (fun s2 I4=>?_) (.inr hy))));refine assignInOrder_cons (wpAny_bindName (a3J I4 hN hi (.inl hx) rv (fun s3 I5=>assignInOrder_nil (x0h ?_)) (.inr hx)));rw [List.set_comm _ _ (Ne.symm hij)] at I5;exact⟨_,H1,I5,q1⟩
end
structure It where
 go:Nat->Hp->Prop
 yld:Nat->Hp->V->Hp->Prop
 stop:Nat->Hp->Prop
noncomputable def FpOk (X:Cx)(pins:List (Addr×Obj))(H:Hp)(b:Addr):Prop:=
 H b=none/\b≠X.env.locals/\b∉X.fs/\(b∈X.ex\/X.s₀.heap.objs.size<=b)/\(∀x c,X.env.cells.lookup x=some c->c≠b)/\∀p∈X.pn++pins,p.1≠b
theorem Inv.fpOk {X:Cx}{pins:List (Addr×Obj)}{σ:St}{H H':Hp}{s:Shared}{b:Addr}(I:Inv X pins σ H s)(hb:s.heap.objs.size<=b)(hn:H' b=none):FpOk X pins H' b:=by
 refine⟨hn,x2w (x0x I.lt hb),I.nofs hb,.inr (x0I I.sz hb),fun x c e z=>?_,fun p hp z=>?_⟩
 · obtain⟨v,q⟩:=I.cell x c e;exact absurd (x0x q.lt (by rw [z];exact hb)) (x2C _)
 · exact absurd (x0x (x0n (I.pin p hp).1) (by rw [z];exact hb)) (x2C _)
structure Turn (P:x0D)(w:World)(K:x0a)(tg:Expr)(J:It)(fp:List Addr)(it:Addr)(tn:Nat->Heap->Prop):Prop where
 mem:it∈fp
 obj:∀i h,tn i h->∀b∈fp,∃o,h.get? b=some o/\∀v,o.data≠.cell v
 keep:∀i h h',tn i h->(∀b∈fp,∀o,h.get? b=some o->h'.get? b=some o)->tn i h'
 item:∀(X:Cx),X.prog=P->X.w=w->X.K=K->X.calm=true->∀(i:Nat) (pins:List (Addr×Obj)) (s:Shared) (σ:St) (H:Hp) (E:Value->Shared->Prop),Inv X pins σ H s->(∀b∈fp,FpOk X pins H b)->tn i s.heap->J.go i H->
   wpAny (model P w) X.A (pyNext (.ref it)) (fun r s1=>∃u,r=some u/\
     wpAny (model P w) X.A (x1P tg (.ref it) u) (fun _ s2=>∃x H',Inv X pins σ H' s2/\RelV x u/\J.yld i H x H'/\tn (i + 1) s2.heap/\∀b∈fp,H' b=none) E s1) E s
 done:∀(X:Cx),X.prog=P->X.w=w->X.K=K->X.calm=true->∀(i:Nat) (pins:List (Addr×Obj)) (s:Shared) (σ:St) (H:Hp) (E:Value->Shared->Prop),Inv X pins σ H s->(∀b∈fp,FpOk X pins H b)->tn i s.heap->J.stop i H->
   wpAny (model P w) X.A (pyNext (.ref it)) (fun r s1=>r=none/\Inv X pins σ H s1) E s
 self:∀(A:Around) (i:Nat) (s:Shared) (Q:Value->Shared->Prop) (E:Value->Shared->Prop),tn i s.heap->Q (.ref it) s->wpAny (model P w) A (pyIter (.ref it)) Q E s
noncomputable abbrev TI:=St->Hp->(It->Hp->Prop)->Prop
noncomputable def PIE (X:Cx)(pins:List (Addr×Obj))(σ:St)(tg:Expr)(R:It->Hp->Prop)(itv:Value)(s2:Shared):Prop:=
 ∃(it:Addr) (fp:List Addr) (tn:Nat->Heap->Prop) (J:It) (H':Hp),itv=.ref it/\Inv X pins σ H' s2/\Turn X.prog X.w X.K tg J fp it tn/\tn 0 s2.heap/\(∀b∈fp,FpOk X pins H' b)/\R J H'
noncomputable def PI (X:Cx)(tg iter:Expr)(wi:TI):Prop:=
 ∀ (pins : List (Addr × Obj)) (s : Shared) (σ : St) (H : Hp) (R : It -> Hp -> Prop), Inv X pins σ H s -> wi σ H R ->
   wpAny (model X.prog X.w) X.A (eval iter X.env) (fun v s1=>wpAny (model X.prog X.w) X.A (pyIter v) (PIE X pins σ tg R) X.xe s1) X.xe s
theorem b3u {M:Model}{A:Around}{E:Value->Shared->Prop}{s:Shared}{tg:Expr}{it:Addr}{u:Value}{o:Obj}{n:String}{vs:Array Value}{Q:Unit->Shared->Prop}(ho:s.heap.get? it=some o)(hc:o.cls=.type n)(hd:o.data=.fields vs)
   (hn:["enumerate","zip","dict_itemiterator","dict_reverseitemiterator","odict_iterator","itertools.zip_longest","itertools.pairwise"].contains n=false) (hQ:Q () s):wpAny M A (x1P tg (.ref it) u) Q E s:=by
 unfold x1P
 cases tg <;> first
   | exact x0h hQ
   | (cases u <;> first
       | exact x0h hQ
       | (refine x0b (wpAny_load ho ?_)
          rw [hc,hd];show wpAny M A (if(["enumerate","zip","dict_itemiterator","dict_reverseitemiterator","odict_iterator","itertools.zip_longest","itertools.pairwise"].contains n && vs[0]? == some (rawInt _))=true then _ else _) Q E s;rw [if_neg (by intro h;rw [hn,Bool.false_and] at h;cases h)]
          exact x0h hQ))
noncomputable def Itl (K:x0a)(a:Addr):It:=
 ⟨fun i H=>∃xs x,SqL K H a xs/\xs[i]?=some x,fun i H x H'=>H'=H/\∀xs,SqL K H a xs->xs[i]?=some x,fun i H=>∃xs,SqL K H a xs/\xs.length<=i⟩
noncomputable def Itt (K:x0a)(a:Addr):It:=
 ⟨fun i H=>∃xs x,SqT K H a xs/\xs[i]?=some x,fun i H x H'=>H'=H/\∀xs,SqT K H a xs->xs[i]?=some x,fun i H=>∃xs,SqT K H a xs/\xs.length<=i⟩
noncomputable def Itr (lo:Int)(n:Nat):It:=⟨fun i _=>i < n,fun i H x H'=>H'=H/\x=.int (lo + i),fun i _=>n<=i⟩
theorem a9D {P:x0D}{w:World}{K:x0a}{tg:Expr}(a it:Addr):Turn P w K tg (Itl K a) [it] it (fun i h=>h.IsListIter it a i) where
 mem:=by simp
 obj:=fun i h st b hb=>by
   have e:b=it:=by simpa using hb
   subst e;obtain⟨o,e,c,d⟩:=st;exact⟨o,e,fun v z=>by rw [d] at z;cases z⟩
 keep:=fun i h h' st k=>st.at fun o e=>k it (by simp) o e
 item:=by
   intro X hP hw hK hc i pins s σ H E I hf st hg;subst hP hw hK;obtain⟨xs,x,hq,hx⟩:=hg;obtain⟨its,rv,p,hz⟩:=I.list hq;obtain⟨u,hu,ru⟩:=rv.get hx;obtain⟨f0,f1,f2,f3,f4,f5⟩:=hf it (by simp);refine x3L st p.isList (x:=u) (by simpa using hu) fun h' st' sb=>?_;have I1:Inv X pins σ H { s with heap:=h' }:=I.turned (t':=s.toks) (fun b o hb e=>(sb.2 b hb).trans e) f0 f1 f3 f4 f5;obtain⟨o,e,c,d⟩:=id st';exact⟨u,rfl,b3u (s:={ s with heap:=h' }) e c d (by decide) ⟨x,H,I1,ru,⟨rfl,fun ys hy=>by rw [I.list_inj hy hq];exact hx⟩,st',fun b hb=>(hf b hb).1⟩⟩
 done:=by
   intro X hP hw hK hc i pins s σ H E I hf st hg;subst hP hw hK;obtain⟨xs,hq,hx⟩:=hg;obtain⟨its,rv,p,hz⟩:=I.list hq;obtain⟨f0,f1,f2,f3,f4,f5⟩:=hf it (by simp);have hl:=rv.length;exact x4f (I.ok.hd hc) st p.isList (by simp;omega) fun h' eb=>⟨rfl,I.turned (t':=s.toks) (fun b o hb e=>eb b o hb e) f0 f1 f3 f4 f5⟩
 self:=fun _ _ _ _ _ st h=>wpAny_pyIter_listiter st h
theorem a8w {P:x0D}{w:World}{K:x0a}{tg:Expr}(a it:Addr):Turn P w K tg (Itt K a) [it] it (fun i h=>h.IsTupleIter it a i) where
 mem:=by simp
 obj:=fun i h st b hb=>by
   have e:b=it:=by simpa using hb
   subst e;obtain⟨o,e,c,d⟩:=st;exact⟨o,e,fun v z=>by rw [d] at z;cases z⟩
 keep:=fun i h h' st k=>st.at fun o e=>k it (by simp) o e
 item:=by
   intro X hP hw hK hc i pins s σ H E I hf st hg;subst hP hw hK;obtain⟨xs,x,hq,hx⟩:=hg;obtain⟨its,rv,p,hz⟩:=I.tuple hq;obtain⟨u,hu,ru⟩:=rv.get hx;obtain⟨f0,f1,f2,f3,f4,f5⟩:=hf it (by simp);refine wpAny_pyNext_tuple_item st (show s.heap.IsTuple a its.toArray from p) (x:=u) (by simpa using hu) fun h' st' sb=>?_;have I1:Inv X pins σ H { s with heap:=h' }:=I.turned (t':=s.toks) (fun b o hb e=>(sb.2 b hb).trans e) f0 f1 f3 f4 f5;obtain⟨o,e,c,d⟩:=id st';exact⟨u,rfl,b3u (s:={ s with heap:=h' }) e c d (by decide) ⟨x,H,I1,ru,⟨rfl,fun ys hy=>by rw [I.tuple_inj hy hq];exact hx⟩,st',fun b hb=>(hf b hb).1⟩⟩
 done:=by
   intro X hP hw hK hc i pins s σ H E I hf st hg;subst hP hw hK;obtain⟨xs,hq,hx⟩:=hg;obtain⟨its,rv,p,hz⟩:=I.tuple hq;obtain⟨f0,f1,f2,f3,f4,f5⟩:=hf it (by simp);have hl:=rv.length;exact wpAny_pyNext_tuple_end (I.ok.hd hc) st (show s.heap.IsTuple a its.toArray from p) (by simp;omega) fun h' eb=>⟨rfl,I.turned (t':=s.toks) (fun b o hb e=>eb b o hb e) f0 f1 f3 f4 f5⟩
 self:=fun _ _ _ _ _ st h=>wpAny_pyIter_tupleiter st h
theorem a8y {P:x0D}{w:World}{K:x0a}{tg:Expr}(it:Addr)(lo:Int)(n:Nat):Turn P w K tg (Itr lo n) [it] it (fun i h=>IsRangeIter h it (lo + (i:Nat) * 1) ((n:Int) - (i:Nat)) 1) where
 mem:=by simp
 obj:=fun i h st b hb=>by
   have e:b=it:=by simpa using hb
   subst e
   exact⟨_,st,fun v z=>by
     have z':Data.fields _=Data.cell v:=z
     cases z'⟩
 keep:=fun i h h' st k=>k it (by simp) _ st
 item:=by
   intro X hP hw hK hc i pins s σ H E I hf st hg;subst hP hw hK;obtain⟨f0,f1,f2,f3,f4,f5⟩:=hf it (by simp);have W:=Walks.range (prog:=X.prog) (w:=X.w) (I.ok.hd hc) it lo 1 n;refine W.item i s _ _ hg st fun v h' tk hv st' kk=>?_;obtain⟨t,rfl⟩:=hv;have I1:Inv X pins σ H { s with heap:=h',toks:=tk }:=I.turned (fun b o hb e=>kk b o (by simpa using hb) e) f0 f1 f3 f4 f5;refine⟨_,rfl,b3u (s:={ s with heap:=h',toks:=tk }) (n:="range_iterator") st' rfl rfl (by decide) ⟨.int (lo + i),H,I1,⟨t,?_⟩,⟨rfl,rfl⟩,st',fun b hb=>(hf b hb).1⟩⟩;rw [Int.mul_one]
 done:=by
   intro X hP hw hK hc i pins s σ H E I hf st hg;subst hP hw hK;obtain⟨f0,f1,f2,f3,f4,f5⟩:=hf it (by simp);exact wpAny_pyNext_range_end (I.ok.hd hc) st (by have:n<=i:=hg;omega) fun h' eb=>⟨rfl,I.turned (t':=s.toks) (fun b o hb e=>eb b o hb e) f0 f1 f3 f4 f5⟩
 self:=fun _ _ _ _ _ st h=>x3M st h
section
variable {X:Cx}{tg:Expr}
noncomputable def iList (K:x0a)(tl:TE):TI:=fun σ H R=>tl σ H fun x H1=>∃a,x=.ref a/\(∃xs,SqL K H1 a xs)/\R (Itl K a) H1
noncomputable def iTup (K:x0a)(tl:TE):TI:=fun σ H R=>tl σ H fun x H1=>∃a,x=.ref a/\(∃xs,SqT K H1 a xs)/\R (Itt K a) H1
theorem b5o {l:Expr}{tl:TE}(hl:PE X l tl):PI X tg l (iList X.K tl):=by
 intro pins s σ H R I h;refine thn (hl pins s σ H _ I h) fun v s1 ⟨x,H1,I1,r1,q1⟩=>?_;obtain⟨a,e,⟨xs,hq⟩,q⟩:=q1;subst e;cases r1;obtain⟨its,rv,p,hz⟩:=I1.list hq;refine x2Z p.isList ?_;refine⟨s1.heap.objs.size,[s1.heap.objs.size],_,_,H1,rfl,I1.kept (t':=s1.toks) fun b o e=>x0c _ e,a9D a _,⟨_,x0s _ rfl,rfl,rfl⟩,fun b hb=>?_,q⟩;have e:b=s1.heap.objs.size:=by simpa using hb
 subst e;exact I1.fpOk (x0j _) (I1.hok.fresh (x0j _))
theorem pi_tup {l:Expr}{tl:TE}(hl:PE X l tl):PI X tg l (iTup X.K tl):=by
 intro pins s σ H R I h;refine thn (hl pins s σ H _ I h) fun v s1 ⟨x,H1,I1,r1,q1⟩=>?_;obtain⟨a,e,⟨xs,hq⟩,q⟩:=q1;subst e;cases r1;obtain⟨its,rv,p,hz⟩:=I1.tuple hq;refine wpAny_pyIter_tuple (show s1.heap.IsTuple a its.toArray from p) ?_;refine⟨s1.heap.objs.size,[s1.heap.objs.size],_,_,H1,rfl,I1.kept (t':=s1.toks) fun b o e=>x0c _ e,a8w a _,⟨_,x0s _ rfl,rfl,rfl⟩,fun b hb=>?_,q⟩;have e:b=s1.heap.objs.size:=by simpa using hb
 subst e;exact I1.fpOk (x0j _) (I1.hok.fresh (x0j _))
theorem b2r {pins:List (Addr×Obj)}{σ:St}{H:Hp}{s:Shared}{R:It->Hp->Prop}{E:Value->Shared->Prop}{lo hi:Int}{t u v:Tok}{tk:Nat}(I:Inv X pins σ H s)(h1:-(2 ^ 62)<=lo)(h2:lo < 2 ^ 62)(h3:-(2 ^ 62)<=hi)(h4:hi < 2 ^ 62)
   (q:R (Itr lo (hi - lo).toNat) H):wpAny (model X.prog X.w) X.A (pyIter (.ref s.heap.objs.size)) (PIE X pins σ tg R) E { s with heap:=s.heap.push { cls:=.type "range",data:=.fields #[.int lo t,.int hi u,.int 1 v] },toks:=tk }:=by
 refine wpAny_pyIter_range (IsRange.new ..) (small_one h1 h2 h3 h4) ?_;have I1:Inv X pins σ H { s with heap:=s.heap.push { cls:=.type "range",data:=.fields #[.int lo t,.int hi u,.int 1 v] },toks:=tk }:=I.kept fun b o e=>x0c _ e
 refine⟨(s.heap.push { cls:=.type "range",data:=.fields #[.int lo t,.int hi u,.int 1 v] }).objs.size,[(s.heap.push { cls:=.type "range",data:=.fields #[.int lo t,.int hi u,.int 1 v] }).objs.size],_,_,H,rfl,
   I1.kept (t':=tk) fun b o e=>x0c _ e,a8y _ lo (hi - lo).toNat,?_,fun b hb=>?_,q⟩
 · have e1:lo + ((0:Nat):Int) * 1=lo:=by simp
   have e2:(((hi - lo).toNat:Nat):Int) - ((0:Nat):Int)=x3u lo hi 1:=by rw [rangeSize_one];split <;> omega
   show IsRangeIter _ _ (lo + ((0:Nat):Int) * 1) ((((hi - lo).toNat:Nat):Int) - ((0:Nat):Int)) 1;rw [e1,e2];exact x0s _ rfl
 · have e:b=(s.heap.push { cls:=.type "range",data:=.fields #[.int lo t,.int hi u,.int 1 v] }).objs.size:=by simpa using hb
   subst e;exact I1.fpOk (x0j _) (I1.hok.fresh (x0j _))
noncomputable def iRng1 (ta:TA):TI:=fun σ H R=>ta σ H fun vs H1=>∃j:Int,vs=[.int j]/\-(2 ^ 62)<=j/\j < 2 ^ 62/\R (Itr 0 j.toNat) H1
theorem b0m {a:Expr}{ta:TA}{p pos:Pos}(hg:Gl X "range")(hm:X.mg "range"=none)(ha:PA X [a] ta)(hs:x0Y [a] X.env=[(false,eval a X.env)]:=by rfl):PI X tg (.Call (.Name "range" p) [a] [] pos) (iRng1 ta):=by
 intro pins s σ H R I h;refine Call_ (a3z I hg hm boot_range (x1w (thn (ha pos pins s σ H _ I h) fun us s1 ⟨vs,H1,I1,r1,q1⟩=>?_) hs rfl));obtain⟨j,e,q1,q2,q⟩:=q1;subst e;cases r1 with
 | cons r rr =>
   cases rr;obtain⟨t,rfl⟩:=r;exact call_range_1 (b2r I1 (by omega) (by omega) q1 q2 (by simpa using q))
noncomputable def tFor (wi:TI)(g:TG)(tb:TS):TS:=fun D σ H=>wi σ H fun J H1=>∃W:Nat->Nat->St->Hp->Prop,(∃m,W 0 m σ H1)/\∀i m σ H,W i m σ H->
 (J.stop i H/\D.nx σ H)\/(J.go i H/\∃N:St->Hp->Prop,(∀σ' H',N σ' H'->∃m',m' < m/\W (i + 1) m' σ' H')/\∀x H',J.yld i H x H'->g x σ H' fun σ2 H2=>tb { D with nx:=N,ct:=N,bk:=D.nx } σ2 H2)
noncomputable def a4g (fp:List Addr)(h:Heap):List (Addr×Obj):=fp.filterMap fun b=>(h.get? b).map fun o=>(b,o)
theorem a1H {fp:List Addr}{h:Heap}{b:Addr}{o:Obj}(hb:b∈fp)(e:h.get? b=some o):(b,o)∈a4g fp h:=List.mem_filterMap.mpr ⟨b,hb,by rw [e];rfl⟩
theorem b0x {fp:List Addr}{h:Heap}{p:Addr×Obj}(hp:p∈a4g fp h):p.1∈fp/\h.get? p.1=some p.2:=by
 obtain⟨b,hb,e⟩:=List.mem_filterMap.mp hp;cases q:h.get? b with
 | none=>rw [q] at e;cases e
 | some o =>
   rw [q] at e;have e':(b,o)=p:=x0S e;subst e';exact⟨hb,q⟩
theorem Inv.pinned {pins:List (Addr×Obj)}{σ:St}{H:Hp}{s:Shared}{fp:List Addr}(I:Inv X pins σ H s)(hf:∀b∈fp,FpOk X pins H b)(ho:∀b∈fp,∃o,s.heap.get? b=some o/\∀v,o.data≠.cell v):Inv X (pins++a4g fp s.heap) σ H s:=
 I.pins_of fun p hp=>(x0y.mp hp).elim (fun z=>I.pin p (x0u _ z)) fun z=>by
   obtain⟨hb,e⟩:=b0x z;obtain⟨f0,f1,f2,_⟩:=hf p.1 hb;obtain⟨o,e',d⟩:=ho p.1 hb;rw [e] at e';cases e';exact⟨e,f0,f1,f2,d⟩
theorem Inv.unpinned {pins pl:List (Addr×Obj)}{σ:St}{H:Hp}{s:Shared}(I:Inv X (pins++pl) σ H s):Inv X pins σ H s:=I.pins_of fun p hp=>I.pin p (x0u _ (x1t _ hp))
theorem b4e {iter:Expr}{body:List Stmt}{wi:TI}{g:TG}{tb:TS}{pos:Pos}(hp:PassesOwn (model X.prog X.w) X.A X.env X.xe)(hc:X.calm=true)(hi:PI X tg iter wi)(hg:PG X tg g)(hb:PSs X body tb)
   (hs:∀x,x0U iter X.env x=pure x:=by intro _;rfl):PS X (.For tg iter body [] pos) (tFor wi g tb):=by
 intro pins s σ H D I h;refine wpAny_For (thn (hi pins s σ H _ I h) fun v s1 h1=>thn h1 fun itv s2 h2=>?_) hs;obtain⟨it,fp,tn,J,H2,e,I2,T,st2,f2,W,⟨m0,w0⟩,turn⟩:=h2;subst e
 -- what stays true of the iterator's objects through the loop
 have stat:∀{H':Hp},(∀b∈fp,H' b=none)->∀b∈fp,FpOk X pins H' b:=fun hn b hb=>⟨hn b hb,(f2 b hb).2⟩;refine codeAny_forLoop_any (fun n s'=>∃i σ' H',Inv X pins σ' H' s'/\tn i s'.heap/\(∀b∈fp,H' b=none)/\W i n σ' H') ?_ m0 ⟨0,σ,H2,I2,st2,fun b hb=>(f2 b hb).1,w0⟩;rintro n s3 ⟨i,σ3,H3,I3,st3,fr3,w3⟩;rcases turn i n σ3 H3 w3 with⟨stop,qn⟩ | ⟨go,N,hN,step⟩
 · refine x3v hp (thn (T.done X rfl rfl rfl hc i pins s3 σ3 H3 X.xe I3 (stat fr3) st3 stop) fun r s4 ⟨hr,I4⟩=>?_);subst hr;exact wpAny_execs_nil ⟨σ3,H3,I4,qn⟩
 · refine x3v hp (thn (T.item X rfl rfl rfl hc i pins s3 σ3 H3 X.xe I3 (stat fr3) st3 go) fun r s4 ⟨u,hr,h4⟩=>?_);subst hr;refine x3v hp (thn h4 fun _ s5 ⟨x,H5,I5,r5,y5,st5,fr5⟩=>?_);have I5':=I5.pinned (stat fr5) (T.obj _ _ st5);refine x3v hp (thn (hg _ s5 σ3 H5 x u _ I5' r5 (step x H5 y5)) fun _ s6 ⟨σ6,H6,I6,q6⟩=>?_);refine x3v hp (thn (hb _ s6 σ6 H6 _ I6 q6) fun f s7 q7=>?_)
   have again:∀{σ7:St} {H7:Hp},Inv X (pins++a4g fp s5.heap) σ7 H7 s7->N σ7 H7->∃m,m < n/\∃i σ' H',Inv X pins σ' H' s7/\tn i s7.heap/\(∀b∈fp,H' b=none)/\W i m σ' H':=fun {σ7 H7} I7 n7=>by
     obtain⟨m',hm,w7⟩:=hN σ7 H7 n7;refine⟨m',hm,i + 1,σ7,H7,I7.unpinned,T.keep _ _ _ st5 fun b hb o e=>(I7.pin (b,o) (x0u _ (x0u _ (a1H hb e)))).1,fun b hb=>?_,w7⟩;obtain⟨o,e,d⟩:=T.obj _ _ st5 b hb;exact(I7.pin (b,o) (x0u _ (x0u _ (a1H hb e)))).2.1
   cases f with
   | next=>obtain⟨σ7,H7,I7,n7⟩:=q7;exact again I7 n7
   | cont=>obtain⟨σ7,H7,I7,n7⟩:=q7;exact again I7 n7
   | brk=>obtain⟨σ7,H7,I7,q7⟩:=q7;exact⟨σ7,H7,I7.unpinned,q7⟩
   | ret v=>obtain⟨x7,σ7,H7,I7,r7,q7⟩:=q7;exact⟨x7,σ7,H7,I7.unpinned,r7,q7⟩
end
noncomputable abbrev R2:=V->V->Hp->VK->Prop
noncomputable def OpR (X:Cx)(f:Value->Value->Sem Value)(r:R2):Prop:=
 ∀ (pins : List (Addr × Obj)) (s : Shared) (σ : St) (H : Hp) (x y : V) (v u : Value) (Q : VK), Inv X pins σ H s -> RelV x v -> RelV y u -> r x y H Q ->
   wpAny (model X.prog X.w) X.A (f v u) (EP X pins σ Q) X.xe s
noncomputable def UnR (X:Cx)(f:Value->Sem Value)(r:V->Hp->VK->Prop):Prop:=
 ∀ (pins : List (Addr × Obj)) (s : Shared) (σ : St) (H : Hp) (x : V) (v : Value) (Q : VK), Inv X pins σ H s -> RelV x v -> r x H Q ->
   wpAny (model X.prog X.w) X.A (f v) (EP X pins σ Q) X.xe s
noncomputable def a1W (X:Cx)(f:Value)(r:List V->Hp->VK->Prop):Prop:=
 ∀ (pins : List (Addr × Obj)) (s : Shared) (σ : St) (H : Hp) (xs : List V) (us : List Value) (Q : VK), Inv X pins σ H s -> Vals xs us -> r xs H Q ->
   wpAny (model X.prog X.w) X.A (call f us) (EP X pins σ Q) X.xe s
noncomputable def TruR (X:Cx)(r:V->Hp->(Bool->Hp->Prop)->Prop):Prop:=
 ∀ (pins : List (Addr × Obj)) (s : Shared) (σ : St) (H : Hp) (x : V) (v : Value) (Q : Bool -> Hp -> Prop), Inv X pins σ H s -> RelV x v -> r x H Q ->
   wpAny (model X.prog X.w) X.A (truthy v) (TP X pins σ Q) X.xe s
noncomputable def tOp (r:R2)(ta tb:TE):TE:=fun σ H Q=>ta σ H fun x H1=>tb σ H1 fun y H2=>r x y H2 Q
noncomputable def tUn (r:V->Hp->VK->Prop)(ta:TE):TE:=fun σ H Q=>ta σ H fun x H1=>r x H1 Q
noncomputable def rI (C:Int->Int->Prop)(g:Int->Int->V):R2:=fun x y H Q=>∃i j,x=.int i/\y=.int j/\C i j/\Q (g i j) H
noncomputable def rI0 (g:Int->Int->V):R2:=fun x y H Q=>∃i j,x=.int i/\y=.int j/\Q (g i j) H
noncomputable def rU (g:Int->V):V->Hp->VK->Prop:=fun x H Q=>∃i,x=.int i/\Q (g i) H
section
variable {X:Cx}{a b c:Expr}{ta tb tc:TE}{pos:Pos}
theorem binT (ha:PE X a ta)(hb:PE X b tb){pins:List (Addr×Obj)}{s:Shared}{σ:St}{H:Hp}{R:V->V->Hp->Prop}(I:Inv X pins σ H s)
   (h:ta σ H fun x H1=>tb σ H1 fun y H2=>R x y H2) {Q:Value->Shared->Prop} {f:Value->Value->Sem Value}
   (hf:∀v u s2 x y H2,Inv X pins σ H2 s2->RelV x v->RelV y u->R x y H2->wpAny (model X.prog X.w) X.A (f v u) Q X.xe s2) :
   wpAny (model X.prog X.w) X.A (eval a X.env) (fun v s₁=>wpAny (model X.prog X.w) X.A (eval b X.env) (fun u s₂=>wpAny (model X.prog X.w) X.A (f v u) Q X.xe s₂) X.xe s₁) X.xe s:=by
 refine thn (ha pins s σ H _ I h) fun v s1 ⟨x,H1,I1,r1,q1⟩=>?_;refine thn (hb pins s1 σ H1 _ I1 q1) fun u s2 ⟨y,H2,I2,r2,q2⟩=>?_;exact hf v u s2 x y H2 I2 r1 r2 q2
theorem a1w {op:Operator}{r:R2}(ho:OpR X (x3a op) r)(ha:PE X a ta)(hb:PE X b tb):PE X (.BinOp a op b pos) (tOp r ta tb):=by
 intro pins s σ H Q I h;exact wpAny_BinOp (binT ha hb I h fun v u s2 x y H2 I2 rx ry q=>ho pins s2 σ H2 x y v u Q I2 rx ry q)
theorem pe_un {op:UnaryOp}{r:V->Hp->VK->Prop}(ho:UnR X (unaryOp op) r)(ha:PE X a ta):PE X (.UnaryOp op a pos) (tUn r ta):=by
 intro pins s σ H Q I h;exact UnaryOp_ (thn (ha pins s σ H _ I h) fun v s1 ⟨x,H1,I1,r1,q1⟩=>ho pins s1 σ H1 x v Q I1 r1 q1)
theorem opI {f:Value->Value->Sem Value}{C:Int->Int->Prop}{g:Int->Int->Int}
   (rule:∀(i j:Int) (t u:Tok) (s:Shared) (Q:Value->Shared->Prop) (E:Value->Shared->Prop),C i j->Q (.int (g i j) s.toks) { s with toks:=s.toks + 1 }->wpAny (model X.prog X.w) X.A (f (.int i t) (.int j u)) Q E s) :
   OpR X f (rI C fun i j=>.int (g i j)):=by
 intro pins s σ H x y v u Q I rx ry h;obtain⟨i,j,rfl,rfl,hc,q⟩:=h;obtain⟨t,rfl⟩:=rx;obtain⟨t',rfl⟩:=ry;exact rule i j t t' s _ _ hc ⟨.int (g i j),H,I.tok _,⟨_,rfl⟩,q⟩
theorem opI0 {f:Value->Value->Sem Value}{g:Int->Int->Int}
   (rule:∀(i j:Int) (t u:Tok) (s:Shared) (Q:Value->Shared->Prop) (E:Value->Shared->Prop),Q (.int (g i j) s.toks) { s with toks:=s.toks + 1 }->wpAny (model X.prog X.w) X.A (f (.int i t) (.int j u)) Q E s) :
   OpR X f (rI0 fun i j=>.int (g i j)):=by
 intro pins s σ H x y v u Q I rx ry h;obtain⟨i,j,rfl,rfl,q⟩:=h;obtain⟨t,rfl⟩:=rx;obtain⟨t',rfl⟩:=ry;exact rule i j t t' s _ _ ⟨.int (g i j),H,I.tok _,⟨_,rfl⟩,q⟩
theorem opB0 {f:Value->Value->Sem Value}{g:Int->Int->Bool}
   (rule:∀(i j:Int) (t u:Tok) (s:Shared) (Q:Value->Shared->Prop) (E:Value->Shared->Prop),Q (.bool (g i j)) s->wpAny (model X.prog X.w) X.A (f (.int i t) (.int j u)) Q E s) :
   OpR X f (rI0 fun i j=>.bl (g i j)):=by
 intro pins s σ H x y v u Q I rx ry h;obtain⟨i,j,rfl,rfl,q⟩:=h;obtain⟨t,rfl⟩:=rx;obtain⟨t',rfl⟩:=ry;exact rule i j t t' s _ _ ⟨.bl (g i j),H,I,rfl,q⟩
noncomputable def CDiv (i j:Int):Prop:=0 < j/\j < 1073741824
noncomputable def CPow (i j:Int):Prop:=0<=j/\j<=1000000/\i.natAbs < 2 ^ 64
noncomputable def CMul (i j:Int):Prop:=(-(2 ^ 64) < i/\i < 2 ^ 64)\/(-(2 ^ 64) < j/\j < 2 ^ 64)
theorem CMul.ok {i j:Int}(h:CMul i j):IntMulOk i j:=by
 rcases h with⟨h1,h2⟩ | ⟨h1,h2⟩
 · exact .of_left (intBits_le_64 h1 h2)
 · exact .of_right (intBits_le_64 h1 h2)
theorem a4R:OpR X (x3a .Add) (rI0 fun i j=>.int (i + j)):=opI0 fun _ _ _ _ _ _ _ q=>add_int q
theorem op_sub:OpR X (x3a .Sub) (rI0 fun i j=>.int (i - j)):=opI0 fun _ _ _ _ _ _ _ q=>sub_int q
theorem a6e:OpR X (x3a .Mult) (rI CMul fun i j=>.int (i * j)):=opI fun _ _ _ _ _ _ _ hc q=>mul_int q hc.ok
theorem a7j:OpR X (x3a .FloorDiv) (rI CDiv fun i j=>.int (i / j)):=opI fun i j _ _ _ _ _ hc q=>by
 have h1:(0:Int) < j:=hc.1;have h2:j < 1073741824:=hc.2;exact floordiv_int (by omega) (by rw [Int.fdiv_eq_ediv_of_nonneg i (by omega)];exact q) (.inl (PyProof.noPylong_small (by omega)))
theorem a4k:OpR X (x3a .Mod) (rI (fun _ j=>0 < j) fun i j=>.int (i % j)):=opI fun i j _ _ _ _ _ hc q=>by
 have h1:(0:Int) < j:=hc;exact mod_int' (by omega) (by rw [Int.fmod_eq_emod_of_nonneg i (by omega)];exact q)
theorem b4h:OpR X (x3a .Pow) (rI CPow fun i j=>.int (i ^ j.toNat)):=opI fun _ _ _ _ _ _ _ hc q=>pow_int_small hc.1 hc.2.1 hc.2.2 q
theorem unI {f:Value->Sem Value}{g:Int->Int}
   (rule:∀(i:Int) (t:Tok) (s:Shared) (Q:Value->Shared->Prop) (E:Value->Shared->Prop),Q (.int (g i) s.toks) { s with toks:=s.toks + 1 }->wpAny (model X.prog X.w) X.A (f (.int i t)) Q E s) :
   UnR X f (rU fun i=>.int (g i)):=by
 intro pins s σ H x v Q I rx h;obtain⟨i,rfl,q⟩:=h;obtain⟨t,rfl⟩:=rx;exact rule i t s _ _ ⟨.int (g i),H,I.tok _,⟨_,rfl⟩,q⟩
theorem b3K:UnR X (unaryOp .USub) (rU fun i=>.int (-i)):=unI fun _ _ _ _ _ q=>neg_int q
end
noncomputable def scal:V->V->Bool
 | .non,.non=>true | .non,.int _=>true | .int _,.non=>true | .non,.bl _=>true | .bl _,.non=>true | .non,.str _=>true | .str _,.non=>true
 | .int _,.int _=>true | .bl _,.bl _=>true | .str _,.str _=>true | .byt _,.byt _=>true
 | .int _,.str _=>true | .str _,.int _=>true | .bl _,.str _=>true | .str _,.bl _=>true
 | _,_=>false
noncomputable def rEq:R2:=fun x y H Q=>scal x y=true/\Q (.bl (decide (x=y))) H
theorem b6f {i j:Int}:decide (V.int i=V.int j)=(i == j):=by
 rw [x2p];simp
theorem dec_bl {i j:Bool}:decide (V.bl i=V.bl j)=(i == j):=by
 rw [x2p];simp
theorem b6e {i j:Str}:decide (V.str i=V.str j)=(i == j):=by
 rw [x2p];simp
theorem b6g {i j:Array UInt8}:decide (V.byt i=V.byt j)=(i.toList == j.toList):=by
 rw [x2p];cases i;cases j;simp
section
variable {X:Cx}{a b c:Expr}{ta tb tc:TE}{pos:Pos}
variable {r':R2}{op:CmpOp}{us:List Value}
theorem a1e {pins:List (Addr×Obj)}{σ:St}{H:Hp}{s:Shared}{Q:VK}{k k':Bool}(I:Inv X pins σ H s)(q:Q (.bl k) H)(e:k=k'):EP X pins σ Q (.bool k') s:=by
 subst e;exact⟨.bl k,H,I,rfl,q⟩
theorem op_eq:OpR X (x1H .Eq) rEq:=by
 intro pins s σ H x y v u Q I rx ry h;obtain⟨hs,q⟩:=h;cases x with
 | non =>
   cases rx;cases y with
   | non=>cases ry;exact PySem.EqNone.eq_none_none (a1e I q (by simp))
   | bl j=>cases ry;exact PySem.EqNone.eq_none_bool (a1e I q (by simp))
   | int j=>obtain⟨t',rfl⟩:=ry;exact PySem.EqNone.eq_none_int (a1e I q (by simp))
   | str j=>obtain⟨t',rfl⟩:=ry;exact PySem.EqNone.eq_none_str (a1e I q (by simp))
   | _=>exact absurd (show false=true from hs) x0E
 | bl i =>
   cases rx;cases y with
   | non=>cases ry;exact PySem.EqNone.eq_bool_none (a1e I q (by simp))
   | bl j=>cases ry;exact eq_bool (a1e I q dec_bl)
   | str j=>obtain⟨t',rfl⟩:=ry;exact PySem.EqMixed.eq_bool_str (a1e I q (by simp))
   | _=>exact absurd (show false=true from hs) x0E
 | int i =>
   obtain⟨t,rfl⟩:=rx;cases y with
   | non=>cases ry;exact PySem.EqNone.eq_int_none (a1e I q (by simp))
   | int j=>obtain⟨t',rfl⟩:=ry;exact eq_int (a1e I q b6f)
   | str j=>obtain⟨t',rfl⟩:=ry;exact PySem.EqMixed.eq_int_str (a1e I q (by simp))
   | _=>exact absurd (show false=true from hs) x0E
 | str i =>
   obtain⟨t,rfl⟩:=rx;cases y with
   | non=>cases ry;exact PySem.EqNone.eq_str_none (a1e I q (by simp))
   | bl j=>cases ry;exact PySem.EqMixed.eq_str_bool (a1e I q (by simp))
   | int j=>obtain⟨t',rfl⟩:=ry;exact PySem.EqMixed.eq_str_int (a1e I q (by simp))
   | str j=>obtain⟨t',rfl⟩:=ry;exact eq_str (a1e I q b6e)
   | _=>exact absurd (show false=true from hs) x0E
 | byt i =>
   obtain⟨t,rfl⟩:=rx;cases y with
   | byt j=>obtain⟨t',rfl⟩:=ry;exact PySem.W.eq_bytes (a1e I q b6g)
   | _=>exact absurd (show false=true from hs) x0E
 | _=>cases y <;> exact absurd (show false=true from hs) x0E
theorem op_lt:OpR X (x1H .Lt) (rI0 fun i j=>.bl (decide (i < j))):=opB0 fun _ _ _ _ _ _ _ q=>lt_int q
theorem op_le:OpR X (x1H .LtE) (rI0 fun i j=>.bl (decide (i<=j))):=opB0 fun _ _ _ _ _ _ _ q=>le_int q
theorem op_gt:OpR X (x1H .Gt) (rI0 fun i j=>.bl (decide (j < i))):=opB0 fun _ _ _ _ _ _ _ q=>gt_int q
theorem op_ge:OpR X (x1H .GtE) (rI0 fun i j=>.bl (decide (j<=i))):=opB0 fun _ _ _ _ _ _ _ q=>ge_int q
theorem b0s:OpR X (x1H .Lt) (fun x y H Q=>∃i j,x=.str i/\y=.str j/\Q (.bl (decide (i.cps.toList < j.cps.toList))) H):=by
 intro pins s σ H x y v u Q I rx ry h;obtain⟨i,j,rfl,rfl,q⟩:=h;obtain⟨t,rfl⟩:=rx;obtain⟨t',rfl⟩:=ry;exact lt_str (a1e I q rfl)
theorem b0u:OpR X (x1H .In) (fun x y H Q=>∃i j,x=.str i/\y=.str j/\Q (.bl (!(x1I j i 0 j.length 1).isEmpty)) H):=by
 intro pins s σ H x y v u Q I rx ry h;obtain⟨i,j,rfl,rfl,q⟩:=h;obtain⟨t,rfl⟩:=rx;obtain⟨t',rfl⟩:=ry;exact in_str (a1e I q rfl)
theorem b5v:OpR X (x1H .IsNot) (fun x y H Q=>y=.non/\Q (.bl (!decide (x=.non))) H):=by
 intro pins s σ H x y v u Q I rx ry h;obtain⟨rfl,q⟩:=h;cases ry;refine isnot_none_gen (a1e I q ?_)
 cases x <;> first
   | (cases rx;rfl)
   | (obtain⟨t,rfl⟩:=rx;rfl)
theorem OpR.or {f:Value->Value->Sem Value}{r:R2}(h:OpR X f r)(h':OpR X f r'):OpR X f (fun x y H Q=>r x y H Q\/r' x y H Q):=by
 intro pins s σ H x y v u Q I rx ry q;rcases q with q | q
 · exact h pins s σ H x y v u Q I rx ry q
 · exact h' pins s σ H x y v u Q I rx ry q
theorem a0N (b:Expr)(h:op≠.In:=by decide)(h2:op≠.NotIn:=by decide):x3w op b=false:=by
 have e1:(op == CmpOp.In)=false:=by cases op <;> first | rfl | exact absurd rfl h
 have e2:(op == CmpOp.NotIn)=false:=by cases op <;> first | rfl | exact absurd rfl h2
 cases b <;> simp [x3w,e1,e2]
theorem b0o {r:R2}(ho:OpR X (x1H op) r)(ha:PE X a ta)(hb:PE X b tb)(hm:x3w op b=false):PE X (.Compare a [op] [b] pos) (tOp r ta tb):=by
 intro pins s σ H Q I h;exact wpAny_Compare1 (binT ha hb I h fun v u s2 x y H2 I2 rx ry q=>ho pins s2 σ H2 x y v u Q I2 rx ry q) hm
noncomputable def b4L (t:TE):TT:=fun σ H Q=>t σ H fun x H'=>∃k,x=.bl k/\Q k H'
theorem a5l {r:R2}(ho:OpR X (x1H op) r)(ha:PE X a ta)(hb:PE X b tb)(hm:x3w op b=false):PT X (.Compare a [op] [b] pos) (b4L (tOp r ta tb)):=by
 intro pins s σ H Q I h
 refine wpAny_isTrue_Compare1 (thn (ha pins s σ H _ I h) fun v s1 ⟨x,H1,I1,r1,q1⟩=>thn (hb pins s1 σ H1 _ I1 q1) fun u s2 ⟨y,H2,I2,r2,q2⟩=>
   thn (ho pins s2 σ H2 x y v u _ I2 r1 r2 q2) fun c s3 ⟨z,H3,I3,r3,k,e,q3⟩=>?_) hm
 subst e;cases r3;exact x2W ⟨H3,I3,q3⟩
noncomputable def b3O (r r':R2)(ta tb tc:TE):TE:=fun σ H Q=>ta σ H fun x H1=>tb σ H1 fun y H2=>r x y H2 fun z H3=>∃k,z=.bl k/\
 (if k=true then tc σ H3 fun w' H4=>r' y w' H4 Q else Q (.bl false) H3)
theorem b2G {op':CmpOp}{r:R2}(ho:OpR X (x1H op) r)(ho':OpR X (x1H op') r')(ha:PE X a ta)(hb:PE X b tb)(hc:PE X c tc)
   (hm:lastMarks [op,op'] [b,c]=false:=by with_unfolding_all rfl):PT X (.Compare a [op,op'] [b,c] pos) (b4L (b3O r r' ta tb tc)):=by
 intro pins s σ H Q I h
 refine isTrue_chain (thn (ha pins s σ H _ I h) fun v s1 ⟨x,H1,I1,r1,q1⟩=>test_link (thn (hb pins s1 σ H1 _ I1 q1) fun u s2 ⟨y,H2,I2,r2,q2⟩=>
   thn (ho pins s2 σ H2 x y v u _ I2 r1 r2 q2) fun d s3 ⟨z,H3,I3,r3,k,e,q3⟩=>?_)) hm
 subst e;cases r3;refine x2W ?_;cases k with
 | false =>
   obtain⟨k',e',q'⟩:=q3;cases e';exact ite_ff ⟨H3,I3,q'⟩
 | true =>
   refine ite_tt (test_last (thn (hc pins s3 σ H3 _ I3 q3) fun w' s4 ⟨z',H4,I4,r4,q4⟩=>thn (ho' pins s4 σ H4 y z' u w' _ I4 r2 r4 q4) fun d' s5 ⟨z2,H5,I5,r5,k2,e2,q5⟩=>?_));subst e2;cases r5;exact x2W ⟨H5,I5,q5⟩
noncomputable def TruV (K:x0a)(x:V)(H:Hp)(k:Bool):Prop:=
 match x with
 | .non=>k=false
 | .bl b=>k=b
 | .int i=>k=(i != 0)
 | .str y=>y.length<=x0w/\k=((y.length:Int) != 0)
 | .byt y=>y.size<=x0w/\k=((y.size:Int) != 0)
 | .ref p=>(∃xs,SqL K H p xs/\k=!xs.isEmpty)\/(∃xs,SqT K H p xs/\k=!xs.isEmpty)\/∃kvs,H p=some (.dK kvs)/\k=!kvs.isEmpty
 | _=>False
theorem a9i {κ:Type}{kvs:List (κ×V)}{vs:List (κ×Value)}(r:KV kvs vs):(!vs.isEmpty)=!kvs.isEmpty:=by
 cases r <;> rfl
theorem a4V {xs:List V}{its:List Value}(r:Vals xs its):(!its.toArray.isEmpty)=!xs.isEmpty:=by
 cases r <;> simp
theorem a4q:(x0w:Nat) < 2 ^ 63:=by rw [x1k];decide
theorem tru_ok:TruR X (fun x H Q=>∃k,TruV X.K x H k/\Q k H):=by
 intro pins s σ H x v Q I rx h;obtain⟨k,e,q⟩:=h;have hl:=a4q;have hs:x0w=16777216:=x1k;cases x with
 | non =>
   cases rx;have e':k=false:=e;subst e';exact truthy_none ⟨H,I,q⟩
 | bl b =>
   cases rx;have e':k=b:=e;subst e';exact x2W ⟨H,I,q⟩
 | int i =>
   obtain⟨t,rfl⟩:=rx;have e':k=(i != 0):=e;subst e';exact PySem.P.truthy_int ⟨H,I,q⟩
 | str y =>
   obtain⟨t,rfl⟩:=rx;obtain⟨hy,e'⟩:y.length<=x0w/\k=((y.length:Int) != 0):=e;subst e';exact PySem.P.truthy_str (by omega) ⟨H,I.tok _,q⟩
 | byt y =>
   obtain⟨t,rfl⟩:=rx;obtain⟨hy,e'⟩:y.size<=x0w/\k=((y.size:Int) != 0):=e;subst e';exact PySem.W.truthy_bytes (by omega) ⟨H,I.tok _,q⟩
 | ref p =>
   cases rx;have e':(∃xs,SqL X.K H p xs/\k=!xs.isEmpty)\/(∃xs,SqT X.K H p xs/\k=!xs.isEmpty)\/∃kvs,H p=some (.dK kvs)/\k=!kvs.isEmpty:=e;rcases e' with⟨xs,hx,e'⟩ | ⟨xs,hx,e'⟩ | ⟨kvs,hx,e'⟩
   · subst e';obtain⟨its,r,pl,hz⟩:=I.list hx;have hlen:=r.length;exact wpAny_truthy_list pl.isList (by simp only [x0p];omega) ⟨H,I.tok _,by rw [a4V r];exact q⟩
   · subst e';obtain⟨its,r,pl,hz⟩:=I.tuple hx;have hlen:=r.length;exact truthy_tuple pl (by simp only [x0p];omega) ⟨H,I.tok _,by rw [a4V r];exact q⟩
   · subst e';obtain⟨hz,hS,vs,r,m⟩:kvs.length<=x0w/\(p == x1g)=false/\∃vs,KV kvs vs/\s.heap.DictOf (a0p X.prog X.w) p vs:=I.hok p _ hx;have hlen:kvs.length=vs.length:=x3t r;exact wpAny_truthy_dict hS m (by omega) ⟨H,I.tok _,by rw [a9i r];exact q⟩
 | _=>exact(show False from e).elim
theorem a8T:OpR X (x3a .Add) (fun x y H Q=>∃i j,x=.str i/\y=.str j/\i.length + j.length<=x0w/\Q (.str (i++j)) H):=by
 intro pins s σ H x y v u Q I rx ry h;obtain⟨i,j,rfl,rfl,hz,q⟩:=h;obtain⟨t,rfl⟩:=rx;obtain⟨t',rfl⟩:=ry;exact add_str (fun t' tk=>⟨.str (i++j),H,I.tok _,⟨_,rfl⟩,q⟩) hz
theorem a6K {x:V}(r:Vals [x] us):∃u,us=[u]/\RelV x u:=by
 cases r with
 | cons r1 r2=>cases r2;exact⟨_,rfl,r1⟩
theorem vals2 {x y:V}(r:Vals [x,y] us):∃u w',us=[u,w']/\RelV x u/\RelV y w':=by
 cases r with
 | cons r1 r2 =>
   cases r2 with
   | cons r3 r4=>cases r4;exact⟨_,_,rfl,r1,r3⟩
theorem b1K (hc:X.calm=true):a1W X (.builtin "min") (fun xs H Q=>∃i j,xs=[.int i,.int j]/\Q (.int (if j < i then j else i)) H):=by
 intro pins s σ H xs us Q I r h;obtain⟨i,j,rfl,q⟩:=h;obtain⟨u,w',rfl,⟨t,rfl⟩,⟨t',rfl⟩⟩:=vals2 r;refine min_two_ints (I.ok.hd hc) fun h' tk k=>⟨_,H,I.kept k,?_,q⟩
 by_cases hj:j < i
 · rw [if_pos hj,if_pos hj];exact⟨_,rfl⟩
 · rw [if_neg hj,if_neg hj];exact⟨_,rfl⟩
theorem a6A:a1W X (.type "int") (fun xs H Q=>(∃i,xs=[.int i]/\Q (.int i) H)\/∃k,xs=[.bl k]/\Q (.int (if k then 1 else 0)) H):=by
 intro pins s σ H xs us Q I r h;rcases h with⟨i,rfl,q⟩ | ⟨k,rfl,q⟩
 · obtain⟨u,rfl,t,rfl⟩:=a6K r;exact call_int_int ⟨.int i,H,I,⟨_,rfl⟩,q⟩
 · obtain⟨u,rfl,r1⟩:=a6K r;cases r1;exact call_int_bool ⟨.int (if k then 1 else 0),H,I.tok _,⟨_,rfl⟩,q⟩
end
theorem RelO.some_of {v:V}{o:Option Value}(r:RelO (some v) o):∃u,o=some u/\RelV v u:=by
 cases o with
 | none=>exact(show False from r).elim
 | some u=>exact⟨u,rfl,r⟩
structure Room (k:Nat)(A:Around):Prop where
 hd:A.handled=none
 dp:A.depth + 3 * k + 5 < recursionLimit
 un:A.units + 16 * k + 200 < cLine
 gd:A.guards=some []
theorem Room.mono {j k:Nat}{A:Around}(r:Room k A)(h:j<=k):Room j A:=⟨r.hd,by have:=r.dp;omega,by have:=r.un;omega,r.gd⟩
theorem Room.deeper {k:Nat}{A:Around}(r:Room (k + 1) A)(env:Env):Room k (A.deeper env):=
 ⟨r.hd,by have:=r.dp;show A.depth + 1 + 3 * k + 5 < _;omega,by have:=r.un;show A.units + 3 + 16 * k + 200 < _;omega,r.gd⟩
theorem Room.in1 {k:Nat}{A:Around}(r:Room (k + 1) A):Room k A.in1:=
 ⟨r.hd,by have:=r.dp;show A.depth + 3 * k + 5 < _;omega,by have:=r.un;show A.units + 1 + 16 * k + 200 < _;omega,r.gd⟩
theorem Room.depth {k:Nat}{A:Around}(r:Room k A):A.depth < recursionLimit:=by have:=r.dp;omega
theorem Room.units {k:Nat}{A:Around}(r:Room k A):A.units + 64 < cLine:=by have:=r.un;omega
noncomputable def tNil:TA:=fun _ H Q=>Q [] H
noncomputable def a2M (ta:TE)(tr:TA):TA:=fun σ H Q=>ta σ H fun x H1=>tr σ H1 fun xs H2=>Q (x::xs) H2
section
variable {X:Cx}{e:Expr}{es:List Expr}{te:TE}{t:TA}{pos:Pos}
theorem a0C:PA X [] tNil:=fun _ _ _ _ H Q I h=>x3S ⟨[],H,I,.nil,h⟩
theorem a0n (ha:PE X e te)(hr:PA X es t)(hs:x0Y (e::es) X.env=(false,eval e X.env)::x0Y es X.env:=by rfl):PA X (e::es) (a2M te t):=by
 intro pos pins s σ H Q I h;rw [hs];show wpAny _ _ (spliced ((false,eval e X.env)::backTo pos (x0Y es X.env))) _ _ s;refine x2N (thn (ha pins s σ H _ I h) fun u s1 ⟨x,H1,I1,r1,q1⟩=>?_);exact thn (hr pos pins s1 σ H1 _ I1 q1) fun us s2 ⟨xs,H2,I2,r2,q2⟩=>⟨x::xs,H2,I2,.cons r1 r2,q2⟩
noncomputable def tTup (t:TA):TE:=fun σ H Q=>t σ H fun xs H1=>xs.length<=x0w/\∀p,H1 p=none->Q (.ref p) (upd H1 p (.tup xs))
noncomputable def tLst (t:TA):TE:=fun σ H Q=>t σ H fun xs H1=>xs.length<=x0w/\∀p,H1 p=none->Q (.ref p) (upd H1 p (.lst xs))
theorem a4Q {x1}(h:PA X es t):PE X (.Tuple es x1 pos) (tTup t):=by
 intro pins s σ H Q I hq;refine wpAny_Tuple_spliced (thn (h pos pins s σ H _ I hq) fun us s1 ⟨xs,H1,I1,r,z,q⟩=>⟨by rw [<- r.length];exact z,?_⟩);have hf:H1 s1.heap.objs.size=none:=I1.hok.fresh (x0j _);refine⟨.ref s1.heap.objs.size,upd H1 s1.heap.objs.size (.tup xs),I1.laid (t':=s1.toks) (fun b u e=>x0c _ e) (x0j _) ?_,rfl,q _ hf⟩;exact⟨z,us,r,⟨_,x0s _ rfl,rfl,_,rfl⟩⟩
theorem pe_lst (h:PA X es t):PE X (.List es pos) (tLst t):=by
 intro pins s σ H Q I hq;refine wpAny_List_spliced (thn (h pos pins s σ H _ I hq) fun us s1 ⟨xs,H1,I1,r,z,q⟩=>⟨by rw [<- r.length];exact z,?_⟩);have hf:H1 s1.heap.objs.size=none:=I1.hok.fresh (x0j _);refine⟨.ref s1.heap.objs.size,upd H1 s1.heap.objs.size (.lst xs),I1.laid (t':=s1.toks) (fun b u e=>x0c _ e) (x0j _) ?_,rfl,q _ hf⟩;exact⟨z,us,0,r,x0s _ rfl⟩
end
noncomputable abbrev Sp:=List V->Hp->VK->XK->Prop
noncomputable abbrev CXT:=List Env->Hp->Shared->XK->Value->Shared->Prop
structure Env0 (P:x0D)(w:World)(K:x0a)(mg:Str->Option Value)(base:Heap)(A:Around)(outer:List Env)(s:Shared)(H:Hp):Prop where
 frames:A.frames=some outer
 mod:Mod K mg base
 bs:∀b o,base.get? b=some o->s.heap.get? b=some o/\H b=none
 bsz:base.objs.size<=s.heap.objs.size
 funs:s.heap.FunFrames base outer
 frf:∀b∈frs outer,H b=none
 hok:HOk P w H s.heap
 bare:AllBare s.gens
 nos:NS H
noncomputable def CE (outer:List Env)(P:x0D)(w:World)(H:Hp)(s:Shared)(Q:VK)(u:Value)(s':Shared):Prop:=
 ∃v H',s'.os=s.os/\AllBare s'.gens/\Un (frs outer) [] H H' s.heap s'.heap/\HOk P w H' s'.heap/\RelV v u/\Q v H'
noncomputable def CR (CX:CXT)(outer:List Env)(P:x0D)(w:World)(H:Hp)(s:Shared)(Q:VK)(E:XK)(r:Result)(s':Shared):Prop:=
 match r with
 | .ok (.ret u)=>CE outer P w H s Q u s'
 | .ok _=>False
 | .error e=>CX outer H s E e s'
structure FnOk (P:x0D)(w:World)(K:x0a)(mg:Str->Option Value)(base:Heap)(CX:CXT)(k:Nat)(f:Addr)(fd:x3Z)(ps:List Str)(sp:Sp):Prop where
 len:∀vs H Q E,sp vs H Q E->vs.length=ps.length
 run:∀(A:Around) (outer:List Env) (s:Shared) (H:Hp) (args:Args) (us:List Value) (vs:List V) (Q:VK) (E:XK),Room k A->Env0 P w K mg base A outer s H->BindsTo s fd args (ps.zip us)->Vals vs us->sp vs H Q E->
   x2q (model P w) A (.call (.ref f) args) (CR CX outer P w H s Q E) s
theorem FnOk.imp {P:x0D}{w:World}{K:x0a}{mg:Str->Option Value}{base:Heap}{CX:CXT}{k:Nat}{f:Addr}{fd:x3Z}{ps:List Str}{sp sp':Sp}(F:FnOk P w K mg base CX k f fd ps sp)
   (h:∀vs H Q E,sp' vs H Q E->sp vs H Q E):FnOk P w K mg base CX k f fd ps sp':=
 ⟨fun vs H Q E q=>F.len vs H Q E (h _ _ _ _ q),fun A outer s H args us vs Q E hr he hb hv hs=>F.run A outer s H args us vs Q E hr he hb hv (h _ _ _ _ hs)⟩
section
variable {X:Cx}{pins:List (Addr×Obj)}{σ:St}{H:Hp}{s s':Shared}
theorem Inv.env0 (I:Inv X pins σ H s):Env0 X.prog X.w X.K X.mg X.base X.A X.stack s H:=
 ⟨I.ok.frames,I.ok.mod,I.bs,x0I I.ok.bsz I.sz,I.stack,I.stkFree,I.hok,I.bare,I.nos⟩
theorem Inv.after {Q:VK}{u:Value}(I:Inv X pins σ H s)(h:CE X.stack X.prog X.w H s Q u s'):EP X pins σ Q u s':=by
 obtain⟨v,H',os,bare,un,hok,r,q⟩:=h;obtain⟨hh,g,d,t,os'⟩:=s';obtain rfl:os'=s.os:=os;exact⟨v,H',I.call (h':=hh) (g':=g) (d':=d) (t':=t) (ch:=[]) un hok bare (fun b z=>absurd z (by simp)),r,q⟩
end
noncomputable def tCall (sp:Sp)(dvs:List V)(E:XK)(t:TA):TE:=fun σ H Q=>t σ H fun vs H1=>sp (vs++dvs) H1 Q E
noncomputable def a9y (K:x0a)(fd:x3Z)(ps:List Str)(ds:List Value):Prop:=
 ∀(s:Shared) (us:List Value),K.In s.heap->(us++ds).length=ps.length->BindsTo s fd ⟨us,[]⟩ (ps.zip (us++ds))
theorem a9y.all {K:x0a}{fd:x3Z}{ps:List Str}(h:∀us:List Value,us.length=ps.length->x4t fd ⟨us,[]⟩=pure (ps.zip us)):a9y K fd ps []:=fun s us _ hl=>by
 rw [x1f] at hl ⊢;exact .of_eq (h us hl)
noncomputable def b1X (CX:CXT)(X:Cx)(E:XK):Prop:=∀(pins:List (Addr×Obj)) (σ:St) (H:Hp) (s:Shared) (e:Value) (s':Shared),Inv X pins σ H s->CX X.stack H s E e s'->X.xe e s'
section
variable {X:Cx}{CX:CXT}{k:Nat}{f C:Addr}{fd:x3Z}{ps:List Str}{sp:Sp}{dvs:List V}{ds:List Value}{E:XK}{x m:Str}{p pos apos:Pos}{e o:Expr}{es:List Expr}{ta:TE}{t:TA}
theorem run_fn {pins:List (Addr×Obj)}{σ:St}{H:Hp}{s:Shared}{Q:VK}{us:List Value}{vs:List V}(F:FnOk X.prog X.w X.K X.mg X.base CX k f fd ps sp)(hr:Room k X.A)(hb:a9y X.K fd ps ds)(hd:Vals dvs ds)(hx:b1X CX X E)
   (I:Inv X pins σ H s) (r:Vals vs us) (h:sp (vs++dvs) H Q E):wpAny (model X.prog X.w) X.A (call (.ref f) us) (EP X pins σ Q) X.xe s:=by
 have r2:Vals (vs++dvs) (us++ds):=r.append hd;have hl:(us++ds).length=ps.length:=by rw [<- r2.length];exact F.len _ _ _ _ h
 refine wpAny_call (x4g (F.run X.A X.stack s H ⟨us,[]⟩ (us++ds) (vs++dvs) Q E hr I.env0 (hb s us I.kIn hl) r2 h) fun r s' hq=>?_);cases r with
 | error e=>exact hx pins σ H s e s' I hq
 | ok fl =>
   cases fl with
   | ret u=>exact I.after hq
   | next=>exact x2X hq
   | brk=>exact x2X hq
   | cont=>exact x2X hq
theorem b5t (F:FnOk X.prog X.w X.K X.mg X.base CX k f fd ps sp)(hr:Room k X.A)(hg:Gl X x)(hm:X.mg x=some (.ref f))(hk:x4a X.K (.ref f)=true)(hb:a9y X.K fd ps ds)(hd:Vals dvs ds)(hx:b1X CX X E)
   (ha:PA X (e::es) t) (hdb:(x == ("__debug__":Str))=false:=by decide) (he:x0Y (e::es) X.env=(false,eval e X.env)::x0Y es X.env:=by rfl) (hpl:(backTo pos (x0Y es X.env)).any (·.1)=false:=by rfl) :
   PE X (.Call (.Name x p) (e::es) [] pos) (tCall sp dvs E t):=by
 intro pins s σ H Q I h;refine x2O (b5J I hg hm ?_ hdb);refine PySem.W.callWith_K (h₀:=X.base) I.ok.mod.kin hk (thn (ha pos pins s σ H _ I h) fun us s1 ⟨vs,H1,I1,r,q⟩=>⟨I1.kIn,?_⟩) he hpl;exact run_fn F hr hb hd hx I1 r q
end
noncomputable def PK (X:Cx)(kws:List x3h)(t:TA):Prop:=
 ∀(pos:Pos) (pins:List (Addr×Obj)) (s:Shared) (σ:St) (H:Hp) (Q:List V->Hp->Prop),Inv X pins σ H s->t σ H Q->wpAny (model X.prog X.w) X.A (evalAll ((x4b pos (x2l kws X.env)).map (·.2))) (AP X pins σ Q) X.xe s
structure a0q (N P:List Str)(sc:Scope):Prop where
 kind:sc.kind=.function
 co:sc.isCoroutine=false
 gen:sc.isGenerator=false
 nd:N.Nodup
 pre:N.take P.length=P
 par:∀x∈P,sc.names.lookup x=some .local\/sc.names.lookup x=some .cell
 nofree:∀y∈sc.names,y.2≠.free
theorem a6C {kindOf:Str->Option NameKind}{x:Str}:∀{binds:List (Str×Value)} {m:Str->Option Value},(∀v,(x,v)∉binds)->bindL kindOf binds m x=m x
 | [],_,_=>rfl
 | (n, v) :: r, m, h => by
   unfold bindL;rw [a6C fun w hw=>h w (x0d _ hw)]
   split
   · have:x≠n:=by rintro rfl;exact h v x0e
     simp [this]
   · rfl
theorem a6E {kindOf:Str->Option NameKind}{x:Str}:∀{binds:List (Str×Value)} {m:Str->Option Value},(∀v,(x,v)∉binds)->bindC kindOf binds m x=m x
 | [],_,_=>rfl
 | (n, v) :: r, m, h => by
   unfold bindC;rw [a6E fun w hw=>h w (x0d _ hw)]
   split
   · rfl
   · have:x≠n:=by rintro rfl;exact h v x0e
     simp [this]
theorem a6D {kindOf:Str->Option NameKind}{x:Str}{v:Value}:∀{P:List Str} {vs:List Value} {i:Nat} {m:Str->Option Value},P.Nodup->P[i]?=some x->vs[i]?=some v->kindOf x=some .local->
   bindL kindOf (P.zip vs) m x=some v
 | [],_,_,_,_,h,_,_=>by simp at h
 | _::_,[],_,_,_,_,h,_=>by simp at h
 | p :: P, w :: vs, 0, m, nd, h1, h2, hk => by
   simp at h1 h2;subst h1;subst h2;show bindL kindOf ((p,w)::P.zip vs) m p=_;unfold bindL;rw [a6C fun v hv=>(x0J.mp nd).1 (List.of_mem_zip hv).1,if_pos hk];simp
 | p :: P, w :: vs, i + 1, m, nd, h1, h2, hk => by
   show bindL kindOf ((p,w)::P.zip vs) m x=_;unfold bindL;exact a6D (i:=i) (x0J.mp nd).2 (by simpa using h1) (by simpa using h2) hk
theorem a6F {kindOf:Str->Option NameKind}{x:Str}{v:Value}:∀{P:List Str} {vs:List Value} {i:Nat} {m:Str->Option Value},P.Nodup->P[i]?=some x->vs[i]?=some v->kindOf x≠some .local->
   bindC kindOf (P.zip vs) m x=some v
 | [],_,_,_,_,h,_,_=>by simp at h
 | _::_,[],_,_,_,_,h,_=>by simp at h
 | p :: P, w :: vs, 0, m, nd, h1, h2, hk => by
   simp at h1 h2;subst h1;subst h2;show bindC kindOf ((p,w)::P.zip vs) m p=_;unfold bindC;rw [a6E fun v hv=>(x0J.mp nd).1 (List.of_mem_zip hv).1,if_neg hk];simp
 | p :: P, w :: vs, i + 1, m, nd, h1, h2, hk => by
   show bindC kindOf ((p,w)::P.zip vs) m x=_;unfold bindC;exact a6F (i:=i) (x0J.mp nd).2 (by simpa using h1) (by simpa using h2) hk
noncomputable def start (N:List Str)(vs:List V):St:=vs.map some++List.replicate (N.length - vs.length) none
noncomputable def cxOf (CX:CXT)(P:x0D)(w:World)(K:x0a)(mg:Str->Option Value)(base:Heap)(N:List Str)(qual:Str)(scope:Scope)(f:Addr)(cd:Value)(A:Around)(outer:List Env)(s:Shared)(H:Hp)(E:XK):Cx where
 prog:=P
 w:=w
 K:=K
 mg:=mg
 base:=base
 A:=A.deeper (envOfC qual scope s.heap.objs.size f cd)
 N:=N
 s₀:=s
 H₀:=H
 env:=envOfC qual scope s.heap.objs.size f cd
 outer:=outer
 stack:=envOfC qual scope s.heap.objs.size f cd::outer
 ex:=[]
 calm:=true
 fn:=fun _=>true
 pn:=[]
 xe:=fun e s'=>wpAny (model P w) (A.deeper (envOfC qual scope s.heap.objs.size f cd)) (leaving (envOfC qual scope s.heap.objs.size f cd) e) (fun _ s''=>CX outer H s E e s'') (fun e' s''=>CX outer H s E e' s'') s'
theorem a8s {sc:Scope}{n:Nat}{x:Str}(h:sc.names.lookup x=some .cell):∃c,(cellsFrom n sc.names []).lookup x=some c:=by
 have q:=PySem.W.cellsFrom_some sc.names n [] (.inl h);exact x2r.mp q
theorem b1d {CX:CXT}{P:x0D}{w:World}{K:x0a}{mg:Str->Option Value}{base:Heap}{N ps:List Str}{qual:Str}{scope:Scope}{f:Addr}{cd:Value}{A:Around}{outer:List Env}{s s1:Shared}{H:Hp}{E:XK}{us:List Value}{vs:List V}
   (S:a0q N ps scope) (hd:A.handled=none) (e0:Env0 P w K mg base A outer s H) (hl:vs.length=ps.length) (r:Vals vs us)
   (x:InCallC s s.heap.objs.size (bindL (envOfC qual scope s.heap.objs.size f cd).kindOf (ps.zip us) fun _=>none) (cellsFrom (s.heap.objs.size + 1) scope.names []) (bindC (envOfC qual scope s.heap.objs.size f cd).kindOf (ps.zip us) fun _=>none) s1) :
   Inv (cxOf CX P w K mg base N qual scope f cd A outer s H E) [] (start N vs) H s1:=by
 have hpl:ps.length<=N.length:=by have:=congrArg List.length S.pre;rw [x1i] at this;omega
 obtain⟨h1,tk,rfl,hk⟩:=x.done;have noA:∀b:Addr,b∉(cxOf CX P w K mg base N qual scope f cd A outer s H E).ex:=fun b z=>absurd (show b∈([]:List Addr) from z) (by simp)
 refine⟨⟨e0.mod,S.kind,rfl,rfl,x0j _,fun y z c h1 h2=>?_,fun y hy=>?_,fun y c _ h=>?_,fun _=>hd,Around.frames_deeper e0.frames,.inr ⟨rfl,rfl⟩,fun b z=>absurd z (noA b),e0.bs,e0.bsz,fun b _ _=>noA b,fun b z=>absurd z (noA b),e0.funs,e0.frf,e0.nos⟩,
   rfl,e0.bare,Un.kept hk,⟨_,x.toInCall.ns,fun i y v h1 h2 h3=>?_⟩,fun y c h=>⟨_,x.cell y c h⟩,e0.hok.fresh (x0j _),fun y c h=>?_,fun p hp=>absurd (show p∈([]:List (Addr×Obj)) from hp) (by simp),e0.hok.kept hk,?_⟩
 · exact name_of_addr x.apart (x1x h1) (x1x h2)
 · have hy:scope.names.lookup y=some .cell\/scope.names.lookup y=some .free:=hy;rcases hy with hy | hy
   · exact a8s hy
   · exact absurd rfl (S.nofree _ (x1x hy))
 · exact x4J (x.above y c (x1x h))
 · have hi:i < vs.length:=by
     unfold start at h2
     by_cases hi:i < vs.length
     · exact hi
     · rw [x0Z (by simpa using hi)] at h2;rw [x3x] at h2
       split at h2 <;> cases h2
   have ha:vs[i]?=some v:=by
     unfold start at h2;rw [x0P (by simpa using hi),x0v] at h2;cases e:vs[i]? with
     | none=>rw [e] at h2;cases h2
     | some a=>rw [e] at h2;cases h2;rfl
   obtain⟨u,hu,rv⟩:=r.get ha
   have hp:ps[i]?=some y:=by
     rw [<- S.pre,List.getElem?_take_of_lt (by omega)];exact h1
   have ndP:ps.Nodup:=by rw [<- S.pre];exact S.nd.sublist (List.take_sublist _ _)
   refine⟨u,rv,?_⟩;rcases S.par y (x0A hp) with k | k
   · exact .inl ⟨k,a6D ndP hp hu k⟩
   · obtain⟨c,e⟩:=a8s (n:=s.heap.objs.size + 1) k;refine .inr ⟨.inl k,c,e,?_⟩;have q:=x.cell y c e;rw [a6F ndP hp hu (by show scope.names.lookup y≠_;rw [k];decide)] at q;exact q
 · exact e0.hok.fresh (x4J (x.above y c (x1x h)))
 · unfold start;show _=N.length;rw [x0m,x0k,List.length_replicate];omega
theorem fn_of {CX:CXT}{P:x0D}{w:World}{K:x0a}{mg:Str->Option Value}{base:Heap}{k:Nat}{f:Addr}{name qual:Str}{params:x4T}{body:List Stmt}{scope:Scope}{dV kV doc pm cdv ct oc:Value}{an od:Option Addr}
   {osl:Array (Option Value)} {N ps:List Str} {sp:Sp} (lk:K.lookup f=some ⟨oc,od,.func (x1W name qual params body scope dV kV doc pm an cdv ct),osl⟩) (hcd:x4O K cdv qual=true) (S:a0q N ps scope)
   (len:∀vs H Q E,sp vs H Q E->vs.length=ps.length)
   (hbody:∀(A:Around) (outer:List Env) (s:Shared) (H:Hp) (vs:List V) (Q:VK) (E:XK),Room k (A.deeper (envOfC qual scope s.heap.objs.size f cdv))->sp vs H Q E->
     ∃t,PSs (cxOf CX P w K mg base N qual scope f cdv A outer s H E) body t/\t { nx:=fun _ H'=>Q .non H',rt:=Q } (start N vs) H) :
   FnOk P w K mg base CX (k + 1) f (x1W name qual params body scope dV kV doc pm an cdv ct) ps sp:=by
 refine⟨len,fun A outer s H args us vs Q E hr e0 hb r hsp=>?_⟩;have hl:=len _ _ _ _ hsp;have KX:K.In s.heap:=e0.mod.kin.keeps fun b o e=>(e0.bs b o e).1;have lim:s.heap.NoLimit:=e0.mod.nolimit.keeps fun b o e=>(e0.bs b o e).1
 have hkind:∀y∈ps.zip us,scope.names.lookup y.1=some .local\/(scope.names.lookup y.1=some .cell/\((cellsFrom (s.heap.objs.size + 1) scope.names []).lookup y.1).isSome=true):=fun⟨n,v⟩ hy=>by
   rcases S.par n (List.of_mem_zip hy).1 with q | q
   · exact .inl q
   · exact .inr ⟨q,PySem.W.cellsFrom_some _ _ _ (.inl q)⟩
 refine codeAny_call_function hr.depth (KX _ _ lk) rfl S.co S.gen rfl (PySem.W.codeRec_of KX hcd) (hb _ _ _ _ ?_);refine wpAny_newFunctionEnv_cells S.kind hkind fun env he s1 x=>?_;subst he;refine⟨lim.keeps x.toInCall.keep,codeAny_func ?_⟩;obtain⟨t,ht,hq⟩:=hbody A outer s H vs Q E (hr.deeper _) hsp;have I:Inv (cxOf CX P w K mg base N qual scope f cdv A outer s H E) [] (start N vs) H s1:=b1d S hr.hd e0 hl r x;refine x0F (ht [] s1 (start N vs) H _ I hq) (fun fl s' hs=>?_) fun e s' hs=>hs
 have fin:∀{σ':St} {H':Hp} {v:V} {u:Value},Inv (cxOf CX P w K mg base N qual scope f cdv A outer s H E) [] σ' H' s'->RelV v u->Q v H'->CE outer P w H s Q u s':=
   fun {σ' H' v u} J rv q=>⟨v,H',J.os,J.bare,J.base,J.hok,rv,q⟩
 cases fl with
 | ret u =>
   obtain⟨v,σ',H',J,rv,q⟩:=hs;exact fin J rv q
 | next =>
   obtain⟨σ',H',J,q⟩:=hs;exact fin (v:=V.non) (u:=x2L) J rfl q
 | brk =>
   obtain⟨_,_,_,q⟩:=hs;exact x2X q
 | cont =>
   obtain⟨_,_,_,q⟩:=hs;exact x2X q
section
variable {X:Cx}{x:Str}{p pos:Pos}{e:Expr}{es:List Expr}{t:TA}{id T:String}{r:List V->Hp->VK->Prop}
noncomputable def tCB (r:List V->Hp->VK->Prop)(t:TA):TE:=fun σ H Q=>t σ H fun vs H1=>r vs H1 Q
theorem a2n (hc:a1W X (.builtin id) r)(hg:Gl X x)(hm:X.mg x=none)(hv:x1s x=some (.builtin id))(ha:PA X (e::es) t)(hn:x≠"__name__":=by decide)(hdb:(x == ("__debug__":Str))=false:=by decide)
   (he:x0Y (e::es) X.env=(false,eval e X.env)::x0Y es X.env:=by rfl) (hpl:(backTo pos (x0Y es X.env)).any (·.1)=false:=by rfl):PE X (.Call (.Name x p) (e::es) [] pos) (tCB r t):=by
 intro pins s σ H Q I h;refine x2O (a3z I hg hm hv ?_ hn hdb);exact PyProof.Rows.callWith_builtin1 (thn (ha pos pins s σ H _ I h) fun us s1 ⟨vs,H1,I1,r1,q1⟩=>hc pins s1 σ H1 vs us Q I1 r1 q1) he hpl
theorem a2c (hc:a1W X (.type T) r)(hg:Gl X x)(hm:X.mg x=none)(hv:x1s x=some (.type T))(ha:PA X (e::es) t)(hn:x≠"__name__":=by decide)(hdb:(x == ("__debug__":Str))=false:=by decide)
   (he:x0Y (e::es) X.env=(false,eval e X.env)::x0Y es X.env:=by rfl) (hpl:(backTo pos (x0Y es X.env)).any (·.1)=false:=by rfl):PE X (.Call (.Name x p) (e::es) [] pos) (tCB r t):=by
 intro pins s σ H Q I h;refine x2O (a3z I hg hm hv ?_ hn hdb);exact x1w (thn (ha pos pins s σ H _ I h) fun us s1 ⟨vs,H1,I1,r1,q1⟩=>hc pins s1 σ H1 vs us Q I1 r1 q1) he hpl
end
end L2
namespace HT
open PySem PyProof.Rows
section
variable {prog:x0D}{w:World}{A:Around}{E:Value->Shared->Prop}{s:Shared}
theorem cat_tup {t b:Addr}{vs ws:List Value}{Q:Value->Shared->Prop}(ht:IsTup s.heap t vs.toArray)(hb:IsTup s.heap b ws.toArray)(hv:vs≠[])
   (h1:ws=[]->Q (.ref t) s) (h2:ws≠[]->Q (.ref s.heap.objs.size) { s with heap:=s.heap.push { cls:=.type "tuple",data:=.seq (vs++ws).toArray } })
   (hsz:vs.length + ws.length<=x0w):wpAny (model prog w) A (x3a .Add (.ref t) (.ref b)) Q E s:=by
 obtain⟨⟨cls,dd,data,sl⟩,ho,hc,n,hd⟩:=id ht;obtain⟨⟨cls2,dd2,data2,sl2⟩,ho2,hc2,n2,hd2⟩:=id hb;simp only at hc hd hc2 hd2;subst hc hd hc2 hd2;have e:vs.toArray++ws.toArray=(vs++ws).toArray:=by simp
 by_cases hw:ws=[]
 · exact concat_meets ⟨_,ho,rfl⟩ ⟨_,ho2,rfl⟩ noFill_tuple_add seq_tuple_add x3N x3y (x3s _ _)
     (tuple_addW1 t b vs.toArray ws.toArray n n2 dd dd2 sl sl2 (by simpa using hv) (by simp [hw])) ⟨ho,ho2,h1 hw⟩
 · refine concat_meets ⟨_,ho,rfl⟩ ⟨_,ho2,rfl⟩ noFill_tuple_add seq_tuple_add x3N x3y (x3s _ _)
     (tuple_addW2 t b vs.toArray ws.toArray n n2 dd dd2 sl sl2 (by simpa using hv) (by simpa using hw) (by rw [x0p,x0p];exact hsz)) ⟨ho,ho2,?_⟩
   rw [e];exact h2 hw
noncomputable def sIx (n d:Nat):Option Int->Nat
 | none=>d
 | some v=>if v < 0 then(v + (n:Int)).toNat else min v.toNat n
theorem sIx_none (n d:Nat):sIx n d none=d:=rfl
theorem sIx_nat (n d k:Nat):sIx n d (some (k:Int))=min k n:=by
 show(if(k:Int) < 0 then((k:Int) + (n:Int)).toNat else min (k:Int).toNat n)=min k n;rw [if_neg (by omega),x1F]
theorem sIx_le (n d:Nat)(hd:d<=n)(o:Option Int):sIx n d o<=n:=by
 cases o with
 | none=>exact hd
 | some v =>
   show(if v < 0 then(v + (n:Int)).toNat else min v.toNat n)<=n
   by_cases hv:v < 0
   · rw [if_pos hv];omega
   · rw [if_neg hv];exact Nat.min_le_right _ _
theorem b1I (v:Int)(n d:Nat):(if v < 0 then max (v + (n:Int)) 0 else min v (n:Int))=((sIx n d (some v):Nat):Int):=by
 show(if v < 0 then max (v + (n:Int)) 0 else min v (n:Int))=(((if v < 0 then(v + (n:Int)).toNat else min v.toNat n):Nat):Int)
 by_cases hv:v < 0
 · simp only [if_pos hv];omega
 · simp only [if_neg hv];omega
theorem a9x (lo hi:Option Int)(n:Nat):x1N lo hi 1 (n:Int)=(((sIx n 0 lo:Nat):Int),((sIx n n hi:Nat):Int)):=by
 have h1:¬((1:Int) < 0):=by omega
 unfold x1N;simp only [h1,if_false];refine Prod.ext ?_ ?_
 · cases lo with
   | none=>rfl
   | some v=>exact b1I v n 0
 · cases hi with
   | none=>rfl
   | some v=>exact b1I v n n
theorem a8O (i j:Nat):x1h (i:Int) (j:Int) 1=j - i:=by
 unfold x1h;have h1:(1:Int) > 0:=by omega
 simp only [h1,if_true,Int.ediv_one]
 split <;> omega
theorem a1E {v:Value}{o:Option Int}{Q:Option Int->Shared->Prop}(p:IsPart v o)(h:Q o s):wpAny (model prog w) A (Builtin.Slice.slicePartIndex v) Q E s:=by
 cases p with
 | none=>exact slicePart_none h
 | int i t=>exact slicePart_int h
theorem a1U {sl:Addr}{vl vu:Value}{lo hi:Option Int}{n:Nat}{Q:Int×Int×Nat->Shared->Prop}(hs:s.heap.IsSliceOf sl vl vu .none)(pl:IsPart vl lo)(pu:IsPart vu hi)
   (h:Q (((sIx n 0 lo:Nat):Int),1,sIx n n hi - sIx n 0 lo) s):wpAny (model prog w) A (x2a (.ref sl) (pure (n:Int))) Q E s:=by
 obtain⟨os,hos,hcs,hds⟩:=id hs;unfold x2a x4P;refine x0b (x0b (x1l hos hds (x:=vl) rfl (x0b (x1l hos hds (x:=vu) rfl (x0b (x1l hos hds (x:=.none) rfl (x0h ?_)))))));refine x0b (slicePart_none ?_);show wpAny _ _ (if((1:Int) == 0)=true then _ else _) _ _ s;rw [if_neg (by decide)];refine x0b (a1E pl (x0b (a1E pu (x0b (x0h ?_)))));show wpAny _ _ (match x1N lo hi 1 (n:Int) with | (lo,hi)=>pure (lo,(1:Int),x1h lo hi 1)) _ _ s;rw [a9x lo hi n];show wpAny _ _ (pure (((sIx n 0 lo:Nat):Int),(1:Int),x1h ((sIx n 0 lo:Nat):Int) ((sIx n n hi:Nat):Int) 1)) _ _ s;rw [a8O];exact x0h h
theorem b2O (xs:Array Value)(i k:Nat):((x0N k).filterMap fun(m:Nat)=>xs[((i:Int) + (m:Int) * 1).toNat]?).toArray=((xs.toList.drop i).take k).toArray:=by
 have e:(fun(m:Nat)=>xs[((i:Int) + (m:Int) * 1).toNat]?)=fun m=>xs[i + m]?:=by
   funext m
   have:((i:Int) + (m:Int) * 1).toNat=i + m:=by omega
   rw [this]
 rw [e];have:=pick_run xs i k;rw [List.filterMap_map] at this;have e2:((fun x=>xs[x]?)∘fun x=>i + x)=fun m=>xs[i + m]?:=rfl;rw [e2] at this;rw [this]
theorem getItem_tuple_cut {t sl:Addr}{items:Array Value}{vl vu:Value}{lo hi:Option Int}{Q:Value->Shared->Prop}(ht:IsTup s.heap t items)(hs:s.heap.IsSliceOf sl vl vu .none)(pl:IsPart vl lo)(pu:IsPart vu hi)
   (hw:¬(sIx items.size 0 lo=0/\sIx items.size items.size hi=items.size))
   (h:Q (.ref s.heap.objs.size) { s with heap:=s.heap.push { cls:=.type "tuple",data:=.seq ((items.toList.drop (sIx items.size 0 lo)).take (sIx items.size items.size hi - sIx items.size 0 lo)).toArray } })
   (hsz:items.size<=x0w):wpAny (model prog w) A (x4B (.ref t) (.ref sl)) Q E s:=by
 have htake:sizeOk (.seq ((items.toList.drop (sIx items.size 0 lo)).take (sIx items.size items.size hi - sIx items.size 0 lo)).toArray):=by
   show((items.toList.drop (sIx items.size 0 lo)).take (sIx items.size items.size hi - sIx items.size 0 lo)).toArray.size<=x0w;rw [x0p,x1i,x1z,x1e];omega
 have hj:sIx items.size items.size hi<=items.size:=sIx_le _ _ (x0j _) hi;obtain⟨os,hos,hcs,hds⟩:=id hs;have hTs:s.TypeIs (.ref sl) "slice":=⟨os,hos,hcs⟩;unfold x4B
 try with_reducible refine x0W ?_
 first | refine x0b (x0h ?_) | skip
 refine x0b (wpAny_sequenceKey ht.typeIs (by decide) ?_)
 refine x0b (x1A (name:=x0g "__getitem__") ht.typeIs x1m
   (x1C x1m ht.typeIs entry_tuple_getitem ?_ (args_tuple_getitem _ _)))
 show wpAny _ _ (x3f (.ref t)>>=_) _ _ s;refine x0b (tupleItemsOf_ ht ?_);refine x0b (x4h hTs ?_);rw [if_pos (by decide)];refine x0b (a1U hs pl pu ?_)
 have hno:¬((((sIx items.size 0 lo:Nat):Int) == 0 && (1:Int) == 1 && (sIx items.size items.size hi - sIx items.size 0 lo) == items.size)=true):=by
   intro q;rw [x2I,x2I] at q;have q1:((sIx items.size 0 lo:Nat):Int)=0:=eq_of_beq q.1.1;have q2:sIx items.size items.size hi - sIx items.size 0 lo=items.size:=eq_of_beq q.2;exact hw ⟨by omega,by omega⟩
 show wpAny _ _ (if(((sIx items.size 0 lo:Nat):Int) == 0 && (1:Int) == 1 && (sIx items.size items.size hi - sIx items.size 0 lo) == items.size)=true then _ else _) _ _ s;rw [if_neg hno,b2O]
 first
   | exact x0b (m:=x1n _) (x0T (x0h ⟨_,rfl,x0h h⟩) htake)
   | exact x0b (m:=x1n _) (x0T (x0b (x0h (x0h ⟨_,rfl,x0h h⟩))) htake)
   | exact x0b (x0b (m:=x1n _) (x0T (x0h (x0h ⟨_,rfl,x0h h⟩)) htake))
   | exact x0b (x0b (m:=x1n _) (x0T (x0h ⟨_,rfl,x0h h⟩) htake))
end
end HT
namespace L2
open PySem PySem.Spec PyProof.Rows
noncomputable abbrev TO:=St->Hp->(Option Int->Hp->Prop)->Prop
noncomputable def PO (X:Cx)(e:Option Expr)(t:TO):Prop:=
 ∀ (pins : List (Addr × Obj)) (s : Shared) (σ : St) (H : Hp) (Q : Option Int -> Hp -> Prop), Inv X pins σ H s -> t σ H Q ->
   wpAny (model X.prog X.w) X.A (evalPart e X.env) (fun u s'=>∃o H',Inv X pins σ H' s'/\IsPart u o/\Q o H') X.xe s
noncomputable def b4M:TO:=fun _ H Q=>Q none H
noncomputable def tPart (t:TE):TO:=fun σ H Q=>t σ H fun x H1=>∃i,x=.int i/\Q (some i) H1
section
variable {X:Cx}{e:Expr}{te:TE}{lo hi:Option Expr}{tl th:TO}{pos p2:Pos}
theorem a7b:PO X none b4M:=by
 intro pins s σ H Q I h;rw [evalPart_none];exact x0h ⟨none,H,I,.none,h⟩
theorem a7a (h:PE X e te):PO X (some e) (tPart te):=by
 intro pins s σ H Q I hw;rw [evalPart_some];refine thn (h pins s σ H _ I hw) fun u s1 ⟨x,H1,I1,r1,q1⟩=>?_;obtain⟨i,rfl,q⟩:=q1;obtain⟨t,rfl⟩:=r1;exact⟨some i,H1,I1,.int i t,q⟩
noncomputable def SlR (X:Cx)(r:V->Option Int->Option Int->Hp->VK->Prop):Prop:=
 ∀ (pins : List (Addr × Obj)) (s : Shared) (σ : St) (H : Hp) (x : V) (v vl vu : Value) (lo hi : Option Int) (sl : Addr) (Q : VK), Inv X pins σ H s -> RelV x v -> s.heap.IsSliceOf sl vl vu .none -> IsPart vl lo -> IsPart vu hi -> r x lo hi H Q ->
   ∃T id,typeLookup (.type T) "__getitem__"=pure (some (.builtin id))/\s.TypeIs v T/\wpAny (model X.prog X.w) X.A (x4B v (.ref sl)) (EP X pins σ Q) X.xe s
theorem SlR.or {r r':V->Option Int->Option Int->Hp->VK->Prop}(h:SlR X r)(h':SlR X r'):SlR X (fun x lo hi H Q=>r x lo hi H Q\/r' x lo hi H Q):=by
 intro pins s σ H x v vl vu lo hi sl Q I rx hs pl pu q;rcases q with q | q
 · exact h pins s σ H x v vl vu lo hi sl Q I rx hs pl pu q
 · exact h' pins s σ H x v vl vu lo hi sl Q I rx hs pl pu q
noncomputable def tSl (r:V->Option Int->Option Int->Hp->VK->Prop)(te:TE)(tl th:TO):TE:=fun σ H Q=>te σ H fun x H1=>tl σ H1 fun l H2=>th σ H2 fun u H3=>r x l u H3 Q
theorem a5m {r:V->Option Int->Option Int->Hp->VK->Prop}(hr:SlR X r)(he:PE X e te)(hl:PO X lo tl)(hu:PO X hi th):PE X (.Subscript e (.Slice lo hi none p2) pos) (tSl r te tl th):=by
 intro pins s σ H Q I h;refine Subscript_ (thn (he pins s σ H _ I h) fun v s1 ⟨x,H1,I1,r1,q1⟩=>?_);refine wpAny_Slice (thn (hl pins s1 σ H1 _ I1 q1) fun vl s2 ⟨l,H2,I2,pl,q2⟩=>thn (hu pins s2 σ H2 _ I2 q2) fun vu s3 ⟨u,H3,I3,pu,q3⟩=>?_);rw [evalPart_none];refine x0h ?_;have I4:Inv X pins σ H3 { s3 with heap:=s3.heap.push { cls:=.type "slice",data:=.fields #[vl,vu,.none] } }:=I3.kept (t':=s3.toks) fun b ob q=>x0c _ q;obtain⟨T,id,hT,ht,hg⟩:=hr pins { s3 with heap:=s3.heap.push { cls:=.type "slice",data:=.fields #[vl,vu,.none] } } σ H3 x v vl vu l u s3.heap.objs.size Q I4 r1 (x4K ..) pl pu q3;show wpAny (model X.prog X.w) X.A (subscriptTail e (.Slice lo hi none p2) v (.ref s3.heap.objs.size)) (EP X pins σ Q) X.xe { s3 with heap:=s3.heap.push { cls:=.type "slice",data:=.fields #[vl,vu,.none] } };exact tail_any (ops:=[.ref s3.heap.objs.size,v]) ht hT hg (by with_unfolding_all rfl)
noncomputable def cutV (xs:List V)(lo hi:Option Int):List V:=(xs.drop (HT.sIx xs.length 0 lo)).take (HT.sIx xs.length xs.length hi - HT.sIx xs.length 0 lo)
theorem a4w (xs:List V)(lo hi:Option Int):(cutV xs lo hi).length<=xs.length:=by
 unfold cutV;rw [x1i,x1z];omega
noncomputable def rSlT (K:x0a):V->Option Int->Option Int->Hp->VK->Prop:=fun x lo hi H Q=>∃a xs,x=.ref a/\SqT K H a xs/\
 ¬(HT.sIx xs.length 0 lo=0/\HT.sIx xs.length xs.length hi=xs.length)/\∀p,H p=none->Q (.ref p) (upd H p (.tup (cutV xs lo hi)))
theorem sl_tup:SlR X (rSlT X.K):=by
 intro pins s σ H x v vl vu lo hi sl Q I rx hs pl pu h;obtain⟨a,xs,rfl,hx,hw,q⟩:=h;cases rx;obtain⟨its,r,ht,hz⟩:=I.tuple hx;have hlen:its.toArray.size=xs.length:=by rw [x0p];exact r.length.symm
 refine⟨"tuple",_,PyProof.Rows.slot_tuple_getitem.lookup,ht.typeIs,?_⟩;refine HT.getItem_tuple_cut ht hs pl pu (by rw [hlen];exact hw) ?_ (by rw [hlen];exact hz);rw [hlen];refine⟨.ref s.heap.objs.size,_,I.laid (t':=s.toks) (o:=.tup (cutV xs lo hi)) (fun b ob q=>x0c _ q) (x0j _) ?_,rfl,q _ (I.hok.fresh (x0j _))⟩;exact⟨x0I (a4w xs lo hi) hz,_,(r.drop (HT.sIx xs.length 0 lo)).take (HT.sIx xs.length xs.length hi - HT.sIx xs.length 0 lo),a2j.new _ _⟩
noncomputable def rCatT (K:x0a):R2:=fun x y H Q=>∃a b xs ys,x=.ref a/\y=.ref b/\SqT K H a xs/\SqT K H b ys/\xs≠[]/\xs.length + ys.length<=x0w/\
 (ys=[]->Q (.ref a) H)/\(ys≠[]->∀p,H p=none->Q (.ref p) (upd H p (.tup (xs++ys))))
theorem Vals.nil_iff {xs:List V}{us:List Value}(r:Vals xs us):us=[]↔xs=[]:=by
 cases r with
 | nil=>simp
 | cons _ _=>simp
theorem b5w:OpR X (x3a .Add) (rCatT X.K):=by
 intro pins s σ H x y v u Q I rx ry h;obtain⟨a,b,xs,ys,rfl,rfl,ha,hb,hx,hz,q1,q2⟩:=h;cases rx;cases ry;obtain⟨its,r1,p1,_⟩:=I.tuple ha;obtain⟨its2,r2,p2,_⟩:=I.tuple hb;refine HT.cat_tup p1 p2 (fun z=>hx (r1.nil_iff.mp z)) (fun z=>⟨.ref a,H,I,rfl,q1 (r2.nil_iff.mp z)⟩) (fun z=>?_) (by rw [<- r1.length,<- r2.length];exact hz);refine⟨.ref s.heap.objs.size,_,I.laid (t':=s.toks) (o:=.tup (xs++ys)) (fun b ob q=>x0c _ q) (x0j _) ?_,rfl,q2 (fun w=>z (r2.nil_iff.mpr w)) _ (I.hok.fresh (x0j _))⟩;exact⟨by rw [x0m];exact hz,_,r1.append r2,a2j.new _ _⟩
end
noncomputable def ixN (n:Nat)(i:Int):Option Nat:=if 0<=i then(if i < n then some i.toNat else none) else if -(n:Int)<=i then some (i + n).toNat else none
noncomputable def atI {α:Type}(xs:List α)(i:Int):Option α:=(ixN xs.length i).bind fun j=>xs[j]?
theorem b1b {n:Nat}{i:Int}{j:Nat}(h:ixN n i=some j):seqIndex? i n=some j/\j < n/\-(n:Int)<=i/\i < n:=by
 unfold ixN at h
 by_cases h0:0<=i
 · rw [if_pos h0] at h
   by_cases h1:i < n
   · rw [if_pos h1] at h;have e:i.toNat=j:=x0S h;exact⟨by rw [seqIndex_of h0 h1,e],by omega,by omega,h1⟩
   · rw [if_neg h1] at h;cases h
 · rw [if_neg h0] at h
   by_cases h1:-(n:Int)<=i
   · rw [if_pos h1] at h;have e:(i + n).toNat=j:=x0S h;exact⟨by rw [seqIndex_neg (by omega) h1,e],by omega,h1,by omega⟩
   · rw [if_neg h1] at h;cases h
theorem a7y {α:Type}{xs:List α}{i:Int}{v:α}(h:atI xs i=some v):∃j,seqIndex? i xs.length=some j/\xs[j]?=some v/\j < xs.length/\-(xs.length:Int)<=i/\i < xs.length:=by
 unfold atI at h;cases e:ixN xs.length i with
 | none=>rw [e] at h;cases h
 | some j =>
   rw [e] at h;obtain⟨h1,h2,h3,h4⟩:=b1b e;exact⟨j,h1,h,h2,h3,h4⟩
theorem a2G {α:Type}{xs:List α}{j:Nat}{v:α}(h:xs[j]?=some v):atI xs (j:Int)=some v:=by
 have hj:j < xs.length:=(x0l.mp h).1
 have e:ixN xs.length (j:Int)=some j:=by
   unfold ixN;rw [if_pos (by omega),if_pos (by omega)];simp
 unfold atI;rw [e];exact h
noncomputable def a7B (b:Expr):Prop:=∀o i,subscripted b false o i=operate [o,i] (x4B o i)
noncomputable def IxR (X:Cx)(r:R2):Prop:=
 ∀ (value slice : Expr) (pins : List (Addr × Obj)) (s : Shared) (σ : St) (H : Hp) (x y : V) (v u : Value) (Q : VK), Inv X pins σ H s -> RelV x v -> RelV y u -> r x y H Q ->
   subscripted slice false v u=operate [v,u] (x4B v u)->wpAny (model X.prog X.w) X.A (subscriptTail value slice v u) (EP X pins σ Q) X.xe s
noncomputable def MtR (X:Cx)(id:String)(r:V->List V->Hp->VK->Prop):Prop:=
 ∀ (pins : List (Addr × Obj)) (s : Shared) (σ : St) (H : Hp) (x : V) (xs : List V) (v : Value) (us : List Value) (Q : VK), Inv X pins σ H s -> RelV x v -> Vals xs us -> r x xs H Q ->
   wpAny (model X.prog X.w) X.A (call (.builtin id) (v::us)) (EP X pins σ Q) X.xe s
section
variable {X:Cx}{a b:Expr}{ta tb:TE}{pos:Pos}
theorem IxR.or {r r':R2}(h:IxR X r)(h':IxR X r'):IxR X (fun x y H Q=>r x y H Q\/r' x y H Q):=by
 intro value slice pins s σ H x y v u Q I rx ry q hs;rcases q with q | q
 · exact h value slice pins s σ H x y v u Q I rx ry q hs
 · exact h' value slice pins s σ H x y v u Q I rx ry q hs
theorem b5r {r:R2}(hr:IxR X r)(ha:PE X a ta)(hb:PE X b tb)(hs:a7B b):PE X (.Subscript a b pos) (tOp r ta tb):=by
 intro pins s σ H Q I h;exact Subscript_ (binT ha hb I h fun v u s2 x y H2 I2 rx ry q=>hr a b pins s2 σ H2 x y v u Q I2 rx ry q (hs _ _))
noncomputable def rIxL (K:x0a):R2:=fun x y H Q=>∃p xs i v,x=.ref p/\y=.int i/\SqL K H p xs/\atI xs i=some v/\Q v H
noncomputable def rIxT (K:x0a):R2:=fun x y H Q=>∃p xs i v,x=.ref p/\y=.int i/\SqT K H p xs/\atI xs i=some v/\Q v H
noncomputable def rIxS:R2:=fun x y H Q=>∃z i c,x=.str z/\y=.int i/\z.length<=x0w/\atI z.cps.toList i=some c/\Q (.str ⟨#[c]⟩) H
theorem b0Z:IxR X (rIxL X.K):=by
 intro value slice pins s σ H x y v u Q I rx ry h hs;obtain⟨p,xs,i,z,rfl,rfl,hq,he,q⟩:=h;cases rx;obtain⟨t,rfl⟩:=ry;obtain⟨its,r,pl,hz⟩:=I.list hq;obtain⟨j,h1,h2,h3,h4,h5⟩:=a7y he;obtain⟨w,ew,rw'⟩:=r.get h2;have hl:=r.length;have hn:=a4q;have fin:EP X pins σ Q w s:=⟨z,H,I,rw',q⟩
 by_cases h0:0<=i
 · have hj:i.toNat=j:=by
     rw [seqIndex_of h0 h5] at h1;exact x0S h1
   exact item_listR pl.isList h0 (by omega) (by rw [hj];simpa using ew) fin hs
 · have hj:(i + (its.toArray.size:Int)).toNat=j:=by
     rw [seqIndex_neg (by omega) h4] at h1;rw [x0p,<- hl];exact x0S h1
   exact subscriptTail_builtinR (x:=w) pl.isList.typeIs slot_list_getitem.lookup
     (wpAny_getItem_list_neg (Q:=fun r s'=>r=w/\EP X pins σ Q r s') pl.isList (by omega) (by rw [x0p] <;> omega) (by omega) (by rw [hj];simpa using ew) ⟨rfl,fin⟩) hs
theorem ix_tup:IxR X (rIxT X.K):=by
 intro value slice pins s σ H x y v u Q I rx ry h hs;obtain⟨p,xs,i,z,rfl,rfl,hq,he,q⟩:=h;cases rx;obtain⟨t,rfl⟩:=ry;obtain⟨its,r,pl,hz⟩:=I.tuple hq;obtain⟨j,h1,h2,h3,h4,h5⟩:=a7y he;obtain⟨w,ew,rw'⟩:=r.get h2;have hl:=r.length;have hn:=a4q;have fin:EP X pins σ Q w s:=⟨z,H,I,rw',q⟩
 exact subscriptTail_builtinR (x:=w) pl.typeIs slot_tuple_getitem.lookup
   (getItem_tuple (j:=j) (Q:=fun r s'=>r=w/\EP X pins σ Q r s') pl (by omega) (by omega) (by rw [x0p,<- hl];exact h1) (by simpa using ew) ⟨rfl,fin⟩) hs
theorem ix_str:IxR X rIxS:=by
 intro value slice pins s σ H x y v u Q I rx ry h hs;obtain⟨z,i,c,rfl,rfl,hz,he,q⟩:=h;obtain⟨t,rfl⟩:=rx;obtain⟨t',rfl⟩:=ry;obtain⟨j,h1,h2,h3,h4,h5⟩:=a7y he;have hl:z.cps.toList.length=z.length:=by simp [Str.length]
 rw [hl] at h1 h4 h5;have hn:=a4q
 exact tail_any (typeIs_str s z t) slot_str_getitem.lookup (getItem_str (c:=c) (by
   have e1:decide (i < -(2 ^ 63:Int))=false:=decide_eq_false (by omega);have e2:decide (i>=2 ^ 63)=false:=decide_eq_false (by omega)
   rw [e1,e2,x4u]) (by rw [h1];simpa using h2) ⟨.str ⟨#[c]⟩,H,I.tok _,⟨_,rfl⟩,q⟩) hs
noncomputable def rIx (K:x0a):R2:=fun x y H Q=>rIxL K x y H Q\/rIxT K x y H Q\/rIxS x y H Q
theorem b4l:IxR X (rIx X.K):=b0Z.or (ix_tup.or ix_str)
theorem a8W (its:List Value)(n j:Nat)(u:Value):x0O (·.setIfInBounds j u) { cls:=.type "list",data:=.seq its.toArray n }={ cls:=.type "list",data:=.seq (its.set j u).toArray n }:=by
 simp [x0O]
theorem Inv.lst {pins:List (Addr×Obj)}{σ:St}{H:Hp}{s:Shared}{p:Addr}{xs:List V}(I:Inv X pins σ H s)(h:H p=some (.lst xs)) :
   ∃(its:List Value) (n:Nat),Vals xs its/\s.heap.get? p=some { cls:=.type "list",data:=.seq its.toArray n }/\xs.length<=x0w:=by
 obtain⟨z,its,n,r,e⟩:=I.hok p _ h;exact⟨its,n,r,e,z⟩
theorem Inv.lstUpd {pins:List (Addr×Obj)}{σ:St}{H:Hp}{s:Shared}{p:Addr}{xs ys:List V}{its its':List Value}{n n':Nat}{f:Obj->Obj}(I:Inv X pins σ H s)(h:H p=some (.lst xs))
   (ho:s.heap.get? p=some { cls:=.type "list",data:=.seq its.toArray n }) (hf:f { cls:=.type "list",data:=.seq its.toArray n }={ cls:=.type "list",data:=.seq its'.toArray n' }) (r:Vals ys its') (hz:ys.length<=x0w) (t:Nat) :
   Inv X pins σ (upd H p (.lst ys)) { s with heap:=s.heap.update p f,toks:=t }:=by
 have e:(s.heap.update p f).get? p=some { cls:=.type "list",data:=.seq its'.toArray n' }:=by
   rw [Heap.get?_update_self f ho (by rw [hf] <;> rfl),hf]
 refine I.write (x:=p) (e:=p) (by rw [h];trivial) (.inl rfl) (fun b u hb q=>(Heap.get?_update_other _ _ (Ne.symm hb)).trans q) ⟨_,e⟩ ?_;exact⟨hz,its',n',r,e⟩
noncomputable def a6T:V->V->V->Hp->(Hp->Prop)->Prop:=fun o i v H Q=>∃p xs k j,o=.ref p/\i=.int k/\H p=some (.lst xs)/\ixN xs.length k=some j/\Q (upd H p (.lst (xs.set j v)))
theorem b2i:PSet X a6T:=by
 intro pins s σ H o i v ov iv u Q I ro ri rv h;obtain⟨p,xs,k,j,rfl,rfl,hp,hj,q⟩:=h;cases ro;obtain⟨t,rfl⟩:=ri;obtain⟨its,n,r,ho,hz⟩:=I.lst hp;obtain⟨h1,h2,h3,h4⟩:=b1b hj;have hl:=r.length;have hn:=a4q
 have I':Inv X pins σ (upd H p (.lst (xs.set j v))) { s with heap:=s.heap.update p (x0O (·.setIfInBounds j u)) }:=
   I.lstUpd hp ho (a8W its n j u) (r.set rv j) (by rw [x0B];exact hz) s.toks
 by_cases h0:0<=k
 · have hk:k.toNat=j:=by
     rw [seqIndex_of h0 h4] at h1;exact x0S h1
   exact PySem.W.ki_setAt ho h0 (by omega) (by rw [x0p,<- hl];exact h4) (by rw [hk];exact⟨_,I',q⟩)
 · have hk:(k + (its.toArray.size:Int)).toNat=j:=by
     rw [seqIndex_neg (by omega) h3] at h1;rw [x0p,<- hl];exact x0S h1
   exact PySem.W.ki_setBack ho (by omega) (by rw [x0p,<- hl];exact h3) (by omega) (by rw [hk];exact⟨_,I',q⟩)
theorem a5N (lo hi:Option Int)(n:Nat):(x3T lo hi none n).1=((HT.sIx n 0 lo:Nat):Int)/\(x3T lo hi none n).2.1=((HT.sIx n n hi:Nat):Int)/\(x3T lo hi none n).2.2=1:=by
 refine⟨?_,?_,rfl⟩
 · cases lo with
   | none=>simp [x3T,HT.sIx]
   | some i =>
     simp only [x3T,HT.sIx,Option.getD_none,show(1:Int) > 0 by decide,if_true]
     by_cases h:i < 0
     · simp only [h,if_true] <;> omega
     · simp only [h,if_false] <;> omega
 · cases hi with
   | none=>simp [x3T,HT.sIx]
   | some i =>
     simp only [x3T,HT.sIx,Option.getD_none,show(1:Int) > 0 by decide,if_true]
     by_cases h:i < 0
     · simp only [h,if_true] <;> omega
     · simp only [h,if_false] <;> omega
theorem a5d (its:List Value)(lo hi:Option Int):slicePick its.toArray lo hi none=((its.drop (HT.sIx its.length 0 lo)).take (HT.sIx its.length its.length hi - HT.sIx its.length 0 lo)).toArray:=by
 obtain⟨h1,h2,h3⟩:=a5N lo hi its.toArray.size;unfold slicePick;rw [h1,h2,h3];simp only [sliceRange_one,pick_run,x0p] <;> rfl
noncomputable def rSlL (K:x0a):V->Option Int->Option Int->Hp->VK->Prop:=fun x lo hi H Q=>∃a xs,x=.ref a/\SqL K H a xs/\∀p,H p=none->Q (.ref p) (upd H p (.lst (cutV xs lo hi)))
theorem a6O:SlR X (rSlL X.K):=by
 intro pins s σ H x v vl vu lo hi sl Q I rx hs pl pu h;obtain⟨a,xs,rfl,hx,q⟩:=h;cases rx;obtain⟨its,r,ht,hz⟩:=I.list hx;have hlen:=r.length;refine⟨"list",_,slot_list_getitem.lookup,ht.isList.typeIs,?_⟩;refine wpAny_getItem_list_slice ht.isList hs pl pu .none (by simp) ?_ (by rw [x0p] <;> omega)
 rw [a5d,<- hlen];refine⟨.ref s.heap.objs.size,_,I.laid (t':=s.toks) (o:=.lst (cutV xs lo hi)) (fun b ob q=>x0c _ q) (x0j _) ?_,rfl,q _ (I.hok.fresh (x0j _))⟩;exact⟨x0I (a4w xs lo hi) hz,_,0,(r.drop (HT.sIx xs.length 0 lo)).take (HT.sIx xs.length xs.length hi - HT.sIx xs.length 0 lo),x0s _ rfl⟩
noncomputable def a2E:V->Bool
 | .non=>true
 | .bl _=>true
 | .int _=>true
 | .str _=>true
 | _=>false
noncomputable def eqV:V->V->Bool
 | .non,.non=>true
 | .bl a,.bl b=>a == b
 | .bl a,.int b=>(if a then 1 else 0) == b
 | .int a,.bl b=>a == (if b then 1 else 0)
 | .int a,.int b=>a == b
 | .str a,.str b=>a == b
 | _,_=>false
theorem b4u {A:Around}{s:Shared}{y x:V}{u v:Value}(ry:RelV y u)(rx:RelV x v)(fy:a2E y=true)(fx:a2E x=true):x4x A s u v (eqV y x):=by
 cases y with
 | non =>
   cases ry;cases x with
   | non=>cases rx;exact SeqAt.EqAt.same _
   | bl b=>cases rx;exact SeqAt.EqAt.none_bool b
   | int b=>obtain⟨t,rfl⟩:=rx;exact SeqAt.EqAt.none_int b t
   | str b=>obtain⟨t,rfl⟩:=rx;exact SeqAt.EqAt.none_str b t
   | _=>exact absurd (show false=true from fx) x0E
 | bl a =>
   cases ry;cases x with
   | non=>cases rx;exact SeqAt.EqAt.bool_none a
   | bl b=>cases rx;exact SeqAt.EqAt.bool_bool a b
   | int b=>obtain⟨t,rfl⟩:=rx;exact SeqAt.EqAt.bool_int a b t
   | str b=>obtain⟨t,rfl⟩:=rx;exact SeqAt.EqAt.bool_str a b t
   | _=>exact absurd (show false=true from fx) x0E
 | int a =>
   obtain⟨t',rfl⟩:=ry;cases x with
   | non=>cases rx;exact SeqAt.EqAt.int_none a t'
   | bl b=>cases rx;exact SeqAt.EqAt.int_bool a t' b
   | int b=>obtain⟨t,rfl⟩:=rx;exact SeqAt.EqAt.int_int a t' b t
   | str b=>obtain⟨t,rfl⟩:=rx;exact SeqAt.EqAt.int_str a t' b t
   | _=>exact absurd (show false=true from fx) x0E
 | str a =>
   obtain⟨t',rfl⟩:=ry;cases x with
   | non=>cases rx;exact SeqAt.EqAt.str_none a t'
   | bl b=>cases rx;exact SeqAt.EqAt.str_bool a t' b
   | int b=>obtain⟨t,rfl⟩:=rx;exact SeqAt.EqAt.str_int a t' b t
   | str b=>obtain⟨t,rfl⟩:=rx;exact SeqAt.EqAt.str_str a t' b t
   | _=>exact absurd (show false=true from fx) x0E
 | _=>exact absurd (show false=true from fy) x0E
theorem a6d:OpR X (x1H .NotIn) (fun x y H Q=>∃i j,x=.str i/\y=.str j/\Q (.bl (!(!(x1I j i 0 j.length 1).isEmpty))) H):=by
 intro pins s σ H x y v u Q I rx ry h;obtain⟨i,j,rfl,rfl,q⟩:=h;obtain⟨t,rfl⟩:=rx;obtain⟨t',rfl⟩:=ry;exact notIn_str ⟨.bl _,H,I,rfl,q⟩
theorem a2i:a1W X (.builtin "len") (fun xs H Q=>∃p ys,xs=[.ref p]/\(SqL X.K H p ys\/SqT X.K H p ys)/\Q (.int ys.length) H):=by
 intro pins s σ H xs us Q I r h;obtain⟨p,ys,rfl,hq,q⟩:=h;obtain⟨u,rfl,rx⟩:=a6K r;cases rx;have hn:=a4q;rcases hq with hq | hq
 · obtain⟨its,r',pl,hz⟩:=I.list hq;have hlen:=r'.length;exact Calls.call_len_list pl.isList (by simp only [x0p] <;> omega) ⟨.int ys.length,H,I.tok _,⟨s.toks + 1,by rw [x0p,hlen]⟩,q⟩
 · obtain⟨its,r',pl,hz⟩:=I.tuple hq;have hlen:=r'.length;exact len_tuple pl (by simp only [x0p] <;> omega) ⟨.int ys.length,H,I.tok _,⟨s.toks + 1,by rw [x0p,hlen]⟩,q⟩
theorem a6z:a1W X (.builtin "len") (fun xs H Q=>∃z,xs=[.str z]/\z.length<=x0w/\Q (.int z.length) H):=by
 intro pins s σ H xs us Q I r h;obtain⟨z,rfl,hz,q⟩:=h;obtain⟨u,rfl,t,rfl⟩:=a6K r;have hn:=a4q;exact len_str (by omega) ⟨.int z.length,H,I.tok _,⟨_,rfl⟩,q⟩
theorem a1W.or {f:Value}{r r':List V->Hp->VK->Prop}(h:a1W X f r)(h':a1W X f r'):a1W X f (fun xs H Q=>r xs H Q\/r' xs H Q):=by
 intro pins s σ H xs us Q I rs q;rcases q with q | q
 · exact h pins s σ H xs us Q I rs q
 · exact h' pins s σ H xs us Q I rs q
theorem a3D:a1W X (.type "list") (fun xs H Q=>∃p ys,xs=[.ref p]/\(SqL X.K H p ys\/SqT X.K H p ys)/\∀l,H l=none->Q (.ref l) (upd H l (.lst ys))):=by
 intro pins s σ H xs us Q I r h;obtain⟨p,ys,rfl,hq,q⟩:=h;obtain⟨u,rfl,rx⟩:=a6K r;cases rx
 have fin:∀(its:List Value),Vals ys its->ys.length<=x0w->∀(h':Heap) (c':Nat),(∀b o',s.heap.get? b=some o'->h'.get? b=some o')->
     h'.get? s.heap.objs.size=some { cls:=.type "list",dict:=none,data:=.seq its.toArray c',slots:=#[] }->EP X pins σ Q (.ref s.heap.objs.size) { s with heap:=h' }:=fun its r' hz h' c' kp e=>
   ⟨.ref s.heap.objs.size,_,I.laid (t':=s.toks) kp (x0j _) (show a0U X.prog X.w _ h' _ (.lst ys) from⟨hz,its,c',r',e⟩),rfl,q _ (I.hok.fresh (x0j _))⟩
 rcases hq with hq | hq
 · obtain⟨its,r',pl,hz⟩:=I.list hq;have hlen:=r'.length;obtain⟨o,ho,hc,n,hd⟩:=pl.isList;exact call_list_seq p (.inl rfl) ho hc hd (fun h' c' kp e=>fin its r' hz h' c' kp e) (by simp only [x0p] <;> omega)
 · obtain⟨its,r',pl,hz⟩:=I.tuple hq;have hlen:=r'.length;obtain⟨o,ho,hc,n,hd⟩:=pl;exact call_list_seq p (.inr rfl) ho hc hd (fun h' c' kp e=>fin its r' hz h' c' kp e) (by simp only [x0p] <;> omega)
theorem a5D:a1W X (.type "tuple") (fun xs H Q=>∃p ys,xs=[.ref p]/\((SqL X.K H p ys/\∀l,H l=none->Q (.ref l) (upd H l (.tup ys)))\/(SqT X.K H p ys/\Q (.ref p) H))):=by
 intro pins s σ H xs us Q I r h;obtain⟨p,ys,rfl,h⟩:=h;obtain⟨u,rfl,rx⟩:=a6K r;cases rx;rcases h with⟨hq,q⟩ | ⟨hq,q⟩
 · obtain⟨its,r',pl,hz⟩:=I.list hq;have hlen:=r'.length;refine call_tuple_list pl.isList (fun h' kp=>?_) (by simp only [x0p] <;> omega)
   have I1:Inv X pins σ H { s with heap:=h' }:=I.kept (t':=s.toks) kp
   have I2:Inv X pins σ (upd H h'.objs.size (.tup ys)) { s with heap:=h'.push { cls:=.type "tuple",data:=.seq its.toArray } }:=
     I1.laid (t':=s.toks) (fun b o e=>x0c _ e) (x0j _) (show a0U X.prog X.w _ _ _ (.tup ys) from⟨hz,its,r',a2j.new _ _⟩)
   exact⟨.ref h'.objs.size,_,I2,rfl,q _ (I1.hok.fresh (x0j _))⟩
 · obtain⟨its,r',pl,hz⟩:=I.tuple hq;exact call_tuple_same pl ⟨.ref p,H,I,rfl,q⟩
noncomputable def tyV (K:x0a)(T:String)(x:V)(H:Hp):Prop:=match x with
 | .str _=>T="str"
 | .int _=>T="int"
 | .ref p=>(T="list"/\∃xs,SqL K H p xs)\/(T="tuple"/\((∃o,K.lookup p=some o/\o.cls=.type "tuple"/\o.dict=none)\/∃xs,H p=some (.tup xs)))\/
     (T="dict"/\((∃kvs,H p=some (.dK kvs))\/∃kvs,H p=some (.dT kvs)))\/(T="set"/\∃S n,H p=some (.set S n))
 | _=>False
theorem tyV_is {pins:List (Addr×Obj)}{σ:St}{H:Hp}{s:Shared}{T:String}{x:V}{v:Value}(I:Inv X pins σ H s)(r:RelV x v)(ty:tyV X.K T x H) :
   s.TypeIs v T/\∀a,v=.ref a->∃ob,s.heap.get? a=some ob/\ob.dict=none:=by
 cases x with
 | str z =>
   obtain⟨t,rfl⟩:=r;cases(show T="str" from ty);exact⟨typeIs_str s z t,fun _ e=>nomatch e⟩
 | int i =>
   obtain⟨t,rfl⟩:=r;cases(show T="int" from ty);exact⟨typeIs_int s i t,fun _ e=>nomatch e⟩
 | ref p =>
   cases r;rcases ty with⟨rfl,xs,hq⟩ | ⟨rfl,hk⟩ | ⟨rfl,hk⟩ | ⟨rfl,S,n,hk⟩
   · obtain⟨its,_,pl,_⟩:=I.list hq;refine⟨pl.isList.typeIs,fun a e=>?_⟩;cases e;obtain⟨o,n,e,c,hd,_⟩:=pl;exact⟨o,e,hd⟩
   · rcases hk with⟨o,hk,hc,hd⟩ | ⟨xs,hk⟩
     · refine⟨⟨o,I.kIn p o hk,hc⟩,fun a e=>?_⟩;cases e;exact⟨o,I.kIn _ o hk,hd⟩
     · obtain⟨_,_,_,o,e,c,_⟩:=(show a0U X.prog X.w H s.heap p (.tup xs) from I.hok p _ hk);refine⟨⟨o,e,(x4z c).1⟩,fun a e2=>?_⟩;cases e2;exact⟨o,e,(x4z c).2⟩
   · have z:∃o,s.heap.get? p=some o/\o.ExactDict:=by
       rcases hk with⟨kvs,hk⟩ | ⟨kvs,hk⟩
       · obtain⟨_,_,_,_,o,_,_,e,ex,_⟩:=I.hok p _ hk;exact⟨o,e,ex⟩
       · obtain⟨_,_,_,_,o,_,_,e,ex,_⟩:=I.hok p _ hk;exact⟨o,e,ex⟩
     obtain⟨o,e,ex⟩:=z;refine⟨⟨o,e,ex.1⟩,fun a e2=>?_⟩;cases e2;exact⟨o,e,ex.2.1⟩
   · obtain⟨o,_,_,_,e,ex,_⟩:=I.hok p _ hk;refine⟨⟨o,e,ex.1⟩,fun a e2=>?_⟩;cases e2;exact⟨o,e,ex.2.1⟩
 | _=>exact x2X ty
noncomputable def tBM (K:x0a)(T:String)(r:V->List V->Hp->VK->Prop)(to:TE)(t:TA):TE:=fun σ H Q=>to σ H fun x H1=>tyV K T x H1/\t σ H1 fun xs H2=>r x xs H2 Q
variable {o e:Expr}{es:List Expr}{to:TE}{t:TA}{name:Str}{apos cpos:Pos}{T id:String}{r:V->List V->Hp->VK->Prop}
theorem b0p (pa:PlainAttrs T)(slot:Slot T name id)(hty:typeOf (.builtin id)=pure (.type "method_descriptor"))(hm:MtR X id r)(ho:PE X o to)(ha:PA X (e::es) t)
   (hbase:x2E o name X.env (eval o X.env)=eval o X.env:=by rfl)
   (hfew:((backTo cpos (x0Y (e::es) X.env)).all (fun x=>!x.1) && (x4b cpos (x2l [] X.env)).all (fun x=>x.1.isSome)
     && decide ((e::es).length + ([]:List x3h).length + (if([]:List x3h).isEmpty then 0 else 1) < 30))=true:=by rfl)
   (hline:(apos.endLine == cpos.line)=true:=by rfl) (hs:x0Y (e::es) X.env=(false,eval e X.env)::x0Y es X.env:=by rfl) (hplain:(backTo cpos (x0Y es X.env)).any (·.1)=false:=by rfl) :
   PE X (.Call (.Attribute o name apos) (e::es) [] cpos) (tBM X.K T r to t):=by
 intro pins s σ H Q I h;refine wpAny_Call_method_late hbase hfew hline rfl (thn (ho pins s σ H _ I h) fun v s1 ⟨x,H1,I1,r1,ty,q1⟩=>?_);obtain⟨h1,h2⟩:=tyV_is I1 r1 ty;refine⟨T,id,pa,slot,hty,h1,h2,?_⟩;have hA:=ha cpos pins s1 σ H1 _ I1 q1;rw [hs] at hA ⊢;refine x3O (by show(false || (backTo cpos (x0Y es X.env)).any (·.1))=false;rw [hplain] <;> rfl) (x4r ?_)
 exact thn hA fun us s2 ⟨vs,H2,I2,r2,q2⟩=>hm pins s2 σ H2 x vs v us Q I2 r1 r2 q2
end
noncomputable def MtM (X:Cx)(id:String)(r:V->List V->Hp->VK->Prop):Prop:=
 ∀ (pins : List (Addr × Obj)) (s : Shared) (σ : St) (H : Hp) (x : V) (xs : List V) (v : Value) (us : List Value) (Q : VK), Inv X pins σ H s -> RelV x v -> Vals xs us -> r x xs H Q ->
   wpAny (model X.prog X.w) X.A (call (.builtin id) (v::us)) (EP X pins σ Q) X.xe s
theorem Vals.one {x:V}{us:List Value}(h:Vals [x] us):∃u,us=[u]/\RelV x u:=by
 cases h with | cons r h=>cases h;exact⟨_,rfl,r⟩
section
variable {X:Cx}{pins:List (Addr×Obj)}{σ:St}{H:Hp}{s:Shared}{l b:Addr}{xs ys zs:List V}
theorem Inv.lset {its its':List Value}{n:Nat}{f:Array Value->Array Value}{t':Nat}(I:Inv X pins σ H s)(hH:H l=some (.lst xs))
   (e:s.heap.get? l=some { cls:=.type "list",data:=.seq its.toArray n }) (hf:f its.toArray=its'.toArray) (hv:Vals ys its') (hz:ys.length<=x0w) :
   Inv X pins σ (upd H l (.lst ys)) { s with heap:=s.heap.update l (x0O f),toks:=t' }:=by
 have q:=PySem.IsL.update e f;rw [hf] at q;refine I.write (x:=l) (e:=l) (by rw [hH];exact trivial) (.inl rfl) (fun b' u hb hu=>(Heap.get?_update_other s.heap (x0O f) (Ne.symm hb)).trans hu) ⟨_,q⟩ ?_;exact⟨hz,its',_,hv,q⟩
theorem Inv.lnew {its:List Value}{t':Nat}(I:Inv X pins σ H s)(hv:Vals ys its)(hz:ys.length<=x0w) :
   Inv X pins σ (upd H s.heap.objs.size (.lst ys)) { s with heap:=s.heap.push { cls:=.type "list",data:=.seq its.toArray },toks:=t' }:=
 I.laid (fun _ _ q=>x0c _ q) (x0j _) ⟨hz,its,0,hv,x0s _ rfl⟩
theorem Inv.fresh (I:Inv X pins σ H s):H s.heap.objs.size=none:=I.hok.fresh (x0j _)
theorem Inv.lstM (I:Inv X pins σ H s)(hH:H l=some (.lst xs)):xs.length<=x0w/\∃(its:List Value) (n:Nat),Vals xs its/\xs.length=its.length/\s.heap.get? l=some { cls:=.type "list",data:=.seq its.toArray n }:=by
 obtain⟨z,its,n,r,e⟩:=I.hok l _ hH;exact⟨z,its,n,r,r.length,e⟩
end
section
variable {X:Cx}
noncomputable def a6U:V->List V->Hp->VK->Prop:=fun x vs H Q=>∃l xs y,x=.ref l/\vs=[y]/\H l=some (.lst xs)/\xs.length < x0w/\Q .non (upd H l (.lst (xs++[y])))
theorem a4m:MtM X "list.append" a6U:=by
 intro pins s σ H x vs v us Q I rx rv h;obtain⟨l,xs,y,rfl,rfl,hH,hz,q⟩:=h;cases rx;obtain⟨u,rfl,ru⟩:=rv.one;obtain⟨z,its,n,r,hl,e⟩:=I.lstM hH;refine call_meets F.slot_list_append ⟨_,e,rfl⟩ F.entry_list_append (F.args_list_append_2 _ _) (PySem.list_append l its.toArray n u (by rw [x0p];omega)) ⟨e,?_⟩;refine⟨.non,_,I.lset (its':=its++[u]) hH e (by simp) (r.append (.cons ru .nil)) ?_,rfl,q⟩;rw [x0m,x0K];omega
noncomputable def rCat:R2:=fun x y H Q=>∃l b xs zs,x=.ref l/\y=.ref b/\H l=some (.lst xs)/\H b=some (.lst zs)/\xs.length + zs.length<=x0w/\∀p,H p=none->Q (.ref p) (upd H p (.lst (xs++zs)))
theorem op_cat:OpR X (x3a .Add) rCat:=by
 intro pins s σ H x y v u Q I rx ry h;obtain⟨l,b,xs,zs,rfl,rfl,hH,hB,hz,q⟩:=h;cases rx;cases ry;obtain⟨z,its,n,r,hl,e⟩:=I.lstM hH;obtain⟨z2,its2,n2,r2,hl2,e2⟩:=I.lstM hB;refine PySem.P.add_list e e2 ?_ (by rw [x0p,x0p];omega);have ea:its.toArray++its2.toArray=(its++its2).toArray:=by simp
 rw [ea];exact⟨.ref _,_,I.lnew (t':=s.toks) (r.append r2) (by rw [x0m];omega),rfl,q _ I.fresh⟩
end
end L2
namespace Att
open PySem PySem.W PySem.Calls PyProof.Rows
theorem a4s {P:Params}{h:Heap}:∀(ns:List Int) (vs:List Value),WellAll P h vs (ns.map WData.int)->IntsAre vs ns:=by
 intro ns
 induction ns with
 | nil =>
   intro vs w;rw [x2x] at w;cases w;exact .nil
 | cons n ns ih =>
   intro vs w;rw [x0C] at w;cases w with
   | cons a b =>
     cases a;exact .cons _ _ (ih _ b)
theorem a9M {l:OpenLaw}{n:Nat}(hn:l.most=some n){P:Params}{h:Heap}{args:List WData}{vals:List Value}
   (hpre:l.row.toRowW.claim.pre args=true) (hwl:WellAll P h vals args) :
   ∃a vs ns,vals=[x1r a]/\args=[WData.list (ns.map WData.int)]/\h.get? a=some { cls:=.type "list",data:=.seq vs.toArray }/\IntsAre vs ns/\ns.length<=n:=by
 have hsh:WShape.hasAll [] args [.list .int]=true:=(pre_splitW hpre).1;have hc:l.pre.holds [] { args:=args }=true:=(pre_splitW hpre).2;obtain⟨d,r,rfl,h1,h2⟩:=hasAllW_cons hsh;obtain rfl:=hasAllW_nil h2;obtain⟨xs,rfl,h3⟩:=hasW_list h1;obtain⟨ns,rfl⟩:=items_int h3
 have hlen:ns.length<=n:=by
   unfold OpenLaw.pre at hc
   have h4:(WTm.not (.lt (.lit (.int (n:Int))) (.len (.arg 0)))).holds [] { args:=[.list (ns.map .int)] }=true:=by
     have h4:=(holds_andW hc).1;rw [hn] at h4;exact h4
   have h5:=condW_of h4 (w_not (w_lt w_lit (w_len_list (w_arg rfl))));rw [x0k] at h5;refine x4m fun q=>?_;have q':(n:Int) < ((ns.length:Nat):Int):=by omega
   first
     | (rw [decide_eq_true q'] at h5;exact absurd h5 (by decide))
     | (simp at h5;omega)
 cases hwl with
 | cons w1 w2 =>
   cases w2;cases w1 with
   | list ho hall=>exact⟨_,_,ns,rfl,rfl,ho,a4s ns _ hall,hlen⟩
theorem b0l (l:OpenLaw)(args:List WData):l.row.toRowW.claim.post args (.bool true) args=true:=
 postW_of (r:=l.row.toRowW) (X:=(true == true))
   (show WShape.has [] (.bool true) .bool=true by first | rfl | decide | simp [WShape.has,WShape.arms,WShape.armsAll])
   (show(WTm.eq .res (.lit (.bool true))).value [] { args:=args,res:=some (.bool true),after:=args }=some (.bool (true == true)) from w_eq_bool (w_res rfl) w_lit) rfl
theorem attach_call {l:OpenLaw}{n:Nat}{q:x0D}{loose:List Str}{XP:(Str->Option Value)->Heap->Prop}{YP:World->Heap->Prop}{d:DefRec}
   (hn:l.most=some n) (hdf:d.params.defaults=[])
   (call:∀(w:World) (s₀ s₁:Shared) (mg mb:Str->Option Value) (fa:Addr) (o:Obj) (pm cd doc:Value) (a:Addr) (vs:List Value) (ns:List Int),
     Ground q loose [] XP w s₀ mg mb s₁.heap->YP w s₁.heap->
     s₁.heap.get? fa=some o->o.data=.func (docDef d.name d.params d.body d.scope pm cd doc)->s₁.heap.CodeRec cd d.name->mg d.name=some (.ref fa)->
     s₁.heap.get? a=some { cls:=.type "list",data:=.seq vs.toArray }->IntsAre vs ns->ns.length<=n->s₁.gens=#[]->
     x2q (model l.prog w) callerA (.call (.ref fa) ⟨[.ref a],[]⟩) (fun r s'=>r=.ok (.ret (.bool true))/\OldK s₁.heap s'.heap/\s'.os=s₁.os/\AllBare s'.gens) s₁) :
   WalkO q loose XP YP l.row.toRowW d [] (fun f vs=>PySem.call f vs):=by
 intro w s₀ s₁ mg mb G Y fa o pm cd doc dV kV ho hd hcd hD hmg hg args vals as hpre hlay hrd hwl hlo;obtain rfl:dV=.none:=Dflts.none hD hdf;obtain rfl:kV=.none:=Dflts.noKw hD;obtain⟨a,vs,ns,rfl,rfl,hobj,hints,hlen⟩:=a9M hn hpre hwl;refine enter_call (x4g (call w s₀ s₁ mg mb fa o pm cd doc a vs ns G Y ho (fd_plain hd) hcd hmg hobj hints hlen hg) fun r s' hq=>?_);obtain⟨rfl,h2,h3,h4⟩:=hq;exact⟨.inl ⟨.bool true,.bool true,[],rfl,fun _=>rfl,.bool true,b0l l _,fun _=>⟨List.Pairwise.nil,fun _ hm=>(nomatch hm)⟩⟩,h2,h3,h4⟩
end Att
namespace L2
open PySem PySem.Spec PyProof.Rows
theorem a9A {vs:List Value}{ns:List Int}(h:IntsAre vs ns):Vals (ns.map V.int) vs:=by
 induction h with
 | nil=>exact .nil
 | cons n t _ ih=>exact .cons ⟨t,rfl⟩ ih
noncomputable abbrev KOf {K:x0a}{h:Heap}(_:K.In h):x0a:=K
noncomputable def a1f (s:Stmt):x4T:=match s with
 | .FunctionDef _ a _ _ _ _ _ _ _ _=>a
 | _=>{ posonlyargs:=[],args:=[],vararg:=none,kwonlyargs:=[],kw_defaults:=[],kwarg:=none,defaults:=[] }
noncomputable def a0K (s:Stmt):List Stmt:=match s with
 | .FunctionDef _ _ b _ _ _ _ _ _ _=>b
 | _=>[]
noncomputable def a0i (s:Stmt):Scope:=match s with
 | .FunctionDef _ _ _ _ _ _ sc _ _ _=>sc
 | _=>{ kind:=.function,names:=[],isGenerator:=false,isCoroutine:=false }
noncomputable abbrev CX0:CXT:=fun _ _ _ _ _ _=>False
noncomputable abbrev E0:XK:=fun _ _ _=>False
theorem pass0 {X:Cx}:b1X CX0 X E0:=fun _ _ _ _ _ _ _ h=>h.elim
structure Fun (K:x0a)(x qual:Str)(st:Stmt)(f:Addr)(fd:x3Z):Prop where
 ex:∃(oc:Value) (od:Option Addr) (kV doc pm:Value) (an:Option Addr) (cdv ct:Value) (osl:Array (Option Value)),
   fd=x1W x qual (a1f st) (a0K st) (a0i st) .none kV doc pm an cdv ct/\K.lookup f=some ⟨oc,od,.func fd,osl⟩/\x4O K cdv qual=true
 kp:x4a K (.ref f)=true
section
variable {P:x0D}{w:World}{K:x0a}{mg:Str->Option Value}{base:Heap}
theorem Fun.ok {x qual:Str}{st:Stmt}{f:Addr}{fd:x3Z}{N ps:List Str}{k:Nat}{sp:Sp}(F:Fun K x qual st f fd)(S:a0q N ps (a0i st))(len:∀vs H Q E,sp vs H Q E->vs.length=ps.length)
   (hbody:∀(cdv:Value) (A:Around) (outer:List Env) (s:Shared) (H:Hp) (vs:List V) (Q:VK) (E:XK),Room k (A.deeper (envOfC qual (a0i st) s.heap.objs.size f cdv))->sp vs H Q E->
     ∃t,PSs (cxOf CX0 P w K mg base N qual (a0i st) f cdv A outer s H E).nox (a0K st) t/\t { nx:=fun _ H'=>Q .non H',rt:=Q } (start N vs) H):FnOk P w K mg base CX0 (k + 1) f fd ps sp:=by
 obtain⟨oc,od,kV,doc,pm,an,cdv,ct,osl,rfl,lk,hcd⟩:=F.ex;refine fn_of lk hcd S len fun A outer s H vs Q E hr hsp=>?_;obtain⟨t,h,q⟩:=hbody cdv A outer s H vs Q E hr hsp;exact⟨t,h.nox,q⟩
theorem Fun.binds {x qual:Str}{st:Stmt}{f:Addr}{fd:x3Z}{ps:List Str}(F:Fun K x qual st f fd)
   (h:∀(kV doc pm:Value) (an:Option Addr) (cdv ct:Value) (us:List Value),us.length=ps.length->x4t (x1W x qual (a1f st) (a0K st) (a0i st) .none kV doc pm an cdv ct) ⟨us,[]⟩=pure (ps.zip us)):a9y K fd ps []:=by
 obtain⟨oc,od,kV,doc,pm,an,cdv,ct,osl,rfl,lk,hcd⟩:=F.ex;exact .all (h kV doc pm an cdv ct)
theorem fun_mk {x qual:Str}{st:Stmt}{f:Addr}{oc:Value}{od an:Option Addr}{osl:Array (Option Value)}{kV doc pm cdv ct:Value}(l:K.lookup f=some ⟨oc,od,.func (x1W x qual (a1f st) (a0K st) (a0i st) .none kV doc pm an cdv ct),osl⟩)
   (c:x4O K cdv qual=true) (k:x4a K (.ref f)=true):Fun K x qual st f (x1W x qual (a1f st) (a0K st) (a0i st) .none kV doc pm an cdv ct):=⟨⟨oc,od,kV,doc,pm,an,cdv,ct,osl,rfl,l,c⟩,k⟩
end
theorem a4H {A:Around}{k:Nat}(hr:Room k A):A.units + 1 < cLine:=x3z (Nat.add_le_add_left (by decide:1<=64) _) hr.units
section
variable {X:Cx}
theorem pv (i:Nat){x:Str}{pos:Pos}(hN:X.N[i]?=some x:=by rfl)(hv:Vis X.env.scope x:=by first | exact Or.inl rfl | exact Or.inr (Or.inl rfl) | exact Or.inr (Or.inr rfl))(hd:(x == ("__debug__":Str))=false:=by decide)
   (hcd:(x == ("__classdict__":Str))=false:=by decide):PE X (.Name x pos) (tVar i):=b4g hN hv hd hcd
end
theorem ite2 {c A B:Prop}[Decidable c](h1:c->A)(h2:¬c->B):if c then A else B:=by
 by_cases h:c
 · rw [if_pos h];exact h1 h
 · rw [if_neg h];exact h2 h
noncomputable def Same (H H':Hp):Prop:=∀b o,H b=some o->H' b=some o
theorem Same.refl (H:Hp):Same H H:=fun _ _ h=>h
theorem Same.trans {H H1 H2:Hp}(a:Same H H1)(b:Same H1 H2):Same H H2:=fun c o h=>b c o (a c o h)
end L2
end
section
namespace L2
open PySem PySem.Spec PyProof.Rows
variable {iter:Expr}{cl:List (Str×Addr)}{N:List Str}{cs:List (Option Nat)}{J:It}{tn:Nat->Heap->Prop}{Y:Cx}{W:Nat->Nat->St->Hp->Prop}{tt:TT}
theorem a4y {prog:x0D}{w:World}{A:Around}{R:Result->Shared->Prop}{s:Shared}{elt target:Expr}{ifs:List Expr}{scope:Scope}{pos:Pos}{it acc:Value}{env:Env}(I:Nat->Shared->Prop)
   (turn:∀n s,I n s->wpAny (model prog w) A (pyNext it) (fun r s₁=>match r with
     | none=>R (.ok .next) s₁
     | some v=>wpAny (model prog w) A (x1P target it v) (fun _ s₁'=>wpAny (model prog w) A (assign target env v) (fun _ s₂=>
         wpAny (model prog w) A (forIn ifs true fun c r=>if r=true then do let ok ← isTrue c env (eval c env);pure (x1J ok) else pure (x1J r)) (fun ok s₃=>
           if ok=true then wpAny (model prog w) A (eval elt env) (fun x s₄=>
             wpAny (model prog w) A (call (.builtin "list.append") [acc,x]) (fun _ s₅=>∃m,m < n/\I m s₅) (fun _ _=>False) s₄) (fun _ _=>False) s₃
           else ∃m,m < n/\I m s₃) (fun _ _=>False) s₂) (fun _ _=>False) s₁') (fun _ _=>False) s₁) (fun _ _=>False) s)
   (n:Nat) (h:I n s) :
   x2q (model prog w) A (.compLoop (.ListComp elt [⟨target,iter,ifs,0⟩] scope pos) 0 it acc env) R s:=by
 refine codeAny_loop rfl I (fun n s hI=>?_) n h;show wpAny _ A ((compTurn (.ListComp elt [⟨target,iter,ifs,0⟩] scope pos) 0 it acc env).onRaise (fun x=>do noteFrame x env;x4C x)) _ _ s;refine wpAny_noted ?_;rw [compTurn_list];refine x0b (x1G (x0b (x0F (turn n s hI) (fun r s₁ h₁=>?_) fun _ _ h'=>h'.elim)));cases r with
 | none=>exact x0h h₁
 | some v =>
   refine x0b (x0F h₁ (fun _ s₁' h₁'=>?_) fun _ _ h'=>h'.elim);refine x0b (x0F h₁' (fun _ s₂ h₂=>x0b (x0F h₂ (fun ok s₃ h₃=>?_) fun _ _ h'=>h'.elim)) fun _ _ h'=>h'.elim);cases ok with
   | false=>exact x0h ⟨rfl,h₃⟩
   | true =>
     exact x0b (x0b (x0F h₃ (fun x s₄ h₄=>x0b (x0F h₄ (fun _ s₅ h₅=>x0h (x0h ⟨rfl,h₅⟩)) fun _ _ h'=>h'.elim)) fun _ _ h'=>h'.elim))
noncomputable def a0o (X:Cx)(scope:Scope)(cl:List (Str×Addr))(N:List Str)(fp:List Addr)(C:Addr)(s:Shared)(H:Hp):Cx where
 prog:=X.prog
 w:=X.w
 K:=X.K
 mg:=X.mg
 base:=X.base
 A:=X.A
 N:=N
 s₀:=s
 H₀:=H
 env:=compEnvC scope cl C X.env
 outer:=X.stack
 stack:=X.stack
 ex:=fp
 fn:=fun _=>false
 calm:=X.calm
 pn:=X.pn
 xe:=fun _ _=>False
structure a0L (X:Cx)(scope:Scope)(cl:List (Str×Addr))(N:List Str)(cs:List (Option Nat)):Prop where
 clos:closureFor scope X.env=pure cl
 kind:scope.kind=.function
 nocell:∀y∈scope.names,y.2≠.cell
 names:∀y∈scope.names,y.2=.local->scope.names.lookup y.1=some .local
 sub:∀x c,cl.lookup x=some c->X.env.cells.lookup x=some c
 has:∀x,((relabel scope X.env).names.lookup x=some .cell\/(relabel scope X.env).names.lookup x=some .free)->∃c,cl.lookup x=some c
 len:cs.length=N.length
 cap:∀(k j:Nat) (x:Str),cs[k]?=some (some j)->N[k]?=some x->X.N[j]?=some x/\Vis X.env.scope x/\X.env.kindOf x≠some .local/\(∃c,cl.lookup x=some c)/\((relabel scope X.env).names.lookup x=some .cell\/(relabel scope X.env).names.lookup x=some .free)
noncomputable def b1V:List (Str×Addr)->List (Str×Addr)->Prop
 | [],_=>True
 | y::r,cells=>cells.lookup y.1=some y.2/\b1V r cells
theorem b1V.get:∀{cl cells:List (Str×Addr)},b1V cl cells->∀x c,cl.lookup x=some c->cells.lookup x=some c
 | [],_,_,_,_,h=>by cases h
 | (y, d) :: r, cells, ⟨h1, h2⟩, x, c, h => by
   rw [x4n] at h;cases e:x == y with
   | true =>
     rw [e] at h;have ey:x=y:=by simpa using e
     cases h;rw [ey];exact h1
   | false=>rw [e] at h;exact b1V.get h2 x c h
theorem a1b {X:Cx}{scope:Scope}(clos:closureFor scope X.env=pure cl)(kind:scope.kind=.function)(nocell:(scope.names.all fun y=>!(y.2 == .cell))=true)
   (names:(scope.names.all fun y=>!(y.2 == .local) || scope.names.lookup y.1 == some .local)=true) (sub:b1V cl X.env.cells)
   (has:((relabel scope X.env).names.all fun y=>!(y.2 == .cell || y.2 == .free) || (cl.lookup y.1).isSome)=true) (len:cs.length=N.length)
   (cap:((cs.zip N).all fun y=>match y.1 with | none=>true | some j=>X.N[j]? == some y.2 && (X.env.scope.names.lookup y.2 == some .cell || X.env.scope.names.lookup y.2 == some .free) && (cl.lookup y.2).isSome &&
     ((relabel scope X.env).names.lookup y.2 == some .cell || (relabel scope X.env).names.lookup y.2 == some .free))=true):a0L X scope cl N cs:=by
 refine⟨clos,kind,fun y hy=>?_,fun y hy e=>?_,sub.get,fun x hx=>?_,len,fun k j x hk hN=>?_⟩
 · have:=x1j.mp nocell y hy;intro z;rw [z] at this;cases this
 · have:=x1j.mp names y hy;rw [e] at this
   simpa using this
 · rcases hx with hx | hx
   · have:=x1j.mp has _ (x1x hx);exact x2r.mp (by simpa using this)
   · have:=x1j.mp has _ (x1x hx);exact x2r.mp (by simpa using this)
 · have hz:(cs.zip N)[k]?=some (some j,x):=by rw [List.getElem?_zip_eq_some];exact⟨hk,hN⟩
   have:=x1j.mp cap _ (x0A hz);simp only [x2I,Bool.or_eq_true,beq_iff_eq] at this;obtain⟨⟨⟨h1,h2⟩,h3⟩,h4⟩:=this;refine⟨h1,?_,?_,x2r.mp h3,h4⟩
   · rcases h2 with h2 | h2
     · exact .inr (.inl h2)
     · exact .inr (.inr h2)
   · intro z;have z':X.env.scope.names.lookup x=some .local:=z;rw [z'] at h2;rcases h2 with h2 | h2 <;> cases h2
noncomputable def a6x (cs:List (Option Nat))(σ:St):St:=cs.map fun o=>o.bind fun j=>(σ[j]?).bind id
noncomputable def PIf (X:Cx)(ifs:List Expr)(t:TT):Prop:=
 ∀ (pins : List (Addr × Obj)) (s : Shared) (σ : St) (H : Hp) (Q : Bool -> Hp -> Prop), Inv X pins σ H s -> t σ H Q ->
   wpAny (model X.prog X.w) X.A (forIn ifs true fun c r=>if r=true then do let ok ← isTrue c X.env (eval c X.env);pure (x1J ok) else pure (x1J r)) (TP X pins σ Q) X.xe s
noncomputable def tTru:TT:=fun _ H Q=>Q true H
theorem a7d {X:Cx}:PIf X [] tTru:=fun pins s σ H Q I h=>wpAny_tests_nil ⟨H,I,h⟩
theorem b5m {X:Cx}{c:Expr}{t:TT}(h:PT X c t):PIf X [c] t:=fun pins s σ H Q I hq=>wpAny_tests_one (h pins s σ H Q I hq)
noncomputable def b6p (J:It)(g:TG)(tt:TT)(te:TE)(Q:VK)(D:Addr)(σc:St)(H1:Hp):Prop:=∃W:Nat->Nat->St->Hp->Prop,(∃m,W 0 m σc H1)/\
 ∀i m σ' H',W i m σ' H'->(J.stop i H'/\Q (.ref D) H')\/(J.go i H'/\∀x H2,J.yld i H' x H2->g x σ' H2 fun σ3 H3=>tt σ3 H3 fun b H4=>
    if b=true then te σ3 H4 fun v H5=>∃ys,H5 D=some (.lst ys)/\ys.length < x0w/\∃m',m' < m/\W (i + 1) m' σ3 (upd H5 D (.lst (ys++[v])))
    else ∃m',m' < m/\W (i + 1) m' σ3 H4)
noncomputable def tComp (cs:List (Option Nat))(wi:TI)(g:TG)(tt:TT)(te:TE):TE:=fun σ H Q=>wi σ H fun J H1=>∀D,H1 D=none->b6p J g tt te Q D (a6x cs σ) (upd H1 D (.lst []))
theorem a5y {X:Cx}{scope:Scope}(S:a0L X scope cl N cs){pins:List (Addr×Obj)}{σ:St}{H:Hp}{s:Shared}{fp:List Addr}{h₁:Heap}{tk:Nat}
   (I:Inv X pins σ H s) (f2:∀b∈fp,FpOk X pins H b) (ho:∀b∈fp,∃o,s.heap.get? b=some o)
   (old:∀b o,s.heap.get? b=some o->h₁.get? b=some o) (hns:h₁.Ns (s.heap.objs.size + 1) (fun x=>([]:List (Str×Value)).reverse.lookup x))
   (hD:h₁.get? s.heap.objs.size=some { cls:=.type "list",data:=.seq ([]:List Value).toArray }) :
   Inv (a0o X scope cl N fp (s.heap.objs.size + 1) s H) pins (a6x cs σ) (upd H s.heap.objs.size (.lst [])) { s with heap:=h₁,toks:=tk }:=by
 have lt:∀b o,s.heap.get? b=some o->b < s.heap.objs.size:=fun b o e=>x0n e;have neC:∀b o,s.heap.get? b=some o->b≠s.heap.objs.size + 1:=fun b o e=>x0r (x0R (lt b o e));have neD:∀b o,s.heap.get? b=some o->b≠s.heap.objs.size:=fun b o e=>x0r (lt b o e);have nstk:∀b,b≠X.env.locals->b∉X.fs->b∉frs X.stack:=fun b h1 h2 hb=>(x0i.mp (I.stkSub b hb)).elim h1 h2
 have cellO:∀x c,cl.lookup x=some c->∃v o,s.heap.get? c=some o/\s.heap.IsCell c v:=fun x c e=>by
   obtain⟨v,q⟩:=I.cell x c (S.sub x c e);obtain⟨o,h1,_⟩:=id q;exact⟨v,o,h1,q⟩
 refine⟨⟨I.ok.mod,S.kind,I.ok.glob,I.ok.blt,x3p _,fun x y c h1 h2=>I.ok.inj x y c (S.sub x c h1) (S.sub y c h2),fun x hx=>S.has x hx,fun x c hx=>(by cases hx),I.ok.hd,I.ok.frames,.inl rfl,fun b hb=>?_,I.bs,x0I I.ok.bsz I.sz,fun b o e hb=>?_,fun b hb=>?_,I.stack,I.stkFree,I.nos⟩,
   rfl,I.bare,Un.laid old (x0j _) I.fresh I.bigS,⟨_,hns,fun i x v e1 e2 e3=>?_⟩,fun x c e=>?_,?_,fun x c e=>?_,fun p hp=>?_,I.hok.laid old (x0j _) ⟨x0L _,[],0,.nil,hD⟩,?_⟩
 · obtain⟨o,e⟩:=ho b hb;exact⟨neC b o e,fun x c ec=>(f2 b hb).2.2.2.2.1 x c (S.sub x c ec)⟩
 · rcases(f2 b hb).2.2.2.1 with z | z
   · exact I.ok.noex b o e z
   · exact absurd (x0x (x0n e) (x0I I.ok.bsz z)) (x2C _)
 · exact nstk b (f2 b hb).2.1 (f2 b hb).2.2.1
 · have e2':(cs.map fun o=>o.bind fun j=>(σ[j]?).bind id)[i]?=some (some v):=e2;rw [x0v] at e2';cases ec:cs[i]? with
   | none=>rw [ec] at e2';cases e2'
   | some o =>
     rw [ec] at e2';cases o with
     | none=>cases e2'
     | some j =>
       have e2'':(σ[j]?).bind id=some v:=by simpa using e2'
       cases es:σ[j]? with
       | none=>rw [es] at e2'';cases e2''
       | some ov =>
         rw [es] at e2'';have e4:ov=some v:=by simpa using e2''
         subst e4;obtain⟨hN,hv,hnl,⟨c,hc⟩,hk⟩:=S.cap i j x ec e1;obtain⟨m,hn,hl⟩:=I.loc;obtain⟨u,r,l⟩:=hl j x v hN es hv;refine⟨u,r,?_⟩;rcases l with⟨hk',_⟩ | ⟨_,c',hc',z⟩
         · exact absurd hk' hnl
         · have ecc:c'=c:=by
             have:=S.sub x c hc;rw [hc'] at this;exact x0S this
           subst ecc;obtain⟨o,h1,h2⟩:=z;exact .inr ⟨hk,c',hc,⟨o,old _ o h1,h2⟩⟩
 · obtain⟨v,o,h1,o',h2,h3⟩:=cellO x c e;exact⟨v,o',old _ o' h2,h3⟩
 · show upd H s.heap.objs.size (.lst []) (s.heap.objs.size + 1)=none;rw [a0e (Nat.succ_ne_self _)];exact I.hok.fresh (x3p _)
 · obtain⟨v,o,h1,_⟩:=cellO x c e;rw [a0e (neD c o h1)];exact I.freeC x c (S.sub x c e)
 · obtain⟨e,n,ne,nf,d⟩:=I.pin p hp;exact⟨old _ _ e,by rw [a0e (neD _ _ e)];exact n,neC _ _ e,nstk _ ne nf,d⟩
 · show(cs.map _).length=N.length;rw [x0k];exact S.len
theorem Inv.uncomp {X:Cx}{scope:Scope}{pins:List (Addr×Obj)}{σ σ':St}{H H':Hp}{s s':Shared}{fp:List Addr}{h':Heap}
   (I:Inv X pins σ H s) (f2:∀b∈fp,FpOk X pins H b)
   (J:Inv (a0o X scope cl N fp (s.heap.objs.size + 1) s H) pins σ' H' s') (hs:∀b,b≠s.heap.objs.size + 1->h'.get? b=s'.heap.get? b) :
   Inv X pins σ H' { s' with heap:=h' }:=by
 obtain⟨hh,g,d,t,os'⟩:=s';obtain rfl:os'=s.os:=J.os;have U:Un (frs X.stack) fp H H' s.heap hh:=J.base;have old:∀b o,s.heap.get? b=some o->b≠s.heap.objs.size + 1:=fun b o e=>x0r (x0R (x0n e));have hs':∀b,b≠s.heap.objs.size + 1->h'.get? b=hh.get? b:=hs
 have trC:∀b u,H' b=some u->b≠s.heap.objs.size + 1:=fun b u e z=>by
   have q:H' (s.heap.objs.size + 1)=none:=J.free;rw [z,q] at e;cases e
 show Inv X pins σ H' { s with heap:=h',gens:=g,drawn:=d,toks:=t };refine I.call (h':=h') (g':=g) (d':=d) (t':=t) (ch:=fp) ⟨fun b o e n hb hx=>?_,fun b o e n hb hx=>?_,U.free,fun b o e hx=>?_,U.tups,U.frzs,U.tbls,U.sys⟩ (fun b u e=>?_) J.bare fun b hb=>?_
 · rw [hs' b (old b o e)];exact U.keep b o e n hb hx
 · rw [hs' b (old b o e)];exact U.slot b o e n hb hx
 · rw [hs' b (old b o e)];exact U.there b o e hx
 · refine(J.hok b u e).stay (fun c v hc q=>?_) (fun _ q=>q) fun _ _ q=>q
   have ne:c≠s.heap.objs.size + 1:=by
     rcases hc with z | z
     · rw [z];exact trC b u e
     · exact trC c _ z
   rw [hs' c ne];exact q
 · exact⟨(f2 b hb).2.2.2.1,(f2 b hb).2.1,(f2 b hb).2.2.2.2.1,(f2 b hb).2.2.2.2.2⟩
theorem a5G {P:x0D}{w:World}{K:x0a}{tg:Expr}{fp:List Addr}{it:Addr}{pins:List (Addr×Obj)}{i n:Nat}{s5 s7:Shared}{σ7:St}{H7:Hp}(T:Turn P w K tg J fp it tn)(st5:tn (i + 1) s5.heap)(I7:Inv Y (pins++a4g fp s5.heap) σ7 H7 s7)(n7:∃m',m' < n/\W (i + 1) m' σ7 H7):∃m,m < n/\∃i σ' H',Inv Y pins σ' H' s7/\tn i s7.heap/\(∀b∈fp,H' b=none)/\W i m σ' H':=by
 obtain⟨m',hm,w7⟩:=n7;have pn:∀b∈fp,∀o,s5.heap.get? b=some o->_:=fun b hb o e=>I7.pin (b,o) (x0u _ (x0u _ (a1H hb e)));refine⟨m',hm,i + 1,σ7,H7,I7.unpinned,T.keep _ _ _ st5 fun b hb o e=>(pn b hb o e).1,fun b hb=>?_,w7⟩;obtain⟨o,e,d⟩:=T.obj _ _ st5 b hb;exact(pn b hb o e).2.1
theorem a6L {pins:List (Addr×Obj)}{tg elt:Expr}{ifs:List Expr}{g:TG}{te:TE}{fp:List Addr}{it D:Addr}{N:St->Hp->Prop}{Rn:Shared->Prop}(T:Turn Y.prog Y.w Y.K tg J fp it tn)(hc:Y.calm=true)(stat:∀{H':Hp},(∀b∈fp,H' b=none)->∀b∈fp,FpOk Y pins H' b)(hg:PG Y tg g)(hf:PIf Y ifs tt)(he:PE Y elt te)(fin:∀s σ H,Inv Y pins σ H s->N σ H->Rn s)
   (turn:∀i m σ' H',W i m σ' H'->(J.stop i H'/\N σ' H')\/(J.go i H'/\∀x H2,J.yld i H' x H2->g x σ' H2 fun σ3 H3=>tt σ3 H3 fun b H4=>
    if b=true then te σ3 H4 fun v H5=>∃ys,H5 D=some (.lst ys)/\ys.length < x0w/\∃m',m' < m/\W (i + 1) m' σ3 (upd H5 D (.lst (ys++[v])))
    else ∃m',m' < m/\W (i + 1) m' σ3 H4)) (n:Nat) (s:Shared) (hI:∃i σ' H',Inv Y pins σ' H' s/\tn i s.heap/\(∀b∈fp,H' b=none)/\W i n σ' H') :
   wpAny (model Y.prog Y.w) Y.A (pyNext (.ref it)) (fun r s₁=>match r with
     | none=>Rn s₁
     | some v=>wpAny (model Y.prog Y.w) Y.A (x1P tg (.ref it) v) (fun _ s₁'=>wpAny (model Y.prog Y.w) Y.A (assign tg Y.env v) (fun _ s₂=>
         wpAny (model Y.prog Y.w) Y.A (forIn ifs true fun c r=>if r=true then do let ok ← isTrue c Y.env (eval c Y.env);pure (x1J ok) else pure (x1J r)) (fun ok s₃=>
           if ok=true then wpAny (model Y.prog Y.w) Y.A (eval elt Y.env) (fun x s₄=>
             wpAny (model Y.prog Y.w) Y.A (call (.builtin "list.append") [.ref D,x]) (fun _ s₅=>∃m,m < n/\∃i σ' H',Inv Y pins σ' H' s₅/\tn i s₅.heap/\(∀b∈fp,H' b=none)/\W i m σ' H') Y.xe s₄) Y.xe s₃
           else ∃m,m < n/\∃i σ' H',Inv Y pins σ' H' s₃/\tn i s₃.heap/\(∀b∈fp,H' b=none)/\W i m σ' H') Y.xe s₂) Y.xe s₁') Y.xe s₁) Y.xe s:=by
 obtain⟨i,σ3,H3,I3,st3,fr3,w3⟩:=hI;rcases turn i n σ3 H3 w3 with⟨stop,qn⟩ | ⟨go,step⟩
 · refine thn (T.done Y rfl rfl rfl hc i pins s σ3 H3 Y.xe I3 (stat fr3) st3 stop) fun r s4 ⟨hr,I4⟩=>?_;subst hr;exact fin s4 σ3 H3 I4 qn
 · refine thn (T.item Y rfl rfl rfl hc i pins s σ3 H3 Y.xe I3 (stat fr3) st3 go) fun r s4 ⟨u,hr,h4⟩=>?_;subst hr;refine thn h4 fun _ s5 ⟨x,H5,I5,r5,y5,st5,fr5⟩=>?_;refine thn (hg _ s5 σ3 H5 x u _ (I5.pinned (stat fr5) (T.obj _ _ st5)) r5 (step x H5 y5)) fun _ s6 ⟨σ6,H6,I6,q6⟩=>?_;refine thn (hf _ s6 σ6 H6 _ I6 q6) fun ok s7 ⟨H7,I7,q7⟩=>?_;cases ok with
   | false=>exact a5G T st5 I7 q7
   | true =>
     refine thn (he _ s7 σ6 H7 _ I7 q7) fun y s8 ⟨v8,H8,I8,r8,ys,e8,z8,n8⟩=>?_;have ma:=a4m (X:=Y) _ s8 σ6 H8 (.ref D) [v8] (.ref D) [y] (fun v H9=>∃m',m' < n/\W (i + 1) m' σ6 H9) I8 rfl (.cons r8 .nil) ⟨_,ys,v8,rfl,rfl,e8,z8,n8⟩;exact thn ma fun _ s9 ⟨v9,H9,I9,_,q9⟩=>a5G T st5 I9 q9
theorem a7f {X:Cx}{scope:Scope}{elt tg:Expr}{ifs:List Expr}{pos:Pos}{wi:TI}{g:TG}{te:TE}(S:a0L X scope cl N cs)(hc:X.calm=true)(hi:PI X tg iter wi)
   (hb:∀(fp:List Addr) (C:Addr) (s:Shared) (H:Hp),PG (a0o X scope cl N fp C s H) tg g/\PIf (a0o X scope cl N fp C s H) ifs tt/\PE (a0o X scope cl N fp C s H) elt te)
   (hs:∀x,x0U iter X.env x=pure x:=by intro _;rfl) :
   PE X (.ListComp elt [⟨tg,iter,ifs,0⟩] scope pos) (tComp cs wi g tt te):=by
 intro pins s σ H Q I h;rw [eval_ListComp];refine x2s (use:=none) rfl hs S.clos S.kind S.names (thn (hi pins s σ H _ I h) fun v s1 h1=>thn h1 fun itv s2 h2=>?_);obtain⟨it,fp,tn,J,H2,rfl,I2,T,st2,f2,q⟩:=h2
 have ho:∀b∈fp,∃o,s2.heap.get? b=some o:=fun b hb=>by
   obtain⟨o,e,_⟩:=T.obj 0 _ st2 b hb;exact⟨o,e⟩
 refine x0T (x2n S.nocell (by intro y hy;simp at hy) (fun h₁ hns₁ hsb₁=>?_) S.kind);dsimp only at hns₁ hsb₁ ⊢;have hC:(s2.heap.push { cls:=.type "list",dict:=none,data:=.seq ([]:List Value).toArray }).objs.size=s2.heap.objs.size + 1:=by rw [x1O]
 generalize hH2:s2.heap.push { cls:=.type "list",dict:=none,data:=.seq ([]:List Value).toArray }=hp2 at hns₁ hsb₁ hC ⊢;have old:∀b o,s2.heap.get? b=some o->h₁.get? b=some o:=fun b o e=>hsb₁.extBut b o (by rw [hC];exact x0r (x0R (x0n e))) (x0c _ (hH2▸x0c _ e));have hD:h₁.get? s2.heap.objs.size=some { cls:=.type "list",data:=.seq ([]:List Value).toArray }:=hsb₁.extBut _ _ (by rw [hC];exact x0r (x3l _)) (x0c _ (hH2▸x0s _ rfl));rw [hC] at hns₁ ⊢;obtain⟨W,⟨m0,w0⟩,turn⟩:=q s2.heap.objs.size I2.fresh;have Ic:=a5y S (tk:=s2.toks + ([]:List (Str×Value)).length) I2 f2 ho old hns₁ hD;have nstk:∀b,b≠X.env.locals->b∉X.fs->b∉frs X.stack:=fun b h1 h2 hb=>(x0i.mp (I2.stkSub b hb)).elim h1 h2
 have stat:∀{H':Hp},(∀b∈fp,H' b=none)->∀b∈fp,FpOk (a0o X scope cl N fp (s2.heap.objs.size + 1) s2 H2) pins H' b:=fun hn b hb=>by
   obtain⟨o,e⟩:=ho b hb;exact⟨hn b hb,x0r (x0R (x0n e)),nstk b (f2 b hb).2.1 (f2 b hb).2.2.1,.inl hb,fun x c ec=>(f2 b hb).2.2.2.2.1 x c (S.sub x c ec),(f2 b hb).2.2.2.2.2⟩
 obtain⟨hg,hf,he⟩:=hb fp (s2.heap.objs.size + 1) s2 H2;have st1:tn 0 h₁:=T.keep _ _ _ st2 fun b hb o e=>old b o e
 have fr1:∀b∈fp,upd H2 s2.heap.objs.size (.lst []) b=none:=fun b hb=>by
   obtain⟨o,e⟩:=ho b hb;rw [a0e (x0r (x0n e))];exact(f2 b hb).1
 have loop:∀s₃:Shared,s₃={ s2 with heap:=h₁,toks:=s2.toks + ([]:List (Str×Value)).length }->
     x2q (model X.prog X.w) X.A (.compLoop (.ListComp elt [⟨tg,iter,ifs,0⟩] scope pos) 0 (.ref it) (.ref s2.heap.objs.size) (compEnvC scope cl (s2.heap.objs.size + 1) X.env))
       (compPost (model X.prog X.w) X.A X.xe none (EP X pins σ Q) (.ref s2.heap.objs.size) (s2.heap.objs.size + 1)) s₃:=by
   rintro s₃ rfl;refine a4y _ (a6L (Y:=a0o X scope cl N fp (s2.heap.objs.size + 1) s2 H2) T hc stat hg hf he (fun s4 σ3 H3 I4 qn=>?_) turn) m0 ⟨0,_,_,Ic,st1,fr1,w0⟩;obtain⟨m4,hn4,_⟩:=I4.loc;exact⟨m4,hn4,fun h' hs'=>⟨.ref s2.heap.objs.size,H3,Inv.uncomp I2 f2 I4 fun b hb=>hs'.2 b hb,rfl,qn⟩⟩
 exact x3P (loop _ rfl) (T.self _ 0 _ _ _ st1 (loop _ rfl))
end L2
end
section
namespace L2
open PySem PySem.Spec PyProof.Rows
section
variable {X:Cx}
theorem Vals.getE {xs:List V}{us:List Value}(r:Vals xs us){j:Nat}(h:j < us.length):∃x,xs[j]?=some x/\RelV x us[j]:=by
 have hl:=r.length;have h':j < xs.length:=by omega
 obtain⟨u,e,q⟩:=r.get (i:=j) (x:=xs[j]) (by simp [h']);refine⟨xs[j],by simp [h'],?_⟩;have e':us[j]?=some us[j]:=by simp [h]
 rw [e'] at e;cases e;exact q
theorem a8k {x:V}(h:a2E x=true):eqV x x=true:=by
 cases x <;> simp_all [a2E,eqV]
theorem Inv.turnedNew {pins:List (Addr×Obj)}{σ:St}{H:Hp}{s:Shared}{h':Heap}{t':Nat}{ch:List Addr}{xs:List V}(I:Inv X pins σ H s)(k:∀b o,b∉ch->s.heap.get? b=some o->h'.get? b=some o)
   (hf:∀b∈ch,FpOk X pins H b) (new:a0U X.prog X.w (upd H s.heap.objs.size (.tup xs)) h' s.heap.objs.size (.tup xs)):Inv X pins σ (upd H s.heap.objs.size (.tup xs)) { s with heap:=h',toks:=t' }:=by
 have nch:∀b u,H b=some u->b∉ch:=fun b u e z=>by rw [(hf b z).1] at e;cases e
 have nD:∀b o,s.heap.get? b=some o->b≠s.heap.objs.size:=fun b o e=>x0r (x0n e)
 refine I.step (g':=s.gens) (d':=s.drawn) (ch:=ch) (fun b hb=>⟨(hf b hb).2.2.2.1,(hf b hb).2.1,(hf b hb).2.2.2.2.1,(hf b hb).2.2.2.2.2⟩) (fun b o _ _ hc e _=>k b o hc e) (fun b o _ _ hc e _=>⟨o.slots,k b o hc e⟩) (fun b o _ e n=>by rw [a0e (nD b o e)];exact n)
   (fun b o hc e=>⟨o,k b o hc e⟩) (fun b ys e=>by rw [a0e (a0G e I.fresh)];exact e) (fun b o u e=>by rw [a0e (a0G e I.fresh)];exact e) (fun b ps e=>⟨#[],by rw [a0e (a0G e I.fresh),e];simp⟩) (fun z=>by unfold NS;rw [a0e (x0r I.bigS)];exact z) (fun m hm=>?_) (fun b u e=>?_) I.bare
 · obtain⟨o,es,ep,ho,r⟩:=hm;exact⟨o,es,ep,k _ o (fun z=>(hf _ z).2.1 rfl) ho,r⟩
 · by_cases hb:b=s.heap.objs.size
   · subst hb;rw [a0f] at e;cases e;exact new
   · rw [a0e hb] at e;refine(I.hok b u e).stay (fun c v hc q=>k c v ?_ q) (fun c q=>by rw [a0e (a0G q I.fresh)];exact q) fun c ys q=>by rw [a0e (a0G q I.fresh)];exact q
     rcases hc with z | z
     · rw [z];exact nch b u e
     · exact nch c _ z
end
end L2
end
section
namespace L2
open PySem PySem.Spec PyProof.Rows
theorem a8t:x1s "len"=some (.builtin "len"):=by decide +kernel
theorem bt_min:x1s "min"=some (.builtin "min"):=by decide +kernel
theorem a6B:x1s "sorted"=some (.builtin "sorted"):=by decide +kernel
theorem bt_repr:x1s "repr"=some (.builtin "repr"):=by decide +kernel
theorem b4A:x1s "int"=some (.type "int"):=by decide +kernel
theorem b1O:x1s "list"=some (.type "list"):=by decide +kernel
theorem b3H:x1s "tuple"=some (.type "tuple"):=by decide +kernel
theorem b6k:x1s "dict"=some (.type "dict"):=by decide +kernel
theorem bt_set:x1s "set"=some (.type "set"):=by decide +kernel
theorem at_map {ns:List Int}{k:Int}(h0:0<=k)(h:k < (ns.length:Int)):∃v,atI (ns.map V.int) k=some (.int v):=by
 have hk:k.toNat < ns.length:=by omega
 have q:atI (ns.map V.int) ((k.toNat:Nat):Int)=some (.int ns[k.toNat]):=a2G (by rw [x0v,x0f hk] <;> rfl)
 rw [show((k.toNat:Nat):Int)=k by omega] at q;exact⟨_,q⟩
structure Kn (P:x0D)(w:World)(K:x0a)(mg:Str->Option Value)(base:Heap)(x:Str)(k:Nat)(ps:List Str)(sp:Sp):Prop where
 ex:∃(f:Addr) (fd:x3Z),FnOk P w K mg base CX0 k f fd ps sp/\a9y K fd ps []/\x4a K (.ref f)=true/\mg x=some (.ref f)/\∃oc od osl,K.lookup f=some ⟨oc,od,.func fd,osl⟩
structure Fn0 (K:x0a)(mg:Str->Option Value)(x:Str)(st:Stmt):Prop where
 ex:∃(f:Addr) (fd:x3Z),Fun K x x st f fd/\mg x=some (.ref f)
theorem a0H {K:x0a}{h:Heap}{mg:Str->Option Value}{x:Str}{st:Stmt}(X:K.In h)(G:h.Ns x1T mg){f:Addr}{oc:Value}{od an:Option Addr}{osl:Array (Option Value)}{kV doc pm cdv ct:Value}
   (a:PySem.W.nsIn K x1T x=some (some (.ref f))) (l:K.lookup f=some ⟨oc,od,.func (x1W x x (a1f st) (a0K st) (a0i st) .none kV doc pm an cdv ct),osl⟩)
   (c:x4O K cdv x=true) (k:x4a K (.ref f)=true):Fn0 K mg x st:=⟨f,_,fun_mk l c k,PySem.W.mg_of X G a⟩
section
variable {P:x0D}{w:World}{K:x0a}{mg:Str->Option Value}{base:Heap}
theorem Fn0.ok {x:Str}{st:Stmt}{N ps:List Str}{k:Nat}{sp:Sp}(F:Fn0 K mg x st)(S:a0q N ps (a0i st))(len:∀vs H Q E,sp vs H Q E->vs.length=ps.length)
   (bd:∀(kV doc pm:Value) (an:Option Addr) (cdv ct:Value) (us:List Value),us.length=ps.length->x4t (x1W x x (a1f st) (a0K st) (a0i st) .none kV doc pm an cdv ct) ⟨us,[]⟩=pure (ps.zip us))
   (hbody:∀(f:Addr) (cdv:Value) (A:Around) (outer:List Env) (s:Shared) (H:Hp) (vs:List V) (Q:VK) (E:XK),Room k (A.deeper (envOfC x (a0i st) s.heap.objs.size f cdv))->sp vs H Q E->
     ∃t,PSs (cxOf CX0 P w K mg base N x (a0i st) f cdv A outer s H E).nox (a0K st) t/\t { nx:=fun _ H'=>Q .non H',rt:=Q } (start N vs) H):Kn P w K mg base x (k + 1) ps sp:=by
 obtain⟨f,fd,F1,m⟩:=F.ex
 have lk:∃oc od osl,K.lookup f=some ⟨oc,od,.func fd,osl⟩:=by
   obtain⟨oc,od,kV,doc,pm,an,cdv,ct,osl,_,lk,hcd⟩:=F1.ex;exact⟨oc,od,osl,lk⟩
 exact⟨f,fd,F1.ok S len fun cdv A outer s H vs Q E hr h=>hbody f cdv A outer s H vs Q E hr h,F1.binds bd,F1.kp,m,lk⟩
theorem Kn.imp {x:Str}{k:Nat}{ps:List Str}{sp sp':Sp}(G:Kn P w K mg base x k ps sp)(h:∀vs H Q E,sp' vs H Q E->sp vs H Q E):Kn P w K mg base x k ps sp':=by
 obtain⟨f,fd,a,b,c,d⟩:=G.ex;exact⟨f,fd,a.imp h,b,c,d⟩
end
section
variable {X:Cx}{x:Str}{p pos:Pos}{e:Expr}{es:List Expr}{t:TA}{ps:List Str}{sp:Sp}{j k:Nat}
theorem pe_fn (G:Kn X.prog X.w X.K X.mg X.base x k ps sp)(hr:Room j X.A)(hk:k<=j)(hg:Gl X x)(ha:PA X (e::es) t)(hdb:(x == ("__debug__":Str))=false:=by decide)
   (he:x0Y (e::es) X.env=(false,eval e X.env)::x0Y es X.env:=by rfl) (hpl:(backTo pos (x0Y es X.env)).any (·.1)=false:=by rfl) :
   PE X (.Call (.Name x p) (e::es) [] pos) (tCall sp [] E0 t):=by
 intro pins s σ H Q I h;obtain⟨f,fd,F,hb,hkp,hm,_⟩:=G.ex;exact b5t F (hr.mono hk) hg hm hkp hb .nil pass0 ha hdb he hpl pins s σ H Q I h
end
end L2
end
section
namespace L2
open PySem PySem.Spec PyProof.Rows
section
variable {X:Cx}
theorem a8S:OpR X (x3a .Mult) (fun x y H Q=>∃i n,x=.str i/\y=.int n/\i.length<=100/\0<=n/\n<=1000/\Q (.str (Txt.mul i n)) H):=by
 intro pins s σ H x y v u Q I rx ry h;obtain⟨i,n,rfl,rfl,h1,h2,h3,q⟩:=h;obtain⟨t,rfl⟩:=rx;obtain⟨t',rfl⟩:=ry;exact SB.mul (mulOk_of 100 1000 h1 h3 (by omega) (by decide) (by decide)) fun t' tk=>⟨.str _,H,I.tok _,⟨_,rfl⟩,q⟩
theorem a4x (x y:Str):(x++y).cps.toList=x.cps.toList++y.cps.toList:=by
 show(x.cps++y.cps).toList=_;simp
theorem a2x (x:Str):x.length=x.cps.toList.length:=by
 show x.cps.size=_;simp
end
theorem Same.lay {H H':Hp}{p:Addr}{o:HO}(s:Same H H')(h:H' p=none):Same H (upd H' p o):=fun b u e=>by
 rw [a0e (a0G (s b u e) h)];exact s b u e
theorem b2c {c:TT}{t u:TS}{D:Ends}{σ:St}{H:Hp}(p:St->Hp->Prop)(h:(∀σ' H',p σ' H'->D.nx σ' H')->tIfS c t u D σ H)(hp:∀σ' H',p σ' H'->D.nx σ' H'):tIfS c t u D σ H:=h hp
theorem a5x {n:Nat}{d:Int}(h0:0<=d)(h1:d < n):ixN n d=some d.toNat:=by
 unfold ixN;rw [if_pos h0,if_pos h1]
theorem b1R {α:Type}{xs:List α}{d:Int}(h0:0<=d)(h1:d < xs.length):∃x,xs[d.toNat]?=some x/\atI xs d=some x:=by
 have hk:d.toNat < xs.length:=by omega
 refine⟨xs[d.toNat],x0f hk,?_⟩;unfold atI;rw [a5x h0 h1];exact x0f hk
end L2
end
section
namespace L2
open PySem PySem.Spec PyProof.Rows
section
variable {X:Cx}
theorem b0t:OpR X (x1H .LtE) (fun x y H Q=>∃i j,x=.str i/\y=.str j/\Q (.bl (!decide (j.cps.toList < i.cps.toList))) H):=by
 intro pins s σ H x y v u Q I rx ry h;obtain⟨i,j,rfl,rfl,q⟩:=h;obtain⟨t,rfl⟩:=rx;obtain⟨t',rfl⟩:=ry;exact PySem.P.le_str ⟨.bl _,H,I,rfl,q⟩
noncomputable def rSlS:V->Option Int->Option Int->Hp->VK->Prop:=fun x lo hi H Q=>∃z,x=.str z/\z.length<=x0w/\Q (.str (x2J z lo hi)) H
theorem sl_str:SlR X rSlS:=by
 intro pins s σ H x v vl vu lo hi sl Q I rx hs pl pu h;obtain⟨z,rfl,hz,q⟩:=h;obtain⟨t,rfl⟩:=rx;refine⟨"str",_,F.slot_str_getitem.lookup,typeIs_str _ _ _,?_⟩;cases pl with
 | none =>
   cases pu with
   | none=>exact x2F (l:=none) (u:=none) (st:=none) hs rfl (x4D ⟨x0I (x4i z _ _) hz,fun t' k=>⟨.str _,H,I.tok _,⟨_,rfl⟩,q⟩⟩)
   | int j tj=>exact x2F (l:=none) (u:=some (j,tj)) (st:=none) hs rfl (x4D ⟨x0I (x4i z _ _) hz,fun t' k=>⟨.str _,H,I.tok _,⟨_,rfl⟩,q⟩⟩)
 | int i ti =>
   cases pu with
   | none=>exact x2F (l:=some (i,ti)) (u:=none) (st:=none) hs rfl (x4D ⟨x0I (x4i z _ _) hz,fun t' k=>⟨.str _,H,I.tok _,⟨_,rfl⟩,q⟩⟩)
   | int j tj=>exact x2F (l:=some (i,ti)) (u:=some (j,tj)) (st:=none) hs rfl (x4D ⟨x0I (x4i z _ _) hz,fun t' k=>⟨.str _,H,I.tok _,⟨_,rfl⟩,q⟩⟩)
noncomputable def rCatA (K:x0a):R2:=fun x y H Q=>∃a b xs ys,x=.ref a/\y=.ref b/\SqT K H a xs/\SqT K H b ys/\xs.length + ys.length<=x0w/\
 (xs=[]->Q (.ref b) H)/\(xs≠[]->ys=[]->Q (.ref a) H)/\(xs≠[]->ys≠[]->∀p,H p=none->Q (.ref p) (upd H p (.tup (xs++ys))))
theorem b5x:OpR X (x3a .Add) (rCatA X.K):=by
 intro pins s σ H x y v u Q I rx ry h;obtain⟨a,b,xs,ys,rfl,rfl,ha,hb,hz,q0,q1,q2⟩:=h
 by_cases hx:xs=[]
 · cases rx;cases ry;obtain⟨its,r1,p1,_⟩:=I.tuple ha;obtain⟨its2,r2,p2,_⟩:=I.tuple hb;obtain⟨⟨cls,dd,data,sl⟩,ho,hc,n,hd⟩:=id p1;obtain⟨⟨cls2,dd2,data2,sl2⟩,ho2,hc2,n2,hd2⟩:=id p2;simp only at hc hd hc2 hd2;subst hc hd hc2 hd2;have he:its=[]:=r1.nil_iff.mpr hx
   exact concat_meets ⟨_,ho,rfl⟩ ⟨_,ho2,rfl⟩ noFill_tuple_add seq_tuple_add x3N x3y (x3s _ _)
     (tuple_addW0 a b its.toArray its2.toArray n n2 dd dd2 sl sl2 (by simp [he])) ⟨ho,ho2,⟨.ref b,H,I,rfl,q0 hx⟩⟩
 · exact b5w pins s σ H _ _ v u Q I rx ry ⟨a,b,xs,ys,rfl,rfl,ha,hb,hx,hz,q1 hx,q2 hx⟩
theorem Inv.big {pins:List (Addr×Obj)}{σ:St}{H:Hp}{s:Shared}(I:Inv X pins σ H s):x1g < s.heap.objs.size:=by
 have h:x1T < s.heap.objs.size:=(I.mod.glob.keeps I.bk).lt;exact Nat.lt_trans (by decide) h
theorem a8o {P:x0D}{w:World}{H:Hp}(h:Heap)(hb:x1g < h.objs.size):a0U P w H (h.push { cls:=.type "dict",data:=.dict #[] }) h.objs.size (.dK []):=
 ⟨x0L _,beq_eq_false_iff_ne.mpr (Ne.symm (x0r hb)),[],.nil,x4W h⟩
noncomputable def tDNewK:TE:=fun _ H Q=>∀p,H p=none->Q (.ref p) (upd H p (.dK []))
theorem b2Q {pos:Pos}:PE X (.Dict [] [] pos) tDNewK:=fun pins s σ H Q I h=>
 wpAny_Dict_empty ⟨.ref s.heap.objs.size,_,I.laid (a:=s.heap.objs.size) (o:=.dK []) (t':=s.toks) (fun _ _ q=>x0c _ q) (x0j _) (a8o s.heap I.big),rfl,h _ (I.hok.fresh (x0j _))⟩
end
end L2
end
section
namespace Pu
open PySem PySem.Spec L2
inductive PV where
 | non | bl (b:Bool) | int (i:Int) | str (x:Str) | ty (n:String) | pot (k:Nat)
 | tup (xs:List PV) | lst (xs:List PV) | dct (ks:List Key) (xs:List PV)
 /-- the script -/
 | scr (ns:List Int)
 /-- a dict by tuples that nothing changes any more -/
 | fdt (ks:List (List Key)) (xs:List PV)
structure Gh where
 M:List Addr
 pots:List Addr
noncomputable def KLst (K:x0a)(a:Addr)(xs:List V):Prop:=∃(o:Obj) (its:Array Value) (n:Nat),K.lookup a=some o/\o.cls=.type "list"/\o.dict=none/\o.data=.seq its n/\its.size<=x0w/\Vals xs its.toList
noncomputable def AtL (M:List Addr)(H:Hp)(a:Addr)(xs:List V):Prop:=a∉M/\H a=some (.lst xs)
noncomputable def AtT (M:List Addr)(H:Hp)(a:Addr)(xs:List V):Prop:=a∉M/\H a=some (.tup xs)
theorem AtL.sq {K:x0a}{M:List Addr}{H:Hp}{a:Addr}{xs:List V}(h:AtL M H a xs):SqL K H a xs:=SqL.of h.2
theorem AtT.sq {K:x0a}{M:List Addr}{H:Hp}{a:Addr}{xs:List V}(h:AtT M H a xs):SqT K H a xs:=SqT.of h.2
mutual
noncomputable def Rep (K:x0a)(G:Gh)(H:Hp):PV->V->Prop
 | .non,v=>v=.non
 | .bl b,v=>v=.bl b
 | .int i,v=>v=.int i
 | .str x,v=>v=.str x
 | .ty n,v=>v=.ty n
 | .pot k,v=>∃p,G.pots[k]?=some p/\v=.ref p
 | .tup xs,v=>∃a vs,v=.ref a/\AtT G.M H a vs/\Reps K G H xs vs
 | .lst xs,v=>∃a vs,v=.ref a/\AtL G.M H a vs/\Reps K G H xs vs
 | .scr ns,v=>∃a,v=.ref a/\((a∉G.M/\∃o,H a=some (.frz o (.lst (ns.map V.int))))\/KLst K a (ns.map V.int))
 | .dct ks xs,v=>∃a kvs,v=.ref a/\a∉G.M/\H a=some (.dK kvs)/\kvs.map (·.1)=ks/\Reps K G H xs (kvs.map (·.2))
 | .fdt ks xs,v=>∃a kvs,v=.ref a/\a∉G.M/\Rd H a (.dT kvs)/\kvs.map (·.1)=ks/\Reps K G H xs (kvs.map (·.2))
noncomputable def Reps (K:x0a)(G:Gh)(H:Hp):List PV->List V->Prop
 | [],vs=>vs=[]
 | x::xs,vs=>∃v r,vs=v::r/\Rep K G H x v/\Reps K G H xs r
end
section
variable {K:x0a}{G G':Gh}{H H':Hp}
theorem Rd.keep {a:Addr}{u:HO}(h:Rd H a u)(k:∀o,H a=some o->H' a=some o):Rd H' a u:=h.elim (fun e=>.inl (k _ e)) fun⟨o,e⟩=>.inr ⟨o,k _ e⟩
theorem Rd.ne {a:Addr}{u:HO}(h:Rd H a u):H a≠none:=fun z=>h.elim (fun e=>by rw [z] at e;cases e) fun⟨o,e⟩=>by rw [z] at e;cases e
mutual
theorem Rep.mono (hk:∀b o,b∉G.M->H b=some o->H' b=some o)(hM:∀a∈G'.M,a∈G.M\/H a=none)(hp:∀(k:Nat) (p:Addr),G.pots[k]?=some p->G'.pots[k]?=some p):∀(x:PV) (v:V),Rep K G H x v->Rep K G' H' x v
 | .non,v,h=>h
 | .bl b,v,h=>h
 | .int i,v,h=>h
 | .str x,v,h=>h
 | .ty n,v,h=>h
 | .pot k, v, h => by
   obtain⟨p,e,r⟩:=h;exact⟨p,hp k p e,r⟩
 | .tup xs, v, h => by
   obtain⟨a,vs,e,t,r⟩:=h;refine⟨a,vs,e,?_,Reps.mono hk hM hp xs vs r⟩;obtain⟨n,t⟩:=t;exact⟨fun z=>(hM a z).elim n (fun z=>by rw [z] at t;cases t),hk a _ n t⟩
 | .lst xs, v, h => by
   obtain⟨a,vs,e,t,r⟩:=h;refine⟨a,vs,e,?_,Reps.mono hk hM hp xs vs r⟩;obtain⟨n,t⟩:=t;exact⟨fun z=>(hM a z).elim n (fun z=>by rw [z] at t;cases t),hk a _ n t⟩
 | .scr ns, v, h => by
   obtain⟨a,e,h⟩:=h;refine⟨a,e,?_⟩;rcases h with⟨n,o,t⟩ | h
   · exact .inl ⟨fun z=>(hM a z).elim n (fun z=>by rw [z] at t;cases t),o,hk a _ n t⟩
   · exact .inr h
 | .dct ks xs, v, h => by
   obtain⟨a,kvs,e,n,t,ek,r⟩:=h;exact⟨a,kvs,e,fun z=>(hM a z).elim n (fun z=>by rw [z] at t;cases t),hk a _ n t,ek,Reps.mono hk hM hp xs _ r⟩
 | .fdt ks xs, v, h => by
   obtain⟨a,kvs,e,n,t,ek,r⟩:=h;exact⟨a,kvs,e,fun z=>(hM a z).elim n (fun z=>Rd.ne (u:=.dT kvs) t z),Rd.keep (u:=.dT kvs) t (fun o e=>hk a o n e),ek,Reps.mono hk hM hp xs _ r⟩
theorem Reps.mono (hk:∀b o,b∉G.M->H b=some o->H' b=some o)(hM:∀a∈G'.M,a∈G.M\/H a=none)(hp:∀(k:Nat) (p:Addr),G.pots[k]?=some p->G'.pots[k]?=some p):∀(xs:List PV) (vs:List V),Reps K G H xs vs->Reps K G' H' xs vs
 | [],vs,h=>h
 | x :: xs, vs, h => by
   obtain⟨v,r,e,hx,hr⟩:=h;exact⟨v,r,e,Rep.mono hk hM hp x v hx,Reps.mono hk hM hp xs r hr⟩
end
theorem Rep.same {x:PV}{v:V}(h:Rep K G H x v)(s:Same H H'):Rep K G H' x v:=Rep.mono (fun b o _ e=>s b o e) (fun a z=>.inl z) (fun _ _ e=>e) x v h
theorem Reps.same {x:List PV}{v:List V}(h:Reps K G H x v)(s:Same H H'):Reps K G H' x v:=Reps.mono (fun b o _ e=>s b o e) (fun a z=>.inl z) (fun _ _ e=>e) x v h
noncomputable def Fr (G:Gh)(H H':Hp):Prop:=∀b o,b∉G.M->H b=some o->H' b=some o
theorem Fr.refl:Fr G H H:=fun _ _ _ e=>e
theorem Fr.trans {H2:Hp}(a:Fr G H H')(b:Fr G H' H2):Fr G H H2:=fun c o n e=>b c o n (a c o n e)
theorem Fr.of (s:Same H H'):Fr G H H':=fun b o _ e=>s b o e
theorem Rep.fr {x:PV}{v:V}(h:Rep K G H x v)(s:Fr G H H'):Rep K G H' x v:=Rep.mono s (fun a z=>.inl z) (fun _ _ e=>e) x v h
theorem Reps.fr {x:List PV}{v:List V}(h:Reps K G H x v)(s:Fr G H H'):Reps K G H' x v:=Reps.mono s (fun a z=>.inl z) (fun _ _ e=>e) x v h
theorem Reps.length:∀{xs:List PV} {vs:List V},Reps K G H xs vs->xs.length=vs.length
 | [],vs,h=>by cases(show vs=[] from h);rfl
 | x :: xs, vs, h => by
   obtain⟨v,r,e,hx,hr⟩:=h;subst e;simp [Reps.length hr]
theorem Reps.get:∀{xs:List PV} {vs:List V} {i:Nat} {v:V},Reps K G H xs vs->vs[i]?=some v->∃x,xs[i]?=some x/\Rep K G H x v
 | [],vs,i,v,h,e=>by cases(show vs=[] from h);simp at e
 | x :: xs, vs, i, v, h, e => by
   obtain⟨w,r,e1,hx,hr⟩:=h;subst e1;cases i with
   | zero=>simp at e;subst e;exact⟨x,rfl,hx⟩
   | succ i=>simpa using Reps.get (i:=i) hr (by simpa using e)
theorem Reps.get':∀{xs:List PV} {vs:List V} {i:Nat} {x:PV},Reps K G H xs vs->xs[i]?=some x->∃v,vs[i]?=some v/\Rep K G H x v:=fun {xs vs i x} h e=>by
 obtain⟨hi,_⟩:=x0l.mp e;have hl:=h.length;have e2:vs[i]?=some (vs[i]'(by omega)):=x0f (by omega);obtain⟨y,ey,r⟩:=h.get e2;rw [e] at ey;cases ey;exact⟨_,e2,r⟩
theorem Reps.append:∀{xs ys:List PV} {vs us:List V},Reps K G H xs vs->Reps K G H ys us->Reps K G H (xs++ys) (vs++us)
 | [],ys,vs,us,h,h'=>by cases(show vs=[] from h);exact h'
 | x :: xs, ys, vs, us, h, h' => by
   obtain⟨w,r,e1,hx,hr⟩:=h;subst e1;exact⟨w,r++us,rfl,hx,Reps.append hr h'⟩
theorem Reps.take:∀{xs:List PV} {vs:List V} (n:Nat),Reps K G H xs vs->Reps K G H (xs.take n) (vs.take n)
 | xs,vs,0,h=>by simp [Reps]
 | [],vs,n + 1,h=>by cases(show vs=[] from h);exact rfl
 | x :: xs, vs, n + 1, h => by
   obtain⟨w,r,e1,hx,hr⟩:=h;subst e1;exact⟨w,r.take n,rfl,hx,Reps.take n hr⟩
theorem Reps.drop:∀{xs:List PV} {vs:List V} (n:Nat),Reps K G H xs vs->Reps K G H (xs.drop n) (vs.drop n)
 | xs,vs,0,h=>by simpa using h
 | [],vs,n + 1,h=>by cases(show vs=[] from h);exact rfl
 | x :: xs, vs, n + 1, h => by
   obtain⟨w,r,e1,hx,hr⟩:=h;subst e1;exact Reps.drop n hr
theorem Reps.one {x:PV}{v:V}(h:Rep K G H x v):Reps K G H [x] [v]:=⟨v,[],rfl,h,rfl⟩
theorem Reps.set:∀{xs:List PV} {vs:List V} (n:Nat) {x:PV} {v:V},Reps K G H xs vs->Rep K G H x v->Reps K G H (xs.set n x) (vs.set n v)
 | [],vs,n,x,v,h,_=>by cases(show vs=[] from h);exact rfl
 | y :: xs, vs, 0, x, v, h, h' => by
   obtain⟨w,r,e1,hx,hr⟩:=h;subst e1;exact⟨v,r,rfl,h',hr⟩
 | y :: xs, vs, n + 1, x, v, h, h' => by
   obtain⟨w,r,e1,hx,hr⟩:=h;subst e1;exact⟨w,r.set n v,rfl,hx,Reps.set n hr h'⟩
noncomputable def MutO:HO->Prop
 | .lst _=>True
 | .dK _=>True
 | .dT _=>True
 | .set _ _=>True
 | .tbl _=>True
 | _=>False
end
inductive OK where
 | lst | dk (ks:List Key) | dt (ks:List (List Key)) | st (zs:List Key)
noncomputable def memS (zs:List Key)(k:Key):Bool:=zs.any fun z=>decide (z=k)
noncomputable def mkO:OK->List V->HO
 | .lst,vs=>.lst vs
 | .dk ks,vs=>.dK (ks.zip vs)
 | .dt ks,vs=>.dT (ks.zip vs)
 | .st zs,_=>.set (memS zs) zs.length
theorem b0D (k:OK)(vs:List V):MutO (mkO k vs):=by cases k <;> trivial
inductive Slot where
 | v (x:PV)
 | ow (k:OK) (xs:List PV)
noncomputable abbrev Slot.own (xs:List PV):Slot:=.ow .lst xs
noncomputable abbrev Env:=List (Option Slot)
structure PotK where
 at_:List Addr->Hp->Addr->Nat->Prop
 mono:∀{M H p n m},at_ M H p n->n<=m->at_ M H p m
 keep:∀{M H H' p n},at_ M H p n->H' p=H p->(∀b o,b∉M->H b=some o->H' b=some o)->at_ M H' p n
 more:∀{M M' H p n},at_ M H p n->(∀a∈M',a∈M\/H a=none)->at_ M' H p n
 mu:∀{M H p n},at_ M H p n->∃o,H p=some o/\MutO o
 /-- what is known of all pots together -/
 has:List Addr->Prop:=fun _=>True
 hasM:∀{l:List Addr} {p:Addr},has l->p∉l->has (l++[p]):=by intro _ _ _ _;trivial
structure Ct where
 K:x0a
 T:PotK
 M0:List Addr
 pots0:List Addr
 H0:Hp
 np:Bool
noncomputable def b1W (C:Ct)(G:Gh)(H:Hp)(o:Option (Option V)):Slot->Prop
 | .v x=>∃v,o=some (some v)/\Rep C.K G H x v
 | .ow k xs=>∃a vs,o=some (some (.ref a))/\a∈G.M/\a∉C.M0/\a∉G.pots/\H a=some (mkO k vs)/\Reps C.K G H xs vs
structure SR (C:Ct)(G:Gh)(σ:St)(H:Hp)(env:Env)(n:Nat):Prop where
 frame:∀b o,b∉C.pots0->C.H0 b=some o->H b=some o
 sub:∀a∈G.M,a∈C.M0\/C.H0 a=none
 sup:∀a∈C.M0,a∈G.M
 pots:∀p∈G.pots,p∈G.M/\C.T.at_ G.M H p n
 pre:∃l,G.pots=C.pots0++l/\(l=[]\/C.np=true)
 mu:∀a∈G.M,∃o,H a=some o/\MutO o
 slots:∀(i:Nat) (s:Slot),env[i]?=some (some s)->b1W C G H (σ[i]?) s
 inj:∀(i j:Nat) (xs ys:OK×List PV) (a:Addr),env[i]?=some (some (.ow xs.1 xs.2))->env[j]?=some (some (.ow ys.1 ys.2))->σ[i]?=some (some (.ref a))->σ[j]?=some (some (.ref a))->i=j
 p0:(∀p∈C.pots0,p∈C.M0)/\C.T.has G.pots
 len:env.length=σ.length
 newp:∀p∈G.pots,p∉C.pots0->p∈C.M0->False
section
variable {C:Ct}{G G':Gh}{σ:St}{H H':Hp}{env:Env}{n:Nat}
theorem SR.hasG (S:SR C G σ H env n):C.T.has G.pots:=S.p0.2
theorem SR.fresh (S:SR C G σ H env n){p:Addr}(h:H p=none):p∉G.M:=fun z=>by
 obtain⟨o,e,_⟩:=S.mu p z;rw [h] at e;cases e
theorem SR.same (S:SR C G σ H env n)(s:Same H H'):SR C G σ H' env n where
 frame b o hb e:=s b o (S.frame b o hb e)
 sub:=S.sub
 sup:=S.sup
 pots p hp:=⟨(S.pots p hp).1,C.T.keep (S.pots p hp).2 (by
   obtain⟨o,e,_⟩:=C.T.mu (S.pots p hp).2
   rw [e,s p o e]) fun b o _ e=>s b o e⟩
 pre:=S.pre
 mu a ha:=by
   obtain⟨o,e,m⟩:=S.mu a ha;exact⟨o,s a o e,m⟩
 slots i x e:=by
   have:=S.slots i x e;cases x with
   | v x =>
     obtain⟨v,e1,r⟩:=this;exact⟨v,e1,r.same s⟩
   | ow kk xs =>
     obtain⟨a,vs,e1,h1,h2,h3,h4,r⟩:=this;exact⟨a,vs,e1,h1,h2,h3,s _ _ h4,r.same s⟩
 inj:=S.inj
 p0:=S.p0
 len:=S.len
 newp:=S.newp
theorem Same.lay1 {p:Addr}{o:HO}(h:H p=none):Same H (upd H p o):=(Same.refl H).lay h
end
end Pu
end
section
namespace Pu
open PySem PySem.Spec L2
noncomputable abbrev PK:=PV->Env->Nat->Prop
noncomputable abbrev pE:=Env->Nat->PK->Prop
noncomputable abbrev pT:=Env->Nat->(Bool->Env->Nat->Prop)->Prop
noncomputable abbrev pA:=Env->Nat->(List PV->Env->Nat->Prop)->Prop
noncomputable abbrev pF:=List PV->Nat->(PV->Nat->Prop)->Prop
noncomputable def RdV (K:x0a)(G:Gh)(H:Hp)(x:PV)(v:V):Prop:=Rep K G H x v\/∃a vs xs,x=.lst xs/\v=.ref a/\H a=some (.lst vs)/\Reps K G H xs vs
noncomputable def RdS (C:Ct)(G:Gh)(σ:St)(H:Hp)(env:Env)(x:PV)(v:V):Prop:=Rep C.K G H x v\/∃(i:Nat) (a:Addr) (xs:List PV),env[i]?=some (some (.ow .lst xs))/\σ[i]?=some (some (.ref a))/\x=.lst xs/\v=.ref a
noncomputable def EOk (K:x0a)(T:PotK)(t:TE)(pe:pE):Prop:=∀(C:Ct) (G:Gh) (σ:St) (H:Hp) (env:Env) (n:Nat) (R:PK) (Q:VK),C.K=K->C.T=T->SR C G σ H env n->pe env n R->
 (∀x env' n' v H',R x env' n'->SR C G σ H' env' n'->Rep K G H' x v->Fr G H H'->Q v H')->t σ H Q
noncomputable def ROk (K:x0a)(T:PotK)(t:TE)(pe:pE):Prop:=∀(C:Ct) (G:Gh) (σ:St) (H:Hp) (env:Env) (n:Nat) (R:PK) (Q:VK),C.K=K->C.T=T->SR C G σ H env n->pe env n R->
 (∀x env' n' v H',R x env' n'->SR C G σ H' env' n'->RdS C G σ H' env' x v->Fr G H H'->Q v H')->t σ H Q
noncomputable def NOk (K:x0a)(T:PotK)(t:TE)(pn:pA):Prop:=∀(C:Ct) (G:Gh) (σ:St) (H:Hp) (env:Env) (n:Nat) (R:List PV->Env->Nat->Prop) (Q:VK),C.K=K->C.T=T->SR C G σ H env n->pn env n R->
 (∀xs env' n' a vs Hb,R xs env' n'->SR C G σ Hb env' n'->Fr G H Hb->Hb a=none->Reps K G Hb xs vs->Q (.ref a) (upd Hb a (.lst vs)))->t σ H Q
noncomputable def TOk (K:x0a)(T:PotK)(t:TT)(pt:pT):Prop:=∀(C:Ct) (G:Gh) (σ:St) (H:Hp) (env:Env) (n:Nat) (R:Bool->Env->Nat->Prop) (Q:Bool->Hp->Prop),C.K=K->C.T=T->SR C G σ H env n->pt env n R->
 (∀b env' n' H',R b env' n'->SR C G σ H' env' n'->Fr G H H'->Q b H')->t σ H Q
noncomputable def AOk (K:x0a)(T:PotK)(t:TA)(pa:pA):Prop:=∀(C:Ct) (G:Gh) (σ:St) (H:Hp) (env:Env) (n:Nat) (R:List PV->Env->Nat->Prop) (Q:List V->Hp->Prop),C.K=K->C.T=T->SR C G σ H env n->pa env n R->
 (∀xs env' n' vs H',R xs env' n'->SR C G σ H' env' n'->Reps K G H' xs vs->Fr G H H'->Q vs H')->t σ H Q
structure EW (X:Cx)(e:Expr)(t:TE):Prop where
 h:PE X e t
structure SW (X:Cx)(st:Stmt)(t:TS):Prop where
 h:PS X st t
structure GW (X:Cx)(e:Expr)(g:TG):Prop where
 h:PG X e g
theorem vw {X:Cx}(i:Nat){x:Str}{pos:Pos}(hN:X.N[i]?=some x:=by rfl)(hv:Vis X.env.scope x:=by first | exact Or.inl rfl | exact Or.inr (Or.inl rfl) | exact Or.inr (Or.inr rfl))(hd:(x == ("__debug__":Str))=false:=by decide)(hcd:(x == ("__classdict__":Str))=false:=by decide):EW X (.Name x pos) (tVar i):=⟨b4g hN hv hd hcd⟩
noncomputable def QE {ι:Type}(T:PotK)(K:x0a)(F:ι->Cx)(e:Expr)(pe:pE):Prop:=∃t,(∀z,PE (F z) e t)/\EOk K T t pe
noncomputable def QR {ι:Type}(T:PotK)(K:x0a)(F:ι->Cx)(e:Expr)(pe:pE):Prop:=∃t,(∀z,PE (F z) e t)/\ROk K T t pe
noncomputable def QN {ι:Type}(T:PotK)(K:x0a)(F:ι->Cx)(e:Expr)(pn:pA):Prop:=∃t,(∀z,PE (F z) e t)/\NOk K T t pn
noncomputable def QT {ι:Type}(T:PotK)(K:x0a)(F:ι->Cx)(e:Expr)(pt:pT):Prop:=∃t,(∀z,PT (F z) e t)/\TOk K T t pt
noncomputable def QW {ι:Type}(T:PotK)(K:x0a)(F:ι->Cx)(e:Expr)(pt:pT):Prop:=∃t,(∀z,PW (F z) e t)/\TOk K T t pt
noncomputable def QA {ι:Type}(T:PotK)(K:x0a)(F:ι->Cx)(es:List Expr)(pa:pA):Prop:=∃t,(∀z,PA (F z) es t)/\AOk K T t pa
section
variable {T:PotK}{ι:Type}{K:x0a}{F:ι->Cx}{e a b:Expr}{es:List Expr}{pe pa pb:pE}
theorem Reps.nil {K:x0a}{G:Gh}{H:Hp}:Reps K G H [] []:=rfl
theorem Reps.cons {K:x0a}{G:Gh}{H:Hp}{x:PV}{xs:List PV}{v:V}{vs:List V}(h:Rep K G H x v)(h':Reps K G H xs vs):Reps K G H (x::xs) (v::vs):=⟨v,vs,rfl,h,h'⟩
theorem RdS.rd {C:Ct}{G:Gh}{σ:St}{H:Hp}{env:Env}{n:Nat}{x:PV}{v:V}(S:SR C G σ H env n)(h:RdS C G σ H env x v):RdV C.K G H x v:=by
 rcases h with h | ⟨i,a,xs,e1,e2,ex,ev⟩
 · exact .inl h
 · obtain⟨a',vs,e3,_,_,_,h4,r⟩:=S.slots i _ e1;rw [e2] at e3;cases e3;exact .inr ⟨a,vs,xs,ex,ev,h4,r⟩
theorem RdS.fr {C:Ct}{G:Gh}{σ:St}{H H':Hp}{env:Env}{x:PV}{v:V}(h:RdS C G σ H env x v)(f:Fr G H H'):RdS C G σ H' env x v:=by
 rcases h with h | h
 · exact .inl (h.fr f)
 · exact .inr h
theorem RdV.lst {K:x0a}{G:Gh}{H:Hp}{xs:List PV}{v:V}(h:RdV K G H (.lst xs) v):∃a vs,v=.ref a/\SqL K H a vs/\Reps K G H xs vs:=by
 rcases h with⟨a,vs,e,t,r⟩ | ⟨a,vs,ys,ex,ev,h4,r⟩
 · exact⟨a,vs,e,t.sq,r⟩
 · cases ex;exact⟨a,vs,ev,SqL.of h4,r⟩
theorem RdV.rep {K:x0a}{G:Gh}{H:Hp}{x:PV}{v:V}(h:RdV K G H x v)(hx:∀xs,x≠.lst xs):Rep K G H x v:=by
 rcases h with h | ⟨a,vs,ys,ex,ev,h4,r⟩
 · exact h
 · exact absurd ex (hx ys)
theorem RdV.tup {K:x0a}{G:Gh}{H:Hp}{xs:List PV}{v:V}(h:RdV K G H (.tup xs) v):∃a vs,v=.ref a/\SqT K H a vs/\Reps K G H xs vs:=by
 obtain⟨a,vs,e,t,r⟩:=h.rep (fun _ z=>nomatch z);exact⟨a,vs,e,t.sq,r⟩
theorem RdV.int {K:x0a}{G:Gh}{H:Hp}{i:Int}{v:V}(h:RdV K G H (.int i) v):v=.int i:=h.rep (fun _ z=>nomatch z)
theorem RdV.str {K:x0a}{G:Gh}{H:Hp}{i:Str}{v:V}(h:RdV K G H (.str i) v):v=.str i:=h.rep (fun _ z=>nomatch z)
theorem RdV.bl {K:x0a}{G:Gh}{H:Hp}{i:Bool}{v:V}(h:RdV K G H (.bl i) v):v=.bl i:=h.rep (fun _ z=>nomatch z)
theorem RdV.non {K:x0a}{G:Gh}{H:Hp}{v:V}(h:RdV K G H .non v):v=.non:=h.rep (fun _ z=>nomatch z)
noncomputable def qV (i:Nat):pE:=fun env n R=>match env[i]? with | some (some (.v x))=>R x env n | _=>False
noncomputable def qO (i:Nat):pE:=fun env n R=>match env[i]? with | some (some (.ow .lst xs))=>R (.lst xs) env n | _=>False
noncomputable def qC (c:PV):pE:=fun env n R=>R c env n
theorem qV_ex {i:Nat}{env:Env}{n:Nat}{R:PK}(h:qV i env n R):∃x,env[i]?=some (some (.v x))/\R x env n:=by
 unfold qV at h
 split at h
 · exact⟨_,by assumption,h⟩
 · exact h.elim
theorem qO_ex {i:Nat}{env:Env}{n:Nat}{R:PK}(h:qO i env n R):∃xs,env[i]?=some (some (.ow .lst xs))/\R (.lst xs) env n:=by
 unfold qO at h
 split at h
 · exact⟨_,by assumption,h⟩
 · exact h.elim
theorem a0b (i:Nat){x:Str}{pos:Pos}(h:∀z,EW (F z) (.Name x pos) (tVar i)):QE T K F (.Name x pos) (qV i):=by
 refine⟨_,fun z=>(h z).h,fun C G σ H env n R Q hK hT S hp k=>?_⟩;obtain⟨x,e,r⟩:=qV_ex hp;obtain⟨v,ev,rv⟩:=S.slots i _ e;exact⟨v,ev,k _ _ _ _ _ r S (hK▸rv) Fr.refl⟩
theorem a3x (i:Nat){x:Str}{pos:Pos}(h:∀z,EW (F z) (.Name x pos) (tVar i)):QR T K F (.Name x pos) (qO i):=by
 refine⟨_,fun z=>(h z).h,fun C G σ H env n R Q hK hT S hp k=>?_⟩;obtain⟨xs,e,r⟩:=qO_ex hp;obtain⟨a,vs,ev,_,_,_,_,rv⟩:=S.slots i _ e;exact⟨.ref a,ev,k _ _ _ _ _ r S (.inr ⟨i,a,xs,e,ev,rfl,rfl⟩) Fr.refl⟩
theorem QE.r (h:QE T K F e pe):QR T K F e pe:=by
 obtain⟨t,h1,h2⟩:=h;exact⟨t,h1,fun C G σ H env n R Q hK hT S hp k=>h2 C G σ H env n R Q hK hT S hp fun x env' n' v H' r S' rp f=>k x env' n' v H' r S' (.inl (by rw [hK];exact rp)) f⟩
theorem ok_c {K:x0a}{c:PV}{v:V}(h:∀G H,Rep K G H c v):EOk K T (tC v) (qC c):=fun C G σ H env n R Q hK hT S hp k=>k _ _ _ _ _ hp S (h G H) Fr.refl
theorem a0l {i j pos}:QE T K F (.Constant (.int i) j pos) (qC (.int i)):=⟨_,fun z=>a0Q,ok_c fun _ _=>rfl⟩
theorem b0e {i j pos}:QE T K F (.Constant (.bool i) j pos) (qC (.bl i)):=⟨_,fun z=>pe_bl,ok_c fun _ _=>rfl⟩
theorem a0s {i j pos}:QE T K F (.Constant (.str i) j pos) (qC (.str i)):=⟨_,fun z=>a0M,ok_c fun _ _=>rfl⟩
theorem a1Y {j pos}:QE T K F (.Constant .none j pos) (qC .non):=⟨_,fun z=>pe_non,ok_c fun _ _=>rfl⟩
noncomputable abbrev w1:=PV->(PV->Prop)->Prop
noncomputable abbrev w2:=PV->PV->(PV->Prop)->Prop
noncomputable def W2 (K:x0a)(r:R2)(w:w2):Prop:=∀(G:Gh) (H:Hp) (x y:PV) (v u:V) (R:PV->Prop) (Q:VK),(∀p,H p=none->p∉G.M)->RdV K G H x v->RdV K G H y u->w x y R->
 (∀z v' H',R z->Same H H'->Rep K G H' z v'->Q v' H')->r v u H Q
noncomputable def W1 (K:x0a)(r:V->Hp->VK->Prop)(w:w1):Prop:=∀(G:Gh) (H:Hp) (x:PV) (v:V) (R:PV->Prop) (Q:VK),(∀p,H p=none->p∉G.M)->RdV K G H x v->w x R->
 (∀z v' H',R z->Same H H'->Rep K G H' z v'->Q v' H')->r v H Q
noncomputable def qOp (w:w2)(pa pb:pE):pE:=fun env n R=>pa env n fun x env1 n1=>pb env1 n1 fun y env2 n2=>w x y fun z=>R z env2 n2
noncomputable def qOpR (w:w2)(pa pb:pE):pE:=fun env n R=>pa env n fun x env1 n1=>pb env1 n1 fun y env2 n2=>env2=env1/\w x y fun z=>R z env2 n2
noncomputable def qUn (w:w1)(pa:pE):pE:=fun env n R=>pa env n fun x env1 n1=>w x fun z=>R z env1 n1
theorem b0w {K:x0a}{r:R2}{w:w2}{ta tb:TE}(hw:W2 K r w)(ha:EOk K T ta pa)(hb:ROk K T tb pb):EOk K T (tOp r ta tb) (qOp w pa pb):=fun C G σ H env n R Q hK hT S hp k=>by
 refine ha C G σ H env n _ _ hK hT S hp fun x env1 n1 v H1 p1 S1 r1 f1=>?_;refine hb C G σ H1 env1 n1 _ _ hK hT S1 p1 fun y env2 n2 u H2 p2 S2 r2 f2=>?_;subst hK;exact hw G H2 x y v u _ _ (fun p hp=>S2.fresh hp) (.inl (r1.fr f2)) (r2.rd S2) p2 fun z v' H' rz s rv=>k _ _ _ _ _ rz (S2.same s) rv ((f1.trans f2).trans (Fr.of s))
theorem ok_opR {K:x0a}{r:R2}{w:w2}{ta tb:TE}(hw:W2 K r w)(ha:ROk K T ta pa)(hb:ROk K T tb pb):EOk K T (tOp r ta tb) (qOpR w pa pb):=fun C G σ H env n R Q hK hT S hp k=>by
 refine ha C G σ H env n _ _ hK hT S hp fun x env1 n1 v H1 p1 S1 r1 f1=>?_;refine hb C G σ H1 env1 n1 _ _ hK hT S1 p1 fun y env2 n2 u H2 p2 S2 r2 f2=>?_;subst hK;obtain⟨e,p2⟩:=p2;subst e;exact hw G H2 x y v u _ _ (fun p hp=>S2.fresh hp) ((r1.fr f2).rd S2) (r2.rd S2) p2 fun z v' H' rz s rv=>k _ _ _ _ _ rz (S2.same s) rv ((f1.trans f2).trans (Fr.of s))
theorem ok_un {K:x0a}{r:V->Hp->VK->Prop}{w:w1}{ta:TE}(hw:W1 K r w)(ha:ROk K T ta pa):EOk K T (tUn r ta) (qUn w pa):=fun C G σ H env n R Q hK hT S hp k=>by
 refine ha C G σ H env n _ _ hK hT S hp fun x env1 n1 v H1 p1 S1 r1 f1=>?_;subst hK;exact hw G H1 x v _ _ (fun p hp=>S1.fresh hp) (r1.rd S1) p1 fun z v' H' rz s rv=>k _ _ _ _ _ rz (S1.same s) rv (f1.trans (Fr.of s))
noncomputable def wI (C:Int->Int->Prop)(g:Int->Int->PV):w2:=fun x y R=>match x,y with | .int i,.int j=>C i j/\R (g i j) | _,_=>False
theorem W2.I {K:x0a}{C:Int->Int->Prop}{g:Int->Int->V}{g':Int->Int->PV}(hg:∀i j G H,Rep K G H (g' i j) (g i j)):W2 K (rI C g) (wI C g'):=by
 intro G H x y v u R Q hf rx ry hw k;unfold wI at hw
 split at hw
 · exact⟨_,_,rx.int,ry.int,hw.1,k _ _ _ hw.2 (Same.refl _) (hg _ _ _ _)⟩
 · exact hw.elim
noncomputable def wI0 (g:Int->Int->PV):w2:=fun x y R=>match x,y with | .int i,.int j=>R (g i j) | _,_=>False
theorem W2.I0 {K:x0a}{g:Int->Int->V}{g':Int->Int->PV}(hg:∀i j G H,Rep K G H (g' i j) (g i j)):W2 K (rI0 g) (wI0 g'):=by
 intro G H x y v u R Q hf rx ry hw k;unfold wI0 at hw
 split at hw
 · exact⟨_,_,rx.int,ry.int,k _ _ _ hw (Same.refl _) (hg _ _ _ _)⟩
 · exact hw.elim
noncomputable def wAdd:w2:=fun x y R=>match x,y with
 | .int i,.int j=>R (.int (i + j))
 | .str i,.str j=>i.length + j.length<=1000000/\R (.str (i++j))
 | .tup xs,.tup ys=>xs.length + ys.length<=1000000/\R (.tup (xs++ys))
 | _,_=>False
theorem mil {n:Nat}(h:n<=1000000):n<=x0w:=x0I h (by rw [x1k];decide)
theorem mil' {n:Nat}(h:n<=1000000):n < x0w:=x3z h (by rw [x1k];decide)
theorem a3c {K:x0a}{G:Gh}{H:Hp}{p:Addr}{xs:List PV}{vs:List V}(hf:p∉G.M)(hn:H p=none)(r:Reps K G H xs vs):Rep K G (upd H p (.tup vs)) (.tup xs) (.ref p):=
 ⟨p,vs,rfl,⟨hf,a0f⟩,r.same (Same.lay1 hn)⟩
theorem a3V {K:x0a}{G:Gh}{H:Hp}{p:Addr}{xs:List PV}{vs:List V}(hf:p∉G.M)(hn:H p=none)(r:Reps K G H xs vs):Rep K G (upd H p (.lst vs)) (.lst xs) (.ref p):=
 ⟨p,vs,rfl,⟨hf,a0f⟩,r.same (Same.lay1 hn)⟩
theorem W2.add {K:x0a}:W2 K (fun x y H Q=>(rI0 fun i j=>.int (i + j)) x y H Q\/(∃i j,x=.str i/\y=.str j/\i.length + j.length<=x0w/\Q (.str (i++j)) H)\/rCatA K x y H Q) wAdd:=by
 intro G H x y v u R Q hf rx ry hw k;unfold wAdd at hw
 split at hw
 · exact .inl ⟨_,_,rx.int,ry.int,k _ _ _ hw (Same.refl _) rfl⟩
 · exact .inr (.inl ⟨_,_,rx.str,ry.str,mil hw.1,k _ _ _ hw.2 (Same.refl _) rfl⟩)
 · rename_i xs ys;obtain⟨a,vs,ea,ta,ra⟩:=rx.rep (fun _ z=>nomatch z);obtain⟨b,us,eb,tb,rb⟩:=ry.rep (fun _ z=>nomatch z);refine .inr (.inr ⟨a,b,vs,us,ea,eb,ta.sq,tb.sq,?_,fun z=>?_,fun z1 z2=>?_,fun z1 z2 p hp=>?_⟩)
   · rw [<- ra.length,<- rb.length];exact mil hw.1
   · subst z;have:xs=[]:=List.eq_nil_of_length_eq_zero ra.length;subst this;exact k _ _ _ hw.2 (Same.refl _) ⟨b,us,rfl,tb,rb⟩
   · subst z2;have:ys=[]:=List.eq_nil_of_length_eq_zero rb.length;subst this;exact k _ _ _ hw.2 (Same.refl _) (by rw [x1f];exact⟨a,vs,rfl,ta,ra⟩)
   · exact k _ _ _ hw.2 (Same.lay1 hp) (a3c (hf p hp) hp (ra.append rb))
 · exact hw.elim
theorem a1h {pos:Pos}(ha:QE T K F a pa)(hb:QE T K F b pb)(hK:∀z,(F z).K=K:=by intro _;rfl):QE T K F (.BinOp a .Add b pos) (qOp wAdd pa pb):=by
 obtain⟨ta,h1,h2⟩:=ha;obtain⟨tb,h3,h4⟩:=hb.r;exact⟨_,fun z=>a1w (a4R.or (a8T.or (hK z▸b5x))) (h1 z) (h3 z),b0w W2.add h2 h4⟩
theorem b2x {op:Operator}{r:R2}{w:w2}{pos:Pos}(ho:∀z,OpR (F z) (x3a op) r)(hw:W2 K r w)(ha:QE T K F a pa)(hb:QE T K F b pb):QE T K F (.BinOp a op b pos) (qOp w pa pb):=by
 obtain⟨ta,h1,h2⟩:=ha;obtain⟨tb,h3,h4⟩:=hb.r;exact⟨_,fun z=>a1w (ho z) (h1 z) (h3 z),b0w hw h2 h4⟩
noncomputable def wSub:w2:=wI0 fun i j=>.int (i - j)
noncomputable def wMul:w2:=fun x y R=>match x,y with
 | .int i,.int j=>CMul i j/\R (.int (i * j))
 | .str i,.int n=>i.length<=100/\0<=n/\n<=1000/\R (.str (Txt.mul i n))
 | _,_=>False
noncomputable def b4I:w2:=wI CDiv fun i j=>.int (i / j)
noncomputable def wMod:w2:=wI (fun _ j=>0 < j) fun i j=>.int (i % j)
theorem W2.mul {K:x0a}:W2 K (fun x y H Q=>(rI CMul fun i j=>.int (i * j)) x y H Q\/(∃i n,x=.str i/\y=.int n/\i.length<=100/\0<=n/\n<=1000/\Q (.str (Txt.mul i n)) H)) wMul:=by
 intro G H x y v u R Q hf rx ry hw k;unfold wMul at hw
 split at hw
 · exact .inl ⟨_,_,rx.int,ry.int,hw.1,k _ _ _ hw.2 (Same.refl _) rfl⟩
 · exact .inr ⟨_,_,rx.str,ry.int,hw.1,hw.2.1,hw.2.2.1,k _ _ _ hw.2.2.2 (Same.refl _) rfl⟩
 · exact hw.elim
theorem a4O {pos:Pos}(ha:QE T K F a pa)(hb:QE T K F b pb):QE T K F (.BinOp a .Sub b pos) (qOp wSub pa pb):=b2x (fun _=>op_sub) (W2.I0 fun _ _ _ _=>rfl) ha hb
theorem b3W {pos:Pos}(ha:QE T K F a pa)(hb:QE T K F b pb):QE T K F (.BinOp a .Mult b pos) (qOp wMul pa pb):=b2x (fun _=>a6e.or a8S) W2.mul ha hb
theorem b5c {pos:Pos}(ha:QE T K F a pa)(hb:QE T K F b pb):QE T K F (.BinOp a .FloorDiv b pos) (qOp b4I pa pb):=b2x (fun _=>a7j) (W2.I fun _ _ _ _=>rfl) ha hb
theorem b0d {pos:Pos}(ha:QE T K F a pa)(hb:QE T K F b pb):QE T K F (.BinOp a .Mod b pos) (qOp wMod pa pb):=b2x (fun _=>a4k) (W2.I fun _ _ _ _=>rfl) ha hb
end
end Pu
end
section
namespace L2
open PySem PySem.Spec PyProof.Rows
noncomputable def EqD (K:x0a)(H:Hp):Nat->V->V->Bool->Prop
 | 0,x,y,b=>a2E x=true/\a2E y=true/\b=eqV x y
 | d + 1, x, y, b => (a2E x = true /\ a2E y = true /\ b = eqV x y) \/
   (∃p q xs ys,∃f:Nat->Bool,x=.ref p/\y=.ref q/\SqT K H p xs/\SqT K H q ys/\(∀(j:Nat) x' y',xs[j]?=some x'->ys[j]?=some y'->EqD K H d x' y' (f j))/\b=((x0N (min xs.length ys.length)).all f && xs.length == ys.length))\/
   (∃p q xs ys,∃f:Nat->Bool,x=.ref p/\y=.ref q/\SqL K H p xs/\SqL K H q ys/\(∀(j:Nat) x' y',xs[j]?=some x'->ys[j]?=some y'->EqD K H d x' y' (f j))/\b=((x0N (min xs.length ys.length)).all f && xs.length == ys.length))\/
   (b=false/\((∃p xs,x=.ref p/\(SqT K H p xs\/SqL K H p xs)/\a2E y=true)\/(∃p xs,y=.ref p/\(SqT K H p xs\/SqL K H p xs)/\a2E x=true)\/
     (∃p q xs ys,x=.ref p/\y=.ref q/\SqT K H p xs/\SqL K H q ys)\/(∃p q xs ys,x=.ref p/\y=.ref q/\SqL K H p xs/\SqT K H q ys)))
section
variable {X:Cx}{pins:List (Addr×Obj)}{σ:St}{H:Hp}{s:Shared}
theorem a1V (I:Inv X pins σ H s){p:Addr}{xs ys:List V}(h:SqT X.K H p xs)(h':SqL X.K H p ys):False:=by
 obtain⟨its,r,⟨o,e,c,n,d⟩,_⟩:=I.tuple h;obtain⟨its',r',⟨o',n',e',c',_,d'⟩,_⟩:=I.list h';rw [e] at e';cases e';rw [c] at c';injection c' with c';exact absurd c' (by decide)
theorem EqD.refl (I:Inv X pins σ H s):∀(d:Nat) (x:V) (b:Bool),EqD X.K H d x x b->b=true:=by
 intro d
 induction d with
 | zero =>
   intro x b h;obtain⟨h1,_,rfl⟩:=h;exact a8k h1
 | succ d ih =>
   intro x b h;rcases h with⟨h1,_,rfl⟩ | ⟨p,q,xs,ys,f,e1,e2,s1,s2,hf,rfl⟩ | ⟨p,q,xs,ys,f,e1,e2,s1,s2,hf,rfl⟩ | ⟨rfl,h⟩
   · exact a8k h1
   · subst e1;cases e2;have:=I.tuple_inj s1 s2;subst this;simp only [x4j,beq_self_eq_true,Bool.and_true,x1j,x2k];intro j hj;exact ih _ _ (hf j xs[j] xs[j] (by simp [hj]) (by simp [hj]))
   · subst e1;cases e2;have:=I.list_inj s1 s2;subst this;simp only [x4j,beq_self_eq_true,Bool.and_true,x1j,x2k];intro j hj;exact ih _ _ (hf j xs[j] xs[j] (by simp [hj]) (by simp [hj]))
   · rcases h with⟨p,xs,rfl,_,h⟩ | ⟨p,xs,rfl,_,h⟩ | ⟨p,q,xs,ys,e1,e2,s1,s2⟩ | ⟨p,q,xs,ys,e1,e2,s1,s2⟩
     · cases h
     · cases h
     · subst e1;cases e2;exact(a1V I s1 s2).elim
     · subst e1;cases e2;exact(a1V I s2 s1).elim
theorem Inv.sqL (I:Inv X pins σ H s){p:Addr}{xs:List V}(h:SqL X.K H p xs):∃its:List Value,Vals xs its/\s.heap.IsList p its.toArray:=by
 obtain⟨its,r,pl,_⟩:=I.list h;exact⟨its,r,pl.isList⟩
theorem Inv.sqT (I:Inv X pins σ H s){p:Addr}{xs:List V}(h:SqT X.K H p xs):∃its:List Value,Vals xs its/\s.heap.IsTuple p its.toArray:=by
 obtain⟨its,r,pl,_⟩:=I.tuple h;exact⟨its,r,pl⟩
theorem a3X (I:Inv X pins σ H s){A:Around}(hu:A.units < cLine){p:Addr}{xs:List V}(hq:SqT X.K H p xs\/SqL X.K H p xs){y:V}{w:Value}(ry:RelV y w)(fy:a2E y=true) :
   x4U A s (.ref p) w false/\x4k A s (.ref p) w true/\x4U A s w (.ref p) false/\x4k A s w (.ref p) true/\x4x A s (.ref p) w false/\x4x A s w (.ref p) false:=by
 rcases hq with hq | hq
 · obtain⟨its,r,il⟩:=I.sqT hq;cases y with
   | non=>cases ry;exact⟨.tuple_none il hu,.tuple_none il hu,.none_tuple il hu,.none_tuple il hu,.tuple_none il hu,.none_tuple il hu⟩
   | bl b=>cases ry;exact⟨.tuple_bool b il hu,.tuple_bool b il hu,.bool_tuple b il hu,.bool_tuple b il hu,.tuple_bool b il hu,.bool_tuple b il hu⟩
   | int i=>obtain⟨t,rfl⟩:=ry;exact⟨.tuple_int i t il hu,.tuple_int i t il hu,.int_tuple i t il hu,.int_tuple i t il hu,.tuple_int i t il hu,.int_tuple i t il hu⟩
   | str i=>obtain⟨t,rfl⟩:=ry;exact⟨.tuple_str i t il hu,.tuple_str i t il hu,.str_tuple i t il hu,.str_tuple i t il hu,.tuple_str i t il hu,.str_tuple i t il hu⟩
   | _=>cases fy
 · obtain⟨its,r,il⟩:=I.sqL hq;cases y with
   | non=>cases ry;exact⟨.list_none il hu,.list_none il hu,.none_list il hu,.none_list il hu,.list_none il hu,.none_list il hu⟩
   | bl b=>cases ry;exact⟨.list_bool b il hu,.list_bool b il hu,.bool_list b il hu,.bool_list b il hu,.list_bool b il hu,.bool_list b il hu⟩
   | int i=>obtain⟨t,rfl⟩:=ry;exact⟨.list_int i t il hu,.list_int i t il hu,.int_list i t il hu,.int_list i t il hu,.list_int i t il hu,.int_list i t il hu⟩
   | str i=>obtain⟨t,rfl⟩:=ry;exact⟨.list_str i t il hu,.list_str i t il hu,.str_list i t il hu,.str_list i t il hu,.list_str i t il hu,.str_list i t il hu⟩
   | _=>cases fy
theorem a9T {A:Around}{x y:V}{u w:Value}(rx:RelV x u)(ry:RelV y w)(fx:a2E x=true)(fy:a2E y=true):x4U A s u w (eqV x y)/\x4k A s u w (!eqV x y):=by
 cases x with
 | non =>
   cases rx;cases y with
   | non=>cases ry;exact⟨.none_none,.none_none⟩
   | bl j=>cases ry;exact⟨.none_bool j,.none_bool j⟩
   | int j=>obtain⟨t,rfl⟩:=ry;exact⟨.none_int j t,.none_int j t⟩
   | str j=>obtain⟨t,rfl⟩:=ry;exact⟨.none_str j t,.none_str j t⟩
   | _=>cases fy
 | bl i =>
   cases rx;cases y with
   | non=>cases ry;exact⟨.bool_none i,.bool_none i⟩
   | bl j=>cases ry;exact⟨.bool_bool i j,.bool_bool i j⟩
   | int j=>obtain⟨t,rfl⟩:=ry;exact⟨.bool_int i j t,.bool_int i j t⟩
   | str j=>obtain⟨t,rfl⟩:=ry;exact⟨.bool_str i j t,.bool_str i j t⟩
   | _=>cases fy
 | int i =>
   obtain⟨ti,rfl⟩:=rx;cases y with
   | non=>cases ry;exact⟨.int_none i ti,.int_none i ti⟩
   | bl j=>cases ry;exact⟨.int_bool i ti j,.int_bool i ti j⟩
   | int j=>obtain⟨t,rfl⟩:=ry;exact⟨.int_int i ti j t,.int_int i ti j t⟩
   | str j=>obtain⟨t,rfl⟩:=ry;exact⟨.int_str i ti j t,.int_str i ti j t⟩
   | _=>cases fy
 | str i =>
   obtain⟨ti,rfl⟩:=rx;cases y with
   | non=>cases ry;exact⟨.str_none i ti,.str_none i ti⟩
   | bl j=>cases ry;exact⟨.str_bool i ti j,.str_bool i ti j⟩
   | int j=>obtain⟨t,rfl⟩:=ry;exact⟨.str_int i ti j t,.str_int i ti j t⟩
   | str j=>obtain⟨t,rfl⟩:=ry;exact⟨.str_str i ti j t,.str_str i ti j t⟩
   | _=>cases fy
 | _=>cases fx
theorem a2h (A:Around):A.in1.units=A.units + 1:=rfl
theorem EqD.at (I:Inv X pins σ H s):∀(d:Nat) (A:Around) (x y:V) (u w:Value) (b:Bool),A.units + d < cLine->RelV x u->RelV y w->EqD X.K H d x y b->x4x A s u w b/\x4U A s u w b/\x4k A s u w (!b):=by
 intro d
 induction d with
 | zero =>
   intro A x y u w b hu rx ry h;obtain⟨h1,h2,rfl⟩:=h;exact⟨b4u rx ry h1 h2,a9T rx ry h1 h2⟩
 | succ d ih =>
   intro A x y u w b hu rx ry h;have hu0:A.units < cLine:=by omega
   have hu1:A.in1.units + d < cLine:=by rw [a2h];omega
   have hrefl:=EqD.refl I (d + 1) x b;rcases h with⟨h1,h2,rfl⟩ | ⟨p,q,xs,ys,f,e1,e2,s1,s2,hf,eb⟩ | ⟨p,q,xs,ys,f,e1,e2,s1,s2,hf,eb⟩ | ⟨rfl,h⟩
   · exact⟨b4u rx ry h1 h2,a9T rx ry h1 h2⟩
   · subst e1 e2;cases rx;cases ry;obtain⟨its,r1,t1⟩:=I.sqT s1;obtain⟨its2,r2,t2⟩:=I.sqT s2;have z1:its.toArray.size=xs.length:=by simpa using r1.length.symm
     have z2:its2.toArray.size=ys.length:=by simpa using r2.length.symm
     have he:∀j (h1:j < its.toArray.size) (h2:j < its2.toArray.size),x4x A.in1 s its.toArray[j] its2.toArray[j] (f j):=by
       intro j h1 h2;obtain⟨x',e1,q1⟩:=r1.getE (j:=j) (by simpa using h1);obtain⟨y',e2,q2⟩:=r2.getE (j:=j) (by simpa using h2);exact(ih A.in1 x' y' _ _ (f j) hu1 (by simpa using q1) (by simpa using q2) (hf j x' y' e1 e2)).1
     have rc:x4U A s (.ref p) (.ref q) b:=by
       rw [eb,<- z1,<- z2];exact SeqAt.RcAt.tuples t1 t2 hu0 he
     have rn:x4k A s (.ref p) (.ref q) (!b):=by
       rw [eb,<- z1,<- z2];exact SeqAt.RcNeAt.tuples t1 t2 hu0 he
     refine⟨?_,rc,rn⟩
     by_cases hpq:p=q
     · subst hpq;rw [hrefl (.inr (.inl ⟨p,p,xs,ys,f,rfl,rfl,s1,s2,hf,eb⟩))];exact .same _
     · exact .of_refs hpq rc
   · subst e1 e2;cases rx;cases ry;obtain⟨its,r1,t1⟩:=I.sqL s1;obtain⟨its2,r2,t2⟩:=I.sqL s2;have z1:its.toArray.size=xs.length:=by simpa using r1.length.symm
     have z2:its2.toArray.size=ys.length:=by simpa using r2.length.symm
     have he:∀j (h1:j < its.toArray.size) (h2:j < its2.toArray.size),x4x A.in1 s its.toArray[j] its2.toArray[j] (f j):=by
       intro j h1 h2;obtain⟨x',e1,q1⟩:=r1.getE (j:=j) (by simpa using h1);obtain⟨y',e2,q2⟩:=r2.getE (j:=j) (by simpa using h2);exact(ih A.in1 x' y' _ _ (f j) hu1 (by simpa using q1) (by simpa using q2) (hf j x' y' e1 e2)).1
     have rr:x4U A s (.ref p) (.ref q) b/\x4k A s (.ref p) (.ref q) (!b):=by
       by_cases hl:xs.length=ys.length
       · have e3:b=(x0N its.toArray.size).all f:=by rw [eb,hl,x4j,beq_self_eq_true,Bool.and_true,z1,hl]
         rw [e3];exact⟨SeqAt.RcAt.lists t1 t2 (by rw [z1,z2,hl]) hu0 he,SeqAt.RcNeAt.lists t1 t2 (by rw [z1,z2,hl]) hu0 he⟩
       · have e3:b=false:=by
           rw [eb];have:(xs.length == ys.length)=false:=by simpa using hl
           rw [this,Bool.and_false]
         rw [e3];have e4:(its.toArray.size != its2.toArray.size)=true:=by rw [z1,z2];simpa using hl
         exact⟨SeqAt.RcAt.lists_lengths t1 t2 e4 hu0,SeqAt.RcNeAt.lists_lengths t1 t2 e4 hu0⟩
     refine⟨?_,rr⟩
     by_cases hpq:p=q
     · subst hpq;rw [hrefl (.inr (.inr (.inl ⟨p,p,xs,ys,f,rfl,rfl,s1,s2,hf,eb⟩)))];exact .same _
     · exact .of_refs hpq rr.1
   · rcases h with⟨p,xs,rfl,hq,fy⟩ | ⟨p,xs,rfl,hq,fx⟩ | ⟨p,q,xs,ys,e1,e2,s1,s2⟩ | ⟨p,q,xs,ys,e1,e2,s1,s2⟩
     · cases rx;obtain⟨a1,a2,a3,a4,a5,a6⟩:=a3X I hu0 hq ry fy;exact⟨a5,a1,a2⟩
     · cases ry;obtain⟨a1,a2,a3,a4,a5,a6⟩:=a3X I hu0 hq rx fx;exact⟨a6,a3,a4⟩
     · subst e1 e2;cases rx;cases ry;obtain⟨its,r1,t1⟩:=I.sqT s1;obtain⟨its2,r2,t2⟩:=I.sqL s2;exact⟨.tuple_list t1 t2 hu0,.tuple_list t1 t2 hu0,.tuple_list t1 t2 hu0⟩
     · subst e1 e2;cases rx;cases ry;obtain⟨its,r1,t1⟩:=I.sqL s1;obtain⟨its2,r2,t2⟩:=I.sqT s2;exact⟨.list_tuple t1 t2 hu0,.list_tuple t1 t2 hu0,.list_tuple t1 t2 hu0⟩
end
section
variable {X:Cx}
noncomputable def rEqD (K:x0a)(d:Nat)(neg:Bool):R2:=fun x y H Q=>∃b,EqD K H d x y b/\Q (.bl (if neg then !b else b)) H
theorem op_eqD (d:Nat)(hu:X.A.units + d < cLine):OpR X (x1H .Eq) (rEqD X.K d false):=by
 intro pins s σ H x y v u Q I rx ry h;obtain⟨b,hb,q⟩:=h;exact(hb.at I d X.A x y v u b hu rx ry).2.1 X.prog X.w X.xe _ ⟨.bl _,H,I,rfl,q⟩
theorem op_neD (d:Nat)(hu:X.A.units + d < cLine):OpR X (x1H .NotEq) (rEqD X.K d true):=by
 intro pins s σ H x y v u Q I rx ry h;obtain⟨b,hb,q⟩:=h;exact(hb.at I d X.A x y v u b hu rx ry).2.2 X.prog X.w X.xe _ ⟨.bl _,H,I,rfl,q⟩
noncomputable def rInD (K:x0a)(d:Nat)(neg:Bool):R2:=fun x y H Q=>∃p ys,∃f:Nat->Bool,y=.ref p/\(SqL K H p ys\/SqT K H p ys)/\(∀(j:Nat) z,ys[j]?=some z->EqD K H d z x (f j))/\Q (.bl (if neg then !((x0N ys.length).any f) else(x0N ys.length).any f)) H
theorem a4Y {n:Nat}{f g:Nat->Bool}(h:∀j,j < n->f j=g j):(x0N n).all f=(x0N n).all g:=by
 rw [x2p,x1j,x1j];constructor
 · intro k j hj;rw [<- h j (x2k.mp hj)];exact k j hj
 · intro k j hj;rw [h j (x2k.mp hj)];exact k j hj
theorem EqD.det {pins:List (Addr×Obj)}{σ:St}{H:Hp}{s:Shared}(I:Inv X pins σ H s):∀(d:Nat) (x y:V) (b b':Bool),EqD X.K H d x y b->EqD X.K H d x y b'->b=b':=by
 intro d
 induction d with
 | zero =>
   intro x y b b' h h';rw [h.2.2,h'.2.2]
 | succ d ih =>
   intro x y b b' h h';rcases h with⟨h1,h2,rfl⟩ | ⟨p,q,xs,ys,f,rfl,rfl,s1,s2,hf,rfl⟩ | ⟨p,q,xs,ys,f,rfl,rfl,s1,s2,hf,rfl⟩ | ⟨rfl,h⟩
   · rcases h' with⟨h1',h2',rfl⟩ | ⟨p,q,xs,ys,f,rfl,rfl,s1,s2,hf,rfl⟩ | ⟨p,q,xs,ys,f,rfl,rfl,s1,s2,hf,rfl⟩ | ⟨rfl,h⟩
     · rfl
     · cases h1
     · cases h1
     · rcases h with⟨p,xs,rfl,_,h⟩ | ⟨p,xs,rfl,_,h⟩ | ⟨p,q,xs,ys,rfl,rfl,s1,s2⟩ | ⟨p,q,xs,ys,rfl,rfl,s1,s2⟩
       · cases h1
       · cases h2
       · cases h1
       · cases h1
   · rcases h' with⟨h1',h2',rfl⟩ | ⟨p',q',xs',ys',f',e1,e2,s1',s2',hf',rfl⟩ | ⟨p',q',xs',ys',f',e1,e2,s1',s2',hf',rfl⟩ | ⟨rfl,h⟩
     · cases h1'
     · cases e1;cases e2;have:=I.tuple_inj s1 s1';subst this;have:=I.tuple_inj s2 s2';subst this;rw [a4Y fun j hj=>ih _ _ _ _ (hf j (xs[j]'(by omega)) (ys[j]'(by omega)) (x0f _) (x0f _)) (hf' j (xs[j]'(by omega)) (ys[j]'(by omega)) (x0f _) (x0f _))]
     · cases e1;exact(a1V I s1 s1').elim
     · rcases h with⟨p',xs',e1,_,h⟩ | ⟨p',xs',e1,_,h⟩ | ⟨p',q',xs',ys',e1,e2,s1',s2'⟩ | ⟨p',q',xs',ys',e1,e2,s1',s2'⟩
       · cases h
       · cases h
       · cases e2;exact(a1V I s2 s2').elim
       · cases e1;exact(a1V I s1 s1').elim
   · rcases h' with⟨h1',h2',rfl⟩ | ⟨p',q',xs',ys',f',e1,e2,s1',s2',hf',rfl⟩ | ⟨p',q',xs',ys',f',e1,e2,s1',s2',hf',rfl⟩ | ⟨rfl,h⟩
     · cases h1'
     · cases e1;exact(a1V I s1' s1).elim
     · cases e1;cases e2;have:=I.list_inj s1 s1';subst this;have:=I.list_inj s2 s2';subst this;rw [a4Y fun j hj=>ih _ _ _ _ (hf j (xs[j]'(by omega)) (ys[j]'(by omega)) (x0f _) (x0f _)) (hf' j (xs[j]'(by omega)) (ys[j]'(by omega)) (x0f _) (x0f _))]
     · rcases h with⟨p',xs',e1,_,h⟩ | ⟨p',xs',e1,_,h⟩ | ⟨p',q',xs',ys',e1,e2,s1',s2'⟩ | ⟨p',q',xs',ys',e1,e2,s1',s2'⟩
       · cases h
       · cases h
       · cases e1;exact(a1V I s1' s1).elim
       · cases e2;exact(a1V I s2' s2).elim
   · rcases h' with⟨h1',h2',rfl⟩ | ⟨p',q',xs',ys',f',rfl,rfl,s1',s2',hf',rfl⟩ | ⟨p',q',xs',ys',f',rfl,rfl,s1',s2',hf',rfl⟩ | ⟨rfl,h'⟩
     · rcases h with⟨p,xs,rfl,_,h⟩ | ⟨p,xs,rfl,_,h⟩ | ⟨p,q,xs,ys,rfl,rfl,s1,s2⟩ | ⟨p,q,xs,ys,rfl,rfl,s1,s2⟩
       · cases h1'
       · cases h2'
       · cases h1'
       · cases h1'
     · rcases h with⟨p,xs,e1,_,h⟩ | ⟨p,xs,e1,_,h⟩ | ⟨p,q,xs,ys,e1,e2,s1,s2⟩ | ⟨p,q,xs,ys,e1,e2,s1,s2⟩
       · cases h
       · cases h
       · cases e2;exact(a1V I s2' s2).elim
       · cases e1;exact(a1V I s1' s1).elim
     · rcases h with⟨p,xs,e1,_,h⟩ | ⟨p,xs,e1,_,h⟩ | ⟨p,q,xs,ys,e1,e2,s1,s2⟩ | ⟨p,q,xs,ys,e1,e2,s1,s2⟩
       · cases h
       · cases h
       · cases e1;exact(a1V I s1 s1').elim
       · cases e2;exact(a1V I s2 s2').elim
     · rfl
open Classical in
theorem a8g {pins:List (Addr×Obj)}{σ:St}{H:Hp}{s:Shared}(I:Inv X pins σ H s){d:Nat}{A:Around}(hu:A.units + d < cLine){ys:List V}{its:List Value}(r:Vals ys its){x:V}{v:Value}(rx:RelV x v){f:Nat->Bool}(hf:∀(j:Nat) z,ys[j]?=some z->EqD X.K H d z x (f j)) :
   ∃e:Value->Bool,(∀y,y∈its->x4x A s y v (e y))/\its.any e=(x0N ys.length).any f:=by
 have key:∀(j j':Nat) (z:Value),its[j]?=some z->its[j']?=some z->f j=f j':=by
   intro j j' z h h';obtain⟨hj,_⟩:=x0l.mp h;obtain⟨hj',_⟩:=x0l.mp h';obtain⟨w1,a1,b1⟩:=r.getE hj;obtain⟨w2,a2,b2⟩:=r.getE hj';rw [x0f hj] at h;rw [x0f hj'] at h';cases h;rw [x0S h'] at b2;have:=b1.inj b2;subst this;exact EqD.det I d _ _ _ _ (hf j _ a1) (hf j' _ a2)
 let e:Value->Bool:=fun y=>decide (∃j,its[j]?=some y/\f j=true)
 have he:∀(j:Nat) (y:Value),its[j]?=some y->e y=f j:=by
   intro j y h;show decide _=_;cases hb:f j with
   | true=>exact decide_eq_true ⟨j,h,hb⟩
   | false=>exact decide_eq_false fun⟨j',h1,h2⟩=>by rw [key j j' y h h1,h2] at hb;cases hb
 refine⟨e,fun y hy=>?_,?_⟩
 · obtain⟨j,hj,rfl⟩:=x2G hy;obtain⟨w1,a1,b1⟩:=r.getE hj;rw [he j _ (x0f hj)];exact((hf j w1 a1).at I d A w1 x _ v (f j) hu b1 rx).1
 · have hl:=r.length;rw [x2p,List.any_eq_true,List.any_eq_true];constructor
   · rintro⟨y,hy,h⟩;obtain⟨j,hj,rfl⟩:=x2G hy;exact⟨j,x2k.mpr (by omega),by rw [<- he j _ (x0f hj)];exact h⟩
   · rintro⟨j,hj,h⟩;have hj':j < its.length:=by have:=x2k.mp hj;omega
     exact⟨its[j],x2c hj',by rw [he j _ (x0f hj')];exact h⟩
theorem op_inD (d:Nat)(hu:X.A.units + (d + 1) < cLine):OpR X (x1H .In) (rInD X.K d false):=by
 intro pins s σ H x y v u Q I rx ry h;obtain⟨p,ys,f,rfl,hq,hf,q⟩:=h;cases ry;rcases hq with hq | hq
 · obtain⟨its,r,il⟩:=I.sqL hq;obtain⟨e,h1,h2⟩:=a8g I (A:=X.A.in1) (by rw [a2h];omega) r rx hf;refine SeqAt.in_listAt e il (fun y hy=>h1 y (by simpa using hy)) ⟨.bl _,H,I,rfl,?_⟩;rw [show its.toArray.any e=its.any e by simp,h2];exact q
 · obtain⟨its,r,il⟩:=I.sqT hq;obtain⟨e,h1,h2⟩:=a8g I (A:=X.A.in1) (by rw [a2h];omega) r rx hf;refine SeqAt.in_tupleAt e il (fun y hy=>h1 y (by simpa using hy)) ⟨.bl _,H,I,rfl,?_⟩;rw [show its.toArray.any e=its.any e by simp,h2];exact q
theorem b0r (d:Nat)(hu:X.A.units + (d + 1) < cLine):OpR X (x1H .NotIn) (rInD X.K d true):=by
 intro pins s σ H x y v u Q I rx ry h;obtain⟨p,ys,f,rfl,hq,hf,q⟩:=h;cases ry;rcases hq with hq | hq
 · obtain⟨its,r,il⟩:=I.sqL hq;obtain⟨e,h1,h2⟩:=a8g I (A:=X.A.in1) (by rw [a2h];omega) r rx hf;refine SeqAt.notIn_listAt e il (fun y hy=>h1 y (by simpa using hy)) ⟨.bl _,H,I,rfl,?_⟩;rw [show its.toArray.any e=its.any e by simp,h2];exact q
 · obtain⟨its,r,il⟩:=I.sqT hq;obtain⟨e,h1,h2⟩:=a8g I (A:=X.A.in1) (by rw [a2h];omega) r rx hf;refine SeqAt.notIn_tupleAt e il (fun y hy=>h1 y (by simpa using hy)) ⟨.bl _,H,I,rfl,?_⟩;rw [show its.toArray.any e=its.any e by simp,h2];exact q
end
end L2
namespace Pu
open PySem PySem.Spec L2
noncomputable def a3w:PV->Bool
 | .non=>true
 | .bl _=>true
 | .int _=>true
 | .str _=>true
 | _=>false
noncomputable def cmpb:Nat->PV->Bool
 | 0,x=>a3w x
 | d + 1,.tup xs=>xs.all (cmpb d)
 | d + 1,.lst xs=>xs.all (cmpb d)
 | _ + 1,x=>a3w x
mutual
noncomputable def eqP:PV->PV->Bool
 | .non,.non=>true
 | .bl a,.bl b=>a == b
 | .bl a,.int b=>(if a then 1 else 0) == b
 | .int a,.bl b=>a == (if b then 1 else 0)
 | .int a,.int b=>a == b
 | .str a,.str b=>a == b
 | .tup xs,.tup ys=>eqPs xs ys
 | .lst xs,.lst ys=>eqPs xs ys
 | _,_=>false
noncomputable def eqPs:List PV->List PV->Bool
 | [],[]=>true
 | x::xs,y::ys=>eqP x y && eqPs xs ys
 | _,_=>false
end
theorem a3s:∀(xs ys:List PV),((x0N (min xs.length ys.length)).all (fun j=>match xs[j]?,ys[j]? with | some x,some y=>eqP x y | _,_=>false) && xs.length == ys.length)=eqPs xs ys
 | [],[]=>rfl
 | [],_::_=>rfl
 | _::_,[]=>rfl
 | x :: xs, y :: ys => by
   have ih:=a3s xs ys;show _=(eqP x y && eqPs xs ys);rw [<- ih];simp only [x0M,Nat.succ_min_succ,List.range_succ_eq_map,List.all_cons,List.all_map,Function.comp_def,x3A,x3B];rw [Bool.and_assoc]
   congr 1
   simp
end Pu
end
section
namespace Pu
open PySem PySem.Spec L2
section
variable {K:x0a}{G:Gh}{H:Hp}
inductive Sort3 (K:x0a)(G:Gh)(H:Hp)(d:Nat)(x:PV)(v:V):Prop where
 | fl (h:a2E v=true) (s:a3w x=true)
 | tp (p:Addr) (xs:List PV) (vs:List V) (e:x=.tup xs) (ev:v=.ref p) (h:SqT K H p vs) (r:Reps K G H xs vs) (c:xs.all (cmpb d)=true)
 | ls (p:Addr) (xs:List PV) (vs:List V) (e:x=.lst xs) (ev:v=.ref p) (h:SqL K H p vs) (r:Reps K G H xs vs) (c:xs.all (cmpb d)=true)
theorem a3r {x:PV}{v:V}(s:a3w x=true)(h:RdV K G H x v):a2E v=true:=by
 cases x with
 | non=>rw [h.non];rfl
 | bl b=>rw [h.bl];rfl
 | int b=>rw [h.int];rfl
 | str b=>rw [h.str];rfl
 | _=>cases s
theorem b2f {d:Nat}{x:PV}{v:V}(c:cmpb (d + 1) x=true)(h:RdV K G H x v):Sort3 K G H d x v:=by
 cases x with
 | tup xs =>
   obtain⟨a,vs,e,t,r⟩:=h.tup;exact .tp a xs vs rfl e t r c
 | lst xs =>
   obtain⟨a,vs,e,t,r⟩:=h.lst;exact .ls a xs vs rfl e t r c
 | non=>exact .fl (a3r c h) c
 | bl _=>exact .fl (a3r c h) c
 | int _=>exact .fl (a3r c h) c
 | str _=>exact .fl (a3r c h) c
 | ty _=>cases c
 | pot _=>cases c
 | scr _=>cases c
 | dct _ _=>cases c
 | fdt _ _=>cases c
theorem b1p {x y:PV}{v u:V}(sx:a3w x=true)(sy:a3w y=true)(hx:RdV K G H x v)(hy:RdV K G H y u):eqP x y=eqV v u:=by
 cases x with
 | non =>
   cases hx.non;cases y with
   | non=>cases hy.non;rfl
   | bl j=>cases hy.bl;rfl
   | int j=>cases hy.int;rfl
   | str j=>cases hy.str;rfl
   | _=>cases sy
 | bl i =>
   cases hx.bl;cases y with
   | non=>cases hy.non;rfl
   | bl j=>cases hy.bl;rfl
   | int j=>cases hy.int;rfl
   | str j=>cases hy.str;rfl
   | _=>cases sy
 | int i =>
   cases hx.int;cases y with
   | non=>cases hy.non;rfl
   | bl j=>cases hy.bl;rfl
   | int j=>cases hy.int;rfl
   | str j=>cases hy.str;rfl
   | _=>cases sy
 | str i =>
   cases hx.str;cases y with
   | non=>cases hy.non;rfl
   | bl j=>cases hy.bl;rfl
   | int j=>cases hy.int;rfl
   | str j=>cases hy.str;rfl
   | _=>cases sy
 | _=>cases sx
theorem a8m {xs:List PV}{y:PV}(sy:a3w y=true):eqP (.tup xs) y=false/\eqP (.lst xs) y=false/\eqP y (.tup xs)=false/\eqP y (.lst xs)=false:=by
 cases y <;> first | exact⟨rfl,rfl,rfl,rfl⟩ | cases sy
theorem b1r:∀(d:Nat) (x y:PV) (v u:V),cmpb d x=true->cmpb d y=true->RdV K G H x v->RdV K G H y u->EqD K H d v u (eqP x y):=by
 intro d
 induction d with
 | zero=>intro x y v u cx cy hx hy;exact⟨a3r cx hx,a3r cy hy,b1p cx cy hx hy⟩
 | succ d ih =>
   intro x y v u cx cy hx hy
   have el:∀(xs ys:List PV) (vs us:List V),Reps K G H xs vs->Reps K G H ys us->xs.all (cmpb d)=true->ys.all (cmpb d)=true->∀(j:Nat) x' y',vs[j]?=some x'->us[j]?=some y'->EqD K H d x' y' (match xs[j]?,ys[j]? with | some x,some y=>eqP x y | _,_=>false):=by
     intro xs ys vs us r1 r2 c1 c2 j x' y' e1 e2;obtain⟨x1,ex,rx⟩:=r1.get e1;obtain⟨y1,ey,ry⟩:=r2.get e2;rw [ex,ey];exact ih x1 y1 x' y' (x1j.mp c1 x1 (x0A ex)) (x1j.mp c2 y1 (x0A ey)) (.inl rx) (.inl ry)
   cases b2f cx hx with
   | fl fx sx =>
     cases b2f cy hy with
     | fl fy sy=>exact .inl ⟨fx,fy,b1p sx sy hx hy⟩
     | tp q ys us e ev h r c=>subst e;exact .inr (.inr (.inr ⟨(a8m sx).2.2.1,.inr (.inl ⟨q,us,ev,.inl h,fx⟩)⟩))
     | ls q ys us e ev h r c=>subst e;exact .inr (.inr (.inr ⟨(a8m sx).2.2.2,.inr (.inl ⟨q,us,ev,.inr h,fx⟩)⟩))
   | tp p xs vs e ev h r c =>
     subst e;cases b2f cy hy with
     | fl fy sy=>exact .inr (.inr (.inr ⟨(a8m sy).1,.inl ⟨p,vs,ev,.inl h,fy⟩⟩))
     | tp q ys us e2 ev2 h2 r2 c2 =>
       subst e2;refine .inr (.inl ⟨p,q,vs,us,_,ev,ev2,h,h2,el xs ys vs us r r2 c c2,?_⟩);rw [<- r.length,<- r2.length];exact(a3s xs ys).symm
     | ls q ys us e2 ev2 h2 r2 c2=>subst e2;exact .inr (.inr (.inr ⟨rfl,.inr (.inr (.inl ⟨p,q,vs,us,ev,ev2,h,h2⟩))⟩))
   | ls p xs vs e ev h r c =>
     subst e;cases b2f cy hy with
     | fl fy sy=>exact .inr (.inr (.inr ⟨(a8m sy).2.1,.inl ⟨p,vs,ev,.inr h,fy⟩⟩))
     | tp q ys us e2 ev2 h2 r2 c2=>subst e2;exact .inr (.inr (.inr ⟨rfl,.inr (.inr (.inr ⟨p,q,vs,us,ev,ev2,h,h2⟩))⟩))
     | ls q ys us e2 ev2 h2 r2 c2 =>
       subst e2;refine .inr (.inr (.inl ⟨p,q,vs,us,_,ev,ev2,h,h2,el xs ys vs us r r2 c c2,?_⟩));rw [<- r.length,<- r2.length];exact(a3s xs ys).symm
end
section
variable {T:PotK}{ι:Type}{K:x0a}{F:ι->Cx}{e a b c:Expr}{es rest:List Expr}{pe pa pb pc:pE}{pos:Pos}
variable {op:CmpOp}{w':w2}
noncomputable def grd (b:Bool)(P:Prop):Prop:=match b with | true=>P | false=>False
theorem grd_t {P:Prop}:grd true P=P:=rfl
theorem grd_i {b:Bool}{P:Prop}(h:b=true)(p:P):grd b P:=by subst h;exact p
theorem b3t {b:Bool}{P:Prop}(h:grd b P):b=true:=by cases b;exact h.elim;rfl
theorem a9j {b:Bool}{P:Prop}(h:grd b P):P:=by cases b;exact h.elim;exact h
theorem gd2 {a b:Bool}{P:Prop}(h1:a=true)(h2:b=true)(p:P):grd a (grd b P):=grd_i h1 (grd_i h2 p)
noncomputable def wEq (d:Nat):w2:=fun x y R=>grd (cmpb d x) (grd (cmpb d y) (R (.bl (eqP x y))))
noncomputable def wNe (d:Nat):w2:=fun x y R=>grd (cmpb d x) (grd (cmpb d y) (R (.bl (!eqP x y))))
theorem W2.eq {K:x0a}(d:Nat):W2 K (rEqD K d false) (wEq d):=fun G H x y v u R Q hf rx ry hw k=>⟨_,b1r d x y v u (b3t hw) (b3t (a9j hw)) rx ry,k _ _ _ (a9j (a9j hw)) (Same.refl _) rfl⟩
theorem W2.ne {K:x0a}(d:Nat):W2 K (rEqD K d true) (wNe d):=fun G H x y v u R Q hf rx ry hw k=>⟨_,b1r d x y v u (b3t hw) (b3t (a9j hw)) rx ry,k _ _ _ (a9j (a9j hw)) (Same.refl _) rfl⟩
noncomputable def memP (x:PV)(ys:List PV):Bool:=ys.any fun y=>eqP y x
noncomputable def wIn (d:Nat)(neg:Bool):w2:=fun x y R=>match x,y with
 | .str i,.str j=>R (.bl (if neg then !(!(x1I j i 0 j.length 1).isEmpty) else !(x1I j i 0 j.length 1).isEmpty))
 | x,.lst ys=>cmpb d x=true/\ys.all (cmpb d)=true/\R (.bl (if neg then !memP x ys else memP x ys))
 | x,.tup ys=>cmpb d x=true/\ys.all (cmpb d)=true/\R (.bl (if neg then !memP x ys else memP x ys))
 | _,_=>False
theorem a4S {x:PV}:∀ys:List PV,((x0N ys.length).any fun j=>match ys[j]? with | some y=>eqP y x | none=>false)=memP x ys
 | []=>rfl
 | y :: ys => by
   have ih:=a4S (x:=x) ys;show _=(eqP y x || memP x ys);rw [<- ih];simp only [x0M,List.range_succ_eq_map,x3C,List.any_map,Function.comp_def,x3A,x3B]
theorem W2.in_ {K:x0a}(d:Nat)(neg:Bool){r:R2}(hr:∀x y H Q,(∃i j,x=.str i/\y=.str j/\Q (.bl (if neg then !(!(x1I j i 0 j.length 1).isEmpty) else !(x1I j i 0 j.length 1).isEmpty)) H)\/rInD K d neg x y H Q->r x y H Q):W2 K r (wIn d neg):=by
 intro G H x y v u R Q hf rx ry hw k;refine hr _ _ _ _ ?_
 have seq:∀(ys:List PV) (p:Addr) (us:List V),u=.ref p->(SqL K H p us\/SqT K H p us)->Reps K G H ys us->cmpb d x=true/\ys.all (cmpb d)=true/\R (.bl (if neg then !memP x ys else memP x ys))->rInD K d neg v u H Q:=by
   intro ys p us eu hq r h;refine⟨p,us,fun j=>match ys[j]? with | some y=>eqP y x | none=>false,eu,hq,fun j z ez=>?_,?_⟩
   · obtain⟨y1,ey,ry⟩:=r.get ez;dsimp only;rw [ey];exact b1r d y1 x z v (x1j.mp h.2.1 y1 (x0A ey)) h.1 (.inl ry) rx
   · rw [<- r.length,a4S];exact k _ _ _ h.2.2 (Same.refl _) rfl
 unfold wIn at hw
 split at hw
 · exact .inl ⟨_,_,rx.str,ry.str,k _ _ _ hw (Same.refl _) rfl⟩
 · obtain⟨p,us,eu,hq,r⟩:=ry.lst;exact .inr (seq _ p us eu (.inl hq) r hw)
 · obtain⟨p,us,eu,hq,r⟩:=ry.tup;exact .inr (seq _ p us eu (.inr hq) r hw)
 · exact hw.elim
noncomputable def wLt:w2:=fun x y R=>match x,y with | .int i,.int j=>R (.bl (decide (i < j))) | .str i,.str j=>R (.bl (decide (i.cps.toList < j.cps.toList))) | _,_=>False
noncomputable def wLe:w2:=fun x y R=>match x,y with | .int i,.int j=>R (.bl (decide (i<=j))) | .str i,.str j=>R (.bl (!decide (j.cps.toList < i.cps.toList))) | _,_=>False
noncomputable def wGt:w2:=wI0 fun i j=>.bl (decide (j < i))
theorem W2.lt {K:x0a}:W2 K (fun x y H Q=>(rI0 fun i j=>.bl (decide (i < j))) x y H Q\/∃i j,x=.str i/\y=.str j/\Q (.bl (decide (i.cps.toList < j.cps.toList))) H) wLt:=by
 intro G H x y v u R Q hf rx ry hw k;unfold wLt at hw
 split at hw
 · exact .inl ⟨_,_,rx.int,ry.int,k _ _ _ hw (Same.refl _) rfl⟩
 · exact .inr ⟨_,_,rx.str,ry.str,k _ _ _ hw (Same.refl _) rfl⟩
 · exact hw.elim
theorem W2.le {K:x0a}:W2 K (fun x y H Q=>(rI0 fun i j=>.bl (decide (i<=j))) x y H Q\/∃i j,x=.str i/\y=.str j/\Q (.bl (!decide (j.cps.toList < i.cps.toList))) H) wLe:=by
 intro G H x y v u R Q hf rx ry hw k;unfold wLe at hw
 split at hw
 · exact .inl ⟨_,_,rx.int,ry.int,k _ _ _ hw (Same.refl _) rfl⟩
 · exact .inr ⟨_,_,rx.str,ry.str,k _ _ _ hw (Same.refl _) rfl⟩
 · exact hw.elim
noncomputable def isNon:PV->Bool
 | .non=>true
 | _=>false
noncomputable def a6J:w2:=fun x y R=>match y with | .non=>R (.bl (!isNon x)) | _=>False
theorem isnon {K:x0a}{G:Gh}{H:Hp}{x:PV}{v:V}(h:RdV K G H x v):decide (v=.non)=isNon x:=by
 cases x with
 | non=>rw [h.non];rfl
 | bl b=>rw [h.bl];rfl
 | int b=>rw [h.int];rfl
 | str b=>rw [h.str];rfl
 | tup xs=>obtain⟨a,vs,e,_⟩:=h.tup;rw [e];rfl
 | lst xs=>obtain⟨a,vs,e,_⟩:=h.lst;rw [e];rfl
 | ty n=>rw [show v=.ty n from h.rep (fun _ z=>nomatch z)];rfl
 | pot k=>obtain⟨p,_,e⟩:=h.rep (fun _ z=>nomatch z);rw [e];rfl
 | scr k=>obtain⟨p,e,_⟩:=h.rep (fun _ z=>nomatch z);rw [e];rfl
 | dct ks xs=>obtain⟨a,kvs,e,_⟩:=h.rep (fun _ z=>nomatch z);rw [e];rfl
 | fdt ks xs=>obtain⟨a,kvs,e,_⟩:=h.rep (fun _ z=>nomatch z);rw [e];rfl
theorem W2.notN {K:x0a}:W2 K (fun x y H Q=>y=.non/\Q (.bl (!decide (x=.non))) H) a6J:=by
 intro G H x y v u R Q hf rx ry hw k;unfold a6J at hw
 split at hw
 · refine⟨ry.non,k _ _ _ hw (Same.refl _) ?_⟩;rw [isnon rx]
   rfl
 · exact hw.elim
structure Cmp {ι:Type}(K:x0a)(F:ι->Cx)(op:CmpOp)(w:w2):Prop where
 ex:∃r,(∀z,OpR (F z) (x1H op) r)/\W2 K r w
theorem cEq (d:Nat){k:Nat}(hr:∀z,Room k (F z).A)(hd:d<=30:=by decide)(hK:∀z,(F z).K=K:=by intro _;rfl):Cmp K F .Eq (wEq d):=⟨_,fun z=>hK z▸op_eqD d (by have:=(hr z).units;omega),W2.eq d⟩
theorem cNe (d:Nat){k:Nat}(hr:∀z,Room k (F z).A)(hd:d<=30:=by decide)(hK:∀z,(F z).K=K:=by intro _;rfl):Cmp K F .NotEq (wNe d):=⟨_,fun z=>hK z▸op_neD d (by have:=(hr z).units;omega),W2.ne d⟩
theorem cIn (d:Nat){k:Nat}(hr:∀z,Room k (F z).A)(hd:d<=30:=by decide)(hK:∀z,(F z).K=K:=by intro _;rfl):Cmp K F .In (wIn d false):=⟨_,fun z=>b0u.or (hK z▸op_inD d (by have:=(hr z).units;omega)),W2.in_ d false fun _ _ _ _ h=>h⟩
theorem b1M (d:Nat){k:Nat}(hr:∀z,Room k (F z).A)(hd:d<=30:=by decide)(hK:∀z,(F z).K=K:=by intro _;rfl):Cmp K F .NotIn (wIn d true):=⟨_,fun z=>a6d.or (hK z▸b0r d (by have:=(hr z).units;omega)),W2.in_ d true fun _ _ _ _ h=>h⟩
theorem cLt:Cmp K F .Lt wLt:=⟨_,fun _=>op_lt.or b0s,W2.lt⟩
theorem cLe:Cmp K F .LtE wLe:=⟨_,fun _=>op_le.or b0t,W2.le⟩
theorem cGt:Cmp K F .Gt wGt:=⟨_,fun _=>op_gt,W2.I0 fun _ _ _ _=>rfl⟩
theorem b1N:Cmp K F .IsNot a6J:=⟨_,fun _=>b5v,W2.notN⟩
theorem a4P {w:w2}(hc:Cmp K F op w)(ha:QE T K F a pa)(hb:QR T K F b pb)(hm:x3w op b=false):QE T K F (.Compare a [op] [b] pos) (qOp w pa pb):=by
 obtain⟨r,ho,hw⟩:=hc.ex;obtain⟨ta,h1,h2⟩:=ha;obtain⟨tb,h3,h4⟩:=hb;exact⟨_,fun z=>b0o (ho z) (h1 z) (h3 z) hm,b0w hw h2 h4⟩
noncomputable def qB (pe:pE):pT:=fun env n R=>pe env n fun x env' n'=>match x with | .bl b=>R b env' n' | _=>False
theorem ok_b {K:x0a}{t:TE}(h:EOk K T t pe):TOk K T (tB t) (qB pe):=fun C G σ H env n R Q hK hT S hp k=>by
 refine h C G σ H env n _ _ hK hT S hp fun x env' n' v H' r S' rp f=>?_;cases x with
 | bl b=>exact⟨b,rp,k _ _ _ _ r S' f⟩
 | _=>exact r.elim
theorem b0v {K:x0a}{t:TE}(h:EOk K T t pe):TOk K T (b4L t) (qB pe):=fun C G σ H env n R Q hK hT S hp k=>by
 refine h C G σ H env n _ _ hK hT S hp fun x env' n' v H' r S' rp f=>?_;cases x with
 | bl b=>exact⟨b,rp,k _ _ _ _ r S' f⟩
 | _=>exact r.elim
theorem a9W (h:QE T K F e pe)(he:∀z whole,isTrue e (F z).env whole=(do let v ← whole;standAt e.pos;x4N [v] (truthy v)):=by intro _ _;rfl):QT T K F e (qB pe):=by
 obtain⟨t,h1,h2⟩:=h;exact⟨_,fun z=>pt_val (h1 z) (he z),ok_b h2⟩
theorem a0Z {w:w2}(hc:Cmp K F op w)(ha:QE T K F a pa)(hb:QR T K F b pb)(hm:x3w op b=false):QT T K F (.Compare a [op] [b] pos) (qB (qOp w pa pb)):=by
 obtain⟨r,ho,hw⟩:=hc.ex;obtain⟨ta,h1,h2⟩:=ha;obtain⟨tb,h3,h4⟩:=hb;exact⟨_,fun z=>a5l (ho z) (h1 z) (h3 z) hm,b0v (b0w hw h2 h4)⟩
noncomputable def a7W (w w':w2)(pa pb pc:pE):pE:=fun env n R=>pa env n fun x env1 n1=>pb env1 n1 fun y env2 n2=>w x y fun z=>match z with | .bl k=>if k=true then pc env2 n2 fun u env3 n3=>w' y u fun z=>R z env3 n3 else R (.bl false) env2 n2 | _=>False
theorem b2Y {K:x0a}{r r':R2}{w:w2}{ta tb tc:TE}(hw:W2 K r w)(hw':W2 K r' w')(ha:EOk K T ta pa)(hb:EOk K T tb pb)(hc:EOk K T tc pc):EOk K T (b3O r r' ta tb tc) (a7W w w' pa pb pc):=fun C G σ H env n R Q hK hT S hp k=>by
 refine ha C G σ H env n _ _ hK hT S hp fun x env1 n1 v H1 p1 S1 r1 f1=>?_;refine hb C G σ H1 env1 n1 _ _ hK hT S1 p1 fun y env2 n2 u H2 p2 S2 r2 f2=>?_;subst hK;refine hw G H2 x y v u _ _ (fun p hp=>S2.fresh hp) (.inl (r1.fr f2)) (.inl r2) p2 fun z v' H' rz s rv=>?_;cases z with
 | bl kk =>
   refine⟨kk,rv,?_⟩;cases kk with
   | false=>exact k _ _ _ _ _ rz (S2.same s) rfl ((f1.trans f2).trans (Fr.of s))
   | true =>
     refine hc C G σ H' env2 n2 _ _ rfl hT (S2.same s) rz fun c3 env3 n3 v3 H3 p3 S3 r3 f3=>?_;exact hw' G H3 y c3 u v3 _ _ (fun p hp=>S3.fresh hp) (.inl ((r2.same s).fr f3)) (.inl r3) p3 fun z v' H4 rz s4 rv=>k _ _ _ _ _ rz (S3.same s4) rv ((((f1.trans f2).trans (Fr.of s)).trans f3).trans (Fr.of s4))
 | _=>exact rz.elim
theorem b2s {op':CmpOp}{w:w2}(hc:Cmp K F op w)(hc':Cmp K F op' w')(ha:QE T K F a pa)(hb:QE T K F b pb)(hcc:QE T K F c pc)(hm:lastMarks [op,op'] [b,c]=false:=by with_unfolding_all rfl):QT T K F (.Compare a [op,op'] [b,c] pos) (qB (a7W w w' pa pb pc)):=by
 obtain⟨r,ho,hw⟩:=hc.ex;obtain⟨r',ho',hw'⟩:=hc'.ex;obtain⟨ta,a1,a2⟩:=ha;obtain⟨tb,b1,b2⟩:=hb;obtain⟨tc,c1,c2⟩:=hcc;exact⟨_,fun z=>b2G (ho z) (ho' z) (a1 z) (b1 z) (c1 z) hm,b0v (b2Y hw hw' a2 b2 c2)⟩
variable {pt pu:pT}
noncomputable def qAnd (t u:pT):pT:=fun env n R=>t env n fun b env1 n1=>if b=true then u env1 n1 R else R false env1 n1
theorem ok_and {K:x0a}{t u:TT}(h:TOk K T t pt)(h':TOk K T u pu):TOk K T (tAnd t u) (qAnd pt pu):=fun C G σ H env n R Q hK hT S hp k=>by
 refine h C G σ H env n _ _ hK hT S hp fun b env1 n1 H1 p1 S1 f1=>?_;cases b with
 | true=>exact h' C G σ H1 env1 n1 _ _ hK hT S1 p1 fun b env2 n2 H2 p2 S2 f2=>k _ _ _ _ p2 S2 (f1.trans f2)
 | false=>exact k _ _ _ _ p1 S1 f1
theorem a9V (ha:QT T K F a pt):QW T K F (.BoolOp .And [a] pos) pt:=let ⟨t,h1,h2⟩:=ha;⟨t,fun z=>b0j (h1 z),h2⟩
theorem b3V (ha:QT T K F a pt)(hb:QW T K F (.BoolOp .And (b::rest) pos) pu):QW T K F (.BoolOp .And (a::b::rest) pos) (qAnd pt pu):=let ⟨t,h1,h2⟩:=ha;let ⟨u,h3,h4⟩:=hb;⟨_,fun z=>b4d (h1 z) (h3 z),ok_and h2 h4⟩
theorem QW.qt (h:QW T K F e pt):QT T K F e pt:=let ⟨t,h1,h2⟩:=h;⟨t,fun z=>(h1 z).pt,h2⟩
theorem qe_one {op}(h:QE T K F a pa):QE T K F (.BoolOp op [a] pos) pa:=let ⟨t,h1,h2⟩:=h;⟨t,fun z=>pe_one (h1 z),h2⟩
variable {pl pr:pA}
noncomputable def qNil:pA:=fun env n R=>R [] env n
noncomputable def a0c (pe:pE)(pr:pA):pA:=fun env n R=>pe env n fun x env1 n1=>pr env1 n1 fun xs env2 n2=>R (x::xs) env2 n2
theorem a0h:QA T K F [] qNil:=⟨_,fun _=>a0C,fun C G σ H env n R Q hK hT S hp k=>k _ _ _ _ _ hp S Reps.nil Fr.refl⟩
theorem b5z {K:x0a}{t:TE}{u:TA}(h:EOk K T t pe)(h':AOk K T u pr):AOk K T (a2M t u) (a0c pe pr):=fun C G σ H env n R Q hK hT S hp k=>by
 refine h C G σ H env n _ _ hK hT S hp fun x env1 n1 v H1 p1 S1 r1 f1=>?_;exact h' C G σ H1 env1 n1 _ _ hK hT S1 p1 fun xs env2 n2 vs H2 p2 S2 r2 f2=>k _ _ _ _ _ p2 S2 (.cons (r1.fr f2) r2) (f1.trans f2)
noncomputable def a0u:Expr->Bool
 | .Starred ..=>false
 | _=>true
theorem a0d {e:Expr}{es:List Expr}{env:PySem.Env}(h:a0u e=true):x0Y (e::es) env=(false,eval e env)::x0Y es env:=by
 cases e <;> first | rfl | cases h
theorem a0a (ha:QE T K F e pe)(hr:QA T K F es pr)(h:a0u e=true:=by rfl):QA T K F (e::es) (a0c pe pr):=by
 obtain⟨t,h1,h2⟩:=ha;obtain⟨u,h3,h4⟩:=hr;exact⟨_,fun z=>a0n (h1 z) (h3 z) (a0d h),b5z h2 h4⟩
noncomputable def qTup (pa:pA):pE:=fun env n R=>pa env n fun xs env1 n1=>xs.length<=1000000/\R (.tup xs) env1 n1
noncomputable def qLst (pa:pA):pA:=fun env n R=>pa env n fun xs env1 n1=>xs.length<=1000000/\R xs env1 n1
noncomputable def qL (pn:pA):pE:=fun env n R=>pn env n fun xs env1 n1=>R (.lst xs) env1 n1
theorem a0z {x1}(h:QA T K F es pl):QE T K F (.Tuple es x1 pos) (qTup pl):=by
 obtain⟨t,h1,h2⟩:=h;refine⟨_,fun z=>a4Q (h1 z),fun C G σ H env n R Q hK hT S hp k=>?_⟩;refine h2 C G σ H env n _ _ hK hT S hp fun xs env1 n1 vs H1 p1 S1 r1 f1=>⟨by rw [<- r1.length];exact mil p1.1,fun p hp=>?_⟩;exact k _ _ _ _ _ p1.2 (S1.same (Same.lay1 hp)) (a3c (S1.fresh hp) hp r1) (f1.trans (Fr.of (Same.lay1 hp)))
theorem a1j (h:QA T K F es pl):QN T K F (.List es pos) (qLst pl):=by
 obtain⟨t,h1,h2⟩:=h;refine⟨_,fun z=>pe_lst (h1 z),fun C G σ H env n R Q hK hT S hp k=>?_⟩;exact h2 C G σ H env n _ _ hK hT S hp fun xs env1 n1 vs H1 p1 S1 r1 f1=>⟨by rw [<- r1.length];exact mil p1.1,fun p hp=>k _ _ _ _ _ _ p1.2 S1 f1 hp r1⟩
theorem QN.ee (h:QN T K F e pl):QE T K F e (qL pl):=by
 obtain⟨t,h1,h2⟩:=h;refine⟨t,h1,fun C G σ H env n R Q hK hT S hp k=>?_⟩;refine h2 C G σ H env n _ _ hK hT S hp fun xs env1 n1 a vs Hb p1 S1 f1 hn r1=>?_;exact k _ _ _ _ _ p1 (S1.same (Same.lay1 hn)) (a3V (S1.fresh hn) hn r1) (f1.trans (Fr.of (Same.lay1 hn)))
theorem a7X {K:x0a}{t:TE}(h:ROk K T t pe){C:Ct}{G:Gh}{σ:St}{H:Hp}{env:Env}{n:Nat}{R:PK}{Q:List V->Hp->Prop}(hK:C.K=K)(hT:C.T=T)(S:SR C G σ H env n)(hp:pe env n R)
   (k:∀x env' n' v H',R x env' n'->SR C G σ H' env' n'->RdS C G σ H' env' x v->Fr G H H'->Q [v] H'):a2M t tNil σ H Q:=
 h C G σ H env n _ _ hK hT S hp fun x env1 n1 v H1 p1 S1 r1 f1=>k _ _ _ _ _ p1 S1 r1 f1
end
end Pu
end
section
namespace HT
open PySem PySem.Spec PyProof.Rows
section
variable {prog:x0D}{w:World}{A:Around}{E:Value->Shared->Prop}{s:Shared}
theorem getItem_tuple_whole {t sl:Addr}{items:Array Value}{vl vu:Value}{lo hi:Option Int}{Q:Value->Shared->Prop}(ht:IsTup s.heap t items)(hs:s.heap.IsSliceOf sl vl vu .none)(pl:IsPart vl lo)(pu:IsPart vu hi)
   (hw:sIx items.size 0 lo=0/\sIx items.size items.size hi=items.size) (h:Q (.ref t) s):wpAny (model prog w) A (x4B (.ref t) (.ref sl)) Q E s:=by
 obtain⟨os,hos,hcs,hds⟩:=id hs;have hTs:s.TypeIs (.ref sl) "slice":=⟨os,hos,hcs⟩;have hTt:s.TypeIs (.ref t) "tuple":=ht.typeIs;unfold x4B
 try with_reducible refine x0W ?_
 first | refine x0b (x0h ?_) | skip
 refine x0b (wpAny_sequenceKey ht.typeIs (by decide) ?_)
 refine x0b (x1A (name:=x0g "__getitem__") ht.typeIs x1m
   (x1C x1m ht.typeIs entry_tuple_getitem ?_ (args_tuple_getitem _ _)))
 show wpAny _ _ (x3f (.ref t)>>=_) _ _ s;refine x0b (tupleItemsOf_ ht ?_);refine x0b (x4h hTs ?_);rw [if_pos (by decide)];refine x0b (a1U hs pl pu ?_)
 have hyes:(((sIx items.size 0 lo:Nat):Int) == 0 && (1:Int) == 1 && (sIx items.size items.size hi - sIx items.size 0 lo) == items.size)=true:=by
   rw [hw.1,hw.2];simp
 show wpAny _ _ (if(((sIx items.size 0 lo:Nat):Int) == 0 && (1:Int) == 1 && (sIx items.size items.size hi - sIx items.size 0 lo) == items.size)=true then _ else _) _ _ s;rw [if_pos hyes];unfold Builtin.Tuple.tupleIsExact;refine x0b (x0b (x4h hTt (x0h ?_)));rw [if_pos (by rfl)];exact x0b (x2Y (x0h ⟨_,rfl,x0h h⟩))
end
end HT
namespace L2
open PySem PySem.Spec PyProof.Rows
section
variable {X:Cx}
noncomputable def rSlTA (K:x0a):V->Option Int->Option Int->Hp->VK->Prop:=fun x lo hi H Q=>∃a xs,x=.ref a/\SqT K H a xs/\
 (cutV xs lo hi=xs->Q (.ref a) H)/\∀p,H p=none->Q (.ref p) (upd H p (.tup (cutV xs lo hi)))
theorem b4R:SlR X (rSlTA X.K):=by
 intro pins s σ H x v vl vu lo hi sl Q I rx hs pl pu h;obtain⟨a,xs,rfl,hx,h1,h2⟩:=h
 by_cases hw:HT.sIx xs.length 0 lo=0/\HT.sIx xs.length xs.length hi=xs.length
 · cases rx;obtain⟨its,r,ht,hz⟩:=I.tuple hx;have hlen:its.toArray.size=xs.length:=by rw [x0p];exact r.length.symm
   refine⟨"tuple",_,PyProof.Rows.slot_tuple_getitem.lookup,ht.typeIs,?_⟩;refine HT.getItem_tuple_whole ht hs pl pu (by rw [hlen];exact hw) ⟨.ref a,H,I,rfl,h1 ?_⟩;unfold cutV;rw [hw.1,hw.2];simp
 · exact sl_tup pins s σ H (.ref a) v vl vu lo hi sl Q I rx hs pl pu ⟨a,xs,rfl,hx,hw,h2⟩
end
end L2
namespace Pu
open PySem PySem.Spec L2
section
variable {T:PotK}{ι:Type}{K:x0a}{F:ι->Cx}{e a b c:Expr}{es rest:List Expr}{pe pa pb pc:pE}{pos:Pos}{pl pr:pA}
noncomputable def wIx:w2:=fun x y R=>match x,y with
 | .lst xs,.int i=>match atI xs i with | some z=>R z | none=>False
 | .tup xs,.int i=>match atI xs i with | some z=>R z | none=>False
 | .scr ns,.int i=>match atI ns i with | some z=>R (.int z) | none=>False
 | .str z,.int i=>z.length<=1000000/\match atI z.cps.toList i with | some c=>R (.str ⟨#[c]⟩) | none=>False
 | _,_=>False
theorem a8u {K:x0a}{G:Gh}{H:Hp}{xs:List PV}{vs:List V}(r:Reps K G H xs vs){i:Int}{z:PV}(h:atI xs i=some z):∃v,atI vs i=some v/\Rep K G H z v:=by
 unfold atI at h ⊢;rw [<- r.length];cases e:ixN xs.length i with
 | none=>rw [e] at h;cases h
 | some j =>
   rw [e] at h;exact r.get' h
theorem a5O {K:x0a}{G:Gh}{H:Hp}{ns:List Int}{v:V}(h:RdV K G H (.scr ns) v):∃a,v=.ref a/\SqL K H a (ns.map V.int):=by
 obtain⟨a,e,h⟩:=h.rep (fun _ z=>nomatch z);refine⟨a,e,?_⟩;rcases h with⟨_,o,h⟩ | h
 · exact .inl (.inr ⟨o,h⟩)
 · exact .inr h
theorem W2.ix {K:x0a}:W2 K (rIx K) wIx:=by
 intro G H x y v u R Q hf rx ry hw k;unfold wIx at hw
 split at hw
 · rename_i xs i;obtain⟨a,vs,ev,hq,r⟩:=rx.lst;cases ez:atI xs i with
   | none=>rw [ez] at hw;exact hw.elim
   | some z =>
     rw [ez] at hw;obtain⟨v',e1,r1⟩:=a8u r ez;exact .inl ⟨a,vs,i,v',ev,ry.int,hq,e1,k _ _ _ hw (Same.refl _) r1⟩
 · rename_i xs i;obtain⟨a,vs,ev,hq,r⟩:=rx.tup;cases ez:atI xs i with
   | none=>rw [ez] at hw;exact hw.elim
   | some z =>
     rw [ez] at hw;obtain⟨v',e1,r1⟩:=a8u r ez;exact .inr (.inl ⟨a,vs,i,v',ev,ry.int,hq,e1,k _ _ _ hw (Same.refl _) r1⟩)
 · rename_i ns i;obtain⟨a,ev,hq⟩:=a5O rx;cases ez:atI ns i with
   | none=>rw [ez] at hw;exact hw.elim
   | some z =>
     rw [ez] at hw;refine .inl ⟨a,_,i,.int z,ev,ry.int,hq,?_,k _ _ _ hw (Same.refl _) rfl⟩;unfold atI at ez ⊢;rw [x0k];cases e:ixN ns.length i with
     | none=>rw [e] at ez;cases ez
     | some j =>
       rw [e] at ez;show(ns.map V.int)[j]?=_;rw [x0v,show ns[j]?=some z from ez]
       rfl
 · rename_i z i;obtain⟨hz,hw⟩:=hw;cases ez:atI z.cps.toList i with
   | none=>rw [ez] at hw;exact hw.elim
   | some c =>
     rw [ez] at hw;exact .inr (.inr ⟨z,i,c,rx.str,ry.int,mil hz,ez,k _ _ _ hw (Same.refl _) rfl⟩)
 · exact hw.elim
theorem a0I (ha:QE T K F a pa)(hb:QE T K F b pb)(hs:a7B b:=by exact fun _ _=>rfl)(hK:∀z,(F z).K=K:=by intro _;rfl):QE T K F (.Subscript a b pos) (qOp wIx pa pb):=by
 obtain⟨ta,h1,h2⟩:=ha;obtain⟨tb,h3,h4⟩:=hb.r;exact⟨_,fun z=>b5r (hK z▸b4l) (h1 z) (h3 z) hs,b0w W2.ix h2 h4⟩
theorem b3Y (ha:QR T K F a pa)(hb:QE T K F b pb)(hs:a7B b:=by exact fun _ _=>rfl)(hK:∀z,(F z).K=K:=by intro _;rfl):QE T K F (.Subscript a b pos) (qOpR wIx pa pb):=by
 obtain⟨ta,h1,h2⟩:=ha;obtain⟨tb,h3,h4⟩:=hb.r;exact⟨_,fun z=>b5r (hK z▸b4l) (h1 z) (h3 z) hs,ok_opR W2.ix h2 h4⟩
noncomputable abbrev pO:=Env->Nat->(Option Int->Env->Nat->Prop)->Prop
noncomputable def qNo:pO:=fun env n R=>R none env n
noncomputable def a2S (pe:pE):pO:=fun env n R=>pe env n fun x env1 n1=>match x with | .int i=>R (some i) env1 n1 | _=>False
noncomputable def OOk (K:x0a)(T:PotK)(t:TO)(po:pO):Prop:=∀(C:Ct) (G:Gh) (σ:St) (H:Hp) (env:Env) (n:Nat) (R:Option Int->Env->Nat->Prop) (Q:Option Int->Hp->Prop),C.K=K->C.T=T->SR C G σ H env n->po env n R->
 (∀x env' n' H',R x env' n'->SR C G σ H' env' n'->Fr G H H'->Q x H')->t σ H Q
noncomputable def QO {ι:Type}(T:PotK)(K:x0a)(F:ι->Cx)(e:Option Expr)(po:pO):Prop:=∃t,(∀z,PO (F z) e t)/\OOk K T t po
theorem b0a:QO T K F none qNo:=⟨_,fun _=>a7b,fun C G σ H env n R Q hK hT S hp k=>k _ _ _ _ hp S Fr.refl⟩
theorem a1q (h:QE T K F e pe):QO T K F (some e) (a2S pe):=by
 obtain⟨t,h1,h2⟩:=h;refine⟨_,fun z=>a7a (h1 z),fun C G σ H env n R Q hK hT S hp k=>?_⟩;refine h2 C G σ H env n _ _ hK hT S hp fun x env1 n1 v H1 p1 S1 r1 f1=>?_;cases x with
 | int i=>exact⟨i,r1,k _ _ _ _ p1 S1 f1⟩
 | _=>exact p1.elim
noncomputable def cutP {α:Type}(xs:List α)(lo hi:Option Int):List α:=(xs.drop (HT.sIx xs.length 0 lo)).take (HT.sIx xs.length xs.length hi - HT.sIx xs.length 0 lo)
theorem Reps.cut {K:x0a}{G:Gh}{H:Hp}{xs:List PV}{vs:List V}(r:Reps K G H xs vs)(lo hi:Option Int):Reps K G H (cutP xs lo hi) (cutV vs lo hi):=by
 unfold cutP cutV;rw [<- r.length];exact(r.drop _).take _
noncomputable def wSl (x:PV)(lo hi:Option Int)(R:PV->Prop):Prop:=match x with
 | .lst xs=>R (.lst (cutP xs lo hi))
 | .scr ns=>R (.lst ((cutP ns lo hi).map PV.int))
 | .tup xs=>R (.tup (cutP xs lo hi))
 | .str z=>z.length<=1000000/\R (.str (x2J z lo hi))
 | _=>False
noncomputable def qSl (pe:pE)(pl ph:pO):pE:=fun env n R=>pe env n fun x env1 n1=>pl env1 n1 fun lo env2 n2=>ph env2 n2 fun hi env3 n3=>wSl x lo hi fun z=>R z env3 n3
theorem a5Q {K:x0a}{G:Gh}{H:Hp}:∀ns:List Int,Reps K G H (ns.map PV.int) (ns.map V.int):=by
 intro xq
 induction xq with
 | nil =>
   exact rfl
 | cons i ns ih =>
   exact⟨.int i,ns.map V.int,rfl,rfl,ih⟩
theorem a5C {α β:Type}(f:α->β)(xs:List α)(lo hi:Option Int):cutP (xs.map f) lo hi=(cutP xs lo hi).map f:=by
 unfold cutP;rw [x0k,List.map_take,List.map_drop]
theorem sl_ok {K:x0a}{G:Gh}{H:Hp}{x:PV}{v:V}{lo hi:Option Int}{R:PV->Prop}{Q:VK}(hf:∀p,H p=none->p∉G.M)(rx:RdV K G H x v)(hw:wSl x lo hi R)(k:∀z v' H',R z->Same H H'->Rep K G H' z v'->Q v' H') :
   rSlL K v lo hi H Q\/rSlTA K v lo hi H Q\/rSlS v lo hi H Q:=by
 unfold wSl at hw
 split at hw
 · obtain⟨a,vs,ev,hq,r⟩:=rx.lst;exact .inl ⟨a,vs,ev,hq,fun p hp=>k _ _ _ hw (Same.lay1 hp) (a3V (hf p hp) hp (r.cut lo hi))⟩
 · rename_i ns;obtain⟨a,ev,hq⟩:=a5O rx;refine .inl ⟨a,_,ev,hq,fun p hp=>k _ _ _ hw (Same.lay1 hp) (a3V (hf p hp) hp ?_)⟩;have:=(a5Q (K:=K) (G:=G) (H:=H) ns).cut lo hi;rw [a5C] at this;exact this
 · obtain⟨a,vs,ev,t,r⟩:=rx.rep (fun _ z=>nomatch z);refine .inr (.inl ⟨a,vs,ev,t.sq,fun z=>k _ _ _ hw (Same.refl _) ?_,fun p hp=>k _ _ _ hw (Same.lay1 hp) (a3c (hf p hp) hp (r.cut lo hi))⟩);have rc:=r.cut lo hi;rw [z] at rc;exact⟨a,vs,rfl,t,rc⟩
 · exact .inr (.inr ⟨_,rx.str,mil hw.1,k _ _ _ hw.2 (Same.refl _) rfl⟩)
 · exact hw.elim
theorem a5U {lo hi:Option Expr}{p2:Pos}{ql qh:pO}(he:QE T K F e pe)(hl:QO T K F lo ql)(hh:QO T K F hi qh)(hK:∀z,(F z).K=K:=by intro _;rfl):QE T K F (.Subscript e (.Slice lo hi none p2) pos) (qSl pe ql qh):=by
 obtain⟨t,h1,h2⟩:=he;obtain⟨tl,l1,l2⟩:=hl;obtain⟨th,u1,u2⟩:=hh;refine⟨_,fun z=>a5m ((hK z▸a6O).or ((hK z▸b4R).or sl_str)) (h1 z) (l1 z) (u1 z),fun C G σ H env n R Q hK hT S hp k=>?_⟩;refine h2 C G σ H env n _ _ hK hT S hp fun x env1 n1 v H1 p1 S1 r1 f1=>?_;refine l2 C G σ H1 env1 n1 _ _ hK hT S1 p1 fun lo env2 n2 H2 p2 S2 f2=>?_;refine u2 C G σ H2 env2 n2 _ _ hK hT S2 p2 fun hi env3 n3 H3 p3 S3 f3=>?_;exact sl_ok (fun p hp=>S3.fresh hp) (.inl ((r1.fr f2).fr f3)) p3 fun z v' H' rz s rv=>k _ _ _ _ _ rz (S3.same s) rv (((f1.trans f2).trans f3).trans (Fr.of s))
noncomputable def WA1 (K:x0a)(r:List V->Hp->VK->Prop)(w:w1):Prop:=∀(G:Gh) (H:Hp) (x:PV) (v:V) (R:PV->Prop) (Q:VK),(∀p,H p=none->p∉G.M)->RdV K G H x v->w x R->
 (∀z v' H',R z->Same H H'->Rep K G H' z v'->Q v' H')->r [v] H Q
theorem b4i {K:x0a}{r:List V->Hp->VK->Prop}{w:w1}{t:TE}(hw:WA1 K r w)(h:ROk K T t pe):EOk K T (tCB r (a2M t tNil)) (qUn w pe):=fun C G σ H env n R Q hK hT S hp k=>by
 refine a7X h hK hT S hp fun x env1 n1 v H1 p1 S1 r1 f1=>?_;subst hK;exact hw G H1 x v _ _ (fun p hp=>S1.fresh hp) (r1.rd S1) p1 fun z v' H' rz s rv=>k _ _ _ _ _ rz (S1.same s) rv (f1.trans (Fr.of s))
theorem b4b {x:Str}{id:String}{r:List V->Hp->VK->Prop}{w:w1}{p:Pos}(hc:∀z,a1W (F z) (.builtin id) r)(hw:WA1 K r w)(hg:∀z,Gl (F z) x)(hm:∀z,(F z).mg x=none)(hv:x1s x=some (.builtin id))(ha:QR T K F e pe)(hs:a0u e=true:=by rfl)(hn:x≠"__name__":=by decide)(hdb:(x == ("__debug__":Str))=false:=by decide) :
   QE T K F (.Call (.Name x p) [e] [] pos) (qUn w pe):=by
 obtain⟨t,h1,h2⟩:=ha;exact⟨_,fun z=>a2n (hc z) (hg z) (hm z) hv (a0n (h1 z) a0C (a0d hs)) hn hdb (a0d hs),b4i hw h2⟩
theorem b4a {x:Str}{id:String}{r:List V->Hp->VK->Prop}{w:w1}{p:Pos}(hc:∀z,a1W (F z) (.type id) r)(hw:WA1 K r w)(hg:∀z,Gl (F z) x)(hm:∀z,(F z).mg x=none)(hv:x1s x=some (.type id))(ha:QR T K F e pe)(hs:a0u e=true:=by rfl)(hn:x≠"__name__":=by decide)(hdb:(x == ("__debug__":Str))=false:=by decide) :
   QE T K F (.Call (.Name x p) [e] [] pos) (qUn w pe):=by
 obtain⟨t,h1,h2⟩:=ha;exact⟨_,fun z=>a2c (hc z) (hg z) (hm z) hv (a0n (h1 z) a0C (a0d hs)) hn hdb (a0d hs),b4i hw h2⟩
noncomputable def wLen:w1:=fun x R=>match x with
 | .lst xs=>R (.int xs.length)
 | .tup xs=>R (.int xs.length)
 | .scr xs=>R (.int xs.length)
 | .str z=>z.length<=1000000/\R (.int z.length)
 | _=>False
theorem WA1.len {K:x0a}:WA1 K (fun xs H Q=>(∃p ys,xs=[.ref p]/\(SqL K H p ys\/SqT K H p ys)/\Q (.int ys.length) H)\/∃z,xs=[.str z]/\z.length<=x0w/\Q (.int z.length) H) wLen:=by
 intro G H x v R Q hf rx hw k;unfold wLen at hw
 split at hw
 · obtain⟨a,vs,ev,hq,r⟩:=rx.lst;exact .inl ⟨a,vs,by rw [ev],.inl hq,k _ _ _ hw (Same.refl _) (by rw [r.length];rfl)⟩
 · obtain⟨a,vs,ev,hq,r⟩:=rx.tup;exact .inl ⟨a,vs,by rw [ev],.inr hq,k _ _ _ hw (Same.refl _) (by rw [r.length];rfl)⟩
 · obtain⟨a,ev,hq⟩:=a5O rx;exact .inl ⟨a,_,by rw [ev],.inl hq,k _ _ _ hw (Same.refl _) (by rw [x0k];rfl)⟩
 · exact .inr ⟨_,by rw [rx.str],mil hw.1,k _ _ _ hw.2 (Same.refl _) rfl⟩
 · exact hw.elim
theorem a1Z {p:Pos}(hg:∀z,Gl (F z) "len")(hm:∀z,(F z).mg "len"=none)(ha:QR T K F e pe)(hs:a0u e=true:=by rfl)(hK:∀z,(F z).K=K:=by intro _;rfl):QE T K F (.Call (.Name "len" p) [e] [] pos) (qUn wLen pe):=b4b (fun z=>(hK z▸a2i).or a6z) WA1.len hg hm a8t ha hs
noncomputable def wInt:w1:=fun x R=>match x with | .int i=>R (.int i) | .bl b=>R (.int (if b then 1 else 0)) | _=>False
theorem b2w {p:Pos}(hg:∀z,Gl (F z) "int")(hm:∀z,(F z).mg "int"=none)(ha:QR T K F e pe)(hs:a0u e=true:=by rfl):QE T K F (.Call (.Name "int" p) [e] [] pos) (qUn wInt pe):=b4a (fun _=>a6A) (fun G H x v R Q hf rx hw k=>by
 unfold wInt at hw
 split at hw
 · exact .inl ⟨_,by rw [rx.int],k _ _ _ hw (Same.refl _) rfl⟩
 · exact .inr ⟨_,by rw [rx.bl],k _ _ _ hw (Same.refl _) rfl⟩
 · exact hw.elim) hg hm b4A ha hs
noncomputable def a1p:w1:=fun x R=>match x with | .lst xs=>R (.tup xs) | .tup xs=>R (.tup xs) | _=>False
theorem a0V {p:Pos}(hg:∀z,Gl (F z) "tuple")(hm:∀z,(F z).mg "tuple"=none)(ha:QR T K F e pe)(hs:a0u e=true:=by rfl)(hK:∀z,(F z).K=K:=by intro _;rfl):QE T K F (.Call (.Name "tuple" p) [e] [] pos) (qUn a1p pe):=b4a (fun z=>hK z▸a5D) (fun G H x v R Q hf rx hw k=>by
 unfold a1p at hw
 split at hw
 · obtain⟨a,vs,ev,hq,r⟩:=rx.lst;exact⟨a,vs,by rw [ev],.inl ⟨hq,fun l hl=>k _ _ _ hw (Same.lay1 hl) (a3c (hf l hl) hl r)⟩⟩
 · obtain⟨a,vs,ev,t,r⟩:=rx.rep (fun _ z=>nomatch z);exact⟨a,vs,by rw [ev],.inr ⟨t.sq,k _ _ _ hw (Same.refl _) ⟨a,vs,rfl,t,r⟩⟩⟩
 · exact hw.elim) hg hm b3H ha hs
noncomputable def b2B (pe:pE):pA:=fun env n R=>pe env n fun x env1 n1=>match x with | .lst xs=>R xs env1 n1 | .tup xs=>R xs env1 n1 | .scr ns=>R (ns.map PV.int) env1 n1 | _=>False
theorem b0b {p:Pos}(hg:∀z,Gl (F z) "list")(hm:∀z,(F z).mg "list"=none)(ha:QR T K F e pe)(hs:a0u e=true:=by rfl)(hK:∀z,(F z).K=K:=by intro _;rfl):QN T K F (.Call (.Name "list" p) [e] [] pos) (b2B pe):=by
 obtain⟨t,h1,h2⟩:=ha;refine⟨_,fun z=>a2c (hK z▸a3D) (hg z) (hm z) b1O (a0n (h1 z) a0C (a0d hs)) (by decide) (by decide) (a0d hs),fun C G σ H env n R Q hK hT S hp k=>?_⟩;refine a7X h2 hK hT S hp fun x env1 n1 v H1 p1 S1 r1 f1=>?_;have rd:RdV K G H1 x v:=hK▸r1.rd S1;cases x with
 | lst xs =>
   obtain⟨a,vs,ev,hq,r⟩:=rd.lst;exact⟨a,vs,by rw [ev],.inl hq,fun l hl=>k _ _ _ _ _ _ p1 S1 f1 hl r⟩
 | tup xs =>
   obtain⟨a,vs,ev,hq,r⟩:=rd.tup;exact⟨a,vs,by rw [ev],.inr hq,fun l hl=>k _ _ _ _ _ _ p1 S1 f1 hl r⟩
 | scr ns =>
   obtain⟨a,ev,hq⟩:=a5O rd;exact⟨a,_,by rw [ev],.inl hq,fun l hl=>k _ _ _ _ _ _ p1 S1 f1 hl (a5Q ns)⟩
 | _=>exact p1.elim
noncomputable def wMin:w2:=fun x y R=>match x,y with | .int i,.int j=>R (.int (if j < i then j else i)) | _,_=>False
theorem ok_cb2 {K:x0a}{r:List V->Hp->VK->Prop}{w:w2}{t u:TE}(hw:W2 K (fun x y H Q=>r [x,y] H Q) w)(h:EOk K T t pa)(h':EOk K T u pb):EOk K T (tCB r (a2M t (a2M u tNil))) (qOp w pa pb):=fun C G σ H env n R Q hK hT S hp k=>by
 refine h C G σ H env n _ _ hK hT S hp fun x env1 n1 v H1 p1 S1 r1 f1=>?_;refine h' C G σ H1 env1 n1 _ _ hK hT S1 p1 fun y env2 n2 u H2 p2 S2 r2 f2=>?_;exact hw G H2 x y v u _ _ (fun p hp=>S2.fresh hp) (.inl (r1.fr f2)) (.inl r2) p2 fun z v' H' rz s rv=>k _ _ _ _ _ rz (S2.same s) rv ((f1.trans f2).trans (Fr.of s))
theorem b3X {p:Pos}(hc:∀z,(F z).calm=true)(hg:∀z,Gl (F z) "min")(hm:∀z,(F z).mg "min"=none)(ha:QE T K F a pa)(hb:QE T K F b pb)(hs:a0u a=true:=by rfl)(hs2:a0u b=true:=by rfl):QE T K F (.Call (.Name "min" p) [a,b] [] pos) (qOp wMin pa pb):=by
 obtain⟨t,h1,h2⟩:=ha;obtain⟨u,h3,h4⟩:=hb;refine⟨_,fun z=>a2n (b1K (hc z)) (hg z) (hm z) bt_min (a0n (h1 z) (a0n (h3 z) a0C (a0d hs2)) (a0d hs)) (by decide) (by decide) (a0d hs) (by rw [a0d hs2];rfl),ok_cb2 (fun G H x y v u R Q hf rx ry hw k=>?_) h2 h4⟩;unfold wMin at hw
 split at hw
 · exact⟨_,_,by rw [rx.int,ry.int],k _ _ _ hw (Same.refl _) rfl⟩
 · exact hw.elim
noncomputable def a0k (K:x0a)(T:PotK)(f:pF):Sp:=fun vs H Q _=>∃(G:Gh) (xs:List PV) (n:Nat) (R:PV->Nat->Prop),(∀p∈G.pots,p∈G.M/\T.at_ G.M H p n)/\(∀a∈G.M,∃o,H a=some o/\MutO o)/\T.has G.pots/\Reps K G H xs vs/\f xs n R/\
 ∀r n' v H',R r n'->Rep K G H' r v->(∀p∈G.pots,T.at_ G.M H' p n')->(∀b o,b∉G.pots->H b=some o->H' b=some o)->Q v H'
noncomputable def a0y (f:pF)(pa:pA):pE:=fun env n R=>pa env n fun xs env1 n1=>f xs n1 fun r n2=>R r env1 n2
theorem SR.call {C:Ct}{G:Gh}{σ:St}{H H':Hp}{env:Env}{n n':Nat}(S:SR C G σ H env n)(hk:∀b o,b∉G.pots->H b=some o->H' b=some o)(hp:∀p∈G.pots,C.T.at_ G.M H' p n'):SR C G σ H' env n' where
 frame b o hb e:=by
   by_cases hp:b∈G.pots
   · -- a pot that is new since the entry has no old object
     obtain⟨l,el,_⟩:=S.pre;rw [el] at hp;rcases x0y.mp hp with z | z
     · exact absurd z hb
     · have hM:=(S.pots b (by rw [el];exact hp)).1;rcases S.sub b hM with z2 | z2
       · exact(S.newp b (by rw [el];exact hp) hb z2).elim
       · rw [z2] at e;cases e
   · exact hk b o hp (S.frame b o hb e)
 sub:=S.sub
 sup:=S.sup
 pots p h:=⟨(S.pots p h).1,hp p h⟩
 pre:=S.pre
 mu a ha:=by
   by_cases h:a∈G.pots
   · exact C.T.mu (hp a h)
   · obtain⟨o,e,m⟩:=S.mu a ha;exact⟨o,hk a o h e,m⟩
 slots i x e:=by
   have f:Fr G H H':=fun b o hb he=>hk b o (fun z=>hb (S.pots b z).1) he;have:=S.slots i x e;cases x with
   | v x =>
     obtain⟨v,e1,r⟩:=this;exact⟨v,e1,r.fr f⟩
   | ow kk xs =>
     obtain⟨a,vs,e1,h1,h2,h3,h4,r⟩:=this;exact⟨a,vs,e1,h1,h2,h3,hk _ _ h3 h4,r.fr f⟩
 inj:=S.inj
 p0:=S.p0
 len:=S.len
 newp:=S.newp
theorem a0B {x:Str}{p:Pos}{f:pF}{ps:List Str}{k j:Nat}(hG:∀z,Kn (F z).prog (F z).w (F z).K (F z).mg (F z).base x k ps (a0k K T f))(hr:∀z,Room j (F z).A)(hk:k<=j)(hg:∀z,Gl (F z) x)(ha:QA T K F (e::es) pl)(hdb:(x == ("__debug__":Str))=false:=by decide)
   (hs:a0u e=true:=by rfl) (hpl:∀z,(backTo pos (x0Y es (F z).env)).any (·.1)=false:=by intro _;rfl):QE T K F (.Call (.Name x p) (e::es) [] pos) (a0y f pl):=by
 obtain⟨t,h1,h2⟩:=ha;refine⟨_,fun z=>pe_fn (hG z) (hr z) hk (hg z) (h1 z) hdb (a0d hs) (hpl z),fun C G σ H env n R Q hK hT S hp k=>?_⟩;refine h2 C G σ H env n _ _ hK hT S hp fun xs env1 n1 vs H1 p1 S1 r1 f1=>?_;subst hT;rw [x1f];refine⟨G,xs,n1,_,fun p hp=>S1.pots p hp,S1.mu,S1.hasG,r1,p1,fun r n' v H' rr rv hp hk'=>?_⟩;exact k _ _ _ _ _ rr (S1.call hk' hp) rv (f1.trans fun b o hb e=>hk' b o (fun z=>hb (S1.pots b z).1) e)
end
end Pu
end
section
namespace Pu
open PySem PySem.Spec L2
noncomputable abbrev pG:=PV->Env->(Env->Prop)->Prop
noncomputable abbrev pGs:=List PV->Env->(Env->Prop)->Prop
noncomputable def GOk (K:x0a)(g:TG)(pg:pG):Prop:=∀(C:Ct) (G:Gh) (σ:St) (H:Hp) (env:Env) (n:Nat) (x:PV) (v:V) (R:Env->Prop) (Q:St->Hp->Prop),C.K=K->SR C G σ H env n->Rep K G H x v->pg x env R->
 (∀env' σ',R env'->SR C G σ' H env' n->Q σ' H)->g v σ H Q
noncomputable def GsOk (K:x0a)(g:TGs)(pg:pGs):Prop:=∀(C:Ct) (G:Gh) (σ:St) (H:Hp) (env:Env) (n:Nat) (x:List PV) (v:List V) (R:Env->Prop) (Q:St->Hp->Prop),C.K=K->SR C G σ H env n->Reps K G H x v->pg x env R->
 (∀env' σ',R env'->SR C G σ' H env' n->Q σ' H)->g v σ H Q
noncomputable def QG {ι:Type}(K:x0a)(F:ι->Cx)(e:Expr)(pg:pG):Prop:=∃g,(∀z,PG (F z) e g)/\GOk K g pg
noncomputable def QGs {ι:Type}(K:x0a)(F:ι->Cx)(e:List Expr)(pg:pGs):Prop:=∃g,(∀z,PGs (F z) e g)/\GsOk K g pg
noncomputable def gN (i:Nat):pG:=fun x env R=>R (env.set i (some (.v x)))
noncomputable def gNl:pGs:=fun xs env R=>match xs with | []=>R env | _=>False
noncomputable def gCn (g:pG)(r:pGs):pGs:=fun xs env R=>match xs with | x::xs=>g x env fun env1=>r xs env1 R | []=>False
noncomputable def gTp (k:Nat)(g:pGs):pG:=fun x env R=>match x with | .tup xs=>xs.length=k/\g xs env R | _=>False
theorem SR.set {C:Ct}{G:Gh}{σ:St}{H:Hp}{env:Env}{n:Nat}(S:SR C G σ H env n)(i:Nat){x:PV}{v:V}(r:Rep C.K G H x v):SR C G (σ.set i (some v)) H (env.set i (some (.v x))) n where
 frame:=S.frame
 sub:=S.sub
 sup:=S.sup
 pots:=S.pots
 pre:=S.pre
 mu:=S.mu
 slots j s e:=by
   by_cases h:i=j
   · subst h
     by_cases hl:i < env.length
     · rw [x0t hl] at e;cases e;exact⟨v,by rw [x0t (by rw [<- S.len];exact hl)],r⟩
     · rw [x1d (by rw [x0B];omega)] at e;cases e
   · rw [x0o h] at e ⊢;exact S.slots j s e
 inj j k xs ys a e1 e2 e3 e4:=by
   have nj:∀(j:Nat) (xs:OK×List PV),(env.set i (some (.v x)))[j]?=some (some (Slot.ow xs.1 xs.2))->i≠j:=by
     intro j xs e h;subst h
     by_cases hl:i < env.length
     · rw [x0t hl] at e;cases e
     · rw [x1d (by rw [x0B];omega)] at e;cases e
   have n1:=nj j xs e1;have n2:=nj k ys e2;rw [x0o n1] at e1 e3;rw [x0o n2] at e2 e4;exact S.inj j k xs ys a e1 e2 e3 e4
 p0:=S.p0
 len:=by rw [x0B,x0B];exact S.len
 newp:=S.newp
section
variable {T:PotK}{ι:Type}{K:x0a}{F:ι->Cx}{e a b c:Expr}{es rest:List Expr}{pe pa pb pc:pE}{pos:Pos}{pl pr:pA}{pg:pG}{pgs:pGs}{pt:pT}
theorem a0m {X:Cx}(i:Nat){x:Str}{pos:Pos}(hN:X.N.Nodup)(hi:X.N[i]?=some x)(hx:Loc X.env.scope x)(hf:X.fn x=true\/X.env.scope.names.lookup x=some .local:=by first | exact .inl rfl | exact .inr rfl | assumption):GW X (.Name x pos) (a1i i):=⟨b5q hN hi hx hf⟩
theorem a0r {i:Nat}{x:Str}(h:∀z,GW (F z) (.Name x pos) (a1i i)):QG K F (.Name x pos) (gN i):=⟨_,fun z=>(h z).h,fun C G σ H env n x v R Q hK S r hp k=>k _ _ hp (S.set i (hK▸r))⟩
theorem a4b:QGs K F [] gNl:=⟨_,fun _=>a4h,fun C G σ H env n x v R Q hK S r hp k=>by
 cases x with
 | nil=>exact⟨r,k _ _ hp S⟩
 | cons _ _=>exact hp.elim⟩
theorem a1a (h1:QG K F e pg)(h2:QGs K F es pgs)(hs:∀z,(x0G (e::es) (F z).env).map (·.2)=assign e (F z).env::(x0G es (F z).env).map (·.2):=by intro _;rfl):QGs K F (e::es) (gCn pg pgs):=by
 obtain⟨g,a1,a2⟩:=h1;obtain⟨gs,b1,b2⟩:=h2;refine⟨_,fun z=>a1N (a1 z) (b1 z) (hs z),fun C G σ H env n x v R Q hK S r hp k=>?_⟩;cases x with
 | nil=>exact hp.elim
 | cons x xs =>
   obtain⟨u,us,rfl,ru,rs⟩:=r;exact⟨u,us,rfl,a2 C G σ H env n x u _ _ hK S ru hp fun env' σ' re S'=>b2 C G σ' H env' n xs us _ _ hK S' rs re k⟩
theorem a7S {m:Nat}{k:Nat}(hc:∀z,(F z).calm=true)(h:QGs K F es pgs)(hn:∀z,(x0G es (F z).env).length=m:=by intro _;rfl)(hst:∀z,(x0G es (F z).env).findIdx? (·.1)=none:=by intro _;rfl)(hK:∀z,(F z).K=K:=by intro _;rfl):QG K F (.Tuple es k pos) (gTp m pgs):=by
 obtain⟨g,a1,a2⟩:=h;refine⟨_,fun z=>hK z▸a6b (hc z) (a1 z) (hn z) (hst z),fun C G σ H env n x v R Q hK S r hp k=>?_⟩;cases x with
 | tup xs =>
   obtain⟨a,vs,rfl,t,rs⟩:=r;exact⟨a,vs,rfl,t.sq,by rw [<- rs.length];exact hp.1,a2 C G σ H env n xs vs _ _ hK S rs hp.2 k⟩
 | _=>exact hp.elim
noncomputable def ItR (K:x0a)(G:Gh)(H:Hp)(J:It)(xs:List PV):Prop:=∀(G2:Gh) (H2:Hp),(∀b o,b∉G.M->H b=some o->H2 b=some o)->(∀a∈G2.M,a∈G.M\/H a=none)->(∀(k:Nat) (p:Addr),G.pots[k]?=some p->G2.pots[k]?=some p)->(∀p,H2 p=none->p∉G2.M)->
 (∀(i:Nat) x,xs[i]?=some x->J.go i H2/\∀v H3,J.yld i H2 v H3->Same H2 H3/\Rep K G2 H3 x v)/\∀i,xs.length<=i->J.stop i H2
noncomputable def IOk (K:x0a)(T:PotK)(wi:TI)(pi:pA):Prop:=∀(C:Ct) (G:Gh) (σ:St) (H:Hp) (env:Env) (n:Nat) (R:List PV->Env->Nat->Prop) (Q:It->Hp->Prop),C.K=K->C.T=T->SR C G σ H env n->pi env n R->
 (∀xs env' n' J H',R xs env' n'->SR C G σ H' env' n'->Fr G H H'->ItR K G H' J xs->Q J H')->wi σ H Q
noncomputable def QI {ι:Type}(T:PotK)(K:x0a)(F:ι->Cx)(tg iter:Expr)(pi:pA):Prop:=∃wi,(∀z,PI (F z) tg iter wi)/\IOk K T wi pi
variable {tg:Expr}
variable {us:List V}{J:It}
theorem b3p {K:x0a}{G:Gh}{H:Hp}{a:Addr}{xs:List PV}{vs:List V}(t:AtL G.M H a vs)(r:Reps K G H xs vs):ItR K G H (Itl K a) xs:=by
 intro G2 H2 hk hM hp hf;have hq:SqL K H2 a vs:=SqL.of (hk a _ t.1 t.2);have r2:Reps K G2 H2 xs vs:=Reps.mono hk hM hp _ _ r;refine⟨fun i x e=>?_,fun i hi=>⟨vs,hq,by rw [<- r.length];exact hi⟩⟩;obtain⟨v,ev,rv⟩:=r2.get' e;refine⟨⟨vs,v,hq,ev⟩,fun v' H3 y=>?_⟩;obtain⟨e3,y⟩:=y;subst e3;have:=y vs hq;rw [ev] at this;cases this;exact⟨Same.refl _,rv⟩
theorem b5O {K:x0a}{G:Gh}{H:Hp}{a:Addr}{xs:List PV}{vs:List V}(t:AtT G.M H a vs)(r:Reps K G H xs vs):ItR K G H (Itt K a) xs:=by
 intro G2 H2 hk hM hp hf;have hq:SqT K H2 a vs:=SqT.of (hk a _ t.1 t.2);have r2:Reps K G2 H2 xs vs:=Reps.mono hk hM hp _ _ r;refine⟨fun i x e=>?_,fun i hi=>⟨vs,hq,by rw [<- r.length];exact hi⟩⟩;obtain⟨v,ev,rv⟩:=r2.get' e;refine⟨⟨vs,v,hq,ev⟩,fun v' H3 y=>?_⟩;obtain⟨e3,y⟩:=y;subst e3;have:=y vs hq;rw [ev] at this;cases this;exact⟨Same.refl _,rv⟩
noncomputable def qIl (pe:pE):pA:=fun env n R=>pe env n fun x env1 n1=>match x with | .lst xs=>R xs env1 n1 | _=>False
noncomputable def qIt (pe:pE):pA:=fun env n R=>pe env n fun x env1 n1=>match x with | .tup xs=>R xs env1 n1 | _=>False
theorem a3d (h:QE T K F e pe)(hK:∀z,(F z).K=K:=by intro _;rfl):QI T K F tg e (qIl pe):=by
 obtain⟨t,h1,h2⟩:=h;refine⟨_,fun z=>hK z▸b5o (h1 z),fun C G σ H env n R Q hK hT S hp k=>?_⟩;refine h2 C G σ H env n _ _ hK hT S hp fun x env1 n1 v H1 p1 S1 r1 f1=>?_;cases x with
 | lst xs =>
   obtain⟨a,vs,rfl,t,r⟩:=r1;exact⟨a,rfl,⟨vs,t.sq⟩,k _ _ _ _ _ p1 S1 f1 (b3p t r)⟩
 | _=>exact p1.elim
theorem a1G (h:QE T K F e pe)(hK:∀z,(F z).K=K:=by intro _;rfl):QI T K F tg e (qIt pe):=by
 obtain⟨t,h1,h2⟩:=h;refine⟨_,fun z=>hK z▸pi_tup (h1 z),fun C G σ H env n R Q hK hT S hp k=>?_⟩;refine h2 C G σ H env n _ _ hK hT S hp fun x env1 n1 v H1 p1 S1 r1 f1=>?_;cases x with
 | tup xs =>
   obtain⟨a,vs,rfl,t,r⟩:=r1;exact⟨a,rfl,⟨vs,t.sq⟩,k _ _ _ _ _ p1 S1 f1 (b5O t r)⟩
 | _=>exact p1.elim
theorem b1c {K:x0a}{G:Gh}{H:Hp}(lo:Int)(m:Nat):ItR K G H (Itr lo m) ((x0N m).map fun(k:Nat)=>PV.int (lo + k)):=by
 intro G2 H2 hk hM hp hf;refine⟨fun i x e=>?_,fun i hi=>(show m<=i by simpa using hi)⟩;rw [x0v] at e;cases e1:(x0N m)[i]? with
 | none=>rw [e1] at e;cases e
 | some j =>
   rw [e1] at e;cases e;obtain⟨hi,e2⟩:=x0l.mp e1;rw [x3D] at e2;subst e2;refine⟨(show i < m by simpa using hi),fun v H3 y=>?_⟩;obtain⟨e3,y⟩:=y;subst e3 y;exact⟨Same.refl _,rfl⟩
noncomputable def b0h (pe:pE):pA:=fun env n R=>pe env n fun x env1 n1=>match x with | .int j=>(-1000000<=j/\j<=1000000)/\R ((x0N j.toNat).map fun(k:Nat)=>PV.int (0 + k)) env1 n1 | _=>False
theorem a4a {p:Pos}(hg:∀z,Gl (F z) "range")(hm:∀z,(F z).mg "range"=none)(h:QE T K F e pe)(hs:a0u e=true:=by rfl):QI T K F tg (.Call (.Name "range" p) [e] [] pos) (b0h pe):=by
 obtain⟨t,h1,h2⟩:=h;refine⟨_,fun z=>b0m (hg z) (hm z) (a0n (h1 z) a0C (a0d hs)) (by rw [a0d hs];rfl),fun C G σ H env n R Q hK hT S hp k=>?_⟩;refine a7X (pe:=pe) (fun C G σ H env n R Q hK hT S hp k=>h2 C G σ H env n R Q hK hT S hp fun x env' n' v H' r S' rp f=>k x env' n' v H' r S' (.inl (hK▸rp)) f) hK hT S hp fun x env1 n1 v H1 p1 S1 r1 f1=>?_;cases x with
 | int j=>exact⟨j,by rw [(r1.rd S1).int],by omega,by omega,k _ _ _ _ _ p1.2 S1 f1 (b1c 0 _)⟩
 | _=>exact p1.elim
noncomputable def capS:Option (Option Slot)->Option Slot
 | some (some (.v x))=>some (.v x)
 | _=>none
noncomputable def capV (cs:List (Option Nat))(env:Env):Env:=cs.map fun o=>o.bind fun j=>capS (env[j]?)
noncomputable def a6v (g:pG)(tt:pT)(te:pE):List PV->Env->Nat->(List PV->Nat->Prop)->Prop
 | [],_,n,R=>R [] n
 | x::xs,env,n,R=>g x env fun env1=>tt env1 n fun b env2 n2=>if b=true then te env2 n2 fun y env3 n3=>a6v g tt te xs env3 n3 fun ys n4=>R (y::ys) n4 else a6v g tt te xs env2 n2 R
noncomputable def qTru:pT:=fun env n R=>R true env n
noncomputable def a5j (cs:List (Option Nat))(pi:pA)(g:pG)(tt:pT)(te:pE):pA:=fun env n R=>pi env n fun xs env1 n1=>xs.length<=1000000/\a6v g tt te xs (capV cs env1) n1 fun ys n2=>R ys env1 n2
structure Inn (K:x0a)(T:PotK)(G:Gh)(σ:St)(H:Hp)(env:Env)(n:Nat):Prop where
 pots:∀p∈G.pots,p∈G.M/\T.at_ G.M H p n
 has:T.has G.pots
 mu:∀a∈G.M,∃o,H a=some o/\MutO o
 slots:∀(i:Nat) (s:Slot),env[i]?=some (some s)->∃x v,s=.v x/\σ[i]?=some (some v)/\Rep K G H x v
 len:env.length=σ.length
theorem Inn.sr {K:x0a}{T:PotK}{G:Gh}{σ:St}{H:Hp}{env:Env}{n:Nat}(I:Inn K T G σ H env n):SR ⟨K,T,G.M,G.pots,H,false⟩ G σ H env n where
 frame b o _ e:=e
 sub a ha:=.inl ha
 sup a ha:=ha
 pots:=I.pots
 pre:=⟨[],by simp,.inl rfl⟩
 mu:=I.mu
 slots i s e:=by
   obtain⟨x,v,rfl,ev,r⟩:=I.slots i s e;exact⟨v,ev,r⟩
 inj i j xs ys a e1:=by
   obtain⟨x,v,z,_⟩:=I.slots i _ e1;cases z
 p0:=⟨fun p hp=>(I.pots p hp).1,I.has⟩
 len:=I.len
 newp p hp hn:=absurd hp hn
theorem SR.inn {K:x0a}{T:PotK}{G:Gh}{σ:St}{H H0:Hp}{env:Env}{n:Nat}(S:SR ⟨K,T,G.M,G.pots,H0,false⟩ G σ H env n):Inn K T G σ H env n where
 pots:=S.pots
 has:=S.hasG
 mu:=S.mu
 slots i s e:=by
   cases s with
   | v x =>
     obtain⟨v,ev,r⟩:=S.slots i _ e;exact⟨x,v,rfl,ev,r⟩
   | ow kk xs =>
     obtain⟨a,vs,ev,h1,h2,_⟩:=S.slots i _ e;exact absurd h1 h2
 len:=S.len
theorem b4K {K:x0a}:TOk K T tTru qTru:=fun C G σ H env n R Q hK hT S hp k=>k _ _ _ _ hp S Fr.refl
structure CI (K:x0a)(T:PotK)(G:Gh)(H1:Hp)(D:Addr)(σ:St)(H:Hp)(env:Env)(n:Nat)(acc:List PV)(us:List V):Prop where
 inn:Inn K T ⟨D::G.M,G.pots⟩ σ H env n
 kp:∀b o,b∉G.pots->H1 b=some o->H b=some o
 eD:H D=some (.lst us)
 ra:Reps K ⟨D::G.M,G.pots⟩ H acc us
theorem CI.start {K:x0a}{T:PotK}{G:Gh}{H1:Hp}{D:Addr}{σ:St}{env:Env}{n:Nat}(hD:H1 D=none)(I0:Inn K T G σ H1 env n):CI K T G H1 D σ (upd H1 D (.lst [])) env n [] []:=by
 have lay:∀b o,H1 b=some o->upd H1 D (.lst []) b=some o:=fun b o e=>Same.lay1 hD b o e;have new:∀a,a∈D::G.M->a∈G.M\/H1 a=none:=fun a ha=>(x0i.mp ha).elim (fun z=>.inr (z▸hD)) .inl;refine⟨⟨fun p hp=>⟨x0d _ (I0.pots p hp).1,?_⟩,I0.has,fun a ha=>?_,fun i s e=>?_,I0.len⟩,fun b o _ e=>lay b o e,a0f,rfl⟩
 · have h1:=T.more (M':=D::G.M) (I0.pots p hp).2 new;obtain⟨o,e,_⟩:=T.mu h1;exact T.keep h1 (by rw [e,lay p o e]) fun b o _ e=>lay b o e
 · rcases x0i.mp ha with rfl | ha
   · exact⟨_,a0f,trivial⟩
   · obtain⟨o,e,m⟩:=I0.mu a ha;exact⟨o,lay a o e,m⟩
 · obtain⟨x,v,rfl,ev,r⟩:=I0.slots i s e;exact⟨x,v,rfl,ev,Rep.mono (G':=⟨D::G.M,G.pots⟩) (fun b o _ e=>lay b o e) new (fun _ _ e=>e) _ _ r⟩
theorem CI.go {K:x0a}{T:PotK}{G:Gh}{H1:Hp}{D:Addr}{σ σ':St}{H H':Hp}{env env':Env}{n n':Nat}{acc:List PV}(c:CI K T G H1 D σ H env n acc us)(nD:D∉G.pots)(S:SR ⟨K,T,D::G.M,G.pots,H,false⟩ ⟨D::G.M,G.pots⟩ σ' H' env' n'):CI K T G H1 D σ' H' env' n' acc us:=
 ⟨S.inn,fun b o hb e=>S.frame b o hb (c.kp b o hb e),S.frame D _ nD c.eD,Reps.mono (fun b o hb e=>S.frame b o (fun z=>hb (c.inn.pots b z).1) e) (fun a ha=>.inl ha) (fun _ _ e=>e) _ _ c.ra⟩
theorem CI.fD {G:Gh}{D:Addr}{H:Hp}(o:HO):Fr ⟨D::G.M,G.pots⟩ H (upd H D o):=fun b u hb e=>by
 rw [a0e (fun z=>hb (by rw [z];exact x0e))];exact e
theorem CI.add {K:x0a}{T:PotK}{G:Gh}{H1:Hp}{D:Addr}{σ:St}{H:Hp}{env:Env}{n:Nat}{acc:List PV}{y:PV}{u:V}(c:CI K T G H1 D σ H env n acc us)(nD:D∉G.pots)(hD:H1 D=none)(r:Rep K ⟨D::G.M,G.pots⟩ H y u):CI K T G H1 D σ (upd H D (.lst (us++[u]))) env n (acc++[y]) (us++[u]):=by
 refine⟨⟨fun p hp=>⟨(c.inn.pots p hp).1,T.keep (c.inn.pots p hp).2 (a0e fun z=>nD (by rw [<- z];exact hp)) (CI.fD _)⟩,c.inn.has,fun a ha=>?_,fun q s e=>?_,c.inn.len⟩,fun b o hb e=>?_,a0f,(c.ra.append (.one r)).fr (CI.fD _)⟩
 · by_cases haD:a=D
   · subst haD;exact⟨_,a0f,trivial⟩
   · rw [a0e haD];exact c.inn.mu a ha
 · obtain⟨x,v,rfl,ev,r⟩:=c.inn.slots q s e;exact⟨x,v,rfl,ev,r.fr (CI.fD _)⟩
 · rw [a0e (fun z=>by rw [z,hD] at e;cases e)];exact c.kp b o hb e
theorem CI.it {K:x0a}{T:PotK}{G:Gh}{H1:Hp}{D:Addr}{σ:St}{H:Hp}{env:Env}{n:Nat}{acc:List PV}{xs:List PV}(c:CI K T G H1 D σ H env n acc us)(hD:H1 D=none)(hJ:ItR K G H1 J xs):(∀(i:Nat) x,xs[i]?=some x->J.go i H/\∀v H3,J.yld i H v H3->Same H H3/\Rep K ⟨D::G.M,G.pots⟩ H3 x v)/\∀i,xs.length<=i->J.stop i H:=
 hJ ⟨D::G.M,G.pots⟩ H (fun b o hb e=>by
   by_cases z:b∈G.pots
   · obtain⟨h1,_⟩:=c.inn.pots b z;rcases x0i.mp h1 with rfl | h1
     · rw [hD] at e;cases e
     · exact absurd h1 hb
   · exact c.kp b o z e) (fun a ha=>(x0i.mp (show a∈D::G.M from ha)).elim (fun z=>.inr (z▸hD)) .inl) (fun _ _ e=>e) fun p hp=>c.inn.sr.fresh hp
theorem b1E {K:x0a}{T:PotK}{g:TG}{tt:TT}{te:TE}{pg:pG}{ptt:pT}{pte:pE}(hg:GOk K g pg)(ht:TOk K T tt ptt)(he:EOk K T te pte){G:Gh}{H1:Hp}{xs:List PV}(hJ:ItR K G H1 J xs)(hl:xs.length<=1000000)
   {σc:St} {env:Env} {n:Nat} {R:List PV->Nat->Prop} {Q:VK} {D:Addr} (hD:H1 D=none) (I0:Inn K T G σc H1 env n) (hp:a6v pg ptt pte xs env n R)
   (hQ:∀ys n' us H',R ys n'->(∀p∈G.pots,T.at_ (D::G.M) H' p n')->(∀b o,b∉G.pots->H1 b=some o->H' b=some o)->H' D=some (.lst us)->Reps K ⟨D::G.M,G.pots⟩ H' ys us->Q (.ref D) H') :
   b6p J g tt te Q D σc (upd H1 D (.lst [])):=by
 have nD:D∉G.pots:=fun z=>I0.sr.fresh hD (I0.pots D z).1;refine⟨fun i m σ H=>m=xs.length - i/\i<=xs.length/\∃env n acc us,CI K T G H1 D σ H env n acc us/\acc.length<=i/\a6v pg ptt pte (xs.drop i) env n fun ys n'=>R (acc++ys) n',⟨xs.length,rfl,x0L _,env,n,[],[],.start hD I0,x0j _,hp⟩,?_⟩;rintro i m σ H ⟨rfl,hi,env,n,acc,us,c,la,hc⟩;obtain⟨hgo,hstop⟩:=c.it hD hJ
 by_cases hlt:i < xs.length
 · obtain⟨g1,g2⟩:=hgo i _ (x0f hlt);refine .inr ⟨g1,fun v H2 y=>?_⟩;obtain⟨s2,rv⟩:=g2 v H2 y;rw [x0z hlt] at hc;refine hg _ _ σ H2 env n xs[i] v _ _ rfl (c.inn.sr.same s2) rv hc fun env1 σ1 hc1 S2=>?_;refine ht _ _ σ1 H2 env1 n _ _ rfl rfl S2 hc1 fun b env2 n2 H4 hc2 S4 f4=>?_;cases b with
   | false=>exact⟨xs.length - (i + 1),x2o _ _ hlt,rfl,hlt,env2,n2,acc,us,c.go nD S4,x3U la,hc2⟩
   | true =>
     refine he _ _ σ1 H4 env2 n2 _ _ rfl rfl S4 hc2 fun y env3 n3 u H5 hc3 S5 r5 f5=>?_;have c5:=c.go nD S5;refine⟨us,c5.eD,by rw [<- c.ra.length];exact mil' (by omega),xs.length - (i + 1),x2o _ _ hlt,rfl,hlt,env3,n3,acc++[y],us++[u],c5.add nD hD r5,by rw [x0m,x0K];omega,?_⟩;simp only [x1o];exact hc3
 · obtain rfl:i=xs.length:=Nat.le_antisymm hi (x4m hlt);refine .inl ⟨hstop _ (x0j _),?_⟩;rw [x2d] at hc;have hc':R (acc++[]) n:=hc;rw [x1f] at hc';exact hQ _ n us H hc' (fun p hp=>(c.inn.pots p hp).2) c.kp c.eD c.ra
end
end Pu
end
section
namespace Pu
open PySem PySem.Spec L2
section
variable {T:PotK}{ι:Type}{K:x0a}{F:ι->Cx}{e a b c:Expr}{es rest:List Expr}{pe pa pb pc:pE}{pos:Pos}{pl pr:pA}{pg:pG}{pgs:pGs}{pt:pT}
noncomputable def QIf {ι:Type}(T:PotK)(K:x0a)(F:ι->Cx)(ifs:List Expr)(pt:pT):Prop:=∃t,(∀z,PIf (F z) ifs t)/\TOk K T t pt
theorem a3Z:QIf T K F [] qTru:=⟨_,fun _=>a7d,b4K⟩
theorem b0c (h:QT T K F c pt):QIf T K F [c] pt:=let ⟨t,h1,h2⟩:=h;⟨t,fun z=>b5m (h1 z),h2⟩
theorem a4A {C:Ct}{G:Gh}{σ:St}{H:Hp}{env:Env}{n:Nat}(S:SR C G σ H env n)(cs:List (Option Nat)):Inn C.K C.T G (a6x cs σ) H (capV cs env) n where
 pots:=S.pots
 has:=S.hasG
 mu:=S.mu
 len:=by simp [capV,a6x]
 slots i s e:=by
   unfold capV at e;rw [x0v] at e;cases ec:cs[i]? with
   | none=>rw [ec] at e;cases e
   | some o =>
     rw [ec] at e;cases o with
     | none=>cases e
     | some j =>
       have e':capS (env[j]?)=some s:=by simpa using e
       unfold capS at e'
       split at e'
       · rename_i x ex;cases e';obtain⟨v,ev,r⟩:=S.slots j _ ex;refine⟨x,v,rfl,?_,r⟩;unfold a6x;rw [x0v,ec];simp [ev]
       · cases e'
noncomputable def cutH (H:Hp)(D:Addr):Hp:=fun b=>if b=D then none else H b
theorem a1g {H:Hp}{D b:Addr}(h:b≠D):cutH H D b=H b:=if_neg h
theorem a5a {H:Hp}{D:Addr}{o:HO}(h:H D=some o):upd (cutH H D) D o=H:=by
 funext b
 by_cases hb:b=D
 · subst hb;rw [a0f,h]
 · rw [a0e hb,a1g hb]
theorem a3Y {scope:Scope}{cl:ι->List (Str×Addr)}{N:List Str}{cs:List (Option Nat)}{elt tg iter:Expr}{ifs:List Expr}{pi:pA}{ptt:pT}{pte:pE}(S:∀z,a0L (F z) scope (cl z) N cs)(hc:∀z,(F z).calm=true)(hi:QI T K F tg iter pi)
   (hg:QG K (fun y:ι×List Addr×Addr×Shared×Hp=>a0o (F y.1) scope (cl y.1) N y.2.1 y.2.2.1 y.2.2.2.1 y.2.2.2.2) tg pg) (ht:QIf T K (fun y:ι×List Addr×Addr×Shared×Hp=>a0o (F y.1) scope (cl y.1) N y.2.1 y.2.2.1 y.2.2.2.1 y.2.2.2.2) ifs ptt)
   (he:QE T K (fun y:ι×List Addr×Addr×Shared×Hp=>a0o (F y.1) scope (cl y.1) N y.2.1 y.2.2.1 y.2.2.2.1 y.2.2.2.2) elt pte)
   (hs:∀z x,x0U iter (F z).env x=pure x:=by intro _ _;rfl):QN T K F (.ListComp elt [⟨tg,iter,ifs,0⟩] scope pos) (a5j cs pi pg ptt pte):=by
 obtain⟨wi,i1,i2⟩:=hi;obtain⟨g,hg0,hg⟩:=hg;obtain⟨tt,ht0,ht⟩:=ht;obtain⟨te,he0,he⟩:=he;refine⟨_,fun z=>a7f (S z) (hc z) (i1 z) (fun fp C s H=>⟨hg0 (z,fp,C,s,H),ht0 (z,fp,C,s,H),he0 (z,fp,C,s,H)⟩) (hs z),fun C G σ H env n R Q hK hT S hp k=>?_⟩;refine i2 C G σ H env n _ _ hK hT S hp fun xs env1 n1 J H1 p1 S1 f1 hJ=>?_;intro D hD;have hDM:=S1.fresh hD;refine b1E (G:=G) hg ht he hJ p1.1 hD (hT▸hK▸a4A S1 cs) p1.2 fun ys n2 us H' rr hpots hk eD ry=>?_
 -- the heap without D
 have nD:∀b o,H1 b=some o->b≠D:=fun b o e z=>by rw [z,hD] at e;cases e
 have hD0:C.H0 D=none:=by
   cases z:C.H0 D with
   | none=>rfl
   | some o =>
     by_cases hp:D∈C.pots0
     · exact absurd (S1.sup D (S1.p0.1 D hp)) hDM
     · have:=S1.frame D o hp z;rw [hD] at this;cases this
 have hk2:∀b o,b∉G.pots->H1 b=some o->cutH H' D b=some o:=fun b o hb e=>by rw [a1g (nD b o e)];exact hk b o hb e
 have nc:∀b,b∉D::G.M->b≠D:=fun b hb z=>hb (by rw [z];exact x0e);have np:∀p∈G.pots,p≠D:=fun p hp z=>hDM (z▸(S1.pots p hp).1)
 have Sb:SR C G σ (cutH H' D) env1 n2:=S1.call hk2 fun p hp=>by
   subst hT;have h2:=C.T.keep (hpots p hp) (H':=cutH H' D) (a1g (np p hp)) fun b o hb e=>by rw [a1g (nc b hb)];exact e
   exact C.T.more h2 fun a ha=>.inl (x0d _ ha)
 have:=k ys env1 n2 D us (cutH H' D) rr Sb (f1.trans fun b o hb e=>hk2 b o (fun z=>hb (S1.pots b z).1) e) (by unfold cutH;rw [if_pos rfl]) ?_
 · rw [a5a eD] at this;exact this
 · exact Reps.mono (G:=⟨D::G.M,G.pots⟩) (fun b o hb e=>by rw [a1g (nc b hb)];exact e) (fun a ha=>.inl (x0d _ ha)) (fun _ _ e=>e) _ _ ry
end
end Pu
end
section
namespace Pu
open PySem PySem.Spec L2
structure a7D where
 nx:Env->Nat->Prop
 rt:PV->Nat->Prop
 bk:Env->Nat->Prop:=fun _ _=>False
 ct:Env->Nat->Prop:=fun _ _=>False
noncomputable abbrev pS:=a7D->Env->Nat->Prop
structure Ext (G:Gh)(H:Hp)(G':Gh)(H':Hp):Prop where
 keep:∀b o,b∉G.M->H b=some o->H' b=some o
 new:∀a∈G'.M,a∈G.M\/H a=none
 pot:∀(k:Nat) (p:Addr),G.pots[k]?=some p->G'.pots[k]?=some p
theorem Ext.refl {G:Gh}{H:Hp}:Ext G H G H:=⟨fun _ _ _ e=>e,fun _ h=>.inl h,fun _ _ e=>e⟩
theorem Ext.fr {G:Gh}{H H':Hp}(f:Fr G H H'):Ext G H G H':=⟨f,fun _ h=>.inl h,fun _ _ e=>e⟩
theorem Ext.trans {G G1 G2:Gh}{H H1 H2:Hp}(a:Ext G H G1 H1)(b:Ext G1 H1 G2 H2):Ext G H G2 H2 where
 keep c o hc e:=b.keep c o (fun z=>(a.new c z).elim hc fun z=>by rw [z] at e;cases e) (a.keep c o hc e)
 new c hc:=(b.new c hc).elim (fun z=>a.new c z) fun z=>by
   by_cases hM:c∈G.M
   · exact .inl hM
   · refine .inr ?_;cases e:H c with
     | none=>rfl
     | some o=>rw [a.keep c o hM e] at z;cases z
 pot k p e:=b.pot k p (a.pot k p e)
structure Link (C:Ct)(G:Gh)(H:Hp)(PD:a7D)(D:Ends):Prop where
 nx:∀env n G' σ H',PD.nx env n->SR C G' σ H' env n->Ext G H G' H'->D.nx σ H'
 rt:∀x n v G' σ H' env,PD.rt x n->SR C G' σ H' env n->Rep C.K ⟨C.M0,G'.pots⟩ H' x v->Ext G H G' H'->D.rt v H'
 bk:∀env n G' σ H',PD.bk env n->SR C G' σ H' env n->Ext G H G' H'->D.bk σ H'
 ct:∀env n G' σ H',PD.ct env n->SR C G' σ H' env n->Ext G H G' H'->D.ct σ H'
theorem Link.ext {C:Ct}{G G':Gh}{H H':Hp}{PD:a7D}{D:Ends}(L:Link C G H PD D)(x:Ext G H G' H'):Link C G' H' PD D:=
 ⟨fun env n G2 σ H2 p S e=>L.nx env n G2 σ H2 p S (x.trans e),fun y n v G2 σ H2 env p S r e=>L.rt y n v G2 σ H2 env p S r (x.trans e),fun env n G2 σ H2 p S e=>L.bk env n G2 σ H2 p S (x.trans e),fun env n G2 σ H2 p S e=>L.ct env n G2 σ H2 p S (x.trans e)⟩
noncomputable def SOk (K:x0a)(T:PotK)(np:Bool)(t:TS)(ps:pS):Prop:=∀(C:Ct) (G:Gh) (σ:St) (H:Hp) (env:Env) (n:Nat) (PD:a7D) (D:Ends),C.K=K->C.T=T->C.np=np->SR C G σ H env n->ps PD env n->Link C G H PD D->t D σ H
noncomputable def QS {ι:Type}(T:PotK)(np:Bool)(K:x0a)(F:ι->Cx)(st:Stmt)(ps:pS):Prop:=∃t,(∀z,PS (F z) st t)/\SOk K T np t ps
noncomputable def QSs {ι:Type}(T:PotK)(np:Bool)(K:x0a)(F:ι->Cx)(st:List Stmt)(ps:pS):Prop:=∃t,(∀z,PSs (F z) st t)/\SOk K T np t ps
theorem SR.out {C:Ct}{G:Gh}{σ:St}{H:Hp}{env:Env}{n:Nat}(S:SR C G σ H env n){x:PV}{v:V}(r:Rep C.K G H x v):Rep C.K ⟨C.M0,G.pots⟩ H x v:=
 Rep.mono (G':=⟨C.M0,G.pots⟩) (fun _ _ _ e=>e) (fun a ha=>.inl (S.sup a ha)) (fun _ _ e=>e) _ _ r
theorem SR.old {C:Ct}{G:Gh}{σ:St}{H:Hp}{env:Env}{n:Nat}(S:SR C G σ H env n){a:Addr}(h:H a=none):C.H0 a=none:=by
 cases z:C.H0 a with
 | none=>rfl
 | some o =>
   by_cases hp:a∈C.pots0
   · exact absurd (S.sup a (S.p0.1 a hp)) (S.fresh h)
   · have:=S.frame a o hp z;rw [h] at this;cases this
theorem SR.moreO {C:Ct}{G:Gh}{σ:St}{H:Hp}{env:Env}{n:Nat}(S:SR C G σ H env n){a:Addr}{ob:HO}(mo:MutO ob)(h:H a=none):SR C ⟨a::G.M,G.pots⟩ σ (upd H a ob) env n where
 frame b o hb e:=Same.lay1 h b o (S.frame b o hb e)
 sub b hb:=(x0i.mp hb).elim (fun z=>.inr (z▸S.old h)) (S.sub b)
 sup b hb:=x0d _ (S.sup b hb)
 pots p hp:=⟨x0d _ (S.pots p hp).1,by
   have h1:=C.T.more (M':=a::G.M) (S.pots p hp).2 (fun c hc=>(x0i.mp hc).elim (fun z=>.inr (z▸h)) .inl);obtain⟨o,e,_⟩:=C.T.mu h1
   exact C.T.keep h1 (by rw [e,Same.lay1 h p o e]) fun b o _ e=>Same.lay1 h b o e⟩
 pre:=S.pre
 mu b hb:=by
   rcases x0i.mp hb with rfl | hb
   · exact⟨_,a0f,mo⟩
   · obtain⟨o,e,m⟩:=S.mu b hb;exact⟨o,Same.lay1 h b o e,m⟩
 slots i s e:=by
   have mm:∀{x:PV} {v:V},Rep C.K G H x v->Rep C.K ⟨a::G.M,G.pots⟩ (upd H a ob) x v:=fun r=>Rep.mono (G':=⟨a::G.M,G.pots⟩) (H':=upd H a ob) (fun b o _ e=>Same.lay1 h b o e) (fun c hc=>(x0i.mp (show c∈a::G.M from hc)).elim (fun z=>.inr (z▸h)) .inl) (fun _ _ e=>e) _ _ r;have:=S.slots i s e;cases s with
   | v x =>
     obtain⟨v,e1,r⟩:=this;exact⟨v,e1,mm r⟩
   | ow kk xs =>
     obtain⟨b,us,e1,h1,h2,h3,h4,r⟩:=this;exact⟨b,us,e1,x0d _ h1,h2,h3,Same.lay1 h _ _ h4,Reps.mono (G':=⟨a::G.M,G.pots⟩) (H':=upd H a ob) (fun b o _ e=>Same.lay1 h b o e) (fun c hc=>(x0i.mp (show c∈a::G.M from hc)).elim (fun z=>.inr (z▸h)) .inl) (fun _ _ e=>e) _ _ r⟩
 inj:=S.inj
 p0:=S.p0
 len:=S.len
 newp:=S.newp
theorem SR.more {C:Ct}{G:Gh}{σ:St}{H:Hp}{env:Env}{n:Nat}(S:SR C G σ H env n){a:Addr}{vs:List V}(h:H a=none):SR C ⟨a::G.M,G.pots⟩ σ (upd H a (.lst vs)) env n:=S.moreO (ob:=.lst vs) trivial h
theorem SR.ow {C:Ct}{G:Gh}{σ:St}{H:Hp}{env:Env}{n:Nat}(S:SR C G σ H env n)(i:Nat)(kk:OK){a:Addr}{xs:List PV}{vs:List V}(h:H a=none)(r:Reps C.K G H xs vs) :
   SR C ⟨a::G.M,G.pots⟩ (σ.set i (some (.ref a))) (upd H a (mkO kk vs)) (env.set i (some (.ow kk xs))) n:=by
 have S1:=S.moreO (b0D kk vs) h;have aM:a∉G.M:=S.fresh h;have r1:Reps C.K ⟨a::G.M,G.pots⟩ (upd H a (mkO kk vs)) xs vs:=Reps.mono (G':=⟨a::G.M,G.pots⟩) (H':=upd H a (mkO kk vs)) (fun b o _ e=>Same.lay1 h b o e) (fun c hc=>(x0i.mp (show c∈a::G.M from hc)).elim (fun z=>.inr (z▸h)) .inl) (fun _ _ e=>e) _ _ r
 have other:∀(j:Nat) (ys:OK×List PV),env[j]?=some (some (Slot.ow ys.1 ys.2))->σ[j]?≠some (some (.ref a)):=by
   intro j ys e z;obtain⟨b,us,e1,h1,_⟩:=S.slots j _ e;rw [z] at e1;cases e1;exact aM h1
 exact {
   frame:=S1.frame
   sub:=S1.sub
   sup:=S1.sup
   pots:=S1.pots
   pre:=S1.pre
   mu:=S1.mu
   slots:=fun j s e=>by
     by_cases hj:i=j
     · subst hj
       by_cases hl:i < env.length
       · rw [x0t hl] at e;cases e;exact⟨a,vs,by rw [x0t (by rw [<- S.len];exact hl)],x0e,fun z=>aM (S.sup a z),fun z=>aM (S.pots a z).1,a0f,r1⟩
       · rw [x1d (by rw [x0B];omega)] at e;cases e
     · rw [x0o hj] at e ⊢;exact S1.slots j s e
   inj:=fun j k xs' ys b e1 e2 e3 e4=>by
     by_cases hj:i=j
     · by_cases hk:i=k
       · omega
       · subst hj;rw [x0o hk] at e2 e4
         by_cases hl:i < σ.length
         · rw [x0t hl] at e3;cases e3;exact absurd e4 (other k ys e2)
         · rw [x1d (by rw [x0B];omega)] at e3;cases e3
     · rw [x0o hj] at e1 e3
       by_cases hk:i=k
       · subst hk
         by_cases hl:i < σ.length
         · rw [x0t hl] at e4;cases e4;exact absurd e3 (other j xs' e1)
         · rw [x1d (by rw [x0B];omega)] at e4;cases e4
       · rw [x0o hk] at e2 e4;exact S.inj j k xs' ys b e1 e2 e3 e4
   p0:=S.p0
   len:=by rw [x0B,x0B];exact S.len
   newp:=S.newp }
theorem SR.own {C:Ct}{G:Gh}{σ:St}{H:Hp}{env:Env}{n:Nat}(S:SR C G σ H env n)(i:Nat){a:Addr}{xs:List PV}{vs:List V}(h:H a=none)(r:Reps C.K G H xs vs) :
   SR C ⟨a::G.M,G.pots⟩ (σ.set i (some (.ref a))) (upd H a (.lst vs)) (env.set i (some (.ow .lst xs))) n:=S.ow i .lst h r
theorem SR.putO {C:Ct}{G:Gh}{σ:St}{H:Hp}{env:Env}{n:Nat}(S:SR C G σ H env n){i:Nat}{kk:OK}(k':OK){a:Addr}{xs ys:List PV}{vs:List V}(e:env[i]?=some (some (.ow kk xs)))(ea:σ[i]?=some (some (.ref a)))(r:Reps C.K G H ys vs) :
   SR C G σ (upd H a (mkO k' vs)) (env.set i (some (.ow k' ys))) n/\Fr G H (upd H a (mkO k' vs)):=by
 obtain⟨a',us,ea',aM,a0,ap,eH,_⟩:=S.slots i _ e;rw [ea] at ea';cases ea';have f:Fr G H (upd H a (mkO k' vs)):=fun b o hb he=>by rw [a0e (fun z=>hb (by rw [z];exact aM))];exact he
 refine⟨{
   frame:=fun b o hb he=>?_
   sub:=S.sub
   sup:=S.sup
   pots:=fun p hp=>⟨(S.pots p hp).1,C.T.keep (S.pots p hp).2 (a0e fun z=>ap (by rw [<- z];exact hp)) f⟩
   pre:=S.pre
   mu:=fun b hb=>?_
   slots:=fun j s es=>?_
   inj:=fun j k xs' ys' b e1 e2 e3 e4=>?_
   p0:=S.p0
   len:=by rw [x0B];exact S.len
   newp:=S.newp },f⟩
 · have hb2:b≠a:=fun z=>by
     rcases S.sub a aM with z2 | z2
     · exact a0 z2
     · rw [z,z2] at he;cases he
   rw [a0e hb2];exact S.frame b o hb he
 · by_cases hba:b=a
   · subst hba;exact⟨_,a0f,b0D k' vs⟩
   · obtain⟨o,he,m⟩:=S.mu b hb;exact⟨o,by rw [a0e hba];exact he,m⟩
 · by_cases hj:i=j
   · subst hj;have hl:i < env.length:=(x0l.mp e).1;rw [x0t hl] at es;cases es;exact⟨a,vs,ea,aM,a0,ap,a0f,r.fr f⟩
   · rw [x0o hj] at es;have:=S.slots j s es;cases s with
     | v x =>
       obtain⟨v,e1,r⟩:=this;exact⟨v,e1,r.fr f⟩
     | ow kz zs =>
       obtain⟨b,us',e1,h1,h2,h3,h4,r⟩:=this;have hba:b≠a:=fun z=>hj (S.inj i j (kk,xs) (kz,zs) a e es ea (by rw [e1,z]));exact⟨b,us',e1,h1,h2,h3,by rw [a0e hba];exact h4,r.fr f⟩
 · have back:∀(j:Nat) (zs:OK×List PV),(env.set i (some (.ow k' ys)))[j]?=some (some (Slot.ow zs.1 zs.2))->∃zs':OK×List PV,env[j]?=some (some (.ow zs'.1 zs'.2)):=by
     intro j zs h
     by_cases hj:i=j
     · subst hj;exact⟨(kk,xs),e⟩
     · rw [x0o hj] at h;exact⟨zs,h⟩
   obtain⟨z1,e1'⟩:=back j xs' e1;obtain⟨z2,e2'⟩:=back k ys' e2;exact S.inj j k z1 z2 b e1' e2' e3 e4
theorem SR.put {C:Ct}{G:Gh}{σ:St}{H:Hp}{env:Env}{n:Nat}(S:SR C G σ H env n){i:Nat}{a:Addr}{xs ys:List PV}{vs:List V}(e:env[i]?=some (some (.ow .lst xs)))(ea:σ[i]?=some (some (.ref a)))(r:Reps C.K G H ys vs) :
   SR C G σ (upd H a (.lst vs)) (env.set i (some (.ow .lst ys))) n/\Fr G H (upd H a (.lst vs)):=S.putO .lst e ea r
section
variable {T:PotK}{np:Bool}{ι:Type}{K:x0a}{F:ι->Cx}{e a b c:Expr}{es:List Expr}{st:Stmt}{rest:List Stmt}{pe pa pb pc:pE}{pos:Pos}{pl pr:pA}{pg:pG}{pt:pT}{p1 p2:pS}
noncomputable def qNx:pS:=fun D env n=>D.nx env n
noncomputable def qSeq (p q:pS):pS:=fun D env n=>p { D with nx:=fun e m=>q D e m } env n
theorem a0R:QSs T np K F [] qNx:=⟨_,fun _=>a6Z,fun C G σ H env n PD D hK hT hn S hp L=>L.nx _ _ _ _ _ hp S Ext.refl⟩
theorem a0j (h:QS T np K F st p1):QSs T np K F [st] p1:=let ⟨t,h1,h2⟩:=h;⟨t,fun z=>a3f (h1 z),h2⟩
theorem a0g (h:QS T np K F st p1)(h':QSs T np K F rest p2):QSs T np K F (st::rest) (qSeq p1 p2):=by
 obtain⟨t,a1,a2⟩:=h;obtain⟨u,b1,b2⟩:=h';refine⟨_,fun z=>a0J (a1 z) (b1 z),fun C G σ H env n PD D hK hT hn S hp L=>?_⟩;refine a2 C G σ H env n _ _ hK hT hn S hp ⟨fun env1 n1 G1 σ1 H1 q1 S1 x1=>?_,L.rt,L.bk,L.ct⟩;exact b2 C G1 σ1 H1 env1 n1 PD D hK hT hn S1 q1 (L.ext x1)
theorem a0w {X:Cx}{i:Nat}{x:Str}{e:Expr}{pos' pos:Pos}(hN:X.N.Nodup)(hi:X.N[i]?=some x)(hx:Loc X.env.scope x)(hs:x4e e (some (.Name x pos')) pos.line X.env=pure false:=by rfl)(hf:X.fn x=true\/X.env.scope.names.lookup x=some .local:=by first | exact .inl rfl | exact .inr rfl | assumption)(te:TE)(h:EW X e te):SW X (.Assign [.Name x pos'] e pos) (tAsg te (a1i i)):=⟨b0k hN hi hx h.h hs hf⟩
theorem a2w {X:Cx}{tg e:Expr}{pos:Pos}(hs:swapsWithSole [tg] e pos.line X.env=pure false:=by rfl)(hw:swappedStores [tg] e X.env=pure none:=by rfl)(h1:(x0G [tg] X.env).map (·.2)=[assign tg X.env]:=by rfl)(te:TE)(g:TG)(h:EW X e te)(hg:GW X tg g):SW X (.Assign [tg] e pos) (tAsg te g):=⟨ps_asg h.h hg.h hs hw h1⟩
theorem a1B {X:Cx}{e:Expr}{pos:Pos}(hs:x4e e none pos.line X.env=pure false:=by rfl)(te:TE)(h:EW X e te):SW X (.Expr e pos) (a8z te):=⟨b5k h.h hs⟩
noncomputable def qSet (i:Nat)(pe:pE):pS:=fun D env n=>pe env n fun x env1 n1=>D.nx (env1.set i (some (.v x))) n1
theorem a0F (i:Nat)(h:∀z te,EW (F z) e te->SW (F z) st (tAsg te (a1i i)))(he:QE T K F e pe):QS T np K F st (qSet i pe):=by
 obtain⟨t,a1,a2⟩:=he;refine⟨_,fun z=>(h z _ ⟨a1 z⟩).h,fun C G σ H env n PD D hK hT hn S hp L=>?_⟩;refine a2 C G σ H env n _ _ hK hT S hp fun x env1 n1 v H1 q1 S1 r1 f1=>?_;exact L.nx _ _ _ _ _ q1 (S1.set i (hK▸r1)) (Ext.fr f1)
noncomputable def qOwn (i:Nat)(pn:pA):pS:=fun D env n=>pn env n fun xs env1 n1=>D.nx (env1.set i (some (.ow .lst xs))) n1
theorem a2o {G:Gh}{H:Hp}{a:Addr}{o:HO}(h:H a=none):Ext G H ⟨a::G.M,G.pots⟩ (upd H a o):=⟨fun b u _ e=>Same.lay1 h b u e,fun c hc=>(x0i.mp (show c∈a::G.M from hc)).elim (fun z=>.inr (z▸h)) .inl,fun _ _ e=>e⟩
theorem a9Y (i:Nat)(h:∀z te,EW (F z) e te->SW (F z) st (tAsg te (a1i i)))(he:QN T K F e pl):QS T np K F st (qOwn i pl):=by
 obtain⟨t,a1,a2⟩:=he;refine⟨_,fun z=>(h z _ ⟨a1 z⟩).h,fun C G σ H env n PD D hK hT hn S hp L=>?_⟩;refine a2 C G σ H env n _ _ hK hT S hp fun xs env1 n1 a vs Hb q1 S1 f1 hn1 r1=>?_;exact L.nx _ _ _ _ _ q1 (S1.own i hn1 (hK▸r1)) ((Ext.fr f1).trans (a2o hn1))
noncomputable def qAsg (pe:pE)(g:pG):pS:=fun D env n=>pe env n fun x env1 n1=>g x env1 fun env2=>D.nx env2 n1
theorem a5R {tg:Expr}(h:∀z te g,EW (F z) e te->GW (F z) tg g->SW (F z) st (tAsg te g))(he:QE T K F e pe)(hg:QG K F tg pg):QS T np K F st (qAsg pe pg):=by
 obtain⟨t,a1,a2⟩:=he;obtain⟨g,b1,b2⟩:=hg;refine⟨_,fun z=>(h z _ _ ⟨a1 z⟩ ⟨b1 z⟩).h,fun C G σ H env n PD D hK hT hn S hp L=>?_⟩;refine a2 C G σ H env n _ _ hK hT S hp fun x env1 n1 v H1 q1 S1 r1 f1=>?_;exact b2 C G σ H1 env1 n1 x v _ _ hK S1 r1 q1 fun env' σ' re S'=>L.nx _ _ _ _ _ re S' (Ext.fr f1)
noncomputable def b2C (pe:pE):pS:=fun D env n=>pe env n fun _ env1 n1=>D.nx env1 n1
theorem a9Z (h:∀z te,EW (F z) e te->SW (F z) st (a8z te))(he:QE T K F e pe):QS T np K F st (b2C pe):=by
 obtain⟨t,a1,a2⟩:=he;refine⟨_,fun z=>(h z _ ⟨a1 z⟩).h,fun C G σ H env n PD D hK hT hn S hp L=>?_⟩;exact a2 C G σ H env n _ _ hK hT S hp fun x env1 n1 v H1 q1 S1 r1 f1=>L.nx _ _ _ _ _ q1 S1 (Ext.fr f1)
noncomputable def qRet (pe:pE):pS:=fun D env n=>pe env n fun x _ n1=>D.rt x n1
theorem a0t (he:QE T K F e pe):QS T np K F (.Return (some e) pos) (qRet pe):=by
 obtain⟨t,a1,a2⟩:=he;refine⟨_,fun z=>a6a (a1 z),fun C G σ H env n PD D hK hT hn S hp L=>?_⟩;exact a2 C G σ H env n _ _ hK hT S hp fun x env1 n1 v H1 q1 S1 r1 f1=>L.rt _ _ _ _ _ _ _ q1 S1 (S1.out (hK▸r1)) (Ext.fr f1)
noncomputable def qRetO (i:Nat):pS:=fun D env n=>match env[i]? with | some (some (.ow .lst xs))=>D.rt (.lst xs) n | _=>False
noncomputable def qIfS (t:pT)(p q:pS):pS:=fun D env n=>t env n fun b env1 n1=>if b=true then p D env1 n1 else q D env1 n1
theorem a1X {x y:List Stmt}(hc:QT T K F c pt)(h1:QSs T np K F x p1)(h2:QSs T np K F y p2):QS T np K F (.If c x y pos) (qIfS pt p1 p2):=by
 obtain⟨tc,c1,c2⟩:=hc;obtain⟨t,a1,a2⟩:=h1;obtain⟨u,b1,b2⟩:=h2;refine⟨_,fun z=>b2H (c1 z) (a1 z) (b1 z),fun C G σ H env n PD D hK hT hn S hp L=>?_⟩;refine c2 C G σ H env n _ _ hK hT S hp fun d env1 n1 H1 q1 S1 f1=>?_;cases d with
 | true=>exact a2 C G σ H1 env1 n1 PD D hK hT hn S1 q1 (L.ext (Ext.fr f1))
 | false=>exact b2 C G σ H1 env1 n1 PD D hK hT hn S1 q1 (L.ext (Ext.fr f1))
noncomputable def forL (g:pG)(b:pS)(D:a7D):List PV->Env->Nat->Prop
 | [],env,n=>D.nx env n
 | x::xs,env,n=>g x env fun env1=>b { D with nx:=fun e m=>forL g b D xs e m,ct:=fun e m=>forL g b D xs e m,bk:=D.nx } env1 n
noncomputable def qFor (pi:pA)(g:pG)(b:pS):pS:=fun D env n=>pi env n fun xs env1 n1=>forL g b D xs env1 n1
theorem a1F {tg iter:Expr}{body:List Stmt}(hc:∀z,(F z).calm=true)(hi:QI T K F tg iter pl)(hg:QG K F tg pg)(hb:QSs T np K F body p1)(hp:∀z,PassesOwn (model (F z).prog (F z).w) (F z).A (F z).env (F z).xe:=by intro _;exact PassesOwn.never)(hs:∀z x,x0U iter (F z).env x=pure x:=by intro _ _;rfl):QS T np K F (.For tg iter body [] pos) (qFor pl pg p1):=by
 obtain⟨wi,i1,i2⟩:=hi;obtain⟨g,g1,g2⟩:=hg;obtain⟨t,b1,b2⟩:=hb;refine⟨_,fun z=>b4e (hp z) (hc z) (i1 z) (g1 z) (b1 z) (hs z),fun C G σ H env n PD D hK hT hn S hp L=>?_⟩;refine i2 C G σ H env n _ _ hK hT S hp fun xs env1 n1 J H1 q1 S1 f1 hJ=>?_;have L1:=L.ext (Ext.fr f1);refine⟨fun i m σ H=>m=xs.length - i/\i<=xs.length/\∃G' env n,SR C G' σ H env n/\Ext G H1 G' H/\forL pg p1 PD (xs.drop i) env n,⟨xs.length,by simp,x0L _,G,env1,n1,S1,Ext.refl,by simpa using q1⟩,?_⟩;rintro i m σ' H' ⟨rfl,hi,G',env',n',S',x',q'⟩;have hf:∀p,H' p=none->p∉G'.M:=fun p hp=>S'.fresh hp;obtain⟨hgo,hstop⟩:=hJ G' H' x'.keep x'.new x'.pot hf
 by_cases hlt:i < xs.length
 · obtain⟨go1,go2⟩:=hgo i _ (x0f hlt);rw [x0z hlt] at q';refine .inr ⟨go1,fun σ H=>∃G' env n,SR C G' σ H env n/\Ext G H1 G' H/\forL pg p1 PD (xs.drop (i + 1)) env n,fun σ2 H2 h2=>⟨xs.length - (i + 1),by omega,rfl,hlt,h2⟩,fun v H2 y=>?_⟩;obtain⟨s2,rv⟩:=go2 v H2 y;have x2:Ext G' H' G' H2:=Ext.fr (Fr.of s2);refine g2 C G' σ' H2 env' n' _ v _ _ hK (S'.same s2) rv q' fun env2 σ2 q2 S2=>?_;refine b2 C G' σ2 H2 env2 n' _ _ hK hT hn S2 q2 ⟨fun e3 n3 G3 σ3 H3 q3 S3 x3=>?_,fun y n3 v G3 σ3 H3 e3 q3 S3 r3 x3=>?_,fun e3 n3 G3 σ3 H3 q3 S3 x3=>?_,fun e3 n3 G3 σ3 H3 q3 S3 x3=>?_⟩
   · exact⟨G3,e3,n3,S3,(x'.trans x2).trans x3,q3⟩
   · exact L1.rt _ _ _ _ _ _ _ q3 S3 r3 ((x'.trans x2).trans x3)
   · exact L1.nx _ _ _ _ _ q3 S3 ((x'.trans x2).trans x3)
   · exact⟨G3,e3,n3,S3,(x'.trans x2).trans x3,q3⟩
 · have ei:i=xs.length:=by omega
   subst ei;rw [x2d] at q';exact .inl ⟨hstop _ (x0j _),L1.nx _ _ _ _ _ q' S' x'⟩
noncomputable def a6Y (i:Nat)(pe:pE):pE:=fun env n R=>pe env n fun y env1 n1=>match env1[i]? with | some (some (.ow .lst xs))=>xs.length < 1000000/\R .non (env1.set i (some (.ow .lst (xs++[y])))) n1 | _=>False
theorem a5V (i:Nat){x:Str}{p ap:Pos}(hv:∀z,EW (F z) (.Name x p) (tVar i))(he:QE T K F e pe)(hs:a0u e=true:=by rfl)(hbase:∀z,x2E (.Name x p) "append" (F z).env (eval (.Name x p) (F z).env)=eval (.Name x p) (F z).env:=by intro _;rfl)(hline:(ap.endLine == pos.line)=true:=by rfl)
   (hfew:∀z,((backTo pos (x0Y [e] (F z).env)).all (fun x=>!x.1) && (x4b pos (x2l [] (F z).env)).all (fun x=>x.1.isSome) && decide (([e]:List Expr).length + ([]:List x3h).length + (if([]:List x3h).isEmpty then 0 else 1) < 30))=true:=by intro _;rfl) (hK:∀z,(F z).K=K:=by intro _;rfl):QE T K F (.Call (.Attribute (.Name x p) "append" ap) [e] [] pos) (fun env n R=>(∃xs,env[i]?=some (some (.ow .lst xs)))/\a6Y i pe env n R):=by
 obtain⟨t,a1,a2⟩:=he;refine⟨tBM K "list" a6U (tVar i) (a2M t tNil),fun z=>hK z▸b0p x2H PySem.F.slot_list_append PySem.F.type_list_append a4m (hv z).h (a0n (a1 z) a0C (a0d hs)) (hbase z) (hfew z) hline (a0d hs),fun C G σ H env n R Q hK hT S hp k=>?_⟩;obtain⟨⟨xs0,e0⟩,hp⟩:=hp;obtain⟨a,vs,ev,h1,h2,h3,h4,r⟩:=S.slots i _ e0;refine⟨.ref a,ev,.inl ⟨rfl,vs,SqL.of h4⟩,?_⟩;refine a2 C G σ H env n _ _ hK hT S hp fun y env1 n1 v H1 q1 S1 r1 f1=>?_
 split at q1
 · rename_i xs ex;obtain⟨a',us,ev',g1,g2,g3,g4,r'⟩:=S1.slots i _ ex;rw [ev] at ev';cases ev';subst hK;obtain⟨S2,f2⟩:=S1.put ex ev (r'.append (.one r1));exact⟨a,us,v,rfl,rfl,g4,by rw [<- r'.length];exact mil' (by omega),k _ _ _ _ _ q1.2 S2 rfl (f1.trans f2)⟩
 · exact q1.elim
end
end Pu
end
section
namespace Pu
open PySem PySem.Spec L2
noncomputable abbrev pSl:=Env->Nat->(Slot->Env->Nat->Prop)->Prop
noncomputable def b1Y (σ:St)(env:Env)(a:Addr):Prop:=∃(j:Nat) (ys:OK×List PV),env[j]?=some (some (.ow ys.1 ys.2))/\σ[j]?=some (some (.ref a))
theorem SR.slot {C:Ct}{G:Gh}{σ:St}{H:Hp}{env:Env}{n:Nat}(S:SR C G σ H env n)(i:Nat){s:Slot}{v:V}(r:b1W C G H (some (some v)) s)(h:∀(xs:OK×List PV) a,s=.ow xs.1 xs.2->v=.ref a->¬b1Y σ env a):SR C G (σ.set i (some v)) H (env.set i (some s)) n where
 frame:=S.frame
 sub:=S.sub
 sup:=S.sup
 pots:=S.pots
 pre:=S.pre
 mu:=S.mu
 slots j t e:=by
   by_cases hj:i=j
   · subst hj
     by_cases hl:i < env.length
     · rw [x0t hl] at e;cases e;rw [x0t (by rw [<- S.len];exact hl)];exact r
     · rw [x1d (by rw [x0B];omega)] at e;cases e
   · rw [x0o hj] at e ⊢;exact S.slots j t e
 inj j k xs ys b e1 e2 e3 e4:=by
   by_cases hj:i=j
   · by_cases hk:i=k
     · omega
     · subst hj;rw [x0o hk] at e2 e4
       by_cases hl:i < env.length
       · rw [x0t hl] at e1;rw [x0t (by rw [<- S.len];exact hl)] at e3;cases e1;cases e3;exact absurd ⟨k,ys,e2,e4⟩ (h xs b rfl rfl)
       · rw [x1d (by rw [x0B];omega)] at e1;cases e1
   · rw [x0o hj] at e1 e3
     by_cases hk:i=k
     · subst hk
       by_cases hl:i < env.length
       · rw [x0t hl] at e2;rw [x0t (by rw [<- S.len];exact hl)] at e4;cases e2;cases e4;exact absurd ⟨j,xs,e1,e3⟩ (h ys b rfl rfl)
       · rw [x1d (by rw [x0B];omega)] at e2;cases e2
     · rw [x0o hk] at e2 e4;exact S.inj j k xs ys b e1 e2 e3 e4
 p0:=S.p0
 len:=by rw [x0B,x0B];exact S.len
 newp:=S.newp
noncomputable def Ct.guard (C:Ct)(a:Addr)(vs:List V):Ct:={ C with M0:=a::C.M0,H0:=upd C.H0 a (.lst vs) }
theorem SR.guard {C:Ct}{G:Gh}{σ:St}{H:Hp}{env:Env}{n:Nat}(S:SR C G σ H env n){a:Addr}(vs:List V)(h:H a=none):SR (C.guard a vs) ⟨a::G.M,G.pots⟩ σ (upd H a (.lst vs)) env n:=by
 have S1:=S.more (vs:=vs) h;have aM:=S.fresh h
 exact {
   frame:=fun b o hb e=>by
     by_cases hba:b=a
     · subst hba;have e':upd C.H0 b (.lst vs) b=some o:=e;rw [a0f] at e' ⊢;exact e'
     · have e':upd C.H0 a (.lst vs) b=some o:=e;rw [a0e hba] at e';exact S1.frame b o hb e'
   sub:=fun b hb=>by
     by_cases hba:b=a
     · exact .inl (by rw [hba];exact x0e)
     · rcases S1.sub b hb with z | z
       · exact .inl (x0d _ z)
       · refine .inr ?_;show upd C.H0 a (.lst vs) b=none;rw [a0e hba];exact z
   sup:=fun b hb=>by
     rcases x0i.mp (show b∈a::C.M0 from hb) with rfl | z
     · exact x0e
     · exact S1.sup b z
   pots:=S1.pots
   pre:=S1.pre
   mu:=S1.mu
   slots:=fun i s e=>by
     cases s with
     | v x =>
       obtain⟨v,ev,r⟩:=S1.slots i _ e;exact⟨v,ev,r⟩
     | ow kk xs =>
       obtain⟨b,us,ev,h1,h2,h3,h4,r⟩:=S1.slots i _ e;obtain⟨b',us',ev',g1,_⟩:=S.slots i _ e;rw [ev] at ev';cases ev';refine⟨b,us,ev,h1,fun z=>?_,h3,h4,r⟩;rcases x0i.mp (show b∈a::C.M0 from z) with rfl | z
       · exact aM g1
       · exact h2 z
   inj:=S1.inj
   p0:=⟨fun p hp=>x0d _ (S1.p0.1 p hp),S1.p0.2⟩
   len:=S1.len
   newp:=fun p hp hn hM=>by
     rcases x0i.mp (show p∈a::C.M0 from hM) with rfl | z
     · exact aM (S.pots p hp).1
     · exact S1.newp p hp hn z }
theorem SR.unguard {C:Ct}{G:Gh}{σ:St}{H:Hp}{env:Env}{n:Nat}{a:Addr}{vs:List V}(S:SR (C.guard a vs) G σ H env n)(ha:a∉C.M0)(hp0:∀p∈C.pots0,p∈C.M0)(h0:C.H0 a=none):SR C G σ H env n/\H a=some (.lst vs)/\¬b1Y σ env a:=by
 have hap:a∉C.pots0:=fun z=>ha (hp0 a z)
 refine⟨{
   frame:=fun b o hb e=>S.frame b o hb (by
     show upd C.H0 a (.lst vs) b=some o
     rw [a0e (fun z=>by rw [z,h0] at e;cases e)];exact e)
   sub:=fun b hb=>by
     by_cases hba:b=a
     · exact .inr (hba▸h0)
     · rcases S.sub b hb with z | z
       · rcases x0i.mp (show b∈a::C.M0 from z) with z | z
         · exact absurd z hba
         · exact .inl z
       · have z':upd C.H0 a (.lst vs) b=none:=z;rw [a0e hba] at z';exact .inr z'
   sup:=fun b hb=>S.sup b (x0d _ hb)
   pots:=S.pots
   pre:=S.pre
   mu:=S.mu
   slots:=fun i s e=>by
     cases s with
     | v x =>
       obtain⟨v,ev,r⟩:=S.slots i _ e;exact⟨v,ev,r⟩
     | ow kk xs =>
       obtain⟨b,us,ev,h1,h2,h3,h4,r⟩:=S.slots i _ e;exact⟨b,us,ev,h1,fun z=>h2 (x0d _ z),h3,h4,r⟩
   inj:=S.inj
   p0:=⟨hp0,S.p0.2⟩
   len:=S.len
   newp:=fun p hp hn hM=>S.newp p hp hn (x0d _ hM) },S.frame a _ hap a0f,?_⟩
 rintro⟨j,ys,e1,e2⟩;obtain⟨b,us,ev,h1,h2,_⟩:=S.slots j _ e1;rw [e2] at ev;cases ev;exact h2 x0e
noncomputable def LOk (K:x0a)(T:PotK)(t:TE)(pl:pSl):Prop:=∀(C:Ct) (G:Gh) (σ:St) (H:Hp) (env:Env) (n:Nat) (R:Slot->Env->Nat->Prop) (Q:VK),C.K=K->C.T=T->SR C G σ H env n->pl env n R->
 (∀x env' n' v H',R (.v x) env' n'->SR C G σ H' env' n'->Rep K G H' x v->Fr G H H'->Q v H')->
 (∀xs env' n' a vs Hb,R (.ow .lst xs) env' n'->SR C G σ Hb env' n'->Fr G H Hb->Hb a=none->Reps K G Hb xs vs->Q (.ref a) (upd Hb a (.lst vs)))->t σ H Q
noncomputable def QL {ι:Type}(T:PotK)(K:x0a)(F:ι->Cx)(e:Expr)(pl:pSl):Prop:=∃t,(∀z,PE (F z) e t)/\LOk K T t pl
noncomputable def sV (pe:pE):pSl:=fun env n R=>pe env n fun x env1 n1=>R (.v x) env1 n1
section
variable {T:PotK}{np:Bool}{ι:Type}{K:x0a}{F:ι->Cx}{e a b c:Expr}{es:List Expr}{st:Stmt}{rest:List Stmt}{pe pa pb pc:pE}{pos:Pos}{pl pr:pA}{pg:pG}{pt:pT}{p1 p2:pS}{s1 s2 s3:pSl}
theorem ql_v (h:QE T K F e pe):QL T K F e (sV pe):=let ⟨t,h1,h2⟩:=h;⟨t,h1,fun C G σ H env n R Q hK hT S hp k _=>h2 C G σ H env n _ _ hK hT S hp fun x env' n' v H' r S' rp f=>k x env' n' v H' r S' rp f⟩
noncomputable def Got (C:Ct)(G:Gh)(H:Hp)(σ:St)(env:Env)(s:Slot)(v:V):Prop:=b1W C G H (some (some v)) s/\∀(xs:OK×List PV) a,s=.ow xs.1 xs.2->v=.ref a->¬b1Y σ env a
theorem a8h {t:TE}{C:Ct}{G:Gh}{σ:St}{H:Hp}{env:Env}{n:Nat}{R:Slot->Env->Nat->Prop}{Q:VK}(h:LOk K T t s1)(hK:C.K=K)(hT:C.T=T)(S:SR C G σ H env n)(hp:s1 env n R)
   (k:∀s env' n' v G' H',R s env' n'->SR C G' σ H' env' n'->Ext G H G' H'->Got C G' H' σ env' s v->Q v H'):t σ H Q:=by
 refine h C G σ H env n _ _ hK hT S hp (fun x env' n' v H' r S' rp f=>?_) fun xs env' n' a vs Hb r S' f hn rs=>?_
 · exact k _ _ _ _ _ _ r S' (Ext.fr f) ⟨⟨v,rfl,hK▸rp⟩,fun _ _ z=>nomatch z⟩
 · have aM:=S'.fresh hn;have S1:=S'.more (vs:=vs) hn;refine k _ _ _ _ _ _ r S1 ((Ext.fr f).trans (a2o hn)) ⟨⟨a,vs,rfl,x0e,fun z=>aM (S'.sup a z),fun z=>aM (S'.pots a z).1,a0f,?_⟩,fun ys b e1 e2=>?_⟩
   · exact Reps.mono (G':=⟨a::G.M,G.pots⟩) (H':=upd Hb a (.lst vs)) (fun b o _ e=>Same.lay1 hn b o e) (fun c hc=>(x0i.mp (show c∈a::G.M from hc)).elim (fun z=>.inr (z▸hn)) .inl) (fun _ _ e=>e) _ _ (hK▸rs)
   · cases e2;rintro⟨j,zs,z1,z2⟩;obtain⟨b,us,ev,g1,_⟩:=S'.slots j _ z1;rw [z2] at ev;cases ev;exact aM g1
theorem b1l {t u:TE}{C:Ct}{G:Gh}{σ:St}{H:Hp}{env:Env}{n:Nat}{R:Slot->Slot->Env->Nat->Prop}{Q:V->V->Hp->Prop}(h:LOk K T t s1)(h':LOk K T u s2)(hK:C.K=K)(hT:C.T=T)(S:SR C G σ H env n)(hp:s1 env n fun x env1 n1=>s2 env1 n1 fun y env2 n2=>R x y env2 n2)
   (k:∀x y env' n' v w G' H',R x y env' n'->SR C G' σ H' env' n'->Ext G H G' H'->Got C G' H' σ env' x v->Got C G' H' σ env' y w->(∀(xs ys:OK×List PV) a,x=.ow xs.1 xs.2->y=.ow ys.1 ys.2->v=.ref a->w≠.ref a)->Q v w H'):t σ H fun v H1=>u σ H1 fun w H2=>Q v w H2:=by
 refine h C G σ H env n _ _ hK hT S hp (fun x env1 n1 v H1 q1 S1 r1 f1=>?_) fun xs env1 n1 a vs Hb q1 S1 f1 hn rs=>?_
 · refine a8h h' hK hT S1 q1 fun y env2 n2 w G2 H2 q2 S2 x2 g2=>?_;exact k _ _ _ _ _ _ _ _ q2 S2 ((Ext.fr f1).trans x2) ⟨⟨v,rfl,Rep.mono x2.keep x2.new x2.pot _ _ (hK▸r1)⟩,fun _ _ z=>nomatch z⟩ g2 (fun _ _ _ z=>nomatch z)
 · have aM:=S1.fresh hn;have S1g:=S1.guard vs hn;have a0:a∉C.M0:=fun z=>aM (S1.sup a z);have aH:=S1.old hn;have x1:Ext G H ⟨a::G.M,G.pots⟩ (upd Hb a (.lst vs)):=(Ext.fr f1).trans (a2o hn);have r1:Reps C.K ⟨a::G.M,G.pots⟩ (upd Hb a (.lst vs)) xs vs:=Reps.mono (G':=⟨a::G.M,G.pots⟩) (H':=upd Hb a (.lst vs)) (fun b o _ e=>Same.lay1 hn b o e) (fun c hc=>(x0i.mp (show c∈a::G.M from hc)).elim (fun z=>.inr (z▸hn)) .inl) (fun _ _ e=>e) _ _ (hK▸rs);refine a8h (C:=C.guard a vs) h' hK hT S1g q1 fun y env2 n2 w G2 H2 q2 S2 x2 g2=>?_;obtain⟨S3,e3,no⟩:=S2.unguard a0 S1.p0.1 aH;have aM2:a∈G2.M:=S2.sup a x0e
   have ap2:a∉G2.pots:=fun z=>by
     by_cases hz:a∈C.pots0
     · exact a0 (S1.p0.1 a hz)
     · exact S2.newp a z hz x0e
   have gy:Got C G2 H2 σ env2 y w:=by
     refine⟨?_,g2.2⟩;cases y with
     | v x=>exact g2.1
     | ow kk ys =>
       obtain⟨b,us,ev,h1,h2,h3,h4,r⟩:=g2.1;exact⟨b,us,ev,h1,fun z=>h2 (x0d _ z),h3,h4,r⟩
   refine k _ _ _ _ _ _ _ _ q2 S3 (x1.trans x2) ⟨⟨a,vs,rfl,aM2,a0,ap2,e3,Reps.mono x2.keep x2.new x2.pot _ _ r1⟩,fun _ _ _ e=>by cases e;exact no⟩ gy fun xs' ys b ex ey ev ew=>?_;subst ey;cases ev;obtain⟨b,us,ev,h1,h2,_⟩:=g2.1;rw [ew] at ev;cases ev;exact h2 x0e
structure AW (X:Cx)(es:List Expr)(t:TA):Prop where
 h:PA X es t
theorem b3P {X:Cx}{i j:Nat}{x y:Str}{a b:Expr}{px py pt:Pos}{kt k2 pt2}{pos:Pos}(hc:X.calm=true)(hN:X.N.Nodup)(hi:X.N[i]?=some x)(hj:X.N[j]?=some y)(hij:i≠j)
   (hx:X.env.scope.names.lookup x=some .local) (hy:X.env.scope.names.lookup y=some .local) (hw:swappedStores [.Tuple [.Name x px,.Name y py] kt pt] (.Tuple [a,b] k2 pt2) X.env=pure (some [x,y]))
   (hs:swapsWithSole [.Tuple [.Name x px,.Name y py] kt pt] (.Tuple [a,b] k2 pt2) pos.line X.env=pure false:=by rfl) (ta:TA) (h:AW X [a,b] ta) :
   SW X (.Assign [.Tuple [.Name x px,.Name y py] kt pt] (.Tuple [a,b] k2 pt2) pos) (tPar i j ta):=⟨ps_par hc hN hi hj hij hx hy h.h hw hs⟩
noncomputable def qPar (i j:Nat)(s1 s2:pSl):pS:=fun D env n=>s1 env n fun a env1 n1=>s2 env1 n1 fun b env2 n2=>D.nx ((env2.set i (some a)).set j (some b)) n2
theorem a7i {σ:St}{env:Env}{i:Nat}{s:Slot}{v:V}{a:Addr}(hl:env.length=σ.length)(h:b1Y (σ.set i (some v)) (env.set i (some s)) a):b1Y σ env a\/((∃xs:OK×List PV,s=.ow xs.1 xs.2)/\v=.ref a):=by
 obtain⟨j,ys,e1,e2⟩:=h
 by_cases hj:i=j
 · subst hj
   by_cases hl':i < env.length
   · rw [x0t hl'] at e1;rw [x0t (by omega)] at e2;cases e1;cases e2;exact .inr ⟨⟨_,rfl⟩,rfl⟩
   · rw [x1d (by rw [x0B];omega)] at e1;cases e1
 · rw [x0o hj] at e1 e2;exact .inl ⟨j,ys,e1,e2⟩
theorem qs_par (i j:Nat)(h:∀z ta,AW (F z) [a,b] ta->SW (F z) st (tPar i j ta))(h1:QL T K F a s1)(h2:QL T K F b s2)(n1:a0u a=true:=by rfl)(n2:a0u b=true:=by rfl):QS T np K F st (qPar i j s1 s2):=by
 obtain⟨t,a1,a2⟩:=h1;obtain⟨u,b1,b2⟩:=h2;refine⟨_,fun z=>(h z _ ⟨a0n (a1 z) (a0n (b1 z) a0C (a0d n2)) (a0d n1)⟩).h,fun C G σ H env n PD D hK hT hn S hp L=>?_⟩;refine b1l (Q:=fun v w H2=>∃v' w',[v,w]=[v',w']/\D.nx ((σ.set i (some v')).set j (some w')) H2) a2 b2 hK hT S hp fun x y env2 n2 v w G2 H2 q S2 x2 gx gy ne=>?_;refine⟨v,w,rfl,L.nx _ _ _ _ _ q ((S2.slot i gx.1 gx.2).slot j gy.1 fun ys b e1 e2 z=>?_) x2⟩;rcases a7i S2.len z with z | ⟨⟨xs,ex⟩,ev⟩
 · exact gy.2 ys b e1 e2 z
 · exact ne xs ys b ex e1 ev e2
theorem b1k {X:Cx}{i:Nat}{o ix:Expr}{pos:Pos}(ho:EW X o (tVar i))(ha:∀v,assign (.Subscript o ix pos) X.env v=(do
     let ov ← x4N [v] (eval o X.env)
     let iv ← x4N [v,ov] (eval ix X.env)
     standAt pos
     x4N [v,ov,iv] (setItem ov iv v)
     release [v,ov,iv] []):=by intro _;rfl) (ti:TE) (hi:EW X ix ti):GW X (.Subscript o ix pos) (gSub (tVar i) ti a6T):=⟨pg_sub ho.h hi.h b2i ha⟩
noncomputable def gAt (i:Nat)(pe:pE):PV->Env->Nat->(Env->Nat->Prop)->Prop:=fun x env n R=>pe env n fun y env1 n1=>match env1[i]?,y with | some (some (.ow .lst xs)),.int d=>(match ixN xs.length d with | some j=>R (env1.set i (some (.ow .lst (xs.set j x)))) n1 | none=>False) | _,_=>False
noncomputable def qPut (i:Nat)(pv:pE)(pe:pE):pS:=fun D env n=>pv env n fun x env1 n1=>(∃xs,env1[i]?=some (some (.ow .lst xs)))/\gAt i pe x env1 n1 D.nx
theorem qs_put (i:Nat){v o ix:Expr}{pv:pE}(h:∀z te g,EW (F z) v te->GW (F z) (.Subscript o ix pos) g->SW (F z) st (tAsg te g))(hv:QE T K F v pv)(hg:∀z ti,EW (F z) ix ti->GW (F z) (.Subscript o ix pos) (gSub (tVar i) ti a6T))(he:QE T K F ix pe):QS T np K F st (qPut i pv pe):=by
 obtain⟨tv,v1,v2⟩:=hv;obtain⟨ti,i1,i2⟩:=he;refine⟨_,fun z=>(h z _ _ ⟨v1 z⟩ (hg z _ ⟨i1 z⟩)).h,fun C G σ H env n PD D hK hT hn S hp L=>?_⟩;refine v2 C G σ H env n _ _ hK hT S hp fun x env1 n1 v H1 q1 S1 r1 f1=>?_;obtain⟨⟨xs0,e0⟩,q1⟩:=q1;obtain⟨a,vs,ev,h1,h2,h3,h4,r⟩:=S1.slots i _ e0;refine⟨.ref a,ev,?_⟩;refine i2 C G σ H1 env1 n1 _ _ hK hT S1 q1 fun y env2 n2 w H2 q2 S2 r2 f2=>?_
 split at q2
 · rename_i xs d ex
   split at q2
   · rename_i j ej;obtain⟨a',us,ev',g1,g2,g3,g4,r'⟩:=S2.slots i _ ex;rw [ev] at ev';cases ev';subst hK;obtain⟨S3,f3⟩:=S2.put ex ev (r'.set j (r1.fr f2));exact⟨a,us,d,j,rfl,r2,g4,by rw [<- r'.length];exact ej,L.nx _ _ _ _ _ q2 S3 (Ext.fr ((f1.trans f2).trans f3))⟩
   · exact q2.elim
 · exact q2.elim
end
end Pu
end
section
namespace Pu
open PySem PySem.Spec L2
noncomputable def a2O (N:List Str)(xs:List PV):Env:=xs.map (fun x=>some (.v x))++List.replicate (N.length - xs.length) none
noncomputable def fnP (N ps:List Str)(body:pS):pF:=fun xs n R=>xs.length=ps.length/\body ⟨fun _ m=>R .non m,R,fun _ _=>False,fun _ _=>False⟩ (a2O N xs) n
theorem a5c {K:x0a}{T:PotK}{G:Gh}{H:Hp}{n:Nat}{np:Bool}{N:List Str}{xs:List PV}{vs:List V}(hp:∀p∈G.pots,p∈G.M/\T.at_ G.M H p n)(hm:∀a∈G.M,∃o,H a=some o/\MutO o)(hh:T.has G.pots)(r:Reps K G H xs vs) :
   SR ⟨K,T,G.M,G.pots,H,np⟩ G (L2.start N vs) H (a2O N xs) n where
 frame b o _ e:=e
 sub a ha:=.inl ha
 sup a ha:=ha
 pots:=hp
 pre:=⟨[],by simp,.inl rfl⟩
 mu:=hm
 slots i s e:=by
   unfold a2O at e
   by_cases hi:i < xs.length
   · rw [x0P (by simpa using hi),x0v] at e;cases ex:xs[i]? with
     | none=>rw [ex] at e;cases e
     | some x =>
       rw [ex] at e;cases e;obtain⟨v,ev,rv⟩:=r.get' ex;refine⟨v,?_,rv⟩;unfold L2.start;rw [x0P (by rw [x0k,<- r.length];exact hi),x0v,ev]
       rfl
   · rw [x0Z (by simpa using hi),x3x] at e
     split at e <;> cases e
 inj i j xs' ys a e1:=by
   exfalso
   unfold a2O at e1
   by_cases hi:i < xs.length
   · rw [x0P (by simpa using hi),x0v] at e1;cases ex:xs[i]? with
     | none=>rw [ex] at e1;cases e1
     | some x=>rw [ex] at e1;cases e1
   · rw [x0Z (by simpa using hi),x3x] at e1
     split at e1 <;> cases e1
 p0:=⟨fun p h=>(hp p h).1,hh⟩
 len:=by unfold a2O L2.start;simp [r.length]
 newp p h hn:=absurd h hn
section
variable {P:x0D}{w:World}{K:x0a}{mg:Str->Option Value}{base:Heap}{T:PotK}
theorem bd1 {P:List Value->Prop}(h:∀a,P [a])(us:List Value)(e:us.length=1):P us:=by
 obtain⟨a,rfl⟩:=List.length_eq_one_iff.mp e;exact h a
theorem bdS {n:Nat}{P:List Value->Prop}(h:∀a us,us.length=n->P (a::us))(us:List Value)(e:us.length=n + 1):P us:=by
 obtain⟨a,us,rfl⟩:=List.exists_cons_of_length_eq_add_one e;exact h a us (Nat.succ.inj e)
theorem bd2 {P:List Value->Prop}(h:∀a b,P [a,b])(us:List Value)(e:us.length=2):P us:=bdS (fun a us e=>bd1 (P:=fun us=>P (a::us)) (h a) us e) us e
theorem bd3 {P:List Value->Prop}(h:∀a b c,P [a,b,c])(us:List Value)(e:us.length=3):P us:=bdS (fun a us e=>bd2 (P:=fun us=>P (a::us)) (h a) us e) us e
theorem bd4 {P:List Value->Prop}(h:∀a b c d,P [a,b,c,d])(us:List Value)(e:us.length=4):P us:=bdS (fun a us e=>bd3 (P:=fun us=>P (a::us)) (h a) us e) us e
theorem a1m {x:Str}{st:Stmt}{N ps:List Str}{k:Nat}{body:pS}(F0:Fn0 K mg x st)(sc:a0q N ps (a0i st))
   (bd:∀(kV doc pm:Value) (an:Option Addr) (cdv ct:Value) (us:List Value),us.length=ps.length->x4t (x1W x x (a1f st) (a0K st) (a0i st) .none kV doc pm an cdv ct) ⟨us,[]⟩=pure (ps.zip us))
   (h:∀(f:Addr) (cdv:Value) (A:Around) (outer:List PySem.Env) (s:Shared) (H:Hp) (E:XK),Room k (A.deeper (x4E x (a0i st) s.heap.objs.size f cdv))->
     QSs T false K (fun _:Unit=>(cxOf CX0 P w K mg base N x (a0i st) f cdv A outer s H E).nox) (a0K st) body) :
   Kn P w K mg base x (k + 1) ps (a0k K T (fnP N ps body)):=by
 refine F0.ok sc (fun vs H Q E h=>?_) bd (fun f cdv A outer s H vs Q E hr hsp=>?_)
 · obtain⟨G,xs,n,R,_,_,_,r,hf,_⟩:=h;rw [<- r.length];exact hf.1
 · obtain⟨t,h1,h2⟩:=h f cdv A outer s H E hr;obtain⟨G,xs,n,R,hp,hm,hh,r,hf,k'⟩:=hsp;refine⟨t,h1 (),?_⟩;have S0:=a5c (N:=N) (np:=false) hp hm hh r
   have fin:∀(x:PV) (n':Nat) (v:V) (G':Gh) (σ:St) (H':Hp) (env:Env),R x n'->SR ⟨K,T,G.M,G.pots,H,false⟩ G' σ H' env n'->Rep K ⟨G.M,G'.pots⟩ H' x v->Q v H':=by
     intro x n' v G' σ H' env rr S' rv
     have ep:G'.pots=G.pots:=by
       obtain⟨l,el,hl⟩:=S'.pre;rcases hl with hl | hl
       · rw [el,hl,x1f]
       · cases hl
     rw [ep] at rv;exact k' _ _ _ _ rr rv (fun p hp'=>T.more (S'.pots p (by rw [ep];exact hp')).2 fun a ha=>.inl (S'.sup a ha)) S'.frame
   refine h2 _ G _ H _ n _ _ rfl rfl rfl S0 hf.2 ⟨fun env n' G' σ H' q S' _=>?_,fun x n' v G' σ H' env q S' rv _=>fin x n' v G' σ H' env q S' rv,fun _ _ _ _ _ q=>q.elim,fun _ _ _ _ _ q=>q.elim⟩;exact fin .non n' .non G' σ H' env q S' rfl
end
noncomputable def b1Q:pF:=fun xs n R=>match xs with | [.pot _,.int m]=>(0 < m/\m < 1000000/\n < 1000000000)/\∀d:Int,0<=d->d < m->R (.int d) (n + 1) | _=>False
end Pu
end
section
namespace Pu
open PySem PySem.Spec L2
section
variable {T:PotK}{np:Bool}{ι:Type}{K:x0a}{F:ι->Cx}{e a b c:Expr}{es:List Expr}{pe pa pb pc:pE}{pos:Pos}{pl pr:pA}
theorem RdV.lst' {G:Gh}{H:Hp}{xs:List PV}{v:V}(h:RdV K G H (.lst xs) v):∃a vs,v=.ref a/\H a=some (.lst vs)/\Reps K G H xs vs:=by
 rcases h with⟨a,vs,e,t,r⟩ | ⟨a,vs,ys,ex,ev,h4,r⟩
 · exact⟨a,vs,e,t.2,r⟩
 · cases ex;exact⟨a,vs,ev,h4,r⟩
noncomputable def qCat (pa pb:pE):pA:=fun env n R=>pa env n fun x env1 n1=>pb env1 n1 fun y env2 n2=>match x,y with | .lst xs,.lst ys=>env2=env1/\xs.length + ys.length<=1000000/\R (xs++ys) env2 n2 | _,_=>False
theorem qn_cat (ha:QR T K F a pa)(hb:QR T K F b pb):QN T K F (.BinOp a .Add b pos) (qCat pa pb):=by
 obtain⟨t,a1,a2⟩:=ha;obtain⟨u,b1,b2⟩:=hb;refine⟨_,fun z=>a1w op_cat (a1 z) (b1 z),fun C G σ H env n R Q hK hT S hp k=>?_⟩;refine a2 C G σ H env n _ _ hK hT S hp fun x env1 n1 v H1 q1 S1 r1 f1=>?_;refine b2 C G σ H1 env1 n1 _ _ hK hT S1 q1 fun y env2 n2 w H2 q2 S2 r2 f2=>?_
 split at q2
 · rename_i xs ys;obtain⟨e1,hl,q2⟩:=q2;subst e1;obtain⟨l,vs,ev,e1,rx⟩:=RdV.lst' ((r1.fr f2).rd S2);obtain⟨m,us,ew,e2,ry⟩:=RdV.lst' (r2.rd S2);exact⟨l,m,vs,us,ev,ew,e1,e2,by rw [<- rx.length,<- ry.length];exact mil hl,fun p hn=>k _ _ _ _ _ _ q2 S2 (f1.trans f2) hn (hK▸rx.append ry)⟩
 · exact q2.elim
noncomputable def a3a:List PV->Option (List Str)
 | []=>some []
 | .str b::xs=>(a3a xs).map (b::·)
 | _=>none
theorem a2K {G:Gh}{H:Hp}:∀{xs:List PV} {vs:List V} {bs:List Str},a3a xs=some bs->Reps K G H xs vs->vs=bs.map V.str
 | [],vs,bs,h,r=>by cases h;exact r
 | .str b :: xs, vs, bs, h, r => by
   obtain⟨v,t,e,rv,rt⟩:=r;cases e1:a3a xs with
   | none=>simp [a3a,e1] at h
   | some cs =>
     have:b::cs=bs:=by simpa [a3a,e1] using h
     subst this;rw [e,show v=.str b from rv,a2K e1 rt]
     rfl
 | .non::_,_,_,h,_=>by cases h
 | .int _::_,_,_,h,_=>by cases h
 | .bl _::_,_,_,h,_=>by cases h
 | .ty _::_,_,_,h,_=>by cases h
 | .pot _::_,_,_,h,_=>by cases h
 | .tup _::_,_,_,h,_=>by cases h
 | .lst _::_,_,_,h,_=>by cases h
 | .dct _ _::_,_,_,h,_=>by cases h
 | .fdt _ _::_,_,_,h,_=>by cases h
 | .scr _::_,_,_,h,_=>by cases h
theorem a5I:∀bs:List Str,a3a (bs.map PV.str)=some bs:=by
 intro xq
 induction xq with
 | nil =>
   exact rfl
 | cons b bs ih =>
   simp [a3a,ih]
noncomputable def a9F:PV->Option Bool
 | .non=>some false
 | .bl b=>some b
 | .int i=>some (i != 0)
 | .str z=>if z.length<=1000000 then some ((z.length:Int) != 0) else none
 | .lst xs=>some (!xs.isEmpty)
 | .tup xs=>some (!xs.isEmpty)
 | _=>none
theorem a3A {G:Gh}{H:Hp}{xs:List PV}{vs:List V}(r:Reps K G H xs vs):(!vs.isEmpty)=!xs.isEmpty:=by
 have:=r.length;cases xs <;> cases vs <;> simp_all
theorem tru_of {G:Gh}{H:Hp}{x:PV}{v:V}{b:Bool}(h:a9F x=some b)(r:RdV K G H x v):TruV K v H b:=by
 cases x with
 | non=>rw [r.non];cases h;rfl
 | bl c=>rw [r.bl];cases h;rfl
 | int i=>rw [r.int];cases h;rfl
 | str z =>
   rw [r.str]
   by_cases hz:z.length<=1000000
   · have h':(if z.length<=1000000 then some ((z.length:Int) != 0) else none)=some b:=h;rw [if_pos hz] at h';cases h';exact⟨mil hz,rfl⟩
   · have h':(if z.length<=1000000 then some ((z.length:Int) != 0) else none)=some b:=h;rw [if_neg hz] at h';cases h'
 | lst xs=>obtain⟨a,vs,ev,hq,rs⟩:=r.lst;rw [ev];cases h;exact .inl ⟨vs,hq,(a3A rs).symm⟩
 | tup xs=>obtain⟨a,vs,ev,hq,rs⟩:=r.tup;rw [ev];cases h;exact .inr (.inl ⟨vs,hq,(a3A rs).symm⟩)
 | _=>cases h
noncomputable def wNeg:w1:=fun x R=>match x with | .int i=>R (.int (-i)) | _=>False
theorem qe_neg (h:QE T K F a pa):QE T K F (.UnaryOp .USub a pos) (qUn wNeg pa):=by
 obtain⟨t,a1,a2⟩:=h.r;refine⟨_,fun z=>pe_un b3K (a1 z),ok_un (fun G H x v R Q hf rx hw k=>?_) a2⟩;unfold wNeg at hw
 split at hw
 · exact⟨_,rx.int,k _ _ _ hw (Same.refl _) rfl⟩
 · exact hw.elim
end
noncomputable def a5k (i:Nat)(pe:pE):pE:=fun env n R=>(∃xs,env[i]?=some (some (.ow .lst xs)))/\a6Y i pe env n R
end Pu
end
section
namespace Pu
open PySem PySem.Spec L2
theorem a0O {g:pG}{b:pS}{D:a7D}(I:Nat->Env->Nat->Prop):∀(xs:List PV) (k:Nat) (env:Env) (n:Nat),I k env n->
   (∀(i:Nat) x env n (N:Env->Nat->Prop),xs[i]?=some x->I (k + i) env n->(∀e m,I (k + i + 1) e m->N e m)->g x env fun env1=>b { D with nx:=N,ct:=N,bk:=D.nx } env1 n)->(∀env n,I (k + xs.length) env n->D.nx env n)->forL g b D xs env n:=by
 intro xq
 induction xq with
 | nil =>
   intro k env n h0 _ hd;exact hd env n h0
 | cons x xs ih =>
   intro k env n h0 hs hd;show g x env fun env1=>b { D with nx:=fun e m=>forL g b D xs e m,ct:=fun e m=>forL g b D xs e m,bk:=D.nx } env1 n;refine hs 0 x env n _ rfl h0 fun e m h1=>?_;refine ih (k + 1) e m h1 (fun i y env n N e1 h2 h3=>?_) fun env n h2=>hd env n (by rw [x0M,show k + (xs.length + 1)=k + 1 + xs.length by omega];exact h2);refine hs (i + 1) y env n N (by simpa using e1) (by rw [show k + (i + 1)=k + 1 + i by omega];exact h2) fun e m h4=>h3 e m (by rw [show k + 1 + i + 1=k + (i + 1) + 1 by omega];exact h4)
theorem a6Q {j i:Nat}{lo:Int}{x:PV}(h:((x0N j).map fun(k:Nat)=>PV.int (lo + k))[i]?=some x):i < j/\x=.int (lo + i):=by
 rw [x0v] at h;cases e:(x0N j)[i]? with
 | none=>rw [e] at h;cases h
 | some y =>
   rw [e] at h;obtain⟨h1,h2⟩:=x0l.mp e;rw [x3D] at h2;cases h;subst h2;exact⟨by simpa using h1,rfl⟩
theorem a9P {j:Nat}{lo:Int}:((x0N j).map fun(k:Nat)=>PV.int (lo + k)).length=j:=by simp
theorem b1S {α:Type}{xs:List α}{d:Int}(h0:0<=d)(h1:d < xs.length):∃x,x∈xs/\atI xs d=some x:=by
 obtain⟨x,e1,e2⟩:=b1R h0 h1;exact⟨x,x0A e1,e2⟩
theorem b4t (a b:Int):eqP (.int a) (.int b)=decide (a=b):=rfl
theorem b4s (a b:Str):eqP (.str a) (.str b)=decide (a=b):=rfl
theorem eqP_bb (a b:Bool):eqP (.bl a) (.bl b)=decide (a=b):=rfl
theorem eqP_ll (xs ys:List PV):eqP (.lst xs) (.lst ys)=eqPs xs ys:=rfl
theorem eqP_tt (xs ys:List PV):eqP (.tup xs) (.tup ys)=eqPs xs ys:=rfl
theorem b5W (x y:PV)(xs ys:List PV):eqPs (x::xs) (y::ys)=(eqP x y && eqPs xs ys):=rfl
theorem b5V:eqPs [] []=true:=rfl
theorem if_t {A B:Prop}{b:Bool}(h:b=true)(q:A):if b=true then A else B:=by rw [if_pos h];exact q
theorem if_f {A B:Prop}{b:Bool}(h:b=false)(q:B):if b=true then A else B:=by rw [if_neg (by rw [h];exact x0E)];exact q
end Pu
end
section
namespace Pu
open PySem PySem.Spec L2
section
variable {T:PotK}{np:Bool}{ι:Type}{K:x0a}{F:ι->Cx}{a b:Expr}{st:Stmt}{pos:Pos}{s1 s2:pSl}
theorem gw_two {X:Cx}(K:x0a)(i j:Nat){x y:Str}{px py pos:Pos}{k:Nat}(hc:X.calm=true)(h1:GW X (.Name x px) (a1i i))(h2:GW X (.Name y py) (a1i j))(hn:(x0G [.Name x px,.Name y py] X.env).length=2:=by rfl)(hst:(x0G [.Name x px,.Name y py] X.env).findIdx? (·.1)=none:=by rfl)
   (hs:(x0G [.Name x px,.Name y py] X.env).map (·.2)=assign (.Name x px) X.env::(x0G [.Name y py] X.env).map (·.2):=by rfl) (hs2:(x0G [.Name y py] X.env).map (·.2)=assign (.Name y py) X.env::(x0G [] X.env).map (·.2):=by rfl) (hK:X.K=K:=by rfl) :
   GW X (.Tuple [.Name x px,.Name y py] k pos) (gTup K 2 (a2X (a1i i) (a2X (a1i j) gNil))):=⟨hK▸a6b hc (a1N h1.h (a1N h2.h a4h hs2) hs) hn hst⟩
theorem b4Y (i j:Nat){tg:Expr}{k:Nat}{p:Pos}(h:∀z te g,EW (F z) (.Tuple [a,b] k p) te->GW (F z) tg g->SW (F z) st (tAsg te g))(hg:∀z,GW (F z) tg (gTup K 2 (a2X (a1i i) (a2X (a1i j) gNil))))(h1:QL T K F a s1)(h2:QL T K F b s2)(n1:a0u a=true:=by rfl)(n2:a0u b=true:=by rfl):QS T np K F st (qPar i j s1 s2):=by
 obtain⟨t,a1,a2⟩:=h1;obtain⟨u,b1,b2⟩:=h2;refine⟨_,fun z=>(h z _ _ ⟨a4Q (a0n (a1 z) (a0n (b1 z) a0C (a0d n2)) (a0d n1))⟩ (hg z)).h,fun C G σ H env n PD D hK hT hn S hp L=>?_⟩;refine b1l (Q:=fun v w H2=>[v,w].length<=x0w/\∀p,H2 p=none->gTup K 2 (a2X (a1i i) (a2X (a1i j) gNil)) (.ref p) σ (upd H2 p (.tup [v,w])) D.nx) a2 b2 hK hT S hp fun x y env2 n2 v w G2 H2 q S2 x2 gx gy ne=>?_;refine⟨by show 2<=x0w;decide,fun p hn'=>⟨p,[v,w],rfl,SqT.of a0f,rfl,v,[w],rfl,w,[],rfl,rfl,?_⟩⟩;have sm:Same H2 (upd H2 p (.tup [v,w])):=Same.lay1 hn';have S3:=S2.same sm
 have keep:∀{s:Slot} {u:V},b1W C G2 H2 (some (some u)) s->b1W C G2 (upd H2 p (.tup [v,w])) (some (some u)) s:=fun {s u} r=>by
   cases s with
   | v x=>obtain⟨v',e,r⟩:=r;exact⟨v',e,r.same sm⟩
   | ow kk xs=>obtain⟨b,us,e,h1,h2,h3,h4,r⟩:=r;exact⟨b,us,e,h1,h2,h3,sm _ _ h4,r.same sm⟩
 refine L.nx _ _ _ _ _ q ((S3.slot i (keep gx.1) gx.2).slot j (keep gy.1) fun ys b e1 e2 z=>?_) (x2.trans (Ext.fr (Fr.of sm)));rcases a7i S3.len z with z | ⟨⟨xs,ex⟩,ev⟩
 · exact gy.2 ys b e1 e2 z
 · exact ne xs ys b ex e1 ev e2
end
end Pu
end
section
namespace L2
open PySem PySem.Spec PyProof.Rows
section
variable {κ:Type}[DecidableEq κ]
variable {kvs:List (κ×V)}
noncomputable def valV (kvs:List (κ×V))(k:κ):Option V:=(kvs.find? fun kv=>decide (kv.1=k)).map (·.2)
noncomputable def putK (kvs:List (κ×V))(k:κ)(v:V):List (κ×V):=
 if(kvs.any fun kv=>decide (kv.1=k))=true then kvs.map (fun kv=>if kv.1=k then(kv.1,v) else kv) else kvs++[(k,v)]
theorem a1J {p:κ×V}{r:List (κ×V)}{k:κ}(e:p.1=k):valV (p::r) k=some p.2:=by simp [valV,x2P,e]
theorem a1k {p:κ×V}{r:List (κ×V)}{k:κ}(e:¬p.1=k):valV (p::r) k=valV r k:=by simp [valV,x2P,e]
theorem a7J (k:κ):∀kvs:List (κ×V),(kvs.any fun kv=>decide (kv.1=k))=(valV kvs k).isSome:=by
 intro xq
 induction xq with
 | nil =>
   exact rfl
 | cons p r ih =>
   rw [x3C]
   by_cases e:p.1=k
   · simp only [a1J e,decide_eq_true e,Bool.true_or,Option.isSome_some]
   · rw [a1k e,decide_eq_false e,Bool.false_or];exact ih
theorem a1Q (kvs:List (κ×V))(k:κ)(v:V):(putK kvs k v).length<=kvs.length + 1:=by
 unfold putK
 split
 · rw [x0k];omega
 · rw [x0m,x0M,x2Q];omega
theorem putK_new {k:κ}(v:V)(h:valV kvs k=none):putK kvs k v=kvs++[(k,v)]:=by
 unfold putK;rw [a7J,h];exact if_neg (by decide)
theorem RelO.isSome_eq {o:Option V}{u:Option Value}(r:RelO o u):o.isSome=u.isSome:=by
 cases o with
 | none => cases u with
   | none=>rfl
   | some _=>exact(show False from r).elim
 | some _ => cases u with
   | none=>exact(show False from r).elim
   | some _=>rfl
theorem RelO.getD {o:Option V}{u:Option Value}{d:V}{d':Value}(r:RelO o u)(rd:RelV d d'):RelV (o.getD d) (u.getD d'):=by
 cases o with
 | none => cases u with
   | none=>exact rd
   | some _=>exact(show False from r).elim
 | some _ => cases u with
   | none=>exact(show False from r).elim
   | some _=>exact r
theorem KV.val {vs:List (κ×Value)}(r:KV kvs vs)(k:κ):RelO (valV kvs k) (valueAt vs k):=by
 unfold KV at r
 induction r with
 | nil=>exact x4y
 | @cons p q ps qs h t ih =>
   obtain⟨h1,h2⟩:=h
   by_cases e:p.1=k
   · have e':q.1=k:=h1.symm.trans e;have b:valueAt (q::qs) k=some q.2:=by simp [valueAt,x2P,e']
     rw [a1J e,b];exact h2
   · have e':¬q.1=k:=fun z=>e (h1.trans z);have b:valueAt (q::qs) k=valueAt qs k:=by simp [valueAt,x2P,e']
     rw [a1k e,b];exact ih
theorem KV.any {vs:List (κ×Value)}(r:KV kvs vs)(k:κ):(kvs.any fun kv=>decide (kv.1=k))=vs.any fun kv=>decide (kv.1=k):=by
 unfold KV at r
 induction r with
 | nil=>rfl
 | cons h t ih=>rw [x3C,x3C,ih,h.1]
theorem KV.repl {vs:List (κ×Value)}(r:KV kvs vs)(k:κ){y:V}{u:Value}(ry:RelV y u) :
   KV (kvs.map fun kv=>if kv.1=k then(kv.1,y) else kv) (vs.map fun kv=>if kv.1=k then(kv.1,u) else kv):=by
 unfold KV at r ⊢
 induction r with
 | nil=>exact .nil
 | @cons p q ps qs h t ih =>
   rw [x0C,x0C];refine .cons ?_ ih;obtain⟨h1,h2⟩:=h
   by_cases e:p.1=k
   · rw [if_pos e,if_pos (h1.symm.trans e)];exact⟨h1,ry⟩
   · rw [if_neg e,if_neg (fun z=>e (h1.trans z))];exact⟨h1,h2⟩
theorem KV.put {vs:List (κ×Value)}(r:KV kvs vs)(k:κ){y:V}{u:Value}(ry:RelV y u):KV (putK kvs k y) (stored vs k u):=by
 unfold putK stored;rw [r.any k]
 by_cases e:(vs.any fun kv=>decide (kv.1=k))=true
 · rw [if_pos e,if_pos e];exact r.repl k ry
 · rw [if_neg e,if_neg e];exact Paired.snoc r ⟨rfl,ry⟩
theorem KV.keys {vs:List (κ×Value)}(r:KV kvs vs):kvs.map (·.1)=vs.map (·.1):=by
 unfold KV at r
 induction r with
 | nil=>rfl
 | cons h t ih=>rw [x0C,x0C,ih,h.1]
theorem KV.length {vs:List (κ×Value)}(r:KV kvs vs):kvs.length=vs.length:=x3t r
end
variable {kvs:List (List Key×V)}
theorem a6p {P:x0D}{w:World}{k:Key}{u:Value}(r:RelV (kV k) u):(a0p P w).is k u=true:=by
 cases k with
 | inl i=>obtain⟨t,e⟩:=(show ∃t,u=Value.int i t from r);subst e;exact a7k P w i t
 | inr x=>obtain⟨t,e⟩:=(show ∃t,u=Value.str x t from r);subst e;exact a4n P w x t
theorem a6q {P:x0D}{w:World}:∀{ks:List Key} {us:List Value},Vals (ks.map kV) us->ItemsAre (a0p P w) ks us
 | [],_,r=>by rw [x2x] at r;cases r;exact .nil
 | k :: ks, _, r => by
   rw [x0C] at r;cases r with
   | cons h t=>exact .cons (a6p h) (a6q t)
noncomputable abbrev KT (H:Hp):List (List Key×V)->List (List Key×Addr×Value)->Prop:=Paired fun p q=>p.1=q.1/\H q.2.1=some (.tup (p.1.map kV))/\RelV p.2 q.2.2
theorem KT.val {H:Hp}{xs:List (List Key×Addr×Value)}(r:KT H kvs xs)(k:List Key):RelO (valV kvs k) ((atKey xs k).map (·.2)):=by
 induction r with
 | nil=>exact x4y
 | @cons p q ps qs h t ih =>
   obtain⟨h1,_,h2⟩:=h
   by_cases e:p.1=k
   · have e':q.1=k:=h1.symm.trans e;have b:atKey (q::qs) k=some q.2:=by simp [atKey,x2P,e']
     rw [a1J e,b];exact h2
   · have e':¬q.1=k:=fun z=>e (h1.trans z);have b:atKey (q::qs) k=atKey qs k:=by simp [atKey,x2P,e']
     rw [a1k e,b];exact ih
theorem KT.repl {H:Hp}{xs:List (List Key×Addr×Value)}(r:KT H kvs xs)(k:List Key){y:V}{u:Value}(ry:RelV y u) :
   KT H (kvs.map fun kv=>if kv.1=k then(kv.1,y) else kv) (xs.map (putAt k u)):=by
 induction r with
 | nil=>exact .nil
 | @cons p q ps qs h t ih =>
   rw [x0C,x0C];refine .cons ?_ ih;obtain⟨h1,h2,h3⟩:=h;unfold putAt
   by_cases e:p.1=k
   · rw [if_pos e,if_pos (h1.symm.trans e)];exact⟨h1,h2,ry⟩
   · rw [if_neg e,if_neg (fun z=>e (h1.trans z))];exact⟨h1,h2,h3⟩
theorem KT.put {H:Hp}{xs:List (List Key×Addr×Value)}(r:KT H kvs xs)(k:List Key){b:Addr}{y:V}{u:Value}(hb:H b=some (.tup (k.map kV)))(ry:RelV y u) :
   KT H (putK kvs k y) (storedH xs k b u):=by
 have e:(kvs.any fun kv=>decide (kv.1=k))=(atKey xs k).isSome:=by
   rw [a7J,(r.val k).isSome_eq,Option.isSome_map]
 unfold putK storedH;rw [e]
 by_cases q:(atKey xs k).isSome=true
 · rw [if_pos q,if_pos q];exact r.repl k ry
 · rw [if_neg q,if_neg q];exact Paired.snoc r ⟨rfl,hb,ry⟩
theorem KT.keeps {H H':Hp}{xs:List (List Key×Addr×Value)}(r:KT H kvs xs)(ht:∀b ys,H b=some (.tup ys)->H' b=some (.tup ys)):KT H' kvs xs:=
 Paired.mapP r fun _ _ z=>⟨z.1,ht _ _ z.2.1,z.2.2⟩
section
variable {P:x0D}{w:World}{H:Hp}{h:Heap}{a:Addr}
theorem rd_of {u:HO}(ok:HOk P w H h)(e:Rd H a u):a0U P w H h a u:=e.ok ok
theorem a9n {kvs:List (Key×V)}(ok:HOk P w H h)(e:Rd H a (.dK kvs)):kvs.length<=x0w/\(a == x1g)=false/\∃vs,KV kvs vs/\h.DictOf (a0p P w) a vs:=
 show a0U P w H h a (.dK kvs) from rd_of ok e
theorem b5Z {kvs:List (Key×V)}(ok:HOk P w H h)(e:H a=some (.dK kvs)):kvs.length<=x0w/\(a == x1g)=false/\∃vs,KV kvs vs/\h.DictOf (a0p P w) a vs:=a9n ok (.inl e)
theorem a6j {ks:List Key}(ok:HOk P w H h)(e:H a=some (.tup (ks.map kV))):(x4A (a0p P w)).is h ks a:=by
 obtain⟨_,its,r,o,h1,h2,n,h3⟩:=(show a0U P w H h a (.tup (ks.map kV)) from ok a _ e);exact⟨o,its.toArray,n,h1,(x4z h2).1,h3,by simpa using a6q r⟩
theorem a9l {kvs:List (List Key×V)}(ok:HOk P w H h)(e:Rd H a (.dT kvs)):kvs.length<=x0w/\(a == x1g)=false/\
   ∃xs,KT H kvs xs/\h.DictOfH (x4A (a0p P w)) a xs:=by
 obtain⟨z,y,xs,r,o,es,ep,h1,h2,h3,h4,h5⟩:=(show a0U P w H h a (.dT kvs) from rd_of ok e);refine⟨z,y,xs,r,o,es,ep,h1,h2,h3,h4,fun x hx=>?_,h5⟩
 have all:∀{l:List (List Key×V)} {m:List (List Key×Addr×Value)},KT H l m->∀x∈m,(x4A (a0p P w)).is h x.1 x.2.1:=by
   intro l m q
   induction q with
   | nil=>intro x hx;exact nomatch hx
   | @cons p q ps qs hq t ih =>
     intro x hx;rcases x0i.mp hx with e | hx
     · subst e;exact a6j ok (by rw [<- hq.1];exact hq.2.1)
     · exact ih x hx
 exact all r x hx
theorem dt_of {kvs:List (List Key×V)}(ok:HOk P w H h)(e:H a=some (.dT kvs)):kvs.length<=x0w/\(a == x1g)=false/\
   ∃xs,KT H kvs xs/\h.DictOfH (x4A (a0p P w)) a xs:=a9l ok (.inl e)
end
noncomputable def DGet (H:Hp)(a:Addr)(y:V)(r:Option V):Prop:=
 (∃kvs k,Rd H a (.dK kvs)/\y=kV k/\r=valV kvs k)\/∃kvs k b,Rd H a (.dT kvs)/\y=.ref b/\H b=some (.tup (k.map kV))/\r=valV kvs k
noncomputable def DPut (H:Hp)(a:Addr)(y v:V)(H':Hp):Prop:=
 (∃kvs k,H a=some (.dK kvs)/\y=kV k/\kvs.length < x0w/\H'=upd H a (.dK (putK kvs k v)))\/
 ∃kvs k b,H a=some (.dT kvs)/\y=.ref b/\H b=some (.tup (k.map kV))/\kvs.length < x0w/\H'=upd H a (.dT (putK kvs k v))
theorem DGet.k {H:Hp}{a:Addr}{kvs:List (Key×V)}{k:Key}(e:H a=some (.dK kvs)):DGet H a (kV k) (valV kvs k):=.inl ⟨kvs,k,.inl e,rfl,rfl⟩
theorem DGet.t {H:Hp}{a b:Addr}{kvs:List (List Key×V)}{k:List Key}(e:H a=some (.dT kvs))(eb:H b=some (.tup (k.map kV))):DGet H a (.ref b) (valV kvs k):=.inr ⟨kvs,k,b,.inl e,rfl,eb,rfl⟩
theorem DPut.k {H:Hp}{a:Addr}{kvs:List (Key×V)}{k:Key}{v:V}(e:H a=some (.dK kvs))(hl:kvs.length < x0w):DPut H a (kV k) v (upd H a (.dK (putK kvs k v))):=.inl ⟨kvs,k,e,rfl,hl,rfl⟩
theorem DPut.t {H:Hp}{a b:Addr}{kvs:List (List Key×V)}{k:List Key}{v:V}(e:H a=some (.dT kvs))(eb:H b=some (.tup (k.map kV)))(hl:kvs.length < x0w) :
   DPut H a (.ref b) v (upd H a (.dT (putK kvs k v))):=.inr ⟨kvs,k,b,e,rfl,eb,hl,rfl⟩
section
variable {X:Cx}{pins:List (Addr×Obj)}{σ:St}{H:Hp}{s:Shared}{a:Addr}{y v:V}{u r:Value}{o:Option V}{A:Around}{E:Value->Shared->Prop}
theorem b1B {Q:Value->Shared->Prop}(hu:A.units + 1 < cLine)(I:Inv X pins σ H s)(g:DGet H a y (some v))(ry:RelV y u)(h:∀w' s',Inv X pins σ H s'->RelV v w'->Q w' s') :
   wpAny (model X.prog X.w) A (x4B (.ref a) u) Q E s:=by
 rcases g with⟨kvs,k,e,ey,l⟩ | ⟨kvs,k,b,e,ey,eb,l⟩
 · subst ey;obtain⟨z,hd,vs,rel,dd⟩:=a9n I.hok e;obtain⟨w',hw,rw'⟩:=RelO.some_of (v:=v) (o:=valueAt vs k) (by rw [l];exact rel.val k);exact wpAny_getItem_of (a6p ry) dd.mapOf hw (h w' _ (I.tok _) rw')
 · subst ey;cases(show u=x1r b from ry);obtain⟨z,hd,xs,rel,dd⟩:=a9l I.hok e;obtain⟨w',hw,rw'⟩:=RelO.some_of (v:=v) (o:=(atKey xs k).map (·.2)) (by rw [l];exact rel.val k);obtain⟨p,hp,hp2⟩:=Option.map_eq_some_iff.mp hw;refine wpAny_getItem_heap (x3E hu) (a6j I.hok eb) dd hp ?_;rw [hp2];exact h w' _ (I.tok _) rw'
theorem a5A {h':Heap}{t':Nat}{ob:HO}(I:Inv X pins σ H s)(mu:Mut (H a))(hs:x3r a s.heap h')(he:∃q,h'.get? a=some q)(new:a0U X.prog X.w (upd H a ob) h' a ob) :
   Inv X pins σ (upd H a ob) { s with heap:=h',toks:=t' }:=
 I.write (x:=a) (e:=a) mu (.inl rfl) (fun b q hb z=>(hs.2 b hb).trans z) he new
theorem a8n {P:x0D}{w:World}{H':Hp}{h':Heap}{kvs:List (Key×V)}{vs:List (Key×Value)}(z:kvs.length<=x0w)(hd:(a == x1g)=false)(rel:KV kvs vs)(dd:h'.DictOf (a0p P w) a vs) :
   a0U P w H' h' a (.dK kvs):=⟨z,hd,vs,rel,dd⟩
theorem b1A {H':Hp}{Q:Unit->Shared->Prop}(hu:A.units + 1 < cLine)(I:Inv X pins σ H s)(g:DPut H a y v H')(ry:RelV y u)(rv:RelV v r)(h:∀s',Inv X pins σ H' s'->Q () s') :
   wpAny (model X.prog X.w) A (setItem (.ref a) u r) Q E s:=by
 rcases g with⟨kvs,k,e,ey,l,eH⟩ | ⟨kvs,k,b,e,ey,eb,l,eH⟩
 · subst ey eH;obtain⟨z,hd,vs,rel,dd⟩:=b5Z I.hok e;have hz:vs.length<=x0w:=by rw [<- rel.length];exact z
   have hl:(putK kvs k v).length<=x0w:=by have:=a1Q kvs k v;omega
   refine wpAny_setItem_pairs (hsz:=hz) (a6p ry) dd fun h' dd' hs=>h _ ?_;have he:∃q,h'.get? a=some q:=let ⟨q,_,_,hq,_⟩:=dd';⟨q,hq⟩;exact a5A I (by rw [e];exact x4y) hs he (a8n hl hd (rel.put k rv) dd')
 · subst ey eH;cases(show u=x1r b from ry);obtain⟨z,hd,xs,rel,dd⟩:=dt_of I.hok e;have hz:xs.length<=x0w:=by rw [<- x3t rel];exact z
   have hl:(putK kvs k v).length<=x0w:=by have:=a1Q kvs k v;omega
   refine wpAny_setItem_heap (hsz:=hz) (x3E hu) (a6j I.hok eb) dd fun h' dd' hs=>h _ ?_;obtain⟨q,es,ep,hq,h2,h3,h4,_,h5⟩:=dd';refine a5A I (by rw [e];exact x4y) hs ⟨q,hq⟩ ⟨hl,hd,_,(rel.put k eb rv).keeps fun c ys ec=>?_,q,es,ep,hq,h2,h3,h4,h5⟩;rw [a0e (ne_of ec e (fun z=>nomatch z))];exact ec
end
noncomputable def NoSl (i:Expr):Prop:=∀ov iv,subscripted i false ov iv=operate [ov,iv] (x4B ov iv)
theorem b4O {prog:x0D}{w:World}{A:Around}{E:Value->Shared->Prop}{s:Shared}{env:Env}{value slice:Expr}{pos:Pos}{T id:String}{Q:Value->Shared->Prop}
   (hl:typeLookup (.type T) "__getitem__"=pure (some (.builtin id))) (hs:NoSl slice)
   (h:wpAny (model prog w) A (eval value env) (fun o s₁=>wpAny (model prog w) A (eval slice env) (fun i s₂=>s₂.TypeIs o T/\wpAny (model prog w) A (x4B o i) Q E s₂) E s₁) E s) :
   wpAny (model prog w) A (eval (.Subscript value slice pos) env) Q E s:=by
 refine Subscript_ (x0F h (fun o s₁ h₁=>x0F h₁ (fun i s₂ h₂=>?_) fun _ _ x=>x) fun _ _ x=>x);obtain⟨hT,h₂⟩:=h₂;unfold subscriptTail;refine x0b ?_;rw [getitemInPython_of_ne hT.not_modules];refine x0b (wpAny_specialOf hT hl ?_)
 have fin:wpAny (model prog w) A (subscripted slice false o i) (fun r s₃=>wpAny (model prog w) A (letTemporaryGo value o r>>=fun _=>pure r) Q E s₃) E s₂:=by
   rw [hs o i];exact wpAny_operating (x0F h₂ (fun r s₃ h₃=>x0b (wpAny_letTemporaryGo (x0h h₃))) fun _ _ x=>x)
 first
   | exact x0h (x0b fin)
   | exact x0b (x0h (x0b fin))
   | exact x0b fin
theorem a7w {X:Cx}{pins:List (Addr×Obj)}{σ:St}{H:Hp}{s:Shared}{a:Addr}{y:V}{o:Option V}(I:Inv X pins σ H s)(g:DGet H a y o):s.TypeIs (.ref a) "dict":=by
 rcases g with⟨kvs,k,e,_,_⟩ | ⟨kvs,k,b,e,_,_,_⟩
 · obtain⟨_,_,vs,_,dd⟩:=a9n I.hok e;exact dd.typeIs
 · obtain⟨_,_,xs,_,dd⟩:=a9l I.hok e;exact dd.typeIs
noncomputable def b4N (td ty:TE):TE:=fun σ H Q=>td σ H fun x H1=>ty σ H1 fun y H2=>∃a v,x=.ref a/\DGet H2 a y (some v)/\Q v H2
noncomputable def b4T (td ty tv:TE):TS:=fun D σ H=>tv σ H fun v H1=>td σ H1 fun x H2=>ty σ H2 fun y H3=>∃a H4,x=.ref a/\DPut H3 a y v H4/\D.nx σ H4
section
variable {X:Cx}{o i e value:Expr}{pos pos' tpos:Pos}{td ty tv:TE}
theorem a0W (hu:X.A.units + 1 < cLine)(ho:PE X o td)(hi:PE X i ty)(hs:NoSl i):PE X (.Subscript o i pos) (b4N td ty):=by
 intro pins s σ H Q I h;refine b4O PySem.F.slot_dict_getitem.lookup hs (thn (ho pins s σ H _ I h) fun u s1 ⟨x,H1,I1,rx,q1⟩=>thn (hi pins s1 σ H1 _ I1 q1) fun iv s2 ⟨y,H2,I2,ry,a,v,ex,g,q2⟩=>?_);subst ex;obtain rfl:u=x1r a:=rx;exact⟨a7w I2 g,b1B hu I2 g ry fun w' s3 I3 rw'=>⟨v,H2,I3,rw',q2⟩⟩
theorem a3g (hu:X.A.units + 1 < cLine)(ho:PE X o td)(hi:PE X i ty)(hv:PE X value tv)(hs:x4e value (some (.Subscript o i pos')) pos.line X.env=pure false) :
   PS X (.Assign [.Subscript o i pos'] value pos) (b4T td ty tv):=by
 intro pins s σ H D I h;refine wpAny_Assign_Subscript (thn (hv pins s σ H _ I h) fun r s1 ⟨v,H1,I1,rv,q1⟩=>thn (ho pins s1 σ H1 _ I1 q1) fun u s2 ⟨x,H2,I2,rx,q2⟩=>thn (hi pins s2 σ H2 _ I2 q2) fun iv s3 ⟨y,H3,I3,ry,a,H4,ex,g,q3⟩=>?_) hs;subst ex;obtain rfl:u=x1r a:=rx;exact b1A hu I3 g ry rv fun s4 I4=>⟨σ,H4,I4,q3⟩
end
noncomputable def a9G:List (TE×TE)->St->Hp->(List (V×V)->Hp->Prop)->Prop
 | [],_,H,Q=>Q [] H
 | (tk,tv)::r,σ,H,Q=>tk σ H fun x H1=>tv σ H1 fun y H2=>a9G r σ H2 fun ps H3=>Q ((x,y)::ps) H3
noncomputable abbrev VV:List (V×V)->List (Value×Value)->Prop:=Paired fun p q=>RelV p.1 q.1/\RelV p.2 q.2
noncomputable def PPs (X:Cx)(pos:Pos)(keys:List (Option Expr))(values:List Expr)(trs:List (TE×TE)):Prop:=
 ∀ (pins : List (Addr × Obj)) (s : Shared) (σ : St) (H : Hp) (Q : List (V × V) -> Hp -> Prop), Inv X pins σ H s -> a9G trs σ H Q ->
   wpAny (model X.prog X.w) X.A (evalPairs (pairTrees keys values X.env pos)) (fun vs s'=>∃ps H',Inv X pins σ H' s'/\VV ps vs/\Q ps H') X.xe s
theorem b5l {X:Cx}{pos:Pos}:PPs X pos [] [] []:=fun pins s σ H Q I h=>pairTrees_nil_walk ⟨[],H,I,.nil,h⟩
theorem a3N {X:Cx}{pos:Pos}{k v:Expr}{ks:List (Option Expr)}{vs:List Expr}{tk tv:TE}{trs:List (TE×TE)}(hk:PE X k tk)(hv:PE X v tv)(hr:PPs X pos ks vs trs) :
   PPs X pos (some k::ks) (v::vs) ((tk,tv)::trs):=fun pins s σ H Q I h=>
 pairTrees_cons_walk (thn (hk pins s σ H _ I h) fun u s1 ⟨x,H1,I1,rx,q1⟩=>thn (hv pins s1 σ H1 _ I1 q1) fun w2 s2 ⟨y,H2,I2,ry,q2⟩=>
   thn (hr pins s2 σ H2 _ I2 q2) fun ws s3 ⟨ps,H3,I3,rel,q3⟩=>⟨(x,y)::ps,H3,I3,.cons ⟨rx,ry⟩ rel,q3⟩)
noncomputable def a1s (kvs more:List (Key×V)):List (Key×V):=more.foldl (fun acc kv=>putK acc kv.1 kv.2) kvs
theorem KV.merge:∀{more:List (Key×V)} {rs:List (Key×Value)} {kvs:List (Key×V)} {vs:List (Key×Value)},KV more rs->KV kvs vs->KV (a1s kvs more) (merged vs rs):=by
 intro more rs kvs vs r;unfold KV at r
 induction r generalizing kvs vs with
 | nil=>intro q;exact q
 | @cons p q ps qs h t ih =>
   intro r0
   have e:KV (putK kvs p.1 p.2) (stored vs q.1 q.2):=by
     have:=r0.put p.1 h.2;rw [<- h.1];exact this
   exact ih e
theorem a2W:∀(more kvs:List (Key×V)),(a1s kvs more).length<=kvs.length + more.length:=by
 intro xq
 induction xq with
 | nil =>
   intro kvs;show kvs.length<=kvs.length + 0;omega
 | cons p r ih =>
   intro kvs;have h1:=ih (putK kvs p.1 p.2);have h2:=a1Q kvs p.1 p.2;show(a1s (putK kvs p.1 p.2) r).length<=_;rw [x0M];omega
theorem a4W {P:x0D}{w:World}:∀{kvs:List (Key×V)} {ws:List (Value×Value)},VV (kvs.map fun kv=>(kV kv.1,kv.2)) ws->∃rs,Carries (a0p P w) ws rs/\KV kvs rs
 | [],_,r=>by rw [x2x] at r;cases r;exact⟨[],x4y,.nil⟩
 | p :: kvs, _, r => by
   rw [x0C] at r;cases r with
   | @cons a b as bs h t =>
     obtain⟨rs,c,q⟩:=a4W (P:=P) (w:=w) t;obtain⟨b1,b2⟩:=b;exact⟨(p.1,b2)::rs,⟨a6p h.1,rfl,c⟩,.cons ⟨rfl,h.2⟩ q⟩
noncomputable def tDisp (trs:List (TE×TE)):TE:=fun σ H Q=>∀p,H p=none->a9G trs σ (upd H p (.dK [])) fun ps H2=>H2 p=some (.dK [])/\∃kvs:List (Key×V),ps=kvs.map (fun kv=>(kV kv.1,kv.2))/\kvs.length<=15/\Q (.ref p) (upd H2 p (.dK (a1s [] kvs)))
theorem b5s {X:Cx}{pos:Pos}{keys:List (Option Expr)}{values:List Expr}{trs:List (TE×TE)}(h:PPs X pos keys values trs)(hall:keys.all (·.isSome)=true)(hl:keys.length=values.length)(h0:keys≠[])
   (h15:keys.length<=15):PE X (.Dict keys values pos) (tDisp trs):=by
 intro pins s σ H Q I q;have hn:=I.hok.fresh (x0j s.heap.objs.size);have I1:=I.laid (a:=s.heap.objs.size) (o:=.dK []) (h':=s.heap.push { cls:=.type "dict",data:=.dict #[] }) (t':=s.toks) (fun _ _ q=>x0c _ q) (x0j _) (a8o s.heap I.big);refine wpAny_Dict_walk (knd:=a0p X.prog X.w) hall hl h0 h15 (thn (h pins _ σ _ _ I1 (q _ hn)) fun ws s2 ⟨ps,H2,I2,rel,e,kvs,ep,lk,q2⟩=>?_);subst ep;obtain⟨rs,c,rk⟩:=a4W (P:=X.prog) (w:=X.w) rel;obtain⟨z,hd,vs0,r0,dd⟩:=b5Z I2.hok e;cases r0;refine⟨rs,c,dd,fun h' dd' hs=>⟨.ref s.heap.objs.size,_,?_,rfl,q2⟩⟩
 have hz:(a1s [] kvs).length<=x0w:=by
   have h1:=a2W kvs [];rw [x2Q] at h1;rw [x1k];omega
 have he:∃q,h'.get? s.heap.objs.size=some q:=let ⟨q,_,_,hq,_⟩:=dd';⟨q,hq⟩;exact a5A I2 (by rw [e];exact x4y) hs he (a8n hz hd (rk.merge .nil) dd')
structure M1 (X:Cx)(o:Expr)(m:Str)(apos:Pos)(e:Expr)(cpos:Pos):Prop where
 base:x2E o m X.env (eval o X.env)=eval o X.env
 few:((backTo cpos (x0Y [e] X.env)).all (fun x=>!x.1) && (x4b cpos (x2l [] X.env)).all (fun x=>x.1.isSome)
   && decide (([e]:List Expr).length + ([]:List x3h).length + (if([]:List x3h).isEmpty then 0 else 1) < 30))=true
 line:(apos.endLine == cpos.line)=true
 trees:backTo cpos (x0Y [e] X.env)=[(false,eval e X.env)]
structure M2 (X:Cx)(o:Expr)(m:Str)(apos:Pos)(e f:Expr)(cpos:Pos):Prop where
 base:x2E o m X.env (eval o X.env)=eval o X.env
 few:((backTo cpos (x0Y [e,f] X.env)).all (fun x=>!x.1) && (x4b cpos (x2l [] X.env)).all (fun x=>x.1.isSome)
   && decide (([e,f]:List Expr).length + ([]:List x3h).length + (if([]:List x3h).isEmpty then 0 else 1) < 30))=true
 line:(apos.endLine == cpos.line)=true
 trees:backTo cpos (x0Y [e,f] X.env)=[(false,eval e X.env),(false,eval f X.env)]
noncomputable def IsD (H:Hp)(a:Addr):Prop:=(∃kvs,Rd H a (.dK kvs))\/∃kvs,Rd H a (.dT kvs)
theorem b4o {X:Cx}{pins:List (Addr×Obj)}{σ:St}{H:Hp}{s:Shared}{a:Addr}(I:Inv X pins σ H s)(d:IsD H a) :
   s.TypeIs (.ref a) "dict"/\(∀b,x1r a=.ref b->∃ob,s.heap.get? b=some ob/\ob.dict=none)/\(a == x1g)=false:=by
 rcases d with⟨kvs,e⟩ | ⟨kvs,e⟩
 · obtain⟨_,hd,vs,_,dd⟩:=a9n I.hok e;refine⟨dd.typeIs,fun b q=>?_,hd⟩;cases q;obtain⟨ob,_,_,h1,h2,_⟩:=dd;exact⟨ob,h1,h2.2.1⟩
 · obtain⟨_,hd,xs,_,dd⟩:=a9l I.hok e;refine⟨dd.typeIs,fun b q=>?_,hd⟩;cases q;obtain⟨ob,_,_,h1,h2,_⟩:=dd;exact⟨ob,h1,h2.2.1⟩
section
variable {X:Cx}{pins:List (Addr×Obj)}{σ:St}{H:Hp}{s:Shared}{a:Addr}{y d:V}{u r:Value}{o:Option V}{A:Around}{E:Value->Shared->Prop}
theorem d_get1 {Q:Value->Shared->Prop}(hu:A.units + 1 < cLine)(I:Inv X pins σ H s)(g:DGet H a y o)(ry:RelV y u)(h:∀w' s',Inv X pins σ H s'->RelV (o.getD .non) w'->Q w' s') :
   wpAny (model X.prog X.w) A (call (.builtin "dict.get") [.ref a,u]) Q E s:=by
 rcases g with⟨kvs,k,e,ey,l⟩ | ⟨kvs,k,b,e,ey,eb,l⟩
 · subst ey;obtain⟨z,hd,vs,rel,dd⟩:=a9n I.hok e;refine call_meetsIn x1Q dd.typeIs x2M (PySem.F.args_dict_get_2 _ _) (meets_dict_get (a0p X.prog X.w) a (a6p ry) hd) ⟨_,dd.mapOf,h _ _ (I.tok _) ?_⟩;rw [l];exact(rel.val k).getD rfl
 · subst ey;cases(show u=x1r b from ry);obtain⟨z,hd,xs,rel,dd⟩:=a9l I.hok e;refine call_meetsIn x1Q dd.typeIs x2M (PySem.F.args_dict_get_2 _ _) (meetsH_dict_get (x4A (a0p X.prog X.w)) a b hd) ⟨x3E hu,k,xs,a6j I.hok eb,dd,h _ _ (I.tok _) ?_⟩;rw [l];exact(rel.val k).getD rfl
theorem d_get2 {Q:Value->Shared->Prop}(hu:A.units + 1 < cLine)(I:Inv X pins σ H s)(g:DGet H a y o)(ry:RelV y u)(rd:RelV d r)(h:∀w' s',Inv X pins σ H s'->RelV (o.getD d) w'->Q w' s') :
   wpAny (model X.prog X.w) A (call (.builtin "dict.get") [.ref a,u,r]) Q E s:=by
 rcases g with⟨kvs,k,e,ey,l⟩ | ⟨kvs,k,b,e,ey,eb,l⟩
 · subst ey;obtain⟨z,hd,vs,rel,dd⟩:=a9n I.hok e;refine call_meetsIn x1Q dd.typeIs x2M (PySem.F.args_dict_get_3 _ _ _) (meets_dict_get_default (a0p X.prog X.w) a (a6p ry) hd r) ⟨_,dd.mapOf,h _ _ (I.tok _) ?_⟩;rw [l];exact(rel.val k).getD rd
 · subst ey;cases(show u=x1r b from ry);obtain⟨z,hd,xs,rel,dd⟩:=a9l I.hok e;refine call_meetsIn x1Q dd.typeIs x2M (PySem.F.args_dict_get_3 _ _ _) (meetsH_dict_get_default (x4A (a0p X.prog X.w)) a b hd r) ⟨x3E hu,k,xs,a6j I.hok eb,dd,h _ _ (I.tok _) ?_⟩;rw [l];exact(rel.val k).getD rd
end
noncomputable def b3N (td ty:TE):TE:=fun σ H Q=>td σ H fun x H1=>∃a,x=.ref a/\IsD H1 a/\ty σ H1 fun y H2=>∃o,DGet H2 a y o/\Q (o.getD .non) H2
noncomputable def b3M (td ty tx:TE):TE:=fun σ H Q=>td σ H fun x H1=>∃a,x=.ref a/\IsD H1 a/\ty σ H1 fun y H2=>tx σ H2 fun z H3=>∃o,DGet H3 a y o/\Q (o.getD z) H3
section
variable {X:Cx}{o e f:Expr}{apos cpos:Pos}{td ty tx:TE}
theorem b2T (hu:X.A.units + 1 < cLine)(ho:PE X o td)(he:PE X e ty)(m:M1 X o "get" apos e cpos):PE X (.Call (.Attribute o "get" apos) [e] [] cpos) (b3N td ty):=by
 intro pins s σ H Q I h;refine wpAny_Call_method m.base m.few m.line PySem.F.plainAttrs_dict x1Q PySem.F.type_dict_get (thn (ho pins s σ H _ I h) fun u s1 ⟨x,H1,I1,rx,a,ex,d,q1⟩=>?_);subst ex;obtain rfl:u=x1r a:=rx;obtain⟨t1,t2,_⟩:=b4o I1 d;refine⟨t1,t2,?_⟩;rw [m.trees];refine x3O rfl (x4r (x2N (thn (he pins s1 σ H1 _ I1 q1) fun iv s2 ⟨y,H2,I2,ry,ov,g,q2⟩=>x3S ?_)));exact d_get1 hu I2 g ry fun w' s3 I3 rw'=>⟨_,H2,I3,rw',q2⟩
theorem b2S (hu:X.A.units + 1 < cLine)(ho:PE X o td)(he:PE X e ty)(hf:PE X f tx)(m:M2 X o "get" apos e f cpos):PE X (.Call (.Attribute o "get" apos) [e,f] [] cpos) (b3M td ty tx):=by
 intro pins s σ H Q I h;refine wpAny_Call_method m.base m.few m.line PySem.F.plainAttrs_dict x1Q PySem.F.type_dict_get (thn (ho pins s σ H _ I h) fun u s1 ⟨x,H1,I1,rx,a,ex,d,q1⟩=>?_);subst ex;obtain rfl:u=x1r a:=rx;obtain⟨t1,t2,_⟩:=b4o I1 d;refine⟨t1,t2,?_⟩;rw [m.trees]
 refine x3O rfl (x4r (x2N (thn (he pins s1 σ H1 _ I1 q1) fun iv s2 ⟨y,H2,I2,ry,q2⟩=>
   x2N (thn (hf pins s2 σ H2 _ I2 q2) fun fv s3 ⟨z,H3,I3,rz,ov,g,q3⟩=>x3S ?_))))
 exact d_get2 hu I3 g ry rz fun w' s4 I4 rw'=>⟨_,H3,I4,rw',q3⟩
end
end L2
end
section
namespace L2
open PySem PySem.Spec PyProof.Rows
noncomputable def keyD:Key->PyData
 | .inl i=>.int i
 | .inr x=>.str x
mutual
noncomputable def RdD (H:Hp):PyData->V->Prop
 | .none,v=>v=.non
 | .bool b,v=>v=.bl b
 | .int i,v=>v=.int i
 | .str x,v=>v=.str x
 | .list xs,v=>∃a vs,v=.ref a/\H a=some (.lst vs)/\RdDs H xs vs
 | .tuple xs,v=>∃a vs,v=.ref a/\H a=some (.tup vs)/\RdDs H xs vs
 | .dict kvs,v=>∃a ws,v=.ref a/\H a=some (.dK ws)/\RdKv H kvs ws
noncomputable def RdDs (H:Hp):List PyData->List V->Prop
 | [],vs=>vs=[]
 | d::ds,vs=>∃v r,vs=v::r/\RdD H d v/\RdDs H ds r
noncomputable def RdKv (H:Hp):List (PyData×PyData)->List (Key×V)->Prop
 | [],ws=>ws=[]
 | (k,d)::r,ws=>∃q w ws',ws=(q,w)::ws'/\k=keyD q/\RdD H d w/\RdKv H r ws'
end
section
variable {P:x0D}{w:World}{H:Hp}{h:Heap}
mutual
theorem a5g (hok:HOk P w H h)(sy:NS H):∀(d:PyData) (v:V) (u:Value),RdD H d v->RelV v u->∃as,Reads h u d as/\x1g∉as
 | .none, v, u, r, e => by
   obtain rfl:v=.non:=r;obtain rfl:u=.none:=e;exact⟨[],.none,nofun⟩
 | .bool b, v, u, r, e => by
   obtain rfl:v=.bl b:=r;obtain rfl:u=.bool b:=e;exact⟨[],.bool b,nofun⟩
 | .int i, v, u, r, e => by
   obtain rfl:v=.int i:=r;obtain⟨t,rfl⟩:=e;exact⟨[],.int i t,nofun⟩
 | .str x, v, u, r, e => by
   obtain rfl:v=.str x:=r;obtain⟨t,rfl⟩:=e;exact⟨[],.str x t,nofun⟩
 | .list xs, v, u, r, e => by
   obtain⟨a,vs,rfl,ha,rs⟩:=r;obtain rfl:u=.ref a:=e;obtain⟨_,its,n,rv,ho⟩:=hok a _ ha;obtain⟨as,rr,ns⟩:=a3W hok sy xs vs its rs rv;refine⟨a::as,.list ho rfl rfl rr,fun z=>?_⟩;rcases x0i.mp z with z | z
   · rw [<- z] at ha;rcases sy with sy | ⟨o,u,sy⟩ <;> rw [sy] at ha <;> cases ha
   · exact ns z
 | .tuple xs, v, u, r, e => by
   obtain⟨a,vs,rfl,ha,rs⟩:=r;obtain rfl:u=.ref a:=e;obtain⟨_,its,rv,ho⟩:=hok a _ ha;obtain⟨as,rr,ns⟩:=a3W hok sy xs vs its rs rv;obtain⟨o,e1,e2,n,e3⟩:=ho;exact⟨as,.tuple e1 (x4z e2).1 e3 rr,ns⟩
 | .dict kvs, v, u, r, e => by
   obtain⟨a,ws,rfl,ha,rs⟩:=r;obtain rfl:u=.ref a:=e;obtain⟨_,hs,us,rv,o,es,ep,e1,e2,e3,_,e5,_⟩:=hok a _ ha;obtain⟨as,bs,r1,r2,n1,n2⟩:=a5P hok sy kvs ws us es.toList rs rv e5;refine⟨a::as++bs,.dict e1 e2.1 e3 r1 r2,fun z=>?_⟩;rcases x0y.mp z with z | z
   · rcases x0i.mp z with z | z
     · rw [<- z] at hs;exact absurd hs (by decide)
     · exact n1 z
   · exact n2 z
theorem a3W (hok:HOk P w H h)(sy:NS H):∀(ds:List PyData) (vs:List V) (us:List Value),RdDs H ds vs->Vals vs us->∃as,ReadsAll h us ds as/\x1g∉as
 | [], vs, us, r, e => by
   obtain rfl:vs=[]:=r;cases e;exact⟨[],.nil,nofun⟩
 | d :: ds, vs, us, r, e => by
   obtain⟨v,r',rfl,r1,r2⟩:=r;cases e with
   | cons e1 e2 =>
     obtain⟨as,a1,a2⟩:=a5g hok sy d v _ r1 e1;obtain⟨bs,b1,b2⟩:=a3W hok sy ds r' _ r2 e2;exact⟨as++bs,.cons a1 b1,fun z=>(x0y.mp z).elim a2 b2⟩
theorem a5P (hok:HOk P w H h)(sy:NS H):∀(kvs:List (PyData×PyData)) (ws:List (Key×V)) (us:List (Key×Value)) (es:List DictEntry),RdKv H kvs ws->KV ws us->Pairs (a0p P w) es us->
   ∃as bs,ReadsAll h (es.map (·.key)) (kvs.map (·.1)) as/\ReadsAll h (es.map (·.val)) (kvs.map (·.2)) bs/\x1g∉as/\x1g∉bs
 | [], ws, us, es, r, e, p => by
   obtain rfl:ws=[]:=r;cases e;cases p;exact⟨[],[],.nil,.nil,nofun,nofun⟩
 | (k, d) :: kvs, ws, us, es, r, e, p => by
   obtain⟨q,w1,ws',rfl,rfl,r1,r2⟩:=r;cases e with
   | cons e1 e2 =>
     cases p with
     | cons p1 p2 p3 =>
       obtain⟨as,bs,a1,a2,a3,a4⟩:=a5P hok sy kvs ws' _ _ r2 e2 p3;obtain⟨e1,e1'⟩:=e1;dsimp only at e1 e1';obtain⟨cs,c1,c2⟩:=a5g hok sy d w1 _ r1 e1';rw [<- e1] at p1;refine⟨[]++as,cs++bs,.cons ?_ a1,.cons (by dsimp only;rw [p2];exact c1) a2,a3,fun z=>(x0y.mp z).elim c2 a4⟩;rcases a0E p1 with⟨i,t,rfl,e⟩ | ⟨x,t,rfl,e⟩
       · dsimp only;rw [e];exact .int i t
       · dsimp only;rw [e];exact .str x t
end
end
section
variable {X:Cx}{pins:List (Addr×Obj)}{σ:St}{H:Hp}{s:Shared}
theorem b1J {k:Nat}(hr:Room k X.A):a1W X (.builtin "repr") (fun vs H Q=>∃v d,vs=[v]/\RdD H d v/\d.showable=true/\d.depth<=40/\d.shown.length<=x0w/\Q (.str d.shown) H):=by
 intro pins s σ H vs us Q I rv h;obtain⟨v,d,rfl,r,h1,h2,h3,q⟩:=h;obtain⟨u,rfl,ru⟩:=rv.one;obtain⟨as,rr,ns⟩:=a5g I.hok I.nos d v u r ru;have fin:∀(h':Heap) (t:Tok) (tk:Tok),(∀b o,s.heap.get? b=some o->h'.get? b=some o)->∃v' H',Inv X pins σ H' { s with heap:=h',toks:=tk }/\RelV v' (.str d.shown t)/\Q v' H':=fun h' t tk kp=>⟨.str d.shown,H,I.kept kp,⟨t,rfl⟩,q⟩;cases rr with
 | none=>exact P.repr_of_none (fin s.heap _ _ fun _ _ z=>z)
 | bool b=>exact P.repr_of_bool (by cases b <;> exact fin s.heap _ _ fun _ _ z=>z)
 | int i t=>exact P.repr_of_int (by simpa [x1K] using h1) (fin s.heap _ _ fun _ _ z=>z)
 | str x t=>exact P.repr_of_str (fin s.heap _ _ fun _ _ z=>z) h3
 | list e1 e2 e3 e4=>exact repr_of_reads' (.list e1 e2 e3 e4) h1 (fun _=>ns) hr.gd (by have:=hr.units;omega) (fun _ _ z=>z) (fun h' u tk kp=>fin h' u tk kp) h3
 | tuple e1 e2 e3 e4=>exact repr_of_reads' (.tuple e1 e2 e3 e4) h1 (fun _=>ns) hr.gd (by have:=hr.units;omega) (fun _ _ z=>z) (fun h' u tk kp=>fin h' u tk kp) h3
 | dict e1 e2 e3 e4 e5=>exact repr_of_reads' (.dict e1 e2 e3 e4 e5) h1 (fun _=>ns) hr.gd (by have:=hr.units;omega) (fun _ _ z=>z) (fun h' u tk kp=>fin h' u tk kp) h3
end
end L2
namespace Pu
open PySem PySem.Spec L2
mutual
/-- what a thing holds, for repr -/
noncomputable def dat:PV->Option PyData
 | .non=>some .none
 | .bl b=>some (.bool b)
 | .int i=>some (.int i)
 | .str x=>some (.str x)
 | .tup xs=>match dats xs with | some ds=>some (.tuple ds) | none=>none
 | .lst xs=>match dats xs with | some ds=>some (.list ds) | none=>none
 | .dct ks xs=>match dats xs with | some ds=>some (.dict ((ks.map keyD).zip ds)) | none=>none
 | _=>none
noncomputable def dats:List PV->Option (List PyData)
 | []=>some []
 | x::xs=>match dat x,dats xs with | some d,some ds=>some (d::ds) | _,_=>none
end
theorem kv_rd {H:Hp}:∀(kvs:List (Key×V)) (ds:List PyData),RdDs H ds (kvs.map (·.2))->RdKv H (((kvs.map (·.1)).map keyD).zip ds) kvs
 | [], ds, r => by
   cases ds with
   | nil=>exact rfl
   | cons d ds=>obtain⟨v,r',e,_⟩:=r;cases e
 | (q, w) :: kvs, ds, r => by
   cases ds with
   | nil=>exact(List.cons_ne_nil _ _ r).elim
   | cons d ds =>
     obtain⟨v,r',e,r1,r2⟩:=r;cases e;exact⟨q,w,kvs,rfl,rfl,r1,kv_rd kvs ds r2⟩
section
variable {K:x0a}{G:Gh}{H:Hp}
mutual
theorem b3S:∀(x:PV) (v:V) (d:PyData),Rep K G H x v->dat x=some d->RdD H d v
 | .non,v,d,r,e=>by cases e;exact r
 | .bl b,v,d,r,e=>by cases e;exact r
 | .int i,v,d,r,e=>by cases e;exact r
 | .str x,v,d,r,e=>by cases e;exact r
 | .tup xs, v, d, r, e => by
   obtain⟨a,vs,rfl,t,rs⟩:=r;rw [dat] at e;cases ed:dats xs with
   | none=>rw [ed] at e;cases e
   | some ds=>rw [ed] at e;cases e;exact⟨a,vs,rfl,t.2,a3T xs vs ds rs ed⟩
 | .lst xs, v, d, r, e => by
   obtain⟨a,vs,rfl,t,rs⟩:=r;rw [dat] at e;cases ed:dats xs with
   | none=>rw [ed] at e;cases e
   | some ds=>rw [ed] at e;cases e;exact⟨a,vs,rfl,t.2,a3T xs vs ds rs ed⟩
 | .ty _,v,d,r,e=>by cases e
 | .pot _,v,d,r,e=>by cases e
 | .scr _,v,d,r,e=>by cases e
 | .fdt _ _,v,d,r,e=>by cases e
 | .dct ks xs, v, d, r, e => by
   obtain⟨a,kvs,rfl,_,ha,hk,rs⟩:=r;rw [dat] at e;cases ed:dats xs with
   | none=>rw [ed] at e;cases e
   | some ds=>rw [ed] at e;cases e;exact⟨a,kvs,rfl,ha,hk▸kv_rd kvs ds (a3T xs _ ds rs ed)⟩
theorem a3T:∀(xs:List PV) (vs:List V) (ds:List PyData),Reps K G H xs vs->dats xs=some ds->RdDs H ds vs
 | [],vs,ds,r,e=>by cases e;exact r
 | x :: xs, vs, ds, r, e => by
   obtain⟨v,r',rfl,r1,r2⟩:=r;rw [dats] at e;cases e1:dat x with
   | none=>rw [e1] at e;cases e
   | some d =>
     cases e2:dats xs with
     | none=>rw [e1,e2] at e;cases e
     | some ds'=>rw [e1,e2] at e;cases e;exact⟨v,r',rfl,b3S x v d r1 e1,a3T xs r' ds' r2 e2⟩
end
end
noncomputable def a4C:w1:=fun x R=>match dat x with | some d=>d.showable=true/\d.depth<=40/\d.shown.length<=x0w/\R (.str d.shown) | none=>False
theorem bt_repr:x1s "repr"=some (.builtin "repr"):=by decide +kernel
section
variable {T:PotK}{ι:Type}{K:x0a}{F:ι->Cx}{e:Expr}{pe:pE}{pos:Pos}
theorem a3e {p:Pos}{k:Nat}(hr:∀z,Room k (F z).A)(hg:∀z,Gl (F z) "repr")(hm:∀z,(F z).mg "repr"=none)(ha:QR T K F e pe)(hs:a0u e=true:=by rfl):QE T K F (.Call (.Name "repr" p) [e] [] pos) (qUn a4C pe):=b4b (fun z=>b1J (hr z)) (fun G H x v R Q hf rx hw k=>by
 unfold a4C at hw;cases ed:dat x with
 | none=>rw [ed] at hw;exact hw.elim
 | some d =>
   rw [ed] at hw;obtain⟨h1,h2,h3,q⟩:=hw;refine⟨v,d,rfl,?_,h1,h2,h3,k _ _ _ q (Same.refl _) rfl⟩;rcases rx with rx | ⟨a,vs,xs,rfl,rfl,hv,rs⟩
   · exact b3S x v d rx ed
   · rw [dat] at ed;cases es:dats xs with
     | none=>rw [es] at ed;cases ed
     | some ds=>rw [es] at ed;cases ed;exact⟨a,vs,rfl,hv,a3T xs vs ds rs es⟩) hg hm bt_repr ha hs
end
end Pu
end
section
namespace HT
open PySem PySem.Spec PyProof.Rows
section
variable {prog:x0D}{w:World}{A:Around}{E:Value->Shared->Prop}{s:Shared}
theorem a9w (n:Nat):x1N none none (-1) (n:Int)=((n:Int) - 1,-1):=rfl
theorem a8N (n:Nat):x1h ((n:Int) - 1) (-1) (-1)=n:=by
 unfold x1h;rw [if_neg (by decide)];have h1:(- -1:Int)=1:=by decide
 rw [h1]
 by_cases h:(n:Int) - 1 > -1
 · rw [if_pos h,Int.ediv_one];omega
 · rw [if_neg h];omega
theorem a3G {sl:Addr}{vk:Value}{n:Nat}{Q:Int×Int×Nat->Shared->Prop}(hs:s.heap.IsSliceOf sl .none .none vk)(pk:IsPart vk (some (-1)))
   (h:Q ((n:Int) - 1,-1,n) s):wpAny (model prog w) A (x2a (.ref sl) (pure (n:Int))) Q E s:=by
 obtain⟨os,hos,hcs,hds⟩:=id hs;unfold x2a x4P;refine x0b (x0b (x1l hos hds (x:=.none) rfl (x0b (x1l hos hds (x:=.none) rfl (x0b (x1l hos hds (x:=vk) rfl (x0h ?_)))))));refine x0b (a1E pk ?_);show wpAny _ _ (if((-1:Int) == 0)=true then _ else _) _ _ s;rw [if_neg (by decide)];refine x0b (a1E .none (x0b (a1E .none (x0b (x0h ?_)))));show wpAny _ _ (match x1N none none (-1) (n:Int) with | (lo,hi)=>pure (lo,(-1:Int),x1h lo hi (-1))) _ _ s;rw [a9w];show wpAny _ _ (pure ((n:Int) - 1,(-1:Int),x1h ((n:Int) - 1) (-1) (-1))) _ _ s;rw [a8N];exact x0h h
theorem b3v {α β:Type}{f g:α->Option β}:∀l:List α,(∀m∈l,f m=g m)->l.filterMap f=l.filterMap g:=by
 intro xq
 induction xq with
 | nil =>
   intro _;exact rfl
 | cons x l ih =>
   intro h;rw [x2D,x2D,h x x0e,ih fun m hm=>h m (x0d _ hm)]
theorem b2N (xs:Array Value):((x0N xs.size).filterMap fun(m:Nat)=>xs[((xs.size:Int) - 1 + (m:Int) * -1).toNat]?).toArray=xs.toList.reverse.toArray:=by
 congr 1
 have e:(x0N xs.size).filterMap (fun(m:Nat)=>xs[((xs.size:Int) - 1 + (m:Int) * -1).toNat]?)=((x0N xs.size).map fun k=>xs.size - 1 - k).filterMap (xs[·]?):=by
   rw [List.filterMap_map];refine b3v _ fun m hm=>?_;have:=x2k.mp hm;show _=xs[xs.size - 1 - m]?
   congr 1
   omega
 rw [e,PySem.W.krv_range,List.filterMap_reverse,PySem.W.krv_all]
theorem getItem_tuple_rev {t sl:Addr}{items:Array Value}{vk:Value}{Q:Value->Shared->Prop}(ht:IsTup s.heap t items)(hs:s.heap.IsSliceOf sl .none .none vk)(pk:IsPart vk (some (-1)))
   (h:Q (.ref s.heap.objs.size) { s with heap:=s.heap.push { cls:=.type "tuple",data:=.seq items.toList.reverse.toArray } })
   (hsz:items.size<=x0w):wpAny (model prog w) A (x4B (.ref t) (.ref sl)) Q E s:=by
 have htake:sizeOk (.seq items.toList.reverse.toArray):=by
   show items.toList.reverse.toArray.size<=x0w;rw [x0p,x3q,x1e];omega
 obtain⟨os,hos,hcs,hds⟩:=id hs;have hTs:s.TypeIs (.ref sl) "slice":=⟨os,hos,hcs⟩;unfold x4B
 try with_reducible refine x0W ?_
 first | refine x0b (x0h ?_) | skip
 refine x0b (wpAny_sequenceKey ht.typeIs (by decide) ?_)
 refine x0b (x1A (name:=x0g "__getitem__") ht.typeIs x1m
   (x1C x1m ht.typeIs entry_tuple_getitem ?_ (args_tuple_getitem _ _)))
 show wpAny _ _ (x3f (.ref t)>>=_) _ _ s;refine x0b (tupleItemsOf_ ht ?_);refine x0b (x4h hTs ?_);rw [if_pos (by decide)];refine x0b (a3G hs pk ?_)
 have hno:¬((((items.size:Int) - 1) == 0 && (-1:Int) == 1 && items.size == items.size)=true):=by
   intro q;rw [x2I,x2I] at q;exact absurd (eq_of_beq q.1.2) (by decide)
 show wpAny _ _ (if(((items.size:Int) - 1) == 0 && (-1:Int) == 1 && items.size == items.size)=true then _ else _) _ _ s;rw [if_neg hno,b2N]
 first
   | exact x0b (m:=x1n _) (x0T (x0h ⟨_,rfl,x0h h⟩) htake)
   | exact x0b (m:=x1n _) (x0T (x0b (x0h (x0h ⟨_,rfl,x0h h⟩))) htake)
   | exact x0b (x0b (m:=x1n _) (x0T (x0h (x0h ⟨_,rfl,x0h h⟩)) htake))
   | exact x0b (x0b (m:=x1n _) (x0T (x0h ⟨_,rfl,x0h h⟩) htake))
end
end HT
namespace L2
open PySem PySem.Spec PyProof.Rows
section
variable {X:Cx}{e st:Expr}{te:TE}{ts:TE}{pos p2:Pos}
noncomputable def rRev (K:x0a):V->Hp->VK->Prop:=fun x H Q=>∃a xs,x=.ref a/\((SqL K H a xs/\∀p,H p=none->Q (.ref p) (upd H p (.lst xs.reverse)))\/(SqT K H a xs/\∀p,H p=none->Q (.ref p) (upd H p (.tup xs.reverse))))
noncomputable def tRev (K:x0a)(te ts:TE):TE:=fun σ H Q=>te σ H fun x H1=>ts σ H1 fun y H2=>y=.int (-1)/\rRev K x H2 Q
theorem Vals.rev {xs:List V}{us:List Value}(r:Vals xs us):Vals xs.reverse us.reverse:=by
 induction r with
 | nil=>exact .nil
 | cons r1 _ ih =>
   rw [x3b,x3b];exact ih.append (.cons r1 .nil)
theorem pe_rev (he:PE X e te)(hs:PE X st ts):PE X (.Subscript e (.Slice none none (some st) p2) pos) (tRev X.K te ts):=by
 intro pins s σ H Q I h;refine Subscript_ (thn (he pins s σ H _ I h) fun v s1 ⟨x,H1,I1,r1,q1⟩=>?_);refine wpAny_Slice ?_;rw [evalPart_none];refine x0h (x0h ?_);rw [evalPart_some];refine thn (hs pins s1 σ H1 _ I1 q1) fun vk s3 ⟨y,H3,I3,ry,q3⟩=>?_;obtain⟨rfl,a,xs,rfl,q⟩:=q3;obtain⟨t,rfl⟩:=ry;obtain rfl:v=.ref a:=r1;have I4:Inv X pins σ H3 { s3 with heap:=s3.heap.push { cls:=.type "slice",data:=.fields #[.none,.none,.int (-1) t] } }:=I3.kept (t':=s3.toks) fun b ob q=>x0c _ q;show wpAny (model X.prog X.w) X.A (subscriptTail e (.Slice none none (some st) p2) (.ref a) (.ref s3.heap.objs.size)) (EP X pins σ Q) X.xe { s3 with heap:=s3.heap.push { cls:=.type "slice",data:=.fields #[.none,.none,.int (-1) t] } };rcases q with⟨hq,q⟩ | ⟨hq,q⟩
 · obtain⟨its,r,ht,hz⟩:=I4.list hq;refine tail_any (ops:=[.ref a,.ref s3.heap.objs.size]) ht.isList.typeIs slot_list_getitem.lookup ?_ (by with_unfolding_all rfl);refine wpAny_getItem_list_slice ht.isList (x4K ..) .none .none (.int (-1) t) (by decide) ?_ (by rw [x0p];have:=r.length;omega);rw [PySem.W.krv_pick];refine⟨.ref _,_,I4.laid (t':=s3.toks) (o:=.lst xs.reverse) (fun b ob q=>x0c _ q) (x0j _) ?_,rfl,q _ (I4.hok.fresh (x0j _))⟩;exact⟨by rw [x3q];exact hz,its.reverse,0,r.rev,x0s _ rfl⟩
 · obtain⟨its,r,ht,hz⟩:=I4.tuple hq;refine tail_any (ops:=[.ref a,.ref s3.heap.objs.size]) ht.typeIs PyProof.Rows.slot_tuple_getitem.lookup ?_ (by with_unfolding_all rfl);refine HT.getItem_tuple_rev ht (x4K ..) (.int (-1) t) ?_ (by rw [x0p];have:=r.length;omega);refine⟨.ref _,_,I4.laid (t':=s3.toks) (o:=.tup xs.reverse) (fun b ob q=>x0c _ q) (x0j _) ?_,rfl,q _ (I4.hok.fresh (x0j _))⟩;exact⟨by rw [x3q];exact hz,its.reverse,r.rev,a2j.new _ _⟩
end
end L2
namespace Pu
open PySem PySem.Spec L2
section
variable {T:PotK}{ι:Type}{K:x0a}{F:ι->Cx}{e:Expr}{pe:pE}{pos p2 p3 p4:Pos}
theorem Reps.rev {K:x0a}{G:Gh}{H:Hp}:∀{xs:List PV} {vs:List V},Reps K G H xs vs->Reps K G H xs.reverse vs.reverse
 | [],vs,r=>by obtain rfl:vs=[]:=r;exact rfl
 | x :: xs, vs, r => by
   obtain⟨v,r',rfl,r1,r2⟩:=r;rw [x3b,x3b];exact(Reps.rev r2).append ⟨v,[],rfl,r1,rfl⟩
noncomputable def wRev:w1:=fun x R=>match x with | .lst xs=>R (.lst xs.reverse) | .tup xs=>R (.tup xs.reverse) | _=>False
theorem qe_rev {i:Nat}(he:QR T K F e pe)(hK:∀z,(F z).K=K:=by intro _;rfl):QE T K F (.Subscript e (.Slice none none (some (.UnaryOp .USub (.Constant (.int 1) i p3) p4)) p2) pos) (qUn wRev pe):=by
 obtain⟨t,h1,h2⟩:=he;refine⟨_,fun z=>hK z▸pe_rev (h1 z) (pe_un b3K a0Q),fun C G σ H env n R Q hK hT S hp k=>?_⟩;refine h2 C G σ H env n _ _ hK hT S hp fun x env1 n1 v H1 p1 S1 r1 f1=>?_;subst hK;have rx:=r1.rd S1;refine⟨1,rfl,rfl,?_⟩;unfold wRev at p1
 split at p1
 · obtain⟨a,vs,ev,hq,r⟩:=rx.lst;exact⟨a,vs,ev,.inl ⟨hq,fun p hn=>k _ _ _ _ _ p1 (S1.same (Same.lay1 hn)) (a3V (S1.fresh hn) hn r.rev) (f1.trans (Fr.of (Same.lay1 hn)))⟩⟩
 · obtain⟨a,vs,ev,hq,r⟩:=rx.tup;exact⟨a,vs,ev,.inr ⟨hq,fun p hn=>k _ _ _ _ _ p1 (S1.same (Same.lay1 hn)) (a3c (S1.fresh hn) hn r.rev) (f1.trans (Fr.of (Same.lay1 hn)))⟩⟩
 · exact p1.elim
end
end Pu
end
section
namespace L2
open PySem PySem.Spec PyProof.Rows
noncomputable def Itd (a:Int)(n:Nat):It:=⟨fun i _=>i < n,fun i H x H'=>H'=H/\x=.int (a - i),fun i _=>n<=i⟩
theorem a9E {P:x0D}{w:World}{K:x0a}{tg:Expr}(it:Addr)(lo:Int)(n:Nat):Turn P w K tg (Itd lo n) [it] it (fun i h=>IsRangeIter h it (lo + (i:Nat) * -1) ((n:Int) - (i:Nat)) (-1)) where
 mem:=by simp
 obj:=fun i h st b hb=>by
   have e:b=it:=by simpa using hb
   subst e
   exact⟨_,st,fun v z=>by
     have z':Data.fields _=Data.cell v:=z
     cases z'⟩
 keep:=fun i h h' st k=>k it (by simp) _ st
 item:=by
   intro X hP hw hK hc i pins s σ H E I hf st hg;subst hP hw hK;obtain⟨f0,f1,f2,f3,f4,f5⟩:=hf it (by simp);have W:=Walks.range (prog:=X.prog) (w:=X.w) (I.ok.hd hc) it lo (-1) n;refine W.item i s _ _ hg st fun v h' tk hv st' kk=>?_;obtain⟨t,rfl⟩:=hv;have I1:Inv X pins σ H { s with heap:=h',toks:=tk }:=I.turned (fun b o hb e=>kk b o (by simpa using hb) e) f0 f1 f3 f4 f5;refine⟨_,rfl,b3u (s:={ s with heap:=h',toks:=tk }) (n:="range_iterator") st' rfl rfl (by decide) ⟨.int (lo - i),H,I1,⟨t,?_⟩,⟨rfl,rfl⟩,st',fun b hb=>(hf b hb).1⟩⟩;have e:lo + (i:Int) * -1=lo - i:=by omega
   rw [e]
 done:=by
   intro X hP hw hK hc i pins s σ H E I hf st hg;subst hP hw hK;obtain⟨f0,f1,f2,f3,f4,f5⟩:=hf it (by simp);exact wpAny_pyNext_range_end (I.ok.hd hc) st (by have:n<=i:=hg;omega) fun h' eb=>⟨rfl,I.turned (t':=s.toks) (fun b o hb e=>eb b o hb e) f0 f1 f3 f4 f5⟩
 self:=fun _ _ _ _ _ st h=>x3M st h
end L2
namespace Pu
open PySem PySem.Spec L2
section
variable {T:PotK}{ι:Type}{K:x0a}{F:ι->Cx}{tg a b c:Expr}{pa pb pc:pE}{pos:Pos}
theorem b3q {K:x0a}{G:Gh}{H:Hp}(lo:Int)(m:Nat):ItR K G H (Itd lo m) ((x0N m).map fun(k:Nat)=>PV.int (lo - k)):=by
 intro G2 H2 hk hM hp hf;refine⟨fun i x e=>?_,fun i hi=>(show m<=i by simpa using hi)⟩;rw [x0v] at e;cases e1:(x0N m)[i]? with
 | none=>rw [e1] at e;cases e
 | some j =>
   rw [e1] at e;cases e;obtain⟨hi,e2⟩:=x0l.mp e1;rw [x3D] at e2;subst e2;refine⟨(show i < m by simpa using hi),fun v H3 y=>?_⟩;obtain⟨e3,y⟩:=y;subst e3 y;exact⟨Same.refl _,rfl⟩
end
end Pu
end
section
namespace L2
open PySem PySem.Spec PyProof.Rows
theorem a3b:∀{ys:List Str} {us:List Value},Vals (ys.map V.str) us->StrsAre us ys
 | [],us,r=>by rw [x2x] at r;cases r;exact .nil
 | y :: ys, us, r => by
   rw [x0C] at r;cases r with
   | cons r1 r2 =>
     obtain⟨t,e⟩:=r1;subst e;exact .cons y t (a3b r2)
section
variable {X:Cx}
noncomputable def b3U (K:x0a):V->List V->Hp->VK->Prop:=fun x vs H Q=>∃(l:Addr) (k:Str) (ys:List Str),x=.ref l/\vs=[.str k]/\SqL K H l (ys.map V.str)/\Q (.int (countIn (.str k) (ys.map PyData.str))) H
theorem b3d:MtM X "list.count" (b3U X.K):=by
 intro pins s σ H x vs v us Q I rx rv h;obtain⟨l,k,ys,rfl,rfl,hq,q⟩:=h;cases rx;obtain⟨u,rfl,ru⟩:=rv.one;obtain⟨t,rfl⟩:=ru;obtain⟨its,r,p,hz⟩:=I.list hq;exact count_list_strs p.isList (a3b r) ⟨.int _,H,I.tok _,⟨_,rfl⟩,q⟩
end
end L2
namespace Pu
open PySem PySem.Spec PyProof.Rows L2
section
variable {T:PotK}{ι:Type}{K:x0a}{F:ι->Cx}{e c:Expr}{pe pc:pE}{pos:Pos}
noncomputable def a7I:w2:=fun x y R=>match x,y with | .lst xs,.str k=>(match a3a xs with | some ys=>R (.int (countIn (.str k) (ys.map PyData.str))) | none=>False) | _,_=>False
theorem b2y {ap:Pos}(he:QE T K F e pe)(hc:QE T K F c pc)(hs:a0u c=true:=by rfl)(hbase:∀z,x2E e "count" (F z).env (eval e (F z).env)=eval e (F z).env:=by intro _;rfl)(hline:(ap.endLine == pos.line)=true:=by rfl)
   (hfew:∀z,((backTo pos (x0Y [c] (F z).env)).all (fun x=>!x.1) && (x4b pos (x2l [] (F z).env)).all (fun x=>x.1.isSome) && decide (([c]:List Expr).length + ([]:List x3h).length + (if([]:List x3h).isEmpty then 0 else 1) < 30))=true:=by intro _;rfl) (hK:∀z,(F z).K=K:=by intro _;rfl):QE T K F (.Call (.Attribute e "count" ap) [c] [] pos) (fun env n R=>pe env n fun x env1 n1=>(∃xs,x=.lst xs)/\pc env1 n1 fun y env2 n2=>a7I x y fun z=>R z env2 n2):=by
 obtain⟨t,a1,a2⟩:=he;obtain⟨u,b1,b2⟩:=hc;refine⟨tBM K "list" (b3U K) t (a2M u tNil),fun z=>hK z▸b0p x2H PySem.F.slot_list_count PySem.F.type_list_count b3d (a1 z) (a0n (b1 z) a0C (a0d hs)) (hbase z) (hfew z) hline (a0d hs),fun C G σ H env n R Q hK hT S hp k=>?_⟩;refine a2 C G σ H env n _ _ hK hT S hp fun x env1 n1 v H1 q1 S1 r1 f1=>?_;obtain⟨⟨xs,rfl⟩,q1⟩:=q1;obtain⟨a,vs,rfl,ta,ra⟩:=r1;refine⟨.inl ⟨rfl,vs,SqL.of ta.2⟩,?_⟩;refine b2 C G σ H1 env1 n1 _ _ hK hT S1 q1 fun y env2 n2 w H2 q2 S2 r2 f2=>?_;unfold a7I at q2
 split at q2
 · rename_i xs' kk e1;cases e1
   split at q2
   · rename_i ys ey;obtain⟨a',vs',e3,ta',ra'⟩:=(show Rep K G H1 (.lst xs) (.ref a) from⟨a,vs,rfl,ta,ra⟩).fr f2;cases e3;exact⟨a,kk,ys,rfl,by rw [show w=.str kk from r2],a2K ey ra'▸SqL.of ta'.2,k _ _ _ _ _ q2 S2 rfl (f1.trans f2)⟩
   · exact q2.elim
 · exact q2.elim
end
end Pu
namespace Pu
noncomputable def b4c (pe pc:pE):pE:=fun env n R=>pe env n fun x env1 n1=>(∃xs,x=.lst xs)/\pc env1 n1 fun y env2 n2=>a7I x y fun z=>R z env2 n2
end Pu
end
section
namespace L2
open PySem PySem.Spec PyProof.Rows
theorem a8L {X:Cx}{scope:Scope}{cl:List (Str×Addr)}{N:List Str}{cs:List (Option Nat)}{elt tg iter:Expr}{ifs:List Expr}{pos spos py:Pos}{wi:TI}{g:TG}{tt:TT}{te:TE}{i:Nat}{y:Str}(hN:X.N.Nodup)(hiy:X.N[i]?=some y)(hy:Loc X.env.scope y)(S:a0L X scope cl N cs)(hc:X.calm=true)(hi:PI X tg iter wi)
   (hb:∀(fp:List Addr) (C:Addr) (s:Shared) (H:Hp),PG (a0o X scope cl N fp C s H) tg g/\PIf (a0o X scope cl N fp C s H) ifs tt/\PE (a0o X scope cl N fp C s H) elt te)
   (hsw:x4e (.ListComp elt [⟨tg,iter,ifs,0⟩] scope pos) (some (.Name y py)) spos.line X.env=pure true:=by rfl)
   (hs:∀x,x0U iter X.env x=pure x:=by intro _;rfl) (hff:X.fn y=true\/X.env.scope.names.lookup y=some .local:=by first | exact .inl rfl | exact .inr rfl | assumption) :
   PS X (.Assign [.Name y py] (.ListComp elt [⟨tg,iter,ifs,0⟩] scope pos) spos) (tAsg (tComp cs wi g tt te) (a1i i)):=by
 have bn:∀(M:Model) (A:Around) (v:Value) (Q:Unit->Shared->Prop) (E:Value->Shared->Prop) (s:Shared),wpAny M A (storeName X.env y v) Q E s->wpAny M A (assign (.Name y py) X.env v) Q E s:=fun M A v Q E s h=>wpAny_assign_Name h;intro pins s σ H DD I h;rw [exec_Assign_Name_used _ _ _ _ hsw];refine x0b (x1G (x0b ?_));show wpAny _ _ (do let _ ← comprehension (.ListComp elt [⟨tg,iter,ifs,0⟩] scope pos) scope X.env _ (newList []) false (eval iter X.env) (some (assign (.Name y py) X.env))) _ _ s;refine x0b (x0F (Q:=fun _ s'=>SP X pins DD .next s') ?_ (fun _ s' hq=>x0h (x0h hq)) fun _ _ e=>e);refine x2s (use:=some (assign (.Name y py) X.env)) rfl hs S.clos S.kind S.names (thn (hi pins s σ H _ I h) fun v s1 h1=>thn h1 fun itv s2 h2=>?_);obtain⟨it,fp,tn,J,H2,rfl,I2,T,st2,f2,q⟩:=h2
 have ho:∀b∈fp,∃o,s2.heap.get? b=some o:=fun b hb=>by
   obtain⟨o,e,_⟩:=T.obj 0 _ st2 b hb;exact⟨o,e⟩
 refine x0T (x2n S.nocell (by intro y hy;simp at hy) (fun h₁ hns₁ hsb₁=>?_) S.kind);dsimp only at hns₁ hsb₁ ⊢;have hC:(s2.heap.push { cls:=.type "list",dict:=none,data:=.seq ([]:List Value).toArray }).objs.size=s2.heap.objs.size + 1:=by rw [x1O]
 generalize hH2:s2.heap.push { cls:=.type "list",dict:=none,data:=.seq ([]:List Value).toArray }=hp2 at hns₁ hsb₁ hC ⊢;have old:∀b o,s2.heap.get? b=some o->h₁.get? b=some o:=fun b o e=>hsb₁.extBut b o (by rw [hC];exact x0r (x0R (x0n e))) (x0c _ (hH2▸x0c _ e));have hD:h₁.get? s2.heap.objs.size=some { cls:=.type "list",data:=.seq ([]:List Value).toArray }:=hsb₁.extBut _ _ (by rw [hC];exact x0r (x3l _)) (x0c _ (hH2▸x0s _ rfl));rw [hC] at hns₁ ⊢;obtain⟨W,⟨m0,w0⟩,turn⟩:=q s2.heap.objs.size I2.fresh;have Ic:=a5y S (tk:=s2.toks + ([]:List (Str×Value)).length) I2 f2 ho old hns₁ hD;have nstk:∀b,b≠X.env.locals->b∉X.fs->b∉frs X.stack:=fun b h1 h2 hb=>(x0i.mp (I2.stkSub b hb)).elim h1 h2
 have stat:∀{H':Hp},(∀b∈fp,H' b=none)->∀b∈fp,FpOk (a0o X scope cl N fp (s2.heap.objs.size + 1) s2 H2) pins H' b:=fun hn b hb=>by
   obtain⟨o,e⟩:=ho b hb;exact⟨hn b hb,x0r (x0R (x0n e)),nstk b (f2 b hb).2.1 (f2 b hb).2.2.1,.inl hb,fun x c ec=>(f2 b hb).2.2.2.2.1 x c (S.sub x c ec),(f2 b hb).2.2.2.2.2⟩
 obtain⟨hg,hf,he⟩:=hb fp (s2.heap.objs.size + 1) s2 H2;have st1:tn 0 h₁:=T.keep _ _ _ st2 fun b hb o e=>old b o e
 have fr1:∀b∈fp,upd H2 s2.heap.objs.size (.lst []) b=none:=fun b hb=>by
   obtain⟨o,e⟩:=ho b hb;rw [a0e (x0r (x0n e))];exact(f2 b hb).1
 have loop:∀s₃:Shared,s₃={ s2 with heap:=h₁,toks:=s2.toks + ([]:List (Str×Value)).length }->
     x2q (model X.prog X.w) X.A (.compLoop (.ListComp elt [⟨tg,iter,ifs,0⟩] scope pos) 0 (.ref it) (.ref s2.heap.objs.size) (compEnvC scope cl (s2.heap.objs.size + 1) X.env))
       (compPost (model X.prog X.w) X.A X.xe (some (assign (.Name y py) X.env)) (fun _ s'=>SP X pins DD .next s') (.ref s2.heap.objs.size) (s2.heap.objs.size + 1)) s₃:=by
   rintro s₃ rfl;refine a4y _ (a6L (Y:=a0o X scope cl N fp (s2.heap.objs.size + 1) s2 H2) T hc stat hg hf he (fun s4 σ3 H3 I4 qn=>?_) turn) m0 ⟨0,_,_,Ic,st1,fr1,w0⟩;obtain⟨m4,hn4,_⟩:=I4.loc;have I5:Inv X pins σ H3 s4:=Inv.uncomp (h':=s4.heap) I2 f2 I4 fun b hb=>rfl;have oldne:∀b o,s2.heap.get? b=some o->b≠s2.heap.objs.size + 1:=fun b o e=>x0r (x0R (x0n e));have locne:X.env.locals≠s2.heap.objs.size + 1:=x0r (x0R I2.lt)
   have cellne:∀x c,X.env.cells.lookup x=some c->c≠s2.heap.objs.size + 1:=fun x c e=>by
     obtain⟨v,o,h1,_⟩:=I2.cell x c e;exact oldne c o h1
   refine bn _ _ _ _ _ _ (a5L I5 hN hiy hy (v:=.ref s2.heap.objs.size) rfl (fun s6 I6 ⟨a6,sb6,ha6⟩=>?_) hff)
   have ane:s2.heap.objs.size + 1≠a6:=by
     rcases ha6 with rfl | ha6
     · exact Ne.symm locne
     · exact Ne.symm (cellne _ _ ha6)
   refine⟨m4,hn4.sameBut sb6 ane,fun h' hs'=>⟨_,H3,?_,qn⟩⟩;have hs7:∀b,b≠s2.heap.objs.size + 1->h'.get? b=s6.heap.get? b:=fun b hb=>hs'.2 b hb;have U0:Un (frs X.stack) [s2.heap.objs.size + 1] H3 H3 s6.heap s6.heap:=Un.refl
   have trC:∀b u,H3 b=some u->b≠s2.heap.objs.size + 1:=fun b u e z=>by
     have q:H3 (s2.heap.objs.size + 1)=none:=I4.free;rw [z,q] at e;cases e
   obtain⟨hh6,g6,d6,t6,os6⟩:=s6;refine I6.call (h':=h') (g':=g6) (d':=d6) (t':=t6) (ch:=[s2.heap.objs.size + 1]) ⟨fun b o e n hb hx=>?_,fun b o e n hb hx=>?_,U0.free,fun b o e hx=>?_,U0.tups,U0.frzs,U0.tbls,U0.sys⟩ (fun b u e=>?_) I6.bare fun b hb=>?_
   · have hb':b≠s2.heap.objs.size + 1:=fun z=>hx (by rw [z];exact x0q.mpr rfl);rw [hs7 b hb'];exact U0.keep b o e n hb hx
   · have hb':b≠s2.heap.objs.size + 1:=fun z=>hx (by rw [z];exact x0q.mpr rfl);rw [hs7 b hb'];exact U0.slot b o e n hb hx
   · have hb':b≠s2.heap.objs.size + 1:=fun z=>hx (by rw [z];exact x0q.mpr rfl);rw [hs7 b hb'];exact U0.there b o e hx
   · refine(I6.hok b u e).stay (fun c v hc q=>?_) (fun _ q=>q) fun _ _ q=>q
     have ne:c≠s2.heap.objs.size + 1:=by
       rcases hc with z | z
       · rw [z];exact trC b u e
       · exact trC c _ z
     rw [hs7 c ne];exact q
   · rw [x0q.mp hb];refine⟨.inr (x3U I2.sz),Ne.symm locne,cellne,fun p hp=>?_⟩;exact oldne _ _ (I2.pin p hp).1
 exact x3P (loop _ rfl) (T.self _ 0 _ _ _ st1 (loop _ rfl))
end L2
namespace Pu
open PySem PySem.Spec L2
noncomputable def SwOk (X:Cx)(e:Expr)(t:TE):Prop:=∀(i:Nat) (y:Str) (py spos:Pos),X.N.Nodup->X.N[i]?=some y->Loc X.env.scope y->x4e e (some (.Name y py)) spos.line X.env=pure true->(X.fn y=true\/X.env.scope.names.lookup y=some .local)->PS X (.Assign [.Name y py] e spos) (tAsg t (a1i i))
noncomputable def QNC {ι:Type}(T:PotK)(K:x0a)(F:ι->Cx)(e:Expr)(pn:pA):Prop:=∃t,(∀z,PE (F z) e t)/\(∀z,SwOk (F z) e t)/\NOk K T t pn
section
variable {T:PotK}{np:Bool}{ι:Type}{K:x0a}{F:ι->Cx}{e:Expr}{pl:pA}{pg:pG}{pos:Pos}
theorem b5f {scope:Scope}{cl:ι->List (Str×Addr)}{N:List Str}{cs:List (Option Nat)}{elt tg iter:Expr}{ifs:List Expr}{pi:pA}{ptt:pT}{pte:pE}(S:∀z,a0L (F z) scope (cl z) N cs)(hc:∀z,(F z).calm=true)(hi:QI T K F tg iter pi)
   (hg:QG K (fun y:ι×List Addr×Addr×Shared×Hp=>a0o (F y.1) scope (cl y.1) N y.2.1 y.2.2.1 y.2.2.2.1 y.2.2.2.2) tg pg) (ht:QIf T K (fun y:ι×List Addr×Addr×Shared×Hp=>a0o (F y.1) scope (cl y.1) N y.2.1 y.2.2.1 y.2.2.2.1 y.2.2.2.2) ifs ptt)
   (he:QE T K (fun y:ι×List Addr×Addr×Shared×Hp=>a0o (F y.1) scope (cl y.1) N y.2.1 y.2.2.1 y.2.2.2.1 y.2.2.2.2) elt pte)
   (hs:∀z x,x0U iter (F z).env x=pure x:=by intro _ _;rfl):QNC T K F (.ListComp elt [⟨tg,iter,ifs,0⟩] scope pos) (a5j cs pi pg ptt pte):=by
 obtain⟨wi,i1,i2⟩:=hi;obtain⟨g,hg0,hg⟩:=hg;obtain⟨tt,ht0,ht⟩:=ht;obtain⟨te,he0,he⟩:=he;refine⟨_,fun z=>a7f (S z) (hc z) (i1 z) (fun fp C s H=>⟨hg0 (z,fp,C,s,H),ht0 (z,fp,C,s,H),he0 (z,fp,C,s,H)⟩) (hs z),fun z i y py spos hN hi hy hsw hf=>a8L hN hi hy (S z) (hc z) (i1 z) (fun fp C s H=>⟨hg0 (z,fp,C,s,H),ht0 (z,fp,C,s,H),he0 (z,fp,C,s,H)⟩) hsw (hs z) hf,fun C G σ H env n R Q hK hT S hp k=>?_⟩;refine i2 C G σ H env n _ _ hK hT S hp fun xs env1 n1 J H1 p1 S1 f1 hJ=>?_;intro D hD;have hDM:=S1.fresh hD;refine b1E (G:=G) hg ht he hJ p1.1 hD (hT▸hK▸a4A S1 cs) p1.2 fun ys n2 us H' rr hpots hk eD ry=>?_
 -- the heap without D
 have nD:∀b o,H1 b=some o->b≠D:=fun b o e z=>by rw [z,hD] at e;cases e
 have hD0:C.H0 D=none:=by
   cases z:C.H0 D with
   | none=>rfl
   | some o =>
     by_cases hp:D∈C.pots0
     · exact absurd (S1.sup D (S1.p0.1 D hp)) hDM
     · have:=S1.frame D o hp z;rw [hD] at this;cases this
 have hk2:∀b o,b∉G.pots->H1 b=some o->cutH H' D b=some o:=fun b o hb e=>by rw [a1g (nD b o e)];exact hk b o hb e
 have nc:∀b,b∉D::G.M->b≠D:=fun b hb z=>hb (by rw [z];exact x0e);have np:∀p∈G.pots,p≠D:=fun p hp z=>hDM (z▸(S1.pots p hp).1)
 have Sb:SR C G σ (cutH H' D) env1 n2:=S1.call hk2 fun p hp=>by
   subst hT;have h2:=C.T.keep (hpots p hp) (H':=cutH H' D) (a1g (np p hp)) fun b o hb e=>by rw [a1g (nc b hb)];exact e
   exact C.T.more h2 fun a ha=>.inl (x0d _ ha)
 have:=k ys env1 n2 D us (cutH H' D) rr Sb (f1.trans fun b o hb e=>hk2 b o (fun z=>hb (S1.pots b z).1) e) (by unfold cutH;rw [if_pos rfl]) ?_
 · rw [a5a eD] at this;exact this
 · exact Reps.mono (G:=⟨D::G.M,G.pots⟩) (fun b o hb e=>by rw [a1g (nc b hb)];exact e) (fun a ha=>.inl (x0d _ ha)) (fun _ _ e=>e) _ _ ry
theorem b4V (i:Nat){y:Str}{py spos:Pos}(h:QNC T K F e pl)(hN:∀z,(F z).N.Nodup)(hi:∀z,(F z).N[i]?=some y)(hy:∀z,Loc (F z).env.scope y)(hsw:∀z,x4e e (some (.Name y py)) spos.line (F z).env=pure true:=by intro _;rfl)(hf:∀z,(F z).fn y=true\/(F z).env.scope.names.lookup y=some .local:=by intro _;first | exact .inl rfl | exact .inr rfl):QS T np K F (.Assign [.Name y py] e spos) (qSet i (qL pl)):=by
 obtain⟨t,a1,a3,a2⟩:=h
 have he:EOk K T t (qL pl):=fun C G σ H env n R Q hK hT S hp k=>by
   refine a2 C G σ H env n _ _ hK hT S hp fun xs env1 n1 a vs Hb p1 S1 f1 hn r1=>?_;exact k _ _ _ _ _ p1 (S1.same (Same.lay1 hn)) (a3V (S1.fresh hn) hn r1) (f1.trans (Fr.of (Same.lay1 hn)))
 refine⟨_,fun z=>a3 z i y py spos (hN z) (hi z) (hy z) (hsw z) (hf z),fun C G σ H env n PD D hK hT hn S hp L=>?_⟩;refine he C G σ H env n _ _ hK hT S hp fun x env1 n1 v H1 q1 S1 r1 f1=>?_;exact L.nx _ _ _ _ _ q1 (S1.set i (hK▸r1)) (Ext.fr f1)
end
end Pu
end
section
namespace Pu
open PySem PySem.Spec L2
noncomputable def shK:Key->Prop
 | .inl i=>i.natAbs < 10 ^ 60
 | .inr x=>∀c∈x.cps.toList,c < 16 ^ 8
noncomputable def b1D:Key->Nat
 | .inl _=>61
 | .inr x=>10 * x.length + 2
mutual
noncomputable def shw:PV->Prop
 | .non=>True
 | .bl _=>True
 | .int i=>i.natAbs < 10 ^ 60
 | .str x=>∀c∈x.cps.toList,c < 16 ^ 8
 | .tup xs=>shws xs
 | .lst xs=>shws xs
 | .dct ks xs=>(∀k∈ks,shK k)/\shws xs
 | _=>False
noncomputable def shws:List PV->Prop
 | []=>True
 | x::xs=>shw x/\shws xs
end
mutual
noncomputable def cost:PV->Nat
 | .non=>4
 | .bl _=>5
 | .int _=>61
 | .str x=>10 * x.length + 2
 | .tup xs=>a4K xs + 3
 | .lst xs=>a4K xs + 3
 | .dct ks xs=>(ks.map fun k=>b1D k + 4).sum + a4K xs + 3
 | _=>0
noncomputable def a4K:List PV->Nat
 | []=>0
 | x::xs=>cost x + 2 + a4K xs
end
mutual
noncomputable def dep:PV->Nat
 | .tup xs=>deps xs + 1
 | .lst xs=>deps xs + 1
 | .dct _ xs=>deps xs + 1
 | _=>0
noncomputable def deps:List PV->Nat
 | []=>0
 | x::xs=>max (dep x) (deps xs)
end
theorem a8f {i:Int}(h:i.natAbs < 10 ^ 60):(x0g (toString i)).length<=61:=by
 have e:=int_text_length_le10 (k:=60) (by decide) h;rw [ofString_length];omega
theorem a3B {i:Int}(h:i.natAbs < 10 ^ 60):i.natAbs.log2 < 1920:=by
 by_cases h0:i.natAbs=0
 · rw [h0];decide
 · exact(Nat.log2_lt h0).mpr (Nat.lt_trans h (by decide +kernel))
theorem key_ok {k:Key}(h:shK k):(keyD k).showable=true/\(keyD k).depth=0/\(keyD k).shown.length<=b1D k:=by
 cases k with
 | inl i=>exact⟨by simpa [keyD,x1K] using a3B h,by simp [keyD,x2y],by simpa [keyD,x2z,b1D] using a8f h⟩
 | inr x=>exact⟨by simp [keyD,x1K],by simp [keyD,x2y],by simpa [keyD,x2z,b1D] using StrLaws.reprText_len x h⟩
theorem kv_ok:∀(ks:List Key) (ds:List PyData),(∀k∈ks,shK k)->x2e ds=true->x3V ((ks.map keyD).zip ds)=true/\x4Q ((ks.map keyD).zip ds)<=x3F ds/\((x3j ((ks.map keyD).zip ds)).map (·.length)).sum + 2 * (x3j ((ks.map keyD).zip ds)).length<=(ks.map fun k=>b1D k + 4).sum + ((x2t ds).map (·.length)).sum + 2 * ds.length
 | [],ds,_,_=>by simp [x3V,x4Q,x3j]
 | k::ks,[],_,_=>by simp [x3V,x4Q,x3j]
 | k :: ks, d :: ds, hk, hd => by
   have hd':d.showable=true/\x2e ds=true:=by simpa [x2e] using hd
   obtain⟨h1,h2,h3⟩:=kv_ok ks ds (fun x hx=>hk x (x0d _ hx)) hd'.2;obtain⟨g1,g2,g3⟩:=key_ok (hk k x0e);refine⟨?_,?_,?_⟩
   · simp [x3V,g1,hd'.1,h1]
   · simp only [x0C,x1q,x4Q,x3F,g2];omega
   · simp only [x0C,x1q,x3j,x2t,List.sum_cons,x0M];rw [strLen_append,strLen_append];have:(x0g ": ").length=2:=rfl;omega
theorem a7x (ps:List Str):(dictText ps).length<=(ps.map (·.length)).sum + 2 * ps.length + 3:=by
 have h:(Str.join ", " ps).length<=(ps.map (·.length)).sum + ps.length * 2:=StrLaws.join_length_le ", " ps
 have e:(dictText ps).length=1 + (Str.join ", " ps).length + 1:=by
   unfold dictText;rw [strLen_append,strLen_append];rfl
 omega
mutual
theorem a9K:∀(x:PV),shw x->∃d,dat x=some d/\d.showable=true/\d.depth<=dep x/\d.shown.length<=cost x
 | .non,_=>⟨_,rfl,by simp [x1K],by simp [x2y],by simp only [x2z,cost];decide⟩
 | .bl b,_=>⟨_,rfl,by simp [x1K],by simp [x2y],by simp only [x2z,cost];cases b <;> decide⟩
 | .int i,h=>⟨_,rfl,by simpa [x1K] using a3B h,by simp [x2y],by simpa [x2z,cost] using a8f h⟩
 | .str x,h=>⟨_,rfl,by simp [x1K],by simp [x2y],by simpa [x2z,cost] using StrLaws.reprText_len x h⟩
 | .tup xs, h => by
   obtain⟨ds,e,h1,h2,h3,h4⟩:=a3L xs h;refine⟨.tuple ds,by rw [dat,e],by simpa [x1K] using h1,by simp only [x2y,dep];omega,?_⟩;have:=tupleText_len_le (x2t ds);have e2:=PyData.shownAll_length ds;simp only [x2z,cost];omega
 | .lst xs, h => by
   obtain⟨ds,e,h1,h2,h3,h4⟩:=a3L xs h;refine⟨.list ds,by rw [dat,e],by simpa [x1K] using h1,by simp only [x2y,dep];omega,?_⟩;have:=listText_len_le (x2t ds);have e2:=PyData.shownAll_length ds;simp only [x2z,cost];omega
 | .dct ks xs, h => by
   have h':(∀k∈ks,shK k)/\shws xs:=h;obtain⟨ds,e,h1,h2,h3,h4⟩:=a3L xs h'.2;obtain⟨g1,g2,g3⟩:=kv_ok ks ds h'.1 h1;refine⟨.dict ((ks.map keyD).zip ds),by rw [dat,e],by simpa [x1K] using g1,by simp only [x2y,dep];omega,?_⟩;have:=a7x (x3j ((ks.map keyD).zip ds));simp only [x2z,cost];omega
 | .ty _,h=>h.elim
 | .pot _,h=>h.elim
 | .scr _,h=>h.elim
 | .fdt _ _,h=>h.elim
theorem a3L:∀(xs:List PV),shws xs->∃ds,dats xs=some ds/\x2e ds=true/\x3F ds<=deps xs/\ds.length=xs.length/\((x2t ds).map (·.length)).sum + 2 * ds.length<=a4K xs
 | [],_=>⟨[],rfl,by simp [x2e],by simp [x3F],rfl,by simp [x2t,a4K]⟩
 | x :: xs, h => by
   have h':shw x/\shws xs:=h;obtain⟨d,e,a1,a2,a3⟩:=a9K x h'.1;obtain⟨ds,e2,b1,b2,b3,b4⟩:=a3L xs h'.2;refine⟨d::ds,by rw [dats,e,e2],by simp [x2e,a1,b1],by simp only [x3F,deps];omega,by simp [b3],?_⟩;simp only [x2t,a4K,x0C,List.sum_cons,x0M];omega
end
noncomputable def b3R (x:PV):Str:=match dat x with | some d=>d.shown | none=>x0g ""
theorem a1t {x:PV}{R:PV->Prop}(h:shw x)(h1:dep x<=40)(h2:cost x<=10000000)(q:R (.str (b3R x))):a4C x R:=by
 obtain⟨d,e,a1,a2,a3⟩:=a9K x h;unfold a4C b3R at *;rw [e] at q ⊢;exact⟨a1,by omega,by unfold x0w;omega,q⟩
theorem b4S:∀(xs:List PV),(∀x∈xs,shw x)->shws xs:=by
 intro xq
 induction xq with
 | nil =>
   intro _;exact trivial
 | cons x xs ih =>
   intro h;exact⟨h x x0e,ih fun y hy=>h y (x0d _ hy)⟩
theorem b6d (k:Nat):∀(xs:List PV),(∀x∈xs,dep x<=k)->deps xs<=k:=by
 intro xq
 induction xq with
 | nil =>
   intro _;exact x0L _
 | cons x xs ih =>
   intro h;have:=h x x0e;have:=ih fun y hy=>h y (x0d _ hy);simp only [deps];omega
theorem b3E (k:Nat):∀(xs:List PV),(∀x∈xs,cost x<=k)->a4K xs<=(k + 2) * xs.length:=by
 intro xq
 induction xq with
 | nil =>
   intro _;exact x0L _
 | cons x xs ih =>
   intro h;have h1:=h x x0e;have h2:=ih fun y hy=>h y (x0d _ hy);simp only [a4K,x0M,Nat.mul_succ];omega
end Pu
end
section
namespace L2
open PySem PySem.Spec PyProof.Rows
noncomputable def met (val:Nat->Key):Nat->List Key
 | 0=>[]
 | i + 1=>if(met val i).any (fun y=>decide (y=val i)) then met val i else met val i++[val i]
theorem met_le (val:Nat->Key):∀i,(met val i).length<=i:=by
 intro xq
 induction xq with
 | zero =>
   exact x0j _
 | succ i ih =>
   have:=ih;unfold met
   split
   · omega
   · rw [x0m,x0K];omega
theorem b5D (val:Nat->Key)(i:Nat)(k:Key):(met val (i + 1)).any (fun y=>decide (y=k))=((met val i).any (fun y=>decide (y=k)) || decide (k=val i)):=by
 show(if(met val i).any (fun y=>decide (y=val i)) then met val i else met val i++[val i]).any (fun y=>decide (y=k))=_
 by_cases hk:k=val i
 · subst hk;rw [decide_eq_true rfl,Bool.or_true]
   split
   · assumption
   · rw [List.any_append];simp
 · rw [decide_eq_false hk,x4u]
   split
   · rfl
   · rw [List.any_append]
     have:([val i].any (fun y=>decide (y=k)))=false:=by
       rw [x3C,List.any_nil,x4u];exact decide_eq_false (Ne.symm hk)
     rw [this,x4u]
theorem b5C (val:Nat->Key)(i:Nat):(met val (i + 1)).length=if(met val i).any (fun y=>decide (y=val i)) then(met val i).length else(met val i).length + 1:=by
 show(if(met val i).any (fun y=>decide (y=val i)) then met val i else met val i++[val i]).length=_
 split
 · rfl
 · rw [x0m,x0K]
section
variable {prog:x0D}{w:World}{A:Around}{R:Result->Shared->Prop}{I:Addr}{fp wr:List Addr}{G:Array GenState->Array GenState->Prop}{n:Nat}{P:Nat->Value->Prop}{St:Nat->Shared->Prop}
theorem b2h (Wk:WalksS prog w A.in1 I fp wr G n P St)(S:Addr)(nf:S∉fp)(val:Nat->Key)(hv:∀i v,P i v->(a0p prog w).is (val i) v=true/\v.scannable=true)(room:n + 1 < scanBound) :
   ∀ (k i : Nat) (s : Shared), n - i = k -> i <= n -> St i s -> s.heap.SetOf (a0p prog w) S (fun q => (met val i).any (fun y => decide (y = q))) (met val i).length ->
     (∀s',Moved (S::wr) G s s'->s'.heap.SetOf (a0p prog w) S (fun q=>(met val n).any (fun y=>decide (y=q))) (met val n).length->R (.ok (.ret .none)) s')->
     x2q (model prog w) A (.builtin "set.update.loop" ⟨[.ref S,.ref I],[]⟩) R s:=by
 have nw:S∉wr:=fun h=>nf (Wk.sub _ h);have sub:∀b∈wr,b∈S::wr:=fun b hb=>x0d _ hb;intro k
 induction k with
 | zero =>
   intro i s hk hi st so fin;have ei:i=n:=by omega
   subst ei;refine x2u F.entry_set_update_loop ?_;rw [x1V x3G _];refine x0b (m:=pyNext (.ref I)) (Wk.done s _ _ st fun s' mv=>?_);refine x0h (fin s' (mv.mono sub) ?_);obtain⟨o,es,ep,t,ho,more⟩:=so;exact⟨o,es,ep,t,mv.heap S _ nw ho,more⟩
 | succ k ih =>
   intro i s hk hi st so fin;have lt:i < n:=by omega
   refine x2u F.entry_set_update_loop ?_;rw [x1V x3G _];refine x0b (m:=pyNext (.ref I)) (Wk.item i s _ _ lt st fun v s' pv' st' mv=>?_);obtain⟨kv,sc⟩:=hv i v pv'
   have so':s'.heap.SetOf (a0p prog w) S (fun q=>(met val i).any (fun y=>decide (y=q))) (met val i).length:=by
     obtain⟨o,es,ep,t,ho,more⟩:=so;exact⟨o,es,ep,t,mv.heap S _ nw ho,more⟩
   refine x0b (m:=x4N [v] (setAdd S v)) (x0W ?_);unfold setAdd;refine x0W (x0b ((a0p prog w).pyHash (k:=val i) kv ?_));have rm:(met val i).length + 1 < scanBound:=by have:=met_le val i;omega
   refine wpAny_setAddHashed_of (knd:=a0p prog w) (s:={ s' with toks:=s'.toks + 1 }) kv sc so' rm fun h' sb so2=>?_
   have so3:h'.SetOf (a0p prog w) S (fun q=>(met val (i + 1)).any (fun y=>decide (y=q))) (met val (i + 1)).length:=by
     have e1:(fun q=>(met val i).any (fun y=>decide (y=q)) || decide (q=val i))=fun q=>(met val (i + 1)).any (fun y=>decide (y=q)):=funext fun q=>(b5D val i q).symm;rw [b5C,<- e1];exact so2
   refine x0h ⟨x4v x3G _,ih (i + 1) _ (by omega) lt (Wk.frame _ s' _ _ st' (x3p _) fun b hb o e=>?_) so3 fun s2 mv2 so4=>?_⟩
   · rw [sb.2 b (fun z:b=S=>nf (by rw [<- z];exact hb))];exact e
   · refine fin s2 (Moved.trans Wk.gtrans ((mv.mono sub).then_heap (x3p _) fun b o hb e=>?_) mv2) so4;rw [sb.2 b (fun z:b=S=>hb (by rw [z];exact x0e))];exact e
end
section
variable {prog:x0D}{w:World}{A:Around}{E:Value->Shared->Prop}{s:Shared}
theorem a6N:isSubtype (.type "tuple") (.type "set")=pure false:=by rw [x4c] <;> kernel_rfl
theorem a5J:isSubtype (.type "tuple") (.type "frozenset")=pure false:=by rw [x4c] <;> kernel_rfl
theorem a5K:isSubtype (.type "list") (.type "set")=pure false:=by rw [x4c] <;> kernel_rfl
theorem a5b:isSubtype (.type "list") (.type "frozenset")=pure false:=by rw [x4c] <;> kernel_rfl
theorem b5B (x:Value){Q₁:Value->Shared->Prop}
   (h:∀led:Bool,led=(!(w.params.followText "set-order"))->Q₁ (.ref s.heap.objs.size) { s with heap:=s.heap.push { cls:=.type "set",dict:=none,data:=.set #[] 0 (.fresh 0 0 led) } }) :
   x2q (model prog w) A (.call (.builtin "set.__new__") ⟨[.type "set",x],[]⟩) (wants Q₁ E) s:=by
 refine x4F (show wpAny (model prog w) A.in1 (checkBuiltinCall "set.__new__" ⟨[.type "set",x],[]⟩>>=fun _=>again (.builtin "set.__new__" ⟨[.type "set",x],[]⟩)) _ _ s from ?_);refine x0b (x1U (F.newCall_set_1 x) (x0h ⟨x4v F.plain_set_new _,x2u F.entry_set_new ?_⟩));rw [x1V F.plain_set_new _];unfold x3W.«set.__new__» Builtin.Frozenset.newClass;have ss:=sub_set_self;obtain⟨hp,gs,dr,tk,sy⟩:=s;dsimp only
 wp_walk
 refine wpAny_askSetting (x0h ?_);dsimp only;unfold newObj;refine x0b (wpAny_alloc (x0h (x0h (h _ ?_))))
 first | rfl | simp
noncomputable abbrev soN (led:Bool):Obj:={ cls:=.type "set",dict:=none,data:=.set #[] 0 (.fresh 0 0 led) }
theorem b2j {a:Addr}{its:Array Value}{Z:Heap->Prop}{Q:Value->Shared->Prop}(hd:A.handled=none)(ht:s.heap.IsList a its\/s.heap.IsTuple a its)
   (lp:∀(I:Addr) (St:Nat->Shared->Prop) (fp:List Addr) (G:Array GenState->Array GenState->Prop) (s1:Shared) (R:Result->Shared->Prop) (led:Bool),led=(!(w.params.followText "set-order"))->s.heap.objs.size < I->
     WalksS prog w A.in1.in1.in1 I fp [I] G its.size (fun i v=>its[i]?=some v) St->s.heap.objs.size∉fp->St 0 s1->s1.heap.get? s.heap.objs.size=some (soN led)->(∀b o,s.heap.get? b=some o->s1.heap.get? b=some o)->
     (∀s',Moved [s.heap.objs.size,I] G s1 s'->Z s'.heap->R (.ok (.ret .none)) s')->x2q (model prog w) A.in1.in1 (.builtin "set.update.loop" ⟨[.ref s.heap.objs.size,.ref I],[]⟩) R s1)
   (fin:∀(h':Heap) (tk:Nat),Z h'->(∀b o,b < s.heap.objs.size->s.heap.get? b=some o->h'.get? b=some o)->Q (.ref s.heap.objs.size) { s with heap:=h',toks:=tk }):wpAny (model prog w) A (call (.type "set") [.ref a]) Q E s:=by
 obtain⟨c,tl,mr⟩:=PySem.F.called_set.mro;have md:=PySem.F.called_set.made;have sb:=PySem.F.called_set.sub;refine wpAny_call (x4F (show wpAny (model prog w) _ (callAny (.type "set") _) _ _ s from ?_));refine x0h ⟨Code.quiet_builtin _ (by decide +kernel),x2u PySem.F.entry_type_call ?_⟩;rw [Around.under_plain (weight_type_call_type "set" [.ref a] []) rfl];have x1:=PySem.F.called_set.notType;have x2:=PySem.F.called_set.canCreate;have x3:=PySem.F.typeCall_set_1 (.ref a)
 repeat (any_goals (first | wp_step | assumption))
 refine x4g (b5B (.ref a) (E:=E) (Q₁:=fun ob s₁=>∃led:Bool,led=(!(w.params.followText "set-order"))/\ob=.ref s.heap.objs.size/\s₁={ s with heap:=s.heap.push (soN led) }) fun led hl=>⟨led,hl,rfl,rfl⟩) fun r s₁ hr=>?_;cases r with
 | error e=>exact hr
 | ok fl =>
   cases fl with
   | ret ob =>
     obtain⟨led,hled,rfl,rfl⟩:=hr;have g0:(s.heap.push (soN led)).get? s.heap.objs.size=some (soN led):=x0s _ rfl;have ty:Shared.TypeIs { s with heap:=s.heap.push (soN led) } (.ref s.heap.objs.size) "set":=⟨_,g0,rfl⟩;have y1:=PySem.F.called_set.init.lookup;have y2:=PySem.F.called_set.init.bind (.ref s.heap.objs.size)
     repeat (any_goals (first | wp_step | assumption))
     refine x4g (codeAny_call_builtin (R:=wants (fun r s₂=>r=.none/\∃h' tk,s₂={ s with heap:=h',toks:=tk }/\Z h'/\
         (∀b o,b < s.heap.objs.size->s.heap.get? b=some o->h'.get? b=some o)) E) PySem.F.called_set.init.plain PySem.F.entry_set_init (PySem.check_set_init_1 ty ?_)) fun r₂ s₂ hr₂=>?_
     · clear fin;have h3:A.in1.in1.in1.handled=none:=by simp [hd]
       unfold x3W.«set.__init__» noKeywords Builtin.Frozenset.updateFrom;generalize hP:pyIter=PI;rcases ht with⟨⟨oc,od,odt,os⟩,ho,hc,nl,hdl⟩ | ⟨⟨oc,od,odt,os⟩,ho,hc,nl,hdl⟩ <;>
       · cases hc;cases hdl;have ho':=x0c (soN led) ho;have z1:=a5K;have z2:=a5b;have z3:(x1L "list" == x1L "dict")=false:=by decide
         have z4:=a6N;have z5:=a5J;have z6:(x1L "tuple" == x1L "dict")=false:=by decide
         wp_walk
         subst hP;have la:a < s.heap.objs.size:=x0n ho;have n1:a≠(s.heap.push (soN led)).objs.size:=by rw [x1O];exact x0r (x0R la)
         have lI:s.heap.objs.size < (s.heap.push (soN led)).objs.size:=by rw [x1O];exact x3l _
         have n2:s.heap.objs.size∉[(s.heap.push (soN led)).objs.size,a]:=fun z=>by
           rcases x0i.mp z with z | z
           · exact x0r lI z
           · exact x2w la (x0q.mp z)
         have en:∀{s1 s':Shared} {G},Moved [s.heap.objs.size,(s.heap.push (soN led)).objs.size] G s1 s'->Z s'.heap->s1.gens=s.gens->s1.drawn=s.drawn->s1.os=s.os->(∀b o,s.heap.get? b=some o->s1.heap.get? b=some o)->(∀x y,G x y->y=x)->∃h' tk,s'={ s with heap:=h',toks:=tk }/\Z h'/\(∀b o,b < s.heap.objs.size->s.heap.get? b=some o->h'.get? b=some o):=by
           intro s1 s' G mv zz e1 e2 e3 kp hG;obtain⟨h',g',d',tk',os'⟩:=s';obtain rfl:g'=s.gens:=(hG _ _ mv.gens).trans e1;obtain rfl:d'=s.drawn:=mv.drawn.trans e2;obtain rfl:os'=s.os:=mv.os.trans e3;refine⟨h',tk',rfl,zz,fun b o hb e=>mv.heap b o (fun z=>?_) (kp _ _ e)⟩;rcases x0i.mp z with z | z
           · exact x0r hb z
           · exact x0r (Nat.lt_trans hb lI) (x0q.mp z)
         first
           | (refine x2Z ⟨_,ho',rfl,nl,rfl⟩ (x0b (wpAny_runValue ?_))
              refine lp _ _ _ _ _ _ led hled lI ((Walks.list h3 _ a n1 its).toS) n2 ⟨⟨_,x0s _ rfl,rfl,rfl⟩,⟨_,x0c _ ho',rfl,nl,rfl⟩⟩ (x0c _ g0) (fun b o e=>x0c _ (x0c _ e)) fun s' mv zz=>x0h (x0h ⟨rfl,?_⟩))
           | (refine wpAny_pyIter_tuple ⟨_,ho',rfl,nl,rfl⟩ (x0b (wpAny_runValue ?_))
              refine lp _ _ _ _ _ _ led hled lI ((Walks.tuple h3 _ a n1 its).toS) n2 ⟨⟨_,x0s _ rfl,rfl,rfl⟩,⟨_,x0c _ ho',rfl,nl,rfl⟩⟩ (x0c _ g0) (fun b o e=>x0c _ (x0c _ e)) fun s' mv zz=>x0h (x0h ⟨rfl,?_⟩))
         exact en mv zz rfl rfl rfl (fun b o e=>x0c _ (x0c _ e)) fun _ _ e=>e
     · cases r₂ with
       | error e=>exact hr₂
       | ok fl₂ =>
         cases fl₂ with
         | ret r =>
           obtain⟨rfl,h',tk,rfl,so',kp⟩:=hr₂
           repeat (any_goals (first | wp_step | assumption))
           exact fin _ _ so' kp
         | _=>exact hr₂.elim
   | _=>exact hr.elim
theorem set_of {h:Heap}{S:Addr}{val:Nat->Key}{led:Bool}(g1:h.get? S=some (soN led)):h.SetOf (a0p prog w) S (fun q=>(met val 0).any (fun y=>decide (y=q))) (met val 0).length:=by
 refine⟨soN led,#[],0,.fresh 0 0 led,g1,⟨rfl,rfl,rfl⟩,rfl,fun e he=>(nomatch he),fun k=>⟨fun z=>(nomatch z),fun⟨e,he,_⟩=>(nomatch he)⟩,by decide,?_,rfl⟩;cases led <;> decide
theorem a9u {a:Addr}{its:Array Value}{val:Nat->Key}{Q:Value->Shared->Prop}(hd:A.handled=none)(ht:s.heap.IsList a its\/s.heap.IsTuple a its)(hv:∀(i:Nat) (v:Value),its[i]?=some v->(a0p prog w).is (val i) v=true/\v.scannable=true)(room:its.size + 1 < scanBound)
   (fin:∀(h':Heap) (tk:Nat),h'.SetOf (a0p prog w) s.heap.objs.size (fun q=>(met val its.size).any (fun y=>decide (y=q))) (met val its.size).length->
     (∀b o,b < s.heap.objs.size->s.heap.get? b=some o->h'.get? b=some o)->Q (.ref s.heap.objs.size) { s with heap:=h',toks:=tk }):wpAny (model prog w) A (call (.type "set") [.ref a]) Q E s:=
 b2j hd ht (fun I St fp G s1 R led _ _ Wk nf h0 g1 _ k=>b2h Wk _ nf val hv room (its.size - 0) 0 s1 rfl (x0L _) h0 (set_of g1) k) fin
end
end L2
end
section
namespace L2
open PySem PySem.Spec PyProof.Rows
noncomputable def a6k (ys:List Str)(i:Nat):Key:=x0Q (ys.getD i (x0g ""))
noncomputable def SetX (X:Cx)(p:Addr)(S:Key->Bool)(n:Nat):HO:=.ext fun h=>h.SetOf (a0p X.prog X.w) p S n
theorem b2d {ys:List Str}{us:List Value}(r:Vals (ys.map V.str) us){i:Nat}{u:Value}(h:us[i]?=some u):∃t,u=.str (ys.getD i (x0g "")) t:=by
 obtain⟨hi,e⟩:=x0l.mp h;obtain⟨x,ex,rx⟩:=r.getE hi;rw [x0v] at ex;cases ey:ys[i]? with
 | none=>rw [ey] at ex;cases ex
 | some y =>
   rw [ey] at ex;cases ex;obtain⟨t,et⟩:=rx;refine⟨t,?_⟩;rw [<- e,et,List.getD,ey]
   rfl
section
variable {X:Cx}
theorem b1L:a1W X (.builtin "len") (fun vs H Q=>∃p S n,vs=[.ref p]/\H p=some (SetX X p S n)/\Q (.int n) H):=by
 intro pins s σ H vs us Q I rv h;obtain⟨p,S,n,rfl,e,q⟩:=h;obtain⟨u,rfl,ru⟩:=rv.one;obtain rfl:u=.ref p:=ru;obtain⟨so,_,_⟩:=I.hok p _ e;obtain⟨o,es,ep,t,ho,hex,hd,_,_,hb,hf,hn⟩:=so;refine call_len_set ho hex hd hf (by unfold scanBound at hb;omega) ⟨.int n,H,I.tok _,⟨_,by rw [hn]⟩,q⟩
end
end L2
end
section
namespace Pu
open PySem PySem.Spec L2
theorem a7P (x:Str)(l u:Option Int):x2J x l u=x3X x l u:=rfl
theorem b2g (x:Str){p:Nat}(h:p<=x.length):(x2J x none (some (p:Int))).cps.toList=x.cps.toList.take p:=by
 rw [a7P]
 have e:x3X x none (some (p:Int))=x3X x (some ((0:Nat):Int)) (some (p:Int)):=by
   unfold x3X;rw [StrLaws.sliceIdx_none_lo];rfl
 rw [e,StrLaws.sliceText_nat x (x0L _) h];simp
noncomputable def Ltr (c:Nat):Prop:=97<=c/\c<=122
noncomputable def a2H (z:Str):Prop:=1<=z.cps.toList.length/\z.cps.toList.length<=8/\∀c∈z.cps.toList,Ltr c
noncomputable abbrev LETS:Str:=x0g "abcdefghijklmnopqrstuvwxyz"
theorem b3k:LETS.cps.toList=(x0N 26).map (97 + ·):=by decide +kernel
theorem a8b:LETS.length=26:=by decide +kernel
theorem b0P {d:Int}(d0:0<=d)(d1:d < 26):atI LETS.cps.toList d=some (97 + d.toNat):=by
 obtain⟨x,e1,e2⟩:=b1R (xs:=LETS.cps.toList) d0 (by rw [<- a2x,a8b];exact d1);rw [e2,<- e1,b3k,x0v,List.getElem?_range (by omega)]
 rfl
theorem b0z {α:Type}{zs:List α}(h:zs.Nodup){z:α}(hz:z∉zs)(j:Nat):(zs.set j z).Nodup:=by
 refine x2m.mpr fun a b ha hb hab=>?_;rw [x0B] at ha hb;rw [List.getElem_set,List.getElem_set]
 split
 · split
   · omega
   · intro e;exact hz (e▸x2c hb)
 · split
   · intro e;exact hz (e▸x2c ha)
   · exact x2m.mp h a b ha hb hab
end Pu
end
section
namespace L2
open PySem PySem.Spec PyProof.Rows
variable {items:Array Value}
noncomputable def ItB (b:Bool)(h:Heap)(it l:Addr)(i:Nat):Prop:=match b with | true=>h.IsListIter it l i | false=>h.IsTupleIter it l i
noncomputable def SeB (b:Bool)(h:Heap)(l:Addr)(items:Array Value):Prop:=match b with | true=>h.IsList l items | false=>h.IsTuple l items
theorem ItB.at {b:Bool}{h h':Heap}{it l:Addr}{i:Nat}(x:ItB b h it l i)(e:∀o,h.get? it=some o->h'.get? it=some o):ItB b h' it l i:=by
 cases b with
 | true=>exact(show h.IsListIter it l i from x).at e
 | false=>exact(show h.IsTupleIter it l i from x).at e
theorem SeB.at {b:Bool}{h h':Heap}{l:Addr}(x:SeB b h l items)(e:∀o,h.get? l=some o->h'.get? l=some o):SeB b h' l items:=by
 cases b with
 | true=>exact(show h.IsList l items from x).at e
 | false=>exact(show h.IsTuple l items from x).at e
theorem ItB.obj {b:Bool}{h:Heap}{it l:Addr}{i:Nat}(x:ItB b h it l i):∃o,h.get? it=some o/\(o.cls=.type "list_iterator"\/o.cls=.type "tuple_iterator")/\∀v,o.data≠.cell v:=by
 cases b with
 | true=>obtain⟨o,e,c,d⟩:=(show h.IsListIter it l i from x);exact⟨o,e,.inl c,fun v z=>by rw [d] at z;cases z⟩
 | false=>obtain⟨o,e,c,d⟩:=(show h.IsTupleIter it l i from x);exact⟨o,e,.inr c,fun v z=>by rw [d] at z;cases z⟩
theorem SeB.obj {b:Bool}{h:Heap}{l:Addr}(x:SeB b h l items):∃o,h.get? l=some o/\(o.cls=.type "list"\/o.cls=.type "tuple"):=by
 cases b with
 | true=>obtain⟨o,e,c,d⟩:=(show h.IsList l items from x);exact⟨o,e,.inl c⟩
 | false=>obtain⟨o,e,c,d⟩:=(show h.IsTuple l items from x);exact⟨o,e,.inr c⟩
theorem ItB.ne {b b':Bool}{h:Heap}{it l a:Addr}{i:Nat}(x:ItB b h it l i)(y:SeB b' h a items):a≠it:=fun z=>by
 obtain⟨o,e,c,_⟩:=x.obj;obtain⟨o',e',c'⟩:=y.obj;rw [z,e] at e';cases e';rcases c with c | c <;> rcases c' with c' | c' <;> (rw [c] at c';exact absurd c' (by decide))
section
variable {prog:x0D}{w:World}{A:Around}{E:Value->Shared->Prop}{s:Shared}
variable {items:Array Value}{Q:Value->Shared->Prop}
theorem a8U {it t:Addr}{i:Nat}{x:Value}(hit:s.heap.IsTupleIter it t i)(ht:s.heap.IsTuple t items)(hx:items[i]?=some x)
   (hQ:∀h',h'.IsTupleIter it t (i + 1)->x3r it s.heap h'->Q x { s with heap:=h' }):wpAny (model prog w) A (x0X (.ref it)) Q E s:=by
 obtain⟨oi,hoi,hci,hdi⟩:=id hit;obtain⟨ot,hot,_,nt,hdt⟩:=ht;have ty:=hit.typeIs;unfold x0X
 refine x0b (x1A (name:=x0g "__next__") ty x2b
   (x1C x2b ty F.entry_tuple_iterator_next ?_ (F.args_tuple_iterator_next_1 _)))
 show wpAny _ _ (field (.ref it) 0>>=_) _ _ s;refine x0b (x1l hoi hdi (x:=.ref t) rfl ?_);show wpAny _ _ (if(x1r t == x2L)=true then _ else _) _ _ s;rw [if_neg (show ¬((x1r t == x2L)=true) from x0E)];show wpAny _ _ (field (.ref it) 1>>=_) _ _ s;refine x0b (x1l hoi hdi (x:=.int i 0) rfl ?_);show wpAny _ _ (seqItems? (.ref t)>>=_) _ _ s;refine x0b (x1X hot hdt ?_);simp only [x1F,hx];refine x0b (wpAny_setField hoi hdi (by simp) (x0h ⟨x,rfl,x0h (hQ _ ?_ (x1D ..))⟩));exact⟨_,Heap.get?_update_self _ hoi (Obj.isFreed_of_fields (Obj.data_mapFields hdi _)),(Obj.cls_mapFields ..).trans hci,by rw [Obj.data_mapFields hdi];simp [rawInt]⟩
theorem b0B {it t:Addr}{i:Nat}(hh:A.handled=none)(hit:s.heap.IsTupleIter it t i)(ht:s.heap.IsTuple t items)(hx:items[i]?=none)
   (hE:∀h' e,Heap.ExtBut it s.heap h'->(∃o,h'.get? e=some o/\o.cls=.type "StopIteration")->E (.ref e) { s with heap:=h' }):wpAny (model prog w) A (x0X (.ref it)) Q E s:=by
 obtain⟨oi,hoi,hci,hdi⟩:=id hit;obtain⟨ot,hot,_,nt,hdt⟩:=ht;have ty:=hit.typeIs;unfold x0X
 refine x0b (x1A (name:=x0g "__next__") ty x2b
   (x1C x2b ty F.entry_tuple_iterator_next ?_ (F.args_tuple_iterator_next_1 _)))
 show wpAny _ _ (field (.ref it) 0>>=_) _ _ s;refine x0b (x1l hoi hdi (x:=.ref t) rfl ?_);show wpAny _ _ (if(x1r t == x2L)=true then _ else _) _ _ s;rw [if_neg (show ¬((x1r t == x2L)=true) from x0E)];show wpAny _ _ (field (.ref it) 1>>=_) _ _ s;refine x0b (x1l hoi hdi (x:=.int i 0) rfl ?_);show wpAny _ _ (seqItems? (.ref t)>>=_) _ _ s;refine x0b (x1X hot hdt ?_);simp only [x1F,hx];refine x0b (x2Y (x0b (wpAny_setField hoi hdi (by simp) ?_)));show wpAny _ _ (newExc (.type "StopIteration") []>>=_) _ _ _;refine x0b ?_;simp only [newExc,newTuple];refine x0b (x0T ?_ (by size_fits));refine x0b (m:=firstArgMember _ _) (x1U (a:=x2L) (by first | rfl | (simp only [firstArgMember];rfl)) ?_);refine x0T ?_ (by size_fits);simp only [raiseNew];refine x0b (wpAny_handled ?_)
 first | rw [show A.in1.handled=none from hh] | rw [hh]
 refine x0b (x0h (wpAny_throw ?_));exact hE _ _ (((x1D ..).extBut.push _).push _) ⟨_,x0s _ rfl,rfl⟩
theorem a3q {b:Bool}{it t:Addr}{i:Nat}{x:Value}(hit:ItB b s.heap it t i)(ht:SeB b s.heap t items)(hx:items[i]?=some x)
   (hQ:∀h',ItB b h' it t (i + 1)->x3r it s.heap h'->Q x { s with heap:=h' }):wpAny (model prog w) A (x0X (.ref it)) Q E s:=by
 cases b with
 | true=>exact wpAny_nextOf_list_item hit ht hx hQ
 | false=>exact a8U hit ht hx hQ
theorem a6f {b:Bool}{it t:Addr}{i:Nat}(hh:A.handled=none)(hit:ItB b s.heap it t i)(ht:SeB b s.heap t items)(hx:items[i]?=none)
   (hE:∀h' e,Heap.ExtBut it s.heap h'->(∃o,h'.get? e=some o/\o.cls=.type "StopIteration")->E (.ref e) { s with heap:=h' }):wpAny (model prog w) A (x0X (.ref it)) Q E s:=by
 cases b with
 | true=>exact wpAny_nextOf_list_end hh hit ht hx hE
 | false=>exact b0B hh hit ht hx hE
end
noncomputable def SqB (b:Bool)(K:x0a)(H:Hp)(a:Addr)(xs:List V):Prop:=match b with | true=>SqL K H a xs | false=>SqT K H a xs
section
variable {X:Cx}
theorem Inv.seqB {b:Bool}{a:Addr}{xs:List V}{pins:List (Addr×Obj)}{σ:St}{H:Hp}{s:Shared}(I:Inv X pins σ H s)(h:SqB b X.K H a xs):∃its:List Value,Vals xs its/\SeB b s.heap a its.toArray/\xs.length<=x0w:=by
 cases b with
 | true=>obtain⟨its,r,p,z⟩:=I.list h;exact⟨its,r,p.isList,z⟩
 | false=>obtain⟨its,r,p,z⟩:=I.tuple h;exact⟨its,r,p,z⟩
theorem Inv.seqB_inj {b:Bool}{a:Addr}{xs ys:List V}{pins:List (Addr×Obj)}{σ:St}{H:Hp}{s:Shared}(I:Inv X pins σ H s)(h:SqB b X.K H a xs)(h':SqB b X.K H a ys):xs=ys:=by
 cases b with
 | true=>exact I.list_inj h h'
 | false=>exact I.tuple_inj h h'
end
end L2
end
section
namespace L2
open PySem PySem.Spec PyProof.Rows
section
variable {prog:x0D}{w:World}{A:Around}{E:Value->Shared->Prop}{s:Shared}
structure ZAp (z TI TO i1 i2:Addr):Prop where
 a1:TI≠z
 a2:TO≠z
 a3:i1≠z
 a4:i2≠z
 a5:TI≠TO
 a6:TI≠i1
 a7:TI≠i2
 a8:TO≠i1
 a9:TO≠i2
 a10:i1≠i2
theorem b4H {b1 b2:Bool}{z TI TO i1 i2 l1 l2:Addr}{k:Nat}{xs ys:Array Value}{x y a b:Value}{Q:Value->Shared->Prop}(D:ZAp z TI TO i1 i2)(m1:l1≠z)(m2:l2≠z)(m3:l1≠TO)(m4:l2≠TO)(m5:l1≠i1)(m6:l2≠i1)
   (hz:IsZip s.heap z TI TO .none) (hTI:IsPair s.heap TI (.ref i1) (.ref i2)) (hTO:IsPair s.heap TO a b) (h1:ItB b1 s.heap i1 l1 k) (h2:ItB b2 s.heap i2 l2 k) (hl1:SeB b1 s.heap l1 xs) (hl2:SeB b2 s.heap l2 ys) (hx:xs[k]?=some x) (hy:ys[k]?=some y)
   (hQ:∀h',IsZip h' z TI TO (rawInt s.heap.objs.size)->IsPair h' TO x y->ItB b1 h' i1 l1 (k + 1)->ItB b2 h' i2 l2 (k + 1)->IsPair h' s.heap.objs.size x y->
     (∀c o,c≠z->c≠TO->c≠i1->c≠i2->s.heap.get? c=some o->h'.get? c=some o)->Q (.ref s.heap.objs.size) { s with heap:=h' }) :
   wpAny (model prog w) A (x3W.«zip.__next__» ⟨[.ref z],[]⟩) (fun fin s'=>∃v,fin=.done (.ret v)/\Q v s') E s:=by
 show wpAny _ _ (field (.ref z) 2>>=_) _ _ _;refine x0b (x1l hz rfl (x:=.bool false) rfl ?_);show wpAny _ _ (field (.ref z) 3>>=_) _ _ _;refine x0b (x1l hz rfl (x:=.ref TI) rfl (x0b (x1X hTI rfl ?_)));show wpAny _ _ (x1E (.ref z)>>=_) _ _ _;refine x0b ?_;unfold x1E;refine x0b (x1l hz rfl (x:=.none) rfl (x0h ?_));simp only [if_true];refine x0b (x2Y (x0b (x1l hz rfl (x:=.ref TO) rfl (x0b (x2f hz (by simp) fun g1 z1 s1=>?_)))))
 replace z1:IsZip g1 z TI TO .ellipsis:=z1
 refine x0b ?_;simp only [List.zipIdx_cons,List.zipIdx_nil,List.forIn_cons,List.forIn_nil];refine x0b (x0b (wpAny_onRaise ?_));show wpAny _ _ (x0X (.ref i1)>>=_) _ _ _;refine x0b (a3q (s:={ s with heap:=g1 }) (h1.at fun o e=>s1.extBut _ o D.a3 e) (hl1.at fun o e=>s1.extBut _ o m1 e) hx fun g2 j2 s2=>x0h ?_);have t2:IsPair g2 TO a b:=s2.extBut _ _ D.a8 (s1.extBut _ _ D.a2 hTO);refine x0b (x1X t2 rfl (x0b (wpAny_updateSeq_pair (s:={ s with heap:=g2 }) t2 fun g3 t3 s3=>x0b (wpAny_letGo (x0h ?_)))))
 replace t3:IsPair g3 TO x b:=t3
 refine x0b (x0b (wpAny_onRaise ?_));show wpAny _ _ (x0X (.ref i2)>>=_) _ _ _;have up3:∀c o,c≠z->c≠i1->c≠TO->s.heap.get? c=some o->g3.get? c=some o:=fun c o c1 c2 c3 e=>s3.extBut _ o c3 (s2.extBut _ o c2 (s1.extBut _ o c1 e));refine x0b (a3q (s:={ s with heap:=g3 }) (h2.at fun o e=>up3 _ o D.a4 D.a10.symm D.a9.symm e) (hl2.at fun o e=>up3 _ o m2 m6 m4 e) hy fun g4 j4 s4=>x0h ?_);have t4:IsPair g4 TO x b:=s4.extBut _ _ D.a9 t3;refine x0b (x1X t4 rfl (x0b (wpAny_updateSeq_pair (s:={ s with heap:=g4 }) t4 fun g5 t5 s5=>x0b (wpAny_letGo (x0h (x0h ?_))))))
 replace t5:IsPair g5 TO x y:=t5
 refine x0b (x1X t5 rfl (x0b (wpAny_newTuple ?_)));have hsz:g5.objs.size=s.heap.objs.size:=by rw [s5.1,s4.1,s3.1,s2.1,s1.1]
 have z5:IsZip g5 z TI TO .ellipsis:=s5.extBut _ _ D.a2.symm (s4.extBut _ _ D.a4.symm (s3.extBut _ _ D.a2.symm (s2.extBut _ _ D.a3.symm z1)));have up5:∀c o,c≠z->c≠TO->c≠i1->c≠i2->s.heap.get? c=some o->g5.get? c=some o:=fun c o c1 c2 c3 c4 e=>s5.extBut _ _ c2 (s4.extBut _ _ c4 (up3 c o c1 c3 c2 e));have j1:ItB b1 g5 i1 l1 (k + 1):=j2.at fun o e=>s5.extBut _ o D.a8.symm (s4.extBut _ o D.a10 (s3.extBut _ o D.a8.symm e));have j5:ItB b2 g5 i2 l2 (k + 1):=j4.at fun o e=>s5.extBut _ o D.a9.symm e;have zlt:z < g5.objs.size:=x0n z5;show wpAny _ _ (x3k (.ref z) (.ref g5.objs.size)>>=_) _ _ _;refine x0b ?_;unfold x3k;have z6:IsZip (g5.push { cls:=.type "tuple",data:=.seq #[x,y] }) z TI TO .ellipsis:=x0c _ z5;refine x0b (x2f z6 (by simp) fun g7 z7 s7=>?_)
 replace z7:IsZip g7 z TI TO (rawInt g5.objs.size):=z7
 refine x2f z7 (by simp) fun g8 z8 s8=>?_
 replace z8:IsZip g8 z TI TO (rawInt g5.objs.size):=z8
 have up8:∀c o,c≠z->g5.get? c=some o->g8.get? c=some o:=fun c o c1 e=>s8.extBut _ _ c1 (s7.extBut _ _ c1 (x0c _ e));have t8:IsPair g8 g5.objs.size x y:=s8.extBut _ _ (x2w zlt) (s7.extBut _ _ (x2w zlt) (x0s _ rfl));rw [hsz] at z8 t8;refine x0h ⟨_,rfl,?_⟩;show Q (.ref g5.objs.size) _;rw [hsz];exact hQ g8 z8 (up8 _ _ D.a2 t5) (j1.at fun o e=>up8 _ o D.a3 e) (j5.at fun o e=>up8 _ o D.a4 e) t8 fun c o c1 c2 c3 c4 e=>up8 c o c1 (up5 c o c1 c2 c3 c4 e)
theorem zipEnd {b1 b2:Bool}{z TI TO i1 i2 l1 l2:Addr}{k:Nat}{xs ys:Array Value}{a b:Value}{Q:Fin->Shared->Prop}(hh:A.handled=none)(D:ZAp z TI TO i1 i2)(m1:l1≠z)(m2:l2≠z)(m3:l1≠TO)(m4:l2≠TO)(m5:l1≠i1)(m6:l2≠i1)
   (hz:IsZip s.heap z TI TO .none) (hTI:IsPair s.heap TI (.ref i1) (.ref i2)) (hTO:IsPair s.heap TO a b) (h1:ItB b1 s.heap i1 l1 k) (h2:ItB b2 s.heap i2 l2 k) (hl1:SeB b1 s.heap l1 xs) (hl2:SeB b2 s.heap l2 ys) (hend:xs[k]?=none\/ys[k]?=none)
   (hE:∀h' e,(∀c o,c≠z->c≠TO->c≠i1->c≠i2->s.heap.get? c=some o->h'.get? c=some o)->(∃o,h'.get? e=some o/\o.cls=.type "StopIteration")->E (.ref e) { s with heap:=h' }) :
   wpAny (model prog w) A (x3W.«zip.__next__» ⟨[.ref z],[]⟩) Q E s:=by
 show wpAny _ _ (field (.ref z) 2>>=_) _ _ _;refine x0b (x1l hz rfl (x:=.bool false) rfl ?_);show wpAny _ _ (field (.ref z) 3>>=_) _ _ _;refine x0b (x1l hz rfl (x:=.ref TI) rfl (x0b (x1X hTI rfl ?_)));show wpAny _ _ (x1E (.ref z)>>=_) _ _ _;refine x0b ?_;unfold x1E;refine x0b (x1l hz rfl (x:=.none) rfl (x0h ?_));simp only [if_true];refine x0b (x2Y (x0b (x1l hz rfl (x:=.ref TO) rfl (x0b (x2f hz (by simp) fun g1 z1 s1=>?_)))))
 replace z1:IsZip g1 z TI TO .ellipsis:=z1
 refine x0b ?_;simp only [List.zipIdx_cons,List.zipIdx_nil,List.forIn_cons,List.forIn_nil];refine x0b (x0b (wpAny_onRaise ?_));show wpAny _ _ (x0X (.ref i1)>>=_) _ _ _;have h1':ItB b1 g1 i1 l1 k:=h1.at fun o e=>s1.extBut _ o D.a3 e;have hl1':SeB b1 g1 l1 xs:=hl1.at fun o e=>s1.extBut _ o m1 e
 have nz:∀{g:Heap} {e:Addr} {o:Obj},IsZip g z TI TO .ellipsis->g.get? e=some o->o.cls=.type "StopIteration"->e≠z:=fun {g e o} hz ho hc x=>by
   subst x;rw [hz] at ho;cases ho;exact absurd (show x1L "zip"=x1L "StopIteration" from hc) (by decide)
 cases hx:xs[k]? with
 | none =>
   refine x0b (a6f (s:={ s with heap:=g1 }) hh h1' hl1' hx fun g2 e s2 ⟨oe,hoe,hce⟩=>?_);have z2:IsZip g2 z TI TO .ellipsis:=s2 _ _ D.a3.symm z1;exact x2f z2 (by simp) fun g3 _ s3=>hE g3 e (fun c o c1 _ c3 _ x=>s3.extBut _ _ c1 (s2 _ _ c3 (s1.extBut _ _ c1 x))) ⟨oe,s3.extBut _ _ (nz z2 hoe hce) hoe,hce⟩
 | some x =>
   have hy:ys[k]?=none:=hend.elim (fun h=>by rw [hx] at h;cases h) id;refine x0b (a3q (s:={ s with heap:=g1 }) h1' hl1' hx fun g2 j2 s2=>x0h ?_);have t2:IsPair g2 TO a b:=s2.extBut _ _ D.a8 (s1.extBut _ _ D.a2 hTO);refine x0b (x1X t2 rfl (x0b (wpAny_updateSeq_pair (s:={ s with heap:=g2 }) t2 fun g3 t3 s3=>x0b (wpAny_letGo (x0h ?_)))));refine x0b (x0b (wpAny_onRaise ?_));show wpAny _ _ (x0X (.ref i2)>>=_) _ _ _;have up3:∀c o,c≠z->c≠i1->c≠TO->s.heap.get? c=some o->g3.get? c=some o:=fun c o c1 c2 c3 e=>s3.extBut _ o c3 (s2.extBut _ o c2 (s1.extBut _ o c1 e));refine x0b (a6f (s:={ s with heap:=g3 }) hh (h2.at fun o e=>up3 _ o D.a4 D.a10.symm D.a9.symm e) (hl2.at fun o e=>up3 _ o m2 m6 m4 e) hy fun g4 e s4 ⟨oe,hoe,hce⟩=>?_);have z4:IsZip g4 z TI TO .ellipsis:=s4 _ _ D.a4.symm (s3.extBut _ _ D.a2.symm (s2.extBut _ _ D.a3.symm z1));exact x2f z4 (by simp) fun g5 _ s5=>hE g5 e (fun c o c1 c2 c3 c4 x=>s5.extBut _ _ c1 (s4 _ _ c4 (up3 c o c1 c3 c2 x))) ⟨oe,s5.extBut _ _ (nz z4 hoe hce) hoe,hce⟩
end
noncomputable def itO (b:Bool)(l:Addr):Obj:=match b with | true=>{ cls:=.type "list_iterator",data:=.fields #[.ref l,.int 0 0] } | false=>{ cls:=.type "tuple_iterator",data:=.fields #[.ref l,.int 0 0] }
theorem a8d (b:Bool)(l:Addr):(itO b l).isFreed=false:=by cases b <;> rfl
theorem b4n {b:Bool}{h:Heap}{l a:Addr}(e:h.get? a=some (itO b l)):ItB b h a l 0:=by
 cases b with
 | true=>exact⟨_,e,rfl,rfl⟩
 | false=>exact⟨_,e,rfl,rfl⟩
theorem iterO {b:Bool}{prog:x0D}{w:World}{A:Around}{E:Value->Shared->Prop}{s:Shared}{t:Addr}{items:Array Value}{Q:Value->Shared->Prop}(ht:SeB b s.heap t items)(hQ:Q (.ref s.heap.objs.size) { s with heap:=s.heap.push (itO b t) }):wpAny (model prog w) A (pyIter (.ref t)) Q E s:=by
 cases b with
 | true=>exact x2Z ht hQ
 | false=>exact wpAny_pyIter_tuple ht hQ
noncomputable abbrev zh2 (h:Heap)(b1 b2:Bool)(l1 l2:Addr):Heap:=(h.push (itO b1 l1)).push (itO b2 l2)
noncomputable abbrev zh3 (h:Heap)(b1 b2:Bool)(l1 l2:Addr):Heap:=(zh2 h b1 b2 l1 l2).push { cls:=.type "tuple",data:=.seq #[.ref h.objs.size,.ref (h.push (itO b1 l1)).objs.size] }
noncomputable abbrev zh4 (h:Heap)(b1 b2:Bool)(l1 l2:Addr):Heap:=(zh3 h b1 b2 l1 l2).push { cls:=.type "tuple",data:=.seq #[.none,.none] }
noncomputable abbrev zh5 (h:Heap)(b1 b2:Bool)(l1 l2:Addr):Heap:=(zh4 h b1 b2 l1 l2).push { cls:=.type "zip",data:=.fields #[.none,.bool false,.bool false,.ref (zh2 h b1 b2 l1 l2).objs.size,.ref (zh3 h b1 b2 l1 l2).objs.size] }
theorem zipNew (b1 b2:Bool)(l1 l2:Addr)(xs ys:Array Value) :
   Meets (x3W.«zip.__new__» ⟨[.type "zip",.ref l1,.ref l2],[]⟩) (fun _ R s=>SeB b1 s.heap l1 xs/\SeB b2 s.heap l2 ys/\R (.ok (.ret (.ref (zh4 s.heap b1 b2 l1 l2).objs.size))) { s with heap:=zh5 s.heap b1 b2 l1 l2 }):=
 .of_wp fun prog w A R s hyp=>by
   obtain⟨hp,g,d,tk,os⟩:=s;obtain⟨k1,k2,fin⟩:=hyp;have hsub:=sub_zip;have L1:SeB b1 (Shared.heap ⟨hp,g,d,tk,os⟩) l1 xs:=k1;have L2:SeB b2 (Shared.heap ⟨hp.push (itO b1 l1),g,d,tk,os⟩) l2 ys:=k2.at fun o e=>x0c _ e
   wp_walk using iterO L1,iterO L2
   exact⟨_,rfl,fin⟩
section
variable {prog:x0D}{w:World}{A:Around}{E:Value->Shared->Prop}{s:Shared}
theorem zipB {b1 b2:Bool}{l1 l2:Addr}{xs ys:Array Value}{Q:Value->Shared->Prop}(hl1:SeB b1 s.heap l1 xs)(hl2:SeB b2 s.heap l2 ys)
   (h:∀h',IsZip h' (s.heap.objs.size + 4) (s.heap.objs.size + 2) (s.heap.objs.size + 3) .none->IsPair h' (s.heap.objs.size + 2) (.ref s.heap.objs.size) (.ref (s.heap.objs.size + 1))->
     IsPair h' (s.heap.objs.size + 3) .none .none->ItB b1 h' s.heap.objs.size l1 0->ItB b2 h' (s.heap.objs.size + 1) l2 0->(∀c o,s.heap.get? c=some o->h'.get? c=some o)->Q (.ref (s.heap.objs.size + 4)) { s with heap:=h' }) :
   wpAny (model prog w) A (call (.type "zip") [.ref l1,.ref l2]) Q E s:=by
 refine callType_new F.called_zip (by decide) (F.typeCall_zip_2 _ _) (F.newCall_zip_2 _ _) (fun obj=>F.args_object_init_3 obj _ _) F.entry_zip_new (zipNew b1 b2 l1 l2 xs ys) ⟨hl1,hl2,?_⟩;have z1:(s.heap.push (itO b1 l1)).objs.size=s.heap.objs.size + 1:=x1O ..;have z2:(zh2 s.heap b1 b2 l1 l2).objs.size=s.heap.objs.size + 2:=by rw [x1O,z1]
 have z3:(zh3 s.heap b1 b2 l1 l2).objs.size=s.heap.objs.size + 3:=by rw [x1O,z2]
 have z4:(zh4 s.heap b1 b2 l1 l2).objs.size=s.heap.objs.size + 4:=by rw [x1O,z3]
 have g5:(zh5 s.heap b1 b2 l1 l2).get? (zh4 s.heap b1 b2 l1 l2).objs.size=some _:=x0s _ rfl;have g4:(zh5 s.heap b1 b2 l1 l2).get? (zh3 s.heap b1 b2 l1 l2).objs.size=some _:=x0c _ (x0s _ rfl);have g3:(zh5 s.heap b1 b2 l1 l2).get? (zh2 s.heap b1 b2 l1 l2).objs.size=some _:=x0c _ (x0c _ (x0s _ rfl));have g2:(zh5 s.heap b1 b2 l1 l2).get? (s.heap.push (itO b1 l1)).objs.size=some _:=x0c _ (x0c _ (x0c _ (x0s _ (a8d b2 l2))));have g1:(zh5 s.heap b1 b2 l1 l2).get? s.heap.objs.size=some _:=x0c _ (x0c _ (x0c _ (x0c _ (x0s _ (a8d b1 l1)))));show _/\_;rw [z2,z3,z4] at g5;rw [z1,z2] at g3;rw [z3] at g4;rw [z1] at g2;rw [z4];exact⟨⟨_,g5,rfl⟩,h _ g5 g3 g4 (b4n g1) (b4n g2) fun c o x=>x0c _ (x0c _ (x0c _ (x0c _ (x0c _ x))))⟩
end
section
variable {X:Cx}
noncomputable def ItzB (b1 b2:Bool)(K:x0a)(a c:Addr):It:=
 ⟨fun i H=>∃xs ys x y,SqB b1 K H a xs/\SqB b2 K H c ys/\xs[i]?=some x/\ys[i]?=some y,
  fun i H x H'=>∃p u v,H p=none/\x=.ref p/\H'=upd H p (.tup [u,v])/\(∀xs,SqB b1 K H a xs->xs[i]?=some u)/\∀ys,SqB b2 K H c ys->ys[i]?=some v,
  fun i H=>∃xs ys,SqB b1 K H a xs/\SqB b2 K H c ys/\min xs.length ys.length<=i⟩
theorem a7Q {b:Bool}{h:Heap}{l e:Addr}{items:Array Value}{n:String}{o:Obj}(p:SeB b h l items)(he:h.get? e=some o)(hc:o.cls=.type n)(h1:n≠"list")(h2:n≠"tuple"):l≠e:=fun z=>by
 obtain⟨o',e1,c1⟩:=p.obj;rw [z,he] at e1;cases e1;rw [hc] at c1;rcases c1 with c1 | c1
 · exact h1 (x4R c1)
 · exact h2 (x4R c1)
theorem b3b {b:Bool}{l z TI TO i1 i2:Addr}{xs:List V}{pins:List (Addr×Obj)}{σ:St}{H:Hp}{s:Shared}{p q:Value}(I:Inv X pins σ H s)(hf:∀d∈[z,TI,TO,i1,i2],FpOk X pins H d)(hTO:IsPair s.heap TO p q)(hq:SqB b X.K H l xs):l≠TO:=fun zz=>by
 obtain⟨f0,f1,f2,f3,f4,f5⟩:=hf TO (by simp);subst zz;cases b with
 | true =>
   obtain⟨its,_,pl,_⟩:=I.list hq;obtain⟨o,e,c1,_⟩:=pl.isList;rw [hTO] at e;cases e;exact absurd (show x1L "tuple"=x1L "list" from c1) (by decide)
 | false =>
   rcases hq with hq | ⟨o,its,n,hk,hc1,hs,hz,r⟩
   · rcases hq with e | ⟨o,e⟩
     · rw [f0] at e;cases e
     · rw [f0] at e;cases e
   · have eb:X.base.get? l=some o:=I.ok.mod.kin l o hk;rcases f3 with f3 | f3
     · exact I.ok.noex l o eb f3
     · exact absurd (x0x (x0n eb) (x0I I.ok.bsz f3)) (x2C _)
theorem Inv.turnedAll {pins:List (Addr×Obj)}{σ:St}{H:Hp}{s:Shared}{h':Heap}{t':Nat}{ch:List Addr}(I:Inv X pins σ H s)(k:∀b o,b∉ch->s.heap.get? b=some o->h'.get? b=some o)(hf:∀b∈ch,FpOk X pins H b):Inv X pins σ H { s with heap:=h',toks:=t' }:=by
 have nch:∀b u,H b=some u->b∉ch:=fun b u e z=>by rw [(hf b z).1] at e;cases e
 refine I.step (g':=s.gens) (d':=s.drawn) (ch:=ch) (fun b hb=>⟨(hf b hb).2.2.2.1,(hf b hb).2.1,(hf b hb).2.2.2.2.1,(hf b hb).2.2.2.2.2⟩) (fun b o _ _ hc e _=>k b o hc e) (fun b o _ _ hc e _=>⟨o.slots,k b o hc e⟩) (fun _ _ _ _ n=>n)
   (fun b o hc e=>⟨o,k b o hc e⟩) (fun _ _ e=>e) (fun _ _ _ e=>e) (fun b ps e=>⟨#[],by rw [e];simp⟩) (fun z=>z) (fun m hm=>?_) (fun b u e=>?_) I.bare
 · obtain⟨o,es,ep,ho,r⟩:=hm;exact⟨o,es,ep,k _ o (fun z=>(hf _ z).2.1 rfl) ho,r⟩
 · refine(I.hok b u e).stay (fun c v hc q=>k c v ?_ q) (fun c q=>q) fun c ys q=>q;rcases hc with z | z
   · rw [z];exact nch b u e
   · exact nch c _ z
theorem a9C {b1 b2:Bool}{P:x0D}{w:World}{K:x0a}{elts:List Expr}{x1}{pos:Pos}(a c z TI TO i1 i2:Addr)(D:ZAp z TI TO i1 i2) :
   Turn P w K (.Tuple elts x1 pos) (ItzB b1 b2 K a c) [z,TI,TO,i1,i2] z (fun i h=>IsZip h z TI TO .none/\IsPair h TI (.ref i1) (.ref i2)/\(∃p q,IsPair h TO p q)/\ItB b1 h i1 a i/\ItB b2 h i2 c i) where
 mem:=by simp
 obj:=fun i h st e he=>by
   obtain⟨hz,h1,⟨p,q,h2⟩,h3,h4⟩:=st;obtain⟨o3,e3,_,d3⟩:=h3.obj;obtain⟨o4,e4,_,d4⟩:=h4.obj;have he':e=z\/e=TI\/e=TO\/e=i1\/e=i2:=by simpa using he
   rcases he' with rfl | rfl | rfl | rfl | rfl
   · exact⟨_,hz,fun v z=>by cases z⟩
   · exact⟨_,h1,fun v z=>by cases z⟩
   · exact⟨_,h2,fun v z=>by cases z⟩
   · exact⟨_,e3,d3⟩
   · exact⟨_,e4,d4⟩
 keep:=fun i h h' st k=>by
   obtain⟨hz,h1,⟨p,q,h2⟩,h3,h4⟩:=st;exact⟨k z (by simp) _ hz,k TI (by simp) _ h1,⟨p,q,k TO (by simp) _ h2⟩,h3.at fun o e=>k i1 (by simp) o e,h4.at fun o e=>k i2 (by simp) o e⟩
 item:=by
   intro X hP hw hK hc i pins s σ H E I hf st hg;subst hP hw hK;obtain⟨hz,hTI,⟨p,q,hTO⟩,h3,h4⟩:=st;obtain⟨xs,ys,x,y,hq1,hq2,hx,hy⟩:=hg;obtain⟨is1,rv1,p1,hz1⟩:=I.seqB hq1;obtain⟨is2,rv2,p2,hz2⟩:=I.seqB hq2;obtain⟨u,hu,ru⟩:=rv1.get hx;obtain⟨v,hv,rv⟩:=rv2.get hy;have ty:s.TypeIs (.ref z) "zip":=⟨_,hz,rfl⟩;unfold pyNext;refine x0b (wpAny_attempt (x1A (name:=x0g "__next__") ty x4G (x1C x4G ty F.entry_zip_next (b4H D (a7Q p1 hz rfl (by decide) (by decide)) (a7Q p2 hz rfl (by decide) (by decide)) (b3b I hf hTO hq1) (b3b I hf hTO hq2) (h3.ne p1) (h3.ne p2) hz hTI hTO h3 h4 p1 p2 (by simpa using hu) (by simpa using hv) fun h' a1 a2 a3 a4 a5 k=>x0h ?_) (F.args_zip_next_1 _))));refine⟨_,rfl,wpAny_letOwnedTupleGo_zip (s:={ s with heap:=h' }) a1 fun h'' z'' sb=>?_⟩;have lt:∀{d:Addr} {o:Obj},s.heap.get? d=some o->s.heap.objs.size≠d:=fun e=>x2w (x0n e);have ht'':h''.get? s.heap.objs.size=some { cls:=.type "tuple",data:=.seq #[u,v] }:=(sb.2 _ (lt hz)).trans a5
   have k':∀d o,d∉[z,TI,TO,i1,i2]->s.heap.get? d=some o->h''.get? d=some o:=fun d o hb q=>by
     have hb1:d≠z:=fun e=>hb (by simp [e]);exact(sb.2 d hb1).trans (k d o hb1 (fun e=>hb (by simp [e])) (fun e=>hb (by simp [e])) (fun e=>hb (by simp [e])) q)
   have I1:Inv X pins σ (upd H s.heap.objs.size (.tup [x,y])) { s with heap:=h'' }:=
     I.turnedNew (t':=s.toks) k' hf ⟨by show 2<=x0w;decide,[u,v],.cons ru (.cons rv .nil),⟨_,ht'',rfl,_,rfl⟩⟩
   obtain⟨o3,e3,_,_⟩:=h3.obj;obtain⟨o4,e4,_,_⟩:=h4.obj
   refine⟨.ref s.heap.objs.size,_,I1,rfl,⟨_,x,y,I.fresh,rfl,rfl,fun zs hzs=>by rw [I.seqB_inj hzs hq1];exact hx,fun zs hzs=>by rw [I.seqB_inj hzs hq2];exact hy⟩,
     ⟨z'',sb.extBut _ _ D.a1 (k _ _ D.a1 D.a5 D.a6 D.a7 hTI),⟨u,v,sb.extBut _ _ D.a2 a2⟩,a3.at fun o e=>sb.extBut _ o D.a3 e,a4.at fun o e=>sb.extBut _ o D.a4 e⟩,fun d hd=>?_⟩
   have hd':d=z\/d=TI\/d=TO\/d=i1\/d=i2:=by simpa using hd
   have hds:d≠s.heap.objs.size:=by
     rcases hd' with rfl | rfl | rfl | rfl | rfl
     · exact(lt hz).symm
     · exact(lt hTI).symm
     · exact(lt hTO).symm
     · exact(lt e3).symm
     · exact(lt e4).symm
   rw [a0e hds];exact(hf d hd).1
 done:=by
   intro X hP hw hK hc i pins s σ H E I hf st hg;subst hP hw hK;obtain⟨hz,hTI,⟨p,q,hTO⟩,h3,h4⟩:=st;obtain⟨xs,ys,hq1,hq2,hmin⟩:=hg;obtain⟨is1,rv1,p1,hz1⟩:=I.seqB hq1;obtain⟨is2,rv2,p2,hz2⟩:=I.seqB hq2;have l1:=rv1.length;have l2:=rv2.length;have ty:s.TypeIs (.ref z) "zip":=⟨_,hz,rfl⟩
   have hend:is1.toArray[i]?=none\/is2.toArray[i]?=none:=by
     rcases x4L xs.length ys.length with h | h
     · exact .inl (x3Q (by rw [x0p];omega))
     · exact .inr (x3Q (by rw [x0p];omega))
   unfold pyNext;refine x0b (wpAny_attempt (x1A (name:=x0g "__next__") ty x4G (x1C x4G ty F.entry_zip_next (zipEnd (A:=X.A.in1) (I.ok.hd hc) D (a7Q p1 hz rfl (by decide) (by decide)) (a7Q p2 hz rfl (by decide) (by decide)) (b3b I hf hTO hq1) (b3b I hf hTO hq2) (h3.ne p1) (h3.ne p2) hz hTI hTO h3 h4 p1 p2 hend fun h' e k he=>?_) (F.args_zip_next_1 _))));obtain⟨o,ho,hce⟩:=he;refine x0b (wpAny_isInstance (T:="StopIteration") (b:=true) ⟨o,ho,hce⟩ isSubtype_stop (x0h ⟨rfl,?_⟩));exact I.turnedAll (t':=s.toks) (ch:=[z,TI,TO,i1,i2]) (fun d o hd e=>k d o (fun z=>hd (by simp [z])) (fun z=>hd (by simp [z])) (fun z=>hd (by simp [z])) (fun z=>hd (by simp [z])) e) hf
 self:=fun _ _ _ _ _ st h=>wpAny_pyIter_zip st.1 h
end
end L2
end
section
namespace L2
open PySem PySem.Spec PyProof.Rows
section
variable {X:Cx}
noncomputable def iZipB (b1 b2:Bool)(K:x0a)(ta:TA):TI:=fun σ H R=>ta σ H fun vs H1=>∃a c,vs=[.ref a,.ref c]/\(∃xs,SqB b1 K H1 a xs)/\(∃ys,SqB b2 K H1 c ys)/\R (ItzB b1 b2 K a c) H1
theorem b5n (b1 b2:Bool){a b:Expr}{ta:TA}{p pos:Pos}{elts:List Expr}{x1}{tpos:Pos}(hg:Gl X "zip")(hm:X.mg "zip"=none)(ha:PA X [a,b] ta)(hs:x0Y [a,b] X.env=[(false,eval a X.env),(false,eval b X.env)]:=by rfl)(hs2:x0Y [b] X.env=[(false,eval b X.env)]:=by rfl) :
   PI X (.Tuple elts x1 tpos) (.Call (.Name "zip" p) [a,b] [] pos) (iZipB b1 b2 X.K ta):=by
 intro pins s σ H R I h;refine Call_ (a3z I hg hm boot_zip (x1w (thn (ha pos pins s σ H _ I h) fun us s1 ⟨vs,H1,I1,r1,q1⟩=>?_) (by rw [hs,hs2]) (by rw [hs2];rfl)));obtain⟨a,c,e,⟨xs,h1⟩,⟨ys,h2⟩,q⟩:=q1;subst e;cases r1 with
 | cons r rr =>
   cases rr with
   | cons r' rr =>
     cases rr;cases r;cases r';obtain⟨is1,rv1,p1,hz1⟩:=I1.seqB h1;obtain⟨is2,rv2,p2,hz2⟩:=I1.seqB h2;refine zipB p1 p2 fun h' e1 e2 e3 e4 e5 hk=>?_;refine wpAny_pyIter_zip e1 ?_;have I2:Inv X pins σ H1 { s1 with heap:=h' }:=I1.kept (t':=s1.toks) hk;refine⟨s1.heap.objs.size + 4,[s1.heap.objs.size + 4,s1.heap.objs.size + 2,s1.heap.objs.size + 3,s1.heap.objs.size,s1.heap.objs.size + 1],_,_,H1,rfl,I2,a9C a c _ _ _ _ _ ⟨by simp,by simp,by simp,by simp,by simp,by simp,by simp,by simp,by simp,by simp⟩,⟨e1,e2,⟨_,_,e3⟩,e4,e5⟩,fun d hd=>?_,q⟩
     have hd':s1.heap.objs.size<=d:=by
       simp only [x0i,x0V,or_false] at hd;rcases hd with rfl | rfl | rfl | rfl | rfl <;> omega
     exact I1.fpOk hd' (I1.hok.fresh hd')
end
end L2
namespace Pu
open PySem PySem.Spec L2
section
variable {T:PotK}{ι:Type}{K:x0a}{F:ι->Cx}{e a b tg:Expr}{pe pa pb:pE}{pos:Pos}
noncomputable def zipP (xs ys:List PV):List PV:=(xs.zip ys).map fun y=>.tup [y.1,y.2]
noncomputable def a8E (b:Bool):PV->Option (List PV)
 | .lst xs=>if b then some xs else none
 | .tup xs=>if b then none else some xs
 | _=>none
theorem b2l {b:Bool}{x:PV}{xs:List PV}(h:a8E b x=some xs):x=(match b with | true=>.lst xs | false=>.tup xs):=by
 cases x <;> cases b <;> simp [a8E] at h <;> simp [h]
theorem a9R {b:Bool}{x:PV}{xs:List PV}{G:Gh}{H:Hp}{v:V}(h:a8E b x=some xs)(r:Rep K G H x v):∃a vs,v=.ref a/\a∉G.M/\Reps K G H xs vs/\∀H2,(∀c o,c∉G.M->H c=some o->H2 c=some o)->SqB b K H2 a vs:=by
 rw [b2l h] at r;cases b with
 | true =>
   obtain⟨a,vs,e,t,r⟩:=r;exact⟨a,vs,e,t.1,r,fun H2 hk=>SqL.of (hk a _ t.1 t.2)⟩
 | false =>
   obtain⟨a,vs,e,t,r⟩:=r;exact⟨a,vs,e,t.1,r,fun H2 hk=>SqT.of (hk a _ t.1 t.2)⟩
noncomputable def qZip (b1 b2:Bool)(pa pb:pE):pA:=fun env n R=>pa env n fun x env1 n1=>pb env1 n1 fun y env2 n2=>match a8E b1 x,a8E b2 y with | some xs,some ys=>R (zipP xs ys) env2 n2 | _,_=>False
theorem a7G (xs ys:List PV):(zipP xs ys).length=min xs.length ys.length:=by simp [zipP]
theorem a7H {xs ys:List PV}{i:Nat}{x:PV}(h:(zipP xs ys)[i]?=some x):∃u v,xs[i]?=some u/\ys[i]?=some v/\x=.tup [u,v]:=by
 unfold zipP at h;rw [x0v] at h;cases e:(xs.zip ys)[i]? with
 | none=>rw [e] at h;cases h
 | some y =>
   rw [e] at h;obtain⟨h1,h2⟩:=List.getElem?_zip_eq_some.mp e;exact⟨y.1,y.2,h1,h2,(x0S h).symm⟩
theorem qi_zip (b1 b2:Bool){p:Pos}{elts:List Expr}{x1:Nat}{tpos:Pos}(hg:∀z,Gl (F z) "zip")(hm:∀z,(F z).mg "zip"=none)(ha:QE T K F a pa)(hb:QE T K F b pb)(hs:a0u a=true:=by rfl)(hs2:a0u b=true:=by rfl)(hK:∀z,(F z).K=K:=by intro _;rfl):QI T K F (.Tuple elts x1 tpos) (.Call (.Name "zip" p) [a,b] [] pos) (qZip b1 b2 pa pb):=by
 obtain⟨t,h1,h2⟩:=ha;obtain⟨u,h3,h4⟩:=hb;refine⟨_,fun z=>hK z▸b5n b1 b2 (hg z) (hm z) (a0n (h1 z) (a0n (h3 z) a0C (a0d hs2)) (a0d hs)) (by rw [a0d hs,a0d hs2];rfl) (by rw [a0d hs2];rfl),fun C G σ H env n R Q hK hT S hp k=>?_⟩;refine h2 C G σ H env n _ _ hK hT S hp fun x env1 n1 v H1 p1 S1 r1 f1=>?_;refine h4 C G σ H1 env1 n1 _ _ hK hT S1 p1 fun y env2 n2 w H2 p2 S2 r2 f2=>?_
 split at p2
 · rename_i xs ys ex ey;obtain⟨a,vs,rfl,na,ra,sa⟩:=a9R ex (r1.fr f2);obtain⟨c,us,rfl,nc,rc,scq⟩:=a9R ey r2;refine⟨a,c,rfl,⟨vs,sa H2 fun _ _ _ e=>e⟩,⟨us,scq H2 fun _ _ _ e=>e⟩,k _ _ _ _ _ p2 S2 (f1.trans f2) ?_⟩;intro G2 H3 hk hM hp hf;have ra':Reps K G2 H3 xs vs:=Reps.mono hk hM hp _ _ ra;have rc':Reps K G2 H3 ys us:=Reps.mono hk hM hp _ _ rc;refine⟨fun i x e=>?_,fun i hi=>⟨vs,us,sa H3 hk,scq H3 hk,by rw [<- ra.length,<- rc.length,<- a7G];exact hi⟩⟩;obtain⟨u,v,eu,ev,rfl⟩:=a7H e;obtain⟨u',eu',ru⟩:=ra'.get' eu;obtain⟨v',ev',rv⟩:=rc'.get' ev;refine⟨⟨vs,us,u',v',sa H3 hk,scq H3 hk,eu',ev'⟩,fun x' H4 y=>?_⟩;obtain⟨p,u2,v2,hn,rfl,rfl,y1,y2⟩:=y;have q1:=y1 vs (sa H3 hk);have q2:=y2 us (scq H3 hk);rw [eu'] at q1;rw [ev'] at q2;cases q1;cases q2;exact⟨Same.lay1 hn,a3c (hf p hn) hn (.cons ru (.one rv))⟩
 · exact p2.elim
end
end Pu
end
section
namespace Pu
open PySem PySem.Spec L2
theorem a2p {te:pE}{rest:Env}{α:Type}(f:α->PV)(g:α->PV):∀(xs:List α) (s0:Option Slot) (n:Nat) (R:List PV->Nat->Prop),(∀x∈xs,∀m Q,Q (g x) (some (.v (f x))::rest) m->te (some (.v (f x))::rest) m Q)->R (xs.map g) n->a6v (gN 0) qTru te (xs.map f) (s0::rest) n R:=by
 intro xq
 induction xq with
 | nil =>
   intro _ _ _ _ h;exact h
 | cons x xs ih =>
   intro s0 n R ht h;show te (some (.v (f x))::rest) n _;refine ht x x0e n _ ?_;exact ih _ n _ (fun y hy=>ht y (x0d _ hy)) h
end Pu
end
section
namespace L2
open PySem PySem.W PyProof.Rows
namespace Kr
noncomputable def run {α:Type}(lt:Nat->Nat->Bool):KasT α->α
 | .ret a=>a
 | .ask i j k=>run lt (k (lt i j))
theorem a2l {α β:Type}(lt:Nat->Nat->Bool)(f:α->KasT β):∀t:KasT α,run lt (t.bind f)=run lt (f (run lt t))
 | .ret a=>rfl
 | .ask i j k=>a2l lt f (k (lt i j))
structure Ord (lt:Nat->Nat->Bool):Prop where
 ir:∀a,lt a a=false
 tr:∀a b c,lt a b=true->lt b c=true->lt a c=true
 nt:∀a b c,lt a c=true->lt a b=true\/lt b c=true
variable {lt:Nat->Nat->Bool}(O:Ord lt)
include O
theorem Ord.as {a b:Nat}(h:lt a b=true):lt b a=false:=by
 cases e:lt b a with
 | false=>rfl
 | true=>have:=O.tr _ _ _ h e;rw [O.ir] at this;cases this
theorem Ord.le {a b c:Nat}(h1:lt b a=false)(h2:lt c b=false):lt c a=false:=by
 cases e:lt c a with
 | false=>rfl
 | true=>rcases O.nt c b a e with h | h <;> simp_all
theorem Ord.l1 {a b c:Nat}(h1:lt a b=true)(h2:lt c b=false):lt a c=true:=by
 rcases O.nt a c b h1 with h | h
 · exact h
 · rw [h2] at h;cases h
theorem Ord.l2 {a b c:Nat}(h1:lt b a=false)(h2:lt b c=true):lt a c=true:=by
 rcases O.nt b a c h2 with h | h
 · rw [h1] at h;cases h
 · exact h
omit O
noncomputable def g (p:Array Nat)(i:Nat):Nat:=p.getD i 0
theorem g_eq (p:Array Nat)(i:Nat):g p i=(p[i]?).getD 0:=by unfold g;rw [Array.getD_eq_getD_getElem?]
theorem a4I {p:Array Nat}{i j:Nat}(h:j<=p.size)(k:Nat):g (x2R p i j) k=if i<=k/\k < j then g p (i + j - 1 - k) else g p k:=by
 unfold x2R;rw [g_eq,getElem?_mirror_all h]
 split <;> rw [g_eq]
theorem g_bub {p:Array Nat}{k l:Nat}(h:k < p.size)(hl:l<=k)(i:Nat):g (bubble p k (k - l)) i=if i=l then g p k else if l < i/\i<=k then g p (i - 1) else g p i:=by
 rw [g_eq,getElem?_bubble h (k - l) (by omega),show k - (k - l)=l by omega]
 split
 · rw [g_eq]
 · split <;> rw [g_eq]
theorem a1L (p:Array Nat)(i j:Nat):(x2R p i j).size=p.size:=mirror_size _ _ _ _
theorem a2P (p:Array Nat)(i j:Nat):(x2R p i j).Perm p:=mirror_perm _ _ _ _
noncomputable def S (lt:Nat->Nat->Bool)(p:Array Nat)(k:Nat):Prop:=∀i j,i<=j->j < k->lt (g p j) (g p i)=false
noncomputable def D (lt:Nat->Nat->Bool)(p:Array Nat)(k:Nat):Prop:=∀i j,i<=j->j < k->lt (g p i) (g p j)=false
noncomputable def B (lt:Nat->Nat->Bool)(p:Array Nat)(a k:Nat):Prop:=∀i j,a<=i->i < k->a<=j->j < k->lt (g p i) (g p j)=false
include O
theorem S_succ {p:Array Nat}{n:Nat}(h:S lt p n)(hn:1<=n)(hl:lt (g p n) (g p (n - 1))=false):S lt p (n + 1):=by
 intro i j hij hj;rcases Nat.lt_succ_iff_lt_or_eq.mp hj with h1 | h1
 · exact h i j hij h1
 · subst h1;rcases Nat.lt_or_eq_of_le hij with h2 | h2
   · exact O.le (h i (j - 1) (by omega) (by omega)) hl
   · rw [h2];exact O.ir _
theorem b4B (p:Array Nat):∀(f n:Nat),1<=n->S lt p n->n<=run lt (x3Y p f n)/\run lt (x3Y p f n)<=n + f/\S lt p (run lt (x3Y p f n))/\(run lt (x3Y p f n)=n + f\/lt (g p (run lt (x3Y p f n))) (g p (run lt (x3Y p f n) - 1))=true):=by
 intro xq
 induction xq with
 | zero =>
   intro n hn h;exact⟨x0j _,x0j _,h,.inl rfl⟩
 | succ f ih =>
   intro n hn h;show n<=run lt (if lt (g p n) (g p (n - 1))=true then .ret n else x3Y p f (n + 1))/\run lt (if lt (g p n) (g p (n - 1))=true then .ret n else x3Y p f (n + 1))<=n + (f + 1)/\S lt p (run lt (if lt (g p n) (g p (n - 1))=true then .ret n else x3Y p f (n + 1)))/\(run lt (if lt (g p n) (g p (n - 1))=true then .ret n else x3Y p f (n + 1))=n + (f + 1)\/lt (g p (run lt (if lt (g p n) (g p (n - 1))=true then .ret n else x3Y p f (n + 1)))) (g p (run lt (if lt (g p n) (g p (n - 1))=true then .ret n else x3Y p f (n + 1)) - 1))=true);cases e:lt (g p n) (g p (n - 1)) with
   | true =>
     rw [if_pos rfl];exact⟨x0j _,by show n<=_;omega,h,.inr e⟩
   | false =>
     rw [if_neg (by simp)];obtain⟨h1,h2,h3,h4⟩:=ih (n + 1) (by omega) (S_succ O h hn e);exact⟨by omega,by omega,h3,h4.imp (fun x=>by omega) id⟩
theorem D_rev {p:Array Nat}{a n:Nat}(hn:n<=p.size)(h:D lt p n)(hb:B lt p a n):D lt (x2R p a n) n:=by
 intro i j hij hj;rw [a4I hn,a4I hn]
 by_cases c1:a<=i
 · rw [if_pos ⟨c1,by omega⟩,if_pos ⟨by omega,hj⟩];exact hb _ _ (by omega) (by omega) (by omega) (by omega)
 · rw [if_neg (by omega)]
   by_cases c2:a<=j
   · rw [if_pos ⟨c2,hj⟩];exact h _ _ (by omega) (by omega)
   · rw [if_neg (by omega)];exact h _ _ hij hj
theorem a6H {p:Array Nat}{n:Nat}(h:D lt p n)(hn:1<=n)(hl:lt (g p (n - 1)) (g p n)=false):D lt p (n + 1):=by
 intro i j hij hj;rcases Nat.lt_succ_iff_lt_or_eq.mp hj with h1 | h1
 · exact h i j hij h1
 · subst h1;rcases Nat.lt_or_eq_of_le hij with h2 | h2
   · exact O.le hl (h i (j - 1) (by omega) (by omega))
   · rw [h2];exact O.ir _
theorem b6b:∀(f:Nat) (p:Array Nat) (n q:Nat),q + 1<=n->n + f<=p.size->D lt p n->B lt p (n - (q + 1)) n->
   ∃p' n' q',run lt (x4w f p n q)=(p',n',q')/\p'.Perm p/\p'.size=p.size/\n<=n'/\n'<=n + f/\q' + 1<=n'/\D lt p' n'/\B lt p' (n' - (q' + 1)) n':=by
 intro xq
 induction xq with
 | zero =>
   intro p n q hq hs h hb;exact⟨p,n,q,rfl,x2v _,rfl,x0j _,x0j _,hq,h,hb⟩
 | succ f ih =>
   intro p n q hq hs h hb
   have one:∀p n,B lt p (n + 1 - (0 + 1)) (n + 1):=fun p n i j h1 h2 h3 h4=>by
     have:i=j:=by omega
     rw [this];exact O.ir _
   cases e:lt (g p n) (g p (n - 1)) with
   | true =>
     by_cases c:q > 0
     · have hd:=D_rev O (by omega:n<=p.size) h hb;have e1:g (x2R p (n - (q + 1)) n) n=g p n:=by rw [a4I (by omega),if_neg (by omega)]
       have e2:g (x2R p (n - (q + 1)) n) (n - 1)=g p (n - (q + 1)):=by rw [a4I (by omega),if_pos (by omega)];congr 1;omega
       have e3:lt (g p (n - (q + 1))) (g p n)=false:=O.as (O.l1 e (hb _ _ (by omega) (by omega) (by omega) (by omega)));obtain⟨p',n',q',a1,a2,a3,a4,a5,a6,a7,a8⟩:=ih (x2R p (n - (q + 1)) n) (n + 1) 0 (by omega) (by rw [a1L];omega) (a6H O hd (by omega) (by rw [e1,e2];exact e3)) (one _ _);refine⟨p',n',q',?_,a2.trans (a2P _ _ _),by rw [a3,a1L],by omega,by omega,a6,a7,a8⟩;show run lt (if lt (g p n) (g p (n - 1))=true then(if q > 0 then x4w f (x2R p (n - (q + 1)) n) (n + 1) 0 else x4w f p (n + 1) 0) else _)=_;rw [if_pos e,if_pos c];exact a1
     · obtain⟨p',n',q',a1,a2,a3,a4,a5,a6,a7,a8⟩:=ih p (n + 1) 0 (by omega) (by omega) (a6H O h (by omega) (O.as e)) (one _ _);refine⟨p',n',q',?_,a2,a3,by omega,by omega,a6,a7,a8⟩;show run lt (if lt (g p n) (g p (n - 1))=true then(if q > 0 then x4w f (x2R p (n - (q + 1)) n) (n + 1) 0 else x4w f p (n + 1) 0) else _)=_;rw [if_pos e,if_neg c];exact a1
   | false =>
     cases e':lt (g p (n - 1)) (g p n) with
     | true =>
       refine⟨p,n,q,?_,x2v _,rfl,x0j _,by omega,hq,h,hb⟩;show run lt (if lt (g p n) (g p (n - 1))=true then _ else KasT.ask (g p (n - 1)) (g p n) fun d=>if d=true then .ret (p,n,q) else x4w f p (n + 1) (q + 1))=_;rw [if_neg (by rw [e];simp)];show run lt (if lt (g p (n - 1)) (g p n)=true then .ret (p,n,q) else x4w f p (n + 1) (q + 1))=_;rw [if_pos e'];rfl
     | false =>
       have hb':B lt p (n + 1 - (q + 1 + 1)) (n + 1):=by
         have up:∀i,n - (q + 1)<=i->i < n->lt (g p i) (g p n)=false/\lt (g p n) (g p i)=false:=fun i h1 h2=>
           ⟨O.le e' (hb i (n - 1) h1 h2 (by omega) (by omega)),O.le (hb (n - 1) i (by omega) (by omega) h1 h2) e⟩
         intro i j h1 h2 h3 h4
         by_cases ci:i < n
         · by_cases cj:j < n
           · exact hb i j (by omega) ci (by omega) cj
           · rw [show j=n by omega];exact(up i (by omega) ci).1
         · rw [show i=n by omega]
           by_cases cj:j < n
           · exact(up j (by omega) cj).2
           · rw [show j=n by omega];exact O.ir _
       obtain⟨p',n',q',a1,a2,a3,a4,a5,a6,a7,a8⟩:=ih p (n + 1) (q + 1) (by omega) (by omega) (a6H O h (by omega) e') hb';refine⟨p',n',q',?_,a2,a3,by omega,by omega,a6,a7,a8⟩;show run lt (if lt (g p n) (g p (n - 1))=true then _ else KasT.ask (g p (n - 1)) (g p n) fun d=>if d=true then .ret (p,n,q) else x4w f p (n + 1) (q + 1))=_;rw [if_neg (by rw [e];simp)];show run lt (if lt (g p (n - 1)) (g p n)=true then .ret (p,n,q) else x4w f p (n + 1) (q + 1))=_;rw [if_neg (by rw [e'];simp)];exact a1
theorem S_of_D {p:Array Nat}{n:Nat}(hn:n<=p.size)(h:D lt p n):S lt (x2R p 0 n) n:=by
 intro i j hij hj;rw [a4I hn,a4I hn,if_pos ⟨by omega,hj⟩,if_pos ⟨by omega,by omega⟩];exact h _ _ (by omega) (by omega)
theorem a7K {p:Array Nat}{n nrem:Nat}(h1:1<=n)(hn:n<=nrem)(hs:nrem<=p.size)(h:D lt p n) :
   ∃m p',run lt (kas_tail3 n nrem p)=(m,p')/\p'.Perm p/\p'.size=p.size/\1<=m/\m<=nrem/\S lt p' m:=by
 obtain⟨a1,a2,a3,_⟩:=b4B O (x2R p 0 n) (nrem - n) n h1 (S_of_D O (by omega) h);refine⟨_,x2R p 0 n,?_,a2P _ _ _,a1L _ _ _,?_,?_,a3⟩
 · unfold kas_tail3;rw [a2l];rfl
 · omega
 · omega
theorem a4u {p:Array Nat}{n nrem:Nat}(h1:1<=n)(hn:n + 1<=nrem)(hs:nrem<=p.size)(h:D lt p (n + 1)) :
   ∃m p',run lt (kas_descPart n nrem p)=(m,p')/\p'.Perm p/\p'.size=p.size/\1<=m/\m<=nrem/\S lt p' m:=by
 obtain⟨p',n',q',a1,a2,a3,a4,a5,a6,a7,a8⟩:=b6b O (nrem - (n + 1)) p (n + 1) 0 (by omega) (by omega) h (fun i j h1 h2 h3 h4=>by
   have:i=j:=by omega
   rw [this];exact O.ir _)
 unfold kas_descPart;rw [a2l,a1];dsimp only
 by_cases c:q' > 0
 · rw [if_pos c];obtain⟨m,p2,b1,b2,b3,b4,b5,b6⟩:=a7K O (p:=x2R p' (n' - (q' + 1)) n') (n:=n') (nrem:=nrem) (by omega) (by omega) (by rw [a1L];omega) (D_rev O (by omega) a7 a8);exact⟨m,p2,b1,(b2.trans (a2P _ _ _)).trans a2,by rw [b3,a1L,a3],b4,b5,b6⟩
 · rw [if_neg c];obtain⟨m,p2,b1,b2,b3,b4,b5,b6⟩:=a7K O (p:=p') (n:=n') (nrem:=nrem) (by omega) (by omega) (by omega) a7;exact⟨m,p2,b1,b2.trans a2,by rw [b3,a3],b4,b5,b6⟩
theorem b3C {p:Array Nat}{n:Nat}(h1:1<=n)(hs:p.size=n):∃m p',run lt (kas_count n p)=(m,p')/\p'.Perm p/\p'.size=p.size/\1<=m/\m<=n/\S lt p' m:=by
 have s1:S lt p 1:=fun i j h2 h3=>by
   have:i=j:=by omega
   rw [this];exact O.ir _
 obtain⟨a1,a2,a3,a4⟩:=b4B O p (n - 1) 1 (x0j _) s1;unfold kas_count;rw [a2l];generalize run lt (x3Y p (n - 1) 1)=k at a1 a2 a3 a4 ⊢
 by_cases c:k=n
 · rw [if_pos (by rw [c];exact beq_self_eq_true n)];exact⟨k,p,rfl,x2v _,rfl,a1,by omega,a3⟩
 · rw [if_neg (by simpa using c)];have a5:lt (g p k) (g p (k - 1))=true:=a4.resolve_left (by omega)
   by_cases c1:k > 1
   · rw [if_pos c1];show ∃m p',run lt (if lt (g p 0) (g p (k - 1))=true then .ret (k,p) else kas_descPart k n (x2R p 0 k))=(m,p')/\_;cases e:lt (g p 0) (g p (k - 1)) with
     | true=>rw [if_pos rfl];exact⟨k,p,rfl,x2v _,rfl,a1,by omega,a3⟩
     | false =>
       rw [if_neg (by simp)]
       have al:∀i j,i < k->j < k->lt (g p i) (g p j)=false:=fun i j hi hj=>by
         have x1:=a3 j (k - 1) (by omega) (by omega);have x2:=a3 0 i (by omega) hi;exact O.le (O.le x1 e) x2
       have hd:D lt (x2R p 0 k) (k + 1):=by
         refine a6H O (fun i j hij hj=>?_) a1 ?_
         · rw [a4I (by omega),a4I (by omega),if_pos ⟨by omega,by omega⟩,if_pos ⟨by omega,hj⟩];exact al _ _ (by omega) (by omega)
         · rw [a4I (by omega),a4I (by omega),if_pos ⟨by omega,by omega⟩,if_neg (by omega)];exact O.as (O.l1 a5 (al _ _ (by omega) (by omega)))
       obtain⟨m,p2,b1,b2,b3,b4,b5,b6⟩:=a4u O (p:=x2R p 0 k) (n:=k) (nrem:=n) a1 (by omega) (by rw [a1L];omega) hd;exact⟨m,p2,b1,b2.trans (a2P _ _ _),by rw [b3,a1L],b4,b5,b6⟩
   · rw [if_neg c1];have hk:k=1:=by omega
     subst hk
     exact a4u O (x0j _) (by omega) (by omega) (a6H O (fun i j h2 h3=>by
       have:i=j:=by omega
       rw [this];exact O.ir _) (x0j _) (O.as a5))
theorem b2L {p:Array Nat}{k:Nat}(h:S lt p k):∀(f l r:Nat),l<=r->r<=k->r - l<=f->(∀i,i < l->lt (g p k) (g p i)=false)->(∀i,r<=i->i < k->lt (g p k) (g p i)=true)->
   run lt (x2K p k f l r)<=k/\(∀i,i < run lt (x2K p k f l r)->lt (g p k) (g p i)=false)/\(∀i,run lt (x2K p k f l r)<=i->i < k->lt (g p k) (g p i)=true):=by
 intro xq
 induction xq with
 | zero =>
   intro l r h1 h2 h3 h4 h5;have:l=r:=by omega
   subst this;exact⟨h2,h4,h5⟩
 | succ f ih =>
   intro l r h1 h2 h3 h4 h5
   by_cases c:l>=r
   · have:l=r:=by omega
     subst this;unfold x2K;rw [if_pos c];exact⟨h2,h4,h5⟩
   · have e:run lt (x2K p k (f + 1) l r)=run lt (if lt (g p k) (g p ((l + r) / 2))=true then x2K p k f l ((l + r) / 2) else x2K p k f ((l + r) / 2 + 1) r):=by
       conv=>lhs;unfold x2K
       rw [if_neg c];rfl
     rw [e];cases e2:lt (g p k) (g p ((l + r) / 2)) with
     | true =>
       rw [if_pos rfl];exact ih l ((l + r) / 2) (by omega) (by omega) (by omega) h4 fun i i1 i2=>O.l1 e2 (h _ _ i1 i2)
     | false =>
       rw [if_neg (by simp)];exact ih ((l + r) / 2 + 1) r (by omega) h2 (by omega) (fun i i1=>O.le (h i ((l + r) / 2) (by omega) (by omega)) e2) h5
theorem bin_ok:∀(f:Nat) (p:Array Nat) (k:Nat),k + f<=p.size->S lt p k->(run lt (kas_bin f p k)).Perm p/\(run lt (kas_bin f p k)).size=p.size/\S lt (run lt (kas_bin f p k)) (k + f):=by
 intro xq
 induction xq with
 | zero =>
   intro p k _ h;exact⟨x2v _,rfl,h⟩
 | succ f ih =>
   intro p k hs h;obtain⟨a1,a2,a3⟩:=b2L O h k 0 k (by omega) (x0j _) (by omega) (fun i z=>by omega) (fun i z z2=>by omega)
   have e:run lt (kas_bin (f + 1) p k)=run lt (kas_bin f (bubble p k (k - run lt (x2K p k k 0 k))) (k + 1)):=by
     show run lt ((x2K p k k 0 k).bind fun l=>kas_bin f (bubble p k (k - l)) (k + 1))=_;rw [a2l]
   rw [e];generalize run lt (x2K p k k 0 k)=l at a1 a2 a3 ⊢
   have hS:S lt (bubble p k (k - l)) (k + 1):=by
     intro i j hij hj;rw [g_bub (by omega) a1,g_bub (by omega) a1]
     by_cases ci:i=l
     · rw [if_pos ci]
       by_cases cj:j=l
       · rw [if_pos cj];exact O.ir _
       · rw [if_neg cj,if_pos ⟨by omega,by omega⟩];exact O.as (a3 _ (by omega) (by omega))
     · rw [if_neg ci]
       by_cases cj:j=l
       · rw [if_pos cj,if_neg (by omega)];exact a2 _ (by omega)
       · rw [if_neg cj]
         by_cases c2:l < j
         · rw [if_pos ⟨c2,by omega⟩]
           by_cases c3:l < i
           · rw [if_pos ⟨c3,by omega⟩];exact h _ _ (by omega) (by omega)
           · rw [if_neg (by omega)];exact h _ _ (by omega) (by omega)
         · rw [if_neg (by omega),if_neg (by omega)];exact h _ _ hij (by omega)
   obtain⟨b1,b2,b3⟩:=ih (bubble p k (k - l)) (k + 1) (by rw [bubble_size];omega) hS;exact⟨b1.trans (bubble_perm _ _ _),by rw [b2,bubble_size],by rw [show k + (f + 1)=k + 1 + f by omega];exact b3⟩
theorem sort_ok {n:Nat}(h1:1<=n):(run lt (x3m n)).Perm (List.toArray (x0N n))/\(run lt (x3m n)).size=n/\S lt (run lt (x3m n)) n:=by
 have hz:(List.toArray (x0N n)).size=n:=by simp
 obtain⟨m,p,a1,a2,a3,a4,a5,a6⟩:=b3C O (p:=List.toArray (x0N n)) h1 hz;unfold x3m;rw [a2l,a1];dsimp only
 by_cases c:m < n
 · rw [if_pos c,Nat.max_eq_left a4];obtain⟨b1,b2,b3⟩:=bin_ok O (n - m) p m (by omega) a6;rw [show m + (n - m)=n by omega] at b3;exact⟨b1.trans a2,by rw [b2,a3,hz],b3⟩
 · rw [if_neg c];have:m=n:=by omega
   subst this;exact⟨a2,by rw [<- hz,<- a3];rfl,a6⟩
omit O
noncomputable def InQ {α:Type}(n:Nat)(Q:α->Prop):KasT α->Prop
 | .ret a=>Q a
 | .ask i j k=>i < n/\j < n/\∀b,InQ n Q (k b)
theorem a2u {α β:Type}{n:Nat}{Q:α->Prop}{R:β->Prop}{f:α->KasT β}(hf:∀a,Q a->InQ n R (f a)):∀t:KasT α,InQ n Q t->InQ n R (t.bind f)
 | .ret a,h=>hf a h
 | .ask _ _ k,h=>⟨h.1,h.2.1,fun b=>a2u hf (k b) (h.2.2 b)⟩
noncomputable def En (n:Nat)(p:Array Nat):Prop:=0 < n/\∀x∈p,x < n
theorem En.g {n:Nat}{p:Array Nat}(h:En n p)(i:Nat):p.getD i 0 < n:=by
 by_cases c:i < p.size
 · rw [show p.getD i 0=p[i] by simp [Array.getD,c]];exact h.2 _ (Array.getElem_mem c)
 · rw [show p.getD i 0=0 by simp [Array.getD,c]];exact h.1
theorem En.perm {n:Nat}{p q:Array Nat}(h:En n p)(hp:q.Perm p):En n q:=⟨h.1,fun x hx=>h.2 x (hp.mem_iff.mp hx)⟩
theorem En.rev {n:Nat}{p:Array Nat}(h:En n p)(i j:Nat):En n (x2R p i j):=h.perm (a2P _ _ _)
theorem b4C {n:Nat}{p:Array Nat}(h:En n p):∀f m,InQ n (fun _=>True) (x3Y p f m):=by
 intro xq
 induction xq with
 | zero =>
   intro _;exact trivial
 | succ f ih =>
   intro m
   exact⟨h.g _,h.g _,fun b=>by
   cases b with
   | true=>exact trivial
   | false=>exact ih (m + 1)⟩
theorem b6c {n:Nat}:∀f p m q,En n p->InQ n (fun r=>En n r.1) (x4w f p m q):=by
 intro xq
 induction xq with
 | zero =>
   intro _ _ _ h;exact h
 | succ f ih =>
   intro p m q h
   exact⟨h.g _,h.g _,fun b=>by
   cases b with
   | true =>
     show InQ n _ (if q > 0 then _ else _)
     by_cases c:q > 0
     · rw [if_pos c];exact ih _ _ _ (h.rev _ _)
     · rw [if_neg c];exact ih _ _ _ h
   | false =>
     refine⟨h.g _,h.g _,fun d=>?_⟩;cases d with
     | true=>exact h
     | false=>exact ih _ _ _ h⟩
theorem a7L {n m k:Nat}{p:Array Nat}(h:En n p):InQ n (fun r=>En n r.2) (kas_tail3 m k p):=by
 unfold kas_tail3;refine a2u (Q:=fun _=>True) (fun a _=>?_) _ (b4C (h.rev _ _) _ _);exact(h.rev _ _:En n _)
theorem a4v {n m k:Nat}{p:Array Nat}(h:En n p):InQ n (fun r=>En n r.2) (kas_descPart m k p):=a2u (fun r hr=>by
   by_cases c:r.2.2 > 0
   · rw [if_pos c];exact a7L (hr.rev _ _)
   · rw [if_neg c];exact a7L hr) _ (b6c _ _ _ _ h)
theorem b3D {n k:Nat}{p:Array Nat}(h:En n p):InQ n (fun r=>En n r.2) (kas_count k p):=a2u (fun m _=>by
   by_cases c:(m == k)=true
   · rw [if_pos c];exact h
   · rw [if_neg c]
     by_cases c1:m > 1
     · rw [if_pos c1];refine⟨h.g _,h.g _,fun b=>?_⟩;cases b with
       | true=>exact h
       | false=>exact a4v (h.rev _ _)
     · rw [if_neg c1];exact a4v h) _ (b4C h _ _)
theorem b2M {n k:Nat}{p:Array Nat}(h:En n p):∀f l r,InQ n (fun _=>True) (x2K p k f l r):=by
 intro xq
 induction xq with
 | zero =>
   intro _ _;exact trivial
 | succ f ih =>
   intro l r;unfold x2K
   by_cases c:l>=r
   · rw [if_pos c];exact trivial
   · rw [if_neg c];refine⟨h.g _,h.g _,fun b=>?_⟩;cases b with
     | true=>exact ih _ _
     | false=>exact ih _ _
theorem bin_in {n:Nat}:∀f p k,En n p->InQ n (fun _=>True) (kas_bin f p k):=by
 intro xq
 induction xq with
 | zero =>
   intro _ _ _;exact trivial
 | succ f ih =>
   intro p k h;exact a2u (fun l _=>ih _ _ (h.perm (bubble_perm _ _ _))) _ (b2M h k 0 k)
theorem sort_in {n:Nat}(h1:1<=n):InQ n (fun _=>True) (x3m n):=a2u (fun r hr=>by
   by_cases c:r.1 < n
   · rw [if_pos c];exact bin_in _ _ _ hr
   · rw [if_neg c];exact trivial) _ (b3D ⟨h1,fun x hx=>by simpa using hx⟩)
theorem wp_run {α:Type}{lt:Nat->Nat->Bool}{n:Nat}{P:α->Prop}{ask:Nat->Nat->(Bool->Shared->Prop)->Shared->Prop}{Q:α->Shared->Prop}{s:Shared}(h:∀i j C,i < n->j < n->C (lt i j) s->ask i j C s):∀t:KasT α,InQ n P t->Q (run lt t) s->t.kasWp ask Q s
 | .ret a,_,q=>q
 | .ask i j k,hi,q=>h i j _ hi.1 hi.2.1 (wp_run h (k (lt i j)) (hi.2.2 _) q)
theorem out_ok {α:Type}(lt:α->α->Bool)(O:(∀a,lt a a=false)/\(∀a b c,lt a b=true->lt b c=true->lt a c=true)/\(∀a b c,lt a c=true->lt a b=true\/lt b c=true))(d:α)(xs:List α)(h1:1<=xs.length) :
   let p:=run (fun i j=>lt (xs.getD i d) (xs.getD j d)) (x3m xs.length)
   (p.toList.map fun i=>xs.getD i d).Perm xs/\(p.toList.map fun i=>xs.getD i d).Pairwise (fun a b=>lt b a=false):=by
 intro p;have OO:Ord fun i j=>lt (xs.getD i d) (xs.getD j d):=⟨fun a=>O.1 _,fun a b c=>O.2.1 _ _ _,fun a b c=>O.2.2 _ _ _⟩;obtain⟨a1,a2,a3⟩:=sort_ok OO h1;constructor
 · have hp:p.toList.Perm (x0N xs.length):=x3g.mp a1;have:=hp.map fun i=>xs.getD i d;refine this.trans (List.Perm.of_eq ?_)
   apply List.ext_getElem (by simp)
   intro i h2 h3;simp [h3]
 · rw [x2m];intro i j hi hj hij;have hi':i < p.size:=by simpa using hi
   have hj':j < p.size:=by simpa using hj
   have:=a3 i j (x4J hij) (by rw [<- a2];exact hj');simp only [List.getElem_map,Array.getElem_toList];have e1:g p i=p[i]:=by unfold g;simp [Array.getD,hi']
   have e2:g p j=p[j]:=by unfold g;simp [Array.getD,hj']
   have this':lt (xs.getD (g p j) d) (xs.getD (g p i) d)=false:=this;rw [e1,e2] at this';exact this'
end Kr
end L2
end
section
namespace L2
open PySem PySem.W PySem.Spec PyProof.Rows
noncomputable def a3p (lt:Nat->Nat->Bool)(vs:List Value):List Value:=if vs.length < 2 then vs else(Kr.run lt (x3m vs.length)).toList.map fun i=>vs.getD i x2L
section
variable {prog:x0D}{w:World}{A:Around}{E:Value->Shared->Prop}{s:Shared}
noncomputable def b3J (h h1:Heap)(a:Addr):Prop:=∀b o,b≠a->h.get? b=some o->h1.get? b=some o
theorem a8D {a:Addr}{vs:List Value}{n:Nat}{lt:Nat->Nat->Bool}{P:PySem.Fin->Shared->Prop}(ho:s.heap.get? a=some (seqObj "list" vs.toArray n))(h64:vs.length < 64)
   (hk:2<=vs.length->∀h1,b3J s.heap h1 a->∃κ,(∀Q:SortKind->Shared->Prop,Q κ { s with heap:=h1 }->wpAny (model prog w) A (keyKind' vs.toArray) Q E { s with heap:=h1 })/\∀i j (C:Bool->Shared->Prop),i < vs.length->j < vs.length->C (lt i j) { s with heap:=h1 }->kas_ask prog w A κ vs i j C { s with heap:=h1 })
   (h:∀h2 e,b3J s.heap h2 a->h2.get? a=some (seqObj "list" (a3p lt vs).toArray e)->P (.done (.ret .none)) { s with heap:=h2 }):wpAny (model prog w) A (x3W.«list.sort» ⟨[.ref a],[]⟩) P E s:=by
 have ha:a < s.heap.objs.size:=x0n ho;have hsz:vs.toArray.size=vs.length:=by simp
 rw [list_sort_plain];refine x0b (listItems_at ho rfl ?_);refine x0b (x3c ho rfl ?_ (by rw [hsz,x1k];omega) (x0L _));obtain⟨e1,ho1⟩:∃e1,(s.heap.update a (x0O fun _=>(#[]:Array Value))).get? a=some (seqObj "list" #[] e1):=⟨_,x2S ho fun _=>#[]⟩;refine x0b (seqEpoch_at ho1 rfl ?_);refine x0b (wpAny_newTuple ?_ (by show vs.length<=_;rw [x1k];omega));refine x0b (wpAny_newList ?_ (x0L _));refine x0W ?_;show wpAny (model prog w) A _ P E { s with heap:=((s.heap.update a (x0O fun _=>(#[]:Array Value))).push (seqObj "tuple" vs.toArray 0)).push (seqObj "list" #[] 0) };have ho3:=x0c (seqObj "list" #[] 0) (x0c (seqObj "tuple" vs.toArray 0) ho1)
 have k3:b3J s.heap (((s.heap.update a (x0O fun _=>(#[]:Array Value))).push (seqObj "tuple" vs.toArray 0)).push (seqObj "list" #[] 0)) a:=fun b o hb e=>
   x0c _ (x0c _ (((x1D s.heap a (x0O fun _=>(#[]:Array Value))).2 b hb).trans e))
 generalize ((s.heap.update a (x0O fun _=>(#[]:Array Value))).push (seqObj "tuple" vs.toArray 0)).push (seqObj "list" #[] 0)=h3 at ho3 k3 ⊢;dsimp only
 have last:∀out:Array Value,out.size=vs.length->out=(a3p lt vs).toArray->∃e,(h3.update a (x0O fun _=>out)).get? a=some (seqObj "list" (a3p lt vs).toArray e)/\b3J s.heap (h3.update a (x0O fun _=>out)) a:=fun out _ eo=>
   ⟨_,by rw [<- eo];exact x2S ho3 fun _=>out,fun b o hb e=>((x1D h3 a (x0O fun _=>out)).2 b hb).trans (k3 b o hb e)⟩
 by_cases h2:vs.toArray.size < 2
 · rw [if_pos h2,if_pos h2];refine x0b (x0h ?_);rw [StateT.run_pure];refine x0b (x0h ?_);dsimp only
   have eo:(arrOf (SortSt.mk' general' (vs.toArray.zip vs.toArray) #[] 7 none)).map (·.2)=(a3p lt vs).toArray:=by
     have e2:(arrOf (SortSt.mk' general' (vs.toArray.zip vs.toArray) #[] 7 none))=vs.toArray.zip vs.toArray:=rfl;rw [e2];unfold a3p;rw [if_pos (by omega)]
     apply Array.toList_inj.mp
     rw [Array.toList_map,Array.toList_zip];exact x4o (x0j _)
   obtain⟨e,x1,x2⟩:=last _ (by rw [eo];unfold a3p;rw [if_pos (by omega)];simp) eo;refine x0b (seqEpoch_at ho3 rfl ?_);refine x0b (x3c ho3 rfl ?_ (x0L _) (by rw [eo];unfold a3p;rw [if_pos (by omega),hsz,x1k];omega));simp only [bne_self_eq_false,x1v,if_false];exact x0h (h _ e x2 x1)
 · rw [if_neg h2,if_neg h2];have l2:2<=vs.length:=by omega
   obtain⟨κ,q1,q2⟩:=hk l2 h3 k3;refine x0b (q1 _ ?_);have wp:=Kr.wp_run (Q:=fun p s'=>p=Kr.run lt (x3m vs.length)/\s'={ s with heap:=h3 }) (P:=fun _=>True) q2 (x3m vs.length) (Kr.sort_in (by omega)) ⟨rfl,rfl⟩;refine x0b (x0F (kat_run (E:=E) (Q:=fun st' s'=>∃p:Array Nat,p.size=vs.length/\arrOf st'=p.map (kas_item (vs.toArray.zip vs.toArray))/\failedOf st'=none/\p=Kr.run lt (x3m vs.length)/\s'={ s with heap:=h3 }) rfl l2 h64 (fun p' st' s' a1 a2 a3 a4=>⟨p',a1,a2,a3,a4⟩) wp) ?_ fun _ _ e=>e);rintro⟨⟨⟩,st'⟩ s' ⟨p,hp,har,hf,ep,rfl⟩;dsimp only
   have eo:(arrOf st').map (·.2)=(a3p lt vs).toArray:=by
     rw [kat_snds rfl har,ep];unfold a3p;rw [if_neg (by omega)]
   have so:((arrOf st').map (·.2)).size=vs.length:=by rw [eo];unfold a3p;rw [if_neg (by omega),x0p,x0k,x1e,<- ep,hp]
   obtain⟨e,x1,x2⟩:=last _ so eo;refine x0b (seqEpoch_at ho3 rfl ?_);refine x0b (x3c ho3 rfl ?_ (x0L _) (by rw [so,x1k];omega));rw [hf];simp only [bne_self_eq_false,x1v,if_false];exact x0h (h _ e x2 x1)
theorem a5M {v:Value}{vs:List Value}{lt:Nat->Nat->Bool}{Q:Value->Shared->Prop}(h64:vs.length < 64)
   (hcol:∀(R:List Value->Shared->Prop),(∀h1 tk,(∀b o,s.heap.get? b=some o->h1.get? b=some o)->s.heap.objs.size<=h1.objs.size->R vs { s with heap:=h1,toks:=tk })->wpAny (model prog w) A.in1 (collect v) R E s)
   (hk:2<=vs.length->∀(A:Around) (E:Value->Shared->Prop) h1 tk,(∀b o,s.heap.get? b=some o->h1.get? b=some o)->∃κ,(∀Q:SortKind->Shared->Prop,Q κ { s with heap:=h1,toks:=tk }->wpAny (model prog w) A (keyKind' vs.toArray) Q E { s with heap:=h1,toks:=tk })/\∀i j (C:Bool->Shared->Prop),i < vs.length->j < vs.length->C (lt i j) { s with heap:=h1,toks:=tk }->kas_ask prog w A κ vs i j C { s with heap:=h1,toks:=tk })
   (h:∀h2 tk D e,(∀b o,s.heap.get? b=some o->h2.get? b=some o)->s.heap.objs.size<=D->h2.get? D=some (seqObj "list" (a3p lt vs).toArray e)->Q (.ref D) { s with heap:=h2,toks:=tk }) :
   wpAny (model prog w) A (call (.builtin "sorted") [v]) Q E s:=by
 refine Calls.call_function_entry kind_sorted plain_sorted entry_sorted (args_sorted1 _) ?_;unfold x3W.«sorted»;refine x0b (m:=checkCount "sorted" 1 1 _) (x0h ?_);refine x0b (hcol _ fun h1 tk k1 z1=>?_);refine x0b (wpAny_newList ?_ (by rw [x1k];omega));have hoL:(h1.push (seqObj "list" vs.toArray 0)).get? h1.objs.size=some (seqObj "list" vs.toArray 0):=x0s _ rfl;have kL:∀b o,s.heap.get? b=some o->(h1.push (seqObj "list" vs.toArray 0)).get? b=some o:=fun b o e=>x0c _ (k1 b o e);have ne:∀b o,s.heap.get? b=some o->b≠h1.objs.size:=fun b o e=>x0r (x0x (x0n e) z1);refine x0b (x0W (x1C slot_list_sort ⟨_,hoL,rfl⟩ entry_list_sort ?body (args_list_sort _)))
 case body=>
   refine a8D (lt:=lt) (s:={ s with heap:=h1.push (seqObj "list" vs.toArray 0),toks:=tk }) hoL h64 (fun l2 h3 k3=>?_) fun h3 e k3 e3=>?_
   · exact hk l2 _ _ h3 tk fun b o x=>k3 b o (ne b o x) (kL b o x)
   · exact⟨_,rfl,x0h ⟨_,rfl,h h3 tk _ e (fun b o x=>k3 b o (ne b o x) (kL b o x)) z1 e3⟩⟩
end
end L2
end
section
namespace L2
open PySem PySem.W PySem.Spec PyProof.Rows
noncomputable def a1x:Key->Key->Bool
 | .inl a,.inl b=>decide (a < b)
 | .inr a,.inr b=>decide (a.cps.toList < b.cps.toList)
 | .inl _,.inr _=>true
 | .inr _,.inl _=>false
noncomputable def lexK:List Key->List Key->Bool
 | [],[]=>false
 | [],_::_=>true
 | _::_,[]=>false
 | x::xs,y::ys=>if x=y then lexK xs ys else a1x x y
theorem b6i {a b:Str}(h:a.cps.toList=b.cps.toList):a=b:=by
 cases a;cases b
 congr 1
 exact Array.toList_inj.mp h
theorem a5q (x:Key):a1x x x=false:=by
 cases x with
 | inl a=>exact decide_eq_false (Int.lt_irrefl a)
 | inr a=>exact decide_eq_false (List.lt_irrefl _)
theorem b3i {x y z:Key}(h1:a1x x y=true)(h2:a1x y z=true):a1x x z=true:=by
 cases x <;> cases y <;> cases z <;> simp only [a1x,decide_eq_true_eq,reduceCtorEq] at * <;> first | omega | exact List.lt_trans h1 h2 | skip
theorem b0L {x y:Key}(h:x≠y):a1x x y=true\/a1x y x=true:=by
 cases x with
 | inl a =>
   cases y with
   | inl b =>
     have:a≠b:=fun e=>h (by rw [e]);simp only [a1x,decide_eq_true_eq];omega
   | inr b=>exact .inl rfl
 | inr a =>
   cases y with
   | inl b=>exact .inr rfl
   | inr b =>
     have hn:a.cps.toList≠b.cps.toList:=fun e=>h (by rw [b6i e]);simp only [a1x,decide_eq_true_eq]
     by_cases c:a.cps.toList < b.cps.toList
     · exact .inl c
     · by_cases c2:b.cps.toList < a.cps.toList
       · exact .inr c2
       · exact absurd (List.le_antisymm (List.not_lt.mp c2) (List.not_lt.mp c)) hn
theorem b0O:∀x:List Key,lexK x x=false:=by
 intro xq
 induction xq with
 | nil =>
   exact rfl
 | cons x xs ih =>
   show(if x=x then lexK xs xs else _)=false;rw [if_pos rfl,ih]
theorem a5s:∀{x y z:List Key},lexK x y=true->lexK y z=true->lexK x z=true
 | [],[],_,h,_=>by cases h
 | [],_::_,[],_,h=>by cases h
 | [],_::_,_::_,_,_=>rfl
 | _::_,[],_,h,_=>by cases h
 | _::_,_::_,[],_,h=>by cases h
 | x :: xs, y :: ys, z :: zs, h1, h2 => by
   change (if x=y then lexK xs ys else a1x x y)=true at h1
   change (if y=z then lexK ys zs else a1x y z)=true at h2
   show(if x=z then lexK xs zs else a1x x z)=true
   by_cases c1:x=y
   · rw [if_pos c1] at h1;subst c1
     by_cases c2:x=z
     · rw [if_pos c2] at h2 ⊢;exact a5s h1 h2
     · rw [if_neg c2] at h2 ⊢;exact h2
   · rw [if_neg c1] at h1
     by_cases c2:y=z
     · subst c2;rw [if_neg c1];exact h1
     · rw [if_neg c2] at h2;have h3:=b3i h1 h2
       by_cases c3:x=z
       · rw [c3,a5q] at h3;cases h3
       · rw [if_neg c3];exact h3
theorem a8a:∀{x y:List Key},x≠y->lexK x y=true\/lexK y x=true
 | [],[],h=>absurd rfl h
 | [],_::_,_=>.inl rfl
 | _::_,[],_=>.inr rfl
 | x :: xs, y :: ys, h => by
   show(if x=y then lexK xs ys else a1x x y)=true\/(if y=x then lexK ys xs else a1x y x)=true
   by_cases c:x=y
   · rw [if_pos c,if_pos c.symm];exact a8a fun e=>h (by rw [c,e])
   · rw [if_neg c,if_neg (fun e=>c e.symm)];exact b0L c
theorem b0N {x y z:List Key}(h:lexK x z=true):lexK x y=true\/lexK y z=true:=by
 by_cases c:x=y
 · subst c;exact .inr h
 · rcases a8a c with h1 | h1
   · exact .inl h1
   · exact .inr (a5s h1 h)
noncomputable def Al:List Key->List Key->Prop
 | .inl _::xs,.inl _::ys=>Al xs ys
 | .inr _::xs,.inr _::ys=>Al xs ys
 | _::_,_::_=>False
 | _,_=>True
noncomputable def KeyV:Key->Value->Prop
 | .inl i,v=>∃t,v=.int i t
 | .inr z,v=>∃t,v=.str z t
inductive a7F:List Key->List Value->Prop
 | nil:a7F [] []
 | cons {k v ks vs} (h:KeyV k v) (t:a7F ks vs):a7F (k::ks) (v::vs)
section
variable {prog:x0D}{w:World}{A:Around}{E:Value->Shared->Prop}{s:Shared}
variable {Q:Bool->Shared->Prop}
theorem a9k {x y:Key}{u v:Value}{xs ys:List Key}(hx:KeyV x u)(hy:KeyV y v)(al:Al (x::xs) (y::ys))(h:Q (decide (x=y)) s):wpAny (model prog w) A (eqBool u v) Q E s:=by
 cases x with
 | inl a =>
   cases y with
   | inl b =>
     obtain⟨t,rfl⟩:=hx;obtain⟨t',rfl⟩:=hy;refine wpAny_eqBool_int ?_
     have e:(a == b)=decide ((x2j a:Key)=.inl b):=by
       rw [x2g];exact decide_eq_decide.mpr ⟨fun e=>by rw [e],fun e=>by injection e⟩
     rw [e];exact h
   | inr b=>exact al.elim
 | inr a =>
   cases y with
   | inl b=>exact al.elim
   | inr b =>
     obtain⟨t,rfl⟩:=hx;obtain⟨t',rfl⟩:=hy;refine eqBool_str ?_
     have e:(a == b)=decide ((x0Q a:Key)=.inr b):=by
       rw [x2g];exact decide_eq_decide.mpr ⟨fun e=>by rw [e],fun e=>by injection e⟩
     rw [e];exact h
theorem lt_key {x y:Key}{u v:Value}{xs ys:List Key}{Q:Value->Shared->Prop}(hx:KeyV x u)(hy:KeyV y v)(al:Al (x::xs) (y::ys))(h:Q (.bool (a1x x y)) s):wpAny (model prog w) A (x1H .Lt u v) Q E s:=by
 cases x with
 | inl a =>
   cases y with
   | inl b =>
     obtain⟨t,rfl⟩:=hx;obtain⟨t',rfl⟩:=hy;exact PyProof.Rows.lt_int h
   | inr b=>exact al.elim
 | inr a =>
   cases y with
   | inl b=>exact al.elim
   | inr b =>
     obtain⟨t,rfl⟩:=hx;obtain⟨t',rfl⟩:=hy;exact PyProof.Rows.lt_str h
theorem a4l {x y:Key}{u v:Value}{xs ys:List Key}{b:Bool}(hx:KeyV x u)(hy:KeyV y v)(al:Al (x::xs) (y::ys))(h:Q (a1x x y) s):wpAny (model prog w) A (oneLt' b u v) Q E s:=by
 cases b with
 | false=>exact kat_one u v (lt_key hx hy al h)
 | true =>
   cases x with
   | inl a =>
     cases y with
     | inl b =>
       obtain⟨t,rfl⟩:=hx;obtain⟨t',rfl⟩:=hy;exact oneLt_int h
     | inr b=>exact al.elim
   | inr a =>
     cases y with
     | inl b=>exact al.elim
     | inr b =>
       obtain⟨t,rfl⟩:=hx;obtain⟨t',rfl⟩:=hy;exact oneLt_str h
theorem b5I {b fin:Bool}:∀{xs ys:List Key} {us vs:List Value} (i:Nat),a7F xs us->a7F ys vs->Al xs ys->fin=decide (us.length < vs.length)->Q (lexK xs ys) s->KatLex prog w A b fin Q (us.zip vs) i s:=by
 intro xs
 induction xs with
 | nil =>
   intro ys us vs i hx hy al hf h;cases hx;refine kat_nil ?_;cases hy with
   | nil=>rw [hf];exact h
   | cons _ _=>rw [hf];exact h
 | cons x xs ih =>
   intro ys us vs i hx hy al hf h;cases hx with
   | @cons _ u _ us' hx1 hx2 =>
     cases hy with
     | nil=>rw [List.zip_nil_right];refine kat_nil ?_;rw [hf];exact h
     | @cons y v ys' vs' hy1 hy2 =>
       rw [x1q];refine kat_cons (a9k hx1 hy1 al ?_);have h':Q (if x=y then lexK xs ys' else a1x x y) s:=h
       by_cases c:x=y
       · rw [decide_eq_true c];rw [if_pos c] at h';refine kat_yes (ih (i + 1) hx2 hy2 ?_ ?_ h')
         · cases x <;> cases y <;> first | exact al | exact al.elim
         · rw [hf,x0M,x0M];exact decide_eq_decide.mpr (by omega)
       · rw [decide_eq_false c];rw [if_neg c] at h';exact kat_no (a4l hx1 hy1 al h')
noncomputable def TupK (h:Heap)(v:Value)(ks:List Key):Prop:=∃a o items n,v=.ref a/\h.get? a=some o/\o.cls=.type "tuple"/\o.data=.seq items n/\a7F ks items.toList
theorem b6l {b:Bool}{u v:Value}{xs ys:List Key}(hx:TupK s.heap u xs)(hy:TupK s.heap v ys)(al:Al xs ys)(h:Q (lexK xs ys) s):wpAny (model prog w) A (keyLt' (tuples' b) u v) Q E s:=by
 obtain⟨a,o,items,n,rfl,ho,hc,hd,hk⟩:=hx;obtain⟨a',o',items',n',rfl,ho',hc',hd',hk'⟩:=hy;exact kat_lt ho hd ho' hd' (b5I 0 hk hk' al (by rw [x1e,x1e]) h)
end
end L2
end
section
namespace L2
open PySem PySem.W PySem.Spec PyProof.Rows
theorem a5t:∀{ks:List Key} {us:List Value},Vals (ks.map kV) us->a7F ks us
 | [],_,h=>by cases h;exact .nil
 | .inl i :: ks, _, h => by
   cases h with
   | cons h1 h2=>exact .cons h1 (a5t h2)
 | .inr z :: ks, _, h => by
   cases h with
   | cons h1 h2=>exact .cons h1 (a5t h2)
section
variable {X:Cx}
variable {kss:List (List Key)}{α β:Type}
theorem b4J {pins:List (Addr×Obj)}{σ:St}{H:Hp}{s:Shared}(I:Inv X pins σ H s){a:Addr}{ks:List Key}(h:SqT X.K H a (ks.map kV)):TupK s.heap (.ref a) ks:=by
 obtain⟨its,r,⟨o,ho,hc,n,hd⟩,_⟩:=I.tuple h;exact⟨a,o,its.toArray,n,rfl,ho,hc,hd,a5t r⟩
theorem TupK.keep {h h':Heap}{v:Value}{ks:List Key}(t:TupK h v ks)(k:∀b o,h.get? b=some o->h'.get? b=some o):TupK h' v ks:=by
 obtain⟨a,o,its,n,e,ho,hc,hd,hk⟩:=t;exact⟨a,o,its,n,e,k _ _ ho,hc,hd,hk⟩
noncomputable def KM (K:x0a)(H:Hp):Nat->V->List Key->Prop
 | 0,y,ks=>∃i,y=.int i/\ks=[.inl i]
 | 1,y,ks=>∃z,y=.str z/\ks=[.inr z]
 | _,y,ks=>∃a,y=.ref a/\SqT K H a (ks.map kV)/\ks≠[]
noncomputable def Kv1 (h:Heap):Nat->Value->List Key->Prop
 | 0,u,ks=>∃i t,u=.int i t/\ks=[.inl i]
 | 1,u,ks=>∃z t,u=.str z t/\ks=[.inr z]
 | _,u,ks=>TupK h u ks/\ks≠[]
noncomputable def ltIx (kss:List (List Key))(i j:Nat):Bool:=lexK (kss.getD i []) (kss.getD j [])
theorem a7Z (kss:List (List Key)):Kr.Ord (ltIx kss):=⟨fun _=>b0O _,fun _ _ _ h1 h2=>a5s h1 h2,fun _ _ _ h=>b0N h⟩
noncomputable def b6q (kss:List (List Key)):Prop:=∀x∈kss,∀y∈kss,Al x y
theorem kv1_of {pins:List (Addr×Obj)}{σ:St}{H:Hp}{s:Shared}(I:Inv X pins σ H s)(m:Nat){ys:List V}{vs:List Value}(a:Vals ys vs)(b:Paired (KM X.K H m) ys kss):Paired (Kv1 s.heap m) vs kss:=by
 induction a generalizing kss with
 | nil=>cases b;exact .nil
 | cons h1 _ ih => cases b with
   | cons h2 r2 =>
     refine .cons ?_ (ih r2);rcases m with _ | _ | m
     · obtain⟨i,e1,e2⟩:=h2;subst e1;obtain⟨t,rfl⟩:=h1;exact⟨i,t,rfl,e2⟩
     · obtain⟨i,e1,e2⟩:=h2;subst e1;obtain⟨t,rfl⟩:=h1;exact⟨i,t,rfl,e2⟩
     · obtain⟨a,e1,e2,e3⟩:=h2;subst e1;cases h1;exact⟨b4J I e2,e3⟩
theorem Kv1.keep {h h':Heap}(k:∀b o,h.get? b=some o->h'.get? b=some o)(m:Nat){u:Value}{ks:List Key}(x:Kv1 h m u ks):Kv1 h' m u ks:=by
 match m,x with
 | 0,x=>exact x
 | 1,x=>exact x
 | _ + 2,x=>exact⟨x.1.keep k,x.2⟩
theorem a1r {F:α->β->Prop}{xs:List α}{ys:List β}(h:Paired F xs ys)(d:α)(e:β):∀i,i < xs.length->F (xs.getD i d) (ys.getD i e):=by
 induction h with
 | nil=>intro i hi;exact absurd hi (Nat.not_lt_zero _)
 | cons h1 _ ih =>
   intro i hi;cases i with
   | zero=>exact h1
   | succ i=>exact ih i (Nat.lt_of_succ_lt_succ hi)
theorem a4i {F:α->β->Prop}{xs:List α}{ys:List β}(h:Paired F xs ys):∀x∈xs,∃y∈ys,F x y:=by
 induction h with
 | nil=>intro x hx;cases hx
 | cons h1 _ ih =>
   intro x hx;rcases x0i.mp hx with rfl | hx
   · exact⟨_,x0e,h1⟩
   · obtain⟨y,hy,hf⟩:=ih x hx;exact⟨y,x0d _ hy,hf⟩
theorem a6M {h:Heap}{m:Nat}{vs:List Value}(p:Paired (Kv1 h (m + 2)) vs kss):∃fs,KatTups h vs fs/\fs.length=vs.length/\∀f∈fs,∃k r,(k::r)∈kss/\KeyV k f:=by
 induction p with
 | nil=>exact⟨[],trivial,rfl,fun _ z=>nomatch z⟩
 | cons h1 _ ih =>
   obtain⟨⟨a,o,its,n,rfl,ho,hc,hd,hk⟩,hne⟩:=h1;obtain⟨fs,t,hl,hf⟩:=ih;cases e:its.toList with
   | nil=>rw [e] at hk;cases hk;exact absurd rfl hne
   | cons f us =>
     rw [e] at hk;cases hk with
     | @cons k _ ks _ h2 h3 =>
       have ef:its[0]?=some f:=by rw [<- Array.getElem?_toList,e];rfl
       refine⟨f::fs,KatTups.cons ho hc hd ef t,by rw [x0M,x0M,hl],fun g hg=>?_⟩;rcases x0i.mp hg with rfl | hg
       · exact⟨k,ks,x0e,h2⟩
       · obtain⟨k',r',h4,h5⟩:=hf g hg;exact⟨k',r',x0d _ h4,h5⟩
theorem a9I {prog:x0D}{w:World}{s:Shared}{m:Nat}{vs:List Value}(h2:2<=vs.length)(p:Paired (Kv1 s.heap m) vs kss)(al:b6q kss)(A:Around)(E:Value->Shared->Prop)(h1:Heap)(tk:Nat)(k:∀b o,s.heap.get? b=some o->h1.get? b=some o) :
   ∃κ,(∀Q:SortKind->Shared->Prop,Q κ { s with heap:=h1,toks:=tk }->wpAny (model prog w) A (keyKind' vs.toArray) Q E { s with heap:=h1,toks:=tk })/\∀i j (C:Bool->Shared->Prop),i < vs.length->j < vs.length->C (ltIx kss i j) { s with heap:=h1,toks:=tk }->kas_ask prog w A κ vs i j C { s with heap:=h1,toks:=tk }:=by
 have p1:Paired (Kv1 h1 m) vs kss:=Paired.imp' (fun _ _ x=>x.keep k m) p;have lk:=x3t p1
 have mem:∀i,i < vs.length->kss.getD i []∈kss:=fun i hi=>by
   rw [x1a,x0f (by omega)];exact x2c _
 match m,p1 with
 | 0, p1 =>
   refine⟨oneType',fun Q q=>kas_kind (T:=.type "int") h2 (fun v hv=>?_) rfl rfl q,fun i j C hi hj c=>?_⟩
   · obtain⟨ks,_,i,t,rfl,_⟩:=a4i p1 v hv;exact Looks.of_pure rfl
   · obtain⟨a,t,e1,e2⟩:=a1r p1 .none [] i hi;obtain⟨b,t',e3,e4⟩:=a1r p1 .none [] j hj;unfold kas_ask;unfold ltIx at c;rw [e1,e3,keyLt'_oneType];rw [e2,e4] at c;refine a4l (x:=.inl a) (y:=.inl b) (xs:=[]) (ys:=[]) ⟨t,rfl⟩ ⟨t',rfl⟩ trivial ?_
     have e:lexK [.inl a] [.inl b]=a1x (.inl a) (.inl b):=by
       show(if(x2j a:Key)=.inl b then false else a1x (.inl a) (.inl b))=_
       by_cases c:(x2j a:Key)=.inl b
       · rw [if_pos c,c,a5q]
       · rw [if_neg c]
     rw [<- e];exact c
 | 1, p1 =>
   refine⟨oneType',fun Q q=>kas_kind (T:=.type "str") h2 (fun v hv=>?_) rfl rfl q,fun i j C hi hj c=>?_⟩
   · obtain⟨ks,_,i,t,rfl,_⟩:=a4i p1 v hv;exact Looks.of_pure rfl
   · obtain⟨a,t,e1,e2⟩:=a1r p1 .none [] i hi;obtain⟨b,t',e3,e4⟩:=a1r p1 .none [] j hj;unfold kas_ask;unfold ltIx at c;rw [e1,e3,keyLt'_oneType];rw [e2,e4] at c;refine a4l (x:=.inr a) (y:=.inr b) (xs:=[]) (ys:=[]) ⟨t,rfl⟩ ⟨t',rfl⟩ trivial ?_
     have e:lexK [.inr a] [.inr b]=a1x (.inr a) (.inr b):=by
       show(if(x0Q a:Key)=.inr b then false else a1x (.inr a) (.inr b))=_
       by_cases c:(x0Q a:Key)=.inr b
       · rw [if_pos c,c,a5q]
       · rw [if_neg c]
     rw [<- e];exact c
 | m' + 2, p1 =>
   obtain⟨fs,kt,fl,hf⟩:=a6M p1
   have asks:∀b i j (C:Bool->Shared->Prop),i < vs.length->j < vs.length->C (ltIx kss i j) { s with heap:=h1,toks:=tk }->kas_ask prog w A (tuples' b) vs i j C { s with heap:=h1,toks:=tk }:=fun b i j C hi hj c=>by
     have x1:=a1r p1 .none [] i hi;have x2:=a1r p1 .none [] j hj;exact b6l (s:={ s with heap:=h1,toks:=tk }) x1.1 x2.1 (al _ (mem i hi) _ (mem j hj)) c
   obtain⟨f0,fr,rfl⟩:∃f0 fr,fs=f0::fr:=by
     cases fs with
     | nil=>rw [<- fl] at h2;exact absurd h2 (by simp)
     | cons a r=>exact⟨a,r,rfl⟩
   obtain⟨k0,r0,m0,v0⟩:=hf f0 x0e
   have all:∀T:String,(∀f k r,(k::r)∈kss->KeyV k f->typeOf f=pure (.type T))->∀v∈f0::fr,Looks (model prog w) h1 (typeOf v) (.type T):=fun T hT v hv=>by
     obtain⟨k,r,h3,h4⟩:=hf v hv;exact Looks.of_pure (hT v k r h3 h4)
   cases k0 with
   | inl i0 =>
     refine⟨tuples' (x1L "int" != x1L "tuple"),fun Q q=>kat_kind (s:={ s with heap:=h1,toks:=tk }) kt (by simp) (all "int" fun f k r h3 h4=>?_) rfl q,asks _⟩;cases k with
     | inl i=>obtain⟨t,rfl⟩:=h4;rfl
     | inr z=>exact(al _ m0 _ h3).elim
   | inr i0 =>
     refine⟨tuples' (x1L "str" != x1L "tuple"),fun Q q=>kat_kind (s:={ s with heap:=h1,toks:=tk }) kt (by simp) (all "str" fun f k r h3 h4=>?_) rfl q,asks _⟩;cases k with
     | inr i=>obtain⟨t,rfl⟩:=h4;rfl
     | inl z=>exact(al _ m0 _ h3).elim
noncomputable def outV (lt:Nat->Nat->Bool)(ys:List V):List V:=if ys.length < 2 then ys else(Kr.run lt (x3m ys.length)).toList.map fun i=>ys.getD i .non
theorem b2a {lt:Nat->Nat->Bool}{ys:List V}{vs:List Value}(r:Vals ys vs)(O:Kr.Ord lt):Vals (outV lt ys) (a3p lt vs):=by
 unfold outV a3p;rw [r.length]
 by_cases c:vs.length < 2
 · rw [if_pos c,if_pos c];exact r
 · rw [if_neg c,if_neg c];obtain⟨a1,a2,_⟩:=Kr.sort_ok O (n:=vs.length) (by omega)
   have hm:∀i∈(Kr.run lt (x3m vs.length)).toList,i < vs.length:=fun i hi=>by
     have:=(x3g.mp a1).mem_iff.mp hi
     simpa using this
   generalize (Kr.run lt (x3m vs.length)).toList=is at hm
   induction is with
   | nil=>exact .nil
   | cons i is ih =>
     refine .cons ?_ (ih fun j hj=>hm j (x0d _ hj));exact a1r r .non .none i (by rw [r.length];exact hm i x0e)
theorem a6y:a1W X (.builtin "sorted") (fun xs H Q=>∃p ys m kss,xs=[.ref p]/\SqL X.K H p ys/\ys.length < 64/\Paired (KM X.K H m) ys kss/\b6q kss/\∀l,H l=none->Q (.ref l) (upd H l (.lst (outV (ltIx kss) ys)))):=by
 intro pins s σ H xs us Q I r h;obtain⟨p,ys,m,kss,rfl,hq,h64,hp,al,q⟩:=h;obtain⟨u,rfl,rx⟩:=a6K r;cases rx;obtain⟨its,r',pl,hz⟩:=I.list hq;have hlen:=r'.length;have pk:=kv1_of I m r' hp;have O:=a7Z kss;refine a5M (vs:=its) (lt:=ltIx kss) (by omega) (fun R hR=>?_) (fun h2 A E h1 tk k=>a9I h2 pk al A E h1 tk k) fun h2 tk D e k hD ho=>?_
 · refine collect_list pl.isList (hR _ s.toks (fun b o e=>?_) ?_) (by omega)
   · have hlt:b < s.heap.objs.size:=x0n e;rw [Heap.get?_update_ne _ _ _ _ (x0r hlt)];exact x0c _ e
   · rw [Heap.size_update,size_push'];omega
 · have vo:=b2a r' O
   have hl:(outV (ltIx kss) ys).length<=x0w:=by
     unfold outV
     split
     · omega
     · rw [x0k,x1e,(Kr.sort_ok O (by omega)).2.1];omega
   exact⟨.ref D,_,I.laid (t':=tk) k hD (show a0U X.prog X.w _ h2 _ (.lst (outV (ltIx kss) ys)) from⟨hl,_,e,vo,ho⟩),rfl,q _ (I.hok.fresh hD)⟩
end
end L2
end
section
namespace Pu
open PySem PySem.Spec L2
noncomputable def kP:Key->PV
 | .inl i=>.int i
 | .inr z=>.str z
noncomputable def a6i:List PV->Option (List Key)
 | []=>some []
 | .int i::r=>(a6i r).map (.inl i::·)
 | .str z::r=>(a6i r).map (.inr z::·)
 | _=>none
noncomputable def keyP:PV->List Key
 | .int i=>[.inl i]
 | .str z=>[.inr z]
 | .tup xs=>(a6i xs).getD []
 | _=>[]
theorem a4r:∀ks:List Key,a6i (ks.map kP)=some ks
 | []=>rfl
 | .inl i::r=>by show(a6i (r.map kP)).map _=_;rw [a4r r];rfl
 | .inr i::r=>by show(a6i (r.map kP)).map _=_;rw [a4r r];rfl
theorem b3m (ks:List Key):keyP (.tup (ks.map kP))=ks:=by show(a6i (ks.map kP)).getD []=_;rw [a4r];rfl
theorem a3U {K:x0a}{G:Gh}{H:Hp}:∀(ks:List Key) {us:List V},Reps K G H (ks.map kP) us->us=ks.map kV
 | [],_,h=>h
 | .inl i :: r, _, h => by
   obtain⟨v,t,rfl,h1,h2⟩:=h;rw [a3U r h2,show v=.int i from h1];rfl
 | .inr i :: r, _, h => by
   obtain⟨v,t,rfl,h1,h2⟩:=h;rw [a3U r h2,show v=.str i from h1];rfl
section
variable {T:PotK}{ι:Type}{K:x0a}{F:ι->Cx}{e:Expr}{pe:pE}{pos:Pos}
variable {us:List V}
noncomputable def b4D (xs:List PV):Prop:=(∀x∈xs,∃i,x=.int i)\/(∀x∈xs,∃z,x=.str z)\/((∀x∈xs,∃ks,x=.tup (ks.map kP)/\ks≠[])/\∀x∈xs,∀y∈xs,Al (keyP x) (keyP y))
noncomputable def Srt (ys xs:List PV):Prop:=ys.Perm xs/\ys.Pairwise fun a b=>lexK (keyP b) (keyP a)=false
noncomputable def a5i (pe:pE):pA:=fun env n R=>pe env n fun x env1 n1=>match x with | .lst xs=>xs.length < 64/\b4D xs/\∀ys,Srt ys xs->R ys env1 n1 | _=>False
theorem a2y {G:Gh}{H:Hp}{P:PV->V->List Key->Prop}:∀(xs:List PV) {us:List V},Reps K G H xs us->(∀x∈xs,∀v,Rep K G H x v->P x v (keyP x))->Paired (fun v ks=>∃x,x∈xs/\P x v ks) us (xs.map keyP):=by
 intro xq
 induction xq with
 | nil =>
   intro _ h _;cases h;exact .nil
 | cons x xs ih =>
   intro _ h hP;obtain⟨v,t,rfl,h1,h2⟩:=h;refine .cons ⟨x,x0e,hP x x0e v h1⟩ ?_;exact Paired.imp' (fun v ks ⟨y,hy,hp⟩=>⟨y,x0d _ hy,hp⟩) (ih h2 fun y hy=>hP y (x0d _ hy))
theorem km_of {G:Gh}{H:Hp}{xs:List PV}(r:Reps K G H xs us)(h:b4D xs):∃m,Paired (KM K H m) us (xs.map keyP)/\b6q (xs.map keyP):=by
 rcases h with h | h | ⟨h,h'⟩
 · refine⟨0,Paired.imp' (fun v ks ⟨_,_,hp⟩=>hp) (a2y (P:=fun _ v ks=>KM K H 0 v ks) xs r fun x hx v hv=>?_),fun a ha b hb=>?_⟩
   · obtain⟨i,rfl⟩:=h x hx;exact⟨i,hv,rfl⟩
   · obtain⟨x,hx,rfl⟩:=x1M.mp ha;obtain⟨y,hy,rfl⟩:=x1M.mp hb;obtain⟨i,rfl⟩:=h x hx;obtain⟨j,rfl⟩:=h y hy;exact trivial
 · refine⟨1,Paired.imp' (fun v ks ⟨_,_,hp⟩=>hp) (a2y (P:=fun _ v ks=>KM K H 1 v ks) xs r fun x hx v hv=>?_),fun a ha b hb=>?_⟩
   · obtain⟨i,rfl⟩:=h x hx;exact⟨i,hv,rfl⟩
   · obtain⟨x,hx,rfl⟩:=x1M.mp ha;obtain⟨y,hy,rfl⟩:=x1M.mp hb;obtain⟨i,rfl⟩:=h x hx;obtain⟨j,rfl⟩:=h y hy;exact trivial
 · refine⟨2,Paired.imp' (fun v ks ⟨_,_,hp⟩=>hp) (a2y (P:=fun _ v ks=>KM K H 2 v ks) xs r fun x hx v hv=>?_),fun a ha b hb=>?_⟩
   · obtain⟨ks,rfl,hne⟩:=h x hx;obtain⟨a,vs,rfl,at',rr⟩:=hv;rw [b3m];refine⟨a,rfl,?_,hne⟩;rw [a3U ks rr] at at';exact SqT.of at'.2
   · obtain⟨x,hx,rfl⟩:=x1M.mp ha;obtain⟨y,hy,rfl⟩:=x1M.mp hb;exact h' x hx y hy
noncomputable def outP (xs:List PV):List PV:=if xs.length < 2 then xs else(Kr.run (ltIx (xs.map keyP)) (x3m xs.length)).toList.map fun i=>xs.getD i .non
theorem a8j (xs:List PV)(i:Nat):(xs.map keyP).getD i []=keyP (xs.getD i .non):=by
 rw [x1a,x1a,x0v];cases xs[i]? <;> rfl
theorem b5u (xs:List PV):Srt (outP xs) xs:=by
 unfold outP
 by_cases c:xs.length < 2
 · rw [if_pos c];refine⟨List.Perm.refl _,?_⟩
   match xs,c with
   | [],_=>exact .nil
   | [x],_=>exact List.pairwise_singleton _ _
 · rw [if_neg c]
   have e:ltIx (xs.map keyP)=fun i j=>lexK (keyP (xs.getD i .non)) (keyP (xs.getD j .non)):=by
     funext i j
     unfold ltIx;rw [a8j,a8j]
   rw [e];exact Kr.out_ok (fun a b:PV=>lexK (keyP a) (keyP b)) ⟨fun _=>b0O _,fun _ _ _ h1 h2=>a5s h1 h2,fun _ _ _ h=>b0N h⟩ .non xs (by omega)
theorem a9Q {G:Gh}{H:Hp}{xs:List PV}(r:Reps K G H xs us)(i:Nat)(hi:i < xs.length):Rep K G H (xs.getD i .non) (us.getD i .non):=by
 induction xs generalizing us i with
 | nil=>exact absurd hi (Nat.not_lt_zero _)
 | cons x xs ih =>
   obtain⟨v,t,rfl,h1,h2⟩:=r;cases i with
   | zero=>exact h1
   | succ i=>exact ih h2 i (Nat.lt_of_succ_lt_succ hi)
theorem b2q {G:Gh}{H:Hp}{xs:List PV}(r:Reps K G H xs us):Reps K G H (outP xs) (outV (ltIx (xs.map keyP)) us):=by
 unfold outP outV;have hl:us.length=xs.length:=r.length.symm;rw [hl]
 by_cases c:xs.length < 2
 · rw [if_pos c,if_pos c];exact r
 · rw [if_neg c,if_neg c];obtain⟨a1,a2,_⟩:=Kr.sort_ok (a7Z (xs.map keyP)) (n:=xs.length) (by omega)
   have hm:∀i∈(Kr.run (ltIx (xs.map keyP)) (x3m xs.length)).toList,i < xs.length:=fun i hi=>by
     have:=(x3g.mp a1).mem_iff.mp hi
     simpa using this
   generalize (Kr.run (ltIx (xs.map keyP)) (x3m xs.length)).toList=is at hm
   induction is with
   | nil=>exact rfl
   | cons i is ih=>exact⟨_,_,rfl,a9Q r i (hm i x0e),ih fun j hj=>hm j (x0d _ hj)⟩
theorem a5S {p:Pos}(hg:∀z,Gl (F z) "sorted")(hm:∀z,(F z).mg "sorted"=none)(ha:QR T K F e pe)(hs:a0u e=true:=by rfl)(hK:∀z,(F z).K=K:=by intro _;rfl):QN T K F (.Call (.Name "sorted" p) [e] [] pos) (a5i pe):=by
 obtain⟨t,h1,h2⟩:=ha;refine⟨_,fun z=>a2n (hK z▸a6y) (hg z) (hm z) a6B (a0n (h1 z) a0C (a0d hs)) (by decide) (by decide) (a0d hs),fun C G σ H env n R Q hK hT S hp k=>?_⟩;refine a7X h2 hK hT S hp fun x env1 n1 v H1 p1 S1 r1 f1=>?_;have rd:RdV K G H1 x v:=hK▸r1.rd S1;cases x with
 | lst xs =>
   obtain⟨h64,so,q⟩:=p1;obtain⟨a,us,rfl,hq,r⟩:=rd.lst;obtain⟨m,pk,al⟩:=km_of r so;have hl:us.length=xs.length:=r.length.symm;exact⟨a,us,m,xs.map keyP,rfl,hq,by omega,pk,al,fun l hl=>k _ _ _ _ _ _ (q _ (b5u xs)) S1 f1 hl (b2q r)⟩
 | _=>exact p1.elim
end
end Pu
end
section
namespace Pu
open PySem PySem.Spec L2
noncomputable def a3H {κ:Type}[DecidableEq κ](ks:List κ)(k:κ):List κ:=if k∈ks then ks else ks++[k]
noncomputable def a2z {κ α:Type}[DecidableEq κ](ks:List κ)(xs:List α)(k:κ)(x:α):List α:=if k∈ks then(ks.zip xs).map (fun p=>if p.1=k then x else p.2) else xs++[x]
theorem b5j {κ:Type}[DecidableEq κ]{ks:List κ}{vs:List V}(h:ks.length=vs.length)(k:κ)(v:V):putK (ks.zip vs) k v=(a3H ks k).zip (a2z ks vs k v):=by
 have any:((ks.zip vs).any fun kv=>decide (kv.1=k))=decide (k∈ks):=by
   clear v
   induction ks generalizing vs with
   | nil=>simp
   | cons a ks ih =>
     cases vs with
     | nil=>cases h
     | cons b vs =>
       rw [x1q,x3C,ih (by simpa using h)]
       by_cases c:a=k
       · subst c;simp
       · by_cases d:k∈ks
         · simp [d]
         · have:¬k=a:=fun e=>c e.symm;simp [c,d,this]
 unfold putK a3H a2z;rw [any]
 by_cases c:k∈ks
 · rw [if_pos (decide_eq_true c),if_pos c,if_pos c];clear any c
   induction ks generalizing vs with
   | nil=>simp
   | cons a ks ih =>
     cases vs with
     | nil=>cases h
     | cons b vs =>
       simp only [x1q,x0C];rw [ih (by simpa using h)]
       split <;> rfl
 · rw [if_neg (by simpa using c),if_neg c,if_neg c,x4H h];rfl
theorem put_len {κ α:Type}[DecidableEq κ]{ks:List κ}{xs:List α}(h:ks.length=xs.length)(k:κ)(x:α):(a3H ks k).length=(a2z ks xs k x).length:=by
 unfold a3H a2z
 by_cases c:k∈ks
 · rw [if_pos c,if_pos c,x0k,x3H];omega
 · rw [if_neg c,if_neg c,x0m,x0m,h];rfl
theorem b2p {κ:Type}[DecidableEq κ]{K:x0a}{G:Gh}{H:Hp}{ks:List κ}{xs:List PV}{vs:List V}(r:Reps K G H xs vs)(h:ks.length=xs.length)(k:κ){x:PV}{v:V}(rx:Rep K G H x v):Reps K G H (a2z ks xs k x) (a2z ks vs k v):=by
 unfold a2z
 by_cases c:k∈ks
 · rw [if_pos c,if_pos c];clear c
   induction ks generalizing xs vs with
   | nil=>exact rfl
   | cons a ks ih =>
     cases xs with
     | nil=>cases h
     | cons y ys =>
       obtain⟨u,t,rfl,h1,h2⟩:=r;refine⟨_,_,rfl,?_,ih h2 (by simpa using h)⟩;show Rep K G H (if a=k then x else y) (if a=k then v else u)
       by_cases d:a=k
       · rw [if_pos d,if_pos d];exact rx
       · rw [if_neg d,if_neg d];exact h1
 · rw [if_neg c,if_neg c];exact r.append ⟨v,[],rfl,rx,rfl⟩
noncomputable def tupP (ks:List Key):PV:=.tup (ks.map kP)
section
variable {T:PotK}{np:Bool}{ι:Type}{K:x0a}{F:ι->Cx}{e:Expr}{st:Stmt}{pe pk pv:pE}{pos:Pos}
theorem a3S {X:Cx}{i:Nat}{o ix v:Expr}{pos' pos:Pos}(hu:X.A.units + 1 < cLine)(ho:EW X o (tVar i))(hs:x4e v (some (.Subscript o ix pos')) pos.line X.env=pure false:=by rfl)(tv ti:TE)(hv:EW X v tv)(hi:EW X ix ti):SW X (.Assign [.Subscript o ix pos'] v pos) (b4T (tVar i) ti tv):=⟨a3g hu ho.h hi.h hv.h hs⟩
end
end Pu
end
section
namespace L2
open PySem PySem.Spec PyProof.Rows
theorem a5E:x1s "reversed"=some (.type "reversed"):=by decide +kernel
theorem a2N:isSubtype (.type "range_iterator") (.type "reversed")=pure false:=by rw [x4c];kernel_rfl
noncomputable def a8F (n:Int):Obj:={ cls:=.type "range_iterator",data:=.fields #[rawInt (0 + (n - 1) * 1),rawInt n,rawInt (-1)] }
section
variable {prog:x0D}{w:World}{A:Around}{E:Value->Shared->Prop}{s:Shared}
theorem a4E {r:Addr}{n:Int}{t u v:Tok}{Q:Value->Shared->Prop}(h0:0<=n)(h1:n<=1000000)(hr:s.heap.get? r=some { cls:=.type "range",data:=.fields #[.int 0 t,.int n u,.int 1 v] })
   (h:Q (.ref s.heap.objs.size) { s with heap:=s.heap.push (a8F n) }):wpAny (model prog w) A (call (.builtin "range.__reversed__") [.ref r]) Q E s:=by
 have hT:s.TypeIs (.ref r) "range":=⟨_,hr,rfl⟩;refine x1C F.slot_range_reversed hT F.entry_range_reversed ?_ (F.args_range_reversed_1 _);unfold x3W.«range.__reversed__»;refine x0b (x1U (a:=x1r r) rfl ?_);refine x0b ?_;unfold Builtin.Range.rangeFields;refine x0b (x1l hr rfl (x:=.int 0 t) rfl ?_);refine x0b (x1U (a:=some (0:Int)) rfl ?_);refine x0b (x1l hr rfl (x:=.int n u) rfl ?_);refine x0b (x1U (a:=some n) rfl ?_);refine x0b (x1l hr rfl (x:=.int 1 v) rfl ?_);refine x0b (x1U (a:=some (1:Int)) rfl ?_);refine x0h ?_
 have hs:x3u 0 n 1=n:=by
   unfold x3u;rw [if_pos (by decide),Int.ediv_one]
   split <;> omega
 dsimp only;rw [hs]
 have sm:(x1p 0 && x1p n && x1p 1 && x1p (-1) && x1p (0 - 1) && x1p n)=true:=by
   simp only [x1p,x2I,decide_eq_true_eq];omega
 rw [sm];simp only [Bool.not_true,x1v,if_false,if_true];exact x0b (x0T (x0h ⟨_,rfl,h⟩))
theorem a2F {r:Addr}{n:Int}{t u v:Tok}{Q:Value->Shared->Prop}(h0:0<=n)(h1:n<=1000000)(hr:s.heap.get? r=some { cls:=.type "range",data:=.fields #[.int 0 t,.int n u,.int 1 v] })
   (h:Q (.ref s.heap.objs.size) { s with heap:=s.heap.push (a8F n) }):wpAny (model prog w) A (call (.type "reversed") [.ref r]) Q E s:=by
 have hT:s.TypeIs (.ref r) "range":=⟨_,hr,rfl⟩;refine callType_other (U:="range_iterator") (Q₁:=fun obj s₁=>obj=.ref s.heap.objs.size/\s₁={ s with heap:=s.heap.push (a8F n) }) (by decide +kernel) F.create_reversed ⟨_,_,F.mro_reversed⟩ F.made_reversed a2N (F.typeCall_reversed_1 _) ?_ ?_
 · refine x4F ?_;show wpAny _ A.in1.in1 (do checkBuiltinCall "reversed.__new__" ⟨[.type "reversed",.ref r],[]⟩;again (.builtin "reversed.__new__" ⟨[.type "reversed",.ref r],[]⟩)) _ _ s;refine x0b (x1U (F.newCall_reversed_1 _) (x0h ⟨x4v F.plain_reversed_new _,x2u F.entry_reversed_new ?_⟩));rw [x1V F.plain_reversed_new _];unfold x3W.«reversed.__new__»;refine x0b (x1U (newClass_reversed _) ?_)
   try dsimp only
   refine x0b (x1U (a:=()) (by first | rfl | kernel_rfl) ?_);refine x0b (x1U (a:=()) (by first | rfl | kernel_rfl) ?_)
   try dsimp only
   refine x0b (wpAny_specialOf hT F.slot_range_reversed.lookup ?_)
   try dsimp only
   refine x0b (x1U (F.slot_range_reversed.bind _) ?_)
   try dsimp only
   first
   | rw [if_neg (show ¬((x4V "range.__reversed__" == x2L)=true) from x0E)]
   | (show wpAny _ _ (if(x4V "range.__reversed__" == x2L)=true then _ else _) _ _ _;rw [if_neg (show ¬((x4V "range.__reversed__" == x2L)=true) from x0E)])
   refine x0b (x2Y ?_);refine x0b (m:=runValue (.call (.builtin "range.__reversed__") ⟨[.ref r],[]⟩)) (show wpAny _ _ (call (.builtin "range.__reversed__") [.ref r]) _ _ _ from a4E h0 h1 hr ?_)
   first
   | exact x0h ⟨rfl,rfl⟩
   | exact x0b (x0h (x0h ⟨rfl,rfl⟩))
 · rintro obj s₁ ⟨rfl,rfl⟩;exact⟨⟨_,x0s _ rfl,rfl⟩,h⟩
end
section
variable {X:Cx}{tg:Expr}
noncomputable def tRng1 (ta:TA):TE:=fun σ H Q=>ta σ H fun vs H1=>∃j:Int,vs=[.int j]/\∀p,H1 p=none->Q (.ref p) (upd H1 p (.rng 0 j))
theorem b0n {a:Expr}{ta:TA}{p pos:Pos}(hg:Gl X "range")(hm:X.mg "range"=none)(ha:PA X [a] ta)(hs:x0Y [a] X.env=[(false,eval a X.env)]:=by rfl):PE X (.Call (.Name "range" p) [a] [] pos) (tRng1 ta):=by
 intro pins s σ H Q I h;refine Call_ (a3z I hg hm boot_range (x1w (thn (ha pos pins s σ H _ I h) fun us s1 ⟨vs,H1,I1,r1,q1⟩=>?_) hs rfl));obtain⟨j,e,q⟩:=q1;subst e;cases r1 with
 | cons r rr =>
   cases rr;obtain⟨t,rfl⟩:=r;refine call_range_1 ?_;exact⟨.ref s1.heap.objs.size,_,I1.laid (a:=s1.heap.objs.size) (o:=.rng 0 j) (fun b o e=>x0c _ e) (x0j _) ⟨_,_,_,x0s _ rfl⟩,rfl,q _ (I1.hok.fresh (x0j _))⟩
noncomputable def iRevR (ta:TA):TI:=fun σ H R=>ta σ H fun vs H1=>∃(r:Addr) (n:Int),vs=[.ref r]/\H1 r=some (.rng 0 n)/\0<=n/\n<=1000000/\R (Itd (n - 1) n.toNat) H1
theorem a7e {e:Expr}{ta:TA}{p pos:Pos}(hg:Gl X "reversed")(hm:X.mg "reversed"=none)(ha:PA X [e] ta)(hs:x0Y [e] X.env=[(false,eval e X.env)]:=by rfl):PI X tg (.Call (.Name "reversed" p) [e] [] pos) (iRevR ta):=by
 intro pins s σ H R I h;refine Call_ (a3z I hg hm a5E (x1w (thn (ha pos pins s σ H _ I h) fun us s1 ⟨vs,H1,I1,r1,q1⟩=>?_) hs rfl));obtain⟨r,n,e,hr,h0,h2,q⟩:=q1;subst e;cases r1 with
 | cons rr0 rr =>
   cases rr;cases rr0;obtain⟨t,u,v,ho⟩:=(show a0U X.prog X.w H1 s1.heap r (.rng 0 n) from I1.hok r _ hr);refine a2F h0 h2 ho ?_;have I2:Inv X pins σ H1 { s1 with heap:=s1.heap.push (a8F n) }:=I1.kept (t':=s1.toks) fun b o e=>x0c _ e
   have st:IsRangeIter (s1.heap.push (a8F n)) s1.heap.objs.size (n - 1 + ((0:Nat):Int) * -1) ((n.toNat:Int) - ((0:Nat):Int)) (-1):=by
     have e1:n - 1 + ((0:Nat):Int) * -1=0 + (n - 1) * 1:=by omega
     have e2:(n.toNat:Int) - ((0:Nat):Int)=n:=by omega
     rw [e1,e2];exact x0s _ rfl
   refine x3M (s:={ s1 with heap:=s1.heap.push (a8F n) }) st ?_;refine⟨s1.heap.objs.size,[s1.heap.objs.size],_,_,H1,rfl,I2,a9E _ (n - 1) n.toNat,st,fun b hb=>?_,q⟩;have e:b=s1.heap.objs.size:=by simpa using hb
   subst e;exact I1.fpOk (x0j _) (I1.hok.fresh (x0j _))
end
end L2
namespace Pu
open PySem PySem.Spec L2
section
variable {T:PotK}{ι:Type}{K:x0a}{F:ι->Cx}{tg e:Expr}{pe:pE}{pos:Pos}
noncomputable def a8K (pe:pE):pA:=fun env n R=>pe env n fun x env1 n1=>match x with | .int j=>(0<=j/\j<=1000000)/\R ((x0N j.toNat).map fun(k:Nat)=>PV.int (j - 1 - k)) env1 n1 | _=>False
theorem a1M {p p2 pos2:Pos}(hg:∀z,Gl (F z) "reversed")(hm:∀z,(F z).mg "reversed"=none)(hg2:∀z,Gl (F z) "range")(hm2:∀z,(F z).mg "range"=none)(h:QE T K F e pe)(hs:a0u e=true:=by rfl):QI T K F tg (.Call (.Name "reversed" p) [.Call (.Name "range" p2) [e] [] pos2] [] pos) (a8K pe):=by
 obtain⟨t,h1,h2⟩:=h;refine⟨_,fun z=>a7e (hg z) (hm z) (a0n (b0n (hg2 z) (hm2 z) (a0n (h1 z) a0C (a0d hs)) (a0d hs)) a0C (a0d rfl)) (a0d rfl),fun C G σ H env n R Q hK hT S hp k=>?_⟩;refine h2 C G σ H env n _ _ hK hT S hp fun x env1 n1 v H1 p1 S1 r1 f1=>?_;cases x with
 | int j =>
   refine⟨j,by rw [show v=.int j from r1],fun p hn=>⟨p,j,rfl,a0f,p1.1.1,p1.1.2,?_⟩⟩;exact k _ _ _ _ _ p1.2 (S1.same (Same.lay1 hn)) (f1.trans (Fr.of (Same.lay1 hn))) (b3q (j - 1) _)
 | _=>exact p1.elim
end
end Pu
end
section
namespace Pu
open PySem PySem.Spec L2
section
variable {T:PotK}{np:Bool}{ι:Type}{K:x0a}{F:ι->Cx}{e:Expr}{st:Stmt}{pe pk pv:pE}{pos:Pos}
noncomputable def keyV:PV->Option Key
 | .int i=>some (.inl i)
 | .str z=>some (.inr z)
 | _=>none
theorem a1R {G:Gh}{H:Hp}{x:PV}{v:V}{k:Key}(r:Rep K G H x v)(h:keyV x=some k):v=kV k:=by
 cases x <;> simp [keyV] at h <;> subst h <;> exact r
noncomputable def b2A (i:Nat):pS:=fun D env n=>D.nx (env.set i (some (.ow (.dk []) []))) n
theorem a9X (i:Nat)(h:∀z te,EW (F z) (.Dict [] [] pos) te->SW (F z) st (tAsg te (a1i i))):QS T np K F st (b2A i):=by
 refine⟨_,fun z=>(h z _ ⟨b2Q⟩).h,fun C G σ H env n PD D hK hT hn S hp L=>?_⟩;intro p hn1;exact L.nx _ _ _ _ _ hp (S.ow i (.dk []) (xs:=[]) (vs:=[]) hn1 rfl) (a2o hn1)
noncomputable def a4f (i:Nat)(pk pv:pE):pS:=fun D env n=>pv env n fun x env1 n1=>(∃ks xs,env1[i]?=some (some (.ow (.dk ks) xs)))/\pk env1 n1 fun y env2 n2=>match env2[i]?,keyV y with
 | some (some (.ow (.dk ks) xs)),some k=>ks.length=xs.length/\xs.length < 1000000/\D.nx (env2.set i (some (.ow (.dk (a3H ks k)) (a2z ks xs k x)))) n2
 | _,_=>False
theorem a2Q (i:Nat){v ix:Expr}(h:∀z tv ti,EW (F z) v tv->EW (F z) ix ti->SW (F z) st (b4T (tVar i) ti tv))(hv:QE T K F v pv)(hi:QE T K F ix pk):QS T np K F st (a4f i pk pv):=by
 obtain⟨tv,v1,v2⟩:=hv;obtain⟨ti,i1,i2⟩:=hi;refine⟨_,fun z=>(h z _ _ ⟨v1 z⟩ ⟨i1 z⟩).h,fun C G σ H env n PD D hK hT hn S hp L=>?_⟩;refine v2 C G σ H env n _ _ hK hT S hp fun x env1 n1 v H1 q1 S1 r1 f1=>?_;obtain⟨⟨ks0,xs0,e0⟩,q1⟩:=q1;obtain⟨a,vs,ev,h1,h2,h3,h4,r⟩:=S1.slots i _ e0;refine⟨.ref a,ev,?_⟩;refine i2 C G σ H1 env1 n1 _ _ hK hT S1 q1 fun y env2 n2 w H2 q2 S2 r2 f2=>?_
 split at q2
 · rename_i ks xs k ex ek;obtain⟨hl,hz,q3⟩:=q2;obtain⟨a',us,ev',g1,g2,g3,g4,r'⟩:=S2.slots i _ ex;rw [ev] at ev';cases ev';subst hK;have hlv:ks.length=us.length:=by rw [hl];exact r'.length
   have ew:=a1R r2 ek;subst ew;have rx:=r1.fr f2;obtain⟨S3,f3⟩:=S2.putO (.dk (a3H ks k)) ex ev (b2p r' hl k rx)
   have eH:upd H2 a (mkO (.dk (a3H ks k)) (a2z ks us k v))=upd H2 a (.dK (putK (ks.zip us) k v)):=by
     show upd H2 a (.dK ((a3H ks k).zip (a2z ks us k v)))=_;rw [b5j hlv]
   have zl:(ks.zip us).length < x0w:=by rw [x3H];unfold x0w;omega
   rw [eH] at S3 f3;exact⟨a,_,rfl,DPut.k g4 zl,L.nx _ _ _ _ _ q3 S3 (Ext.fr ((f1.trans f2).trans f3))⟩
 · exact q2.elim
end
end Pu
end
section
namespace Pu
open PySem PySem.Spec L2
section
variable {T:PotK}{np:Bool}{ι:Type}{K:x0a}{F:ι->Cx}{e:Expr}{st:Stmt}{pe pk pv:pE}{pos:Pos}
noncomputable def qMove (i j:Nat):pS:=fun D env n=>match env[j]? with | some (some (.ow k xs))=>D.nx ((env.set j none).set i (some (.ow k xs))) n | _=>False
noncomputable def b2z (i:Nat):pS:=fun D env n=>match env[i]? with | some (some (.ow (.dk ks) xs))=>ks.length=xs.length/\D.rt (.dct ks xs) n | _=>False
theorem b4W (i:Nat){x:Str}{p:Pos}(h:∀z,EW (F z) (.Name x p) (tVar i)):QS T np K F (.Return (some (.Name x p)) pos) (b2z i):=by
 refine⟨_,fun z=>a6a (h z).h,fun C G σ H env n PD D hK hT hn S hp L=>?_⟩;unfold b2z at hp
 split at hp
 · rename_i ks xs ex;obtain⟨hl,hp⟩:=hp;obtain⟨a,vs,ev,h1,h2,h3,h4,r⟩:=S.slots i _ ex;have hlv:ks.length=vs.length:=by rw [hl];exact r.length
   refine⟨.ref a,ev,L.rt _ _ _ _ _ _ _ hp S ⟨a,ks.zip vs,rfl,h2,h4,List.map_fst_zip (x2A hlv),?_⟩ Ext.refl⟩;rw [x4o (x2A hlv.symm)];exact Reps.mono (G':=⟨C.M0,G.pots⟩) (fun _ _ _ e=>e) (fun a ha=>.inl (S.sup a ha)) (fun _ _ e=>e) _ _ r
 · exact hp.elim
end
end Pu
end
section
namespace Pu
open PySem PySem.Spec L2
theorem SR.freezeK {C:Ct}{G:Gh}{σ:St}{H:Hp}{env:Env}{n:Nat}(S:SR C G σ H env n){i:Nat}{ks:List Key}{xs:List PV}(ex:env[i]?=some (some (.ow (.dk ks) xs)))(hl:ks.length=xs.length):∃G',SR C G' σ H (env.set i (some (.v (.dct ks xs)))) n/\Ext G H G' H:=by
 obtain⟨a,vs,ev,h1,h2,h3,h4,r⟩:=S.slots i _ ex;have hlv:ks.length=vs.length:=by rw [hl];exact r.length
 let G':Gh:=⟨G.M.filter (·≠a),G.pots⟩
 have sub:∀b∈G'.M,b∈G.M:=fun b hb=>(x1c.mp hb).1;have mm:∀{x:PV} {v:V},Rep C.K G H x v->Rep C.K G' H x v:=fun r=>Rep.mono (G':=G') (fun _ _ _ e=>e) (fun b hb=>.inl (sub b hb)) (fun _ _ e=>e) _ _ r;have mms:∀{x:List PV} {v:List V},Reps C.K G H x v->Reps C.K G' H x v:=fun r=>Reps.mono (G':=G') (fun _ _ _ e=>e) (fun b hb=>.inl (sub b hb)) (fun _ _ e=>e) _ _ r
 refine⟨G',{
   frame:=S.frame
   sub:=fun b hb=>S.sub b (sub b hb)
   sup:=fun b hb=>x1c.mpr ⟨S.sup b hb,decide_eq_true (show b≠a from fun z=>h2 (by rw [<- z];exact hb))⟩
   pots:=fun p hp=>⟨x1c.mpr ⟨(S.pots p hp).1,decide_eq_true (show p≠a from fun z=>h3 (by rw [<- z];exact hp))⟩,C.T.more (S.pots p hp).2 fun b hb=>.inl (sub b hb)⟩
   pre:=S.pre
   mu:=fun b hb=>S.mu b (sub b hb)
   slots:=fun j s es=>?_
   inj:=fun j k xs' ys b e1 e2 e3 e4=>?_
   p0:=S.p0
   len:=by rw [x0B];exact S.len
   newp:=S.newp },⟨fun _ _ _ e=>e,fun b hb=>.inl (sub b hb),fun _ _ e=>e⟩⟩
 · by_cases hj:i=j
   · subst hj;rw [x0t (x0l.mp ex).1] at es;cases es;refine⟨.ref a,ev,a,ks.zip vs,rfl,fun z=>by simpa using(x1c.mp z).2,h4,List.map_fst_zip (x2A hlv),?_⟩;rw [x4o (x2A hlv.symm)];exact mms r
   · rw [x0o hj] at es;have:=S.slots j s es;cases s with
     | v x =>
       obtain⟨v,e1,r⟩:=this;exact⟨v,e1,mm r⟩
     | ow kz zs =>
       obtain⟨b,us,e1,g1,g2,g3,g4,r⟩:=this;have hba:b≠a:=fun z=>hj (S.inj i j (.dk ks,xs) (kz,zs) a ex es ev (by rw [e1,z]));exact⟨b,us,e1,x1c.mpr ⟨g1,by simpa using hba⟩,g2,g3,g4,mms r⟩
 · have back:∀(j:Nat) (zs:OK×List PV),(env.set i (some (.v (.dct ks xs))))[j]?=some (some (Slot.ow zs.1 zs.2))->env[j]?=some (some (.ow zs.1 zs.2)):=by
     intro j zs h
     by_cases hj:i=j
     · subst hj;rw [x0t (x0l.mp ex).1] at h;cases h
     · rw [x0o hj] at h;exact h
   exact S.inj j k xs' ys b (back j _ e1) (back k _ e2) e3 e4
section
variable {T:PotK}{np:Bool}{ι:Type}{K:x0a}{F:ι->Cx}{st:Stmt}{p1:pS}
noncomputable def a3M (i:Nat)(p:pS):pS:=fun D env n=>match env[i]? with | some (some (.ow (.dk ks) xs))=>ks.length=xs.length/\p D (env.set i (some (.v (.dct ks xs)))) n | _=>False
theorem a8G (i:Nat)(h:QS T np K F st p1):QS T np K F st (a3M i p1):=by
 obtain⟨t,a1,a2⟩:=h;refine⟨t,a1,fun C G σ H env n PD D hK hT hn S hp L=>?_⟩;unfold a3M at hp
 split at hp
 · rename_i ks xs ex;obtain⟨G',S',x'⟩:=S.freezeK ex hp.1;exact a2 C G' σ H _ n PD D hK hT hn S' hp.2 (L.ext x')
 · exact hp.elim
end
end Pu
end
section
namespace L2
open PySem PySem.Spec PyProof.Rows
section
variable {prog:x0D}{w:World}{A:Around}{E:Value->Shared->Prop}{s:Shared}
theorem a3F {t:Addr}{its:Array Value}{ys:List Str}{k:Str}{tok:Tok}{j:Nat}{Q:Value->Shared->Prop}(ht:s.heap.IsTuple t its)(hS:StrsAre its.toList ys)(hj:ys[j]?=some k)(hlt:∀i,i < j->ys[i]?≠some k)(hsm:ys.length<=1000000)
   (h:∀tk,Q (.int j tk) { s with toks:=s.toks + 1 }):wpAny (model prog w) A (call (.builtin "tuple.index") [.ref t,.str k tok]) Q E s:=by
 obtain⟨o,ho,hc,n,hd⟩:=id ht;have hT:s.TypeIs (.ref t) "tuple":=⟨o,ho,hc⟩;refine x1C F.slot_tuple_index hT F.entry_tuple_index ?_ (F.args_tuple_index_2 _ _);unfold x3W.«tuple.index»;refine x0b (x1U (a:=(x1r t,[Value.str k tok])) rfl ?_);refine x0b (wpAny_tupleItemsOf ho hd ?_);dsimp only;refine x0b (x0h (x0b (x0h ?_)));refine x0b ?_;have hlen:ys.length=its.toList.length:=(StrsAre.length hS).symm
 have at_:∀(i:Nat) (y:Str),ys[i]?=some y->∃u,its[i]?=some (.str y u):=by
   intro i y hy
   have:∀{us:List Value} {zs:List Str},StrsAre us zs->∀(i:Nat),zs[i]?=some y->∃u,us[i]?=some (.str y u):=by
     intro us zs hh
     induction hh with
     | nil=>intro i h;cases h
     | cons x t _ ih =>
       intro i h;cases i with
       | zero=>cases h;exact⟨t,rfl⟩
       | succ i=>exact ih i (by simpa using h)
   obtain⟨u,hu⟩:=this hS i hy;exact⟨u,by rw [<- Array.getElem?_toList];exact hu⟩
 have hjl:j < its.size:=by
   have:=(x0l.mp hj).1;rw [hlen,x1e] at this;exact this
 rw [Std.Legacy.Range.forIn_eq_forIn_range'];refine wpAny_forIn_list _ (fun rest r s'=>r.1=none/\s'=s/\∃i,rest=List.range' i (its.size - i)/\i<=j) _ ?_ ?_ _ _ ⟨rfl,rfl,0,?_,x0L _⟩
 · rintro x rest ⟨r1,r2⟩ s' ⟨hr,rfl,i0,hi,hij⟩;have hil:its.size - i0=(its.size - i0 - 1) + 1:=by omega
   rw [hil,List.range'_succ] at hi;obtain⟨i,hxi⟩:∃i,x=i:=⟨x,rfl⟩;injection hi with h1 h2;subst h2;have hi0:i0=i:=by rw [<- hxi,h1]
   subst hi0;subst hxi;clear h1
   revert hij hil
   generalize x=i;intro hij hil;have hiy:i < ys.length:=by rw [hlen,x1e];omega
   obtain⟨u,hu⟩:=at_ i ys[i] (x0f hiy);rw [hu];dsimp only;refine x0b (eqBool_str ?_)
   by_cases c:i=j
   · subst c
     have:ys[i]=k:=by
       have:=x0f hiy;rw [hj] at this;exact(x0S this).symm
     rw [this,beq_self_eq_true,if_pos rfl];refine x0b (x0b (wpAny_mkInt (x0h (x0h ?_))));exact x0h ⟨_,rfl,h _⟩
   · have:ys[i]≠k:=fun e=>hlt i (by omega) (by rw [x0f hiy,e]);rw [beq_eq_false_iff_ne.mpr this,if_neg x0E];refine x0h ⟨rfl,rfl,i + 1,?_,by omega⟩;rw [show its.size - (i + 1)=its.size - i - 1 by omega]
 · rintro⟨r1,r2⟩ s' ⟨hr,rfl,i,hi,hij⟩;have hil:its.size - i=(its.size - i - 1) + 1:=by omega
   rw [hil,List.range'_succ] at hi;cases hi
 · simp [Std.Legacy.Range.size]
end
section
variable {X:Cx}
noncomputable def b3T (K:x0a):V->List V->Hp->VK->Prop:=fun x vs H Q=>∃(l:Addr) (k:Str) (ys:List Str) (j:Nat),x=.ref l/\vs=[.str k]/\SqT K H l (ys.map V.str)/\ys.length<=1000000/\ys[j]?=some k/\(∀i,i < j->ys[i]?≠some k)/\Q (.int j) H
theorem b3c:MtM X "tuple.index" (b3T X.K):=by
 intro pins s σ H x vs v us Q I rx rv h;obtain⟨l,k,ys,j,rfl,rfl,hq,hz0,hj,hlt,q⟩:=h;cases rx;obtain⟨u,rfl,ru⟩:=rv.one;obtain⟨t,rfl⟩:=ru;obtain⟨its,r,p,hz⟩:=I.tuple hq;exact a3F p (a3b r) hj hlt hz0 fun tk=>⟨.int j,H,I.tok _,⟨_,rfl⟩,q⟩
end
end L2
end
section
namespace Pu
open PySem PySem.Spec PyProof.Rows L2
section
variable {T:PotK}{ι:Type}{K:x0a}{F:ι->Cx}{e c:Expr}{pe pc:pE}{pos:Pos}
noncomputable def a3R:w2:=fun x y R=>match x,y with | .tup xs,.str k=>(match a3a xs with | some ys=>ys.length<=1000000/\∃j:Nat,ys[j]?=some k/\(∀i,i < j->ys[i]?≠some k)/\R (.int j) | none=>False) | _,_=>False
noncomputable def a3y (pe pc:pE):pE:=fun env n R=>pe env n fun x env1 n1=>(∃xs,x=.tup xs)/\pc env1 n1 fun y env2 n2=>a3R x y fun z=>R z env2 n2
theorem a2m {ap:Pos}(he:QE T K F e pe)(hc:QE T K F c pc)(hs:a0u c=true:=by rfl)(hbase:∀z,x2E e "index" (F z).env (eval e (F z).env)=eval e (F z).env:=by intro _;rfl)(hline:(ap.endLine == pos.line)=true:=by rfl)
   (hfew:∀z,((backTo pos (x0Y [c] (F z).env)).all (fun x=>!x.1) && (x4b pos (x2l [] (F z).env)).all (fun x=>x.1.isSome) && decide (([c]:List Expr).length + ([]:List x3h).length + (if([]:List x3h).isEmpty then 0 else 1) < 30))=true:=by intro _;rfl) (hK:∀z,(F z).K=K:=by intro _;rfl):QE T K F (.Call (.Attribute e "index" ap) [c] [] pos) (a3y pe pc):=by
 obtain⟨t,a1,a2⟩:=he;obtain⟨u,b1,b2⟩:=hc;refine⟨tBM K "tuple" (b3T K) t (a2M u tNil),fun z=>hK z▸b0p PySem.F.plainAttrs_tuple PySem.F.slot_tuple_index PySem.F.type_tuple_index b3c (a1 z) (a0n (b1 z) a0C (a0d hs)) (hbase z) (hfew z) hline (a0d hs),fun C G σ H env n R Q hK hT S hp k=>?_⟩;refine a2 C G σ H env n _ _ hK hT S hp fun x env1 n1 v H1 q1 S1 r1 f1=>?_;obtain⟨⟨xs,rfl⟩,q1⟩:=q1;obtain⟨a,vs,rfl,ta,ra⟩:=r1;refine⟨?_,?_⟩
 · exact .inr (.inl ⟨rfl,.inr ⟨vs,ta.2⟩⟩)
 refine b2 C G σ H1 env1 n1 _ _ hK hT S1 q1 fun y env2 n2 w H2 q2 S2 r2 f2=>?_;unfold a3R at q2
 split at q2
 · rename_i xs' kk e1;cases e1
   split at q2
   · rename_i ys ey;obtain⟨hz,j,hj,hlt,q3⟩:=q2;obtain⟨a',vs',e3,ta',ra'⟩:=(show Rep K G H1 (.tup xs) (.ref a) from⟨a,vs,rfl,ta,ra⟩).fr f2;cases e3;exact⟨a,kk,ys,j,rfl,by rw [show w=.str kk from r2],a2K ey ra'▸SqT.of ta'.2,hz,hj,hlt,k _ _ _ _ _ q3 S2 rfl (f1.trans f2)⟩
   · exact q2.elim
 · exact q2.elim
end
end Pu
end
section
namespace Pu
open PySem PySem.Spec L2
noncomputable def getP:List Key->List PV->Key->Option PV
 | k'::ks,x::xs,k=>if k'=k then some x else getP ks xs k
 | _,_,_=>none
theorem a3O {K:x0a}{G:Gh}{H:Hp}(k:Key):∀(kvs:List (Key×V)) (xs:List PV),Reps K G H xs (kvs.map (·.2))->(getP (kvs.map (·.1)) xs k=none/\valV kvs k=none)\/∃x v,getP (kvs.map (·.1)) xs k=some x/\valV kvs k=some v/\Rep K G H x v
 | [],xs,_=>.inl ⟨by cases xs <;> rfl,rfl⟩
 | (k',v')::kvs,[],h=>by cases h
 | (k', v') :: kvs, x :: xs, h => by
   obtain⟨v,t,e,h1,h2⟩:=h;rw [x0C] at e;injection e with e1 e2;subst e1;subst e2
   by_cases c:k'=k
   · refine .inr ⟨x,v',?_,?_,h1⟩
     · show(if k'=k then some x else _)=_;rw [if_pos c]
     · show(((k',v')::kvs).find? fun kv=>decide (kv.1=k)).map (·.2)=_;rw [List.find?_cons_of_pos (by exact decide_eq_true c)];rfl
   · have e1:getP (((k',v')::kvs).map (·.1)) (x::xs) k=getP (kvs.map (·.1)) xs k:=by
       show(if k'=k then some x else getP (kvs.map (·.1)) xs k)=_;rw [if_neg c]
     have e2:valV ((k',v')::kvs) k=valV kvs k:=by
       show(((k',v')::kvs).find? fun kv=>decide (kv.1=k)).map (·.2)=_;rw [x3R (by simpa using c)];rfl
     rw [e1,e2];exact a3O k kvs xs h2
noncomputable def b5h (pd pk pz:pE):pE:=fun env n R=>pd env n fun d env1 n1=>(∃ks xs,d=.dct ks xs)/\pk env1 n1 fun k env2 n2=>pz env2 n2 fun z env3 n3=>match d,keyV k with | .dct ks xs,some key=>R ((getP ks xs key).getD z) env3 n3 | _,_=>False
section
variable {T:PotK}{ι:Type}{K:x0a}{F:ι->Cx}{e c f:Expr}{pe pc pf:pE}{pos:Pos}
theorem b5a {k0:Nat}{ap:Pos}(hr:∀z,Room k0 (F z).A)(he:QE T K F e pe)(hc:QE T K F c pc)(hf:QE T K F f pf)(hm:∀z,M2 (F z) e "get" ap c f pos:=by intro _;exact⟨rfl,rfl,rfl,rfl⟩):QE T K F (.Call (.Attribute e "get" ap) [c,f] [] pos) (b5h pe pc pf):=by
 obtain⟨t,a1,a2⟩:=he;obtain⟨u,b1,b2⟩:=hc;obtain⟨w,c1,c2⟩:=hf;refine⟨b3M t u w,fun z=>b2S (a4H (hr z)) (a1 z) (b1 z) (c1 z) (hm z),fun C G σ H env n R Q hK hT S hp k=>?_⟩;refine a2 C G σ H env n _ _ hK hT S hp fun x env1 n1 v H1 q1 S1 r1 f1=>?_;obtain⟨⟨ks,xs,rfl⟩,q1⟩:=q1;obtain⟨a,kvs,rfl,hM,ha,ek,rx⟩:=r1;refine⟨a,rfl,.inl ⟨kvs,.inl ha⟩,?_⟩;refine b2 C G σ H1 env1 n1 _ _ hK hT S1 q1 fun y env2 n2 v2 H2 q2 S2 r2 f2=>?_;refine c2 C G σ H2 env2 n2 _ _ hK hT S2 q2 fun z env3 n3 v3 H3 q3 S3 r3 f3=>?_
 split at q3
 · rename_i ks' xs' key e1 e2;cases e1;have ha3:H3 a=some (.dK kvs):=f3 a _ hM (f2 a _ hM ha);have rx3:Reps K G H3 xs (kvs.map (·.2)):=(rx.fr f2).fr f3;rw [a1R r2 e2];refine⟨valV kvs key,DGet.k ha3,?_⟩;rw [<- ek] at q3;rcases a3O key kvs xs rx3 with⟨g1,g2⟩ | ⟨x,v,g1,g2,g3⟩
   · rw [g1] at q3;rw [g2];exact k _ _ _ _ _ q3 S3 r3 ((f1.trans f2).trans f3)
   · rw [g1] at q3;rw [g2];exact k _ _ _ _ _ q3 S3 g3 ((f1.trans f2).trans f3)
 · exact q3.elim
end
end Pu
end
section
namespace Pu
open PySem PySem.Spec L2
noncomputable def frzS:Slot->Option Slot
 | .v x=>some (.v x)
 | .ow .lst xs=>some (.v (.lst xs))
 | .ow (.dk ks) xs=>if ks.length=xs.length then some (.v (.dct ks xs)) else none
 | .ow (.dt _) _=>none
 | .ow (.st _) _=>none
noncomputable def frz (env:Env):Env:=env.map fun o=>o.bind frzS
end Pu
end
section
namespace L2
open PySem PySem.Spec PyProof.Rows
theorem a9p {P:x0D}{w:World}{h:Heap}{a:Addr}(e:h.get? a=some { cls:=.type "dict",data:=.dict #[] }):h.DictOf (a0p P w) a []:=by
 obtain⟨o,ho,r⟩:=x1B.mp (x4W (knd:=a0p P w) h);rw [x0s _ rfl] at ho;cases ho;exact x1B.mpr ⟨_,e,r⟩
theorem a6t {prog:x0D}{w:World}{A:Around}{R:Result->Shared->Prop}{s:Shared}{kx vx target iter:Expr}{ifs:List Expr}{scope:Scope}{pos:Pos}{it:Value}{D:Addr}{env:Env}(I:Nat->Shared->Prop)
   (turn:∀n s,I n s->wpAny (model prog w) A (pyNext it) (fun r s₁=>match r with
     | none=>R (.ok .next) s₁
     | some v=>wpAny (model prog w) A (x1P target it v) (fun _ s₁'=>wpAny (model prog w) A (assign target env v) (fun _ s₂=>
         wpAny (model prog w) A (forIn ifs true fun c r=>if r=true then do let ok ← isTrue c env (eval c env);pure (x1J ok) else pure (x1J r)) (fun ok s₃=>
           if ok=true then wpAny (model prog w) A (eval kx env) (fun kv s₄=>wpAny (model prog w) A (eval vx env) (fun vv s₅=>
             wpAny (model prog w) A (dictSet D kv vv) (fun _ s₆=>∃m,m < n/\I m s₆) (fun _ _=>False) s₅) (fun _ _=>False) s₄) (fun _ _=>False) s₃
           else ∃m,m < n/\I m s₃) (fun _ _=>False) s₂) (fun _ _=>False) s₁') (fun _ _=>False) s₁) (fun _ _=>False) s)
   (n:Nat) (h:I n s):x2q (model prog w) A (.compLoop (.DictComp kx vx [⟨target,iter,ifs,0⟩] scope pos) 0 it (.ref D) env) R s:=by
 refine codeAny_loop rfl I (fun n s hI=>?_) n h;show wpAny _ A ((compTurn (.DictComp kx vx [⟨target,iter,ifs,0⟩] scope pos) 0 it (.ref D) env).onRaise (fun x=>do noteFrame x env;x4C x)) _ _ s;refine wpAny_noted ?_;rw [compTurn_dict];refine x0b (x1G (x0b (x0F (turn n s hI) (fun r s₁ h₁=>?_) fun _ _ h'=>h'.elim)));cases r with
 | none=>exact x0h h₁
 | some v =>
   refine x0b (x0F h₁ (fun _ s₁' h₁'=>?_) fun _ _ h'=>h'.elim);refine x0b (x0F h₁' (fun _ s₂ h₂=>x0b (x0F h₂ (fun ok s₃ h₃=>?_) fun _ _ h'=>h'.elim)) fun _ _ h'=>h'.elim);cases ok with
   | false=>exact x0h ⟨rfl,h₃⟩
   | true =>
     exact x0b (x0b (x0F h₃ (fun kv s₄ h₄=>x0b (x0W (x0F h₄ (fun vv s₅ h₅=>x0b (x1G (x0W (x0F h₅ (fun _ s₆ h₆=>x0h ⟨rfl,h₆⟩) fun _ _ h'=>h'.elim)))) fun _ _ h'=>h'.elim))) fun _ _ h'=>h'.elim))
noncomputable def b4E (J:It)(g:TG)(tt:TT)(tk tv:TE)(Q:VK)(D:Addr)(σc:St)(H1:Hp):Prop:=∃W:Nat->Nat->St->Hp->Prop,(∃m,W 0 m σc H1)/\
 ∀i m σ' H',W i m σ' H'->(J.stop i H'/\Q (.ref D) H')\/(J.go i H'/\∀x H2,J.yld i H' x H2->g x σ' H2 fun σ3 H3=>tt σ3 H3 fun b H4=>
    if b=true then tk σ3 H4 fun k H5=>tv σ3 H5 fun v H6=>∃kvs kk,k=kV kk/\H6 D=some (.dK kvs)/\kvs.length < x0w/\∃m',m' < m/\W (i + 1) m' σ3 (upd H6 D (.dK (putK kvs kk v)))
    else ∃m',m' < m/\W (i + 1) m' σ3 H4)
noncomputable def tCompD (cs:List (Option Nat))(wi:TI)(g:TG)(tt:TT)(tk tv:TE):TE:=fun σ H Q=>wi σ H fun J H1=>∀D,H1 D=none->b4E J g tt tk tv Q D (a6x cs σ) (upd H1 D (.dK []))
theorem b1e {X:Cx}{scope:Scope}{cl:List (Str×Addr)}{N:List Str}{cs:List (Option Nat)}(S:a0L X scope cl N cs){pins:List (Addr×Obj)}{σ:St}{H:Hp}{s:Shared}{fp:List Addr}{h₁:Heap}{tk:Nat}
   (I:Inv X pins σ H s) (f2:∀b∈fp,FpOk X pins H b) (ho:∀b∈fp,∃o,s.heap.get? b=some o)
   (old:∀b o,s.heap.get? b=some o->h₁.get? b=some o) (hns:h₁.Ns (s.heap.objs.size + 1) (fun x=>([]:List (Str×Value)).reverse.lookup x))
   (hD:h₁.get? s.heap.objs.size=some { cls:=.type "dict",data:=.dict #[] }) :
   Inv (a0o X scope cl N fp (s.heap.objs.size + 1) s H) pins (a6x cs σ) (upd H s.heap.objs.size (.dK [])) { s with heap:=h₁,toks:=tk }:=by
 have lt:∀b o,s.heap.get? b=some o->b < s.heap.objs.size:=fun b o e=>x0n e;have neC:∀b o,s.heap.get? b=some o->b≠s.heap.objs.size + 1:=fun b o e=>x0r (x0R (lt b o e));have neD:∀b o,s.heap.get? b=some o->b≠s.heap.objs.size:=fun b o e=>x0r (lt b o e);have nstk:∀b,b≠X.env.locals->b∉X.fs->b∉frs X.stack:=fun b h1 h2 hb=>(x0i.mp (I.stkSub b hb)).elim h1 h2
 have cellO:∀x c,cl.lookup x=some c->∃v o,s.heap.get? c=some o/\s.heap.IsCell c v:=fun x c e=>by
   obtain⟨v,q⟩:=I.cell x c (S.sub x c e);obtain⟨o,h1,_⟩:=id q;exact⟨v,o,h1,q⟩
 refine⟨⟨I.ok.mod,S.kind,I.ok.glob,I.ok.blt,x3p _,fun x y c h1 h2=>I.ok.inj x y c (S.sub x c h1) (S.sub y c h2),fun x hx=>S.has x hx,fun x c hx=>(by cases hx),I.ok.hd,I.ok.frames,.inl rfl,fun b hb=>?_,I.bs,x0I I.ok.bsz I.sz,fun b o e hb=>?_,fun b hb=>?_,I.stack,I.stkFree,I.nos⟩,
   rfl,I.bare,Un.laid old (x0j _) I.fresh I.bigS,⟨_,hns,fun i x v e1 e2 e3=>?_⟩,fun x c e=>?_,?_,fun x c e=>?_,fun p hp=>?_,I.hok.laid old (x0j _) ⟨x0L _,beq_eq_false_iff_ne.mpr (Ne.symm (x0r I.big)),[],.nil,a9p hD⟩,?_⟩
 · obtain⟨o,e⟩:=ho b hb;exact⟨neC b o e,fun x c ec=>(f2 b hb).2.2.2.2.1 x c (S.sub x c ec)⟩
 · rcases(f2 b hb).2.2.2.1 with z | z
   · exact I.ok.noex b o e z
   · exact absurd (x0x (x0n e) (x0I I.ok.bsz z)) (x2C _)
 · exact nstk b (f2 b hb).2.1 (f2 b hb).2.2.1
 · have e2':(cs.map fun o=>o.bind fun j=>(σ[j]?).bind id)[i]?=some (some v):=e2;rw [x0v] at e2';cases ec:cs[i]? with
   | none=>rw [ec] at e2';cases e2'
   | some o =>
     rw [ec] at e2';cases o with
     | none=>cases e2'
     | some j =>
       have e2'':(σ[j]?).bind id=some v:=by simpa using e2'
       cases es:σ[j]? with
       | none=>rw [es] at e2'';cases e2''
       | some ov =>
         rw [es] at e2'';have e4:ov=some v:=by simpa using e2''
         subst e4;obtain⟨hN,hv,hnl,⟨c,hc⟩,hk⟩:=S.cap i j x ec e1;obtain⟨m,hn,hl⟩:=I.loc;obtain⟨u,r,l⟩:=hl j x v hN es hv;refine⟨u,r,?_⟩;rcases l with⟨hk',_⟩ | ⟨_,c',hc',z⟩
         · exact absurd hk' hnl
         · have ecc:c'=c:=by
             have:=S.sub x c hc;rw [hc'] at this;exact x0S this
           subst ecc;obtain⟨o,h1,h2⟩:=z;exact .inr ⟨hk,c',hc,⟨o,old _ o h1,h2⟩⟩
 · obtain⟨v,o,h1,o',h2,h3⟩:=cellO x c e;exact⟨v,o',old _ o' h2,h3⟩
 · show upd H s.heap.objs.size (.dK []) (s.heap.objs.size + 1)=none;rw [a0e (Nat.succ_ne_self _)];exact I.hok.fresh (x3p _)
 · obtain⟨v,o,h1,_⟩:=cellO x c e;rw [a0e (neD c o h1)];exact I.freeC x c (S.sub x c e)
 · obtain⟨e,n,ne,nf,d⟩:=I.pin p hp;exact⟨old _ _ e,by rw [a0e (neD _ _ e)];exact n,neC _ _ e,nstk _ ne nf,d⟩
 · show(cs.map _).length=N.length;rw [x0k];exact S.len
end L2
end
section
namespace Pu
open PySem PySem.Spec L2
noncomputable abbrev pSlN:=Env->Nat->(List Slot->Env->Nat->Prop)->Prop
noncomputable def setAll:List Nat->List Slot->Env->Env
 | i::is,s::ss,env=>setAll is ss (env.set i (some s))
 | _,_,env=>env
noncomputable def a6P:List Nat->List V->St->St
 | i::is,v::vs,σ=>a6P is vs (σ.set i (some v))
 | _,_,σ=>σ
noncomputable def Gots (C:Ct)(G:Gh)(H:Hp)(σ:St)(env:Env):List Slot->List V->Prop
 | [],vs=>vs=[]
 | s::ss,vs=>∃v r,vs=v::r/\Got C G H σ env s v/\(∀(xs:OK×List PV) a,s=.ow xs.1 xs.2->v=.ref a->∀(ys:OK×List PV) w,(Slot.ow ys.1 ys.2,w)∈ss.zip r->w≠.ref a)/\Gots C G H σ env ss r
section
variable {T:PotK}{np:Bool}{ι:Type}{K:x0a}{F:ι->Cx}{e:Expr}{es:List Expr}{st:Stmt}{s1:pSl}{sl:pSlN}{pos:Pos}
theorem Gots.set {C:Ct}{G:Gh}{H:Hp}{σ:St}{env:Env}{i:Nat}{s0:Slot}{v0:V}(hl:env.length=σ.length):∀{ss:List Slot} {vs:List V},Gots C G H σ env ss vs->(∀(xs:OK×List PV) a,s0=.ow xs.1 xs.2->v0=.ref a->∀(ys:OK×List PV) w,(Slot.ow ys.1 ys.2,w)∈ss.zip vs->w≠.ref a)->Gots C G H (σ.set i (some v0)) (env.set i (some s0)) ss vs
 | [],_,h,_=>h
 | s :: ss, vs, h, no => by
   obtain⟨v,r,rfl,g,ne,h⟩:=h;refine⟨v,r,rfl,⟨g.1,fun xs a e1 e2 z=>?_⟩,ne,Gots.set hl h fun xs a e1 e2 ys w hw=>no xs a e1 e2 ys w (by rw [x1q];exact x0d _ hw)⟩;rcases a7i hl z with z | ⟨⟨zs,ez⟩,ev⟩
   · exact g.2 xs a e1 e2 z
   · exact no zs a ez ev xs v (by rw [x1q,e1];exact x0e) e2
theorem SR.setAll {C:Ct}{G:Gh}{H:Hp}{n:Nat}:∀(is:List Nat) (ss:List Slot) (vs:List V) {σ:St} {env:Env},SR C G σ H env n->Gots C G H σ env ss vs->SR C G (a6P is vs σ) H (Pu.setAll is ss env) n
 | [],_,_,_,_,S,_=>S
 | i::is,[],vs,_,_,S,g=>by cases(show vs=[] from g);exact S
 | i :: is, s :: ss, vs, σ, env, S, g => by
   obtain⟨v,r,rfl,g1,ne,g2⟩:=g;exact SR.setAll is ss r (S.slot i g1.1 g1.2) (g2.set S.len ne)
noncomputable def a3C:List Nat->TGs
 | []=>gNil
 | i::is=>a2X (a1i i) (a3C is)
theorem a6r:∀(is:List Nat) (vs:List V) {σ:St} {H:Hp} {Q:St->Hp->Prop},is.length=vs.length->Q (a6P is vs σ) H->a3C is vs σ H Q
 | [],[],_,_,_,_,q=>⟨rfl,q⟩
 | i::is,v::vs,σ,H,Q,h,q=>⟨v,vs,rfl,a6r is vs (by simpa using h) q⟩
theorem gw_tup {X:Cx}(K:x0a){es:List Expr}{k m:Nat}{is:List Nat}(hc:X.calm=true)(h:PGs X es (a3C is))(hn:(x0G es X.env).length=m:=by rfl)(hst:(x0G es X.env).findIdx? (·.1)=none:=by rfl)(hK:X.K=K:=by rfl):GW X (.Tuple es k pos) (gTup K m (a3C is)):=⟨hK▸a6b hc h hn hst⟩
theorem b5p {X:Cx}{i:Nat}{is:List Nat}(h1:GW X e (a1i i))(h2:PGs X es (a3C is))(hs:(x0G (e::es) X.env).map (·.2)=assign e X.env::(x0G es X.env).map (·.2):=by rfl):PGs X (e::es) (a3C (i::is)):=a1N h1.h h2 hs
theorem pgs_n {X:Cx}:PGs X [] (a3C []):=a4h
end
end Pu
end
section
namespace L2
open PySem PySem.Spec PyProof.Rows
section
variable {prog:x0D}{w:World}{A:Around}{E:Value->Shared->Prop}{s:Shared}
theorem b1t {it t:Addr}{items:Array Value}(hne:t≠it):∀(n i:Nat) (s:Shared) (Q:List Value->Shared->Prop),s.heap.IsListIter it t i->s.heap.IsList t items->i + n<=items.size->
   (∀h':Heap,h'.IsListIter it t (i + n)->x3r it s.heap h'->Q ((items.toList.drop i).take n) { s with heap:=h' })->wpAny (model prog w) A (draw (.ref it) n) Q E s:=by
 intro xq
 induction xq with
 | zero =>
   intro i s Q hit _ _ hQ;show wpAny _ _ (pure []) Q E s;exact x0h (by simpa using hQ s.heap hit (Heap.SameBut.refl ..))
 | succ n ih =>
   intro i s Q hit ht hle hQ;have hlt:i < items.size:=by omega
   show wpAny _ _ (pyNext (.ref it)>>=_) Q E s;refine x0b (x3L hit ht (x:=items[i]) (by simp [hlt]) fun h₁ hit₁ hs₁=>?_);refine x0b (x0W (ih (i + 1) _ _ hit₁ (ht.extBut hs₁.extBut hne) (by omega) fun h₂ hit₂ hs₂=>x0h ?_));have hd:items.toList.drop i=items[i]::items.toList.drop (i + 1):=by simp [x0z,hlt]
   have:=hQ h₂ (by rw [show i + (n + 1)=i + 1 + n by omega];exact hit₂) (hs₁.trans hs₂);rw [hd,List.take_succ_cons] at this;exact this
theorem a3v {env:Env}{elts:List Expr}{x1}{pos:Pos}{t:Addr}{items:Array Value}{Q:Unit->Shared->Prop}(hh:A.handled=none)(ht:s.heap.IsList t items)
   (hn:(x0G elts env).length=items.size) (hstar:(x0G elts env).findIdx? (·.1)=none)
   (h:∀h',Heap.ExtBut s.heap.objs.size s.heap h'->wpAny (model prog w) A (assignInOrder ((x0G elts env).map (·.2)) items.toList) Q E { s with heap:=h' }) :
   wpAny (model prog w) A (assign (.Tuple elts x1 pos) env (.ref t)) Q E s:=by
 rw [assign_Tuple];refine x0b (x1G ?_);have hlt:t≠s.heap.objs.size:=by obtain⟨o,ho,_⟩:=ht;exact x0r (x0n ho)
 unfold unpack;rw [hn,hstar];refine x0b (x0W ?_);unfold unpackItems;refine x0b ?_;unfold notIterableAtAll;refine x0b (wpAny_specialOf ht.typeIs slot_list_iter.lookup ?_);refine x0h ?_;simp only [x1v,if_false];refine x0b (x0W (x2Z ht ?_));refine x0b (x0W (b1t hlt items.size 0 _ _ ⟨_,x0s _ rfl,rfl,rfl⟩ (ht.push _) (by omega) fun h₁ hit₁ hs₁=>?_))
 have hall:List.take items.size (List.drop 0 items.toList)=items.toList:=by
   rw [x1Y];exact x1u (by simp)
 rw [hall];rw [if_neg (by simp)];have ht₁:h₁.IsList t items:=(ht.push _).extBut hs₁.extBut hlt;refine x0b (x0W (x4f hh hit₁ ht₁ (by simp) fun h₂ he₂=>?_));simp only [Option.isSome_none,x1v,if_false];exact x0h (h h₂ fun b o hb e=>he₂ b o hb (hs₁.extBut b o hb (x0c _ e)))
end
section
variable {X:Cx}{pos:Pos}
noncomputable def gLst (K:x0a)(n:Nat)(t:TGs):TG:=fun v σ H Q=>∃a xs,v=.ref a/\SqL K H a xs/\xs.length=n/\t xs σ H Q
theorem pg_lst {es:List Expr}{k:Nat}{t:TGs}{n:Nat}(hc:X.calm=true)(h:PGs X es t)
   (hn:(x0G es X.env).length=n:=by rfl) (hst:(x0G es X.env).findIdx? (·.1)=none:=by rfl):PG X (.Tuple es k pos) (gLst X.K n t):=by
 intro pins s σ H v u Q I r hw;obtain⟨a,xs,e1,hq,hl,hw⟩:=hw;subst e1;cases r;obtain⟨its,rv,ht⟩:=I.sqL hq;refine a3v (I.ok.hd hc) ht (by simp [hn,<- hl,rv.length]) hst fun h' hx=>?_;have I1:Inv X pins σ H { s with heap:=h' }:=I.kept (t':=s.toks) fun b o e=>hx b o (x0r (x0n e)) e;exact h pins _ σ H xs _ Q I1 (by simpa using rv) hw
end
end L2
namespace Pu
open PySem PySem.Spec L2
section
variable {ι:Type}{K:x0a}{F:ι->Cx}{es:List Expr}{pgs:pGs}{pos:Pos}
noncomputable def gTl (m:Nat)(g:pGs):pG:=fun x env R=>match x with | .lst xs=>xs.length=m/\g xs env R | _=>False
theorem qg_lst {m:Nat}{k:Nat}(hc:∀z,(F z).calm=true)(h:QGs K F es pgs)(hn:∀z,(x0G es (F z).env).length=m:=by intro _;rfl)(hst:∀z,(x0G es (F z).env).findIdx? (·.1)=none:=by intro _;rfl)(hK:∀z,(F z).K=K:=by intro _;rfl):QG K F (.Tuple es k pos) (gTl m pgs):=by
 obtain⟨g,a1,a2⟩:=h;refine⟨_,fun z=>hK z▸pg_lst (hc z) (a1 z) (hn z) (hst z),fun C G σ H env n x v R Q hK S r hp k=>?_⟩;cases x with
 | lst xs =>
   obtain⟨a,vs,rfl,t,rs⟩:=r;exact⟨a,vs,rfl,t.sq,by rw [<- rs.length];exact hp.1,a2 C G σ H env n xs vs _ _ hK S rs hp.2 k⟩
 | _=>exact hp.elim
end
end Pu
end
section
namespace L2
open PySem PySem.Spec PyProof.Rows
noncomputable abbrev LC2 (elt t1 i1 t2 i2:Expr)(ifs:List Expr)(scope:Scope)(pos:Pos):Expr:=.ListComp elt [⟨t1,i1,[],0⟩,⟨t2,i2,ifs,0⟩] scope pos
theorem a9t (elt t1 i1 t2 i2:Expr)(ifs:List Expr)(scope:Scope)(pos:Pos)(it acc:Value)(env:Env) :
   compTurn (LC2 elt t1 i1 t2 i2 ifs scope pos) 1 it acc env=(do
     standAt i2.pos
     match ← pyNext it with
     | none=>pure (.done .next)
     | some v =>
       x1P t2 it v
       assign t2 env v
       let mut ok:=true
       for c in ifs do
         if ok then ok ← isTrue c env (eval c env)
       if ok then
         (do let _ ← call (.builtin "list.append") [acc,<- eval elt env])
       again (.compLoop (LC2 elt t1 i1 t2 i2 ifs scope pos) 1 it acc env)):=by rfl
section
variable {prog:x0D}{w:World}{A:Around}{R:Result->Shared->Prop}{s:Shared}{elt t1 i1 t2 i2:Expr}{ifs:List Expr}{scope:Scope}{pos:Pos}{it acc:Value}{env:Env}
theorem loop_i (I:Nat->Shared->Prop)
   (turn:∀n s,I n s->wpAny (model prog w) A (pyNext it) (fun r s₁=>match r with
     | none=>R (.ok .next) s₁
     | some v=>wpAny (model prog w) A (x1P t2 it v) (fun _ s₁'=>wpAny (model prog w) A (assign t2 env v) (fun _ s₂=>
         wpAny (model prog w) A (forIn ifs true fun c r=>if r=true then do let ok ← isTrue c env (eval c env);pure (x1J ok) else pure (x1J r)) (fun ok s₃=>
           if ok=true then wpAny (model prog w) A (eval elt env) (fun x s₄=>
             wpAny (model prog w) A (call (.builtin "list.append") [acc,x]) (fun _ s₅=>∃m,m < n/\I m s₅) (fun _ _=>False) s₄) (fun _ _=>False) s₃
           else ∃m,m < n/\I m s₃) (fun _ _=>False) s₂) (fun _ _=>False) s₁') (fun _ _=>False) s₁) (fun _ _=>False) s)
   (n:Nat) (h:I n s):x2q (model prog w) A (.compLoop (LC2 elt t1 i1 t2 i2 ifs scope pos) 1 it acc env) R s:=by
 refine codeAny_loop rfl I (fun n s hI=>?_) n h;show wpAny _ A ((compTurn (LC2 elt t1 i1 t2 i2 ifs scope pos) 1 it acc env).onRaise (fun x=>do noteFrame x env;x4C x)) _ _ s;refine wpAny_noted ?_;rw [a9t];refine x0b (x1G (x0b (x0F (turn n s hI) (fun r s₁ h₁=>?_) fun _ _ h'=>h'.elim)));cases r with
 | none=>exact x0h h₁
 | some v =>
   refine x0b (x0F h₁ (fun _ s₁' h₁'=>?_) fun _ _ h'=>h'.elim);refine x0b (x0F h₁' (fun _ s₂ h₂=>x0b (x0F h₂ (fun ok s₃ h₃=>?_) fun _ _ h'=>h'.elim)) fun _ _ h'=>h'.elim);cases ok with
   | false=>exact x0h ⟨rfl,h₃⟩
   | true =>
     exact x0b (x0b (x0F h₃ (fun x s₄ h₄=>x0b (x0F h₄ (fun _ s₅ h₅=>x0h (x0h ⟨rfl,h₅⟩)) fun _ _ h'=>h'.elim)) fun _ _ h'=>h'.elim))
theorem b4P (h0:x2q (model prog w) A (.compLoop (LC2 elt t1 i1 t2 i2 ifs scope pos) 1 it acc env) R s)
   (h:wpAny (model prog w) A (pyIter it) (fun it' s'=>x2q (model prog w) A (.compLoop (LC2 elt t1 i1 t2 i2 ifs scope pos) 1 it' acc env) R s') (fun _ _=>False) s) :
   x2q (model prog w) A (.compStart (LC2 elt t1 i1 t2 i2 ifs scope pos) 1 it acc env) R s:=by
 refine x4F ?_;show wpAny _ _ ((compStart (LC2 elt t1 i1 t2 i2 ifs scope pos) 1 it acc env).onRaise (fun x=>do noteFrame x env;standAt theWindowsPlace)) _ _ s;refine wpAny_notedAt ?_;unfold compStart;show wpAny _ _ (ask>>=_) _ _ s;refine x0b (wpAny_askSetting (wpAny_ite ?_))
 split
 · first
     | exact x0b (x0h (x0h (And.intro rfl h0)))
     | exact x0h (And.intro rfl h0)
 · first
     | exact x0b (x2Y (x0b (x1G (x0b (x0F h (fun it' s' h'=>x0h (And.intro rfl h')) fun _ _ x=>x.elim)))))
     | (refine x0b (x2Y ?_);show wpAny _ _ (standAt i2.pos>>=_) _ _ s;exact x0b (x1G (x0b (x0F h (fun it' s' h'=>x0h (And.intro rfl h')) fun _ _ x=>x.elim))))
theorem loop_o (hs:∀x,x0U i2 env x=pure x)(I:Nat->Shared->Prop)
   (turn:∀n s,I n s->wpAny (model prog w) A (pyNext it) (fun r s₁=>match r with
     | none=>R (.ok .next) s₁
     | some v=>wpAny (model prog w) A (x1P t1 it v) (fun _ s₁'=>wpAny (model prog w) A (assign t1 env v) (fun _ s₂=>
         wpAny (model prog w) A (eval i2 env) (fun x s₃=>wpAny (model prog w) A (pyIter x) (fun it2 s₄=>
           x2q (model prog w) A (.compStart (LC2 elt t1 i1 t2 i2 ifs scope pos) 1 it2 acc env) (fun r s'=>r=.ok .next/\∃m,m < n/\I m s') s₄) (fun _ _=>False) s₃) (fun _ _=>False) s₂) (fun _ _=>False) s₁') (fun _ _=>False) s₁) (fun _ _=>False) s)
   (n:Nat) (h:I n s):x2q (model prog w) A (.compLoop (LC2 elt t1 i1 t2 i2 ifs scope pos) 0 it acc env) R s:=by
 refine codeAny_loop rfl I (fun n s hI=>?_) n h;show wpAny _ A ((compTurn (LC2 elt t1 i1 t2 i2 ifs scope pos) 0 it acc env).onRaise (fun x=>do noteFrame x env;x4C x)) _ _ s;refine wpAny_noted ?_;unfold compTurn;show wpAny _ _ (standAt i1.pos>>=_) _ _ s;refine x0b (x1G ?_);refine x0b (x0F (turn n s hI) (fun r s₁ h₁=>?_) fun _ _ h'=>h'.elim);cases r with
 | none=>exact x0h h₁
 | some v =>
   refine x0b (x0F h₁ (fun _ s₁' h₁'=>?_) fun _ _ h'=>h'.elim);refine x0b (x0F h₁' (fun _ s₂ h₂=>x0b (wpAny_tests_nil ?_)) fun _ _ h'=>h'.elim);refine x0b (x0F h₂ (fun x s₃ h₃=>?_) fun _ _ h'=>h'.elim);refine x0b (x1G ?_);show wpAny _ _ (x0U i2 env x>>=fun x=>(x4N [x] (pyIter x)>>=fun it2=>(runOwn (.compStart (LC2 elt t1 i1 t2 i2 ifs scope pos) 1 it2 acc env) env>>=fun _=>again (.compLoop (LC2 elt t1 i1 t2 i2 ifs scope pos) 0 it acc env)))) _ _ _;refine x0b (x1U (hs x) (x0b (x0W (x0F h₃ (fun it2 s₄ h₄=>?_) fun _ _ h'=>h'.elim))));refine x0b (wpAny_runOwn ?_);rw [Around.mark_none];refine x4g h₄ fun r s' hr=>?_;obtain⟨rfl,hr⟩:=hr;exact x0h ⟨rfl,hr⟩
end
noncomputable def b4G (J:It)(g:TG)(tt:TT)(te:TE)(D:Addr)(N:St->Hp->Prop)(σ:St)(H:Hp):Prop:=∃W:Nat->Nat->St->Hp->Prop,(∃m,W 0 m σ H)/\
 ∀i m σ' H',W i m σ' H'->(J.stop i H'/\N σ' H')\/(J.go i H'/\∀x H2,J.yld i H' x H2->g x σ' H2 fun σ3 H3=>tt σ3 H3 fun b H4=>
    if b=true then te σ3 H4 fun v H5=>∃ys,H5 D=some (.lst ys)/\ys.length < x0w/\∃m',m' < m/\W (i + 1) m' σ3 (upd H5 D (.lst (ys++[v])))
    else ∃m',m' < m/\W (i + 1) m' σ3 H4)
noncomputable def b4F (J:It)(g1:TG)(wi2:TI)(g2:TG)(tt:TT)(te:TE)(Q:VK)(D:Addr)(σc:St)(H1:Hp):Prop:=∃W:Nat->Nat->St->Hp->Prop,(∃m,W 0 m σc H1)/\
 ∀i m σ' H',W i m σ' H'->(J.stop i H'/\Q (.ref D) H')\/(J.go i H'/\∀x H2,J.yld i H' x H2->g1 x σ' H2 fun σ3 H3=>wi2 σ3 H3 fun J2 H4=>b4G J2 g2 tt te D (fun σ5 H5=>∃m',m' < m/\W (i + 1) m' σ5 H5) σ3 H4)
noncomputable def tComp2 (cs:List (Option Nat))(wi:TI)(g1:TG)(wi2:TI)(g2:TG)(tt:TT)(te:TE):TE:=fun σ H Q=>wi σ H fun J H1=>∀D,H1 D=none->b4F J g1 wi2 g2 tt te Q D (a6x cs σ) (upd H1 D (.lst []))
theorem b2V {X:Cx}{scope:Scope}{cl:List (Str×Addr)}{N:List Str}{cs:List (Option Nat)}{elt t1 i1 t2 i2:Expr}{ifs:List Expr}{pos:Pos}{wi1 wi2:TI}{g1 g2:TG}{tt:TT}{te:TE}(S:a0L X scope cl N cs)(hc:X.calm=true)(hi:PI X t1 i1 wi1)
   (hb:∀(fp:List Addr) (C:Addr) (s:Shared) (H:Hp),PG (a0o X scope cl N fp C s H) t1 g1/\PI (a0o X scope cl N fp C s H) t2 i2 wi2/\PG (a0o X scope cl N fp C s H) t2 g2/\PIf (a0o X scope cl N fp C s H) ifs tt/\PE (a0o X scope cl N fp C s H) elt te)
   (hs2:∀fp C s H x,x0U i2 (a0o X scope cl N fp C s H).env x=pure x)
   (hs:∀x,x0U i1 X.env x=pure x:=by intro _;rfl) :
   PE X (LC2 elt t1 i1 t2 i2 ifs scope pos) (tComp2 cs wi1 g1 wi2 g2 tt te):=by
 intro pins s σ H Q I h;rw [eval_ListComp];refine x2s (use:=none) rfl hs S.clos S.kind S.names (thn (hi pins s σ H _ I h) fun v s1 h1=>thn h1 fun itv s2 h2=>?_);obtain⟨it,fp,tn,J,H2,rfl,I2,T,st2,f2,q⟩:=h2
 have ho:∀b∈fp,∃o,s2.heap.get? b=some o:=fun b hb=>by
   obtain⟨o,e,_⟩:=T.obj 0 _ st2 b hb;exact⟨o,e⟩
 refine x0T (x2n S.nocell (by intro y hy;simp at hy) (fun h₁ hns₁ hsb₁=>?_) S.kind);dsimp only at hns₁ hsb₁ ⊢;have hC:(s2.heap.push { cls:=.type "list",dict:=none,data:=.seq ([]:List Value).toArray }).objs.size=s2.heap.objs.size + 1:=by rw [x1O]
 generalize hH2:s2.heap.push { cls:=.type "list",dict:=none,data:=.seq ([]:List Value).toArray }=hp2 at hns₁ hsb₁ hC ⊢;have old:∀b o,s2.heap.get? b=some o->h₁.get? b=some o:=fun b o e=>hsb₁.extBut b o (by rw [hC];exact x0r (x0R (x0n e))) (x0c _ (hH2▸x0c _ e));have hD:h₁.get? s2.heap.objs.size=some { cls:=.type "list",data:=.seq ([]:List Value).toArray }:=hsb₁.extBut _ _ (by rw [hC];exact x0r (x3l _)) (x0c _ (hH2▸x0s _ rfl));rw [hC] at hns₁ ⊢;obtain⟨W,⟨m0,w0⟩,turn⟩:=q s2.heap.objs.size I2.fresh;have Ic:=a5y S (tk:=s2.toks + ([]:List (Str×Value)).length) I2 f2 ho old hns₁ hD;have nstk:∀b,b≠X.env.locals->b∉X.fs->b∉frs X.stack:=fun b h1 h2 hb=>(x0i.mp (I2.stkSub b hb)).elim h1 h2
 have stat:∀{H':Hp},(∀b∈fp,H' b=none)->∀b∈fp,FpOk (a0o X scope cl N fp (s2.heap.objs.size + 1) s2 H2) pins H' b:=fun hn b hb=>by
   obtain⟨o,e⟩:=ho b hb;exact⟨hn b hb,x0r (x0R (x0n e)),nstk b (f2 b hb).2.1 (f2 b hb).2.2.1,.inl hb,fun x c ec=>(f2 b hb).2.2.2.2.1 x c (S.sub x c ec),(f2 b hb).2.2.2.2.2⟩
 obtain⟨hg,hi2,hg2,hf,he⟩:=hb fp (s2.heap.objs.size + 1) s2 H2;have st1:tn 0 h₁:=T.keep _ _ _ st2 fun b hb o e=>old b o e
 have fr1:∀b∈fp,upd H2 s2.heap.objs.size (.lst []) b=none:=fun b hb=>by
   obtain⟨o,e⟩:=ho b hb;rw [a0e (x0r (x0n e))];exact(f2 b hb).1
 have loop:∀s₃:Shared,s₃={ s2 with heap:=h₁,toks:=s2.toks + ([]:List (Str×Value)).length }->
     x2q (model X.prog X.w) X.A (.compLoop (LC2 elt t1 i1 t2 i2 ifs scope pos) 0 (.ref it) (.ref s2.heap.objs.size) (compEnvC scope cl (s2.heap.objs.size + 1) X.env))
       (compPost (model X.prog X.w) X.A X.xe none (EP X pins σ Q) (.ref s2.heap.objs.size) (s2.heap.objs.size + 1)) s₃:=by
   rintro s₃ rfl;refine loop_o (hs2 fp (s2.heap.objs.size + 1) s2 H2) (fun n s'=>∃i σ' H',Inv (a0o X scope cl N fp (s2.heap.objs.size + 1) s2 H2) pins σ' H' s'/\tn i s'.heap/\(∀b∈fp,H' b=none)/\W i n σ' H') ?_ m0 ⟨0,_,_,Ic,st1,fr1,w0⟩;rintro n s3 ⟨i,σ3,H3,I3,st3,fr3,w3⟩;rcases turn i n σ3 H3 w3 with⟨stop,qn⟩ | ⟨go,step⟩
   · refine thn (T.done (a0o X scope cl N fp (s2.heap.objs.size + 1) s2 H2) rfl rfl rfl hc i pins s3 σ3 H3 (fun _ _=>False) I3 (stat fr3) st3 stop) fun r s4 ⟨hr,I4⟩=>?_;subst hr;obtain⟨m4,hn4,_⟩:=I4.loc;exact⟨m4,hn4,fun h' hs'=>⟨.ref s2.heap.objs.size,H3,Inv.uncomp I2 f2 I4 fun b hb=>hs'.2 b hb,rfl,qn⟩⟩
   · refine thn (T.item (a0o X scope cl N fp (s2.heap.objs.size + 1) s2 H2) rfl rfl rfl hc i pins s3 σ3 H3 (fun _ _=>False) I3 (stat fr3) st3 go) fun r s4 ⟨u,hr,h4⟩=>?_;subst hr;refine thn h4 fun _ s5 ⟨x,H5,I5,r5,y5,st5,fr5⟩=>?_;have I5':=I5.pinned (stat fr5) (T.obj _ _ st5);refine thn (hg _ s5 σ3 H5 x u _ I5' r5 (step x H5 y5)) fun _ s6 ⟨σ6,H6,I6,q6⟩=>?_;refine thn (hi2 _ s6 σ6 H6 _ I6 q6) fun v7 s7 h7=>thn h7 fun itv s8 h8=>?_;obtain⟨it2,fp2,tn2,J2,H8,rfl,I8,T2,st8,f8,W2,⟨m2,w2⟩,turn2⟩:=h8;have stat2:∀{H':Hp},(∀b∈fp2,H' b=none)->∀b∈fp2,FpOk (a0o X scope cl N fp (s2.heap.objs.size + 1) s2 H2) (pins++a4g fp s5.heap) H' b:=fun hn b hb=>⟨hn b hb,(f8 b hb).2⟩
     have inner:x2q (model X.prog X.w) X.A (.compLoop (LC2 elt t1 i1 t2 i2 ifs scope pos) 1 (.ref it2) (.ref s2.heap.objs.size) (compEnvC scope cl (s2.heap.objs.size + 1) X.env)) (fun r s'=>r=.ok .next/\∃m,m < n/\∃i σ' H',Inv (a0o X scope cl N fp (s2.heap.objs.size + 1) s2 H2) pins σ' H' s'/\tn i s'.heap/\(∀b∈fp,H' b=none)/\W i m σ' H') s8:=by
       exact loop_i _ (a6L (Y:=a0o X scope cl N fp (s2.heap.objs.size + 1) s2 H2) T2 hc stat2 hg2 hf he (fun s10 σ9 H9 I10 qn2=>⟨rfl,a5G T st5 I10 qn2⟩) turn2) m2 ⟨0,σ6,H8,I8,st8,fun b hb=>(f8 b hb).1,w2⟩
     exact b4P inner (T2.self _ 0 _ _ _ st8 inner)
 exact x3P (loop _ rfl) (T.self _ 0 _ _ _ st1 (loop _ rfl))
end L2
end
section
namespace Pu
open PySem PySem.Spec L2
noncomputable def b1G (g:pG)(tt:pT)(te:pE):List PV->Env->Nat->(List PV->Env->Nat->Prop)->Prop
 | [],env,n,R=>R [] env n
 | x::xs,env,n,R=>g x env fun env1=>tt env1 n fun b env2 n2=>if b=true then te env2 n2 fun y env3 n3=>b1G g tt te xs env3 n3 fun ys e m=>R (y::ys) e m else b1G g tt te xs env2 n2 R
noncomputable def a4z (g1:pG)(pi2:pA)(g2:pG)(tt:pT)(te:pE):List PV->Env->Nat->(List PV->Nat->Prop)->Prop
 | [],_,n,R=>R [] n
 | x::xs,env,n,R=>g1 x env fun env1=>pi2 env1 n fun ys env2 n2=>ys.length<=1000/\b1G g2 tt te ys env2 n2 fun zs env3 n3=>a4z g1 pi2 g2 tt te xs env3 n3 fun ws n4=>R (zs++ws) n4
noncomputable def b0i (cs:List (Option Nat))(pi1:pA)(g1:pG)(pi2:pA)(g2:pG)(tt:pT)(te:pE):pA:=fun env n R=>pi1 env n fun xs env1 n1=>xs.length<=1000/\a4z g1 pi2 g2 tt te xs (capV cs env1) n1 fun ys n2=>R ys env1 n2
theorem b1F {K:x0a}{T:PotK}{J:It}{g:TG}{tt:TT}{te:TE}{pg:pG}{ptt:pT}{pte:pE}(hg:GOk K g pg)(ht:TOk K T tt ptt)(he:EOk K T te pte){G:Gh}{H1 H4:Hp}{ys:List PV}{D:Addr}(hJ:ItR K ⟨D::G.M,G.pots⟩ H4 J ys)(nD:D∉G.pots)(hD:H1 D=none){σ:St}{env:Env}{n:Nat}{acc:List PV}{us:List V}{P:List PV->Env->Nat->Prop}{N:St->Hp->Prop}(c:CI K T G H1 D σ H4 env n acc us)(hl:acc.length + ys.length<=1001000)(hc:b1G pg ptt pte ys env n P)
   (hN:∀zs env n us σ H,P zs env n->CI K T G H1 D σ H env n (acc++zs) us->zs.length<=ys.length->N σ H):b4G J g tt te D N σ H4:=by
 refine⟨fun j m σ H'=>m=ys.length - j/\j<=ys.length/\∃env n zs us2,CI K T G H1 D σ H' env n (acc++zs) us2/\Fr ⟨D::G.M,G.pots⟩ H4 H'/\zs.length<=j/\b1G pg ptt pte (ys.drop j) env n fun ws e m=>P (zs++ws) e m,⟨ys.length,rfl,x0L _,env,n,[],us,by rw [x1f];exact c,Fr.refl,x0j _,hc⟩,?_⟩;rintro j m σ5 H5 ⟨rfl,hj,env5,n5,zs,us5,c5,fr5,la5,hc5⟩;obtain⟨hgo5,hstop5⟩:=hJ _ H5 fr5 (fun a ha=>.inl ha) (fun _ _ e=>e) fun p hp=>c5.inn.sr.fresh hp
 by_cases hlt5:j < ys.length
 · obtain⟨u1,u2⟩:=hgo5 j _ (x0f hlt5);refine .inr ⟨u1,fun v6 H6 y6=>?_⟩;obtain⟨s6,rv6⟩:=u2 v6 H6 y6;rw [x0z hlt5] at hc5;have np:∀b,b∉D::G.M->b∉G.pots:=fun b hb z=>hb (c5.inn.pots b z).1;refine hg _ _ σ5 H6 env5 n5 ys[j] v6 _ _ rfl (c5.inn.sr.same s6) rv6 hc5 fun env7 σ7 hc7 S7=>?_;refine ht _ _ σ7 H6 env7 n5 _ _ rfl rfl S7 hc7 fun b env8 n8 H8 hc8 S8 f8=>?_;cases b with
   | false=>exact⟨ys.length - (j + 1),x2o _ _ hlt5,rfl,hlt5,env8,n8,zs,us5,c5.go nD S8,fun b o hb e=>S8.frame b o (np b hb) (fr5 b o hb e),x3U la5,hc8⟩
   | true =>
     refine he _ _ σ7 H8 env8 n8 _ _ rfl rfl S8 hc8 fun y env9 n9 u H9 hc9 S9 r9 f9=>?_;have c9:=c5.go nD S9;have c10:=c9.add nD hD r9;rw [x1o] at c10;refine⟨us5,c9.eD,by rw [<- c5.ra.length,x0m];exact x3z (show _<=1001000 by omega) (by rw [x1k];decide),ys.length - (j + 1),x2o _ _ hlt5,rfl,hlt5,env9,n9,zs++[y],us5++[u],c10,Fr.trans (fun b o hb e=>S9.frame b o (np b hb) (fr5 b o hb e)) (CI.fD _),by rw [x0m];exact Nat.succ_le_succ la5,?_⟩;simp only [x1o];exact hc9
 · obtain rfl:j=ys.length:=Nat.le_antisymm hj (x4m hlt5);rw [x2d] at hc5;have h5:P (zs++[]) env5 n5:=hc5;rw [x1f] at h5;exact .inl ⟨hstop5 _ (x0j _),hN zs env5 n5 us5 σ5 H5 h5 c5 la5⟩
theorem b3F {K:x0a}{T:PotK}{J:It}{g1 g2:TG}{wi2:TI}{tt:TT}{te:TE}{pg1 pg2:pG}{pi2:pA}{ptt:pT}{pte:pE}(hg1:GOk K g1 pg1)(hi2:IOk K T wi2 pi2)(hg2:GOk K g2 pg2)(ht:TOk K T tt ptt)(he:EOk K T te pte){G:Gh}{H1:Hp}{xs:List PV}(hJ:ItR K G H1 J xs)(hl:xs.length<=1000)
   {σc:St} {env:Env} {n:Nat} {R:List PV->Nat->Prop} {Q:VK} {D:Addr} (hD:H1 D=none) (I0:Inn K T G σc H1 env n) (hp:a4z pg1 pi2 pg2 ptt pte xs env n R)
   (hQ:∀ys n' us H',R ys n'->(∀p∈G.pots,T.at_ (D::G.M) H' p n')->(∀b o,b∉G.pots->H1 b=some o->H' b=some o)->H' D=some (.lst us)->Reps K ⟨D::G.M,G.pots⟩ H' ys us->Q (.ref D) H') :
   b4F J g1 wi2 g2 tt te Q D σc (upd H1 D (.lst [])):=by
 have nD:D∉G.pots:=fun z=>I0.sr.fresh hD (I0.pots D z).1;refine⟨fun i m σ H=>m=xs.length - i/\i<=xs.length/\∃env n acc us,CI K T G H1 D σ H env n acc us/\acc.length<=1000 * i/\a4z pg1 pi2 pg2 ptt pte (xs.drop i) env n fun ys n'=>R (acc++ys) n',⟨xs.length,rfl,x0L _,env,n,[],[],.start hD I0,x0j _,hp⟩,?_⟩;rintro i m σ H ⟨rfl,hi,env,n,acc,us,c,la,hc⟩;obtain⟨hgo,hstop⟩:=c.it hD hJ
 by_cases hlt:i < xs.length
 · obtain⟨gg1,gg2⟩:=hgo i _ (x0f hlt);refine .inr ⟨gg1,fun v H2 y=>?_⟩;obtain⟨s2,rv⟩:=gg2 v H2 y;rw [x0z hlt] at hc;refine hg1 _ _ σ H2 env n xs[i] v _ _ rfl (c.inn.sr.same s2) rv hc fun env1 σ1 hc1 S2=>?_;refine hi2 _ _ σ1 H2 env1 n _ _ rfl rfl S2 hc1 fun ys env2 n2 J2 H4 q4 S4 f4 hJ2=>?_;refine b1F hg2 ht he hJ2 nD hD (c.go nD S4) (by have:=q4.1;omega) q4.2 fun zs env5 n5 us5 σ5 H5 h5 c5 lz=>⟨xs.length - (i + 1),x2o _ _ hlt,rfl,hlt,env5,n5,acc++zs,us5,c5,by rw [x0m];have:=q4.1;omega,?_⟩;simp only [x1o];exact h5
 · obtain rfl:i=xs.length:=Nat.le_antisymm hi (x4m hlt);rw [x2d] at hc;have hc':R (acc++[]) n:=hc;rw [x1f] at hc';exact .inl ⟨hstop _ (x0j _),hQ _ n us H hc' (fun p hp=>(c.inn.pots p hp).2) c.kp c.eD c.ra⟩
section
variable {T:PotK}{ι:Type}{K:x0a}{F:ι->Cx}{pg1 pg2:pG}{pos:Pos}
theorem b2u {scope:Scope}{cl:ι->List (Str×Addr)}{N:List Str}{cs:List (Option Nat)}{elt t1 i1 t2 i2:Expr}{ifs:List Expr}{pi1 pi2:pA}{ptt:pT}{pte:pE}(S:∀z,a0L (F z) scope (cl z) N cs)(hc:∀z,(F z).calm=true)(hi:QI T K F t1 i1 pi1)
   (hg:QG K (fun y:ι×List Addr×Addr×Shared×Hp=>a0o (F y.1) scope (cl y.1) N y.2.1 y.2.2.1 y.2.2.2.1 y.2.2.2.2) t1 pg1)
   (hi2:QI T K (fun y:ι×List Addr×Addr×Shared×Hp=>a0o (F y.1) scope (cl y.1) N y.2.1 y.2.2.1 y.2.2.2.1 y.2.2.2.2) t2 i2 pi2)
   (hg2:QG K (fun y:ι×List Addr×Addr×Shared×Hp=>a0o (F y.1) scope (cl y.1) N y.2.1 y.2.2.1 y.2.2.2.1 y.2.2.2.2) t2 pg2)
   (ht:QIf T K (fun y:ι×List Addr×Addr×Shared×Hp=>a0o (F y.1) scope (cl y.1) N y.2.1 y.2.2.1 y.2.2.2.1 y.2.2.2.2) ifs ptt)
   (he:QE T K (fun y:ι×List Addr×Addr×Shared×Hp=>a0o (F y.1) scope (cl y.1) N y.2.1 y.2.2.1 y.2.2.2.1 y.2.2.2.2) elt pte)
   (hs:∀z x,x0U i1 (F z).env x=pure x:=by intro _ _;rfl) (hs2:∀z fp C s H x,x0U i2 (a0o (F z) scope (cl z) N fp C s H).env x=pure x:=by intro _ _ _ _ _ _;rfl):QN T K F (LC2 elt t1 i1 t2 i2 ifs scope pos) (b0i cs pi1 pg1 pi2 pg2 ptt pte):=by
 obtain⟨wi,i1',i2'⟩:=hi;obtain⟨g,hg0,hg⟩:=hg;obtain⟨wj,j1,j2⟩:=hi2;obtain⟨g2,hg20,hg2⟩:=hg2;obtain⟨tt,ht0,ht⟩:=ht;obtain⟨te,he0,he⟩:=he;refine⟨_,fun z=>b2V (S z) (hc z) (i1' z) (fun fp C s H=>⟨hg0 (z,fp,C,s,H),j1 (z,fp,C,s,H),hg20 (z,fp,C,s,H),ht0 (z,fp,C,s,H),he0 (z,fp,C,s,H)⟩) (hs2 z) (hs z),fun C G σ H env n R Q hK hT S hp k=>?_⟩;refine i2' C G σ H env n _ _ hK hT S hp fun xs env1 n1 J H1 p1 S1 f1 hJ=>?_;intro D hD;have hDM:=S1.fresh hD;refine b3F (G:=G) hg j2 hg2 ht he hJ p1.1 hD (hT▸hK▸a4A S1 cs) p1.2 fun ys n2 us H' rr hpots hk eD ry=>?_;have nD:∀b o,H1 b=some o->b≠D:=fun b o e z=>by rw [z,hD] at e;cases e
 have hk2:∀b o,b∉G.pots->H1 b=some o->cutH H' D b=some o:=fun b o hb e=>by rw [a1g (nD b o e)];exact hk b o hb e
 have nc:∀b,b∉D::G.M->b≠D:=fun b hb z=>hb (by rw [z];exact x0e);have np:∀p∈G.pots,p≠D:=fun p hp z=>hDM (z▸(S1.pots p hp).1)
 have Sb:SR C G σ (cutH H' D) env1 n2:=S1.call hk2 fun p hp=>by
   subst hT;have h2:=C.T.keep (hpots p hp) (H':=cutH H' D) (a1g (np p hp)) fun b o hb e=>by rw [a1g (nc b hb)];exact e
   exact C.T.more h2 fun a ha=>.inl (x0d _ ha)
 have:=k ys env1 n2 D us (cutH H' D) rr Sb (f1.trans fun b o hb e=>hk2 b o (fun z=>hb (S1.pots b z).1) e) (by unfold cutH;rw [if_pos rfl]) ?_
 · rw [a5a eD] at this;exact this
 · exact Reps.mono (G:=⟨D::G.M,G.pots⟩) (fun b o hb e=>by rw [a1g (nc b hb)];exact e) (fun a ha=>.inl (x0d _ ha)) (fun _ _ e=>e) _ _ ry
end
end Pu
end
section
namespace L2
open PySem PySem.W PySem.Spec PyProof.Rows
noncomputable def a9r (X:Cx)(scope:Scope)(N:List Str)(qual:Str)(f c':Addr)(cl:List (Str×Addr))(s:Shared)(H:Hp):Cx where
 prog:=X.prog
 w:=X.w
 K:=X.K
 mg:=X.mg
 base:=X.base
 A:=X.A.in1.in1.deeper (envX qual scope s.heap.objs.size f (.ref c') cl)
 N:=N
 s₀:=s
 H₀:=H
 env:=envX qual scope s.heap.objs.size f (.ref c') cl
 outer:=X.stack
 stack:=envX qual scope s.heap.objs.size f (.ref c') cl::X.stack
 ex:=[]
 calm:=true
 fn:=fun _=>false
 pn:=[]
 xe:=fun _ _=>False
structure a2Z (scope:Scope)(x y:Str):Prop where
 kind:scope.kind=.function
 co:scope.isCoroutine=false
 gen:scope.isGenerator=false
 hx:scope.names.lookup x=some .local
 hy:scope.names.lookup y=some .free
 fr:∀z,scope.names.lookup z=some .free->z=y
 nc:∀z∈scope.names,z.2≠.cell
 ne:(y == x)=false
section
variable {X:Cx}{pins:List (Addr×Obj)}{σ:St}{H:Hp}{s:Shared}
variable {c':Addr}{vx vy:V}{ux uy:Value}
theorem b0R {scope:Scope}{x y qual:Str}{f c:Addr}{h1:Heap}{tk k:Nat}(I:Inv X pins σ H s)(hr:Room k X.A)(S:a2Z scope x y)(hc:s.heap.IsCell c (some uy))(hH:H c=none)(ry:RelV vy uy)(rx:RelV vx ux)
   (hns:h1.Ns s.heap.objs.size (fun z=>[(x,ux)].reverse.lookup z)) (hsb:x3r s.heap.objs.size (s.heap.push { cls:=.type "frame",data:=.dict #[] }) h1) :
   Inv (a9r X scope [x,y] qual f c' [(y,c)] s H) [] [some vx,some vy] H { s with heap:=h1,toks:=tk }:=by
 have hk:∀b o,s.heap.get? b=some o->h1.get? b=some o:=fun b o e=>hsb.extBut b o (x0r (x0n e)) (x0c _ e);have noA:∀b:Addr,b∉(a9r X scope [x,y] qual f c' [(y,c)] s H).ex:=fun b z=>absurd (show b∈([]:List Addr) from z) (by simp);have e0:=I.env0
 have cl1:∀z d,([(y,c)]:List (Str×Addr)).lookup z=some d->z=y/\d=c:=fun z d e=>by
   rw [x4n] at e;cases q:z == y with
   | true=>rw [q] at e;cases e;exact⟨eq_of_beq q,rfl⟩
   | false=>rw [q] at e;cases e
 have cy:([(y,c)]:List (Str×Addr)).lookup y=some c:=by rw [x4n,beq_self_eq_true]
 refine⟨⟨e0.mod,S.kind,rfl,rfl,x0j _,fun a b d h1 h2=>?_,fun z hz=>?_,fun z d h _=>absurd (show false=true from h) x0E,fun _=>hr.hd,Around.frames_deeper (show X.A.in1.in1.frames=_ from e0.frames),.inr ⟨rfl,rfl⟩,fun b z=>absurd z (noA b),e0.bs,e0.bsz,fun b _ _=>noA b,fun b z=>absurd z (noA b),e0.funs,e0.frf,e0.nos⟩,
   rfl,e0.bare,Un.kept hk,⟨_,hns,fun i z v h1 h2 h3=>?_⟩,fun z d h=>?_,e0.hok.fresh (x0j _),fun z d h=>?_,fun p hp=>absurd (show p∈([]:List (Addr×Obj)) from hp) (by simp),e0.hok.kept hk,rfl⟩
 · exact((cl1 _ _ h1).1).trans (cl1 _ _ h2).1.symm
 · have hz:scope.names.lookup z=some .cell\/scope.names.lookup z=some .free:=hz;rcases hz with hz | hz
   · exact absurd rfl (S.nc _ (x1x hz))
   · exact⟨c,by rw [S.fr z hz];exact cy⟩
 · match i,h1,h2 with
   | 0, h1, h2 =>
     cases h1;cases h2;refine⟨ux,rx,.inl ⟨S.hx,?_⟩⟩;show([(x,ux)]:List (Str×Value)).reverse.lookup x=some ux;rw [List.reverse_singleton,x4n,beq_self_eq_true]
   | 1, h1, h2 =>
     cases h1;cases h2;obtain⟨o,ho,hd⟩:=hc;exact⟨uy,ry,.inr ⟨.inr S.hy,c,cy,o,hk _ _ ho,hd⟩⟩
   | i + 2,h1,h2=>cases h2
 · obtain⟨rfl,rfl⟩:=cl1 z d h;obtain⟨o,ho,hd⟩:=hc;exact⟨_,o,hk _ _ ho,hd⟩
 · obtain⟨rfl,rfl⟩:=cl1 z d h;exact hH
theorem b3l {scope:Scope}{x y qual:Str}{params:x4T}{body:Expr}{f c:Addr}{pm ctv:Value}{k:Nat}{tb:TE}{Q:VK}{E:Value->Shared->Prop}(I:Inv X pins σ H s)(hr:Room k X.A)(S:a2Z scope x y)
   (hc:s.heap.IsCell c (some uy)) (hH:H c=none) (ry:RelV vy uy) (rx:RelV vx ux) (fo:s.heap.get? f=some (kla_obj "<lambda>" qual params body scope [(y,c)] pm c' ctv)) (hcd:s.heap.CodeRec (.ref c') qual)
   (bd:∀u,x4t (kla_fn "<lambda>" qual params body scope [(y,c)] pm (.ref c') ctv) ⟨[u],[]⟩=pure [(x,u)])
   (hb:PE (a9r X scope [x,y] qual f c' [(y,c)] s H) body tb) (ht:tb [some vx,some vy] H Q) :
   wpAny (model X.prog X.w) X.A.in1.in1 (call (.ref f) [ux]) (EP X pins σ Q) E s:=by
 refine wpAny_call ?_;refine kla_callFunE (fd:=kla_fn "<lambda>" qual params body scope [(y,c)] pm (.ref c') ctv) (show X.A.depth < recursionLimit from hr.depth) fo rfl S.co S.gen rfl hcd ?_;rw [bd];refine x0h (x2n S.nc (fun z hz=>?_) (fun h1 hns hsb=>⟨?_,?_⟩) S.kind)
 · rw [x0q.mp hz];exact S.hx
 · refine I.nolimit.keeps fun b o e=>?_;exact hsb.extBut b o (x0r (x0n e)) (x0c _ e)
 · refine kla_codeExpr (x0F (hb [] _ [some vx,some vy] H Q (b0R (tk:=s.toks + 1) I hr S hc hH ry rx hns hsb) ht) (fun v s' h=>?_) fun _ _ z=>z.elim);obtain⟨v',H',J,r,q⟩:=h;exact I.after ⟨v',H',J.os,J.bare,J.base,J.hok,r,q⟩
end
end L2
end
section
namespace L2
open PySem PySem.W PySem.Spec PyProof.Rows
noncomputable def a3I (c':Addr)(qual:Str):HO:=.ext fun h=>h.CodeRec (.ref c') qual
noncomputable def a8Y (tb:TE)(vy:V)(kS c':Addr)(qual:Str):List V->List Int->Hp->(List Int->Hp->Prop)->Prop
 | [],ks,H,R=>R ks H
 | x::xs,ks,H,R=>H c'=some (a3I c' qual)/\tb [some x,some vy] H fun y H1=>∃k,y=.int k/\H1 kS=some (.lst (ks.map V.int))/\a8Y tb vy kS c' qual xs (ks++[k]) (upd H1 kS (.lst ((ks++[k]).map V.int))) R
noncomputable def KOut (ks:List Int)(xs ys:List V):Prop:=∃ps:List (Int×V),ps.Perm (ks.zip xs)/\ys=ps.map Prod.snd/\ps.Pairwise fun p q=>p.1<=q.1
section
variable {prog:x0D}{w:World}{A:Around}{E:Value->Shared->Prop}{s:Shared}{a kS:Addr}{vs:List Value}{kz:List Int}{keys:Array Value}{e e1:Nat}{P:PySem.Fin->Shared->Prop}
theorem kTail {st:SortSt}(nk:s.heap.get? kS=some (seqObj "list" keys e))(na:s.heap.get? a=some (seqObj "list" #[] e1))(hka:kS≠a)
   (hk:IntsAre keys.toList kz) (hlen:kz.length=vs.length) (h64:vs.length < 64) (hp:(arrOf st).Perm (keys.zip vs.toArray)) (hs:SortedTo (arrOf st) (arrOf st).size) (hfl:failedOf st=none)
   (h:∀h' out c c2,(∀b o,b≠a->b≠kS->s.heap.get? b=some o->h'.get? b=some o)->h'.get? a=some (seqObj "list" out c)->h'.get? kS=some (seqObj "list" #[] c2)->KskOut false kz vs out.toList->P (.done (.ret .none)) { s with heap:=h' }) :
   wpAny (model prog w) A (ksk_tail a false e1 (.ref kS) st) P E s:=by
 have hsz:keys.size=vs.length:=by
   have h1:=hk.length;rw [x1e] at h1;omega
 have hsz2:(arrOf st).size=vs.length:=by rw [hp.size_eq,Array.size_zip,hsz,x0p,x4j]
 have s1:=x1D s.heap kS (x0O fun _=>(#[]:Array Value));have na1:(s.heap.update kS (x0O fun _=>(#[]:Array Value))).get? a=some (seqObj "list" #[] e1):=(s1.2 a hka.symm).trans na;obtain⟨ck,hck⟩:∃c,(s.heap.update kS (x0O fun _=>(#[]:Array Value))).get? kS=some (seqObj "list" #[] c):=⟨_,x2S nk fun _=>#[]⟩;have s2:=x1D (s.heap.update kS (x0O fun _=>(#[]:Array Value))) a (x0O fun _=>(arrOf st).map (·.2))
 obtain⟨c2,hc2⟩:∃c2,((s.heap.update kS (x0O fun _=>(#[]:Array Value))).update a (x0O fun _=>(arrOf st).map (·.2))).get? a=some (seqObj "list" ((arrOf st).map (·.2)) c2):=
   ⟨_,x2S na1 fun _=>(arrOf st).map (·.2)⟩
 unfold ksk_tail
 try dsimp only
 refine x0b (x3c nk rfl ?_ (by rw [hsz,x1k];omega) (x0L _));refine x0b (wpAny_letGo ?_);refine x0b (seqEpoch_at na1 rfl ?_);simp only [x1v,if_false];refine x0b (x3c na1 rfl ?_ (x0L _) (x0I (x2A ((Array.size_map ..).trans hsz2)) (by rw [x1k];omega)));rw [hfl];simp only [bne_self_eq_false,x1v,if_false];exact x0h (h _ _ c2 ck (fun b o h1 h2 e=>(s2.2 b h1).trans ((s1.2 b h2).trans e)) hc2 ((s2.2 kS hka).trans hck) (ksk_out (b:=false) hk hp hs))
theorem kEnd (nk:s.heap.get? kS=some (seqObj "list" keys e))(na:s.heap.get? a=some (seqObj "list" #[] e1))(hka:kS≠a)
   (hk:IntsAre keys.toList kz) (hlen:kz.length=vs.length) (h64:vs.length < 64)
   (h:∀h' out c c2,(∀b o,b≠a->b≠kS->s.heap.get? b=some o->h'.get? b=some o)->h'.get? a=some (seqObj "list" out c)->h'.get? kS=some (seqObj "list" #[] c2)->KskOut false kz vs out.toList->P (.done (.ret .none)) { s with heap:=h' }) :
   wpAny (model prog w) A (ksk_end a false vs.toArray e1 (.ref kS) keys) P E s:=by
 have hsz:keys.size=vs.length:=by
   have h1:=hk.length;rw [x1e] at h1;omega
 have hzs:(keys.zip vs.toArray).size=vs.length:=by rw [Array.size_zip,hsz,x0p,x4j]
 unfold ksk_end;simp only [x1v,if_false]
 by_cases h2:vs.toArray.size < 2
 · rw [if_pos h2,if_pos h2];refine x0b (x0h ?_);rw [StateT.run_pure];refine x0b (x0h ?_)
   try dsimp only
   refine kTail (st:=SortSt.mk' general' (keys.zip vs.toArray) #[] 7 none) nk na hka hk hlen h64 (x2v _) ?_ rfl h;intro i j hij hj;have hj2:j < (keys.zip vs.toArray).size:=hj;rw [hzs] at hj2;rw [x0p] at h2;have:i=j:=by omega
   subst this;exact Int.le_refl _
 · rw [if_neg h2,if_neg h2];rw [x0p] at h2;rw [ksk_kind hk (by rw [hsz];omega)];refine x0b (x0h ?_)
   refine x0b (x0F (wpS_sortRuns (a₀:=keys.zip vs.toArray) (st:=SortSt.mk' oneType' (keys.zip vs.toArray) #[] 7 none)
     (Q:=fun _ st'=>(arrOf st').Perm (keys.zip vs.toArray)/\failedOf st'=none/\SortedTo (arrOf st') (keys.zip vs.toArray).size)
     (ksk_intKeys hk) ⟨x2v _,rfl,rfl,rfl⟩ (by rw [hzs];omega) (by rw [hzs];exact h64) fun st' a1 a2 a3=>⟨a1,a2,a3⟩) ?_ fun _ _ e=>e)
   rintro⟨⟨⟩,st'⟩ s' ⟨rfl,hp,hf,hs⟩
   try dsimp only
   exact kTail nk na hka hk hlen h64 hp (by rw [hp.size_eq];exact hs) hf h
end
theorem b1f:∀{ks:List Int} {us:List Value},Vals (ks.map V.int) us->IntsAre us ks
 | [],_,h=>by cases h;exact .nil
 | k :: ks, _, h => by
   cases h with
   | cons h1 h2 =>
     obtain⟨t,rfl⟩:=h1;exact .cons k t (b1f h2)
theorem b5L {ks:List Int}{xs:List V}{vs:List Value}{out:List Value}(r:Vals xs vs)(h:KskOut false ks vs out):∃ys,KOut ks xs ys/\Vals ys out:=by
 obtain⟨ps,hp,rfl,ho⟩:=h
 replace ho:ps.Pairwise fun p q=>p.1<=q.1:=by simpa using ho
 have ab:∀(ks:List Int) {xs:List V} {vs:List Value},Vals xs vs->(ks.zip vs).map (fun p=>(p.1,(absV p.2).getD .non))=ks.zip xs:=by
   intro ks
   induction ks with
   | nil=>intro xs vs _;rfl
   | cons k ks ih =>
     intro xs vs r;cases r with
     | nil=>rfl
     | cons h1 h2 =>
       rw [x1q,x1q,x0C,ih h2];show(k,(absV _).getD _)::_=_;rw [h1.abs];rfl
 have rl:∀(ks:List Int) {xs:List V} {vs:List Value},Vals xs vs->∀p∈ks.zip vs,RelV ((absV p.2).getD .non) p.2:=by
   intro ks
   induction ks with
   | nil=>intro xs vs _ p hp;cases hp
   | cons k ks ih =>
     intro xs vs r p hp;cases r with
     | nil=>cases hp
     | cons h1 h2 =>
       rcases x0i.mp hp with rfl | hp
       · show RelV ((absV _).getD _) _;rw [h1.abs];exact h1
       · exact ih h2 p hp
 refine⟨ps.map fun p=>(absV p.2).getD .non,⟨ps.map fun p=>(p.1,(absV p.2).getD .non),?_,by rw [x2B];rfl,?_⟩,?_⟩
 · rw [<- ab ks r];exact hp.map _
 · rw [List.pairwise_map];exact ho
 · have rl2:∀p∈ps,RelV ((absV p.2).getD .non) p.2:=fun p h=>rl ks r p (hp.mem_iff.mp h);clear hp ho
   induction ps with
   | nil=>exact .nil
   | cons p ps ih=>exact .cons (rl2 p x0e) (ih fun q hq=>rl2 q (x0d _ hq))
section
variable {X:Cx}{pins:List (Addr×Obj)}{σ:St}{H:Hp}{s:Shared}
theorem Inv.retrack {a kS:Addr}{ob:Obj}{ks ys:List V}{out:List Value}{c c2:Nat}{h':Heap}(I:Inv X ((a,ob)::pins) σ H s)(hk:H kS=some (.lst ks))(ha0:X.s₀.heap.objs.size<=a)(hp0:∀p∈X.pn++pins,p.1≠a)(hsa:x1g < a)(hsk:x1g < kS)
   (keep:∀b o,b≠a->b≠kS->s.heap.get? b=some o->h'.get? b=some o) (ea:h'.get? a=some (seqObj "list" out.toArray c)) (ek:h'.get? kS=some (seqObj "list" #[] c2)) (r:Vals ys out) (hl:ys.length<=x0w) :
   Inv X pins σ (upd (upd H kS (.lst [])) a (.lst ys)) { s with heap:=h' }:=by
 obtain⟨ea0,na,neL,nf,nc⟩:=I.pin (a,ob) (x0u _ x0e);have nka:kS≠a:=fun z=>by rw [z,na] at hk;cases hk
 have I0:Inv X pins σ H s:=I.pins_of fun p hp=>by
   obtain⟨z1,z2,z3,z4,z5⟩:=I.pin p (x0u _ (x0d _ hp));exact⟨z1,z2,z3,z4,z5⟩
 have oth:∀b,b≠a->b≠kS->upd (upd H kS (.lst [])) a (.lst ys) b=H b:=fun b h1 h2=>by rw [a0e h1,a0e h2]
 have ne1:∀b u,H b=some u->(∀z,u≠.lst z)->b≠a/\b≠kS:=fun b u e hu=>⟨(fun z=>by rw [z,na] at e;cases e),(fun z=>by rw [z,hk] at e;cases e;exact hu _ rfl)⟩;refine I0.step (g':=s.gens) (d':=s.drawn) (t':=s.toks) (ch:=[a]) (fun b hb=>?_) (fun b o _ _ hc e n=>?_) (fun b o _ _ hc e n=>⟨o.slots,?_⟩) (fun b o hc e n=>?_) (fun b o hc e=>?_) (fun b xs e=>?_) (fun b o u e=>?_) (fun b ps e=>⟨#[],?_⟩) (fun z=>?_) (fun m hm=>?_) (fun b u e=>?_) I.bare
 · have e:b=a:=by simpa using hb
   subst e;refine⟨.inr ha0,neL,fun x d e z=>?_,hp0⟩;subst z;obtain⟨v,o,ho,hd⟩:=I.cell x _ e;rw [ea0] at ho;cases ho;exact nc _ hd
 · exact keep b o (fun z=>hc (by simp [z])) (fun z=>by rw [z,hk] at n;cases n) e
 · exact keep b o (fun z=>hc (by simp [z])) (fun z=>by rw [z,hk] at n;cases n) e
 · rw [oth b (fun z=>hc (by simp [z])) (fun z=>by rw [z,hk] at n;cases n)];exact n
 · by_cases h2:b=kS
   · exact⟨_,h2▸ek⟩
   · exact⟨o,keep b o (fun z=>hc (by simp [z])) h2 e⟩
 · obtain⟨h1,h2⟩:=ne1 b _ e (fun z q=>by cases q);rw [oth b h1 h2];exact e
 · obtain⟨h1,h2⟩:=ne1 b _ e (fun z q=>by cases q);rw [oth b h1 h2];exact e
 · obtain⟨h1,h2⟩:=ne1 b _ e (fun z q=>by cases q);rw [oth b h1 h2,e];simp
 · unfold NS at z ⊢;rw [oth x1g (x0r hsa) (x0r hsk)];exact z
 · obtain⟨o,es,ep,ho,r'⟩:=hm;exact⟨o,es,ep,keep _ o (Ne.symm neL) (fun z=>by have:=I.free;rw [z,hk] at this;cases this) ho,r'⟩
 · by_cases h1:b=a
   · subst h1;rw [a0f] at e;cases e;exact⟨hl,out,c,r,ea⟩
   · rw [a0e h1] at e
     by_cases h2:b=kS
     · subst h2;rw [a0f] at e;cases e;exact⟨x0L _,[],c2,.nil,ek⟩
     · rw [a0e h2] at e;refine(I0.hok b u e).stay (fun d v hc q=>keep d v ?_ ?_ q) (fun d q=>?_) fun d xs q=>?_
       · rcases hc with z | z
         · rw [z];exact h1
         · exact(ne1 d _ z (fun z q=>by cases q)).1
       · rcases hc with z | z
         · rw [z];exact h2
         · exact(ne1 d _ z (fun z q=>by cases q)).2
       · obtain⟨z1,z2⟩:=ne1 d _ q (fun z q=>by cases q);rw [oth d z1 z2];exact q
       · obtain⟨z1,z2⟩:=ne1 d _ q (fun z q=>by cases q);rw [oth d z1 z2];exact q
end
end L2
end
section
namespace L2
open PySem PySem.W PySem.Spec PyProof.Rows
structure a7E (X:Cx)(scope:Scope)(params:x4T)(body:Expr)(qual x y:Str)(c:Addr)(iy:Nat)(k:Nat)(tb:TE):Prop where
 sc:a2Z scope x y
 room:Room k X.A
 cell:X.env.cells.lookup y=some c
 isc:X.env.scope.names.lookup y=some .cell
 nm:X.N[iy]?=some y
 bd:∀(pm ct cd u:Value),x4t (kla_fn "<lambda>" qual params body scope [(y,c)] pm cd ct) ⟨[u],[]⟩=pure [(x,u)]
 pe:∀(f c':Addr) (s:Shared) (H:Hp),PE (a9r X scope [x,y] qual f c' [(y,c)] s H) body tb
section
variable {X:Cx}{pins:List (Addr×Obj)}{σ:St}{H:Hp}{s:Shared}{scope:Scope}{params:x4T}{body:Expr}{qual x y:Str}{c:Addr}{iy k:Nat}{tb:TE}
variable {vy:V}{c':Addr}{ctv pm:Value}{Q:VK}
theorem a7E.val (L:a7E X scope params body qual x y c iy k tb)(I:Inv X pins σ H s)(hv:σ[iy]?=some (some vy)):∃uy,RelV vy uy/\s.heap.IsCell c (some uy):=by
 obtain⟨m,hn,hl⟩:=I.loc;obtain⟨u,r,l⟩:=hl iy y vy L.nm hv (.inr (.inl L.isc));refine⟨u,r,?_⟩;rcases l with⟨z,_⟩ | ⟨_,d,e,q⟩
 · have z':X.env.scope.names.lookup y=some .local:=z;rw [L.isc] at z';cases z'
 · rw [L.cell] at e;cases e;exact q
theorem a7E.run (L:a7E X scope params body qual x y c iy k tb)(I:Inv X pins σ H s){vx:V}{ux:Value}{f:Addr}{E:Value->Shared->Prop}(hv:σ[iy]?=some (some vy))(rx:RelV vx ux)
   (fo:(f,kla_obj "<lambda>" qual params body scope [(y,c)] pm c' ctv)∈pins) (hcd:H c'=some (a3I c' qual)) (ht:tb [some vx,some vy] H Q) :
   wpAny (model X.prog X.w) X.A.in1.in1 (call (.ref f) [ux]) (EP X pins σ Q) E s:=by
 obtain⟨uy,ry,hc⟩:=L.val I hv;obtain⟨e1,_⟩:=I.pin _ (x0u _ fo);obtain⟨e2,_⟩:=(show a0U X.prog X.w H s.heap c' (a3I c' qual) from I.hok c' _ hcd);exact b3l I L.room L.sc hc (I.freeC _ _ L.cell) ry rx e1 e2 (fun u=>L.bd pm ctv (.ref c') u) (L.pe f c' s H) ht
theorem kRest (L:a7E X scope params body qual x y c iy k tb){f a kS:Addr}{xs:List V}{vs:List Value}{e1:Nat}{R:List Int->Hp->Prop}{P:PySem.Fin->Shared->Prop}{E:Value->Shared->Prop}(I:Inv X ((a,seqObj "list" #[] e1)::pins) σ H s)(hv:σ[iy]?=some (some vy))
   (fo:(f,kla_obj "<lambda>" qual params body scope [(y,c)] pm c' ctv)∈pins) (hk:H kS=some (.lst [])) (rv:Vals xs vs) (h64:xs.length < 64) (hka:kS≠a) (ht:a8Y tb vy kS c' qual xs [] H R)
   (h:∀s' H3 ks h' out c1 c2,Inv X ((a,seqObj "list" #[] e1)::pins) σ H3 s'->H3 kS=some (.lst (ks.map V.int))->R ks H3->(∀b o,b≠a->b≠kS->s'.heap.get? b=some o->h'.get? b=some o)->h'.get? a=some (seqObj "list" out c1)->
     h'.get? kS=some (seqObj "list" #[] c2)->KskOut false ks vs out.toList->P (.done (.ret .none)) { s' with heap:=h' }) :
   wpAny (model X.prog X.w) X.A.in1.in1 (ksk_rest a (.ref f) false vs.toArray e1 (.ref kS)) P E s:=by
 have lv:xs.length=vs.length:=rv.length;unfold ksk_rest;refine x0b (x2Y ?_)
 first
   | rw [List.forIn_toArray]
   | (rw [<- Array.forIn_toList];simp only [List.toList_toArray])
   | rw [<- Array.forIn_toList]
 refine x0b (ksk_fold (fun i s'=>∃H' ks,Inv X ((a,seqObj "list" #[] e1)::pins) σ H' s'/\H' kS=some (.lst (ks.map V.int))/\ks.length=i/\a8Y tb vy kS c' qual (xs.drop i) ks H' R) vs 0 s
   ⟨H,[],I,hk,rfl,by simpa using ht⟩ ?step ?done)
 case step=>
   rintro j u s' hx ⟨H',ks,I',hk',hl,hc⟩;simp only [x1b] at hl hc ⊢;have hj:j < vs.length:=(x0l.mp hx).1;have hjx:j < xs.length:=by omega
   obtain⟨u2,hu2,ru⟩:=rv.get (x0f hjx);rw [hx] at hu2;cases hu2;rw [x0z hjx] at hc;obtain⟨hcd,hc⟩:=hc;refine x0b (wpAny_attempt (x0F (L.run I' hv ru (x0d _ fo) hcd hc (E:=fun _ _=>False)) (fun v s'' he=>?_) fun _ _ hF=>hF.elim));obtain⟨w,H1,I1,rw1,kk,rfl,hk1,hc1⟩:=he;obtain⟨t2,rfl⟩:=rw1
   try dsimp only
   obtain⟨zl,its,n,ri,oi⟩:=(show a0U X.prog X.w H1 s''.heap kS (.lst (ks.map V.int)) from I1.hok kS _ hk1);have li:its.length=ks.length:=by rw [<- ri.length,x0k]
   have s1:=x1D s''.heap kS (x0O (·.push (.int kk t2)));obtain⟨c2,hc2⟩:∃c2,(s''.heap.update kS (x0O (·.push (.int kk t2)))).get? kS=some (seqObj "list" (its.toArray.push (.int kk t2)) c2):=⟨_,x2S oi (·.push (.int kk t2))⟩;refine x0b (x3c oi rfl ?_ (by rw [x0p,li,x1k];omega) (x0I (x2A (Array.size_push ..)) (by rw [x0p,li,x1k];omega)));refine x0h ⟨rfl,upd H1 kS (.lst ((ks++[kk]).map V.int)),ks++[kk],?_,a0f,by rw [x0m,hl];rfl,hc1⟩;refine I1.write (t':=s''.toks) (by rw [hk1];trivial) (.inl rfl) (fun b o hb e=>(s1.2 b hb).trans e) ⟨_,hc2⟩ ⟨?_,its++[.int kk t2],c2,?_,?_⟩
   · rw [x0k,x0m,x1k];simp;omega
   · rw [x1R];exact ri.append (.cons ⟨t2,rfl⟩ .nil)
   · rw [hc2];simp
 case done=>
   rintro s' ⟨H3,ks,I3,hk3,hl,hc⟩;simp only [x1b] at hl hc;rw [x0H (by omega)] at hc;obtain⟨zl,its,n,ri,oi⟩:=(show a0U X.prog X.w H3 s'.heap kS (.lst (ks.map V.int)) from I3.hok kS _ hk3);obtain⟨ea,_⟩:=I3.pin (a,seqObj "list" #[] e1) (x0u _ x0e)
   try dsimp only
   refine x0b (listItems_at oi rfl ?_);exact kEnd oi ea hka (by simpa using b1f ri) (by omega) (by omega) fun h' out c1 c2 z1 z2 z3 z4=>h s' H3 ks h' out c1 c2 I3 hk3 hc z1 z2 z3 z4
theorem a8C (L:a7E X scope params body qual x y c iy k tb){f l:Addr}{xs:List V}{vs:List Value}{E:Value->Shared->Prop}(I:Inv X pins σ H s)(hv:σ[iy]?=some (some vy))
   (fo:(f,kla_obj "<lambda>" qual params body scope [(y,c)] pm c' ctv)∈pins) (hl:s.heap.IsList l vs.toArray) (rv:Vals xs vs) (h64:xs.length < 64)
   (h:∀kS a,H kS=none->H a=none->kS≠a->a8Y tb vy kS c' qual xs [] (upd H kS (.lst [])) fun ks H3=>H3 a=none->∀ys,KOut ks xs ys->Q (.ref a) (upd (upd H3 kS (.lst [])) a (.lst ys))) :
   wpAny (model X.prog X.w) X.A (call (.builtin "sorted") [.ref l] [(x0g "key",.ref f)]) (EP X pins σ Q) E s:=by
 have lv:xs.length=vs.length:=rv.length;refine call_function_entry_kw kind_sorted plain_sorted entry_sorted (ksk_s1 _ _) ?_;unfold x3W.«sorted»;refine x0b (m:=checkCount "sorted" 1 1 _) (x0h ?_);refine x0b (collect_list hl ?_ (by rw [x1k];omega));refine x0b (wpAny_newList ?_ (by rw [x1k];omega))
 have hsz:((s.heap.push (seqObj "list" #[] 0)).update s.heap.objs.size (x0O (·++vs.toArray))).objs.size=s.heap.objs.size + 1:=by
   rw [Heap.size_update,size_push']
 have hoL:(((s.heap.push (seqObj "list" #[] 0)).update s.heap.objs.size (x0O (·++vs.toArray))).push (seqObj "list" vs.toArray 0)).get? (s.heap.objs.size + 1)=some (seqObj "list" vs.toArray 0):=by
   rw [<- hsz];exact x0s _ rfl
 have keep:∀b o,s.heap.get? b=some o->(((s.heap.push (seqObj "list" #[] 0)).update s.heap.objs.size (x0O (·++vs.toArray))).push (seqObj "list" vs.toArray 0)).get? b=some o:=fun b o q=>by
   have hlt:b < s.heap.objs.size:=x0n q;rw [Heap.get?_push_ne _ _ _ (by rw [hsz];exact x0r (x0R hlt)),Heap.get?_update_ne _ _ _ _ (x0r hlt),Heap.get?_push_ne _ _ _ (x0r hlt)];exact q
 show wpAny _ _ _ _ _ { s with heap:=((s.heap.push (seqObj "list" #[] 0)).update s.heap.objs.size (x0O (·++vs.toArray))).push (seqObj "list" vs.toArray 0) };rw [hsz];generalize ((s.heap.push (seqObj "list" #[] 0)).update s.heap.objs.size (x0O (·++vs.toArray))).push (seqObj "list" vs.toArray 0)=g1 at hoL keep ⊢;have haS:s.heap.objs.size<=s.heap.objs.size + 1:=x3p _;generalize s.heap.objs.size + 1=a at hoL haS ⊢;refine x0b (x0W (wpAny_call_entry_kw slot_list_sort ⟨_,hoL,rfl⟩ entry_list_sort ?body (ksk_l1 _ _)))
 case body=>
   show wpAny (model X.prog X.w) X.A.in1.in1 (x3W.«list.sort» ⟨[.ref a],[(x0g "key",.ref f)]⟩) _ _ _;rw [ksk_t1 f a];have ha:a < g1.objs.size:=x0n hoL;have s1:=x1D g1 a (x0O fun _=>(#[]:Array Value));obtain⟨e1,ho1⟩:∃e1,(g1.update a (x0O fun _=>(#[]:Array Value))).get? a=some (seqObj "list" #[] e1):=⟨_,x2S hoL fun _=>#[]⟩;have hkS:((g1.update a (x0O fun _=>(#[]:Array Value))).push (seqObj "tuple" vs.toArray 0)).objs.size=g1.objs.size + 1:=by rw [size_push',Heap.size_update]
   unfold ksk_tree;refine x0b (listItems_at hoL rfl ?_);refine x0b (x3c hoL rfl ?_ (by rw [x0p,x1k];omega) (x0L _));refine x0b (seqEpoch_at ho1 rfl ?_);refine x0b (wpAny_newTuple ?_ (by show vs.length<=_;rw [x1k];omega));refine x0b (wpAny_newList ?_ (x0L _));refine x0W ?_;show wpAny (model X.prog X.w) X.A.in1.in1 _ _ _ { s with heap:=((g1.update a (x0O fun _=>(#[]:Array Value))).push (seqObj "tuple" vs.toArray 0)).push (seqObj "list" #[] 0) };rw [hkS];have oK:(((g1.update a (x0O fun _=>(#[]:Array Value))).push (seqObj "tuple" vs.toArray 0)).push (seqObj "list" #[] 0)).get? (g1.objs.size + 1)=some (seqObj "list" #[] 0):=by rw [<- hkS];exact x0s _ rfl
   have oA:(((g1.update a (x0O fun _=>(#[]:Array Value))).push (seqObj "tuple" vs.toArray 0)).push (seqObj "list" #[] 0)).get? a=some (seqObj "list" #[] e1):=x0c _ (x0c _ ho1)
   have kp:∀b o,s.heap.get? b=some o->(((g1.update a (x0O fun _=>(#[]:Array Value))).push (seqObj "tuple" vs.toArray 0)).push (seqObj "list" #[] 0)).get? b=some o:=fun b o q=>
     x0c _ (x0c _ ((s1.2 b (x0r (x0x (x0n q) haS))).trans (keep b o q)))
   generalize ((g1.update a (x0O fun _=>(#[]:Array Value))).push (seqObj "tuple" vs.toArray 0)).push (seqObj "list" #[] 0)=g3 at oK oA kp ⊢;have hkS2:s.heap.objs.size<=g1.objs.size + 1:=x0I haS (x4J (x0R ha));have hka:g1.objs.size + 1≠a:=x2w (x0R ha);generalize g1.objs.size + 1=kS at oK hkS2 hka ⊢;have nk:H kS=none:=I.hok.fresh hkS2;have na:H a=none:=I.hok.fresh haS;have I5:Inv X pins σ (upd H kS (.lst [])) { s with heap:=g3 }:=I.laid (t':=s.toks) kp hkS2 ⟨x0L _,[],0,.nil,oK⟩;have aL:a≠X.env.locals:=x2w (x0x I.lt haS);have aF:a∉X.fs:=I.nofs haS
   have I6:Inv X ((a,seqObj "list" #[] e1)::pins) σ (upd H kS (.lst [])) { s with heap:=g3 }:=I5.pins_of fun p hp=>by
     rcases x0i.mp hp with rfl | hp
     · exact⟨oA,by rw [a0e hka.symm];exact na,aL,aF,fun v z=>by cases z⟩
     · exact I5.pin p (x0u _ hp)
   refine kRest L I6 hv fo a0f rv h64 hka (h kS a nk na hka) fun s' H3 ks h' out c1 c2 I3 hk3 hR z1 z2 z3 z4=>⟨_,rfl,?_⟩;obtain⟨ys,ko,ry⟩:=b5L rv z4;have hn3:H3 a=none:=(I3.pin (a,seqObj "list" #[] e1) (x0u _ x0e)).2.1
   have ly:ys.length<=x0w:=by
     obtain⟨ps,hp,rfl,_⟩:=ko;rw [x0k,hp.length_eq,x3H,x1k];omega
   refine x0h ⟨_,rfl,.ref a,_,I3.retrack hk3 (x0I I.sz haS) (fun p hp=>?_) (x0x I.bigS haS) (x0x I.bigS hkS2) z1 (out:=out.toList) (by simpa using z2) z3 ry ly,rfl,hR hn3 ys ko⟩;exact x0r (x0x (x0n (I.pin p hp).1) haS)
end
end L2
end
section
namespace L2
open PySem PySem.W PySem.Spec PyProof.Rows
theorem a6w {h h':Heap}{c':Addr}{q:Str}(x:h.CodeRec (.ref c') q)(k:∀o,h.get? c'=some o->h'.get? c'=some o):h'.CodeRec (.ref c') q:=by
 obtain⟨c,oc,vs,t,e,h1,h2,h3⟩:=x;cases e;exact⟨_,oc,vs,t,rfl,k _ h1,h2,h3⟩
theorem b3G {P:x0D}{w:World}{H:Hp}{h:Heap}{c':Addr}{q:Str}(x:h.CodeRec (.ref c') q):a0U P w H h c' (a3I c' q):=by
 refine⟨x,?_,fun h1 h2 y k=>a6w y k⟩;obtain⟨c,oc,vs,t,e,h1,_⟩:=x;cases e;exact⟨oc,h1⟩
section
variable {X:Cx}{pins:List (Addr×Obj)}{σ:St}{H:Hp}{s:Shared}
theorem Inv.grow {Pt c':Addr}{ps more:Array Value}{qual:Str}{h':Heap}{t':Nat}(I:Inv X pins σ H s)(hP:H Pt=some (.tbl ps))(hx:Heap.ExtBut Pt s.heap h')(hge:s.heap.objs.size<=c')(hrec:h'.CodeRec (.ref c') qual)(htb:h'.get? Pt=some (tabObj (ps++more))) :
   Inv X pins σ (upd (upd H c' (a3I c' qual)) Pt (.tbl (ps++more))) { s with heap:=h',toks:=t' }:=by
 have nc:H c'=none:=I.hok.fresh hge;have oth:∀b,b≠Pt->b≠c'->upd (upd H c' (a3I c' qual)) Pt (.tbl (ps++more)) b=H b:=fun b h1 h2=>by rw [a0e h1,a0e h2]
 have ne1:∀b u,H b=some u->(∀z,u≠.tbl z)->b≠Pt/\b≠c':=fun b u e hu=>⟨(fun z=>by rw [z,hP] at e;cases e;exact hu _ rfl),(fun z=>by rw [z,nc] at e;cases e)⟩;have ne2:∀b o,s.heap.get? b=some o->H b=none->b≠Pt/\b≠c':=fun b o e n=>⟨(fun z=>by rw [z,hP] at n;cases n),x0r (x0x (x0n e) hge)⟩;refine I.un ⟨fun b o e n _ _=>hx b o (ne2 b o e n).1 e,fun b o e n _ _=>⟨o.slots,hx b o (ne2 b o e n).1 e⟩,fun b o e n _=>?_,fun b o e _=>?_,fun b xs e=>?_,fun b o u e=>?_,fun b qs e=>?_,fun z=>?_⟩ (fun b u e=>?_)
 · obtain⟨h1,h2⟩:=ne2 b o e n;rw [oth b h1 h2];exact n
 · by_cases hb:b=Pt
   · exact⟨_,hb▸htb⟩
   · exact⟨o,hx b o hb e⟩
 · obtain⟨h1,h2⟩:=ne1 b _ e (fun z q=>by cases q);rw [oth b h1 h2];exact e
 · obtain⟨h1,h2⟩:=ne1 b _ e (fun z q=>by cases q);rw [oth b h1 h2];exact e
 · by_cases hb:b=Pt
   · subst hb;rw [hP] at e;cases e;exact⟨more,a0f⟩
   · have h2:b≠c':=fun z=>by rw [z,nc] at e;cases e
     exact⟨#[],by rw [oth b hb h2,e];simp⟩
 · have h2:x1g≠c':=x0r (x0x I.bigS hge)
   have h1:x1g≠Pt:=fun q=>by
     unfold NS at z;rw [q,hP] at z;rcases z with z | ⟨_,_,z⟩ <;> cases z
   unfold NS at z ⊢;rw [oth _ h1 h2];exact z
 · by_cases h1:b=Pt
   · subst h1;rw [a0f] at e;cases e;exact htb
   · rw [a0e h1] at e
     by_cases h2:b=c'
     · subst h2;rw [a0f] at e;cases e;exact b3G hrec
     · rw [a0e h2] at e;refine(I.hok b u e).stay (fun d v hc q=>hx d v ?_ q) (fun d q=>?_) fun d xs q=>?_
       · rcases hc with z | z
         · rw [z];exact h1
         · exact(ne1 d _ z (fun z q=>by cases q)).1
       · obtain⟨z1,z2⟩:=ne1 d _ q (fun z q=>by cases q);rw [oth d z1 z2];exact q
       · obtain⟨z1,z2⟩:=ne1 d _ q (fun z q=>by cases q);rw [oth d z1 z2];exact q
end
noncomputable def a7M (qual:Str)(tb:TE)(vy:V)(xs:List V)(Q:VK)(c':Addr)(H2:Hp):Prop:=∀kS a,H2 kS=none->H2 a=none->kS≠a->a8Y tb vy kS c' qual xs [] (upd H2 kS (.lst [])) fun ks H3=>H3 a=none->∀ys,KOut ks xs ys->Q (.ref a) (upd (upd H3 kS (.lst [])) a (.lst ys))
noncomputable def b3L (K:Frag)(Pt:Addr)(lpos:Pos)(qual:Str)(iy:Nat)(te tb:TE):TE:=fun σ H Q=>te σ H fun x H1=>∃a xs vy ps,x=.ref a/\SqL K H1 a xs/\xs.length < 64/\σ[iy]?=some (some vy)/\H1 Pt=some (.tbl ps)/\TriplesOk ps.toList/\
 ((codeAmong lpos ps.toList=none/\∀c',H1 c'=none->a7M qual tb vy xs Q c' (upd (upd H1 c' (a3I c' qual)) Pt (.tbl (ps++#[rawInt lpos.line,rawInt lpos.col,.ref c']))))\/∃c',codeAmong lpos ps.toList=some (.ref c')/\H1 c'=some (a3I c' qual)/\a7M qual tb vy xs Q c' H1)
section
variable {X:Cx}{scope:Scope}{params:x4T}{body:Expr}{qual x y:Str}{c cd Pt:Addr}{iy k:Nat}{tb te:TE}{e:Expr}{p pos kpos lpos:Pos}
theorem a8P (L:a7E X scope params body qual x y c iy k tb)(hq:X.env.qual++"<lambda>"=qual)(hcl:closureFor scope X.env=pure [(y,c)])(hcode:X.env.code=.ref cd)(C:CodeHd X.base cd Pt)(hB:X.base.BuiltinsAt X.mg Pt)(hg:Gl X "sorted")(hm:X.mg "sorted"=none)
   (he:PE X e te) (hs:x0Y [e] X.env=[(false,eval e X.env)]) (hdef:defaultsOf params X.env=([],[])) :
   PE X (.Call (.Name "sorted" p) [e] [⟨some "key",.Lambda params body scope lpos,kpos⟩] pos) (b3L X.K Pt lpos qual iy te tb):=by
 intro pins s σ H Q I h;refine x2O (a3z I hg hm a6B ?_);refine callWith_kw ?_ (by rw [hs];rfl) (by rw [hs];rfl);rw [hs];show wpAny _ _ (spliced ((false,eval e X.env)::[])) _ _ s;refine x2N (thn (he pins s σ H _ I h) fun u s1 ⟨x',H1,I1,r1,q1⟩=>?_);refine x3S ?_;obtain⟨a,xs,vy,ps,rfl,hS,h64,hv,hP,ht,hR⟩:=q1;obtain rfl:u=.ref a:=r1;obtain⟨its,rv,⟨ol,nl,ho,hcl',hdl,hsl⟩,_⟩:=I1.list hS;have eP:s1.heap.get? Pt=some (tabObj ps):=I1.hok Pt _ hP;have aP:a≠Pt:=fun z=>by rw [z,eP] at ho;cases ho;cases hcl'
 have C1:CodeHd s1.heap cd Pt:=C.keeps fun b o q=>I1.bk b o q
 have B1:s1.heap.BuiltinsAt X.mg Pt:=by
   obtain⟨bm,o,z1,z2,z3,z4,z5,z6⟩:=hB;exact⟨bm,o,z1,z2,z3,z4,I1.bk _ _ z5,z6⟩
 have gP:x1T≠Pt:=fun q=>by
   obtain⟨o,es,ep,e,hd,_⟩:=I1.mod.glob.keeps I1.bk;rw [q,eP] at e;cases e;cases hd
 refine kws_cons (kla_eval hdef ?_);rw [hq]
 -- behind the making
 have fin:∀(c':Addr) (ctv:Value) (h':Heap) (tk:Nat) (H2:Hp),Inv X pins σ H2 { s1 with heap:=h',toks:=tk }->h'.IsList a its.toArray->a7M qual tb vy xs Q c' H2->
     wpAny (model X.prog X.w) X.A (evalAll ((x4b pos (x2l [] X.env)).map (·.2))) (fun vs s2=>wpAny (model X.prog X.w) X.A (call (.builtin "sorted") [.ref a] (((x4b pos (x2l [⟨some "key",.Lambda params body scope lpos,kpos⟩] X.env)).filterMap (·.1)).zip (.ref h'.objs.size::vs))) (EP X pins σ Q) X.xe s2) X.xe
       { s1 with heap:=h'.push (kla_obj "<lambda>" qual params body scope [(y,c)] ((X.mg "__name__").getD .none) c' ctv),toks:=tk }:=by
   intro c' ctv h' tk H2 I2 hl hR;refine kws_nil ?_;show wpAny (model X.prog X.w) X.A (call (.builtin "sorted") [.ref a] [(x0g "key",.ref h'.objs.size)]) (EP X pins σ Q) X.xe _;have I3:Inv X pins σ H2 { s1 with heap:=h'.push (kla_obj "<lambda>" qual params body scope [(y,c)] ((X.mg "__name__").getD .none) c' ctv),toks:=tk }:=I2.kept (t':=tk) fun b o q=>x0c _ q
   have I4:Inv X ((h'.objs.size,kla_obj "<lambda>" qual params body scope [(y,c)] ((X.mg "__name__").getD .none) c' ctv)::pins) σ H2 { s1 with heap:=h'.push (kla_obj "<lambda>" qual params body scope [(y,c)] ((X.mg "__name__").getD .none) c' ctv),toks:=tk }:=I3.pins_of fun q hq=>by
     rcases x0i.mp hq with rfl | hq
     · exact⟨x0s _ rfl,I2.hok.fresh (x0j _),x2w I2.lt,I2.nofs (x0j _),fun v z=>by cases z⟩
     · exact I3.pin q (x0u _ hq)
   refine thn (a8C L I4 hv x0e (let ⟨o9,z1,z2⟩:=hl;⟨o9,x0c _ z1,z2⟩) rv h64 hR) fun v s2 h2=>?_;obtain⟨v',H5,I5,r5,q5⟩:=h2;exact⟨v',H5,I5.pins_of fun q hq=>I5.pin q (x0u _ (x0d _ hq)),r5,q5⟩
 rcases hR with⟨hnf,hR⟩ | ⟨c',hf,hc',hR⟩
 · refine kla_makeFunction (mg:=X.mg) hcl I1.ok.glob (I1.mod.glob.keeps I1.bk) hcode C1 eP ht hnf gP B1 fun c' ctv h' tk hx hge hlt hrec htb=>?_;exact fin c' ctv h' tk _ (I1.grow hP hx hge hrec htb) ⟨ol,hx _ _ aP ho,hcl',nl,hsl⟩ (hR c' (I1.hok.fresh hge))
 · refine kla_makeFunctionHit (mg:=X.mg) hcl I1.ok.glob (I1.mod.glob.keeps I1.bk) hcode C1 eP ht hf B1 fun ctv h' tk hk hsz=>?_;exact fin c' ctv h' tk _ (I1.kept (t':=tk) hk) ⟨ol,hk _ _ ho,hcl',nl,hsl⟩ hR
end
end L2
end
section
namespace L2
open PySem PySem.Spec PyProof.Rows
noncomputable def insL {α:Type}(xs:List α)(k:Nat)(y:α):List α:=xs.take k++y::xs.drop k
theorem b3r {α:Type}(xs:List α)(k:Nat)(y:α):(insL xs k y).length=xs.length + 1:=by
 unfold insL;rw [x0m,x0M,x1i,x1z];omega
section
variable {X:Cx}
noncomputable def a9U:V->List V->Hp->VK->Prop:=fun x vs H Q=>∃l xs i y,x=.ref l/\vs=[.int i,y]/\H l=some (.lst xs)/\0<=i/\i<=1000000/\xs.length < x0w/\Q .non (upd H l (.lst (insL xs i.toNat y)))
theorem b5P {its:List Value}{i:Int}{u:Value}(h0:0<=i):(have k:=if i < 0 then(i + ((its.toArray.size:Nat):Int)).toNat else min i.toNat its.toArray.size;(its.toArray.extract 0 k).push u++its.toArray.extract k)=(insL its i.toNat u).toArray:=by
 have e:(if i < 0 then(i + ((its.toArray.size:Nat):Int)).toNat else min i.toNat its.toArray.size)=min i.toNat its.length:=by
   rw [if_neg (by omega)];simp
 show(its.toArray.extract 0 (if i < 0 then(i + ((its.toArray.size:Nat):Int)).toNat else min i.toNat its.toArray.size)).push u++its.toArray.extract (if i < 0 then(i + ((its.toArray.size:Nat):Int)).toNat else min i.toNat its.toArray.size)=_;rw [e];unfold insL;rcases x4L i.toNat its.length with h | h
 · rw [x1Z h];simp;exact x1u (by rw [x1z];exact x0j _)
 · rw [x3n h,x1u h,x0H h];simp
theorem b0C:MtM X "list.insert" a9U:=by
 intro pins s σ H x vs v us Q I rx rv h;obtain⟨l,xs,i,y,rfl,rfl,hH,h0,h1,hz,q⟩:=h;cases rx;cases rv with
 | cons ri rv =>
   obtain⟨t,rfl⟩:=ri;obtain⟨u,rfl,ru⟩:=Vals.one rv;obtain⟨z,its,n,r,hl,e⟩:=I.lstM hH
   have hf:¬(!x4I i)=true:=by
     simp only [x4I];simp;omega
   refine call_meets F.slot_list_insert ⟨_,e,rfl⟩ F.entry_list_insert (F.args_list_insert_3 _ _ _) (PySem.AutoSeq1.list_insert_list_int_val_1 l its.toArray n i t u hf (by rw [x0p];omega)) ⟨e,?_⟩;refine⟨.non,_,I.lset (its':=insL its i.toNat u) hH e (b5P h0) ?_ ?_,rfl,q⟩
   · exact(r.take i.toNat).append (.cons ru (r.drop i.toNat))
   · rw [b3r];omega
end
end L2
namespace Pu
open PySem PySem.Spec L2
section
variable {T:PotK}{ι:Type}{K:x0a}{F:ι->Cx}{e ei:Expr}{pe pi:pE}{pos:Pos}
noncomputable def a4e (i:Nat)(pi pe:pE):pE:=fun env n R=>(∃xs,env[i]?=some (some (.ow .lst xs)))/\pi env n fun j env1 n1=>pe env1 n1 fun y env2 n2=>match env2[i]?,j with | some (some (.ow .lst xs)),.int j=>(0<=j/\j<=1000000/\xs.length < 1000000)/\R .non (env2.set i (some (.ow .lst (insL xs j.toNat y)))) n2 | _,_=>False
theorem a4c (i:Nat){x:Str}{p ap:Pos}(hv:∀z,EW (F z) (.Name x p) (tVar i))(hi:QE T K F ei pi)(he:QE T K F e pe)(hs1:a0u ei=true:=by rfl)(hs:a0u e=true:=by rfl)(hbase:∀z,x2E (.Name x p) "insert" (F z).env (eval (.Name x p) (F z).env)=eval (.Name x p) (F z).env:=by intro _;rfl)(hline:(ap.endLine == pos.line)=true:=by rfl)
   (hfew:∀z,((backTo pos (x0Y [ei,e] (F z).env)).all (fun x=>!x.1) && (x4b pos (x2l [] (F z).env)).all (fun x=>x.1.isSome) && decide (([ei,e]:List Expr).length + ([]:List x3h).length + (if([]:List x3h).isEmpty then 0 else 1) < 30))=true:=by intro _;rfl)
   (hplain:∀z,(backTo pos (x0Y [e] (F z).env)).any (·.1)=false:=by intro _;rfl) (hK:∀z,(F z).K=K:=by intro _;rfl):QE T K F (.Call (.Attribute (.Name x p) "insert" ap) [ei,e] [] pos) (a4e i pi pe):=by
 obtain⟨ti,i1,i2⟩:=hi;obtain⟨t,a1,a2⟩:=he;refine⟨tBM K "list" a9U (tVar i) (a2M ti (a2M t tNil)),fun z=>hK z▸b0p x2H PySem.F.slot_list_insert PySem.F.type_list_insert b0C (hv z).h (a0n (i1 z) (a0n (a1 z) a0C (a0d hs)) (a0d hs1)) (hbase z) (hfew z) hline (a0d hs1) (hplain z),fun C G σ H env n R Q hK hT S hp k=>?_⟩;obtain⟨⟨xs0,e0⟩,hp⟩:=hp;obtain⟨a,vs,ev,h1,h2,h3,h4,r⟩:=S.slots i _ e0;refine⟨.ref a,ev,.inl ⟨rfl,vs,SqL.of h4⟩,?_⟩;refine i2 C G σ H env n _ _ hK hT S hp fun j env1 n1 v H1 q1 S1 r1 f1=>?_;refine a2 C G σ H1 env1 n1 _ _ hK hT S1 q1 fun y env2 n2 u H2 q2 S2 r2 f2=>?_
 split at q2
 · rename_i xs j' ex;obtain⟨a',us,ev',g1,g2,g3,g4,r'⟩:=S2.slots i _ ex;rw [ev] at ev';cases ev';subst hK;obtain⟨S3,f3⟩:=S2.put ex ev ((r'.take j'.toNat).append (xs:=xs.take j'.toNat) (ys:=y::xs.drop j'.toNat) (us:=u::us.drop j'.toNat) ⟨u,_,rfl,r2,r'.drop j'.toNat⟩);exact⟨a,us,j',u,rfl,by rw [show v=.int j' from r1],g4,q2.1.1,q2.1.2.1,by rw [<- r'.length];exact mil' (by omega),k _ _ _ _ _ q2.2 S3 rfl ((f1.trans f2).trans f3)⟩
 · exact q2.elim
end
end Pu
end
section
namespace Pu
open PySem PySem.Spec L2
noncomputable def dPot (c:Addr)(at_ left seed:Int):List (Key×V):=[(x0Q (x0g "cells"),.ref c),(x0Q (x0g "at"),.int at_),(x0Q (x0g "left"),.int left),(x0Q (x0g "seed"),.int seed)]
theorem a1d {a b:String}(h:a≠b)(e:(x0g a == x0g b)=false:=by decide):¬((x0Q (x0g a):Key)=x0Q (x0g b)):=fun z=>by
 have:=Sum.inr.inj z;rw [this] at e;simp at e
theorem a9q {c:Addr}{a l s:Int}:valV (dPot c a l s) (x0Q (x0g "cells"):Key)=some (.ref c):=a1J rfl
theorem b6a {c:Addr}{a l s:Int}:valV (dPot c a l s) (x0Q (x0g "at"):Key)=some (.int a):=by
 unfold dPot;rw [a1k (a1d (by decide)),a1J rfl]
theorem b1y {c:Addr}{a l s:Int}:valV (dPot c a l s) (x0Q (x0g "left"):Key)=some (.int l):=by
 unfold dPot;rw [a1k (a1d (by decide)),a1k (a1d (by decide)),a1J rfl]
theorem b1x {c:Addr}{a l s:Int}:valV (dPot c a l s) (x0Q (x0g "seed"):Key)=some (.int s):=by
 unfold dPot;rw [a1k (a1d (by decide)),a1k (a1d (by decide)),a1k (a1d (by decide)),a1J rfl]
theorem a7v {kvs:List (Key×V)}{k:Key}{v:V}(h:(kvs.any fun kv=>decide (kv.1=k))=true):putK kvs k v=kvs.map (fun kv=>if kv.1=k then(kv.1,v) else kv):=by unfold putK;rw [if_pos h]
theorem b5X {c:Addr}{a l s x:Int}:putK (dPot c a l s) (x0Q (x0g "at"):Key) (.int x)=dPot c x l s:=by
 rw [a7v (by unfold dPot;simp)];unfold dPot;simp only [x0C,x2x];rw [if_neg (a1d (by decide)),if_pos trivial,if_neg (a1d (by decide)),if_neg (a1d (by decide))]
theorem b1v {c:Addr}{a l s x:Int}:putK (dPot c a l s) (x0Q (x0g "left"):Key) (.int x)=dPot c a x s:=by
 rw [a7v (by unfold dPot;simp)];unfold dPot;simp only [x0C,x2x];rw [if_neg (a1d (by decide)),if_neg (a1d (by decide)),if_pos trivial,if_neg (a1d (by decide))]
theorem b1u {c:Addr}{a l s x:Int}:putK (dPot c a l s) (x0Q (x0g "seed"):Key) (.int x)=dPot c a l x:=by
 rw [a7v (by unfold dPot;simp)];unfold dPot;simp only [x0C,x2x];rw [if_neg (a1d (by decide)),if_neg (a1d (by decide)),if_neg (a1d (by decide)),if_pos trivial]
structure a6I (cells:List Int)(at_ left seed:Int):Prop where
 c63:cells.length<=63
 a0:0<=at_
 l0:0<=left
 s0:0<=seed
 s1:seed < 2 ^ 62
noncomputable def DPotAt (M:List Addr)(H:Hp)(p:Addr):Prop:=∃(c:Addr) (cells:List Int) (at_ left seed:Int),H p=some (.dK (dPot c at_ left seed))/\c∉M/\H c=some (.lst (cells.map V.int))/\a6I cells at_ left seed
noncomputable def potD:PotK where
 at_:=fun M H p _=>DPotAt M H p
 mono:=fun h _=>h
 keep:=fun⟨c,cells,a,l,s,h1,h2,h3,h4⟩ e k=>⟨c,cells,a,l,s,e.trans h1,h2,k c _ h2 h3,h4⟩
 more:=fun⟨c,cells,a,l,s,h1,h2,h3,h4⟩ k=>⟨c,cells,a,l,s,h1,fun z=>(k c z).elim h2 fun z=>(by rw [z] at h3;cases h3),h3,h4⟩
 mu:=fun⟨c,cells,a,l,s,h1,h2,h3,h4⟩=>⟨_,h1,trivial⟩
section
variable {P:x0D}{w:World}{K:x0a}{mg:Str->Option Value}{base:Heap}
noncomputable def spNext:Sp:=fun vs H Q _=>∃(p c:Addr) (cells:List Int) (at_ left seed many:Int),vs=[.ref p,.int many]/\H p=some (.dK (dPot c at_ left seed))/\H c=some (.lst (cells.map V.int))/\a6I cells at_ left seed/\0 < many/\many < 1000000/\
 ∀d at' left' seed',0<=d->d < many->a6I cells at' left' seed'->Q (.int d) (upd H p (.dK (dPot c at' left' seed')))
theorem b0A {x:Str}{k:Nat}{ps:List Str}(G:Kn P w K mg base x k ps spNext):Kn P w K mg base x k ps (a0k K potD b1Q):=G.imp fun vs H Q E h=>by
 obtain⟨G,xs,n,R,hp,hm,_,r,hf,k⟩:=h;unfold b1Q at hf
 split at hf
 · rename_i kk m;obtain⟨v,rr,rfl,rv,u,r2,rfl,ru,rfl⟩:=r;obtain⟨p,ep,rfl⟩:=rv;obtain rfl:u=.int m:=ru;have pin:p∈G.pots:=x0A ep;obtain⟨pM,c,cells,a,l,s,e,hc,ec,ok⟩:=hp p pin;refine⟨p,c,cells,a,l,s,m,rfl,e,ec,ok,hf.1.1,hf.1.2.1,fun d a' l' s' d0 d1 ok'=>?_⟩;refine k _ _ _ _ (hf.2 d d0 d1) rfl (fun q hq=>?_) fun b o hb eb=>?_
   · by_cases hqp:q=p
     · subst hqp;exact⟨c,cells,a',l',s',a0f,hc,by rw [a0e fun z=>hc (by rw [z];exact pM)];exact ec,ok'⟩
     · obtain⟨_,c2,cells2,a2,l2,s2,e2,hc2,ec2,ok2⟩:=hp q hq;exact⟨c2,cells2,a2,l2,s2,by rw [a0e hqp];exact e2,hc2,by rw [a0e fun z=>hc2 (by rw [z];exact pM)];exact ec2,ok2⟩
   · rw [a0e (fun z=>hb (by rw [z];exact pin))];exact eb
 · exact hf.elim
noncomputable def a3K (K:x0a):Sp:=fun vs H Q _=>∃(a:Addr) (ns:List Int),vs=[.ref a]/\SqL K H a (ns.map V.int)/\ns.length<=63/\
 ∀(H':Hp) (p c:Addr) (cells:List Int) (at_ left seed:Int),Same H H'->H p=none->H c=none->H' p=some (.dK (dPot c at_ left seed))->H' c=some (.lst (cells.map V.int))->a6I cells at_ left seed->Q (.ref p) H'
end
section
variable {ι:Type}{K:x0a}{F:ι->Cx}{e:Expr}{es:List Expr}{st:Stmt}{pos:Pos}{pl:pA}{pe pa pb:pE}
theorem SR.potG {C:Ct}{G:Gh}{σ:St}{H H':Hp}{env:Env}{n:Nat}(S:SR C G σ H env n)(hn:C.np=true){p:Addr}{ob:HO}(mo:MutO ob)(h:H p=none)(sm:Same H H')(h':H' p=some ob)(ok:C.T.at_ (p::G.M) H' p n) :
   SR C ⟨p::G.M,G.pots++[p]⟩ σ H' env n:=by
 have hM:∀a∈p::G.M,a∈G.M\/H a=none:=fun a ha=>(x0i.mp ha).elim (fun z=>.inr (z▸h)) .inl
 have hp:∀(k:Nat) (q:Addr),G.pots[k]?=some q->(G.pots++[p])[k]?=some q:=fun k q e=>by
   obtain⟨hk,_⟩:=x0l.mp e;rw [x0P hk];exact e
 have mm:∀{x:PV} {v:V},Rep C.K G H x v->Rep C.K ⟨p::G.M,G.pots++[p]⟩ H' x v:=fun r=>Rep.mono (G':=⟨p::G.M,G.pots++[p]⟩) (fun b o _ e=>sm b o e) hM hp _ _ r;have mms:∀{x:List PV} {v:List V},Reps C.K G H x v->Reps C.K ⟨p::G.M,G.pots++[p]⟩ H' x v:=fun r=>Reps.mono (G':=⟨p::G.M,G.pots++[p]⟩) (fun b o _ e=>sm b o e) hM hp _ _ r;have pM:=S.fresh h
 exact {
   frame:=fun b o hb e=>sm b o (S.frame b o hb e)
   sub:=fun a ha=>(x0i.mp ha).elim (fun z=>.inr (z▸S.old h)) (S.sub a)
   sup:=fun a ha=>x0d _ (S.sup a ha)
   pots:=fun q hq=>by
     rcases x0y.mp hq with z | z
     · refine⟨x0d _ (S.pots q z).1,?_⟩;have h1:=C.T.more (M':=p::G.M) (S.pots q z).2 hM;obtain⟨o,e,_⟩:=C.T.mu h1;exact C.T.keep h1 (by rw [e,sm q o e]) fun b o _ e=>sm b o e
     · rw [x0q.mp z];exact⟨x0e,ok⟩
   pre:=by
     obtain⟨l,el,_⟩:=S.pre;exact⟨l++[p],by show G.pots++[p]=_;rw [el,x1o],.inr hn⟩
   mu:=fun a ha=>by
     rcases x0i.mp ha with rfl | ha
     · exact⟨ob,h',mo⟩
     · obtain⟨o,e,m⟩:=S.mu a ha;exact⟨o,sm a o e,m⟩
   slots:=fun i s e=>by
     cases s with
     | v x =>
       obtain⟨v,ev,r⟩:=S.slots i _ e;exact⟨v,ev,mm r⟩
     | ow kk xs =>
       obtain⟨b,us,ev,h1,h2,h3,h4,r⟩:=S.slots i _ e;refine⟨b,us,ev,x0d _ h1,h2,fun z=>?_,sm _ _ h4,mms r⟩;rcases x0y.mp z with z | z
       · exact h3 z
       · rw [x0q.mp z] at h1;exact pM h1
   inj:=S.inj
   p0:=⟨S.p0.1,C.T.hasM S.p0.2 fun z=>pM (S.pots p z).1⟩
   len:=S.len
   newp:=fun q hq hn' hM=>by
     rcases x0y.mp hq with z | z
     · exact S.newp q z hn' hM
     · rw [x0q.mp z] at hM
       exact pM (S.sup p hM) }
end
end Pu
end
section
namespace Pu
open PySem PySem.W PySem.Spec L2
noncomputable def TabG (lpos:Pos)(qual:Str)(M:List Addr)(H:Hp)(ps:Array Value):Prop:=TriplesOk ps.toList/\(codeAmong lpos ps.toList=none\/∃c',codeAmong lpos ps.toList=some (.ref c')/\c'∉M/\H c'=some (a3I c' qual))
noncomputable def tabK (T:PotK)(Pt:Addr)(lpos:Pos)(qual:Str):PotK where
 at_:=fun M H p n=>(p≠Pt/\T.at_ M H p n)\/(p=Pt/\∃ps,H Pt=some (.tbl ps)/\TabG lpos qual M H ps)
 mono:=fun h hl=>h.imp (fun z=>⟨z.1,T.mono z.2 hl⟩) id
 keep:=fun h e k=>by
   rcases h with⟨h1,h2⟩ | ⟨rfl,ps,h2,h3,h4⟩
   · exact .inl ⟨h1,T.keep h2 e k⟩
   · refine .inr ⟨rfl,ps,e.trans h2,h3,h4.imp id ?_⟩;rintro⟨c',z1,z2,z3⟩;exact⟨c',z1,z2,k _ _ z2 z3⟩
 more:=fun h k=>by
   rcases h with⟨h1,h2⟩ | ⟨rfl,ps,h2,h3,h4⟩
   · exact .inl ⟨h1,T.more h2 k⟩
   · refine .inr ⟨rfl,ps,h2,h3,h4.imp id ?_⟩;rintro⟨c',z1,z2,z3⟩;exact⟨c',z1,(fun z=>(k c' z).elim z2 (fun q=>by rw [q] at z3;cases z3)),z3⟩
 mu:=fun h=>by
   rcases h with⟨h1,h2⟩ | ⟨rfl,ps,h2,_⟩
   · exact T.mu h2
   · exact⟨_,h2,trivial⟩
 has:=fun l=>∃l',l=Pt::l'/\Pt∉l'
 hasM:=fun {l p} h hp=>by
   obtain⟨l',rfl,h2⟩:=h;refine⟨l'++[p],rfl,fun z=>?_⟩;rcases x0y.mp z with z | z
   · exact h2 z
   · exact hp (by rw [<- x0q.mp z];exact x0e)
noncomputable def a3E:pF:=fun xs n R=>match xs with | [.pot (_ + 1),.int m]=>(0 < m/\m < 1000000/\n < 1000000000)/\∀d:Int,0<=d->d < m->R (.int d) (n + 1) | _=>False
section
variable {P:x0D}{w:World}{K:x0a}{mg:Str->Option Value}{base:Heap}{T:PotK}{Pt:Addr}{lpos:Pos}{qual:Str}
theorem b3y {x:Str}{k:Nat}{ps:List Str}(G:Kn P w K mg base x k ps (a0k K T b1Q))(hT:T.has=fun _=>True):Kn P w K mg base x k ps (a0k K (tabK T Pt lpos qual) a3E):=G.imp fun vs H Q E h=>by
 obtain⟨G,xs,n,R,hp,hm,hh,r,hf,k⟩:=h;unfold a3E at hf
 split at hf
 · rename_i kk m;obtain⟨v,rr,rfl,rv,u,r2,rfl,ru,rfl⟩:=r;obtain⟨p,ep,rfl⟩:=rv;obtain rfl:u=.int m:=ru;obtain⟨l',el,nl⟩:=hh;have epl:l'[kk]?=some p:=by rw [el] at ep;simpa using ep
   have pl:p∈l':=x0A epl;have sub:∀q∈l',q∈G.pots:=fun q hq=>by rw [el];exact x0d _ hq
   have at1:∀q∈l',q∈G.M/\T.at_ G.M H q n:=fun q hq=>by
     obtain⟨a1,a2⟩:=hp q (sub q hq);rcases a2 with⟨_,a2⟩ | ⟨z,_⟩
     · exact⟨a1,a2⟩
     · exact absurd (z▸hq) nl
   have ptM:Pt∈G.pots:=by rw [el];exact x0e
   refine⟨⟨G.M,l'⟩,[.pot kk,.int m],n,fun r n'=>R r n'/\∃d,r=.int d,at1,hm,by rw [hT];trivial,⟨_,_,rfl,⟨p,epl,rfl⟩,_,_,rfl,rfl,rfl⟩,⟨hf.1,fun d d0 d1=>⟨hf.2 d d0 d1,d,rfl⟩⟩,fun r n' v H' rr rv hp' hk=>?_⟩
   have nr:Rep K G H' r v:=by
     obtain⟨_,d,rfl⟩:=rr;exact rv
   refine k r n' v H' rr.1 nr (fun q hq=>?_) fun b o hb e=>hk b o (fun z=>hb (sub b z)) e;rw [el] at hq;rcases x0i.mp hq with rfl | hq
   · rcases(hp q ptM).2 with⟨z,_⟩ | ⟨_,ps,z1,z2,z3⟩
     · exact absurd rfl z
     · refine .inr ⟨rfl,ps,hk _ _ nl z1,z2,z3.imp id ?_⟩;rintro⟨c',y1,y2,y3⟩;exact⟨c',y1,y2,hk _ _ (fun z=>y2 ((hp c' (sub c' z)).1)) y3⟩
   · exact .inl ⟨fun z=>nl (z▸hq),hp' q hq⟩
 · exact hf.elim
end
section
variable {ι:Type}{K:x0a}{F:ι->Cx}{e:Expr}{es:List Expr}{st:Stmt}{pos:Pos}{pl:pA}{pe pa pb:pE}{Pt:Addr}{lpos:Pos}{qual:Str}
noncomputable def a4d (i:Nat)(pa:pE):pS:=fun D env n=>pa env n fun x env1 n1=>match x with | .scr ns=>ns.length<=63/\∀q:Nat,D.nx (env1.set i (some (.v (.pot (q + 1))))) n1 | _=>False
theorem a6V (i:Nat){x:Str}{p:Pos}{a:Expr}{k j:Nat}{ps:List Str}(h:∀z te,EW (F z) (.Call (.Name x p) [a] [] pos) te->SW (F z) st (tAsg te (a1i i)))(hG:∀z,Kn (F z).prog (F z).w (F z).K (F z).mg (F z).base x k ps (a3K K))(hr:∀z,Room j (F z).A)(hk:k<=j)(hg:∀z,Gl (F z) x)
   (ha:QE (tabK potD Pt lpos qual) K F a pa) (n1:a0u a=true:=by rfl) (hdb:(x == ("__debug__":Str))=false:=by decide):QS (tabK potD Pt lpos qual) true K F st (a4d i pa):=by
 obtain⟨t,a1,a2⟩:=ha;refine⟨_,fun z=>(h z _ ⟨pe_fn (hG z) (hr z) hk (hg z) (a0n (a1 z) a0C (a0d n1)) hdb (a0d n1)⟩).h,fun C G σ H env n PD D hK hT hn S hp L=>?_⟩;refine a2 C G σ H env n _ _ hK hT S hp fun x env1 n1 v H1 q1 S1 r1 f1=>?_
 split at q1
 · rename_i ns;obtain⟨a,ev,hq⟩:=a5O (.inl r1);refine(show a3K K [v] H1 (fun x H1=>a1i i x σ H1 D.nx) E0 from ?_);refine⟨a,ns,by rw [ev],hq,q1.1,fun H2 p c cells a l s sm hp hc ep ec ok=>?_⟩;have hh:(tabK potD Pt lpos qual).has G.pots:=hT▸S1.hasG;obtain⟨l',el,nl⟩:=hh;have ptM:Pt∈G.pots:=by rw [el];exact x0e
   have S2:=S1.potG hn (p:=p) (ob:=.dK (dPot c a l s)) trivial hp sm ep (by
     rw [hT];refine .inl ⟨fun z=>S1.fresh hp (by rw [z];exact(S1.pots _ ptM).1),c,cells,a,l,s,ep,fun z=>?_,ec,ok⟩;rcases x0i.mp z with rfl | z
     · rw [ep] at ec;cases ec
     · exact S1.fresh hc z)
   have S3:=S2.set i (x:=.pot (l'.length + 1)) (v:=.ref p) ⟨p,by show(G.pots++[p])[l'.length + 1]?=_;rw [el];simp,rfl⟩;refine L.nx _ _ _ _ _ (q1.2 _) S3 ((Ext.fr f1).trans ⟨fun b o _ e=>sm b o e,fun c hc=>(x0i.mp (show c∈p::G.M from hc)).elim (fun z=>.inr (z▸hp)) .inl,fun k q e=>?_⟩);obtain⟨hk,_⟩:=x0l.mp e;show(G.pots++[p])[k]?=_;rw [x0P hk];exact e
 · exact q1.elim
end
end Pu
end
section
namespace Pu
open PySem PySem.W PySem.Spec L2
noncomputable def a7o (pk:pE)(y:PV):List PV->Nat->(List Int->Nat->Prop)->Prop
 | [],n,R=>R [] n
 | x::xs,n,R=>pk [some (.v x),some (.v y)] n fun r _ n1=>∃k,r=.int k/\a7o pk y xs n1 fun ks n2=>R (k::ks) n2
noncomputable def SrtK (ks:List Int)(xs ys:List PV):Prop:=∃ps:List (Int×PV),ps.Perm (ks.zip xs)/\ys=ps.map Prod.snd/\ps.Pairwise fun p q=>p.1<=q.1
noncomputable def a7V (iy:Nat)(pe pk:pE):pA:=fun env n R=>pe env n fun x env1 n1=>match x,env1[iy]? with
 | .lst xs,some (some (.v y))=>xs.length < 64/\a7o pk y xs n1 fun ks n2=>∀ys,SrtK ks xs ys->R ys env1 n2
 | _,_=>False
theorem a6c {α β:Type}{f:α->β}{ps m:List β}(h:ps.Perm m):∀l:List α,m=l.map f->∃l':List α,l'.Perm l/\ps=l'.map f:=by
 induction h with
 | nil=>intro l e;exact⟨l,.refl _,e⟩
 | cons x _ ih =>
   intro l e;cases l with
   | nil=>cases e
   | cons a l =>
     rw [x0C] at e;injection e with e1 e2;obtain⟨l',p,q⟩:=ih l e2;exact⟨a::l',.cons a p,by rw [x0C,e1,q]⟩
 | swap x y r =>
   intro l e
   match l,e with
   | a :: b :: l, e =>
     rw [x0C,x0C] at e;injection e with e1 e2;injection e2 with e2 e3;exact⟨b::a::l,.swap _ _ _,by rw [x0C,x0C,e1,e2,e3]⟩
 | trans _ _ ih1 ih2 =>
   intro l e;obtain⟨l2,p2,q2⟩:=ih2 l e;obtain⟨l1,p1,q1⟩:=ih1 l2 q2;exact⟨l1,p1.trans p2,q1⟩
theorem zip3 {K:x0a}{G:Gh}{H:Hp}:∀(ks:List Int) (xs:List PV) (us:List V),Reps K G H xs us->∃l:List (Int×PV×V),ks.zip us=l.map (fun t=>(t.1,t.2.2))/\ks.zip xs=l.map (fun t=>(t.1,t.2.1))/\∀t∈l,Rep K G H t.2.1 t.2.2
 | [],xs,us,_=>⟨[],by simp,by simp,fun _ z=>nomatch z⟩
 | k::ks,[],us,h=>by cases(show us=[] from h);exact⟨[],rfl,rfl,fun _ z=>nomatch z⟩
 | k :: ks, x :: xs, us, h => by
   obtain⟨v,r,rfl,h1,h2⟩:=h;obtain⟨l,e1,e2,h3⟩:=zip3 ks xs r h2;refine⟨(k,x,v)::l,by rw [x1q,e1];rfl,by rw [x1q,e2];rfl,fun t ht=>?_⟩;rcases x0i.mp ht with rfl | ht
   · exact h1
   · exact h3 t ht
theorem b2o {K:x0a}{G:Gh}{H:Hp}:∀(l:List (Int×PV×V)),(∀t∈l,Rep K G H t.2.1 t.2.2)->Reps K G H (l.map fun t=>t.2.1) (l.map fun t=>t.2.2):=by
 intro xq
 induction xq with
 | nil =>
   intro _;exact rfl
 | cons t l ih =>
   intro h;exact⟨_,_,rfl,h t x0e,ih fun s hs=>h s (x0d _ hs)⟩
theorem b0T {K:x0a}{G:Gh}{H:Hp}{ks:List Int}{xs:List PV}{us ys:List V}(r:Reps K G H xs us)(h:KOut ks us ys):∃ys',SrtK ks xs ys'/\Reps K G H ys' ys:=by
 obtain⟨ps,hp,rfl,ho⟩:=h;obtain⟨l,e1,e2,h3⟩:=zip3 ks xs us r;rw [e1] at hp;obtain⟨l',p',rfl⟩:=a6c hp l rfl;refine⟨l'.map fun t=>t.2.1,⟨l'.map fun t=>(t.1,t.2.1),by rw [e2];exact p'.map _,by rw [x2B];rfl,?_⟩,?_⟩
 · rw [List.pairwise_map] at ho ⊢;exact ho
 · rw [x2B];exact b2o l' fun t ht=>h3 t (p'.mem_iff.mp ht)
section
variable {T:PotK}{K:x0a}{Pt:Addr}{lpos:Pos}{qual:Str}
theorem b5M {tb:TE}{pk:pE}(hb:EOk K T tb pk){G:Gh}{H1 H2:Hp}{kS c':Addr}{y:PV}{vy:V}(hh:T.has G.pots)(h0:∀b o,b∉G.pots->H1 b=some o->H2 b=some o)(k1:H1 kS=none)(k2:H2 kS=none)(kM:kS∉G.M)(pM:∀p∈G.pots,p∈G.M)(hm:∀a∈G.M,∃o,H1 a=some o/\MutO o)
   (hc:H2 c'=some (a3I c' qual)) (cM:c'∉G.M) (ry:Rep K G H1 y vy) {R4:List Int->Hp->Prop} {RR:List Int->Nat->Prop}
   (fin:∀ks H4 n2,RR ks n2->(∀b o,b∉G.pots->H2 b=some o->H4 b=some o)->(∀p∈G.pots,T.at_ (kS::G.M) H4 p n2)->H4 kS=some (.lst (ks.map V.int))->R4 ks H4) :
   ∀(xs:List PV) (us:List V) (ks:List Int) (n:Nat) (H3:Hp),Reps K G H1 xs us->(∀b o,b∉G.pots->H2 b=some o->H3 b=some o)->(∀p∈G.pots,T.at_ (kS::G.M) H3 p n)->H3 kS=some (.lst (ks.map V.int))->a7o pk y xs n (fun more n2=>RR (ks++more) n2)->a8Y tb vy kS c' qual us ks H3 R4:=by
 intro xq
 induction xq with
 | nil =>
   intro us ks n H3 r fr at3 e3 hk;cases(show us=[] from r);exact fin ks H3 n (by simpa [a7o] using hk) fr at3 e3
 | cons x xs ih =>
   intro us ks n H3 r fr at3 e3 hk;obtain⟨u,us,rfl,rx,rr⟩:=r;have kP:kS∉G.pots:=fun z=>kM (pM _ z);have neK:∀b o,H2 b=some o->b≠kS:=fun b o e z=>by rw [z,k2] at e;cases e
   let GD:Gh:=⟨kS::G.M,G.pots⟩
   have fr1:∀b o,b∉G.M->H1 b=some o->H3 b=some o:=fun b o hb e=>fr b o (fun z=>hb (pM b z)) (h0 b o (fun z=>hb (pM b z)) e);have mv:∀{x:PV} {v:V},Rep K G H1 x v->Rep K GD H3 x v:=fun r=>Rep.mono (G':=GD) fr1 (fun a ha=>(x0i.mp (show a∈kS::G.M from ha)).elim (fun z=>.inr (z▸k1)) .inl) (fun _ _ e=>e) _ _ r
   have I:Inn K T GD [some u,some vy] H3 [some (.v x),some (.v y)] n:=by
     refine⟨fun p hp=>⟨x0d _ (pM p hp),at3 p hp⟩,hh,fun a ha=>?_,fun i s e=>?_,rfl⟩
     · rcases x0i.mp (show a∈kS::G.M from ha) with rfl | ha
       · exact⟨_,e3,trivial⟩
       · by_cases hp:a∈G.pots
         · exact T.mu (at3 a hp)
         · obtain⟨o,e,m⟩:=hm a ha;exact⟨o,fr a o hp (h0 a o hp e),m⟩
     · match i,e with
       | 0,e=>cases e;exact⟨x,u,rfl,rfl,mv rx⟩
       | 1,e=>cases e;exact⟨y,vy,rfl,rfl,mv ry⟩
       | _ + 2,e=>cases e
   refine⟨fr c' _ (fun z=>cM (pM _ z)) hc,?_⟩;refine hb _ GD _ H3 _ n _ _ rfl rfl I.sr hk fun q env' n1 v H4 rq S4 rv f4=>?_;obtain⟨k,rfl,hk2⟩:=rq;have e4:H4 kS=some (.lst (ks.map V.int)):=S4.frame kS _ kP e3;refine⟨k,rv,e4,?_⟩;refine ih us (ks++[k]) n1 _ rr (fun b o hp e=>?_) (fun p hp=>?_) a0f (by simpa [x1o] using hk2)
   · rw [a0e (neK b o e)];exact S4.frame b o hp (fr b o hp e)
   · refine T.keep (S4.pots p hp).2 (a0e fun z=>kP (z▸hp)) fun b o hb e=>?_;rw [a0e (fun z=>hb (by rw [z];exact x0e))];exact e
theorem b0y {te tb:TE}{pe pk:pE}{iy:Nat}(h2:ROk K (tabK T Pt lpos qual) te pe)(hb:EOk K (tabK T Pt lpos qual) tb pk):NOk K (tabK T Pt lpos qual) (b3L K Pt lpos qual iy te tb) (a7V iy pe pk):=by
 intro C G σ H env n R Q hK hT S hp k;refine h2 C G σ H env n _ _ hK hT S hp fun x env1 n1 v H1 p1 S1 r1 f1=>?_;have rd:RdV K G H1 x v:=hK▸r1.rd S1
 split at p1
 · rename_i xs y ey;obtain⟨h64,p1⟩:=p1;obtain⟨a,us,rfl,hq,r⟩:=rd.lst;obtain⟨vy,ev,ry⟩:=S1.slots iy _ ey;rw [hK] at ry;have hh:(tabK T Pt lpos qual).has G.pots:=hT▸S1.hasG;obtain⟨l',el,nl⟩:=id hh;have ptM:Pt∈G.pots:=by rw [el];exact x0e
   have atH:∀p∈G.pots,p∈G.M/\(tabK T Pt lpos qual).at_ G.M H1 p n1:=fun p hp=>hT▸S1.pots p hp;have pM:∀p∈G.pots,p∈G.M:=fun p hp=>(atH p hp).1
   obtain⟨ps,eP,tg⟩:∃ps,H1 Pt=some (.tbl ps)/\TabG lpos qual G.M H1 ps:=by
     rcases(atH Pt ptM).2 with⟨z,_⟩ | ⟨_,z⟩
     · exact absurd rfl z
     · exact z
   have ul:us.length=xs.length:=r.length.symm
   have rest:∀c' H2,(∀b o,b∉G.pots->H1 b=some o->H2 b=some o)->(∀p∈G.pots,(tabK T Pt lpos qual).at_ G.M H2 p n1)->H2 c'=some (a3I c' qual)->c'∉G.M->a7M qual tb vy us Q c' H2:=by
     intro c' H2 h0 at2 hc cM kS a2 nk na hka
     have k1:H1 kS=none:=by
       cases e:H1 kS with
       | none=>rfl
       | some o =>
         by_cases hp:kS∈G.pots
         · obtain⟨o2,e2,_⟩:=(tabK T Pt lpos qual).mu (at2 kS hp);rw [nk] at e2;cases e2
         · rw [h0 kS o hp e] at nk;cases nk
     have kM:kS∉G.M:=S1.fresh k1;refine b5M hb hh h0 k1 nk kM pM S1.mu hc cM ry (RR:=fun ks n2=>∀ys,SrtK ks xs ys->R ys env1 n2) (fun ks H4 n2 rr fr4 at4 e4 n4 ys ko=>?_) xs us [] n1 _ r (fun b o hp e=>?_) (fun p hp=>?_) a0f p1
     · obtain⟨ys',so,ry'⟩:=b0T r ko;have ne4:∀b o,H2 b=some o->b≠kS:=fun b o e z=>by rw [z,nk] at e;cases e
       have hk4:∀b o,b∉G.pots->H1 b=some o->upd H4 kS (.lst []) b=some o:=fun b o hp e=>by
         have e2:=h0 b o hp e;rw [a0e (ne4 b o e2)];exact fr4 b o hp e2
       have fr:Fr G H1 (upd H4 kS (.lst [])):=fun b o hb e=>hk4 b o (fun z=>hb (pM b z)) e;refine k ys' env1 n2 a2 ys (upd H4 kS (.lst [])) (rr ys' so) (S1.call hk4 fun p hp=>?_) (f1.trans fr) (by rw [a0e hka.symm];exact n4) (ry'.fr fr);rw [hT];have h5:=(tabK T Pt lpos qual).more (M':=G.M) (at4 p hp) fun a ha=>.inl (x0d _ ha)
       -- kS is none of the pots' things
       have h6:=(tabK T Pt lpos qual).keep (H':=upd H4 kS (.lst [])) (at4 p hp) (a0e fun z=>kM (pM _ (z▸hp))) fun b o hb e=>by
         rw [a0e (fun z=>hb (by rw [z];exact x0e))];exact e
       exact(tabK T Pt lpos qual).more (M':=G.M) h6 fun a ha=>.inl (x0d _ ha)
     · rw [a0e (fun z=>by rw [z,nk] at e;cases e)];exact e
     · have h5:=(tabK T Pt lpos qual).more (M':=kS::G.M) (at2 p hp) fun a ha=>(x0i.mp ha).elim (fun z=>.inr (z▸nk)) .inl
       exact(tabK T Pt lpos qual).keep h5 (a0e fun z=>kM (pM _ (z▸hp))) fun b o hb e=>by
         rw [a0e (fun z=>hb (by rw [z];exact x0e))];exact e
   refine⟨a,us,vy,ps,rfl,hq,by omega,ev,eP,tg.1,?_⟩;rcases tg.2 with hn | ⟨c',z1,z2,z3⟩
   · refine .inl ⟨hn,fun c' hc'=>rest c' _ (fun b o hp e=>?_) (fun p hp=>?_) ?_ (S1.fresh hc')⟩
     · have b1:b≠Pt:=fun z=>hp (by rw [z];exact ptM);rw [a0e b1,a0e (fun z=>by rw [z,hc'] at e;cases e)];exact e
     · by_cases hpp:p=Pt
       · subst hpp;refine .inr ⟨rfl,_,a0f,?_,.inr ⟨c',?_,S1.fresh hc',?_⟩⟩
         · have e:(ps++#[rawInt lpos.line,rawInt lpos.col,x1r c']).toList=ps.toList++[rawInt lpos.line,rawInt lpos.col,.ref c']:=by simp
           rw [e];exact TriplesOk_snoc _ _ _ _ tg.1
         · have e:(ps++#[rawInt lpos.line,rawInt lpos.col,x1r c']).toList=ps.toList++[rawInt lpos.line,rawInt lpos.col,.ref c']:=by simp
           rw [e];exact codeAmong_snoc _ tg.1 hn
         · rw [a0e (fun z=>by rw [z,eP] at hc';cases hc'),a0f]
       · rcases(atH p hp).2 with⟨_,z⟩ | ⟨z,_⟩
         · refine .inl ⟨hpp,?_⟩;have nc:p≠c':=fun q=>S1.fresh hc' (by rw [<- q];exact pM p hp);have z2:=T.keep (H':=upd H1 c' (a3I c' qual)) z (a0e nc) fun b o _ e=>by rw [a0e (fun q=>by rw [q,hc'] at e;cases e)];exact e
           exact T.keep z2 (by rw [a0e hpp]) fun b o hb e=>by rw [a0e (fun q=>hb (by rw [q];exact pM _ ptM))];exact e
         · exact absurd z hpp
     · rw [a0e (fun z=>by rw [z,eP] at hc';cases hc'),a0f]
   · exact .inr ⟨c',z1,z3,rest c' H1 (fun _ _ _ e=>e) (fun p hp=>(atH p hp).2) z3 z2⟩
 · exact p1.elim
end
section
variable {T:PotK}{ι:Type}{K:x0a}{F:ι->Cx}{Pt cd:Addr}{lpos p pos kpos:Pos}{qual x y:Str}{e body:Expr}{pe pk:pE}{scope:Scope}{params:x4T}{iy k:Nat}{c:ι->Addr}
theorem b2t (he:QR (tabK T Pt lpos qual) K F e pe)
   (hb:QE (tabK T Pt lpos qual) K (fun q:ι×Addr×Addr×Shared×Hp=>a9r (F q.1) scope [x,y] qual q.2.1 q.2.2.1 [(y,c q.1)] q.2.2.2.1 q.2.2.2.2) body pk)
   (S:a2Z scope x y) (hr:∀z,Room k (F z).A) (hc:∀z,(F z).env.cells.lookup y=some (c z)) (hi:∀z,(F z).env.scope.names.lookup y=some .cell) (hn:∀z,(F z).N[iy]?=some y)
   (bd:∀z (pm ct cdv u:Value),x4t (kla_fn "<lambda>" qual params body scope [(y,c z)] pm cdv ct) ⟨[u],[]⟩=pure [(x,u)])
   (hq:∀z,(F z).env.qual++"<lambda>"=qual) (hcl:∀z,closureFor scope (F z).env=pure [(y,c z)]) (hcode:∀z,(F z).env.code=.ref cd) (C:∀z,CodeHd (F z).base cd Pt) (hB:∀z,(F z).base.BuiltinsAt (F z).mg Pt)
   (hg:∀z,Gl (F z) "sorted") (hm:∀z,(F z).mg "sorted"=none) (hdef:∀z,defaultsOf params (F z).env=([],[])) (hs:a0u e=true:=by rfl) (hK:∀z,(F z).K=K:=by intro _;rfl) :
   QN (tabK T Pt lpos qual) K F (.Call (.Name "sorted" p) [e] [⟨some "key",.Lambda params body scope lpos,kpos⟩] pos) (a7V iy pe pk):=by
 obtain⟨t,h1,h2⟩:=he;obtain⟨u,h3,h4⟩:=hb;refine⟨_,fun z=>hK z▸a8P (c:=c z) (k:=k) (tb:=u) ⟨S,hr z,hc z,hi z,hn z,bd z,fun f c' s H=>h3 (z,f,c',s,H)⟩ (hq z) (hcl z) (hcode z) (C z) (hB z) (hg z) (hm z) (h1 z) (a0d hs) (hdef z),b0y h2 h4⟩
end
end Pu
end
section
namespace L2
open PySem PySem.W PySem.Spec PyProof.Rows
noncomputable def b6o (Pt:Addr)(H:Hp):Prop:=∀b,H b=none\/(∃o xs,H b=some (.frz o (.lst xs)))\/(b=Pt/\H b=some (.tbl #[]))
theorem b0Q {P:x0D}{w:World}{K:Frag}{mg mb:Str->Option Value}{CX:CXT}{k:Nat}{fa a Pt cd:Addr}{fd:x3Z}{x:Str}{sp:Sp}{s₁:Shared}{vs:List Value}{ns:List Int}
   (KX:K.In s₁.heap) (hns:s₁.heap.Ns x1T mg) (hb:s₁.heap.Ns builtinsNs mb) (hbb:∀x:Str,x≠"__name__"->mb x=x1s x) (hlim:s₁.heap.NoLimit) (hg:s₁.gens=#[])
   (ha:s₁.heap.get? a=some { cls:=.type "list",data:=.seq vs.toArray }) (hi:IntsAre vs ns) (hl:ns.length<=x0w) (hr:Room k callerA)
   (hP:s₁.heap.get? Pt=some (tabObj #[])) (hC:CodeHd s₁.heap cd Pt) (hB:s₁.heap.BuiltinsAt mg Pt) (hKP:K.lookup Pt=none) (hsy:x1g≠Pt)
   (F:∀base:Heap,K.In base->base.Ns x1T mg->CodeHd base cd Pt->base.BuiltinsAt mg Pt->FnOk P w K mg base CX k fa fd [x] sp) (hbind:∀(s:Shared) (u:Value),BindsTo s fd ⟨[u],[]⟩ [(x,u)])
   (hsp:∀H:Hp,b6o Pt H->H Pt=some (.tbl #[])->SqL K H a (ns.map V.int)->sp [.ref a] H (fun v _=>v=.bl true) fun _ _ _=>False)
   (hCX:∀H e s',CX [] H s₁ (fun _ _ _=>False) e s'->False) :
   x2q (model P w) callerA (.call (.ref fa) ⟨[.ref a],[]⟩) (fun r s'=>r=.ok (.ret (.bool true))/\OldK s₁.heap s'.heap/\s'.os=s₁.os/\AllBare s'.gens) s₁:=by
 have rv:=a9A hi;have lenV:=hi.length;have haP:a≠Pt:=fun z=>by rw [z,hP] at ha;cases ha
 have core:∀H:Hp,b6o Pt H->H Pt=some (.tbl #[])->SqL K H a (ns.map V.int)->HOk P w H s₁.heap->(∀b,H b≠none->b=a\/b=Pt)->(H a≠none->K.lookup a=none)->
     x2q (model P w) callerA (.call (.ref fa) ⟨[.ref a],[]⟩) (fun r s'=>r=.ok (.ret (.bool true))/\OldK s₁.heap s'.heap/\s'.os=s₁.os/\AllBare s'.gens) s₁:=by
   intro H hO hPt hS hok hA hK;have base_of:∀{b:Addr} {o:Obj},s₁.heap.get? b=some o->H b=none->(hidT s₁.heap H).get? b=some o:=fun e n=>b3s e n
   have noA:∀{b:Addr} {o:Obj},s₁.heap.get? b=some o->(∀n,o.data≠.seq vs.toArray n)->(∀ps,o.data≠.fields ps)->H b=none:=fun {b o} e d1 d2=>by
     cases q:H b with
     | none=>rfl
     | some u =>
       rcases hA b (by rw [q];simp) with e' | e'
       · subst e';rw [ha] at e;cases e;exact absurd rfl (d1 _)
       · subst e';rw [hP] at e;cases e;exact absurd rfl (d2 _)
   have nsK:∀{b:Addr} {m:Str->Option Value},s₁.heap.Ns b m->(hidT s₁.heap H).Ns b m:=fun {b m} ⟨o,es,ep,e,d,r⟩=>⟨o,es,ep,base_of e (noA e (fun n z=>by rw [d] at z;cases z) (fun n z=>by rw [d] at z;cases z)),d,r⟩
   have hKb:K.In (hidT s₁.heap H):=fun b o e=>base_of (KX b o e) (by
     cases q:H b with
     | none=>rfl
     | some u =>
       rcases hA b (by rw [q];simp) with e' | e'
       · subst e';rw [hK (by rw [q];simp)] at e;cases e
       · subst e'
         rw [hKP] at e;cases e)
   have hM:Mod K mg (hidT s₁.heap H):=⟨hKb,nsK hns,⟨mb,nsK hb,hbb⟩,let ⟨mc,h1,h2⟩:=hlim;⟨mc,nsK h1,h2⟩⟩
   have hC':CodeHd (hidT s₁.heap H) cd Pt:=by
     obtain⟨o,vs',file,tf,flags,tg,inF,text,tt,e1,r1,r2,r3,r4,r5,r6,r7,r8,hne⟩:=hC;refine⟨o,vs',file,tf,flags,tg,inF,text,tt,base_of e1 ?_,r1,r2,r3,r4,r5,r6,r7,r8,hne⟩;cases q:H cd with
     | none=>rfl
     | some u =>
       rcases hA cd (by rw [q];simp) with e' | e'
       · subst e';rw [ha] at e1;cases e1;have z:x1L "list"=x1L "code":=r1;injection z with z;exact absurd z (by decide)
       · exact absurd e' hne
   have hB':(hidT s₁.heap H).BuiltinsAt mg Pt:=by
     obtain⟨bm,o,z1,z2,z3,z4,z5,z6,z7,z8⟩:=hB;exact⟨bm,o,z1,z2,z3,z4,base_of z5 (noA z5 (fun n z=>by rw [z8] at z;cases z) (fun n z=>by rw [z8] at z;cases z)),z6,z7,z8⟩
   have nsy:NS H:=by
     rcases hO x1g with z | ⟨o,xs,z⟩ | ⟨z,_⟩
     · exact .inl z
     · exact .inr ⟨o,_,z⟩
     · exact absurd z hsy
   have e0:Env0 P w K mg (hidT s₁.heap H) callerA [] s₁ H:=⟨rfl,hM,fun b o e=>b5A e,x2A (b1i _ _),trivial,fun b hb=>absurd (show b∈([]:List Addr) from hb) (by simp),hok,.of_eq hg,nsy⟩;refine x4g ((F _ hKb (nsK hns) hC' hB').run callerA [] s₁ H ⟨[.ref a],[]⟩ [.ref a] [.ref a] _ _ hr e0 (hbind s₁ (.ref a)) (.cons rfl .nil) (hsp H hO hPt hS)) fun r s' h=>?_;cases r with
   | error e=>exact(hCX H e s' h).elim
   | ok fl =>
     cases fl with
     | next=>exact x2X h
     | brk=>exact x2X h
     | cont=>exact x2X h
     | ret u =>
       obtain⟨v,H',os,bare,un,hok',r',q⟩:=h;have q':v=.bl true:=q;subst q';obtain rfl:u=Value.bool true:=r'
       have kept:∀b o,b≠Pt->s₁.heap.get? b=some o->s'.heap.get? b=some o:=fun b o hb e=>by
         cases q:H b with
         | none=>exact un.keep b o e q (by intro z;exact absurd (show b∈([]:List Addr) from z) (by simp)) (by simp)
         | some u =>
           rcases hO b with z | ⟨ob,xs,z⟩ | ⟨z,_⟩
           · rw [q] at z;cases z
           · have z2:=un.frzs b ob _ z;obtain⟨e1,_⟩:=hok b _ z;obtain⟨e2,_⟩:=hok' b _ z2;rw [e] at e1;cases e1;exact e2
           · exact absurd z hb
       obtain⟨more,hm⟩:=un.tbls Pt #[] hPt;have eP:s'.heap.get? Pt=some (tabObj (#[]++more)):=hok' Pt _ hm;refine⟨rfl,⟨fun b o e=>?_,fun b o e=>?_⟩,os,bare⟩
       · by_cases hb:b=Pt
         · subst hb;rw [hP] at e;cases e;exact .inr (.inl ⟨(hC.tab hP).isCodeTable,rfl,#[],more,rfl,eP⟩)
         · exact .inl (kept b o hb e)
       · by_cases hb:b=Pt
         · subst hb;exact⟨_,eP⟩
         · exact⟨o,kept b o hb e⟩
 have tabOk:∀(H:Hp),a0U P w H s₁.heap Pt (.tbl #[]):=fun H=>hP;cases hk:K.lookup a with
 | some o =>
   have e:=KX a o hk;rw [ha] at e;cases e;refine core (fun b=>if b=Pt then some (.tbl #[]) else none) (fun b=>?_) (if_pos rfl) (.inr ⟨_,vs.toArray,_,hk,rfl,rfl,rfl,by rw [x0p,lenV];exact hl,by simpa using rv⟩) (fun b u z=>?_) (fun b z=>?_) fun z=>absurd (if_neg haP) z
   · by_cases hb:b=Pt
     · exact .inr (.inr ⟨hb,if_pos hb⟩)
     · exact .inl (if_neg hb)
   · by_cases hb:b=Pt
     · have z':=(if_pos hb).symm.trans z;cases z';subst hb;exact tabOk _
     · have z':=(if_neg hb).symm.trans z;cases z'
   · by_cases hb:b=Pt
     · exact .inr hb
     · exact absurd (if_neg hb) z
 | none =>
   refine core (fun b=>if b=Pt then some (.tbl #[]) else if b=a then some (.frz { cls:=.type "list",data:=.seq vs.toArray } (.lst (ns.map V.int))) else none) (fun b=>?_) (if_pos rfl) (.inl (.inr ⟨{ cls:=.type "list",data:=.seq vs.toArray },?_⟩)) (fun b u z=>?_) (fun b z=>?_) fun _=>hk
   · by_cases hb:b=Pt
     · exact .inr (.inr ⟨hb,if_pos hb⟩)
     · by_cases hb2:b=a
       · exact .inr (.inl ⟨_,_,by simp only [if_neg hb,if_pos hb2];rfl⟩)
       · exact .inl (by simp only [if_neg hb,if_neg hb2])
   · show(if a=Pt then _ else if a=a then _ else _)=_;rw [if_neg haP,if_pos rfl]
   · have z:(if b=Pt then some (HO.tbl #[]) else if b=a then some (.frz { cls:=.type "list",data:=.seq vs.toArray } (.lst (ns.map V.int))) else none)=some u:=z
     by_cases hb:b=Pt
     · rw [if_pos hb] at z;cases z;subst hb;exact tabOk _
     · rw [if_neg hb] at z
       by_cases hb2:b=a
       · rw [if_pos hb2] at z;cases z;subst hb2;exact⟨ha,by rw [x0k];exact hl,vs,_,rv,ha⟩
       · rw [if_neg hb2] at z;cases z
   · by_cases hb:b=Pt
     · exact .inr hb
     · by_cases hb2:b=a
       · exact .inl hb2
       · exact absurd (show(if b=Pt then _ else if b=a then _ else none)=none by rw [if_neg hb,if_neg hb2]) z
structure Fn0C (K:Frag)(mg:Str->Option Value)(x:Str)(st:Stmt)(cd:Addr):Prop where
 ex:∃(f:Addr) (oc:Value) (od:Option Addr) (kV doc pm:Value) (an:Option Addr) (ct:Value) (osl:Array (Option Value)),K.lookup f=some ⟨oc,od,.func (fnOf x x (a1f st) (a0K st) (a0i st) .none kV doc pm an (.ref cd) ct),osl⟩/\codeIn K (.ref cd) x=true/\keepIn K (.ref f)=true/\mg x=some (.ref f)
theorem b5T {K:Frag}{h:Heap}{mg:Str->Option Value}{x:Str}{st:Stmt}(X:K.In h)(G:h.Ns x1T mg){f cd:Addr}{oc:Value}{od an:Option Addr}{osl:Array (Option Value)}{kV doc pm ct:Value}
   (a:nsIn K x1T x=some (some (.ref f))) (l:K.lookup f=some ⟨oc,od,.func (fnOf x x (a1f st) (a0K st) (a0i st) .none kV doc pm an (.ref cd) ct),osl⟩)
   (c:codeIn K (.ref cd) x=true) (k:keepIn K (.ref f)=true):Fn0C K mg x st cd:=⟨f,oc,od,kV,doc,pm,an,ct,osl,l,c,k,mg_of X G a⟩
section
variable {P:x0D}{w:World}{K:Frag}{mg:Str->Option Value}{base:Heap}
theorem Fn0C.ok {x:Str}{st:Stmt}{cd:Addr}{N ps:List Str}{k:Nat}{sp:Sp}(F:Fn0C K mg x st cd)(S:a0q N ps (a0i st))(len:∀vs H Q E,sp vs H Q E->vs.length=ps.length)
   (bd:∀(kV doc pm:Value) (an:Option Addr) (cdv ct:Value) (us:List Value),us.length=ps.length->x4t (fnOf x x (a1f st) (a0K st) (a0i st) .none kV doc pm an cdv ct) ⟨us,[]⟩=pure (ps.zip us))
   (hbody:∀(f:Addr) (A:Around) (outer:List Env) (s:Shared) (H:Hp) (vs:List V) (Q:VK) (E:XK),Room k (A.deeper (envOfC x (a0i st) s.heap.objs.size f (.ref cd)))->sp vs H Q E->
     ∃t,PSs (cxOf CX0 P w K mg base N x (a0i st) f (.ref cd) A outer s H E).nox (a0K st) t/\t { nx:=fun _ H'=>Q .non H',rt:=Q } (start N vs) H):Kn P w K mg base x (k + 1) ps sp:=by
 obtain⟨f,oc,od,kV,doc,pm,an,ct,osl,l,hcd,kp,m⟩:=F.ex;refine⟨f,_,fn_of l hcd S len fun A outer s H vs Q E hr hsp=>?_,.all (bd kV doc pm an (.ref cd) ct),kp,m,oc,od,osl,l⟩;obtain⟨t,h,q⟩:=hbody f A outer s H vs Q E hr hsp;exact⟨t,h.nox,q⟩
end
noncomputable def a7O (K:Frag)(Pt:Addr):Sp:=fun vs H Q _=>∃(a:Addr) (ns:List Int),vs=[.ref a]/\SqL K H a (ns.map V.int)/\ns.length<=63/\b6o Pt H/\H Pt=some (.tbl #[])/\∀H',Q (.bl true) H'
theorem a9z {l:OpenLaw}{q:x0D}{loose:List Str}{XP:(Str->Option Value)->Heap->Prop}{d:DefRec}{K:Params->Frag}{as:List Addr}{e:∀P,as=(K P).map (·.1)}{Pt:Addr}{x:Str}{k:Nat}(hn:l.most=some 63)(hdf:d.params.defaults=[])(hk:Room k callerA)(hsy:x1g≠Pt)
   (F:∀(w:World) (mg:Str->Option Value) (h:Heap),(K w.params).In h->h.Ns x1T mg->∃st x' st',Fn0 (K w.params) mg d.name st/\(∃cd,Fn0C (K w.params) mg x' st' cd/\codeHdIn (K w.params) cd Pt=true)/\(K w.params).lookup Pt=none/\
     (∀(kV doc pm:Value) (an:Option Addr) (cdv ct:Value) (s:Shared) (u:Value),BindsTo s (fnOf d.name d.name (a1f st) (a0K st) (a0i st) .none kV doc pm an cdv ct) ⟨[u],[]⟩ [(x,u)])/\
     ∀cd,Fn0C (K w.params) mg x' st' cd->∀base:Heap,(K w.params).In base->base.Ns x1T mg->CodeHd base cd Pt->base.BuiltinsAt mg Pt->Kn l.prog w (K w.params) mg base d.name k [x] (a7O (K w.params) Pt)) :
   WalkO q loose XP (kmHook K as e [Pt]).says l.row.toRowW d [] (fun f vs=>PySem.call f vs):=by
 refine Att.attach_call hn hdf fun w s₀ s₁ mg mb fa o pm cdv doc a vs ns G Y ho hd hcd hmg hobj hints hlen hg=>?_;have KX:=km_in_of Y;have hP:=km_tabs_of Y Pt x0e;obtain⟨st,x',st',F0,⟨cd,fC,hhd⟩,hKP,hb,hF⟩:=F w mg _ KX G.T.g;obtain⟨f,fd,F1,m⟩:=F0.ex;have e:=hmg.symm.trans m;cases e;have hC:=codeHd_of_K KX hhd
 have hB:s₁.heap.BuiltinsAt mg Pt:=by
   obtain⟨bm,ob,b1,b2,b3,b4,b5,b6⟩:=G.T.bmain;refine⟨bm,ob,b1,b2,fun q=>?_,fun q=>?_,b3,b4,b5,b6⟩
   · obtain⟨o,es,ep,e,hd,_⟩:=G.T.g;rw [q,e] at b3;cases b3;rw [hd] at b6;cases b6
   · rw [q,hP] at b3;cases b3;cases b4
 refine b0Q (x:=x) (CX:=CX0) (sp:=a7O (K w.params) Pt) (fd:=fd) KX G.T.g G.T.b G.T.builtins G.T.nolimit hg hobj hints (x0I hlen (by decide)) hk hP hC hB hKP hsy (fun base kb nb c1 c2=>?_) (fun s u=>?_) (fun H hO hPt hS=>⟨a,ns,rfl,hS,hlen,hO,hPt,fun _=>rfl⟩) fun _ _ _ z=>z
 · obtain⟨f',fd',a',b',c',m',oc',od',osl',lk'⟩:=(hF cd fC base kb nb c1 c2).ex;have e:=m.symm.trans m';cases e;obtain⟨oc,od,kV,doc,pm,an,cdv,ct,osl,_,lk,hcd⟩:=F1.ex;have e2:=lk.symm.trans lk';cases e2;exact a'
 · obtain⟨oc,od,kV,doc,pm,an,cdv,ct,osl,rfl,lk,hcd⟩:=F1.ex;exact hb kV doc pm an cdv ct s u
end L2
namespace Pu
open PySem PySem.W PySem.Spec L2
section
variable {P:x0D}{w:World}{K:x0a}{mg:Str->Option Value}{base:Heap}{T:PotK}{Pt:Addr}{lpos:Pos}{qual:Str}
theorem fn_okC {x:Str}{st:Stmt}{cd:Addr}{N ps:List Str}{k:Nat}{body:pS}(F0:Fn0C K mg x st cd)(sc:a0q N ps (a0i st))
   (bd:∀(kV doc pm:Value) (an:Option Addr) (cdv ct:Value) (us:List Value),us.length=ps.length->x4t (x1W x x (a1f st) (a0K st) (a0i st) .none kV doc pm an cdv ct) ⟨us,[]⟩=pure (ps.zip us))
   (h:∀(f:Addr) (A:Around) (outer:List PySem.Env) (s:Shared) (H:Hp) (E:XK),Room k (A.deeper (x4E x (a0i st) s.heap.objs.size f (.ref cd)))->
     QSs T false K (fun _:Unit=>(cxOf CX0 P w K mg base N x (a0i st) f (.ref cd) A outer s H E).nox) (a0K st) body) :
   Kn P w K mg base x (k + 1) ps (a0k K T (fnP N ps body)):=by
 refine F0.ok sc (fun vs H Q E h=>?_) bd (fun f A outer s H vs Q E hr hsp=>?_)
 · obtain⟨G,xs,n,R,_,_,_,r,hf,_⟩:=h;rw [<- r.length];exact hf.1
 · obtain⟨t,h1,h2⟩:=h f A outer s H E hr;obtain⟨G,xs,n,R,hp,hm,hh,r,hf,k'⟩:=hsp;refine⟨t,h1 (),?_⟩;have S0:=a5c (N:=N) (np:=false) hp hm hh r
   have fin:∀(x:PV) (n':Nat) (v:V) (G':Gh) (σ:St) (H':Hp) (env:Env),R x n'->SR ⟨K,T,G.M,G.pots,H,false⟩ G' σ H' env n'->Rep K ⟨G.M,G'.pots⟩ H' x v->Q v H':=by
     intro x n' v G' σ H' env rr S' rv
     have ep:G'.pots=G.pots:=by
       obtain⟨l,el,hl⟩:=S'.pre;rcases hl with hl | hl
       · rw [el,hl,x1f]
       · cases hl
     rw [ep] at rv;exact k' _ _ _ _ rr rv (fun p hp'=>T.more (S'.pots p (by rw [ep];exact hp')).2 fun a ha=>.inl (S'.sup a ha)) S'.frame
   refine h2 _ G _ H _ n _ _ rfl rfl rfl S0 hf.2 ⟨fun env n' G' σ H' q S' _=>?_,fun x n' v G' σ H' env q S' rv _=>fin x n' v G' σ H' env q S' rv,fun _ _ _ _ _ q=>q.elim,fun _ _ _ _ _ q=>q.elim⟩;exact fin .non n' .non G' σ H' env q S' rfl
theorem b5K {x:Str}{st:Stmt}{N:List Str}{y:Str}{k:Nat}{body:pS}(F0:Fn0 K mg x st)(sc:a0q N [y] (a0i st))
   (bd:∀(kV doc pm:Value) (an:Option Addr) (cdv ct:Value) (us:List Value),us.length=[y].length->x4t (x1W x x (a1f st) (a0K st) (a0i st) .none kV doc pm an cdv ct) ⟨us,[]⟩=pure ([y].zip us))
   (h:∀(f:Addr) (cdv:Value) (A:Around) (outer:List PySem.Env) (s:Shared) (H:Hp) (E:XK),Room k (A.deeper (x4E x (a0i st) s.heap.objs.size f cdv))->
     QSs (tabK T Pt lpos qual) true K (fun _:Unit=>(cxOf CX0 P w K mg base N x (a0i st) f cdv A outer s H E).nox) (a0K st) body)
   (hlaw:∀ns:List Int,ns.length<=63->body ⟨fun _ _=>False,fun r _=>r=.bl true,fun _ _=>False,fun _ _=>False⟩ (a2O N [.scr ns]) 0) :
   Kn P w K mg base x (k + 1) [y] (a7O K Pt):=by
 refine F0.ok sc (fun vs H Q E h=>?_) bd (fun f cdv A outer s H vs Q E hr hsp=>?_)
 · obtain⟨a,ns,rfl,_⟩:=h
   rfl
 · obtain⟨t,h1,h2⟩:=h f cdv A outer s H E hr;obtain⟨a,ns,rfl,hS,hl,hO,hPt,q⟩:=hsp;refine⟨t,h1 (),?_⟩
   let G:Gh:=⟨[Pt],[Pt]⟩
   have r:Reps K G H [.scr ns] [.ref a]:=by
     refine .one ⟨a,rfl,?_⟩;rcases hS with(hS | ⟨o,hS⟩) | hS
     · rcases hO a with z | ⟨o,xs,z⟩ | ⟨_,z⟩
       · rw [z] at hS;cases hS
       · rw [z] at hS;cases hS
       · rw [z] at hS;cases hS
     · refine .inl ⟨fun z=>?_,o,hS⟩;rw [x0q.mp (show a∈[Pt] from z),hPt] at hS;cases hS
     · exact .inr hS
   have S0:=a5c (T:=tabK T Pt lpos qual) (N:=N) (np:=true) (n:=0) (G:=G) (fun p hp=>by
       rw [x0q.mp (show p∈[Pt] from hp)];exact⟨x0e,.inr ⟨rfl,#[],hPt,trivial,.inl rfl⟩⟩) (fun a ha=>by
       rw [x0q.mp (show a∈[Pt] from ha)]
       exact⟨_,hPt,trivial⟩) ⟨[],rfl,by simp⟩ r
   refine h2 _ G _ H _ 0 _ _ rfl rfl rfl S0 (hlaw ns hl) ⟨fun _ _ _ _ _ q=>q.elim,fun x n' v G' σ H' env qq S' rv _=>?_,fun _ _ _ _ _ q=>q.elim,fun _ _ _ _ _ q=>q.elim⟩;subst qq;obtain rfl:v=.bl true:=rv;exact q H'
end
end Pu
namespace L2
open PySem PySem.W PySem.Spec PyProof.Rows
theorem b2n {X:Cx}{k:Nat}{scope:Scope}{N:List Str}{qual:Str}{f c':Addr}{cl:List (Str×Addr)}{s:Shared}{H:Hp}(hr:Room (k + 3) X.A):Room k (a9r X scope N qual f c' cl s H).A:=((hr.in1).in1).deeper _
theorem b0S {scope:Scope}{x y:Str}(kind:scope.kind=.function)(co:scope.isCoroutine=false)(gen:scope.isGenerator=false)(hx:scope.names.lookup x=some .local)(hy:scope.names.lookup y=some .free)
   (fr:(scope.names.filter fun z=>z.2 == .free).map (·.1)=[y]) (nc:∀z∈scope.names,z.2≠.cell) (ne:(y == x)=false):a2Z scope x y:=by
 refine⟨kind,co,gen,hx,hy,fun z hz=>?_,nc,ne⟩;have h1:z∈(scope.names.filter fun z=>z.2 == .free).map (·.1):=x1M.mpr ⟨(z,.free),x1c.mpr ⟨x1x hz,rfl⟩,rfl⟩;rw [fr] at h1;exact x0q.mp h1
noncomputable abbrev ptOf {h:Heap}{c P:Addr}(_:PySem.W.CodeHd h c P):Addr:=P
end L2
end
section
namespace Pu
open PySem PySem.Spec L2
section
variable {T:PotK}{np:Bool}{ι:Type}{K:x0a}{F:ι->Cx}{a b ea eb:Expr}{st:Stmt}{pos:Pos}{pa pb pi pj:pE}
theorem b1j {X:Cx}(K:x0a){x y:Expr}{gx gy:TG}{pos:Pos}{k:Nat}(hc:X.calm=true)(h1:GW X x gx)(h2:GW X y gy)(hn:(x0G [x,y] X.env).length=2:=by rfl)(hst:(x0G [x,y] X.env).findIdx? (·.1)=none:=by rfl)
   (hs:(x0G [x,y] X.env).map (·.2)=assign x X.env::(x0G [y] X.env).map (·.2):=by rfl) (hs2:(x0G [y] X.env).map (·.2)=assign y X.env::(x0G [] X.env).map (·.2):=by rfl) (hK:X.K=K:=by rfl) :
   GW X (.Tuple [x,y] k pos) (gTup K 2 (a2X gx (a2X gy gNil))):=⟨hK▸a6b hc (a1N h1.h (a1N h2.h a4h hs2) hs) hn hst⟩
noncomputable def b5g (i:Nat)(pa pb pi pj:pE):pS:=fun D env n=>pa env n fun x env1 n1=>pb env1 n1 fun y env2 n2=>(∃xs,env2[i]?=some (some (.ow .lst xs)))/\gAt i pi x env2 n2 fun env3 n3=>gAt i pj y env3 n3 D.nx
theorem b4X (i:Nat){tg:Expr}{k:Nat}{p:Pos}(h:∀z te g,EW (F z) (.Tuple [a,b] k p) te->GW (F z) tg g->SW (F z) st (tAsg te g))(hg:∀z ti tj,EW (F z) ea ti->EW (F z) eb tj->GW (F z) tg (gTup K 2 (a2X (gSub (tVar i) ti a6T) (a2X (gSub (tVar i) tj a6T) gNil))))(h1:QE T K F a pa)(h2:QE T K F b pb)(h3:QE T K F ea pi)(h4:QE T K F eb pj)(n1:a0u a=true:=by rfl)(n2:a0u b=true:=by rfl):QS T np K F st (b5g i pa pb pi pj):=by
 obtain⟨t,a1,a2⟩:=h1;obtain⟨u,b1,b2⟩:=h2;obtain⟨ti,i1,i2⟩:=h3;obtain⟨tj,j1,j2⟩:=h4;refine⟨_,fun z=>(h z _ _ ⟨a4Q (a0n (a1 z) (a0n (b1 z) a0C (a0d n2)) (a0d n1))⟩ (hg z _ _ ⟨i1 z⟩ ⟨j1 z⟩)).h,fun C G σ H env n PD D hK hT hn S hp L=>?_⟩;refine a2 C G σ H env n _ _ hK hT S hp fun x env1 n1 v H1 q1 S1 r1 f1=>?_;refine b2 C G σ H1 env1 n1 _ _ hK hT S1 q1 fun y env2 n2 w H2 q2 S2 r2 f2=>?_;obtain⟨⟨xs0,e0⟩,q2⟩:=q2;refine⟨by show 2<=x0w;decide,fun p hn'=>⟨p,[v,w],rfl,SqT.of a0f,rfl,v,[w],rfl,?_⟩⟩;have sm:Same H2 (upd H2 p (.tup [v,w])):=Same.lay1 hn';generalize upd H2 p (.tup [v,w])=H3 at sm ⊢;have S3:=S2.same sm;obtain⟨a,vs,ev,h1,h2,h3,h4,r⟩:=S3.slots i _ e0;refine⟨.ref a,ev,?_⟩;refine i2 C G σ H3 env2 n2 _ _ hK hT S3 q2 fun d env3 n3 ud H4 q3 S4 r4 f4=>?_
 split at q3
 · rename_i xs d ex
   split at q3
   · rename_i jj ej;obtain⟨a',us,ev',g1,g2,g3,g4,r'⟩:=S4.slots i _ ex;rw [ev] at ev';cases ev';subst hK;obtain⟨S5,f5⟩:=S4.put ex ev (r'.set jj (((r1.fr f2).same sm).fr f4));refine⟨a,us,d,jj,rfl,r4,g4,by rw [<- r'.length];exact ej,?_⟩;refine⟨w,[],rfl,.ref a,ev,?_⟩;refine j2 C G σ _ _ n3 _ _ rfl hT S5 q3 fun d2 env5 n5 ud2 H5 q5 S6 r6 f6=>?_
     split at q5
     · rename_i xs2 d2 ex2
       split at q5
       · rename_i jj2 ej2;obtain⟨a',us2,ev',k1,k2,k3,k4,r7⟩:=S6.slots i _ ex2;rw [ev] at ev';cases ev';obtain⟨S7,f7⟩:=S6.put ex2 ev (r7.set jj2 ((((r2.same sm).fr f4).fr f5).fr f6));exact⟨a,us2,d2,jj2,rfl,r6,k4,by rw [<- r7.length];exact ej2,rfl,L.nx _ _ _ _ _ q5 S7 (Ext.fr ((((((f1.trans f2).trans (Fr.of sm)).trans f4).trans f5).trans f6).trans f7))⟩
       · exact q5.elim
     · exact q5.elim
   · exact q3.elim
 · exact q3.elim
end
end Pu
end
section
namespace Pu
open PySem L2
theorem a6u {tt:pT}{rest:Pu.Env}{α:Type}(f:α->PV)(c:α->Bool):∀(xs:List α) (s0:Option Slot) (n:Nat) (R:List PV->Nat->Prop),(∀x∈xs,∀m Q,Q (c x) (some (.v (f x))::rest) m->tt (some (.v (f x))::rest) m Q)->R ((xs.filter c).map f) n->a6v (gN 0) tt (qV 0) (xs.map f) (s0::rest) n R:=by
 intro xq
 induction xq with
 | nil =>
   intro _ _ _ _ h;exact h
 | cons x xs ih =>
   intro s0 n R ht h;show tt (some (.v (f x))::rest) n _;refine ht x x0e n _ ?_
   by_cases hc:c x=true
   · rw [if_pos hc];rw [List.filter_cons,if_pos hc] at h;show a6v (gN 0) tt (qV 0) (xs.map f) (some (.v (f x))::rest) n _;exact ih _ n _ (fun y hy=>ht y (x0d _ hy)) h
   · rw [if_neg hc];rw [List.filter_cons,if_neg hc] at h;exact ih _ n _ (fun y hy=>ht y (x0d _ hy)) h
end Pu
end
section
namespace Pu
open PySem PySem.Spec L2
noncomputable def lt (f t:Int)(k:Nat):Nat:=97 + ((f + (k:Int) * t) % 26).toNat
noncomputable def a7z:List Int:=[1,3,5,7,9,11,15,17,19,21,23,25]
theorem lt_ne {f t:Int}(ht:t∈a7z)(f0:0<=f){j k:Nat}(hjk:j < k)(hk:k < 26):lt f t j≠lt f t k:=fun h=>by
 have inv:∀t∈a7z,∃u∈a7z,t * u=26 * (t * u / 26) + 1:=by decide
 obtain⟨u,_,hu⟩:=inv t ht;have e:(f + (j:Int) * t) % 26=(f + (k:Int) * t) % 26:=by unfold lt at h;omega
 have d:(26:Int) ∣ ((k:Int) - j) * t:=by
   have:=Int.dvd_of_emod_eq_zero (Int.emod_eq_emod_iff_emod_sub_eq_zero.mp e.symm);rw [show f + (k:Int) * t - (f + (j:Int) * t)=((k:Int) - j) * t by rw [Int.sub_mul];omega] at this;exact this
 have d2:(26:Int) ∣ ((k:Int) - j) * t * u:=Int.dvd_trans d (Int.dvd_mul_right _ _);rw [Int.mul_assoc,hu,Int.mul_add,Int.mul_one,<- Int.mul_assoc,Int.mul_comm _ 26,Int.mul_assoc] at d2;have d3:(26:Int) ∣ (k:Int) - j:=(Int.dvd_add_right (Int.dvd_mul_right _ _)).mp d2;omega
theorem lt_ltr {f t:Int}{k:Nat}:Ltr (lt f t k):=by
 unfold lt Ltr;have:=x2T (f + (k:Int) * t) (show(26:Int)≠0 by decide);have:=x2h (f + (k:Int) * t) (show(0:Int) < 26 by decide);omega
theorem lt_at {f t:Int}{k:Nat}:atI LETS.cps.toList ((f + (k:Int) * t) % 26)=some (lt f t k):=
 b0P (x2T _ (by decide)) (x2h _ (by decide))
theorem a8x {t:Int}(ht:t∈a7z):-(2 ^ 64) < t/\t < 2 ^ 64:=by
 simp only [a7z,x0i,x0V,or_false] at ht;rcases ht with rfl | rfl | rfl | rfl | rfl | rfl | rfl | rfl | rfl | rfl | rfl | rfl <;> decide
noncomputable def LsE (m:Nat)(z:Str):Prop:=z.cps.toList.length=m/\∀c∈z.cps.toList,Ltr c
theorem LsE.more {m:Nat}{z:Str}(h:LsE m z){c:Nat}(hc:Ltr c):LsE (m + 1) (z++⟨#[c]⟩):=by
 refine⟨by rw [a4x,x0m,h.1];rfl,fun d hd=>?_⟩;rw [a4x] at hd;rcases x0y.mp hd with hd | hd
 · exact h.2 d hd
 · have:d=c:=by simpa using hd
   rw [this];exact hc
theorem a9J (x:Str){a b:Nat}(h:a<=b)(hb:b<=x.length):(x2J x (some (a:Int)) (some (b:Int))).cps.toList=(x.cps.toList.drop a).take (b - a):=by
 rw [a7P,StrLaws.sliceText_nat x h hb]
theorem a9s {x:Str}{a b c:Nat}(hx:LsE 7 x)(ha:a<=b)(hb:b<=7)(hc:Ltr c) :
   a2H (x2J x none (some (a:Int))++⟨#[c]⟩++x2J x (some (a:Int)) (some (b:Int)))/\(x2J x none (some (a:Int))++⟨#[c]⟩++x2J x (some (a:Int)) (some (b:Int))).cps.toList[a]?=some c:=by
 have lx:x.length=7:=by rw [a2x];exact hx.1
 have e:(x2J x none (some (a:Int))++⟨#[c]⟩++x2J x (some (a:Int)) (some (b:Int))).cps.toList=x.cps.toList.take a++c::(x.cps.toList.drop a).take (b - a):=by
   rw [a4x,a4x,b2g x (by omega),a9J x ha (by omega)];simp
 have lt:(x.cps.toList.take a).length=a:=by rw [x1i,hx.1];omega
 have hl:(x.cps.toList.take a++c::(x.cps.toList.drop a).take (b - a)).length=b + 1:=by
   rw [x0m,x0M,lt,x1i,x1z,hx.1];omega
 refine⟨⟨by rw [e];omega,by rw [e,hl];omega,fun d hd=>?_⟩,?_⟩
 · rw [e] at hd;rcases x0y.mp hd with hd | hd
   · exact hx.2 d (x3i hd)
   · rcases x0i.mp hd with hd | hd
     · rw [hd];exact hc
     · exact hx.2 d (x4s (x3i hd))
 · rw [e,x0Z (by omega),lt,x2i];rfl
structure NmA (f t:Int)(a:Nat)(zs:List Str)(i:Nat):Prop where
 len:zs.length=i
 nd:zs.Nodup
 own:∀(j:Nat) (z:Str),zs[j]?=some z->z.cps.toList[a]?=some (lt f t j)
 bt:∀z∈zs,a2H z
theorem NmA.more {f t:Int}{a:Nat}{zs:List Str}{i:Nat}(h:NmA f t a zs i)(ht:t∈a7z)(f0:0<=f)(hi:i < 26){z:Str}(hz:a2H z)(hc:z.cps.toList[a]?=some (lt f t i)):NmA f t a (zs++[z]) (i + 1):=by
 refine⟨by rw [x0m,h.len];rfl,?_,fun j y e=>?_,fun y hy=>?_⟩
 · rw [x3d];refine⟨h.nd,by simp,fun x hx y hy e=>?_⟩;rw [x0q.mp hy] at e;obtain⟨j,hj,ej⟩:=List.mem_iff_getElem.mp hx;have:=h.own j x (by rw [x0f hj,ej]);rw [e,hc] at this;exact lt_ne ht f0 (show j < i by rw [<- h.len];exact hj) hi (x0S this).symm
 · by_cases c:j < zs.length
   · rw [x0P c] at e;exact h.own j y e
   · have hl:=h.len
     have:j=i:=by
       obtain⟨hh,_⟩:=x0l.mp e;rw [x0m,x0K] at hh;omega
     subst this;rw [x0Z (by omega),hl,x2i] at e;have e':z=y:=by simpa using e
     rw [<- e'];exact hc
 · rcases x0y.mp hy with hy | hy
   · exact h.bt y hy
   · rw [x0q.mp hy];exact hz
theorem a5p {z:Str}{zs:List Str}:memP (.str z) (zs.map PV.str)=decide (z∈zs):=by
 unfold memP;rw [List.any_map,x2p,List.any_eq_true,decide_eq_true_iff];constructor
 · rintro⟨y,hy,e⟩;have e':decide (y=z)=true:=by rw [<- b4s];exact e
   rw [<- of_decide_eq_true e'];exact hy
 · intro h;refine⟨z,h,?_⟩;show eqP (.str z) (.str z)=true;rw [b4s];exact decide_eq_true rfl
theorem a5F (zs:List Str)(d:Nat):(zs.map PV.str).all (cmpb d)=true:=by
 rw [List.all_map,x1j];intro x _;cases d <;> rfl
theorem b1g {z:Str}{zs:List Str}{P:List PV}(hP:zs.map PV.str=P){R:PV->Prop}(h:R (.bl (decide (z∈zs)))):wIn 4 false (.str z) (.tup P) R:=by
 subst hP;exact⟨rfl,a5F zs 4,by rw [a5p];exact h⟩
theorem b3a {z:Str}{zs:List Str}{P:List PV}(hP:zs.map PV.str=P){R:PV->Prop}(h:R (.bl (!decide (z∈zs)))):wIn 4 true (.str z) (.tup P) R:=by
 subst hP;exact⟨rfl,a5F zs 4,by rw [a5p];exact h⟩
theorem b5Q {z:Str}{zs:List Str}{P:List PV}(hP:zs.map PV.str=P){R:PV->Prop}(h:R (.bl (decide (z∈zs)))):wIn 4 false (.str z) (.lst P) R:=by
 subst hP;exact⟨rfl,a5F zs 4,by rw [a5p];exact h⟩
theorem a7Y {z:Str}{zs:List Str}{P:List PV}(hP:zs.map PV.str=P){R:PV->Prop}(h:R (.bl (!decide (z∈zs)))):wIn 4 true (.str z) (.lst P) R:=by
 subst hP;exact⟨rfl,a5F zs 4,by rw [a5p];exact h⟩
noncomputable def RowS (zs:List Str):Prop:=zs.Nodup/\∀z∈zs,a2H z
noncomputable abbrev rowP (zs:List Str):PV:=.tup (zs.map PV.str)
inductive Ev where
 | d (x:Str) | t (x y:Str)
noncomputable abbrev DROP:Str:=x0g "drop"
noncomputable abbrev a6G:Str:=x0g "touch"
noncomputable def evK:Ev->List Key
 | .d x=>[.inr DROP,.inr x]
 | .t x y=>[.inr a6G,.inr x,.inr y]
noncomputable def evP (e:Ev):PV:=tupP (evK e)
theorem b3w (x:Str):evP (.d x)=.tup [.str DROP,.str x]:=rfl
theorem a4J (x y:Str):evP (.t x y)=.tup [.str a6G,.str x,.str y]:=rfl
noncomputable def shP (es:List Ev):PV:=.tup (es.map evP)
noncomputable def dayP (ds:List (List Ev)):PV:=.tup (ds.map shP)
noncomputable def evB:Ev->List Str
 | .d x=>[x]
 | .t x y=>[x,y]
noncomputable def ixS (zs:List Str)(z:Str):Nat:=zs.findIdx fun y=>decide (y=z)
theorem a4U {zs:List Str}{z:Str}(h:z∈zs):zs[ixS zs z]?=some z/\∀i,i < ixS zs z->zs[i]?≠some z:=by
 unfold ixS;have hl:zs.findIdx (fun y=>decide (y=z)) < zs.length:=List.findIdx_lt_length_of_exists ⟨z,h,by simp⟩;refine⟨?_,fun i hi e=>?_⟩
 · rw [x0f hl];have:=List.findIdx_getElem (w:=hl);rw [of_decide_eq_true this]
 · have:=List.not_of_lt_findIdx hi;obtain⟨l1,e1⟩:=x0l.mp e;rw [e1] at this;simp at this
theorem a4T {zs:List Str}{z:Str}(h:z∈zs):ixS zs z < zs.length:=(x0l.mp (a4U h).1).1
theorem m_ix {zs:List Str}{z:Str}{P:List PV}(hP:zs.map PV.str=P)(h:z∈zs)(hl:zs.length<=1000000){R:PV->Prop}(q:R (.int (ixS zs z))):a3R (.tup P) (.str z) R:=by
 subst hP;unfold a3R;dsimp only;rw [a5I];exact⟨hl,ixS zs z,(a4U h).1,(a4U h).2,q⟩
end Pu
end
section
namespace Pu
open PySem PySem.Spec L2
variable {α:Type}
inductive Mk where
 | d | o | t | u
 deriving DecidableEq
noncomputable def run (r:Int):Nat->List Nat->List Mk->Option (List Nat)
 | _,st,[]=>some st
 | k,st,.t::m=>run r (k + 1) (k::st) m
 | k,st,.d::m=>run r (k + 1) st m
 | k,[],.o::m=>run r (k + 1) [] m
 | _,_::_,.o::_=>none
 | _,[],.u::_=>none
 | k,p::st,.u::m=>if(k:Int) - p - 1<=r then run r (k + 1) st m else none
noncomputable def Cl (r:Int)(k:Nat)(m:List Mk):Prop:=∀st,run r k st m=some st
theorem Cl.d {r:Int}{k:Nat}{m:List Mk}(h:Cl r (k + 1) m):Cl r k (.d::m):=fun st=>h st
inductive PE where
 | d (i:Nat) | t (i j:Nat)
noncomputable def nm (zs:List Str)(i:Nat):Str:=zs.getD i (x0g "")
theorem nm_at {zs:List Str}{i:Nat}(h:i < zs.length):zs[i]?=some (nm zs i):=by
 unfold nm;rw [x1a,x0f h];rfl
structure Fair (zs:List Str)(es:List Ev):Prop where
 nd:(es.flatMap evB).Nodup
 sub:∀b∈es.flatMap evB,b∈zs
noncomputable def setE (st f:List Str):Ev->List Str
 | .d _=>f
 | .t x y=>(f.set (ixS st x) y).set (ixS st y) x
noncomputable def exch (f:List Str)(i j:Nat):List Str:=(f.set i (nm f j)).set j (nm f i)
noncomputable def exE (st f:List Str):Ev->List Str
 | .d _=>f
 | .t x y=>exch f (ixS st x) (ixS st y)
noncomputable def aft (st:List Str)(es:List Ev):List Str:=es.foldl (setE st) st
noncomputable def rbh (st:List Str)(es:List Ev):List Str:=es.foldl (exE st) st
theorem b1a {zs:List Str}{x y:Str}(hx:x∈zs)(hy:y∈zs)(h:ixS zs x=ixS zs y):x=y:=by
 have h1:=(a4U hx).1;rw [h,(a4U hy).1] at h1;exact(x0S h1).symm
theorem a4B {st:List Str}:∀(es:List Ev) (f:List Str),(es.flatMap evB).Nodup->(∀b∈es.flatMap evB,b∈st/\f[ixS st b]?=some b)->es.foldl (setE st) f=es.foldl (exE st) f
 | [],f,_,_=>rfl
 | .d x :: es, f, nd, h => by
   simp only [List.flatMap_cons,evB,List.cons_append,x1S] at nd h;exact a4B es f (x0J.mp nd).2 fun b hb=>h b (x0d _ hb)
 | .t x y :: es, f, nd, h => by
   simp only [List.flatMap_cons,evB,List.cons_append,x1S] at nd h;obtain⟨nx,nd1⟩:=x0J.mp nd;obtain⟨ny,nd2⟩:=x0J.mp nd1;obtain⟨hx1,hx2⟩:=h x x0e;obtain⟨hy1,hy2⟩:=h y (x0d _ x0e)
   have e:setE st f (.t x y)=exE st f (.t x y):=by
     show(f.set (ixS st x) y).set (ixS st y) x=exch f (ixS st x) (ixS st y);unfold exch nm;rw [x1a,x1a,hx2,hy2];rfl
   rw [x1y,x1y,e];refine a4B es _ nd2 fun b hb=>?_;obtain⟨hb1,hb2⟩:=h b (x0d _ (x0d _ hb));refine⟨hb1,?_⟩;rw [<- e];show((f.set (ixS st x) y).set (ixS st y) x)[ixS st b]?=some b;have bx:ixS st x≠ixS st b:=fun z=>nx (by rw [b1a hx1 hb1 z];exact x0d _ hb);have by_:ixS st y≠ixS st b:=fun z=>ny (by rw [b1a hy1 hb1 z];exact hb);rw [x0o by_,x0o bx];exact hb2
theorem a5H {st:List Str}{es:List Ev}(h:Fair st es):aft st es=rbh st es:=a4B es st h.nd fun b hb=>⟨h.sub b hb,(a4U (h.sub b hb)).1⟩
theorem b2k (st f:List Str)(e:Ev):(setE st f e).length=f.length:=by cases e <;> simp [setE]
theorem b6n (st:List Str)(es:List Ev):(aft st es).length=st.length:=by
 unfold aft
 have:∀(es:List Ev) (f:List Str),(es.foldl (setE st) f).length=f.length:=by
   intro es
   induction es with
   | nil=>intro f;rfl
   | cons e es ih=>intro f;rw [x1y,ih,b2k]
 exact this es st
theorem b1n {f:List Str}{i j:Nat}(hi:i < f.length)(hj:j < f.length):(exch f i j).Perm f:=by
 unfold exch nm;rw [x1a,x1a,x0f hi,x0f hj];show((f.set i f[j]).set j f[i]).Perm f;exact List.set_set_perm hi hj
theorem a7R {st:List Str}{es:List Ev}(h:∀b∈es.flatMap evB,b∈st):(rbh st es).Perm st:=by
 unfold rbh
 have:∀(es:List Ev) (f:List Str),(∀b∈es.flatMap evB,b∈st)->f.length=st.length->(es.foldl (exE st) f).Perm f:=by
   intro es
   induction es with
   | nil=>intro f _ _;exact List.Perm.refl _
   | cons e es ih =>
     intro f hb hl;rw [x1y]
     have p:(exE st f e).Perm f:=by
       cases e with
       | d x=>exact List.Perm.refl _
       | t x y=>exact b1n (by rw [hl];exact a4T (hb x (by simp [evB]))) (by rw [hl];exact a4T (hb y (by simp [evB])))
     exact(ih _ (fun b h=>hb b (by rw [List.flatMap_cons];exact x0u _ h)) (by rw [p.length_eq,hl])).trans p
 exact this es st h rfl
theorem a2g {β:Type}{f:α->β}{l:List α}{i:Nat}{y:β}(h:(l.map f)[i]?=some y):∃x,l[i]?=some x/\y=f x:=by
 rw [x0v] at h;cases e:l[i]? with
 | none=>rw [e] at h;cases h
 | some x=>rw [e] at h;exact⟨x,rfl,(x0S h).symm⟩
theorem a2L {l:List α}{i:Nat}{x:α}(h:l[i]?=some x):l.take (i + 1)=l.take i++[x]:=by
 rw [List.take_add_one,h];rfl
theorem a5f {j:Int}{m i:Nat}{x:PV}(h:((x0N m).map fun(k:Nat)=>PV.int (j - 1 - k))[i]?=some x):i < m/\x=.int (j - 1 - i):=by
 rw [x0v] at h;cases e:(x0N m)[i]? with
 | none=>rw [e] at h;cases h
 | some y =>
   rw [e] at h;obtain⟨h1,h2⟩:=x0l.mp e;rw [x3D] at h2;subst h2;rw [List.length_range] at h1;exact⟨h1,(x0S h).symm⟩
theorem a5e {j:Int}{m:Nat}:((x0N m).map fun(k:Nat)=>PV.int (j - 1 - k)).length=m:=by simp
theorem b4z (xs:List α){a b:Nat}(h:b<=xs.length):cutP xs (some (a:Int)) (some (b:Int))=(xs.take b).drop a:=by
 unfold cutP;rw [HT.sIx_nat,HT.sIx_nat,x1Z h,List.drop_take];rcases x4L a xs.length with h2 | h2
 · rw [x1Z h2]
 · rw [x3n h2,x0H (x0j _),x0H h2];simp
theorem cut_hd (xs:List α)(b:Nat):cutP xs none (some (b:Int))=xs.take b:=by
 unfold cutP;rw [HT.sIx_none,HT.sIx_nat,x1Y,x4l];rcases x4L b xs.length with h2 | h2
 · rw [x1Z h2]
 · rw [x3n h2,x1u (x0j _),x1u h2]
theorem cut_tl (xs:List α)(a:Nat):cutP xs (some (a:Int)) none=xs.drop a:=by
 unfold cutP;rw [HT.sIx_nat,HT.sIx_none];rcases x4L a xs.length with h2 | h2
 · rw [x1Z h2];exact x1u (by rw [x1z];exact x0j _)
 · rw [x3n h2,x0H h2,x0H (x0j _)];simp
noncomputable def hiN (s n k:Nat):Nat:=min (k * s + s) (n - 1)
noncomputable def a0A (s n k:Nat)(row:List Str):List Str:=(row.take (hiN s n k + 1)).drop (k * s)
noncomputable def putN (s n k:Nat)(row b:List Str):List Str:=row.take (k * s)++b++row.drop (hiN s n k + 1)
theorem a8B {s n k:Nat}{row:List Str}:∀z∈a0A s n k row,z∈row:=fun z hz=>x3i (x4s hz)
theorem a4N {s n k:Nat}{row:List Str}(h:RowS row):RowS (a0A s n k row):=
 ⟨(h.1.sublist (List.take_sublist _ _)).sublist (List.drop_sublist _ _),fun z hz=>h.2 z (a8B z hz)⟩
theorem a2k {s n k:Nat}{row:List Str}(hn:row.length=n)(h1:1<=n):(a0A s n k row).length=hiN s n k + 1 - k * s:=by
 unfold a0A;rw [x1z,x1i,hn];have:hiN s n k + 1<=n:=by unfold hiN;omega
 omega
theorem b2F {s n k:Nat}{row b:List Str}(hn:row.length=n)(h1:1<=n)(hk:k * s<=hiN s n k)(hb:b.length=(a0A s n k row).length):(putN s n k row b).length=n:=by
 unfold putN;rw [x0m,x0m,hb,a2k hn h1,x1i,x1z,hn];have:hiN s n k + 1<=n:=by unfold hiN;omega
 omega
theorem a9O {s n k:Nat}{row:List Str}(hk:k * s<=hiN s n k + 1):row.take (k * s)++a0A s n k row++row.drop (hiN s n k + 1)=row:=by
 unfold a0A;have e1:row.take (k * s)=(row.take (hiN s n k + 1)).take (k * s):=by rw [List.take_take,x1Z hk]
 rw [e1,x2U,x2U]
theorem a5Z {s n k:Nat}{row b:List Str}(hk:k * s<=hiN s n k + 1)(p:b.Perm (a0A s n k row)):(putN s n k row b).Perm row:=by
 have h1:(putN s n k row b).Perm (row.take (k * s)++a0A s n k row++row.drop (hiN s n k + 1)):=(p.append_left _).append_right _;rw [a9O hk] at h1;exact h1
theorem RowS.perm {a b:List Str}(h:RowS a)(p:b.Perm a):RowS b:=⟨p.nodup_iff.mpr h.1,fun z hz=>h.2 z (p.mem_iff.mp hz)⟩
theorem at2_0 {a b:α}:atI [a,b] 0=some a:=rfl
theorem at2_1 {a b:α}:atI [a,b] 1=some b:=rfl
theorem at3_0 {a b c:α}:atI [a,b,c] 0=some a:=rfl
theorem at3_1 {a b c:α}:atI [a,b,c] 1=some b:=rfl
theorem at3_2 {a b c:α}:atI [a,b,c] 2=some c:=rfl
theorem a9m:decide (DROP=x0g "touch")=false:=by decide +kernel
theorem a4L:decide (a6G=x0g "drop")=false:=by decide +kernel
noncomputable def isTo:Ev->Bool
 | .d _=>false
 | .t _ _=>true
theorem b5U (st f:List Str)(e:Ev):(exE st f e).length=f.length:=by cases e <;> simp [exE,exch]
theorem b1o (st:List Str):∀(es:List Ev) (f:List Str),(es.foldl (exE st) f).length=f.length:=by
 intro xq
 induction xq with
 | nil =>
   intro f;exact rfl
 | cons e es ih =>
   intro f;rw [x1y,ih,b5U]
theorem a6S (st:List Str):∀(es:List Ev) (f:List Str),(es.filter isTo).foldl (exE st) f=es.foldl (exE st) f
 | [],f=>rfl
 | .d x::es,f=>a6S st es f
 | .t x y :: es, f => by
   rw [List.filter_cons,if_pos (show isTo (.t x y)=true from rfl),x1y,x1y];exact a6S st es _
end Pu
end
section
namespace Pu
open PySem PySem.Spec L2
inductive Dy (P:List Str->List Ev->Prop)(s n mx:Nat)(row:List Str):Nat->List (List Ev)->List (List Str)->List Str->Prop where
 | nil:Dy P s n mx row 0 [] [] row
 | cons {i:Nat} {ess:List (List Ev)} {sts:List (List Str)} {r:List Str} {es:List Ev} (h:Dy P s n mx row i ess sts r) (hi:i < mx) (hp:P (a0A s n (mx - 1 - i) r) es) :
     Dy P s n mx row (i + 1) (es::ess) (a0A s n (mx - 1 - i) r::sts) (putN s n (mx - 1 - i) r (aft (a0A s n (mx - 1 - i) r) es))
section
variable {P:List Str->List Ev->Prop}{s n mx:Nat}{row:List Str}
variable {ess:List (List Ev)}{sts:List (List Str)}
theorem Dy.len {i:Nat}{r:List Str}(h:Dy P s n mx row i ess sts r):ess.length=i/\sts.length=i:=by
 induction h with
 | nil=>exact⟨rfl,rfl⟩
 | cons _ _ _ ih=>exact⟨by rw [x0M,ih.1],by rw [x0M,ih.2]⟩
theorem Dy.down {i:Nat}{es:List Ev}{st:List Str}{r:List Str}(h:Dy P s n mx row (i + 1) (es::ess) (st::sts) r) :
   ∃r',Dy P s n mx row i ess sts r'/\st=a0A s n (mx - 1 - i) r'/\r=putN s n (mx - 1 - i) r' (aft st es)/\P st es/\i < mx:=by
 cases h with
 | cons h hi hp=>exact⟨_,h,rfl,rfl,hp,hi⟩
theorem Dy.det {i:Nat}{r r':List Str}(h:Dy P s n mx row i ess sts r)(h':Dy P s n mx row i ess sts r'):r=r':=by
 induction h generalizing r' with
 | nil=>cases h';rfl
 | cons h hi hp ih =>
   obtain⟨r2,h2,e2,e3,_,_⟩:=h'.down;rw [e3,ih h2]
theorem Dy.tail {i:Nat}{r:List Str}(h:Dy P s n mx row i ess sts r):∀j,j<=i->∃r',Dy P s n mx row j (ess.drop (i - j)) (sts.drop (i - j)) r':=by
 induction h with
 | nil=>intro j hj;exact⟨row,by rw [show j=0 by omega];exact .nil⟩
 | @cons i ess sts r es h hi hp ih =>
   intro j hj
   by_cases c:j=i + 1
   · subst c;rw [x2i];exact⟨_,.cons h hi hp⟩
   · obtain⟨r',h'⟩:=ih j (by omega);refine⟨r',?_⟩;rw [show i + 1 - j=(i - j) + 1 by omega,List.drop_succ_cons,List.drop_succ_cons];exact h'
theorem Dy.at {r:List Str}(h:Dy P s n mx row mx ess sts r){i:Nat}(hi:i < mx) :
   ∃ es st r', ess[mx - 1 - i]? = some es /\ sts[mx - 1 - i]? = some st /\ ess.drop (mx - (i + 1)) = es :: ess.drop (mx - i) /\ sts.drop (mx - (i + 1)) = st :: sts.drop (mx - i) /\
     Dy P s n mx row i (ess.drop (mx - i)) (sts.drop (mx - i)) r'/\st=a0A s n (mx - 1 - i) r'/\P st es/\Dy P s n mx row (i + 1) (ess.drop (mx - (i + 1))) (sts.drop (mx - (i + 1))) (putN s n (mx - 1 - i) r' (aft st es)):=by
 obtain⟨l1,l2⟩:=h.len;obtain⟨r2,h2⟩:=h.tail (i + 1) (by omega)
 have e1:ess.drop (mx - (i + 1))=ess[mx - 1 - i]::ess.drop (mx - i):=by
   rw [show mx - (i + 1)=mx - 1 - i by omega,x0z (by omega),show mx - 1 - i + 1=mx - i by omega]
 have e2:sts.drop (mx - (i + 1))=sts[mx - 1 - i]::sts.drop (mx - i):=by
   rw [show mx - (i + 1)=mx - 1 - i by omega,x0z (by omega),show mx - 1 - i + 1=mx - i by omega]
 have h3:=h2;rw [e1,e2] at h3;obtain⟨r',d,es,er,hp,_⟩:=h3.down;refine⟨_,_,r',x0f (by omega),x0f (by omega),e1,e2,d,es,hp,?_⟩;rw [<- er];exact h2
theorem b4f {s n:Nat}(h1:1<=s)(hn:1<=n){k:Nat}(hk:k < (n + s - 1) / s):k * s<=n - 1:=by
 have:(n + s - 1) / s * s<=n + s - 1:=Nat.div_mul_le_self _ _;have h2:(k + 1) * s<=(n + s - 1) / s * s:=Nat.mul_le_mul_right s hk;rw [Nat.add_mul,Nat.one_mul] at h2;omega
theorem a5h {s n:Nat}(h1:1<=s)(hn:1<=n):(n + s - 1) / s<=n:=by
 refine Nat.div_le_of_le_mul ?_;obtain⟨n,rfl⟩:∃k,n=k + 1:=⟨n - 1,by omega⟩;have:s * (n + 1)=s * n + s:=Nat.mul_succ s n;have:n<=s * n:=Nat.le_mul_of_pos_left n h1;omega
theorem lo_hi {s n k:Nat}(h:k * s<=n - 1):k * s<=hiN s n k:=by unfold hiN;omega
theorem Dy.rows (h1:1<=s)(hn:1<=n)(hmx:mx=(n + s - 1) / s)(hf:∀st es,P st es->Fair st es)(hr:RowS row)(hl:row.length=n){i:Nat}{r:List Str}(h:Dy P s n mx row i ess sts r):RowS r/\r.length=n:=by
 induction h with
 | nil=>exact⟨hr,hl⟩
 | @cons i ess sts r es h hi hp ih =>
   have f:=hf _ _ hp;have kh:=lo_hi (s:=s) (n:=n) (b4f h1 hn (show mx - 1 - i < (n + s - 1) / s by omega));refine⟨ih.1.perm (a5Z (by omega) ?_),b2F ih.2 hn kh (b6n _ _)⟩;rw [a5H f];exact a7R f.sub
theorem Dy.mem (h1:1<=s)(hn:1<=n)(hmx:mx=(n + s - 1) / s)(hf:∀st es,P st es->Fair st es)(hr:RowS row)(hl:row.length=n){i:Nat}{r:List Str}(h:Dy P s n mx row i ess sts r) :
   (∀es∈ess,∃st,P st es/\RowS st/\st.length<=n)/\∀st∈sts,RowS st/\st.length<=n:=by
 induction h with
 | nil=>exact⟨(fun _ z=>nomatch z),(fun _ z=>nomatch z)⟩
 | @cons i ess sts r es h hi hp ih =>
   obtain⟨rS,rL⟩:=h.rows h1 hn hmx hf hr hl;have a:=a4N (s:=s) (n:=n) (k:=mx - 1 - i) rS;have b:(a0A s n (mx - 1 - i) r).length<=n:=by rw [a2k rL hn];unfold hiN;omega
   refine⟨fun e he=>?_,fun st hst=>?_⟩
   · rcases x0i.mp he with rfl | he
     · exact⟨_,hp,a,b⟩
     · exact ih.1 e he
   · rcases x0i.mp hst with rfl | hst
     · exact⟨a,b⟩
     · exact ih.2 st hst
end
theorem b3I {z:Str}(h:a2H z):shw (.str z):=fun c hc=>by
 have:=(h.2.2 c hc).2;omega
theorem b1P {z:Str}(h:a2H z):cost (.str z)<=82:=by
 have:=h.2.1;have e:z.length=z.cps.toList.length:=a2x z;show 10 * z.length + 2<=82;omega
structure Show (d c:Nat)(x:PV):Prop where
 sh:shw x
 de:dep x<=d
 co:cost x<=c
theorem Show.tup {d c l:Nat}{xs:List PV}(h:∀x∈xs,Show d c x)(hl:xs.length<=l):Show (d + 1) ((c + 2) * l + 3) (.tup xs):=by
 refine⟨b4S _ fun x hx=>(h x hx).sh,?_,?_⟩
 · have:=b6d d xs fun x hx=>(h x hx).de;show deps xs + 1<=d + 1;omega
 · have:=b3E c xs fun x hx=>(h x hx).co;have h2:=Nat.mul_le_mul_left (c + 2) hl;show a4K xs + 3<=_;omega
theorem Show.le {d c d' c':Nat}{x:PV}(h:Show d c x)(hd:d<=d')(hc:c<=c'):Show d' c' x:=⟨h.sh,x0I h.de hd,x0I h.co hc⟩
theorem a2Y {z:Str}(h:a2H z):Show 0 82 (.str z):=⟨b3I h,x0j _,b1P h⟩
theorem b2m {zs:List Str}(h:∀z∈zs,a2H z)(hl:zs.length<=24):Show 1 2100 (rowP zs):=
 (Show.tup (d:=0) (c:=82) (l:=24) (xs:=zs.map PV.str) (fun x hx=>by obtain⟨z,hz,rfl⟩:=x1M.mp hx;exact a2Y (h z hz)) (by rw [x0k];exact hl)).le (x0j _) (by decide)
theorem a2I (z:Str)(h1:∀c∈z.cps.toList,c < 16 ^ 8)(h2:z.length<=8):Show 0 82 (.str z):=⟨h1,x0j _,by show 10 * z.length + 2<=82;omega⟩
theorem a8e {i:Int}(h:i.natAbs < 1000):Show 0 61 (.int i):=⟨by show i.natAbs < 10 ^ 60;omega,x0j _,x0j _⟩
end Pu
end
section
namespace SeT
open PySem PySem.SetTable L2
noncomputable def lp (mask:Nat)(h:Int):Nat->Nat×Nat
 | 0=>(bits h % (mask + 1),bits h)
 | k + 1=>leap mask (lp mask h k).1 (lp mask h k).2
noncomputable def rn (mask i:Nat):Nat:=runEnd mask i - i
noncomputable def vs (mask:Nat)(h:Int)(k off:Nat):Nat:=(lp mask h k).1 + off
noncomputable def Msk (mask:Nat):Prop:=mask=7\/mask=31\/mask=127
noncomputable def Rise (xs:List Nat):Prop:=xs.Pairwise (· < ·)
end SeT
end
section
namespace SeT
open PySem PySem.SetTable L2
noncomputable def Lx (k' o' k o:Nat):Prop:=k' < k\/(k'=k/\o' < o)
noncomputable def Rch (mask:Nat)(O:Nat->Prop)(s:Nat)(h:Int):Prop:=∃k o,o<=rn mask (lp mask h k).1/\vs mask h k o=s/\∀k' o',o'<=rn mask (lp mask h k').1->Lx k' o' k o->O (vs mask h k' o')
structure TOk (t:SetTable)(hs:List Int):Prop where
 size:t.place.toList.length=hs.length
 dum:t.dummies=#[]
 mask:Msk t.mask
 rise:Rise t.place.toList
 lim:∀s∈t.place.toList,s<=t.mask
 room:hs.length < t.mask
 reach:∀(i:Nat) s h,t.place.toList[i]?=some s->hs[i]?=some h->Rch t.mask (·∈t.place.toList) s h
section
variable {t:SetTable}{hs:List Int}{h:Int}
noncomputable def pb (mask:Nat)(h:Int)(k o:Nat):Probe:={ j:=vs mask h k o,more:=rn mask (lp mask h k).1 - o,i:=(lp mask h k).1,perturb:=(lp mask h k).2,dummy:=none }
noncomputable def nx (mask:Nat)(h:Int)(k o:Nat):Nat×Nat:=if o < rn mask (lp mask h k).1 then(k,o + 1) else(k + 1,0)
end
end SeT
end
section
namespace SeT
open PySem PySem.SetTable L2
structure Own (mask:Nat)(ow:Array (Option Nat))(sl:List Nat):Prop where
 size:ow.size=mask + 1
 nd:sl.Nodup
 lim:∀s∈sl,s<=mask
 has:∀(k s:Nat),sl[k]?=some s->ow[s]?=some (some k)
 no:∀s,s<=mask->s∉sl->ow[s]?=some none
theorem Own.none {mask:Nat}{ow:Array (Option Nat)}{sl:List Nat}(O:Own mask ow sl){s:Nat}(hs:s<=mask):(ow.getD s (some 0)).isNone=decide (s∉sl):=by
 rw [Array.getD_eq_getD_getElem?]
 by_cases c:s∈sl
 · obtain⟨k,hk⟩:=List.mem_iff_getElem?.mp c;rw [O.has k s hk,decide_eq_false (not_not_intro c)];rfl
 · rw [O.no s hs c,decide_eq_true c];rfl
end SeT
end
section
namespace SeT
open PySem PySem.Spec PyProof.Rows L2
section
variable (prog:x0D)(w:World)
noncomputable abbrev TK:HeapKind prog w (List Key):=x4A (a0p prog w)
noncomputable def enS (x:List Key×Addr):Int×Value:=((TK prog w).hash x.1,.ref x.2)
structure SetK (h:Heap)(a:Addr)(o:Obj)(es:Array (Int×Value))(ep:Nat)(t:SetTable)(xs:List (List Key×Addr)):Prop where
 ho:h.get? a=some o
 ex:o.ExactSet
 hd:o.data=.set es ep t
 hes:es.toList=xs.map (enS prog w)
 hk:∀x∈xs,(TK prog w).is h x.1 x.2
 nd:(xs.map (·.1)).Nodup
 tb:TOk t (xs.map fun x=>(TK prog w).hash x.1)
 few:5 * xs.length < 3 * t.mask
 led:t.led=!(w.params.followText "set-order")
end
end SeT
end
section
namespace SeT
open PySem PySem.Spec PyProof.Rows L2
section
variable {prog:x0D}{w:World}{A:Around}{E:Value->Shared->Prop}{s:Shared}{a:Addr}{o:Obj}{es:Array (Int×Value)}{ep:Nat}{t:SetTable}{xs:List (List Key×Addr)}
theorem TOk.pl {hs:List Int}(T:TOk t hs)(b:Bool):TOk { t with plain:=b } hs:=⟨T.size,T.dum,T.mask,T.rise,T.lim,T.room,T.reach⟩
end
end SeT
end
section
namespace SeT
open PySem PySem.Spec PyProof.Rows L2
noncomputable def Holds (prog:x0D)(w:World)(h:Heap)(S:Addr)(rs:List (List Key×Addr)):Prop:=
 ∃o es ep t xs,SetK prog w h S o es ep t xs/\(∀x∈xs,x∈rs)/\∀x∈rs,x.1∈xs.map (·.1)
end SeT
end
section
namespace SeT
open PySem PySem.Spec PyProof.Rows L2
section
variable {prog:x0D}{w:World}{A:Around}{E:Value->Shared->Prop}{s:Shared}
noncomputable def SetIt (h:Heap)(I a:Addr)(fst:Value)(i n ep:Nat):Prop:=∃o,h.get? I=some o/\o.cls=.type "set_iterator"/\o.data=.fields #[fst,.int i 0,.ref a,.int n 0,.int ep 0]
theorem SetIt.ty {I a:Addr}{fst:Value}{i n ep:Nat}(x:SetIt s.heap I a fst i n ep):s.TypeIs (.ref I) "set_iterator":=by
 obtain⟨o,ho,hc,_⟩:=x;exact⟨o,ho,hc⟩
end
end SeT
end
section
namespace SeT
open PySem PySem.Spec PyProof.Rows L2
section
variable {prog:x0D}{w:World}{A:Around}{E:Value->Shared->Prop}{s:Shared}{a:Addr}{ep:Nat}{o:Obj}{es:Array (Int×Value)}{t:SetTable}{xs:List (List Key×Addr)}
noncomputable def dr (es:Array (Int×Value))(t:SetTable):Bool:=!t.plain && decide (es.size > 1)
end
end SeT
end
section
namespace SeT
open PySem PySem.W PySem.Spec PyProof.Rows L2
noncomputable abbrev kks (ys:List (List Key×Addr)):List (List Key):=ys.map (·.1)
section
variable {X:Cx}
noncomputable def SetO (X:Cx)(p:Addr)(rs:List (List Key×Addr)):HO:=.ext fun h=>∃h0 o es ep t xs,SetK X.prog X.w h0 p o es ep t xs/\h.get? p=some o/\(∀x∈xs,x∈rs)/\∀x∈rs,x.1∈kks xs
end
end SeT
end
section
namespace SeT
open PySem PySem.W PySem.Spec PyProof.Rows L2
section
variable {X:Cx}
noncomputable def tMo (t:TE):TE:=fun σ H Q=>∃Q',t σ H Q'/\∀v H',Q' v H'->Q v H'
theorem pe_mo {e:Expr}{t:TE}(h:PE X e t):PE X e (tMo t):=by
 intro pins s σ H Q I ⟨Q',h1,h2⟩;exact x0F (h pins s σ H Q' I h1) (fun u s' ⟨v,H',I',r,q⟩=>⟨v,H',I',r,h2 _ _ q⟩) fun _ _ e=>e
end
end SeT
end
section
namespace L2
open PySem PySem.Spec PyProof.Rows
section
variable {X:Cx}
theorem a9v (hc:X.calm=true):a1W X (.type "set") (fun vs H Q=>∃(a:Addr) (ys:List Str),vs=[.ref a]/\SqL X.K H a (ys.map V.str)/\ys.length<=1000/\∀p,H p=none->Q (.ref p) (upd H p (SetX X p (fun q=>(met (a6k ys) ys.length).any (fun y=>decide (y=q))) (met (a6k ys) ys.length).length))):=by
 intro pins s σ H vs us Q I rv h;obtain⟨a,ys,rfl,hq,hl,k⟩:=h;obtain⟨u,rfl,ru⟩:=rv.one;obtain rfl:u=.ref a:=ru;obtain⟨its,r,ht,_⟩:=I.list hq;have sz:its.toArray.size=ys.length:=by have:=r.length;rw [x0k] at this;simpa using this.symm
 refine a9u (val:=a6k ys) (I.ok.hd hc) (.inl ht.isList) (fun i v e=>?_) (by rw [sz];unfold scanBound;omega) fun h' tk so kp=>?_
 · obtain⟨t,rfl⟩:=b2d r (by simpa using e);exact⟨a4n _ _ _ _,rfl⟩
 · rw [sz] at so
   have I1:Inv X pins σ (upd H s.heap.objs.size (SetX X s.heap.objs.size (fun q=>(met (a6k ys) ys.length).any (fun y=>decide (y=q))) (met (a6k ys) ys.length).length)) { s with heap:=h',toks:=tk }:=
     I.laid (fun b o e=>kp b o (x0n e) e) (x0j _) ⟨so,by obtain⟨o,_,_,_,e,_⟩:=so;exact⟨o,e⟩,fun h1 h2 x k2=>by
       obtain⟨o,es,ep,t,e,more⟩:=x
       exact⟨o,es,ep,t,k2 o e,more⟩⟩
   exact⟨.ref s.heap.objs.size,_,I1,rfl,k _ (I.hok.fresh (x0j _))⟩
noncomputable def b2b (K:x0a)(t:TE):TE:=fun σ H Q=>∃Q',t σ H Q'/\∀x H1,Q' x H1->∃(a:Addr) (ys:List Str),x=.ref a/\SqL K H1 a (ys.map V.str)/\ys.length<=1000/\∀H2,Same H1 H2->Q (.int (met (a6k ys) ys.length).length) H2
theorem a8Q {e:Expr}{t:TE}{p1 p2 pos pos2:Pos}(hc:X.calm=true)(g1:Gl X "len")(m1:X.mg "len"=none)(g2:Gl X "set")(m2:X.mg "set"=none)(he:PE X e t)(hs:x0Y [e] X.env=(false,eval e X.env)::x0Y [] X.env) :
   PE X (.Call (.Name "len" p1) [.Call (.Name "set" p2) [e] [] pos2] [] pos) (b2b X.K t):=by
 have i1:=a2c (p:=p2) (pos:=pos2) (a9v hc) g2 m2 bt_set (a0n (SeT.pe_mo he) a0C hs) (by decide) (by decide) hs rfl;have i2:=a2n (p:=p1) (pos:=pos) b1L g1 m1 a8t (a0n i1 a0C rfl) (by decide) (by decide) rfl rfl;intro pins s σ H Q I ⟨Q',h1,h2⟩;refine i2 pins s σ H Q I ⟨Q',h1,fun x H1 hx=>?_⟩;obtain⟨a,ys,rfl,hq,hl,k⟩:=h2 x H1 hx;exact⟨a,ys,rfl,hq,hl,fun p hn=>⟨p,_,_,rfl,a0f,k _ ((Same.refl _).lay hn)⟩⟩
end
end L2
namespace Pu
open PySem PySem.Spec L2
section
variable {T:PotK}{ι:Type}{K:x0a}{F:ι->Cx}{pos:Pos}{e:Expr}{pe:pE}
noncomputable def a2J:w1:=fun x R=>match x with | .lst xs=>(match a3a xs with | some ys=>ys.length<=1000/\R (.int (met (a6k ys) ys.length).length) | none=>False) | _=>False
theorem a8H {p1 p2 pos2:Pos}(hc:∀z,(F z).calm=true)(g1:∀z,Gl (F z) "len")(m1:∀z,(F z).mg "len"=none)(g2:∀z,Gl (F z) "set")(m2:∀z,(F z).mg "set"=none)(he:QE T K F e pe)(hs:a0u e=true:=by rfl)(hK:∀z,(F z).K=K:=by intro _;rfl) :
   QE T K F (.Call (.Name "len" p1) [.Call (.Name "set" p2) [e] [] pos2] [] pos) (qUn a2J pe):=by
 obtain⟨t,h1,h2⟩:=he;refine⟨_,fun z=>hK z▸a8Q (hc z) (g1 z) (m1 z) (g2 z) (m2 z) (h1 z) (a0d hs),fun C G σ H env n R Q hK hT S hp k=>?_⟩;refine⟨_,h2 C G σ H env n _ (fun v H'=>∃x env' n',a2J x (fun r=>R r env' n')/\SR C G σ H' env' n'/\Rep K G H' x v/\Fr G H H') hK hT S hp (fun x env' n' v H' r S' rv f=>⟨x,env',n',r,S',rv,f⟩),fun v H1 hx=>?_⟩;obtain⟨x,env1,n1,r,S1,rv,f1⟩:=hx;unfold a2J at r
 split at r
 · rename_i xs
   split at r
   · rename_i ys ey;obtain⟨a,vs,rfl,t,rs⟩:=rv;exact⟨a,ys,rfl,a2K ey rs▸t.sq,r.1,fun H2 s2=>k _ _ _ _ _ r.2 (S1.same s2) rfl (f1.trans (Fr.of s2))⟩
   · exact r.elim
 · exact r.elim
end
end Pu
end
section
namespace L2
open PySem PySem.Spec PyProof.Rows
section
variable {X:Cx}{a b:Expr}{rest:List Expr}{ta tb:TE}{pos:Pos}
theorem pe_orT (ha:PE X a ta)(hb:PE X (.BoolOp .Or (b::rest) pos) tb):PE X (.BoolOp .Or (a::b::rest) pos) (fun σ H Q=>ta σ H fun x H1=>∃k,TruV X.K x H1 k/\if k=true then Q x H1 else tb σ H1 Q):=by
 intro pins s σ H Q I h;refine BoolOp_or (thn (ha pins s σ H _ I h) fun v s1 ⟨x,H1,I1,r1,q1⟩=>?_);refine thn (tru_ok pins s1 σ H1 x v (fun k H=>if k=true then Q x H else tb σ H Q) I1 r1 q1) fun c s2 ⟨H2,I2,q2⟩=>?_;cases c with
 | false=>exact hb pins s2 σ H2 Q I2 q2
 | true=>exact⟨x,H2,I2,r1,q2⟩
end
end L2
namespace Pu
open PySem PySem.Spec L2
section
variable {T:PotK}{ι:Type}{K:x0a}{F:ι->Cx}{a b:Expr}{rest:List Expr}{pa pb:pE}{pos:Pos}
noncomputable def qOrT (pa pb:pE):pE:=fun env n R=>pa env n fun x env1 n1=>match a9F x with | some b=>if b=true then R x env1 n1 else pb env1 n1 R | none=>False
theorem qe_orT (ha:QE T K F a pa)(hb:QE T K F (.BoolOp .Or (b::rest) pos) pb)(hK:∀z,(F z).K=K:=by intro _;rfl):QE T K F (.BoolOp .Or (a::b::rest) pos) (qOrT pa pb):=by
 obtain⟨t,a1,a2⟩:=ha;obtain⟨u,b1,b2⟩:=hb;refine⟨_,fun z=>hK z▸pe_orT (a1 z) (b1 z),fun C G σ H env n R Q hK hT S hp k=>?_⟩;refine a2 C G σ H env n _ _ hK hT S hp fun x env1 n1 v H1 q1 S1 r1 f1=>?_
 split at q1
 · rename_i c ec;refine⟨c,tru_of ec (.inl r1),?_⟩;cases c with
   | true =>
     rw [if_pos rfl] at q1 ⊢;exact k _ _ _ _ _ q1 S1 r1 f1
   | false =>
     rw [if_neg x0E] at q1 ⊢;exact b2 C G σ H1 env1 n1 _ _ hK hT S1 q1 fun y env2 n2 w H2 q2 S2 r2 f2=>k _ _ _ _ _ q2 S2 r2 (f1.trans f2)
 · exact q1.elim
end
end Pu
end
section
namespace Pu
open PySem PySem.Spec L2
noncomputable def btwU (st:List Str)(x y:Str):List Str:=(st.take (max (ixS st x) (ixS st y))).drop (min (ixS st x) (ixS st y) + 1)
structure a7A (r:Int)(st:List Str)(es:List Ev):Prop where
 fair:Fair st es
 ahead:∀x y,Ev.t x y∈es->ixS st y < ixS st x
 near:∀x y,Ev.t x y∈es->((btwU st x y).length:Int)<=r
 full:∀x y,Ev.t x y∈es->∀z∈btwU st x y,z∈es.flatMap evB
 plain:∀x y x' y',Ev.t x y∈es->Ev.t x' y'∈es->(x'∈btwU st x y↔y'∈btwU st x y)
theorem Fair.tx {st:List Str}{es:List Ev}(h:Fair st es){x y:Str}(he:Ev.t x y∈es):x∈st/\y∈st:=
 ⟨h.sub x (x4p.mpr ⟨_,he,by simp [evB]⟩),h.sub y (x4p.mpr ⟨_,he,by simp [evB]⟩)⟩
end Pu
end
section
namespace Pu
open PySem PySem.Spec L2
noncomputable def b5i (pd pk:pE):pE:=fun env n R=>pd env n fun d env1 n1=>(∃ks xs,d=.dct ks xs)/\pk env1 n1 fun k env2 n2=>match d,keyV k with | .dct ks xs,some key=>R ((getP ks xs key).getD .non) env2 n2 | _,_=>False
section
variable {T:PotK}{ι:Type}{K:x0a}{F:ι->Cx}{e c:Expr}{pe pc:pE}{pos:Pos}
theorem b5b {k0:Nat}{ap:Pos}(hr:∀z,Room k0 (F z).A)(he:QE T K F e pe)(hc:QE T K F c pc)(hm:∀z,M1 (F z) e "get" ap c pos:=by intro _;exact⟨rfl,rfl,rfl,rfl⟩):QE T K F (.Call (.Attribute e "get" ap) [c] [] pos) (b5i pe pc):=by
 obtain⟨t,a1,a2⟩:=he;obtain⟨u,b1,b2⟩:=hc;refine⟨b3N t u,fun z=>b2T (a4H (hr z)) (a1 z) (b1 z) (hm z),fun C G σ H env n R Q hK hT S hp k=>?_⟩;refine a2 C G σ H env n _ _ hK hT S hp fun x env1 n1 v H1 q1 S1 r1 f1=>?_;obtain⟨⟨ks,xs,rfl⟩,q1⟩:=q1;obtain⟨a,kvs,rfl,hM,ha,ek,rx⟩:=r1;refine⟨a,rfl,.inl ⟨kvs,.inl ha⟩,?_⟩;refine b2 C G σ H1 env1 n1 _ _ hK hT S1 q1 fun y env2 n2 v2 H2 q2 S2 r2 f2=>?_
 split at q2
 · rename_i ks' xs' key e1 e2;cases e1;have ha3:H2 a=some (.dK kvs):=f2 a _ hM ha;have rx3:Reps K G H2 xs (kvs.map (·.2)):=rx.fr f2;rw [a1R r2 e2];refine⟨valV kvs key,DGet.k ha3,?_⟩;rw [<- ek] at q2;rcases a3O key kvs xs rx3 with⟨g1,g2⟩ | ⟨x,v,g1,g2,g3⟩
   · rw [g1] at q2;rw [g2];exact k _ _ _ _ _ q2 S2 rfl (f1.trans f2)
   · rw [g1] at q2;rw [g2];exact k _ _ _ _ _ q2 S2 g3 (f1.trans f2)
 · exact q2.elim
end
end Pu
end
section
namespace L2
open PySem PySem.Spec PyProof.Rows
section
variable {prog:x0D}{w:World}{A:Around}{E:Value->Shared->Prop}{s:Shared}
section
variable {b1 b2:Bool}{z TI TO i1 i2 l1 l2:Addr}{xs ys:Array Value}{ps:List Addr}
noncomputable abbrev lstO (ps:List Addr)(c:Nat):Obj:={ cls:=.type "list",dict:=none,data:=.seq (ps.map x1r).toArray c,slots:=#[] }
end
end
end L2
end
section
namespace L2
open PySem PySem.Spec PyProof.Rows
section
variable {prog:x0D}{w:World}{A:Around}{E:Value->Shared->Prop}{s:Shared}
theorem a6h:typeLookup (.type "list") "keys"=pure none:=by rw [typeLookup_type,builtinLookup_eq_fast];kernel_rfl
theorem noKeys {a:Addr}{xs:Array Value}{k:Nat}{Q:Option Value->Shared->Prop}(hx:s.heap.get? a=some { cls:=.type "list",dict:=none,data:=.seq xs k,slots:=#[] })(hA:A.handled=none)
   (h:∀h' tk,(∀c o,s.heap.get? c=some o->h'.get? c=some o)->Q none { s with heap:=h',toks:=tk }) :
   wpAny (model prog w) A (getAttr? (.ref a) "keys") Q E s:=by
 obtain⟨hp,g,d,tk,os⟩:=s;have hT:∀tk',(⟨hp,g,d,tk',os⟩:Shared).TypeIs (.ref a) "list":=fun _=>⟨_,hx,rfl⟩;have f1:=sub_AttributeError;have f3:=F.slot_list_getattribute.lookup;have f4:=F.slot_list_getattribute.bind (.ref a);have f5:=am_list_getattr_none;unfold getAttr? getAttrBy? getAttrBy
 repeat (any_goals (first | assumption | exact hT _ | ((with_reducible show wpAny _ _ (call (x4V "list.__getattribute__") _ _) _ _ _);refine call_meets F.slot_list_getattribute (hT _) am_entry_list_getattribute (F.args_list_getattribute_2 _ _) (meets_getattribute_miss_list a xs k #[] "keys" _ a6h (by decide) (by size_fits)) ⟨hx,hA,fun h' tk' e hx'=>?_⟩) | wp_step))
 obtain⟨t',u',he⟩:=hx'.there;show wpAny _ _ (getattributeRaised _ _ _ _ _ _ _) _ _ _;unfold getattributeRaised
 repeat (any_goals (first | assumption | wp_step))
 exact h _ _ hx'.keeps
theorem a6s:entryFor table "dict.update.loop"=some x3W.«dict.update.loop»:=entryFor_of_tree (by kernel_rfl)
theorem a2T:plainId "dict.update.loop"=true:=by decide +kernel
end
end L2
end
section
namespace L2
open PySem PySem.Spec PyProof.Rows
section
variable {prog:x0D}{w:World}{A:Around}{E:Value->Shared->Prop}{s:Shared}
noncomputable def a7C (h:Heap)(p:Addr)(x y:Value):Prop:=∃o n,h.get? p=some o/\o.cls=.type "tuple"/\o.data=.seq #[x,y] n
theorem a7C.keep {h h':Heap}{p:Addr}{x y:Value}(q:a7C h p x y)(k:∀o,o.cls=.type "tuple"->h.get? p=some o->h'.get? p=some o):a7C h' p x y:=by
 obtain⟨o,n,e,c,d⟩:=q;exact⟨o,n,k o c e,c,d⟩
end
end L2
end
section
namespace Pu
open PySem PySem.Spec L2
noncomputable def qIxD (pd pk:pE):pE:=fun env n R=>pd env n fun d env1 n1=>pk env1 n1 fun k env2 n2=>match d,keyV k with | .dct ks xs,some key=>(match getP ks xs key with | some x=>R x env2 n2 | none=>False) | _,_=>False
section
variable {T:PotK}{ι:Type}{K:x0a}{F:ι->Cx}{e c:Expr}{pe pc:pE}{pos:Pos}
theorem b3Z {k0:Nat}(hr:∀z,Room k0 (F z).A)(he:QE T K F e pe)(hc:QE T K F c pc)(hs:NoSl c:=by exact fun _ _=>rfl):QE T K F (.Subscript e c pos) (qIxD pe pc):=by
 obtain⟨t,a1,a2⟩:=he;obtain⟨u,b1,b2⟩:=hc;refine⟨b4N t u,fun z=>a0W (a4H (hr z)) (a1 z) (b1 z) hs,fun C G σ H env n R Q hK hT S hp k=>?_⟩;refine a2 C G σ H env n _ _ hK hT S hp fun x env1 n1 v H1 q1 S1 r1 f1=>?_;refine b2 C G σ H1 env1 n1 _ _ hK hT S1 q1 fun y env2 n2 v2 H2 q2 S2 r2 f2=>?_
 split at q2
 · rename_i ks xs key e2;obtain⟨a,kvs,rfl,hM,ha,ek,rx⟩:=r1;have ha2:H2 a=some (.dK kvs):=f2 a _ hM ha;have rx2:Reps K G H2 xs (kvs.map (·.2)):=rx.fr f2;rw [a1R r2 e2];rw [<- ek] at q2;rcases a3O key kvs xs rx2 with⟨g1,g2⟩ | ⟨x,v,g1,g2,g3⟩
   · rw [g1] at q2;exact q2.elim
   · rw [g1] at q2;have dg:DGet H2 a (kV key) (valV kvs key):=DGet.k ha2;rw [g2] at dg;exact⟨a,v,rfl,dg,k _ _ _ _ _ q2 S2 g3 (f1.trans f2)⟩
 · exact q2.elim
end
end Pu
end
section
namespace Pu
open PySem PySem.Spec L2
noncomputable def Ct.plus (C:Ct)(as:List Addr)(H:Hp):Ct:={ C with M0:=as++C.M0,H0:=fun b=>if b∈as then H b else C.H0 b }
section
variable {C:Ct}{G:Gh}{σ:St}{H H1:Hp}{env:Env}{n:Nat}{as:List Addr}
theorem a7c {b:Addr}(h:b∈as):(C.plus as H).H0 b=H b:=if_pos h
theorem a2b {b:Addr}(h:b∉as):(C.plus as H).H0 b=C.H0 b:=if_neg h
theorem a8M (h:∀b∈as,H b=H1 b):C.plus as H=C.plus as H1:=by
 unfold Ct.plus
 congr 1
 funext b
 by_cases c:b∈as
 · rw [if_pos c,if_pos c,h b c]
 · rw [if_neg c,if_neg c]
theorem SR.plus_put (S:SR (C.plus as H1) G σ H env n){b:Addr}{o:HO}(hb:b∈as)(mo:MutO o)(hp:b∉G.pots):SR (C.plus as (upd H b o)) G σ (upd H b o) env n/\Fr G H (upd H b o):=by
 have bM:b∈G.M:=S.sup b (x1t _ hb);have f:Fr G H (upd H b o):=fun c u hc e=>by rw [a0e (fun z=>hc (by rw [z];exact bM))];exact e
 refine⟨{ frame:=fun c u hc e=>?_,sub:=fun a ha=>?_,sup:=S.sup,pots:=fun p hp'=>⟨(S.pots p hp').1,C.T.keep (S.pots p hp').2 (a0e fun z=>hp (by rw [<- z];exact hp')) f⟩,pre:=S.pre,mu:=fun a ha=>?_,slots:=fun i s e=>?_,inj:=S.inj,p0:=S.p0,len:=S.len,newp:=S.newp },f⟩
 · by_cases h:c∈as
   · rw [a7c h] at e;exact e
   · rw [a2b h] at e;rw [a0e (fun z=>h (by rw [z];exact hb))];exact S.frame c u hc (by rw [a2b h];exact e)
 · by_cases h:a∈as
   · exact .inl (x1t _ h)
   · rcases S.sub a ha with z | z
     · exact .inl z
     · rw [a2b h] at z ⊢;exact .inr z
 · by_cases h:a=b
   · subst h;exact⟨o,a0f,mo⟩
   · rw [a0e h];exact S.mu a ha
 · have q:=S.slots i s e;cases s with
   | v x =>
     obtain⟨v,e1,r⟩:=q;exact⟨v,e1,r.fr f⟩
   | ow k xs =>
     obtain⟨c,us,e1,h1,h2,h3,h4,r⟩:=q;exact⟨c,us,e1,h1,h2,h3,by rw [a0e (fun z=>h2 (x1t _ (by rw [z];exact hb)))];exact h4,r.fr f⟩
end
theorem nodup_ix {α:Type}{l:List α}(nd:l.Nodup){k m:Nat}(h1:k < l.length)(h2:m < l.length)(e:l[k]=l[m]):k=m:=by
 have pw:=x2m.mp nd;rcases Nat.lt_trichotomy k m with c | c | c
 · exact absurd e (pw k m h1 h2 c)
 · exact c
 · exact absurd e.symm (pw m k h2 h1 c)
structure DJ (C:Ct)(i:Nat)(a:Addr)(as:List Addr)(ks:List Key)(G:Gh)(σ:St)(H:Hp)(env:Env)(n:Nat)(xss:List (List PV)):Prop where
 loc:σ[i]?=some (some (.ref a))
 dic:H a=some (.dK (ks.zip (as.map V.ref)))
 lk:ks.length=as.length
 lx:xss.length=as.length
 nd:(a::as).Nodup
 own:∀b∈a::as,b∉G.pots/\b∉C.M0/\C.H0 b=none
 inn:∀(j:Nat) (b:Addr) (xs:List PV),as[j]?=some b->xss[j]?=some xs->∃vs,H b=some (.lst vs)/\Reps C.K G H xs vs
 sr:SR (C.plus (a::as) H) G σ H env n
 p0:∀p∈C.pots0,p∈C.M0
section
variable {C:Ct}{i:Nat}{a:Addr}{as:List Addr}{ks:List Key}{G:Gh}{σ σ':St}{H H':Hp}{env env':Env}{n n':Nat}{xss:List (List PV)}
theorem DJ.ob (j:DJ C i a as ks G σ H env n xss){b:Addr}(hb:b∈a::as):∃o,H b=some o:=by
 rcases x0i.mp hb with rfl | hb
 · exact⟨_,j.dic⟩
 · obtain⟨k,hk,e⟩:=x2G hb;have hx:k < xss.length:=by rw [j.lx];exact hk
   obtain⟨vs,h,_⟩:=j.inn k b xss[k] (by rw [x0f hk,e]) (x0f hx);exact⟨_,h⟩
theorem DJ.step (j:DJ C i a as ks G σ H env n xss)(S:SR (C.plus (a::as) H) G σ' H' env' n')(f:Fr G H H')(e:σ'[i]?=σ[i]?):DJ C i a as ks G σ' H' env' n' xss:=by
 have eq:∀b∈a::as,H b=H' b:=fun b hb=>by
   obtain⟨o,ho⟩:=j.ob hb
   have np:b∉(C.plus (a::as) H).pots0:=fun z=>by
     obtain⟨l,el,_⟩:=S.pre;exact(j.own b hb).1 (by rw [el];exact x1t _ z)
   have:=S.frame b o np (by rw [a7c hb];exact ho);rw [ho,this]
 have S':=S;rw [a8M eq] at S';refine⟨by rw [e];exact j.loc,by rw [<- eq a x0e];exact j.dic,j.lk,j.lx,j.nd,j.own,fun k b xs e1 e2=>?_,S',j.p0⟩;obtain⟨vs,h,r⟩:=j.inn k b xs e1 e2;exact⟨vs,by rw [<- eq b (x0d _ (x0A e1))];exact h,r.fr f⟩
theorem DJ.put (j:DJ C i a as ks G σ H env n xss){k:Nat}{b:Addr}{xs:List PV}{vs:List V}{x:PV}{v:V}(e1:as[k]?=some b)(e2:xss[k]?=some xs)(hb:H b=some (.lst vs))(r:Reps C.K G H xs vs)(rx:Rep C.K G H x v):DJ C i a as ks G σ (upd H b (.lst (vs++[v]))) env n (xss.set k (xs++[x]))/\Fr G H (upd H b (.lst (vs++[v]))):=by
 have bm:b∈as:=x0A e1;have ba:a≠b:=fun z=>(x0J.mp j.nd).1 (by rw [z];exact bm);obtain⟨S,f⟩:=j.sr.plus_put (o:=.lst (vs++[v])) (x0d _ bm) trivial (j.own b (x0d _ bm)).1;refine⟨⟨j.loc,by rw [a0e ba];exact j.dic,j.lk,by rw [x0B];exact j.lx,j.nd,j.own,fun m c ys f1 f2=>?_,S,j.p0⟩,f⟩
 by_cases hm:k=m
 · subst hm;rw [e1] at f1;cases f1;rw [x0t (x0l.mp e2).1] at f2;cases f2;exact⟨_,a0f,(r.append (.one rx)).fr f⟩
 · rw [x0o hm] at f2
   have bc:c≠b:=fun z=>by
     subst z;have nd:=(x0J.mp j.nd).2;obtain⟨h1,g1⟩:=x0l.mp e1;obtain⟨h2,g2⟩:=x0l.mp f1;exact hm (nodup_ix nd h1 h2 (g1.trans g2.symm))
   obtain⟨us,h,q⟩:=j.inn m c ys f1 f2;exact⟨us,by rw [a0e bc];exact h,q.fr f⟩
theorem DJ.freeze (j:DJ C i a as ks G σ H env n xss):SR C ⟨G.M.filter fun b=>decide (b∉a::as),G.pots⟩ σ H (env.set i (some (.v (.dct ks (xss.map PV.lst))))) n:=by
 have S:=j.sr
 have sb:∀b,b∈(G.M.filter fun b=>decide (b∉a::as))->b∈G.M/\b∉a::as:=fun b hb=>by
   obtain⟨h1,h2⟩:=x1c.mp hb;exact⟨h1,of_decide_eq_true h2⟩
 have bk:∀b,b∈G.M->b∉a::as->b∈(G.M.filter fun b=>decide (b∉a::as)):=fun b h1 h2=>x1c.mpr ⟨h1,decide_eq_true h2⟩;have mm:∀{x:PV} {v:V},Rep C.K G H x v->Rep C.K ⟨G.M.filter fun b=>decide (b∉a::as),G.pots⟩ H x v:=fun r=>Rep.mono (G':=⟨G.M.filter fun b=>decide (b∉a::as),G.pots⟩) (fun _ _ _ e=>e) (fun b hb=>.inl (sb b hb).1) (fun _ _ e=>e) _ _ r;have mms:∀{x:List PV} {v:List V},Reps C.K G H x v->Reps C.K ⟨G.M.filter fun b=>decide (b∉a::as),G.pots⟩ H x v:=fun r=>Reps.mono (G':=⟨G.M.filter fun b=>decide (b∉a::as),G.pots⟩) (fun _ _ _ e=>e) (fun b hb=>.inl (sb b hb).1) (fun _ _ e=>e) _ _ r
 have np:∀(k:Nat) (xs:OK×List PV),(env.set i (some (.v (.dct ks (xss.map PV.lst)))))[k]?=some (some (Slot.ow xs.1 xs.2))->i≠k:=by
   intro k xs e h;subst h
   by_cases hl:i < env.length
   · rw [x0t hl] at e;cases e
   · rw [x1d (by rw [x0B];omega)] at e;cases e
 have nM:∀b∈a::as,b∉(G.M.filter fun b=>decide (b∉a::as)):=fun b hb z=>(sb b z).2 hb
 have lists:∀(bs:List Addr) (yss:List (List PV)),bs.length=yss.length->(∀b∈bs,b∈a::as)->(∀(k:Nat) (b:Addr) (xs:List PV),bs[k]?=some b->yss[k]?=some xs->∃vs,H b=some (.lst vs)/\Reps C.K G H xs vs)->Reps C.K ⟨G.M.filter fun b=>decide (b∉a::as),G.pots⟩ H (yss.map PV.lst) (bs.map V.ref):=by
   intro bs
   induction bs with
   | nil=>intro yss hl _ _;cases yss with | nil=>exact rfl | cons _ _=>cases hl
   | cons b bs ih =>
     intro yss hl hm h;cases yss with
     | nil=>cases hl
     | cons ys yss =>
       obtain⟨vs,h1,h2⟩:=h 0 b ys rfl rfl;exact .cons ⟨b,vs,rfl,⟨nM b (hm b x0e),h1⟩,mms h2⟩ (ih yss (by simpa using hl) (fun c hc=>hm c (x0d _ hc)) fun k c xs e1 e2=>h (k + 1) c xs e1 e2)
 have lz:ks.length=(as.map V.ref).length:=by rw [x0k];exact j.lk
 refine { frame:=fun b o hb e=>?_,sub:=fun b hb=>?_,sup:=fun b hb=>?_,pots:=fun p hp=>?_,pre:=S.pre,mu:=fun b hb=>S.mu b (sb b hb).1,slots:=fun k s e=>?_,inj:=fun k l xs ys b e1 e2 e3 e4=>?_,p0:=⟨j.p0,S.p0.2⟩,len:=by rw [x0B];exact S.len,newp:=fun p hp h1 h2=>S.newp p hp h1 (x0u _ h2) }
 · by_cases h:b∈a::as
   · rw [(j.own b h).2.2] at e;cases e
   · exact S.frame b o hb (by rw [a2b h];exact e)
 · obtain⟨h1,h2⟩:=sb b hb;rcases S.sub b h1 with z | z
   · exact .inl ((x0y.mp z).elim (fun z=>absurd z h2) id)
   · rw [a2b h2] at z;exact .inr z
 · exact bk b (S.sup b (x0u _ hb)) fun z=>(j.own b z).2.1 hb
 · obtain⟨h1,h2⟩:=S.pots p hp;exact⟨bk p h1 fun z=>(j.own p z).1 hp,C.T.more h2 fun b hb=>.inl (sb b hb).1⟩
 · by_cases hk:i=k
   · subst hk
     by_cases hl:i < env.length
     · rw [x0t hl] at e;cases e;refine⟨.ref a,j.loc,a,ks.zip (as.map V.ref),rfl,nM a x0e,j.dic,List.map_fst_zip (x2A lz),?_⟩;rw [x4o (x2A lz.symm)];exact lists as xss j.lx.symm (fun b hb=>x0d _ hb) j.inn
     · rw [x1d (by rw [x0B];omega)] at e;cases e
   · rw [x0o hk] at e;have q:=S.slots k s e;cases s with
     | v x =>
       obtain⟨v,e1,r⟩:=q;exact⟨v,e1,mm r⟩
     | ow kk xs =>
       obtain⟨c,us,e1,h1,h2,h3,h4,r⟩:=q;exact⟨c,us,e1,bk c h1 fun z=>h2 (x1t _ z),fun z=>h2 (x0u _ z),h3,h4,mms r⟩
 · have n1:=np k xs e1;have n2:=np l ys e2;rw [x0o n1] at e1;rw [x0o n2] at e2;exact S.inj k l xs ys b e1 e2 e3 e4
end
end Pu
end
section
namespace Pu
open PySem PySem.Spec L2
noncomputable abbrev pD:=List Key->(Env->Nat->List (List PV)->Prop)->Env->Nat->List (List PV)->Prop
noncomputable def DOk (K:x0a)(T:PotK)(i:Nat)(t:TS)(pd:pD):Prop:=∀(C:Ct) (G:Gh) (σ:St) (H:Hp) (env:Env) (n:Nat) (a:Addr) (as:List Addr) (ks:List Key) (xss:List (List PV)) (R:Env->Nat->List (List PV)->Prop) (D:Ends),C.K=K->C.T=T->DJ C i a as ks G σ H env n xss->pd ks R env n xss->
 (∀env' n' xss' σ' H',R env' n' xss'->DJ C i a as ks G σ' H' env' n' xss'->Fr G H H'->D.nx σ' H')->t D σ H
noncomputable def QD {ι:Type}(T:PotK)(K:x0a)(F:ι->Cx)(i:Nat)(st:Stmt)(pd:pD):Prop:=∃t,(∀z,PS (F z) st t)/\DOk K T i t pd
noncomputable def QDs {ι:Type}(T:PotK)(K:x0a)(F:ι->Cx)(i:Nat)(st:List Stmt)(pd:pD):Prop:=∃t,(∀z,PSs (F z) st t)/\DOk K T i t pd
noncomputable def GKp (K:x0a)(i:Nat)(g:TG)(pg:pG):Prop:=∀(C:Ct) (G:Gh) (σ:St) (H:Hp) (env:Env) (n:Nat) (x:PV) (v:V) (R:Env->Prop) (Q:St->Hp->Prop),C.K=K->SR C G σ H env n->Rep K G H x v->pg x env R->
 (∀env' σ',R env'->SR C G σ' H env' n->σ'[i]?=σ[i]?->Q σ' H)->g v σ H Q
noncomputable def GKs (K:x0a)(i:Nat)(g:TGs)(pg:pGs):Prop:=∀(C:Ct) (G:Gh) (σ:St) (H:Hp) (env:Env) (n:Nat) (x:List PV) (v:List V) (R:Env->Prop) (Q:St->Hp->Prop),C.K=K->SR C G σ H env n->Reps K G H x v->pg x env R->
 (∀env' σ',R env'->SR C G σ' H env' n->σ'[i]?=σ[i]?->Q σ' H)->g v σ H Q
noncomputable def QGk {ι:Type}(K:x0a)(F:ι->Cx)(i:Nat)(e:Expr)(pg:pG):Prop:=∃g,(∀z,PG (F z) e g)/\GKp K i g pg
noncomputable def QGks {ι:Type}(K:x0a)(F:ι->Cx)(i:Nat)(e:List Expr)(pg:pGs):Prop:=∃g,(∀z,PGs (F z) e g)/\GKs K i g pg
section
variable {T:PotK}{np:Bool}{ι:Type}{K:x0a}{F:ι->Cx}{e:Expr}{es:List Expr}{pe pk:pE}{pos:Pos}{pg:pG}{pgs:pGs}{st:Stmt}{rest:List Stmt}{i:Nat}{p1 p2:pD}{pi:pA}
theorem a2R {j:Nat}{x:Str}(h:∀z,GW (F z) (.Name x pos) (a1i j))(hj:j≠i:=by decide):QGk K F i (.Name x pos) (gN j):=⟨_,fun z=>(h z).h,fun C G σ H env n x v R Q hK S r hp k=>k _ _ hp (S.set j (hK▸r)) (x0o hj)⟩
theorem b2v:QGks K F i [] gNl:=⟨_,fun _=>a4h,fun C G σ H env n x v R Q hK S r hp k=>by
 cases x with
 | nil=>exact⟨r,k _ _ hp S rfl⟩
 | cons _ _=>exact hp.elim⟩
theorem a5T (h1:QGk K F i e pg)(h2:QGks K F i es pgs)(hs:∀z,(x0G (e::es) (F z).env).map (·.2)=assign e (F z).env::(x0G es (F z).env).map (·.2):=by intro _;rfl):QGks K F i (e::es) (gCn pg pgs):=by
 obtain⟨g,a1,a2⟩:=h1;obtain⟨gs,b1,b2⟩:=h2;refine⟨_,fun z=>a1N (a1 z) (b1 z) (hs z),fun C G σ H env n x v R Q hK S r hp k=>?_⟩;cases x with
 | nil=>exact hp.elim
 | cons x xs =>
   obtain⟨u,us,rfl,ru,rs⟩:=r;exact⟨u,us,rfl,a2 C G σ H env n x u _ _ hK S ru hp fun env' σ' re S' e1=>b2 C G σ' H env' n xs us _ _ hK S' rs re fun env2 σ2 q2 S2 e2=>k env2 σ2 q2 S2 (e2.trans e1)⟩
theorem b4Z {m:Nat}{k:Nat}(hc:∀z,(F z).calm=true)(h:QGks K F i es pgs)(hn:∀z,(x0G es (F z).env).length=m:=by intro _;rfl)(hst:∀z,(x0G es (F z).env).findIdx? (·.1)=none:=by intro _;rfl)(hK:∀z,(F z).K=K:=by intro _;rfl):QGk K F i (.Tuple es k pos) (gTp m pgs):=by
 obtain⟨g,a1,a2⟩:=h;refine⟨_,fun z=>hK z▸a6b (hc z) (a1 z) (hn z) (hst z),fun C G σ H env n x v R Q hK S r hp k=>?_⟩;cases x with
 | tup xs =>
   obtain⟨a,vs,rfl,t,rs⟩:=r;exact⟨a,vs,rfl,t.sq,by rw [<- rs.length];exact hp.1,a2 C G σ H env n xs vs _ _ hK S rs hp.2 k⟩
 | _=>exact hp.elim
noncomputable def a8I (j:Nat)(pe:pE):pD:=fun ks R env n xss=>pe env n fun x env1 n1=>R (env1.set j (some (.v x))) n1 xss
theorem a7T (j:Nat)(h:∀z te,EW (F z) e te->SW (F z) st (tAsg te (a1i j)))(he:QE T K F e pe)(hj:j≠i:=by decide):QD T K F i st (a8I j pe):=by
 obtain⟨t,a1,a2⟩:=he;refine⟨_,fun z=>(h z _ ⟨a1 z⟩).h,fun C G σ H env n a as ks xss R D hK hT J hp k=>?_⟩;refine a2 (C.plus (a::as) H) G σ H env n _ _ hK hT J.sr hp fun x env1 n1 v H1 q1 S1 r1 f1=>?_;exact k _ _ _ _ _ q1 (J.step (S1.set j (by subst hK;exact r1)) f1 (x0o hj)) f1
noncomputable def a2v (p q:pD):pD:=fun ks R env n xss=>p ks (fun env1 n1 xss1=>q ks R env1 n1 xss1) env n xss
theorem a2a (h:QD T K F i st p1):QDs T K F i [st] p1:=let ⟨t,h1,h2⟩:=h;⟨t,fun z=>a3f (h1 z),h2⟩
theorem a1l (h:QD T K F i st p1)(h':QDs T K F i rest p2):QDs T K F i (st::rest) (a2v p1 p2):=by
 obtain⟨t,a1,a2⟩:=h;obtain⟨u,b1,b2⟩:=h';refine⟨_,fun z=>a0J (a1 z) (b1 z),fun C G σ H env n a as ks xss R D hK hT J hp k=>?_⟩;exact a2 C G σ H env n a as ks xss _ _ hK hT J hp fun env1 n1 xss1 σ1 H1 q1 J1 f1=>b2 C G σ1 H1 env1 n1 a as ks xss1 R D hK hT J1 q1 fun env2 n2 xss2 σ2 H2 q2 J2 f2=>k env2 n2 xss2 σ2 H2 q2 J2 (f1.trans f2)
noncomputable def forD (g:pG)(b:pD)(ks:List Key)(R:Env->Nat->List (List PV)->Prop):List PV->Env->Nat->List (List PV)->Prop
 | [],env,n,xss=>R env n xss
 | x::xs,env,n,xss=>g x env fun env1=>b ks (fun env2 n2 xss2=>forD g b ks R xs env2 n2 xss2) env1 n xss
noncomputable def a8J (pi:pA)(g:pG)(b:pD):pD:=fun ks R env n xss=>pi env n fun xs env1 n1=>forD g b ks R xs env1 n1 xss
theorem a7U {tg iter:Expr}{body:List Stmt}(hc:∀z,(F z).calm=true)(hi:QI T K F tg iter pi)(hg:QGk K F i tg pg)(hb:QDs T K F i body p1)(hp:∀z,PassesOwn (model (F z).prog (F z).w) (F z).A (F z).env (F z).xe:=by intro _;exact PassesOwn.never)(hs:∀z x,x0U iter (F z).env x=pure x:=by intro _ _;rfl):QD T K F i (.For tg iter body [] pos) (a8J pi pg p1):=by
 obtain⟨wi,i1,i2⟩:=hi;obtain⟨g,g1,g2⟩:=hg;obtain⟨t,b1,b2⟩:=hb;refine⟨_,fun z=>b4e (hp z) (hc z) (i1 z) (g1 z) (b1 z) (hs z),fun C G σ H env n a as ks xss R D hK hT J hp k=>?_⟩;refine i2 (C.plus (a::as) H) G σ H env n _ _ hK hT J.sr hp fun xs env1 n1 It H1 q1 S1 f1 hJ=>?_;have J1:=J.step S1 f1 rfl;refine⟨fun q m σ H'=>m=xs.length - q/\q<=xs.length/\∃env n xss,DJ C i a as ks G σ H' env n xss/\Fr G H1 H'/\forD pg p1 ks R (xs.drop q) env n xss,⟨xs.length,by simp,x0L _,env1,n1,xss,J1,Fr.refl,by simpa using q1⟩,?_⟩;rintro q m σ' H' ⟨rfl,hi,env',n',xss',J',f',q'⟩;obtain⟨hgo,hstop⟩:=hJ G H' f' (fun _ h=>.inl h) (fun _ _ e=>e) (fun p hp=>J'.sr.fresh hp)
 by_cases hlt:q < xs.length
 · obtain⟨go1,go2⟩:=hgo q _ (x0f hlt);rw [x0z hlt] at q';refine .inr ⟨go1,fun σ H'=>∃env n xss,DJ C i a as ks G σ H' env n xss/\Fr G H1 H'/\forD pg p1 ks R (xs.drop (q + 1)) env n xss,fun σ2 H2 h2=>⟨xs.length - (q + 1),by omega,rfl,hlt,h2⟩,fun v H2 y=>?_⟩;obtain⟨s2,rv⟩:=go2 v H2 y;have J2:=J'.step (J'.sr.same s2) (Fr.of s2) rfl;refine g2 (C.plus (a::as) H2) G σ' H2 env' n' _ v _ _ hK J2.sr rv q' fun env2 σ2 q2 S2 es=>?_;have J3:=J2.step S2 Fr.refl es;exact b2 C G σ2 H2 env2 n' a as ks xss' _ _ hK hT J3 q2 fun e3 n3 x3 σ3 H3 q3 J4 f3=>⟨e3,n3,x3,J4,(f'.trans (Fr.of s2)).trans f3,q3⟩
 · have ei:q=xs.length:=by omega
   subst ei;rw [x2d] at q';exact .inl ⟨hstop _ (x0j _),k _ _ _ _ _ q' J' (f1.trans f')⟩
noncomputable def kIx (ks:List Key)(k:Key):Option Nat:=ks.findIdx? fun z=>decide (z=k)
theorem val_ix {k:Key}:∀{ks:List Key} {vs:List V} {j:Nat} {v:V},kIx ks k=some j->vs[j]?=some v->valV (ks.zip vs) k=some v:=by
 intro ks
 induction ks with
 | nil=>intro vs j v h;cases h
 | cons a ks ih =>
   intro vs j v h e;unfold kIx at h;rw [List.findIdx?_cons] at h
   by_cases c:a=k
   · rw [if_pos (decide_eq_true c)] at h;cases h;cases vs with
     | nil=>cases e
     | cons u us =>
       have e:u=v:=by simpa using e
       subst e;show((((a,u)::ks.zip us).find? fun kv=>decide (kv.1=k)).map (·.2))=some u;rw [List.find?_cons_of_pos (by exact decide_eq_true c)];rfl
   · rw [if_neg (by simpa using c)] at h;cases hf:ks.findIdx? (fun z=>decide (z=k)) with
     | none=>rw [hf] at h;cases h
     | some m =>
       rw [hf] at h;cases h;cases vs with
       | nil=>cases e
       | cons u us =>
         show((((a,u)::ks.zip us).find? fun kv=>decide (kv.1=k)).map (·.2))=some v;rw [x3R (by simpa using c)];exact ih hf e
noncomputable def a6X (pk pe:pE):pD:=fun ks R env n xss=>pk env n fun k env1 n1=>match keyV k with
 | some kk => (match kIx ks kk with
   | some j => (match xss[j]? with
     | some xs=>xs.length < 1000000/\pe env1 n1 fun x env2 n2=>R env2 n2 (xss.set j (xs++[x]))
     | none=>False)
   | none=>False)
 | none=>False
theorem a5X {k0:Nat}(hr:∀z,Room k0 (F z).A){x:Str}{kx:Expr}{p sp ap:Pos}(hst:∀z te,EW (F z) (.Call (.Attribute (.Subscript (.Name x p) kx sp) "append" ap) [e] [] pos) te->SW (F z) st (a8z te))(hv:∀z,EW (F z) (.Name x p) (tVar i))(hk:QE T K F kx pk)(he:QE T K F e pe)(hs:a0u e=true:=by rfl)(hsl:NoSl kx:=by exact fun _ _=>rfl)(hbase:∀z,x2E (.Subscript (.Name x p) kx sp) "append" (F z).env (eval (.Subscript (.Name x p) kx sp) (F z).env)=eval (.Subscript (.Name x p) kx sp) (F z).env:=by intro _;rfl)(hline:(ap.endLine == pos.line)=true:=by rfl)
   (hfew:∀z,((backTo pos (x0Y [e] (F z).env)).all (fun x=>!x.1) && (x4b pos (x2l [] (F z).env)).all (fun x=>x.1.isSome) && decide (([e]:List Expr).length + ([]:List x3h).length + (if([]:List x3h).isEmpty then 0 else 1) < 30))=true:=by intro _;rfl) (hK:∀z,(F z).K=K:=by intro _;rfl):QD T K F i st (a6X pk pe):=by
 obtain⟨t,a1,a2⟩:=he;obtain⟨u,b1,b2⟩:=hk;refine⟨a8z (tBM K "list" a6U (b4N (tVar i) u) (a2M t tNil)),fun z=>(hst z _ ⟨hK z▸b0p x2H PySem.F.slot_list_append PySem.F.type_list_append a4m (a0W (a4H (hr z)) (hv z).h (b1 z) hsl) (a0n (a1 z) a0C (a0d hs)) (hbase z) (hfew z) hline (a0d hs)⟩).h,fun C G σ H env n a as ks xss R D hK hT J hp k=>?_⟩;refine⟨.ref a,J.loc,?_⟩;refine b2 (C.plus (a::as) H) G σ H env n _ _ hK hT J.sr hp fun kx env1 n1 v H1 q1 S1 r1 f1=>?_;have J1:=J.step S1 f1 rfl;cases ek:keyV kx with
 | none=>rw [ek] at q1;exact q1.elim
 | some kk =>
   rw [ek] at q1;dsimp only at q1;cases ei:kIx ks kk with
   | none=>rw [ei] at q1;exact q1.elim
   | some m =>
     rw [ei] at q1;dsimp only at q1;cases ex:xss[m]? with
     | none=>rw [ex] at q1;exact q1.elim
     | some xs =>
       rw [ex] at q1;obtain⟨hl,q2⟩:=q1;have hm:m < as.length:=by rw [<- J.lx];exact(x0l.mp ex).1
       obtain⟨b,eb⟩:∃b,as[m]?=some b:=⟨_,x0f hm⟩;obtain⟨vs,hb,rr⟩:=J1.inn m b xs eb ex;have dg:DGet H1 a (kV kk) (valV (ks.zip (as.map V.ref)) kk):=DGet.k J1.dic;rw [val_ix ei (v:=.ref b) (by rw [x0v,eb];rfl)] at dg;refine⟨a,.ref b,rfl,by rw [a1R r1 ek];exact dg,.inl ⟨rfl,vs,SqL.of hb⟩,?_⟩;refine a2 (C.plus (a::as) H1) G σ H1 env1 n1 _ _ hK hT J1.sr q2 fun y env2 n2 w H2 q3 S2 r3 f3=>?_;have J2:=J1.step S2 f3 rfl;obtain⟨vs2,hb2,rr2⟩:=J2.inn m b xs eb ex;have r4:Rep C.K G H2 y w:=by rw [hK];exact r3
       obtain⟨J3,f4⟩:=J2.put eb ex hb2 rr2 r4;exact⟨b,vs2,w,rfl,rfl,hb2,by rw [<- rr2.length];exact mil' (by omega),k _ _ _ _ _ q3 J3 ((f1.trans f3).trans f4)⟩
end
end Pu
end
section
namespace Pu
open PySem PySem.Spec L2
theorem Inn.more {K:x0a}{T:PotK}{M p:List Addr}{σ:St}{H:Hp}{env:Env}{n:Nat}(I:Inn K T ⟨M,p⟩ σ H env n){b:Addr}{o:HO}(hb:H b=none)(mo:MutO o):Inn K T ⟨b::M,p⟩ σ (upd H b o) env n where
 pots q hq:=by
   obtain⟨h1,h2⟩:=I.pots q hq;refine⟨x0d _ h1,?_⟩;have h3:=T.more (M':=b::M) h2 fun c hc=>(x0i.mp hc).elim (fun z=>.inr (by rw [z];exact hb)) .inl;obtain⟨u,e,_⟩:=T.mu h3;exact T.keep h3 (by rw [e,Same.lay1 hb q u e]) fun c u _ e=>Same.lay1 hb c u e
 has:=I.has
 mu c hc:=by
   rcases x0i.mp hc with rfl | hc
   · exact⟨_,a0f,mo⟩
   · obtain⟨u,e,m⟩:=I.mu c hc;exact⟨u,Same.lay1 hb c u e,m⟩
 slots i s e:=by
   obtain⟨x,v,e1,e2,r⟩:=I.slots i s e;exact⟨x,v,e1,e2,Rep.mono (G:=⟨M,p⟩) (G':=⟨b::M,p⟩) (H':=upd H b o) (fun c u _ e=>Same.lay1 hb c u e) (fun c hc=>(x0i.mp (show c∈b::M from hc)).elim (fun z=>.inr (by rw [z];exact hb)) .inl) (fun _ _ e=>e) _ _ r⟩
 len:=I.len
theorem Inn.put {K:x0a}{T:PotK}{G:Gh}{σ:St}{H:Hp}{env:Env}{n:Nat}(I:Inn K T G σ H env n){b:Addr}{o:HO}(hb:b∈G.M)(hp:b∉G.pots)(mo:MutO o):Inn K T G σ (upd H b o) env n:=by
 have f:Fr G H (upd H b o):=fun c u hc e=>by rw [a0e (fun z=>hc (by rw [z];exact hb))];exact e
 exact {
   pots:=fun q hq=>⟨(I.pots q hq).1,T.keep (I.pots q hq).2 (a0e fun z=>hp (by rw [<- z];exact hq)) f⟩
   has:=I.has
   mu:=fun c hc=>by
     by_cases h:c=b
     · subst h;exact⟨o,a0f,mo⟩
     · rw [a0e h];exact I.mu c hc
   slots:=fun i s e=>by
     obtain⟨x,v,e1,e2,r⟩:=I.slots i s e;exact⟨x,v,e1,e2,r.fr f⟩
   len:=I.len }
noncomputable def klL (pg:pG)(pk:pE)(pn:pA):List PV->List Key->List (List PV)->Env->Nat->(List Key->List (List PV)->Nat->Prop)->Prop
 | [],ks,yss,_,n,R=>R ks yss n
 | x :: xs, ks, yss, env, n, R => pg x env fun env1 => pk env1 n fun k env2 n2 => pn env2 n2 fun ys env3 n3 => match keyV k with
   | some kk=>kk∉ks/\klL pg pk pn xs (ks++[kk]) (yss++[ys]) env3 n3 R
   | none=>False
theorem a9B {k:Key}:∀{ks:List Key} {vs:List V},k∉ks->valV (ks.zip vs) k=none:=by
 intro ks
 induction ks with
 | nil=>intro vs _;rfl
 | cons a ks ih =>
   intro vs h;cases vs with
   | nil=>rfl
   | cons u us =>
     show((((a,u)::ks.zip us).find? fun kv=>decide (kv.1=k)).map (·.2))=none;rw [x3R (by simpa using fun z=>h (by rw [z];exact x0e))];exact ih fun z=>h (x0d _ z)
structure KE (K:x0a)(T:PotK)(G:Gh)(H1:Hp)(D:Addr)(M:List Addr)(as:List Addr)(ks:List Key)(yss:List (List PV))(H:Hp):Prop where
 mem:∀c,c∈M↔c∈as\/c=D\/c∈G.M
 keep:∀b o,b∉G.pots->H1 b=some o->H b=some o
 dic:H D=some (.dK (ks.zip (as.map V.ref)))
 lk:ks.length=as.length
 ly:yss.length=as.length
 nd:(D::as).Nodup
 new:∀b∈as,H1 b=none
 inn:∀(k:Nat) (b:Addr) (ys:List PV),as[k]?=some b->yss[k]?=some ys->∃vs,H b=some (.lst vs)/\Reps K ⟨M,G.pots⟩ H ys vs
theorem kl_ok {K:x0a}{T:PotK}{J:It}{g:TG}{tk tv:TE}{pg:pG}{pk:pE}{pn:pA}(hg:GOk K g pg)(hek:EOk K T tk pk)(hen:NOk K T tv pn){G:Gh}{H1:Hp}{xs:List PV}(hJ:ItR K G H1 J xs)(hl:xs.length<=1000000)
   {σc:St} {env:Env} {n:Nat} {R:List Key->List (List PV)->Nat->Prop} {Q:VK} {D:Addr} (hD:H1 D=none) (I0:Inn K T G σc H1 env n) (hp:klL pg pk pn xs [] [] env n R)
   (hQ:∀ks yss n' M as H',R ks yss n'->(∀p∈G.pots,T.at_ M H' p n')->(∀c∈M,∃o,H' c=some o/\MutO o)->KE K T G H1 D M as ks yss H'->Q (.ref D) H') :
   b4E J g tTru tk tv Q D σc (upd H1 D (.dK [])):=by
 have old:∀c∈G.M,∃o,H1 c=some o:=fun c hc=>by
   obtain⟨o,e,_⟩:=I0.mu c hc;exact⟨o,e⟩
 have npt:∀c,H1 c=none->c∉G.pots:=fun c hc z=>by
   obtain⟨o,e⟩:=old c (I0.pots c z).1;rw [hc] at e;cases e
 refine⟨fun i m σ H=>m=xs.length - i/\i<=xs.length/\∃env n ks yss M as,Inn K T ⟨M,G.pots⟩ σ H env n/\KE K T G H1 D M as ks yss H/\as.length<=i/\klL pg pk pn (xs.drop i) ks yss env n R,?_,?_⟩
 · refine⟨xs.length,by simp,x0L _,env,n,[],[],D::G.M,[],I0.more (M:=G.M) (p:=G.pots) (o:=.dK []) hD trivial,⟨fun c=>?_,fun b o _ e=>Same.lay1 hD b o e,a0f,rfl,rfl,by simp,(fun _ z=>nomatch z),fun k b ys e=>by cases e⟩,x0j _,by simpa using hp⟩;simp
 · rintro i m σ H ⟨rfl,hi,env,n,ks,yss,M,as,I,E,la,hc⟩
   have hf:∀p,H p=none->p∉(⟨M,G.pots⟩:Gh).M:=fun p hp z=>by
     obtain⟨o,e,_⟩:=I.mu p z;rw [hp] at e;cases e
   have gm:∀c∈G.M,c∈M:=fun c hc=>(E.mem c).mpr (.inr (.inr hc))
   obtain⟨hgo,hstop⟩:=hJ ⟨M,G.pots⟩ H (fun b o hb e=>E.keep b o (fun z=>hb (I0.pots b z).1) e) (fun a ha=>by
     rcases(E.mem a).mp ha with z | z | z
     · exact .inr (E.new a z)
     · exact .inr (by rw [z];exact hD)
     · exact .inl z) (fun _ _ e=>e) hf
   by_cases hlt:i < xs.length
   · have ex:xs[i]?=some xs[i]:=x0f hlt;obtain⟨g1,g2⟩:=hgo i _ ex;refine .inr ⟨g1,fun v H2 y=>?_⟩;obtain⟨s2,rv⟩:=g2 v H2 y;rw [x0z hlt] at hc;have S1:=I.sr.same s2;refine hg _ ⟨M,G.pots⟩ σ H2 env n xs[i] v _ _ rfl S1 rv hc fun env1 σ1 hc1 S2=>?_;show tk σ1 H2 _;refine hek _ ⟨M,G.pots⟩ σ1 H2 env1 n _ _ rfl rfl S2 hc1 fun kx env2 n2 ku H4 hc2 S4 rk f4=>?_;refine hen _ ⟨M,G.pots⟩ σ1 H4 env2 n2 _ _ rfl rfl S4 hc2 fun ys env3 n3 b vs Hb hc3 S5 f5 hb ry=>?_;cases ek:keyV kx with
     | none=>rw [ek] at hc3;exact hc3.elim
     | some kk =>
       rw [ek] at hc3;obtain⟨kn,hc4⟩:=hc3;have fr:∀c o,c∉G.pots->H c=some o->Hb c=some o:=fun c o hc e=>S5.frame c o hc e;have I5:=S5.inn
       have bM:b∉M:=fun z=>by
         obtain⟨o,e,_⟩:=I5.mu b z;rw [hb] at e;cases e
       have bD:b≠D:=fun z=>bM ((E.mem b).mpr (.inr (.inl z)));have ba:b∉as:=fun z=>bM ((E.mem b).mpr (.inl z));have bp:b∉G.pots:=fun z=>bM (gm b (I0.pots b z).1)
       have hbH:H b=none:=by
         cases z:H b with
         | none=>rfl
         | some o=>rw [fr b o bp z] at hb;cases hb
       have hb1:H1 b=none:=by
         cases z:H1 b with
         | none=>rfl
         | some o=>rw [E.keep b o bp z] at hbH;cases hbH
       have DM:D∈M:=(E.mem D).mpr (.inr (.inl rfl));have Dp:D∉G.pots:=npt D hD;have eD:upd Hb b (.lst vs) D=some (.dK (ks.zip (as.map V.ref))):=by rw [a0e (Ne.symm bD)];exact fr D _ Dp E.dic
       have lz:ks.length=(as.map V.ref).length:=by rw [x0k];exact E.lk
       refine⟨ks.zip (as.map V.ref),kk,a1R rk ek,eD,?_,xs.length - (i + 1),by omega,rfl,hlt,env3,n3,ks++[kk],yss++[ys],b::M,as++[b],(I5.more (M:=M) (p:=G.pots) (o:=.lst vs) hb trivial).put (o:=.dK (putK (ks.zip (as.map V.ref)) kk (.ref b))) (x0d _ DM) Dp trivial,⟨fun c=>?_,fun c o hc e=>?_,?_,?_,?_,?_,fun c hc=>?_,fun k c zs e1 e2=>?_⟩,?_,hc4⟩
       · rw [x3H,x0k,E.lk];exact mil' (by omega)
       · rw [x0i,E.mem c,x0y,x0q];constructor
         · rintro(z | z | z | z)
           · exact .inl (.inr z)
           · exact .inl (.inl z)
           · exact .inr (.inl z)
           · exact .inr (.inr z)
         · rintro((z | z) | z | z)
           · exact .inr (.inl z)
           · exact .inl z
           · exact .inr (.inr (.inl z))
           · exact .inr (.inr (.inr z))
       · have h1:Hb c=some o:=fr c o hc (E.keep c o hc e);rw [a0e (fun z=>by rw [z,hD] at e;cases e),a0e (fun z=>by rw [z,hb] at h1;cases h1)];exact h1
       · rw [a0f,putK_new _ (a9B kn),x1R,x4H lz]
         rfl
       · rw [x0m,x0m,E.lk];rfl
       · rw [x0m,x0m,E.ly];rfl
       · have h:=x0J.mp E.nd;refine x0J.mpr ⟨fun z=>?_,?_⟩
         · rcases x0y.mp z with z | z
           · exact h.1 z
           · exact bD (x0q.mp z).symm
         · rw [x3d];exact⟨h.2,by simp,fun c hc d hd e=>ba (by rw [<- x0q.mp hd,<- e];exact hc)⟩
       · rcases x0y.mp hc with z | z
         · exact E.new c z
         · rw [x0q.mp z];exact hb1
       · have hk7:∀c o,c∉M->Hb c=some o->upd (upd Hb b (.lst vs)) D (.dK (putK (ks.zip (as.map V.ref)) kk (.ref b))) c=some o:=fun c o hc e=>by
           rw [a0e (fun z=>hc (by rw [z];exact DM)),a0e (fun z=>by rw [z,hb] at e;cases e)];exact e
         have hM7:∀c∈(⟨b::M,G.pots⟩:Gh).M,c∈M\/Hb c=none:=fun c hc=>(x0i.mp (show c∈b::M from hc)).elim (fun z=>.inr (by rw [z];exact hb)) .inl
         by_cases hk:k < as.length
         · rw [x0P hk] at e1;rw [x0P (by rw [E.ly];exact hk)] at e2;obtain⟨us,h1,h2⟩:=E.inn k c zs e1 e2;have cm:=x0A e1;have cD:c≠D:=fun z=>(x0J.mp E.nd).1 (by rw [<- z];exact cm);have cb:c≠b:=fun z=>ba (by rw [<- z];exact cm);have h3:Reps K ⟨M,G.pots⟩ Hb zs us:=Reps.mono (fun c o hc e=>fr c o (fun z=>hc (gm c (I0.pots c z).1)) e) (fun a ha=>.inl ha) (fun _ _ e=>e) _ _ h2;exact⟨us,by rw [a0e cD,a0e cb];exact fr c _ (npt c (E.new c cm)) h1,Reps.mono (G:=⟨M,G.pots⟩) (G':=⟨b::M,G.pots⟩) hk7 hM7 (fun _ _ e=>e) _ _ h3⟩
         · have hk2:k=as.length:=by
             have:=(x0l.mp e1).1;rw [x0m,x0K] at this;omega
           subst hk2;rw [x0Z (x0j _),x2i] at e1;rw [x0Z (by rw [E.ly];exact x0j _),E.ly,x2i] at e2;cases e1;cases e2;exact⟨vs,by rw [a0e bD];exact a0f,Reps.mono (G:=⟨M,G.pots⟩) (G':=⟨b::M,G.pots⟩) hk7 hM7 (fun _ _ e=>e) _ _ ry⟩
       · rw [x0m,x0K];omega
   · have ei:i=xs.length:=by omega
     subst ei;refine .inl ⟨hstop _ (x0j _),?_⟩;rw [x2d] at hc;exact hQ _ _ n M as H hc (fun p hp=>(I.pots p hp).2) I.mu E
theorem dj_of {C:Ct}{G:Gh}{σ:St}{H1 H':Hp}{env1:Env}{n1 n2 i:Nat}(S1:SR C G σ H1 env1 n1){D:Addr}{M as:List Addr}{ks:List Key}{yss:List (List PV)}(hi:i < env1.length)(hD:H1 D=none)(hpots:∀p∈G.pots,C.T.at_ M H' p n2)(hmu:∀c∈M,∃o,H' c=some o/\MutO o)(E:KE C.K C.T G H1 D M as ks yss H'):DJ C i D as ks ⟨M,G.pots⟩ (σ.set i (some (.ref D))) H' (env1.set i none) n2 yss:=by
 have gm:∀c∈G.M,c∈M:=fun c hc=>(E.mem c).mpr (.inr (.inr hc));have hn:∀b∈D::as,H1 b=none:=fun b hb=>(x0i.mp hb).elim (fun z=>by rw [z];exact hD) (E.new b);have nG:∀b∈D::as,b∉G.M:=fun b hb=>S1.fresh (hn b hb);have Sb:SR C G σ H' env1 n2:=S1.call E.keep fun p hp=>C.T.more (hpots p hp) fun a ha=>.inl (gm a ha);have dm:∀b∈D::as,b∈M:=fun b hb=>(x0i.mp hb).elim (fun z=>(E.mem b).mpr (.inr (.inl z))) fun z=>(E.mem b).mpr (.inl z);have kp:∀b o,b∉G.M->H1 b=some o->H' b=some o:=fun b o hb e=>E.keep b o (fun z=>hb (S1.pots b z).1) e
 have nw:∀a∈(⟨M,G.pots⟩:Gh).M,a∈G.M\/H1 a=none:=fun a ha=>by
   rcases(E.mem a).mp ha with z | z | z
   · exact .inr (E.new a z)
   · exact .inr (by rw [z];exact hD)
   · exact .inl z
 have ni:∀(k:Nat) (xs:OK×List PV),(env1.set i none)[k]?=some (some (Slot.ow xs.1 xs.2))->i≠k:=by
   intro k xs e h;subst h;rw [x0t hi] at e;cases e
 refine⟨x0t (by rw [<- S1.len];exact hi),E.dic,E.lk,E.ly,E.nd,fun b hb=>⟨fun z=>nG b hb (S1.pots b z).1,fun z=>nG b hb (S1.sup b z),S1.old (hn b hb)⟩,E.inn,?_,S1.p0.1⟩;refine { frame:=fun b o hb e=>?_,sub:=fun a ha=>?_,sup:=fun a ha=>?_,pots:=fun p hp=>⟨gm p (S1.pots p hp).1,hpots p hp⟩,pre:=S1.pre,mu:=hmu,slots:=fun k s e=>?_,inj:=fun k l xs ys b e1 e2 e3 e4=>?_,p0:=⟨fun p hp=>x0u _ (S1.p0.1 p hp),S1.p0.2⟩,len:=by rw [x0B,x0B];exact S1.len,newp:=fun p hp h1 h2=>?_ }
 · by_cases h:b∈D::as
   · rw [a7c h] at e;exact e
   · rw [a2b h] at e;exact Sb.frame b o hb e
 · by_cases h:a∈D::as
   · exact .inl (x1t _ h)
   · have ga:a∈G.M:=by
       rcases(E.mem a).mp ha with z | z | z
       · exact absurd (x0d _ z) h
       · exact absurd (by rw [z];exact x0e) h
       · exact z
     rcases Sb.sub a ga with z | z
     · exact .inl (x0u _ z)
     · exact .inr (by rw [a2b h];exact z)
 · rcases x0y.mp ha with z | z
   · exact dm a z
   · exact gm a (S1.sup a z)
 · by_cases hk:i=k
   · subst hk;rw [x0t hi] at e;cases e
   · rw [x0o hk] at e ⊢;have q:=S1.slots k s e;cases s with
     | v x =>
       obtain⟨v,e1,r⟩:=q;exact⟨v,e1,Rep.mono (G':=⟨M,G.pots⟩) kp nw (fun _ _ e=>e) _ _ r⟩
     | ow kk xs =>
       obtain⟨c,us,e1,h1,h2,h3,h4,r⟩:=q;exact⟨c,us,e1,gm c h1,fun z=>(x0y.mp z).elim (fun z=>nG c z h1) h2,h3,E.keep c _ h3 h4,Reps.mono (G':=⟨M,G.pots⟩) kp nw (fun _ _ e=>e) _ _ r⟩
 · have m1:=ni k xs e1;have m2:=ni l ys e2;rw [x0o m1] at e1 e3;rw [x0o m2] at e2 e4;exact S1.inj k l xs ys b e1 e2 e3 e4
 · rcases x0y.mp h2 with z | z
   · exact nG p z (S1.pots p hp).1
   · exact S1.newp p hp h1 z
noncomputable def qDl (i:Nat)(cs:List (Option Nat))(pi:pA)(pg:pG)(pk:pE)(pn:pA)(pd:pD)(ps:pS):pS:=fun D env n=>pi env n fun xs env1 n1=>xs.length<=1000000/\i < env1.length/\klL pg pk pn xs [] [] (capV cs env1) n1 fun ks yss n2=>pd ks (fun env2 n3 yss2=>ps D (env2.set i (some (.v (.dct ks (yss2.map PV.lst))))) n3) (env1.set i none) n2 yss
end Pu
end
section
namespace L2
open PySem PySem.Spec PyProof.Rows
theorem evalDC {env:Env}(kx vx gens scope pos):eval (.DictComp kx vx gens scope pos) env=comprehension (.DictComp kx vx gens scope pos) scope env (firstIterPos gens pos) newDict (firstAsync gens) (firstIter gens env):=rfl
theorem b2U {X:Cx}{scope:Scope}{cl:List (Str×Addr)}{N:List Str}{cs:List (Option Nat)}{kx vx tg iter:Expr}{ifs:List Expr}{pos:Pos}{wi:TI}{g:TG}{tt:TT}{tk tv:TE}(S:a0L X scope cl N cs)(hc:X.calm=true)(hi:PI X tg iter wi)
   (hb:∀(fp:List Addr) (C:Addr) (s:Shared) (H:Hp),PG (a0o X scope cl N fp C s H) tg g/\PIf (a0o X scope cl N fp C s H) ifs tt/\PE (a0o X scope cl N fp C s H) kx tk/\PE (a0o X scope cl N fp C s H) vx tv)
   (hs:∀x,x0U iter X.env x=pure x:=by intro _;rfl) :
   PE X (.DictComp kx vx [⟨tg,iter,ifs,0⟩] scope pos) (tCompD cs wi g tt tk tv):=by
 intro pins s σ H Q I h;rw [evalDC];refine x2s (use:=none) rfl hs S.clos S.kind S.names (thn (hi pins s σ H _ I h) fun v s1 h1=>thn h1 fun itv s2 h2=>?_);obtain⟨it,fp,tn,J,H2,rfl,I2,T,st2,f2,q⟩:=h2
 have ho:∀b∈fp,∃o,s2.heap.get? b=some o:=fun b hb=>by
   obtain⟨o,e,_⟩:=T.obj 0 _ st2 b hb;exact⟨o,e⟩
 refine x0T (x2n S.nocell (by intro y hy;simp at hy) (fun h₁ hns₁ hsb₁=>?_) S.kind);dsimp only at hns₁ hsb₁ ⊢;have hC:(s2.heap.push { cls:=.type "dict",dict:=none,data:=.dict #[] }).objs.size=s2.heap.objs.size + 1:=by rw [x1O]
 generalize hH2:s2.heap.push { cls:=.type "dict",dict:=none,data:=.dict #[] }=hp2 at hns₁ hsb₁ hC ⊢;have old:∀b o,s2.heap.get? b=some o->h₁.get? b=some o:=fun b o e=>hsb₁.extBut b o (by rw [hC];exact x0r (x0R (x0n e))) (x0c _ (hH2▸x0c _ e));have hD:h₁.get? s2.heap.objs.size=some { cls:=.type "dict",data:=.dict #[] }:=hsb₁.extBut _ _ (by rw [hC];exact x0r (x3l _)) (x0c _ (hH2▸x0s _ rfl));rw [hC] at hns₁ ⊢;obtain⟨W,⟨m0,w0⟩,turn⟩:=q s2.heap.objs.size I2.fresh;have Ic:=b1e S (tk:=s2.toks + ([]:List (Str×Value)).length) I2 f2 ho old hns₁ hD;have nstk:∀b,b≠X.env.locals->b∉X.fs->b∉frs X.stack:=fun b h1 h2 hb=>(x0i.mp (I2.stkSub b hb)).elim h1 h2
 have stat:∀{H':Hp},(∀b∈fp,H' b=none)->∀b∈fp,FpOk (a0o X scope cl N fp (s2.heap.objs.size + 1) s2 H2) pins H' b:=fun hn b hb=>by
   obtain⟨o,e⟩:=ho b hb;exact⟨hn b hb,x0r (x0R (x0n e)),nstk b (f2 b hb).2.1 (f2 b hb).2.2.1,.inl hb,fun x c ec=>(f2 b hb).2.2.2.2.1 x c (S.sub x c ec),(f2 b hb).2.2.2.2.2⟩
 obtain⟨hg,hf,hk,hv⟩:=hb fp (s2.heap.objs.size + 1) s2 H2;have st1:tn 0 h₁:=T.keep _ _ _ st2 fun b hb o e=>old b o e
 have fr1:∀b∈fp,upd H2 s2.heap.objs.size (.dK []) b=none:=fun b hb=>by
   obtain⟨o,e⟩:=ho b hb;rw [a0e (x0r (x0n e))];exact(f2 b hb).1
 have loop:∀s₃:Shared,s₃={ s2 with heap:=h₁,toks:=s2.toks + ([]:List (Str×Value)).length }->
     x2q (model X.prog X.w) X.A (.compLoop (.DictComp kx vx [⟨tg,iter,ifs,0⟩] scope pos) 0 (.ref it) (.ref s2.heap.objs.size) (compEnvC scope cl (s2.heap.objs.size + 1) X.env))
       (compPost (model X.prog X.w) X.A X.xe none (EP X pins σ Q) (.ref s2.heap.objs.size) (s2.heap.objs.size + 1)) s₃:=by
   rintro s₃ rfl;refine a6t (fun n s'=>∃i σ' H',Inv (a0o X scope cl N fp (s2.heap.objs.size + 1) s2 H2) pins σ' H' s'/\tn i s'.heap/\(∀b∈fp,H' b=none)/\W i n σ' H') ?_ m0 ⟨0,_,_,Ic,st1,fr1,w0⟩;rintro n s3 ⟨i,σ3,H3,I3,st3,fr3,w3⟩;rcases turn i n σ3 H3 w3 with⟨stop,qn⟩ | ⟨go,step⟩
   · refine thn (T.done (a0o X scope cl N fp (s2.heap.objs.size + 1) s2 H2) rfl rfl rfl hc i pins s3 σ3 H3 (fun _ _=>False) I3 (stat fr3) st3 stop) fun r s4 ⟨hr,I4⟩=>?_;subst hr;obtain⟨m4,hn4,_⟩:=I4.loc;exact⟨m4,hn4,fun h' hs'=>⟨.ref s2.heap.objs.size,H3,Inv.uncomp I2 f2 I4 fun b hb=>hs'.2 b hb,rfl,qn⟩⟩
   · refine thn (T.item (a0o X scope cl N fp (s2.heap.objs.size + 1) s2 H2) rfl rfl rfl hc i pins s3 σ3 H3 (fun _ _=>False) I3 (stat fr3) st3 go) fun r s4 ⟨u,hr,h4⟩=>?_;subst hr;refine thn h4 fun _ s5 ⟨x,H5,I5,r5,y5,st5,fr5⟩=>?_;have I5':=I5.pinned (stat fr5) (T.obj _ _ st5);refine thn (hg _ s5 σ3 H5 x u _ I5' r5 (step x H5 y5)) fun _ s6 ⟨σ6,H6,I6,q6⟩=>?_
     have again:∀{σ7:St} {H7:Hp} {s7:Shared},Inv (a0o X scope cl N fp (s2.heap.objs.size + 1) s2 H2) (pins++a4g fp s5.heap) σ7 H7 s7->(∃m',m' < n/\W (i + 1) m' σ7 H7)->
         ∃m,m < n/\∃i σ' H',Inv (a0o X scope cl N fp (s2.heap.objs.size + 1) s2 H2) pins σ' H' s7/\tn i s7.heap/\(∀b∈fp,H' b=none)/\W i m σ' H':=fun {σ7 H7 s7} I7 n7=>by
       obtain⟨m',hm,w7⟩:=n7;refine⟨m',hm,i + 1,σ7,H7,I7.unpinned,T.keep _ _ _ st5 fun b hb o e=>(I7.pin (b,o) (x0u _ (x0u _ (a1H hb e)))).1,fun b hb=>?_,w7⟩;obtain⟨o,e,d⟩:=T.obj _ _ st5 b hb;exact(I7.pin (b,o) (x0u _ (x0u _ (a1H hb e)))).2.1
     refine thn (hf _ s6 σ6 H6 _ I6 q6) fun ok s7 ⟨H7,I7,q7⟩=>?_;cases ok with
     | false=>exact again I7 q7
     | true =>
       refine thn (hk _ s7 σ6 H7 _ I7 q7) fun ku s8 ⟨k8,H8,I8,rk,q8⟩=>?_;refine thn (hv _ s8 σ6 H8 _ I8 q8) fun vu s9 ⟨v9,H9,I9,rv,kvs,kk,ek,e9,z9,n9⟩=>?_;subst ek;obtain⟨z,hd,vs,rel,dd⟩:=b5Z I9.hok e9;have hz:vs.length<=x0w:=by rw [<- rel.length];exact z
       have hl:(putK kvs kk v9).length<=x0w:=by have:=a1Q kvs kk v9;omega
       refine wpAny_dictSet_pairs (hsz:=hz) (a6p rk) dd fun h' dd' hs=>again (σ7:=σ6) ?_ n9;have he:∃q,h'.get? s2.heap.objs.size=some q:=let ⟨q,_,_,hq,_⟩:=dd';⟨q,hq⟩;exact a5A I9 (by rw [e9];exact x4y) hs he (a8n hl hd (rel.put kk rv) dd')
 exact codeAny_compStart_dict (loop _ rfl) (T.self _ 0 _ _ _ st1 (loop _ rfl))
end L2
end
section
namespace Pu
open PySem PySem.Spec L2
section
variable {T:PotK}{np:Bool}{ι:Type}{K:x0a}{F:ι->Cx}{pg:pG}{pos spos py:Pos}{y:Str}{pk:pE}{pn:pA}{pd:pD}{ps:pS}
theorem b4U (i:Nat){scope:Scope}{cl:ι->List (Str×Addr)}{N:List Str}{cs:List (Option Nat)}{kx vx tg iter:Expr}{pi:pA}{st:Stmt}{rest:List Stmt}(S:∀z,a0L (F z) scope (cl z) N cs)(hc:∀z,(F z).calm=true)(hi:QI T K F tg iter pi)
   (hg:QG K (fun y:ι×List Addr×Addr×Shared×Hp=>a0o (F y.1) scope (cl y.1) N y.2.1 y.2.2.1 y.2.2.2.1 y.2.2.2.2) tg pg)
   (hk:QE T K (fun y:ι×List Addr×Addr×Shared×Hp=>a0o (F y.1) scope (cl y.1) N y.2.1 y.2.2.1 y.2.2.2.1 y.2.2.2.2) kx pk)
   (hv:QN T K (fun y:ι×List Addr×Addr×Shared×Hp=>a0o (F y.1) scope (cl y.1) N y.2.1 y.2.2.1 y.2.2.2.1 y.2.2.2.2) vx pn)
   (h:∀z te,EW (F z) (.DictComp kx vx [⟨tg,iter,[],0⟩] scope pos) te->SW (F z) (.Assign [.Name y py] (.DictComp kx vx [⟨tg,iter,[],0⟩] scope pos) spos) (tAsg te (a1i i))) (hd:QD T K F i st pd) (hr:QSs T np K F rest ps)
   (hs:∀z x,x0U iter (F z).env x=pure x:=by intro _ _;rfl):QSs T np K F (.Assign [.Name y py] (.DictComp kx vx [⟨tg,iter,[],0⟩] scope pos) spos::st::rest) (qDl i cs pi pg pk pn pd ps):=by
 obtain⟨wi,i1,i2⟩:=hi;obtain⟨g,hg0,hg⟩:=hg;obtain⟨tk,hk0,hk⟩:=hk;obtain⟨tv,hv0,hv⟩:=hv;obtain⟨td,d1,d2⟩:=hd;obtain⟨tr,r1,r2⟩:=hr;refine⟨_,fun z=>a0J (h z _ ⟨b2U (S z) (hc z) (i1 z) (fun fp C s H=>⟨hg0 (z,fp,C,s,H),a7d,hk0 (z,fp,C,s,H),hv0 (z,fp,C,s,H)⟩) (hs z)⟩).h (a0J (d1 z) (r1 z)),fun C G σ H env n PD DD hK hT hn S hp L=>?_⟩;refine i2 C G σ H env n _ _ hK hT S hp fun xs env1 n1 J H1 p1 S1 f1 hJ=>?_;intro D hD;obtain⟨pl,hi,pc⟩:=p1;refine kl_ok (G:=G) hg hk hv hJ pl hD (hT▸hK▸a4A S1 cs) pc fun ks yss n2 M as H' rr hpots hmu E=>?_;have J0:DJ C i D as ks ⟨M,G.pots⟩ (σ.set i (some (.ref D))) H' (env1.set i none) n2 yss:=dj_of S1 hi hD (by rw [hT];exact hpots) hmu (by rw [hK,hT];exact E);refine d2 C ⟨M,G.pots⟩ _ H' (env1.set i none) n2 D as ks yss _ _ hK hT J0 rr fun env2 n3 yss2 σ2 H2 q2 J2 f2=>?_;refine r2 C _ σ2 H2 _ n3 PD DD hK hT hn J2.freeze q2 (L.ext ⟨fun b o hb e=>?_,fun c hc=>?_,fun _ _ e=>e⟩)
 · have e1:=f1 b o hb e;refine f2 b o (fun z=>?_) (E.keep b o (fun z=>hb (S1.pots b z).1) e1);rcases(E.mem b).mp z with z | z | z
   · rw [E.new b z] at e1;cases e1
   · rw [z,hD] at e1;cases e1
   · exact hb z
 · obtain⟨h1,h2⟩:=x1c.mp hc;have h3:c∉D::as:=of_decide_eq_true h2;rcases(E.mem c).mp h1 with z | z | z
   · exact absurd (x0d _ z) h3
   · exact absurd (by rw [z];exact x0e) h3
   · exact .inl z
end
end Pu
end
section
namespace L2
open PySem PySem.Spec PyProof.Rows
section
variable {prog:x0D}{w:World}{A:Around}{E:Value->Shared->Prop}{s:Shared}{κ:Type}[DecidableEq κ]{knd:KeyKind prog w κ}{ps:List Addr}{qs:List (κ×Value)}
theorem b1w {R:Result->Shared->Prop}(hh:A.handled=none){D it L:Addr}{c:Nat}(nD:D≠it)(nL:D≠L)(nL2:it≠L)(hl:ps.length<=1000)(lq:qs.length=ps.length) :
   ∀(m i:Nat) (s:Shared),ps.length - i=m->i<=ps.length->s.heap.IsListIter it L i->s.heap.get? L=some (lstO ps c)->(∀(j:Nat) (p:Addr),ps[j]?=some p->∃q x,qs[j]?=some q/\a7C s.heap p x q.2/\knd.is q.1 x=true)->s.heap.DictOf knd D (merged [] (qs.take i))->
   (∀h' tk,h'.DictOf knd D (merged [] qs)->(∀c o,c≠D->c≠it->s.heap.get? c=some o->h'.get? c=some o)->R (.ok (.ret .none)) { s with heap:=h',toks:=tk })->
   x2q (model prog w) A (.builtin "dict.update.loop" ⟨[.ref D,.ref it,rawInt i,.none],[]⟩) R s:=by
 have sl:(1000:Nat)<=x0w:=by decide
 intro m
 induction m with
 | zero =>
   intro i s hm hi hit hL hp hD hR;refine x2u a6s ?_;rw [x1V a2T _];show wpAny _ A.in1 (pyNext (.ref it)>>=_) _ _ s;have isL:s.heap.IsList L (ps.map x1r).toArray:=⟨_,hL,rfl,_,rfl⟩;refine x0b (x4f hh hit isL (x3Q (by simp;omega)) fun h' k=>?_);show wpAny _ A.in1 (Builtin.Dict.addKeywords D []>>=_) _ _ _;refine x0b (x0h (x0h ?_));rw [x1u (by omega)] at hD
   have hD':h'.DictOf knd D (merged [] qs):=by
     obtain⟨o,e,r⟩:=x1B.mp hD;exact x1B.mpr ⟨o,k _ _ nD e,r⟩
   exact hR h' s.toks hD' fun c o _ c2 e=>k c o c2 e
 | succ m ih =>
   intro i s hm hi hit hL hp hD hR;have hlt:i < ps.length:=by omega
   refine x2u a6s ?_;rw [x1V a2T _];show wpAny _ A.in1 (pyNext (.ref it)>>=_) _ _ s;have isL:s.heap.IsList L (ps.map x1r).toArray:=⟨_,hL,rfl,_,rfl⟩;obtain⟨q,x,eq,pq,kq⟩:=hp i ps[i] (x0f hlt);refine x0b (x3L (x:=.ref ps[i]) hit isL (by simp [hlt]) fun h1 hit1 s1=>?_);have k1:∀c o,c≠it->s.heap.get? c=some o->h1.get? c=some o:=fun c o hc e=>s1.extBut c o hc e
   have nt:∀a o,o.cls=.type "tuple"->s.heap.get? a=some o->a≠it:=by
     intro a o hc e z;obtain⟨o',e',hc',_⟩:=hit;rw [z,e'] at e;cases e;rw [hc'] at hc;exact absurd (x4R hc) (by decide)
   have pq1:a7C h1 ps[i] x q.2:=pq.keep fun o c e=>k1 _ _ (nt _ o c e) e
   have hD1:h1.DictOf knd D (merged [] (qs.take i)):=by
     obtain⟨o,e,r⟩:=x1B.mp hD;exact x1B.mpr ⟨o,k1 _ _ nD e,r⟩
   refine x0b (x0W ?_);refine x0b (wpAny_tryCatch ?_);unfold Builtin.Dict.pairItems;obtain⟨po,pn,pe1,pe2,pe3⟩:=pq1;refine x0b (x4h (T:="tuple") (s:={ s with heap:=h1 }) ⟨_,pe1,pe2⟩ ?_);rw [if_pos (by decide)];refine x0b (x1X (s:={ s with heap:=h1 }) pe1 pe3 (x0h ?_));show wpAny _ A.in1 (x4N [x,q.2] (dictSet D x q.2)) _ _ _;have ml:=merged_length_le [] (qs.take i);refine x0W (wpAny_dictSet_pairs (s:={ s with heap:=h1 }) (hsz:=by rw [x1i,x2Q] at ml;omega) kq hD1 fun h2 hD2 s2=>?_);rw [<- merged_take_succ [] qs i q eq] at hD2;have k2:∀c o,c≠D->h1.get? c=some o->h2.get? c=some o:=fun c o hc e=>s2.extBut c o hc e
   have nt2:∀a o,o.cls=.type "tuple"->h1.get? a=some o->a≠D:=by
     intro a o hc e z;obtain⟨o',e1,es,ep,hx,hd,_⟩:=x1B.mp hD1;rw [z,e1] at e;cases e;have:=hx.1;rw [hc] at this;exact absurd (x4R this) (by decide)
   refine x0h ⟨x4v a2T _,?_⟩;rw [show((i:Int) + 1)=((i + 1:Nat):Int) by omega];refine ih (i + 1) { s with heap:=h2,toks:=s.toks + 1 } (by omega) hlt ?_ (k2 _ _ nL.symm (k1 _ _ nL2.symm hL)) (fun j p hj=>?_) hD2 fun h' tk q1 q2=>hR h' tk q1 fun c o c1 c2 e=>q2 c o c1 c2 (k2 c o c1 (k1 c o c2 e))
   · obtain⟨o,e,r⟩:=hit1;exact⟨o,k2 _ _ nD.symm e,r⟩
   · obtain⟨q',x',e1,e2,e3⟩:=hp j p hj;exact⟨q',x',e1,e2.keep fun o c e=>k2 _ _ (nt2 _ o c (k1 _ _ (nt _ o c e) e)) (k1 _ _ (nt _ o c e) e),e3⟩
theorem a9o {Q:Value->Shared->Prop}(hh:A.handled=none){L:Addr}{c:Nat}(hl:ps.length<=1000)(lq:qs.length=ps.length)
   (hL:s.heap.get? L=some (lstO ps c)) (hp:∀(j:Nat) (p:Addr),ps[j]?=some p->∃q x,qs[j]?=some q/\a7C s.heap p x q.2/\knd.is q.1 x=true)
   (hQ:∀h' tk,h'.DictOf knd s.heap.objs.size (merged [] qs)->(∀c o,s.heap.get? c=some o->h'.get? c=some o)->Q (.ref s.heap.objs.size) { s with heap:=h',toks:=tk }) :
   wpAny (model prog w) A (call (.type "dict") [.ref L]) Q E s:=by
 refine callType_codes (Q₁:=fun obj s₁=>obj=.ref s.heap.objs.size/\s₁={ s with heap:=s.heap.push { cls:=.type "dict",data:=.dict #[] } }) F.kt_called_dict (F.kt_typeCall_dict_1 _) F.entry_dict_init (kt_code_dict_new _ ⟨rfl,rfl⟩) ?_;rintro obj s₁ ⟨rfl,rfl⟩;have hnew:(s.heap.push { cls:=.type "dict",data:=.dict #[] }).DictOf knd s.heap.objs.size []:=x4W s.heap;have old:∀c o,s.heap.get? c=some o->c≠s.heap.objs.size:=fun c o e=>x0r (x0n e);have up:∀c o,s.heap.get? c=some o->(s.heap.push { cls:=.type "dict",data:=.dict #[] }).get? c=some o:=fun c o e=>x0c _ e;have D0:=hnew;refine⟨hnew.typeIs,F.args_dict_init_2 _ _,?_⟩;generalize hg:s.heap.push { cls:=.type "dict",data:=.dict #[] }=g at *;generalize hD:s.heap.objs.size=D at *;unfold x3W.«dict.__init__»;refine x0b ?_;unfold Builtin.Dict.selfAndRest;refine x0b (wpAny_notOrdered_dict (s:={ s with heap:=g }) hnew.typeIs ?_);show wpAny _ _ (pure (D,[x1r L])) _ _ _;refine x0h ?_;show wpAny _ _ (Builtin.Dict.updateFrom "dict.__init__" D (.ref L) [] .none) _ _ _;unfold Builtin.Dict.updateFrom;refine x0b (x4h (T:="list") (s:={ s with heap:=g }) ⟨_,up _ _ hL,rfl⟩ ?_);rw [if_pos (by decide)];refine x0b (noKeys (s:={ s with heap:=g }) (up _ _ hL) hh fun g2 tk k2=>?_);show wpAny _ _ (rule _>>=_) _ _ _;refine x0b (x2Y ?_);have hL2:g2.get? L=some (lstO ps c):=k2 _ _ (up _ _ hL)
 refine x0b (x2Z (s:={ s with heap:=g2,toks:=tk }) ⟨_,hL2,rfl,_,rfl⟩ ?_)
 have dd:g2.DictOf knd D []:=by
   obtain⟨o,e,r⟩:=x1B.mp D0;exact x1B.mpr ⟨o,k2 _ _ e,r⟩
 obtain⟨od,ed,rd⟩:=x1B.mp dd;have lD:D≠g2.objs.size:=x0r (x0n ed);have lL:g2.objs.size≠L:=x2w (x0n hL2);have nDL:D≠L:=(old _ _ hL).symm;have up3:∀c o,g2.get? c=some o->(g2.push { cls:=x1L "list_iterator",data:=Data.fields #[x1r L,Value.int 0 0] }).get? c=some o:=fun c o e=>x0c _ e;refine x0h ⟨x4v a2T _,b1w (A:=A.in1) (i:=0) (c:=c) hh lD nDL lL hl lq _ _ rfl (x0L _) ⟨_,x0s _ rfl,rfl,rfl⟩ (up3 _ _ hL2) (fun j p hj=>?_) ?_ fun h' tk' q1 q2=>⟨rfl,hQ h' tk' q1 fun c o e=>q2 c o (old c o e) (x0r (x0n (k2 _ _ (up _ _ e)))) (up3 _ _ (k2 _ _ (up _ _ e)))⟩⟩
 · obtain⟨q,x,e1,e2,e3⟩:=hp j p hj;exact⟨q,x,e1,e2.keep fun o _ e=>up3 _ _ (k2 _ _ (up _ _ e)),e3⟩
 · exact x1B.mpr ⟨od,up3 _ _ ed,rd⟩
end
noncomputable def PrsK (H:Hp):List V->List (Key×V)->Prop:=Paired fun v q=>∃p,v=.ref p/\H p=some (.tup [kV q.1,q.2])
theorem b2I {P:x0D}{w:World}{H:Hp}{h:Heap}(ok:HOk P w H h){ws:List V}{qs:List (Key×V)}(hp:PrsK H ws qs):∀{its:List Value},Vals ws its->
   ∃ (ps : List Addr) (qh : List (Key × Value)), its = ps.map x1r /\ ps.length = ws.length /\ qh.length = ps.length /\
     (∀(j:Nat) (p:Addr),ps[j]?=some p->∃q x,qh[j]?=some q/\a7C h p x q.2/\(a0p P w).is q.1 x=true)/\KV qs qh:=by
 unfold PrsK at hp
 induction hp with
 | nil =>
   intro its r;cases r;exact⟨[],[],rfl,rfl,rfl,fun j p hj=>by simp at hj,.nil⟩
 | @cons v q vs qs hq _ ih =>
   intro its r;obtain⟨p,rfl,e1⟩:=hq;cases r with
   | cons r1 r2 =>
     obtain⟨ps,qh,rfl,h1,h2,h3,h4⟩:=ih r2;cases(show _=x1r p from r1);obtain⟨_,it2,rv,o,g1,g2,n,g3⟩:=(show a0U P w H h p (.tup [kV q.1,q.2]) from ok p _ e1);cases rv with
     | @cons _ x _ _ ra rr =>
       cases rr with
       | @cons _ y _ _ rb rn =>
         cases rn;refine⟨p::ps,(q.1,y)::qh,rfl,by simp [h1],by simp [h2],fun j p' hj=>?_,.cons ⟨rfl,rb⟩ h4⟩;cases j with
         | zero =>
           cases hj;exact⟨_,x,rfl,⟨o,n,g1,(x4z g2).1,g3⟩,a6p ra⟩
         | succ j=>exact h3 j p' hj
section
variable {X:Cx}
noncomputable def tDictK (ta:TA):TE:=fun σ H Q=>ta σ H fun vs H1=>∃a ws qs,vs=[.ref a]/\H1 a=some (.lst ws)/\PrsK H1 ws qs/\ws.length<=1000/\∀l,H1 l=none->Q (.ref l) (upd H1 l (.dK (a1s [] qs)))
theorem b2R {a:Expr}{ta:TA}{p1 pos1:Pos}(hc:X.calm=true)(g1:Gl X "dict")(m1:X.mg "dict"=none)(ha:PA X [a] ta)(hs:x0Y [a] X.env=[(false,eval a X.env)]:=by rfl) :
   PE X (.Call (.Name "dict" p1) [a] [] pos1) (tDictK ta):=by
 intro pins s σ H Q I h;refine x2O (a3z I g1 m1 b6k (x1w (thn (ha pos1 pins s σ H _ I h) fun us s1 h1=>?_) hs rfl));obtain⟨vs,H1,I1,r1,a,ws,qs,rfl,ea,hp,hl,q⟩:=h1;cases r1 with
 | cons r rr =>
   cases rr;cases(show _=x1r a from r);obtain⟨_,its,n,rv,e⟩:=(show a0U X.prog X.w H1 s1.heap a (.lst ws) from I1.hok a _ ea);obtain⟨ps,qh,rfl,h1,h2,h3,h4⟩:=b2I I1.hok hp rv;refine a9o (knd:=a0p X.prog X.w) (ps:=ps) (qs:=qh) (c:=n) (I1.ok.hd hc) (by omega) h2 e h3 fun h' tk dd kp=>?_;have hf:H1 s1.heap.objs.size=none:=I1.hok.fresh (x0j _);have hq:qs.length=ws.length:=(x3t hp).symm
   have hz:(a1s [] qs).length<=x0w:=by
     have h1:=a2W qs [];rw [x2Q] at h1;have sl:(1000:Nat)<=x0w:=by decide
     omega
   exact⟨.ref s1.heap.objs.size,upd H1 s1.heap.objs.size (.dK (a1s [] qs)),I1.laid (t':=tk) kp (x0j _) (a8n hz (beq_eq_false_iff_ne.mpr (Ne.symm (x0r I1.big))) (h4.merge .nil) dd),rfl,q _ hf⟩
end
end L2
end
section
namespace Pu
open PySem PySem.Spec L2
theorem a7g {α β:Type}{R:α->β->Prop}{xs:List α}{ys:List β}(h:Paired R xs ys){x:α}{y:β}(r:R x y):Paired R (xs++[x]) (ys++[y]):=by
 induction h with
 | nil=>exact .cons r .nil
 | cons h _ ih=>exact .cons h ih
structure KP (K:x0a)(T:PotK)(G:Gh)(H1:Hp)(D:Addr)(M:List Addr)(as:List Addr)(ws:List V)(ks:List Key)(yss:List (List PV))(H:Hp):Prop where
 mem:∀c,c∈M↔c∈as\/c=D\/c∈G.M
 keep:∀b o,b∉G.pots->H1 b=some o->H b=some o
 lst:H D=some (.lst ws)
 lw:ws.length=as.length
 pr:PrsK H ws (ks.zip (as.map V.ref))
 lk:ks.length=as.length
 ly:yss.length=as.length
 nk:ks.Nodup
 nd:(D::as).Nodup
 new:∀b∈as,H1 b=none
 inn:∀(k:Nat) (b:Addr) (ys:List PV),as[k]?=some b->yss[k]?=some ys->∃vs,H b=some (.lst vs)/\Reps K ⟨M,G.pots⟩ H ys vs
theorem kp_ok {K:x0a}{T:PotK}{J:It}{g:TG}{tk tv:TE}{pg:pG}{pk:pE}{pn:pA}(hg:GOk K g pg)(hek:EOk K T tk pk)(hen:NOk K T tv pn){G:Gh}{H1:Hp}{xs:List PV}(hJ:ItR K G H1 J xs)(hl:xs.length<=1000)
   {σc:St} {env:Env} {n:Nat} {R:List Key->List (List PV)->Nat->Prop} {Q:VK} {D:Addr} (hD:H1 D=none) (I0:Inn K T G σc H1 env n) (hp:klL pg pk pn xs [] [] env n R)
   (hQ:∀ks yss n' M as ws H',R ks yss n'->(∀p∈G.pots,T.at_ M H' p n')->(∀c∈M,∃o,H' c=some o/\MutO o)->as.length<=1000->KP K T G H1 D M as ws ks yss H'->Q (.ref D) H') :
   b6p J g tTru (tTup (a2M tk (a2M tv tNil))) Q D σc (upd H1 D (.lst [])):=by
 have old:∀c∈G.M,∃o,H1 c=some o:=fun c hc=>by
   obtain⟨o,e,_⟩:=I0.mu c hc;exact⟨o,e⟩
 have npt:∀c,H1 c=none->c∉G.pots:=fun c hc z=>by
   obtain⟨o,e⟩:=old c (I0.pots c z).1;rw [hc] at e;cases e
 refine⟨fun i m σ H=>m=xs.length - i/\i<=xs.length/\∃env n ks yss M as ws,Inn K T ⟨M,G.pots⟩ σ H env n/\KP K T G H1 D M as ws ks yss H/\as.length<=i/\klL pg pk pn (xs.drop i) ks yss env n R,?_,?_⟩
 · refine⟨xs.length,by simp,x0L _,env,n,[],[],D::G.M,[],[],I0.more (M:=G.M) (p:=G.pots) (o:=.lst []) hD trivial,⟨fun c=>?_,fun b o _ e=>Same.lay1 hD b o e,a0f,rfl,.nil,rfl,rfl,x4d,by simp,(fun _ z=>nomatch z),fun k b ys e=>by cases e⟩,x0j _,by simpa using hp⟩;simp
 · rintro i m σ H ⟨rfl,hi,env,n,ks,yss,M,as,ws,I,E,la,hc⟩
   have hf:∀p,H p=none->p∉(⟨M,G.pots⟩:Gh).M:=fun p hp z=>by
     obtain⟨o,e,_⟩:=I.mu p z;rw [hp] at e;cases e
   have gm:∀c∈G.M,c∈M:=fun c hc=>(E.mem c).mpr (.inr (.inr hc))
   obtain⟨hgo,hstop⟩:=hJ ⟨M,G.pots⟩ H (fun b o hb e=>E.keep b o (fun z=>hb (I0.pots b z).1) e) (fun a ha=>by
     rcases(E.mem a).mp ha with z | z | z
     · exact .inr (E.new a z)
     · exact .inr (by rw [z];exact hD)
     · exact .inl z) (fun _ _ e=>e) hf
   by_cases hlt:i < xs.length
   · have ex:xs[i]?=some xs[i]:=x0f hlt;obtain⟨g1,g2⟩:=hgo i _ ex;refine .inr ⟨g1,fun v H2 y=>?_⟩;obtain⟨s2,rv⟩:=g2 v H2 y;rw [x0z hlt] at hc;have S1:=I.sr.same s2;refine hg _ ⟨M,G.pots⟩ σ H2 env n xs[i] v _ _ rfl S1 rv hc fun env1 σ1 hc1 S2=>?_;dsimp only [tTru];rw [if_pos rfl];refine hek _ ⟨M,G.pots⟩ σ1 H2 env1 n _ _ rfl rfl S2 hc1 fun kx env2 n2 ku H4 hc2 S4 rk f4=>?_;refine hen _ ⟨M,G.pots⟩ σ1 H4 env2 n2 _ _ rfl rfl S4 hc2 fun ys env3 n3 b vs Hb hc3 S5 f5 hb ry=>?_;cases ek:keyV kx with
     | none=>rw [ek] at hc3;exact hc3.elim
     | some kk =>
       rw [ek] at hc3;obtain⟨kn,hc4⟩:=hc3;have eku:=a1R rk ek;subst eku;have fr:∀c o,c∉G.pots->H c=some o->Hb c=some o:=fun c o hc e=>S5.frame c o hc e;have I5:=S5.inn
       have bM:b∉M:=fun z=>by
         obtain⟨o,e,_⟩:=I5.mu b z;rw [hb] at e;cases e
       have bD:b≠D:=fun z=>bM ((E.mem b).mpr (.inr (.inl z)));have ba:b∉as:=fun z=>bM ((E.mem b).mpr (.inl z));have bp:b∉G.pots:=fun z=>bM (gm b (I0.pots b z).1)
       have hbH:H b=none:=by
         cases z:H b with
         | none=>rfl
         | some o=>rw [fr b o bp z] at hb;cases hb
       have hb1:H1 b=none:=by
         cases z:H1 b with
         | none=>rfl
         | some o=>rw [E.keep b o bp z] at hbH;cases hbH
       have DM:D∈M:=(E.mem D).mpr (.inr (.inl rfl));have Dp:D∉G.pots:=npt D hD;have lz:ks.length=(as.map V.ref).length:=by rw [x0k];exact E.lk
       have I6:=I5.more (M:=M) (p:=G.pots) (o:=.lst vs) hb trivial;refine⟨by show 2<=x0w;decide,fun p hp=>?_⟩
       have pM:p∉b::M:=fun z=>by
         obtain⟨o,e,_⟩:=I6.mu p z;rw [hp] at e;cases e
       have pb:p≠b:=fun z=>pM (by rw [z];exact x0e);have pD:p≠D:=fun z=>pM (x0d _ (by rw [z];exact DM));have hpb:Hb p=none:=by rw [a0e pb] at hp;exact hp
       have eD:upd (upd Hb b (.lst vs)) p (.tup [kV kk,.ref b]) D=some (.lst ws):=by rw [a0e (Ne.symm pD),a0e (Ne.symm bD)];exact fr D _ Dp E.lst
       have I7:=(I6.sr.same (Same.lay1 (o:=.tup [kV kk,.ref b]) hp)).inn
       have up:∀(c:Addr) (o:HO),c≠D->Hb c=some o->upd (upd (upd Hb b (.lst vs)) p (.tup [kV kk,.ref b])) D (.lst (ws++[.ref p])) c=some o:=fun c o hc e=>by
         rw [a0e hc,a0e (fun z=>by rw [z,hpb] at e;cases e),a0e (fun z=>by rw [z,hb] at e;cases e)];exact e
       refine⟨ws,eD,by rw [E.lw];exact x3z la (x0x hlt (x0I hl (by decide))),xs.length - (i + 1),by omega,rfl,hlt,env3,n3,ks++[kk],yss++[ys],b::M,as++[b],ws++[.ref p],I7.put (o:=.lst (ws++[.ref p])) (x0d _ DM) Dp trivial,⟨fun c=>?_,fun c o hc e=>?_,a0f,?_,?_,?_,?_,?_,?_,fun c hc=>?_,fun k c zs e1 e2=>?_⟩,?_,hc4⟩
       · rw [x0i,E.mem c,x0y,x0q];constructor
         · rintro(z | z | z | z)
           · exact .inl (.inr z)
           · exact .inl (.inl z)
           · exact .inr (.inl z)
           · exact .inr (.inr z)
         · rintro((z | z) | z | z)
           · exact .inr (.inl z)
           · exact .inl z
           · exact .inr (.inr (.inl z))
           · exact .inr (.inr (.inr z))
       · exact up c o (fun z=>by rw [z,hD] at e;cases e) (fr c o hc (E.keep c o hc e))
       · rw [x0m,x0m,E.lw];rfl
       · rw [x1R,x4H lz];refine a7g (Paired.mapP E.pr fun v q hq=>?_) ⟨p,rfl,by rw [a0e pD];exact a0f⟩;obtain⟨p0,rfl,e0⟩:=hq
         have p0M:p0∉M:=fun z=>by
           obtain⟨o,e,m⟩:=I.mu p0 z;rw [e0] at e;cases e;exact m
         exact⟨p0,rfl,up p0 _ (fun z=>p0M (by rw [z];exact DM)) (fr p0 _ (fun z=>p0M (gm p0 (I0.pots p0 z).1)) e0)⟩
       · rw [x0m,x0m,E.lk];rfl
       · rw [x0m,x0m,E.ly];rfl
       · rw [x3d];exact⟨E.nk,by simp,fun c hc d hd e=>kn (by rw [<- x0q.mp hd,<- e];exact hc)⟩
       · have h:=x0J.mp E.nd;refine x0J.mpr ⟨fun z=>?_,?_⟩
         · rcases x0y.mp z with z | z
           · exact h.1 z
           · exact bD (x0q.mp z).symm
         · rw [x3d];exact⟨h.2,by simp,fun c hc d hd e=>ba (by rw [<- x0q.mp hd,<- e];exact hc)⟩
       · rcases x0y.mp hc with z | z
         · exact E.new c z
         · rw [x0q.mp z];exact hb1
       · have hk7:∀c o,c∉M->Hb c=some o->upd (upd (upd Hb b (.lst vs)) p (.tup [kV kk,.ref b])) D (.lst (ws++[.ref p])) c=some o:=fun c o hc e=>up c o (fun z=>hc (by rw [z];exact DM)) e;have hM7:∀c∈(⟨b::M,G.pots⟩:Gh).M,c∈M\/Hb c=none:=fun c hc=>(x0i.mp (show c∈b::M from hc)).elim (fun z=>.inr (by rw [z];exact hb)) .inl
         by_cases hk:k < as.length
         · rw [x0P hk] at e1;rw [x0P (by rw [E.ly];exact hk)] at e2;obtain⟨us,h1,h2⟩:=E.inn k c zs e1 e2;have cm:=x0A e1;have cD:c≠D:=fun z=>(x0J.mp E.nd).1 (by rw [<- z];exact cm);have h3:Reps K ⟨M,G.pots⟩ Hb zs us:=Reps.mono (fun c o hc e=>fr c o (fun z=>hc (gm c (I0.pots c z).1)) e) (fun a ha=>.inl ha) (fun _ _ e=>e) _ _ h2;exact⟨us,up c _ cD (fr c _ (npt c (E.new c cm)) h1),Reps.mono (G:=⟨M,G.pots⟩) (G':=⟨b::M,G.pots⟩) hk7 hM7 (fun _ _ e=>e) _ _ h3⟩
         · have hk2:k=as.length:=by
             have:=(x0l.mp e1).1;rw [x0m,x0K] at this;omega
           subst hk2;rw [x0Z (x0j _),x2i] at e1;rw [x0Z (by rw [E.ly];exact x0j _),E.ly,x2i] at e2;cases e1;cases e2;exact⟨vs,by rw [a0e bD,a0e (Ne.symm pb)];exact a0f,Reps.mono (G:=⟨M,G.pots⟩) (G':=⟨b::M,G.pots⟩) hk7 hM7 (fun _ _ e=>e) _ _ ry⟩
       · rw [x0m,x0K];omega
   · have ei:i=xs.length:=by omega
     subst ei;refine .inl ⟨hstop _ (x0j _),?_⟩;rw [x2d] at hc;exact hQ _ _ n M as ws H hc (fun p hp=>(I.pots p hp).2) I.mu (by omega) E
theorem a6g:∀(ks:List Key) (us:List V) (ks0:List Key) (us0:List V),ks0.length=us0.length->ks.length=us.length->(ks0++ks).Nodup->a1s (ks0.zip us0) (ks.zip us)=(ks0++ks).zip (us0++us)
 | [], us, ks0, us0, h0, hl, _ => by
   cases us with
   | nil=>rw [x1f,x1f];rfl
   | cons _ _=>cases hl
 | k::ks,[],_,_,_,hl,_=>by cases hl
 | k :: ks, u :: us, ks0, us0, h0, hl, nd => by
   show a1s (putK (ks0.zip us0) k u) (ks.zip us)=_;have hk:k∉ks0:=fun z=>(x3d.mp nd).2.2 k z k x0e rfl;rw [putK_new _ (a9B hk),show ks0.zip us0++[(k,u)]=(ks0++[k]).zip (us0++[u]) by rw [x4H h0];rfl];rw [a6g ks us (ks0++[k]) (us0++[u]) (by rw [x0m,x0m,h0];rfl) (by simpa using hl) (by rw [x1o];exact nd),x1o,x1o]
   rfl
theorem KP.ke {K:x0a}{T:PotK}{G:Gh}{H1 H:Hp}{D l:Addr}{M as:List Addr}{ws:List V}{ks:List Key}{yss:List (List PV)}(E:KP K T G H1 D M as ws ks yss H)(hl:H l=none):KE K T G H1 l (as++l::G.M) as ks yss (upd H l (.dK (a1s [] (ks.zip (as.map V.ref))))):=by
 have lz:ks.length=(as.map V.ref).length:=by rw [x0k];exact E.lk
 have ob:∀b∈as,∃o,H b=some o:=fun b hb=>by
   obtain⟨k,hk,e⟩:=x2G hb;have hx:k < yss.length:=by rw [E.ly];exact hk
   obtain⟨vs,h,_⟩:=E.inn k b yss[k] (by rw [x0f hk,e]) (x0f hx);exact⟨_,h⟩
 have la:l∉as:=fun z=>by
   obtain⟨o,e⟩:=ob l z;rw [hl] at e;cases e
 have kp:∀b o,H b=some o->upd H l (.dK (a1s [] (ks.zip (as.map V.ref)))) b=some o:=fun b o e=>by rw [a0e (fun z=>by rw [z,hl] at e;cases e)];exact e
 refine⟨fun c=>by rw [x0y,x0i],fun b o hb e=>kp b o (E.keep b o hb e),?_,E.lk,E.ly,x0J.mpr ⟨la,(x0J.mp E.nd).2⟩,E.new,fun k b ys e1 e2=>?_⟩
 · rw [a0f];have:=a6g ks (as.map V.ref) [] [] rfl lz E.nk;rw [x1S,x1S] at this;exact congrArg (fun z=>some (HO.dK z)) this
 · obtain⟨vs,h,r⟩:=E.inn k b ys e1 e2;refine⟨vs,kp b _ h,Reps.mono (G:=⟨M,G.pots⟩) (G':=⟨as++l::G.M,G.pots⟩) (fun c o _ e=>kp c o e) (fun c hc=>?_) (fun _ _ e=>e) _ _ r⟩;rcases x0y.mp (show c∈as++l::G.M from hc) with z | z
   · exact .inl ((E.mem c).mpr (.inl z))
   · rcases x0i.mp z with z | z
     · exact .inr (by rw [z];exact hl)
     · exact .inl ((E.mem c).mpr (.inr (.inr z)))
end Pu
end
section
namespace Pu
open PySem PySem.Spec L2
theorem SR.m0 {C:Ct}{G:Gh}{σ:St}{H:Hp}{env:Env}{n:Nat}(S:SR C G σ H env n){M':List Addr}(h:∀b,b∈C.M0↔b∈M'):SR { C with M0:=M' } G σ H env n where
 frame:=S.frame
 sub:=fun a ha=>(S.sub a ha).imp (h a).mp id
 sup:=fun a ha=>S.sup a ((h a).mpr ha)
 pots:=S.pots
 pre:=S.pre
 mu:=S.mu
 slots:=fun i s e=>by
   have q:=S.slots i s e;cases s with
   | v x=>exact q
   | ow k xs =>
     obtain⟨a,vs,e1,h1,h2,h3,h4,r⟩:=q;exact⟨a,vs,e1,h1,fun z=>h2 ((h a).mpr z),h3,h4,r⟩
 inj:=S.inj
 p0:=⟨fun p hp=>(h p).mp (S.p0.1 p hp),S.p0.2⟩
 len:=S.len
 newp:=fun p hp h1 h2=>S.newp p hp h1 ((h p).mpr h2)
theorem DJ.unguard {C:Ct}{i:Nat}{a:Addr}{as:List Addr}{ks:List Key}{G:Gh}{σ:St}{H:Hp}{env:Env}{n:Nat}{xss:List (List PV)}{b:Addr}{us:List V}(j:DJ (C.guard b us) i a as ks G σ H env n xss)(hb:b∉C.M0)(hp0:∀p∈C.pots0,p∈C.M0)(h0:C.H0 b=none)(k:Nat)(hk:k≠i){xs:List PV}(r:Reps C.K G H xs us) :
   DJ C i a as ks G (σ.set k (some (.ref b))) H (env.set k (some (.ow .lst xs))) n xss:=by
 have ne:∀c∈a::as,c≠b:=fun c hc z=>(j.own c hc).2.1 (by rw [z];exact x0e);have bn:b∉a::as:=fun z=>ne b z rfl;have S:=j.sr
 have eH:(fun c=>if c∈a::as then H c else upd C.H0 b (.lst us) c)=upd (fun c=>if c∈a::as then H c else C.H0 c) b (.lst us):=by
   funext c
   by_cases hc:c∈a::as
   · rw [if_pos hc,a0e (ne c hc),if_pos hc]
   · rw [if_neg hc]
     by_cases hcb:c=b
     · rw [hcb,a0f,a0f]
     · rw [a0e hcb,a0e hcb,if_neg hc]
 have S1:SR ((C.plus (a::as) H).guard b us) G σ H env n:=by
   have:=S.m0 (M':=b::((a::as)++C.M0)) (fun c=>by
     show c∈(a::as)++b::C.M0↔c∈b::((a::as)++C.M0);generalize a::as=l;rw [x0y,x0i,x0i,x0y]
     exact or_left_comm)
   have e:(⟨C.K,C.T,b::((a::as)++C.M0),C.pots0,fun c=>if c∈a::as then H c else upd C.H0 b (.lst us) c,C.np⟩:Ct)=(C.plus (a::as) H).guard b us:=congrArg (fun h=>(⟨C.K,C.T,b::((a::as)++C.M0),C.pots0,h,C.np⟩:Ct)) eH;rw [<- e];exact this
 have bm:b∉(C.plus (a::as) H).M0:=fun z=>(x0y.mp z).elim bn hb;obtain⟨S2,e2,no⟩:=S1.unguard bm (fun p hp=>x0u _ (hp0 p hp)) (by rw [a2b bn];exact h0);have bM:b∈G.M:=S1.sup b x0e
 have bp:b∉G.pots:=fun z=>by
   by_cases hz:b∈C.pots0
   · exact hb (hp0 b hz)
   · exact S1.newp b z hz x0e
 have S3:=S2.slot k (s:=.ow .lst xs) (v:=.ref b) ⟨b,us,rfl,bM,bm,bp,e2,r⟩ (fun _ _ _ ev=>by cases ev;exact no);refine⟨by rw [x0o hk];exact j.loc,j.dic,j.lk,j.lx,j.nd,fun c hc=>⟨(j.own c hc).1,fun z=>(j.own c hc).2.1 (x0d _ z),?_⟩,j.inn,S3,hp0⟩;have:=(j.own c hc).2.2;have e3:upd C.H0 b (.lst us) c=none:=this;rw [a0e (ne c hc)] at e3;exact e3
theorem a6R {K:x0a}{G:Gh}{H:Hp}{a:Addr}{o:HO}{xs:List PV}{vs:List V}(r:Reps K G H xs vs)(h:H a=none):Reps K ⟨a::G.M,G.pots⟩ (upd H a o) xs vs:=
 Reps.mono (G':=⟨a::G.M,G.pots⟩) (H':=upd H a o) (fun b u _ e=>Same.lay1 h b u e) (fun c hc=>(x0i.mp (show c∈a::G.M from hc)).elim (fun z=>.inr (z▸h)) .inl) (fun _ _ e=>e) _ _ r
noncomputable def qDp (i j k:Nat)(pa pb:pA)(cs:List (Option Nat))(pi:pA)(pg:pG)(pk:pE)(pn:pA)(pd:pD)(ps:pS):pS:=fun D env n=>pa env n fun xs env1 n1=>pb env1 n1 fun ys env2 n2=>pi env2 n2 fun zs env3 n3=>zs.length<=1000/\k < env3.length/\klL pg pk pn zs [] [] (capV cs env3) n3 fun ks yss n4=>pd ks (fun env5 n5 yss2=>ps D (env5.set k (some (.v (.dct ks (yss2.map PV.lst))))) n5) (((env3.set k none).set j (some (.ow .lst ys))).set i (some (.ow .lst xs))) n4 yss
section
variable {T:PotK}{np:Bool}{ι:Type}{K:x0a}{F:ι->Cx}{pg:pG}{pos spos p1 pos1:Pos}{pk:pE}{pa pb pn:pA}{pd1 pd2:pD}{ps:pS}{a b:Expr}
theorem qss_dp (i j k:Nat){scope:Scope}{cl:ι->List (Str×Addr)}{N:List Str}{cs:List (Option Nat)}{kx vx tg iter:Expr}{x1 x2}{tp tq:Pos}{tt:Expr}{pi:pA}{st1 st2:Stmt}{rest:List Stmt}(S:∀z,a0L (F z) scope (cl z) N cs)(hc:∀z,(F z).calm=true)(g1:∀z,Gl (F z) "dict")(m1:∀z,(F z).mg "dict"=none)(hi:QI T K F tg iter pi)
   (hg:QG K (fun y:ι×List Addr×Addr×Shared×Hp=>a0o (F y.1) scope (cl y.1) N y.2.1 y.2.2.1 y.2.2.2.1 y.2.2.2.2) tg pg)
   (hk:QE T K (fun y:ι×List Addr×Addr×Shared×Hp=>a0o (F y.1) scope (cl y.1) N y.2.1 y.2.2.1 y.2.2.2.1 y.2.2.2.2) kx pk)
   (hv:QN T K (fun y:ι×List Addr×Addr×Shared×Hp=>a0o (F y.1) scope (cl y.1) N y.2.1 y.2.2.1 y.2.2.2.1 y.2.2.2.2) vx pn)
   (h:∀z te g,EW (F z) (.Tuple [a,b,.Call (.Name "dict" p1) [.ListComp (.Tuple [kx,vx] x1 tp) [⟨tg,iter,[],0⟩] scope pos] [] pos1] x2 tq) te->GW (F z) tt g->SW (F z) (.Assign [tt] (.Tuple [a,b,.Call (.Name "dict" p1) [.ListComp (.Tuple [kx,vx] x1 tp) [⟨tg,iter,[],0⟩] scope pos] [] pos1] x2 tq) spos) (tAsg te g)) (ht:∀z,GW (F z) tt (gTup K 3 (a3C [i,j,k]))) (ha:QN T K F a pa) (hb:QN T K F b pb) (hd1:QD T K F k st1 pd1) (hd2:QD T K F k st2 pd2) (hr:QSs T np K F rest ps)
   (hij:i≠j:=by decide) (hik:i≠k:=by decide) (hjk:j≠k:=by decide) (n1:a0u a=true:=by rfl) (n2:a0u b=true:=by rfl) (k1:a0u kx=true:=by rfl) (k2:a0u vx=true:=by rfl)
   (hs:∀z x,x0U iter (F z).env x=pure x:=by intro _ _;rfl):QSs T np K F (.Assign [tt] (.Tuple [a,b,.Call (.Name "dict" p1) [.ListComp (.Tuple [kx,vx] x1 tp) [⟨tg,iter,[],0⟩] scope pos] [] pos1] x2 tq) spos::st1::st2::rest) (qDp i j k pa pb cs pi pg pk pn (a2v pd1 pd2) ps):=by
 obtain⟨ta,a1,a2⟩:=ha;obtain⟨tb,b1,b2⟩:=hb;obtain⟨wi,i1,i2⟩:=hi;obtain⟨g,hg0,hg⟩:=hg;obtain⟨tk,hk0,hk⟩:=hk;obtain⟨tv,hv0,hv⟩:=hv;obtain⟨td1,d1,d2⟩:=hd1;obtain⟨td2,e1,e2⟩:=hd2;obtain⟨tr,r1,r2⟩:=hr;refine⟨_,fun z=>a0J (h z _ _ ⟨a4Q (a0n (a1 z) (a0n (b1 z) (a0n (b2R (hc z) (g1 z) (m1 z) (a0n (a7f (S z) (hc z) (i1 z) (fun fp C s H=>⟨hg0 (z,fp,C,s,H),a7d,a4Q (a0n (hk0 (z,fp,C,s,H)) (a0n (hv0 (z,fp,C,s,H)) a0C (a0d k2)) (a0d k1))⟩) (hs z)) a0C (a0d rfl)) (a0d rfl)) a0C (a0d rfl)) (a0d n2)) (a0d n1))⟩ (ht z)).h (a0J (d1 z) (a0J (e1 z) (r1 z))),fun C G σ H env n PD DD hK hT hn S hp L=>?_⟩;refine a2 C G σ H env n _ _ hK hT S hp fun xs env1 n1 a0 vs0 Hb0 q1 S1 f1 hn0 rs0=>?_;have S1g:=S1.guard vs0 hn0;have z0:a0∉C.M0:=fun z=>S1.fresh hn0 (S1.sup a0 z);have y0:=S1.old hn0;refine b2 (C.guard a0 vs0) ⟨a0::G.M,G.pots⟩ σ (upd Hb0 a0 (.lst vs0)) env1 n1 _ _ hK hT S1g q1 fun ys env2 n2 b0 vs1 Hb1 q2 S2 f2 hn1 rs1=>?_;have S2g:=S2.guard vs1 hn1;have z1:b0∉(C.guard a0 vs0).M0:=fun z=>S2.fresh hn1 (S2.sup b0 z);have y1:=S2.old hn1;refine i2 ((C.guard a0 vs0).guard b0 vs1) ⟨b0::a0::G.M,G.pots⟩ σ (upd Hb1 b0 (.lst vs1)) env2 n2 _ _ hK hT S2g q2 fun zs env3 n3 J H3 p3 S3 f3 hJ=>?_;intro D0 hD0;obtain⟨pl,hkl,pc⟩:=p3;refine kp_ok (G:=⟨b0::a0::G.M,G.pots⟩) hg hk hv hJ pl hD0 (hT▸hK▸a4A S3 cs) pc fun ks yss n4 M as ws H4 rr hpots hmu las E=>?_
 refine⟨D0,ws,_,rfl,E.lst,E.pr,by rw [E.lw];exact las,fun l hl=>?_⟩;have E':=E.ke hl;generalize eH4:upd H4 l (.dK (a1s [] (ks.zip (as.map V.ref))))=H5 at E' ⊢;have sm:∀c o,H4 c=some o->H5 c=some o:=fun c o e=>by rw [<- eH4,a0e (fun z=>by rw [z,hl] at e;cases e)];exact e
 have hpt:∀p∈G.pots,p∈M:=fun p hp=>(E.mem p).mpr (.inr (.inr (S3.pots p hp).1))
 have hl3:H3 l=none:=by
   cases z:H3 l with
   | none=>rfl
   | some o =>
     by_cases hlp:l∈G.pots
     · obtain⟨o',e',_⟩:=hmu l (hpt l hlp);rw [hl] at e';cases e'
     · rw [E.keep l o hlp z] at hl;cases hl
 have J0:DJ ((C.guard a0 vs0).guard b0 vs1) k l as ks ⟨as++l::(b0::a0::G.M),G.pots⟩ (σ.set k (some (.ref l))) H5 (env3.set k none) n4 yss:=by
   refine dj_of S3 hkl hl3 (fun p hp=>?_) (fun c hc=>?_) (by rw [show((C.guard a0 vs0).guard b0 vs1).K=K from hK,show((C.guard a0 vs0).guard b0 vs1).T=T from hT];exact E')
   · rw [show((C.guard a0 vs0).guard b0 vs1).T=T from hT]
     have h3:=T.more (M':=as++l::(b0::a0::G.M)) (hpots p hp) fun c hc=>by
       rcases x0y.mp hc with z | z
       · exact .inl ((E.mem c).mpr (.inl z))
       · rcases x0i.mp z with z | z
         · exact .inr (by rw [z];exact hl)
         · exact .inl ((E.mem c).mpr (.inr (.inr z)))
     obtain⟨u,e,_⟩:=T.mu h3;exact T.keep h3 (by rw [e,sm p u e]) fun c u _ e=>sm c u e
   · rcases x0y.mp hc with z | z
     · obtain⟨o,e,m⟩:=hmu c ((E.mem c).mpr (.inl z));exact⟨o,sm c o e,m⟩
     · rcases x0i.mp z with z | z
       · rw [z,<- eH4];exact⟨_,a0f,trivial⟩
       · obtain⟨o,e,m⟩:=hmu c ((E.mem c).mpr (.inr (.inr z)));exact⟨o,sm c o e,m⟩
 have to5:∀{xs:List PV} {vs:List V},Reps C.K ⟨b0::a0::G.M,G.pots⟩ H3 xs vs->Reps C.K ⟨as++l::(b0::a0::G.M),G.pots⟩ H5 xs vs:=fun r=>Reps.mono (G:=⟨b0::a0::G.M,G.pots⟩) (G':=⟨as++l::(b0::a0::G.M),G.pots⟩) (fun b o hb e=>E'.keep b o (fun z=>hb (S3.pots b z).1) e) (fun c hc=>by
   rcases(E'.mem c).mp hc with z | z | z
   · exact .inr (E'.new c z)
   · exact .inr (by rw [z];exact hl3)
   · exact .inl z) (fun _ _ e=>e) _ _ r
 have rb:Reps C.K ⟨as++l::(b0::a0::G.M),G.pots⟩ H5 ys vs1:=to5 ((a6R (G:=⟨a0::G.M,G.pots⟩) (hK▸rs1) hn1).fr f3);have ra:Reps C.K ⟨as++l::(b0::a0::G.M),G.pots⟩ H5 xs vs0:=to5 ((a6R (G:=⟨a0::G.M,G.pots⟩) ((a6R (hK▸rs0) hn0).fr f2) hn1).fr f3);have J1:=J0.unguard z1 S2.p0.1 y1 j hjk rb;have J2:=J1.unguard z0 S1.p0.1 y0 i hik ra
 have eσ:((σ.set k (some (V.ref l))).set j (some (V.ref b0))).set i (some (V.ref a0))=((σ.set i (some (V.ref a0))).set j (some (V.ref b0))).set k (some (V.ref l)):=by
   rw [List.set_comm _ _ (Ne.symm hjk),List.set_comm _ _ (Ne.symm hik),List.set_comm _ _ (Ne.symm hij)]
 rw [eσ] at J2;refine⟨by show 3<=x0w;decide,fun p hn'=>⟨p,[.ref a0,.ref b0,.ref l],rfl,SqT.of a0f,rfl,a6r [i,j,k] _ rfl ?_⟩⟩;have sm2:Same H5 (upd H5 p (.tup [.ref a0,.ref b0,.ref l])):=Same.lay1 hn';have J3:=J2.step (J2.sr.same sm2) (Fr.of sm2) rfl;refine d2 C _ _ _ _ n4 l as ks yss _ _ hK hT J3 rr fun env6 n6 yss6 σ6 H6 q6 J6 f6=>?_;refine e2 C _ σ6 H6 env6 n6 l as ks yss6 _ _ hK hT J6 q6 fun env7 n7 yss7 σ7 H7 q7 J7 f7=>?_;have x3:Ext G H ⟨b0::a0::G.M,G.pots⟩ H3:=(((Ext.fr f1).trans (a2o hn0)).trans (Ext.fr f2)).trans ((a2o (G:=⟨a0::G.M,G.pots⟩) hn1).trans (Ext.fr f3));refine r2 C _ σ7 H7 _ n7 PD DD hK hT hn J7.freeze q7 (L.ext (x3.trans ⟨fun b o hb e=>?_,fun c hc=>?_,fun _ _ e=>e⟩))
 · refine f7 b o (fun z=>?_) (f6 b o (fun z=>?_) (sm2 b o (E'.keep b o (fun z=>hb (S3.pots b z).1) e)))
   all_goals
     rcases(E'.mem b).mp z with z | z | z
     · rw [E'.new b z] at e;cases e
     · rw [z,hl3] at e;cases e
     · exact hb z
 · obtain⟨h1,h2⟩:=x1c.mp hc;have h3:c∉l::as:=of_decide_eq_true h2;rcases(E'.mem c).mp h1 with z | z | z
   · exact absurd (x0d _ z) h3
   · exact absurd (by rw [z];exact x0e) h3
   · exact .inl z
end
end Pu
end
section
namespace Pu
open PySem PySem.Spec L2
section
variable {T:PotK}{np:Bool}{ι:Type}{K:x0a}{F:ι->Cx}{e c a b ea eb:Expr}{pe pa pb pi pj:pE}{pt:pT}{pos:Pos}{st:Stmt}{i:Nat}{p1 p2:pD}
noncomputable def qdIf (pt:pT)(p1 p2:pD):pD:=fun ks R env n xss=>pt env n fun b env1 n1=>if b=true then p1 ks R env1 n1 xss else p2 ks R env1 n1 xss
theorem qd_if {x y:List Stmt}(hc:QT T K F c pt)(h1:QDs T K F i x p1)(h2:QDs T K F i y p2):QD T K F i (.If c x y pos) (qdIf pt p1 p2):=by
 obtain⟨tc,c1,c2⟩:=hc;obtain⟨t,a1,a2⟩:=h1;obtain⟨u,b1,b2⟩:=h2;refine⟨_,fun z=>b2H (c1 z) (a1 z) (b1 z),fun C G σ H env n a as ks xss R D hK hT J hp k=>?_⟩;refine c2 (C.plus (a::as) H) G σ H env n _ _ hK hT J.sr hp fun d env1 n1 H1 q1 S1 f1=>?_;have J1:=J.step S1 f1 rfl;cases d with
 | true=>exact a2 C G σ H1 env1 n1 a as ks xss R D hK hT J1 q1 fun env2 n2 xss2 σ2 H2 q2 J2 f2=>k _ _ _ _ _ q2 J2 (f1.trans f2)
 | false=>exact b2 C G σ H1 env1 n1 a as ks xss R D hK hT J1 q1 fun env2 n2 xss2 σ2 H2 q2 J2 f2=>k _ _ _ _ _ q2 J2 (f1.trans f2)
noncomputable def a5Y (pe:pE):pD:=fun ks R env n xss=>pe env n fun _ env1 n1=>R env1 n1 xss
theorem a6W (h:∀z te,EW (F z) e te->SW (F z) st (a8z te))(he:QE T K F e pe):QD T K F i st (a5Y pe):=by
 obtain⟨t,a1,a2⟩:=he;refine⟨_,fun z=>(h z _ ⟨a1 z⟩).h,fun C G σ H env n a as ks xss R D hK hT J hp k=>?_⟩;exact a2 (C.plus (a::as) H) G σ H env n _ _ hK hT J.sr hp fun x env1 n1 v H1 q1 S1 r1 f1=>k _ _ _ _ _ q1 (J.step S1 f1 rfl) f1
noncomputable def b5e (j l:Nat)(pa pb:pE):pD:=fun ks R env n xss=>pa env n fun x env1 n1=>pb env1 n1 fun y env2 n2=>R ((env2.set j (some (.v x))).set l (some (.v y))) n2 xss
theorem qd_par (j l:Nat)(h:∀z ta,AW (F z) [a,b] ta->SW (F z) st (tPar j l ta))(h1:QE T K F a pa)(h2:QE T K F b pb)(hj:j≠i:=by decide)(hl:l≠i:=by decide)(n1:a0u a=true:=by rfl)(n2:a0u b=true:=by rfl):QD T K F i st (b5e j l pa pb):=by
 obtain⟨t,a1,a2⟩:=h1;obtain⟨u,b1,b2⟩:=h2;refine⟨_,fun z=>(h z _ ⟨a0n (a1 z) (a0n (b1 z) a0C (a0d n2)) (a0d n1)⟩).h,fun C G σ H env n a as ks xss R D hK hT J hp k=>?_⟩;refine a2 (C.plus (a::as) H) G σ H env n _ _ hK hT J.sr hp fun x env1 n1 v H1 q1 S1 r1 f1=>?_;have J1:=J.step S1 f1 rfl;refine b2 (C.plus (a::as) H1) G σ H1 env1 n1 _ _ hK hT J1.sr q1 fun y env2 n2 w H2 q2 S2 r2 f2=>?_;have J2:=J1.step S2 f2 rfl;subst hK;refine⟨v,w,rfl,k _ _ _ _ _ q2 (J2.step ((J2.sr.set j (r1.fr f2)).set l r2) Fr.refl ?_) (f1.trans f2)⟩;rw [x0o hl,x0o hj]
noncomputable def b0g (m:Nat)(pa pb pi pj:pE):pD:=fun ks R env n xss=>pa env n fun x env1 n1=>pb env1 n1 fun y env2 n2=>(∃xs,env2[m]?=some (some (.ow .lst xs)))/\gAt m pi x env2 n2 fun env3 n3=>gAt m pj y env3 n3 fun env4 n4=>R env4 n4 xss
theorem b5d (m:Nat){tg:Expr}{k:Nat}{p:Pos}(h:∀z te g,EW (F z) (.Tuple [a,b] k p) te->GW (F z) tg g->SW (F z) st (tAsg te g))(hg:∀z ti tj,EW (F z) ea ti->EW (F z) eb tj->GW (F z) tg (gTup K 2 (a2X (gSub (tVar m) ti a6T) (a2X (gSub (tVar m) tj a6T) gNil))))(h1:QE T K F a pa)(h2:QE T K F b pb)(h3:QE T K F ea pi)(h4:QE T K F eb pj)(n1:a0u a=true:=by rfl)(n2:a0u b=true:=by rfl):QD T K F i st (b0g m pa pb pi pj):=by
 obtain⟨t,a1,a2⟩:=h1;obtain⟨u,b1,b2⟩:=h2;obtain⟨ti,i1,i2⟩:=h3;obtain⟨tj,j1,j2⟩:=h4;refine⟨_,fun z=>(h z _ _ ⟨a4Q (a0n (a1 z) (a0n (b1 z) a0C (a0d n2)) (a0d n1))⟩ (hg z _ _ ⟨i1 z⟩ ⟨j1 z⟩)).h,fun C G σ H env n A as ks xss R D hK hT J hp kk=>?_⟩;have fin:∀(H':Hp) (env':Env) (n':Nat),SR (C.plus (A::as) H) G σ H' env' n'->Fr G H H'->R env' n' xss->D.nx σ H':=fun H' env' n' S f q=>kk _ _ _ _ _ q (J.step S f rfl) f;have JS:=J.sr;have hK':(C.plus (A::as) H).K=K:=hK;have hT':(C.plus (A::as) H).T=T:=hT;generalize C.plus (A::as) H=C' at JS fin hK' hT';refine a2 C' G σ H env n _ _ hK' hT' JS hp fun x env1 n1 v H1 q1 S1 r1 f1=>?_;refine b2 C' G σ H1 env1 n1 _ _ hK' hT' S1 q1 fun y env2 n2 w H2 q2 S2 r2 f2=>?_;obtain⟨⟨xs0,e0⟩,q2⟩:=q2;refine⟨by show 2<=x0w;decide,fun p hn'=>⟨p,[v,w],rfl,SqT.of a0f,rfl,v,[w],rfl,?_⟩⟩;have sm:Same H2 (upd H2 p (.tup [v,w])):=Same.lay1 hn';generalize upd H2 p (.tup [v,w])=H3 at sm ⊢;have S3:=S2.same sm;obtain⟨a,vs,ev,h1,h2,h3,h4,r⟩:=S3.slots m _ e0;refine⟨.ref a,ev,?_⟩;refine i2 C' G σ H3 env2 n2 _ _ hK' hT' S3 q2 fun d env3 n3 ud H4 q3 S4 r4 f4=>?_
 split at q3
 · rename_i xs d ex
   split at q3
   · rename_i jj ej;obtain⟨a',us,ev',g1,g2,g3,g4,r'⟩:=S4.slots m _ ex;rw [ev] at ev';cases ev';subst hK';obtain⟨S5,f5⟩:=S4.put ex ev (r'.set jj (((r1.fr f2).same sm).fr f4));refine⟨a,us,d,jj,rfl,r4,g4,by rw [<- r'.length];exact ej,?_⟩;refine⟨w,[],rfl,.ref a,ev,?_⟩;refine j2 C' G σ _ _ n3 _ _ rfl hT' S5 q3 fun d2 env5 n5 ud2 H5 q5 S6 r6 f6=>?_
     split at q5
     · rename_i xs2 d2 ex2
       split at q5
       · rename_i jj2 ej2;obtain⟨a',us2,ev',k1,k2,k3,k4,r7⟩:=S6.slots m _ ex2;rw [ev] at ev';cases ev';obtain⟨S7,f7⟩:=S6.put ex2 ev (r7.set jj2 ((((r2.same sm).fr f4).fr f5).fr f6));exact⟨a,us2,d2,jj2,rfl,r6,k4,by rw [<- r7.length];exact ej2,rfl,fin _ _ _ S7 ((((((f1.trans f2).trans (Fr.of sm)).trans f4).trans f5).trans f6).trans f7) q5⟩
       · exact q5.elim
     · exact q5.elim
   · exact q3.elim
 · exact q3.elim
end
end Pu
end
section
namespace Tb
open PySem L2 Pu
noncomputable abbrev a0v:pF:=a3E
noncomputable abbrev lamP:PySem.Pos:=⟨73,48,73,88⟩
noncomputable abbrev lamQ:PySem.Str:=x0g "order_of.<locals>.<lambda>"
noncomputable def a2f:pS:=(qSeq (qPar 2 3 (sV (qC (.str (x0g "abcdefghijklmnopqrstuvwxyz")))) (sV (qC (.str (x0g "")))))
   (qSeq (qSet 4 (qOp wIx (qL (qLst (a0c (qC (.int 1)) (a0c (qC (.int 3)) (a0c (qC (.int 5)) (a0c (qC (.int 7)) (a0c (qC (.int 9)) (a0c (qC (.int 11)) (a0c (qC (.int 15)) (a0c (qC (.int 17)) (a0c (qC (.int 19)) (a0c (qC (.int 21)) qNil)))))))))))) (a0y a0v (a0c (qV 0) (a0c (qC (.int 10)) qNil)))))
   (qSeq (qSet 5 (a0y a0v (a0c (qV 0) (a0c (qC (.int 26)) qNil))))
   (qSeq (qFor (b0h (qC (.int 7))) (gN 6) (qSet 3 (qOp wAdd (qV 3) (qOp wIx (qV 2) (a0y a0v (a0c (qV 0) (a0c (qC (.int 26)) qNil)))))))
   (qSeq (qSet 7 (a0y a0v (a0c (qV 0) (a0c (qC (.int 8)) qNil))))
   (qSeq (qOwn 8 (qLst qNil))
   (qSeq (qFor (b0h (qV 1)) (gN 6) (qSeq (qPar 9 10 (sV (qOp wAdd (qV 7) (a0y a0v (a0c (qV 0) (a0c (qOp wSub (qC (.int 8)) (qV 7)) qNil))))) (sV (qOp wIx (qV 2) (qOp wMod (qOp wAdd (qV 5) (qOp wMul (qV 4) (qV 6))) (qC (.int 26))))))
   (b2C (a5k 8 (qOp wAdd (qOp wAdd (qSl (qV 3) qNo (a2S (qV 7))) (qV 10)) (qSl (qV 3) (a2S (qV 7)) (a2S (qV 9))))))))
   (qSeq (qSet 11 (qOp wIx (qL (qLst (a0c (qC (.str (x0g "drop"))) (a0c (qC (.str (x0g "touch"))) (a0c (qC (.str (x0g "none"))) (a0c (qC (.str (x0g "d"))) (a0c (qC (.str (x0g "u"))) (a0c (qC (.str (x0g "t"))) (a0c (qC (.str (x0g "o"))) qNil))))))))) (a0y a0v (a0c (qV 0) (a0c (qC (.int 7)) qNil)))))
   (qSeq (qIfS (qAnd (qB (qOp (wIn 4 true) (qV 11) (qO 8))) (qB (qOp (wEq 4) (a0y a0v (a0c (qV 0) (a0c (qC (.int 3)) qNil))) (qC (.int 0))))) (qPut 8 (qV 11) (a0y a0v (a0c (qV 0) (a0c (qV 1) qNil)))) qNx)
   (qRet (qUn a1p (qO 8))))))))))))
noncomputable def a1A:pF:=fnP ["_law_draws","_law_many","_law_letters","_law_stem","_law_step","_law_first","_law_k","_law_at","_law_found","_law_far","_law_sign","_law_word"] ["_law_draws","_law_many"] a2f
noncomputable def a1P:pS:=(qDp 2 3 4 (b2B (qV 1)) (qLst qNil) [none] (qIt (qV 1)) (gN 0) (qV 0) (qLst qNil) (a2v (a8I 5 (qUn wLen (qV 1))) (a8J (a8K (qV 5)) (gN 6) (a2v (b5e 7 8 (qOpR wIx (qO 2) (qOp wMin (qOp wAdd (qV 6) (qC (.int 1))) (qOp wSub (qV 5) (qC (.int 1))))) (qOpR wIx (qO 2) (qV 6))) (a2v (a8I 9 (a0y a0v (a0c (qV 0) (a0c (qC (.int 5)) qNil)))) (qdIf (qB (qOp (wEq 4) (qV 6) (qOp wSub (qV 5) (qC (.int 1))))) (a2v (a5Y (a4e 3 (qC (.int 0)) (qOp wIx (qL (qLst (a0c (qTup qNil) (a0c (qTup (a0c (qTup (a0c (qC (.str (x0g "drop"))) (a0c (qV 8) qNil))) qNil)) qNil)))) (qOp wMod (qV 9) (qC (.int 2)))))) (a6X (qV 8) (qTup (a0c (qV 6) (a0c (qOp wIx (qL (qLst (a0c (qC (.str (x0g "o"))) (a0c (qC (.str (x0g "d"))) qNil)))) (qOp wMod (qV 9) (qC (.int 2)))) (a0c (qC .non) qNil)))))) (qdIf (qB (qOp wLt (qV 9) (qC (.int 2)))) (a2v (a5Y (a4e 3 (qC (.int 0)) (qTup (a0c (qTup (a0c (qC (.str (x0g "touch"))) (a0c (qV 7) (a0c (qV 8) qNil)))) qNil)))) (a2v (a6X (qV 7) (qTup (a0c (qV 6) (a0c (qC (.str (x0g "u"))) (a0c (qV 8) qNil))))) (a2v (a6X (qV 8) (qTup (a0c (qV 6) (a0c (qC (.str (x0g "t"))) (a0c (qV 7) qNil))))) (b0g 2 (qV 7) (qV 8) (qV 6) (qOp wAdd (qV 6) (qC (.int 1))))))) (a2v (a8I 10 (qOp wIx (qL (qLst (a0c (qL (qLst qNil)) (a0c (qL (qLst (a0c (qV 7) qNil))) (a0c (qL (a5i (qL (qLst (a0c (qV 7) (a0c (qV 8) qNil)))))) qNil))))) (qOp wSub (qV 9) (qC (.int 2))))) (a2v (a5Y (a4e 3 (qC (.int 0)) (qUn a1p (qL (a5j [none] (qIl (qV 10)) (gN 0) qTru (qTup (a0c (qC (.str (x0g "drop"))) (a0c (qV 0) qNil)))))))) (a8J (qIt (qTup (a0c (qV 7) (a0c (qV 8) qNil)))) (gN 11) (a6X (qV 11) (qTup (a0c (qV 6) (a0c (qOp wIx (qL (qLst (a0c (qC (.str (x0g "o"))) (a0c (qC (.str (x0g "d"))) qNil)))) (qUn wInt (qOp (wIn 4 false) (qV 11) (qV 10)))) (a0c (qC .non) qNil)))))))))))))) (qRet (qTup (a0c (qUn a1p (qO 3)) (a0c (qUn a1p (qO 2)) (a0c (qUn a1p (qL (a5j [none,some 4] (qIt (qV 1)) (gN 0) qTru (qTup (a0c (qV 0) (a0c (qUn a1p (qIxD (qV 1) (qV 0))) qNil)))))) qNil))))))
noncomputable def a1n:pF:=fnP ["_law_draws","_law_row","_law_now","_law_sheets_here","_law_kept","_law_many","_law_k","_law_low","_law_high","_law_way","_law_some","_law_boat"] ["_law_draws","_law_row"] a1P
noncomputable def a3i:pS:=(qSeq (qSet 2 (qOp wIx (qV 0) (qC (.int 0))))
   (qRet (qOp b4I (qOp wSub (qOp wAdd (qV 1) (qV 2)) (qC (.int 1))) (qV 2))))
noncomputable def a1o:pF:=fnP ["meeting","n","size"] ["meeting","n"] a3i
noncomputable def a3o:pS:=(qRet (qL (b0i [none,none] (qIt (qV 0)) (gN 0) (qIt (qSl (qV 0) (a2S (qC (.int 1))) qNo)) (gN 1) qTru (qV 1))))
noncomputable def a0P:pF:=fnP ["events"] ["events"] a3o
noncomputable def a1O:pS:=(qSeq (qSet 2 (a0y a0P (a0c (qV 1) qNil)))
   (qSeq (qFor (qIl (qV 2)) (gN 3) (qSeq (qIfS (qB (qOp (wIn 4 true) (qV 3) (qV 0))) (qRet (qTup (a0c (qC (.str (x0g "strange"))) (a0c (qV 3) qNil)))) qNx)
   (qIfS (qB (qOp wGt (b4c (qV 2) (qV 3)) (qC (.int 1)))) (qRet (qTup (a0c (qC (.str (x0g "twice"))) (a0c (qV 3) qNil)))) qNx)))
   (qRet (qC .non))))
noncomputable def a1c:pF:=fnP ["start","sheet","boats","boat"] ["start","sheet"] a1O
noncomputable def a2d:pS:=(qRet (qL (a5j [none] (qIt (qV 0)) (gN 0) (qB (qOp (wEq 4) (qOp wIx (qV 0) (qC (.int 0))) (qC (.str (x0g "touch"))))) (qV 0))))
noncomputable def a0x:pF:=fnP ["events"] ["events"] a2d
noncomputable def a3l:pS:=(qRet (qOp wGt (a3y (qV 0) (qOp wIx (qV 1) (qC (.int 2)))) (a3y (qV 0) (qOp wIx (qV 1) (qC (.int 1))))))
noncomputable def a2s:pF:=fnP ["start","touch"] ["start","touch"] a3l
noncomputable def a4j:pS:=(qSeq (qAsg (qL (a5i (qL (qLst (a0c (a3y (qV 0) (qOp wIx (qV 1) (qC (.int 1)))) (a0c (a3y (qV 0) (qOp wIx (qV 1) (qC (.int 2)))) qNil)))))) (gTl 2 (gCn (gN 2) (gCn (gN 3) gNl))))
   (qRet (qSl (qV 0) (a2S (qOp wAdd (qV 2) (qC (.int 1)))) (a2S (qV 3)))))
noncomputable def a0D:pF:=fnP ["start","touch","low","high"] ["start","touch"] a4j
noncomputable def a5o:pS:=(qRet (qOp wGt (qUn wLen (a0y a0D (a0c (qV 0) (a0c (qV 2) qNil)))) (qV 1)))
noncomputable def a3Q:pF:=fnP ["start","reach","touch"] ["start","reach","touch"] a5o
noncomputable def a1C:pS:=(qSeq (qIfS (qB (a0y a2s (a0c (qV 0) (a0c (qV 3) qNil)))) (qRet (qTup (a0c (qC (.str (x0g "wrong"))) (a0c (qV 3) qNil)))) qNx)
   (qSeq (qIfS (qB (a0y a3Q (a0c (qV 0) (a0c (qV 1) (a0c (qV 3) qNil))))) (qRet (qTup (a0c (qC (.str (x0g "far"))) (a0c (qV 3) qNil)))) qNx)
   (qSeq (qSet 4 (a0y a0P (a0c (qV 2) qNil)))
   (qSeq (qFor (qIt (a0y a0D (a0c (qV 0) (a0c (qV 3) qNil)))) (gN 5) (qIfS (qB (qOp (wIn 4 true) (qV 5) (qV 4))) (qRet (qTup (a0c (qC (.str (x0g "stays"))) (a0c (qV 3) (a0c (qV 5) qNil))))) qNx))
   (qRet (qC .non))))))
noncomputable def a0S:pF:=fnP ["start","reach","sheet","touch","boats","boat"] ["start","reach","sheet","touch"] a1C
noncomputable def a3m:pS:=(qSeq (qIfS (qB (qOp (wNe 4) (qUn a2J (a0y a0P (a0c (qTup (a0c (qV 1) (a0c (qV 2) qNil))) qNil))) (qC (.int 4)))) (qRet (qC (.bl false))) qNx)
   (qSeq (qSet 3 (a0y a0D (a0c (qV 0) (a0c (qV 1) qNil))))
   (qRet (qOp (wNe 4) (qOp (wIn 4 false) (qOp wIx (qV 2) (qC (.int 1))) (qV 3)) (qOp (wIn 4 false) (qOp wIx (qV 2) (qC (.int 2))) (qV 3))))))
noncomputable def a1I:pF:=fnP ["start","one","other","inner"] ["start","one","other"] a3m
noncomputable def a1D:pS:=(qSeq (qFor (qIl (qV 2)) (gN 3) (qIfS (qB (a0y a1I (a0c (qV 0) (a0c (qV 1) (a0c (qV 3) qNil))))) (qRet (qTup (a0c (qC (.str (x0g "cross"))) (a0c (qV 1) (a0c (qV 3) qNil))))) qNx))
   (qRet (qC .non)))
noncomputable def a0T:pF:=fnP ["start","touch","touches","other"] ["start","touch","touches"] a1D
noncomputable def a2B:pS:=(qSeq (qSet 3 (a0y a1c (a0c (qV 0) (a0c (qV 2) qNil))))
   (qSeq (qIfS (qB (qOp a6J (qV 3) (qC .non))) (qRet (qV 3)) qNx)
   (qSeq (qSet 4 (a0y a0x (a0c (qV 2) qNil)))
   (qSeq (qFor (qIl (qV 4)) (gN 5) (qSeq (qSet 3 (qOrT (a0y a0S (a0c (qV 0) (a0c (qV 1) (a0c (qV 2) (a0c (qV 5) qNil))))) (a0y a0T (a0c (qV 0) (a0c (qV 5) (a0c (qV 4) qNil))))))
   (qIfS (qB (qOp a6J (qV 3) (qC .non))) (qRet (qV 3)) qNx)))
   (qRet (qC .non))))))
noncomputable def a1v:pF:=fnP ["start","reach","sheet","reason","touches","touch"] ["start","reach","sheet"] a2B
noncomputable def a3j:pS:=(qSeq (qSet 3 (a0y a1v (a0c (qV 0) (a0c (qV 1) (a0c (qV 2) qNil)))))
   (qSeq (qIfS (qB (qOp a6J (qV 3) (qC .non))) (qRet (qTup (a0c (qC (.str (x0g "unsound"))) (a0c (qV 3) qNil)))) qNx)
   (qSeq (qSet 4 (qL (a5j [none] (qIt (qV 2)) (gN 0) (qB (qOp (wEq 4) (qOp wIx (qV 0) (qC (.int 0))) (qC (.str (x0g "drop"))))) (qV 0))))
   (qSeq (qSet 5 (qL (a7V 0 (a0y a0x (a0c (qV 2) qNil)) (qUn wLen (a0y a0D (a0c (qV 1) (a0c (qV 0) qNil)))))))
   (qRet (qTup (a0c (qC (.str (x0g "course"))) (a0c (qUn a1p (qL (qCat (qV 4) (qV 5)))) qNil))))))))
noncomputable def a2q:pF:=fnP ["start","reach","sheet","reason","drops","inner_first"] ["start","reach","sheet"] a3j
noncomputable def b0q:pS:=(qSeq (qSet 3 (qOp wIx (qV 0) (qC (.int 0))))
   (qSeq (qSet 4 (qOp wMul (qV 2) (qV 3)))
   (qRet (qTup (a0c (qV 4) (a0c (qOp wMin (qOp wAdd (qV 4) (qV 3)) (qOp wSub (qV 1) (qC (.int 1)))) qNil))))))
noncomputable def a4X:pF:=fnP ["meeting","n","k","size","first"] ["meeting","n","k"] b0q
noncomputable def a5n:pS:=(qSeq (qAsg (a0y a4X (a0c (qV 0) (a0c (qUn wLen (qV 1)) (a0c (qV 2) qNil)))) (gTp 2 (gCn (gN 4) (gCn (gN 5) gNl))))
   (qRet (qOp wAdd (qOp wAdd (qSl (qV 1) qNo (a2S (qV 4))) (qV 3)) (qSl (qV 1) (a2S (qOp wAdd (qV 5) (qC (.int 1)))) qNo))))
noncomputable def a3P:pF:=fnP ["meeting","row","k","boats","first","last"] ["meeting","row","k","boats"] a5n
noncomputable def a2D:pS:=(qSeq (qOwn 3 (b2B (qV 0)))
   (qSeq (b5g 3 (qOp wIx (qV 0) (qV 2)) (qOp wIx (qV 0) (qV 1)) (qV 1) (qV 2))
   (qRet (qUn a1p (qO 3)))))
noncomputable def a1T:pF:=fnP ["row","one","other","boats"] ["row","one","other"] a2D
noncomputable def a2e:pS:=(qSeq (qSet 2 (qV 0))
   (qSeq (qFor (qIl (a0y a0x (a0c (qV 1) qNil))) (gN 3) (qSet 2 (a0y a1T (a0c (qV 2) (a0c (a3y (qV 0) (qOp wIx (qV 3) (qC (.int 1)))) (a0c (a3y (qV 0) (qOp wIx (qV 3) (qC (.int 2)))) qNil))))))
   (qRet (qV 2))))
noncomputable def a1z:pF:=fnP ["start","sheet","row","touch"] ["start","sheet"] a2e
noncomputable def a3h:pS:=(qSeq (qAsg (a0y a4X (a0c (qV 0) (a0c (qUn wLen (qV 1)) (a0c (qV 2) qNil)))) (gTp 2 (gCn (gN 3) (gCn (gN 4) gNl))))
   (qRet (qSl (qV 1) (a2S (qV 3)) (a2S (qOp wAdd (qV 4) (qC (.int 1)))))))
noncomputable def a0X:pF:=fnP ["meeting","row","k","first","last"] ["meeting","row","k"] a3h
noncomputable def a7h:pS:=(qRet (a0y a3P (a0c (qV 0) (a0c (qV 1) (a0c (qV 2) (a0c (a0y a1z (a0c (a0y a0X (a0c (qV 0) (a0c (qV 1) (a0c (qV 2) qNil)))) (a0c (qV 3) qNil))) qNil))))))
noncomputable def a3u:pF:=fnP ["meeting","row","k","sheet"] ["meeting","row","k","sheet"] a7h
noncomputable def a1y:pS:=(qSeq (qSet 3 (a0y a1o (a0c (qV 0) (a0c (qUn wLen (qV 1)) qNil))))
   (qSeq (qIfS (qB (qOp (wNe 4) (qUn wLen (qV 2)) (qV 3))) (qRet (qTup (a0c (qC (.str (x0g "unsound"))) (a0c (qC .non) (a0c (qTup (a0c (qC (.str (x0g "races"))) (a0c (qV 3) qNil))) qNil))))) qNx)
   (qSeq (qSet 4 (qV 1))
   (qSeq (qFor (a8K (qV 3)) (gN 5) (qSeq (qAsg (a0y a2q (a0c (a0y a0X (a0c (qV 0) (a0c (qV 4) (a0c (qV 5) qNil)))) (a0c (qOp wIx (qV 0) (qC (.int 1))) (a0c (qOp wIx (qV 2) (qV 5)) qNil)))) (gTp 2 (gCn (gN 6) (gCn (gN 7) gNl))))
   (qSeq (qIfS (qB (qOp (wEq 4) (qV 6) (qC (.str (x0g "unsound"))))) (qRet (qTup (a0c (qC (.str (x0g "unsound"))) (a0c (qV 5) (a0c (qV 7) qNil))))) qNx)
   (qSet 4 (a0y a3u (a0c (qV 0) (a0c (qV 4) (a0c (qV 5) (a0c (qOp wIx (qV 2) (qV 5)) qNil)))))))))
   (qRet (qTup (a0c (qC (.str (x0g "row"))) (a0c (qV 4) qNil))))))))
noncomputable def a0Y:pF:=fnP ["meeting","row","day","many","stands","k","word","told"] ["meeting","row","day"] a1y
noncomputable def a2A:pS:=(qSeq (qOwn 3 (qLst qNil))
   (qSeq (qSet 4 (qV 1))
   (qSeq (qFor (a8K (qUn wLen (qV 2))) (gN 5) (qSeq (b2C (a5k 3 (a0y a0X (a0c (qV 0) (a0c (qV 4) (a0c (qV 5) qNil))))))
   (qSet 4 (a0y a3u (a0c (qV 0) (a0c (qV 4) (a0c (qV 5) (a0c (qOp wIx (qV 2) (qV 5)) qNil))))))))
   (qRet (qUn a1p (qUn wRev (qO 3)))))))
noncomputable def a1u:pF:=fnP ["meeting","row","day","starts","stands","k"] ["meeting","row","day"] a2A
noncomputable def a2C:pS:=(qSeq (b2A 1)
   (qSeq (qFor (qIl (a0y a0x (a0c (qV 0) qNil))) (gN 2) (qSeq (a4f 1 (qOp wIx (qV 2) (qC (.int 1))) (qOp wIx (qV 2) (qC (.int 2))))
   (a4f 1 (qOp wIx (qV 2) (qC (.int 2))) (qOp wIx (qV 2) (qC (.int 1))))))
   (b2z 1)))
noncomputable def a1S:pF:=fnP ["sheet","others","touch"] ["sheet"] a2C
noncomputable def a3k:pS:=(qSeq (b2A 2)
   (qSeq (qFor (qIt (qV 1)) (gN 3) (qIfS (qB (qOp (wEq 4) (qOp wIx (qV 3) (qC (.int 0))) (qC (.str (x0g "drop"))))) (a4f 2 (qOp wIx (qV 3) (qC (.int 1))) (qC (.str (x0g "d")))) (qSeq (a4f 2 (qOp wIx (qV 3) (qC (.int 1))) (qC (.str (x0g "u"))))
   (a4f 2 (qOp wIx (qV 3) (qC (.int 2))) (qC (.str (x0g "t")))))))
   (a3M 2 (qRet (qUn a1p (qL (a5j [none,some 2] (qIt (qV 0)) (gN 0) qTru (b5h (qV 1) (qV 0) (qC (.str (x0g "o")))))))))))
noncomputable def a2r:pF:=fnP ["start","sheet","marks","event"] ["start","sheet"] a3k
noncomputable def a3n:pS:=(qSeq (qSet 3 (a0y a1u (a0c (qV 0) (a0c (qV 1) (a0c (qV 2) qNil)))))
   (qDl 4 [none] (qIt (qV 1)) (gN 0) (qV 0) (qLst qNil) (a8J (a8K (qUn wLen (qV 2))) (gN 5) (a2v (a8I 6 (a0y a1S (a0c (qOp wIx (qV 2) (qV 5)) qNil))) (a8J (qZip false false (qOp wIx (qV 3) (qV 5)) (a0y a2r (a0c (qOp wIx (qV 3) (qV 5)) (a0c (qOp wIx (qV 2) (qV 5)) qNil)))) (gTp 2 (gCn (gN 7) (gCn (gN 8) gNl))) (a6X (qV 7) (qTup (a0c (qV 5) (a0c (qV 8) (a0c (b5i (qV 6) (qV 7)) qNil)))))))) (qRet (qUn a1p (qL (a5j [none,some 4] (qIt (qV 1)) (gN 0) qTru (qTup (a0c (qV 0) (a0c (qUn a1p (qIxD (qV 1) (qV 0))) qNil)))))))))
noncomputable def a2t:pF:=fnP ["meeting","row","day","starts","deeds","k","others","boat","mark"] ["meeting","row","day"] a3n
noncomputable def b2W:pS:=(qSeq (a4d 1 (qV 0))
   (qSeq (qFor (b0h (qC (.int 2))) (gN 2) (qSeq (qSet 3 (a0y a1A (a0c (qV 1) (a0c (qOp wIx (qL (qLst (a0c (qOp wAdd (qC (.int 1)) (a0y a0v (a0c (qV 1) (a0c (qC (.int 24)) qNil)))) (a0c (qOp wAdd (qC (.int 1)) (a0y a0v (a0c (qV 1) (a0c (qC (.int 5)) qNil)))) qNil)))) (a0y a0v (a0c (qV 1) (a0c (qC (.int 2)) qNil)))) qNil))))
   (qSeq (qSet 4 (qTup (a0c (qC (.int 1)) (a0c (a0y a0v (a0c (qV 1) (a0c (qC (.int 8)) qNil))) qNil))))
   (qSeq (qAsg (a0y a1n (a0c (qV 1) (a0c (qV 3) qNil))) (gTp 3 (gCn (gN 5) (gCn (gN 6) (gCn (gN 7) gNl)))))
   (qSeq (qIfS (qB (qOp (wNe 4) (qUn a4C (a0y a0Y (a0c (qV 4) (a0c (qV 3) (a0c (qV 5) qNil))))) (qUn a4C (qTup (a0c (qC (.str (x0g "row"))) (a0c (qV 6) qNil)))))) (qRet (qC (.bl false))) qNx)
   (qSeq (qIfS (qB (qOp (wNe 4) (qUn a4C (a0y a2t (a0c (qV 4) (a0c (qV 3) (a0c (qV 5) qNil))))) (qUn a4C (qV 7)))) (qRet (qC (.bl false))) qNx)
   (qSeq (qSet 8 (qTup (a0c (qC (.str (x0g "unsound"))) (a0c (qC .non) (a0c (qTup (a0c (qC (.str (x0g "races"))) (a0c (qUn wLen (qV 3)) qNil))) qNil)))))
   (qFor (qIt (qTup (a0c (qSl (qV 5) qNo (a2S (qUn wNeg (qC (.int 1))))) (a0c (qOp wAdd (qV 5) (qTup (a0c (qTup qNil) qNil))) qNil)))) (gN 9) (qIfS (qAnd (qB (a7W wLe wLe (qC (.int 1)) (qUn wLen (qV 9)) (qC (.int 24)))) (qB (qOp (wNe 4) (qUn a4C (a0y a0Y (a0c (qV 4) (a0c (qV 3) (a0c (qV 9) qNil))))) (qUn a4C (qV 8))))) (qRet (qC (.bl false))) qNx)))))))))
   (qRet (qC (.bl true)))))
end Tb
end
section
namespace Tb
open PySem L2 Pu
noncomputable def top (i:Nat):Stmt:=PySem.Challenge.pw_touchboats_k24_days_of_one_boat_a_divisi.main.body.getD i (.Pass ⟨0,0,0,0⟩)
section
variable {P:x0D}{w:World}{K:x0a}{mg:Str->Option Value}{base:Heap}{Pt cd:Addr}
theorem a6o (F0:Fn0 K mg "_law_names" (top 31))(g__law_next:Kn P w K mg base "_law_next" 1 ["_law_draws","_law_many"] (a0k K (tabK potD Pt lamP lamQ) a3E))(m_range:mg "range"=none)(m_tuple:mg "tuple"=none):Kn P w K mg base "_law_names" 2 ["_law_draws","_law_many"] (a0k K (tabK potD Pt lamP lamQ) a1A):=by
 have sc:a0q ["_law_draws","_law_many","_law_letters","_law_stem","_law_step","_law_first","_law_k","_law_at","_law_found","_law_far","_law_sign","_law_word"] ["_law_draws","_law_many"] (a0i (top 31)):=⟨rfl,rfl,rfl,by decide +kernel,rfl,by decide +kernel,by decide +kernel⟩
 exact a1m F0 sc (fun _ _ _ _ _ _=>bd2 fun _ _=>rfl) (k:=1) (body:=a2f) (fun f cdv A outer s H E hr=>(a0g (b4Y 2 3 (fun _=>a2w) (fun _=>gw_two K 2 3 rfl (a0m 2 sc.nd rfl (Or.inl rfl)) (a0m 3 sc.nd rfl (Or.inl rfl))) (ql_v a0s) (ql_v a0s))
   (a0g (a0F 4 (fun _=>a0w (i:=4) sc.nd rfl (Or.inl rfl)) (a0I (QN.ee (a1j (a0a a0l (a0a a0l (a0a a0l (a0a a0l (a0a a0l (a0a a0l (a0a a0l (a0a a0l (a0a a0l (a0a a0l a0h)))))))))))) (a0B (fun _=>g__law_next) (fun _=>hr) (by decide) (fun _=>rfl) (a0a (a0b 0 fun _=>vw 0) (a0a a0l a0h)))))
   (a0g (a0F 5 (fun _=>a0w (i:=5) sc.nd rfl (Or.inl rfl)) (a0B (fun _=>g__law_next) (fun _=>hr) (by decide) (fun _=>rfl) (a0a (a0b 0 fun _=>vw 0) (a0a a0l a0h))))
   (a0g (a1F (fun _=>rfl) (a4a (fun _=>rfl) (fun _=>m_range) a0l) (a0r fun _=>a0m 6 sc.nd rfl (Or.inl rfl)) (a0j (a0F 3 (fun _=>a0w (i:=3) sc.nd rfl (Or.inl rfl)) (a1h (a0b 3 fun _=>vw 3) (a0I (a0b 2 fun _=>vw 2) (a0B (fun _=>g__law_next) (fun _=>hr) (by decide) (fun _=>rfl) (a0a (a0b 0 fun _=>vw 0) (a0a a0l a0h))))))))
   (a0g (a0F 7 (fun _=>a0w (i:=7) sc.nd rfl (Or.inl rfl)) (a0B (fun _=>g__law_next) (fun _=>hr) (by decide) (fun _=>rfl) (a0a (a0b 0 fun _=>vw 0) (a0a a0l a0h))))
   (a0g (a9Y 8 (fun _=>a0w (i:=8) sc.nd rfl (Or.inl rfl)) (a1j a0h))
   (a0g (a1F (fun _=>rfl) (a4a (fun _=>rfl) (fun _=>m_range) (a0b 1 fun _=>vw 1)) (a0r fun _=>a0m 6 sc.nd rfl (Or.inl rfl)) (a0g (qs_par 9 10 (fun _=>b3P (i:=9) (j:=10) rfl sc.nd rfl rfl (by decide) rfl rfl rfl) (ql_v (a1h (a0b 7 fun _=>vw 7) (a0B (fun _=>g__law_next) (fun _=>hr) (by decide) (fun _=>rfl) (a0a (a0b 0 fun _=>vw 0) (a0a (a4O a0l (a0b 7 fun _=>vw 7)) a0h))))) (ql_v (a0I (a0b 2 fun _=>vw 2) (b0d (a1h (a0b 5 fun _=>vw 5) (b3W (a0b 4 fun _=>vw 4) (a0b 6 fun _=>vw 6))) a0l))))
   (a0j (a9Z (fun _=>a1B) (a5V 8 (fun _=>vw 8) (a1h (a1h (a5U (a0b 3 fun _=>vw 3) b0a (a1q (a0b 7 fun _=>vw 7))) (a0b 10 fun _=>vw 10)) (a5U (a0b 3 fun _=>vw 3) (a1q (a0b 7 fun _=>vw 7)) (a1q (a0b 9 fun _=>vw 9)))))))))
   (a0g (a0F 11 (fun _=>a0w (i:=11) sc.nd rfl (Or.inl rfl)) (a0I (QN.ee (a1j (a0a a0s (a0a a0s (a0a a0s (a0a a0s (a0a a0s (a0a a0s (a0a a0s a0h))))))))) (a0B (fun _=>g__law_next) (fun _=>hr) (by decide) (fun _=>rfl) (a0a (a0b 0 fun _=>vw 0) (a0a a0l a0h)))))
   (a0g (a1X (QW.qt (b3V (a0Z (b1M 4 fun _=>hr) (a0b 11 fun _=>vw 11) (a3x 8 fun _=>vw 8) rfl) (a9V (a0Z (cEq 4 fun _=>hr) (a0B (fun _=>g__law_next) (fun _=>hr) (by decide) (fun _=>rfl) (a0a (a0b 0 fun _=>vw 0) (a0a a0l a0h))) (QE.r a0l) (a0N _))))) (a0j (qs_put 8 (fun _=>a2w) (a0b 11 fun _=>vw 11) (fun _=>b1k (vw 8)) (a0B (fun _=>g__law_next) (fun _=>hr) (by decide) (fun _=>rfl) (a0a (a0b 0 fun _=>vw 0) (a0a (a0b 1 fun _=>vw 1) a0h))))) a0R)
   (a0j (a0t (a0V (fun _=>rfl) (fun _=>m_tuple) (a3x 8 fun _=>vw 8))))))))))))))
theorem a5v (F0:Fn0 K mg "_law_sheets" (top 32))(g__law_next:Kn P w K mg base "_law_next" 1 ["_law_draws","_law_many"] (a0k K (tabK potD Pt lamP lamQ) a3E))(m_dict:mg "dict"=none)(m_int:mg "int"=none)(m_len:mg "len"=none)(m_list:mg "list"=none)(m_min:mg "min"=none)(m_range:mg "range"=none)(m_reversed:mg "reversed"=none)(m_sorted:mg "sorted"=none)(m_tuple:mg "tuple"=none):Kn P w K mg base "_law_sheets" 2 ["_law_draws","_law_row"] (a0k K (tabK potD Pt lamP lamQ) a1n):=by
 have sc:a0q ["_law_draws","_law_row","_law_now","_law_sheets_here","_law_kept","_law_many","_law_k","_law_low","_law_high","_law_way","_law_some","_law_boat"] ["_law_draws","_law_row"] (a0i (top 32)):=⟨rfl,rfl,rfl,by decide +kernel,rfl,by decide +kernel,by decide +kernel⟩;exact a1m F0 sc (fun _ _ _ _ _ _=>bd2 fun _ _=>rfl) (k:=1) (body:=a1P) (fun f cdv A outer s H E hr=>(qss_dp 2 3 4 (N:=["_law_boat"]) (cs:=[none]) (fun _=>a1b rfl rfl rfl rfl trivial rfl rfl rfl) (fun _=>rfl) (fun _=>rfl) (fun _=>m_dict) (a1G (a0b 1 fun _=>vw 1)) (a0r fun _=>a0m 0 (show x3e (["_law_boat"]:List Str) by decide +kernel) rfl (Or.inl rfl)) (a0b 0 fun _=>vw 0) (a1j a0h) (fun _=>a2w) (fun _=>gw_tup K rfl (b5p (a0m 2 sc.nd rfl (Or.inl rfl)) (b5p (a0m 3 sc.nd rfl (Or.inl rfl)) (b5p (a0m 4 sc.nd rfl (Or.inr rfl)) pgs_n)))) (b0b (fun _=>rfl) (fun _=>m_list) (QE.r (a0b 1 fun _=>vw 1))) (a1j a0h) (a7T 5 (fun _=>a0w (i:=5) sc.nd rfl (Or.inl rfl)) (a1Z (fun _=>rfl) (fun _=>m_len) (QE.r (a0b 1 fun _=>vw 1)))) (a7U (fun _=>rfl) (a1M (fun _=>rfl) (fun _=>m_reversed) (fun _=>rfl) (fun _=>m_range) (a0b 5 fun _=>vw 5)) (a2R fun _=>a0m 6 sc.nd rfl (Or.inl rfl)) (a1l (qd_par 7 8 (fun _=>b3P (i:=7) (j:=8) rfl sc.nd rfl rfl (by decide) rfl rfl rfl) (b3Y (a3x 2 fun _=>vw 2) (b3X (fun _=>rfl) (fun _=>rfl) (fun _=>m_min) (a1h (a0b 6 fun _=>vw 6) a0l) (a4O (a0b 5 fun _=>vw 5) a0l))) (b3Y (a3x 2 fun _=>vw 2) (a0b 6 fun _=>vw 6))) (a1l (a7T 9 (fun _=>a0w (i:=9) sc.nd rfl (Or.inl rfl)) (a0B (fun _=>g__law_next) (fun _=>hr) (by decide) (fun _=>rfl) (a0a (a0b 0 fun _=>vw 0) (a0a a0l a0h)))) (a2a (qd_if (a0Z (cEq 4 fun _=>hr) (a0b 6 fun _=>vw 6) (QE.r (a4O (a0b 5 fun _=>vw 5) a0l)) (a0N _)) (a1l (a6W (fun _=>a1B) (a4c 3 (fun _=>vw 3) a0l (a0I (QN.ee (a1j (a0a (a0z a0h) (a0a (a0z (a0a (a0z (a0a a0s (a0a (a0b 8 fun _=>vw 8) a0h))) a0h)) a0h)))) (b0d (a0b 9 fun _=>vw 9) a0l)))) (a2a (a5X (fun _=>hr) (fun _=>a1B) (fun _=>vw 4) (a0b 8 fun _=>vw 8) (a0z (a0a (a0b 6 fun _=>vw 6) (a0a (a0I (QN.ee (a1j (a0a a0s (a0a a0s a0h)))) (b0d (a0b 9 fun _=>vw 9) a0l)) (a0a a1Y a0h))))))) (a2a (qd_if (a0Z cLt (a0b 9 fun _=>vw 9) (QE.r a0l) (a0N _)) (a1l (a6W (fun _=>a1B) (a4c 3 (fun _=>vw 3) a0l (a0z (a0a (a0z (a0a a0s (a0a (a0b 7 fun _=>vw 7) (a0a (a0b 8 fun _=>vw 8) a0h)))) a0h)))) (a1l (a5X (fun _=>hr) (fun _=>a1B) (fun _=>vw 4) (a0b 7 fun _=>vw 7) (a0z (a0a (a0b 6 fun _=>vw 6) (a0a a0s (a0a (a0b 8 fun _=>vw 8) a0h))))) (a1l (a5X (fun _=>hr) (fun _=>a1B) (fun _=>vw 4) (a0b 8 fun _=>vw 8) (a0z (a0a (a0b 6 fun _=>vw 6) (a0a a0s (a0a (a0b 7 fun _=>vw 7) a0h))))) (a2a (b5d 2 (fun _=>a2w) (fun _ _ _ h1 h2=>b1j K rfl (b1k (vw 2) (by intro _;rfl) _ h1) (b1k (vw 2) (by intro _;rfl) _ h2)) (a0b 7 fun _=>vw 7) (a0b 8 fun _=>vw 8) (a0b 6 fun _=>vw 6) (a1h (a0b 6 fun _=>vw 6) a0l)))))) (a1l (a7T 10 (fun _=>a0w (i:=10) sc.nd rfl (Or.inl rfl)) (a0I (QN.ee (a1j (a0a (QN.ee (a1j a0h)) (a0a (QN.ee (a1j (a0a (a0b 7 fun _=>vw 7) a0h))) (a0a (QN.ee (a5S (fun _=>rfl) (fun _=>m_sorted) (QE.r (QN.ee (a1j (a0a (a0b 7 fun _=>vw 7) (a0a (a0b 8 fun _=>vw 8) a0h))))))) a0h))))) (a4O (a0b 9 fun _=>vw 9) a0l))) (a1l (a6W (fun _=>a1B) (a4c 3 (fun _=>vw 3) a0l (a0V (fun _=>rfl) (fun _=>m_tuple) (QE.r (QN.ee (a3Y (N:=["_law_boat"]) (cs:=[none]) (fun _=>a1b rfl rfl rfl rfl trivial rfl rfl rfl) (fun _=>rfl) (a3d (a0b 10 fun _=>vw 10)) (a0r fun _=>a0m 0 (show x3e (["_law_boat"]:List Str) by decide +kernel) rfl (Or.inl rfl)) a3Z (a0z (a0a a0s (a0a (a0b 0 fun _=>vw 0) a0h))))))))) (a2a (a7U (fun _=>rfl) (a1G (a0z (a0a (a0b 7 fun _=>vw 7) (a0a (a0b 8 fun _=>vw 8) a0h)))) (a2R fun _=>a0m 11 sc.nd rfl (Or.inl rfl)) (a2a (a5X (fun _=>hr) (fun _=>a1B) (fun _=>vw 4) (a0b 11 fun _=>vw 11) (a0z (a0a (a0b 6 fun _=>vw 6) (a0a (a0I (QN.ee (a1j (a0a a0s (a0a a0s a0h)))) (b2w (fun _=>rfl) (fun _=>m_int) (QE.r (a4P (cIn 4 fun _=>hr) (a0b 11 fun _=>vw 11) (QE.r (a0b 10 fun _=>vw 10)) rfl)))) (a0a a1Y a0h))))))))))))))))) (a0j (a0t (a0z (a0a (a0V (fun _=>rfl) (fun _=>m_tuple) (a3x 3 fun _=>vw 3)) (a0a (a0V (fun _=>rfl) (fun _=>m_tuple) (a3x 2 fun _=>vw 2)) (a0a (a0V (fun _=>rfl) (fun _=>m_tuple) (QE.r (QN.ee (a3Y (N:=["_law_boat","_law_kept"]) (cs:=[none,some 4]) (fun _=>a1b rfl rfl rfl rfl ⟨rfl,trivial⟩ rfl rfl rfl) (fun _=>rfl) (a1G (a0b 1 fun _=>vw 1)) (a0r fun _=>a0m 0 (show x3e (["_law_boat","_law_kept"]:List Str) by decide +kernel) rfl (Or.inl rfl)) a3Z (a0z (a0a (a0b 0 fun _=>vw 0) (a0a (a0V (fun _=>rfl) (fun _=>m_tuple) (QE.r (b3Z (fun _=>hr) (a0b 1 fun _=>vw 1) (a0b 0 fun _=>vw 0)))) a0h))))))) a0h))))))))
theorem a9b (F0:Fn0 K mg "races_of" (top 1)):Kn P w K mg base "races_of" 1 ["meeting","n"] (a0k K (tabK potD Pt lamP lamQ) a1o):=by
 have sc:a0q ["meeting","n","size"] ["meeting","n"] (a0i (top 1)):=⟨rfl,rfl,rfl,by decide +kernel,rfl,by decide +kernel,by decide +kernel⟩
 exact a1m F0 sc (fun _ _ _ _ _ _=>bd2 fun _ _=>rfl) (k:=0) (body:=a3i) (fun f cdv A outer s H E hr=>(a0g (a0F 2 (fun _=>a0w (i:=2) sc.nd rfl (Or.inl rfl)) (a0I (a0b 0 fun _=>vw 0) a0l))
   (a0j (a0t (b5c (a4O (a1h (a0b 1 fun _=>vw 1) (a0b 2 fun _=>vw 2)) a0l) (a0b 2 fun _=>vw 2))))))
theorem a9h (F0:Fn0 K mg "boats_of" (top 5)):Kn P w K mg base "boats_of" 1 ["events"] (a0k K (tabK potD Pt lamP lamQ) a0P):=by
 have sc:a0q ["events"] ["events"] (a0i (top 5)):=⟨rfl,rfl,rfl,by decide +kernel,rfl,by decide +kernel,by decide +kernel⟩;exact a1m F0 sc (fun _ _ _ _ _ _=>bd1 fun _=>rfl) (k:=0) (body:=a3o) (fun f cdv A outer s H E hr=>(a0j (a0t (QN.ee (b2u (N:=["event","boat"]) (cs:=[none,none]) (fun _=>a1b rfl rfl rfl rfl trivial rfl rfl rfl) (fun _=>rfl) (a1G (a0b 0 fun _=>vw 0)) (a0r fun _=>a0m 0 (show x3e (["event","boat"]:List Str) by decide +kernel) rfl (Or.inl rfl)) (a1G (a5U (a0b 0 fun _=>vw 0) (a1q a0l) b0a)) (a0r fun _=>a0m 1 (show x3e (["event","boat"]:List Str) by decide +kernel) rfl (Or.inl rfl)) a3Z (a0b 1 fun _=>vw 1))))))
theorem a5u (F0:Fn0 K mg "boat_reason" (top 12))(g_boats_of:Kn P w K mg base "boats_of" 1 ["events"] (a0k K (tabK potD Pt lamP lamQ) a0P)):Kn P w K mg base "boat_reason" 2 ["start","sheet"] (a0k K (tabK potD Pt lamP lamQ) a1c):=by
 have sc:a0q ["start","sheet","boats","boat"] ["start","sheet"] (a0i (top 12)):=⟨rfl,rfl,rfl,by decide +kernel,rfl,by decide +kernel,by decide +kernel⟩
 exact a1m F0 sc (fun _ _ _ _ _ _=>bd2 fun _ _=>rfl) (k:=1) (body:=a1O) (fun f cdv A outer s H E hr=>(a0g (a0F 2 (fun _=>a0w (i:=2) sc.nd rfl (Or.inl rfl)) (a0B (fun _=>g_boats_of) (fun _=>hr) (by decide) (fun _=>rfl) (a0a (a0b 1 fun _=>vw 1) a0h)))
   (a0g (a1F (fun _=>rfl) (a3d (a0b 2 fun _=>vw 2)) (a0r fun _=>a0m 3 sc.nd rfl (Or.inl rfl)) (a0g (a1X (a0Z (b1M 4 fun _=>hr) (a0b 3 fun _=>vw 3) (QE.r (a0b 0 fun _=>vw 0)) rfl) (a0j (a0t (a0z (a0a a0s (a0a (a0b 3 fun _=>vw 3) a0h))))) a0R)
   (a0j (a1X (a0Z cGt (b2y (a0b 2 fun _=>vw 2) (a0b 3 fun _=>vw 3)) (QE.r a0l) (a0N _)) (a0j (a0t (a0z (a0a a0s (a0a (a0b 3 fun _=>vw 3) a0h))))) a0R))))
   (a0j (a0t a1Y)))))
theorem a6l (F0:Fn0 K mg "touches_of" (top 6)):Kn P w K mg base "touches_of" 1 ["events"] (a0k K (tabK potD Pt lamP lamQ) a0x):=by
 have sc:a0q ["events"] ["events"] (a0i (top 6)):=⟨rfl,rfl,rfl,by decide +kernel,rfl,by decide +kernel,by decide +kernel⟩;exact a1m F0 sc (fun _ _ _ _ _ _=>bd1 fun _=>rfl) (k:=0) (body:=a2d) (fun f cdv A outer s H E hr=>(a0j (a0t (QN.ee (a3Y (N:=["event"]) (cs:=[none]) (fun _=>a1b rfl rfl rfl rfl trivial rfl rfl rfl) (fun _=>rfl) (a1G (a0b 0 fun _=>vw 0)) (a0r fun _=>a0m 0 (show x3e (["event"]:List Str) by decide +kernel) rfl (Or.inl rfl)) (b0c (a0Z (cEq 4 fun _=>hr) (a0I (a0b 0 fun _=>vw 0) a0l) (QE.r a0s) (a0N _))) (a0b 0 fun _=>vw 0))))))
theorem a9e (F0:Fn0 K mg "is_wrong" (top 8)):Kn P w K mg base "is_wrong" 1 ["start","touch"] (a0k K (tabK potD Pt lamP lamQ) a2s):=by
 have sc:a0q ["start","touch"] ["start","touch"] (a0i (top 8)):=⟨rfl,rfl,rfl,by decide +kernel,rfl,by decide +kernel,by decide +kernel⟩;exact a1m F0 sc (fun _ _ _ _ _ _=>bd2 fun _ _=>rfl) (k:=0) (body:=a3l) (fun f cdv A outer s H E hr=>(a0j (a0t (a4P cGt (a2m (a0b 0 fun _=>vw 0) (a0I (a0b 1 fun _=>vw 1) a0l)) (QE.r (a2m (a0b 0 fun _=>vw 0) (a0I (a0b 1 fun _=>vw 1) a0l))) (a0N _)))))
theorem b0X (F0:Fn0 K mg "between" (top 7))(m_sorted:mg "sorted"=none):Kn P w K mg base "between" 1 ["start","touch"] (a0k K (tabK potD Pt lamP lamQ) a0D):=by
 have sc:a0q ["start","touch","low","high"] ["start","touch"] (a0i (top 7)):=⟨rfl,rfl,rfl,by decide +kernel,rfl,by decide +kernel,by decide +kernel⟩
 exact a1m F0 sc (fun _ _ _ _ _ _=>bd2 fun _ _=>rfl) (k:=0) (body:=a4j) (fun f cdv A outer s H E hr=>(a0g (a5R (fun _=>a2w) (QN.ee (a5S (fun _=>rfl) (fun _=>m_sorted) (QE.r (QN.ee (a1j (a0a (a2m (a0b 0 fun _=>vw 0) (a0I (a0b 1 fun _=>vw 1) a0l)) (a0a (a2m (a0b 0 fun _=>vw 0) (a0I (a0b 1 fun _=>vw 1) a0l)) a0h))))))) (qg_lst (fun _=>rfl) (a1a (a0r fun _=>a0m 2 sc.nd rfl (Or.inl rfl)) (a1a (a0r fun _=>a0m 3 sc.nd rfl (Or.inl rfl)) a4b))))
   (a0j (a0t (a5U (a0b 0 fun _=>vw 0) (a1q (a1h (a0b 2 fun _=>vw 2) a0l)) (a1q (a0b 3 fun _=>vw 3)))))))
theorem b3o (F0:Fn0 K mg "is_far" (top 9))(g_between:Kn P w K mg base "between" 1 ["start","touch"] (a0k K (tabK potD Pt lamP lamQ) a0D))(m_len:mg "len"=none):Kn P w K mg base "is_far" 2 ["start","reach","touch"] (a0k K (tabK potD Pt lamP lamQ) a3Q):=by
 have sc:a0q ["start","reach","touch"] ["start","reach","touch"] (a0i (top 9)):=⟨rfl,rfl,rfl,by decide +kernel,rfl,by decide +kernel,by decide +kernel⟩;exact a1m F0 sc (fun _ _ _ _ _ _=>bd3 fun _ _ _=>rfl) (k:=1) (body:=a5o) (fun f cdv A outer s H E hr=>(a0j (a0t (a4P cGt (a1Z (fun _=>rfl) (fun _=>m_len) (QE.r (a0B (fun _=>g_between) (fun _=>hr) (by decide) (fun _=>rfl) (a0a (a0b 0 fun _=>vw 0) (a0a (a0b 2 fun _=>vw 2) a0h))))) (QE.r (a0b 1 fun _=>vw 1)) (a0N _)))))
theorem a4F (F0:Fn0 K mg "touch_reason" (top 13))(g_is_wrong:Kn P w K mg base "is_wrong" 1 ["start","touch"] (a0k K (tabK potD Pt lamP lamQ) a2s))(g_is_far:Kn P w K mg base "is_far" 2 ["start","reach","touch"] (a0k K (tabK potD Pt lamP lamQ) a3Q))(g_boats_of:Kn P w K mg base "boats_of" 1 ["events"] (a0k K (tabK potD Pt lamP lamQ) a0P))(g_between:Kn P w K mg base "between" 1 ["start","touch"] (a0k K (tabK potD Pt lamP lamQ) a0D)):Kn P w K mg base "touch_reason" 3 ["start","reach","sheet","touch"] (a0k K (tabK potD Pt lamP lamQ) a0S):=by
 have sc:a0q ["start","reach","sheet","touch","boats","boat"] ["start","reach","sheet","touch"] (a0i (top 13)):=⟨rfl,rfl,rfl,by decide +kernel,rfl,by decide +kernel,by decide +kernel⟩
 exact a1m F0 sc (fun _ _ _ _ _ _=>bd4 fun _ _ _ _=>rfl) (k:=2) (body:=a1C) (fun f cdv A outer s H E hr=>(a0g (a1X (a9W (a0B (fun _=>g_is_wrong) (fun _=>hr) (by decide) (fun _=>rfl) (a0a (a0b 0 fun _=>vw 0) (a0a (a0b 3 fun _=>vw 3) a0h)))) (a0j (a0t (a0z (a0a a0s (a0a (a0b 3 fun _=>vw 3) a0h))))) a0R)
   (a0g (a1X (a9W (a0B (fun _=>g_is_far) (fun _=>hr) (by decide) (fun _=>rfl) (a0a (a0b 0 fun _=>vw 0) (a0a (a0b 1 fun _=>vw 1) (a0a (a0b 3 fun _=>vw 3) a0h))))) (a0j (a0t (a0z (a0a a0s (a0a (a0b 3 fun _=>vw 3) a0h))))) a0R)
   (a0g (a0F 4 (fun _=>a0w (i:=4) sc.nd rfl (Or.inl rfl)) (a0B (fun _=>g_boats_of) (fun _=>hr) (by decide) (fun _=>rfl) (a0a (a0b 2 fun _=>vw 2) a0h)))
   (a0g (a1F (fun _=>rfl) (a1G (a0B (fun _=>g_between) (fun _=>hr) (by decide) (fun _=>rfl) (a0a (a0b 0 fun _=>vw 0) (a0a (a0b 3 fun _=>vw 3) a0h)))) (a0r fun _=>a0m 5 sc.nd rfl (Or.inl rfl)) (a0j (a1X (a0Z (b1M 4 fun _=>hr) (a0b 5 fun _=>vw 5) (QE.r (a0b 4 fun _=>vw 4)) rfl) (a0j (a0t (a0z (a0a a0s (a0a (a0b 3 fun _=>vw 3) (a0a (a0b 5 fun _=>vw 5) a0h)))))) a0R)))
   (a0j (a0t a1Y)))))))
theorem a9f (F0:Fn0 K mg "is_cross" (top 10))(g_boats_of:Kn P w K mg base "boats_of" 1 ["events"] (a0k K (tabK potD Pt lamP lamQ) a0P))(g_between:Kn P w K mg base "between" 1 ["start","touch"] (a0k K (tabK potD Pt lamP lamQ) a0D))(m_len:mg "len"=none)(m_set:mg "set"=none):Kn P w K mg base "is_cross" 2 ["start","one","other"] (a0k K (tabK potD Pt lamP lamQ) a1I):=by
 have sc:a0q ["start","one","other","inner"] ["start","one","other"] (a0i (top 10)):=⟨rfl,rfl,rfl,by decide +kernel,rfl,by decide +kernel,by decide +kernel⟩
 exact a1m F0 sc (fun _ _ _ _ _ _=>bd3 fun _ _ _=>rfl) (k:=1) (body:=a3m) (fun f cdv A outer s H E hr=>(a0g (a1X (a0Z (cNe 4 fun _=>hr) (a8H (fun _=>rfl) (fun _=>rfl) (fun _=>m_len) (fun _=>rfl) (fun _=>m_set) (a0B (fun _=>g_boats_of) (fun _=>hr) (by decide) (fun _=>rfl) (a0a (a0z (a0a (a0b 1 fun _=>vw 1) (a0a (a0b 2 fun _=>vw 2) a0h))) a0h))) (QE.r a0l) (a0N _)) (a0j (a0t b0e)) a0R)
   (a0g (a0F 3 (fun _=>a0w (i:=3) sc.nd rfl (Or.inl rfl)) (a0B (fun _=>g_between) (fun _=>hr) (by decide) (fun _=>rfl) (a0a (a0b 0 fun _=>vw 0) (a0a (a0b 1 fun _=>vw 1) a0h))))
   (a0j (a0t (a4P (cNe 4 fun _=>hr) (a4P (cIn 4 fun _=>hr) (a0I (a0b 2 fun _=>vw 2) a0l) (QE.r (a0b 3 fun _=>vw 3)) rfl) (QE.r (a4P (cIn 4 fun _=>hr) (a0I (a0b 2 fun _=>vw 2) a0l) (QE.r (a0b 3 fun _=>vw 3)) rfl)) (a0N _)))))))
theorem a4G (F0:Fn0 K mg "cross_reason" (top 14))(g_is_cross:Kn P w K mg base "is_cross" 2 ["start","one","other"] (a0k K (tabK potD Pt lamP lamQ) a1I)):Kn P w K mg base "cross_reason" 3 ["start","touch","touches"] (a0k K (tabK potD Pt lamP lamQ) a0T):=by
 have sc:a0q ["start","touch","touches","other"] ["start","touch","touches"] (a0i (top 14)):=⟨rfl,rfl,rfl,by decide +kernel,rfl,by decide +kernel,by decide +kernel⟩
 exact a1m F0 sc (fun _ _ _ _ _ _=>bd3 fun _ _ _=>rfl) (k:=2) (body:=a1D) (fun f cdv A outer s H E hr=>(a0g (a1F (fun _=>rfl) (a3d (a0b 2 fun _=>vw 2)) (a0r fun _=>a0m 3 sc.nd rfl (Or.inl rfl)) (a0j (a1X (a9W (a0B (fun _=>g_is_cross) (fun _=>hr) (by decide) (fun _=>rfl) (a0a (a0b 0 fun _=>vw 0) (a0a (a0b 1 fun _=>vw 1) (a0a (a0b 3 fun _=>vw 3) a0h))))) (a0j (a0t (a0z (a0a a0s (a0a (a0b 1 fun _=>vw 1) (a0a (a0b 3 fun _=>vw 3) a0h)))))) a0R)))
   (a0j (a0t a1Y))))
theorem a7q (F0:Fn0 K mg "reason_of" (top 15))(g_boat_reason:Kn P w K mg base "boat_reason" 2 ["start","sheet"] (a0k K (tabK potD Pt lamP lamQ) a1c))(g_touches_of:Kn P w K mg base "touches_of" 1 ["events"] (a0k K (tabK potD Pt lamP lamQ) a0x))(g_cross_reason:Kn P w K mg base "cross_reason" 3 ["start","touch","touches"] (a0k K (tabK potD Pt lamP lamQ) a0T))(g_touch_reason:Kn P w K mg base "touch_reason" 3 ["start","reach","sheet","touch"] (a0k K (tabK potD Pt lamP lamQ) a0S)):Kn P w K mg base "reason_of" 4 ["start","reach","sheet"] (a0k K (tabK potD Pt lamP lamQ) a1v):=by
 have sc:a0q ["start","reach","sheet","reason","touches","touch"] ["start","reach","sheet"] (a0i (top 15)):=⟨rfl,rfl,rfl,by decide +kernel,rfl,by decide +kernel,by decide +kernel⟩
 exact a1m F0 sc (fun _ _ _ _ _ _=>bd3 fun _ _ _=>rfl) (k:=3) (body:=a2B) (fun f cdv A outer s H E hr=>(a0g (a0F 3 (fun _=>a0w (i:=3) sc.nd rfl (Or.inl rfl)) (a0B (fun _=>g_boat_reason) (fun _=>hr) (by decide) (fun _=>rfl) (a0a (a0b 0 fun _=>vw 0) (a0a (a0b 2 fun _=>vw 2) a0h))))
   (a0g (a1X (a0Z b1N (a0b 3 fun _=>vw 3) (QE.r a1Y) (a0N _)) (a0j (a0t (a0b 3 fun _=>vw 3))) a0R)
   (a0g (a0F 4 (fun _=>a0w (i:=4) sc.nd rfl (Or.inl rfl)) (a0B (fun _=>g_touches_of) (fun _=>hr) (by decide) (fun _=>rfl) (a0a (a0b 2 fun _=>vw 2) a0h)))
   (a0g (a1F (fun _=>rfl) (a3d (a0b 4 fun _=>vw 4)) (a0r fun _=>a0m 5 sc.nd rfl (Or.inl rfl)) (a0g (a0F 3 (fun _=>a0w (i:=3) sc.nd rfl (Or.inl rfl)) (qe_orT (a0B (fun _=>g_touch_reason) (fun _=>hr) (by decide) (fun _=>rfl) (a0a (a0b 0 fun _=>vw 0) (a0a (a0b 1 fun _=>vw 1) (a0a (a0b 2 fun _=>vw 2) (a0a (a0b 5 fun _=>vw 5) a0h))))) (qe_one (a0B (fun _=>g_cross_reason) (fun _=>hr) (by decide) (fun _=>rfl) (a0a (a0b 0 fun _=>vw 0) (a0a (a0b 5 fun _=>vw 5) (a0a (a0b 4 fun _=>vw 4) a0h)))))))
   (a0j (a1X (a0Z b1N (a0b 3 fun _=>vw 3) (QE.r a1Y) (a0N _)) (a0j (a0t (a0b 3 fun _=>vw 3))) a0R))))
   (a0j (a0t a1Y)))))))
theorem a9c (F0:Fn0C K mg "order_of" (top 16) cd)(hC:PySem.W.CodeHd base cd Pt)(hB:base.BuiltinsAt mg Pt)(g_reason_of:Kn P w K mg base "reason_of" 4 ["start","reach","sheet"] (a0k K (tabK potD Pt lamP lamQ) a1v))(g_touches_of:Kn P w K mg base "touches_of" 1 ["events"] (a0k K (tabK potD Pt lamP lamQ) a0x))(g_between:Kn P w K mg base "between" 1 ["start","touch"] (a0k K (tabK potD Pt lamP lamQ) a0D))(m_len:mg "len"=none)(m_sorted:mg "sorted"=none)(m_tuple:mg "tuple"=none):Kn P w K mg base "order_of" 5 ["start","reach","sheet"] (a0k K (tabK potD Pt lamP lamQ) a2q):=by
 have sc:a0q ["start","reach","sheet","reason","drops","inner_first"] ["start","reach","sheet"] (a0i (top 16)):=⟨rfl,rfl,rfl,by decide +kernel,rfl,by decide +kernel,by decide +kernel⟩
 exact fn_okC F0 sc (fun _ _ _ _ _ _=>bd3 fun _ _ _=>rfl) (k:=4) (body:=a3j) (fun f A outer s H E hr=>(a0g (a0F 3 (fun _=>a0w (i:=3) sc.nd rfl (Or.inl rfl)) (a0B (fun _=>g_reason_of) (fun _=>hr) (by decide) (fun _=>rfl) (a0a (a0b 0 fun _=>vw 0) (a0a (a0b 1 fun _=>vw 1) (a0a (a0b 2 fun _=>vw 2) a0h)))))
   (a0g (a1X (a0Z b1N (a0b 3 fun _=>vw 3) (QE.r a1Y) (a0N _)) (a0j (a0t (a0z (a0a a0s (a0a (a0b 3 fun _=>vw 3) a0h))))) a0R)
   (a0g (b4V 4 (b5f (N:=["event"]) (cs:=[none]) (fun _=>a1b rfl rfl rfl rfl trivial rfl rfl rfl) (fun _=>rfl) (a1G (a0b 2 fun _=>vw 2)) (a0r fun _=>a0m 0 (show x3e (["event"]:List Str) by decide +kernel) rfl (Or.inl rfl)) (b0c (a0Z (cEq 4 fun _=>hr) (a0I (a0b 0 fun _=>vw 0) a0l) (QE.r a0s) (a0N _))) (a0b 0 fun _=>vw 0)) (fun _=>sc.nd) (fun _=>rfl) (fun _=>Or.inl rfl))
   (a0g (a0F 5 (fun _=>a0w (i:=5) sc.nd rfl (Or.inl rfl)) (QN.ee (b2t (x:="touch") (y:="start") (iy:=0) (c:=fun _=>s.heap.objs.size + 1) (QE.r (a0B (fun _=>g_touches_of) (fun _=>hr) (by decide) (fun _=>rfl) (a0a (a0b 2 fun _=>vw 2) a0h))) (a1Z (fun _=>rfl) (fun _=>m_len) (QE.r (a0B (fun _=>g_between) (fun _=>b2n hr) (by decide) (fun _=>rfl) (a0a (a0b 1 fun _=>vw 1) (a0a (a0b 0 fun _=>vw 0) a0h))))) (b0S rfl rfl rfl rfl rfl rfl (by decide +kernel) (by decide +kernel)) (fun _=>hr) (fun _=>rfl) (fun _=>rfl) (fun _=>rfl) (fun _ _ _ _ _=>rfl) (fun _=>rfl) (fun _=>rfl) (fun _=>rfl) (fun _=>hC) (fun _=>hB) (fun _=>rfl) (fun _=>m_sorted) (fun _=>rfl))))
   (a0j (a0t (a0z (a0a a0s (a0a (a0V (fun _=>rfl) (fun _=>m_tuple) (QE.r (QN.ee (qn_cat (QE.r (a0b 4 fun _=>vw 4)) (QE.r (a0b 5 fun _=>vw 5)))))) a0h))))))))))
theorem k_span (F0:Fn0 K mg "span" (top 2))(m_min:mg "min"=none):Kn P w K mg base "span" 1 ["meeting","n","k"] (a0k K (tabK potD Pt lamP lamQ) a4X):=by
 have sc:a0q ["meeting","n","k","size","first"] ["meeting","n","k"] (a0i (top 2)):=⟨rfl,rfl,rfl,by decide +kernel,rfl,by decide +kernel,by decide +kernel⟩
 exact a1m F0 sc (fun _ _ _ _ _ _=>bd3 fun _ _ _=>rfl) (k:=0) (body:=b0q) (fun f cdv A outer s H E hr=>(a0g (a0F 3 (fun _=>a0w (i:=3) sc.nd rfl (Or.inl rfl)) (a0I (a0b 0 fun _=>vw 0) a0l))
   (a0g (a0F 4 (fun _=>a0w (i:=4) sc.nd rfl (Or.inl rfl)) (b3W (a0b 2 fun _=>vw 2) (a0b 3 fun _=>vw 3)))
   (a0j (a0t (a0z (a0a (a0b 4 fun _=>vw 4) (a0a (b3X (fun _=>rfl) (fun _=>rfl) (fun _=>m_min) (a1h (a0b 4 fun _=>vw 4) (a0b 3 fun _=>vw 3)) (a4O (a0b 1 fun _=>vw 1) a0l)) a0h))))))))
theorem b3n (F0:Fn0 K mg "put_on" (top 19))(g_span:Kn P w K mg base "span" 1 ["meeting","n","k"] (a0k K (tabK potD Pt lamP lamQ) a4X))(m_len:mg "len"=none):Kn P w K mg base "put_on" 2 ["meeting","row","k","boats"] (a0k K (tabK potD Pt lamP lamQ) a3P):=by
 have sc:a0q ["meeting","row","k","boats","first","last"] ["meeting","row","k","boats"] (a0i (top 19)):=⟨rfl,rfl,rfl,by decide +kernel,rfl,by decide +kernel,by decide +kernel⟩
 exact a1m F0 sc (fun _ _ _ _ _ _=>bd4 fun _ _ _ _=>rfl) (k:=1) (body:=a5n) (fun f cdv A outer s H E hr=>(a0g (a5R (fun _=>a2w) (a0B (fun _=>g_span) (fun _=>hr) (by decide) (fun _=>rfl) (a0a (a0b 0 fun _=>vw 0) (a0a (a1Z (fun _=>rfl) (fun _=>m_len) (QE.r (a0b 1 fun _=>vw 1))) (a0a (a0b 2 fun _=>vw 2) a0h)))) (a7S (fun _=>rfl) (a1a (a0r fun _=>a0m 4 sc.nd rfl (Or.inl rfl)) (a1a (a0r fun _=>a0m 5 sc.nd rfl (Or.inl rfl)) a4b))))
   (a0j (a0t (a1h (a1h (a5U (a0b 1 fun _=>vw 1) b0a (a1q (a0b 4 fun _=>vw 4))) (a0b 3 fun _=>vw 3)) (a5U (a0b 1 fun _=>vw 1) (a1q (a1h (a0b 5 fun _=>vw 5) a0l)) b0a))))))
theorem a7s (F0:Fn0 K mg "exchanged" (top 3))(m_list:mg "list"=none)(m_tuple:mg "tuple"=none):Kn P w K mg base "exchanged" 1 ["row","one","other"] (a0k K (tabK potD Pt lamP lamQ) a1T):=by
 have sc:a0q ["row","one","other","boats"] ["row","one","other"] (a0i (top 3)):=⟨rfl,rfl,rfl,by decide +kernel,rfl,by decide +kernel,by decide +kernel⟩
 exact a1m F0 sc (fun _ _ _ _ _ _=>bd3 fun _ _ _=>rfl) (k:=0) (body:=a2D) (fun f cdv A outer s H E hr=>(a0g (a9Y 3 (fun _=>a0w (i:=3) sc.nd rfl (Or.inl rfl)) (b0b (fun _=>rfl) (fun _=>m_list) (QE.r (a0b 0 fun _=>vw 0))))
   (a0g (b4X 3 (fun _=>a2w) (fun _ _ _ h1 h2=>b1j K rfl (b1k (vw 3) (by intro _;rfl) _ h1) (b1k (vw 3) (by intro _;rfl) _ h2)) (a0I (a0b 0 fun _=>vw 0) (a0b 2 fun _=>vw 2)) (a0I (a0b 0 fun _=>vw 0) (a0b 1 fun _=>vw 1)) (a0b 1 fun _=>vw 1) (a0b 2 fun _=>vw 2))
   (a0j (a0t (a0V (fun _=>rfl) (fun _=>m_tuple) (a3x 3 fun _=>vw 3)))))))
theorem a6m (F0:Fn0 K mg "row_behind" (top 11))(g_touches_of:Kn P w K mg base "touches_of" 1 ["events"] (a0k K (tabK potD Pt lamP lamQ) a0x))(g_exchanged:Kn P w K mg base "exchanged" 1 ["row","one","other"] (a0k K (tabK potD Pt lamP lamQ) a1T)):Kn P w K mg base "row_behind" 2 ["start","sheet"] (a0k K (tabK potD Pt lamP lamQ) a1z):=by
 have sc:a0q ["start","sheet","row","touch"] ["start","sheet"] (a0i (top 11)):=⟨rfl,rfl,rfl,by decide +kernel,rfl,by decide +kernel,by decide +kernel⟩
 exact a1m F0 sc (fun _ _ _ _ _ _=>bd2 fun _ _=>rfl) (k:=1) (body:=a2e) (fun f cdv A outer s H E hr=>(a0g (a0F 2 (fun _=>a0w (i:=2) sc.nd rfl (Or.inl rfl)) (a0b 0 fun _=>vw 0))
   (a0g (a1F (fun _=>rfl) (a3d (a0B (fun _=>g_touches_of) (fun _=>hr) (by decide) (fun _=>rfl) (a0a (a0b 1 fun _=>vw 1) a0h))) (a0r fun _=>a0m 3 sc.nd rfl (Or.inl rfl)) (a0j (a0F 2 (fun _=>a0w (i:=2) sc.nd rfl (Or.inl rfl)) (a0B (fun _=>g_exchanged) (fun _=>hr) (by decide) (fun _=>rfl) (a0a (a0b 2 fun _=>vw 2) (a0a (a2m (a0b 0 fun _=>vw 0) (a0I (a0b 3 fun _=>vw 3) a0l)) (a0a (a2m (a0b 0 fun _=>vw 0) (a0I (a0b 3 fun _=>vw 3) a0l)) a0h)))))))
   (a0j (a0t (a0b 2 fun _=>vw 2))))))
theorem a9a (F0:Fn0 K mg "start_on" (top 18))(g_span:Kn P w K mg base "span" 1 ["meeting","n","k"] (a0k K (tabK potD Pt lamP lamQ) a4X))(m_len:mg "len"=none):Kn P w K mg base "start_on" 2 ["meeting","row","k"] (a0k K (tabK potD Pt lamP lamQ) a0X):=by
 have sc:a0q ["meeting","row","k","first","last"] ["meeting","row","k"] (a0i (top 18)):=⟨rfl,rfl,rfl,by decide +kernel,rfl,by decide +kernel,by decide +kernel⟩
 exact a1m F0 sc (fun _ _ _ _ _ _=>bd3 fun _ _ _=>rfl) (k:=1) (body:=a3h) (fun f cdv A outer s H E hr=>(a0g (a5R (fun _=>a2w) (a0B (fun _=>g_span) (fun _=>hr) (by decide) (fun _=>rfl) (a0a (a0b 0 fun _=>vw 0) (a0a (a1Z (fun _=>rfl) (fun _=>m_len) (QE.r (a0b 1 fun _=>vw 1))) (a0a (a0b 2 fun _=>vw 2) a0h)))) (a7S (fun _=>rfl) (a1a (a0r fun _=>a0m 3 sc.nd rfl (Or.inl rfl)) (a1a (a0r fun _=>a0m 4 sc.nd rfl (Or.inl rfl)) a4b))))
   (a0j (a0t (a5U (a0b 1 fun _=>vw 1) (a1q (a0b 3 fun _=>vw 3)) (a1q (a1h (a0b 4 fun _=>vw 4) a0l)))))))
theorem b5N (F0:Fn0 K mg "raced" (top 20))(g_start_on:Kn P w K mg base "start_on" 2 ["meeting","row","k"] (a0k K (tabK potD Pt lamP lamQ) a0X))(g_row_behind:Kn P w K mg base "row_behind" 2 ["start","sheet"] (a0k K (tabK potD Pt lamP lamQ) a1z))(g_put_on:Kn P w K mg base "put_on" 2 ["meeting","row","k","boats"] (a0k K (tabK potD Pt lamP lamQ) a3P)):Kn P w K mg base "raced" 3 ["meeting","row","k","sheet"] (a0k K (tabK potD Pt lamP lamQ) a3u):=by
 have sc:a0q ["meeting","row","k","sheet"] ["meeting","row","k","sheet"] (a0i (top 20)):=⟨rfl,rfl,rfl,by decide +kernel,rfl,by decide +kernel,by decide +kernel⟩;exact a1m F0 sc (fun _ _ _ _ _ _=>bd4 fun _ _ _ _=>rfl) (k:=2) (body:=a7h) (fun f cdv A outer s H E hr=>(a0j (a0t (a0B (fun _=>g_put_on) (fun _=>hr) (by decide) (fun _=>rfl) (a0a (a0b 0 fun _=>vw 0) (a0a (a0b 1 fun _=>vw 1) (a0a (a0b 2 fun _=>vw 2) (a0a (a0B (fun _=>g_row_behind) (fun _=>hr) (by decide) (fun _=>rfl) (a0a (a0B (fun _=>g_start_on) (fun _=>hr) (by decide) (fun _=>rfl) (a0a (a0b 0 fun _=>vw 0) (a0a (a0b 1 fun _=>vw 1) (a0a (a0b 2 fun _=>vw 2) a0h)))) (a0a (a0b 3 fun _=>vw 3) a0h))) a0h))))))))
theorem a6n (F0:Fn0 K mg "day_behind" (top 21))(g_races_of:Kn P w K mg base "races_of" 1 ["meeting","n"] (a0k K (tabK potD Pt lamP lamQ) a1o))(g_start_on:Kn P w K mg base "start_on" 2 ["meeting","row","k"] (a0k K (tabK potD Pt lamP lamQ) a0X))(g_order_of:Kn P w K mg base "order_of" 5 ["start","reach","sheet"] (a0k K (tabK potD Pt lamP lamQ) a2q))(g_raced:Kn P w K mg base "raced" 3 ["meeting","row","k","sheet"] (a0k K (tabK potD Pt lamP lamQ) a3u))(m_len:mg "len"=none)(m_range:mg "range"=none)(m_reversed:mg "reversed"=none):Kn P w K mg base "day_behind" 6 ["meeting","row","day"] (a0k K (tabK potD Pt lamP lamQ) a0Y):=by
 have sc:a0q ["meeting","row","day","many","stands","k","word","told"] ["meeting","row","day"] (a0i (top 21)):=⟨rfl,rfl,rfl,by decide +kernel,rfl,by decide +kernel,by decide +kernel⟩
 exact a1m F0 sc (fun _ _ _ _ _ _=>bd3 fun _ _ _=>rfl) (k:=5) (body:=a1y) (fun f cdv A outer s H E hr=>(a0g (a0F 3 (fun _=>a0w (i:=3) sc.nd rfl (Or.inl rfl)) (a0B (fun _=>g_races_of) (fun _=>hr) (by decide) (fun _=>rfl) (a0a (a0b 0 fun _=>vw 0) (a0a (a1Z (fun _=>rfl) (fun _=>m_len) (QE.r (a0b 1 fun _=>vw 1))) a0h))))
   (a0g (a1X (a0Z (cNe 4 fun _=>hr) (a1Z (fun _=>rfl) (fun _=>m_len) (QE.r (a0b 2 fun _=>vw 2))) (QE.r (a0b 3 fun _=>vw 3)) (a0N _)) (a0j (a0t (a0z (a0a a0s (a0a a1Y (a0a (a0z (a0a a0s (a0a (a0b 3 fun _=>vw 3) a0h))) a0h)))))) a0R)
   (a0g (a0F 4 (fun _=>a0w (i:=4) sc.nd rfl (Or.inl rfl)) (a0b 1 fun _=>vw 1))
   (a0g (a1F (fun _=>rfl) (a1M (fun _=>rfl) (fun _=>m_reversed) (fun _=>rfl) (fun _=>m_range) (a0b 3 fun _=>vw 3)) (a0r fun _=>a0m 5 sc.nd rfl (Or.inl rfl)) (a0g (a5R (fun _=>a2w) (a0B (fun _=>g_order_of) (fun _=>hr) (by decide) (fun _=>rfl) (a0a (a0B (fun _=>g_start_on) (fun _=>hr) (by decide) (fun _=>rfl) (a0a (a0b 0 fun _=>vw 0) (a0a (a0b 4 fun _=>vw 4) (a0a (a0b 5 fun _=>vw 5) a0h)))) (a0a (a0I (a0b 0 fun _=>vw 0) a0l) (a0a (a0I (a0b 2 fun _=>vw 2) (a0b 5 fun _=>vw 5)) a0h)))) (a7S (fun _=>rfl) (a1a (a0r fun _=>a0m 6 sc.nd rfl (Or.inl rfl)) (a1a (a0r fun _=>a0m 7 sc.nd rfl (Or.inl rfl)) a4b))))
   (a0g (a1X (a0Z (cEq 4 fun _=>hr) (a0b 6 fun _=>vw 6) (QE.r a0s) (a0N _)) (a0j (a0t (a0z (a0a a0s (a0a (a0b 5 fun _=>vw 5) (a0a (a0b 7 fun _=>vw 7) a0h)))))) a0R)
   (a0j (a0F 4 (fun _=>a0w (i:=4) sc.nd rfl (Or.inl rfl)) (a0B (fun _=>g_raced) (fun _=>hr) (by decide) (fun _=>rfl) (a0a (a0b 0 fun _=>vw 0) (a0a (a0b 4 fun _=>vw 4) (a0a (a0b 5 fun _=>vw 5) (a0a (a0I (a0b 2 fun _=>vw 2) (a0b 5 fun _=>vw 5)) a0h))))))))))
   (a0j (a0t (a0z (a0a a0s (a0a (a0b 4 fun _=>vw 4) a0h))))))))))
theorem a7p (F0:Fn0 K mg "starts_of" (top 22))(g_start_on:Kn P w K mg base "start_on" 2 ["meeting","row","k"] (a0k K (tabK potD Pt lamP lamQ) a0X))(g_raced:Kn P w K mg base "raced" 3 ["meeting","row","k","sheet"] (a0k K (tabK potD Pt lamP lamQ) a3u))(m_len:mg "len"=none)(m_range:mg "range"=none)(m_reversed:mg "reversed"=none)(m_tuple:mg "tuple"=none):Kn P w K mg base "starts_of" 4 ["meeting","row","day"] (a0k K (tabK potD Pt lamP lamQ) a1u):=by
 have sc:a0q ["meeting","row","day","starts","stands","k"] ["meeting","row","day"] (a0i (top 22)):=⟨rfl,rfl,rfl,by decide +kernel,rfl,by decide +kernel,by decide +kernel⟩
 exact a1m F0 sc (fun _ _ _ _ _ _=>bd3 fun _ _ _=>rfl) (k:=3) (body:=a2A) (fun f cdv A outer s H E hr=>(a0g (a9Y 3 (fun _=>a0w (i:=3) sc.nd rfl (Or.inl rfl)) (a1j a0h))
   (a0g (a0F 4 (fun _=>a0w (i:=4) sc.nd rfl (Or.inl rfl)) (a0b 1 fun _=>vw 1))
   (a0g (a1F (fun _=>rfl) (a1M (fun _=>rfl) (fun _=>m_reversed) (fun _=>rfl) (fun _=>m_range) (a1Z (fun _=>rfl) (fun _=>m_len) (QE.r (a0b 2 fun _=>vw 2)))) (a0r fun _=>a0m 5 sc.nd rfl (Or.inl rfl)) (a0g (a9Z (fun _=>a1B) (a5V 3 (fun _=>vw 3) (a0B (fun _=>g_start_on) (fun _=>hr) (by decide) (fun _=>rfl) (a0a (a0b 0 fun _=>vw 0) (a0a (a0b 4 fun _=>vw 4) (a0a (a0b 5 fun _=>vw 5) a0h))))))
   (a0j (a0F 4 (fun _=>a0w (i:=4) sc.nd rfl (Or.inl rfl)) (a0B (fun _=>g_raced) (fun _=>hr) (by decide) (fun _=>rfl) (a0a (a0b 0 fun _=>vw 0) (a0a (a0b 4 fun _=>vw 4) (a0a (a0b 5 fun _=>vw 5) (a0a (a0I (a0b 2 fun _=>vw 2) (a0b 5 fun _=>vw 5)) a0h)))))))))
   (a0j (a0t (a0V (fun _=>rfl) (fun _=>m_tuple) (QE.r (qe_rev (a3x 3 fun _=>vw 3))))))))))
theorem a7r (F0:Fn0 K mg "others_of" (top 26))(g_touches_of:Kn P w K mg base "touches_of" 1 ["events"] (a0k K (tabK potD Pt lamP lamQ) a0x)):Kn P w K mg base "others_of" 2 ["sheet"] (a0k K (tabK potD Pt lamP lamQ) a1S):=by
 have sc:a0q ["sheet","others","touch"] ["sheet"] (a0i (top 26)):=⟨rfl,rfl,rfl,by decide +kernel,rfl,by decide +kernel,by decide +kernel⟩
 exact a1m F0 sc (fun _ _ _ _ _ _=>bd1 fun _=>rfl) (k:=1) (body:=a2C) (fun f cdv A outer s H E hr=>(a0g (a9X 1 (fun _=>a0w (i:=1) sc.nd rfl (Or.inl rfl)))
   (a0g (a1F (fun _=>rfl) (a3d (a0B (fun _=>g_touches_of) (fun _=>hr) (by decide) (fun _=>rfl) (a0a (a0b 0 fun _=>vw 0) a0h))) (a0r fun _=>a0m 2 sc.nd rfl (Or.inl rfl)) (a0g (a2Q 1 (fun _=>a3S (a4H hr) (vw 1)) (a0I (a0b 2 fun _=>vw 2) a0l) (a0I (a0b 2 fun _=>vw 2) a0l))
   (a0j (a2Q 1 (fun _=>a3S (a4H hr) (vw 1)) (a0I (a0b 2 fun _=>vw 2) a0l) (a0I (a0b 2 fun _=>vw 2) a0l)))))
   (a0j (b4W 1 fun _=>vw 1)))))
theorem a9d (F0:Fn0 K mg "marks_of" (top 24))(m_tuple:mg "tuple"=none):Kn P w K mg base "marks_of" 1 ["start","sheet"] (a0k K (tabK potD Pt lamP lamQ) a2r):=by
 have sc:a0q ["start","sheet","marks","event"] ["start","sheet"] (a0i (top 24)):=⟨rfl,rfl,rfl,by decide +kernel,rfl,by decide +kernel,by decide +kernel⟩
 exact a1m F0 sc (fun _ _ _ _ _ _=>bd2 fun _ _=>rfl) (k:=0) (body:=a3k) (fun f cdv A outer s H E hr=>(a0g (a9X 2 (fun _=>a0w (i:=2) sc.nd rfl (Or.inr rfl)))
   (a0g (a1F (fun _=>rfl) (a1G (a0b 1 fun _=>vw 1)) (a0r fun _=>a0m 3 sc.nd rfl (Or.inl rfl)) (a0j (a1X (a0Z (cEq 4 fun _=>hr) (a0I (a0b 3 fun _=>vw 3) a0l) (QE.r a0s) (a0N _)) (a0j (a2Q 2 (fun _=>a3S (a4H hr) (vw 2)) a0s (a0I (a0b 3 fun _=>vw 3) a0l))) (a0g (a2Q 2 (fun _=>a3S (a4H hr) (vw 2)) a0s (a0I (a0b 3 fun _=>vw 3) a0l))
   (a0j (a2Q 2 (fun _=>a3S (a4H hr) (vw 2)) a0s (a0I (a0b 3 fun _=>vw 3) a0l)))))))
   (a0j (a8G 2 (a0t (a0V (fun _=>rfl) (fun _=>m_tuple) (QE.r (QN.ee (a3Y (N:=["boat","marks"]) (cs:=[none,some 2]) (fun _=>a1b rfl rfl rfl rfl ⟨rfl,trivial⟩ rfl rfl rfl) (fun _=>rfl) (a1G (a0b 0 fun _=>vw 0)) (a0r fun _=>a0m 0 (show x3e (["boat","marks"]:List Str) by decide +kernel) rfl (Or.inl rfl)) a3Z (b5a (fun _=>hr) (a0b 1 fun _=>vw 1) (a0b 0 fun _=>vw 0) a0s)))))))))))
theorem a9g (F0:Fn0 K mg "deeds_of" (top 27))(g_starts_of:Kn P w K mg base "starts_of" 4 ["meeting","row","day"] (a0k K (tabK potD Pt lamP lamQ) a1u))(g_others_of:Kn P w K mg base "others_of" 2 ["sheet"] (a0k K (tabK potD Pt lamP lamQ) a1S))(g_marks_of:Kn P w K mg base "marks_of" 1 ["start","sheet"] (a0k K (tabK potD Pt lamP lamQ) a2r))(m_len:mg "len"=none)(m_range:mg "range"=none)(m_reversed:mg "reversed"=none)(m_tuple:mg "tuple"=none)(m_zip:mg "zip"=none):Kn P w K mg base "deeds_of" 5 ["meeting","row","day"] (a0k K (tabK potD Pt lamP lamQ) a2t):=by
 have sc:a0q ["meeting","row","day","starts","deeds","k","others","boat","mark"] ["meeting","row","day"] (a0i (top 27)):=⟨rfl,rfl,rfl,by decide +kernel,rfl,by decide +kernel,by decide +kernel⟩
 exact a1m F0 sc (fun _ _ _ _ _ _=>bd3 fun _ _ _=>rfl) (k:=4) (body:=a3n) (fun f cdv A outer s H E hr=>(a0g (a0F 3 (fun _=>a0w (i:=3) sc.nd rfl (Or.inl rfl)) (a0B (fun _=>g_starts_of) (fun _=>hr) (by decide) (fun _=>rfl) (a0a (a0b 0 fun _=>vw 0) (a0a (a0b 1 fun _=>vw 1) (a0a (a0b 2 fun _=>vw 2) a0h)))))
   (b4U 4 (N:=["boat"]) (cs:=[none]) (fun _=>a1b rfl rfl rfl rfl trivial rfl rfl rfl) (fun _=>rfl) (a1G (a0b 1 fun _=>vw 1)) (a0r fun _=>a0m 0 (show x3e (["boat"]:List Str) by decide +kernel) rfl (Or.inl rfl)) (a0b 0 fun _=>vw 0) (a1j a0h) (fun _=>a0w (i:=4) sc.nd rfl (Or.inr rfl)) (a7U (fun _=>rfl) (a1M (fun _=>rfl) (fun _=>m_reversed) (fun _=>rfl) (fun _=>m_range) (a1Z (fun _=>rfl) (fun _=>m_len) (QE.r (a0b 2 fun _=>vw 2)))) (a2R fun _=>a0m 5 sc.nd rfl (Or.inl rfl)) (a1l (a7T 6 (fun _=>a0w (i:=6) sc.nd rfl (Or.inl rfl)) (a0B (fun _=>g_others_of) (fun _=>hr) (by decide) (fun _=>rfl) (a0a (a0I (a0b 2 fun _=>vw 2) (a0b 5 fun _=>vw 5)) a0h))) (a2a (a7U (fun _=>rfl) (qi_zip false false (fun _=>rfl) (fun _=>m_zip) (a0I (a0b 3 fun _=>vw 3) (a0b 5 fun _=>vw 5)) (a0B (fun _=>g_marks_of) (fun _=>hr) (by decide) (fun _=>rfl) (a0a (a0I (a0b 3 fun _=>vw 3) (a0b 5 fun _=>vw 5)) (a0a (a0I (a0b 2 fun _=>vw 2) (a0b 5 fun _=>vw 5)) a0h)))) (b4Z (fun _=>rfl) (a5T (a2R fun _=>a0m 7 sc.nd rfl (Or.inl rfl)) (a5T (a2R fun _=>a0m 8 sc.nd rfl (Or.inl rfl)) b2v))) (a2a (a5X (fun _=>hr) (fun _=>a1B) (fun _=>vw 4) (a0b 7 fun _=>vw 7) (a0z (a0a (a0b 5 fun _=>vw 5) (a0a (a0b 8 fun _=>vw 8) (a0a (b5b (fun _=>hr) (a0b 6 fun _=>vw 6) (a0b 7 fun _=>vw 7)) a0h)))))))))) (a0j (a0t (a0V (fun _=>rfl) (fun _=>m_tuple) (QE.r (QN.ee (a3Y (N:=["boat","deeds"]) (cs:=[none,some 4]) (fun _=>a1b rfl rfl rfl rfl ⟨rfl,trivial⟩ rfl rfl rfl) (fun _=>rfl) (a1G (a0b 1 fun _=>vw 1)) (a0r fun _=>a0m 0 (show x3e (["boat","deeds"]:List Str) by decide +kernel) rfl (Or.inl rfl)) a3Z (a0z (a0a (a0b 0 fun _=>vw 0) (a0a (a0V (fun _=>rfl) (fun _=>m_tuple) (QE.r (b3Z (fun _=>hr) (a0b 1 fun _=>vw 1) (a0b 0 fun _=>vw 0)))) a0h))))))))))))
theorem k_law (F0:Fn0 K mg "law" (top 33))(g__law_begin:Kn P w K mg base "_law_begin" 1 ["_law_script"] (a3K K))(g__law_next:Kn P w K mg base "_law_next" 1 ["_law_draws","_law_many"] (a0k K (tabK potD Pt lamP lamQ) a3E))(g__law_names:Kn P w K mg base "_law_names" 2 ["_law_draws","_law_many"] (a0k K (tabK potD Pt lamP lamQ) a1A))(g__law_sheets:Kn P w K mg base "_law_sheets" 2 ["_law_draws","_law_row"] (a0k K (tabK potD Pt lamP lamQ) a1n))(g_day_behind:Kn P w K mg base "day_behind" 6 ["meeting","row","day"] (a0k K (tabK potD Pt lamP lamQ) a0Y))(g_deeds_of:Kn P w K mg base "deeds_of" 5 ["meeting","row","day"] (a0k K (tabK potD Pt lamP lamQ) a2t))(m_len:mg "len"=none)(m_range:mg "range"=none)(a1t:mg "repr"=none)(hlaw:∀ns:List Int,ns.length<=63->b2W ⟨fun _ _=>False,fun r _=>r=.bl true,fun _ _=>False,fun _ _=>False⟩ (a2O ["_law_script","_law_draws","_law_turn","_law_row","_law_meeting","_law_day","_law_after","_law_due","_law_wrong","_law_other"] [.scr ns]) 0):Kn P w K mg base "law" 7 ["_law_script"] (a7O K Pt):=by
 have sc:a0q ["_law_script","_law_draws","_law_turn","_law_row","_law_meeting","_law_day","_law_after","_law_due","_law_wrong","_law_other"] ["_law_script"] (a0i (top 33)):=⟨rfl,rfl,rfl,by decide +kernel,rfl,by decide +kernel,by decide +kernel⟩
 exact b5K (T:=potD) (Pt:=Pt) (lpos:=lamP) (qual:=lamQ) F0 sc (fun _ _ _ _ _ _=>bd1 fun _=>rfl) (k:=6) (body:=b2W) (fun f cdv A outer s H E hr=>(a0g (a6V 1 (fun _=>a0w (i:=1) sc.nd rfl (Or.inl rfl)) (fun _=>g__law_begin) (fun _=>hr) (by decide) (fun _=>rfl) (a0b 0 fun _=>vw 0))
   (a0g (a1F (fun _=>rfl) (a4a (fun _=>rfl) (fun _=>m_range) a0l) (a0r fun _=>a0m 2 sc.nd rfl (Or.inl rfl)) (a0g (a0F 3 (fun _=>a0w (i:=3) sc.nd rfl (Or.inl rfl)) (a0B (fun _=>g__law_names) (fun _=>hr) (by decide) (fun _=>rfl) (a0a (a0b 1 fun _=>vw 1) (a0a (a0I (QN.ee (a1j (a0a (a1h a0l (a0B (fun _=>g__law_next) (fun _=>hr) (by decide) (fun _=>rfl) (a0a (a0b 1 fun _=>vw 1) (a0a a0l a0h)))) (a0a (a1h a0l (a0B (fun _=>g__law_next) (fun _=>hr) (by decide) (fun _=>rfl) (a0a (a0b 1 fun _=>vw 1) (a0a a0l a0h)))) a0h)))) (a0B (fun _=>g__law_next) (fun _=>hr) (by decide) (fun _=>rfl) (a0a (a0b 1 fun _=>vw 1) (a0a a0l a0h)))) a0h))))
   (a0g (a0F 4 (fun _=>a0w (i:=4) sc.nd rfl (Or.inl rfl)) (a0z (a0a a0l (a0a (a0B (fun _=>g__law_next) (fun _=>hr) (by decide) (fun _=>rfl) (a0a (a0b 1 fun _=>vw 1) (a0a a0l a0h))) a0h))))
   (a0g (a5R (fun _=>a2w) (a0B (fun _=>g__law_sheets) (fun _=>hr) (by decide) (fun _=>rfl) (a0a (a0b 1 fun _=>vw 1) (a0a (a0b 3 fun _=>vw 3) a0h))) (a7S (fun _=>rfl) (a1a (a0r fun _=>a0m 5 sc.nd rfl (Or.inl rfl)) (a1a (a0r fun _=>a0m 6 sc.nd rfl (Or.inl rfl)) (a1a (a0r fun _=>a0m 7 sc.nd rfl (Or.inl rfl)) a4b)))))
   (a0g (a1X (a0Z (cNe 4 fun _=>hr) (a3e (fun _=>hr) (fun _=>rfl) (fun _=>a1t) (QE.r (a0B (fun _=>g_day_behind) (fun _=>hr) (by decide) (fun _=>rfl) (a0a (a0b 4 fun _=>vw 4) (a0a (a0b 3 fun _=>vw 3) (a0a (a0b 5 fun _=>vw 5) a0h)))))) (QE.r (a3e (fun _=>hr) (fun _=>rfl) (fun _=>a1t) (QE.r (a0z (a0a a0s (a0a (a0b 6 fun _=>vw 6) a0h)))))) (a0N _)) (a0j (a0t b0e)) a0R)
   (a0g (a1X (a0Z (cNe 4 fun _=>hr) (a3e (fun _=>hr) (fun _=>rfl) (fun _=>a1t) (QE.r (a0B (fun _=>g_deeds_of) (fun _=>hr) (by decide) (fun _=>rfl) (a0a (a0b 4 fun _=>vw 4) (a0a (a0b 3 fun _=>vw 3) (a0a (a0b 5 fun _=>vw 5) a0h)))))) (QE.r (a3e (fun _=>hr) (fun _=>rfl) (fun _=>a1t) (QE.r (a0b 7 fun _=>vw 7)))) (a0N _)) (a0j (a0t b0e)) a0R)
   (a0g (a0F 8 (fun _=>a0w (i:=8) sc.nd rfl (Or.inl rfl)) (a0z (a0a a0s (a0a a1Y (a0a (a0z (a0a a0s (a0a (a1Z (fun _=>rfl) (fun _=>m_len) (QE.r (a0b 3 fun _=>vw 3))) a0h))) a0h)))))
   (a0j (a1F (fun _=>rfl) (a1G (a0z (a0a (a5U (a0b 5 fun _=>vw 5) b0a (a1q (qe_neg a0l))) (a0a (a1h (a0b 5 fun _=>vw 5) (a0z (a0a (a0z a0h) a0h))) a0h)))) (a0r fun _=>a0m 9 sc.nd rfl (Or.inl rfl)) (a0j (a1X (QW.qt (b3V (b2s cLe cLe a0l (a1Z (fun _=>rfl) (fun _=>m_len) (QE.r (a0b 9 fun _=>vw 9))) a0l) (a9V (a0Z (cNe 4 fun _=>hr) (a3e (fun _=>hr) (fun _=>rfl) (fun _=>a1t) (QE.r (a0B (fun _=>g_day_behind) (fun _=>hr) (by decide) (fun _=>rfl) (a0a (a0b 4 fun _=>vw 4) (a0a (a0b 3 fun _=>vw 3) (a0a (a0b 9 fun _=>vw 9) a0h)))))) (QE.r (a3e (fun _=>hr) (fun _=>rfl) (fun _=>a1t) (QE.r (a0b 8 fun _=>vw 8)))) (a0N _))))) (a0j (a0t b0e)) a0R)))))))))))
   (a0j (a0t b0e))))) hlaw
end
end Tb
end
section
namespace Tb
open PySem L2 Pu
variable {q:Nat}{row':List Str}{ess:List (List Ev)}{sts:List (List Str)}{Y:PV}
theorem a8l (a b:Int):eqP (.int a) (.int b)=decide (a=b):=by
 show(a == b)=_;rw [x2g]
theorem b1q (a b:Str):eqP (.str a) (.str b)=decide (a=b):=by
 show(a == b)=_;rw [x2g]
theorem b4r (a b:Bool):eqP (.bl a) (.bl b)=decide (a=b):=by
 show(a == b)=_;rw [x2g]
set_option compiler.extract_closed false in
set_option hygiene false in
local macro_rules | `(tactic| walk_at "pd")=>`(tactic| dsimp only [dreduceIte,true_and,and_true,x1v,beq_self_eq_true,Nat.reduceLeDiff,Nat.reduceLT,Int.reduceLT,Int.reduceLE,x0L,a8l,b1q,b4r,qSeq,qNx,qSet,qOwn,qAsg,b2C,qRet,qRetO,qIfS,qPar,sV,qPut,gAt,qV,qO,qC,qOp,qOpR,qUn,wI,wI0,wAdd,wSub,wMul,b4I,wMod,wEq,wNe,wLt,wLe,wGt,a6J,qB,a7W,qAnd,qNil,a0c,qTup,qLst,qL,wIx,qNo,a2S,qSl,wSl,wLen,wInt,a1p,b2B,wMin,a0y,gN,gNl,gCn,gTp,qIl,qIt,b0h,capV,capS,qTru,a5j,qCat,wNeg,a5k,a6Y,a2O,List.map,List.set,x0M,x2Q,x3A,x3B,List.cons_append,x1S,List.replicate,Nat.reduceSub,Nat.reduceAdd,Option.bind,Bool.not_true,Bool.not_false,Bool.true_or,Bool.false_or,x4u,Bool.true_and,Bool.false_and,String.reduceBEq,cmpb,a3w,eqP_ll,eqP_tt,b5W,b5V,decide_true,decide_false,b1Q,a9F,b4c,a7I,wRev,qZip,qFor,a5i,a6i,b2A,a4f,qMove,b2z,a8K,keyV,a4e,a3y,b5g,a0v,at2_0,at2_1,at3_0,at3_1,at3_2,a3M,qIxD,b5i,b5h,qDl,a2v,a8I,a8J,a6X,grd_t,setAll,gTl,b0i,a3E,qOrT,a7V,a2J,a4d,qDp,qdIf,a5Y,b5e,b0g])
set_option hygiene false in
local macro_rules | `(tactic| walk_at "pu")=>`(tactic| (try walk_at "pd") <;> (try simp only [a8l,b1q,b4r,decide_true,decide_false,true_and,and_true,reduceIte,Nat.reduceLeDiff,Nat.reduceLT,Int.reduceLT,Int.reduceLE,x0L,beq_self_eq_true,x1v]))
theorem b5G {n:Nat}{many:Int}{R:PV->Nat->Prop}(h0:1<=many)(h1:many<=24)(hn:n<=999900000)(h:∀zs n',(zs.length:Int)=many->RowS zs->n'<=n + 100->R (rowP zs) n'):a1A [.pot (q + 1),.int many] n R:=by
 refine⟨rfl,?_⟩;unfold a2f;have ll:LETS.length<=1000000:=by rw [a8b];decide
 have lc:∀c:Nat,(⟨#[c]⟩:Str).length=1:=fun _=>rfl;walk_at "pu";refine⟨by omega,fun d d0 d1=>?_⟩;obtain⟨tv,htv,etv⟩:=b1S (xs:=[PV.int 1,PV.int 3,PV.int 5,PV.int 7,PV.int 9,PV.int 11,PV.int 15,PV.int 17,PV.int 19,PV.int 21]) d0 (by simpa using d1)
 obtain⟨t,rfl,ht⟩:∃t:Int,tv=.int t/\t∈a7z:=by
   simp only [x0i,x0V,or_false] at htv;rcases htv with rfl | rfl | rfl | rfl | rfl | rfl | rfl | rfl | rfl | rfl <;> exact⟨_,rfl,by decide⟩
 have t30:=a8x ht;rw [etv];dsimp only;refine⟨by omega,fun fi f0 f1=>?_⟩;refine a0O (fun i env m=>∃z s6,env=[some (.v (.pot (q + 1))),some (.v (.int many)),some (.v (.str LETS)),some (.v (.str z)),some (.v (.int t)),some (.v (.int fi)),s6,none,none,none,none,none]/\LsE i z/\m<=n + 2 + i) _ 0 _ _ ⟨x0g "",none,rfl,⟨rfl,(fun c hc=>by rw [show(x0g "").cps.toList=[] from rfl] at hc;cases hc)⟩,by omega⟩ (fun i x env m N ex hI hN=>?_) (fun env m hI=>?_)
 · obtain⟨z,s6,rfl,hz,hm⟩:=hI;obtain⟨hi,rfl⟩:=a6Q ex;rw [x1b] at hz hm hN;have hi7:i < 7:=hi;walk_at "pu";refine⟨by omega,fun u u0 u1=>⟨ll,?_⟩⟩;rw [b0P u0 u1];dsimp only;have zl:z.length=i:=by rw [a2x];exact hz.1
   refine⟨by rw [zl,lc];omega,?_⟩;exact hN _ _ ⟨_,_,rfl,hz.more ⟨by omega,by omega⟩,by omega⟩
 · obtain⟨z,s6,rfl,hz,hm⟩:=hI;rw [a9P,x1b] at hz hm;have hz7:LsE 7 z:=hz
   have hm7:m<=n + 9:=by
     have:(7:Int).toNat=7:=rfl;omega
   have zl:z.length=7:=by rw [a2x];exact hz7.1
   walk_at "pu";refine⟨by omega,fun at_ a0 a1=>?_⟩;obtain⟨a,rfl⟩:=x3I a0;refine⟨⟨by omega,by omega⟩,?_⟩;refine a0O (fun i env m'=>∃zs s6 s9 s10,env=[some (.v (.pot (q + 1))),some (.v (.int many)),some (.v (.str LETS)),some (.v (.str z)),some (.v (.int t)),some (.v (.int fi)),s6,some (.v (.int (a:Int))),some (.own (zs.map PV.str)),s9,s10,none]/\NmA fi t a zs i/\m'<=n + 10 + i) _ 0 _ _ ⟨[],_,_,_,rfl,⟨rfl,x4d,(fun j z e=>by simp at e),(fun _ z=>nomatch z)⟩,by omega⟩ (fun i x env m' N ex hI hN=>?_) (fun env m' hI=>?_)
   · obtain⟨zs,s6,s9,s10,rfl,hs,hm'⟩:=hI;obtain⟨hi,rfl⟩:=a6Q ex;rw [x1b] at hs hm' hN;have sl:=hs.len;walk_at "pu";refine⟨⟨by omega,by omega,by omega⟩,fun u u0 u1=>?_⟩;obtain⟨b,rfl⟩:=x3I u0;have em:fi + t * (0 + (i:Int))=fi + (i:Int) * t:=by rw [Int.zero_add,Int.mul_comm]
     rw [em,lt_at];dsimp only;have eab:(a:Int) + (b:Int)=((a + b:Nat):Int):=by omega
     rw [eab];have cl:=a9s hz7 (show a<=a + b by omega) (show a + b<=7 by omega) (lt_ltr (f:=fi) (t:=t) (k:=i));have k1:=x4i z none (some (a:Int));have k2:=x4i z (some (a:Int)) (some ((a + b:Nat):Int));have k3:(x2J z none (some (a:Int))++⟨#[lt fi t i]⟩).length=(x2J z none (some (a:Int))).length + 1:=by rw [a2x,a4x,x0m,<- a2x];rfl
     refine⟨.inl ⟨by omega,by omega⟩,ll,⟨_,rfl⟩,by omega,by rw [lc];omega,by omega,by omega,by rw [x0k];omega,?_⟩;refine hN _ _ ⟨zs++[_],_,_,_,by rw [x1R];rfl,hs.more ht f0 (by omega) cl.1 cl.2,by omega⟩
   · obtain⟨zs,s6,s9,s10,rfl,hs,hm'⟩:=hI;rw [a9P,x1b] at hs hm';have sl:=hs.len;generalize hZ:zs.map PV.str=Z;have Zl:Z.length=zs.length:=by rw [<- hZ,x0k]
     walk_at "pu";refine⟨by omega,fun e e0 e1=>?_⟩;obtain⟨x,hx,ex⟩:=b1S (xs:=[PV.str (x0g "drop"),PV.str (x0g "touch"),PV.str (x0g "none"),PV.str (x0g "d"),PV.str (x0g "u"),PV.str (x0g "t"),PV.str (x0g "o")]) e0 (by simpa using e1);rw [ex]
     obtain⟨y,rfl,by_⟩:∃z,x=.str z/\a2H z:=by
       simp only [x0i,x0V,or_false] at hx;rcases hx with rfl | rfl | rfl | rfl | rfl | rfl | rfl <;> exact⟨_,rfl,by decide,by decide,by unfold Ltr;decide⟩
     dsimp only;have fin:∀m2,m2<=n + 100->R (.tup Z) m2:=fun m2 h2=>by rw [<- hZ];exact h zs m2 (by omega) ⟨hs.nd,hs.bt⟩ h2
     refine a7Y hZ ?_
     by_cases c:y∈zs
     · exact if_f (by simp [c]) (fin _ (by omega))
     · refine if_t (by simp [c]) ⟨by omega,fun d2 d20 d21=>?_⟩
       by_cases c2:d2=0
       · refine if_t (decide_eq_true c2) ⟨⟨_,rfl⟩,⟨by omega,by omega,by omega⟩,fun j j0 j1=>?_⟩;rw [a5x j0 (by omega)];dsimp only;have es:Z.set j.toNat (.str y)=(zs.set j.toNat y).map PV.str:=by rw [<- hZ,x4M]
         rw [es];refine h _ _ (by rw [x0B];omega) ⟨?_,fun w hw=>?_⟩ (by omega)
         · exact b0z hs.nd c j.toNat
         · rcases List.mem_or_eq_of_mem_set hw with hw | hw
           · exact hs.bt w hw
           · rw [hw];exact by_
       · exact if_f (decide_eq_false c2) (fin _ (by omega))
theorem b4j {s n k m:Nat}{r:Int}{R:PV->Nat->Prop}(h8:s<=8)(hn:1<=n)(hk:k<=1000)(h:R (.tup [.int ((k * s:Nat):Int),.int ((hiN s n k:Nat):Int)]) m):a4X [.tup [.int (s:Int),.int r],.int (n:Int),.int (k:Int)] m R:=by
 refine⟨rfl,?_⟩;unfold b0q;walk_at "pu";refine⟨.inr ⟨by omega,by omega⟩,?_⟩;have e2:(k:Int) * s=((k * s:Nat):Int):=(Int.natCast_mul k s).symm
 have e:(if(n:Int) - 1 < (k:Int) * s + s then(n:Int) - 1 else(k:Int) * s + s)=((hiN s n k:Nat):Int):=by
   rw [e2];unfold hiN
   split <;> omega
 try dsimp only
 rw [e,e2];exact h
theorem a2U {es:List Ev}{n:Nat}{R:PV->Nat->Prop}(hl:es.length<=1000000)(h:R (.lst ((es.filter isTo).map evP)) n):a0x [shP es] n R:=by
 refine⟨rfl,?_⟩;unfold a2d shP;generalize hE:es.map evP=E;have El:E.length=es.length:=by rw [<- hE,x0k]
 walk_at "pu";refine⟨by omega,?_⟩;rw [<- hE];refine a6u evP isTo _ _ _ _ (fun e he m Q hQ=>?_) h;cases e with
 | d x =>
   rw [b3w] at *;walk_at "pu";rw [a9m];exact hQ
 | t x y =>
   rw [a4J] at *;walk_at "pu";exact hQ
theorem a7m {f:List Str}{i j n:Nat}{R:PV->Nat->Prop}(hi:i < f.length)(hj:j < f.length)(h:R (rowP (exch f i j)) n):a1T [rowP f,.int (i:Int),.int (j:Int)] n R:=by
 refine⟨rfl,?_⟩;unfold a2D;unfold rowP at *;have ai:∀{k:Nat},k < f.length->atI (f.map PV.str) (k:Int)=some (.str (nm f k)):=fun {k} hk=>a2G (by rw [x0v,nm_at hk];rfl);have e:((f.map PV.str).set i (.str (nm f j))).set j (.str (nm f i))=(exch f i j).map PV.str:=by unfold exch;rw [x4M,x4M]
 generalize hF:f.map PV.str=F at *;have Fl:F.length=f.length:=by rw [<- hF,x0k]
 walk_at "pu";rw [ai hj];dsimp only;rw [ai hi];dsimp only;refine⟨⟨_,rfl⟩,?_⟩;rw [a5x (by omega) (by omega)];dsimp only;rw [a5x (by omega) (by rw [x0B];omega)];dsimp only;rw [x1F,x1F,e];exact h
theorem m_rowb {zs:List Str}{es:List Ev}{n:Nat}{R:PV->Nat->Prop}(h24:zs.length<=1000)(hl:es.length<=1000)(hb:∀b∈es.flatMap evB,b∈zs)(h:R (rowP (rbh zs es)) n):a1z [rowP zs,shP es] n R:=by
 refine⟨rfl,?_⟩;unfold a2e;have hix:∀z∈zs,∀{R:PV->Prop},R (.int (ixS zs z))->a3R (.tup (zs.map PV.str)) (.str z) R:=fun z hz {R} q=>m_ix rfl hz (by omega) q;have hbe:∀e∈es,∀b∈evB e,b∈zs:=fun e he b hb'=>hb b (x4p.mpr ⟨e,he,hb'⟩);generalize hS:shP es=S;have hr0:rowP zs=.tup (zs.map PV.str):=rfl;generalize hZ:zs.map PV.str=Z at *;rw [hr0];walk_at "pu";rw [<- hS];refine a2U (by omega) ?_;dsimp only;rw [hS];refine a0O (fun i env m=>∃s3,env=[some (.v (.tup Z)),some (.v S),some (.v (rowP (((es.filter isTo).take i).foldl (exE zs) zs))),s3]/\m=n) _ 0 _ _ ⟨none,by rw [List.take_zero,List.foldl_nil,hr0],rfl⟩ (fun i x env m N ex hI hN=>?_) (fun env m hI=>?_)
 · obtain⟨s3,rfl,rfl⟩:=hI;obtain⟨e,ee,rfl⟩:=a2g ex;rw [x1b] at hN ⊢;have st:((es.filter isTo).take (i + 1)).foldl (exE zs) zs=exE zs (((es.filter isTo).take i).foldl (exE zs) zs) e:=by rw [a2L ee,List.foldl_append];rfl
   have fl:(((es.filter isTo).take i).foldl (exE zs) zs).length=zs.length:=b1o zs _ _;rw [st] at hN;generalize ((es.filter isTo).take i).foldl (exE zs) zs=f at *;obtain⟨he,ht⟩:=x1c.mp (x0A ee);have em:=hbe e he;cases e with
   | d x=>cases ht
   | t x y =>
     have hx:=em x (by simp [evB]);have hy:=em y (by simp [evB]);have lx:=a4T hx;have ly:=a4T hy;rw [a4J];generalize hF:rowP f=F;walk_at "pu";refine⟨⟨_,rfl⟩,hix x hx ?_⟩;refine⟨⟨_,rfl⟩,hix y hy ?_⟩;rw [<- hF];refine a7m (by omega) (by omega) ?_;exact hN _ _ ⟨_,rfl,rfl⟩
 · obtain⟨s3,rfl,rfl⟩:=hI;rw [x1b,x0k,x3o,a6S];have h':R (rowP (es.foldl (exE zs) zs)) m:=h;generalize rowP (es.foldl (exE zs) zs)=F at *;walk_at "pu";exact h'
theorem b5R {s n k:Nat}(hn:1<=n):hiN s n k + 1<=n:=by unfold hiN;omega
theorem a7l {s n k m:Nat}{r:Int}{row:List Str}{R:PV->Nat->Prop}(h8:s<=8)(hn:1<=n)(hl:row.length=n)(hk:k<=1000)(h:R (rowP (a0A s n k row)) m):a0X [.tup [.int (s:Int),.int r],rowP row,.int (k:Int)] m R:=by
 refine⟨rfl,?_⟩;unfold a3h
 have e:cutP (row.map PV.str) (some ((k * s:Nat):Int)) (some (((hiN s n k:Nat):Int) + 1))=(a0A s n k row).map PV.str:=by
   rw [a5C,show((hiN s n k:Nat):Int) + 1=((hiN s n k + 1:Nat):Int) by omega,b4z row (by rw [hl];exact b5R hn)]
   rfl
 unfold rowP at *;generalize hZ:row.map PV.str=Z at *;have Zl:Z.length=n:=by rw [<- hZ,x0k];exact hl
 walk_at "pu";rw [Zl];refine b4j h8 hn hk ?_;walk_at "pu";rw [e];exact h
theorem m_put {s n k m:Nat}{r:Int}{row b:List Str}{R:PV->Nat->Prop}(h8:s<=8)(hn:1<=n)(h24:n<=1000)(hl:row.length=n)(hb:b.length<=1000)(hk:k<=1000)(h:R (rowP (putN s n k row b)) m):a3P [.tup [.int (s:Int),.int r],rowP row,.int (k:Int),rowP b] m R:=by
 refine⟨rfl,?_⟩;unfold a5n;have e1:cutP (row.map PV.str) none (some ((k * s:Nat):Int))=(row.take (k * s)).map PV.str:=by rw [a5C,cut_hd]
 have e2:cutP (row.map PV.str) (some (((hiN s n k:Nat):Int) + 1)) none=(row.drop (hiN s n k + 1)).map PV.str:=by
   rw [a5C,show((hiN s n k:Nat):Int) + 1=((hiN s n k + 1:Nat):Int) by omega,cut_tl]
 have l1:((row.take (k * s)).map PV.str).length<=1000:=by rw [x0k,x1i];omega
 have l2:((row.drop (hiN s n k + 1)).map PV.str).length<=1000:=by rw [x0k,x1z];omega
 have e3:(row.take (k * s)).map PV.str++b.map PV.str++(row.drop (hiN s n k + 1)).map PV.str=(putN s n k row b).map PV.str:=by unfold putN;rw [x1R,x1R]
 unfold rowP at *;generalize hZ:row.map PV.str=Z at *;generalize hB:b.map PV.str=B at *;have Bl:B.length=b.length:=by rw [<- hB,x0k]
 have Zl:Z.length=n:=by rw [<- hZ,x0k];exact hl
 walk_at "pu";rw [Zl];refine b4j h8 hn hk ?_;walk_at "pu";rw [e1,e2];refine⟨by omega,by rw [x0m];omega,?_⟩;rw [e3];exact h
theorem b0H {s n k m:Nat}{r:Int}{row:List Str}{es:List Ev}{R:PV->Nat->Prop}(h8:s<=8)(hn:1<=n)(h24:n<=1000)(hl:row.length=n)(hk:k<=1000)(he:es.length<=1000)(hb:∀b∈es.flatMap evB,b∈a0A s n k row)(h:R (rowP (putN s n k row (rbh (a0A s n k row) es))) m):a3u [.tup [.int (s:Int),.int r],rowP row,.int (k:Int),shP es] m R:=by
 refine⟨rfl,?_⟩;unfold a7h;have sl:(a0A s n k row).length<=1000:=by rw [a2k hl hn];have:=b5R (s:=s) (k:=k) hn;omega
 have rl:(rbh (a0A s n k row) es).length<=1000:=by rw [show(rbh (a0A s n k row) es).length=_ from b1o _ _ _];exact sl
 generalize hS:shP es=S;generalize hW:rowP row=W;walk_at "pu";rw [<- hW];refine a7l h8 hn hl hk ?_;rw [<- hS];refine m_rowb sl he hb ?_;exact m_put h8 hn h24 hl rl hk h
theorem b4Q {a b:Int}{ys:List PV}(h:Srt ys [.int a,.int b]):ys=[.int (min a b),.int (max a b)]:=by
 obtain⟨p,q⟩:=h;have l:=p.length_eq
 match ys,l with
 | [u, v], _ =>
   have hq:lexK (keyP v) (keyP u)=false:=by simpa using q
   have two:(u=.int a/\v=.int b)\/(u=.int b/\v=.int a):=by
     have hu:u∈[PV.int a,PV.int b]:=p.mem_iff.mp (by simp);rcases x0i.mp hu with e | hu
     · subst e;exact .inl ⟨rfl,by simpa using(List.perm_cons _).mp p⟩
     · have e:u=.int b:=by simpa using hu
       subst e;have p2:=p.trans (List.Perm.swap (PV.int b) (PV.int a) []);exact .inr ⟨rfl,by simpa using(List.perm_cons _).mp p2⟩
   rcases two with⟨rfl,rfl⟩ | ⟨rfl,rfl⟩
   · have:¬b < a:=by
       intro c
       have e:lexK [x2j b] [x2j a]=true:=by
         show(if(x2j b:Key)=x2j a then lexK [] [] else decide (b < a))=true;rw [if_neg (by intro z;cases z;omega)];exact decide_eq_true c
       rw [show keyP (PV.int b)=[x2j b] from rfl,show keyP (PV.int a)=[x2j a] from rfl,e] at hq;cases hq
     rw [show min a b=a by omega,show max a b=b by omega]
   · have:¬a < b:=by
       intro c
       have e:lexK [x2j a] [x2j b]=true:=by
         show(if(x2j a:Key)=x2j b then lexK [] [] else decide (a < b))=true;rw [if_neg (by intro z;cases z;omega)];exact decide_eq_true c
       rw [show keyP (PV.int b)=[x2j b] from rfl,show keyP (PV.int a)=[x2j a] from rfl,e] at hq;cases hq
     rw [show min a b=b by omega,show max a b=a by omega]
theorem a2V {st:List Str}{x y:Str}{n:Nat}{R:PV->Nat->Prop}(hs:st.length<=100)(hx:x∈st)(hy:y∈st)(h:R (rowP (btwU st x y)) n):a0D [rowP st,evP (.t x y)] n R:=by
 refine⟨rfl,?_⟩;unfold a4j;have hix:∀z∈st,∀{R:PV->Prop},R (.int (ixS st z))->a3R (.tup (st.map PV.str)) (.str z) R:=fun z hz {R} q=>m_ix rfl hz (by omega) q;have hr0:rowP st=.tup (st.map PV.str):=rfl;have lx:=a4T hx;have ly:=a4T hy
 have hcut:cutP (st.map PV.str) (some (min (ixS st x:Int) (ixS st y) + 1)) (some (max (ixS st x:Int) (ixS st y)))=(btwU st x y).map PV.str:=by
   have:=b4z (st.map PV.str) (a:=min (ixS st x) (ixS st y) + 1) (b:=max (ixS st x) (ixS st y)) (by rw [x0k];omega);unfold btwU;rw [List.map_drop,List.map_take,<- this]
   congr 2 <;> omega
 generalize hZ:st.map PV.str=Z at *;rw [hr0,a4J];walk_at "pu";refine⟨⟨_,rfl⟩,hix x hx ?_⟩;refine⟨⟨_,rfl⟩,hix y hy ?_⟩;refine⟨.inl (by simp),fun ys hys=>?_⟩;rw [b4Q hys];refine⟨rfl,?_⟩;walk_at "pu";rw [hcut];exact h
theorem b5E {st:List Str}{x y:Str}{n:Nat}{R:PV->Nat->Prop}(hs:st.length<=100)(hx:x∈st)(hy:y∈st)(h:R (.bl (decide (ixS st x < ixS st y))) n):a2s [rowP st,evP (.t x y)] n R:=by
 refine⟨rfl,?_⟩;unfold a3l;have hix:∀z∈st,∀{R:PV->Prop},R (.int (ixS st z))->a3R (.tup (st.map PV.str)) (.str z) R:=fun z hz {R} q=>m_ix rfl hz (by omega) q;have hr0:rowP st=.tup (st.map PV.str):=rfl;generalize hZ:st.map PV.str=Z at *;rw [hr0,a4J];walk_at "pu";refine⟨⟨_,rfl⟩,hix y hy ?_⟩;refine⟨⟨_,rfl⟩,hix x hx ?_⟩;dsimp only;rw [show decide ((ixS st x:Int) < ixS st y)=decide (ixS st x < ixS st y) by rw [decide_eq_decide];omega];exact h
theorem m_far {st:List Str}{r:Int}{x y:Str}{n:Nat}{R:PV->Nat->Prop}(hs:st.length<=100)(hx:x∈st)(hy:y∈st)(h:R (.bl (decide (r < ((btwU st x y).length:Int)))) n):a3Q [rowP st,.int r,evP (.t x y)] n R:=by
 refine⟨rfl,?_⟩;unfold a5o;generalize hS:rowP st=S;generalize hT:evP (.t x y)=T;walk_at "pu";subst hS hT;refine a2V hs hx hy ?_;dsimp only;rw [x0k];exact h
theorem a3t:∀(es:List Ev) (s0 s1:Option Pu.Slot) (n:Nat) (R:List PV->Nat->Prop),R ((es.flatMap evB).map PV.str) n->a4z (gN 0) (qIt (qSl (qV 0) (a2S (qC (.int 1))) qNo)) (gN 1) qTru (qV 1) (es.map evP) [s0,s1] n R
 | [],_,_,_,_,h=>h
 | .d x :: es, s0, s1, n, R, h => by
   have ih:=a3t es (some (.v (.tup [.str DROP,.str x]))) (some (.v (.str x))) n (fun ws n4=>R (.str x::ws) n4) h;rw [x0C,b3w];have e:cutP [PV.str DROP,PV.str x] (some 1) none=[.str x]:=rfl;generalize es.map evP=E at *;unfold a4z;walk_at "pu";rw [e];exact⟨by simp,ih⟩
 | .t x y :: es, s0, s1, n, R, h => by
   have ih:=a3t es (some (.v (.tup [.str a6G,.str x,.str y]))) (some (.v (.str y))) n (fun ws n4=>R (.str x::.str y::ws) n4) h;rw [x0C,a4J];have e:cutP [PV.str a6G,PV.str x,PV.str y] (some 1) none=[.str x,.str y]:=rfl;generalize es.map evP=E at *;unfold a4z;walk_at "pu";rw [e];exact⟨by simp,ih⟩
theorem a7n {es:List Ev}{n:Nat}{R:PV->Nat->Prop}(hl:es.length<=1000)(h:R (.lst ((es.flatMap evB).map PV.str)) n):a0P [shP es] n R:=by
 refine⟨rfl,?_⟩;unfold a3o shP;have go:=fun R' h'=>a3t es none none n R' h';generalize hE:es.map evP=E at *;have El:E.length=es.length:=by rw [<- hE,x0k]
 walk_at "pu";exact⟨by omega,go _ h⟩
theorem a8r {x:Str}:∀{ys:List Str},x∉ys->x3J (.str x) (ys.map x4q)=0
 | [],_=>rfl
 | y :: ys, h => by
   have hy:y≠x:=fun e=>h (by rw [e];exact x0e);show(if x3K (.str y) (.str x) then 1 else 0) + x3J (.str x) (ys.map x4q)=0;rw [a8r fun z=>h (x0d _ z)]
   have e:x3K (.str y) (.str x)=false:=by
     show decide (y=x)=false;exact decide_eq_false hy
   rw [e];rfl
theorem b1H {x:Str}:∀{ys:List Str},ys.Nodup->x∈ys->x3J (.str x) (ys.map x4q)=1
 | [],_,h=>nomatch h
 | y :: ys, nd, h => by
   obtain⟨n1,n2⟩:=x0J.mp nd;show(if x3K (.str y) (.str x) then 1 else 0) + x3J (.str x) (ys.map x4q)=1
   by_cases e:y=x
   · subst e
     have e:x3K (.str y) (.str y)=true:=by
       show decide (y=y)=true;exact decide_eq_true rfl
     rw [a8r n1,e];rfl
   · have hx:x∈ys:=(x0i.mp h).elim (fun z=>absurd z.symm e) id
     have e':x3K (.str y) (.str x)=false:=by
       show decide (y=x)=false;exact decide_eq_false e
     rw [b1H n2 hx,e'];rfl
theorem b0K {st:List Str}{es:List Ev}{n:Nat}{R:PV->Nat->Prop}(hf:Fair st es)(hl:es.length<=1000)(h:R .non n):a1c [rowP st,shP es] n R:=by
 refine⟨rfl,?_⟩;unfold a1O;have hr0:rowP st=.tup (st.map PV.str):=rfl;generalize hS:shP es=S;have nin:∀{z:Str} {R:PV->Prop},R (.bl (!decide (z∈st)))->wIn 4 true (.str z) (.tup (st.map PV.str)) R:=fun q=>b3a rfl q;rw [hr0];generalize hZ:st.map PV.str=Z at *;walk_at "pu";rw [<- hS];refine a7n hl ?_;rw [hS];have tx:=a5I (es.flatMap evB);generalize hB:(es.flatMap evB).map PV.str=B at *;refine a0O (fun i env m=>∃s3,env=[some (.v (.tup Z)),some (.v S),some (.v (.lst B)),s3]/\m=n) _ 0 _ _ ⟨none,rfl,rfl⟩ (fun i x env m N ex hI hN=>?_) (fun env m hI=>?_)
 · obtain⟨s3,rfl,rfl⟩:=hI;rw [<- hB] at ex;obtain⟨z,ez,rfl⟩:=a2g ex;have zm:=x0A ez;have zs:=hf.sub z zm;walk_at "pu";refine nin ?_;rw [decide_eq_true zs];refine if_f rfl ?_;refine⟨⟨_,rfl⟩,?_⟩;rw [tx];dsimp only;rw [b1H hf.nd zm];exact hN _ _ ⟨_,rfl,rfl⟩
 · obtain⟨s3,rfl,rfl⟩:=hI;walk_at "pu";exact h
theorem b0F {r:Int}{st:List Str}{es:List Ev}{x y:Str}{n:Nat}{R:PV->Nat->Prop}(hs:st.length<=100)(nd:st.Nodup)(so:a7A r st es)(he:Ev.t x y∈es)(hl:es.length<=1000)(h:R .non n):a0S [rowP st,.int r,shP es,evP (.t x y)] n R:=by
 refine⟨rfl,?_⟩;unfold a1C;obtain⟨hx,hy⟩:=so.fair.tx he;generalize hS:shP es=S;generalize hW:rowP st=W;generalize hT:evP (.t x y)=T;walk_at "pu";subst hW hT;refine b5E hs hx hy ?_;have ah:=so.ahead x y he;refine if_f (decide_eq_false (by omega)) ?_;refine m_far hs hx hy ?_;have ne:=so.near x y he;refine if_f (decide_eq_false (by omega)) ?_;rw [<- hS];refine a7n hl ?_;rw [hS];refine a2V hs hx hy ?_;have ful:=so.full x y he;have nin:∀{z:Str} {R:PV->Prop},R (.bl (!decide (z∈es.flatMap evB)))->wIn 4 true (.str z) (.lst ((es.flatMap evB).map PV.str)) R:=fun q=>a7Y rfl q;generalize hB:(es.flatMap evB).map PV.str=B at *;generalize hW:rowP st=W;generalize hT:evP (.t x y)=T;refine a0O (fun i env m=>∃s5,env=[some (.v W),some (.v (.int r)),some (.v S),some (.v T),some (.v (.lst B)),s5]/\m=n) _ 0 _ _ ⟨none,rfl,rfl⟩ (fun i z env m N ex hI hN=>?_) (fun env m hI=>?_)
 · obtain⟨s5,rfl,rfl⟩:=hI;obtain⟨z,ez,rfl⟩:=a2g ex;have zm:=ful z (x0A ez);walk_at "pu";refine nin ?_;rw [decide_eq_true zm];exact if_f rfl (hN _ _ ⟨_,rfl,rfl⟩)
 · obtain⟨s5,rfl,rfl⟩:=hI;walk_at "pu";exact h
theorem b0I {r:Int}{st:List Str}{es:List Ev}{x y x' y':Str}{n:Nat}{R:PV->Nat->Prop}(hs:st.length<=100)(nd:st.Nodup)(so:a7A r st es)(he:Ev.t x y∈es)(he':Ev.t x' y'∈es)(h:R (.bl false) n):a1I [rowP st,evP (.t x y),evP (.t x' y')] n R:=by
 refine⟨rfl,?_⟩;unfold a3m;obtain⟨hx,hy⟩:=so.fair.tx he;have pl:=so.plain x y x' y' he he';have mb:∀{R:PV->Nat->Prop},R (.lst [.str x,.str y,.str x',.str y']) n->a0P [.tup [.tup [.str a6G,.str x,.str y],.tup [.str a6G,.str x',.str y']]] n R:=fun q=>a7n (es:=[.t x y,.t x' y']) (by simp) q;have mw:∀{R:PV->Nat->Prop},R (rowP (btwU st x y)) n->a0D [rowP st,.tup [.str a6G,.str x,.str y]] n R:=fun q=>a2V hs hx hy q;generalize hW:rowP st=W at *;rw [a4J,a4J];walk_at "pu";refine mb ?_;have tx:a3a [.str x,.str y,.str x',.str y']=some [x,y,x',y']:=rfl;dsimp only;rw [tx];dsimp only;refine⟨by simp,?_⟩
 by_cases c:((met (a6k [x,y,x',y']) [x,y,x',y'].length).length:Int)=4
 · refine if_f (by rw [decide_eq_true c];rfl) ?_;refine mw ?_;refine b1g rfl ?_;refine b1g rfl ?_;rw [eqP_bb,decide_eq_decide.mpr pl];generalize decide (y'∈btwU st x y)=b;cases b <;> exact h
 · refine if_t (by rw [decide_eq_false c];rfl) ?_;exact h
theorem b0J {r:Int}{st:List Str}{es:List Ev}{x y:Str}{n:Nat}{R:PV->Nat->Prop}(hs:st.length<=100)(nd:st.Nodup)(so:a7A r st es)(he:Ev.t x y∈es)(h:R .non n):a0T [rowP st,evP (.t x y),.lst ((es.filter isTo).map evP)] n R:=by
 refine⟨rfl,?_⟩;unfold a1D;have mi:∀{x' y':Str} {R:PV->Nat->Prop},Ev.t x' y'∈es->R (.bl false) n->a1I [rowP st,evP (.t x y),evP (.t x' y')] n R:=fun hh q=>b0I hs nd so he hh q;generalize hW:rowP st=W at *;generalize hT:evP (.t x y)=T at *;generalize hL:(es.filter isTo).map evP=L;walk_at "pu";refine a0O (fun i env m=>∃s3,env=[some (.v W),some (.v T),some (.v (.lst L)),s3]/\m=n) _ 0 _ _ ⟨none,rfl,rfl⟩ (fun i z env m N ex hI hN=>?_) (fun env m hI=>?_)
 · obtain⟨s3,rfl,rfl⟩:=hI;rw [<- hL] at ex;obtain⟨e,ee,rfl⟩:=a2g ex;obtain⟨em,et⟩:=x1c.mp (x0A ee);cases e with
   | d z=>cases et
   | t x' y' =>
     generalize hU:evP (.t x' y')=U at *;walk_at "pu";rw [<- hU];refine mi em ?_;rw [hU];exact if_f rfl (hN _ _ ⟨_,rfl,rfl⟩)
 · obtain⟨s3,rfl,rfl⟩:=hI;walk_at "pu";exact h
theorem b3g {r:Int}{st:List Str}{es:List Ev}{n:Nat}{R:PV->Nat->Prop}(hs:st.length<=100)(nd:st.Nodup)(so:a7A r st es)(hl:es.length<=1000)(h:R .non n):a1v [rowP st,.int r,shP es] n R:=by
 refine⟨rfl,?_⟩;unfold a2B;have mt:∀{x y:Str} {R:PV->Nat->Prop},Ev.t x y∈es->R .non n->a0S [rowP st,.int r,shP es,evP (.t x y)] n R:=fun he q=>b0F hs nd so he hl q;have mc:∀{x y:Str} {R:PV->Nat->Prop},Ev.t x y∈es->R .non n->a0T [rowP st,evP (.t x y),.lst ((es.filter isTo).map evP)] n R:=fun he q=>b0J hs nd so he q;have mb:∀{R:PV->Nat->Prop},R .non n->a1c [rowP st,shP es] n R:=fun q=>b0K so.fair hl q;have mo:∀{R:PV->Nat->Prop},R (.lst ((es.filter isTo).map evP)) n->a0x [shP es] n R:=fun q=>a2U (by omega) q;generalize hW:rowP st=W at *;generalize hS:shP es=S at *;generalize hL:(es.filter isTo).map evP=L at *;walk_at "pu";refine mb ?_
 try dsimp only
 refine mo ?_;refine a0O (fun i env m=>∃s5,env=[some (.v W),some (.v (.int r)),some (.v S),some (.v .non),some (.v (.lst L)),s5]/\m=n) _ 0 _ _ ⟨none,rfl,rfl⟩ (fun i z env m N ex hI hN=>?_) (fun env m hI=>?_)
 · obtain⟨s3,rfl,rfl⟩:=hI;rw [<- hL] at ex;obtain⟨e,ee,rfl⟩:=a2g ex;obtain⟨em,et⟩:=x1c.mp (x0A ee);cases e with
   | d z=>cases et
   | t x' y' =>
     generalize hU:evP (.t x' y')=U at *;walk_at "pu";rw [<- hU];refine mt em ?_;walk_at "pu";refine mc em ?_;rw [hU];exact hN _ _ ⟨_,rfl,rfl⟩
 · obtain⟨s3,rfl,rfl⟩:=hI;walk_at "pu";exact h
noncomputable def evL (st:List Str):Ev->Int
 | .d _=>0
 | .t x y=>((btwU st x y).length:Int)
theorem a8c {st:List Str}{n:Nat}(hs:st.length<=100):∀(ts:List Ev) (R:List Int->Nat->Prop),(∀e∈ts,∃x y,e=.t x y/\x∈st/\y∈st)->R (ts.map (evL st)) n->a7o (qUn wLen (a0y a0D (a0c (qV 1) (a0c (qV 0) qNil)))) (rowP st) (ts.map evP) n R
 | [],R,_,h=>h
 | e :: ts, R, ht, h => by
   obtain⟨x,y,rfl,hx,hy⟩:=ht e x0e;have ih:=a8c hs (n:=n) ts (fun ks n2=>R (evL st (.t x y)::ks) n2) (fun e he=>ht e (x0d _ he)) h;have mb:∀{R:PV->Nat->Prop},R (rowP (btwU st x y)) n->a0D [rowP st,evP (.t x y)] n R:=fun q=>a2V hs hx hy q;rw [x0C];generalize ts.map evP=E at *;generalize hW:rowP st=W at *;generalize hT:evP (.t x y)=T at *;unfold a7o;walk_at "pu";refine mb ?_
   try dsimp only
   refine⟨_,rfl,?_⟩;have e:(((btwU st x y).map PV.str).length:Int)=evL st (.t x y):=by rw [x0k];rfl
   rw [e];exact ih
theorem b2e {ts:List Ev}{f:Ev->Int}{ys:List PV}(h:SrtK (ts.map f) (ts.map evP) ys):∃ts':List Ev,ys=ts'.map evP/\ts'.Perm ts/\ts'.Pairwise fun a b=>f a<=f b:=by
 obtain⟨ps,hp,rfl,ho⟩:=h
 have e:(ts.map f).zip (ts.map evP)=ts.map fun e=>(f e,evP e):=by
   clear hp
   induction ts with
   | nil=>rfl
   | cons t ts ih=>simp [ih]
 rw [e] at hp;obtain⟨l,pl,rfl⟩:=a6c hp ts rfl;refine⟨l,by rw [x2B];rfl,pl,?_⟩;rw [List.pairwise_map] at ho;exact ho
noncomputable def isDr (e:Ev):Bool:=!isTo e
theorem b5F {r:Int}{st:List Str}{es:List Ev}{n:Nat}{R:PV->Nat->Prop}(hs:st.length<=63)(nd:st.Nodup)(so:a7A r st es)(hl:es.length<=63)
   (h:∀ts:List Ev,ts.Perm (es.filter isTo)->(ts.Pairwise fun a b=>evL st a<=evL st b)->R (.tup [.str (x0g "course"),.tup ((es.filter isDr++ts).map evP)]) n):a2q [rowP st,.int r,shP es] n R:=by
 refine⟨rfl,?_⟩;unfold a3j;have mr:∀{R:PV->Nat->Prop},R .non n->a1v [rowP st,.int r,shP es] n R:=fun q=>b3g (by omega) nd so (by omega) q;have mo:∀{R:PV->Nat->Prop},R (.lst ((es.filter isTo).map evP)) n->a0x [shP es] n R:=fun q=>a2U (by omega) q
 have tl:((es.filter isTo).map evP).length < 64:=by
   rw [x0k];have:=x2V isTo es;omega
 have dl:((es.filter isDr).map evP).length < 64:=by
   rw [x0k];have:=x2V isDr es;omega
 have kk:∀R,R ((es.filter isTo).map (evL st)) n->a7o (qUn wLen (a0y a0D (a0c (qV 1) (a0c (qV 0) qNil)))) (rowP st) ((es.filter isTo).map evP) n R:=fun R q=>a8c (by omega) _ R (fun e he=>by
   obtain⟨em,et⟩:=x1c.mp he;cases e with
   | d z=>cases et
   | t x y =>
     obtain⟨hx,hy⟩:=so.fair.tx em
     exact⟨x,y,rfl,hx,hy⟩) q
 have hS':shP es=.tup (es.map evP):=rfl;have El:(es.map evP).length=es.length:=x0k ..
 have cf:=fun R' q=>a6u (tt:=(qB (qOp (wEq 4) (qOp wIx (qV 0) (qC (.int 0))) (qC (.str (x0g "drop")))))) (rest:=[]) evP isDr es none n R' (fun e he m Q hQ=>by
   cases e with
   | d x =>
     rw [b3w] at *;walk_at "pu";exact hQ
   | t x y =>
     rw [a4J] at *;walk_at "pu";rw [a4L]
     exact hQ) q
 generalize hW:rowP st=W at *;generalize hS:shP es=S at *;generalize hL:(es.filter isTo).map evP=L at *;generalize hD:(es.filter isDr).map evP=D at *;generalize hE:es.map evP=E at *;walk_at "pu";refine mr ?_
 try dsimp only
 rw [hS']
 try dsimp only
 refine⟨by omega,cf _ ?_⟩;rw [<- hS'];refine mo ?_
 try dsimp only
 refine⟨tl,kk _ fun ys hy=>?_⟩;rw [<- hL] at hy;obtain⟨ts,rfl,pt,ot⟩:=b2e hy;have:=h ts pt ot;rw [x1R,hD] at this;have tsl:(ts.map evP).length < 64:=by rw [x0k,pt.length_eq,<- x0k (f:=evP),hL];exact tl
 generalize ts.map evP=TE at *
 try dsimp only
 refine⟨by omega,this⟩
theorem b0G {s n m:Nat}{r:Int}{R:PV->Nat->Prop}(h1:1<=s)(hn:1<=n)(h8:s<=8)(h:R (.int (((n + s - 1) / s:Nat):Int)) m):a1o [.tup [.int (s:Int),.int r],.int (n:Int)] m R:=by
 refine⟨rfl,?_⟩;unfold a3i;walk_at "pu";refine⟨⟨by omega,by omega⟩,?_⟩
 have e:((n:Int) + s - 1) / s=(((n + s - 1) / s:Nat):Int):=by
   rw [show(n:Int) + s - 1=((n + s - 1:Nat):Int) by omega]
   rfl
 rw [e];exact h
theorem a4D:decide (x0g "course"=x0g "unsound")=false:=by decide +kernel
theorem m_dayb {P:List Str->List Ev->Prop}{s n m r:Nat}{row:List Str}{R:PV->Nat->Prop}(hf:∀st es,P st es->a7A (r:Int) st es/\es.length<=63)(h1:1<=s)(h8:s<=8)(hn:1<=n)(h24:n<=24)(hr:RowS row)(hl:row.length=n)
   (hd:Dy P s n ((n + s - 1) / s) row ((n + s - 1) / s) ess sts row') (h:R (.tup [.str (x0g "row"),rowP row']) m):a0Y [.tup [.int (s:Int),.int (r:Int)],rowP row,dayP ess] m R:=by
 refine⟨rfl,?_⟩;unfold a1y;have mle:=a5h (s:=s) (n:=n) h1 hn;have mr:∀{R:PV->Nat->Prop},R (.int (((n + s - 1) / s:Nat):Int)) m->a1o [.tup [.int (s:Int),.int (r:Int)],.int (n:Int)] m R:=fun q=>b0G h1 hn h8 q;generalize hmx:(n + s - 1) / s=mx at *;obtain⟨el,sl⟩:=hd.len;have dl:(ess.map shP).length=mx:=by rw [x0k];exact el
 have ai:∀{k:Nat} {es:List Ev},ess[k]?=some es->atI (ess.map shP) (k:Int)=some (shP es):=fun {k es} hk=>a2G (by rw [x0v,hk];rfl);unfold dayP;have rl:(row.map PV.str).length=n:=by rw [x0k];exact hl
 generalize hE:ess.map shP=E at *;generalize hW:rowP row=W;have hW':W=.tup (row.map PV.str):=by rw [<- hW]
 walk_at "pu";rw [hW'];simp only [wLen,rl];refine mr ?_;rw [dl];rw [if_neg (by rw [b4t,decide_eq_true rfl];decide)];dsimp only;refine⟨⟨by omega,by omega⟩,?_⟩;rw [x1F,<- hW'];refine a0O (fun i env m'=>∃r' s5 s6 s7,env=[some (.v (.tup [.int (s:Int),.int (r:Int)])),some (.v W),some (.v (.tup E)),some (.v (.int (mx:Int))),some (.v (rowP r')),s5,s6,s7]/\Dy P s n mx row i (ess.drop (mx - i)) (sts.drop (mx - i)) r'/\m'=m) _ 0 _ _ ⟨row,_,_,_,by rw [hW],by rw [x4l,x0H (by omega),x0H (by omega)];exact .nil,rfl⟩ (fun i x env m' N ex hI hN=>?_) (fun env m' hI=>?_)
 · obtain⟨r',s5,s6,s7,rfl,di,rfl⟩:=hI;obtain⟨hi,rfl⟩:=a5f ex;rw [x1b] at di hN;obtain⟨es,st,r2,ee,es_,xe,xs,d2,hst,hp,dn⟩:=hd.at hi;have er:=d2.det di;subst er;obtain⟨rS,rL⟩:=di.rows h1 hn hmx.symm (fun st es p=>(hf st es p).1.fair) hr hl;have ek:(mx:Int) - 1 - i=((mx - 1 - i:Nat):Int):=by omega
   rw [ek];obtain⟨so,hlen⟩:=hf st es hp;rw [a5H so.fair] at dn;have k24:mx - 1 - i<=1000:=by omega
   have ai':=ai ee;have stS:RowS st:=by rw [hst];exact a4N rS
   have stL:st.length<=24:=by
     rw [hst,a2k rL hn];have:=b5R (s:=s) (k:=mx - 1 - i) hn;omega
   generalize mx - 1 - i=k at *;generalize hV:rowP r2=V;walk_at "pu";rw [<- hV];refine a7l h8 hn rL k24 ?_
   try dsimp only
   rw [ai',<- hst];dsimp only;refine b5F (by omega) stS.1 so hlen fun ts pt ot=>?_;generalize (es.filter isDr++ts).map evP=TE;generalize hQ:shP es=Q;walk_at "pu";refine if_f a4D ?_
   try dsimp only
   rw [<- hQ];refine b0H h8 hn (by omega) rL k24 (by omega) (by rw [<- hst];exact so.fair.sub) ?_;rw [<- hst];exact hN _ _ ⟨_,_,_,_,rfl,dn,rfl⟩
 · obtain⟨r',s5,s6,s7,rfl,di,rfl⟩:=hI;rw [x1b,a5e,x2i,x1Y,x1Y] at di;have e:=di.det hd;subst e;generalize rowP r'=V at *;walk_at "pu";exact h
noncomputable def hit (b:Str):Ev->Option PV
 | .d x=>if x=b then some (.str (x0g "d")) else none
 | .t x y=>if y=b then some (.str (x0g "t")) else if x=b then some (.str (x0g "u")) else none
noncomputable def a4p (b:Str)(es:List Ev):Option PV:=es.foldl (fun acc e=>(hit b e).or acc) none
theorem b3j (b:Str)(es:List Ev)(e:Ev):a4p b (es++[e])=(hit b e).or (a4p b es):=by
 unfold a4p;rw [List.foldl_append];rfl
theorem b1m (k j:Key)(v:PV):∀(ks:List Key) (xs:List PV),getP ks ((ks.zip xs).map fun p=>if p.1=k then v else p.2) j=if k=j then(getP ks xs j).map (fun _=>v) else getP ks xs j
 | [],xs=>by cases xs <;> simp [getP]
 | k0::ks,[]=>by simp [getP]
 | k0 :: ks, x0 :: xs => by
   show(if k0=j then some (if k0=k then v else x0) else getP ks ((ks.zip xs).map fun p=>if p.1=k then v else p.2) j)=if k=j then(if k0=j then some x0 else getP ks xs j).map (fun _=>v) else(if k0=j then some x0 else getP ks xs j);rw [b1m k j v ks xs]
   by_cases c:k0=j
   · by_cases c2:k=j
     · simp [c,c2]
     · have:¬k0=k:=fun z=>c2 (by rw [<- z,c]);have c3:¬j=k:=fun z=>c2 z.symm;simp [c,c2,c3]
   · simp [c]
theorem a8i (k j:Key)(v:PV):∀(ks:List Key) (xs:List PV),ks.length=xs.length->getP (ks++[k]) (xs++[v]) j=(getP ks xs j).or (if k=j then some v else none)
 | [],[],_=>by simp [getP]
 | k0 :: ks, x0 :: xs, h => by
   show(if k0=j then some x0 else getP (ks++[k]) (xs++[v]) j)=(if k0=j then some x0 else getP ks xs j).or _;rw [a8i k j v ks xs (by simpa using h)]
   by_cases c:k0=j <;> simp [c]
theorem a7u {k:Key}:∀{ks:List Key} {xs:List PV},ks.length=xs.length->((k∈ks)↔∃x,getP ks xs k=some x)
 | [],[],_=>by simp [getP]
 | k0 :: ks, x0 :: xs, h => by
   have ih:=a7u (k:=k) (ks:=ks) (xs:=xs) (by simpa using h);show _↔∃x,(if k0=k then some x0 else getP ks xs k)=some x
   by_cases c:k0=k
   · simp [c]
   · have c':¬k=k0:=fun z=>c z.symm;simp [c,c',ih]
theorem a4t {ks:List Key}{xs:List PV}(k j:Key)(v:PV)(hl:ks.length=xs.length):getP (a3H ks k) (a2z ks xs k v) j=if k=j then some v else getP ks xs j:=by
 unfold a3H a2z
 by_cases c:k∈ks
 · rw [if_pos c,if_pos c,b1m]
   by_cases c2:k=j
   · subst c2;obtain⟨x,hx⟩:=(a7u hl).mp c;simp [hx]
   · simp [c2]
 · rw [if_neg c,if_neg c,a8i k j v ks xs hl]
   by_cases c2:k=j
   · subst c2
     have:getP ks xs k=none:=by
       cases e:getP ks xs k with
       | none=>rfl
       | some x=>exact absurd ((a7u hl).mpr ⟨x,e⟩) c
     simp [this]
   · simp [c2]
theorem put_len {ks:List Key}{xs:List PV}(k:Key)(v:PV)(hl:ks.length=xs.length):(a3H ks k).length=(a2z ks xs k v).length/\(a2z ks xs k v).length<=xs.length + 1:=by
 unfold a3H a2z
 by_cases c:k∈ks
 · rw [if_pos c,if_pos c,x0k,x3H];omega
 · rw [if_neg c,if_neg c,x0m,x0m,x0K,x0K];omega
theorem a8X {zs:List Str}{es:List Ev}{n:Nat}{R:PV->Nat->Prop}(hz:zs.length<=1000)(he:es.length<=1000)(h:R (.tup (zs.map fun z=>(a4p z es).getD (.str (x0g "o")))) n):a2r [rowP zs,shP es] n R:=by
 refine⟨rfl,?_⟩;unfold a3k rowP shP;generalize hZ:zs.map PV.str=Z;have Zl:Z.length=zs.length:=by rw [<- hZ,x0k]
 generalize hE:es.map evP=E;have El:E.length=es.length:=by rw [<- hE,x0k]
 walk_at "pu";refine a0O (fun i env m=>∃(ks:List Key) (xs:List PV) (s3:Option Slot),env=[some (.v (.tup Z)),some (.v (.tup E)),some (.ow (.dk ks) xs),s3]/\ks.length=xs.length/\xs.length<=2 * i/\(∀b,getP ks xs (.inr b)=a4p b (es.take i))/\m=n) _ 0 _ _ ⟨[],[],none,rfl,rfl,by simp,(fun _=>rfl),rfl⟩ (fun i x env m N ex hI hN=>?_) (fun env m hI=>?_)
 · obtain⟨ks,xs,s3,rfl,hl,hx,hg,rfl⟩:=hI;rw [x1b] at hN hx hg;rw [<- hE] at ex;obtain⟨e,ee,rfl⟩:=a2g ex;have hi:i < es.length:=(x0l.mp ee).1;have et:es.take (i + 1)=es.take i++[e]:=a2L ee;have put:∀(ks:List Key) (xs:List PV) (s3:Option Slot),ks.length=xs.length->xs.length<=2 * (i + 1)->(∀b,getP ks xs (.inr b)=(hit b e).or (a4p b (es.take i)))->N [some (.v (.tup Z)),some (.v (.tup E)),some (.ow (.dk ks) xs),s3] m:=fun ks xs s3 a1 a2 a3=>hN _ _ ⟨ks,xs,s3,rfl,a1,a2,fun b=>by rw [et,b3j];exact a3 b,rfl⟩;cases e with
   | d x =>
     rw [b3w];walk_at "pu";have p1:=put_len (.inr x) (.str (x0g "d")) hl;refine⟨⟨_,_,rfl⟩,hl,by omega,put _ _ _ p1.1 (by omega) fun b=>?_⟩;rw [a4t _ _ _ hl,hg b]
     by_cases c:x=b <;> simp [hit,c]
   | t x y =>
     rw [a4J];walk_at "pu";rw [a4L];have p1:=put_len (.inr x) (.str (x0g "u")) hl;have p2:=put_len (.inr y) (.str (x0g "t")) p1.1;refine if_f rfl ⟨⟨_,_,rfl⟩,hl,by omega,⟨_,_,rfl⟩,p1.1,by omega,put _ _ _ p2.1 (by omega) fun b=>?_⟩;rw [a4t _ _ _ p1.1,a4t _ _ _ hl,hg b]
     by_cases c:y=b <;> by_cases c2:x=b <;> simp [hit,c,c2]
 · obtain⟨ks,xs,s3,rfl,hl,hx,hg,rfl⟩:=hI;rw [El,x1b,x3o] at hg;walk_at "pu";refine⟨hl,by omega,?_⟩;rw [<- hZ];refine a2p PV.str (fun z=>(a4p z es).getD (.str (x0g "o"))) _ _ _ _ (fun z hz' k Q hQ=>?_) ?_
   · walk_at "pu";refine⟨⟨_,_,rfl⟩,?_⟩;rw [hg z];exact hQ
   · exact h
theorem b3e {P:List Str->List Ev->Prop}{s n m:Nat}{r:Int}{row:List Str}{R:PV->Nat->Prop}(hf:∀st es,P st es->Fair st es)(hle:∀st es,P st es->es.length<=1000)(h1:1<=s)(h8:s<=8)(hn:1<=n)(h24:n<=24)(hr:RowS row)(hl:row.length=n)
   (hd:Dy P s n ((n + s - 1) / s) row ((n + s - 1) / s) ess sts row') (h:R (.tup (sts.map rowP)) m):a1u [.tup [.int (s:Int),.int r],rowP row,dayP ess] m R:=by
 refine⟨rfl,?_⟩;unfold a2A;have mle:=a5h (s:=s) (n:=n) h1 hn;generalize hmx:(n + s - 1) / s=mx at *;obtain⟨el,sl⟩:=hd.len;have dl:(ess.map shP).length=mx:=by rw [x0k];exact el
 have ai:∀{k:Nat} {es:List Ev},ess[k]?=some es->atI (ess.map shP) (k:Int)=some (shP es):=fun {k es} hk=>a2G (by rw [x0v,hk];rfl);unfold dayP;generalize hE:ess.map shP=E at *;generalize hW:rowP row=W;walk_at "pu";rw [dl];refine⟨⟨by omega,by omega⟩,?_⟩;rw [x1F];refine a0O (fun i env m'=>∃r' s5,env=[some (.v (.tup [.int (s:Int),.int r])),some (.v W),some (.v (.tup E)),some (.own ((sts.drop (mx - i)).reverse.map rowP)),some (.v (rowP r')),s5]/\Dy P s n mx row i (ess.drop (mx - i)) (sts.drop (mx - i)) r'/\m'=m) _ 0 _ _ ⟨row,_,by rw [hW,x4l,x0H (by omega)];rfl,by rw [x4l,x0H (by omega),x0H (by omega)];exact .nil,rfl⟩ (fun i x env m' N ex hI hN=>?_) (fun env m' hI=>?_)
 · obtain⟨r',s5,rfl,di,rfl⟩:=hI;obtain⟨hi,rfl⟩:=a5f ex;rw [x1b] at di hN ⊢;obtain⟨es,st,r2,ee,es_,xe,xs,d2,hst,hp,dn⟩:=hd.at hi;have er:=d2.det di;subst er;obtain⟨rS,rL⟩:=di.rows h1 hn hmx.symm hf hr hl;have ek:(mx:Int) - 1 - i=((mx - 1 - i:Nat):Int):=by omega
   rw [ek];have fr:=hf st es hp;rw [a5H fr] at dn;rw [xs] at hN;rw [xs] at dn;have k24:mx - 1 - i<=1000:=by omega
   have hlen:=hle st es hp;have ai':=ai ee;generalize mx - 1 - i=k at *;have x1:(sts.drop (mx - i)).reverse.map rowP++[rowP st]=(st::sts.drop (mx - i)).reverse.map rowP:=by rw [x3b,x1R];rfl
   have x2:((sts.drop (mx - i)).reverse.map rowP).length < 1000000:=by rw [x0k,x3q,x1z];omega
   generalize hG:(sts.drop (mx - i)).reverse.map rowP=GL at *;generalize hV:rowP r2=V;walk_at "pu";refine⟨⟨_,rfl⟩,?_⟩;rw [<- hV];refine a7l h8 hn rL k24 ?_
   try dsimp only
   refine⟨x2,?_⟩;rw [ai'];dsimp only;refine b0H h8 hn (by omega) rL k24 hlen (by rw [<- hst];exact fr.sub) ?_;rw [<- hst,x1];exact hN _ _ ⟨_,_,rfl,dn,rfl⟩
 · obtain⟨r',s5,rfl,di,rfl⟩:=hI;rw [x1b,a5e,x2i,x1Y];have e:(sts.reverse.map rowP).reverse=sts.map rowP:=by rw [<- List.map_reverse,List.reverse_reverse]
   generalize sts.reverse.map rowP=GL at *;walk_at "pu";rw [e];exact h
noncomputable def othr (b:Str):Ev->Option PV
 | .d _=>none
 | .t x y=>if y=b then some (.str x) else if x=b then some (.str y) else none
noncomputable def a5r (b:Str)(es:List Ev):Option PV:=es.foldl (fun acc e=>(othr b e).or acc) none
theorem b5S {f:Ev->Option PV}:∀(es:List Ev) (acc:Option PV),(∀e∈es,f e=none)->es.foldl (fun acc e=>(f e).or acc) acc=acc:=by
 intro xq
 induction xq with
 | nil =>
   intro acc _;exact rfl
 | cons e es ih =>
   intro acc h;rw [x1y,h e x0e];exact ih _ fun f hf=>h f (x0d _ hf)
theorem b0M (b:Str)(es:List Ev)(e:Ev):a5r b (es++[e])=(othr b e).or (a5r b es):=by
 unfold a5r;rw [List.foldl_append];rfl
theorem a4o (b:Str):∀(es:List Ev) (acc:Option PV),(es.filter isTo).foldl (fun acc e=>(othr b e).or acc) acc=es.foldl (fun acc e=>(othr b e).or acc) acc
 | [],_=>rfl
 | .d x::es,acc=>a4o b es acc
 | .t x y::es,acc=>a4o b es _
theorem b3h {es:List Ev}{n:Nat}{R:PV->Nat->Prop}(he:es.length<=1000)(h:∀ks xs,ks.length=xs.length->(∀b,getP ks xs (.inr b)=a5r b es)->R (.dct ks xs) n):a1S [shP es] n R:=by
 refine⟨rfl,?_⟩;unfold a2C;have fl:(es.filter isTo).length<=1000:=x0I (x2V _ _) he;generalize hS:shP es=S;walk_at "pu";rw [<- hS];refine a2U (by omega) ?_;rw [hS];dsimp only;refine a0O (fun i env m=>∃(ks:List Key) (xs:List PV) (s2:Option Slot),env=[some (.v S),some (.ow (.dk ks) xs),s2]/\ks.length=xs.length/\xs.length<=2 * i/\(∀b,getP ks xs (.inr b)=a5r b ((es.filter isTo).take i))/\m=n) _ 0 _ _ ⟨[],[],none,rfl,rfl,by simp,(fun _=>rfl),rfl⟩ (fun i x env m N ex hI hN=>?_) (fun env m hI=>?_)
 · obtain⟨ks,xs,s2,rfl,hl,hx,hg,rfl⟩:=hI;rw [x1b] at hN hx hg;obtain⟨e,ee,rfl⟩:=a2g ex;have hi:i < (es.filter isTo).length:=(x0l.mp ee).1;obtain⟨_,ht⟩:=x1c.mp (x0A ee);rw [a2L ee] at hN;cases e with
   | d x=>cases ht
   | t x y =>
     rw [a4J];walk_at "pu";have p1:=put_len (.inr x) (.str y) hl;have p2:=put_len (.inr y) (.str x) p1.1;refine⟨⟨_,_,rfl⟩,hl,by omega,⟨_,_,rfl⟩,p1.1,by omega,hN _ _ ⟨_,_,_,rfl,p2.1,by omega,fun b=>?_,rfl⟩⟩;rw [a4t _ _ _ p1.1,a4t _ _ _ hl,hg b,b0M]
     by_cases c:y=b <;> by_cases c2:x=b <;> simp [othr,c,c2]
 · obtain⟨ks,xs,s2,rfl,hl,hx,hg,rfl⟩:=hI;rw [x1b,x0k,x3o] at hg;have:=h ks xs hl fun b=>by rw [hg b];exact a4o b es none
   walk_at "pu";exact⟨hl,this⟩
noncomputable abbrev dM (b:Str)(es:List Ev):PV:=(a4p b es).getD (.str (x0g "o"))
noncomputable abbrev dO (b:Str)(es:List Ev):PV:=(a5r b es).getD .non
noncomputable abbrev stAt (sts:List (List Str))(k:Nat):List Str:=(sts[k]?).getD []
noncomputable abbrev esAt (ess:List (List Ev))(k:Nat):List Ev:=(ess[k]?).getD []
noncomputable def dX (ess:List (List Ev))(b:Str)(k:Nat):PV:=.tup [.int (k:Int),dM b (esAt ess k),dO b (esAt ess k)]
noncomputable def dL (ess:List (List Ev))(sts:List (List Str))(mx i:Nat)(b:Str):List PV:=((x0N i).filter fun q=>decide (b∈stAt sts (mx - 1 - q))).map fun q=>dX ess b (mx - 1 - q)
theorem b1C {mx i:Nat}{b:Str}:dL ess sts mx (i + 1) b=dL ess sts mx i b++(if b∈stAt sts (mx - 1 - i) then [dX ess b (mx - 1 - i)] else []):=by
 unfold dL;rw [List.range_succ,List.filter_append,x1R]
 by_cases c:b∈stAt sts (mx - 1 - i)
 · rw [if_pos c,List.filter_cons_of_pos (by exact decide_eq_true c)];rfl
 · rw [if_neg c,List.filter_cons_of_neg (by simpa using c)];rfl
theorem b4y {mx i:Nat}{b:Str}:(dL ess sts mx i b).length<=i:=by
 unfold dL;rw [x0k];have:=x2V (fun q=>decide (b∈stAt sts (mx - 1 - q))) (x0N i);rw [List.length_range] at this;exact this
noncomputable def dueR (ess:List (List Ev))(sts:List (List Str))(mx:Nat)(b:Str):PV:=.tup [.str b,.tup (dL ess sts mx mx b)]
theorem a5z {g:pG}{b:pD}{ks:List Key}{R:Pu.Env->Nat->List (List PV)->Prop}(I:Nat->Pu.Env->Nat->List (List PV)->Prop):∀(xs:List PV) (k:Nat) (env:Pu.Env) (n:Nat) (yss:List (List PV)),I k env n yss->
   (∀(i:Nat) x env n yss (N:Pu.Env->Nat->List (List PV)->Prop),xs[i]?=some x->I (k + i) env n yss->(∀e m z,I (k + i + 1) e m z->N e m z)->g x env fun env1=>b ks N env1 n yss)->(∀env n yss,I (k + xs.length) env n yss->R env n yss)->forD g b ks R xs env n yss:=by
 intro xq
 induction xq with
 | nil =>
   intro k env n yss h0 _ hd;exact hd env n yss h0
 | cons x xs ih =>
   intro k env n yss h0 hs hd;show g x env fun env1=>b ks (fun env2 n2 xss2=>forD g b ks R xs env2 n2 xss2) env1 n yss;refine hs 0 x env n yss _ rfl h0 fun e m z h1=>?_;refine ih (k + 1) e m z h1 (fun i y env n yss N e1 h2 h3=>?_) fun env n yss h2=>hd env n yss (by rw [x0M,show k + (xs.length + 1)=k + 1 + xs.length by omega];exact h2);refine hs (i + 1) y env n yss N e1 (by rw [show k + (i + 1)=k + 1 + i by omega];exact h2) fun e m z h4=>h3 e m z (by rw [show k + 1 + i + 1=k + (i + 1) + 1 by omega];exact h4)
theorem b4k {rest:Pu.Env}{n:Nat}{R:List Key->List (List PV)->Nat->Prop}:∀(zs:List Str) (ks:List Key) (yss:List (List PV)) (s0:Option Pu.Slot),zs.Nodup->(∀z∈zs,(.inr z:Key)∉ks)->R (ks++zs.map x0Q) (yss++zs.map fun _=>[]) n->klL (gN 0) (qV 0) (qLst qNil) (zs.map PV.str) ks yss (s0::rest) n R:=by
 intro xq
 induction xq with
 | nil =>
   intro ks yss s0 _ _ h;rw [x2x,x2x,x1f,x1f] at h;exact h
 | cons z zs ih =>
   intro ks yss s0 nd hk h;obtain⟨n1,n2⟩:=x0J.mp nd;refine⟨x0L _,hk z x0e,ih _ _ _ n2 (fun y hy z'=>?_) ?_⟩
   · rcases x0y.mp z' with z' | z'
     · exact hk y (x0d _ hy) z'
     · have:y=z:=Sum.inr.inj (x0q.mp z');exact n1 (by rw [<- this];exact hy)
   · rw [x1o,x1o];exact h
theorem a5w {z:Str}:∀{row:List Str},z∈row->∃p,kIx (row.map x0Q) (.inr z)=some p/\row[p]?=some z
 | [],h=>nomatch h
 | y :: row, h => by
   unfold kIx;rw [x0C,List.findIdx?_cons]
   by_cases c:y=z
   · rw [if_pos (decide_eq_true (congrArg _ c))];exact⟨0,rfl,by rw [c];rfl⟩
   · rw [if_neg (by simpa using c)];obtain⟨p,e1,e2⟩:=a5w ((x0i.mp h).resolve_left fun e=>c e.symm);unfold kIx at e1;rw [e1];exact⟨p + 1,rfl,e2⟩
theorem a7t {F:Str->PV}{z:Str}:∀{row:List Str},z∈row->getP (row.map x0Q) (row.map F) (.inr z)=some (F z)
 | [],h=>nomatch h
 | y :: row, h => by
   show(if(x0Q y:Key)=.inr z then some (F y) else getP (row.map x0Q) (row.map F) (.inr z))=_
   by_cases c:y=z
   · rw [if_pos (congrArg _ c),c]
   · rw [if_neg (fun e=>c (Sum.inr.inj e))];exact a7t ((x0i.mp h).resolve_left fun e=>c e.symm)
theorem a9L {F G:Str->List PV}{row:List Str}{p:Nat}{z:Str}(nd:row.Nodup)(hp:row[p]?=some z)(h1:∀b∈row,b≠z->G b=F b):(row.map F).set p (G z)=row.map G:=by
 refine List.ext_getElem? fun q=>?_
 by_cases c:p=q
 · subst c;rw [x0t (by rw [x0k];exact(x0l.mp hp).1),x0v,hp];rfl
 · rw [x0o c,x0v,x0v];cases e:row[q]? with
   | none=>rfl
   | some b =>
     have bz:b≠z:=fun e2=>by
       obtain⟨a1,a2⟩:=x0l.mp hp;obtain⟨b1,b2⟩:=x0l.mp e;exact c (nodup_ix nd a1 b1 (by rw [a2,b2,e2]))
     show some (F b)=some (G b);rw [h1 b (x0A e) bz]
theorem b4v {P:List Str->List Ev->Prop}{s n mx:Nat}{row:List Str}(h1:1<=s)(hn:1<=n)(hmx:mx=(n + s - 1) / s)(hf:∀st es,P st es->Fair st es)(hr:RowS row)(hl:row.length=n){i:Nat}{r:List Str}(h:Dy P s n mx row i ess sts r):r.Perm row/\∀st∈sts,∀b∈st,b∈row:=by
 induction h with
 | nil=>exact⟨.refl _,fun _ z=>nomatch z⟩
 | @cons i ess sts r es h hi hp ih =>
   have hr':=h.rows h1 hn hmx hf hr hl;have kp:(mx - 1 - i) * s<=n - 1:=b4f h1 hn (by omega);have f:=hf _ _ hp;refine⟨(a5Z (x3U (lo_hi kp)) ?_).trans ih.1,fun st hst b hb=>?_⟩
   · rw [a5H f];exact a7R f.sub
   · rcases x0i.mp hst with rfl | hst
     · refine ih.1.mem_iff.mp ?_;unfold a0A at hb;exact x3i (x4s hb)
     · exact ih.2 st hst b hb
theorem a1K {p q:pS}{D:a7D}{env:Pu.Env}{n:Nat}(h:∀U:pS,U=q->p { D with nx:=fun e m=>U D e m } env n):qSeq p q D env n:=h q rfl
theorem b5H {P:List Str->List Ev->Prop}{s n m mx:Nat}{r:Int}{row:List Str}{R:PV->Nat->Prop}(hf:∀st es,P st es->Fair st es)(hle:∀st es,P st es->es.length<=1000)(h1:1<=s)(h8:s<=8)(hn:1<=n)(h24:n<=24)(hr:RowS row)(hl:row.length=n)(hmx:mx=(n + s - 1) / s)
   (hd:Dy P s n mx row mx ess sts row') (h:R (.tup (row.map (dueR ess sts mx))) m):a2t [.tup [.int (s:Int),.int r],rowP row,dayP ess] m R:=by
 refine⟨rfl,?_⟩;unfold a3n;have mle:mx<=n:=by rw [hmx];exact a5h h1 hn
 obtain⟨el,sl⟩:=hd.len;have sb:=(b4v h1 hn hmx hf hr hl hd).2;have mem:=hd.mem h1 hn hmx hf hr hl;have ms:∀{Q:PV->Nat->Prop},Q (.tup (sts.map rowP)) m->a1u [.tup [.int (s:Int),.int r],rowP row,dayP ess] m Q:=fun {Q} q=>b3e hf hle h1 h8 hn h24 hr hl (by rw [<- hmx];exact hd) q;have ai:∀{k:Nat},k < mx->atI (sts.map rowP) (k:Int)=some (rowP (stAt sts k)):=fun {k} hk=>a2G (by rw [x0v,stAt,x0f (by omega)];rfl);have ae:∀{k:Nat},k < mx->atI (ess.map shP) (k:Int)=some (shP (esAt ess k)):=fun {k} hk=>a2G (by rw [x0v,esAt,x0f (by omega)];rfl);have stm:∀{k:Nat},k < mx->stAt sts k∈sts:=fun {k} hk=>by rw [stAt,x0f (show k < sts.length by omega)];exact x2c _
 have esm:∀{k:Nat},k < mx->(esAt ess k).length<=1000:=fun {k} hk=>by
   have:esAt ess k∈ess:=by rw [esAt,x0f (show k < ess.length by omega)];exact x2c _
   obtain⟨st,p,_⟩:=mem.1 _ this;exact hle st _ p
 have eE:(ess.map shP).length=mx:=by rw [x0k];exact el
 have hW0:rowP row=.tup (row.map PV.str):=rfl;have Zl:(row.map PV.str).length=n:=by rw [x0k];exact hl
 unfold dayP at ms ⊢;generalize hE:ess.map shP=E at *;generalize hS:sts.map rowP=S at *;generalize hM:PV.tup [PV.int (s:Int),PV.int r]=M at *;refine a1K fun U hU=>?_;walk_at "pd";refine ms ?_;subst hU;rw [hW0];refine⟨by omega,by show 4 < 9;decide,b4k row [] [] none hr.1 (fun _ _ z=>nomatch z) ?_⟩;rw [x1S,x1S];generalize hZ:row.map PV.str=Z at *;walk_at "pd";rw [eE];refine⟨⟨by omega,by omega⟩,?_⟩;rw [x1F];refine a5z (fun i env m' yss=>∃(s5 s6 s7 s8:Option Pu.Slot),env=[some (.v M),some (.v (.tup Z)),some (.v (.tup E)),some (.v (.tup S)),none,s5,s6,s7,s8]/\m'=m/\yss=row.map (dL ess sts mx i)) _ 0 _ _ _ ⟨none,none,none,none,rfl,rfl,rfl⟩ (fun i x env m' yss N ex hI hN=>?_) (fun env m' yss hI=>?_)
 · obtain⟨s5,s6,s7,s8,rfl,rfl,rfl⟩:=hI;obtain⟨hi,rfl⟩:=a5f ex;rw [x1b] at hN ⊢;have ek:(mx:Int) - 1 - i=((mx - 1 - i:Nat):Int):=by omega
   rw [ek];have hk:mx - 1 - i < mx:=by omega
   have a1:=ai hk;have a2:=ae hk;have hst:=mem.2 _ (stm hk);have hsub:=sb _ (stm hk);have hes:=esm hk;have hyy:∀b,dL ess sts mx (i + 1) b=dL ess sts mx i b++(if b∈stAt sts (mx - 1 - i) then [dX ess b (mx - 1 - i)] else []):=fun b=>b1C;have hdx:∀b,dX ess b (mx - 1 - i)=.tup [.int ((mx - 1 - i:Nat):Int),dM b (esAt ess (mx - 1 - i)),dO b (esAt ess (mx - 1 - i))]:=fun _=>rfl;have dl:∀b,(dL ess sts mx i b).length<=i:=fun b=>b4y;have hN':∀e m2 (F:Str->List PV),(∀b,dL ess sts mx (i + 1) b=F b)->(∃(s5 s6 s7 s8:Option Pu.Slot),e=[some (.v M),some (.v (.tup Z)),some (.v (.tup E)),some (.v (.tup S)),none,s5,s6,s7,s8]/\m2=m')->N e m2 (row.map F):=fun e m2 F hF ⟨s5,s6,s7,s8,h5,h6⟩=>hN e m2 _ ⟨s5,s6,s7,s8,h5,h6,by rw [show dL ess sts mx (i + 1)=F from funext hF]⟩;clear hN;generalize dL ess sts mx (i + 1)=D2 at *;generalize dL ess sts mx i=D1 at *;generalize stAt sts (mx - 1 - i)=st at *;generalize esAt ess (mx - 1 - i)=es at *;generalize mx - 1 - i=k at *;walk_at "pd";rw [a2];refine b3h hes fun ks' xs' hk' hg'=>?_;walk_at "pd";rw [a1];refine a8X (by omega) hes ?_;dsimp only [a8E,rowP];refine a5z (fun j env m2 yss=>∃(s7 s8:Option Pu.Slot),env=[some (.v M),some (.v (.tup Z)),some (.v (.tup E)),some (.v (.tup S)),none,some (.v (.int (k:Int))),some (.v (.dct ks' xs')),s7,s8]/\m2=m'/\yss=row.map fun b=>D1 b++(if b∈st.take j then [dX ess b k] else [])) _ 0 _ _ _ ⟨s7,s8,rfl,rfl,by simp⟩ (fun j x env m2 yss N2 ex2 hI hN2=>?_) (fun env m2 yss hI=>?_)
   · obtain⟨s7,s8,rfl,rfl,rfl⟩:=hI;rw [x1b] at hN2 ⊢;obtain⟨u,v,e1,e2,rfl⟩:=a7H ex2;obtain⟨z,ez,rfl⟩:=a2g e1;rw [x0v,ez] at e2;cases e2;have hz:z∈st:=x0A ez;obtain⟨p,ep,rp⟩:=a5w (hsub z hz)
     have zn:z∉st.take j:=fun hz'=>by
       obtain⟨q,hq,eq⟩:=x2G hz';rw [x1i] at hq;obtain⟨a3,a4⟩:=x0l.mp ez;rw [List.getElem_take] at eq;have:=nodup_ix hst.1.1 (show q < st.length by omega) a3 (by rw [a4,eq]);omega
     have yp:(row.map fun b=>D1 b++(if b∈st.take j then [dX ess b k] else []))[p]?=some (D1 z):=by
       rw [x0v,rp];show some (D1 z++_)=_;rw [if_neg zn,x1f]
     have new:(row.map fun b=>D1 b++(if b∈st.take j then [dX ess b k] else [])).set p (D1 z++[dX ess z k])=row.map fun b=>D1 b++(if b∈st.take (j + 1) then [dX ess b k] else []):=by
       have:=a9L (F:=fun b=>D1 b++(if b∈st.take j then [dX ess b k] else [])) (G:=fun b=>D1 b++(if b∈st.take (j + 1) then [dX ess b k] else [])) hr.1 rp fun b hb bz=>by
         rw [a2L ez]
         by_cases c:b∈st.take j
         · rw [if_pos c,if_pos (x1t _ c)]
         · rw [if_neg c,if_neg (fun w=>(x0y.mp w).elim c fun w=>bz (x0q.mp w))]
       rw [<- this,if_pos (by rw [a2L ez];exact x0u _ x0e)]
     generalize hY:(row.map fun b=>D1 b++(if b∈st.take j then [dX ess b k] else []))=Y at *;walk_at "pd";refine⟨rfl,?_⟩;rw [ep];dsimp only;rw [yp];refine⟨by have:=dl z;omega,?_⟩;refine⟨⟨_,_,rfl⟩,?_⟩;rw [hg' z];refine⟨by decide,hN2 _ _ _ ⟨_,_,rfl,rfl,?_⟩⟩;rw [<- new,hdx z]
   · obtain⟨s7,s8,rfl,rfl,rfl⟩:=hI;refine hN' _ _ _ (fun b=>?_) ⟨_,_,_,_,rfl,rfl⟩;rw [hyy b,a7G,x0k,x0k,x4j,x1b,x3o]
 · obtain⟨s5,s6,s7,s8,rfl,rfl,rfl⟩:=hI;rw [a5e,x1b,x2B];have g:∀z∈row,getP (row.map x0Q) (row.map (PV.lst∘dL ess sts mx mx)) (.inr z)=some (.lst (dL ess sts mx mx z)):=fun z hz=>a7t (F:=PV.lst∘dL ess sts mx mx) hz;generalize row.map (PV.lst∘dL ess sts mx mx)=GL at *;generalize hKS:(row.map x0Q:List Key)=KS at *;walk_at "pd";refine⟨by omega,?_⟩;rw [<- hZ];refine a2p PV.str (dueR ess sts mx) row _ _ _ (fun z hz k Q hQ=>?_) h;walk_at "pd";rw [g z hz];exact⟨by decide,hQ⟩
theorem b4q {f:Ev->Option PV}{Q:PV->Prop}:∀(es:List Ev) (acc:Option PV),(∀e∈es,∀v,f e=some v->Q v)->(∀v,acc=some v->Q v)->∀v,es.foldl (fun acc e=>(f e).or acc) acc=some v->Q v:=by
 intro xq
 induction xq with
 | nil =>
   intro acc _ ha v h;exact ha v h
 | cons e es ih =>
   intro acc he ha v h;rw [x1y] at h;refine ih _ (fun g hg=>he g (x0d _ hg)) (fun v hv=>?_) v h;cases c:f e with
   | none=>rw [c] at hv;exact ha v hv
   | some u=>rw [c] at hv;cases hv;exact he e x0e _ c
theorem b0E {b:Str}{es:List Ev}:Show 0 82 (dM b es):=by
 have w:∀z:Str,z=x0g "d"\/z=x0g "t"\/z=x0g "u"\/z=x0g "o"->Show 0 82 (.str z):=fun z hz=>by
   rcases hz with rfl | rfl | rfl | rfl <;> exact a2I _ (by decide +kernel) (by decide +kernel)
 unfold dM;cases h:a4p b es with
 | none=>exact w _ (.inr (.inr (.inr rfl)))
 | some v =>
   refine b4q (f:=hit b) (Q:=fun v=>Show 0 82 v) es none (fun e he v hv=>?_) (fun _ z=>nomatch z) v h;cases e with
   | d x =>
     have hv:(if x=b then some (PV.str (x0g "d")) else none)=some v:=hv
     split at hv
     · cases hv;exact w _ (.inl rfl)
     · cases hv
   | t x y =>
     have hv:(if y=b then some (PV.str (x0g "t")) else if x=b then some (PV.str (x0g "u")) else none)=some v:=hv
     split at hv
     · cases hv;exact w _ (.inr (.inl rfl))
     · split at hv
       · cases hv;exact w _ (.inr (.inr (.inl rfl)))
       · cases hv
theorem a8R {b:Str}{es:List Ev}(h:∀z∈es.flatMap evB,a2H z):Show 0 82 (dO b es):=by
 unfold dO;cases e:a5r b es with
 | none=>exact⟨trivial,x0j _,by decide⟩
 | some v =>
   refine b4q (f:=othr b) (Q:=fun v=>Show 0 82 v) es none (fun e he v hv=>?_) (fun _ z=>nomatch z) v e;have bs:∀z∈evB e,a2H z:=fun z hz=>h z (x4p.mpr ⟨e,he,hz⟩);cases e with
   | d x=>cases hv
   | t x y =>
     have hv:(if y=b then some (PV.str x) else if x=b then some (PV.str y) else none)=some v:=hv
     split at hv
     · cases hv;exact a2Y (bs _ (by simp [evB]))
     · split at hv
       · cases hv;exact a2Y (bs _ (by simp [evB]))
       · cases hv
theorem b6h {b:Str}{k:Nat}(hk:k < 1000)(h:∀es∈ess,∀z∈es.flatMap evB,a2H z):Show 1 260 (dX ess b k):=by
 refine(Show.tup (d:=0) (c:=82) (l:=3) (fun y hy=>?_) (by simp)).le (x0j _) (by decide);simp only [x0i,x0V,or_false] at hy;rcases hy with rfl | rfl | rfl
 · exact(a8e (by omega)).le (x0j _) (by decide)
 · exact b0E
 · refine a8R fun z hz=>?_;unfold esAt at hz;cases e:ess[k]? with
   | none=>rw [e] at hz;cases hz
   | some es=>rw [e] at hz;exact h es (x0A e) z hz
theorem b3x {row:List Str}{mx:Nat}(hr:∀z∈row,a2H z)(hl:row.length<=24)(hm:mx<=24)(h:∀es∈ess,∀z∈es.flatMap evB,a2H z):Show 4 303000 (.tup (row.map (dueR ess sts mx))):=by
 refine(Show.tup (d:=3) (c:=12610) (l:=24) (fun y hy=>?_) (by rw [x0k];exact hl)).le (x0j _) (by decide);obtain⟨b,hb,rfl⟩:=x1M.mp hy;refine(Show.tup (d:=2) (c:=6300) (l:=2) (fun y hy=>?_) (by simp)).le (x0j _) (by decide);simp only [x0i,x0V,or_false] at hy;rcases hy with rfl | rfl
 · exact(a2Y (hr b hb)).le (by decide) (by decide)
 · refine(Show.tup (d:=1) (c:=260) (l:=24) (fun y hy=>?_) (x0I b4y hm)).le (x0j _) (by decide);obtain⟨q,hq,rfl⟩:=x1M.mp hy;exact b6h (by omega) h
noncomputable def Pq (st:List Str)(es:List Ev):Prop:=(∀r:Nat,a7A (r:Int) st es)/\es.length<=24
theorem hi_one {n k:Nat}(hk:k + 1=n):hiN 1 n k=k:=by unfold hiN;omega
theorem b4p {n k:Nat}(hk:k + 1 < n):hiN 1 n k=k + 1:=by unfold hiN;omega
theorem nm_at {r:List Str}{k:Nat}(h:k < r.length):nm r k=r[k]:=by unfold nm;rw [x1a,x0f h];rfl
theorem b3Q {r:List Str}{n k:Nat}(hl:r.length=n)(hk:k + 1=n):a0A 1 n k r=[nm r k]:=by
 unfold a0A;rw [hi_one hk,hk,<- hl,x3o,Nat.mul_one,x0z (by omega),x0H (by omega),nm_at (by omega)]
theorem a7N {r:List Str}{n k:Nat}(hl:r.length=n)(hk:k + 1 < n):a0A 1 n k r=[nm r k,nm r (k + 1)]:=by
 unfold a0A;rw [b4p hk,Nat.mul_one,List.drop_take,x0z (by omega),x0z (by omega),show k + 1 + 1 - k=2 by omega,nm_at (by omega),nm_at (by omega)]
 rfl
theorem b2E {r:List Str}{n k:Nat}(hl:r.length=n)(hk:k < n):putN 1 n k r (a0A 1 n k r)=r:=by
 unfold putN a0A;have hh:k<=hiN 1 n k + 1:=by unfold hiN;omega
 rw [Nat.mul_one];generalize hiN 1 n k + 1=b at *;have e:r.take k=(r.take b).take k:=by rw [List.take_take,x1Z hh]
 rw [e,x2U,x2U]
theorem b2D {r:List Str}{n k:Nat}{x y:Str}(hl:r.length=n)(hk:k + 1 < n):putN 1 n k r [x,y]=(r.set k x).set (k + 1) y:=by
 unfold putN;have e1:r.set k x=r.take k++x::r.drop (k + 1):=by rw [List.set_eq_take_append_cons_drop,if_pos (by omega)]
 rw [b4p hk,Nat.mul_one,e1,List.set_append_right _ _ (by rw [x1i];omega),x1i,x1Z (by omega),show k + 1 - k=1 by omega,x0z (show k + 1 < r.length by omega),x1o]
 rfl
theorem b1U (st:List Str):∀(zs:List Str) (f:List Str),(zs.map Ev.d).foldl (setE st) f=f:=by
 intro xq
 induction xq with
 | nil =>
   intro _;exact rfl
 | cons _ zs ih =>
   intro f;exact ih f
theorem b1s:∀zs:List Str,(zs.map Ev.d).flatMap evB=zs:=by
 intro xq
 induction xq with
 | nil =>
   exact rfl
 | cons z zs ih =>
   show z::(zs.map Ev.d).flatMap evB=_;rw [ih]
theorem b2K {st zs:List Str}(nd:zs.Nodup)(sub:∀z∈zs,z∈st)(hl:zs.length<=24):Pq st (zs.map Ev.d):=by
 have no:∀x y,Ev.t x y∉zs.map Ev.d:=fun x y h=>by
   obtain⟨z,_,e⟩:=x1M.mp h;cases e
 refine⟨fun r=>⟨⟨by rw [b1s];exact nd,by rw [b1s];exact sub⟩,fun x y h=>absurd h (no x y),fun x y h=>absurd h (no x y),fun x y h=>absurd h (no x y),fun x y _ _ h=>absurd h (no x y)⟩,by rw [x0k];exact hl⟩
theorem b0Y {h l:Str}(nd:h≠l):ixS [h,l] h=0/\ixS [h,l] l=1:=by
 unfold ixS;exact⟨by rw [List.findIdx_cons,decide_eq_true rfl];rfl,by rw [List.findIdx_cons,decide_eq_false nd,List.findIdx_cons,decide_eq_true rfl];rfl⟩
theorem b1T {h l:Str}(nd:h≠l):aft [h,l] [.t l h]=[l,h]:=by
 obtain⟨e1,e2⟩:=b0Y nd;show([h,l].set (ixS [h,l] l) h).set (ixS [h,l] h) l=_;rw [e1,e2]
 rfl
theorem b6j {h l:Str}(nd:h≠l):btwU [h,l] l h=[]:=by
 obtain⟨e1,e2⟩:=b0Y nd;unfold btwU;rw [e1,e2]
 rfl
theorem b2J {h l:Str}(nd:h≠l):Pq [h,l] [.t l h]:=by
 obtain⟨e1,e2⟩:=b0Y nd;have b:=b6j nd
 have one:∀x y,Ev.t x y∈[Ev.t l h]->x=l/\y=h:=fun x y he=>by
   cases x0q.mp he;exact⟨rfl,rfl⟩
 refine⟨fun r=>⟨⟨?_,fun z hz=>?_⟩,fun x y he=>?_,fun x y he=>?_,fun x y he z hz=>?_,fun x y x' y' he he'=>?_⟩,by show 1<=24;omega⟩
 · exact x0J.mpr ⟨fun z=>nd (x0q.mp z).symm,x0J.mpr ⟨x0V,x4d⟩⟩
 · rcases x0i.mp hz with e | hz
   · rw [e];exact x0d _ x0e
   · rw [x0q.mp hz];exact x0e
 all_goals (obtain⟨rfl,rfl⟩:=one x y he)
 · rw [e1,e2];exact Nat.one_pos
 · rw [b];exact Int.natCast_nonneg r
 · rw [b] at hz;exact absurd hz x0V
 · rw [b];exact⟨fun z=>absurd z x0V,fun z=>absurd z x0V⟩
theorem b1h (b:Str):∀(zs:List Str) (acc:Option PV),(zs.map Ev.d).foldl (fun acc e=>(hit b e).or acc) acc=if b∈zs then some (PV.str (x0g "d")) else acc:=by
 intro xq
 induction xq with
 | nil =>
   intro acc;exact rfl
 | cons z zs ih =>
   intro acc;rw [x0C,x1y,ih];have e:hit b (.d z)=if z=b then some (PV.str (x0g "d")) else none:=rfl
   by_cases c:b∈zs
   · rw [if_pos c,if_pos (x0d _ c)]
   · rw [if_neg c,e]
     by_cases d:z=b
     · rw [if_pos d,if_pos (by rw [d];exact x0e)];rfl
     · rw [if_neg d,if_neg fun w=>(x0i.mp w).elim (fun w=>d w.symm) c];rfl
theorem b3A (b:Str)(zs:List Str):dM b (zs.map Ev.d)=.str (if b∈zs then x0g "d" else x0g "o"):=by
 unfold dM a4p;rw [b1h]
 by_cases c:b∈zs
 · rw [if_pos c,if_pos c];rfl
 · rw [if_neg c,if_neg c];rfl
theorem a5B (b:Str)(zs:List Str):dO b (zs.map Ev.d)=.non:=by
 unfold dO a5r;rw [b5S _ _ fun e he=>?_]
 · rfl
 · obtain⟨z,_,rfl⟩:=x1M.mp he
   rfl
theorem b3z {h l:Str}(nd:h≠l):dM l [.t l h]=.str (x0g "u")/\dO l [.t l h]=.str h/\dM h [.t l h]=.str (x0g "t")/\dO h [.t l h]=.str l:=by
 have a1:hit l (.t l h)=some (PV.str (x0g "u")):=by
   show(if h=l then _ else if l=l then _ else _)=_;rw [if_neg nd,if_pos rfl]
 have a2:hit h (.t l h)=some (PV.str (x0g "t")):=by
   show(if h=h then _ else _)=_;rw [if_pos rfl]
 have a3:othr l (.t l h)=some (PV.str h):=by
   show(if h=l then _ else if l=l then _ else _)=_;rw [if_neg nd,if_pos rfl]
 have a4:othr h (.t l h)=some (PV.str l):=by
   show(if h=h then _ else _)=_;rw [if_pos rfl]
 unfold dM dO a4p a5r;simp only [x1y,List.foldl_nil,a1,a2,a3,a4,Option.or,Option.getD,and_self]
noncomputable def kep (n:Nat):List (List Ev)->List (List Str)->Str->List PV
 | es::ess,st::sts,b=>kep n ess sts b++(if b∈st then [.tup [.int ((n - 1 - ess.length:Nat):Int),dM b es,dO b es]] else [])
 | _,_,_=>[]
theorem kep_dL {n:Nat}(h1:ess.length=n)(h2:sts.length=n)(b:Str):∀i,i<=n->kep n (ess.drop (n - i)) (sts.drop (n - i)) b=dL ess sts n i b:=by
 intro xq
 induction xq with
 | zero =>
   intro _;rw [x4l,x0H (by omega),x0H (by omega)];rfl
 | succ i ih =>
   intro hi;have ih:=ih (by omega);rw [b1C,<- ih,show n - (i + 1)=n - 1 - i by omega,x0z (show n - 1 - i < ess.length by omega),x0z (show n - 1 - i < sts.length by omega),show n - 1 - i + 1=n - i by omega];show kep n (ess.drop (n - i)) (sts.drop (n - i)) b++_=_;have e1:stAt sts (n - 1 - i)=sts[n - 1 - i]'(by omega):=by unfold stAt;rw [x0f (by omega)];rfl
   have e2:esAt ess (n - 1 - i)=ess[n - 1 - i]'(by omega):=by unfold esAt;rw [x0f (by omega)];rfl
   have e3:n - 1 - (ess.drop (n - i)).length=n - 1 - i:=by rw [x1z];omega
   unfold dX;rw [e1,e2,e3]
theorem b0W {n:Nat}{b:Str}:∀(ess:List (List Ev)) (sts:List (List Str)),(kep n ess sts b).length<=ess.length
 | [],_=>by cases ‹List (List Str)› <;> exact x0j _
 | _::_,[]=>x0L _
 | es :: ess, st :: sts => by
   have:=b0W (n:=n) (b:=b) ess sts;show(kep n ess sts b++_).length<=_;rw [x0m,x0M]
   split
   · exact Nat.add_le_add_right this 1
   · exact x0I (by rw [x2Q];exact this) (x3p _)
noncomputable def apF (F:Str->List PV)(z:Str)(x:PV):Str->List PV:=fun b=>if b=z then F b++[x] else F b
theorem a8v {F:Str->List PV}{row:List Str}{p:Nat}{z:Str}{x:PV}(nd:row.Nodup)(hp:row[p]?=some z):(row.map F).set p (F z++[x])=row.map (apF F z x):=by
 have:=a9L (F:=F) (G:=apF F z x) nd hp fun b _ bz=>if_neg bz;rw [<- this];unfold apF;rw [if_pos rfl]
theorem a4M {n i:Nat}{row r:List Str}{zs:List Str}(d:Dy Pq 1 n n row i ess sts r)(hi:i < n)(hl:r.length=n)(nd:zs.Nodup)(sub:∀z∈zs,z∈a0A 1 n (n - 1 - i) r)(h24:zs.length<=24):Dy Pq 1 n n row (i + 1) (zs.map Ev.d::ess) (a0A 1 n (n - 1 - i) r::sts) r:=by
 have:=d.cons hi (b2K nd sub h24);rw [show aft (a0A 1 n (n - 1 - i) r) (zs.map Ev.d)=a0A 1 n (n - 1 - i) r from b1U _ zs _,b2E hl (by omega)] at this;exact this
theorem a8A {n i k:Nat}{row r:List Str}(d:Dy Pq 1 n n row i ess sts r)(hi:i < n)(hl:r.length=n)(ek:n - 1 - i=k)(hk:k + 1 < n)(ne:nm r k≠nm r (k + 1)):Dy Pq 1 n n row (i + 1) ([.t (nm r (k + 1)) (nm r k)]::ess) ([nm r k,nm r (k + 1)]::sts) ((r.set k (nm r (k + 1))).set (k + 1) (nm r k)):=by
 have p:Pq (a0A 1 n (n - 1 - i) r) [.t (nm r (k + 1)) (nm r k)]:=by rw [ek,a7N hl hk];exact b2J ne
 have:=d.cons hi p;rw [ek,a7N hl hk,b1T ne,b2D hl hk] at this;exact this
theorem kep2 {n k:Nat}{es:List Ev}{h l:Str}{X:PV}(ek:n - 1 - ess.length=k)(ne:h≠l)(hX:X=.tup [.int (k:Int),dM l es,dO l es])(hY:Y=.tup [.int (k:Int),dM h es,dO h es]):kep n (es::ess) ([h,l]::sts)=apF (apF (kep n ess sts) l X) h Y:=by
 funext b
 show kep n ess sts b++(if b∈[h,l] then [.tup [.int ((n - 1 - ess.length:Nat):Int),dM b es,dO b es]] else [])=_;rw [ek];unfold apF
 by_cases c1:b=h
 · subst c1;rw [if_pos x0e,if_pos rfl,if_neg ne,hY]
 · rw [if_neg c1]
   by_cases c2:b=l
   · subst c2;rw [if_pos (x0d _ x0e),if_pos rfl,hX]
   · rw [if_neg c2,if_neg,x1f];intro z;rcases x0i.mp z with z | z
     · exact c1 z
     · exact c2 (x0q.mp z)
theorem kep1 {n k:Nat}{es:List Ev}{h:Str}(ek:n - 1 - ess.length=k)(hY:Y=.tup [.int (k:Int),dM h es,dO h es]):kep n (es::ess) ([h]::sts)=apF (kep n ess sts) h Y:=by
 funext b
 show kep n ess sts b++(if b∈[h] then [.tup [.int ((n - 1 - ess.length:Nat):Int),dM b es,dO b es]] else [])=_;rw [ek];unfold apF
 by_cases c1:b=h
 · subst c1;rw [if_pos x0e,if_pos rfl,hY]
 · rw [if_neg c1,if_neg (fun z=>c1 (x0q.mp z)),x1f]
theorem b4m {n k:Nat}(h:k < n):ixN n (k:Int)=some k:=by
 unfold ixN;rw [if_pos (by omega),if_pos (by omega)];simp
noncomputable def unS:PV->Str
 | .str z=>z
 | _=>x0g ""
theorem b2P {ws:List Str}{ys:List PV}(h:ys.Perm (ws.map PV.str)):∃zs:List Str,ys=zs.map PV.str/\zs.Perm ws:=by
 refine⟨ys.map unS,?_,?_⟩
 · rw [x2B];refine(List.map_id ys).symm.trans (List.map_congr_left fun y hy=>?_);obtain⟨z,_,rfl⟩:=x1M.mp (h.mem_iff.mp hy)
   rfl
 · have:=h.map unS;rw [x2B] at this;rw [show ws.map (unS∘PV.str)=ws from List.map_id ws] at this;exact this
noncomputable def odS (c:Bool):Str:=if c=true then x0g "d" else x0g "o"
theorem od_at (c:Bool):atI [PV.str (x0g "o"),PV.str (x0g "d")] (if c=true then(1:Int) else 0)=some (.str (odS c)):=by cases c <;> rfl
theorem od_M (b:Str)(zs:List Str):dM b (zs.map Ev.d)=.str (odS (decide (b∈zs))):=by
 rw [b3A];unfold odS
 by_cases c:b∈zs
 · rw [if_pos c,decide_eq_true c,if_pos rfl]
 · rw [if_neg c,decide_eq_false c,if_neg x0E]
theorem b0f {p q:pD}{ks:List Key}{R:Pu.Env->Nat->List (List PV)->Prop}{env:Pu.Env}{n:Nat}{xss:List (List PV)}(h:∀U:pD,U=q->p ks (fun e m x=>U ks R e m x) env n xss):a2v p q ks R env n xss:=h q rfl
theorem a5W {pt:pT}{p1 p2:pD}{ks:List Key}{R:Pu.Env->Nat->List (List PV)->Prop}{env:Pu.Env}{n:Nat}{xss:List (List PV)}(h:∀U1 U2:pD,U1=p1->U2=p2->pt env n fun b e m=>if b=true then U1 ks R e m xss else U2 ks R e m xss):qdIf pt p1 p2 ks R env n xss:=h p1 p2 rfl rfl
theorem b3f {n0:Nat}{row:List Str}{R:PV->Nat->Prop}(hr:RowS row)(h1:1<=row.length)(h24:row.length<=24)(hn:n0<=999000000)(h:∀ess sts r n',Dy Pq 1 row.length row.length row row.length ess sts r->n'<=n0 + 24->R (.tup [dayP ess,rowP r,.tup (row.map (dueR ess sts row.length))]) n'):a1n [.pot (q + 1),rowP row] n0 R:=by
 refine⟨rfl,?_⟩;unfold a1P;have hW0:rowP row=.tup (row.map PV.str):=rfl;have Zl:(row.map PV.str).length=row.length:=x0k _;rw [hW0];walk_at "pd";refine⟨by omega,by omega,by decide,b4k row [] [] none hr.1 (fun _ _ z=>nomatch z) ?_⟩;rw [x1S,x1S];generalize hn':row.length=n at *;generalize hZ:row.map PV.str=Z at *;rw [Zl];refine⟨⟨by omega,by omega⟩,?_⟩;rw [x1F];refine a5z (fun i env m yss=>∃(r:List Str) (ess:List (List Ev)) (sts:List (List Str)) (s6 s7 s8 s9 s10 s11:Option Pu.Slot),env=[some (.v (.pot (q + 1))),some (.v (.tup Z)),some (.ow .lst (r.map PV.str)),some (.ow .lst (ess.map shP)),none,some (.v (.int (n:Int))),s6,s7,s8,s9,s10,s11]/\m<=n0 + i/\yss=row.map (kep n ess sts)/\Dy Pq 1 n n row i ess sts r) _ 0 _ _ _ ⟨row,[],[],none,none,none,none,none,none,by rw [hZ];rfl,x0j _,rfl,.nil⟩ (fun i x env m yss N ex hI hN=>?_) (fun env m yss hI=>?_)
 · obtain⟨r,ess,sts,s6,s7,s8,s9,s10,s11,rfl,hm,rfl,dy⟩:=hI;obtain⟨hi,rfl⟩:=a5f ex;rw [x1b] at *;have mx:n=(n + 1 - 1) / 1:=by rw [Nat.add_sub_cancel,Nat.div_one]
   obtain⟨rS,rL⟩:=dy.rows (x0j 1) h1 mx (fun _ _ p=>(p.1 0).fair) hr hn';obtain⟨el,sl⟩:=dy.len;have rp:=(b4v (x0j 1) h1 mx (fun _ _ p=>(p.1 0).fair) hr hn' dy).1;have ek:(n:Int) - 1 - i=((n - 1 - i:Nat):Int):=by omega
   rw [ek];generalize hk:n - 1 - i=k at *;have kn:k < n:=by omega
   have at_:∀{j:Nat} {d:Int},d=(j:Int)->j < n->atI (r.map PV.str) d=some (.str (nm r j)):=fun {j d} e hj=>by
     rw [e];refine a2G ?_;rw [x0v,x0f (by omega),nm_at (by omega)];rfl
   have inr:∀{j:Nat},j < n->nm r j∈row:=fun {j} hj=>rp.mem_iff.mp (by rw [nm_at (by omega)];exact x2c _);obtain⟨ph,eph,rph⟩:=a5w (inr kn);have eF:∀z p,row[p]?=some z->(row.map (kep n ess sts))[p]?=some (kep n ess sts z):=fun z p e=>by rw [x0v,e];rfl
   have lF:∀z,(kep n ess sts z).length<=24:=fun z=>by have:=b0W (n:=n) (b:=z) ess sts;omega
   have eA:=at_ (j:=k) rfl kn;have eL:(ess.map shP).length < 1000000:=by rw [x0k];omega
   have lrP:(r.map PV.str).length=n:=by rw [x0k,rL]
   have go:∀(r':List Str) (ess':List (List Ev)) (sts':List (List Str)) (m':Nat) (s6 s7 s8 s9 s10 s11:Option Pu.Slot) (F:Str->List PV),Dy Pq 1 n n row (i + 1) ess' sts' r'->m'<=n0 + (i + 1)->kep n ess' sts'=F->N [some (.v (.pot (q + 1))),some (.v (.tup Z)),some (.ow .lst (r'.map PV.str)),some (.ow .lst (ess'.map shP)),none,some (.v (.int (n:Int))),s6,s7,s8,s9,s10,s11] m' (row.map F):=fun r' ess' sts' m' s6 s7 s8 s9 s10 s11 F hd hm' hF=>hN _ _ _ ⟨r',ess',sts',s6,s7,s8,s9,s10,s11,rfl,hm',by rw [hF],hd⟩;clear hN;generalize hRP:r.map PV.str=RP at *;generalize hEP:ess.map shP=EP at *
   have go2:∀(es:List Ev) (st:List Str) (m':Nat) (s6 s7 s8 s9 s10 s11:Option Pu.Slot) (F:Str->List PV),Dy Pq 1 n n row (i + 1) (es::ess) (st::sts) r->m'<=n0 + (i + 1)->kep n (es::ess) (st::sts)=F->N [some (.v (.pot (q + 1))),some (.v (.tup Z)),some (.ow .lst RP),some (.ow .lst (shP es::EP)),none,some (.v (.int (n:Int))),s6,s7,s8,s9,s10,s11] m' (row.map F):=fun es st m' s6 s7 s8 s9 s10 s11 F hd hm' hF=>by
     have:=go r (es::ess) (st::sts) m' s6 s7 s8 s9 s10 s11 F hd hm' hF;rw [hRP,x0C,hEP] at this;exact this
   have ek1:n - 1 - ess.length=k:=by rw [el];exact hk
   obtain⟨lo,elo,hlo⟩:∃lo,atI RP (if(n:Int) - 1 < (k:Int) + 1 then(n:Int) - 1 else(k:Int) + 1)=some (.str lo)/\(k + 1 < n->lo=nm r (k + 1)):=by
     by_cases c:k + 1=n
     · exact⟨nm r k,by rw [if_pos (by omega),at_ (j:=k) (by omega) kn],fun z=>absurd c (by omega)⟩
     · exact⟨nm r (k + 1),by rw [if_neg (by omega),at_ (j:=k + 1) (by omega) (by omega)],fun _=>rfl⟩
   show a2v _ _ _ _ _ _ _;refine b0f fun U1 e1=>?_;walk_at "pd";refine⟨rfl,?_⟩;rw [elo];dsimp only;refine⟨rfl,?_⟩;rw [eA];dsimp only;subst e1;show a2v _ _ _ _ _ _ _;refine b0f fun U2 e2=>?_;walk_at "pd";refine⟨⟨by omega,by omega,by omega⟩,fun d d0 d1=>?_⟩;subst e2;show qdIf _ _ _ _ _ _ _ _;refine a5W fun W1 W2 w1 w2=>?_;walk_at "pd"
   by_cases c:k + 1=n
   · refine if_t (by rw [a8l];exact decide_eq_true (by omega)) ?_;subst w1;clear w2;walk_at "pd";refine⟨⟨_,rfl⟩,by decide,by decide,by decide,by decide,by decide,?_⟩
     have fin:∀zs:List Str,zs.Nodup->(∀z∈zs,z=nm r k)->zs.length<=24->∀s6 s7 s8 s9 s10 s11,N [some (.v (.pot (q + 1))),some (.v (.tup Z)),some (.ow .lst RP),some (.ow .lst (shP (zs.map Ev.d)::EP)),none,some (.v (.int (n:Int))),s6,s7,s8,s9,s10,s11] (m + 1) ((row.map (kep n ess sts)).set ph (kep n ess sts (nm r k)++[.tup [.int (k:Int),.str (odS (decide (nm r k∈zs))),.non]])):=fun zs nd sub l s6 s7 s8 s9 s10 s11=>by
       have dy':=a4M dy hi rL nd (fun z hz=>by rw [hk,b3Q rL c,sub z hz];exact x0e) l;rw [hk,b3Q rL c] at dy';rw [a8v hr.1 rph];exact go2 _ _ _ _ _ _ _ _ _ _ dy' (by omega) (kep1 ek1 (by rw [od_M,a5B]))
     have m2:d % 2=0\/d % 2=1:=by omega
     rcases m2 with e | e
     · have f0:=fin [] x4d (fun z hz=>absurd hz x0V) (by decide);rw [e,show atI [PV.tup [],PV.tup [PV.tup [PV.str (x0g "drop"),PV.str (nm r k)]]] 0=some (PV.tup []) from rfl,show atI [PV.str (x0g "o"),PV.str (x0g "d")] 0=some (PV.str (x0g "o")) from rfl];refine⟨⟨by decide,by decide,eL⟩,?_⟩;dsimp only;rw [eph];dsimp only;rw [eF _ _ rph];refine⟨by have:=lF (nm r k);omega,by decide,by decide,by decide,?_⟩;exact f0 _ _ _ _ _ _
     · have f0:=fin [nm r k] (by simp) (fun z hz=>x0q.mp hz) (by show 1<=24;decide);rw [decide_eq_true x0e] at f0;rw [e,show atI [PV.tup [],PV.tup [PV.tup [PV.str (x0g "drop"),PV.str (nm r k)]]] 1=some (PV.tup [PV.tup [PV.str (x0g "drop"),PV.str (nm r k)]]) from rfl,show atI [PV.str (x0g "o"),PV.str (x0g "d")] 1=some (PV.str (x0g "d")) from rfl];refine⟨⟨by decide,by decide,eL⟩,?_⟩;dsimp only;rw [eph];dsimp only;rw [eF _ _ rph];refine⟨by have:=lF (nm r k);omega,by decide,by decide,by decide,?_⟩;exact f0 _ _ _ _ _ _
   · have k1:k + 1 < n:=by omega
     refine if_f (by rw [a8l];exact decide_eq_false (by omega)) ?_;subst w2;clear w1;have hlo:=hlo k1;subst hlo;show qdIf _ _ _ _ _ _ _ _;refine a5W fun W3 W4 w3 w4=>?_;walk_at "pd";obtain⟨pl,epl,rpl⟩:=a5w (inr k1)
     have ne:nm r k≠nm r (k + 1):=fun e=>by
       rw [nm_at (by omega),nm_at (by omega)] at e;have:=nodup_ix rS.1 (by omega) (by omega) e;omega
     have eF2:∀X,(row.map (apF (kep n ess sts) (nm r (k + 1)) X))[ph]?=some (kep n ess sts (nm r k)):=fun X=>by
       rw [x0v,rph];show some (apF (kep n ess sts) (nm r (k + 1)) X (nm r k))=_;unfold apF;rw [if_neg ne]
     have ap2:∀X Y,(row.map (apF (kep n ess sts) (nm r (k + 1)) X)).set ph (kep n ess sts (nm r k)++[Y])=row.map (apF (apF (kep n ess sts) (nm r (k + 1)) X) (nm r k) Y):=fun X Y=>by
       rw [<- a8v hr.1 rph]
       congr 1
       unfold apF;rw [if_neg ne]
     by_cases c2:d < 2
     · refine if_t (decide_eq_true c2) ?_;subst w3;clear w4;walk_at "pd";refine⟨⟨_,rfl⟩,by decide,by decide,⟨by decide,by decide,eL⟩,?_⟩;rw [epl];dsimp only;rw [eF _ _ rpl];refine⟨by have:=lF (nm r (k + 1));omega,by decide,?_⟩;rw [eph];dsimp only;rw [a8v hr.1 rpl,eF2];refine⟨by have:=lF (nm r k);omega,by decide,⟨_,rfl⟩,?_⟩;rw [lrP,b4m kn];dsimp only;rw [x0B,lrP,show(k:Int) + 1=((k + 1:Nat):Int) by omega,b4m k1];dsimp only;rw [ap2];have dy':=a8A dy hi rL hk k1 ne;obtain⟨t1,t2,t3,t4⟩:=b3z ne;have f0:=fun s6 s7 s8 s9 s10 s11=>go _ _ _ (m + 1) s6 s7 s8 s9 s10 s11 _ dy' (by omega) (kep2 ek1 ne rfl rfl);rw [t1,t2,t3,t4,x4M,x4M,hRP,x0C,hEP] at f0;exact f0 _ _ _ _ _ _
     · refine if_f (decide_eq_false c2) ?_;subst w4;clear w3;walk_at "pd";refine⟨by decide,by decide,by decide,by decide,.inr (.inl (fun x hx=>?_)),fun ys sr=>⟨by decide,?_⟩⟩
       · rcases x0i.mp hx with e | hx
         · exact⟨_,e⟩
         · exact⟨_,x0q.mp hx⟩
       obtain⟨ws,ew,pw⟩:=b2P (ws:=[nm r (k + 1),nm r k]) sr.1
       obtain⟨zs,nd,sub,lz,ez⟩:∃zs:List Str,zs.Nodup/\(∀z∈zs,z∈[nm r k,nm r (k + 1)])/\zs.length<=24/\atI [PV.lst [],PV.lst [.str (nm r (k + 1))],PV.lst ys] (d - 2)=some (.lst (zs.map PV.str)):=by
         have d3:d - 2=0\/d - 2=1\/d - 2=2:=by omega
         rcases d3 with e | e | e
         · exact⟨[],x4d,(fun z hz=>absurd hz x0V),by decide,by rw [e];rfl⟩
         · exact⟨[nm r (k + 1)],by simp,(fun z hz=>by rw [x0q.mp hz];simp),by show 1<=24;decide,by rw [e];rfl⟩
         · refine⟨ws,pw.nodup_iff.mpr (by simp [Ne.symm ne]),(fun z hz=>?_),by rw [pw.length_eq];show 2<=24;decide,by rw [e,ew];rfl⟩;have:=pw.mem_iff.mp hz;simp at this ⊢;exact this.symm
       rw [ez];refine⟨⟨_,rfl⟩,by rw [x0k];omega,?_⟩;refine a2p PV.str (fun z=>evP (.d z)) zs none _ _ (fun z hz m' Q hQ=>?_) ?_
       · walk_at "pd";exact⟨by decide,hQ⟩
       refine⟨⟨by decide,by decide,eL⟩,by decide,?_⟩;have dy':=a4M dy hi rL nd (fun z hz=>by rw [hk,a7N rL k1];exact sub z hz) lz;rw [hk,a7N rL k1] at dy';have f0:=fun s6 s7 s8 s9 s10 s11=>go2 _ _ (m + 1) s6 s7 s8 s9 s10 s11 _ dy' (by omega) (kep2 ek1 ne rfl rfl);rw [od_M,od_M,a5B,a5B] at f0;have eS:shP (zs.map Ev.d)=.tup (zs.map fun z=>evP (.d z)):=by unfold shP;rw [x2B];rfl
       rw [eS] at f0;have i1:∀z {R:PV->Prop},R (.bl (decide (z∈zs)))->wIn 4 false (.str z) (.lst (zs.map PV.str)) R:=fun z R q=>b5Q rfl q;generalize zs.map PV.str=ZP at *;generalize (zs.map fun z=>evP (.d z))=ZE at *;dsimp only [forD];walk_at "pd";rw [epl];dsimp only;rw [eF _ _ rpl];refine⟨by have:=lF (nm r (k + 1));omega,by decide,i1 _ ?_⟩;dsimp only;rw [od_at];refine⟨by decide,?_⟩;rw [eph];dsimp only;rw [a8v hr.1 rpl,eF2];refine⟨by have:=lF (nm r k);omega,by decide,i1 _ ?_⟩;dsimp only;rw [od_at];refine⟨by decide,?_⟩;rw [ap2];exact f0 _ _ _ _ _ _
 · obtain⟨r,ess,sts,s6,s7,s8,s9,s10,s11,rfl,hm,rfl,dy⟩:=hI;rw [a5e,x1b] at *;obtain⟨el,sl⟩:=dy.len
   have eK:kep n ess sts=dL ess sts n n:=by
     funext b
     have:=kep_dL el sl b n (x0j _);rw [x2i,x1Y,x1Y] at this;exact this
   rw [eK,x2B];have g:∀z∈row,getP (row.map x0Q) (row.map (PV.lst∘dL ess sts n n)) (.inr z)=some (.lst (dL ess sts n n z)):=fun z hz=>a7t (F:=PV.lst∘dL ess sts n n) hz;have fin:=h ess sts r m dy (by omega);unfold dayP rowP at fin;generalize row.map (PV.lst∘dL ess sts n n)=GL at *;generalize hKS:(row.map x0Q:List Key)=KS at *;generalize r.map PV.str=RP at *;generalize ess.map shP=EP at *;walk_at "pd";refine⟨by omega,?_⟩;rw [<- hZ];refine a2p PV.str (dueR ess sts n) row _ _ _ (fun z hz k Q hQ=>?_) ⟨by decide,fin⟩;walk_at "pd";rw [g z hz];exact⟨by decide,hQ⟩
theorem b3B {α:Type}(xs:List α)(x:α):cutP (xs++[x]) none (some (-1))=xs:=by
 unfold cutP
 have e:HT.sIx (xs++[x]).length (xs++[x]).length (some (-1))=xs.length:=by
   show(if(-1:Int) < 0 then((-1:Int) + ((xs++[x]).length:Int)).toNat else min (-1:Int).toNat (xs++[x]).length)=_;rw [if_pos (by decide),x0m,x0K];omega
 rw [e,HT.sIx_none,x1Y,x4l,List.take_left]
theorem a9S {zs:List Str}(h:RowS zs)(hl:zs.length<=24):Show 2 4300 (.tup [.str (x0g "row"),rowP zs]):=by
 refine(Show.tup (d:=1) (c:=2100) (l:=2) (fun x hx=>?_) (by simp)).le (x0j _) (by decide);simp only [x0i,x0V,or_false] at hx;rcases hx with rfl | rfl
 · exact(a2I _ (by decide +kernel) (by decide +kernel)).le (by decide) (by decide)
 · exact b2m h.2 hl
noncomputable def wrg (n:Nat):PV:=.tup [.str (x0g "unsound"),.non,.tup [.str (x0g "races"),.int (n:Int)]]
theorem b1Z {n:Nat}(hn:n<=24):Show 2 1000 (wrg n):=by
 refine(Show.tup (d:=1) (c:=300) (l:=3) (fun x hx=>?_) (by simp)).le (x0j _) (by decide);simp only [x0i,x0V,or_false] at hx;rcases hx with rfl | rfl | rfl
 · exact(a2I _ (by decide +kernel) (by decide +kernel)).le (by decide) (by decide)
 · exact⟨trivial,x0L _,by decide⟩
 · refine(Show.tup (d:=0) (c:=100) (l:=2) (fun x hx=>?_) (by simp)).le (by decide) (by decide);simp only [x0i,x0V,or_false] at hx;rcases hx with rfl | rfl
   · exact(a2I _ (by decide +kernel) (by decide +kernel)).le (by decide) (by decide)
   · exact(a8e (i:=(n:Int)) (by omega)).le (by decide) (by decide)
theorem m_dayw {n m r:Nat}{row:List Str}{ds:List PV}{R:PV->Nat->Prop}(hn:1<=n)(hl:row.length=n)(hd:ds.length≠n)(h:R (wrg n) m):a0Y [.tup [.int 1,.int (r:Int)],rowP row,.tup ds] m R:=by
 refine⟨rfl,?_⟩;unfold a1y
 have mr:∀{R:PV->Nat->Prop},R (.int (n:Int)) m->a1o [.tup [.int 1,.int (r:Int)],.int (n:Int)] m R:=fun {R} q=>by
   have:=b0G (s:=1) (n:=n) (m:=m) (r:=(r:Int)) (R:=R) (x0j 1) hn (by decide);rw [Nat.add_sub_cancel,Nat.div_one] at this;exact this q
 have rl:(row.map PV.str).length=n:=by rw [x0k];exact hl
 generalize hW:rowP row=W;have hW':W=.tup (row.map PV.str):=by rw [<- hW]
 walk_at "pu";rw [hW'];simp only [wLen,rl];refine mr ?_;rw [if_pos (by rw [b4t,decide_eq_false (by omega)];rfl)];exact h
theorem m_law (ns:List Int)(hl:ns.length<=63):b2W ⟨fun _ _=>False,fun r _=>r=.bl true,fun _ _=>False,fun _ _=>False⟩ (a2O ["_law_script","_law_draws","_law_turn","_law_row","_law_meeting","_law_day","_law_after","_law_due","_law_wrong","_law_other"] [.scr ns]) 0:=by
 unfold b2W;walk_at "pu";refine⟨hl,fun q=>?_⟩;refine a0O (fun i env m=>∃s2 s3 s4 s5 s6 s7 s8 s9,env=[some (.v (.scr ns)),some (.v (.pot (q + 1))),s2,s3,s4,s5,s6,s7,s8,s9]/\m<=1000 * i) _ 0 _ _ ⟨_,_,_,_,_,_,_,_,rfl,by omega⟩ (fun i x env m N ex hI hN=>?_) (fun env m hI=>trivial);obtain⟨s2,s3,s4,s5,s6,s7,s8,s9,rfl,hm⟩:=hI;obtain⟨hj,rfl⟩:=a6Q ex;rw [x1b] at *;have hj3:i < 2:=hj;show qSeq _ _ _ _ _;refine a1K fun U1 e1=>?_;walk_at "pd";refine⟨⟨by omega,by omega,by omega⟩,fun d d0 d1=>⟨⟨by omega,by omega,by omega⟩,fun f f0 f1=>⟨by decide,⟨by omega,by omega,by omega⟩,fun g g0 g1=>?_⟩⟩⟩
 obtain⟨z,hz1,hz24,ez⟩:∃z:Int,1<=z/\z<=24/\atI [PV.int (1 + d),PV.int (1 + f)] g=some (.int z):=by
   have:g=0\/g=1:=by omega
   rcases this with e | e
   · exact⟨1 + d,by omega,by omega,by rw [e];rfl⟩
   · exact⟨1 + f,by omega,by omega,by rw [e];rfl⟩
 rw [ez];dsimp only;refine b5G hz1 hz24 (by omega) fun zs n1 hl1 hr1 hn1=>?_;subst e1;generalize hZ:rowP zs=Z;show qSeq _ _ _ _ _;refine a1K fun U2 e2=>?_;walk_at "pd";refine⟨⟨by omega,by omega,by omega⟩,fun r r0 r1=>?_⟩;obtain⟨rr,rfl⟩:=x3I r0;subst e2;refine⟨by decide,?_⟩;show qSeq _ _ _ _ _;refine a1K fun U3 e3=>?_;walk_at "pd";rw [<- hZ];have n1':1<=zs.length:=by omega
 have n24:zs.length<=24:=by omega
 refine b3f hr1 n1' n24 (by omega) fun ess sts r' n2 dy hn2=>?_;have hrow:rowP zs=.tup (zs.map PV.str):=rfl;have Zl:(zs.map PV.str).length=zs.length:=x0k _;generalize hnn:zs.length=n at *;have mx:n=(n + 1 - 1) / 1:=by rw [Nat.add_sub_cancel,Nat.div_one]
 have dy2:Dy Pq 1 n ((n + 1 - 1) / 1) zs ((n + 1 - 1) / 1) ess sts r':=by rw [<- mx];exact dy
 obtain⟨el,sl⟩:=dy.len;have fr:∀st es,Pq st es->Fair st es:=fun _ _ p=>(p.1 0).fair;obtain⟨rS,rL⟩:=dy.rows (x0j 1) n1' mx fr hr1 hnn;have mem:=dy.mem (x0j 1) n1' mx fr hr1 hnn
 have bS:∀es∈ess,∀z∈es.flatMap evB,a2H z:=fun es he z hz=>by
   obtain⟨st,p,rs,_⟩:=mem.1 es he;exact rs.2 z ((fr st es p).sub z hz)
 have s1:=a9S rS (by omega);have s2:=b3x (row:=zs) (ess:=ess) (sts:=sts) (mx:=n) hr1.2 (by omega) n24 bS;have s3:=b1Z n24;have ms:=fun Q m h=>m_dayb (P:=Pq) (m:=m) (r:=rr) (R:=Q) (fun _ _ p=>⟨p.1 rr,by have:=p.2;omega⟩) (x0j 1) (by decide) n1' n24 hr1 hnn dy2 h;have md:=fun Q m h=>b5H (P:=Pq) (m:=m) (r:=(rr:Int)) (R:=Q) fr (fun _ _ p=>by have:=p.2;omega) (x0j 1) (by decide) n1' n24 hr1 hnn mx dy h;have mw:=fun ds Q m hd h=>m_dayw (m:=m) (r:=rr) (R:=Q) (ds:=ds) n1' hnn hd h;have eD:dayP ess=.tup (ess.map shP):=rfl;have lD:(ess.map shP).length=n:=by rw [x0k];exact el
 clear mem bS dy dy2;subst e3;generalize hZ':rowP zs=Z at *;generalize hX:PV.tup (zs.map (dueR ess sts n))=X at *;generalize hV:rowP r'=V at *;rw [eD] at ms md ⊢;generalize hE:ess.map shP=E at *;dsimp only;refine⟨rfl,?_⟩;show qSeq _ _ _ _ _;refine a1K fun U4 e4=>?_;walk_at "pd";refine ms _ _ ?_;refine a1t s1.sh (by have:=s1.de;omega) (by have:=s1.co;omega) ?_;refine⟨by decide,?_⟩;refine a1t s1.sh (by have:=s1.de;omega) (by have:=s1.co;omega) ?_;have ne:∀z:Str,(!eqP (.str z) (.str z))=false:=fun z=>by rw [b1q,decide_eq_true rfl];rfl
 refine gd2 rfl rfl (if_f (ne _) ?_);subst e4;show qSeq _ _ _ _ _;refine a1K fun U5 e5=>?_;walk_at "pd";refine md _ _ ?_;refine a1t s2.sh (by have:=s2.de;omega) (by have:=s2.co;omega) ?_;refine a1t s2.sh (by have:=s2.de;omega) (by have:=s2.co;omega) ?_;refine gd2 rfl rfl (if_f (ne _) ?_);subst e5;rw [hrow] at mw ⊢;generalize zs.map PV.str=ZP at *;show qSeq _ _ _ _ _;refine a1K fun U6 e6=>?_;walk_at "pd";rw [Zl];refine⟨by decide,by decide,?_⟩;subst e6;have eW:PV.tup [PV.str (x0g "unsound"),PV.non,PV.tup [PV.str (x0g "races"),PV.int (n:Int)]]=wrg n:=rfl;rw [eW];generalize wrg n=W at *
 have lens:∀(j:Nat) (x:PV),[PV.tup (cutP E none (some (-1))),PV.tup (E++[PV.tup []])][j]?=some x->∃ds,x=.tup ds/\ds.length≠n:=fun j x hx=>by
   match j,hx with
   | 0, hx =>
     cases hx;refine⟨_,rfl,?_⟩;rcases List.eq_nil_or_concat E with e | ⟨E',y,e⟩
     · rw [e] at lD;rw [<- lD] at n1';exact absurd n1' (by decide)
     · rw [List.concat_eq_append] at e;rw [e,b3B];rw [e,x0m,x0K] at lD;omega
   | 1, hx =>
     cases hx;refine⟨_,rfl,?_⟩;rw [x0m,x0K];omega
   | j + 2,hx=>cases hx
 walk_at "pd";refine⟨by decide,by decide,by omega,by decide,?_⟩;refine a0O (fun k env m'=>∃s9,env=[some (.v (.scr ns)),some (.v (.pot (q + 1))),some (.v (.int (0 + (i:Int)))),some (.v (.tup ZP)),some (.v (.tup [.int 1,.int (rr:Int)])),some (.v (.tup E)),some (.v V),some (.v X),some (.v W),s9]/\m'=n2) _ 0 _ _ ⟨_,rfl,rfl⟩ (fun k x env m' N' ex' hI hN'=>?_) (fun env m' hI=>?_)
 · obtain⟨s9,rfl,rfl⟩:=hI;obtain⟨ds,rfl,hds⟩:=lens k x ex';have nxt:=fun s9=>hN' [some (.v (.scr ns)),some (.v (.pot (q + 1))),some (.v (.int (0 + (i:Int)))),some (.v (.tup ZP)),some (.v (.tup [.int 1,.int (rr:Int)])),some (.v (.tup E)),some (.v V),some (.v X),some (.v W),s9] m' ⟨s9,rfl,rfl⟩;walk_at "pd"
   split
   · split
     · refine mw ds _ _ hds ?_;refine a1t s3.sh (by have:=s3.de;omega) (by have:=s3.co;omega) ?_;refine a1t s3.sh (by have:=s3.de;omega) (by have:=s3.co;omega) ?_;exact gd2 rfl rfl (if_f (ne _) (nxt _))
     · exact nxt _
   · exact nxt _
 · obtain⟨s9,rfl,rfl⟩:=hI;exact hN _ _ ⟨_,_,_,_,_,_,_,_,rfl,by omega⟩
end Tb
end
section
namespace Tb
open PySem L2 Pu
section
variable {P:x0D}{w:World}{K:x0a}{mg:Str->Option Value}{base:Heap}
theorem a9H {H H':Hp}{a:Addr}{xs:List V}(h:SqL K H a xs)(s:Same H H'):SqL K H' a xs:=h.elim (fun h=>.inl (Rd.keep h fun o e=>s a o e)) .inr
theorem a9N {H H':Hp}(s:Same H H'){c:Addr}(h:H' c=none):H c=none:=by
 cases e:H c with
 | none=>rfl
 | some o=>rw [s c o e] at h;cases h
theorem putK_new {kvs:List (Key×V)}{k:Key}{v:V}(h:∀kv∈kvs,¬kv.1=k):putK kvs k v=kvs++[(k,v)]:=by
 unfold putK;rw [if_neg];rw [Bool.not_eq_true,List.any_eq_false];intro x hx;rw [decide_eq_true_iff];exact h x hx
theorem a8V {c:Addr}{a l s:Int}:a1s [] (dPot c a l s)=dPot c a l s:=by
 unfold a1s dPot;simp only [x1y,List.foldl_nil];have e1:putK ([]:List (Key×V)) (x0Q (x0g "cells")) (V.ref c)=[(x0Q (x0g "cells"),V.ref c)]:=putK_new (fun _ z=>nomatch z);have e2:putK [((x0Q (x0g "cells"):Key),V.ref c)] (x0Q (x0g "at")) (V.int a)=[(x0Q (x0g "cells"),V.ref c),(x0Q (x0g "at"),V.int a)]:=putK_new (fun kv hkv=>by rw [x0q.mp hkv];exact a1d (by decide))
 have e3:putK [((x0Q (x0g "cells"):Key),V.ref c),(x0Q (x0g "at"),V.int a)] (x0Q (x0g "left")) (V.int l)=[(x0Q (x0g "cells"),V.ref c),(x0Q (x0g "at"),V.int a),(x0Q (x0g "left"),V.int l)]:=putK_new (fun kv hkv=>by
   simp only [x0i,x0V,or_false] at hkv
   rcases hkv with rfl | rfl <;> exact a1d (by decide))
 have e4:putK [((x0Q (x0g "cells"):Key),V.ref c),(x0Q (x0g "at"),V.int a),(x0Q (x0g "left"),V.int l)] (x0Q (x0g "seed")) (V.int s)=[(x0Q (x0g "cells"),V.ref c),(x0Q (x0g "at"),V.int a),(x0Q (x0g "left"),V.int l),(x0Q (x0g "seed"),V.int s)]:=putK_new (fun kv hkv=>by
   simp only [x0i,x0V,or_false] at hkv
   rcases hkv with rfl | rfl | rfl <;> exact a1d (by decide))
 rw [e1,e2,e3,e4]
theorem b2Z (F:Fn0 K mg "_law_begin" (top 29))(m_len:mg "len"=none)(m_list:mg "list"=none):Kn P w K mg base "_law_begin" 1 ["_law_script"] (Pu.a3K K):=by
 have sc:a0q ["_law_script"] ["_law_script"] (a0i (top 29)):=⟨rfl,rfl,rfl,by decide +kernel,rfl,by decide +kernel,by decide +kernel⟩;refine F.ok sc (fun vs H Q E h=>?_) (fun _ _ _ _ _ _=>bd1 fun _=>rfl) (fun f cdv A outer s H vs Q E hr h=>?_)
 · obtain⟨a,ns,rfl,_⟩:=h
   rfl
 obtain⟨a,ns,rfl,hS,hl63,q⟩:=h;refine⟨_,a3f (a6a (b5s (a3N a0M (a2c a3D rfl m_list b1O (a0n (a5m a6O (pv 0) a7b (a7a a0Q)) a0C)) (a3N a0M a0Q (a3N a0M a0Q (a3N a0M (a1w a4R a0Q (a2n a2i rfl m_len a8t (a0n (a5m a6O (pv 0) a7b (a7a a0Q)) a0C))) b5l)))) rfl rfl (by simp) (by simp))),?_⟩
 have cut:cutV (ns.map V.int) none (some 63)=ns.map V.int:=by
   unfold cutV;rw [HT.sIx_none,show(some (63:Int))=some ((63:Nat):Int) from rfl,HT.sIx_nat,x1Y,x0k,x3n hl63];exact x1u (by rw [x0k];omega)
 intro p hp;have sm0:Same H (upd H p (.dK [])):=Same.lay1 hp;refine⟨_,rfl,63,rfl,a,_,rfl,a9H hS sm0,fun p0 hp0=>?_⟩;have sm1:=sm0.trans (Same.lay1 (o:=.lst (cutV (ns.map V.int) none (some 63))) hp0);have at1:upd (upd H p (.dK [])) p0 (.lst (cutV (ns.map V.int) none (some 63))) p=some (.dK []):=Same.lay1 hp0 p _ a0f;refine⟨p0,_,rfl,.inl (SqL.of a0f),fun c hc=>?_⟩;have sm2:=sm1.trans (Same.lay1 (o:=.lst (cutV (ns.map V.int) none (some 63))) hc);have at2:=Same.lay1 (o:=.lst (cutV (ns.map V.int) none (some 63))) hc p _ at1;have cn:=a9N sm1 hc;refine⟨_,rfl,63,rfl,a,_,rfl,a9H hS sm2,fun p1 hp1=>?_⟩;have sm3:=sm2.trans (Same.lay1 (o:=.lst (cutV (ns.map V.int) none (some 63))) hp1);have at3:=Same.lay1 (o:=.lst (cutV (ns.map V.int) none (some 63))) hp1 p _ at2;have ct3:=Same.lay1 (o:=.lst (cutV (ns.map V.int) none (some 63))) hp1 c _ a0f;refine⟨p1,_,rfl,.inl (SqL.of a0f),_,_,rfl,rfl,at3,dPot c 0 0 (1000003 + ((cutV (ns.map V.int) none (some 63)).length:Nat)),rfl,by show 4<=15;decide,?_⟩;rw [a8V];have ncp:c≠p:=fun z=>by rw [z] at hc;rw [at1] at hc;cases hc
 refine q _ p c ns 0 0 _ (fun b o e=>?_) hp cn a0f (by rw [a0e ncp];rw [ct3,cut]) ⟨hl63,by omega,by omega,by omega,?_⟩
 · have nbp:b≠p:=fun z=>by rw [z,hp] at e;cases e
   rw [a0e nbp];exact sm3 b o e
 · rw [cut,x0k];omega
theorem upd_id {H:Hp}{p:Addr}{o:HO}(h:H p=some o):upd H p o=H:=by
 funext b
 by_cases e:b=p
 · rw [e,a0f,h]
 · rw [a0e e]
theorem b1z {H:Hp}{p c:Addr}{a l s:Int}(h:H p=some (.dK (dPot c a l s))):DGet H p (.str (x0g "cells")) (some (.ref c)):=a9q (a:=a) (l:=l) (s:=s)▸DGet.k (k:=x0Q (x0g "cells")) h
theorem dgAt {H:Hp}{p c:Addr}{a l s:Int}(h:H p=some (.dK (dPot c a l s))):DGet H p (.str (x0g "at")) (some (.int a)):=b6a (c:=c) (l:=l) (s:=s)▸DGet.k (k:=x0Q (x0g "at")) h
theorem a8q {H:Hp}{p c:Addr}{a l s:Int}(h:H p=some (.dK (dPot c a l s))):DGet H p (.str (x0g "left")) (some (.int l)):=b1y (c:=c) (a:=a) (s:=s)▸DGet.k (k:=x0Q (x0g "left")) h
theorem a8p {H:Hp}{p c:Addr}{a l s:Int}(h:H p=some (.dK (dPot c a l s))):DGet H p (.str (x0g "seed")) (some (.int s)):=b1x (c:=c) (a:=a) (l:=l)▸DGet.k (k:=x0Q (x0g "seed")) h
theorem b5Y {c:Addr}{a l s:Int}:(dPot c a l s).length < x0w:=by show 4 < x0w;decide
theorem dpAt {H:Hp}{p c:Addr}{a l s x:Int}(h:H p=some (.dK (dPot c a l s))):DPut H p (.str (x0g "at")) (.int x) (upd H p (.dK (dPot c x l s))):=b5X (c:=c) (a:=a) (l:=l) (s:=s)▸DPut.k (k:=x0Q (x0g "at")) h b5Y
theorem b4x {H:Hp}{p c:Addr}{a l s x:Int}(h:H p=some (.dK (dPot c a l s))):DPut H p (.str (x0g "left")) (.int x) (upd H p (.dK (dPot c a x s))):=b1v (c:=c) (a:=a) (l:=l) (s:=s)▸DPut.k (k:=x0Q (x0g "left")) h b5Y
theorem b4w {H:Hp}{p c:Addr}{a l s x:Int}(h:H p=some (.dK (dPot c a l s))):DPut H p (.str (x0g "seed")) (.int x) (upd H p (.dK (dPot c a l x))):=b1u (c:=c) (a:=a) (l:=l) (s:=s)▸DPut.k (k:=x0Q (x0g "seed")) h b5Y
theorem b5y (F:Fn0 K mg "_law_next" (top 30))(m_len:mg "len"=none)(m_int:mg "int"=none):Kn P w K mg base "_law_next" 1 ["_law_draws","_law_many"] (a0k K potD b1Q):=by
 refine b0A ?_;have sc:a0q ["_law_draws","_law_many","_law_cell","_law_digit"] ["_law_draws","_law_many"] (a0i (top 30)):=⟨rfl,rfl,rfl,by decide +kernel,rfl,by decide +kernel,by decide +kernel⟩;refine F.ok sc (fun vs H Q E h=>?_) (fun _ _ _ _ _ _=>bd2 fun _ _=>rfl) (fun f cdv A outer s H vs Q E hr h=>?_)
 · obtain⟨p,c,cells,a,l,s,many,rfl,_⟩:=h
   rfl
 obtain⟨p,c,cells,a,l,sd,many,rfl,hp,hc,⟨c63,a0,l0,s0,s1⟩,n0,n1,q⟩:=h;have hu:=a4H hr
 refine⟨_,(a0J (b2H (PW.pt (b4d (a5l op_eq (a0W hu (pv 0) a0M (fun _ _=>rfl)) a0Q (a0N _)) (b0j (a5l op_lt (a0W hu (pv 0) a0M (fun _ _=>rfl)) (a2n a2i rfl m_len a8t (a0n (a0W hu (pv 0) a0M (fun _ _=>rfl)) a0C)) (a0N _)))))
       (a0J (b0k (i:=2) sc.nd rfl (Or.inl rfl) (b5r b0Z (a0W hu (pv 0) a0M (fun _ _=>rfl)) (a0W hu (pv 0) a0M (fun _ _=>rfl)) (fun _ _=>rfl)))
       (a0J (a3g hu (pv 0) a0M (a1w a4R (a0W hu (pv 0) a0M (fun _ _=>rfl)) a0Q) rfl)
       (a0J (a3g hu (pv 0) a0M (a1w a4k (a1w a4R (a1w a4R (a1w a6e (a0W hu (pv 0) a0M (fun _ _=>rfl)) a0Q) (a1w a4k (pv 2) (a1w b4h a0Q a0Q))) a0Q) a0Q) rfl)
       (a3f (a3g hu (pv 0) a0M (a1w a6e (pv 2) (a2c a6A rfl m_int b4A (a0n (b0o op_ge (pv 2) (a1w b4h a0Q a0Q) (a0N _)) a0C))) rfl))))) a6Z)
     (a0J (b2H (a5l op_gt (a0W hu (pv 0) a0M (fun _ _=>rfl)) a0Q (a0N _))
       (a0J (b0k (i:=3) sc.nd rfl (Or.inl rfl) (a1w a4k (a0W hu (pv 0) a0M (fun _ _=>rfl)) (pv 1)))
       (a0J (a3g hu (pv 0) a0M (a1w a7j (a0W hu (pv 0) a0M (fun _ _=>rfl)) (pv 1)) rfl)
       (a3f (a6a (pv 3))))) a6Z)
     (a0J (a3g hu (pv 0) a0M (a1w a4k (a1w a4R (a1w a6e (a0W hu (pv 0) a0M (fun _ _=>rfl)) a0Q) a0Q) a0Q) rfl)
     (a3f (a6a (a1w a4k (a1w a7j (a1w a4k (a1w a6e (a0W hu (pv 0) a0M (fun _ _=>rfl)) (a0W hu (pv 0) a0M (fun _ _=>rfl))) a0Q) a0Q) (pv 1))))))),?_⟩
 have sl:(dPot c a l sd).length < x0w:=by show 4 < x0w;decide
 have cp:c≠p:=fun z=>by rw [z,hp] at hc;cases hc
 refine b2c (fun σ' H'=>∃a' l' s' s2,σ'=[some (.ref p),some (.int many),s2,none]/\a6I cells a' l' s'/\H'=upd H p (.dK (dPot c a' l' s'))) (fun key=>?_) ?_
 · have stay:=key _ _ ⟨a,l,sd,none,rfl,⟨c63,a0,l0,s0,s1⟩,(upd_id hp).symm⟩;refine⟨_,rfl,p,_,rfl,a8q hp,rfl,_,rfl,?_⟩;refine ite2 (fun c1=>?_) (fun c1=>stay);refine⟨_,rfl,p,_,rfl,dgAt hp,_,rfl,p,_,rfl,b1z hp,c,_,rfl,.inl (SqL.of hc),_,_,rfl,rfl,_,rfl,?_⟩;refine ite2 (fun c2=>?_) (fun c2=>stay);have c2':a < (((cells.map V.int).length:Nat):Int):=of_decide_eq_true c2;rw [x0k] at c2';obtain⟨v,qa⟩:=at_map (ns:=cells) a0 c2';refine⟨_,rfl,p,_,rfl,b1z hp,_,rfl,p,_,rfl,dgAt hp,c,_,_,_,rfl,rfl,SqL.of hc,qa,?_⟩;refine⟨_,rfl,p,_,rfl,dgAt hp,_,_,rfl,rfl,_,rfl,p,_,rfl,dpAt hp,?_⟩;refine⟨_,rfl,p,_,rfl,a8p a0f,_,_,rfl,rfl,.inl ⟨by omega,by omega⟩,_,rfl,_,_,rfl,rfl,⟨by decide,by decide,by decide⟩,_,_,rfl,rfl,(by show(0:Int) < 10 ^ Int.toNat 30;decide +kernel),_,_,rfl,rfl,_,_,rfl,rfl,_,_,rfl,rfl,(by show(0:Int) < 2305843009213693951;decide),_,rfl,p,_,rfl,b4w a0f,?_⟩;rw [a4Z];refine⟨_,rfl,_,rfl,_,_,rfl,rfl,⟨by decide,by decide,by decide⟩,_,_,rfl,rfl,?_⟩;refine .inr ⟨_,rfl,?_⟩
   have hz:0<=v * (if decide ((10:Int) ^ Int.toNat 18<=v)=true then(1:Int) else 0):=by
     by_cases hb:(10:Int) ^ Int.toNat 18<=v
     · rw [if_pos (decide_eq_true hb),Int.mul_one];exact Int.le_trans (by decide +kernel) hb
     · rw [if_neg (by simpa using hb),Int.mul_zero];exact Int.le_refl _
   have hz2:(0:Int)<=(if decide ((10:Int) ^ Int.toNat 18<=v)=true then(1:Int) else 0)/\(if decide ((10:Int) ^ Int.toNat 18<=v)=true then(1:Int) else 0) < 2 ^ 64:=by split <;> decide
   refine⟨_,_,rfl,rfl,.inr ⟨by have:=hz2.1;omega,hz2.2⟩,_,rfl,p,_,rfl,b4x a0f,?_⟩;rw [a4Z];exact key _ _ ⟨_,_,_,_,rfl,⟨c63,by omega,hz,x2T _ (by decide),Int.lt_of_lt_of_le (x2h _ (by decide)) (by decide)⟩,rfl⟩
 rintro σ' H' ⟨a',l',s',s2,rfl,⟨_,a0',l0',s0',s1'⟩,rfl⟩;refine⟨_,rfl,p,_,rfl,a8q a0f,_,_,rfl,rfl,_,rfl,?_⟩;refine ite2 (fun c1=>?_) (fun c1=>?_)
 · refine⟨_,rfl,p,_,rfl,a8q a0f,_,rfl,_,_,rfl,rfl,n0,?_⟩;refine⟨_,rfl,p,_,rfl,a8q a0f,_,rfl,_,_,rfl,rfl,⟨n0,by omega⟩,_,rfl,p,_,rfl,b4x a0f,?_⟩;rw [a4Z];refine⟨_,rfl,?_⟩;exact q _ _ _ _ (x2T _ (by omega)) (x2h _ n0) ⟨c63,a0',Int.ediv_nonneg l0' (by omega),s0',s1'⟩
 · refine⟨_,rfl,p,_,rfl,a8p a0f,_,_,rfl,rfl,.inl ⟨by omega,by omega⟩,_,_,rfl,rfl,_,_,rfl,rfl,(by show(0:Int) < 2305843009213693951;decide),_,rfl,p,_,rfl,b4w a0f,?_⟩;rw [a4Z];have m0:=x2T (s' * 1181783497276652981 + 12345678910987) (show(2305843009213693951:Int)≠0 by decide);have m1:=x2h (s' * 1181783497276652981 + 12345678910987) (show(0:Int) < 2305843009213693951 by decide);generalize (s' * 1181783497276652981 + 12345678910987) % 2305843009213693951=z at m0 m1 ⊢;refine⟨_,rfl,p,_,rfl,a8p a0f,_,rfl,p,_,rfl,a8p a0f,_,_,rfl,rfl,.inl ⟨by omega,by omega⟩,_,_,rfl,rfl,(by show(0:Int) < 2305843009213693921;decide),_,_,rfl,rfl,⟨by decide,by decide⟩,_,rfl,_,_,rfl,rfl,n0,?_⟩;exact q _ _ _ _ (x2T _ (by omega)) (x2h _ n0) ⟨c63,a0',l0',m0,by omega⟩
theorem b2X {Pt:Addr}{lpos:Pos}{qual:Str}(F:Fn0 K mg "_law_next" (top 30))(m_len:mg "len"=none)(m_int:mg "int"=none):Kn P w K mg base "_law_next" 1 ["_law_draws","_law_many"] (a0k K (tabK potD Pt lpos qual) a3E):=b3y (b5y F m_len m_int) rfl
end
end Tb
end
section
open PySem PySem.W PyProof.Rows
set_option maxRecDepth 100000 in
set_option maxHeartbeats 0 in
theorem PySem.Challenge.cw_touchboats_k24_days_of_one_boat_a_divisi_holds : PySem.Challenge.rw_touchboats_k24_days_of_one_boat_a_divisi.Holds := by
 w_on;o_law;k_head;(case hw=>w_witness2)
 k_fill
 refine L2.a9z (l:=PySem.Challenge.rw_touchboats_k24_days_of_one_boat_a_divisi) (x:="_law_script") (k:=7) rfl rfl ⟨rfl,by decide,by decide,rfl⟩ (by decide) ?F
 case F=>
   intro w mg h KX G
   have f__law_begin:L2.Fn0 (L2.KOf KX) mg "_law_begin" (Tb.top 29):=by
     dsimp only [L2.KOf]
     refine' L2.a0H KX G ?a ?l ?c ?k
     (case a=>k_is);(case l=>k_is);(case c=>k_is);(case k=>k_is)
   have f__law_next:L2.Fn0 (L2.KOf KX) mg "_law_next" (Tb.top 30):=by
     dsimp only [L2.KOf]
     refine' L2.a0H KX G ?a ?l ?c ?k
     (case a=>k_is);(case l=>k_is);(case c=>k_is);(case k=>k_is)
   have f__law_names:L2.Fn0 (L2.KOf KX) mg "_law_names" (Tb.top 31):=by
     dsimp only [L2.KOf]
     refine' L2.a0H KX G ?a ?l ?c ?k
     (case a=>k_is);(case l=>k_is);(case c=>k_is);(case k=>k_is)
   have f__law_sheets:L2.Fn0 (L2.KOf KX) mg "_law_sheets" (Tb.top 32):=by
     dsimp only [L2.KOf]
     refine' L2.a0H KX G ?a ?l ?c ?k
     (case a=>k_is);(case l=>k_is);(case c=>k_is);(case k=>k_is)
   have f_races_of:L2.Fn0 (L2.KOf KX) mg "races_of" (Tb.top 1):=by
     dsimp only [L2.KOf]
     refine' L2.a0H KX G ?a ?l ?c ?k
     (case a=>k_is);(case l=>k_is);(case c=>k_is);(case k=>k_is)
   have f_boats_of:L2.Fn0 (L2.KOf KX) mg "boats_of" (Tb.top 5):=by
     dsimp only [L2.KOf]
     refine' L2.a0H KX G ?a ?l ?c ?k
     (case a=>k_is);(case l=>k_is);(case c=>k_is);(case k=>k_is)
   have f_boat_reason:L2.Fn0 (L2.KOf KX) mg "boat_reason" (Tb.top 12):=by
     dsimp only [L2.KOf]
     refine' L2.a0H KX G ?a ?l ?c ?k
     (case a=>k_is);(case l=>k_is);(case c=>k_is);(case k=>k_is)
   have f_touches_of:L2.Fn0 (L2.KOf KX) mg "touches_of" (Tb.top 6):=by
     dsimp only [L2.KOf]
     refine' L2.a0H KX G ?a ?l ?c ?k
     (case a=>k_is);(case l=>k_is);(case c=>k_is);(case k=>k_is)
   have f_is_wrong:L2.Fn0 (L2.KOf KX) mg "is_wrong" (Tb.top 8):=by
     dsimp only [L2.KOf]
     refine' L2.a0H KX G ?a ?l ?c ?k
     (case a=>k_is);(case l=>k_is);(case c=>k_is);(case k=>k_is)
   have f_between:L2.Fn0 (L2.KOf KX) mg "between" (Tb.top 7):=by
     dsimp only [L2.KOf]
     refine' L2.a0H KX G ?a ?l ?c ?k
     (case a=>k_is);(case l=>k_is);(case c=>k_is);(case k=>k_is)
   have f_is_far:L2.Fn0 (L2.KOf KX) mg "is_far" (Tb.top 9):=by
     dsimp only [L2.KOf]
     refine' L2.a0H KX G ?a ?l ?c ?k
     (case a=>k_is);(case l=>k_is);(case c=>k_is);(case k=>k_is)
   have f_touch_reason:L2.Fn0 (L2.KOf KX) mg "touch_reason" (Tb.top 13):=by
     dsimp only [L2.KOf]
     refine' L2.a0H KX G ?a ?l ?c ?k
     (case a=>k_is);(case l=>k_is);(case c=>k_is);(case k=>k_is)
   have f_is_cross:L2.Fn0 (L2.KOf KX) mg "is_cross" (Tb.top 10):=by
     dsimp only [L2.KOf]
     refine' L2.a0H KX G ?a ?l ?c ?k
     (case a=>k_is);(case l=>k_is);(case c=>k_is);(case k=>k_is)
   have f_cross_reason:L2.Fn0 (L2.KOf KX) mg "cross_reason" (Tb.top 14):=by
     dsimp only [L2.KOf]
     refine' L2.a0H KX G ?a ?l ?c ?k
     (case a=>k_is);(case l=>k_is);(case c=>k_is);(case k=>k_is)
   have f_reason_of:L2.Fn0 (L2.KOf KX) mg "reason_of" (Tb.top 15):=by
     dsimp only [L2.KOf]
     refine' L2.a0H KX G ?a ?l ?c ?k
     (case a=>k_is);(case l=>k_is);(case c=>k_is);(case k=>k_is)
   have f_span:L2.Fn0 (L2.KOf KX) mg "span" (Tb.top 2):=by
     dsimp only [L2.KOf]
     refine' L2.a0H KX G ?a ?l ?c ?k
     (case a=>k_is);(case l=>k_is);(case c=>k_is);(case k=>k_is)
   have f_put_on:L2.Fn0 (L2.KOf KX) mg "put_on" (Tb.top 19):=by
     dsimp only [L2.KOf]
     refine' L2.a0H KX G ?a ?l ?c ?k
     (case a=>k_is);(case l=>k_is);(case c=>k_is);(case k=>k_is)
   have f_exchanged:L2.Fn0 (L2.KOf KX) mg "exchanged" (Tb.top 3):=by
     dsimp only [L2.KOf]
     refine' L2.a0H KX G ?a ?l ?c ?k
     (case a=>k_is);(case l=>k_is);(case c=>k_is);(case k=>k_is)
   have f_row_behind:L2.Fn0 (L2.KOf KX) mg "row_behind" (Tb.top 11):=by
     dsimp only [L2.KOf]
     refine' L2.a0H KX G ?a ?l ?c ?k
     (case a=>k_is);(case l=>k_is);(case c=>k_is);(case k=>k_is)
   have f_start_on:L2.Fn0 (L2.KOf KX) mg "start_on" (Tb.top 18):=by
     dsimp only [L2.KOf]
     refine' L2.a0H KX G ?a ?l ?c ?k
     (case a=>k_is);(case l=>k_is);(case c=>k_is);(case k=>k_is)
   have f_raced:L2.Fn0 (L2.KOf KX) mg "raced" (Tb.top 20):=by
     dsimp only [L2.KOf]
     refine' L2.a0H KX G ?a ?l ?c ?k
     (case a=>k_is);(case l=>k_is);(case c=>k_is);(case k=>k_is)
   have f_day_behind:L2.Fn0 (L2.KOf KX) mg "day_behind" (Tb.top 21):=by
     dsimp only [L2.KOf]
     refine' L2.a0H KX G ?a ?l ?c ?k
     (case a=>k_is);(case l=>k_is);(case c=>k_is);(case k=>k_is)
   have f_starts_of:L2.Fn0 (L2.KOf KX) mg "starts_of" (Tb.top 22):=by
     dsimp only [L2.KOf]
     refine' L2.a0H KX G ?a ?l ?c ?k
     (case a=>k_is);(case l=>k_is);(case c=>k_is);(case k=>k_is)
   have f_others_of:L2.Fn0 (L2.KOf KX) mg "others_of" (Tb.top 26):=by
     dsimp only [L2.KOf]
     refine' L2.a0H KX G ?a ?l ?c ?k
     (case a=>k_is);(case l=>k_is);(case c=>k_is);(case k=>k_is)
   have f_marks_of:L2.Fn0 (L2.KOf KX) mg "marks_of" (Tb.top 24):=by
     dsimp only [L2.KOf]
     refine' L2.a0H KX G ?a ?l ?c ?k
     (case a=>k_is);(case l=>k_is);(case c=>k_is);(case k=>k_is)
   have f_deeds_of:L2.Fn0 (L2.KOf KX) mg "deeds_of" (Tb.top 27):=by
     dsimp only [L2.KOf]
     refine' L2.a0H KX G ?a ?l ?c ?k
     (case a=>k_is);(case l=>k_is);(case c=>k_is);(case k=>k_is)
   have f_law:L2.Fn0 (L2.KOf KX) mg "law" (Tb.top 33):=by
     dsimp only [L2.KOf]
     refine' L2.a0H KX G ?a ?l ?c ?k
     (case a=>k_is);(case l=>k_is);(case c=>k_is);(case k=>k_is)
   have z:∀x,PySem.W.nsIn (L2.KOf KX) x1T x=some none->mg x=none:=fun x e=>PySem.W.mg_none_of KX G e;have m_dict:mg "dict"=none:=z _ (by dsimp only [L2.KOf];k_is);have m_int:mg "int"=none:=z _ (by dsimp only [L2.KOf];k_is);have m_len:mg "len"=none:=z _ (by dsimp only [L2.KOf];k_is);have m_list:mg "list"=none:=z _ (by dsimp only [L2.KOf];k_is);have m_min:mg "min"=none:=z _ (by dsimp only [L2.KOf];k_is);have m_range:mg "range"=none:=z _ (by dsimp only [L2.KOf];k_is);have a1t:mg "repr"=none:=z _ (by dsimp only [L2.KOf];k_is);have m_reversed:mg "reversed"=none:=z _ (by dsimp only [L2.KOf];k_is);have m_set:mg "set"=none:=z _ (by dsimp only [L2.KOf];k_is);have m_sorted:mg "sorted"=none:=z _ (by dsimp only [L2.KOf];k_is);have m_tuple:mg "tuple"=none:=z _ (by dsimp only [L2.KOf];k_is);have m_zip:mg "zip"=none:=z _ (by dsimp only [L2.KOf];k_is);refine⟨Tb.top 33,"order_of",Tb.top 16,f_law,?zc,?zp,fun _ _ _ _ _ _ s u=>.of_eq rfl,fun cd f_order_of base kb nb hC hB=>?_⟩
   case zc=>
     refine' ⟨_,L2.b5T KX G ?a ?l ?c ?k,?h⟩
     (case a=>k_is);(case l=>k_is);(case c=>k_is);(case k=>k_is);(case h=>kernel_rfl)
   case zp=>kernel_rfl
   have g__law_begin:=Tb.b2Z (P:=PySem.Challenge.rw_touchboats_k24_days_of_one_boat_a_divisi.prog) (w:=w) (base:=base) f__law_begin m_len m_list;have g__law_next:=Tb.b2X (Pt:=L2.ptOf hC) (lpos:=Tb.lamP) (qual:=Tb.lamQ) (P:=PySem.Challenge.rw_touchboats_k24_days_of_one_boat_a_divisi.prog) (w:=w) (base:=base) f__law_next m_len m_int;have g__law_names:=Tb.a6o (Pt:=L2.ptOf hC) (P:=PySem.Challenge.rw_touchboats_k24_days_of_one_boat_a_divisi.prog) (w:=w) (base:=base) f__law_names g__law_next m_range m_tuple;have g__law_sheets:=Tb.a5v (Pt:=L2.ptOf hC) (P:=PySem.Challenge.rw_touchboats_k24_days_of_one_boat_a_divisi.prog) (w:=w) (base:=base) f__law_sheets g__law_next m_dict m_int m_len m_list m_min m_range m_reversed m_sorted m_tuple;have g_races_of:=Tb.a9b (Pt:=L2.ptOf hC) (P:=PySem.Challenge.rw_touchboats_k24_days_of_one_boat_a_divisi.prog) (w:=w) (base:=base) f_races_of;have g_boats_of:=Tb.a9h (Pt:=L2.ptOf hC) (P:=PySem.Challenge.rw_touchboats_k24_days_of_one_boat_a_divisi.prog) (w:=w) (base:=base) f_boats_of;have g_boat_reason:=Tb.a5u (Pt:=L2.ptOf hC) (P:=PySem.Challenge.rw_touchboats_k24_days_of_one_boat_a_divisi.prog) (w:=w) (base:=base) f_boat_reason g_boats_of;have g_touches_of:=Tb.a6l (Pt:=L2.ptOf hC) (P:=PySem.Challenge.rw_touchboats_k24_days_of_one_boat_a_divisi.prog) (w:=w) (base:=base) f_touches_of;have g_is_wrong:=Tb.a9e (Pt:=L2.ptOf hC) (P:=PySem.Challenge.rw_touchboats_k24_days_of_one_boat_a_divisi.prog) (w:=w) (base:=base) f_is_wrong
   have g_between:=Tb.b0X (Pt:=L2.ptOf hC) (P:=PySem.Challenge.rw_touchboats_k24_days_of_one_boat_a_divisi.prog) (w:=w) (base:=base) f_between m_sorted;have g_is_far:=Tb.b3o (Pt:=L2.ptOf hC) (P:=PySem.Challenge.rw_touchboats_k24_days_of_one_boat_a_divisi.prog) (w:=w) (base:=base) f_is_far g_between m_len;have g_touch_reason:=Tb.a4F (Pt:=L2.ptOf hC) (P:=PySem.Challenge.rw_touchboats_k24_days_of_one_boat_a_divisi.prog) (w:=w) (base:=base) f_touch_reason g_is_wrong g_is_far g_boats_of g_between;have g_is_cross:=Tb.a9f (Pt:=L2.ptOf hC) (P:=PySem.Challenge.rw_touchboats_k24_days_of_one_boat_a_divisi.prog) (w:=w) (base:=base) f_is_cross g_boats_of g_between m_len m_set;have g_cross_reason:=Tb.a4G (Pt:=L2.ptOf hC) (P:=PySem.Challenge.rw_touchboats_k24_days_of_one_boat_a_divisi.prog) (w:=w) (base:=base) f_cross_reason g_is_cross;have g_reason_of:=Tb.a7q (Pt:=L2.ptOf hC) (P:=PySem.Challenge.rw_touchboats_k24_days_of_one_boat_a_divisi.prog) (w:=w) (base:=base) f_reason_of g_boat_reason g_touches_of g_cross_reason g_touch_reason;have g_order_of:=Tb.a9c (Pt:=L2.ptOf hC) (P:=PySem.Challenge.rw_touchboats_k24_days_of_one_boat_a_divisi.prog) (w:=w) (base:=base) f_order_of hC hB g_reason_of g_touches_of g_between m_len m_sorted m_tuple;have g_span:=Tb.k_span (Pt:=L2.ptOf hC) (P:=PySem.Challenge.rw_touchboats_k24_days_of_one_boat_a_divisi.prog) (w:=w) (base:=base) f_span m_min
   have g_put_on:=Tb.b3n (Pt:=L2.ptOf hC) (P:=PySem.Challenge.rw_touchboats_k24_days_of_one_boat_a_divisi.prog) (w:=w) (base:=base) f_put_on g_span m_len;have g_exchanged:=Tb.a7s (Pt:=L2.ptOf hC) (P:=PySem.Challenge.rw_touchboats_k24_days_of_one_boat_a_divisi.prog) (w:=w) (base:=base) f_exchanged m_list m_tuple;have g_row_behind:=Tb.a6m (Pt:=L2.ptOf hC) (P:=PySem.Challenge.rw_touchboats_k24_days_of_one_boat_a_divisi.prog) (w:=w) (base:=base) f_row_behind g_touches_of g_exchanged;have g_start_on:=Tb.a9a (Pt:=L2.ptOf hC) (P:=PySem.Challenge.rw_touchboats_k24_days_of_one_boat_a_divisi.prog) (w:=w) (base:=base) f_start_on g_span m_len;have g_raced:=Tb.b5N (Pt:=L2.ptOf hC) (P:=PySem.Challenge.rw_touchboats_k24_days_of_one_boat_a_divisi.prog) (w:=w) (base:=base) f_raced g_start_on g_row_behind g_put_on;have g_day_behind:=Tb.a6n (Pt:=L2.ptOf hC) (P:=PySem.Challenge.rw_touchboats_k24_days_of_one_boat_a_divisi.prog) (w:=w) (base:=base) f_day_behind g_races_of g_start_on g_order_of g_raced m_len m_range m_reversed;have g_starts_of:=Tb.a7p (Pt:=L2.ptOf hC) (P:=PySem.Challenge.rw_touchboats_k24_days_of_one_boat_a_divisi.prog) (w:=w) (base:=base) f_starts_of g_start_on g_raced m_len m_range m_reversed m_tuple;have g_others_of:=Tb.a7r (Pt:=L2.ptOf hC) (P:=PySem.Challenge.rw_touchboats_k24_days_of_one_boat_a_divisi.prog) (w:=w) (base:=base) f_others_of g_touches_of
   have g_marks_of:=Tb.a9d (Pt:=L2.ptOf hC) (P:=PySem.Challenge.rw_touchboats_k24_days_of_one_boat_a_divisi.prog) (w:=w) (base:=base) f_marks_of m_tuple;have g_deeds_of:=Tb.a9g (Pt:=L2.ptOf hC) (P:=PySem.Challenge.rw_touchboats_k24_days_of_one_boat_a_divisi.prog) (w:=w) (base:=base) f_deeds_of g_starts_of g_others_of g_marks_of m_len m_range m_reversed m_tuple m_zip;exact Tb.k_law (Pt:=L2.ptOf hC) (P:=PySem.Challenge.rw_touchboats_k24_days_of_one_boat_a_divisi.prog) (w:=w) (base:=base) f_law g__law_begin g__law_next g__law_names g__law_sheets g_day_behind g_deeds_of m_len m_range a1t (fun ns hl=>Tb.m_law ns hl)
end
