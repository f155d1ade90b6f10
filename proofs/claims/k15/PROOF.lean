import PyProof.Rows.All
import Wide.All
import OpenK.AllK
import Wide.FinOn
import PyProof.EqAt
import PyProof.EqKinds
import PyProof.TupleCall
import PyProof.NeKinds
import PyProof.EnumMake
import PyProof.ConsumeWalk
import KE.LcSums
import PyProof.ReprLen
import PyProof.StrLawsRepr
import PyProof.Rows.StrNews2
import PyProof.Rows.SetFrom
import PyProof.WalksMore
import PyProof.StrLawsChain
import PyProof.StrLawsTight
import PyProof.StrLawsIdx
import PyProof.ZipIter
import PyProof.Draws
import PyProof.Rows.FactsT2
import PyProof.ListStr
import PyProof.Rows.StrPartPair
import KE.KSortTup
import KE.KDictSum
import KE.KRevIter
import KE.KSortKey
import KE.KLam
import KE.KNestM
import PyProof.DictItems
import KE.KPairComp
import PyProof.AutoSeq1
import PyProof.SetNew
import PyProof.AttrMissHeap
import KE.KDictOf
import PyProof.ListRange
import Lean
import PySem.Challenge.RW_touchboats_k15_all_words_told
set_option Elab.async false
set_option linter.all false
set_option maxRecDepth 100000
set_option maxHeartbeats 4000000
open PySem.W renaming Frag->x0a,kia_one->x1r,fnOf->x1Q,kas_item->x2j,kitOne->x3w,keepIn->x3x,codeIn->x4i,methodObj->x4l
open PySem renaming wpAny_bind->x0b,wpAny_pure->x0e,sizeLine->x0v,Program->x0A,wpAny_newObj_type->x0F,foldedSetIterable->x0O,wpAny_callSpecial?_slot->x0Q,wpAny_mono->x0S,starEach->x0T,bootBuiltins->x0U,wpAny_call_entry->x0X,wpAny_field->x1k,wpAny_holding->x1m,compareOp->x1v,tupleKind->x1w,sysModules->x1D,mem_of_lookup->x1F,letOwnedTupleGo->x1I,wpAny_typeNameOfWhole_keyiter->x1L,wpAny_standAt->x1M,wpAny_seqItems->x1R,mainGlobals->x1V,wpAny_setField_rec->x2e,wpAny_truthy_bool->x2k,wpAny_typeNameOf_keyiter->x2n,wpAny_getItem_str_slice->x2r,assignEach->x2w,wpAny_rule->x2x,wpAny_pyIter_tuple->x2A,tupleKind_room_in1->x2B,binaryOp->x2G,codeAny->x2J,sizeLine_eq->x2P,wpAny_typeOf->x2T,wpAny_comprehension_free->x2V,wpAny_passesOwn->x2Y,behindInMarks->x2Z,FuncData->x3a,wpAny_Call_Name_kw->x3b,wpAny_attempt->x3i,codeAny_compStart_list->x3n,wpAny_pyIter_list->x3o,sliceBounds->x3p,wpAny_pyIter_enum->x3q,swapsWith->x3A,wpAny_isInstance->x3I,getItem->x3W,post_val_or_str->x3Z,DictEntry->x4m,Builtin->x4q
open PySem.Heap renaming get?_push_of_some->x0c,lt_size->x0l,get?_push_size->x0p,size_push->x2g,SameBut->x3z,get?_update_self->x3B
open List renaming mem_cons_of_mem->x0d,getElem?_eq_getElem->x0f,length_map->x0g,mem_cons_self->x0h,range->x0j,getElem?_eq_some_iff->x0k,size_toArray->x0n,getElem?_set_self->x0o,length_append->x0q,getElem?_map->x0r,mem_cons->x0s,getElem?_set_ne->x0t,getElem?_eq_none->x0w,length_set->x0x,all_eq_true->x0z,length_cons->x0B,getD_eq_getElem?_getD->x0D,length_singleton->x0G,mem_map->x0H,mem_append_right->x0M,mem_of_getElem?->x0P,getElem?_append_left->x0R,map_map->x0V,map_append->x1b,mem_singleton->x1c,map_cons->x1f,mem_append->x1g,eq_nil_of_length_eq_zero->x1h,range'->x1l,length_take->x1n,mem_range->x1q,not_mem_nil->x1t,append_nil->x1x,getElem?_append_right->x1B,drop_eq_getElem_cons->x1H,getElem?_cons_succ->x1O,mem_filter->x1U,map_congr_left->x1X,zip_cons_cons->x2f,take_succ->x2h,append_assoc->x2l,Nodup->x2o,filterMap_cons->x2p,length_reverse->x2s,length_drop->x2u,take_of_length_le->x2z,map->x2C,find?_cons->x2E,mem_append_left->x2I,drop_length->x2M,map_fst_zip->x2N,cons_append->x2O,getElem?_take_of_lt->x2R,getElem?_replicate->x3c,getElem?_cons_zero->x3f,getElem_range->x3g,forIn_cons->x3j,foldl_cons->x3k,getLast?_singleton->x3l,reverse_cons->x3r,length_range->x3s,foldl_append->x3t,forIn_nil->x3y,getElem_mem->x3G,any_eq_true->x3H,map_snd_zip->x3J,take_length->x3K,getLast?_append->x3L,dropLast_concat->x3M,any_cons->x3N,map_drop->x3O,nodup_cons->x3U,of_mem_zip->x3V,getElem_of_mem->x3Y,reverse_append->x4d,map_nil->x4g
open PySem.Str renaming ofString->x0i
open Nat renaming le_refl->x0m,ne_of_lt->x0u,lt_of_lt_of_le->x0y,testBit_mod_two_pow->x0E,testBit->x0K,zero_add->x0N,testBit_shiftLeft->x1e,le_trans->x1j,lt_succ_of_lt->x1p,zero_le->x1z,mul_le_mul_right->x1A,testBit_or->x1S,testBit_shiftRight->x1Y,lt_irrefl->x2c,le_of_eq->x2d,sub_succ_lt_self->x2i,ne_of_gt->x2Q,lt_succ_iff_lt_or_eq->x2W,lt_of_le_of_lt->x3e,le_of_not_lt->x3F,le_succ->x3X,not_lt_zero->x4b,min_eq_left->x4c,add_mul->x4r
open Option.some renaming inj->x0C,injEq->x3u
open PySem.Value renaming ref->x0I,type->x1o,none->x1T
open Bool renaming false_ne_true->x0J,false_eq_true->x1d,and_eq_true->x1s,beq_eq_decide_eq->x1J,false_and->x3v
open PySem.Builtin.SmallTypes renaming nextOf->x0L,ownedTupleIsFree->x1u,ownedTupleHandOut->x2K
open PySem.Builtin.Slice renaming slicePlaces->x0W,sliceAdjust->x1G,sliceApplied->x1Z,sliceFields->x4j
open PyProof.Rows renaming callWith_type1->x0Y,slot_tuple_getitem->x0Z,pendingOf->x2L,reverseSlice'->x3Q,SortKind->x4h
open PySem.Builtin.Tuple renaming tupleExact->x1a,tupleItemsOf->x2H
open Int renaming toNat_natCast->x1i,eq_ofNat_of_zero_le->x2t,emod_lt_of_pos->x2D,emod_nonneg->x2F
open ForInStep renaming yield->x1y
open Array renaming getElem?_eq_none->x1C,length_toList->x1E,getElem?_toList->x3E
open Option renaming isSome_iff_exists->x1K
open PySem.Builtin.Str renaming occurrences->x1N
open PySem.F renaming slot_dict_keyiterator_next->x1P,slot_tuple_iterator_next->x2a,args_tuple_add_2->x2S,entry_tuple_add->x3d,slot_tuple_add->x3m,slot_dict_get->x3D,slot_zip_next->x4a
open PySem.Heap.SameBut renaming update->x1W
open PySem.Obj renaming mapSeq->x2b,data_mapFields->x3h
open PySem.AutoSeq1 renaming wpAny_loadPart'->x2m
open PySem.Builtin.Range renaming rangeSize->x2q
open False renaming elim->x2v
open True renaming intro->x2y
open PySem.Builtin.List renaming listTooLong->x2U
open PySem.Paired renaming length->x2X
open PySem.SeqAt renaming RcNeAt->x3C,EqAt->x3R,RcAt->x4n
open PySem.Builtin.Dict_items renaming ownsTuple->x3P
open PyProof.Rows.SortSt renaming mk'->x3S
open Prod.mk renaming inj->x3T
open PySem.Calls renaming spliced_cons->x4e
open PySem.Heap.IsSliceOf renaming new->x4f
open PySem.Value.type renaming inj->x4k
open Sum renaming inl->x4o,inr->x4p
local macro_rules|`(tactic|omega)=>`(tactic|lia)
section
namespace L2
open PySem PySem.Spec PyProof.Rows
abbrev Key:=Sum Int Str
def a6Z:Key->Value->Bool
 | .inl k,v=>Value.isInt k v
 | .inr x,v=>Value.isStrOf x v
def keyH (w:World):Key->Int
 | .inl k=>hashInt k
 | .inr x=>hashStr w x
theorem a0B:∀{k:Key} {v:Value},a6Z k v=true->(∃i t,k=x4o i/\v=Value.int i t)\/(∃x t,k=x4p x/\v=Value.str x t)
 | .inl i, v, h => by
   obtain⟨t,e⟩:=Value.isInt_shape (k:=i) (v:=v) h;exact .inl ⟨i,t,rfl,e⟩
 | .inr x, v, h => by
   obtain⟨t,e⟩:=Value.isStrOf_shape (x:=x) (v:=v) h;exact .inr ⟨x,t,rfl,e⟩
theorem a8y (i:Int)(t:Tok):a6Z (.inl i) (.int i t)=true:=by simp [a6Z,Value.isInt]
theorem a8x (x:Str)(t:Tok):a6Z (.inr x) (.str x t)=true:=by simp [a6Z,Value.isStrOf]
theorem key_ll (a b:Int):decide ((x4o a:Key)=x4o b)=(a == b):=by
 by_cases e:a=b
 · subst e;simp
 · have h:¬(x4o a:Key)=x4o b:=fun q=>e (Sum.inl.inj q);rw [decide_eq_false h];exact(beq_eq_false_iff_ne.mpr e).symm
theorem key_rr (a b:Str):decide ((x4p a:Key)=x4p b)=decide (a=b):=by
 by_cases e:a=b
 · subst e;simp
 · have h:¬(x4p a:Key)=x4p b:=fun q=>e (Sum.inr.inj q);rw [decide_eq_false h,decide_eq_false e]
theorem key_lr (a:Int)(b:Str):decide ((x4o a:Key)=x4p b)=false:=decide_eq_false (fun q=>nomatch q)
theorem key_rl (a:Str)(b:Int):decide ((x4p a:Key)=x4o b)=false:=decide_eq_false (fun q=>nomatch q)
def a0y (prog:x0A)(w:World):PySem.KeyKind prog w Key where
 is:=a6Z
 hash:=keyH w
 inj:=fun v a b ha hb=>by
   rcases a0B ha with⟨i,t,rfl,rfl⟩ | ⟨x,t,rfl,rfl⟩
   · rcases a0B hb with⟨j,u,rfl,e⟩ | ⟨y,u,rfl,e⟩
     · injection e with e1 _;rw [e1]
     · exact nomatch e
   · rcases a0B hb with⟨j,u,rfl,e⟩ | ⟨y,u,rfl,e⟩
     · exact nomatch e
     · injection e with e1 _;rw [e1]
 byValue:=fun k v h=>by
   rcases a0B h with⟨i,t,rfl,rfl⟩ | ⟨x,t,rfl,rfl⟩ <;> rfl
 pyHash:=fun hv h=>by
   rcases a0B hv with⟨i,t,rfl,rfl⟩ | ⟨x,t,rfl,rfl⟩
   · exact wpAny_pyHash_int h
   · exact wpAny_pyHash_str h
 eqBool:=fun hu hv h=>by
   rcases a0B hu with⟨i,t,rfl,rfl⟩ | ⟨x,t,rfl,rfl⟩
   · rcases a0B hv with⟨j,u,rfl,rfl⟩ | ⟨y,u,rfl,rfl⟩
     · rw [key_ll] at h;exact wpAny_eqBool_int h
     · rw [key_lr] at h;exact SeqAt.EqAt.int_str i t y u _ _ _ _ h
   · rcases a0B hv with⟨j,u,rfl,rfl⟩ | ⟨y,u,rfl,rfl⟩
     · rw [key_rl] at h;exact SeqAt.EqAt.str_int x t j u _ _ _ _ h
     · rw [key_rr] at h;exact wpAny_eqBool_str h
 «strs»:=fun k x t v h=>by
   rcases a0B h with⟨i,u,rfl,e⟩ | ⟨y,u,rfl,e⟩
   · exact nomatch e
   · injection e with e1 _;subst e1;cases v <;> rfl
theorem a5z (prog:x0A)(w:World)(i:Int)(t:Tok):(a0y prog w).is (.inl i) (.int i t)=true:=a8y i t
theorem a5y (prog:x0A)(w:World)(x:Str)(t:Tok):(a0y prog w).is (.inr x) (.str x t)=true:=a8x x t
inductive V where
 | non | bl (b:Bool) | int (i:Int) | str (x:Str) | byt (b:Array UInt8) | flt (b:UInt64) | ref (a:Addr) | ty (n:String)
 deriving DecidableEq
def RelV:V->Value->Prop
 | .non,u=>u=x1T
 | .bl b,u=>u=Value.bool b
 | .int i,u=>∃t,u=Value.int i t
 | .str x,u=>∃t,u=Value.str x t
 | .byt b,u=>∃t,u=Value.bytes b t
 | .flt b,u=>∃t,u=Value.float b t
 | .ref a,u=>u=x0I a
 | .ty n,u=>u=x1o n
abbrev Vals:List V->List Value->Prop:=Paired RelV
theorem Vals.length {xs:List V}{us:List Value}(r:Vals xs us):xs.length=us.length:=x2X r
theorem Vals.get:∀{xs:List V} {us:List Value} {i:Nat} {x:V},Vals xs us->xs[i]?=some x->∃u,us[i]?=some u/\RelV x u
 | _,_,_,_,.nil,e=>by simp at e
 | _,_,0,_,.cons r _,e=>by simp at e;subst e;exact⟨_,rfl,r⟩
 | _, _, i + 1, x, .cons _ t, e => by
   obtain⟨u,h1,h2⟩:=Vals.get (i:=i) (x:=x) t (by simpa using e);exact⟨u,by simpa using h1,h2⟩
theorem Vals.set {x:V}{u:Value}(r:RelV x u):∀{xs:List V} {us:List Value} (i:Nat),Vals xs us->Vals (xs.set i x) (us.set i u)
 | _,_,_,.nil=>.nil
 | _,_,0,.cons _ t=>.cons r t
 | _,_,i + 1,.cons q t=>.cons q (Vals.set r i t)
theorem Vals.append {xs ys:List V}{us ws:List Value}(h:Vals xs us)(s:Vals ys ws):Vals (xs++ys) (us++ws):=by
 induction h with
 | nil=>exact s
 | cons r _ ih=>exact .cons r ih
theorem Vals.take:∀{xs:List V} {us:List Value} (n:Nat),Vals xs us->Vals (xs.take n) (us.take n)
 | _,_,0,_=>.nil
 | _,_,_ + 1,.nil=>.nil
 | _,_,n + 1,.cons r t=>.cons r (Vals.take n t)
theorem Vals.drop:∀{xs:List V} {us:List Value} (n:Nat),Vals xs us->Vals (xs.drop n) (us.drop n)
 | _,_,0,r=>r
 | _,_,_ + 1,.nil=>.nil
 | _,_,n + 1,.cons _ t=>Vals.drop n t
def RelO:Option V->Option Value->Prop
 | some v,some u=>RelV v u
 | none,none=>True
 | _,_=>False
def KV {κ:Type}:List (κ×V)->List (κ×Value)->Prop:=Paired fun(p:κ×V) (q:κ×Value)=>p.1=q.1/\RelV p.2 q.2
def kV:Key->V
 | .inl i=>.int i
 | .inr x=>.str x
inductive HO where
 /-- a list -/
 | lst (xs:List V)
 /-- a tuple (never changes) -/
 | tup (xs:List V)
 /-- a dict whose keys are ints and a3t; one whose keys are tuples of ints and a3t (the empty one is both) -/
 | dK (kvs:List (Key×V)) | dT (kvs:List (List Key×V))
 /-- a set of ints: its members, its size -/
 | set (S:Key->Bool) (n:Nat)
 /-- an instance of the class at C, its dict at dx, its attributes -/
 | ins (C dx:Addr) (fs:List (Str×V))
 /-- the dict of the instance at x -/
 | own (x:Addr)
 /-- the dict of an exception -/
 | xd (fs:List (Str×V))
 /-- a bound method, f of x -/
 | met (f x:Addr)
 /-- a range object lo, lo + 1, .. below hi -/
 | rng (lo hi:Int)
 /-- a thing that is b2P to the object (the script; a dict while a loop walks it): read, never written while it is so -/
 | frz (o:Obj) (u:HO)
 /-- a code object's table -/
 | tbl (ps:Array Value)
 /-- any other thing, by what is true of its one object (a def of one's own: SetO a S n := HO.ext fun h => ..) -/
 | ext (φ:Heap->Prop)
abbrev Hp:=Addr->Option HO
def upd (H:Hp)(a:Addr)(o:HO):Hp:=fun b=>if b=a then some o else H b
theorem a0j {H:Hp}{a:Addr}{o:HO}:upd H a o a=some o:=by unfold upd;rw [if_pos rfl]
theorem a0f {H:Hp}{a b:Addr}{o:HO}(h:b≠a):upd H a o b=H b:=by unfold upd;rw [if_neg h]
theorem b0d {H:Hp}{a b:Addr}{o u:HO}(h:H a=some o)(h':H b=some u)(d:o≠u):a≠b:=by
 intro e;subst e;rw [h] at h';exact d (x0C h')
theorem a0x {H:Hp}{a b:Addr}{o:HO}(h:H a=some o)(h':H b=none):a≠b:=by
 intro e;subst e;rw [h] at h';cases h'
def a1T (h:Heap)(a:Addr)(items:Array Value):Prop:=∃o,h.get? a=some o/\(o.cls,o.dict)=(x1o "tuple",none)/\∃n,o.data=.seq items n
theorem a1T.is {h:Heap}{a:Addr}{items:Array Value}(x:a1T h a items):IsTup h a items:=let ⟨o,e,c,r⟩:=x;⟨o,e,(x3T c).1,r⟩
theorem a1T.lt {h:Heap}{a:Addr}{items:Array Value}(x:a1T h a items):a < h.objs.size:=let ⟨_,e,_⟩:=x;x0l e
theorem a1T.new (h:Heap)(items:Array Value):a1T (h.push { cls:=.type "tuple",data:=.seq items }) h.objs.size items:=⟨_,x0p _ rfl,rfl,_,rfl⟩
section
variable (P:x0A)(w:World)
def a0F (H:Hp)(h:Heap)(a:Addr):HO->Prop
 | .lst xs=>xs.length<=x0v/\∃(its:List Value) (n:Nat),Vals xs its/\h.get? a=some { cls:=.type "list",data:=.seq its.toArray n }
 | .tup xs=>xs.length<=x0v/\∃its:List Value,Vals xs its/\a1T h a its.toArray
 | .dK kvs=>kvs.length<=x0v/\(a == x1D)=false/\∃vs,KV kvs vs/\h.DictOf (a0y P w) a vs
 | .dT kvs=>kvs.length<=x0v/\(a == x1D)=false/\∃xs:List (List Key×Addr×Value),
     Paired (fun(p:List Key×V) (q:List Key×Addr×Value)=>p.1=q.1/\H q.2.1=some (.tup (p.1.map kV))/\RelV p.2 q.2.2) kvs xs/\
     ∃o es ep,h.get? a=some o/\o.ExactDict/\o.data=.dict es ep/\es.toList=xs.map (entryOfKey (x1w (a0y P w)))/\(xs.map (·.1)).Nodup
 | .set S n=>h.SetOf (a0y P w) a S n
 | .ins C dx fs=>H dx=some (.own a)/\fs.length<=1000/\dx≠a/\h.get? a=some (PySem.W.instObj C dx)/\
     ∃mA,h.Ns1 dx mA/\(∀f,RelO (fs.lookup f) (mA f))/\PySem.Within mA (fs.map (·.1))
 | .own _=>∃o,h.get? a=some o
 | .xd fs=>∃mA,h.Ns1 a mA/\∀f,RelO (fs.lookup f) (mA f)
 | .rng lo hi=>∃t u v,h.get? a=some { cls:=.type "range",data:=.fields #[.int lo t,.int hi u,.int 1 v] }
 | .frz o u=>h.get? a=some o/\a0F H h a u
 | .tbl ps=>h.get? a=some { cls:=.none,data:=.fields ps }
 | .met f x=>h.get? a=some (x4l (.ref f) (.ref x))
 | .ext φ=>φ h/\(∃o,h.get? a=some o)/\∀h1 h2:Heap,φ h1->(∀o,h1.get? a=some o->h2.get? a=some o)->φ h2
def HOk (H:Hp)(h:Heap):Prop:=∀a o,H a=some o->a0F P w H h a o
end
section
variable {P:x0A}{w:World}{H H':Hp}{h h':Heap}{a:Addr}{o:HO}
theorem a0F.lt (x:a0F P w H h a o):a < h.objs.size:=by
 cases o with
 | lst xs=>obtain⟨_,_,_,_,e⟩:=x;exact x0l e
 | tup xs=>obtain⟨_,_,_,p⟩:=x;exact p.lt
 | dK kvs=>obtain⟨_,_,_,_,o,_,_,e,_⟩:=x;exact x0l e
 | dT kvs=>obtain⟨_,_,_,_,o,_,_,e,_⟩:=x;exact x0l e
 | set S n=>obtain⟨o,_,_,_,e,_⟩:=x;exact x0l e
 | ins C dx fs=>obtain⟨_,_,_,e,_⟩:=x;exact x0l e
 | own y=>obtain⟨_,e⟩:=x;exact x0l e
 | xd fs=>obtain⟨_,⟨_,_,_,e,_⟩,_⟩:=x;exact x0l e
 | rng lo hi=>obtain⟨_,_,_,e⟩:=x;exact x0l e
 | frz ob u=>obtain⟨e,_⟩:=x;exact x0l e
 | tbl ps=>exact x0l (show h.get? a=some _ from x)
 | met f y=>exact x0l (show h.get? a=some _ from x)
 | ext φ=>obtain⟨_,⟨_,e⟩,_⟩:=x;exact x0l e
theorem Paired.mapP {α β:Type}{F G:α->β->Prop}{l₁:List α}{l₂:List β}(h:Paired F l₁ l₂)(f:∀a b,F a b->G a b):Paired G l₁ l₂:=by
 induction h with
 | nil=>exact .nil
 | cons r _ ih=>exact .cons (f _ _ r) ih
theorem Paired.imp' {α β:Type}{F G:α->β->Prop}(f:∀a b,F a b->G a b){l₁:List α}{l₂:List β}(r:Paired F l₁ l₂):Paired G l₁ l₂:=Paired.mapP r f
theorem a0F.stay (x:a0F P w H h a o)(k:∀b u,(b=a\/H b=some (.own a))->h.get? b=some u->h'.get? b=some u)
   (ho:∀b,H b=some (.own a)->H' b=some (.own a)) (ht:∀b xs,H b=some (.tup xs)->H' b=some (.tup xs)):a0F P w H' h' a o:=by
 induction o with
 | lst xs=>obtain⟨z,its,n,r,e⟩:=x;exact⟨z,its,n,r,k _ _ (.inl rfl) e⟩
 | tup xs=>obtain⟨z,its,r,ob,e,c⟩:=x;exact⟨z,its,r,ob,k _ _ (.inl rfl) e,c⟩
 | dK kvs=>obtain⟨z,y,vs,r,ob,es,ep,e,c⟩:=x;exact⟨z,y,vs,r,ob,es,ep,k _ _ (.inl rfl) e,c⟩
 | dT kvs =>
   obtain⟨z,y,xs,r,ob,es,ep,e,c⟩:=x;exact⟨z,y,xs,Paired.mapP r fun p q z=>⟨z.1,ht _ _ z.2.1,z.2.2⟩,ob,es,ep,k _ _ (.inl rfl) e,c⟩
 | set S n=>obtain⟨ob,es,ep,t,e,c⟩:=x;exact⟨ob,es,ep,t,k _ _ (.inl rfl) e,c⟩
 | ins C dx fs =>
   obtain⟨d,z,ne,e,mA,⟨od,es,ep,e2,c⟩,r⟩:=x;exact⟨ho _ d,z,ne,k _ _ (.inl rfl) e,mA,⟨od,es,ep,k _ _ (.inr d) e2,c⟩,r⟩
 | own y=>obtain⟨ob,e⟩:=x;exact⟨ob,k _ _ (.inl rfl) e⟩
 | xd fs=>obtain⟨mA,⟨od,es,ep,e,c⟩,r⟩:=x;exact⟨mA,⟨od,es,ep,k _ _ (.inl rfl) e,c⟩,r⟩
 | rng lo hi=>obtain⟨t,u,v,e⟩:=x;exact⟨t,u,v,k _ _ (.inl rfl) e⟩
 | frz ob u ih=>obtain⟨e,q⟩:=x;exact⟨k _ _ (.inl rfl) e,ih q⟩
 | tbl ps =>
   have e:h.get? a=some { cls:=.none,data:=.fields ps }:=x;show h'.get? a=some { cls:=.none,data:=.fields ps };exact k a _ (.inl rfl) e
 | met f y =>
   have e:h.get? a=some (x4l (.ref f) (.ref y)):=x;show h'.get? a=some (x4l (.ref f) (.ref y));exact k a _ (.inl rfl) e
 | ext φ=>obtain⟨p,⟨o,e⟩,st⟩:=x;exact⟨st _ _ p fun o q=>k _ _ (.inl rfl) q,⟨o,k _ _ (.inl rfl) e⟩,st⟩
theorem HOk.lt (x:HOk P w H h)(e:H a=some o):a < h.objs.size:=(x a o e).lt
theorem HOk.fresh (x:HOk P w H h)(e:h.objs.size<=a):H a=none:=by
 cases q:H a with
 | none=>rfl
 | some u=>exact absurd (x0y (x.lt q) e) (x2c _)
theorem HOk.kept (x:HOk P w H h)(k:∀b u,h.get? b=some u->h'.get? b=some u):HOk P w H h':=fun a o e=>
 (x a o e).stay (fun b u _ q=>k b u q) (fun _ q=>q) fun _ _ q=>q
theorem HOk.laid (x:HOk P w H h)(k:∀b u,h.get? b=some u->h'.get? b=some u)(hp:h.objs.size<=a)(new:a0F P w (upd H a o) h' a o):HOk P w (upd H a o) h':=fun b u e=>by
 have hn:=x.fresh hp
 by_cases hb:b=a
 · subst hb;rw [a0j] at e;cases e;exact new
 · rw [a0f hb] at e;exact(x b u e).stay (fun c v _ q=>k c v q) (fun c q=>by rw [a0f (a0x q hn)];exact q) fun c xs q=>by rw [a0f (a0x q hn)];exact q
end
def Rd (H:Hp)(a:Addr)(u:HO):Prop:=H a=some u\/∃o,H a=some (.frz o u)
theorem Rd.ok {P:x0A}{w:World}{H:Hp}{h:Heap}{a:Addr}{u:HO}(r:Rd H a u)(x:HOk P w H h):a0F P w H h a u:=by
 rcases r with r | ⟨o,r⟩
 · exact x a u r
 · obtain⟨_,q⟩:=x a _ r;exact q
def Mut:Option HO->Prop
 | some (.lst _)=>True
 | some (.dK _)=>True
 | some (.dT _)=>True
 | some (.set _ _)=>True
 | some (.ins _ _ _)=>True
 | some (.ext _)=>True
 | _=>False
section
variable {P:x0A}{w:World}{H:Hp}{h h':Heap}{x e:Addr}{o':HO}
theorem HOk.write (ok:HOk P w H h)(mu:Mut (H x))(he:e=x\/H e=some (.own x))(k:∀b u,b≠e->h.get? b=some u->h'.get? b=some u)(heo:∃u,h'.get? e=some u)
   (new:a0F P w (upd H x o') h' x o'):HOk P w (upd H x o') h':=fun b u q=>by
 have nown:∀c y,H c=some (.own y)->c≠x:=fun c y r z=>by subst z;rw [r] at mu;exact mu
 have ntup:∀c xs,H c=some (.tup xs)->c≠x:=fun c xs r z=>by subst z;rw [r] at mu;exact mu
 by_cases hb:b=x
 · subst hb;rw [a0j] at q;cases q;exact new
 · rw [a0f hb] at q
   by_cases hbe:b=e
   · have q':H b=some (.own x):=by
       rcases he with z | z
       · exact absurd (hbe.trans z) hb
       · rw [hbe];exact z
     rw [q] at q';cases q';obtain⟨v,hv⟩:=heo;exact⟨v,by rw [hbe];exact hv⟩
   · refine(ok b u q).stay (fun c v hc r=>k c v ?_ r) (fun c r=>by rw [a0f (nown c b r)];exact r) fun c xs r=>by rw [a0f (ntup c xs r)];exact r
     rcases hc with rfl | hc
     · exact hbe
     · rintro rfl;rcases he with z | z
       · exact nown c b hc z
       · rw [hc] at z;cases z;exact hb rfl
end
def NS (H:Hp):Prop:=H x1D=none\/∃o u,H x1D=some (.frz o u)
structure Un (fs ex:List Addr)(H H':Hp)(h h':Heap):Prop where
 keep:∀b o,h.get? b=some o->H b=none->b∉fs->b∉ex->h'.get? b=some o
 slot:∀b o,h.get? b=some o->H b=none->b∈fs->b∉ex->∃sl,h'.get? b=some { o with slots:=sl }
 free:∀b o,h.get? b=some o->H b=none->b∉ex->H' b=none
 there:∀b o,h.get? b=some o->b∉ex->∃o',h'.get? b=some o'
 tups:∀b xs,H b=some (.tup xs)->H' b=some (.tup xs)
 frzs:∀b o u,H b=some (.frz o u)->H' b=some (.frz o u)
 tbls:∀b ps,H b=some (.tbl ps)->∃more,H' b=some (.tbl (ps++more))
 sys:NS H->NS H'
section
variable {fs fs' ex ex':List Addr}{H H1 H2:Hp}{h h1 h2 h':Heap}{a x e:Addr}{o:HO}
theorem Un.any (u:Un fs ex H H1 h h1){b:Addr}{ob:Obj}(q:h.get? b=some ob)(n:H b=none)(hx:b∉ex):∃sl,h1.get? b=some { ob with slots:=sl }:=by
 by_cases hb:b∈fs
 · exact u.slot b ob q n hb hx
 · exact⟨ob.slots,u.keep b ob q n hb hx⟩
theorem Un.kept (k:∀b u,h.get? b=some u->h'.get? b=some u):Un fs ex H H h h':=
 ⟨fun b ob q _ _ _=>k b ob q,fun b ob q _ _ _=>⟨ob.slots,k b ob q⟩,fun _ _ _ n _=>n,fun b ob q _=>⟨ob,k b ob q⟩,fun _ _ q=>q,fun _ _ _ q=>q,fun _ ps q=>⟨#[],by rw [q];simp⟩,fun z=>z⟩
theorem Un.refl:Un fs ex H H h h:=Un.kept fun _ _ q=>q
theorem Un.laid (k:∀b u,h.get? b=some u->h'.get? b=some u)(hp:h.objs.size<=a)(hn:H a=none)(hy:x1D < h.objs.size):Un fs ex H (upd H a o) h h' where
 keep:=fun b u q _ _ _=>k b u q
 slot:=fun b u q _ _ _=>⟨u.slots,k b u q⟩
 free:=fun b u q n _=>by rw [a0f (x0u (x0y (x0l q) hp))];exact n
 there:=fun b u q _=>⟨u,k b u q⟩
 tups:=fun b xs q=>by rw [a0f (a0x q hn)];exact q
 frzs:=fun b u xs q=>by rw [a0f (a0x q hn)];exact q
 tbls:=fun b ps q=>⟨#[],by rw [a0f (a0x q hn),q];simp⟩
 sys:=fun z=>by unfold NS;rw [a0f (x0u (x0y hy hp))];exact z
theorem Un.write (mu:Mut (H x))(he:e=x\/H e=some (.own x))(k:∀b u,b≠e->h.get? b=some u->h'.get? b=some u)(heo:∃u,h'.get? e=some u):Un fs ex H (upd H x o) h h':=by
 have hx:∀b,H b=none->b≠x:=fun b n z=>by subst z;rw [n] at mu;exact mu
 have hb:∀b,H b=none->b≠e:=fun b n z=>by
   subst z;rcases he with r | r
   · exact hx b n r
   · rw [n] at r;cases r
 have hm:∀b u,H b=some u->¬Mut (some u)->b≠x:=fun b u q nm z=>by subst z;rw [q] at mu;exact nm mu
 refine⟨fun b u q n _ _=>k b u (hb b n) q,fun b u q n _ _=>⟨u.slots,k b u (hb b n) q⟩,fun b u q n _=>by rw [a0f (hx b n)];exact n,fun b u q _=>?_,
   fun b xs q=>by rw [a0f (hm b _ q fun z=>z)];exact q,fun b u xs q=>by rw [a0f (hm b _ q fun z=>z)];exact q,fun b ps q=>⟨#[],by rw [a0f (hm b _ q fun z=>z),q];simp⟩,fun z=>by
     rcases z with z | ⟨ob,u,z⟩
     · exact .inl (by rw [a0f (hx _ z)];exact z)
     · exact .inr ⟨ob,u,by rw [a0f (hm _ _ z fun z=>z)];exact z⟩⟩
 by_cases hbe:b=e
 · subst hbe;exact heo
 · exact⟨u,k b u hbe q⟩
end
def trk (h:Heap)(H:Hp):List Addr:=(x0j h.objs.size).filter fun a=>(H a).isSome
def hidT (h:Heap)(H:Hp):Heap:=PySem.W.hideAll h (trk h H)
theorem a8H (h:Heap)(H:Hp):(hidT h H).objs.size=h.objs.size:=PySem.W.hideAll_size _ _
theorem b0p {h:Heap}{H:Hp}{b:Addr}{o:Obj}(e:h.get? b=some o)(n:H b=none):(hidT h H).get? b=some o:=
 PySem.W.hideAll_get _ e fun hm=>by
   have q:(H b).isSome=true:=(x1U.mp hm).2;rw [n] at q;simp at q
theorem b2F {h:Heap}{H:Hp}{b:Addr}{o:Obj}(e:(hidT h H).get? b=some o):h.get? b=some o/\H b=none:=by
 have e':h.get? b=some o:=PySem.W.of_hideAll (trk h H) e;refine⟨e',?_⟩;cases q:H b with
 | none=>rfl
 | some x =>
   have hm:b∈trk h H:=x1U.mpr ⟨x1q.mpr (x0l e'),by simp [q]⟩;have z:(hidT h H).get? b=none:=PySem.W.hideAll_none (trk h H) hm;rw [z] at e;cases e
def b3m (g h:Heap)(L:Addr):List (Addr×Obj):=(x0j h.objs.size).filterMap fun a=>if a=L\/(g.get? a).isSome=true then none else(h.get? a).map fun o=>(a,o)
def rest (g h:Heap)(L d:Addr):List (Addr×Obj):=(b3m g h L).filter fun p=>decide (p.1≠d)
structure Mod (K:x0a)(mg:Str->Option Value)(base:Heap):Prop where
 kin:K.In base
 glob:base.Ns x1V mg
 blt:∃mb,base.Ns builtinsNs mb/\∀x:Str,x≠"__name__"->mb x=x0U x
 nolimit:base.NoLimit
structure Cx where
 prog:x0A
 w:World
 K:x0a
 mg:Str->Option Value
 base:Heap
 A:Around
 N:List Str
 s₀:Shared
 H₀:Hp
 env:Env
 outer:List Env
 stack:List Env
 ex:List Addr
 fn:Str->Bool
 calm:Bool
 pn:List (Addr×Obj)
 xe:Value->Shared->Prop
def frs (l:List Env):List Addr:=l.filterMap (·.frame)
abbrev Cx.fs (X:Cx):List Addr:=frs X.outer
def Vis (sc:Scope)(x:Str):Prop:=sc.names.lookup x=some .local\/sc.names.lookup x=some .cell\/sc.names.lookup x=some .free
def Loc (sc:Scope)(x:Str):Prop:=sc.names.lookup x=some .local\/sc.names.lookup x=some .cell
def Look (env:Env)(h:Heap)(m:Str->Option Value)(x:Str)(u:Value):Prop:=
 (env.kindOf x=some .local/\m x=some u)\/((env.kindOf x=some .cell\/env.kindOf x=some .free)/\∃c,env.cells.lookup x=some c/\h.IsCell c (some u))
structure Cx.Ok (X:Cx):Prop where
 mod:Mod X.K X.mg X.base
 kind:X.env.scope.kind=.function
 glob:X.env.globals=x1V
 blt:X.env.builtins=builtinsNs
 above:X.s₀.heap.objs.size<=X.env.locals
 inj:∀x y c,X.env.cells.lookup x=some c->X.env.cells.lookup y=some c->x=y
 has:∀x,(X.env.kindOf x=some .cell\/X.env.kindOf x=some .free)->∃c,X.env.cells.lookup x=some c
 cab:∀x c,X.fn x=true->X.env.cells.lookup x=some c->X.s₀.heap.objs.size<=c
 hd:X.calm=true->X.A.handled=none
 frames:X.A.frames=some X.stack
 stk:X.stack=X.outer\/(X.stack=X.env::X.outer/\X.env.frame=some X.env.locals)
 exf:∀b∈X.ex,b≠X.env.locals/\∀x c,X.env.cells.lookup x=some c->c≠b
 bs:∀b o,X.base.get? b=some o->X.s₀.heap.get? b=some o/\X.H₀ b=none
 bsz:X.base.objs.size<=X.s₀.heap.objs.size
 noex:∀b o,X.base.get? b=some o->b∉X.ex
 exfs:∀b∈X.ex,b∉X.fs
 funs:X.s₀.heap.FunFrames X.base X.outer
 frf:∀b∈X.fs,X.H₀ b=none
 nos:NS X.H₀
structure Inv (X:Cx)(pins:List (Addr×Obj))(σ:List (Option V))(H:Hp)(s:Shared):Prop where
 ok:X.Ok
 os:s.os=X.s₀.os
 bare:AllBare s.gens
 base:Un X.fs X.ex X.H₀ H X.s₀.heap s.heap
 loc:∃m,s.heap.Ns X.env.locals m/\∀(i:Nat) (x:Str) (v:V),X.N[i]?=some x->σ[i]?=some (some v)->Vis X.env.scope x->∃u,RelV v u/\Look X.env s.heap m x u
 cell:∀x c,X.env.cells.lookup x=some c->∃v,s.heap.IsCell c v
 free:H X.env.locals=none
 freeC:∀x c,X.env.cells.lookup x=some c->H c=none
 pin:∀p∈X.pn++pins,s.heap.get? p.1=some p.2/\H p.1=none/\p.1≠X.env.locals/\p.1∉X.fs/\∀v,p.2.data≠.cell v
 hok:HOk X.prog X.w H s.heap
 len:σ.length=X.N.length
section
variable {X:Cx}{pins:List (Addr×Obj)}{σ:List (Option V)}{H H':Hp}{s:Shared}{h':Heap}
variable {g':Array GenState}{t':Nat}{d':Drawn}{ch:List Addr}{M:Model}
theorem Cx.Ok.nofr (ok:X.Ok){b:Addr}{o:Obj}(e:X.base.get? b=some o):b∉X.fs:=fun hb=>by
 have:=(ok.funs.mem hb).1;rw [e] at this;cases this
theorem Inv.bs (I:Inv X pins σ H s):∀b o,X.base.get? b=some o->s.heap.get? b=some o/\H b=none:=fun b o e=>
 ⟨I.base.keep b o (I.ok.bs b o e).1 (I.ok.bs b o e).2 (I.ok.nofr e) (I.ok.noex b o e),I.base.free b o (I.ok.bs b o e).1 (I.ok.bs b o e).2 (I.ok.noex b o e)⟩
theorem Inv.bk (I:Inv X pins σ H s):∀b o,X.base.get? b=some o->s.heap.get? b=some o:=fun b o e=>(I.bs b o e).1
theorem Inv.mod (I:Inv X pins σ H s):Mod X.K X.mg X.base:=I.ok.mod
theorem Inv.nos (I:Inv X pins σ H s):NS H:=I.base.sys I.ok.nos
theorem Inv.bigS (I:Inv X pins σ H s):x1D < s.heap.objs.size:=Nat.lt_trans (by decide) (I.mod.glob.keeps I.bk).lt
theorem Inv.kIn (I:Inv X pins σ H s):X.K.In s.heap:=I.ok.mod.kin.keeps I.bk
theorem Inv.lt (I:Inv X pins σ H s):X.env.locals < s.heap.objs.size:=let ⟨_,hn,_⟩:=I.loc;hn.lt
theorem Inv.sz (I:Inv X pins σ H s):X.s₀.heap.objs.size<=s.heap.objs.size:=x1j I.ok.above (Nat.le_of_lt I.lt)
theorem Inv.nofs (I:Inv X pins σ H s){a:Addr}(h:s.heap.objs.size<=a):a∉X.fs:=fun hb=>by
 obtain⟨_,o,ho,_⟩:=I.ok.funs.mem hb;exact absurd (x0y (x0l ho) (x1j I.sz h)) (x2c _)
theorem Inv.cne (I:Inv X pins σ H s):∀x c,X.env.cells.lookup x=some c->c≠X.env.locals:=fun x c e z=>by
 obtain⟨v,o,ho,hd⟩:=I.cell x c e;obtain⟨m,⟨o',es,ep,ho',hd',_⟩,_⟩:=I.loc;rw [z,ho'] at ho;cases ho;rw [hd'] at hd;cases hd
theorem Inv.funs (I:Inv X pins σ H s):s.heap.FunFrames X.base X.outer:=by
 have all:∀(l:List Env),(∀b∈frs l,b∈X.fs)->X.s₀.heap.FunFrames X.base l->s.heap.FunFrames X.base l:=by
   intro l
   induction l with
   | nil=>intro _ _;trivial
   | cons env r ih =>
     intro hs hl;obtain⟨hk,⟨L,o,hf,hn,ho,hd⟩,hr⟩:=hl;have hL:L∈X.fs:=hs L (by unfold frs;rw [x2p,hf];exact x0h);obtain⟨sl,e⟩:=I.base.slot L o ho (I.ok.frf L hL) hL fun z=>I.ok.exfs L z hL;exact⟨hk,⟨L,_,hf,hn,e,hd⟩,ih (fun b hb=>hs b (by unfold frs;rw [x2p,hf];exact x0d _ hb)) hr⟩
 exact all X.outer (fun _ hb=>hb) I.ok.funs
theorem Inv.stack (I:Inv X pins σ H s):s.heap.FunFrames X.base X.stack:=by
 rcases I.ok.stk with e | ⟨e,hf⟩
 · rw [e];exact I.funs
 · rw [e];obtain⟨m,hn,_⟩:=I.loc;refine .cons (by rw [I.ok.kind];decide) hf hn ?_ I.funs;exact Heap.get?_none_of_le (x1j I.ok.bsz I.ok.above)
theorem Inv.stkSub (I:Inv X pins σ H s):∀b∈frs X.stack,b∈X.env.locals::X.fs:=fun b hb=>by
 rcases I.ok.stk with e | ⟨e,hf⟩
 · rw [e] at hb;exact x0d _ hb
 · rw [e] at hb;unfold frs at hb;rw [x2p,hf] at hb;exact hb
theorem Inv.stkFree (I:Inv X pins σ H s):∀b∈frs X.stack,H b=none:=fun b hb=>by
 rcases x0s.mp (I.stkSub b hb) with e | hb
 · rw [e];exact I.free
 · obtain⟨_,o,ho,_⟩:=I.ok.funs.mem hb;exact I.base.free b o ho (I.ok.frf b hb) fun z=>I.ok.exfs b z hb
theorem Inv.step (I:Inv X pins σ H s)
   (hch:∀b∈ch,(b∈X.ex\/X.s₀.heap.objs.size<=b)/\b≠X.env.locals/\(∀x c,X.env.cells.lookup x=some c->c≠b)/\∀p∈X.pn++pins,p.1≠b)
   (keep:∀b o,b≠X.env.locals->b∉X.fs->b∉ch->s.heap.get? b=some o->H b=none->h'.get? b=some o)
   (slot:∀b o,b≠X.env.locals->b∈X.fs->b∉ch->s.heap.get? b=some o->H b=none->∃sl,h'.get? b=some { o with slots:=sl }) (free:∀b o,b∉ch->s.heap.get? b=some o->H b=none->H' b=none)
   (there:∀b o,b∉ch->s.heap.get? b=some o->∃o',h'.get? b=some o')
   (tups:∀b xs,H b=some (.tup xs)->H' b=some (.tup xs)) (frzs:∀b o u,H b=some (.frz o u)->H' b=some (.frz o u)) (tbls:∀b ps,H b=some (.tbl ps)->∃more,H' b=some (.tbl (ps++more))) (sys:NS H->NS H')
   (ns:∀m,s.heap.Ns X.env.locals m->h'.Ns X.env.locals m) (hok:HOk X.prog X.w H' h') (hg:AllBare g') :
   Inv X pins σ H' { s with heap:=h',gens:=g',drawn:=d',toks:=t' }:=by
 have neL:∀b o,X.s₀.heap.get? b=some o->b≠X.env.locals:=fun b o e=>x0u (x0y (x0l e) I.ok.above)
 have neC:∀b o,X.s₀.heap.get? b=some o->b∉X.ex->b∉ch:=fun b o e hx hb=>by
   rcases(hch b hb).1 with z | z
   · exact hx z
   · exact absurd (x0y (x0l e) z) (x2c _)
 have cellK:∀x c,X.env.cells.lookup x=some c->∀v,s.heap.IsCell c v->h'.IsCell c v:=fun x c e v ⟨o,ho,hd⟩=>by
   have nch:c∉ch:=fun z=>(hch c z).2.2.1 x c e rfl
   by_cases hc:c∈X.fs
   · obtain⟨sl,q⟩:=slot c o (I.cne x c e) hc nch ho (I.freeC x c e);exact⟨_,q,hd⟩
   · exact⟨o,keep c o (I.cne x c e) hc nch ho (I.freeC x c e),hd⟩
 refine⟨I.ok,I.os,hg,⟨fun b o e n hb hx=>?_,fun b o e n hb hx=>?_,fun b o e n hx=>?_,fun b o e hx=>?_,fun b xs e=>tups b xs (I.base.tups b xs e),fun b o xs e=>frzs b o xs (I.base.frzs b o xs e),fun b ps e=>?_,fun z=>sys (I.base.sys z)⟩,?_,fun x c e=>?_,?_,fun x c e=>?_,fun p hp=>?_,hok,I.len⟩
 · exact keep b o (neL b o e) hb (neC b o e hx) (I.base.keep b o e n hb hx) (I.base.free b o e n hx)
 · obtain⟨sl,e1⟩:=I.base.slot b o e n hb hx;obtain⟨sl',e2⟩:=slot b _ (neL b o e) hb (neC b o e hx) e1 (I.base.free b o e n hx);exact⟨sl',e2⟩
 · obtain⟨o',e1⟩:=I.base.there b o e hx;exact free b o' (neC b o e hx) e1 (I.base.free b o e n hx)
 · obtain⟨o',e1⟩:=I.base.there b o e hx;exact there b o' (neC b o e hx) e1
 · obtain⟨m1,e1⟩:=I.base.tbls b ps e;obtain⟨m2,e2⟩:=tbls b _ e1;exact⟨m1++m2,by rw [e2,Array.append_assoc]⟩
 · obtain⟨m,hn,hl⟩:=I.loc;refine⟨m,ns m hn,fun i x v e1 e2 e3=>?_⟩;obtain⟨u,r,l⟩:=hl i x v e1 e2 e3;refine⟨u,r,?_⟩;rcases l with l | ⟨k,c,e,z⟩
   · exact .inl l
   · exact .inr ⟨k,c,e,cellK x c e _ z⟩
 · obtain⟨v,z⟩:=I.cell x c e;exact⟨v,cellK x c e v z⟩
 · obtain⟨m,⟨o,_,_,ho,_⟩,_⟩:=I.loc;exact free _ o (fun z=>(hch _ z).2.1 rfl) ho I.free
 · obtain⟨v,o,ho,hd⟩:=I.cell x c e;exact free c o (fun z=>(hch c z).2.2.1 x c e rfl) ho (I.freeC x c e)
 · obtain⟨e,n,ne,nf,d⟩:=I.pin p hp;have nch:p.1∉ch:=fun z=>(hch p.1 z).2.2.2 p hp rfl;exact⟨keep p.1 p.2 ne nf nch e n,free p.1 p.2 nch e n,ne,nf,d⟩
theorem Inv.un (I:Inv X pins σ H s)(u:Un X.fs [] H H' s.heap h')(hok:HOk X.prog X.w H' h'):Inv X pins σ H' { s with heap:=h',toks:=t' }:=by
 obtain⟨m,⟨o,es,ep,ho,r⟩,_⟩:=id I.loc;obtain⟨sl,hL⟩:=u.any ho I.free (by simp)
 exact I.step (g':=s.gens) (d':=s.drawn) (ch:=[]) (fun _ z=>nomatch z) (fun b o _ hb _ e n=>u.keep b o e n hb (by simp)) (fun b o _ hb _ e n=>u.slot b o e n hb (by simp)) (fun b o _ e n=>u.free b o e n (by simp)) (fun b o _ e=>u.there b o e (by simp)) u.tups u.frzs u.tbls u.sys (fun m' hm=>by
   obtain⟨o',es',ep',ho',r'⟩:=hm;rw [ho] at ho';cases ho'
   exact⟨_,es',ep',hL,r'⟩) hok I.bare
theorem Inv.call (I:Inv X pins σ H s)(u:Un (frs X.stack) ch H H' s.heap h')(hok:HOk X.prog X.w H' h')(hg:AllBare g')
   (hch:∀b∈ch,(b∈X.ex\/X.s₀.heap.objs.size<=b)/\b≠X.env.locals/\(∀x c,X.env.cells.lookup x=some c->c≠b)/\∀p∈X.pn++pins,p.1≠b) :
   Inv X pins σ H' { s with heap:=h',gens:=g',drawn:=d',toks:=t' }:=by
 obtain⟨m,⟨o,es,ep,ho,r⟩,_⟩:=id I.loc;obtain⟨sl,hL⟩:=u.any ho I.free fun z=>(hch _ z).2.1 rfl
 exact I.step (ch:=ch) hch (fun b o hL hb hc e n=>u.keep b o e n (fun z=>(x0s.mp (I.stkSub b z)).elim hL hb) hc) (fun b o _ _ hc e n=>u.any e n hc) (fun b o hc e n=>u.free b o e n hc) (fun b o hc e=>u.there b o e hc) u.tups u.frzs u.tbls u.sys (fun m' hm=>by
   obtain⟨o',es',ep',ho',r'⟩:=hm;rw [ho] at ho';cases ho'
   exact⟨_,es',ep',hL,r'⟩) hok hg
theorem Inv.turned {it:Addr}(I:Inv X pins σ H s)(k:∀b o,b≠it->s.heap.get? b=some o->h'.get? b=some o)(hn:H it=none)(hL:it≠X.env.locals)
   (h1:it∈X.ex\/X.s₀.heap.objs.size<=it) (h2:∀x c,X.env.cells.lookup x=some c->c≠it) (h3:∀p∈X.pn++pins,p.1≠it):Inv X pins σ H { s with heap:=h',toks:=t' }:=by
 have nit:∀b u,H b=some u->b≠it:=fun b u e z=>by rw [z,hn] at e;cases e
 refine I.step (g':=s.gens) (d':=s.drawn) (ch:=[it]) (fun b hb=>?_) (fun b o _ _ hc e _=>k b o (fun z=>hc (by simp [z])) e) (fun b o _ _ hc e _=>⟨o.slots,k b o (fun z=>hc (by simp [z])) e⟩) (fun _ _ _ _ n=>n)
   (fun b o hc e=>⟨o,k b o (fun z=>hc (by simp [z])) e⟩) (fun _ _ e=>e) (fun _ _ _ e=>e) (fun b ps e=>⟨#[],by rw [e];simp⟩) (fun z=>z) (fun m hm=>?_) (fun b u e=>?_) I.bare
 · have e:b=it:=by simpa using hb
   subst e;exact⟨h1,hL,h2,h3⟩
 · obtain⟨o,es,ep,ho,r⟩:=hm;exact⟨o,es,ep,k _ o (Ne.symm hL) ho,r⟩
 · refine(I.hok b u e).stay (fun c v hc q=>k c v ?_ q) (fun _ q=>q) fun _ _ q=>q;rcases hc with z | z
   · rw [z];exact nit b u e
   · exact nit c _ z
theorem Inv.tok (I:Inv X pins σ H s)(t:Nat):Inv X pins σ H { s with toks:=t }:=I.un (h':=s.heap) (t':=t) Un.refl I.hok
theorem Inv.kept (I:Inv X pins σ H s)(k:∀b u,s.heap.get? b=some u->h'.get? b=some u):Inv X pins σ H { s with heap:=h',toks:=t' }:=I.un (Un.kept k) (I.hok.kept k)
theorem Inv.laid {a:Addr}{o:HO}(I:Inv X pins σ H s)(k:∀b u,s.heap.get? b=some u->h'.get? b=some u)(hp:s.heap.objs.size<=a)(new:a0F X.prog X.w (upd H a o) h' a o) :
   Inv X pins σ (upd H a o) { s with heap:=h',toks:=t' }:=I.un (Un.laid k hp (I.hok.fresh hp) I.bigS) (I.hok.laid k hp new)
theorem Inv.write {x e:Addr}{o:HO}(I:Inv X pins σ H s)(mu:Mut (H x))(he:e=x\/H e=some (.own x))(k:∀b u,b≠e->s.heap.get? b=some u->h'.get? b=some u)(heo:∃u,h'.get? e=some u)
   (new:a0F X.prog X.w (upd H x o) h' x o):Inv X pins σ (upd H x o) { s with heap:=h',toks:=t' }:=I.un (Un.write mu he k heo) (I.hok.write mu he k heo new)
theorem Inv.pins_of {pins':List (Addr×Obj)}(I:Inv X pins σ H s)(h:∀p∈pins',s.heap.get? p.1=some p.2/\H p.1=none/\p.1≠X.env.locals/\p.1∉X.fs/\∀v,p.2.data≠.cell v):Inv X pins' σ H s:=
 ⟨I.ok,I.os,I.bare,I.base,I.loc,I.cell,I.free,I.freeC,fun p hp=>(x1g.mp hp).elim (fun z=>I.pin p (x2I _ z)) (h p),I.hok,I.len⟩
theorem nodup_ix {N:List Str}(hN:N.Nodup){i j:Nat}{x:Str}(a:N[i]?=some x)(b:N[j]?=some x):i=j:=by
 obtain⟨h1,e1⟩:=x0k.mp a;obtain⟨h2,e2⟩:=x0k.mp b;exact(List.getElem_inj hN).mp (e1.trans e2.symm)
theorem a4A {A:Around}{E:Value->Shared->Prop}{i:Nat}{x:Str}{v:V}{u:Value}{Q:Unit->Shared->Prop}(I:Inv X pins σ H s)(hN:X.N.Nodup)(hi:X.N[i]?=some x)(hx:Loc X.env.scope x)(r:RelV v u)
   (h:∀s',Inv X pins (σ.set i (some v)) H s'->(∃a,x3z a s.heap s'.heap/\(a=X.env.locals\/X.env.cells.lookup x=some a))->Q () s') (hf:X.fn x=true\/X.env.scope.names.lookup x=some .local:=by first | exact .inl rfl | exact .inr rfl | assumption):wpAny M A (storeName X.env x u) Q E s:=by
 obtain⟨m,hn,hl⟩:=id I.loc;have hcls:(X.env.scope.kind == .class || (X.env.scope.kind == .module && X.env.locals != X.env.globals))=false:=by rw [I.ok.kind];rfl
 have hiσ:i < σ.length:=by rw [I.len];exact(x0k.mp hi).1
 have cne:=I.cne
 have tracked:∀{a:Addr} {h':Heap},(∃o,s.heap.get? a=some o/\H a=none)->x3z a s.heap h'->HOk X.prog X.w H h':=fun {a h'} ha hs b ob e=>by
   obtain⟨_,_,hfree⟩:=ha;refine(I.hok b ob e).stay (fun c w' hc q=>(hs.2 c ?_).trans q) (fun _ q=>q) fun _ _ q=>q;rintro rfl;rcases hc with rfl | hc
   · rw [hfree] at e;cases e
   · rw [hfree] at hc;cases hc
 rcases hx with hk | hk
 · refine wpAny_storeName_local hk hn (fun h' hn' hs=>?_) hcls;obtain⟨oL,_,_,hoL,_⟩:=id hn;refine h _ ⟨I.ok,I.os,I.bare,⟨fun b o e n hb hx=>?_,fun b o e n hb hx=>?_,I.base.free,fun b o e hx=>?_,I.base.tups,I.base.frzs,I.base.tbls,I.base.sys⟩,⟨_,hn',fun j y v' e1 e2 e3=>?_⟩,fun y c e=>?_,I.free,I.freeC,fun p hp=>?_,tracked ⟨oL,hoL,I.free⟩ hs,by simpa using I.len⟩ ⟨_,hs,.inl rfl⟩
   · exact(hs.2 b (x0u (x0y (x0l e) I.ok.above))).trans (I.base.keep b o e n hb hx)
   · obtain⟨sl,e1⟩:=I.base.slot b o e n hb hx;exact⟨sl,(hs.2 b (x0u (x0y (x0l e) I.ok.above))).trans e1⟩
   · obtain⟨o',e1⟩:=I.base.there b o e hx;exact⟨o',(hs.2 b (x0u (x0y (x0l e) I.ok.above))).trans e1⟩
   · by_cases hj:j=i
     · subst hj;rw [hi] at e1;cases e1;rw [x0o hiσ] at e2;cases e2;exact⟨u,r,.inl ⟨hk,by simp⟩⟩
     · rw [x0t (Ne.symm hj)] at e2;obtain⟨u',r',q⟩:=hl j y v' e1 e2 e3;refine⟨u',r',?_⟩;rcases q with⟨k,e⟩ | ⟨k,c,e,z⟩
       · refine .inl ⟨k,?_⟩;have:y≠x:=fun e=>hj (nodup_ix hN e1 (e▸hi));simp [this,e]
       · exact .inr ⟨k,c,e,z.sameBut hs (cne y c e)⟩
   · obtain⟨w',z⟩:=I.cell y c e;exact⟨w',z.sameBut hs (cne y c e)⟩
   · obtain⟨e,n,ne,nf,d⟩:=I.pin p hp;exact⟨(hs.2 p.1 ne).trans e,n,ne,nf,d⟩
 · have hfn:X.fn x=true:=by
     rcases hf with z | z
     · exact z
     · rw [z] at hk;cases hk
   obtain⟨c,hc⟩:=I.ok.has x (.inl hk);obtain⟨w',z⟩:=I.cell x c hc;refine wpAny_storeName_cell I.ok.kind hk hc z (fun h' hc' hs=>?_);obtain⟨oc,hoc,hocd⟩:=id z;refine h { s with heap:=h' } ⟨I.ok,I.os,I.bare,⟨fun b o e n hb hx=>?_,fun b o e n hb hx=>?_,I.base.free,fun b o e hx=>?_,I.base.tups,I.base.frzs,I.base.tbls,I.base.sys⟩,⟨m,hn.sameBut hs (Ne.symm (cne x c hc)),fun j y v' e1 e2 e3=>?_⟩,fun y c' e=>?_,I.free,I.freeC,fun p hp=>?_,tracked ⟨oc,hoc,I.freeC x c hc⟩ hs,by simpa using I.len⟩ ⟨c,hs,.inr hc⟩
   · exact(hs.2 b (x0u (x0y (x0l e) (I.ok.cab x c hfn hc)))).trans (I.base.keep b o e n hb hx)
   · obtain⟨sl,e1⟩:=I.base.slot b o e n hb hx;exact⟨sl,(hs.2 b (x0u (x0y (x0l e) (I.ok.cab x c hfn hc)))).trans e1⟩
   · obtain⟨o',e1⟩:=I.base.there b o e hx;exact⟨o',(hs.2 b (x0u (x0y (x0l e) (I.ok.cab x c hfn hc)))).trans e1⟩
   · by_cases hj:j=i
     · subst hj;rw [hi] at e1;cases e1;rw [x0o hiσ] at e2;cases e2;exact⟨u,r,.inr ⟨.inl hk,c,hc,hc'⟩⟩
     · rw [x0t (Ne.symm hj)] at e2;obtain⟨u',r',q⟩:=hl j y v' e1 e2 e3;refine⟨u',r',?_⟩;rcases q with q | ⟨k,c',e,z'⟩
       · exact .inl q
       · refine .inr ⟨k,c',e,z'.sameBut hs ?_⟩;rintro rfl;exact hj (nodup_ix hN e1 (I.ok.inj _ _ _ e hc▸hi))
   · by_cases hcc:c'=c
     · subst hcc;exact⟨_,hc'⟩
     · obtain⟨w2,z2⟩:=I.cell y c' e;exact⟨w2,z2.sameBut hs hcc⟩
   · obtain⟨e,n,ne,nf,d⟩:=I.pin p hp;refine⟨(hs.2 p.1 ?_).trans e,n,ne,nf,d⟩;intro q;rw [q,hoc] at e;have q':oc=p.2:=x0C e;exact d w' (by rw [<- q'];exact hocd)
theorem a2l {A:Around}{E:Value->Shared->Prop}{i:Nat}{x:Str}{v:V}{u:Value}{Q:Unit->Shared->Prop}(I:Inv X pins σ H s)(hN:X.N.Nodup)(hi:X.N[i]?=some x)(hx:Loc X.env.scope x)(r:RelV v u)
   (h:∀s',Inv X pins (σ.set i (some v)) H s'->Q () s') (hf:X.fn x=true\/X.env.scope.names.lookup x=some .local:=by first | exact .inl rfl | exact .inr rfl | assumption):wpAny M A (storeName X.env x u) Q E s:=
 a4A I hN hi hx r (fun s' I' _=>h s' I') hf
end
abbrev XK:=Value->Option Addr->Hp->Prop
abbrev St:=List (Option V)
abbrev VK:=V->Hp->Prop
abbrev TE:=St->Hp->VK->Prop
abbrev TT:=St->Hp->(Bool->Hp->Prop)->Prop
abbrev TA:=St->Hp->(List V->Hp->Prop)->Prop
structure Ends where
 nx:St->Hp->Prop
 rt:VK
 bk:St->Hp->Prop:=fun _ _=>False
 ct:St->Hp->Prop:=fun _ _=>False
abbrev TS:=Ends->St->Hp->Prop
def EP (X:Cx)(pins:List (Addr×Obj))(σ:St)(Q:VK)(u:Value)(s':Shared):Prop:=∃v H',Inv X pins σ H' s'/\RelV v u/\Q v H'
def TP (X:Cx)(pins:List (Addr×Obj))(σ:St)(Q:Bool->Hp->Prop)(b:Bool)(s':Shared):Prop:=∃H',Inv X pins σ H' s'/\Q b H'
def AP (X:Cx)(pins:List (Addr×Obj))(σ:St)(Q:List V->Hp->Prop)(us:List Value)(s':Shared):Prop:=∃vs H',Inv X pins σ H' s'/\Vals vs us/\Q vs H'
def SP (X:Cx)(pins:List (Addr×Obj))(D:Ends)(f:Flow)(s':Shared):Prop:=
 match f with
 | .next=>∃σ' H',Inv X pins σ' H' s'/\D.nx σ' H'
 | .brk=>∃σ' H',Inv X pins σ' H' s'/\D.bk σ' H'
 | .cont=>∃σ' H',Inv X pins σ' H' s'/\D.ct σ' H'
 | .ret u=>∃v σ' H',Inv X pins σ' H' s'/\RelV v u/\D.rt v H'
def PE (X:Cx)(e:Expr)(t:TE):Prop:=
 ∀(pins:List (Addr×Obj)) (s:Shared) (σ:St) (H:Hp) (Q:VK),Inv X pins σ H s->t σ H Q->wpAny (model X.prog X.w) X.A (eval e X.env) (EP X pins σ Q) X.xe s
def PT (X:Cx)(e:Expr)(t:TT):Prop:=
 ∀(pins:List (Addr×Obj)) (s:Shared) (σ:St) (H:Hp) (Q:Bool->Hp->Prop),Inv X pins σ H s->t σ H Q->wpAny (model X.prog X.w) X.A (isTrue e X.env (eval e X.env)) (TP X pins σ Q) X.xe s
def PW (X:Cx)(e:Expr)(t:TT):Prop:=
 ∀(whole:Sem Value) (pins:List (Addr×Obj)) (s:Shared) (σ:St) (H:Hp) (Q:Bool->Hp->Prop),Inv X pins σ H s->t σ H Q->wpAny (model X.prog X.w) X.A (isTrue e X.env whole) (TP X pins σ Q) X.xe s
theorem PW.pt {X:Cx}{e:Expr}{t:TT}(h:PW X e t):PT X e t:=h _
def PA (X:Cx)(es:List Expr)(t:TA):Prop:=
 ∀(pos:Pos) (pins:List (Addr×Obj)) (s:Shared) (σ:St) (H:Hp) (Q:List V->Hp->Prop),Inv X pins σ H s->t σ H Q->wpAny (model X.prog X.w) X.A (spliced (backTo pos (x0T es X.env))) (AP X pins σ Q) X.xe s
def PS (X:Cx)(st:Stmt)(t:TS):Prop:=
 ∀(pins:List (Addr×Obj)) (s:Shared) (σ:St) (H:Hp) (D:Ends),Inv X pins σ H s->t D σ H->wpAny (model X.prog X.w) X.A (exec st X.env) (SP X pins D) X.xe s
def PSs (X:Cx)(st:List Stmt)(t:TS):Prop:=
 ∀(pins:List (Addr×Obj)) (s:Shared) (σ:St) (H:Hp) (D:Ends),Inv X pins σ H s->t D σ H->wpAny (model X.prog X.w) X.A (execs st X.env) (SP X pins D) X.xe s
theorem thn {α:Type}{t:Sem α}{Q Q':α->Shared->Prop}{M:Model}{A:Around}{E:Value->Shared->Prop}{s:Shared}(h:wpAny M A t Q E s)(hQ:∀a s,Q a s->Q' a s):wpAny M A t Q' E s:=x0S h hQ fun _ _ x=>x
section
variable {X:Cx}
def tVar (i:Nat):TE:=fun σ H Q=>∃v,σ[i]?=some (some v)/\Q v H
def tC (v:V):TE:=fun _ H Q=>Q v H
theorem b0T {i:Nat}{x:Str}{pos:Pos}(hN:X.N[i]?=some x)(hv:Vis X.env.scope x)(hd:(x == ("__debug__":Str))=false:=by decide)(hcd:(x == ("__classdict__":Str))=false:=by decide):PE X (.Name x pos) (tVar i):=by
 intro pins s σ H Q I h;obtain⟨v,e,h⟩:=h;obtain⟨m,hn,hl⟩:=I.loc;obtain⟨u,r,l⟩:=hl i x v hN e hv;have fin:EP X pins σ Q u s:=⟨v,H,I,r,h⟩;rcases l with⟨hk,hm⟩ | ⟨hk,c,hc,hcell⟩
 · exact wpAny_Name (wpAny_loadName_local I.ok.kind hk hn hm fin) hd
 · rcases hk with hk | hk
   · exact wpAny_Name (wpAny_loadName_cell I.ok.kind hk hc hcell fin) hd
   · exact wpAny_Name (wpAny_loadName_free I.ok.kind hk hc hcell fin hcd) hd
theorem a0s {i j pos}:PE X (.Constant (.int i) j pos) (tC (.int i)):=fun _ _ _ H _ I h=>wpAny_Constant_int ⟨.int i,H,I.tok _,⟨_,rfl⟩,h⟩
theorem pe_bl {b j pos}:PE X (.Constant (.bool b) j pos) (tC (.bl b)):=fun _ _ _ H _ I h=>Constant_bool ⟨.bl b,H,I,rfl,h⟩
theorem pe_non {j pos}:PE X (.Constant .none j pos) (tC .non):=fun _ _ _ H _ I h=>Constant_none ⟨.non,H,I,rfl,h⟩
theorem pe_str {x j pos}:PE X (.Constant (.str x) j pos) (tC (.str x)):=fun _ _ _ H _ I h=>Calls.Constant_str ⟨.str x,H,I.tok _,⟨_,rfl⟩,h⟩
def Gl (X:Cx)(x:Str):Prop:=X.env.kindOf x=some .globalImplicit
theorem b2M {E:Value->Shared->Prop}{pins:List (Addr×Obj)}{s:Shared}{σ:St}{H:Hp}{x:Str}{u:Value}{pos:Pos}{Q:Value->Shared->Prop}(I:Inv X pins σ H s)(hg:Gl X x)(hm:X.mg x=some u)(h:Q u s)
   (hd:(x == ("__debug__":Str))=false:=by decide):wpAny (model X.prog X.w) X.A (eval (.Name x pos) X.env) Q E s:=
 Calls.Name_function_global I.ok.kind hg (Calls.loadGlobal_global (by rw [I.ok.glob];exact I.mod.glob.keeps I.bk) hm h) hd
theorem a2r {E:Value->Shared->Prop}{pins:List (Addr×Obj)}{s:Shared}{σ:St}{H:Hp}{x:Str}{u:Value}{pos:Pos}{Q:Value->Shared->Prop}(I:Inv X pins σ H s)(hg:Gl X x)(hm:X.mg x=none)(hv:x0U x=some u)(h:Q u s)
   (hn:x≠"__name__":=by decide) (hd:(x == ("__debug__":Str))=false:=by decide):wpAny (model X.prog X.w) X.A (eval (.Name x pos) X.env) Q E s:=by
 obtain⟨mb,h1,h2⟩:=I.mod.blt;exact Calls.Name_function_global I.ok.kind hg (Calls.loadGlobal_builtin (by rw [I.ok.glob];exact I.mod.glob.keeps I.bk) hm (by rw [I.ok.blt];exact h1.keeps I.bk) ((h2 x hn).trans hv) h) hd
theorem b2u {x:Str}{v:V}{u:Value}{pos:Pos}(hg:Gl X x)(hm:X.mg x=none)(hv:x0U x=some u)(r:RelV v u)(hn:x≠"__name__":=by decide)(hd:(x == ("__debug__":Str))=false:=by decide):PE X (.Name x pos) (tC v):=
 fun _ _ _ H _ I h=>a2r I hg hm hv ⟨v,H,I,r,h⟩ hn hd
variable {a b:Expr}{ta tb:TE}{pos:Pos}
def tB (t:TE):TT:=fun σ H Q=>t σ H fun x H1=>∃c,x=.bl c/\Q c H1
theorem pt_val {e:Expr}{t:TE}(h:PE X e t)(he:∀whole,isTrue e X.env whole=(do let v ← whole;standAt e.pos;holding [v] (truthy v)):=by intro _;rfl):PT X e (tB t):=by
 intro pins s σ H Q I hw;refine isTrue_plain (thn (h pins s σ H _ I hw) fun v s1 ⟨x,H1,I1,r1,q1⟩=>?_) (he _);obtain⟨d,rfl,q⟩:=q1;cases r1;exact x2k ⟨H1,I1,q⟩
variable {tA tB':TT}{rest:List Expr}
def tAnd (t u:TT):TT:=fun σ H Q=>t σ H fun c H1=>if c=true then u σ H1 Q else Q false H1
def tOr (t u:TT):TT:=fun σ H Q=>t σ H fun c H1=>if c=true then Q true H1 else u σ H1 Q
def tNot (t:TT):TT:=fun σ H Q=>t σ H fun c H1=>Q (!c) H1
theorem b1Z (ha:PT X a tA):PW X (.BoolOp .And [a] pos) tA:=by
 intro wh pins s σ H Q I h;refine isTrue_and (thn (ha pins s σ H Q I h) fun c s1 e=>?_);cases c with
 | true=>exact isTrue_and_nil e
 | false=>exact e
theorem pw_or1 (ha:PT X a tA):PW X (.BoolOp .Or [a] pos) tA:=by
 intro wh pins s σ H Q I h;refine isTrue_or (thn (ha pins s σ H Q I h) fun c s1 e=>?_);cases c with
 | false=>exact isTrue_or_nil e
 | true=>exact e
theorem pw_and (ha:PT X a tA)(hb:PW X (.BoolOp .And (b::rest) pos) tB'):PW X (.BoolOp .And (a::b::rest) pos) (tAnd tA tB'):=by
 intro wh pins s σ H Q I h;refine isTrue_and (thn (ha pins s σ H _ I h) fun c s1 ⟨H1,I1,q1⟩=>?_);cases c with
 | true=>exact hb wh pins s1 σ H1 Q I1 q1
 | false=>exact⟨H1,I1,q1⟩
theorem pw_or (ha:PT X a tA)(hb:PW X (.BoolOp .Or (b::rest) pos) tB'):PW X (.BoolOp .Or (a::b::rest) pos) (tOr tA tB'):=by
 intro wh pins s σ H Q I h;refine isTrue_or (thn (ha pins s σ H _ I h) fun c s1 ⟨H1,I1,q1⟩=>?_);cases c with
 | true=>exact⟨H1,I1,q1⟩
 | false=>exact hb wh pins s1 σ H1 Q I1 q1
theorem pt_not (ha:PT X a tA):PT X (.UnaryOp .Not a pos) (tNot tA):=by
 intro pins s σ H Q I h;exact isTrue_not (ha pins s σ H (fun c H1=>Q (!c) H1) I h)
def tAndV (ta tb:TE):TE:=fun σ H Q=>ta σ H fun x H1=>∃c,x=.bl c/\if c=true then tb σ H1 Q else Q (.bl false) H1
theorem pe_one {op}{t:TE}(h:PE X a t):PE X (.BoolOp op [a] pos) t:=fun pins s σ H Q I hw=>BoolOp_one (h pins s σ H Q I hw)
theorem pe_and (ha:PE X a ta)(hb:PE X (.BoolOp .And (b::rest) pos) tb):PE X (.BoolOp .And (a::b::rest) pos) (tAndV ta tb):=by
 intro pins s σ H Q I h;refine BoolOp_and (thn (ha pins s σ H _ I h) fun v s1 ⟨x,H1,I1,r1,q1⟩=>?_);obtain⟨c,rfl,q1⟩:=q1;cases r1;refine x2k ?_;cases c with
 | true=>exact hb pins s1 σ H1 Q I1 q1
 | false=>exact⟨.bl false,H1,I1,rfl,q1⟩
def tIf (t:TT)(ta tb:TE):TE:=fun σ H Q=>t σ H fun c H1=>if c=true then ta σ H1 Q else tb σ H1 Q
theorem a6g {c:Expr}(hc:PT X c tA)(ha:PE X a ta)(hb:PE X b tb):PE X (.IfExp c a b pos) (tIf tA ta tb):=by
 intro pins s σ H Q I h;refine wpAny_IfExp (thn (hc pins s σ H _ I h) fun d s1 ⟨H1,I1,q1⟩=>?_);cases d with
 | true=>exact ha pins s1 σ H1 Q I1 q1
 | false=>exact hb pins s1 σ H1 Q I1 q1
end
def SqL (K:x0a)(H:Hp)(a:Addr)(xs:List V):Prop:=
 Rd H a (.lst xs)\/
   ∃(o:Obj) (its:Array Value) (n:Nat),K.lookup a=some o/\o.cls=.type "list"/\o.dict=none/\o.data=.seq its n/\its.size<=x0v/\Vals xs its.toList
def SqT (K:x0a)(H:Hp)(a:Addr)(xs:List V):Prop:=
 Rd H a (.tup xs)\/
   ∃(o:Obj) (its:Array Value) (n:Nat),K.lookup a=some o/\o.cls=.type "tuple"/\o.data=.seq its n/\its.size<=x0v/\Vals xs its.toList
def absV:Value->Option V
 | .none=>some .non
 | .bool b=>some (.bl b)
 | .int i _=>some (.int i)
 | .str x _=>some (.str x)
 | .bytes b _=>some (.byt b)
 | .float b _=>some (.flt b)
 | .ref a=>some (.ref a)
 | .type n=>some (.ty n)
 | _=>none
theorem RelV.abs {x:V}{u:Value}(r:RelV x u):absV u=some x:=by
 cases x with
 | non=>cases r;rfl
 | bl _=>cases r;rfl
 | int _=>obtain⟨t,rfl⟩:=r;rfl
 | str _=>obtain⟨t,rfl⟩:=r;rfl
 | byt _=>obtain⟨t,rfl⟩:=r;rfl
 | flt _=>obtain⟨t,rfl⟩:=r;rfl
 | ref _=>cases r;rfl
 | ty _=>cases r;rfl
theorem RelV.inj {x y:V}{u:Value}(r:RelV x u)(q:RelV y u):x=y:=x0C (r.abs.symm.trans q.abs)
theorem Vals.inj {xs ys:List V}{us:List Value}(h:Vals xs us)(h':Vals ys us):xs=ys:=by
 induction h generalizing ys with
 | nil=>cases h';rfl
 | cons r t ih=>cases h' with | cons r' t'=>rw [r.inj r',ih t']
section
variable {X:Cx}{pins:List (Addr×Obj)}{σ:St}{H:Hp}{s:Shared}{a:Addr}{xs ys:List V}
theorem SqL.of {K:x0a}(h:H a=some (.lst xs)):SqL K H a xs:=.inl (.inl h)
theorem SqT.of {K:x0a}(h:H a=some (.tup xs)):SqT K H a xs:=.inl (.inl h)
theorem Inv.list (I:Inv X pins σ H s)(h:SqL X.K H a xs):∃its:List Value,Vals xs its/\PlainL s.heap a its.toArray/\xs.length<=x0v:=by
 rcases h with h | ⟨o,its,n,hk,hc,hd,hs,hz,r⟩
 · obtain⟨z,its,n,r,e⟩:=h.ok I.hok;exact⟨its,r,⟨_,n,e,rfl,rfl,rfl⟩,z⟩
 · refine⟨its.toList,r,⟨o,n,I.kIn a o hk,hc,hd,by simpa using hs⟩,?_⟩;have e:=r.length;simp only [x1E] at e;omega
theorem Inv.tuple (I:Inv X pins σ H s)(h:SqT X.K H a xs):∃its:List Value,Vals xs its/\IsTup s.heap a its.toArray/\xs.length<=x0v:=by
 rcases h with h | ⟨o,its,n,hk,hc,hs,hz,r⟩
 · obtain⟨z,its,r,p⟩:=h.ok I.hok;exact⟨its,r,p.is,z⟩
 · refine⟨its.toList,r,⟨o,I.kIn a o hk,hc,n,by simpa using hs⟩,?_⟩;have e:=r.length;simp only [x1E] at e;omega
theorem Inv.list_inj (I:Inv X pins σ H s)(h:SqL X.K H a xs)(h':SqL X.K H a ys):xs=ys:=by
 obtain⟨its,r,⟨o,n,e,_,_,d⟩,_⟩:=I.list h;obtain⟨its',r',⟨o',n',e',_,_,d'⟩,_⟩:=I.list h';rw [e] at e';cases e';rw [d] at d';injection d' with d1 _;have:its=its':=by simpa using congrArg Array.toList d1
 subst this;exact r.inj r'
theorem Inv.tuple_inj (I:Inv X pins σ H s)(h:SqT X.K H a xs)(h':SqT X.K H a ys):xs=ys:=by
 obtain⟨its,r,⟨o,e,_,n,d⟩,_⟩:=I.tuple h;obtain⟨its',r',⟨o',e',_,n',d'⟩,_⟩:=I.tuple h';rw [e] at e';cases e';rw [d] at d';injection d' with d1 _;have:its=its':=by simpa using congrArg Array.toList d1
 subst this;exact r.inj r'
end
abbrev Cx.wish (X:Cx)(E:Value->Shared->Prop):Cx:={ X with xe:=E }
abbrev Cx.nox (X:Cx):Cx:=X.wish fun _ _=>False
theorem Cx.Ok.wish {X:Cx}(ok:X.Ok)(E:Value->Shared->Prop):(X.wish E).Ok:=
 ⟨ok.mod,ok.kind,ok.glob,ok.blt,ok.above,ok.inj,ok.has,ok.cab,ok.hd,ok.frames,ok.stk,ok.exf,ok.bs,ok.bsz,ok.noex,ok.exfs,ok.funs,ok.frf,ok.nos⟩
theorem Cx.Ok.unwish {X:Cx}{E:Value->Shared->Prop}(ok:(X.wish E).Ok):X.Ok:=
 ⟨ok.mod,ok.kind,ok.glob,ok.blt,ok.above,ok.inj,ok.has,ok.cab,ok.hd,ok.frames,ok.stk,ok.exf,ok.bs,ok.bsz,ok.noex,ok.exfs,ok.funs,ok.frf,ok.nos⟩
section
variable {X:Cx}{pins:List (Addr×Obj)}{σ:St}{H:Hp}{s:Shared}{E:Value->Shared->Prop}
theorem Inv.wish (I:Inv X pins σ H s)(E:Value->Shared->Prop):Inv (X.wish E) pins σ H s:=⟨I.ok.wish E,I.os,I.bare,I.base,I.loc,I.cell,I.free,I.freeC,I.pin,I.hok,I.len⟩
theorem Inv.unwish (I:Inv (X.wish E) pins σ H s):Inv X pins σ H s:=⟨I.ok.unwish,I.os,I.bare,I.base,I.loc,I.cell,I.free,I.freeC,I.pin,I.hok,I.len⟩
theorem SP.unwish {D:Ends}{f:Flow}{s':Shared}(h:SP (X.wish E) pins D f s'):SP X pins D f s':=by
 cases f with
 | next=>obtain⟨σ',H',I,q⟩:=h;exact⟨σ',H',I.unwish,q⟩
 | brk=>obtain⟨σ',H',I,q⟩:=h;exact⟨σ',H',I.unwish,q⟩
 | cont=>obtain⟨σ',H',I,q⟩:=h;exact⟨σ',H',I.unwish,q⟩
 | ret u=>obtain⟨v,σ',H',I,r,q⟩:=h;exact⟨v,σ',H',I.unwish,r,q⟩
theorem PSs.nox {st:List Stmt}{t:TS}(h:PSs X.nox st t):PSs X st t:=fun pins s σ H D I hw=>
 x0S (h pins s σ H D (I.wish _) hw) (fun _ _ q=>q.unwish) fun _ _ z=>x2v z
end
section
variable {X:Cx}{st:Stmt}{rest:List Stmt}{t u:TS}{e:Expr}{te:TE}{pos:Pos}
def tNext:TS:=fun D σ H=>D.nx σ H
def tSeq (t u:TS):TS:=fun D σ H=>t { D with nx:=u D } σ H
theorem a5v:PSs X [] tNext:=fun _ _ σ H _ I h=>wpAny_execs_nil ⟨σ,H,I,h⟩
theorem a0R (h1:PS X st t)(h2:PSs X rest u):PSs X (st::rest) (tSeq t u):=by
 intro pins s σ H D I h;refine wpAny_execs_cons (thn (h1 pins s σ H { D with nx:=u D } I h) fun f s1 q=>?_);cases f with
 | next =>
   obtain⟨σ',H',I',q⟩:=q;exact h2 pins s1 σ' H' D I' q
 | ret v=>exact q
 | brk=>exact q
 | cont=>exact q
theorem a2Z (h1:PS X st t):PSs X [st] t:=by
 intro pins s σ H D I h;refine wpAny_execs_cons (thn (h1 pins s σ H D I h) fun f s1 q=>?_);cases f with
 | next=>exact wpAny_execs_nil q
 | ret v=>exact q
 | brk=>exact q
 | cont=>exact q
theorem Inv.quiet {pins:List (Addr×Obj)}{σ:St}{H:Hp}{s:Shared}(I:Inv X pins σ H s):interactive X.env=false:=by simp [interactive,I.ok.kind]
def b1x (te:TE):TS:=fun D σ H=>te σ H fun _ H1=>D.nx σ H1
theorem b2b (he:PE X e te)(hs:x3A e none pos.line X.env=pure false:=by rfl):PS X (.Expr e pos) (b1x te):=by
 intro pins s σ H D I h;exact wpAny_Expr_any (thn (he pins s σ H _ I h) fun v s1 ⟨x,H1,I1,r1,q1⟩=>⟨σ,H1,I1,q1⟩) I.quiet hs
def tRet (te:TE):TS:=fun D σ H=>te σ H D.rt
theorem a4K (he:PE X e te):PS X (.Return (some e) pos) (tRet te):=by
 intro pins s σ H D I h;exact wpAny_Return_some (thn (he pins s σ H _ I h) fun v s1 ⟨x,H1,I1,r1,q1⟩=>⟨x,σ,H1,I1,r1,q1⟩)
def tIfS (c:TT)(t u:TS):TS:=fun D σ H=>c σ H fun b H1=>if b=true then t D σ H1 else u D σ H1
theorem b2a {c:Expr}{a b:List Stmt}{tc:TT}(hc:PT X c tc)(ha:PSs X a t)(hb:PSs X b u):PS X (.If c a b pos) (tIfS tc t u):=by
 intro pins s σ H D I h;refine wpAny_If (thn (hc pins s σ H _ I h) fun d s1 ⟨H1,I1,q1⟩=>?_);cases d with
 | true=>exact ha pins s1 σ H1 D I1 q1
 | false=>exact hb pins s1 σ H1 D I1 q1
end
abbrev TG:=V->St->Hp->(St->Hp->Prop)->Prop
abbrev TGs:=List V->St->Hp->(St->Hp->Prop)->Prop
def PG (X:Cx)(target:Expr)(t:TG):Prop:=
 ∀ (pins : List (Addr × Obj)) (s : Shared) (σ : St) (H : Hp) (v : V) (u : Value) (Q : St -> Hp -> Prop), Inv X pins σ H s -> RelV v u -> t v σ H Q ->
   wpAny (model X.prog X.w) X.A (assign target X.env u) (fun _ s'=>∃σ' H',Inv X pins σ' H' s'/\Q σ' H') X.xe s
def PGs (X:Cx)(ts:List Expr)(t:TGs):Prop:=
 ∀ (pins : List (Addr × Obj)) (s : Shared) (σ : St) (H : Hp) (vs : List V) (us : List Value) (Q : St -> Hp -> Prop), Inv X pins σ H s -> Vals vs us -> t vs σ H Q ->
   wpAny (model X.prog X.w) X.A (assignInOrder ((x2w ts X.env).map (·.2)) us) (fun _ s'=>∃σ' H',Inv X pins σ' H' s'/\Q σ' H') X.xe s
abbrev TSet:=V->V->V->Hp->(Hp->Prop)->Prop
def PSet (X:Cx)(t:TSet):Prop:=
 ∀ (pins : List (Addr × Obj)) (s : Shared) (σ : St) (H : Hp) (o i v : V) (ov iv u : Value) (Q : Hp -> Prop), Inv X pins σ H s -> RelV o ov -> RelV i iv -> RelV v u -> t o i v H Q ->
   wpAny (model X.prog X.w) X.A (setItem ov iv u) (fun _ s'=>∃H',Inv X pins σ H' s'/\Q H') X.xe s
abbrev TIp:=V->V->Hp->VK->Prop
def PIp (X:Cx)(op:Operator)(t:TIp):Prop:=
 ∀ (pins : List (Addr × Obj)) (s : Shared) (σ : St) (H : Hp) (x y : V) (v u : Value) (Q : VK), Inv X pins σ H s -> RelV x v -> RelV y u -> t x y H Q ->
   wpAny (model X.prog X.w) X.A (inplaceOp op v u) (EP X pins σ Q) X.xe s
section
variable {X:Cx}{pos:Pos}
def a1I (i:Nat):TG:=fun v σ H Q=>Q (σ.set i (some v)) H
theorem b2n {i:Nat}{x:Str}(hN:X.N.Nodup)(hi:X.N[i]?=some x)(hx:Loc X.env.scope x)(hf:X.fn x=true\/X.env.scope.names.lookup x=some .local:=by first | exact .inl rfl | exact .inr rfl | assumption):PG X (.Name x pos) (a1I i):=by
 intro pins s σ H v u Q I r h;exact wpAny_assign_Name (a2l I hN hi hx r (fun s' I'=>⟨_,H,I',h⟩) hf)
def gNil:TGs:=fun vs σ H Q=>vs=[]/\Q σ H
def gCons (t:TG)(u:TGs):TGs:=fun vs σ H Q=>∃v r,vs=v::r/\t v σ H fun σ' H'=>u r σ' H' Q
theorem b2m:PGs X [] gNil:=by
 intro pins s σ H vs us Q I r h;obtain⟨e,h⟩:=h;subst e;cases r;exact assignInOrder_nil ⟨σ,H,I,h⟩
theorem a9T {e:Expr}{es:List Expr}{t:TG}{u:TGs}(h1:PG X e t)(h2:PGs X es u)
   (hs:(x2w (e::es) X.env).map (·.2)=assign e X.env::(x2w es X.env).map (·.2):=by rfl):PGs X (e::es) (gCons t u):=by
 intro pins s σ H vs us Q I r h;obtain⟨v,vr,e1,h⟩:=h;subst e1;cases r with
 | cons r rr =>
   rw [hs];refine assignInOrder_cons (thn (h1 pins s σ H _ _ _ I r h) fun _ s1 ⟨σ1,H1,I1,q1⟩=>?_);exact h2 pins s1 σ1 H1 _ _ Q I1 rr q1
def gTup (K:x0a)(n:Nat)(t:TGs):TG:=fun v σ H Q=>∃a xs,v=.ref a/\SqT K H a xs/\xs.length=n/\t xs σ H Q
theorem pg_tup {es:List Expr}{k:Nat}{t:TGs}{n:Nat}(hc:X.calm=true)(h:PGs X es t)
   (hn:(x2w es X.env).length=n:=by rfl) (hst:(x2w es X.env).findIdx? (·.1)=none:=by rfl):PG X (.Tuple es k pos) (gTup X.K n t):=by
 intro pins s σ H v u Q I r hw;obtain⟨a,xs,e1,hq,hl,hw⟩:=hw;subst e1;cases r;obtain⟨its,rv,ht,hz⟩:=I.tuple hq;refine assign_Tuple_tuple (I.ok.hd hc) ht (by simp [hn,<- hl,rv.length]) hst fun h' hx=>?_;have I1:Inv X pins σ H { s with heap:=h' }:=I.kept (t':=s.toks) fun b o e=>hx b o (x0u (x0l e)) e;exact h pins _ σ H xs _ Q I1 (by simpa using rv) hw
def gSub (to ti:TE)(t:TSet):TG:=fun v σ H Q=>to σ H fun o H1=>ti σ H1 fun i H2=>t o i v H2 fun H3=>Q σ H3
theorem a8h {o i:Expr}{to ti:TE}{t:TSet}(ho:PE X o to)(hi:PE X i ti)(hs:PSet X t)
   (ha:∀v,assign (.Subscript o i pos) X.env v=(do
     let ov ← holding [v] (eval o X.env)
     let iv ← holding [v,ov] (eval i X.env)
     standAt pos
     holding [v,ov,iv] (setItem ov iv v)
     release [v,ov,iv] []):=by intro _;rfl):PG X (.Subscript o i pos) (gSub to ti t):=by
 intro pins s σ H v u Q I r h;rw [ha];refine x0b (x1m (thn (ho pins s σ H _ I h) fun ov s1 ⟨x,H1,I1,r1,q1⟩=>?_));refine x0b (x1m (thn (hi pins s1 σ H1 _ I1 q1) fun iv s2 ⟨y,H2,I2,r2,q2⟩=>?_));refine x0b (x1M (x0b (x1m (thn (hs pins s2 σ H2 x y v ov iv u _ I2 r1 r2 r q2) fun _ s3 ⟨H3,I3,q3⟩=>?_))));exact wpAny_release ⟨σ,H3,I3,q3⟩
def tAsg (te:TE)(g:TG):TS:=fun D σ H=>te σ H fun x H1=>g x σ H1 D.nx
theorem a6f {tg e:Expr}{te:TE}{g:TG}(he:PE X e te)(hg:PG X tg g)(hs:swapsWithSole [tg] e pos.line X.env=pure false:=by rfl)(hw:swappedStores [tg] e X.env=pure none:=by rfl)
   (h1:(x2w [tg] X.env).map (·.2)=[assign tg X.env]:=by rfl):PS X (.Assign [tg] e pos) (tAsg te g):=by
 intro pins s σ H D I h;refine wpAny_Assign_stores (thn (he pins s σ H _ I h) fun v s1 ⟨x,H1,I1,r1,q1⟩=>?_) hs hw;rw [h1];exact thn (hg pins s1 σ H1 x v _ I1 r1 q1) fun _ s2 q=>q
theorem a3a {i:Nat}{x:Str}{e:Expr}{te:TE}{pos':Pos}(hN:X.N.Nodup)(hi:X.N[i]?=some x)(hx:Loc X.env.scope x)(he:PE X e te)(hs:x3A e (some (.Name x pos')) pos.line X.env=pure false:=by rfl)(hf:X.fn x=true\/X.env.scope.names.lookup x=some .local:=by first | exact .inl rfl | exact .inr rfl | assumption) :
   PS X (.Assign [.Name x pos'] e pos) (tAsg te (a1I i)):=by
 intro pins s σ H D I h;refine wpAny_Assign_Name (thn (he pins s σ H _ I h) fun v s1 ⟨y,H1,I1,r1,q1⟩=>?_) hs;exact a2l I1 hN hi hx r1 (fun s2 I2=>⟨_,H1,I2,q1⟩) hf
def tPar (i j:Nat)(ta:TA):TS:=fun D σ H=>ta σ H fun vs H1=>∃v w,vs=[v,w]/\D.nx ((σ.set i (some v)).set j (some w)) H1
theorem ps_par {i j:Nat}{x y:Str}{a b:Expr}{ta:TA}{px py pt:Pos}{kt k2 pt2}(hc:X.calm=true)(hN:X.N.Nodup)(hi:X.N[i]?=some x)(hj:X.N[j]?=some y)(hij:i≠j)
   (hx:X.env.scope.names.lookup x=some .local) (hy:X.env.scope.names.lookup y=some .local) (ha:PA X [a,b] ta)
   (hw:swappedStores [.Tuple [.Name x px,.Name y py] kt pt] (.Tuple [a,b] k2 pt2) X.env=pure (some [x,y]))
   (hs:swapsWithSole [.Tuple [.Name x px,.Name y py] kt pt] (.Tuple [a,b] k2 pt2) pos.line X.env=pure false:=by rfl) :
   PS X (.Assign [.Tuple [.Name x px,.Name y py] kt pt] (.Tuple [a,b] k2 pt2) pos) (tPar i j ta):=by
 intro pins s σ H D I h;rw [exec_Assign_arm];refine x0b (x1M ?_);rw [hs];refine x0b (x0e ?_);rw [if_neg (by decide)];refine x0b (Tuple_ (thn (ha _ pins s σ H _ I h) fun us s1 ⟨vs,H1,I1,r1,q1⟩=>?_));obtain⟨v,w,e1,q1⟩:=q1;subst e1
 obtain⟨u1,u2,rfl,rv,rw'⟩:∃u1 u2,us=[u1,u2]/\RelV v u1/\RelV w u2:=by
   cases r1 with
   | cons p q =>
     cases q with
     | cons p' q' =>
       cases q';exact⟨_,_,rfl,p,p'⟩
 refine x0F ?_ (by show 2<=x0v;decide);have I2:Inv X pins σ H1 { s1 with heap:=s1.heap.push { cls:=.type "tuple",data:=.seq [u1,u2].toArray } }:=I1.kept (t':=s1.toks) fun b o e=>x0c _ e;rw [hw];refine x0b (x0e ?_);show wpAny (model X.prog X.w) X.A (do rule "assign.swapped-stores";let items ← unpackItems (.ref s1.heap.objs.size) 2 none;assignInOrder [fun v=>bindName X.env y v,fun v=>bindName X.env x v] items.reverse;pure Flow.next) _ _ _;refine x0b (x2x (x0b (unpackItems_tuple (items:=#[u1,u2]) (I.ok.hd hc) (IsTup.new s1.heap _) fun h' hx'=>?_)));have I3:=I2.kept (h':=h') (t':=s1.toks) fun b o e=>hx' b o (x0u (x0l e)) e;show wpAny _ _ (assignInOrder [fun v=>bindName X.env y v,fun v=>bindName X.env x v] [u2,u1]>>=fun _=>pure Flow.next) _ _ _;refine x0b (assignInOrder_cons (wpAny_bindName (a2l I3 hN hj (.inl hy) rw' (fun s2 I4=>?_) (.inr hy))));refine assignInOrder_cons (wpAny_bindName (a2l I4 hN hi (.inl hx) rv (fun s3 I5=>assignInOrder_nil (x0e ?_)) (.inr hx)));rw [List.set_comm _ _ (Ne.symm hij)] at I5;exact⟨_,H1,I5,q1⟩
def tAug (i:Nat)(te:TE)(ti:TIp):TS:=fun D σ H=>∃x,σ[i]?=some (some x)/\te σ H fun y H1=>ti x y H1 fun z H2=>D.nx (σ.set i (some z)) H2
theorem ps_aug {i:Nat}{x:Str}{e:Expr}{te:TE}{op:Operator}{ti:TIp}{pos':Pos}(hN:X.N.Nodup)(hi:X.N[i]?=some x)(hx:Loc X.env.scope x)(he:PE X e te)(ho:PIp X op ti)(hf:X.fn x=true\/X.env.scope.names.lookup x=some .local:=by first | exact .inl rfl | exact .inr rfl | assumption) :
   PS X (.AugAssign (.Name x pos') op e pos) (tAug i te ti):=by
 intro pins s σ H D I h;obtain⟨v,e1,h⟩:=h;obtain⟨m,hn,hl⟩:=I.loc;have vis:Vis X.env.scope x:=by rcases hx with k | k;exact .inl k;exact .inr (.inl k)
 obtain⟨u,r,l⟩:=hl i x v hi e1 vis;refine wpAny_AugAssign_Name ?_
 have go:wpAny (model X.prog X.w) X.A (eval e X.env) (fun w s₂=>wpAny (model X.prog X.w) X.A (inplaceOp op u w) (fun r s₃=>wpAny (model X.prog X.w) X.A (storeName X.env x r) (fun _=>SP X pins D .next) X.xe s₃) X.xe s₂) X.xe s:=by
   refine thn (he pins s σ H _ I h) fun w s1 ⟨y,H1,I1,r1,q1⟩=>?_;refine thn (ho pins s1 σ H1 v y u w _ I1 r r1 q1) fun z s2 ⟨zv,H2,I2,r2,q2⟩=>?_;exact a2l I2 hN hi hx r2 (fun s3 I3=>⟨_,H2,I3,q2⟩) hf
 rcases l with⟨hk,hm⟩ | ⟨hk,c,hc,hcell⟩
 · exact wpAny_loadName_local I.ok.kind hk hn hm go
 · rcases hk with hk | hk
   · exact wpAny_loadName_cell I.ok.kind hk hc hcell go
   · rcases hx with k | k
     · have:X.env.scope.names.lookup x=some .free:=hk;rw [k] at this;cases this
     · have:X.env.scope.names.lookup x=some .free:=hk;rw [k] at this;cases this
end
structure It where
 go:Nat->Hp->Prop
 yld:Nat->Hp->V->Hp->Prop
 stop:Nat->Hp->Prop
def FpOk (X:Cx)(pins:List (Addr×Obj))(H:Hp)(b:Addr):Prop:=
 H b=none/\b≠X.env.locals/\b∉X.fs/\(b∈X.ex\/X.s₀.heap.objs.size<=b)/\(∀x c,X.env.cells.lookup x=some c->c≠b)/\∀p∈X.pn++pins,p.1≠b
theorem Inv.fpOk {X:Cx}{pins:List (Addr×Obj)}{σ:St}{H H':Hp}{s:Shared}{b:Addr}(I:Inv X pins σ H s)(hb:s.heap.objs.size<=b)(hn:H' b=none):FpOk X pins H' b:=by
 refine⟨hn,x2Q (x0y I.lt hb),I.nofs hb,.inr (x1j I.sz hb),fun x c e z=>?_,fun p hp z=>?_⟩
 · obtain⟨v,q⟩:=I.cell x c e;exact absurd (x0y q.lt (by rw [z];exact hb)) (x2c _)
 · exact absurd (x0y (x0l (I.pin p hp).1) (by rw [z];exact hb)) (x2c _)
structure Turn (P:x0A)(w:World)(K:x0a)(tg:Expr)(J:It)(fp:List Addr)(it:Addr)(tn:Nat->Heap->Prop):Prop where
 mem:it∈fp
 obj:∀i h,tn i h->∀b∈fp,∃o,h.get? b=some o/\∀v,o.data≠.cell v
 keep:∀i h h',tn i h->(∀b∈fp,∀o,h.get? b=some o->h'.get? b=some o)->tn i h'
 item:∀(X:Cx),X.prog=P->X.w=w->X.K=K->X.calm=true->∀(i:Nat) (pins:List (Addr×Obj)) (s:Shared) (σ:St) (H:Hp) (E:Value->Shared->Prop),Inv X pins σ H s->(∀b∈fp,FpOk X pins H b)->tn i s.heap->J.go i H->
   wpAny (model P w) X.A (pyNext (.ref it)) (fun r s1=>∃u,r=some u/\
     wpAny (model P w) X.A (x1I tg (.ref it) u) (fun _ s2=>∃x H',Inv X pins σ H' s2/\RelV x u/\J.yld i H x H'/\tn (i + 1) s2.heap/\∀b∈fp,H' b=none) E s1) E s
 done:∀(X:Cx),X.prog=P->X.w=w->X.K=K->X.calm=true->∀(i:Nat) (pins:List (Addr×Obj)) (s:Shared) (σ:St) (H:Hp) (E:Value->Shared->Prop),Inv X pins σ H s->(∀b∈fp,FpOk X pins H b)->tn i s.heap->J.stop i H->
   wpAny (model P w) X.A (pyNext (.ref it)) (fun r s1=>r=none/\Inv X pins σ H s1) E s
 self:∀(A:Around) (i:Nat) (s:Shared) (Q:Value->Shared->Prop) (E:Value->Shared->Prop),tn i s.heap->Q (.ref it) s->wpAny (model P w) A (pyIter (.ref it)) Q E s
abbrev TI:=St->Hp->(It->Hp->Prop)->Prop
def PIE (X:Cx)(pins:List (Addr×Obj))(σ:St)(tg:Expr)(R:It->Hp->Prop)(itv:Value)(s2:Shared):Prop:=
 ∃(it:Addr) (fp:List Addr) (tn:Nat->Heap->Prop) (J:It) (H':Hp),itv=.ref it/\Inv X pins σ H' s2/\Turn X.prog X.w X.K tg J fp it tn/\tn 0 s2.heap/\(∀b∈fp,FpOk X pins H' b)/\R J H'
def PI (X:Cx)(tg iter:Expr)(wi:TI):Prop:=
 ∀ (pins : List (Addr × Obj)) (s : Shared) (σ : St) (H : Hp) (R : It -> Hp -> Prop), Inv X pins σ H s -> wi σ H R ->
   wpAny (model X.prog X.w) X.A (eval iter X.env) (fun v s1=>wpAny (model X.prog X.w) X.A (pyIter v) (PIE X pins σ tg R) X.xe s1) X.xe s
theorem a8J {M:Model}{A:Around}{E:Value->Shared->Prop}{s:Shared}{tg:Expr}{it:Addr}{u:Value}{o:Obj}{n:String}{vs:Array Value}{Q:Unit->Shared->Prop}(ho:s.heap.get? it=some o)(hc:o.cls=.type n)(hd:o.data=.fields vs)
   (hn:["enumerate","zip","dict_itemiterator","dict_reverseitemiterator","odict_iterator","itertools.zip_longest","itertools.pairwise"].contains n=false) (hQ:Q () s):wpAny M A (x1I tg (.ref it) u) Q E s:=by
 unfold x1I
 cases tg <;> first
   | exact x0e hQ
   | (cases u <;> first
       | exact x0e hQ
       | (refine x0b (wpAny_load ho ?_)
          rw [hc,hd];show wpAny M A (if(["enumerate","zip","dict_itemiterator","dict_reverseitemiterator","odict_iterator","itertools.zip_longest","itertools.pairwise"].contains n && vs[0]? == some (rawInt _))=true then _ else _) Q E s;rw [if_neg (by intro h;rw [hn,x3v] at h;cases h)]
          exact x0e hQ))
def Itl (K:x0a)(a:Addr):It:=
 ⟨fun i H=>∃xs x,SqL K H a xs/\xs[i]?=some x,fun i H x H'=>H'=H/\∀xs,SqL K H a xs->xs[i]?=some x,fun i H=>∃xs,SqL K H a xs/\xs.length<=i⟩
def Itt (K:x0a)(a:Addr):It:=
 ⟨fun i H=>∃xs x,SqT K H a xs/\xs[i]?=some x,fun i H x H'=>H'=H/\∀xs,SqT K H a xs->xs[i]?=some x,fun i H=>∃xs,SqT K H a xs/\xs.length<=i⟩
def Itr (lo:Int)(n:Nat):It:=⟨fun i _=>i < n,fun i H x H'=>H'=H/\x=.int (lo + i),fun i _=>n<=i⟩
theorem a7x {P:x0A}{w:World}{K:x0a}{tg:Expr}(a it:Addr):Turn P w K tg (Itl K a) [it] it (fun i h=>h.IsListIter it a i) where
 mem:=by simp
 obj:=fun i h st b hb=>by
   have e:b=it:=by simpa using hb
   subst e;obtain⟨o,e,c,d⟩:=st;exact⟨o,e,fun v z=>by rw [d] at z;cases z⟩
 keep:=fun i h h' st k=>st.at fun o e=>k it (by simp) o e
 item:=by
   intro X hP hw hK hc i pins s σ H E I hf st hg;subst hP hw hK;obtain⟨xs,x,hq,hx⟩:=hg;obtain⟨its,rv,p,hz⟩:=I.list hq;obtain⟨u,hu,ru⟩:=rv.get hx;obtain⟨f0,f1,f2,f3,f4,f5⟩:=hf it (by simp);refine wpAny_pyNext_list_item st p.isList (x:=u) (by simpa using hu) fun h' st' sb=>?_;have I1:Inv X pins σ H { s with heap:=h' }:=I.turned (t':=s.toks) (fun b o hb e=>(sb.2 b hb).trans e) f0 f1 f3 f4 f5;obtain⟨o,e,c,d⟩:=id st';exact⟨u,rfl,a8J (s:={ s with heap:=h' }) e c d (by decide) ⟨x,H,I1,ru,⟨rfl,fun ys hy=>by rw [I.list_inj hy hq];exact hx⟩,st',fun b hb=>(hf b hb).1⟩⟩
 done:=by
   intro X hP hw hK hc i pins s σ H E I hf st hg;subst hP hw hK;obtain⟨xs,hq,hx⟩:=hg;obtain⟨its,rv,p,hz⟩:=I.list hq;obtain⟨f0,f1,f2,f3,f4,f5⟩:=hf it (by simp);have hl:=rv.length;exact wpAny_pyNext_list_end (I.ok.hd hc) st p.isList (by simp;omega) fun h' eb=>⟨rfl,I.turned (t':=s.toks) (fun b o hb e=>eb b o hb e) f0 f1 f3 f4 f5⟩
 self:=fun _ _ _ _ _ st h=>wpAny_pyIter_listiter st h
theorem a6I {P:x0A}{w:World}{K:x0a}{tg:Expr}(a it:Addr):Turn P w K tg (Itt K a) [it] it (fun i h=>h.IsTupleIter it a i) where
 mem:=by simp
 obj:=fun i h st b hb=>by
   have e:b=it:=by simpa using hb
   subst e;obtain⟨o,e,c,d⟩:=st;exact⟨o,e,fun v z=>by rw [d] at z;cases z⟩
 keep:=fun i h h' st k=>st.at fun o e=>k it (by simp) o e
 item:=by
   intro X hP hw hK hc i pins s σ H E I hf st hg;subst hP hw hK;obtain⟨xs,x,hq,hx⟩:=hg;obtain⟨its,rv,p,hz⟩:=I.tuple hq;obtain⟨u,hu,ru⟩:=rv.get hx;obtain⟨f0,f1,f2,f3,f4,f5⟩:=hf it (by simp);refine wpAny_pyNext_tuple_item st (show s.heap.IsTuple a its.toArray from p) (x:=u) (by simpa using hu) fun h' st' sb=>?_;have I1:Inv X pins σ H { s with heap:=h' }:=I.turned (t':=s.toks) (fun b o hb e=>(sb.2 b hb).trans e) f0 f1 f3 f4 f5;obtain⟨o,e,c,d⟩:=id st';exact⟨u,rfl,a8J (s:={ s with heap:=h' }) e c d (by decide) ⟨x,H,I1,ru,⟨rfl,fun ys hy=>by rw [I.tuple_inj hy hq];exact hx⟩,st',fun b hb=>(hf b hb).1⟩⟩
 done:=by
   intro X hP hw hK hc i pins s σ H E I hf st hg;subst hP hw hK;obtain⟨xs,hq,hx⟩:=hg;obtain⟨its,rv,p,hz⟩:=I.tuple hq;obtain⟨f0,f1,f2,f3,f4,f5⟩:=hf it (by simp);have hl:=rv.length;exact wpAny_pyNext_tuple_end (I.ok.hd hc) st (show s.heap.IsTuple a its.toArray from p) (by simp;omega) fun h' eb=>⟨rfl,I.turned (t':=s.toks) (fun b o hb e=>eb b o hb e) f0 f1 f3 f4 f5⟩
 self:=fun _ _ _ _ _ st h=>wpAny_pyIter_tupleiter st h
theorem a6J {P:x0A}{w:World}{K:x0a}{tg:Expr}(it:Addr)(lo:Int)(n:Nat):Turn P w K tg (Itr lo n) [it] it (fun i h=>IsRangeIter h it (lo + (i:Nat) * 1) ((n:Int) - (i:Nat)) 1) where
 mem:=by simp
 obj:=fun i h st b hb=>by
   have e:b=it:=by simpa using hb
   subst e
   exact⟨_,st,fun v z=>by
     have z':Data.fields _=Data.cell v:=z
     cases z'⟩
 keep:=fun i h h' st k=>k it (by simp) _ st
 item:=by
   intro X hP hw hK hc i pins s σ H E I hf st hg;subst hP hw hK;obtain⟨f0,f1,f2,f3,f4,f5⟩:=hf it (by simp);have W:=Walks.range (prog:=X.prog) (w:=X.w) (I.ok.hd hc) it lo 1 n;refine W.item i s _ _ hg st fun v h' tk hv st' kk=>?_;obtain⟨t,rfl⟩:=hv;have I1:Inv X pins σ H { s with heap:=h',toks:=tk }:=I.turned (fun b o hb e=>kk b o (by simpa using hb) e) f0 f1 f3 f4 f5;refine⟨_,rfl,a8J (s:={ s with heap:=h',toks:=tk }) (n:="range_iterator") st' rfl rfl (by decide) ⟨.int (lo + i),H,I1,⟨t,?_⟩,⟨rfl,rfl⟩,st',fun b hb=>(hf b hb).1⟩⟩;rw [Int.mul_one]
 done:=by
   intro X hP hw hK hc i pins s σ H E I hf st hg;subst hP hw hK;obtain⟨f0,f1,f2,f3,f4,f5⟩:=hf it (by simp);exact wpAny_pyNext_range_end (I.ok.hd hc) st (by have:n<=i:=hg;omega) fun h' eb=>⟨rfl,I.turned (t':=s.toks) (fun b o hb e=>eb b o hb e) f0 f1 f3 f4 f5⟩
 self:=fun _ _ _ _ _ st h=>wpAny_pyIter_rangeiter st h
section
variable {X:Cx}{tg:Expr}
variable {fp:List Addr}
def iList (K:x0a)(tl:TE):TI:=fun σ H R=>tl σ H fun x H1=>∃a,x=.ref a/\(∃xs,SqL K H1 a xs)/\R (Itl K a) H1
def iTup (K:x0a)(tl:TE):TI:=fun σ H R=>tl σ H fun x H1=>∃a,x=.ref a/\(∃xs,SqT K H1 a xs)/\R (Itt K a) H1
theorem b2j {l:Expr}{tl:TE}(hl:PE X l tl):PI X tg l (iList X.K tl):=by
 intro pins s σ H R I h;refine thn (hl pins s σ H _ I h) fun v s1 ⟨x,H1,I1,r1,q1⟩=>?_;obtain⟨a,e,⟨xs,hq⟩,q⟩:=q1;subst e;cases r1;obtain⟨its,rv,p,hz⟩:=I1.list hq;refine x3o p.isList ?_;refine⟨s1.heap.objs.size,[s1.heap.objs.size],_,_,H1,rfl,I1.kept (t':=s1.toks) fun b o e=>x0c _ e,a7x a _,⟨_,x0p _ rfl,rfl,rfl⟩,fun b hb=>?_,q⟩;have e:b=s1.heap.objs.size:=by simpa using hb
 subst e;exact I1.fpOk (x0m _) (I1.hok.fresh (x0m _))
theorem pi_tup {l:Expr}{tl:TE}(hl:PE X l tl):PI X tg l (iTup X.K tl):=by
 intro pins s σ H R I h;refine thn (hl pins s σ H _ I h) fun v s1 ⟨x,H1,I1,r1,q1⟩=>?_;obtain⟨a,e,⟨xs,hq⟩,q⟩:=q1;subst e;cases r1;obtain⟨its,rv,p,hz⟩:=I1.tuple hq;refine x2A (show s1.heap.IsTuple a its.toArray from p) ?_;refine⟨s1.heap.objs.size,[s1.heap.objs.size],_,_,H1,rfl,I1.kept (t':=s1.toks) fun b o e=>x0c _ e,a6I a _,⟨_,x0p _ rfl,rfl,rfl⟩,fun b hb=>?_,q⟩;have e:b=s1.heap.objs.size:=by simpa using hb
 subst e;exact I1.fpOk (x0m _) (I1.hok.fresh (x0m _))
theorem a9x {pins:List (Addr×Obj)}{σ:St}{H:Hp}{s:Shared}{R:It->Hp->Prop}{E:Value->Shared->Prop}{lo hi:Int}{t u v:Tok}{tk:Nat}(I:Inv X pins σ H s)(h1:-(2 ^ 62)<=lo)(h2:lo < 2 ^ 62)(h3:-(2 ^ 62)<=hi)(h4:hi < 2 ^ 62)
   (q:R (Itr lo (hi - lo).toNat) H):wpAny (model X.prog X.w) X.A (pyIter (.ref s.heap.objs.size)) (PIE X pins σ tg R) E { s with heap:=s.heap.push { cls:=.type "range",data:=.fields #[.int lo t,.int hi u,.int 1 v] },toks:=tk }:=by
 refine wpAny_pyIter_range (IsRange.new ..) (small_one h1 h2 h3 h4) ?_;have I1:Inv X pins σ H { s with heap:=s.heap.push { cls:=.type "range",data:=.fields #[.int lo t,.int hi u,.int 1 v] },toks:=tk }:=I.kept fun b o e=>x0c _ e
 refine⟨(s.heap.push { cls:=.type "range",data:=.fields #[.int lo t,.int hi u,.int 1 v] }).objs.size,[(s.heap.push { cls:=.type "range",data:=.fields #[.int lo t,.int hi u,.int 1 v] }).objs.size],_,_,H,rfl,
   I1.kept (t':=tk) fun b o e=>x0c _ e,a6J _ lo (hi - lo).toNat,?_,fun b hb=>?_,q⟩
 · have e1:lo + ((0:Nat):Int) * 1=lo:=by simp
   have e2:(((hi - lo).toNat:Nat):Int) - ((0:Nat):Int)=x2q lo hi 1:=by rw [rangeSize_one];split <;> omega
   show IsRangeIter _ _ (lo + ((0:Nat):Int) * 1) ((((hi - lo).toNat:Nat):Int) - ((0:Nat):Int)) 1;rw [e1,e2];exact x0p _ rfl
 · have e:b=(s.heap.push { cls:=.type "range",data:=.fields #[.int lo t,.int hi u,.int 1 v] }).objs.size:=by simpa using hb
   subst e;exact I1.fpOk (x0m _) (I1.hok.fresh (x0m _))
def iRng1 (ta:TA):TI:=fun σ H R=>ta σ H fun vs H1=>∃j:Int,vs=[.int j]/\-(2 ^ 62)<=j/\j < 2 ^ 62/\R (Itr 0 j.toNat) H1
theorem a8g {a:Expr}{ta:TA}{p pos:Pos}(hg:Gl X "range")(hm:X.mg "range"=none)(ha:PA X [a] ta)(hs:x0T [a] X.env=[(false,eval a X.env)]:=by rfl):PI X tg (.Call (.Name "range" p) [a] [] pos) (iRng1 ta):=by
 intro pins s σ H R I h;refine Call_ (a2r I hg hm boot_range (x0Y (thn (ha pos pins s σ H _ I h) fun us s1 ⟨vs,H1,I1,r1,q1⟩=>?_) hs rfl));obtain⟨j,e,q1,q2,q⟩:=q1;subst e;cases r1 with
 | cons r rr =>
   cases rr;obtain⟨t,rfl⟩:=r;exact call_range_1 (a9x I1 (by omega) (by omega) q1 q2 (by simpa using q))
def tFor (wi:TI)(g:TG)(tb:TS):TS:=fun D σ H=>wi σ H fun J H1=>∃W:Nat->Nat->St->Hp->Prop,(∃m,W 0 m σ H1)/\∀i m σ H,W i m σ H->
 (J.stop i H/\D.nx σ H)\/(J.go i H/\∃N:St->Hp->Prop,(∀σ' H',N σ' H'->∃m',m' < m/\W (i + 1) m' σ' H')/\∀x H',J.yld i H x H'->g x σ H' fun σ2 H2=>tb { D with nx:=N,ct:=N,bk:=D.nx } σ2 H2)
def a2L (fp:List Addr)(h:Heap):List (Addr×Obj):=fp.filterMap fun b=>(h.get? b).map fun o=>(b,o)
theorem a1Y {h:Heap}{b:Addr}{o:Obj}(hb:b∈fp)(e:h.get? b=some o):(b,o)∈a2L fp h:=List.mem_filterMap.mpr ⟨b,hb,by rw [e];rfl⟩
theorem a8p {h:Heap}{p:Addr×Obj}(hp:p∈a2L fp h):p.1∈fp/\h.get? p.1=some p.2:=by
 obtain⟨b,hb,e⟩:=List.mem_filterMap.mp hp;cases q:h.get? b with
 | none=>rw [q] at e;cases e
 | some o =>
   rw [q] at e;have e':(b,o)=p:=x0C e;subst e';exact⟨hb,q⟩
theorem Inv.pinned {pins:List (Addr×Obj)}{σ:St}{H:Hp}{s:Shared}(I:Inv X pins σ H s)(hf:∀b∈fp,FpOk X pins H b)(ho:∀b∈fp,∃o,s.heap.get? b=some o/\∀v,o.data≠.cell v):Inv X (pins++a2L fp s.heap) σ H s:=
 I.pins_of fun p hp=>(x1g.mp hp).elim (fun z=>I.pin p (x0M _ z)) fun z=>by
   obtain⟨hb,e⟩:=a8p z;obtain⟨f0,f1,f2,_⟩:=hf p.1 hb;obtain⟨o,e',d⟩:=ho p.1 hb;rw [e] at e';cases e';exact⟨e,f0,f1,f2,d⟩
theorem Inv.unpinned {pins pl:List (Addr×Obj)}{σ:St}{H:Hp}{s:Shared}(I:Inv X (pins++pl) σ H s):Inv X pins σ H s:=I.pins_of fun p hp=>I.pin p (x0M _ (x2I _ hp))
theorem b0S {iter:Expr}{body:List Stmt}{wi:TI}{g:TG}{tb:TS}{pos:Pos}(hp:PassesOwn (model X.prog X.w) X.A X.env X.xe)(hc:X.calm=true)(hi:PI X tg iter wi)(hg:PG X tg g)(hb:PSs X body tb)
   (hs:∀x,x0O iter X.env x=pure x:=by intro _;rfl):PS X (.For tg iter body [] pos) (tFor wi g tb):=by
 intro pins s σ H D I h;refine wpAny_For (thn (hi pins s σ H _ I h) fun v s1 h1=>thn h1 fun itv s2 h2=>?_) hs;obtain⟨it,fp,tn,J,H2,e,I2,T,st2,f2,W,⟨m0,w0⟩,turn⟩:=h2;subst e
 -- what stays true of the iterator's objects through the loop
 have stat:∀{H':Hp},(∀b∈fp,H' b=none)->∀b∈fp,FpOk X pins H' b:=fun hn b hb=>⟨hn b hb,(f2 b hb).2⟩;refine codeAny_forLoop_any (fun n s'=>∃i σ' H',Inv X pins σ' H' s'/\tn i s'.heap/\(∀b∈fp,H' b=none)/\W i n σ' H') ?_ m0 ⟨0,σ,H2,I2,st2,fun b hb=>(f2 b hb).1,w0⟩;rintro n s3 ⟨i,σ3,H3,I3,st3,fr3,w3⟩;rcases turn i n σ3 H3 w3 with⟨stop,qn⟩ | ⟨go,N,hN,step⟩
 · refine x2Y hp (thn (T.done X rfl rfl rfl hc i pins s3 σ3 H3 X.xe I3 (stat fr3) st3 stop) fun r s4 ⟨hr,I4⟩=>?_);subst hr;exact wpAny_execs_nil ⟨σ3,H3,I4,qn⟩
 · refine x2Y hp (thn (T.item X rfl rfl rfl hc i pins s3 σ3 H3 X.xe I3 (stat fr3) st3 go) fun r s4 ⟨u,hr,h4⟩=>?_);subst hr;refine x2Y hp (thn h4 fun _ s5 ⟨x,H5,I5,r5,y5,st5,fr5⟩=>?_);have I5':=I5.pinned (stat fr5) (T.obj _ _ st5);refine x2Y hp (thn (hg _ s5 σ3 H5 x u _ I5' r5 (step x H5 y5)) fun _ s6 ⟨σ6,H6,I6,q6⟩=>?_);refine x2Y hp (thn (hb _ s6 σ6 H6 _ I6 q6) fun f s7 q7=>?_)
   have again:∀{σ7:St} {H7:Hp},Inv X (pins++a2L fp s5.heap) σ7 H7 s7->N σ7 H7->∃m,m < n/\∃i σ' H',Inv X pins σ' H' s7/\tn i s7.heap/\(∀b∈fp,H' b=none)/\W i m σ' H':=fun {σ7 H7} I7 n7=>by
     obtain⟨m',hm,w7⟩:=hN σ7 H7 n7;refine⟨m',hm,i + 1,σ7,H7,I7.unpinned,T.keep _ _ _ st5 fun b hb o e=>(I7.pin (b,o) (x0M _ (x0M _ (a1Y hb e)))).1,fun b hb=>?_,w7⟩;obtain⟨o,e,d⟩:=T.obj _ _ st5 b hb;exact(I7.pin (b,o) (x0M _ (x0M _ (a1Y hb e)))).2.1
   cases f with
   | next=>obtain⟨σ7,H7,I7,n7⟩:=q7;exact again I7 n7
   | cont=>obtain⟨σ7,H7,I7,n7⟩:=q7;exact again I7 n7
   | brk=>obtain⟨σ7,H7,I7,q7⟩:=q7;exact⟨σ7,H7,I7.unpinned,q7⟩
   | ret v=>obtain⟨x7,σ7,H7,I7,r7,q7⟩:=q7;exact⟨x7,σ7,H7,I7.unpinned,r7,q7⟩
end
abbrev R2:=V->V->Hp->VK->Prop
def OpR (X:Cx)(f:Value->Value->Sem Value)(r:R2):Prop:=
 ∀ (pins : List (Addr × Obj)) (s : Shared) (σ : St) (H : Hp) (x y : V) (v u : Value) (Q : VK), Inv X pins σ H s -> RelV x v -> RelV y u -> r x y H Q ->
   wpAny (model X.prog X.w) X.A (f v u) (EP X pins σ Q) X.xe s
def UnR (X:Cx)(f:Value->Sem Value)(r:V->Hp->VK->Prop):Prop:=
 ∀ (pins : List (Addr × Obj)) (s : Shared) (σ : St) (H : Hp) (x : V) (v : Value) (Q : VK), Inv X pins σ H s -> RelV x v -> r x H Q ->
   wpAny (model X.prog X.w) X.A (f v) (EP X pins σ Q) X.xe s
def a1J (X:Cx)(f:Value)(r:List V->Hp->VK->Prop):Prop:=
 ∀ (pins : List (Addr × Obj)) (s : Shared) (σ : St) (H : Hp) (xs : List V) (us : List Value) (Q : VK), Inv X pins σ H s -> Vals xs us -> r xs H Q ->
   wpAny (model X.prog X.w) X.A (call f us) (EP X pins σ Q) X.xe s
def tOp (r:R2)(ta tb:TE):TE:=fun σ H Q=>ta σ H fun x H1=>tb σ H1 fun y H2=>r x y H2 Q
def tUn (r:V->Hp->VK->Prop)(ta:TE):TE:=fun σ H Q=>ta σ H fun x H1=>r x H1 Q
def rI (C:Int->Int->Prop)(g:Int->Int->V):R2:=fun x y H Q=>∃i j,x=.int i/\y=.int j/\C i j/\Q (g i j) H
def rI0 (g:Int->Int->V):R2:=fun x y H Q=>∃i j,x=.int i/\y=.int j/\Q (g i j) H
def rU (g:Int->V):V->Hp->VK->Prop:=fun x H Q=>∃i,x=.int i/\Q (g i) H
section
variable {X:Cx}{a b c:Expr}{ta tb tc:TE}{pos:Pos}
theorem binT (ha:PE X a ta)(hb:PE X b tb){pins:List (Addr×Obj)}{s:Shared}{σ:St}{H:Hp}{R:V->V->Hp->Prop}(I:Inv X pins σ H s)
   (h:ta σ H fun x H1=>tb σ H1 fun y H2=>R x y H2) {Q:Value->Shared->Prop} {f:Value->Value->Sem Value}
   (hf:∀v u s2 x y H2,Inv X pins σ H2 s2->RelV x v->RelV y u->R x y H2->wpAny (model X.prog X.w) X.A (f v u) Q X.xe s2) :
   wpAny (model X.prog X.w) X.A (eval a X.env) (fun v s₁=>wpAny (model X.prog X.w) X.A (eval b X.env) (fun u s₂=>wpAny (model X.prog X.w) X.A (f v u) Q X.xe s₂) X.xe s₁) X.xe s:=by
 refine thn (ha pins s σ H _ I h) fun v s1 ⟨x,H1,I1,r1,q1⟩=>?_;refine thn (hb pins s1 σ H1 _ I1 q1) fun u s2 ⟨y,H2,I2,r2,q2⟩=>?_;exact hf v u s2 x y H2 I2 r1 r2 q2
theorem a0Y {op:Operator}{r:R2}(ho:OpR X (x2G op) r)(ha:PE X a ta)(hb:PE X b tb):PE X (.BinOp a op b pos) (tOp r ta tb):=by
 intro pins s σ H Q I h;exact wpAny_BinOp (binT ha hb I h fun v u s2 x y H2 I2 rx ry q=>ho pins s2 σ H2 x y v u Q I2 rx ry q)
theorem b2p {op:UnaryOp}{r:V->Hp->VK->Prop}(ho:UnR X (unaryOp op) r)(ha:PE X a ta):PE X (.UnaryOp op a pos) (tUn r ta):=by
 intro pins s σ H Q I h;exact UnaryOp_ (thn (ha pins s σ H _ I h) fun v s1 ⟨x,H1,I1,r1,q1⟩=>ho pins s1 σ H1 x v Q I1 r1 q1)
theorem opI {f:Value->Value->Sem Value}{C:Int->Int->Prop}{g:Int->Int->Int}
   (rule:∀(i j:Int) (t u:Tok) (s:Shared) (Q:Value->Shared->Prop) (E:Value->Shared->Prop),C i j->Q (.int (g i j) s.toks) { s with toks:=s.toks + 1 }->wpAny (model X.prog X.w) X.A (f (.int i t) (.int j u)) Q E s) :
   OpR X f (rI C fun i j=>.int (g i j)):=by
 intro pins s σ H x y v u Q I rx ry h;obtain⟨i,j,rfl,rfl,hc,q⟩:=h;obtain⟨t,rfl⟩:=rx;obtain⟨t',rfl⟩:=ry;exact rule i j t t' s _ _ hc ⟨.int (g i j),H,I.tok _,⟨_,rfl⟩,q⟩
theorem opI0 {f:Value->Value->Sem Value}{g:Int->Int->Int}
   (rule:∀(i j:Int) (t u:Tok) (s:Shared) (Q:Value->Shared->Prop) (E:Value->Shared->Prop),Q (.int (g i j) s.toks) { s with toks:=s.toks + 1 }->wpAny (model X.prog X.w) X.A (f (.int i t) (.int j u)) Q E s) :
   OpR X f (rI0 fun i j=>.int (g i j)):=by
 intro pins s σ H x y v u Q I rx ry h;obtain⟨i,j,rfl,rfl,q⟩:=h;obtain⟨t,rfl⟩:=rx;obtain⟨t',rfl⟩:=ry;exact rule i j t t' s _ _ ⟨.int (g i j),H,I.tok _,⟨_,rfl⟩,q⟩
theorem opB0 {f:Value->Value->Sem Value}{g:Int->Int->Bool}
   (rule:∀(i j:Int) (t u:Tok) (s:Shared) (Q:Value->Shared->Prop) (E:Value->Shared->Prop),Q (.bool (g i j)) s->wpAny (model X.prog X.w) X.A (f (.int i t) (.int j u)) Q E s) :
   OpR X f (rI0 fun i j=>.bl (g i j)):=by
 intro pins s σ H x y v u Q I rx ry h;obtain⟨i,j,rfl,rfl,q⟩:=h;obtain⟨t,rfl⟩:=rx;obtain⟨t',rfl⟩:=ry;exact rule i j t t' s _ _ ⟨.bl (g i j),H,I,rfl,q⟩
def CDiv (i j:Int):Prop:=0 < j/\j < 1073741824
def CPow (i j:Int):Prop:=0<=j/\j<=1000000/\i.natAbs < 2 ^ 64
def CMul (i j:Int):Prop:=(-(2 ^ 64) < i/\i < 2 ^ 64)\/(-(2 ^ 64) < j/\j < 2 ^ 64)
theorem CMul.ok {i j:Int}(h:CMul i j):IntMulOk i j:=by
 rcases h with⟨h1,h2⟩ | ⟨h1,h2⟩
 · exact .of_left (intBits_le_64 h1 h2)
 · exact .of_right (intBits_le_64 h1 h2)
theorem a3d:OpR X (x2G .Add) (rI0 fun i j=>.int (i + j)):=opI0 fun _ _ _ _ _ _ _ q=>add_int q
theorem op_sub:OpR X (x2G .Sub) (rI0 fun i j=>.int (i - j)):=opI0 fun _ _ _ _ _ _ _ q=>sub_int q
theorem a4N:OpR X (x2G .Mult) (rI CMul fun i j=>.int (i * j)):=opI fun _ _ _ _ _ _ _ hc q=>mul_int q hc.ok
theorem a8m:OpR X (x2G .FloorDiv) (rI CDiv fun i j=>.int (i / j)):=opI fun i j _ _ _ _ _ hc q=>by
 have h1:(0:Int) < j:=hc.1;have h2:j < 1073741824:=hc.2;exact floordiv_int (by omega) (by rw [Int.fdiv_eq_ediv_of_nonneg i (by omega)];exact q) (.inl (PyProof.noPylong_small (by omega)))
theorem a3c:OpR X (x2G .Mod) (rI (fun _ j=>0 < j) fun i j=>.int (i % j)):=opI fun i j _ _ _ _ _ hc q=>by
 have h1:(0:Int) < j:=hc;exact mod_int' (by omega) (by rw [Int.fmod_eq_emod_of_nonneg i (by omega)];exact q)
theorem b0V:OpR X (x2G .Pow) (rI CPow fun i j=>.int (i ^ j.toNat)):=opI fun _ _ _ _ _ _ _ hc q=>pow_int_small hc.1 hc.2.1 hc.2.2 q
theorem unI {f:Value->Sem Value}{g:Int->Int}
   (rule:∀(i:Int) (t:Tok) (s:Shared) (Q:Value->Shared->Prop) (E:Value->Shared->Prop),Q (.int (g i) s.toks) { s with toks:=s.toks + 1 }->wpAny (model X.prog X.w) X.A (f (.int i t)) Q E s) :
   UnR X f (rU fun i=>.int (g i)):=by
 intro pins s σ H x v Q I rx h;obtain⟨i,rfl,q⟩:=h;obtain⟨t,rfl⟩:=rx;exact rule i t s _ _ ⟨.int (g i),H,I.tok _,⟨_,rfl⟩,q⟩
theorem a7u:UnR X (unaryOp .USub) (rU fun i=>.int (-i)):=unI fun _ _ _ _ _ q=>neg_int q
end
section
variable {X:Cx}{a b c:Expr}{ta tb tc:TE}{pos:Pos}
variable {r':R2}{op:CmpOp}{us:List Value}
theorem a8L {pins:List (Addr×Obj)}{σ:St}{H:Hp}{s:Shared}{Q:VK}{k k':Bool}(I:Inv X pins σ H s)(q:Q (.bl k) H)(e:k=k'):EP X pins σ Q (.bool k') s:=by
 subst e;exact⟨.bl k,H,I,rfl,q⟩
theorem op_lt:OpR X (x1v .Lt) (rI0 fun i j=>.bl (decide (i < j))):=opB0 fun _ _ _ _ _ _ _ q=>lt_int q
theorem op_le:OpR X (x1v .LtE) (rI0 fun i j=>.bl (decide (i<=j))):=opB0 fun _ _ _ _ _ _ _ q=>le_int q
theorem op_gt:OpR X (x1v .Gt) (rI0 fun i j=>.bl (decide (j < i))):=opB0 fun _ _ _ _ _ _ _ q=>gt_int q
theorem op_ge:OpR X (x1v .GtE) (rI0 fun i j=>.bl (decide (j<=i))):=opB0 fun _ _ _ _ _ _ _ q=>ge_int q
theorem a8l:OpR X (x1v .In) (fun x y H Q=>∃i j,x=.str i/\y=.str j/\Q (.bl (!(x1N j i 0 j.length 1).isEmpty)) H):=by
 intro pins s σ H x y v u Q I rx ry h;obtain⟨i,j,rfl,rfl,q⟩:=h;obtain⟨t,rfl⟩:=rx;obtain⟨t',rfl⟩:=ry;exact in_str (a8L I q rfl)
theorem op_isN:OpR X (x1v .Is) (fun x y H Q=>y=.non/\Q (.bl (decide (x=.non))) H):=by
 intro pins s σ H x y v u Q I rx ry h;obtain⟨rfl,q⟩:=h;cases ry;refine is_none_gen (a8L I q ?_)
 cases x <;> first
   | (cases rx;rfl)
   | (obtain⟨t,rfl⟩:=rx;rfl)
theorem b2x:OpR X (x1v .IsNot) (fun x y H Q=>y=.non/\Q (.bl (!decide (x=.non))) H):=by
 intro pins s σ H x y v u Q I rx ry h;obtain⟨rfl,q⟩:=h;cases ry;refine isnot_none_gen (a8L I q ?_)
 cases x <;> first
   | (cases rx;rfl)
   | (obtain⟨t,rfl⟩:=rx;rfl)
theorem OpR.or {f:Value->Value->Sem Value}{r:R2}(h:OpR X f r)(h':OpR X f r'):OpR X f (fun x y H Q=>r x y H Q\/r' x y H Q):=by
 intro pins s σ H x y v u Q I rx ry q;rcases q with q | q
 · exact h pins s σ H x y v u Q I rx ry q
 · exact h' pins s σ H x y v u Q I rx ry q
theorem a0C (b:Expr)(h:op≠.In:=by decide)(h2:op≠.NotIn:=by decide):x2Z op b=false:=by
 have e1:(op == CmpOp.In)=false:=by cases op <;> first | rfl | exact absurd rfl h
 have e2:(op == CmpOp.NotIn)=false:=by cases op <;> first | rfl | exact absurd rfl h2
 cases b <;> simp [x2Z,e1,e2]
theorem b2s {r:R2}(ho:OpR X (x1v op) r)(ha:PE X a ta)(hb:PE X b tb)(hm:x2Z op b=false):PE X (.Compare a [op] [b] pos) (tOp r ta tb):=by
 intro pins s σ H Q I h;exact wpAny_Compare1 (binT ha hb I h fun v u s2 x y H2 I2 rx ry q=>ho pins s2 σ H2 x y v u Q I2 rx ry q) hm
def b1u (t:TE):TT:=fun σ H Q=>t σ H fun x H'=>∃k,x=.bl k/\Q k H'
theorem a4c {r:R2}(ho:OpR X (x1v op) r)(ha:PE X a ta)(hb:PE X b tb)(hm:x2Z op b=false):PT X (.Compare a [op] [b] pos) (b1u (tOp r ta tb)):=by
 intro pins s σ H Q I h
 refine wpAny_isTrue_Compare1 (thn (ha pins s σ H _ I h) fun v s1 ⟨x,H1,I1,r1,q1⟩=>thn (hb pins s1 σ H1 _ I1 q1) fun u s2 ⟨y,H2,I2,r2,q2⟩=>
   thn (ho pins s2 σ H2 x y v u _ I2 r1 r2 q2) fun c s3 ⟨z,H3,I3,r3,k,e,q3⟩=>?_) hm
 subst e;cases r3;exact x2k ⟨H3,I3,q3⟩
def b0F (r r':R2)(ta tb tc:TE):TE:=fun σ H Q=>ta σ H fun x H1=>tb σ H1 fun y H2=>r x y H2 fun z H3=>∃k,z=.bl k/\
 (if k=true then tc σ H3 fun w' H4=>r' y w' H4 Q else Q (.bl false) H3)
theorem a9M {op':CmpOp}{r:R2}(ho:OpR X (x1v op) r)(ho':OpR X (x1v op') r')(ha:PE X a ta)(hb:PE X b tb)(hc:PE X c tc)
   (hm:lastMarks [op,op'] [b,c]=false:=by with_unfolding_all rfl):PT X (.Compare a [op,op'] [b,c] pos) (b1u (b0F r r' ta tb tc)):=by
 intro pins s σ H Q I h
 refine isTrue_chain (thn (ha pins s σ H _ I h) fun v s1 ⟨x,H1,I1,r1,q1⟩=>test_link (thn (hb pins s1 σ H1 _ I1 q1) fun u s2 ⟨y,H2,I2,r2,q2⟩=>
   thn (ho pins s2 σ H2 x y v u _ I2 r1 r2 q2) fun d s3 ⟨z,H3,I3,r3,k,e,q3⟩=>?_)) hm
 subst e;cases r3;refine x2k ?_;cases k with
 | false =>
   obtain⟨k',e',q'⟩:=q3;cases e';exact ite_ff ⟨H3,I3,q'⟩
 | true =>
   refine ite_tt (test_last (thn (hc pins s3 σ H3 _ I3 q3) fun w' s4 ⟨z',H4,I4,r4,q4⟩=>thn (ho' pins s4 σ H4 y z' u w' _ I4 r2 r4 q4) fun d' s5 ⟨z2,H5,I5,r5,k2,e2,q5⟩=>?_));subst e2;cases r5;exact x2k ⟨H5,I5,q5⟩
theorem a3G:(x0v:Nat) < 2 ^ 63:=by rw [x2P];decide
theorem a6V:OpR X (x2G .Add) (fun x y H Q=>∃i j,x=.str i/\y=.str j/\i.length + j.length<=x0v/\Q (.str (i++j)) H):=by
 intro pins s σ H x y v u Q I rx ry h;obtain⟨i,j,rfl,rfl,hz,q⟩:=h;obtain⟨t,rfl⟩:=rx;obtain⟨t',rfl⟩:=ry;exact add_str (fun t' tk=>⟨.str (i++j),H,I.tok _,⟨_,rfl⟩,q⟩) hz
theorem a4w {x:V}(r:Vals [x] us):∃u,us=[u]/\RelV x u:=by
 cases r with
 | cons r1 r2=>cases r2;exact⟨_,rfl,r1⟩
theorem vals2 {x y:V}(r:Vals [x,y] us):∃u w',us=[u,w']/\RelV x u/\RelV y w':=by
 cases r with
 | cons r1 r2 =>
   cases r2 with
   | cons r3 r4=>cases r4;exact⟨_,_,rfl,r1,r3⟩
theorem b0A:a1J X (.builtin "abs") (fun xs H Q=>∃i,xs=[.int i]/\Q (.int (if i < 0 then -i else i)) H):=by
 intro pins s σ H xs us Q I r h;obtain⟨i,rfl,q⟩:=h;obtain⟨u,rfl,t,rfl⟩:=a4w r;exact call_abs_int fun u tk=>⟨.int (if i < 0 then -i else i),H,I.tok _,⟨_,rfl⟩,q⟩
theorem a8Y (hc:X.calm=true):a1J X (.builtin "min") (fun xs H Q=>∃i j,xs=[.int i,.int j]/\Q (.int (if j < i then j else i)) H):=by
 intro pins s σ H xs us Q I r h;obtain⟨i,j,rfl,q⟩:=h;obtain⟨u,w',rfl,⟨t,rfl⟩,⟨t',rfl⟩⟩:=vals2 r;refine min_two_ints (I.ok.hd hc) fun h' tk k=>⟨_,H,I.kept k,?_,q⟩
 by_cases hj:j < i
 · rw [if_pos hj,if_pos hj];exact⟨_,rfl⟩
 · rw [if_neg hj,if_neg hj];exact⟨_,rfl⟩
theorem a8Z:a1J X (.type "int") (fun xs H Q=>(∃i,xs=[.int i]/\Q (.int i) H)\/∃k,xs=[.bl k]/\Q (.int (if k then 1 else 0)) H):=by
 intro pins s σ H xs us Q I r h;rcases h with⟨i,rfl,q⟩ | ⟨k,rfl,q⟩
 · obtain⟨u,rfl,t,rfl⟩:=a4w r;exact call_int_int ⟨.int i,H,I,⟨_,rfl⟩,q⟩
 · obtain⟨u,rfl,r1⟩:=a4w r;cases r1;exact call_int_bool ⟨.int (if k then 1 else 0),H,I.tok _,⟨_,rfl⟩,q⟩
end
structure ObjM (h:Heap)(x dx C:Addr)(mA:Str->Option Value):Prop where
 obj:h.get? x=some (PySem.W.instObj C dx)
 ns:h.Ns1 dx mA
 ne:dx≠x
theorem a8w {h:Heap}{dx:Addr}{mA:Str->Option Value}(n:h.Ns1 dx mA):∃od,h.get? dx=some od/\∀name,PySem.W.lookIn name od=some (mA name):=by
 obtain⟨o,es,ep,ho,hd,hk,_,hm⟩:=n;refine⟨o,ho,fun name=>?_⟩;have e:=hm name;unfold nsFind findBy at e;rw [<- Array.find?_toList] at e;unfold PySem.W.lookIn;rw [hd];dsimp only
 split
 · rename_i y q;rw [q] at e;exact congrArg some e
 · rename_i q;rw [q] at e
   have a:es.toList.any (·.refKey)=false:=by
     rw [List.any_eq_false];intro y hy;obtain⟨z,t,hkey⟩:=hk y (Array.mem_toList_iff.mp hy);simp [DictEntry.refKey,hkey]
   have a':¬es.toList.any (·.refKey)=true:=by rw [a];exact x0J
   rw [if_neg a'];exact congrArg some e
theorem ObjM.look {h:Heap}{x dx C:Addr}{mA:Str->Option Value}(I:ObjM h x dx C mA):∃od,PySem.W.InstAt h x (PySem.W.instObj C dx) C (some od)/\∀name,PySem.W.lookIn name od=some (mA name):=
 let ⟨od,ho,hl⟩:=a8w I.ns
 ⟨od,⟨I.obj,rfl,rfl,ho⟩,hl⟩
theorem RelO.some_of {v:V}{o:Option Value}(r:RelO (some v) o):∃u,o=some u/\RelV v u:=by
 cases o with
 | none=>exact(show False from r).elim
 | some u=>exact⟨u,rfl,r⟩
section
variable {P:x0A}{w:World}{H H':Hp}{h h':Heap}{a C dx:Addr}{fs fs':List (Str×V)}
theorem b2U (hok:HOk P w H h)(e:H a=some (.ins C dx fs)):∃mA,ObjM h a dx C mA/\(∀f,RelO (fs.lookup f) (mA f))/\PySem.Within mA (fs.map (·.1))/\fs.length<=1000/\H dx=some (.own a):=by
 obtain⟨d,z,ne,ob,mA,n,r,q⟩:=(show a0F P w H h a (.ins C dx fs) from hok a _ e);exact⟨mA,⟨ob,n,ne⟩,r,q,z,d⟩
end
structure Cls (K:x0a)(C:Addr):Prop where
 pg:PySem.W.plainGet K C Str.empty=true
 hd:PySem.W.hasDictIn K C=true
 po:PySem.W.plainOver K C=true
 sa:PySem.W.findIn K (.ref C) "__setattr__"=some (some (.builtin "object.__setattr__"))
theorem Cls.get {K:x0a}{C:Addr}(c:Cls K C)(f:Str):PySem.W.plainGet K C f=true:=c.pg
section
variable {X:Cx}{pins:List (Addr×Obj)}{σ:St}{H:Hp}{s:Shared}{A:Around}{E:Value->Shared->Prop}{Q:Value->Shared->Prop}{c:Value}{b:Bool}
inductive TyOf (K:x0a)(H:Hp):V->Value->Prop where
 | non:TyOf K H .non (.type "NoneType")
 | bl (x:Bool):TyOf K H (.bl x) (.type "bool")
 | int (i:Int):TyOf K H (.int i) (.type "int")
 | str (x:Str):TyOf K H (.str x) (.type "str")
 | flt (x:UInt64):TyOf K H (.flt x) (.type "float")
 | lst {a:Addr} {xs:List V} (e:H a=some (.lst xs)):TyOf K H (.ref a) (.type "list")
 | frz {a:Addr} {o:Obj} {xs:List V} (e:H a=some (.frz o (.lst xs))):TyOf K H (.ref a) (.type "list")
 | tup {a:Addr} {xs:List V} (e:H a=some (.tup xs)):TyOf K H (.ref a) (.type "tuple")
 | dK {a:Addr} {kvs:List (Key×V)} (e:H a=some (.dK kvs)):TyOf K H (.ref a) (.type "dict")
 | dT {a:Addr} {kvs:List (List Key×V)} (e:H a=some (.dT kvs)):TyOf K H (.ref a) (.type "dict")
 | ins {a C dx:Addr} {fs:List (Str×V)} (e:H a=some (.ins C dx fs)) (cl:Cls K C) (ha:PySem.W.findIn K (.ref C) "__class__"=some (some (.builtin "object.__class__")))
     (hn:PySem.W.specialIn K (.builtin "object.__class__") "__get__"=some (some (.builtin "getset_descriptor.__get__"))) (htk:PySem.W.takesIn K (.builtin "object.__class__")=some true)
     (hm:PySem.W.mroIn K C (.type "object")=some true):TyOf K H (.ref a) (.ref C)
theorem a8E {x:V}{u t:Value}(I:Inv X pins σ H s)(rx:RelV x u)(ty:TyOf X.K H x t)(e:x3w X.K t c=some b)(h:∀tk,Q (.bool b) { s with toks:=tk }) :
   wpAny (model X.prog X.w) A (call (.builtin "isinstance") [u,c]) Q E s:=by
 cases ty with
 | non=>cases(show u=x1T from rx);exact x1r PySem.W.kitx_none I.kIn x2y e (fun z=>nomatch z) h
 | bl y=>cases(show u=Value.bool y from rx);exact x1r PySem.W.kitx_bool I.kIn x2y e (fun z=>nomatch z) h
 | int i=>obtain⟨t,q⟩:=(show ∃t,u=Value.int i t from rx);cases q;exact x1r PySem.W.kitx_int I.kIn x2y e (fun z=>nomatch z) h
 | str y=>obtain⟨t,q⟩:=(show ∃t,u=Value.str y t from rx);cases q;exact x1r PySem.W.kitx_str I.kIn x2y e (fun z=>nomatch z) h
 | flt y=>obtain⟨t,q⟩:=(show ∃t,u=Value.float y t from rx);cases q;exact x1r PySem.W.kitx_float I.kIn x2y e (fun z=>nomatch z) h
 | @lst a xs ea =>
   cases(show u=x0I a from rx);obtain⟨_,_,n,_,h1⟩:=(show a0F X.prog X.w H s.heap a (.lst xs) from I.hok a _ ea);exact x1r PySem.W.kitx_list I.kIn ⟨_,h1,rfl⟩ e (fun z=>nomatch z) h
 | @frz a ob xs ea =>
   cases(show u=x0I a from rx);obtain⟨_,_,_,n,_,h1⟩:=(show a0F X.prog X.w H s.heap a (.frz ob (.lst xs)) from I.hok a _ ea);exact x1r PySem.W.kitx_list I.kIn ⟨_,h1,rfl⟩ e (fun z=>nomatch z) h
 | @tup a xs ea =>
   cases(show u=x0I a from rx);obtain⟨_,_,_,p⟩:=(show a0F X.prog X.w H s.heap a (.tup xs) from I.hok a _ ea);obtain⟨o,h1,h2,_⟩:=p;exact x1r PySem.W.kitx_tuple I.kIn ⟨o,h1,(x3T h2).1⟩ e (fun z=>nomatch z) h
 | @dK a kvs ea =>
   cases(show u=x0I a from rx);obtain⟨_,_,vs,_,p⟩:=(show a0F X.prog X.w H s.heap a (.dK kvs) from I.hok a _ ea);obtain⟨o,es,ep,h1,h2,_⟩:=p;exact x1r PySem.W.kitx_dict I.kIn ⟨o,h1,h2.1⟩ e (fun z=>nomatch z) h
 | @dT a kvs ea =>
   cases(show u=x0I a from rx);obtain⟨_,_,xs,_,o,es,ep,h1,h2,_⟩:=(show a0F X.prog X.w H s.heap a (.dT kvs) from I.hok a _ ea);exact x1r PySem.W.kitx_dict I.kIn ⟨o,h1,h2.1⟩ e (fun z=>nomatch z) h
 | @ins a C dx fs ea cl ha hn htk hm =>
   cases(show u=x0I a from rx);obtain⟨mA,O,_⟩:=b2U I.hok ea;obtain⟨od,J,_⟩:=O.look;exact x1r (PySem.W.kitx_own (cl.get _) cl.hd ha hn htk hm) I.kIn J e (fun z=>nomatch z) h
end
structure Room (k:Nat)(A:Around):Prop where
 hd:A.handled=none
 dp:A.depth + 3 * k + 5 < recursionLimit
 un:A.units + 16 * k + 200 < cLine
 gd:A.guards=some []
theorem Room.mono {j k:Nat}{A:Around}(r:Room k A)(h:j<=k):Room j A:=⟨r.hd,by have:=r.dp;omega,by have:=r.un;omega,r.gd⟩
theorem Room.deeper {k:Nat}{A:Around}(r:Room (k + 1) A)(env:Env):Room k (A.deeper env):=
 ⟨r.hd,by have:=r.dp;show A.depth + 1 + 3 * k + 5 < _;omega,by have:=r.un;show A.units + 3 + 16 * k + 200 < _;omega,r.gd⟩
theorem Room.depth {k:Nat}{A:Around}(r:Room k A):A.depth < recursionLimit:=by have:=r.dp;omega
theorem Room.units {k:Nat}{A:Around}(r:Room k A):A.units + 64 < cLine:=by have:=r.un;omega
theorem Room.units0 {k:Nat}{A:Around}(r:Room k A):A.units < cLine:=by have:=r.un;omega
def tNil:TA:=fun _ H Q=>Q [] H
def a4z (ta:TE)(tr:TA):TA:=fun σ H Q=>ta σ H fun x H1=>tr σ H1 fun xs H2=>Q (x::xs) H2
section
variable {X:Cx}{e:Expr}{es:List Expr}{te:TE}{t:TA}{pos:Pos}
theorem a0M:PA X [] tNil:=fun _ _ _ _ H Q I h=>Calls.spliced_nil ⟨[],H,I,.nil,h⟩
theorem a0o (ha:PE X e te)(hr:PA X es t)(hs:x0T (e::es) X.env=(false,eval e X.env)::x0T es X.env:=by rfl):PA X (e::es) (a4z te t):=by
 intro pos pins s σ H Q I h;rw [hs];show wpAny _ _ (spliced ((false,eval e X.env)::backTo pos (x0T es X.env))) _ _ s;refine x4e (thn (ha pins s σ H _ I h) fun u s1 ⟨x,H1,I1,r1,q1⟩=>?_);exact thn (hr pos pins s1 σ H1 _ I1 q1) fun us s2 ⟨xs,H2,I2,r2,q2⟩=>⟨x::xs,H2,I2,.cons r1 r2,q2⟩
def tTup (t:TA):TE:=fun σ H Q=>t σ H fun xs H1=>xs.length<=x0v/\∀p,H1 p=none->Q (.ref p) (upd H1 p (.tup xs))
def tLst (t:TA):TE:=fun σ H Q=>t σ H fun xs H1=>xs.length<=x0v/\∀p,H1 p=none->Q (.ref p) (upd H1 p (.lst xs))
theorem pe_tup {x1}(h:PA X es t):PE X (.Tuple es x1 pos) (tTup t):=by
 intro pins s σ H Q I hq;refine wpAny_Tuple_spliced (thn (h pos pins s σ H _ I hq) fun us s1 ⟨xs,H1,I1,r,z,q⟩=>⟨by rw [<- r.length];exact z,?_⟩);have hf:H1 s1.heap.objs.size=none:=I1.hok.fresh (x0m _);refine⟨.ref s1.heap.objs.size,upd H1 s1.heap.objs.size (.tup xs),I1.laid (t':=s1.toks) (fun b u e=>x0c _ e) (x0m _) ?_,rfl,q _ hf⟩;exact⟨z,us,r,⟨_,x0p _ rfl,rfl,_,rfl⟩⟩
theorem b0U (h:PA X es t):PE X (.List es pos) (tLst t):=by
 intro pins s σ H Q I hq;refine wpAny_List_spliced (thn (h pos pins s σ H _ I hq) fun us s1 ⟨xs,H1,I1,r,z,q⟩=>⟨by rw [<- r.length];exact z,?_⟩);have hf:H1 s1.heap.objs.size=none:=I1.hok.fresh (x0m _);refine⟨.ref s1.heap.objs.size,upd H1 s1.heap.objs.size (.lst xs),I1.laid (t':=s1.toks) (fun b u e=>x0c _ e) (x0m _) ?_,rfl,q _ hf⟩;exact⟨z,us,0,r,x0p _ rfl⟩
end
abbrev Sp:=List V->Hp->VK->XK->Prop
abbrev CXT:=List Env->Hp->Shared->XK->Value->Shared->Prop
structure Env0 (P:x0A)(w:World)(K:x0a)(mg:Str->Option Value)(base:Heap)(A:Around)(outer:List Env)(s:Shared)(H:Hp):Prop where
 frames:A.frames=some outer
 mod:Mod K mg base
 bs:∀b o,base.get? b=some o->s.heap.get? b=some o/\H b=none
 bsz:base.objs.size<=s.heap.objs.size
 funs:s.heap.FunFrames base outer
 frf:∀b∈frs outer,H b=none
 hok:HOk P w H s.heap
 bare:AllBare s.gens
 nos:NS H
def CE (outer:List Env)(P:x0A)(w:World)(H:Hp)(s:Shared)(Q:VK)(u:Value)(s':Shared):Prop:=
 ∃v H',s'.os=s.os/\AllBare s'.gens/\Un (frs outer) [] H H' s.heap s'.heap/\HOk P w H' s'.heap/\RelV v u/\Q v H'
def CR (CX:CXT)(outer:List Env)(P:x0A)(w:World)(H:Hp)(s:Shared)(Q:VK)(E:XK)(r:Result)(s':Shared):Prop:=
 match r with
 | .ok (.ret u)=>CE outer P w H s Q u s'
 | .ok _=>False
 | .error e=>CX outer H s E e s'
structure FnOk (P:x0A)(w:World)(K:x0a)(mg:Str->Option Value)(base:Heap)(CX:CXT)(k:Nat)(f:Addr)(fd:x3a)(ps:List Str)(sp:Sp):Prop where
 len:∀vs H Q E,sp vs H Q E->vs.length=ps.length
 run:∀(A:Around) (outer:List Env) (s:Shared) (H:Hp) (args:Args) (us:List Value) (vs:List V) (Q:VK) (E:XK),Room k A->Env0 P w K mg base A outer s H->BindsTo s fd args (ps.zip us)->Vals vs us->sp vs H Q E->
   x2J (model P w) A (.call (.ref f) args) (CR CX outer P w H s Q E) s
theorem FnOk.imp {P:x0A}{w:World}{K:x0a}{mg:Str->Option Value}{base:Heap}{CX:CXT}{k:Nat}{f:Addr}{fd:x3a}{ps:List Str}{sp sp':Sp}(F:FnOk P w K mg base CX k f fd ps sp)
   (h:∀vs H Q E,sp' vs H Q E->sp vs H Q E):FnOk P w K mg base CX k f fd ps sp':=
 ⟨fun vs H Q E q=>F.len vs H Q E (h _ _ _ _ q),fun A outer s H args us vs Q E hr he hb hv hs=>F.run A outer s H args us vs Q E hr he hb hv (h _ _ _ _ hs)⟩
section
variable {X:Cx}{pins:List (Addr×Obj)}{σ:St}{H:Hp}{s s':Shared}
theorem Inv.env0 (I:Inv X pins σ H s):Env0 X.prog X.w X.K X.mg X.base X.A X.stack s H:=
 ⟨I.ok.frames,I.ok.mod,I.bs,x1j I.ok.bsz I.sz,I.stack,I.stkFree,I.hok,I.bare,I.nos⟩
theorem Inv.after {Q:VK}{u:Value}(I:Inv X pins σ H s)(h:CE X.stack X.prog X.w H s Q u s'):EP X pins σ Q u s':=by
 obtain⟨v,H',os,bare,un,hok,r,q⟩:=h;obtain⟨hh,g,d,t,os'⟩:=s';obtain rfl:os'=s.os:=os;exact⟨v,H',I.call (h':=hh) (g':=g) (d':=d) (t':=t) (ch:=[]) un hok bare (fun b z=>absurd z (by simp)),r,q⟩
end
def tCall (sp:Sp)(dvs:List V)(E:XK)(t:TA):TE:=fun σ H Q=>t σ H fun vs H1=>sp (vs++dvs) H1 Q E
def a7n (K:x0a)(fd:x3a)(ps:List Str)(ds:List Value):Prop:=
 ∀(s:Shared) (us:List Value),K.In s.heap->(us++ds).length=ps.length->BindsTo s fd ⟨us,[]⟩ (ps.zip (us++ds))
theorem a7n.all {K:x0a}{fd:x3a}{ps:List Str}(h:∀us:List Value,us.length=ps.length->bindArgs fd ⟨us,[]⟩=pure (ps.zip us)):a7n K fd ps []:=fun s us _ hl=>by
 rw [x1x] at hl ⊢;exact .of_eq (h us hl)
def a9i (CX:CXT)(X:Cx)(E:XK):Prop:=∀(pins:List (Addr×Obj)) (σ:St) (H:Hp) (s:Shared) (e:Value) (s':Shared),Inv X pins σ H s->CX X.stack H s E e s'->X.xe e s'
section
variable {X:Cx}{CX:CXT}{k:Nat}{f C:Addr}{fd:x3a}{ps:List Str}{sp:Sp}{dvs:List V}{ds:List Value}{E:XK}{x m:Str}{p pos apos:Pos}{e o:Expr}{es:List Expr}{ta:TE}{t:TA}
theorem run_fn {pins:List (Addr×Obj)}{σ:St}{H:Hp}{s:Shared}{Q:VK}{us:List Value}{vs:List V}(F:FnOk X.prog X.w X.K X.mg X.base CX k f fd ps sp)(hr:Room k X.A)(hb:a7n X.K fd ps ds)(hd:Vals dvs ds)(hx:a9i CX X E)
   (I:Inv X pins σ H s) (r:Vals vs us) (h:sp (vs++dvs) H Q E):wpAny (model X.prog X.w) X.A (call (.ref f) us) (EP X pins σ Q) X.xe s:=by
 have r2:Vals (vs++dvs) (us++ds):=r.append hd;have hl:(us++ds).length=ps.length:=by rw [<- r2.length];exact F.len _ _ _ _ h
 refine wpAny_call (codeAny_mono (F.run X.A X.stack s H ⟨us,[]⟩ (us++ds) (vs++dvs) Q E hr I.env0 (hb s us I.kIn hl) r2 h) fun r s' hq=>?_);cases r with
 | error e=>exact hx pins σ H s e s' I hq
 | ok fl =>
   cases fl with
   | ret u=>exact I.after hq
   | next=>exact x2v hq
   | brk=>exact x2v hq
   | cont=>exact x2v hq
theorem b2t (F:FnOk X.prog X.w X.K X.mg X.base CX k f fd ps sp)(hr:Room k X.A)(hg:Gl X x)(hm:X.mg x=some (.ref f))(hk:x3x X.K (.ref f)=true)(hb:a7n X.K fd ps ds)(hd:Vals dvs ds)(hx:a9i CX X E)
   (ha:PA X (e::es) t) (hdb:(x == ("__debug__":Str))=false:=by decide) (he:x0T (e::es) X.env=(false,eval e X.env)::x0T es X.env:=by rfl) (hpl:(backTo pos (x0T es X.env)).any (·.1)=false:=by rfl) :
   PE X (.Call (.Name x p) (e::es) [] pos) (tCall sp dvs E t):=by
 intro pins s σ H Q I h;refine x3b (b2M I hg hm ?_ hdb);refine PySem.W.callWith_K (h₀:=X.base) I.ok.mod.kin hk (thn (ha pos pins s σ H _ I h) fun us s1 ⟨vs,H1,I1,r,q⟩=>⟨I1.kIn,?_⟩) he hpl;exact run_fn F hr hb hd hx I1 r q
end
def PK (X:Cx)(kws:List Keyword)(t:TA):Prop:=
 ∀(pos:Pos) (pins:List (Addr×Obj)) (s:Shared) (σ:St) (H:Hp) (Q:List V->Hp->Prop),Inv X pins σ H s->t σ H Q->wpAny (model X.prog X.w) X.A (evalAll ((backToKw pos (keywordEach kws X.env)).map (·.2))) (AP X pins σ Q) X.xe s
structure a0D (N P:List Str)(sc:Scope):Prop where
 kind:sc.kind=.function
 co:sc.isCoroutine=false
 gen:sc.isGenerator=false
 nd:N.Nodup
 pre:N.take P.length=P
 par:∀x∈P,sc.names.lookup x=some .local\/sc.names.lookup x=some .cell
 nofree:∀y∈sc.names,y.2≠.free
theorem a5d {kindOf:Str->Option NameKind}{x:Str}:∀{binds:List (Str×Value)} {m:Str->Option Value},(∀v,(x,v)∉binds)->bindL kindOf binds m x=m x
 | [],_,_=>rfl
 | (n, v) :: r, m, h => by
   unfold bindL;rw [a5d fun w hw=>h w (x0d _ hw)]
   split
   · have:x≠n:=by rintro rfl;exact h v x0h
     simp [this]
   · rfl
theorem a5f {kindOf:Str->Option NameKind}{x:Str}:∀{binds:List (Str×Value)} {m:Str->Option Value},(∀v,(x,v)∉binds)->bindC kindOf binds m x=m x
 | [],_,_=>rfl
 | (n, v) :: r, m, h => by
   unfold bindC;rw [a5f fun w hw=>h w (x0d _ hw)]
   split
   · rfl
   · have:x≠n:=by rintro rfl;exact h v x0h
     simp [this]
theorem a5e {kindOf:Str->Option NameKind}{x:Str}{v:Value}:∀{P:List Str} {vs:List Value} {i:Nat} {m:Str->Option Value},P.Nodup->P[i]?=some x->vs[i]?=some v->kindOf x=some .local->
   bindL kindOf (P.zip vs) m x=some v
 | [],_,_,_,_,h,_,_=>by simp at h
 | _::_,[],_,_,_,_,h,_=>by simp at h
 | p :: P, w :: vs, 0, m, nd, h1, h2, hk => by
   simp at h1 h2;subst h1;subst h2;show bindL kindOf ((p,w)::P.zip vs) m p=_;unfold bindL;rw [a5d fun v hv=>(x3U.mp nd).1 (x3V hv).1,if_pos hk];simp
 | p :: P, w :: vs, i + 1, m, nd, h1, h2, hk => by
   show bindL kindOf ((p,w)::P.zip vs) m x=_;unfold bindL;exact a5e (i:=i) (x3U.mp nd).2 (by simpa using h1) (by simpa using h2) hk
theorem a5g {kindOf:Str->Option NameKind}{x:Str}{v:Value}:∀{P:List Str} {vs:List Value} {i:Nat} {m:Str->Option Value},P.Nodup->P[i]?=some x->vs[i]?=some v->kindOf x≠some .local->
   bindC kindOf (P.zip vs) m x=some v
 | [],_,_,_,_,h,_,_=>by simp at h
 | _::_,[],_,_,_,_,h,_=>by simp at h
 | p :: P, w :: vs, 0, m, nd, h1, h2, hk => by
   simp at h1 h2;subst h1;subst h2;show bindC kindOf ((p,w)::P.zip vs) m p=_;unfold bindC;rw [a5f fun v hv=>(x3U.mp nd).1 (x3V hv).1,if_neg hk];simp
 | p :: P, w :: vs, i + 1, m, nd, h1, h2, hk => by
   show bindC kindOf ((p,w)::P.zip vs) m x=_;unfold bindC;exact a5g (i:=i) (x3U.mp nd).2 (by simpa using h1) (by simpa using h2) hk
def start (N:List Str)(vs:List V):St:=vs.map some++List.replicate (N.length - vs.length) none
def cxOf (CX:CXT)(P:x0A)(w:World)(K:x0a)(mg:Str->Option Value)(base:Heap)(N:List Str)(qual:Str)(scope:Scope)(f:Addr)(cd:Value)(A:Around)(outer:List Env)(s:Shared)(H:Hp)(E:XK):Cx where
 prog:=P
 w:=w
 K:=K
 mg:=mg
 base:=base
 A:=A.deeper (envOfC qual scope s.heap.objs.size f cd)
 N:=N
 s₀:=s
 H₀:=H
 env:=envOfC qual scope s.heap.objs.size f cd
 outer:=outer
 stack:=envOfC qual scope s.heap.objs.size f cd::outer
 ex:=[]
 calm:=true
 fn:=fun _=>true
 pn:=[]
 xe:=fun e s'=>wpAny (model P w) (A.deeper (envOfC qual scope s.heap.objs.size f cd)) (leaving (envOfC qual scope s.heap.objs.size f cd) e) (fun _ s''=>CX outer H s E e s'') (fun e' s''=>CX outer H s E e' s'') s'
theorem a6B {sc:Scope}{n:Nat}{x:Str}(h:sc.names.lookup x=some .cell):∃c,(cellsFrom n sc.names []).lookup x=some c:=by
 have q:=PySem.W.cellsFrom_some sc.names n [] (.inl h);exact x1K.mp q
theorem a8F {CX:CXT}{P:x0A}{w:World}{K:x0a}{mg:Str->Option Value}{base:Heap}{N ps:List Str}{qual:Str}{scope:Scope}{f:Addr}{cd:Value}{A:Around}{outer:List Env}{s s1:Shared}{H:Hp}{E:XK}{us:List Value}{vs:List V}
   (S:a0D N ps scope) (hd:A.handled=none) (e0:Env0 P w K mg base A outer s H) (hl:vs.length=ps.length) (r:Vals vs us)
   (x:InCallC s s.heap.objs.size (bindL (envOfC qual scope s.heap.objs.size f cd).kindOf (ps.zip us) fun _=>none) (cellsFrom (s.heap.objs.size + 1) scope.names []) (bindC (envOfC qual scope s.heap.objs.size f cd).kindOf (ps.zip us) fun _=>none) s1) :
   Inv (cxOf CX P w K mg base N qual scope f cd A outer s H E) [] (start N vs) H s1:=by
 have hpl:ps.length<=N.length:=by have:=congrArg List.length S.pre;rw [x1n] at this;omega
 obtain⟨h1,tk,rfl,hk⟩:=x.done;have noA:∀b:Addr,b∉(cxOf CX P w K mg base N qual scope f cd A outer s H E).ex:=fun b z=>absurd (show b∈([]:List Addr) from z) (by simp)
 refine⟨⟨e0.mod,S.kind,rfl,rfl,x0m _,fun y z c h1 h2=>?_,fun y hy=>?_,fun y c _ h=>?_,fun _=>hd,Around.frames_deeper e0.frames,.inr ⟨rfl,rfl⟩,fun b z=>absurd z (noA b),e0.bs,e0.bsz,fun b _ _=>noA b,fun b z=>absurd z (noA b),e0.funs,e0.frf,e0.nos⟩,
   rfl,e0.bare,Un.kept hk,⟨_,x.toInCall.ns,fun i y v h1 h2 h3=>?_⟩,fun y c h=>⟨_,x.cell y c h⟩,e0.hok.fresh (x0m _),fun y c h=>?_,fun p hp=>absurd (show p∈([]:List (Addr×Obj)) from hp) (by simp),e0.hok.kept hk,?_⟩
 · exact name_of_addr x.apart (x1F h1) (x1F h2)
 · have hy:scope.names.lookup y=some .cell\/scope.names.lookup y=some .free:=hy;rcases hy with hy | hy
   · exact a6B hy
   · exact absurd rfl (S.nofree _ (x1F hy))
 · exact Nat.le_of_lt (x.above y c (x1F h))
 · have hi:i < vs.length:=by
     unfold start at h2
     by_cases hi:i < vs.length
     · exact hi
     · rw [x1B (by simpa using hi)] at h2;rw [x3c] at h2
       split at h2 <;> cases h2
   have ha:vs[i]?=some v:=by
     unfold start at h2;rw [x0R (by simpa using hi),x0r] at h2;cases e:vs[i]? with
     | none=>rw [e] at h2;cases h2
     | some a=>rw [e] at h2;cases h2;rfl
   obtain⟨u,hu,rv⟩:=r.get ha
   have hp:ps[i]?=some y:=by
     rw [<- S.pre,x2R (by omega)];exact h1
   have ndP:ps.Nodup:=by rw [<- S.pre];exact S.nd.sublist (List.take_sublist _ _)
   refine⟨u,rv,?_⟩;rcases S.par y (x0P hp) with k | k
   · exact .inl ⟨k,a5e ndP hp hu k⟩
   · obtain⟨c,e⟩:=a6B (n:=s.heap.objs.size + 1) k;refine .inr ⟨.inl k,c,e,?_⟩;have q:=x.cell y c e;rw [a5g ndP hp hu (by show scope.names.lookup y≠_;rw [k];decide)] at q;exact q
 · exact e0.hok.fresh (Nat.le_of_lt (x.above y c (x1F h)))
 · unfold start;show _=N.length;rw [x0q,x0g,List.length_replicate];omega
theorem fn_of {CX:CXT}{P:x0A}{w:World}{K:x0a}{mg:Str->Option Value}{base:Heap}{k:Nat}{f:Addr}{name qual:Str}{params:Arguments}{body:List Stmt}{scope:Scope}{dV kV doc pm cdv ct oc:Value}{an od:Option Addr}
   {osl:Array (Option Value)} {N ps:List Str} {sp:Sp} (lk:K.lookup f=some ⟨oc,od,.func (x1Q name qual params body scope dV kV doc pm an cdv ct),osl⟩) (hcd:x4i K cdv qual=true) (S:a0D N ps scope)
   (len:∀vs H Q E,sp vs H Q E->vs.length=ps.length)
   (hbody:∀(A:Around) (outer:List Env) (s:Shared) (H:Hp) (vs:List V) (Q:VK) (E:XK),Room k (A.deeper (envOfC qual scope s.heap.objs.size f cdv))->sp vs H Q E->
     ∃t,PSs (cxOf CX P w K mg base N qual scope f cdv A outer s H E) body t/\t { nx:=fun _ H'=>Q .non H',rt:=Q } (start N vs) H) :
   FnOk P w K mg base CX (k + 1) f (x1Q name qual params body scope dV kV doc pm an cdv ct) ps sp:=by
 refine⟨len,fun A outer s H args us vs Q E hr e0 hb r hsp=>?_⟩;have hl:=len _ _ _ _ hsp;have KX:K.In s.heap:=e0.mod.kin.keeps fun b o e=>(e0.bs b o e).1;have lim:s.heap.NoLimit:=e0.mod.nolimit.keeps fun b o e=>(e0.bs b o e).1
 have hkind:∀y∈ps.zip us,scope.names.lookup y.1=some .local\/(scope.names.lookup y.1=some .cell/\((cellsFrom (s.heap.objs.size + 1) scope.names []).lookup y.1).isSome=true):=fun⟨n,v⟩ hy=>by
   rcases S.par n (x3V hy).1 with q | q
   · exact .inl q
   · exact .inr ⟨q,PySem.W.cellsFrom_some _ _ _ (.inl q)⟩
 refine codeAny_call_function hr.depth (KX _ _ lk) rfl S.co S.gen rfl (PySem.W.codeRec_of KX hcd) (hb _ _ _ _ ?_);refine wpAny_newFunctionEnv_cells S.kind hkind fun env he s1 x=>?_;subst he;refine⟨lim.keeps x.toInCall.keep,codeAny_func ?_⟩;obtain⟨t,ht,hq⟩:=hbody A outer s H vs Q E (hr.deeper _) hsp;have I:Inv (cxOf CX P w K mg base N qual scope f cdv A outer s H E) [] (start N vs) H s1:=a8F S hr.hd e0 hl r x;refine x0S (ht [] s1 (start N vs) H _ I hq) (fun fl s' hs=>?_) fun e s' hs=>hs
 have fin:∀{σ':St} {H':Hp} {v:V} {u:Value},Inv (cxOf CX P w K mg base N qual scope f cdv A outer s H E) [] σ' H' s'->RelV v u->Q v H'->CE outer P w H s Q u s':=
   fun {σ' H' v u} J rv q=>⟨v,H',J.os,J.bare,J.base,J.hok,rv,q⟩
 cases fl with
 | ret u =>
   obtain⟨v,σ',H',J,rv,q⟩:=hs;exact fin J rv q
 | next =>
   obtain⟨σ',H',J,q⟩:=hs;exact fin (v:=V.non) (u:=x1T) J rfl q
 | brk =>
   obtain⟨_,_,_,q⟩:=hs;exact x2v q
 | cont =>
   obtain⟨_,_,_,q⟩:=hs;exact x2v q
section
variable {X:Cx}{x:Str}{p pos:Pos}{e:Expr}{es:List Expr}{t:TA}{id T:String}{r:List V->Hp->VK->Prop}
def tCB (r:List V->Hp->VK->Prop)(t:TA):TE:=fun σ H Q=>t σ H fun vs H1=>r vs H1 Q
theorem a1W (hc:a1J X (.builtin id) r)(hg:Gl X x)(hm:X.mg x=none)(hv:x0U x=some (.builtin id))(ha:PA X (e::es) t)(hn:x≠"__name__":=by decide)(hdb:(x == ("__debug__":Str))=false:=by decide)
   (he:x0T (e::es) X.env=(false,eval e X.env)::x0T es X.env:=by rfl) (hpl:(backTo pos (x0T es X.env)).any (·.1)=false:=by rfl):PE X (.Call (.Name x p) (e::es) [] pos) (tCB r t):=by
 intro pins s σ H Q I h;refine x3b (a2r I hg hm hv ?_ hn hdb);exact PyProof.Rows.callWith_builtin1 (thn (ha pos pins s σ H _ I h) fun us s1 ⟨vs,H1,I1,r1,q1⟩=>hc pins s1 σ H1 vs us Q I1 r1 q1) he hpl
theorem a4M (hc:a1J X (.type T) r)(hg:Gl X x)(hm:X.mg x=none)(hv:x0U x=some (.type T))(ha:PA X (e::es) t)(hn:x≠"__name__":=by decide)(hdb:(x == ("__debug__":Str))=false:=by decide)
   (he:x0T (e::es) X.env=(false,eval e X.env)::x0T es X.env:=by rfl) (hpl:(backTo pos (x0T es X.env)).any (·.1)=false:=by rfl):PE X (.Call (.Name x p) (e::es) [] pos) (tCB r t):=by
 intro pins s σ H Q I h;refine x3b (a2r I hg hm hv ?_ hn hdb);exact x0Y (thn (ha pos pins s σ H _ I h) fun us s1 ⟨vs,H1,I1,r1,q1⟩=>hc pins s1 σ H1 vs us Q I1 r1 q1) he hpl
end
end L2
namespace HT
open PySem PyProof.Rows
section
variable {prog:x0A}{w:World}{A:Around}{E:Value->Shared->Prop}{s:Shared}
theorem cat_tup {t b:Addr}{vs ws:List Value}{Q:Value->Shared->Prop}(ht:IsTup s.heap t vs.toArray)(hb:IsTup s.heap b ws.toArray)(hv:vs≠[])
   (h1:ws=[]->Q (.ref t) s) (h2:ws≠[]->Q (.ref s.heap.objs.size) { s with heap:=s.heap.push { cls:=.type "tuple",data:=.seq (vs++ws).toArray } })
   (hsz:vs.length + ws.length<=x0v):wpAny (model prog w) A (x2G .Add (.ref t) (.ref b)) Q E s:=by
 obtain⟨⟨cls,dd,data,sl⟩,ho,hc,n,hd⟩:=id ht;obtain⟨⟨cls2,dd2,data2,sl2⟩,ho2,hc2,n2,hd2⟩:=id hb;simp only at hc hd hc2 hd2;subst hc hd hc2 hd2;have e:vs.toArray++ws.toArray=(vs++ws).toArray:=by simp
 by_cases hw:ws=[]
 · exact concat_meets ⟨_,ho,rfl⟩ ⟨_,ho2,rfl⟩ noFill_tuple_add seq_tuple_add x3m x3d (x2S _ _)
     (tuple_addW1 t b vs.toArray ws.toArray n n2 dd dd2 sl sl2 (by simpa using hv) (by simp [hw])) ⟨ho,ho2,h1 hw⟩
 · refine concat_meets ⟨_,ho,rfl⟩ ⟨_,ho2,rfl⟩ noFill_tuple_add seq_tuple_add x3m x3d (x2S _ _)
     (tuple_addW2 t b vs.toArray ws.toArray n n2 dd dd2 sl sl2 (by simpa using hv) (by simpa using hw) (by rw [x0n,x0n];exact hsz)) ⟨ho,ho2,?_⟩
   rw [e];exact h2 hw
def sIx (n d:Nat):Option Int->Nat
 | none=>d
 | some v=>if v < 0 then(v + (n:Int)).toNat else min v.toNat n
theorem sIx_none (n d:Nat):sIx n d none=d:=rfl
theorem sIx_nat (n d k:Nat):sIx n d (some (k:Int))=min k n:=by
 show(if(k:Int) < 0 then((k:Int) + (n:Int)).toNat else min (k:Int).toNat n)=min k n;rw [if_neg (by omega),x1i]
theorem sIx_le (n d:Nat)(hd:d<=n)(o:Option Int):sIx n d o<=n:=by
 cases o with
 | none=>exact hd
 | some v =>
   show(if v < 0 then(v + (n:Int)).toNat else min v.toNat n)<=n
   by_cases hv:v < 0
   · rw [if_pos hv];omega
   · rw [if_neg hv];exact Nat.min_le_right _ _
theorem a8X (v:Int)(n d:Nat):(if v < 0 then max (v + (n:Int)) 0 else min v (n:Int))=((sIx n d (some v):Nat):Int):=by
 show(if v < 0 then max (v + (n:Int)) 0 else min v (n:Int))=(((if v < 0 then(v + (n:Int)).toNat else min v.toNat n):Nat):Int)
 by_cases hv:v < 0
 · simp only [if_pos hv];omega
 · simp only [if_neg hv];omega
theorem a7l (lo hi:Option Int)(n:Nat):x1G lo hi 1 (n:Int)=(((sIx n 0 lo:Nat):Int),((sIx n n hi:Nat):Int)):=by
 have h1:¬((1:Int) < 0):=by omega
 unfold x1G;simp only [h1,if_false];refine Prod.ext ?_ ?_
 · cases lo with
   | none=>rfl
   | some v=>exact a8X v n 0
 · cases hi with
   | none=>rfl
   | some v=>exact a8X v n n
theorem a6T (i j:Nat):x0W (i:Int) (j:Int) 1=j - i:=by
 unfold x0W;have h1:(1:Int) > 0:=by omega
 simp only [h1,if_true,Int.ediv_one]
 split <;> omega
theorem a1p {v:Value}{o:Option Int}{Q:Option Int->Shared->Prop}(p:IsPart v o)(h:Q o s):wpAny (model prog w) A (Builtin.Slice.slicePartIndex v) Q E s:=by
 cases p with
 | none=>exact slicePart_none h
 | int i t=>exact slicePart_int h
theorem a1D {sl:Addr}{vl vu:Value}{lo hi:Option Int}{n:Nat}{Q:Int×Int×Nat->Shared->Prop}(hs:s.heap.IsSliceOf sl vl vu .none)(pl:IsPart vl lo)(pu:IsPart vu hi)
   (h:Q (((sIx n 0 lo:Nat):Int),1,sIx n n hi - sIx n 0 lo) s):wpAny (model prog w) A (x1Z (.ref sl) (pure (n:Int))) Q E s:=by
 obtain⟨os,hos,hcs,hds⟩:=id hs;unfold x1Z x4j;refine x0b (x0b (x1k hos hds (x:=vl) rfl (x0b (x1k hos hds (x:=vu) rfl (x0b (x1k hos hds (x:=.none) rfl (x0e ?_)))))));refine x0b (slicePart_none ?_);show wpAny _ _ (if((1:Int) == 0)=true then _ else _) _ _ s;rw [if_neg (by decide)];refine x0b (a1p pl (x0b (a1p pu (x0b (x0e ?_)))));show wpAny _ _ (match x1G lo hi 1 (n:Int) with | (lo,hi)=>pure (lo,(1:Int),x0W lo hi 1)) _ _ s;rw [a7l lo hi n];show wpAny _ _ (pure (((sIx n 0 lo:Nat):Int),(1:Int),x0W ((sIx n 0 lo:Nat):Int) ((sIx n n hi:Nat):Int) 1)) _ _ s;rw [a6T];exact x0e h
theorem a9Q (xs:Array Value)(i k:Nat):((x0j k).filterMap fun(m:Nat)=>xs[((i:Int) + (m:Int) * 1).toNat]?).toArray=((xs.toList.drop i).take k).toArray:=by
 have e:(fun(m:Nat)=>xs[((i:Int) + (m:Int) * 1).toNat]?)=fun m=>xs[i + m]?:=by
   funext m
   have:((i:Int) + (m:Int) * 1).toNat=i + m:=by omega
   rw [this]
 rw [e];have:=pick_run xs i k;rw [List.filterMap_map] at this;have e2:((fun x=>xs[x]?)∘fun x=>i + x)=fun m=>xs[i + m]?:=rfl;rw [e2] at this;rw [this]
theorem getItem_tuple_cut {t sl:Addr}{items:Array Value}{vl vu:Value}{lo hi:Option Int}{Q:Value->Shared->Prop}(ht:IsTup s.heap t items)(hs:s.heap.IsSliceOf sl vl vu .none)(pl:IsPart vl lo)(pu:IsPart vu hi)
   (hw:¬(sIx items.size 0 lo=0/\sIx items.size items.size hi=items.size))
   (h:Q (.ref s.heap.objs.size) { s with heap:=s.heap.push { cls:=.type "tuple",data:=.seq ((items.toList.drop (sIx items.size 0 lo)).take (sIx items.size items.size hi - sIx items.size 0 lo)).toArray } })
   (hsz:items.size<=x0v):wpAny (model prog w) A (x3W (.ref t) (.ref sl)) Q E s:=by
 have htake:sizeOk (.seq ((items.toList.drop (sIx items.size 0 lo)).take (sIx items.size items.size hi - sIx items.size 0 lo)).toArray):=by
   show((items.toList.drop (sIx items.size 0 lo)).take (sIx items.size items.size hi - sIx items.size 0 lo)).toArray.size<=x0v;rw [x0n,x1n,x2u,x1E];omega
 have hj:sIx items.size items.size hi<=items.size:=sIx_le _ _ (x0m _) hi;obtain⟨os,hos,hcs,hds⟩:=id hs;have hTs:s.TypeIs (.ref sl) "slice":=⟨os,hos,hcs⟩;unfold x3W
 try with_reducible refine x1m ?_
 first | refine x0b (x0e ?_) | skip
 refine x0b (wpAny_sequenceKey ht.typeIs (by decide) ?_)
 refine x0b (x0Q (name:=x0i "__getitem__") ht.typeIs x0Z
   (x0X x0Z ht.typeIs entry_tuple_getitem ?_ (args_tuple_getitem _ _)))
 show wpAny _ _ (x2H (.ref t)>>=_) _ _ s;refine x0b (tupleItemsOf_ ht ?_);refine x0b (x2T hTs ?_);rw [if_pos (by decide)];refine x0b (a1D hs pl pu ?_)
 have hno:¬((((sIx items.size 0 lo:Nat):Int) == 0 && (1:Int) == 1 && (sIx items.size items.size hi - sIx items.size 0 lo) == items.size)=true):=by
   intro q;rw [x1s,x1s] at q;have q1:((sIx items.size 0 lo:Nat):Int)=0:=eq_of_beq q.1.1;have q2:sIx items.size items.size hi - sIx items.size 0 lo=items.size:=eq_of_beq q.2;exact hw ⟨by omega,by omega⟩
 show wpAny _ _ (if(((sIx items.size 0 lo:Nat):Int) == 0 && (1:Int) == 1 && (sIx items.size items.size hi - sIx items.size 0 lo) == items.size)=true then _ else _) _ _ s;rw [if_neg hno,a9Q]
 first
   | exact x0b (m:=x1a _) (x0F (x0e ⟨_,rfl,x0e h⟩) htake)
   | exact x0b (m:=x1a _) (x0F (x0b (x0e (x0e ⟨_,rfl,x0e h⟩))) htake)
   | exact x0b (x0b (m:=x1a _) (x0F (x0e (x0e ⟨_,rfl,x0e h⟩)) htake))
   | exact x0b (x0b (m:=x1a _) (x0F (x0e ⟨_,rfl,x0e h⟩) htake))
end
end HT
namespace L2
open PySem PySem.Spec PyProof.Rows
abbrev TO:=St->Hp->(Option Int->Hp->Prop)->Prop
def PO (X:Cx)(e:Option Expr)(t:TO):Prop:=
 ∀ (pins : List (Addr × Obj)) (s : Shared) (σ : St) (H : Hp) (Q : Option Int -> Hp -> Prop), Inv X pins σ H s -> t σ H Q ->
   wpAny (model X.prog X.w) X.A (evalPart e X.env) (fun u s'=>∃o H',Inv X pins σ H' s'/\IsPart u o/\Q o H') X.xe s
def b1v:TO:=fun _ H Q=>Q none H
def tPart (t:TE):TO:=fun σ H Q=>t σ H fun x H1=>∃i,x=.int i/\Q (some i) H1
section
variable {X:Cx}{e:Expr}{te:TE}{lo hi:Option Expr}{tl th:TO}{pos p2:Pos}
theorem b2f:PO X none b1v:=by
 intro pins s σ H Q I h;rw [evalPart_none];exact x0e ⟨none,H,I,.none,h⟩
theorem b2e (h:PE X e te):PO X (some e) (tPart te):=by
 intro pins s σ H Q I hw;rw [evalPart_some];refine thn (h pins s σ H _ I hw) fun u s1 ⟨x,H1,I1,r1,q1⟩=>?_;obtain⟨i,rfl,q⟩:=q1;obtain⟨t,rfl⟩:=r1;exact⟨some i,H1,I1,.int i t,q⟩
def SlR (X:Cx)(r:V->Option Int->Option Int->Hp->VK->Prop):Prop:=
 ∀ (pins : List (Addr × Obj)) (s : Shared) (σ : St) (H : Hp) (x : V) (v vl vu : Value) (lo hi : Option Int) (sl : Addr) (Q : VK), Inv X pins σ H s -> RelV x v -> s.heap.IsSliceOf sl vl vu .none -> IsPart vl lo -> IsPart vu hi -> r x lo hi H Q ->
   ∃T id,typeLookup (.type T) "__getitem__"=pure (some (.builtin id))/\s.TypeIs v T/\wpAny (model X.prog X.w) X.A (x3W v (.ref sl)) (EP X pins σ Q) X.xe s
theorem SlR.or {r r':V->Option Int->Option Int->Hp->VK->Prop}(h:SlR X r)(h':SlR X r'):SlR X (fun x lo hi H Q=>r x lo hi H Q\/r' x lo hi H Q):=by
 intro pins s σ H x v vl vu lo hi sl Q I rx hs pl pu q;rcases q with q | q
 · exact h pins s σ H x v vl vu lo hi sl Q I rx hs pl pu q
 · exact h' pins s σ H x v vl vu lo hi sl Q I rx hs pl pu q
def tSl (r:V->Option Int->Option Int->Hp->VK->Prop)(te:TE)(tl th:TO):TE:=fun σ H Q=>te σ H fun x H1=>tl σ H1 fun l H2=>th σ H2 fun u H3=>r x l u H3 Q
theorem a9U {r:V->Option Int->Option Int->Hp->VK->Prop}(hr:SlR X r)(he:PE X e te)(hl:PO X lo tl)(hu:PO X hi th):PE X (.Subscript e (.Slice lo hi none p2) pos) (tSl r te tl th):=by
 intro pins s σ H Q I h;refine Subscript_ (thn (he pins s σ H _ I h) fun v s1 ⟨x,H1,I1,r1,q1⟩=>?_);refine wpAny_Slice (thn (hl pins s1 σ H1 _ I1 q1) fun vl s2 ⟨l,H2,I2,pl,q2⟩=>thn (hu pins s2 σ H2 _ I2 q2) fun vu s3 ⟨u,H3,I3,pu,q3⟩=>?_);rw [evalPart_none];refine x0e ?_;have I4:Inv X pins σ H3 { s3 with heap:=s3.heap.push { cls:=.type "slice",data:=.fields #[vl,vu,.none] } }:=I3.kept (t':=s3.toks) fun b ob q=>x0c _ q;obtain⟨T,id,hT,ht,hg⟩:=hr pins { s3 with heap:=s3.heap.push { cls:=.type "slice",data:=.fields #[vl,vu,.none] } } σ H3 x v vl vu l u s3.heap.objs.size Q I4 r1 (x4f ..) pl pu q3;show wpAny (model X.prog X.w) X.A (subscriptTail e (.Slice lo hi none p2) v (.ref s3.heap.objs.size)) (EP X pins σ Q) X.xe { s3 with heap:=s3.heap.push { cls:=.type "slice",data:=.fields #[vl,vu,.none] } };exact tail_any (ops:=[.ref s3.heap.objs.size,v]) ht hT hg (by with_unfolding_all rfl)
def cutV (xs:List V)(lo hi:Option Int):List V:=(xs.drop (HT.sIx xs.length 0 lo)).take (HT.sIx xs.length xs.length hi - HT.sIx xs.length 0 lo)
theorem a3p (xs:List V)(lo hi:Option Int):(cutV xs lo hi).length<=xs.length:=by
 unfold cutV;rw [x1n,x2u];omega
def rSlT (K:x0a):V->Option Int->Option Int->Hp->VK->Prop:=fun x lo hi H Q=>∃a xs,x=.ref a/\SqT K H a xs/\
 ¬(HT.sIx xs.length 0 lo=0/\HT.sIx xs.length xs.length hi=xs.length)/\∀p,H p=none->Q (.ref p) (upd H p (.tup (cutV xs lo hi)))
theorem sl_tup:SlR X (rSlT X.K):=by
 intro pins s σ H x v vl vu lo hi sl Q I rx hs pl pu h;obtain⟨a,xs,rfl,hx,hw,q⟩:=h;cases rx;obtain⟨its,r,ht,hz⟩:=I.tuple hx;have hlen:its.toArray.size=xs.length:=by rw [x0n];exact r.length.symm
 refine⟨"tuple",_,PyProof.Rows.slot_tuple_getitem.lookup,ht.typeIs,?_⟩;refine HT.getItem_tuple_cut ht hs pl pu (by rw [hlen];exact hw) ?_ (by rw [hlen];exact hz);rw [hlen];refine⟨.ref s.heap.objs.size,_,I.laid (t':=s.toks) (o:=.tup (cutV xs lo hi)) (fun b ob q=>x0c _ q) (x0m _) ?_,rfl,q _ (I.hok.fresh (x0m _))⟩;exact⟨x1j (a3p xs lo hi) hz,_,(r.drop (HT.sIx xs.length 0 lo)).take (HT.sIx xs.length xs.length hi - HT.sIx xs.length 0 lo),a1T.new _ _⟩
def rCatT (K:x0a):R2:=fun x y H Q=>∃a b xs ys,x=.ref a/\y=.ref b/\SqT K H a xs/\SqT K H b ys/\xs≠[]/\xs.length + ys.length<=x0v/\
 (ys=[]->Q (.ref a) H)/\(ys≠[]->∀p,H p=none->Q (.ref p) (upd H p (.tup (xs++ys))))
theorem Vals.nil_iff {xs:List V}{us:List Value}(r:Vals xs us):us=[]↔xs=[]:=by
 cases r with
 | nil=>simp
 | cons _ _=>simp
theorem b2z:OpR X (x2G .Add) (rCatT X.K):=by
 intro pins s σ H x y v u Q I rx ry h;obtain⟨a,b,xs,ys,rfl,rfl,ha,hb,hx,hz,q1,q2⟩:=h;cases rx;cases ry;obtain⟨its,r1,p1,_⟩:=I.tuple ha;obtain⟨its2,r2,p2,_⟩:=I.tuple hb;refine HT.cat_tup p1 p2 (fun z=>hx (r1.nil_iff.mp z)) (fun z=>⟨.ref a,H,I,rfl,q1 (r2.nil_iff.mp z)⟩) (fun z=>?_) (by rw [<- r1.length,<- r2.length];exact hz);refine⟨.ref s.heap.objs.size,_,I.laid (t':=s.toks) (o:=.tup (xs++ys)) (fun b ob q=>x0c _ q) (x0m _) ?_,rfl,q2 (fun w=>z (r2.nil_iff.mpr w)) _ (I.hok.fresh (x0m _))⟩;exact⟨by rw [x0q];exact hz,_,r1.append r2,a1T.new _ _⟩
end
def ixN (n:Nat)(i:Int):Option Nat:=if 0<=i then(if i < n then some i.toNat else none) else if -(n:Int)<=i then some (i + n).toNat else none
def atI {α:Type}(xs:List α)(i:Int):Option α:=(ixN xs.length i).bind fun j=>xs[j]?
theorem a8C {n:Nat}{i:Int}{j:Nat}(h:ixN n i=some j):seqIndex? i n=some j/\j < n/\-(n:Int)<=i/\i < n:=by
 unfold ixN at h
 by_cases h0:0<=i
 · rw [if_pos h0] at h
   by_cases h1:i < n
   · rw [if_pos h1] at h;have e:i.toNat=j:=x0C h;exact⟨by rw [seqIndex_of h0 h1,e],by omega,by omega,h1⟩
   · rw [if_neg h1] at h;cases h
 · rw [if_neg h0] at h
   by_cases h1:-(n:Int)<=i
   · rw [if_pos h1] at h;have e:(i + n).toNat=j:=x0C h;exact⟨by rw [seqIndex_neg (by omega) h1,e],by omega,h1,by omega⟩
   · rw [if_neg h1] at h;cases h
theorem a5M {α:Type}{xs:List α}{i:Int}{v:α}(h:atI xs i=some v):∃j,seqIndex? i xs.length=some j/\xs[j]?=some v/\j < xs.length/\-(xs.length:Int)<=i/\i < xs.length:=by
 unfold atI at h;cases e:ixN xs.length i with
 | none=>rw [e] at h;cases h
 | some j =>
   rw [e] at h;obtain⟨h1,h2,h3,h4⟩:=a8C e;exact⟨j,h1,h,h2,h3,h4⟩
theorem a9d {α:Type}{xs:List α}{j:Nat}{v:α}(h:xs[j]?=some v):atI xs (j:Int)=some v:=by
 have hj:j < xs.length:=(x0k.mp h).1
 have e:ixN xs.length (j:Int)=some j:=by
   unfold ixN;rw [if_pos (by omega),if_pos (by omega)];simp
 unfold atI;rw [e];exact h
theorem b0B {α:Type}(xs:List α)(v:α):atI (xs++[v]) (-1)=some v:=by
 have hl:(xs++[v]).length=xs.length + 1:=by simp
 have e:ixN (xs++[v]).length (-1)=some xs.length:=by
   unfold ixN;rw [hl,if_neg (by decide),if_pos (by omega)]
   congr 1
   omega
 unfold atI;rw [e];show(xs++[v])[xs.length]?=some v;simp
def a5N (b:Expr):Prop:=∀o i,subscripted b false o i=operate [o,i] (x3W o i)
def IxR (X:Cx)(r:R2):Prop:=
 ∀ (value slice : Expr) (pins : List (Addr × Obj)) (s : Shared) (σ : St) (H : Hp) (x y : V) (v u : Value) (Q : VK), Inv X pins σ H s -> RelV x v -> RelV y u -> r x y H Q ->
   subscripted slice false v u=operate [v,u] (x3W v u)->wpAny (model X.prog X.w) X.A (subscriptTail value slice v u) (EP X pins σ Q) X.xe s
def MtR (X:Cx)(id:String)(r:V->List V->Hp->VK->Prop):Prop:=
 ∀ (pins : List (Addr × Obj)) (s : Shared) (σ : St) (H : Hp) (x : V) (xs : List V) (v : Value) (us : List Value) (Q : VK), Inv X pins σ H s -> RelV x v -> Vals xs us -> r x xs H Q ->
   wpAny (model X.prog X.w) X.A (call (.builtin id) (v::us)) (EP X pins σ Q) X.xe s
section
variable {X:Cx}{a b:Expr}{ta tb:TE}{pos:Pos}
theorem IxR.or {r r':R2}(h:IxR X r)(h':IxR X r'):IxR X (fun x y H Q=>r x y H Q\/r' x y H Q):=by
 intro value slice pins s σ H x y v u Q I rx ry q hs;rcases q with q | q
 · exact h value slice pins s σ H x y v u Q I rx ry q hs
 · exact h' value slice pins s σ H x y v u Q I rx ry q hs
theorem a3u {r:R2}(hr:IxR X r)(ha:PE X a ta)(hb:PE X b tb)(hs:a5N b):PE X (.Subscript a b pos) (tOp r ta tb):=by
 intro pins s σ H Q I h;exact Subscript_ (binT ha hb I h fun v u s2 x y H2 I2 rx ry q=>hr a b pins s2 σ H2 x y v u Q I2 rx ry q (hs _ _))
def rIxL (K:x0a):R2:=fun x y H Q=>∃p xs i v,x=.ref p/\y=.int i/\SqL K H p xs/\atI xs i=some v/\Q v H
def rIxT (K:x0a):R2:=fun x y H Q=>∃p xs i v,x=.ref p/\y=.int i/\SqT K H p xs/\atI xs i=some v/\Q v H
def rIxS:R2:=fun x y H Q=>∃z i c,x=.str z/\y=.int i/\z.length<=x0v/\atI z.cps.toList i=some c/\Q (.str ⟨#[c]⟩) H
theorem a1z:IxR X (rIxL X.K):=by
 intro value slice pins s σ H x y v u Q I rx ry h hs;obtain⟨p,xs,i,z,rfl,rfl,hq,he,q⟩:=h;cases rx;obtain⟨t,rfl⟩:=ry;obtain⟨its,r,pl,hz⟩:=I.list hq;obtain⟨j,h1,h2,h3,h4,h5⟩:=a5M he;obtain⟨w,ew,rw'⟩:=r.get h2;have hl:=r.length;have hn:=a3G;have fin:EP X pins σ Q w s:=⟨z,H,I,rw',q⟩
 by_cases h0:0<=i
 · have hj:i.toNat=j:=by
     rw [seqIndex_of h0 h5] at h1;exact x0C h1
   exact item_listR pl.isList h0 (by omega) (by rw [hj];simpa using ew) fin hs
 · have hj:(i + (its.toArray.size:Int)).toNat=j:=by
     rw [seqIndex_neg (by omega) h4] at h1;rw [x0n,<- hl];exact x0C h1
   exact subscriptTail_builtinR (x:=w) pl.isList.typeIs slot_list_getitem.lookup
     (wpAny_getItem_list_neg (Q:=fun r s'=>r=w/\EP X pins σ Q r s') pl.isList (by omega) (by rw [x0n] <;> omega) (by omega) (by rw [hj];simpa using ew) ⟨rfl,fin⟩) hs
theorem ix_tup:IxR X (rIxT X.K):=by
 intro value slice pins s σ H x y v u Q I rx ry h hs;obtain⟨p,xs,i,z,rfl,rfl,hq,he,q⟩:=h;cases rx;obtain⟨t,rfl⟩:=ry;obtain⟨its,r,pl,hz⟩:=I.tuple hq;obtain⟨j,h1,h2,h3,h4,h5⟩:=a5M he;obtain⟨w,ew,rw'⟩:=r.get h2;have hl:=r.length;have hn:=a3G;have fin:EP X pins σ Q w s:=⟨z,H,I,rw',q⟩
 exact subscriptTail_builtinR (x:=w) pl.typeIs slot_tuple_getitem.lookup
   (getItem_tuple (j:=j) (Q:=fun r s'=>r=w/\EP X pins σ Q r s') pl (by omega) (by omega) (by rw [x0n,<- hl];exact h1) (by simpa using ew) ⟨rfl,fin⟩) hs
theorem ix_str:IxR X rIxS:=by
 intro value slice pins s σ H x y v u Q I rx ry h hs;obtain⟨z,i,c,rfl,rfl,hz,he,q⟩:=h;obtain⟨t,rfl⟩:=rx;obtain⟨t',rfl⟩:=ry;obtain⟨j,h1,h2,h3,h4,h5⟩:=a5M he;have hl:z.cps.toList.length=z.length:=by simp [Str.length]
 rw [hl] at h1 h4 h5;have hn:=a3G
 exact tail_any (typeIs_str s z t) slot_str_getitem.lookup (getItem_str (c:=c) (by
   have e1:decide (i < -(2 ^ 63:Int))=false:=decide_eq_false (by omega);have e2:decide (i>=2 ^ 63)=false:=decide_eq_false (by omega)
   rw [e1,e2,Bool.or_false]) (by rw [h1];simpa using h2) ⟨.str ⟨#[c]⟩,H,I.tok _,⟨_,rfl⟩,q⟩) hs
def rIx (K:x0a):R2:=fun x y H Q=>rIxL K x y H Q\/rIxT K x y H Q\/rIxS x y H Q
theorem b1b:IxR X (rIx X.K):=a1z.or (ix_tup.or ix_str)
theorem a6X (its:List Value)(n j:Nat)(u:Value):x2b (·.setIfInBounds j u) { cls:=.type "list",data:=.seq its.toArray n }={ cls:=.type "list",data:=.seq (its.set j u).toArray n }:=by
 simp [x2b]
theorem Inv.lst {pins:List (Addr×Obj)}{σ:St}{H:Hp}{s:Shared}{p:Addr}{xs:List V}(I:Inv X pins σ H s)(h:H p=some (.lst xs)) :
   ∃(its:List Value) (n:Nat),Vals xs its/\s.heap.get? p=some { cls:=.type "list",data:=.seq its.toArray n }/\xs.length<=x0v:=by
 obtain⟨z,its,n,r,e⟩:=I.hok p _ h;exact⟨its,n,r,e,z⟩
theorem Inv.lstUpd {pins:List (Addr×Obj)}{σ:St}{H:Hp}{s:Shared}{p:Addr}{xs ys:List V}{its its':List Value}{n n':Nat}{f:Obj->Obj}(I:Inv X pins σ H s)(h:H p=some (.lst xs))
   (ho:s.heap.get? p=some { cls:=.type "list",data:=.seq its.toArray n }) (hf:f { cls:=.type "list",data:=.seq its.toArray n }={ cls:=.type "list",data:=.seq its'.toArray n' }) (r:Vals ys its') (hz:ys.length<=x0v) (t:Nat) :
   Inv X pins σ (upd H p (.lst ys)) { s with heap:=s.heap.update p f,toks:=t }:=by
 have e:(s.heap.update p f).get? p=some { cls:=.type "list",data:=.seq its'.toArray n' }:=by
   rw [x3B f ho (by rw [hf] <;> rfl),hf]
 refine I.write (x:=p) (e:=p) (by rw [h];trivial) (.inl rfl) (fun b u hb q=>(Heap.get?_update_other _ _ (Ne.symm hb)).trans q) ⟨_,e⟩ ?_;exact⟨hz,its',n',r,e⟩
def rSetL:V->V->V->Hp->(Hp->Prop)->Prop:=fun o i v H Q=>∃p xs k j,o=.ref p/\i=.int k/\H p=some (.lst xs)/\ixN xs.length k=some j/\Q (upd H p (.lst (xs.set j v)))
theorem a3U:PSet X rSetL:=by
 intro pins s σ H o i v ov iv u Q I ro ri rv h;obtain⟨p,xs,k,j,rfl,rfl,hp,hj,q⟩:=h;cases ro;obtain⟨t,rfl⟩:=ri;obtain⟨its,n,r,ho,hz⟩:=I.lst hp;obtain⟨h1,h2,h3,h4⟩:=a8C hj;have hl:=r.length;have hn:=a3G
 have I':Inv X pins σ (upd H p (.lst (xs.set j v))) { s with heap:=s.heap.update p (x2b (·.setIfInBounds j u)) }:=
   I.lstUpd hp ho (a6X its n j u) (r.set rv j) (by rw [x0x];exact hz) s.toks
 by_cases h0:0<=k
 · have hk:k.toNat=j:=by
     rw [seqIndex_of h0 h4] at h1;exact x0C h1
   exact PySem.W.ki_setAt ho h0 (by omega) (by rw [x0n,<- hl];exact h4) (by rw [hk];exact⟨_,I',q⟩)
 · have hk:(k + (its.toArray.size:Int)).toNat=j:=by
     rw [seqIndex_neg (by omega) h3] at h1;rw [x0n,<- hl];exact x0C h1
   exact PySem.W.ki_setBack ho (by omega) (by rw [x0n,<- hl];exact h3) (by omega) (by rw [hk];exact⟨_,I',q⟩)
theorem a4C (lo hi:Option Int)(n:Nat):(x3p lo hi none n).1=((HT.sIx n 0 lo:Nat):Int)/\(x3p lo hi none n).2.1=((HT.sIx n n hi:Nat):Int)/\(x3p lo hi none n).2.2=1:=by
 refine⟨?_,?_,rfl⟩
 · cases lo with
   | none=>simp [x3p,HT.sIx]
   | some i =>
     simp only [x3p,HT.sIx,Option.getD_none,show(1:Int) > 0 by decide,if_true]
     by_cases h:i < 0
     · simp only [h,if_true] <;> omega
     · simp only [h,if_false] <;> omega
 · cases hi with
   | none=>simp [x3p,HT.sIx]
   | some i =>
     simp only [x3p,HT.sIx,Option.getD_none,show(1:Int) > 0 by decide,if_true]
     by_cases h:i < 0
     · simp only [h,if_true] <;> omega
     · simp only [h,if_false] <;> omega
theorem a3S (its:List Value)(lo hi:Option Int):slicePick its.toArray lo hi none=((its.drop (HT.sIx its.length 0 lo)).take (HT.sIx its.length its.length hi - HT.sIx its.length 0 lo)).toArray:=by
 obtain⟨h1,h2,h3⟩:=a4C lo hi its.toArray.size;unfold slicePick;rw [h1,h2,h3];simp only [sliceRange_one,pick_run,x0n] <;> rfl
def rSlL (K:x0a):V->Option Int->Option Int->Hp->VK->Prop:=fun x lo hi H Q=>∃a xs,x=.ref a/\SqL K H a xs/\∀p,H p=none->Q (.ref p) (upd H p (.lst (cutV xs lo hi)))
theorem b1D:SlR X (rSlL X.K):=by
 intro pins s σ H x v vl vu lo hi sl Q I rx hs pl pu h;obtain⟨a,xs,rfl,hx,q⟩:=h;cases rx;obtain⟨its,r,ht,hz⟩:=I.list hx;have hlen:=r.length;refine⟨"list",_,slot_list_getitem.lookup,ht.isList.typeIs,?_⟩;refine wpAny_getItem_list_slice ht.isList hs pl pu .none (by simp) ?_ (by rw [x0n] <;> omega)
 rw [a3S,<- hlen];refine⟨.ref s.heap.objs.size,_,I.laid (t':=s.toks) (o:=.lst (cutV xs lo hi)) (fun b ob q=>x0c _ q) (x0m _) ?_,rfl,q _ (I.hok.fresh (x0m _))⟩;exact⟨x1j (a3p xs lo hi) hz,_,0,(r.drop (HT.sIx xs.length 0 lo)).take (HT.sIx xs.length xs.length hi - HT.sIx xs.length 0 lo),x0p _ rfl⟩
def a2j:V->Bool
 | .non=>true
 | .bl _=>true
 | .int _=>true
 | .str _=>true
 | _=>false
def eqV:V->V->Bool
 | .non,.non=>true
 | .bl a,.bl b=>a == b
 | .bl a,.int b=>(if a then 1 else 0) == b
 | .int a,.bl b=>a == (if b then 1 else 0)
 | .int a,.int b=>a == b
 | .str a,.str b=>a == b
 | _,_=>false
theorem b1g {A:Around}{s:Shared}{y x:V}{u v:Value}(ry:RelV y u)(rx:RelV x v)(fy:a2j y=true)(fx:a2j x=true):x3R A s u v (eqV y x):=by
 cases y with
 | non =>
   cases ry;cases x with
   | non=>cases rx;exact SeqAt.EqAt.same _
   | bl b=>cases rx;exact SeqAt.EqAt.none_bool b
   | int b=>obtain⟨t,rfl⟩:=rx;exact SeqAt.EqAt.none_int b t
   | str b=>obtain⟨t,rfl⟩:=rx;exact SeqAt.EqAt.none_str b t
   | _=>exact absurd (show false=true from fx) x0J
 | bl a =>
   cases ry;cases x with
   | non=>cases rx;exact SeqAt.EqAt.bool_none a
   | bl b=>cases rx;exact SeqAt.EqAt.bool_bool a b
   | int b=>obtain⟨t,rfl⟩:=rx;exact SeqAt.EqAt.bool_int a b t
   | str b=>obtain⟨t,rfl⟩:=rx;exact SeqAt.EqAt.bool_str a b t
   | _=>exact absurd (show false=true from fx) x0J
 | int a =>
   obtain⟨t',rfl⟩:=ry;cases x with
   | non=>cases rx;exact SeqAt.EqAt.int_none a t'
   | bl b=>cases rx;exact SeqAt.EqAt.int_bool a t' b
   | int b=>obtain⟨t,rfl⟩:=rx;exact SeqAt.EqAt.int_int a t' b t
   | str b=>obtain⟨t,rfl⟩:=rx;exact SeqAt.EqAt.int_str a t' b t
   | _=>exact absurd (show false=true from fx) x0J
 | str a =>
   obtain⟨t',rfl⟩:=ry;cases x with
   | non=>cases rx;exact SeqAt.EqAt.str_none a t'
   | bl b=>cases rx;exact SeqAt.EqAt.str_bool a t' b
   | int b=>obtain⟨t,rfl⟩:=rx;exact SeqAt.EqAt.str_int a t' b t
   | str b=>obtain⟨t,rfl⟩:=rx;exact SeqAt.EqAt.str_str a t' b t
   | _=>exact absurd (show false=true from fx) x0J
 | _=>exact absurd (show false=true from fy) x0J
theorem a2N:a1J X (.builtin "len") (fun xs H Q=>∃p ys,xs=[.ref p]/\(SqL X.K H p ys\/SqT X.K H p ys)/\Q (.int ys.length) H):=by
 intro pins s σ H xs us Q I r h;obtain⟨p,ys,rfl,hq,q⟩:=h;obtain⟨u,rfl,rx⟩:=a4w r;cases rx;have hn:=a3G;rcases hq with hq | hq
 · obtain⟨its,r',pl,hz⟩:=I.list hq;have hlen:=r'.length;exact Calls.call_len_list pl.isList (by simp only [x0n] <;> omega) ⟨.int ys.length,H,I.tok _,⟨s.toks + 1,by rw [x0n,hlen]⟩,q⟩
 · obtain⟨its,r',pl,hz⟩:=I.tuple hq;have hlen:=r'.length;exact len_tuple pl (by simp only [x0n] <;> omega) ⟨.int ys.length,H,I.tok _,⟨s.toks + 1,by rw [x0n,hlen]⟩,q⟩
theorem a5c:a1J X (.builtin "len") (fun xs H Q=>∃z,xs=[.str z]/\z.length<=x0v/\Q (.int z.length) H):=by
 intro pins s σ H xs us Q I r h;obtain⟨z,rfl,hz,q⟩:=h;obtain⟨u,rfl,t,rfl⟩:=a4w r;have hn:=a3G;exact len_str (by omega) ⟨.int z.length,H,I.tok _,⟨_,rfl⟩,q⟩
theorem a1J.or {f:Value}{r r':List V->Hp->VK->Prop}(h:a1J X f r)(h':a1J X f r'):a1J X f (fun xs H Q=>r xs H Q\/r' xs H Q):=by
 intro pins s σ H xs us Q I rs q;rcases q with q | q
 · exact h pins s σ H xs us Q I rs q
 · exact h' pins s σ H xs us Q I rs q
theorem a5b:a1J X (.type "list") (fun xs H Q=>∃p ys,xs=[.ref p]/\(SqL X.K H p ys\/SqT X.K H p ys)/\∀l,H l=none->Q (.ref l) (upd H l (.lst ys))):=by
 intro pins s σ H xs us Q I r h;obtain⟨p,ys,rfl,hq,q⟩:=h;obtain⟨u,rfl,rx⟩:=a4w r;cases rx
 have fin:∀(its:List Value),Vals ys its->ys.length<=x0v->∀(h':Heap) (c':Nat),(∀b o',s.heap.get? b=some o'->h'.get? b=some o')->
     h'.get? s.heap.objs.size=some { cls:=.type "list",dict:=none,data:=.seq its.toArray c',slots:=#[] }->EP X pins σ Q (.ref s.heap.objs.size) { s with heap:=h' }:=fun its r' hz h' c' kp e=>
   ⟨.ref s.heap.objs.size,_,I.laid (t':=s.toks) kp (x0m _) (show a0F X.prog X.w _ h' _ (.lst ys) from⟨hz,its,c',r',e⟩),rfl,q _ (I.hok.fresh (x0m _))⟩
 rcases hq with hq | hq
 · obtain⟨its,r',pl,hz⟩:=I.list hq;have hlen:=r'.length;obtain⟨o,ho,hc,n,hd⟩:=pl.isList;exact call_list_seq p (.inl rfl) ho hc hd (fun h' c' kp e=>fin its r' hz h' c' kp e) (by simp only [x0n] <;> omega)
 · obtain⟨its,r',pl,hz⟩:=I.tuple hq;have hlen:=r'.length;obtain⟨o,ho,hc,n,hd⟩:=pl;exact call_list_seq p (.inr rfl) ho hc hd (fun h' c' kp e=>fin its r' hz h' c' kp e) (by simp only [x0n] <;> omega)
theorem a4r:a1J X (.type "tuple") (fun xs H Q=>∃p ys,xs=[.ref p]/\((SqL X.K H p ys/\∀l,H l=none->Q (.ref l) (upd H l (.tup ys)))\/(SqT X.K H p ys/\Q (.ref p) H))):=by
 intro pins s σ H xs us Q I r h;obtain⟨p,ys,rfl,h⟩:=h;obtain⟨u,rfl,rx⟩:=a4w r;cases rx;rcases h with⟨hq,q⟩ | ⟨hq,q⟩
 · obtain⟨its,r',pl,hz⟩:=I.list hq;have hlen:=r'.length;refine call_tuple_list pl.isList (fun h' kp=>?_) (by simp only [x0n] <;> omega)
   have I1:Inv X pins σ H { s with heap:=h' }:=I.kept (t':=s.toks) kp
   have I2:Inv X pins σ (upd H h'.objs.size (.tup ys)) { s with heap:=h'.push { cls:=.type "tuple",data:=.seq its.toArray } }:=
     I1.laid (t':=s.toks) (fun b o e=>x0c _ e) (x0m _) (show a0F X.prog X.w _ _ _ (.tup ys) from⟨hz,its,r',a1T.new _ _⟩)
   exact⟨.ref h'.objs.size,_,I2,rfl,q _ (I1.hok.fresh (x0m _))⟩
 · obtain⟨its,r',pl,hz⟩:=I.tuple hq;exact call_tuple_same pl ⟨.ref p,H,I,rfl,q⟩
def tyV (K:x0a)(T:String)(x:V)(H:Hp):Prop:=match x with
 | .str _=>T="str"
 | .int _=>T="int"
 | .ref p=>(T="list"/\∃xs,SqL K H p xs)\/(T="tuple"/\((∃o,K.lookup p=some o/\o.cls=.type "tuple"/\o.dict=none)\/∃xs,H p=some (.tup xs)))\/
     (T="dict"/\((∃kvs,H p=some (.dK kvs))\/∃kvs,H p=some (.dT kvs)))\/(T="set"/\∃S n,H p=some (.set S n))
 | _=>False
theorem tyV_is {pins:List (Addr×Obj)}{σ:St}{H:Hp}{s:Shared}{T:String}{x:V}{v:Value}(I:Inv X pins σ H s)(r:RelV x v)(ty:tyV X.K T x H) :
   s.TypeIs v T/\∀a,v=.ref a->∃ob,s.heap.get? a=some ob/\ob.dict=none:=by
 cases x with
 | str z =>
   obtain⟨t,rfl⟩:=r;cases(show T="str" from ty);exact⟨typeIs_str s z t,fun _ e=>nomatch e⟩
 | int i =>
   obtain⟨t,rfl⟩:=r;cases(show T="int" from ty);exact⟨typeIs_int s i t,fun _ e=>nomatch e⟩
 | ref p =>
   cases r;rcases ty with⟨rfl,xs,hq⟩ | ⟨rfl,hk⟩ | ⟨rfl,hk⟩ | ⟨rfl,S,n,hk⟩
   · obtain⟨its,_,pl,_⟩:=I.list hq;refine⟨pl.isList.typeIs,fun a e=>?_⟩;cases e;obtain⟨o,n,e,c,hd,_⟩:=pl;exact⟨o,e,hd⟩
   · rcases hk with⟨o,hk,hc,hd⟩ | ⟨xs,hk⟩
     · refine⟨⟨o,I.kIn p o hk,hc⟩,fun a e=>?_⟩;cases e;exact⟨o,I.kIn _ o hk,hd⟩
     · obtain⟨_,_,_,o,e,c,_⟩:=(show a0F X.prog X.w H s.heap p (.tup xs) from I.hok p _ hk);refine⟨⟨o,e,(x3T c).1⟩,fun a e2=>?_⟩;cases e2;exact⟨o,e,(x3T c).2⟩
   · have z:∃o,s.heap.get? p=some o/\o.ExactDict:=by
       rcases hk with⟨kvs,hk⟩ | ⟨kvs,hk⟩
       · obtain⟨_,_,_,_,o,_,_,e,ex,_⟩:=I.hok p _ hk;exact⟨o,e,ex⟩
       · obtain⟨_,_,_,_,o,_,_,e,ex,_⟩:=I.hok p _ hk;exact⟨o,e,ex⟩
     obtain⟨o,e,ex⟩:=z;refine⟨⟨o,e,ex.1⟩,fun a e2=>?_⟩;cases e2;exact⟨o,e,ex.2.1⟩
   · obtain⟨o,_,_,_,e,ex,_⟩:=I.hok p _ hk;refine⟨⟨o,e,ex.1⟩,fun a e2=>?_⟩;cases e2;exact⟨o,e,ex.2.1⟩
 | _=>exact x2v ty
def tBM (K:x0a)(T:String)(r:V->List V->Hp->VK->Prop)(to:TE)(t:TA):TE:=fun σ H Q=>to σ H fun x H1=>tyV K T x H1/\t σ H1 fun xs H2=>r x xs H2 Q
variable {o e:Expr}{es:List Expr}{to:TE}{t:TA}{name:Str}{apos cpos:Pos}{T id:String}{r:V->List V->Hp->VK->Prop}
theorem pe_bm (pa:PlainAttrs T)(slot:Slot T name id)(hty:typeOf (.builtin id)=pure (.type "method_descriptor"))(hm:MtR X id r)(ho:PE X o to)(ha:PA X (e::es) t)
   (hbase:attributeBase o name X.env (eval o X.env)=eval o X.env:=by rfl)
   (hfew:((backTo cpos (x0T (e::es) X.env)).all (fun x=>!x.1) && (backToKw cpos (keywordEach [] X.env)).all (fun x=>x.1.isSome)
     && decide ((e::es).length + ([]:List Keyword).length + (if([]:List Keyword).isEmpty then 0 else 1) < 30))=true:=by rfl)
   (hline:(apos.endLine == cpos.line)=true:=by rfl) (hs:x0T (e::es) X.env=(false,eval e X.env)::x0T es X.env:=by rfl) (hplain:(backTo cpos (x0T es X.env)).any (·.1)=false:=by rfl) :
   PE X (.Call (.Attribute o name apos) (e::es) [] cpos) (tBM X.K T r to t):=by
 intro pins s σ H Q I h;refine wpAny_Call_method_late hbase hfew hline rfl (thn (ho pins s σ H _ I h) fun v s1 ⟨x,H1,I1,r1,ty,q1⟩=>?_);obtain⟨h1,h2⟩:=tyV_is I1 r1 ty;refine⟨T,id,pa,slot,hty,h1,h2,?_⟩;have hA:=ha cpos pins s1 σ H1 _ I1 q1;rw [hs] at hA ⊢;refine Calls.callWith_builtin (by show(false || (backTo cpos (x0T es X.env)).any (·.1))=false;rw [hplain] <;> rfl) (Calls.evalArgs_plain ?_)
 exact thn hA fun us s2 ⟨vs,H2,I2,r2,q2⟩=>hm pins s2 σ H2 x vs v us Q I2 r1 r2 q2
end
def MtM (X:Cx)(id:String)(r:V->List V->Hp->VK->Prop):Prop:=
 ∀ (pins : List (Addr × Obj)) (s : Shared) (σ : St) (H : Hp) (x : V) (xs : List V) (v : Value) (us : List Value) (Q : VK), Inv X pins σ H s -> RelV x v -> Vals xs us -> r x xs H Q ->
   wpAny (model X.prog X.w) X.A (call (.builtin id) (v::us)) (EP X pins σ Q) X.xe s
theorem Vals.one {x:V}{us:List Value}(h:Vals [x] us):∃u,us=[u]/\RelV x u:=by
 cases h with | cons r h=>cases h;exact⟨_,rfl,r⟩
theorem Vals.two {x y:V}{us:List Value}(h:Vals [x,y] us):∃u v,us=[u,v]/\RelV x u/\RelV y v:=by
 cases h with | cons r h=>cases h with | cons q h=>cases h;exact⟨_,_,rfl,r,q⟩
section
variable {X:Cx}{pins:List (Addr×Obj)}{σ:St}{H:Hp}{s:Shared}{l b:Addr}{xs ys zs:List V}
theorem Inv.lset {its its':List Value}{n:Nat}{f:Array Value->Array Value}{t':Nat}(I:Inv X pins σ H s)(hH:H l=some (.lst xs))
   (e:s.heap.get? l=some { cls:=.type "list",data:=.seq its.toArray n }) (hf:f its.toArray=its'.toArray) (hv:Vals ys its') (hz:ys.length<=x0v) :
   Inv X pins σ (upd H l (.lst ys)) { s with heap:=s.heap.update l (x2b f),toks:=t' }:=by
 have q:=PySem.IsL.update e f;rw [hf] at q;refine I.write (x:=l) (e:=l) (by rw [hH];exact trivial) (.inl rfl) (fun b' u hb hu=>(Heap.get?_update_other s.heap (x2b f) (Ne.symm hb)).trans hu) ⟨_,q⟩ ?_;exact⟨hz,its',_,hv,q⟩
theorem Inv.lnew {its:List Value}{t':Nat}(I:Inv X pins σ H s)(hv:Vals ys its)(hz:ys.length<=x0v) :
   Inv X pins σ (upd H s.heap.objs.size (.lst ys)) { s with heap:=s.heap.push { cls:=.type "list",data:=.seq its.toArray },toks:=t' }:=
 I.laid (fun _ _ q=>x0c _ q) (x0m _) ⟨hz,its,0,hv,x0p _ rfl⟩
theorem Inv.fresh (I:Inv X pins σ H s):H s.heap.objs.size=none:=I.hok.fresh (x0m _)
theorem Inv.lstM (I:Inv X pins σ H s)(hH:H l=some (.lst xs)):xs.length<=x0v/\∃(its:List Value) (n:Nat),Vals xs its/\xs.length=its.length/\s.heap.get? l=some { cls:=.type "list",data:=.seq its.toArray n }:=by
 obtain⟨z,its,n,r,e⟩:=I.hok l _ hH;exact⟨z,its,n,r,r.length,e⟩
theorem b0c {n:Nat}(h:n<=x0v):x2U n=false:=by
 unfold x2U;exact decide_eq_false (by omega)
end
section
variable {X:Cx}
def a7O:V->List V->Hp->VK->Prop:=fun x vs H Q=>∃l xs y,x=.ref l/\vs=[y]/\H l=some (.lst xs)/\xs.length < x0v/\Q .non (upd H l (.lst (xs++[y])))
theorem a3g:MtM X "list.append" a7O:=by
 intro pins s σ H x vs v us Q I rx rv h;obtain⟨l,xs,y,rfl,rfl,hH,hz,q⟩:=h;cases rx;obtain⟨u,rfl,ru⟩:=rv.one;obtain⟨z,its,n,r,hl,e⟩:=I.lstM hH;refine call_meets F.slot_list_append ⟨_,e,rfl⟩ F.entry_list_append (F.args_list_append_2 _ _) (PySem.list_append l its.toArray n u (by rw [x0n];omega)) ⟨e,?_⟩;refine⟨.non,_,I.lset (its':=its++[u]) hH e (by simp) (r.append (.cons ru .nil)) ?_,rfl,q⟩;rw [x0q,x0G];omega
def rCat:R2:=fun x y H Q=>∃l b xs zs,x=.ref l/\y=.ref b/\H l=some (.lst xs)/\H b=some (.lst zs)/\xs.length + zs.length<=x0v/\∀p,H p=none->Q (.ref p) (upd H p (.lst (xs++zs)))
theorem op_cat:OpR X (x2G .Add) rCat:=by
 intro pins s σ H x y v u Q I rx ry h;obtain⟨l,b,xs,zs,rfl,rfl,hH,hB,hz,q⟩:=h;cases rx;cases ry;obtain⟨z,its,n,r,hl,e⟩:=I.lstM hH;obtain⟨z2,its2,n2,r2,hl2,e2⟩:=I.lstM hB;refine PySem.P.add_list e e2 ?_ (by rw [x0n,x0n];omega);have ea:its.toArray++its2.toArray=(its++its2).toArray:=by simp
 rw [ea];exact⟨.ref _,_,I.lnew (t':=s.toks) (r.append r2) (by rw [x0q];omega),rfl,q _ I.fresh⟩
end
end L2
namespace Att
open PySem PySem.W PySem.Calls PyProof.Rows
theorem a3l {P:Params}{h:Heap}:∀(ns:List Int) (vs:List Value),WellAll P h vs (ns.map WData.int)->IntsAre vs ns:=by
 intro ns
 induction ns with
 | nil =>
   intro vs w;rw [x4g] at w;cases w;exact .nil
 | cons n ns ih =>
   intro vs w;rw [x1f] at w;cases w with
   | cons a b =>
     cases a;exact .cons _ _ (ih _ b)
theorem a7J {l:OpenLaw}{n:Nat}(hn:l.most=some n){P:Params}{h:Heap}{args:List WData}{vals:List Value}
   (hpre:l.row.toRowW.claim.pre args=true) (hwl:WellAll P h vals args) :
   ∃a vs ns,vals=[x0I a]/\args=[WData.list (ns.map WData.int)]/\h.get? a=some { cls:=.type "list",data:=.seq vs.toArray }/\IntsAre vs ns/\ns.length<=n:=by
 have hsh:WShape.hasAll [] args [.list .int]=true:=(pre_splitW hpre).1;have hc:l.pre.holds [] { args:=args }=true:=(pre_splitW hpre).2;obtain⟨d,r,rfl,h1,h2⟩:=hasAllW_cons hsh;obtain rfl:=hasAllW_nil h2;obtain⟨xs,rfl,h3⟩:=hasW_list h1;obtain⟨ns,rfl⟩:=items_int h3
 have hlen:ns.length<=n:=by
   unfold OpenLaw.pre at hc
   have h4:(WTm.not (.lt (.lit (.int (n:Int))) (.len (.arg 0)))).holds [] { args:=[.list (ns.map .int)] }=true:=by
     have h4:=(holds_andW hc).1;rw [hn] at h4;exact h4
   have h5:=condW_of h4 (w_not (w_lt w_lit (w_len_list (w_arg rfl))));rw [x0g] at h5;refine x3F fun q=>?_;have q':(n:Int) < ((ns.length:Nat):Int):=by omega
   first
     | (rw [decide_eq_true q'] at h5;exact absurd h5 (by decide))
     | (simp at h5;omega)
 cases hwl with
 | cons w1 w2 =>
   cases w2;cases w1 with
   | list ho hall=>exact⟨_,_,ns,rfl,rfl,ho,a3l ns _ hall,hlen⟩
theorem a8f (l:OpenLaw)(args:List WData):l.row.toRowW.claim.post args (.bool true) args=true:=
 postW_of (r:=l.row.toRowW) (X:=(true == true))
   (show WShape.has [] (.bool true) .bool=true by first | rfl | decide | simp [WShape.has,WShape.arms,WShape.armsAll])
   (show(WTm.eq .res (.lit (.bool true))).value [] { args:=args,res:=some (.bool true),after:=args }=some (.bool (true == true)) from w_eq_bool (w_res rfl) w_lit) rfl
theorem attach_call {l:OpenLaw}{n:Nat}{q:x0A}{loose:List Str}{XP:(Str->Option Value)->Heap->Prop}{YP:World->Heap->Prop}{d:DefRec}
   (hn:l.most=some n) (hdf:d.params.defaults=[])
   (call:∀(w:World) (s₀ s₁:Shared) (mg mb:Str->Option Value) (fa:Addr) (o:Obj) (pm cd doc:Value) (a:Addr) (vs:List Value) (ns:List Int),
     Ground q loose [] XP w s₀ mg mb s₁.heap->YP w s₁.heap->
     s₁.heap.get? fa=some o->o.data=.func (docDef d.name d.params d.body d.scope pm cd doc)->s₁.heap.CodeRec cd d.name->mg d.name=some (.ref fa)->
     s₁.heap.get? a=some { cls:=.type "list",data:=.seq vs.toArray }->IntsAre vs ns->ns.length<=n->s₁.gens=#[]->
     x2J (model l.prog w) callerA (.call (.ref fa) ⟨[.ref a],[]⟩) (fun r s'=>r=.ok (.ret (.bool true))/\OldK s₁.heap s'.heap/\s'.os=s₁.os/\AllBare s'.gens) s₁) :
   WalkO q loose XP YP l.row.toRowW d [] (fun f vs=>PySem.call f vs):=by
 intro w s₀ s₁ mg mb G Y fa o pm cd doc dV kV ho hd hcd hD hmg hg args vals as hpre hlay hrd hwl hlo;obtain rfl:dV=.none:=Dflts.none hD hdf;obtain rfl:kV=.none:=Dflts.noKw hD;obtain⟨a,vs,ns,rfl,rfl,hobj,hints,hlen⟩:=a7J hn hpre hwl;refine enter_call (codeAny_mono (call w s₀ s₁ mg mb fa o pm cd doc a vs ns G Y ho (fd_plain hd) hcd hmg hobj hints hlen hg) fun r s' hq=>?_);obtain⟨rfl,h2,h3,h4⟩:=hq;exact⟨.inl ⟨.bool true,.bool true,[],rfl,fun _=>rfl,.bool true,a8f l _,fun _=>⟨List.Pairwise.nil,fun _ hm=>(nomatch hm)⟩⟩,h2,h3,h4⟩
end Att
namespace L2
open PySem PySem.Spec PyProof.Rows
theorem a7r {vs:List Value}{ns:List Int}(h:IntsAre vs ns):Vals (ns.map V.int) vs:=by
 induction h with
 | nil=>exact .nil
 | cons n t _ ih=>exact .cons ⟨t,rfl⟩ ih
def Only (H:Hp):Prop:=∀b,H b=none\/∃o xs,H b=some (.frz o (.lst xs))
theorem b0j {P:x0A}{w:World}{K:x0a}{mg mb:Str->Option Value}{CX:CXT}{k:Nat}{fa a:Addr}{fd:x3a}{x:Str}{sp:Sp}{s₁:Shared}{vs:List Value}{ns:List Int}
   (KX:K.In s₁.heap) (hns:s₁.heap.Ns x1V mg) (hb:s₁.heap.Ns builtinsNs mb) (hbb:∀x:Str,x≠"__name__"->mb x=x0U x) (hlim:s₁.heap.NoLimit) (hg:s₁.gens=#[])
   (ha:s₁.heap.get? a=some { cls:=.type "list",data:=.seq vs.toArray }) (hi:IntsAre vs ns) (hl:ns.length<=x0v) (hr:Room k callerA)
   (F:∀base:Heap,K.In base->base.Ns x1V mg->FnOk P w K mg base CX k fa fd [x] sp) (hbind:∀(s:Shared) (u:Value),BindsTo s fd ⟨[u],[]⟩ [(x,u)])
   (hsp:∀H:Hp,Only H->SqL K H a (ns.map V.int)->sp [.ref a] H (fun v _=>v=.bl true) fun _ _ _=>False)
   (hCX:∀H e s',CX [] H s₁ (fun _ _ _=>False) e s'->False) :
   x2J (model P w) callerA (.call (.ref fa) ⟨[.ref a],[]⟩) (fun r s'=>r=.ok (.ret (.bool true))/\OldK s₁.heap s'.heap/\s'.os=s₁.os/\AllBare s'.gens) s₁:=by
 have rv:=a7r hi;have lenV:=hi.length
 -- from an abstract heap in which nothing but the script may be tracked
 have core:∀H:Hp,Only H->SqL K H a (ns.map V.int)->HOk P w H s₁.heap->(∀b,H b≠none->b=a)->(H a≠none->K.lookup a=none)->
     x2J (model P w) callerA (.call (.ref fa) ⟨[.ref a],[]⟩) (fun r s'=>r=.ok (.ret (.bool true))/\OldK s₁.heap s'.heap/\s'.os=s₁.os/\AllBare s'.gens) s₁:=by
   intro H hO hS hok hA hK;have base_of:∀{b:Addr} {o:Obj},s₁.heap.get? b=some o->H b=none->(hidT s₁.heap H).get? b=some o:=fun e n=>b0p e n
   have noA:∀{b:Addr} {o:Obj} {es:Array x4m} {ep:Nat},s₁.heap.get? b=some o->o.data=.dict es ep->H b=none:=fun {b o es ep} e d=>by
     cases q:H b with
     | none=>rfl
     | some u =>
       have e':b=a:=hA b (by rw [q];simp);subst e';rw [ha] at e;cases e;have d':Data.seq vs.toArray _=Data.dict es ep:=d;cases d'
   have nsK:∀{b:Addr} {m:Str->Option Value},s₁.heap.Ns b m->(hidT s₁.heap H).Ns b m:=fun {b m} ⟨o,es,ep,e,d,r⟩=>⟨o,es,ep,base_of e (noA e d),d,r⟩
   have hKb:K.In (hidT s₁.heap H):=fun b o e=>base_of (KX b o e) (by
     cases q:H b with
     | none=>rfl
     | some u =>
       have e':b=a:=hA b (by rw [q];simp);subst e'
       rw [hK (by rw [q];simp)] at e;cases e)
   have hM:Mod K mg (hidT s₁.heap H):=⟨hKb,nsK hns,⟨mb,nsK hb,hbb⟩,let ⟨mc,h1,h2⟩:=hlim;⟨mc,nsK h1,h2⟩⟩;have e0:Env0 P w K mg (hidT s₁.heap H) callerA [] s₁ H:=⟨rfl,hM,fun b o e=>b2F e,x2d (a8H _ _),trivial,fun b hb=>absurd (show b∈([]:List Addr) from hb) (by simp),hok,.of_eq hg,(hO x1D).imp id fun⟨o,xs,e⟩=>⟨o,_,e⟩⟩;refine codeAny_mono ((F _ hKb (nsK hns)).run callerA [] s₁ H ⟨[.ref a],[]⟩ [.ref a] [.ref a] _ _ hr e0 (hbind s₁ (.ref a)) (.cons rfl .nil) (hsp H hO hS)) fun r s' h=>?_;cases r with
   | error e=>exact(hCX H e s' h).elim
   | ok fl =>
     cases fl with
     | next=>exact x2v h
     | brk=>exact x2v h
     | cont=>exact x2v h
     | ret u =>
       obtain⟨v,H',os,bare,un,hok',r',q⟩:=h;have q':v=.bl true:=q;subst q';obtain rfl:u=Value.bool true:=r';refine⟨rfl,OldK.of_keep fun b o e=>?_,os,bare⟩;cases q:H b with
       | none=>exact un.keep b o e q (by intro z;exact absurd (show b∈([]:List Addr) from z) (by simp)) (by simp)
       | some u =>
         rcases hO b with z | ⟨ob,xs,z⟩
         · rw [q] at z;cases z
         · have z2:=un.frzs b ob _ z;obtain⟨e1,_⟩:=hok b _ z;obtain⟨e2,_⟩:=hok' b _ z2;rw [e] at e1;cases e1;exact e2
 cases hk:K.lookup a with
 | some o =>
   -- the script is one of the module's own objects
   have e:=KX a o hk;rw [ha] at e;cases e;refine core (fun _=>none) (fun _=>.inl rfl) (.inr ⟨_,vs.toArray,_,hk,rfl,rfl,rfl,by rw [x0n,lenV];exact hl,by simpa using rv⟩) (fun b u z=>by have z':(none:Option HO)=some u:=z;cases z') (fun b z=>absurd rfl z) fun z=>absurd rfl z
 | none =>
   refine core (fun b=>if b=a then some (.frz { cls:=.type "list",data:=.seq vs.toArray } (.lst (ns.map V.int))) else none) (fun b=>?_) (.inl (.inr ⟨{ cls:=.type "list",data:=.seq vs.toArray },if_pos rfl⟩)) (fun b u z=>?_) (fun b z=>?_) fun _=>hk
   · by_cases hb:b=a
     · exact .inr ⟨_,_,if_pos hb⟩
     · exact .inl (if_neg hb)
   · by_cases hb:b=a
     · have z':=(if_pos hb).symm.trans z;cases z';subst hb;exact⟨ha,by rw [x0g];exact hl,vs,_,rv,ha⟩
     · have z':=(if_neg hb).symm.trans z;cases z'
   · by_cases hb:b=a
     · exact hb
     · exact absurd (if_neg hb) z
abbrev KOf {K:x0a}{h:Heap}(_:K.In h):x0a:=K
theorem b1q {l:PySem.W.OpenLaw}{n k:Nat}{q:x0A}{loose:List Str}{XP:(Str->Option Value)->Heap->Prop}{YP:World->Heap->Prop}{d:DefRec}{K:Params->x0a}{CX:World->CXT}{sp:World->Sp}{x:Str}
   (hn:l.most=some n) (hn2:n<=x0v) (hdf:d.params.defaults=[]) (hr:Room k callerA)
   (hY:∀(w:World) (h:Heap),YP w h->(K w.params).In h)
   (F:∀(w:World) (mg:Str->Option Value) (fa:Addr) (h:Heap),(K w.params).In h->h.Ns x1V mg->mg d.name=some (.ref fa)->
     ∃ fd : x3a, (∀ (s : Shared) (u : Value), BindsTo s fd ⟨[u], []⟩ [(x, u)]) /\
       ∀base:Heap,(K w.params).In base->base.Ns x1V mg->FnOk l.prog w (K w.params) mg base (CX w) k fa fd [x] (sp w))
   (hsp:∀(w:World) (H:Hp) (a:Addr) (ns:List Int),ns.length<=n->Only H->SqL (K w.params) H a (ns.map V.int)->sp w [.ref a] H (fun v _=>v=.bl true) fun _ _ _=>False)
   (hCX:∀(w:World) (H:Hp) (s:Shared) (e:Value) (s':Shared),CX w [] H s (fun _ _ _=>False) e s'->False) :
   PySem.W.WalkO q loose XP YP l.row.toRowW d [] (fun f vs=>PySem.call f vs):=by
 refine Att.attach_call hn hdf fun w s₀ s₁ mg mb fa o pm cd doc a vs ns G Y ho hd hcd hmg hobj hints hlen hg=>?_;have KX:=hY w _ Y;obtain⟨fd,hb,hF⟩:=F w mg fa _ KX G.T.g hmg;exact b0j KX G.T.g G.T.b G.T.builtins G.T.nolimit hg hobj hints (x1j hlen hn2) hr hF hb (fun H hO hS=>hsp w H a ns hlen hO hS) fun H e s'=>hCX w H s₁ e s'
def a1B (s:Stmt):Arguments:=match s with
 | .FunctionDef _ a _ _ _ _ _ _ _ _=>a
 | _=>{ posonlyargs:=[],args:=[],vararg:=none,kwonlyargs:=[],kw_defaults:=[],kwarg:=none,defaults:=[] }
def a0U (s:Stmt):List Stmt:=match s with
 | .FunctionDef _ _ b _ _ _ _ _ _ _=>b
 | _=>[]
def a0i (s:Stmt):Scope:=match s with
 | .FunctionDef _ _ _ _ _ _ sc _ _ _=>sc
 | _=>{ kind:=.function,names:=[],isGenerator:=false,isCoroutine:=false }
abbrev CX0:CXT:=fun _ _ _ _ _ _=>False
abbrev E0:XK:=fun _ _ _=>False
theorem pass0 {X:Cx}:a9i CX0 X E0:=fun _ _ _ _ _ _ _ h=>h.elim
structure Fun (K:x0a)(x qual:Str)(st:Stmt)(f:Addr)(fd:x3a):Prop where
 ex:∃(oc:Value) (od:Option Addr) (kV doc pm:Value) (an:Option Addr) (cdv ct:Value) (osl:Array (Option Value)),
   fd=x1Q x qual (a1B st) (a0U st) (a0i st) .none kV doc pm an cdv ct/\K.lookup f=some ⟨oc,od,.func fd,osl⟩/\x4i K cdv qual=true
 kp:x3x K (.ref f)=true
section
variable {P:x0A}{w:World}{K:x0a}{mg:Str->Option Value}{base:Heap}
variable {qual:Str}
theorem Fun.ok {x:Str}{st:Stmt}{f:Addr}{fd:x3a}{N ps:List Str}{k:Nat}{sp:Sp}(F:Fun K x qual st f fd)(S:a0D N ps (a0i st))(len:∀vs H Q E,sp vs H Q E->vs.length=ps.length)
   (hbody:∀(cdv:Value) (A:Around) (outer:List Env) (s:Shared) (H:Hp) (vs:List V) (Q:VK) (E:XK),Room k (A.deeper (envOfC qual (a0i st) s.heap.objs.size f cdv))->sp vs H Q E->
     ∃t,PSs (cxOf CX0 P w K mg base N qual (a0i st) f cdv A outer s H E).nox (a0U st) t/\t { nx:=fun _ H'=>Q .non H',rt:=Q } (start N vs) H):FnOk P w K mg base CX0 (k + 1) f fd ps sp:=by
 obtain⟨oc,od,kV,doc,pm,an,cdv,ct,osl,rfl,lk,hcd⟩:=F.ex;refine fn_of lk hcd S len fun A outer s H vs Q E hr hsp=>?_;obtain⟨t,h,q⟩:=hbody cdv A outer s H vs Q E hr hsp;exact⟨t,h.nox,q⟩
theorem Fun.binds {x:Str}{st:Stmt}{f:Addr}{fd:x3a}{ps:List Str}(F:Fun K x qual st f fd)
   (h:∀(kV doc pm:Value) (an:Option Addr) (cdv ct:Value) (us:List Value),us.length=ps.length->bindArgs (x1Q x qual (a1B st) (a0U st) (a0i st) .none kV doc pm an cdv ct) ⟨us,[]⟩=pure (ps.zip us)):a7n K fd ps []:=by
 obtain⟨oc,od,kV,doc,pm,an,cdv,ct,osl,rfl,lk,hcd⟩:=F.ex;exact .all (h kV doc pm an cdv ct)
theorem fun_mk {x:Str}{st:Stmt}{f:Addr}{oc:Value}{od an:Option Addr}{osl:Array (Option Value)}{kV doc pm cdv ct:Value}(l:K.lookup f=some ⟨oc,od,.func (x1Q x qual (a1B st) (a0U st) (a0i st) .none kV doc pm an cdv ct),osl⟩)
   (c:x4i K cdv qual=true) (k:x3x K (.ref f)=true):Fun K x qual st f (x1Q x qual (a1B st) (a0U st) (a0i st) .none kV doc pm an cdv ct):=⟨⟨oc,od,kV,doc,pm,an,cdv,ct,osl,rfl,l,c⟩,k⟩
end
theorem a8G {A:Around}{k:Nat}(hr:Room k A):A.units + 1 < cLine:=x3e (Nat.add_le_add_left (by decide:1<=64) _) hr.units
section
variable {X:Cx}
theorem pv (i:Nat){x:Str}{pos:Pos}(hN:X.N[i]?=some x:=by rfl)(hv:Vis X.env.scope x:=by first | exact Or.inl rfl | exact Or.inr (Or.inl rfl) | exact Or.inr (Or.inr rfl))(hd:(x == ("__debug__":Str))=false:=by decide)
   (hcd:(x == ("__classdict__":Str))=false:=by decide):PE X (.Name x pos) (tVar i):=b0T hN hv hd hcd
end
theorem ite2 {c A B:Prop}[Decidable c](h1:c->A)(h2:¬c->B):if c then A else B:=by
 by_cases h:c
 · rw [if_pos h];exact h1 h
 · rw [if_neg h];exact h2 h
def Same (H H':Hp):Prop:=∀b o,H b=some o->H' b=some o
theorem Same.refl (H:Hp):Same H H:=fun _ _ h=>h
end L2
end
section
namespace L2
open PySem PySem.Spec PyProof.Rows
variable {iter:Expr}{cl:List (Str×Addr)}{cs:List (Option Nat)}{fp:List Addr}{J:It}{tn:Nat->Heap->Prop}{Y:Cx}{W:Nat->Nat->St->Hp->Prop}{tt:TT}
theorem a5I {prog:x0A}{w:World}{A:Around}{R:Result->Shared->Prop}{s:Shared}{elt target:Expr}{ifs:List Expr}{scope:Scope}{pos:Pos}{it acc:Value}{env:Env}(I:Nat->Shared->Prop)
   (turn:∀n s,I n s->wpAny (model prog w) A (pyNext it) (fun r s₁=>match r with
     | none=>R (.ok .next) s₁
     | some v=>wpAny (model prog w) A (x1I target it v) (fun _ s₁'=>wpAny (model prog w) A (assign target env v) (fun _ s₂=>
         wpAny (model prog w) A (forIn ifs true fun c r=>if r=true then do let ok ← isTrue c env (eval c env);pure (x1y ok) else pure (x1y r)) (fun ok s₃=>
           if ok=true then wpAny (model prog w) A (eval elt env) (fun x s₄=>
             wpAny (model prog w) A (call (.builtin "list.append") [acc,x]) (fun _ s₅=>∃m,m < n/\I m s₅) (fun _ _=>False) s₄) (fun _ _=>False) s₃
           else ∃m,m < n/\I m s₃) (fun _ _=>False) s₂) (fun _ _=>False) s₁') (fun _ _=>False) s₁) (fun _ _=>False) s)
   (n:Nat) (h:I n s) :
   x2J (model prog w) A (.compLoop (.ListComp elt [⟨target,iter,ifs,0⟩] scope pos) 0 it acc env) R s:=by
 refine codeAny_loop rfl I (fun n s hI=>?_) n h;show wpAny _ A ((compTurn (.ListComp elt [⟨target,iter,ifs,0⟩] scope pos) 0 it acc env).onRaise (fun x=>do noteFrame x env;theTreesLotGoes x)) _ _ s;refine wpAny_noted ?_;rw [compTurn_list];refine x0b (x1M (x0b (x0S (turn n s hI) (fun r s₁ h₁=>?_) fun _ _ h'=>h'.elim)));cases r with
 | none=>exact x0e h₁
 | some v =>
   refine x0b (x0S h₁ (fun _ s₁' h₁'=>?_) fun _ _ h'=>h'.elim);refine x0b (x0S h₁' (fun _ s₂ h₂=>x0b (x0S h₂ (fun ok s₃ h₃=>?_) fun _ _ h'=>h'.elim)) fun _ _ h'=>h'.elim);cases ok with
   | false=>exact x0e ⟨rfl,h₃⟩
   | true =>
     exact x0b (x0b (x0S h₃ (fun x s₄ h₄=>x0b (x0S h₄ (fun _ s₅ h₅=>x0e (x0e ⟨rfl,h₅⟩)) fun _ _ h'=>h'.elim)) fun _ _ h'=>h'.elim))
def a0l (X:Cx)(scope:Scope)(cl:List (Str×Addr))(N:List Str)(fp:List Addr)(C:Addr)(s:Shared)(H:Hp):Cx where
 prog:=X.prog
 w:=X.w
 K:=X.K
 mg:=X.mg
 base:=X.base
 A:=X.A
 N:=N
 s₀:=s
 H₀:=H
 env:=compEnvC scope cl C X.env
 outer:=X.stack
 stack:=X.stack
 ex:=fp
 fn:=fun _=>false
 calm:=X.calm
 pn:=X.pn
 xe:=fun _ _=>False
structure a1a (X:Cx)(scope:Scope)(cl:List (Str×Addr))(N:List Str)(cs:List (Option Nat)):Prop where
 clos:closureFor scope X.env=pure cl
 kind:scope.kind=.function
 nocell:∀y∈scope.names,y.2≠.cell
 names:∀y∈scope.names,y.2=.local->scope.names.lookup y.1=some .local
 sub:∀x c,cl.lookup x=some c->X.env.cells.lookup x=some c
 has:∀x,((relabel scope X.env).names.lookup x=some .cell\/(relabel scope X.env).names.lookup x=some .free)->∃c,cl.lookup x=some c
 len:cs.length=N.length
 cap:∀(k j:Nat) (x:Str),cs[k]?=some (some j)->N[k]?=some x->X.N[j]?=some x/\Vis X.env.scope x/\X.env.kindOf x≠some .local/\(∃c,cl.lookup x=some c)/\((relabel scope X.env).names.lookup x=some .cell\/(relabel scope X.env).names.lookup x=some .free)
def a9f:List (Str×Addr)->List (Str×Addr)->Prop
 | [],_=>True
 | y::r,cells=>cells.lookup y.1=some y.2/\a9f r cells
theorem a9f.get:∀{cl cells:List (Str×Addr)},a9f cl cells->∀x c,cl.lookup x=some c->cells.lookup x=some c
 | [],_,_,_,_,h=>by cases h
 | (y, d) :: r, cells, ⟨h1, h2⟩, x, c, h => by
   rw [List.lookup_cons] at h;cases e:x == y with
   | true =>
     rw [e] at h;have ey:x=y:=by simpa using e
     cases h;rw [ey];exact h1
   | false=>rw [e] at h;exact a9f.get h2 x c h
theorem a0Z {X:Cx}{scope:Scope}{N:List Str}(clos:closureFor scope X.env=pure cl)(kind:scope.kind=.function)(nocell:(scope.names.all fun y=>!(y.2 == .cell))=true)
   (names:(scope.names.all fun y=>!(y.2 == .local) || scope.names.lookup y.1 == some .local)=true) (sub:a9f cl X.env.cells)
   (has:((relabel scope X.env).names.all fun y=>!(y.2 == .cell || y.2 == .free) || (cl.lookup y.1).isSome)=true) (len:cs.length=N.length)
   (cap:((cs.zip N).all fun y=>match y.1 with | none=>true | some j=>X.N[j]? == some y.2 && (X.env.scope.names.lookup y.2 == some .cell || X.env.scope.names.lookup y.2 == some .free) && (cl.lookup y.2).isSome &&
     ((relabel scope X.env).names.lookup y.2 == some .cell || (relabel scope X.env).names.lookup y.2 == some .free))=true):a1a X scope cl N cs:=by
 refine⟨clos,kind,fun y hy=>?_,fun y hy e=>?_,sub.get,fun x hx=>?_,len,fun k j x hk hN=>?_⟩
 · have:=x0z.mp nocell y hy;intro z;rw [z] at this;cases this
 · have:=x0z.mp names y hy;rw [e] at this
   simpa using this
 · rcases hx with hx | hx
   · have:=x0z.mp has _ (x1F hx);exact x1K.mp (by simpa using this)
   · have:=x0z.mp has _ (x1F hx);exact x1K.mp (by simpa using this)
 · have hz:(cs.zip N)[k]?=some (some j,x):=by rw [List.getElem?_zip_eq_some];exact⟨hk,hN⟩
   have:=x0z.mp cap _ (x0P hz);simp only [x1s,Bool.or_eq_true,beq_iff_eq] at this;obtain⟨⟨⟨h1,h2⟩,h3⟩,h4⟩:=this;refine⟨h1,?_,?_,x1K.mp h3,h4⟩
   · rcases h2 with h2 | h2
     · exact .inr (.inl h2)
     · exact .inr (.inr h2)
   · intro z;have z':X.env.scope.names.lookup x=some .local:=z;rw [z'] at h2;rcases h2 with h2 | h2 <;> cases h2
def a7j (cs:List (Option Nat))(σ:St):St:=cs.map fun o=>o.bind fun j=>(σ[j]?).bind id
def PIf (X:Cx)(ifs:List Expr)(t:TT):Prop:=
 ∀ (pins : List (Addr × Obj)) (s : Shared) (σ : St) (H : Hp) (Q : Bool -> Hp -> Prop), Inv X pins σ H s -> t σ H Q ->
   wpAny (model X.prog X.w) X.A (forIn ifs true fun c r=>if r=true then do let ok ← isTrue c X.env (eval c X.env);pure (x1y ok) else pure (x1y r)) (TP X pins σ Q) X.xe s
def tTru:TT:=fun _ H Q=>Q true H
theorem b2h {X:Cx}:PIf X [] tTru:=fun pins s σ H Q I h=>wpAny_tests_nil ⟨H,I,h⟩
def CompW (J:It)(g:TG)(tt:TT)(te:TE)(Q:VK)(D:Addr)(σc:St)(H1:Hp):Prop:=∃W:Nat->Nat->St->Hp->Prop,(∃m,W 0 m σc H1)/\
 ∀i m σ' H',W i m σ' H'->(J.stop i H'/\Q (.ref D) H')\/(J.go i H'/\∀x H2,J.yld i H' x H2->g x σ' H2 fun σ3 H3=>tt σ3 H3 fun b H4=>
    if b=true then te σ3 H4 fun v H5=>∃ys,H5 D=some (.lst ys)/\ys.length < x0v/\∃m',m' < m/\W (i + 1) m' σ3 (upd H5 D (.lst (ys++[v])))
    else ∃m',m' < m/\W (i + 1) m' σ3 H4)
def tComp (cs:List (Option Nat))(wi:TI)(g:TG)(tt:TT)(te:TE):TE:=fun σ H Q=>wi σ H fun J H1=>∀D,H1 D=none->CompW J g tt te Q D (a7j cs σ) (upd H1 D (.lst []))
theorem a4m {X:Cx}{scope:Scope}{N:List Str}(S:a1a X scope cl N cs){pins:List (Addr×Obj)}{σ:St}{H:Hp}{s:Shared}{h₁:Heap}{tk:Nat}
   (I:Inv X pins σ H s) (f2:∀b∈fp,FpOk X pins H b) (ho:∀b∈fp,∃o,s.heap.get? b=some o)
   (old:∀b o,s.heap.get? b=some o->h₁.get? b=some o) (hns:h₁.Ns (s.heap.objs.size + 1) (fun x=>([]:List (Str×Value)).reverse.lookup x))
   (hD:h₁.get? s.heap.objs.size=some { cls:=.type "list",data:=.seq ([]:List Value).toArray }) :
   Inv (a0l X scope cl N fp (s.heap.objs.size + 1) s H) pins (a7j cs σ) (upd H s.heap.objs.size (.lst [])) { s with heap:=h₁,toks:=tk }:=by
 have lt:∀b o,s.heap.get? b=some o->b < s.heap.objs.size:=fun b o e=>x0l e;have neC:∀b o,s.heap.get? b=some o->b≠s.heap.objs.size + 1:=fun b o e=>x0u (x1p (lt b o e));have neD:∀b o,s.heap.get? b=some o->b≠s.heap.objs.size:=fun b o e=>x0u (lt b o e);have nstk:∀b,b≠X.env.locals->b∉X.fs->b∉frs X.stack:=fun b h1 h2 hb=>(x0s.mp (I.stkSub b hb)).elim h1 h2
 have cellO:∀x c,cl.lookup x=some c->∃v o,s.heap.get? c=some o/\s.heap.IsCell c v:=fun x c e=>by
   obtain⟨v,q⟩:=I.cell x c (S.sub x c e);obtain⟨o,h1,_⟩:=id q;exact⟨v,o,h1,q⟩
 refine⟨⟨I.ok.mod,S.kind,I.ok.glob,I.ok.blt,x3X _,fun x y c h1 h2=>I.ok.inj x y c (S.sub x c h1) (S.sub y c h2),fun x hx=>S.has x hx,fun x c hx=>(by cases hx),I.ok.hd,I.ok.frames,.inl rfl,fun b hb=>?_,I.bs,x1j I.ok.bsz I.sz,fun b o e hb=>?_,fun b hb=>?_,I.stack,I.stkFree,I.nos⟩,
   rfl,I.bare,Un.laid old (x0m _) I.fresh I.bigS,⟨_,hns,fun i x v e1 e2 e3=>?_⟩,fun x c e=>?_,?_,fun x c e=>?_,fun p hp=>?_,I.hok.laid old (x0m _) ⟨x1z _,[],0,.nil,hD⟩,?_⟩
 · obtain⟨o,e⟩:=ho b hb;exact⟨neC b o e,fun x c ec=>(f2 b hb).2.2.2.2.1 x c (S.sub x c ec)⟩
 · rcases(f2 b hb).2.2.2.1 with z | z
   · exact I.ok.noex b o e z
   · exact absurd (x0y (x0l e) (x1j I.ok.bsz z)) (x2c _)
 · exact nstk b (f2 b hb).2.1 (f2 b hb).2.2.1
 · have e2':(cs.map fun o=>o.bind fun j=>(σ[j]?).bind id)[i]?=some (some v):=e2;rw [x0r] at e2';cases ec:cs[i]? with
   | none=>rw [ec] at e2';cases e2'
   | some o =>
     rw [ec] at e2';cases o with
     | none=>cases e2'
     | some j =>
       have e2'':(σ[j]?).bind id=some v:=by simpa using e2'
       cases es:σ[j]? with
       | none=>rw [es] at e2'';cases e2''
       | some ov =>
         rw [es] at e2'';have e4:ov=some v:=by simpa using e2''
         subst e4;obtain⟨hN,hv,hnl,⟨c,hc⟩,hk⟩:=S.cap i j x ec e1;obtain⟨m,hn,hl⟩:=I.loc;obtain⟨u,r,l⟩:=hl j x v hN es hv;refine⟨u,r,?_⟩;rcases l with⟨hk',_⟩ | ⟨_,c',hc',z⟩
         · exact absurd hk' hnl
         · have ecc:c'=c:=by
             have:=S.sub x c hc;rw [hc'] at this;exact x0C this
           subst ecc;obtain⟨o,h1,h2⟩:=z;exact .inr ⟨hk,c',hc,⟨o,old _ o h1,h2⟩⟩
 · obtain⟨v,o,h1,o',h2,h3⟩:=cellO x c e;exact⟨v,o',old _ o' h2,h3⟩
 · show upd H s.heap.objs.size (.lst []) (s.heap.objs.size + 1)=none;rw [a0f (Nat.succ_ne_self _)];exact I.hok.fresh (x3X _)
 · obtain⟨v,o,h1,_⟩:=cellO x c e;rw [a0f (neD c o h1)];exact I.freeC x c (S.sub x c e)
 · obtain⟨e,n,ne,nf,d⟩:=I.pin p hp;exact⟨old _ _ e,by rw [a0f (neD _ _ e)];exact n,neC _ _ e,nstk _ ne nf,d⟩
 · show(cs.map _).length=N.length;rw [x0g];exact S.len
theorem Inv.uncomp {X:Cx}{scope:Scope}{N:List Str}{pins:List (Addr×Obj)}{σ σ':St}{H H':Hp}{s s':Shared}{h':Heap}
   (I:Inv X pins σ H s) (f2:∀b∈fp,FpOk X pins H b)
   (J:Inv (a0l X scope cl N fp (s.heap.objs.size + 1) s H) pins σ' H' s') (hs:∀b,b≠s.heap.objs.size + 1->h'.get? b=s'.heap.get? b) :
   Inv X pins σ H' { s' with heap:=h' }:=by
 obtain⟨hh,g,d,t,os'⟩:=s';obtain rfl:os'=s.os:=J.os;have U:Un (frs X.stack) fp H H' s.heap hh:=J.base;have old:∀b o,s.heap.get? b=some o->b≠s.heap.objs.size + 1:=fun b o e=>x0u (x1p (x0l e));have hs':∀b,b≠s.heap.objs.size + 1->h'.get? b=hh.get? b:=hs
 have trC:∀b u,H' b=some u->b≠s.heap.objs.size + 1:=fun b u e z=>by
   have q:H' (s.heap.objs.size + 1)=none:=J.free;rw [z,q] at e;cases e
 show Inv X pins σ H' { s with heap:=h',gens:=g,drawn:=d,toks:=t };refine I.call (h':=h') (g':=g) (d':=d) (t':=t) (ch:=fp) ⟨fun b o e n hb hx=>?_,fun b o e n hb hx=>?_,U.free,fun b o e hx=>?_,U.tups,U.frzs,U.tbls,U.sys⟩ (fun b u e=>?_) J.bare fun b hb=>?_
 · rw [hs' b (old b o e)];exact U.keep b o e n hb hx
 · rw [hs' b (old b o e)];exact U.slot b o e n hb hx
 · rw [hs' b (old b o e)];exact U.there b o e hx
 · refine(J.hok b u e).stay (fun c v hc q=>?_) (fun _ q=>q) fun _ _ q=>q
   have ne:c≠s.heap.objs.size + 1:=by
     rcases hc with z | z
     · rw [z];exact trC b u e
     · exact trC c _ z
   rw [hs' c ne];exact q
 · exact⟨(f2 b hb).2.2.2.1,(f2 b hb).2.1,(f2 b hb).2.2.2.2.1,(f2 b hb).2.2.2.2.2⟩
theorem a4v {P:x0A}{w:World}{K:x0a}{tg:Expr}{it:Addr}{pins:List (Addr×Obj)}{i n:Nat}{s5 s7:Shared}{σ7:St}{H7:Hp}(T:Turn P w K tg J fp it tn)(st5:tn (i + 1) s5.heap)(I7:Inv Y (pins++a2L fp s5.heap) σ7 H7 s7)(n7:∃m',m' < n/\W (i + 1) m' σ7 H7):∃m,m < n/\∃i σ' H',Inv Y pins σ' H' s7/\tn i s7.heap/\(∀b∈fp,H' b=none)/\W i m σ' H':=by
 obtain⟨m',hm,w7⟩:=n7;have pn:∀b∈fp,∀o,s5.heap.get? b=some o->_:=fun b hb o e=>I7.pin (b,o) (x0M _ (x0M _ (a1Y hb e)));refine⟨m',hm,i + 1,σ7,H7,I7.unpinned,T.keep _ _ _ st5 fun b hb o e=>(pn b hb o e).1,fun b hb=>?_,w7⟩;obtain⟨o,e,d⟩:=T.obj _ _ st5 b hb;exact(pn b hb o e).2.1
theorem a7w {pins:List (Addr×Obj)}{tg elt:Expr}{ifs:List Expr}{g:TG}{te:TE}{it D:Addr}{N:St->Hp->Prop}{Rn:Shared->Prop}(T:Turn Y.prog Y.w Y.K tg J fp it tn)(hc:Y.calm=true)(stat:∀{H':Hp},(∀b∈fp,H' b=none)->∀b∈fp,FpOk Y pins H' b)(hg:PG Y tg g)(hf:PIf Y ifs tt)(he:PE Y elt te)(fin:∀s σ H,Inv Y pins σ H s->N σ H->Rn s)
   (turn:∀i m σ' H',W i m σ' H'->(J.stop i H'/\N σ' H')\/(J.go i H'/\∀x H2,J.yld i H' x H2->g x σ' H2 fun σ3 H3=>tt σ3 H3 fun b H4=>
    if b=true then te σ3 H4 fun v H5=>∃ys,H5 D=some (.lst ys)/\ys.length < x0v/\∃m',m' < m/\W (i + 1) m' σ3 (upd H5 D (.lst (ys++[v])))
    else ∃m',m' < m/\W (i + 1) m' σ3 H4)) (n:Nat) (s:Shared) (hI:∃i σ' H',Inv Y pins σ' H' s/\tn i s.heap/\(∀b∈fp,H' b=none)/\W i n σ' H') :
   wpAny (model Y.prog Y.w) Y.A (pyNext (.ref it)) (fun r s₁=>match r with
     | none=>Rn s₁
     | some v=>wpAny (model Y.prog Y.w) Y.A (x1I tg (.ref it) v) (fun _ s₁'=>wpAny (model Y.prog Y.w) Y.A (assign tg Y.env v) (fun _ s₂=>
         wpAny (model Y.prog Y.w) Y.A (forIn ifs true fun c r=>if r=true then do let ok ← isTrue c Y.env (eval c Y.env);pure (x1y ok) else pure (x1y r)) (fun ok s₃=>
           if ok=true then wpAny (model Y.prog Y.w) Y.A (eval elt Y.env) (fun x s₄=>
             wpAny (model Y.prog Y.w) Y.A (call (.builtin "list.append") [.ref D,x]) (fun _ s₅=>∃m,m < n/\∃i σ' H',Inv Y pins σ' H' s₅/\tn i s₅.heap/\(∀b∈fp,H' b=none)/\W i m σ' H') Y.xe s₄) Y.xe s₃
           else ∃m,m < n/\∃i σ' H',Inv Y pins σ' H' s₃/\tn i s₃.heap/\(∀b∈fp,H' b=none)/\W i m σ' H') Y.xe s₂) Y.xe s₁') Y.xe s₁) Y.xe s:=by
 obtain⟨i,σ3,H3,I3,st3,fr3,w3⟩:=hI;rcases turn i n σ3 H3 w3 with⟨stop,qn⟩ | ⟨go,step⟩
 · refine thn (T.done Y rfl rfl rfl hc i pins s σ3 H3 Y.xe I3 (stat fr3) st3 stop) fun r s4 ⟨hr,I4⟩=>?_;subst hr;exact fin s4 σ3 H3 I4 qn
 · refine thn (T.item Y rfl rfl rfl hc i pins s σ3 H3 Y.xe I3 (stat fr3) st3 go) fun r s4 ⟨u,hr,h4⟩=>?_;subst hr;refine thn h4 fun _ s5 ⟨x,H5,I5,r5,y5,st5,fr5⟩=>?_;refine thn (hg _ s5 σ3 H5 x u _ (I5.pinned (stat fr5) (T.obj _ _ st5)) r5 (step x H5 y5)) fun _ s6 ⟨σ6,H6,I6,q6⟩=>?_;refine thn (hf _ s6 σ6 H6 _ I6 q6) fun ok s7 ⟨H7,I7,q7⟩=>?_;cases ok with
   | false=>exact a4v T st5 I7 q7
   | true =>
     refine thn (he _ s7 σ6 H7 _ I7 q7) fun y s8 ⟨v8,H8,I8,r8,ys,e8,z8,n8⟩=>?_;have ma:=a3g (X:=Y) _ s8 σ6 H8 (.ref D) [v8] (.ref D) [y] (fun v H9=>∃m',m' < n/\W (i + 1) m' σ6 H9) I8 rfl (.cons r8 .nil) ⟨_,ys,v8,rfl,rfl,e8,z8,n8⟩;exact thn ma fun _ s9 ⟨v9,H9,I9,_,q9⟩=>a4v T st5 I9 q9
theorem b2r {X:Cx}{scope:Scope}{N:List Str}{elt tg:Expr}{ifs:List Expr}{pos:Pos}{wi:TI}{g:TG}{te:TE}(S:a1a X scope cl N cs)(hc:X.calm=true)(hi:PI X tg iter wi)
   (hb:∀(fp:List Addr) (C:Addr) (s:Shared) (H:Hp),PG (a0l X scope cl N fp C s H) tg g/\PIf (a0l X scope cl N fp C s H) ifs tt/\PE (a0l X scope cl N fp C s H) elt te)
   (hs:∀x,x0O iter X.env x=pure x:=by intro _;rfl) :
   PE X (.ListComp elt [⟨tg,iter,ifs,0⟩] scope pos) (tComp cs wi g tt te):=by
 intro pins s σ H Q I h;rw [eval_ListComp];refine x2V (use:=none) rfl hs S.clos S.kind S.names (thn (hi pins s σ H _ I h) fun v s1 h1=>thn h1 fun itv s2 h2=>?_);obtain⟨it,fp,tn,J,H2,rfl,I2,T,st2,f2,q⟩:=h2
 have ho:∀b∈fp,∃o,s2.heap.get? b=some o:=fun b hb=>by
   obtain⟨o,e,_⟩:=T.obj 0 _ st2 b hb;exact⟨o,e⟩
 refine x0F (wpAny_newFunctionEnv S.nocell (by intro y hy;simp at hy) (fun h₁ hns₁ hsb₁=>?_) S.kind);dsimp only at hns₁ hsb₁ ⊢;have hC:(s2.heap.push { cls:=.type "list",dict:=none,data:=.seq ([]:List Value).toArray }).objs.size=s2.heap.objs.size + 1:=by rw [x2g]
 generalize hH2:s2.heap.push { cls:=.type "list",dict:=none,data:=.seq ([]:List Value).toArray }=hp2 at hns₁ hsb₁ hC ⊢;have old:∀b o,s2.heap.get? b=some o->h₁.get? b=some o:=fun b o e=>hsb₁.extBut b o (by rw [hC];exact x0u (x1p (x0l e))) (x0c _ (hH2▸x0c _ e));have hD:h₁.get? s2.heap.objs.size=some { cls:=.type "list",data:=.seq ([]:List Value).toArray }:=hsb₁.extBut _ _ (by rw [hC];exact x0u (Nat.lt_succ_self _)) (x0c _ (hH2▸x0p _ rfl));rw [hC] at hns₁ ⊢;obtain⟨W,⟨m0,w0⟩,turn⟩:=q s2.heap.objs.size I2.fresh;have Ic:=a4m S (tk:=s2.toks + ([]:List (Str×Value)).length) I2 f2 ho old hns₁ hD;have nstk:∀b,b≠X.env.locals->b∉X.fs->b∉frs X.stack:=fun b h1 h2 hb=>(x0s.mp (I2.stkSub b hb)).elim h1 h2
 have stat:∀{H':Hp},(∀b∈fp,H' b=none)->∀b∈fp,FpOk (a0l X scope cl N fp (s2.heap.objs.size + 1) s2 H2) pins H' b:=fun hn b hb=>by
   obtain⟨o,e⟩:=ho b hb;exact⟨hn b hb,x0u (x1p (x0l e)),nstk b (f2 b hb).2.1 (f2 b hb).2.2.1,.inl hb,fun x c ec=>(f2 b hb).2.2.2.2.1 x c (S.sub x c ec),(f2 b hb).2.2.2.2.2⟩
 obtain⟨hg,hf,he⟩:=hb fp (s2.heap.objs.size + 1) s2 H2;have st1:tn 0 h₁:=T.keep _ _ _ st2 fun b hb o e=>old b o e
 have fr1:∀b∈fp,upd H2 s2.heap.objs.size (.lst []) b=none:=fun b hb=>by
   obtain⟨o,e⟩:=ho b hb;rw [a0f (x0u (x0l e))];exact(f2 b hb).1
 have loop:∀s₃:Shared,s₃={ s2 with heap:=h₁,toks:=s2.toks + ([]:List (Str×Value)).length }->
     x2J (model X.prog X.w) X.A (.compLoop (.ListComp elt [⟨tg,iter,ifs,0⟩] scope pos) 0 (.ref it) (.ref s2.heap.objs.size) (compEnvC scope cl (s2.heap.objs.size + 1) X.env))
       (compPost (model X.prog X.w) X.A X.xe none (EP X pins σ Q) (.ref s2.heap.objs.size) (s2.heap.objs.size + 1)) s₃:=by
   rintro s₃ rfl;refine a5I _ (a7w (Y:=a0l X scope cl N fp (s2.heap.objs.size + 1) s2 H2) T hc stat hg hf he (fun s4 σ3 H3 I4 qn=>?_) turn) m0 ⟨0,_,_,Ic,st1,fr1,w0⟩;obtain⟨m4,hn4,_⟩:=I4.loc;exact⟨m4,hn4,fun h' hs'=>⟨.ref s2.heap.objs.size,H3,Inv.uncomp I2 f2 I4 fun b hb=>hs'.2 b hb,rfl,qn⟩⟩
 exact x3n (loop _ rfl) (T.self _ 0 _ _ _ st1 (loop _ rfl))
end L2
end
section
namespace L2
open PySem PySem.Spec PyProof.Rows
section
variable {X:Cx}
theorem Vals.getE {xs:List V}{us:List Value}(r:Vals xs us){j:Nat}(h:j < us.length):∃x,xs[j]?=some x/\RelV x us[j]:=by
 have hl:=r.length;have h':j < xs.length:=by omega
 obtain⟨u,e,q⟩:=r.get (i:=j) (x:=xs[j]) (by simp [h']);refine⟨xs[j],by simp [h'],?_⟩;have e':us[j]?=some us[j]:=by simp [h]
 rw [e'] at e;cases e;exact q
theorem a6u {x:V}(h:a2j x=true):eqV x x=true:=by
 cases x <;> simp_all [a2j,eqV]
theorem a5L:a1J X (.builtin "isinstance") (fun vs H Q=>∃x n t b,vs=[x,.ty n]/\TyOf X.K H x t/\x3w X.K t (.type n)=some b/\Q (.bl b) H):=by
 intro pins s σ H vs us Q I rv h;obtain⟨x,n,t,b,rfl,ty,e,q⟩:=h;obtain⟨u,v,rfl,r1,r2⟩:=rv.two;cases r2;exact a8E I r1 ty e fun tk=>⟨.bl b,H,I.tok tk,rfl,q⟩
theorem a9b:∀{bs:List Bool} {us:List Value} {j:Nat} {u:Value},Vals (bs.map V.bl) us->us[j]?=some u->∃b,bs[j]?=some b/\u=Value.bool b:=by
 intro bs us j u r e
 have hj:j < us.length:=by
   obtain⟨h,_⟩:=x0k.mp e;exact h
 obtain⟨x,e1,q1⟩:=r.getE hj;rw [x0r] at e1;cases eb:bs[j]? with
 | none=>rw [eb] at e1;cases e1
 | some b =>
   rw [eb] at e1;cases e1;have e2:us[j]?=some us[j]:=by simp [hj]
   rw [e2] at e;cases e;exact⟨b,rfl,q1⟩
theorem a6O (bs:List Bool):((x0j bs.length).all fun i=>(bs[i]?).getD true)=bs.all id:=by
 rw [Bool.eq_iff_iff,x0z,x0z];constructor
 · intro h b hb;obtain⟨i,hi,rfl⟩:=x3Y hb;have:=h i (x1q.mpr hi)
   simpa [x0f hi] using this
 · intro h i hi;have hi':=x1q.mp hi;simp only [x0f hi',Option.getD_some];exact h _ (x3G hi')
theorem a7a {s:Shared}{h':Heap}{o:Obj}(hk:∀b x,b∉[s.heap.objs.size]->(s.heap.push o).get? b=some x->h'.get? b=some x):∀b x,s.heap.get? b=some x->h'.get? b=some x:=
 fun b x e=>hk b x (fun hm=>by rw [x1c.mp hm] at e;exact x2c _ (x0l e)) (x0c _ e)
def rAll (K:x0a):List V->Hp->VK->Prop:=fun vs H Q=>∃(p:Addr) (bs:List Bool),vs=[.ref p]/\SqL K H p (bs.map V.bl)/\Q (.bl (bs.all id)) H
theorem b0z (hc:X.calm=true):a1J X (.builtin "all") (rAll X.K):=by
 intro pins s σ H vs us Q I rv h;obtain⟨p,bs,rfl,hq,q⟩:=h;obtain⟨u,rfl,r1⟩:=rv.one;cases r1;obtain⟨its,r,pl,hz⟩:=I.list hq;have hl:=pl.isList;have hlt:p < s.heap.objs.size:=by obtain⟨_,e,_⟩:=hl;exact x0l e
 have len:its.toArray.size=bs.length:=by simpa using r.length.symm
 refine call_all_walk (x3o hl ?_)
 refine⟨s.heap.objs.size,[s.heap.objs.size,p],[s.heap.objs.size],its.toArray.size,_,_,fun i=>(bs[i]?).getD true,rfl,Walks.list (A:=X.A.in1) (I.ok.hd hc) _ p (x0u hlt) its.toArray,
   ⟨⟨_,x0p _ rfl,rfl,rfl⟩,hl.push _⟩,fun i v s' Q' E' hP hQ=>?_,fun h' tk hk=>?_⟩
 · obtain⟨b,e,rfl⟩:=a9b r (j:=i) (u:=v) (by simpa using hP);simp only [e,Option.getD_some] at hQ;exact x2k hQ
 · rw [len,a6O];exact⟨.bl _,H,I.kept (a7a hk),rfl,q⟩
def Ite (K:x0a)(a:Addr):It:=
 ⟨fun i H=>∃xs x,SqL K H a xs/\xs[i]?=some x,fun i H x H'=>∃p v,H p=none/\x=.ref p/\H'=upd H p (.tup [.int i,v])/\∀xs,SqL K H a xs->xs[i]?=some v,fun i H=>∃xs,SqL K H a xs/\xs.length<=i⟩
theorem Inv.turnedNew {pins:List (Addr×Obj)}{σ:St}{H:Hp}{s:Shared}{h':Heap}{t':Nat}{ch:List Addr}{xs:List V}(I:Inv X pins σ H s)(k:∀b o,b∉ch->s.heap.get? b=some o->h'.get? b=some o)
   (hf:∀b∈ch,FpOk X pins H b) (new:a0F X.prog X.w (upd H s.heap.objs.size (.tup xs)) h' s.heap.objs.size (.tup xs)):Inv X pins σ (upd H s.heap.objs.size (.tup xs)) { s with heap:=h',toks:=t' }:=by
 have nch:∀b u,H b=some u->b∉ch:=fun b u e z=>by rw [(hf b z).1] at e;cases e
 have nD:∀b o,s.heap.get? b=some o->b≠s.heap.objs.size:=fun b o e=>x0u (x0l e)
 refine I.step (g':=s.gens) (d':=s.drawn) (ch:=ch) (fun b hb=>⟨(hf b hb).2.2.2.1,(hf b hb).2.1,(hf b hb).2.2.2.2.1,(hf b hb).2.2.2.2.2⟩) (fun b o _ _ hc e _=>k b o hc e) (fun b o _ _ hc e _=>⟨o.slots,k b o hc e⟩) (fun b o _ e n=>by rw [a0f (nD b o e)];exact n)
   (fun b o hc e=>⟨o,k b o hc e⟩) (fun b ys e=>by rw [a0f (a0x e I.fresh)];exact e) (fun b o u e=>by rw [a0f (a0x e I.fresh)];exact e) (fun b ps e=>⟨#[],by rw [a0f (a0x e I.fresh),e];simp⟩) (fun z=>by unfold NS;rw [a0f (x0u I.bigS)];exact z) (fun m hm=>?_) (fun b u e=>?_) I.bare
 · obtain⟨o,es,ep,ho,r⟩:=hm;exact⟨o,es,ep,k _ o (fun z=>(hf _ z).2.1 rfl) ho,r⟩
 · by_cases hb:b=s.heap.objs.size
   · subst hb;rw [a0j] at e;cases e;exact new
   · rw [a0f hb] at e;refine(I.hok b u e).stay (fun c v hc q=>k c v ?_ q) (fun c q=>by rw [a0f (a0x q I.fresh)];exact q) fun c ys q=>by rw [a0f (a0x q I.fresh)];exact q
     rcases hc with z | z
     · rw [z];exact nch b u e
     · exact nch c _ z
theorem a7y {P:x0A}{w:World}{K:x0a}{elts:List Expr}{x1}{pos:Pos}(a e it:Addr)(hne:e≠it) :
   Turn P w K (.Tuple elts x1 pos) (Ite K a) [e,it] e (fun i h=>(∃old,IsEnum h e it i old)/\h.IsListIter it a i) where
 mem:=by simp
 obj:=fun i h st b hb=>by
   obtain⟨⟨old,he⟩,o,e1,c,d⟩:=st;have hb':b=e\/b=it:=by simpa using hb
   rcases hb' with rfl | rfl
   · exact⟨_,he,fun v z=>by cases z⟩
   · exact⟨o,e1,fun v z=>by rw [d] at z;cases z⟩
 keep:=fun i h h' st k=>by
   obtain⟨⟨old,he⟩,st⟩:=st;exact⟨⟨old,k e (by simp) _ he⟩,st.at fun o e=>k it (by simp) o e⟩
 item:=by
   intro X hP hw hK hc i pins s σ H E I hf st hg;subst hP hw hK;obtain⟨⟨old,he⟩,st⟩:=st;obtain⟨xs,x,hq,hx⟩:=hg;obtain⟨its,rv,p,hz⟩:=I.list hq;obtain⟨u,hu,ru⟩:=rv.get hx;refine wpAny_pyNext_enum_item he st p.isList (x:=u) (by simpa using hu) hne fun h' he' st' ht hz' k=>?_;refine⟨_,rfl,wpAny_letOwnedTupleGo_enum (s:={ s with heap:=h',toks:=s.toks + 1 }) he' fun h'' he'' sb=>?_⟩;have hpe:s.heap.objs.size≠e:=x2Q (x0l he);have ht'':h''.get? s.heap.objs.size=some { cls:=.type "tuple",data:=.seq #[.int i s.toks,u] }:=(sb.2 _ hpe).trans ht
   have k':∀b o,b∉[e,it]->s.heap.get? b=some o->h''.get? b=some o:=fun b o hb q=>by
     have hb1:b≠e:=fun z=>hb (by simp [z]);have hb2:b≠it:=fun z=>hb (by simp [z]);exact(sb.2 b hb1).trans (k b o hb1 hb2 q)
   have I1:Inv X pins σ (upd H s.heap.objs.size (.tup [.int i,x])) { s with heap:=h'',toks:=s.toks + 1 }:=
     I.turnedNew k' hf ⟨by show 2<=x0v;decide,[.int i s.toks,u],.cons ⟨_,rfl⟩ (.cons ru .nil),⟨_,ht'',rfl,_,rfl⟩⟩
   refine⟨.ref s.heap.objs.size,_,I1,rfl,⟨_,x,I.fresh,rfl,rfl,fun ys hy=>by rw [I.list_inj hy hq];exact hx⟩,⟨⟨u,he''⟩,?_⟩,fun b hb=>?_⟩
   · obtain⟨o,e1,c,d⟩:=st';exact⟨o,(sb.2 it (Ne.symm hne)).trans e1,c,d⟩
   · have hb':b=e\/b=it:=by simpa using hb
     have hbs:b≠s.heap.objs.size:=by
       rcases hb' with rfl | rfl
       · exact Ne.symm hpe
       · obtain⟨o,e1,_⟩:=st;exact x0u (x0l e1)
     rw [a0f hbs];exact(hf b hb).1
 done:=by
   intro X hP hw hK hc i pins s σ H E I hf st hg;subst hP hw hK;obtain⟨⟨old,he⟩,st⟩:=st;obtain⟨xs,hq,hx⟩:=hg;obtain⟨its,rv,p,hz⟩:=I.list hq;obtain⟨f0,f1,f2,f3,f4,f5⟩:=hf it (by simp);have hl:=rv.length;exact wpAny_pyNext_enum_end (I.ok.hd hc) he st p.isList (by simp;omega) fun h' eb=>⟨rfl,I.turned (t':=s.toks) (fun b o hb e=>eb b o hb e) f0 f1 f3 f4 f5⟩
 self:=fun _ _ _ _ _ st h=>by
   obtain⟨⟨old,he⟩,_⟩:=st;exact x3q he h
def iEnum (K:x0a)(ta:TA):TI:=fun σ H R=>ta σ H fun vs H1=>∃a,vs=[.ref a]/\(∃xs,SqL K H1 a xs)/\R (Ite K a) H1
theorem b2k {l:Expr}{ta:TA}{p pos:Pos}{elts:List Expr}{x1}{tpos:Pos}(hg:Gl X "enumerate")(hm:X.mg "enumerate"=none)(ha:PA X [l] ta)(hs:x0T [l] X.env=[(false,eval l X.env)]:=by rfl) :
   PI X (.Tuple elts x1 tpos) (.Call (.Name "enumerate" p) [l] [] pos) (iEnum X.K ta):=by
 intro pins s σ H R I h;refine Call_ (a2r I hg hm boot_enumerate (x0Y (thn (ha pos pins s σ H _ I h) fun us s1 ⟨vs,H1,I1,r1,q1⟩=>?_) hs rfl));obtain⟨a,e,⟨xs,hq⟩,q⟩:=q1;subst e;obtain⟨u,rfl,ru⟩:=r1.one;obtain rfl:u=x0I a:=ru;obtain⟨its,rv,pl,hz⟩:=I1.list hq;refine call_enumerate_list pl.isList fun h' hE hI hsz hk=>?_;refine x3q hE ?_;have I2:Inv X pins σ H1 { s1 with heap:=h' }:=I1.kept (t':=s1.toks) hk;refine⟨s1.heap.objs.size + 1,[s1.heap.objs.size + 1,s1.heap.objs.size],_,_,H1,rfl,I2,a7y a _ _ (Nat.succ_ne_self _),⟨⟨_,hE⟩,hI⟩,fun b hb=>?_,q⟩;have hb':b=s1.heap.objs.size + 1\/b=s1.heap.objs.size:=by simpa using hb
 rcases hb' with rfl | rfl
 · exact I1.fpOk (x3X _) (I1.hok.fresh (x3X _))
 · exact I1.fpOk (x0m _) (I1.hok.fresh (x0m _))
end
end L2
end
section
namespace L2
open PySem PySem.Spec PyProof.Rows
theorem b1l:x0U "len"=some (.builtin "len"):=by decide +kernel
theorem bt_abs:x0U "abs"=some (.builtin "abs"):=by decide +kernel
theorem bt_min:x0U "min"=some (.builtin "min"):=by decide +kernel
theorem bt_all:x0U "all"=some (.builtin "all"):=by decide +kernel
theorem a4t:x0U "isinstance"=some (.builtin "isinstance"):=by decide +kernel
theorem a9a:x0U "sorted"=some (.builtin "sorted"):=by decide +kernel
theorem bt_int:x0U "int"=some (.type "int"):=by decide +kernel
theorem bt_str:x0U "str"=some (.type "str"):=by decide +kernel
theorem b3h:x0U "list"=some (.type "list"):=by decide +kernel
theorem a4s:x0U "tuple"=some (.type "tuple"):=by decide +kernel
theorem b3i:x0U "dict"=some (.type "dict"):=by decide +kernel
theorem b1w {tA:TT}{ta tb:TE}{σ:St}{H:Hp}{R:VK}(p:V->Prop)(h:(∀v,p v->R v H)->tIf tA ta tb σ H R)(hp:∀v,p v->R v H):tIf tA ta tb σ H R:=h hp
theorem at_map {ns:List Int}{k:Int}(h0:0<=k)(h:k < (ns.length:Int)):∃v,atI (ns.map V.int) k=some (.int v):=by
 have hk:k.toNat < ns.length:=by omega
 have q:atI (ns.map V.int) ((k.toNat:Nat):Int)=some (.int ns[k.toNat]):=a9d (by rw [x0r,x0f hk] <;> rfl)
 rw [show((k.toNat:Nat):Int)=k by omega] at q;exact⟨_,q⟩
theorem kit_of {K:x0a}{T S:String}{b:Bool}(h:(if(x1o T == x1o S)=true then some true else if PySem.W.kitMeta S=true then(fastBuiltinMro T).map (·.contains (.type S)) else none)=some b):x3w K (.type T) (.type S)=some b:=h
structure Kn (P:x0A)(w:World)(K:x0a)(mg:Str->Option Value)(base:Heap)(x:Str)(k:Nat)(ps:List Str)(sp:Sp):Prop where
 ex:∃(f:Addr) (fd:x3a),FnOk P w K mg base CX0 k f fd ps sp/\a7n K fd ps []/\x3x K (.ref f)=true/\mg x=some (.ref f)/\∃oc od osl,K.lookup f=some ⟨oc,od,.func fd,osl⟩
structure Fn0 (K:x0a)(mg:Str->Option Value)(x:Str)(st:Stmt):Prop where
 ex:∃(f:Addr) (fd:x3a),Fun K x x st f fd/\mg x=some (.ref f)
theorem a1H {K:x0a}{h:Heap}{mg:Str->Option Value}{x:Str}{st:Stmt}(X:K.In h)(G:h.Ns x1V mg){f:Addr}{oc:Value}{od an:Option Addr}{osl:Array (Option Value)}{kV doc pm cdv ct:Value}
   (a:PySem.W.nsIn K x1V x=some (some (.ref f))) (l:K.lookup f=some ⟨oc,od,.func (x1Q x x (a1B st) (a0U st) (a0i st) .none kV doc pm an cdv ct),osl⟩)
   (c:x4i K cdv x=true) (k:x3x K (.ref f)=true):Fn0 K mg x st:=⟨f,_,fun_mk l c k,PySem.W.mg_of X G a⟩
section
variable {P:x0A}{w:World}{K:x0a}{mg:Str->Option Value}{base:Heap}
theorem Fn0.ok {x:Str}{st:Stmt}{N ps:List Str}{k:Nat}{sp:Sp}(F:Fn0 K mg x st)(S:a0D N ps (a0i st))(len:∀vs H Q E,sp vs H Q E->vs.length=ps.length)
   (bd:∀(kV doc pm:Value) (an:Option Addr) (cdv ct:Value) (us:List Value),us.length=ps.length->bindArgs (x1Q x x (a1B st) (a0U st) (a0i st) .none kV doc pm an cdv ct) ⟨us,[]⟩=pure (ps.zip us))
   (hbody:∀(f:Addr) (cdv:Value) (A:Around) (outer:List Env) (s:Shared) (H:Hp) (vs:List V) (Q:VK) (E:XK),Room k (A.deeper (envOfC x (a0i st) s.heap.objs.size f cdv))->sp vs H Q E->
     ∃t,PSs (cxOf CX0 P w K mg base N x (a0i st) f cdv A outer s H E).nox (a0U st) t/\t { nx:=fun _ H'=>Q .non H',rt:=Q } (start N vs) H):Kn P w K mg base x (k + 1) ps sp:=by
 obtain⟨f,fd,F1,m⟩:=F.ex
 have lk:∃oc od osl,K.lookup f=some ⟨oc,od,.func fd,osl⟩:=by
   obtain⟨oc,od,kV,doc,pm,an,cdv,ct,osl,_,lk,hcd⟩:=F1.ex;exact⟨oc,od,osl,lk⟩
 exact⟨f,fd,F1.ok S len fun cdv A outer s H vs Q E hr h=>hbody f cdv A outer s H vs Q E hr h,F1.binds bd,F1.kp,m,lk⟩
theorem Kn.imp {x:Str}{k:Nat}{ps:List Str}{sp sp':Sp}(G:Kn P w K mg base x k ps sp)(h:∀vs H Q E,sp' vs H Q E->sp vs H Q E):Kn P w K mg base x k ps sp':=by
 obtain⟨f,fd,a,b,c,d⟩:=G.ex;exact⟨f,fd,a.imp h,b,c,d⟩
end
section
variable {X:Cx}{x:Str}{p pos:Pos}{e:Expr}{es:List Expr}{t:TA}{ps:List Str}{sp:Sp}{j k:Nat}
theorem pe_fn (G:Kn X.prog X.w X.K X.mg X.base x k ps sp)(hr:Room j X.A)(hk:k<=j)(hg:Gl X x)(ha:PA X (e::es) t)(hdb:(x == ("__debug__":Str))=false:=by decide)
   (he:x0T (e::es) X.env=(false,eval e X.env)::x0T es X.env:=by rfl) (hpl:(backTo pos (x0T es X.env)).any (·.1)=false:=by rfl) :
   PE X (.Call (.Name x p) (e::es) [] pos) (tCall sp [] E0 t):=by
 intro pins s σ H Q I h;obtain⟨f,fd,F,hb,hkp,hm,_⟩:=G.ex;exact b2t F (hr.mono hk) hg hm hkp hb .nil pass0 ha hdb he hpl pins s σ H Q I h
end
def a9o (K:x0a):Sp:=fun vs H Q _=>∃(a:Addr) (ns:List Int),vs=[.ref a]/\SqL K H a (ns.map V.int)/\ns.length<=63/\Only H/\∀H',Q (.bl true) H'
theorem a9l {l:PySem.W.OpenLaw}{q:x0A}{loose:List Str}{XP:(Str->Option Value)->Heap->Prop}{YP:World->Heap->Prop}{d:DefRec}{K:Params->x0a}{x:Str}{k:Nat}(hn:l.most=some 63)(hdf:d.params.defaults=[])(hk:Room k callerA)
   (hY:∀(w:World) (h:Heap),YP w h->(K w.params).In h)
   (F:∀(w:World) (mg:Str->Option Value) (h:Heap),(K w.params).In h->h.Ns x1V mg->∃st,Fn0 (K w.params) mg d.name st/\
     (∀(kV doc pm:Value) (an:Option Addr) (cdv ct:Value) (s:Shared) (u:Value),BindsTo s (x1Q d.name d.name (a1B st) (a0U st) (a0i st) .none kV doc pm an cdv ct) ⟨[u],[]⟩ [(x,u)])/\
     ∀base:Heap,(K w.params).In base->base.Ns x1V mg->Kn l.prog w (K w.params) mg base d.name k [x] (a9o (K w.params))) :
   PySem.W.WalkO q loose XP YP l.row.toRowW d [] (fun f vs=>PySem.call f vs):=by
 refine L2.b1q (n:=63) (k:=k) (x:=x) (CX:=fun _=>CX0) (sp:=fun w=>a9o (K w.params)) hn (by decide) hdf hk hY (fun w mg fa h KX G hmg=>?_) (fun _ _ a ns hl hO hS=>⟨a,ns,rfl,hS,hl,hO,fun _=>rfl⟩) fun _ _ _ _ _ z=>z;obtain⟨st,F0,hb,hF⟩:=F w mg h KX G;obtain⟨f,fd,F1,m⟩:=F0.ex;have e:=hmg.symm.trans m;cases e;refine⟨fd,fun s u=>?_,fun base kb nb=>?_⟩
 · obtain⟨oc,od,kV,doc,pm,an,cdv,ct,osl,rfl,lk,hcd⟩:=F1.ex;exact hb kV doc pm an cdv ct s u
 · obtain⟨f',fd',a,b,c,m',oc',od',osl',lk'⟩:=(hF base kb nb).ex;have e:=m.symm.trans m';cases e;obtain⟨oc,od,kV,doc,pm,an,cdv,ct,osl,_,lk,hcd⟩:=F1.ex;have e2:=lk.symm.trans lk';cases e2;exact a
end L2
end
section
namespace L2
open PySem PySem.Spec PyProof.Rows
section
variable {X:Cx}
def Low (l:List Nat):Prop:=∀c∈l,97<=c/\c<=122
theorem Low.app {a b:List Nat}(h:Low a)(h':Low b):Low (a++b):=fun c hc=>(x1g.mp hc).elim (h c) (h' c)
end
theorem Same.lay {H H':Hp}{p:Addr}{o:HO}(s:Same H H')(h:H' p=none):Same H (upd H' p o):=fun b u e=>by
 rw [a0f (a0x (s b u e) h)];exact s b u e
theorem a9n {c:TT}{t u:TS}{D:Ends}{σ:St}{H:Hp}(p:St->Hp->Prop)(h:(∀σ' H',p σ' H'->D.nx σ' H')->tIfS c t u D σ H)(hp:∀σ' H',p σ' H'->D.nx σ' H'):tIfS c t u D σ H:=h hp
theorem b2R {n:Nat}{d:Int}(h0:0<=d)(h1:d < n):ixN n d=some d.toNat:=by
 unfold ixN;rw [if_pos h0,if_pos h1]
theorem a9c {α:Type}{xs:List α}{d:Int}(h0:0<=d)(h1:d < xs.length):∃x,xs[d.toNat]?=some x/\atI xs d=some x:=by
 have hk:d.toNat < xs.length:=by omega
 refine⟨xs[d.toNat],x0f hk,?_⟩;unfold atI;rw [b2R h0 h1];exact x0f hk
end L2
end
section
namespace L2
open PySem PySem.Spec PyProof.Rows
section
variable {X:Cx}
theorem a8k:OpR X (x1v .LtE) (fun x y H Q=>∃i j,x=.str i/\y=.str j/\Q (.bl (!decide (j.cps.toList < i.cps.toList))) H):=by
 intro pins s σ H x y v u Q I rx ry h;obtain⟨i,j,rfl,rfl,q⟩:=h;obtain⟨t,rfl⟩:=rx;obtain⟨t',rfl⟩:=ry;exact PySem.P.le_str ⟨.bl _,H,I,rfl,q⟩
def rSlS:V->Option Int->Option Int->Hp->VK->Prop:=fun x lo hi H Q=>∃z,x=.str z/\z.length<=x0v/\Q (.str (Txt.slice z lo hi)) H
theorem sl_str:SlR X rSlS:=by
 intro pins s σ H x v vl vu lo hi sl Q I rx hs pl pu h;obtain⟨z,rfl,hz,q⟩:=h;obtain⟨t,rfl⟩:=rx;refine⟨"str",_,F.slot_str_getitem.lookup,typeIs_str _ _ _,?_⟩;cases pl with
 | none =>
   cases pu with
   | none=>exact x2r (l:=none) (u:=none) (st:=none) hs rfl (x3Z ⟨x1j (Txt.slice_le z _ _) hz,fun t' k=>⟨.str _,H,I.tok _,⟨_,rfl⟩,q⟩⟩)
   | int j tj=>exact x2r (l:=none) (u:=some (j,tj)) (st:=none) hs rfl (x3Z ⟨x1j (Txt.slice_le z _ _) hz,fun t' k=>⟨.str _,H,I.tok _,⟨_,rfl⟩,q⟩⟩)
 | int i ti =>
   cases pu with
   | none=>exact x2r (l:=some (i,ti)) (u:=none) (st:=none) hs rfl (x3Z ⟨x1j (Txt.slice_le z _ _) hz,fun t' k=>⟨.str _,H,I.tok _,⟨_,rfl⟩,q⟩⟩)
   | int j tj=>exact x2r (l:=some (i,ti)) (u:=some (j,tj)) (st:=none) hs rfl (x3Z ⟨x1j (Txt.slice_le z _ _) hz,fun t' k=>⟨.str _,H,I.tok _,⟨_,rfl⟩,q⟩⟩)
def rCatA (K:x0a):R2:=fun x y H Q=>∃a b xs ys,x=.ref a/\y=.ref b/\SqT K H a xs/\SqT K H b ys/\xs.length + ys.length<=x0v/\
 (xs=[]->Q (.ref b) H)/\(xs≠[]->ys=[]->Q (.ref a) H)/\(xs≠[]->ys≠[]->∀p,H p=none->Q (.ref p) (upd H p (.tup (xs++ys))))
theorem b2A:OpR X (x2G .Add) (rCatA X.K):=by
 intro pins s σ H x y v u Q I rx ry h;obtain⟨a,b,xs,ys,rfl,rfl,ha,hb,hz,q0,q1,q2⟩:=h
 by_cases hx:xs=[]
 · cases rx;cases ry;obtain⟨its,r1,p1,_⟩:=I.tuple ha;obtain⟨its2,r2,p2,_⟩:=I.tuple hb;obtain⟨⟨cls,dd,data,sl⟩,ho,hc,n,hd⟩:=id p1;obtain⟨⟨cls2,dd2,data2,sl2⟩,ho2,hc2,n2,hd2⟩:=id p2;simp only at hc hd hc2 hd2;subst hc hd hc2 hd2;have he:its=[]:=r1.nil_iff.mpr hx
   exact concat_meets ⟨_,ho,rfl⟩ ⟨_,ho2,rfl⟩ noFill_tuple_add seq_tuple_add x3m x3d (x2S _ _)
     (tuple_addW0 a b its.toArray its2.toArray n n2 dd dd2 sl sl2 (by simp [he])) ⟨ho,ho2,⟨.ref b,H,I,rfl,q0 hx⟩⟩
 · exact b2z pins s σ H _ _ v u Q I rx ry ⟨a,b,xs,ys,rfl,rfl,ha,hb,hx,hz,q1 hx,q2 hx⟩
theorem Inv.big {pins:List (Addr×Obj)}{σ:St}{H:Hp}{s:Shared}(I:Inv X pins σ H s):x1D < s.heap.objs.size:=by
 have h:x1V < s.heap.objs.size:=(I.mod.glob.keeps I.bk).lt;exact Nat.lt_trans (by decide) h
end
end L2
end
section
namespace Pu
open PySem PySem.Spec L2
inductive PV where
 | non | bl (b:Bool) | int (i:Int) | str (x:Str) | ty (n:String) | pot (k:Nat)
 | tup (xs:List PV) | lst (xs:List PV) | dct (ks:List Key) (xs:List PV)
 /-- the script -/
 | scr (ns:List Int)
 /-- a dict by tuples that nothing changes any more -/
 | fdt (ks:List (List Key)) (xs:List PV)
structure Gh where
 M:List Addr
 pots:List Addr
def KLst (K:x0a)(a:Addr)(xs:List V):Prop:=∃(o:Obj) (its:Array Value) (n:Nat),K.lookup a=some o/\o.cls=.type "list"/\o.dict=none/\o.data=.seq its n/\its.size<=x0v/\Vals xs its.toList
def AtL (M:List Addr)(H:Hp)(a:Addr)(xs:List V):Prop:=a∉M/\H a=some (.lst xs)
def AtT (M:List Addr)(H:Hp)(a:Addr)(xs:List V):Prop:=a∉M/\H a=some (.tup xs)
theorem AtL.sq {K:x0a}{M:List Addr}{H:Hp}{a:Addr}{xs:List V}(h:AtL M H a xs):SqL K H a xs:=SqL.of h.2
theorem AtT.sq {K:x0a}{M:List Addr}{H:Hp}{a:Addr}{xs:List V}(h:AtT M H a xs):SqT K H a xs:=SqT.of h.2
mutual
def Rep (K:x0a)(G:Gh)(H:Hp):PV->V->Prop
 | .non,v=>v=.non
 | .bl b,v=>v=.bl b
 | .int i,v=>v=.int i
 | .str x,v=>v=.str x
 | .ty n,v=>v=.ty n
 | .pot k,v=>∃p,G.pots[k]?=some p/\v=.ref p
 | .tup xs,v=>∃a vs,v=.ref a/\AtT G.M H a vs/\Reps K G H xs vs
 | .lst xs,v=>∃a vs,v=.ref a/\AtL G.M H a vs/\Reps K G H xs vs
 | .scr ns,v=>∃a,v=.ref a/\((a∉G.M/\∃o,H a=some (.frz o (.lst (ns.map V.int))))\/KLst K a (ns.map V.int))
 | .dct ks xs,v=>∃a kvs,v=.ref a/\a∉G.M/\H a=some (.dK kvs)/\kvs.map (·.1)=ks/\Reps K G H xs (kvs.map (·.2))
 | .fdt ks xs,v=>∃a kvs,v=.ref a/\a∉G.M/\Rd H a (.dT kvs)/\kvs.map (·.1)=ks/\Reps K G H xs (kvs.map (·.2))
def Reps (K:x0a)(G:Gh)(H:Hp):List PV->List V->Prop
 | [],vs=>vs=[]
 | x::xs,vs=>∃v r,vs=v::r/\Rep K G H x v/\Reps K G H xs r
end
section
variable {K:x0a}{G G':Gh}{H H':Hp}
theorem Rd.keep {a:Addr}{u:HO}(h:Rd H a u)(k:∀o,H a=some o->H' a=some o):Rd H' a u:=h.elim (fun e=>.inl (k _ e)) fun⟨o,e⟩=>.inr ⟨o,k _ e⟩
theorem Rd.ne {a:Addr}{u:HO}(h:Rd H a u):H a≠none:=fun z=>h.elim (fun e=>by rw [z] at e;cases e) fun⟨o,e⟩=>by rw [z] at e;cases e
mutual
theorem Rep.mono (hk:∀b o,b∉G.M->H b=some o->H' b=some o)(hM:∀a∈G'.M,a∈G.M\/H a=none)(hp:∀(k:Nat) (p:Addr),G.pots[k]?=some p->G'.pots[k]?=some p):∀(x:PV) (v:V),Rep K G H x v->Rep K G' H' x v
 | .non,v,h=>h
 | .bl b,v,h=>h
 | .int i,v,h=>h
 | .str x,v,h=>h
 | .ty n,v,h=>h
 | .pot k, v, h => by
   obtain⟨p,e,r⟩:=h;exact⟨p,hp k p e,r⟩
 | .tup xs, v, h => by
   obtain⟨a,vs,e,t,r⟩:=h;refine⟨a,vs,e,?_,Reps.mono hk hM hp xs vs r⟩;obtain⟨n,t⟩:=t;exact⟨fun z=>(hM a z).elim n (fun z=>by rw [z] at t;cases t),hk a _ n t⟩
 | .lst xs, v, h => by
   obtain⟨a,vs,e,t,r⟩:=h;refine⟨a,vs,e,?_,Reps.mono hk hM hp xs vs r⟩;obtain⟨n,t⟩:=t;exact⟨fun z=>(hM a z).elim n (fun z=>by rw [z] at t;cases t),hk a _ n t⟩
 | .scr ns, v, h => by
   obtain⟨a,e,h⟩:=h;refine⟨a,e,?_⟩;rcases h with⟨n,o,t⟩ | h
   · exact .inl ⟨fun z=>(hM a z).elim n (fun z=>by rw [z] at t;cases t),o,hk a _ n t⟩
   · exact .inr h
 | .dct ks xs, v, h => by
   obtain⟨a,kvs,e,n,t,ek,r⟩:=h;exact⟨a,kvs,e,fun z=>(hM a z).elim n (fun z=>by rw [z] at t;cases t),hk a _ n t,ek,Reps.mono hk hM hp xs _ r⟩
 | .fdt ks xs, v, h => by
   obtain⟨a,kvs,e,n,t,ek,r⟩:=h;exact⟨a,kvs,e,fun z=>(hM a z).elim n (fun z=>Rd.ne (u:=.dT kvs) t z),Rd.keep (u:=.dT kvs) t (fun o e=>hk a o n e),ek,Reps.mono hk hM hp xs _ r⟩
theorem Reps.mono (hk:∀b o,b∉G.M->H b=some o->H' b=some o)(hM:∀a∈G'.M,a∈G.M\/H a=none)(hp:∀(k:Nat) (p:Addr),G.pots[k]?=some p->G'.pots[k]?=some p):∀(xs:List PV) (vs:List V),Reps K G H xs vs->Reps K G' H' xs vs
 | [],vs,h=>h
 | x :: xs, vs, h => by
   obtain⟨v,r,e,hx,hr⟩:=h;exact⟨v,r,e,Rep.mono hk hM hp x v hx,Reps.mono hk hM hp xs r hr⟩
end
theorem Rep.same {x:PV}{v:V}(h:Rep K G H x v)(s:Same H H'):Rep K G H' x v:=Rep.mono (fun b o _ e=>s b o e) (fun a z=>.inl z) (fun _ _ e=>e) x v h
theorem Reps.same {x:List PV}{v:List V}(h:Reps K G H x v)(s:Same H H'):Reps K G H' x v:=Reps.mono (fun b o _ e=>s b o e) (fun a z=>.inl z) (fun _ _ e=>e) x v h
def Fr (G:Gh)(H H':Hp):Prop:=∀b o,b∉G.M->H b=some o->H' b=some o
theorem Fr.refl:Fr G H H:=fun _ _ _ e=>e
theorem Fr.trans {H2:Hp}(a:Fr G H H')(b:Fr G H' H2):Fr G H H2:=fun c o n e=>b c o n (a c o n e)
theorem Fr.of (s:Same H H'):Fr G H H':=fun b o _ e=>s b o e
theorem Rep.fr {x:PV}{v:V}(h:Rep K G H x v)(s:Fr G H H'):Rep K G H' x v:=Rep.mono s (fun a z=>.inl z) (fun _ _ e=>e) x v h
theorem Reps.fr {x:List PV}{v:List V}(h:Reps K G H x v)(s:Fr G H H'):Reps K G H' x v:=Reps.mono s (fun a z=>.inl z) (fun _ _ e=>e) x v h
theorem Reps.length:∀{xs:List PV} {vs:List V},Reps K G H xs vs->xs.length=vs.length
 | [],vs,h=>by cases(show vs=[] from h);rfl
 | x :: xs, vs, h => by
   obtain⟨v,r,e,hx,hr⟩:=h;subst e;simp [Reps.length hr]
theorem Reps.get:∀{xs:List PV} {vs:List V} {i:Nat} {v:V},Reps K G H xs vs->vs[i]?=some v->∃x,xs[i]?=some x/\Rep K G H x v
 | [],vs,i,v,h,e=>by cases(show vs=[] from h);simp at e
 | x :: xs, vs, i, v, h, e => by
   obtain⟨w,r,e1,hx,hr⟩:=h;subst e1;cases i with
   | zero=>simp at e;subst e;exact⟨x,rfl,hx⟩
   | succ i=>simpa using Reps.get (i:=i) hr (by simpa using e)
theorem Reps.get':∀{xs:List PV} {vs:List V} {i:Nat} {x:PV},Reps K G H xs vs->xs[i]?=some x->∃v,vs[i]?=some v/\Rep K G H x v:=fun {xs vs i x} h e=>by
 obtain⟨hi,_⟩:=x0k.mp e;have hl:=h.length;have e2:vs[i]?=some (vs[i]'(by omega)):=x0f (by omega);obtain⟨y,ey,r⟩:=h.get e2;rw [e] at ey;cases ey;exact⟨_,e2,r⟩
theorem Reps.append:∀{xs ys:List PV} {vs us:List V},Reps K G H xs vs->Reps K G H ys us->Reps K G H (xs++ys) (vs++us)
 | [],ys,vs,us,h,h'=>by cases(show vs=[] from h);exact h'
 | x :: xs, ys, vs, us, h, h' => by
   obtain⟨w,r,e1,hx,hr⟩:=h;subst e1;exact⟨w,r++us,rfl,hx,Reps.append hr h'⟩
theorem Reps.take:∀{xs:List PV} {vs:List V} (n:Nat),Reps K G H xs vs->Reps K G H (xs.take n) (vs.take n)
 | xs,vs,0,h=>by simp [Reps]
 | [],vs,n + 1,h=>by cases(show vs=[] from h);exact rfl
 | x :: xs, vs, n + 1, h => by
   obtain⟨w,r,e1,hx,hr⟩:=h;subst e1;exact⟨w,r.take n,rfl,hx,Reps.take n hr⟩
theorem Reps.drop:∀{xs:List PV} {vs:List V} (n:Nat),Reps K G H xs vs->Reps K G H (xs.drop n) (vs.drop n)
 | xs,vs,0,h=>by simpa using h
 | [],vs,n + 1,h=>by cases(show vs=[] from h);exact rfl
 | x :: xs, vs, n + 1, h => by
   obtain⟨w,r,e1,hx,hr⟩:=h;subst e1;exact Reps.drop n hr
theorem Reps.one {x:PV}{v:V}(h:Rep K G H x v):Reps K G H [x] [v]:=⟨v,[],rfl,h,rfl⟩
theorem Reps.set:∀{xs:List PV} {vs:List V} (n:Nat) {x:PV} {v:V},Reps K G H xs vs->Rep K G H x v->Reps K G H (xs.set n x) (vs.set n v)
 | [],vs,n,x,v,h,_=>by cases(show vs=[] from h);exact rfl
 | y :: xs, vs, 0, x, v, h, h' => by
   obtain⟨w,r,e1,hx,hr⟩:=h;subst e1;exact⟨v,r,rfl,h',hr⟩
 | y :: xs, vs, n + 1, x, v, h, h' => by
   obtain⟨w,r,e1,hx,hr⟩:=h;subst e1;exact⟨w,r.set n v,rfl,hx,Reps.set n hr h'⟩
mutual
def noMut:PV->Bool
 | .lst _=>false
 | .dct _ _=>false
 | .fdt _ _=>false
 | .tup xs=>a1R xs
 | _=>true
def a1R:List PV->Bool
 | []=>true
 | x::xs=>noMut x && a1R xs
end
def MutO:HO->Prop
 | .lst _=>True
 | .dK _=>True
 | .dT _=>True
 | .set _ _=>True
 | .tbl _=>True
 | _=>False
mutual
theorem Rep.noMut {M':List Addr}(hm:∀a∈G.M,∃o,H a=some o/\MutO o):∀(x:PV) (v:V),Pu.noMut x=true->Rep K ⟨M',G.pots⟩ H x v->Rep K G H x v
 | .non,v,_,h=>h
 | .bl b,v,_,h=>h
 | .int i,v,_,h=>h
 | .str x,v,_,h=>h
 | .ty n,v,_,h=>h
 | .pot k,v,_,h=>h
 | .tup xs, v, e, h => by
   obtain⟨a,vs,ev,t,r⟩:=h;refine⟨a,vs,ev,?_,Reps.noMut hm xs vs (by simpa [Pu.noMut] using e) r⟩;obtain⟨n,t⟩:=t;refine⟨fun z=>?_,t⟩;obtain⟨o,e1,e2⟩:=hm a z;rw [e1] at t;cases t;exact e2
 | .scr ns, v, _, h => by
   obtain⟨a,e,h⟩:=h;refine⟨a,e,?_⟩;rcases h with⟨n,o,t⟩ | h
   · refine .inl ⟨fun z=>?_,o,t⟩;obtain⟨o',e1,e2⟩:=hm a z;rw [e1] at t;cases t;exact e2
   · exact .inr h
theorem Reps.noMut {M':List Addr}(hm:∀a∈G.M,∃o,H a=some o/\MutO o):∀(xs:List PV) (vs:List V),Pu.a1R xs=true->Reps K ⟨M',G.pots⟩ H xs vs->Reps K G H xs vs
 | [],vs,_,h=>h
 | x :: xs, vs, e, h => by
   obtain⟨v,r,ev,hx,hr⟩:=h;have e':Pu.noMut x=true/\Pu.a1R xs=true:=by simpa [Pu.a1R] using e
   exact⟨v,r,ev,Rep.noMut hm x v e'.1 hx,Reps.noMut hm xs r e'.2 hr⟩
end
end
inductive OK where
 | lst | dk (ks:List Key) | dt (ks:List (List Key)) | st (zs:List Key)
def memS (zs:List Key)(k:Key):Bool:=zs.any fun z=>decide (z=k)
def mkO:OK->List V->HO
 | .lst,vs=>.lst vs
 | .dk ks,vs=>.dK (ks.zip vs)
 | .dt ks,vs=>.dT (ks.zip vs)
 | .st zs,_=>.set (memS zs) zs.length
theorem a5x (k:OK)(vs:List V):MutO (mkO k vs):=by cases k <;> trivial
inductive Slot where
 | v (x:PV)
 | ow (k:OK) (xs:List PV)
abbrev Slot.own (xs:List PV):Slot:=.ow .lst xs
abbrev Env:=List (Option Slot)
structure PotK where
 at_:List Addr->Hp->Addr->Nat->Prop
 mono:∀{M H p n m},at_ M H p n->n<=m->at_ M H p m
 keep:∀{M H H' p n},at_ M H p n->H' p=H p->(∀b o,b∉M->H b=some o->H' b=some o)->at_ M H' p n
 more:∀{M M' H p n},at_ M H p n->(∀a∈M',a∈M\/H a=none)->at_ M' H p n
 mu:∀{M H p n},at_ M H p n->∃o,H p=some o/\MutO o
 /-- what is b2P of all pots together -/
 has:List Addr->Prop:=fun _=>True
 hasM:∀{l:List Addr} {p:Addr},has l->p∉l->has (l++[p]):=by intro _ _ _ _;trivial
structure Ct where
 K:x0a
 T:PotK
 M0:List Addr
 pots0:List Addr
 H0:Hp
 np:Bool
def b3q (C:Ct)(G:Gh)(H:Hp)(o:Option (Option V)):Slot->Prop
 | .v x=>∃v,o=some (some v)/\Rep C.K G H x v
 | .ow k xs=>∃a vs,o=some (some (.ref a))/\a∈G.M/\a∉C.M0/\a∉G.pots/\H a=some (mkO k vs)/\Reps C.K G H xs vs
structure SR (C:Ct)(G:Gh)(σ:St)(H:Hp)(env:Env)(n:Nat):Prop where
 frame:∀b o,b∉C.pots0->C.H0 b=some o->H b=some o
 sub:∀a∈G.M,a∈C.M0\/C.H0 a=none
 sup:∀a∈C.M0,a∈G.M
 pots:∀p∈G.pots,p∈G.M/\C.T.at_ G.M H p n
 pre:∃l,G.pots=C.pots0++l/\(l=[]\/C.np=true)
 mu:∀a∈G.M,∃o,H a=some o/\MutO o
 slots:∀(i:Nat) (s:Slot),env[i]?=some (some s)->b3q C G H (σ[i]?) s
 inj:∀(i j:Nat) (xs ys:OK×List PV) (a:Addr),env[i]?=some (some (.ow xs.1 xs.2))->env[j]?=some (some (.ow ys.1 ys.2))->σ[i]?=some (some (.ref a))->σ[j]?=some (some (.ref a))->i=j
 p0:(∀p∈C.pots0,p∈C.M0)/\C.T.has G.pots
 len:env.length=σ.length
 newp:∀p∈G.pots,p∉C.pots0->p∈C.M0->False
section
variable {C:Ct}{G G':Gh}{σ:St}{H H':Hp}{env:Env}{n:Nat}
theorem SR.hasG (S:SR C G σ H env n):C.T.has G.pots:=S.p0.2
theorem SR.fresh (S:SR C G σ H env n){p:Addr}(h:H p=none):p∉G.M:=fun z=>by
 obtain⟨o,e,_⟩:=S.mu p z;rw [h] at e;cases e
theorem SR.same (S:SR C G σ H env n)(s:Same H H'):SR C G σ H' env n where
 frame b o hb e:=s b o (S.frame b o hb e)
 sub:=S.sub
 sup:=S.sup
 pots p hp:=⟨(S.pots p hp).1,C.T.keep (S.pots p hp).2 (by
   obtain⟨o,e,_⟩:=C.T.mu (S.pots p hp).2
   rw [e,s p o e]) fun b o _ e=>s b o e⟩
 pre:=S.pre
 mu a ha:=by
   obtain⟨o,e,m⟩:=S.mu a ha;exact⟨o,s a o e,m⟩
 slots i x e:=by
   have:=S.slots i x e;cases x with
   | v x =>
     obtain⟨v,e1,r⟩:=this;exact⟨v,e1,r.same s⟩
   | ow kk xs =>
     obtain⟨a,vs,e1,h1,h2,h3,h4,r⟩:=this;exact⟨a,vs,e1,h1,h2,h3,s _ _ h4,r.same s⟩
 inj:=S.inj
 p0:=S.p0
 len:=S.len
 newp:=S.newp
theorem Same.lay1 {p:Addr}{o:HO}(h:H p=none):Same H (upd H p o):=(Same.refl H).lay h
end
end Pu
end
section
namespace Pu
open PySem PySem.Spec L2
abbrev PK:=PV->Env->Nat->Prop
abbrev pE:=Env->Nat->PK->Prop
abbrev pT:=Env->Nat->(Bool->Env->Nat->Prop)->Prop
abbrev pA:=Env->Nat->(List PV->Env->Nat->Prop)->Prop
abbrev pF:=List PV->Nat->(PV->Nat->Prop)->Prop
def RdV (K:x0a)(G:Gh)(H:Hp)(x:PV)(v:V):Prop:=Rep K G H x v\/∃a vs xs,x=.lst xs/\v=.ref a/\H a=some (.lst vs)/\Reps K G H xs vs
def RdS (C:Ct)(G:Gh)(σ:St)(H:Hp)(env:Env)(x:PV)(v:V):Prop:=Rep C.K G H x v\/∃(i:Nat) (a:Addr) (xs:List PV),env[i]?=some (some (.ow .lst xs))/\σ[i]?=some (some (.ref a))/\x=.lst xs/\v=.ref a
def EOk (K:x0a)(T:PotK)(t:TE)(pe:pE):Prop:=∀(C:Ct) (G:Gh) (σ:St) (H:Hp) (env:Env) (n:Nat) (R:PK) (Q:VK),C.K=K->C.T=T->SR C G σ H env n->pe env n R->
 (∀x env' n' v H',R x env' n'->SR C G σ H' env' n'->Rep K G H' x v->Fr G H H'->Q v H')->t σ H Q
def ROk (K:x0a)(T:PotK)(t:TE)(pe:pE):Prop:=∀(C:Ct) (G:Gh) (σ:St) (H:Hp) (env:Env) (n:Nat) (R:PK) (Q:VK),C.K=K->C.T=T->SR C G σ H env n->pe env n R->
 (∀x env' n' v H',R x env' n'->SR C G σ H' env' n'->RdS C G σ H' env' x v->Fr G H H'->Q v H')->t σ H Q
def NOk (K:x0a)(T:PotK)(t:TE)(pn:pA):Prop:=∀(C:Ct) (G:Gh) (σ:St) (H:Hp) (env:Env) (n:Nat) (R:List PV->Env->Nat->Prop) (Q:VK),C.K=K->C.T=T->SR C G σ H env n->pn env n R->
 (∀xs env' n' a vs Hb,R xs env' n'->SR C G σ Hb env' n'->Fr G H Hb->Hb a=none->Reps K G Hb xs vs->Q (.ref a) (upd Hb a (.lst vs)))->t σ H Q
def TOk (K:x0a)(T:PotK)(t:TT)(pt:pT):Prop:=∀(C:Ct) (G:Gh) (σ:St) (H:Hp) (env:Env) (n:Nat) (R:Bool->Env->Nat->Prop) (Q:Bool->Hp->Prop),C.K=K->C.T=T->SR C G σ H env n->pt env n R->
 (∀b env' n' H',R b env' n'->SR C G σ H' env' n'->Fr G H H'->Q b H')->t σ H Q
def AOk (K:x0a)(T:PotK)(t:TA)(pa:pA):Prop:=∀(C:Ct) (G:Gh) (σ:St) (H:Hp) (env:Env) (n:Nat) (R:List PV->Env->Nat->Prop) (Q:List V->Hp->Prop),C.K=K->C.T=T->SR C G σ H env n->pa env n R->
 (∀xs env' n' vs H',R xs env' n'->SR C G σ H' env' n'->Reps K G H' xs vs->Fr G H H'->Q vs H')->t σ H Q
structure EW (X:Cx)(e:Expr)(t:TE):Prop where
 h:PE X e t
structure SW (X:Cx)(st:Stmt)(t:TS):Prop where
 h:PS X st t
structure GW (X:Cx)(e:Expr)(g:TG):Prop where
 h:PG X e g
theorem vw {X:Cx}(i:Nat){x:Str}{pos:Pos}(hN:X.N[i]?=some x:=by rfl)(hv:Vis X.env.scope x:=by first | exact Or.inl rfl | exact Or.inr (Or.inl rfl) | exact Or.inr (Or.inr rfl))(hd:(x == ("__debug__":Str))=false:=by decide)(hcd:(x == ("__classdict__":Str))=false:=by decide):EW X (.Name x pos) (tVar i):=⟨b0T hN hv hd hcd⟩
def QE {ι:Type}(T:PotK)(K:x0a)(F:ι->Cx)(e:Expr)(pe:pE):Prop:=∃t,(∀z,PE (F z) e t)/\EOk K T t pe
def QR {ι:Type}(T:PotK)(K:x0a)(F:ι->Cx)(e:Expr)(pe:pE):Prop:=∃t,(∀z,PE (F z) e t)/\ROk K T t pe
def QN {ι:Type}(T:PotK)(K:x0a)(F:ι->Cx)(e:Expr)(pn:pA):Prop:=∃t,(∀z,PE (F z) e t)/\NOk K T t pn
def QT {ι:Type}(T:PotK)(K:x0a)(F:ι->Cx)(e:Expr)(pt:pT):Prop:=∃t,(∀z,PT (F z) e t)/\TOk K T t pt
def QW {ι:Type}(T:PotK)(K:x0a)(F:ι->Cx)(e:Expr)(pt:pT):Prop:=∃t,(∀z,PW (F z) e t)/\TOk K T t pt
def QA {ι:Type}(T:PotK)(K:x0a)(F:ι->Cx)(es:List Expr)(pa:pA):Prop:=∃t,(∀z,PA (F z) es t)/\AOk K T t pa
section
variable {T:PotK}{ι:Type}{K:x0a}{F:ι->Cx}{e a b:Expr}{es:List Expr}{pe pa pb:pE}
theorem Reps.nil {K:x0a}{G:Gh}{H:Hp}:Reps K G H [] []:=rfl
theorem Reps.cons {K:x0a}{G:Gh}{H:Hp}{x:PV}{xs:List PV}{v:V}{vs:List V}(h:Rep K G H x v)(h':Reps K G H xs vs):Reps K G H (x::xs) (v::vs):=⟨v,vs,rfl,h,h'⟩
theorem RdS.rd {C:Ct}{G:Gh}{σ:St}{H:Hp}{env:Env}{n:Nat}{x:PV}{v:V}(S:SR C G σ H env n)(h:RdS C G σ H env x v):RdV C.K G H x v:=by
 rcases h with h | ⟨i,a,xs,e1,e2,ex,ev⟩
 · exact .inl h
 · obtain⟨a',vs,e3,_,_,_,h4,r⟩:=S.slots i _ e1;rw [e2] at e3;cases e3;exact .inr ⟨a,vs,xs,ex,ev,h4,r⟩
theorem RdS.fr {C:Ct}{G:Gh}{σ:St}{H H':Hp}{env:Env}{x:PV}{v:V}(h:RdS C G σ H env x v)(f:Fr G H H'):RdS C G σ H' env x v:=by
 rcases h with h | h
 · exact .inl (h.fr f)
 · exact .inr h
theorem RdV.lst {K:x0a}{G:Gh}{H:Hp}{xs:List PV}{v:V}(h:RdV K G H (.lst xs) v):∃a vs,v=.ref a/\SqL K H a vs/\Reps K G H xs vs:=by
 rcases h with⟨a,vs,e,t,r⟩ | ⟨a,vs,ys,ex,ev,h4,r⟩
 · exact⟨a,vs,e,t.sq,r⟩
 · cases ex;exact⟨a,vs,ev,SqL.of h4,r⟩
theorem RdV.rep {K:x0a}{G:Gh}{H:Hp}{x:PV}{v:V}(h:RdV K G H x v)(hx:∀xs,x≠.lst xs):Rep K G H x v:=by
 rcases h with h | ⟨a,vs,ys,ex,ev,h4,r⟩
 · exact h
 · exact absurd ex (hx ys)
theorem RdV.tup {K:x0a}{G:Gh}{H:Hp}{xs:List PV}{v:V}(h:RdV K G H (.tup xs) v):∃a vs,v=.ref a/\SqT K H a vs/\Reps K G H xs vs:=by
 obtain⟨a,vs,e,t,r⟩:=h.rep (fun _ z=>nomatch z);exact⟨a,vs,e,t.sq,r⟩
theorem RdV.int {K:x0a}{G:Gh}{H:Hp}{i:Int}{v:V}(h:RdV K G H (.int i) v):v=.int i:=h.rep (fun _ z=>nomatch z)
theorem RdV.str {K:x0a}{G:Gh}{H:Hp}{i:Str}{v:V}(h:RdV K G H (.str i) v):v=.str i:=h.rep (fun _ z=>nomatch z)
theorem RdV.bl {K:x0a}{G:Gh}{H:Hp}{i:Bool}{v:V}(h:RdV K G H (.bl i) v):v=.bl i:=h.rep (fun _ z=>nomatch z)
theorem RdV.non {K:x0a}{G:Gh}{H:Hp}{v:V}(h:RdV K G H .non v):v=.non:=h.rep (fun _ z=>nomatch z)
def qV (i:Nat):pE:=fun env n R=>match env[i]? with | some (some (.v x))=>R x env n | _=>False
def qO (i:Nat):pE:=fun env n R=>match env[i]? with | some (some (.ow .lst xs))=>R (.lst xs) env n | _=>False
def qC (c:PV):pE:=fun env n R=>R c env n
theorem qV_ex {i:Nat}{env:Env}{n:Nat}{R:PK}(h:qV i env n R):∃x,env[i]?=some (some (.v x))/\R x env n:=by
 unfold qV at h
 split at h
 · exact⟨_,by assumption,h⟩
 · exact h.elim
theorem qO_ex {i:Nat}{env:Env}{n:Nat}{R:PK}(h:qO i env n R):∃xs,env[i]?=some (some (.ow .lst xs))/\R (.lst xs) env n:=by
 unfold qO at h
 split at h
 · exact⟨_,by assumption,h⟩
 · exact h.elim
theorem a0a (i:Nat){x:Str}{pos:Pos}(h:∀z,EW (F z) (.Name x pos) (tVar i)):QE T K F (.Name x pos) (qV i):=by
 refine⟨_,fun z=>(h z).h,fun C G σ H env n R Q hK hT S hp k=>?_⟩;obtain⟨x,e,r⟩:=qV_ex hp;obtain⟨v,ev,rv⟩:=S.slots i _ e;exact⟨v,ev,k _ _ _ _ _ r S (hK▸rv) Fr.refl⟩
theorem a4G (i:Nat){x:Str}{pos:Pos}(h:∀z,EW (F z) (.Name x pos) (tVar i)):QR T K F (.Name x pos) (qO i):=by
 refine⟨_,fun z=>(h z).h,fun C G σ H env n R Q hK hT S hp k=>?_⟩;obtain⟨xs,e,r⟩:=qO_ex hp;obtain⟨a,vs,ev,_,_,_,_,rv⟩:=S.slots i _ e;exact⟨.ref a,ev,k _ _ _ _ _ r S (.inr ⟨i,a,xs,e,ev,rfl,rfl⟩) Fr.refl⟩
theorem QE.r (h:QE T K F e pe):QR T K F e pe:=by
 obtain⟨t,h1,h2⟩:=h;exact⟨t,h1,fun C G σ H env n R Q hK hT S hp k=>h2 C G σ H env n R Q hK hT S hp fun x env' n' v H' r S' rp f=>k x env' n' v H' r S' (.inl (by rw [hK];exact rp)) f⟩
theorem ok_c {K:x0a}{c:PV}{v:V}(h:∀G H,Rep K G H c v):EOk K T (tC v) (qC c):=fun C G σ H env n R Q hK hT S hp k=>k _ _ _ _ _ hp S (h G H) Fr.refl
theorem a0v {i j pos}:QE T K F (.Constant (.int i) j pos) (qC (.int i)):=⟨_,fun z=>a0s,ok_c fun _ _=>rfl⟩
theorem a2P {i j pos}:QE T K F (.Constant (.bool i) j pos) (qC (.bl i)):=⟨_,fun z=>pe_bl,ok_c fun _ _=>rfl⟩
theorem a0u {i j pos}:QE T K F (.Constant (.str i) j pos) (qC (.str i)):=⟨_,fun z=>pe_str,ok_c fun _ _=>rfl⟩
theorem a3B {j pos}:QE T K F (.Constant .none j pos) (qC .non):=⟨_,fun z=>pe_non,ok_c fun _ _=>rfl⟩
abbrev w1:=PV->(PV->Prop)->Prop
abbrev w2:=PV->PV->(PV->Prop)->Prop
def W2 (K:x0a)(r:R2)(w:w2):Prop:=∀(G:Gh) (H:Hp) (x y:PV) (v u:V) (R:PV->Prop) (Q:VK),(∀p,H p=none->p∉G.M)->RdV K G H x v->RdV K G H y u->w x y R->
 (∀z v' H',R z->Same H H'->Rep K G H' z v'->Q v' H')->r v u H Q
def W1 (K:x0a)(r:V->Hp->VK->Prop)(w:w1):Prop:=∀(G:Gh) (H:Hp) (x:PV) (v:V) (R:PV->Prop) (Q:VK),(∀p,H p=none->p∉G.M)->RdV K G H x v->w x R->
 (∀z v' H',R z->Same H H'->Rep K G H' z v'->Q v' H')->r v H Q
def qOp (w:w2)(pa pb:pE):pE:=fun env n R=>pa env n fun x env1 n1=>pb env1 n1 fun y env2 n2=>w x y fun z=>R z env2 n2
def qOpR (w:w2)(pa pb:pE):pE:=fun env n R=>pa env n fun x env1 n1=>pb env1 n1 fun y env2 n2=>env2=env1/\w x y fun z=>R z env2 n2
def qUn (w:w1)(pa:pE):pE:=fun env n R=>pa env n fun x env1 n1=>w x fun z=>R z env1 n1
theorem a8o {K:x0a}{r:R2}{w:w2}{ta tb:TE}(hw:W2 K r w)(ha:EOk K T ta pa)(hb:ROk K T tb pb):EOk K T (tOp r ta tb) (qOp w pa pb):=fun C G σ H env n R Q hK hT S hp k=>by
 refine ha C G σ H env n _ _ hK hT S hp fun x env1 n1 v H1 p1 S1 r1 f1=>?_;refine hb C G σ H1 env1 n1 _ _ hK hT S1 p1 fun y env2 n2 u H2 p2 S2 r2 f2=>?_;subst hK;exact hw G H2 x y v u _ _ (fun p hp=>S2.fresh hp) (.inl (r1.fr f2)) (r2.rd S2) p2 fun z v' H' rz s rv=>k _ _ _ _ _ rz (S2.same s) rv ((f1.trans f2).trans (Fr.of s))
theorem ok_opR {K:x0a}{r:R2}{w:w2}{ta tb:TE}(hw:W2 K r w)(ha:ROk K T ta pa)(hb:ROk K T tb pb):EOk K T (tOp r ta tb) (qOpR w pa pb):=fun C G σ H env n R Q hK hT S hp k=>by
 refine ha C G σ H env n _ _ hK hT S hp fun x env1 n1 v H1 p1 S1 r1 f1=>?_;refine hb C G σ H1 env1 n1 _ _ hK hT S1 p1 fun y env2 n2 u H2 p2 S2 r2 f2=>?_;subst hK;obtain⟨e,p2⟩:=p2;subst e;exact hw G H2 x y v u _ _ (fun p hp=>S2.fresh hp) ((r1.fr f2).rd S2) (r2.rd S2) p2 fun z v' H' rz s rv=>k _ _ _ _ _ rz (S2.same s) rv ((f1.trans f2).trans (Fr.of s))
theorem ok_un {K:x0a}{r:V->Hp->VK->Prop}{w:w1}{ta:TE}(hw:W1 K r w)(ha:ROk K T ta pa):EOk K T (tUn r ta) (qUn w pa):=fun C G σ H env n R Q hK hT S hp k=>by
 refine ha C G σ H env n _ _ hK hT S hp fun x env1 n1 v H1 p1 S1 r1 f1=>?_;subst hK;exact hw G H1 x v _ _ (fun p hp=>S1.fresh hp) (r1.rd S1) p1 fun z v' H' rz s rv=>k _ _ _ _ _ rz (S1.same s) rv (f1.trans (Fr.of s))
def wI (C:Int->Int->Prop)(g:Int->Int->PV):w2:=fun x y R=>match x,y with | .int i,.int j=>C i j/\R (g i j) | _,_=>False
theorem W2.I {K:x0a}{C:Int->Int->Prop}{g:Int->Int->V}{g':Int->Int->PV}(hg:∀i j G H,Rep K G H (g' i j) (g i j)):W2 K (rI C g) (wI C g'):=by
 intro G H x y v u R Q hf rx ry hw k;unfold wI at hw
 split at hw
 · exact⟨_,_,rx.int,ry.int,hw.1,k _ _ _ hw.2 (Same.refl _) (hg _ _ _ _)⟩
 · exact hw.elim
def wI0 (g:Int->Int->PV):w2:=fun x y R=>match x,y with | .int i,.int j=>R (g i j) | _,_=>False
theorem W2.I0 {K:x0a}{g:Int->Int->V}{g':Int->Int->PV}(hg:∀i j G H,Rep K G H (g' i j) (g i j)):W2 K (rI0 g) (wI0 g'):=by
 intro G H x y v u R Q hf rx ry hw k;unfold wI0 at hw
 split at hw
 · exact⟨_,_,rx.int,ry.int,k _ _ _ hw (Same.refl _) (hg _ _ _ _)⟩
 · exact hw.elim
def wAdd:w2:=fun x y R=>match x,y with
 | .int i,.int j=>R (.int (i + j))
 | .str i,.str j=>i.length + j.length<=1000000/\R (.str (i++j))
 | .tup xs,.tup ys=>xs.length + ys.length<=1000000/\R (.tup (xs++ys))
 | _,_=>False
theorem mil {n:Nat}(h:n<=1000000):n<=x0v:=x1j h (by rw [x2P];decide)
theorem mil' {n:Nat}(h:n<=1000000):n < x0v:=x3e h (by rw [x2P];decide)
theorem a1K {K:x0a}{G:Gh}{H:Hp}{p:Addr}{xs:List PV}{vs:List V}(hf:p∉G.M)(hn:H p=none)(r:Reps K G H xs vs):Rep K G (upd H p (.tup vs)) (.tup xs) (.ref p):=
 ⟨p,vs,rfl,⟨hf,a0j⟩,r.same (Same.lay1 hn)⟩
theorem a3W {K:x0a}{G:Gh}{H:Hp}{p:Addr}{xs:List PV}{vs:List V}(hf:p∉G.M)(hn:H p=none)(r:Reps K G H xs vs):Rep K G (upd H p (.lst vs)) (.lst xs) (.ref p):=
 ⟨p,vs,rfl,⟨hf,a0j⟩,r.same (Same.lay1 hn)⟩
theorem W2.add {K:x0a}:W2 K (fun x y H Q=>(rI0 fun i j=>.int (i + j)) x y H Q\/(∃i j,x=.str i/\y=.str j/\i.length + j.length<=x0v/\Q (.str (i++j)) H)\/rCatA K x y H Q) wAdd:=by
 intro G H x y v u R Q hf rx ry hw k;unfold wAdd at hw
 split at hw
 · exact .inl ⟨_,_,rx.int,ry.int,k _ _ _ hw (Same.refl _) rfl⟩
 · exact .inr (.inl ⟨_,_,rx.str,ry.str,mil hw.1,k _ _ _ hw.2 (Same.refl _) rfl⟩)
 · rename_i xs ys;obtain⟨a,vs,ea,ta,ra⟩:=rx.rep (fun _ z=>nomatch z);obtain⟨b,us,eb,tb,rb⟩:=ry.rep (fun _ z=>nomatch z);refine .inr (.inr ⟨a,b,vs,us,ea,eb,ta.sq,tb.sq,?_,fun z=>?_,fun z1 z2=>?_,fun z1 z2 p hp=>?_⟩)
   · rw [<- ra.length,<- rb.length];exact mil hw.1
   · subst z;have:xs=[]:=x1h ra.length;subst this;exact k _ _ _ hw.2 (Same.refl _) ⟨b,us,rfl,tb,rb⟩
   · subst z2;have:ys=[]:=x1h rb.length;subst this;exact k _ _ _ hw.2 (Same.refl _) (by rw [x1x];exact⟨a,vs,rfl,ta,ra⟩)
   · exact k _ _ _ hw.2 (Same.lay1 hp) (a1K (hf p hp) hp (ra.append rb))
 · exact hw.elim
theorem a1j {pos:Pos}(ha:QE T K F a pa)(hb:QE T K F b pb)(hK:∀z,(F z).K=K:=by intro _;rfl):QE T K F (.BinOp a .Add b pos) (qOp wAdd pa pb):=by
 obtain⟨ta,h1,h2⟩:=ha;obtain⟨tb,h3,h4⟩:=hb.r;exact⟨_,fun z=>a0Y (a3d.or (a6V.or (hK z▸b2A))) (h1 z) (h3 z),a8o W2.add h2 h4⟩
theorem qe_op {op:Operator}{r:R2}{w:w2}{pos:Pos}(ho:∀z,OpR (F z) (x2G op) r)(hw:W2 K r w)(ha:QE T K F a pa)(hb:QE T K F b pb):QE T K F (.BinOp a op b pos) (qOp w pa pb):=by
 obtain⟨ta,h1,h2⟩:=ha;obtain⟨tb,h3,h4⟩:=hb.r;exact⟨_,fun z=>a0Y (ho z) (h1 z) (h3 z),a8o hw h2 h4⟩
def wSub:w2:=wI0 fun i j=>.int (i - j)
theorem a1q {pos:Pos}(ha:QE T K F a pa)(hb:QE T K F b pb):QE T K F (.BinOp a .Sub b pos) (qOp wSub pa pb):=qe_op (fun _=>op_sub) (W2.I0 fun _ _ _ _=>rfl) ha hb
end
end Pu
end
section
namespace L2
open PySem PySem.Spec PyProof.Rows
def EqD (K:x0a)(H:Hp):Nat->V->V->Bool->Prop
 | 0,x,y,b=>a2j x=true/\a2j y=true/\b=eqV x y
 | d + 1, x, y, b => (a2j x = true /\ a2j y = true /\ b = eqV x y) \/
   (∃p q xs ys,∃f:Nat->Bool,x=.ref p/\y=.ref q/\SqT K H p xs/\SqT K H q ys/\(∀(j:Nat) x' y',xs[j]?=some x'->ys[j]?=some y'->EqD K H d x' y' (f j))/\b=((x0j (min xs.length ys.length)).all f && xs.length == ys.length))\/
   (∃p q xs ys,∃f:Nat->Bool,x=.ref p/\y=.ref q/\SqL K H p xs/\SqL K H q ys/\(∀(j:Nat) x' y',xs[j]?=some x'->ys[j]?=some y'->EqD K H d x' y' (f j))/\b=((x0j (min xs.length ys.length)).all f && xs.length == ys.length))\/
   (b=false/\((∃p xs,x=.ref p/\(SqT K H p xs\/SqL K H p xs)/\a2j y=true)\/(∃p xs,y=.ref p/\(SqT K H p xs\/SqL K H p xs)/\a2j x=true)\/
     (∃p q xs ys,x=.ref p/\y=.ref q/\SqT K H p xs/\SqL K H q ys)\/(∃p q xs ys,x=.ref p/\y=.ref q/\SqL K H p xs/\SqT K H q ys)))
section
variable {X:Cx}{pins:List (Addr×Obj)}{σ:St}{H:Hp}{s:Shared}
theorem a1E (I:Inv X pins σ H s){p:Addr}{xs ys:List V}(h:SqT X.K H p xs)(h':SqL X.K H p ys):False:=by
 obtain⟨its,r,⟨o,e,c,n,d⟩,_⟩:=I.tuple h;obtain⟨its',r',⟨o',n',e',c',_,d'⟩,_⟩:=I.list h';rw [e] at e';cases e';rw [c] at c';injection c' with c';exact absurd c' (by decide)
theorem EqD.refl (I:Inv X pins σ H s):∀(d:Nat) (x:V) (b:Bool),EqD X.K H d x x b->b=true:=by
 intro d
 induction d with
 | zero =>
   intro x b h;obtain⟨h1,_,rfl⟩:=h;exact a6u h1
 | succ d ih =>
   intro x b h;rcases h with⟨h1,_,rfl⟩ | ⟨p,q,xs,ys,f,e1,e2,s1,s2,hf,rfl⟩ | ⟨p,q,xs,ys,f,e1,e2,s1,s2,hf,rfl⟩ | ⟨rfl,h⟩
   · exact a6u h1
   · subst e1;cases e2;have:=I.tuple_inj s1 s2;subst this;simp only [Nat.min_self,beq_self_eq_true,Bool.and_true,x0z,x1q];intro j hj;exact ih _ _ (hf j xs[j] xs[j] (by simp [hj]) (by simp [hj]))
   · subst e1;cases e2;have:=I.list_inj s1 s2;subst this;simp only [Nat.min_self,beq_self_eq_true,Bool.and_true,x0z,x1q];intro j hj;exact ih _ _ (hf j xs[j] xs[j] (by simp [hj]) (by simp [hj]))
   · rcases h with⟨p,xs,rfl,_,h⟩ | ⟨p,xs,rfl,_,h⟩ | ⟨p,q,xs,ys,e1,e2,s1,s2⟩ | ⟨p,q,xs,ys,e1,e2,s1,s2⟩
     · cases h
     · cases h
     · subst e1;cases e2;exact(a1E I s1 s2).elim
     · subst e1;cases e2;exact(a1E I s2 s1).elim
theorem Inv.sqL (I:Inv X pins σ H s){p:Addr}{xs:List V}(h:SqL X.K H p xs):∃its:List Value,Vals xs its/\s.heap.IsList p its.toArray:=by
 obtain⟨its,r,pl,_⟩:=I.list h;exact⟨its,r,pl.isList⟩
theorem Inv.sqT (I:Inv X pins σ H s){p:Addr}{xs:List V}(h:SqT X.K H p xs):∃its:List Value,Vals xs its/\s.heap.IsTuple p its.toArray:=by
 obtain⟨its,r,pl,_⟩:=I.tuple h;exact⟨its,r,pl⟩
theorem a2V (I:Inv X pins σ H s){A:Around}(hu:A.units < cLine){p:Addr}{xs:List V}(hq:SqT X.K H p xs\/SqL X.K H p xs){y:V}{w:Value}(ry:RelV y w)(fy:a2j y=true) :
   x4n A s (.ref p) w false/\x3C A s (.ref p) w true/\x4n A s w (.ref p) false/\x3C A s w (.ref p) true/\x3R A s (.ref p) w false/\x3R A s w (.ref p) false:=by
 rcases hq with hq | hq
 · obtain⟨its,r,il⟩:=I.sqT hq;cases y with
   | non=>cases ry;exact⟨.tuple_none il hu,.tuple_none il hu,.none_tuple il hu,.none_tuple il hu,.tuple_none il hu,.none_tuple il hu⟩
   | bl b=>cases ry;exact⟨.tuple_bool b il hu,.tuple_bool b il hu,.bool_tuple b il hu,.bool_tuple b il hu,.tuple_bool b il hu,.bool_tuple b il hu⟩
   | int i=>obtain⟨t,rfl⟩:=ry;exact⟨.tuple_int i t il hu,.tuple_int i t il hu,.int_tuple i t il hu,.int_tuple i t il hu,.tuple_int i t il hu,.int_tuple i t il hu⟩
   | str i=>obtain⟨t,rfl⟩:=ry;exact⟨.tuple_str i t il hu,.tuple_str i t il hu,.str_tuple i t il hu,.str_tuple i t il hu,.tuple_str i t il hu,.str_tuple i t il hu⟩
   | _=>cases fy
 · obtain⟨its,r,il⟩:=I.sqL hq;cases y with
   | non=>cases ry;exact⟨.list_none il hu,.list_none il hu,.none_list il hu,.none_list il hu,.list_none il hu,.none_list il hu⟩
   | bl b=>cases ry;exact⟨.list_bool b il hu,.list_bool b il hu,.bool_list b il hu,.bool_list b il hu,.list_bool b il hu,.bool_list b il hu⟩
   | int i=>obtain⟨t,rfl⟩:=ry;exact⟨.list_int i t il hu,.list_int i t il hu,.int_list i t il hu,.int_list i t il hu,.list_int i t il hu,.int_list i t il hu⟩
   | str i=>obtain⟨t,rfl⟩:=ry;exact⟨.list_str i t il hu,.list_str i t il hu,.str_list i t il hu,.str_list i t il hu,.list_str i t il hu,.str_list i t il hu⟩
   | _=>cases fy
theorem a7N {A:Around}{x y:V}{u w:Value}(rx:RelV x u)(ry:RelV y w)(fx:a2j x=true)(fy:a2j y=true):x4n A s u w (eqV x y)/\x3C A s u w (!eqV x y):=by
 cases x with
 | non =>
   cases rx;cases y with
   | non=>cases ry;exact⟨.none_none,.none_none⟩
   | bl j=>cases ry;exact⟨.none_bool j,.none_bool j⟩
   | int j=>obtain⟨t,rfl⟩:=ry;exact⟨.none_int j t,.none_int j t⟩
   | str j=>obtain⟨t,rfl⟩:=ry;exact⟨.none_str j t,.none_str j t⟩
   | _=>cases fy
 | bl i =>
   cases rx;cases y with
   | non=>cases ry;exact⟨.bool_none i,.bool_none i⟩
   | bl j=>cases ry;exact⟨.bool_bool i j,.bool_bool i j⟩
   | int j=>obtain⟨t,rfl⟩:=ry;exact⟨.bool_int i j t,.bool_int i j t⟩
   | str j=>obtain⟨t,rfl⟩:=ry;exact⟨.bool_str i j t,.bool_str i j t⟩
   | _=>cases fy
 | int i =>
   obtain⟨ti,rfl⟩:=rx;cases y with
   | non=>cases ry;exact⟨.int_none i ti,.int_none i ti⟩
   | bl j=>cases ry;exact⟨.int_bool i ti j,.int_bool i ti j⟩
   | int j=>obtain⟨t,rfl⟩:=ry;exact⟨.int_int i ti j t,.int_int i ti j t⟩
   | str j=>obtain⟨t,rfl⟩:=ry;exact⟨.int_str i ti j t,.int_str i ti j t⟩
   | _=>cases fy
 | str i =>
   obtain⟨ti,rfl⟩:=rx;cases y with
   | non=>cases ry;exact⟨.str_none i ti,.str_none i ti⟩
   | bl j=>cases ry;exact⟨.str_bool i ti j,.str_bool i ti j⟩
   | int j=>obtain⟨t,rfl⟩:=ry;exact⟨.str_int i ti j t,.str_int i ti j t⟩
   | str j=>obtain⟨t,rfl⟩:=ry;exact⟨.str_str i ti j t,.str_str i ti j t⟩
   | _=>cases fy
 | _=>cases fx
theorem a3m (A:Around):A.in1.units=A.units + 1:=rfl
theorem EqD.at (I:Inv X pins σ H s):∀(d:Nat) (A:Around) (x y:V) (u w:Value) (b:Bool),A.units + d < cLine->RelV x u->RelV y w->EqD X.K H d x y b->x3R A s u w b/\x4n A s u w b/\x3C A s u w (!b):=by
 intro d
 induction d with
 | zero =>
   intro A x y u w b hu rx ry h;obtain⟨h1,h2,rfl⟩:=h;exact⟨b1g rx ry h1 h2,a7N rx ry h1 h2⟩
 | succ d ih =>
   intro A x y u w b hu rx ry h;have hu0:A.units < cLine:=by omega
   have hu1:A.in1.units + d < cLine:=by rw [a3m];omega
   have hrefl:=EqD.refl I (d + 1) x b;rcases h with⟨h1,h2,rfl⟩ | ⟨p,q,xs,ys,f,e1,e2,s1,s2,hf,eb⟩ | ⟨p,q,xs,ys,f,e1,e2,s1,s2,hf,eb⟩ | ⟨rfl,h⟩
   · exact⟨b1g rx ry h1 h2,a7N rx ry h1 h2⟩
   · subst e1 e2;cases rx;cases ry;obtain⟨its,r1,t1⟩:=I.sqT s1;obtain⟨its2,r2,t2⟩:=I.sqT s2;have z1:its.toArray.size=xs.length:=by simpa using r1.length.symm
     have z2:its2.toArray.size=ys.length:=by simpa using r2.length.symm
     have he:∀j (h1:j < its.toArray.size) (h2:j < its2.toArray.size),x3R A.in1 s its.toArray[j] its2.toArray[j] (f j):=by
       intro j h1 h2;obtain⟨x',e1,q1⟩:=r1.getE (j:=j) (by simpa using h1);obtain⟨y',e2,q2⟩:=r2.getE (j:=j) (by simpa using h2);exact(ih A.in1 x' y' _ _ (f j) hu1 (by simpa using q1) (by simpa using q2) (hf j x' y' e1 e2)).1
     have rc:x4n A s (.ref p) (.ref q) b:=by
       rw [eb,<- z1,<- z2];exact SeqAt.RcAt.tuples t1 t2 hu0 he
     have rn:x3C A s (.ref p) (.ref q) (!b):=by
       rw [eb,<- z1,<- z2];exact SeqAt.RcNeAt.tuples t1 t2 hu0 he
     refine⟨?_,rc,rn⟩
     by_cases hpq:p=q
     · subst hpq;rw [hrefl (.inr (.inl ⟨p,p,xs,ys,f,rfl,rfl,s1,s2,hf,eb⟩))];exact .same _
     · exact .of_refs hpq rc
   · subst e1 e2;cases rx;cases ry;obtain⟨its,r1,t1⟩:=I.sqL s1;obtain⟨its2,r2,t2⟩:=I.sqL s2;have z1:its.toArray.size=xs.length:=by simpa using r1.length.symm
     have z2:its2.toArray.size=ys.length:=by simpa using r2.length.symm
     have he:∀j (h1:j < its.toArray.size) (h2:j < its2.toArray.size),x3R A.in1 s its.toArray[j] its2.toArray[j] (f j):=by
       intro j h1 h2;obtain⟨x',e1,q1⟩:=r1.getE (j:=j) (by simpa using h1);obtain⟨y',e2,q2⟩:=r2.getE (j:=j) (by simpa using h2);exact(ih A.in1 x' y' _ _ (f j) hu1 (by simpa using q1) (by simpa using q2) (hf j x' y' e1 e2)).1
     have rr:x4n A s (.ref p) (.ref q) b/\x3C A s (.ref p) (.ref q) (!b):=by
       by_cases hl:xs.length=ys.length
       · have e3:b=(x0j its.toArray.size).all f:=by rw [eb,hl,Nat.min_self,beq_self_eq_true,Bool.and_true,z1,hl]
         rw [e3];exact⟨SeqAt.RcAt.lists t1 t2 (by rw [z1,z2,hl]) hu0 he,SeqAt.RcNeAt.lists t1 t2 (by rw [z1,z2,hl]) hu0 he⟩
       · have e3:b=false:=by
           rw [eb];have:(xs.length == ys.length)=false:=by simpa using hl
           rw [this,Bool.and_false]
         rw [e3];have e4:(its.toArray.size != its2.toArray.size)=true:=by rw [z1,z2];simpa using hl
         exact⟨SeqAt.RcAt.lists_lengths t1 t2 e4 hu0,SeqAt.RcNeAt.lists_lengths t1 t2 e4 hu0⟩
     refine⟨?_,rr⟩
     by_cases hpq:p=q
     · subst hpq;rw [hrefl (.inr (.inr (.inl ⟨p,p,xs,ys,f,rfl,rfl,s1,s2,hf,eb⟩)))];exact .same _
     · exact .of_refs hpq rr.1
   · rcases h with⟨p,xs,rfl,hq,fy⟩ | ⟨p,xs,rfl,hq,fx⟩ | ⟨p,q,xs,ys,e1,e2,s1,s2⟩ | ⟨p,q,xs,ys,e1,e2,s1,s2⟩
     · cases rx;obtain⟨a1,a2,a3,a4,a5,a6⟩:=a2V I hu0 hq ry fy;exact⟨a5,a1,a2⟩
     · cases ry;obtain⟨a1,a2,a3,a4,a5,a6⟩:=a2V I hu0 hq rx fx;exact⟨a6,a3,a4⟩
     · subst e1 e2;cases rx;cases ry;obtain⟨its,r1,t1⟩:=I.sqT s1;obtain⟨its2,r2,t2⟩:=I.sqL s2;exact⟨.tuple_list t1 t2 hu0,.tuple_list t1 t2 hu0,.tuple_list t1 t2 hu0⟩
     · subst e1 e2;cases rx;cases ry;obtain⟨its,r1,t1⟩:=I.sqL s1;obtain⟨its2,r2,t2⟩:=I.sqT s2;exact⟨.list_tuple t1 t2 hu0,.list_tuple t1 t2 hu0,.list_tuple t1 t2 hu0⟩
end
section
variable {X:Cx}
def rEqD (K:x0a)(d:Nat)(neg:Bool):R2:=fun x y H Q=>∃b,EqD K H d x y b/\Q (.bl (if neg then !b else b)) H
theorem op_eqD (d:Nat)(hu:X.A.units + d < cLine):OpR X (x1v .Eq) (rEqD X.K d false):=by
 intro pins s σ H x y v u Q I rx ry h;obtain⟨b,hb,q⟩:=h;exact(hb.at I d X.A x y v u b hu rx ry).2.1 X.prog X.w X.xe _ ⟨.bl _,H,I,rfl,q⟩
theorem op_neD (d:Nat)(hu:X.A.units + d < cLine):OpR X (x1v .NotEq) (rEqD X.K d true):=by
 intro pins s σ H x y v u Q I rx ry h;obtain⟨b,hb,q⟩:=h;exact(hb.at I d X.A x y v u b hu rx ry).2.2 X.prog X.w X.xe _ ⟨.bl _,H,I,rfl,q⟩
def rInD (K:x0a)(d:Nat)(neg:Bool):R2:=fun x y H Q=>∃p ys,∃f:Nat->Bool,y=.ref p/\(SqL K H p ys\/SqT K H p ys)/\(∀(j:Nat) z,ys[j]?=some z->EqD K H d z x (f j))/\Q (.bl (if neg then !((x0j ys.length).any f) else(x0j ys.length).any f)) H
theorem a3L {n:Nat}{f g:Nat->Bool}(h:∀j,j < n->f j=g j):(x0j n).all f=(x0j n).all g:=by
 rw [Bool.eq_iff_iff,x0z,x0z];constructor
 · intro k j hj;rw [<- h j (x1q.mp hj)];exact k j hj
 · intro k j hj;rw [h j (x1q.mp hj)];exact k j hj
theorem EqD.det {pins:List (Addr×Obj)}{σ:St}{H:Hp}{s:Shared}(I:Inv X pins σ H s):∀(d:Nat) (x y:V) (b b':Bool),EqD X.K H d x y b->EqD X.K H d x y b'->b=b':=by
 intro d
 induction d with
 | zero =>
   intro x y b b' h h';rw [h.2.2,h'.2.2]
 | succ d ih =>
   intro x y b b' h h';rcases h with⟨h1,h2,rfl⟩ | ⟨p,q,xs,ys,f,rfl,rfl,s1,s2,hf,rfl⟩ | ⟨p,q,xs,ys,f,rfl,rfl,s1,s2,hf,rfl⟩ | ⟨rfl,h⟩
   · rcases h' with⟨h1',h2',rfl⟩ | ⟨p,q,xs,ys,f,rfl,rfl,s1,s2,hf,rfl⟩ | ⟨p,q,xs,ys,f,rfl,rfl,s1,s2,hf,rfl⟩ | ⟨rfl,h⟩
     · rfl
     · cases h1
     · cases h1
     · rcases h with⟨p,xs,rfl,_,h⟩ | ⟨p,xs,rfl,_,h⟩ | ⟨p,q,xs,ys,rfl,rfl,s1,s2⟩ | ⟨p,q,xs,ys,rfl,rfl,s1,s2⟩
       · cases h1
       · cases h2
       · cases h1
       · cases h1
   · rcases h' with⟨h1',h2',rfl⟩ | ⟨p',q',xs',ys',f',e1,e2,s1',s2',hf',rfl⟩ | ⟨p',q',xs',ys',f',e1,e2,s1',s2',hf',rfl⟩ | ⟨rfl,h⟩
     · cases h1'
     · cases e1;cases e2;have:=I.tuple_inj s1 s1';subst this;have:=I.tuple_inj s2 s2';subst this;rw [a3L fun j hj=>ih _ _ _ _ (hf j (xs[j]'(by omega)) (ys[j]'(by omega)) (x0f _) (x0f _)) (hf' j (xs[j]'(by omega)) (ys[j]'(by omega)) (x0f _) (x0f _))]
     · cases e1;exact(a1E I s1 s1').elim
     · rcases h with⟨p',xs',e1,_,h⟩ | ⟨p',xs',e1,_,h⟩ | ⟨p',q',xs',ys',e1,e2,s1',s2'⟩ | ⟨p',q',xs',ys',e1,e2,s1',s2'⟩
       · cases h
       · cases h
       · cases e2;exact(a1E I s2 s2').elim
       · cases e1;exact(a1E I s1 s1').elim
   · rcases h' with⟨h1',h2',rfl⟩ | ⟨p',q',xs',ys',f',e1,e2,s1',s2',hf',rfl⟩ | ⟨p',q',xs',ys',f',e1,e2,s1',s2',hf',rfl⟩ | ⟨rfl,h⟩
     · cases h1'
     · cases e1;exact(a1E I s1' s1).elim
     · cases e1;cases e2;have:=I.list_inj s1 s1';subst this;have:=I.list_inj s2 s2';subst this;rw [a3L fun j hj=>ih _ _ _ _ (hf j (xs[j]'(by omega)) (ys[j]'(by omega)) (x0f _) (x0f _)) (hf' j (xs[j]'(by omega)) (ys[j]'(by omega)) (x0f _) (x0f _))]
     · rcases h with⟨p',xs',e1,_,h⟩ | ⟨p',xs',e1,_,h⟩ | ⟨p',q',xs',ys',e1,e2,s1',s2'⟩ | ⟨p',q',xs',ys',e1,e2,s1',s2'⟩
       · cases h
       · cases h
       · cases e1;exact(a1E I s1' s1).elim
       · cases e2;exact(a1E I s2' s2).elim
   · rcases h' with⟨h1',h2',rfl⟩ | ⟨p',q',xs',ys',f',rfl,rfl,s1',s2',hf',rfl⟩ | ⟨p',q',xs',ys',f',rfl,rfl,s1',s2',hf',rfl⟩ | ⟨rfl,h'⟩
     · rcases h with⟨p,xs,rfl,_,h⟩ | ⟨p,xs,rfl,_,h⟩ | ⟨p,q,xs,ys,rfl,rfl,s1,s2⟩ | ⟨p,q,xs,ys,rfl,rfl,s1,s2⟩
       · cases h1'
       · cases h2'
       · cases h1'
       · cases h1'
     · rcases h with⟨p,xs,e1,_,h⟩ | ⟨p,xs,e1,_,h⟩ | ⟨p,q,xs,ys,e1,e2,s1,s2⟩ | ⟨p,q,xs,ys,e1,e2,s1,s2⟩
       · cases h
       · cases h
       · cases e2;exact(a1E I s2' s2).elim
       · cases e1;exact(a1E I s1' s1).elim
     · rcases h with⟨p,xs,e1,_,h⟩ | ⟨p,xs,e1,_,h⟩ | ⟨p,q,xs,ys,e1,e2,s1,s2⟩ | ⟨p,q,xs,ys,e1,e2,s1,s2⟩
       · cases h
       · cases h
       · cases e1;exact(a1E I s1 s1').elim
       · cases e2;exact(a1E I s2 s2').elim
     · rfl
open Classical in
theorem b1d {pins:List (Addr×Obj)}{σ:St}{H:Hp}{s:Shared}(I:Inv X pins σ H s){d:Nat}{A:Around}(hu:A.units + d < cLine){ys:List V}{its:List Value}(r:Vals ys its){x:V}{v:Value}(rx:RelV x v){f:Nat->Bool}(hf:∀(j:Nat) z,ys[j]?=some z->EqD X.K H d z x (f j)) :
   ∃e:Value->Bool,(∀y,y∈its->x3R A s y v (e y))/\its.any e=(x0j ys.length).any f:=by
 have key:∀(j j':Nat) (z:Value),its[j]?=some z->its[j']?=some z->f j=f j':=by
   intro j j' z h h';obtain⟨hj,_⟩:=x0k.mp h;obtain⟨hj',_⟩:=x0k.mp h';obtain⟨w1,a1,b1⟩:=r.getE hj;obtain⟨w2,a2,b2⟩:=r.getE hj';rw [x0f hj] at h;rw [x0f hj'] at h';cases h;rw [x0C h'] at b2;have:=b1.inj b2;subst this;exact EqD.det I d _ _ _ _ (hf j _ a1) (hf j' _ a2)
 let e:Value->Bool:=fun y=>decide (∃j,its[j]?=some y/\f j=true)
 have he:∀(j:Nat) (y:Value),its[j]?=some y->e y=f j:=by
   intro j y h;show decide _=_;cases hb:f j with
   | true=>exact decide_eq_true ⟨j,h,hb⟩
   | false=>exact decide_eq_false fun⟨j',h1,h2⟩=>by rw [key j j' y h h1,h2] at hb;cases hb
 refine⟨e,fun y hy=>?_,?_⟩
 · obtain⟨j,hj,rfl⟩:=x3Y hy;obtain⟨w1,a1,b1⟩:=r.getE hj;rw [he j _ (x0f hj)];exact((hf j w1 a1).at I d A w1 x _ v (f j) hu b1 rx).1
 · have hl:=r.length;rw [Bool.eq_iff_iff,x3H,x3H];constructor
   · rintro⟨y,hy,h⟩;obtain⟨j,hj,rfl⟩:=x3Y hy;exact⟨j,x1q.mpr (by omega),by rw [<- he j _ (x0f hj)];exact h⟩
   · rintro⟨j,hj,h⟩;have hj':j < its.length:=by have:=x1q.mp hj;omega
     exact⟨its[j],x3G hj',by rw [he j _ (x0f hj')];exact h⟩
theorem op_inD (d:Nat)(hu:X.A.units + (d + 1) < cLine):OpR X (x1v .In) (rInD X.K d false):=by
 intro pins s σ H x y v u Q I rx ry h;obtain⟨p,ys,f,rfl,hq,hf,q⟩:=h;cases ry;rcases hq with hq | hq
 · obtain⟨its,r,il⟩:=I.sqL hq;obtain⟨e,h1,h2⟩:=b1d I (A:=X.A.in1) (by rw [a3m];omega) r rx hf;refine SeqAt.in_listAt e il (fun y hy=>h1 y (by simpa using hy)) ⟨.bl _,H,I,rfl,?_⟩;rw [show its.toArray.any e=its.any e by simp,h2];exact q
 · obtain⟨its,r,il⟩:=I.sqT hq;obtain⟨e,h1,h2⟩:=b1d I (A:=X.A.in1) (by rw [a3m];omega) r rx hf;refine SeqAt.in_tupleAt e il (fun y hy=>h1 y (by simpa using hy)) ⟨.bl _,H,I,rfl,?_⟩;rw [show its.toArray.any e=its.any e by simp,h2];exact q
end
end L2
namespace Pu
open PySem PySem.Spec L2
def a2H:PV->Bool
 | .non=>true
 | .bl _=>true
 | .int _=>true
 | .str _=>true
 | _=>false
def cmpb:Nat->PV->Bool
 | 0,x=>a2H x
 | d + 1,.tup xs=>xs.all (cmpb d)
 | d + 1,.lst xs=>xs.all (cmpb d)
 | _ + 1,x=>a2H x
mutual
def eqP:PV->PV->Bool
 | .non,.non=>true
 | .bl a,.bl b=>a == b
 | .bl a,.int b=>(if a then 1 else 0) == b
 | .int a,.bl b=>a == (if b then 1 else 0)
 | .int a,.int b=>a == b
 | .str a,.str b=>a == b
 | .tup xs,.tup ys=>eqPs xs ys
 | .lst xs,.lst ys=>eqPs xs ys
 | _,_=>false
def eqPs:List PV->List PV->Bool
 | [],[]=>true
 | x::xs,y::ys=>eqP x y && eqPs xs ys
 | _,_=>false
end
theorem a2E:∀(xs ys:List PV),((x0j (min xs.length ys.length)).all (fun j=>match xs[j]?,ys[j]? with | some x,some y=>eqP x y | _,_=>false) && xs.length == ys.length)=eqPs xs ys
 | [],[]=>rfl
 | [],_::_=>rfl
 | _::_,[]=>rfl
 | x :: xs, y :: ys => by
   have ih:=a2E xs ys;show _=(eqP x y && eqPs xs ys);rw [<- ih];simp only [x0B,Nat.succ_min_succ,List.range_succ_eq_map,List.all_cons,List.all_map,Function.comp_def,x3f,x1O];rw [Bool.and_assoc]
   congr 1
   simp
end Pu
end
section
namespace Pu
open PySem PySem.Spec L2
section
variable {K:x0a}{G:Gh}{H:Hp}
inductive Sort3 (K:x0a)(G:Gh)(H:Hp)(d:Nat)(x:PV)(v:V):Prop where
 | fl (h:a2j v=true) (s:a2H x=true)
 | tp (p:Addr) (xs:List PV) (vs:List V) (e:x=.tup xs) (ev:v=.ref p) (h:SqT K H p vs) (r:Reps K G H xs vs) (c:xs.all (cmpb d)=true)
 | ls (p:Addr) (xs:List PV) (vs:List V) (e:x=.lst xs) (ev:v=.ref p) (h:SqL K H p vs) (r:Reps K G H xs vs) (c:xs.all (cmpb d)=true)
theorem a2D {x:PV}{v:V}(s:a2H x=true)(h:RdV K G H x v):a2j v=true:=by
 cases x with
 | non=>rw [h.non];rfl
 | bl b=>rw [h.bl];rfl
 | int b=>rw [h.int];rfl
 | str b=>rw [h.str];rfl
 | _=>cases s
theorem a9p {d:Nat}{x:PV}{v:V}(c:cmpb (d + 1) x=true)(h:RdV K G H x v):Sort3 K G H d x v:=by
 cases x with
 | tup xs =>
   obtain⟨a,vs,e,t,r⟩:=h.tup;exact .tp a xs vs rfl e t r c
 | lst xs =>
   obtain⟨a,vs,e,t,r⟩:=h.lst;exact .ls a xs vs rfl e t r c
 | non=>exact .fl (a2D c h) c
 | bl _=>exact .fl (a2D c h) c
 | int _=>exact .fl (a2D c h) c
 | str _=>exact .fl (a2D c h) c
 | ty _=>cases c
 | pot _=>cases c
 | scr _=>cases c
 | dct _ _=>cases c
 | fdt _ _=>cases c
theorem a8M {x y:PV}{v u:V}(sx:a2H x=true)(sy:a2H y=true)(hx:RdV K G H x v)(hy:RdV K G H y u):eqP x y=eqV v u:=by
 cases x with
 | non =>
   cases hx.non;cases y with
   | non=>cases hy.non;rfl
   | bl j=>cases hy.bl;rfl
   | int j=>cases hy.int;rfl
   | str j=>cases hy.str;rfl
   | _=>cases sy
 | bl i =>
   cases hx.bl;cases y with
   | non=>cases hy.non;rfl
   | bl j=>cases hy.bl;rfl
   | int j=>cases hy.int;rfl
   | str j=>cases hy.str;rfl
   | _=>cases sy
 | int i =>
   cases hx.int;cases y with
   | non=>cases hy.non;rfl
   | bl j=>cases hy.bl;rfl
   | int j=>cases hy.int;rfl
   | str j=>cases hy.str;rfl
   | _=>cases sy
 | str i =>
   cases hx.str;cases y with
   | non=>cases hy.non;rfl
   | bl j=>cases hy.bl;rfl
   | int j=>cases hy.int;rfl
   | str j=>cases hy.str;rfl
   | _=>cases sy
 | _=>cases sx
theorem a6v {xs:List PV}{y:PV}(sy:a2H y=true):eqP (.tup xs) y=false/\eqP (.lst xs) y=false/\eqP y (.tup xs)=false/\eqP y (.lst xs)=false:=by
 cases y <;> first | exact⟨rfl,rfl,rfl,rfl⟩ | cases sy
theorem a8P:∀(d:Nat) (x y:PV) (v u:V),cmpb d x=true->cmpb d y=true->RdV K G H x v->RdV K G H y u->EqD K H d v u (eqP x y):=by
 intro d
 induction d with
 | zero=>intro x y v u cx cy hx hy;exact⟨a2D cx hx,a2D cy hy,a8M cx cy hx hy⟩
 | succ d ih =>
   intro x y v u cx cy hx hy
   have el:∀(xs ys:List PV) (vs us:List V),Reps K G H xs vs->Reps K G H ys us->xs.all (cmpb d)=true->ys.all (cmpb d)=true->∀(j:Nat) x' y',vs[j]?=some x'->us[j]?=some y'->EqD K H d x' y' (match xs[j]?,ys[j]? with | some x,some y=>eqP x y | _,_=>false):=by
     intro xs ys vs us r1 r2 c1 c2 j x' y' e1 e2;obtain⟨x1,ex,rx⟩:=r1.get e1;obtain⟨y1,ey,ry⟩:=r2.get e2;rw [ex,ey];exact ih x1 y1 x' y' (x0z.mp c1 x1 (x0P ex)) (x0z.mp c2 y1 (x0P ey)) (.inl rx) (.inl ry)
   cases a9p cx hx with
   | fl fx sx =>
     cases a9p cy hy with
     | fl fy sy=>exact .inl ⟨fx,fy,a8M sx sy hx hy⟩
     | tp q ys us e ev h r c=>subst e;exact .inr (.inr (.inr ⟨(a6v sx).2.2.1,.inr (.inl ⟨q,us,ev,.inl h,fx⟩)⟩))
     | ls q ys us e ev h r c=>subst e;exact .inr (.inr (.inr ⟨(a6v sx).2.2.2,.inr (.inl ⟨q,us,ev,.inr h,fx⟩)⟩))
   | tp p xs vs e ev h r c =>
     subst e;cases a9p cy hy with
     | fl fy sy=>exact .inr (.inr (.inr ⟨(a6v sy).1,.inl ⟨p,vs,ev,.inl h,fy⟩⟩))
     | tp q ys us e2 ev2 h2 r2 c2 =>
       subst e2;refine .inr (.inl ⟨p,q,vs,us,_,ev,ev2,h,h2,el xs ys vs us r r2 c c2,?_⟩);rw [<- r.length,<- r2.length];exact(a2E xs ys).symm
     | ls q ys us e2 ev2 h2 r2 c2=>subst e2;exact .inr (.inr (.inr ⟨rfl,.inr (.inr (.inl ⟨p,q,vs,us,ev,ev2,h,h2⟩))⟩))
   | ls p xs vs e ev h r c =>
     subst e;cases a9p cy hy with
     | fl fy sy=>exact .inr (.inr (.inr ⟨(a6v sy).2.1,.inl ⟨p,vs,ev,.inr h,fy⟩⟩))
     | tp q ys us e2 ev2 h2 r2 c2=>subst e2;exact .inr (.inr (.inr ⟨rfl,.inr (.inr (.inr ⟨p,q,vs,us,ev,ev2,h,h2⟩))⟩))
     | ls q ys us e2 ev2 h2 r2 c2 =>
       subst e2;refine .inr (.inr (.inl ⟨p,q,vs,us,_,ev,ev2,h,h2,el xs ys vs us r r2 c c2,?_⟩));rw [<- r.length,<- r2.length];exact(a2E xs ys).symm
end
section
variable {T:PotK}{ι:Type}{K:x0a}{F:ι->Cx}{e a b c:Expr}{es rest:List Expr}{pe pa pb pc:pE}{pos:Pos}
variable {op:CmpOp}{w':w2}
def grd (b:Bool)(P:Prop):Prop:=match b with | true=>P | false=>False
theorem grd_t {P:Prop}:grd true P=P:=rfl
theorem a8I {b:Bool}{P:Prop}(h:b=true)(p:P):grd b P:=by subst h;exact p
theorem b0q {b:Bool}{P:Prop}(h:grd b P):b=true:=by cases b;exact h.elim;rfl
theorem a7b {b:Bool}{P:Prop}(h:grd b P):P:=by cases b;exact h.elim;exact h
theorem gd2 {a b:Bool}{P:Prop}(h1:a=true)(h2:b=true)(p:P):grd a (grd b P):=a8I h1 (a8I h2 p)
def wEq (d:Nat):w2:=fun x y R=>grd (cmpb d x) (grd (cmpb d y) (R (.bl (eqP x y))))
def wNe (d:Nat):w2:=fun x y R=>grd (cmpb d x) (grd (cmpb d y) (R (.bl (!eqP x y))))
theorem W2.eq {K:x0a}(d:Nat):W2 K (rEqD K d false) (wEq d):=fun G H x y v u R Q hf rx ry hw k=>⟨_,a8P d x y v u (b0q hw) (b0q (a7b hw)) rx ry,k _ _ _ (a7b (a7b hw)) (Same.refl _) rfl⟩
theorem W2.ne {K:x0a}(d:Nat):W2 K (rEqD K d true) (wNe d):=fun G H x y v u R Q hf rx ry hw k=>⟨_,a8P d x y v u (b0q hw) (b0q (a7b hw)) rx ry,k _ _ _ (a7b (a7b hw)) (Same.refl _) rfl⟩
def memP (x:PV)(ys:List PV):Bool:=ys.any fun y=>eqP y x
def wIn (d:Nat)(neg:Bool):w2:=fun x y R=>match x,y with
 | .str i,.str j=>R (.bl (if neg then !(!(x1N j i 0 j.length 1).isEmpty) else !(x1N j i 0 j.length 1).isEmpty))
 | x,.lst ys=>cmpb d x=true/\ys.all (cmpb d)=true/\R (.bl (if neg then !memP x ys else memP x ys))
 | x,.tup ys=>cmpb d x=true/\ys.all (cmpb d)=true/\R (.bl (if neg then !memP x ys else memP x ys))
 | _,_=>False
theorem a3F {x:PV}:∀ys:List PV,((x0j ys.length).any fun j=>match ys[j]? with | some y=>eqP y x | none=>false)=memP x ys
 | []=>rfl
 | y :: ys => by
   have ih:=a3F (x:=x) ys;show _=(eqP y x || memP x ys);rw [<- ih];simp only [x0B,List.range_succ_eq_map,x3N,List.any_map,Function.comp_def,x3f,x1O]
theorem W2.in_ {K:x0a}(d:Nat)(neg:Bool){r:R2}(hr:∀x y H Q,(∃i j,x=.str i/\y=.str j/\Q (.bl (if neg then !(!(x1N j i 0 j.length 1).isEmpty) else !(x1N j i 0 j.length 1).isEmpty)) H)\/rInD K d neg x y H Q->r x y H Q):W2 K r (wIn d neg):=by
 intro G H x y v u R Q hf rx ry hw k;refine hr _ _ _ _ ?_
 have seq:∀(ys:List PV) (p:Addr) (us:List V),u=.ref p->(SqL K H p us\/SqT K H p us)->Reps K G H ys us->cmpb d x=true/\ys.all (cmpb d)=true/\R (.bl (if neg then !memP x ys else memP x ys))->rInD K d neg v u H Q:=by
   intro ys p us eu hq r h;refine⟨p,us,fun j=>match ys[j]? with | some y=>eqP y x | none=>false,eu,hq,fun j z ez=>?_,?_⟩
   · obtain⟨y1,ey,ry⟩:=r.get ez;dsimp only;rw [ey];exact a8P d y1 x z v (x0z.mp h.2.1 y1 (x0P ey)) h.1 (.inl ry) rx
   · rw [<- r.length,a3F];exact k _ _ _ h.2.2 (Same.refl _) rfl
 unfold wIn at hw
 split at hw
 · exact .inl ⟨_,_,rx.str,ry.str,k _ _ _ hw (Same.refl _) rfl⟩
 · obtain⟨p,us,eu,hq,r⟩:=ry.lst;exact .inr (seq _ p us eu (.inl hq) r hw)
 · obtain⟨p,us,eu,hq,r⟩:=ry.tup;exact .inr (seq _ p us eu (.inr hq) r hw)
 · exact hw.elim
def wLt:w2:=fun x y R=>match x,y with | .int i,.int j=>R (.bl (decide (i < j))) | .str i,.str j=>R (.bl (decide (i.cps.toList < j.cps.toList))) | _,_=>False
def wLe:w2:=fun x y R=>match x,y with | .int i,.int j=>R (.bl (decide (i<=j))) | .str i,.str j=>R (.bl (!decide (j.cps.toList < i.cps.toList))) | _,_=>False
def wGt:w2:=wI0 fun i j=>.bl (decide (j < i))
theorem W2.lt {K:x0a}:W2 K (fun x y H Q=>(rI0 fun i j=>.bl (decide (i < j))) x y H Q\/∃i j,x=.str i/\y=.str j/\Q (.bl (decide (i.cps.toList < j.cps.toList))) H) wLt:=by
 intro G H x y v u R Q hf rx ry hw k;unfold wLt at hw
 split at hw
 · exact .inl ⟨_,_,rx.int,ry.int,k _ _ _ hw (Same.refl _) rfl⟩
 · exact .inr ⟨_,_,rx.str,ry.str,k _ _ _ hw (Same.refl _) rfl⟩
 · exact hw.elim
theorem W2.le {K:x0a}:W2 K (fun x y H Q=>(rI0 fun i j=>.bl (decide (i<=j))) x y H Q\/∃i j,x=.str i/\y=.str j/\Q (.bl (!decide (j.cps.toList < i.cps.toList))) H) wLe:=by
 intro G H x y v u R Q hf rx ry hw k;unfold wLe at hw
 split at hw
 · exact .inl ⟨_,_,rx.int,ry.int,k _ _ _ hw (Same.refl _) rfl⟩
 · exact .inr ⟨_,_,rx.str,ry.str,k _ _ _ hw (Same.refl _) rfl⟩
 · exact hw.elim
def b0o:PV->Bool
 | .non=>true
 | _=>false
def wIsN:w2:=fun x y R=>match y with | .non=>R (.bl (b0o x)) | _=>False
def a6H:w2:=fun x y R=>match y with | .non=>R (.bl (!b0o x)) | _=>False
theorem isnon {K:x0a}{G:Gh}{H:Hp}{x:PV}{v:V}(h:RdV K G H x v):decide (v=.non)=b0o x:=by
 cases x with
 | non=>rw [h.non];rfl
 | bl b=>rw [h.bl];rfl
 | int b=>rw [h.int];rfl
 | str b=>rw [h.str];rfl
 | tup xs=>obtain⟨a,vs,e,_⟩:=h.tup;rw [e];rfl
 | lst xs=>obtain⟨a,vs,e,_⟩:=h.lst;rw [e];rfl
 | ty n=>rw [show v=.ty n from h.rep (fun _ z=>nomatch z)];rfl
 | pot k=>obtain⟨p,_,e⟩:=h.rep (fun _ z=>nomatch z);rw [e];rfl
 | scr k=>obtain⟨p,e,_⟩:=h.rep (fun _ z=>nomatch z);rw [e];rfl
 | dct ks xs=>obtain⟨a,kvs,e,_⟩:=h.rep (fun _ z=>nomatch z);rw [e];rfl
 | fdt ks xs=>obtain⟨a,kvs,e,_⟩:=h.rep (fun _ z=>nomatch z);rw [e];rfl
theorem W2.isN {K:x0a}:W2 K (fun x y H Q=>y=.non/\Q (.bl (decide (x=.non))) H) wIsN:=by
 intro G H x y v u R Q hf rx ry hw k;unfold wIsN at hw
 split at hw
 · exact⟨ry.non,k _ _ _ hw (Same.refl _) (by rw [isnon rx];rfl)⟩
 · exact hw.elim
theorem W2.notN {K:x0a}:W2 K (fun x y H Q=>y=.non/\Q (.bl (!decide (x=.non))) H) a6H:=by
 intro G H x y v u R Q hf rx ry hw k;unfold a6H at hw
 split at hw
 · refine⟨ry.non,k _ _ _ hw (Same.refl _) ?_⟩;rw [isnon rx]
   rfl
 · exact hw.elim
structure Cmp {ι:Type}(K:x0a)(F:ι->Cx)(op:CmpOp)(w:w2):Prop where
 ex:∃r,(∀z,OpR (F z) (x1v op) r)/\W2 K r w
theorem cEq (d:Nat){k:Nat}(hr:∀z,Room k (F z).A)(hd:d<=30:=by decide)(hK:∀z,(F z).K=K:=by intro _;rfl):Cmp K F .Eq (wEq d):=⟨_,fun z=>hK z▸op_eqD d (by have:=(hr z).units;omega),W2.eq d⟩
theorem cNe (d:Nat){k:Nat}(hr:∀z,Room k (F z).A)(hd:d<=30:=by decide)(hK:∀z,(F z).K=K:=by intro _;rfl):Cmp K F .NotEq (wNe d):=⟨_,fun z=>hK z▸op_neD d (by have:=(hr z).units;omega),W2.ne d⟩
theorem cIn (d:Nat){k:Nat}(hr:∀z,Room k (F z).A)(hd:d<=30:=by decide)(hK:∀z,(F z).K=K:=by intro _;rfl):Cmp K F .In (wIn d false):=⟨_,fun z=>a8l.or (hK z▸op_inD d (by have:=(hr z).units;omega)),W2.in_ d false fun _ _ _ _ h=>h⟩
theorem cLe:Cmp K F .LtE wLe:=⟨_,fun _=>op_le.or a8k,W2.le⟩
theorem cGt:Cmp K F .Gt wGt:=⟨_,fun _=>op_gt,W2.I0 fun _ _ _ _=>rfl⟩
theorem cIs:Cmp K F .Is wIsN:=⟨_,fun _=>op_isN,W2.isN⟩
theorem b1k:Cmp K F .IsNot a6H:=⟨_,fun _=>b2x,W2.notN⟩
theorem a2K {w:w2}(hc:Cmp K F op w)(ha:QE T K F a pa)(hb:QR T K F b pb)(hm:x2Z op b=false):QE T K F (.Compare a [op] [b] pos) (qOp w pa pb):=by
 obtain⟨r,ho,hw⟩:=hc.ex;obtain⟨ta,h1,h2⟩:=ha;obtain⟨tb,h3,h4⟩:=hb;exact⟨_,fun z=>b2s (ho z) (h1 z) (h3 z) hm,a8o hw h2 h4⟩
def qB (pe:pE):pT:=fun env n R=>pe env n fun x env' n'=>match x with | .bl b=>R b env' n' | _=>False
theorem ok_b {K:x0a}{t:TE}(h:EOk K T t pe):TOk K T (tB t) (qB pe):=fun C G σ H env n R Q hK hT S hp k=>by
 refine h C G σ H env n _ _ hK hT S hp fun x env' n' v H' r S' rp f=>?_;cases x with
 | bl b=>exact⟨b,rp,k _ _ _ _ r S' f⟩
 | _=>exact r.elim
theorem a8n {K:x0a}{t:TE}(h:EOk K T t pe):TOk K T (b1u t) (qB pe):=fun C G σ H env n R Q hK hT S hp k=>by
 refine h C G σ H env n _ _ hK hT S hp fun x env' n' v H' r S' rp f=>?_;cases x with
 | bl b=>exact⟨b,rp,k _ _ _ _ r S' f⟩
 | _=>exact r.elim
theorem a2W (h:QE T K F e pe)(he:∀z whole,isTrue e (F z).env whole=(do let v ← whole;standAt e.pos;holding [v] (truthy v)):=by intro _ _;rfl):QT T K F e (qB pe):=by
 obtain⟨t,h1,h2⟩:=h;exact⟨_,fun z=>pt_val (h1 z) (he z),ok_b h2⟩
theorem a0X {w:w2}(hc:Cmp K F op w)(ha:QE T K F a pa)(hb:QR T K F b pb)(hm:x2Z op b=false):QT T K F (.Compare a [op] [b] pos) (qB (qOp w pa pb)):=by
 obtain⟨r,ho,hw⟩:=hc.ex;obtain⟨ta,h1,h2⟩:=ha;obtain⟨tb,h3,h4⟩:=hb;exact⟨_,fun z=>a4c (ho z) (h1 z) (h3 z) hm,a8n (a8o hw h2 h4)⟩
def a6e (w w':w2)(pa pb pc:pE):pE:=fun env n R=>pa env n fun x env1 n1=>pb env1 n1 fun y env2 n2=>w x y fun z=>match z with | .bl k=>if k=true then pc env2 n2 fun u env3 n3=>w' y u fun z=>R z env3 n3 else R (.bl false) env2 n2 | _=>False
theorem b0b {K:x0a}{r r':R2}{w:w2}{ta tb tc:TE}(hw:W2 K r w)(hw':W2 K r' w')(ha:EOk K T ta pa)(hb:EOk K T tb pb)(hc:EOk K T tc pc):EOk K T (b0F r r' ta tb tc) (a6e w w' pa pb pc):=fun C G σ H env n R Q hK hT S hp k=>by
 refine ha C G σ H env n _ _ hK hT S hp fun x env1 n1 v H1 p1 S1 r1 f1=>?_;refine hb C G σ H1 env1 n1 _ _ hK hT S1 p1 fun y env2 n2 u H2 p2 S2 r2 f2=>?_;subst hK;refine hw G H2 x y v u _ _ (fun p hp=>S2.fresh hp) (.inl (r1.fr f2)) (.inl r2) p2 fun z v' H' rz s rv=>?_;cases z with
 | bl kk =>
   refine⟨kk,rv,?_⟩;cases kk with
   | false=>exact k _ _ _ _ _ rz (S2.same s) rfl ((f1.trans f2).trans (Fr.of s))
   | true =>
     refine hc C G σ H' env2 n2 _ _ rfl hT (S2.same s) rz fun c3 env3 n3 v3 H3 p3 S3 r3 f3=>?_;exact hw' G H3 y c3 u v3 _ _ (fun p hp=>S3.fresh hp) (.inl ((r2.same s).fr f3)) (.inl r3) p3 fun z v' H4 rz s4 rv=>k _ _ _ _ _ rz (S3.same s4) rv ((((f1.trans f2).trans (Fr.of s)).trans f3).trans (Fr.of s4))
 | _=>exact rz.elim
theorem a9y {op':CmpOp}{w:w2}(hc:Cmp K F op w)(hc':Cmp K F op' w')(ha:QE T K F a pa)(hb:QE T K F b pb)(hcc:QE T K F c pc)(hm:lastMarks [op,op'] [b,c]=false:=by with_unfolding_all rfl):QT T K F (.Compare a [op,op'] [b,c] pos) (qB (a6e w w' pa pb pc)):=by
 obtain⟨r,ho,hw⟩:=hc.ex;obtain⟨r',ho',hw'⟩:=hc'.ex;obtain⟨ta,a1,a2⟩:=ha;obtain⟨tb,b1,b2⟩:=hb;obtain⟨tc,c1,c2⟩:=hcc;exact⟨_,fun z=>a9M (ho z) (ho' z) (a1 z) (b1 z) (c1 z) hm,a8n (b0b hw hw' a2 b2 c2)⟩
variable {pt pu:pT}
def qAnd (t u:pT):pT:=fun env n R=>t env n fun b env1 n1=>if b=true then u env1 n1 R else R false env1 n1
def qOr (t u:pT):pT:=fun env n R=>t env n fun b env1 n1=>if b=true then R true env1 n1 else u env1 n1 R
def qNot (t:pT):pT:=fun env n R=>t env n fun b env1 n1=>R (!b) env1 n1
theorem ok_and {K:x0a}{t u:TT}(h:TOk K T t pt)(h':TOk K T u pu):TOk K T (tAnd t u) (qAnd pt pu):=fun C G σ H env n R Q hK hT S hp k=>by
 refine h C G σ H env n _ _ hK hT S hp fun b env1 n1 H1 p1 S1 f1=>?_;cases b with
 | true=>exact h' C G σ H1 env1 n1 _ _ hK hT S1 p1 fun b env2 n2 H2 p2 S2 f2=>k _ _ _ _ p2 S2 (f1.trans f2)
 | false=>exact k _ _ _ _ p1 S1 f1
theorem ok_or {K:x0a}{t u:TT}(h:TOk K T t pt)(h':TOk K T u pu):TOk K T (tOr t u) (qOr pt pu):=fun C G σ H env n R Q hK hT S hp k=>by
 refine h C G σ H env n _ _ hK hT S hp fun b env1 n1 H1 p1 S1 f1=>?_;cases b with
 | false=>exact h' C G σ H1 env1 n1 _ _ hK hT S1 p1 fun b env2 n2 H2 p2 S2 f2=>k _ _ _ _ p2 S2 (f1.trans f2)
 | true=>exact k _ _ _ _ p1 S1 f1
theorem ok_not {K:x0a}{t:TT}(h:TOk K T t pt):TOk K T (tNot t) (qNot pt):=fun C G σ H env n R Q hK hT S hp k=>h C G σ H env n _ _ hK hT S hp fun b env1 n1 H1 p1 S1 f1=>k _ _ _ _ p1 S1 f1
theorem a7Q (ha:QT T K F a pt):QW T K F (.BoolOp .And [a] pos) pt:=let ⟨t,h1,h2⟩:=ha;⟨t,fun z=>b1Z (h1 z),h2⟩
theorem a5X (ha:QT T K F a pt):QW T K F (.BoolOp .Or [a] pos) pt:=let ⟨t,h1,h2⟩:=ha;⟨t,fun z=>pw_or1 (h1 z),h2⟩
theorem b0K (ha:QT T K F a pt)(hb:QW T K F (.BoolOp .And (b::rest) pos) pu):QW T K F (.BoolOp .And (a::b::rest) pos) (qAnd pt pu):=let ⟨t,h1,h2⟩:=ha;let ⟨u,h3,h4⟩:=hb;⟨_,fun z=>pw_and (h1 z) (h3 z),ok_and h2 h4⟩
theorem a7P (ha:QT T K F a pt)(hb:QW T K F (.BoolOp .Or (b::rest) pos) pu):QW T K F (.BoolOp .Or (a::b::rest) pos) (qOr pt pu):=let ⟨t,h1,h2⟩:=ha;let ⟨u,h3,h4⟩:=hb;⟨_,fun z=>pw_or (h1 z) (h3 z),ok_or h2 h4⟩
theorem QW.qt (h:QW T K F e pt):QT T K F e pt:=let ⟨t,h1,h2⟩:=h;⟨t,fun z=>(h1 z).pt,h2⟩
theorem a2X (ha:QT T K F a pt):QT T K F (.UnaryOp .Not a pos) (qNot pt):=let ⟨t,h1,h2⟩:=ha;⟨_,fun z=>pt_not (h1 z),ok_not h2⟩
def a9L (pa pb:pE):pE:=fun env n R=>pa env n fun x env1 n1=>match x with | .bl b=>if b=true then pb env1 n1 R else R (.bl false) env1 n1 | _=>False
theorem b0L {op}(h:QE T K F a pa):QE T K F (.BoolOp op [a] pos) pa:=let ⟨t,h1,h2⟩:=h;⟨t,fun z=>pe_one (h1 z),h2⟩
theorem b0Q (ha:QE T K F a pa)(hb:QE T K F (.BoolOp .And (b::rest) pos) pb):QE T K F (.BoolOp .And (a::b::rest) pos) (a9L pa pb):=by
 obtain⟨t,h1,h2⟩:=ha;obtain⟨u,h3,h4⟩:=hb;refine⟨_,fun z=>pe_and (h1 z) (h3 z),fun C G σ H env n R Q hK hT S hp k=>?_⟩;refine h2 C G σ H env n _ _ hK hT S hp fun x env1 n1 v H1 p1 S1 r1 f1=>?_;cases x with
 | bl c =>
   refine⟨c,r1,?_⟩;cases c with
   | true=>exact h4 C G σ H1 env1 n1 _ _ hK hT S1 p1 fun x env2 n2 v H2 p2 S2 r2 f2=>k _ _ _ _ _ p2 S2 r2 (f1.trans f2)
   | false=>exact k _ _ _ _ _ p1 S1 rfl f1
 | _=>exact p1.elim
def qIf (t:pT)(pa pb:pE):pE:=fun env n R=>t env n fun b env1 n1=>if b=true then pa env1 n1 R else pb env1 n1 R
theorem qe_if (hc:QT T K F c pt)(ha:QE T K F a pa)(hb:QE T K F b pb):QE T K F (.IfExp c a b pos) (qIf pt pa pb):=by
 obtain⟨tc,c1,c2⟩:=hc;obtain⟨t,h1,h2⟩:=ha;obtain⟨u,h3,h4⟩:=hb;refine⟨_,fun z=>a6g (c1 z) (h1 z) (h3 z),fun C G σ H env n R Q hK hT S hp k=>?_⟩;refine c2 C G σ H env n _ _ hK hT S hp fun d env1 n1 H1 p1 S1 f1=>?_;cases d with
 | true=>exact h2 C G σ H1 env1 n1 _ _ hK hT S1 p1 fun x env2 n2 v H2 p2 S2 r2 f2=>k _ _ _ _ _ p2 S2 r2 (f1.trans f2)
 | false=>exact h4 C G σ H1 env1 n1 _ _ hK hT S1 p1 fun x env2 n2 v H2 p2 S2 r2 f2=>k _ _ _ _ _ p2 S2 r2 (f1.trans f2)
variable {pl pr:pA}
def qNil:pA:=fun env n R=>R [] env n
def a0h (pe:pE)(pr:pA):pA:=fun env n R=>pe env n fun x env1 n1=>pr env1 n1 fun xs env2 n2=>R (x::xs) env2 n2
theorem a0n:QA T K F [] qNil:=⟨_,fun _=>a0M,fun C G σ H env n R Q hK hT S hp k=>k _ _ _ _ _ hp S Reps.nil Fr.refl⟩
theorem b2D {K:x0a}{t:TE}{u:TA}(h:EOk K T t pe)(h':AOk K T u pr):AOk K T (a4z t u) (a0h pe pr):=fun C G σ H env n R Q hK hT S hp k=>by
 refine h C G σ H env n _ _ hK hT S hp fun x env1 n1 v H1 p1 S1 r1 f1=>?_;exact h' C G σ H1 env1 n1 _ _ hK hT S1 p1 fun xs env2 n2 vs H2 p2 S2 r2 f2=>k _ _ _ _ _ p2 S2 (.cons (r1.fr f2) r2) (f1.trans f2)
def a0w:Expr->Bool
 | .Starred ..=>false
 | _=>true
theorem a0c {e:Expr}{es:List Expr}{env:PySem.Env}(h:a0w e=true):x0T (e::es) env=(false,eval e env)::x0T es env:=by
 cases e <;> first | rfl | cases h
theorem a0b (ha:QE T K F e pe)(hr:QA T K F es pr)(h:a0w e=true:=by rfl):QA T K F (e::es) (a0h pe pr):=by
 obtain⟨t,h1,h2⟩:=ha;obtain⟨u,h3,h4⟩:=hr;exact⟨_,fun z=>a0o (h1 z) (h3 z) (a0c h),b2D h2 h4⟩
def qTup (pa:pA):pE:=fun env n R=>pa env n fun xs env1 n1=>xs.length<=1000000/\R (.tup xs) env1 n1
def qLst (pa:pA):pA:=fun env n R=>pa env n fun xs env1 n1=>xs.length<=1000000/\R xs env1 n1
def qL (pn:pA):pE:=fun env n R=>pn env n fun xs env1 n1=>R (.lst xs) env1 n1
theorem a1d {x1}(h:QA T K F es pl):QE T K F (.Tuple es x1 pos) (qTup pl):=by
 obtain⟨t,h1,h2⟩:=h;refine⟨_,fun z=>pe_tup (h1 z),fun C G σ H env n R Q hK hT S hp k=>?_⟩;refine h2 C G σ H env n _ _ hK hT S hp fun xs env1 n1 vs H1 p1 S1 r1 f1=>⟨by rw [<- r1.length];exact mil p1.1,fun p hp=>?_⟩;exact k _ _ _ _ _ p1.2 (S1.same (Same.lay1 hp)) (a1K (S1.fresh hp) hp r1) (f1.trans (Fr.of (Same.lay1 hp)))
theorem a1L (h:QA T K F es pl):QN T K F (.List es pos) (qLst pl):=by
 obtain⟨t,h1,h2⟩:=h;refine⟨_,fun z=>b0U (h1 z),fun C G σ H env n R Q hK hT S hp k=>?_⟩;exact h2 C G σ H env n _ _ hK hT S hp fun xs env1 n1 vs H1 p1 S1 r1 f1=>⟨by rw [<- r1.length];exact mil p1.1,fun p hp=>k _ _ _ _ _ _ p1.2 S1 f1 hp r1⟩
theorem QN.ee (h:QN T K F e pl):QE T K F e (qL pl):=by
 obtain⟨t,h1,h2⟩:=h;refine⟨t,h1,fun C G σ H env n R Q hK hT S hp k=>?_⟩;refine h2 C G σ H env n _ _ hK hT S hp fun xs env1 n1 a vs Hb p1 S1 f1 hn r1=>?_;exact k _ _ _ _ _ p1 (S1.same (Same.lay1 hn)) (a3W (S1.fresh hn) hn r1) (f1.trans (Fr.of (Same.lay1 hn)))
theorem a6i {K:x0a}{t:TE}(h:ROk K T t pe){C:Ct}{G:Gh}{σ:St}{H:Hp}{env:Env}{n:Nat}{R:PK}{Q:List V->Hp->Prop}(hK:C.K=K)(hT:C.T=T)(S:SR C G σ H env n)(hp:pe env n R)
   (k:∀x env' n' v H',R x env' n'->SR C G σ H' env' n'->RdS C G σ H' env' x v->Fr G H H'->Q [v] H'):a4z t tNil σ H Q:=
 h C G σ H env n _ _ hK hT S hp fun x env1 n1 v H1 p1 S1 r1 f1=>k _ _ _ _ _ p1 S1 r1 f1
end
end Pu
end
section
namespace HT
open PySem PySem.Spec PyProof.Rows
section
variable {prog:x0A}{w:World}{A:Around}{E:Value->Shared->Prop}{s:Shared}
theorem getItem_tuple_whole {t sl:Addr}{items:Array Value}{vl vu:Value}{lo hi:Option Int}{Q:Value->Shared->Prop}(ht:IsTup s.heap t items)(hs:s.heap.IsSliceOf sl vl vu .none)(pl:IsPart vl lo)(pu:IsPart vu hi)
   (hw:sIx items.size 0 lo=0/\sIx items.size items.size hi=items.size) (h:Q (.ref t) s):wpAny (model prog w) A (x3W (.ref t) (.ref sl)) Q E s:=by
 obtain⟨os,hos,hcs,hds⟩:=id hs;have hTs:s.TypeIs (.ref sl) "slice":=⟨os,hos,hcs⟩;have hTt:s.TypeIs (.ref t) "tuple":=ht.typeIs;unfold x3W
 try with_reducible refine x1m ?_
 first | refine x0b (x0e ?_) | skip
 refine x0b (wpAny_sequenceKey ht.typeIs (by decide) ?_)
 refine x0b (x0Q (name:=x0i "__getitem__") ht.typeIs x0Z
   (x0X x0Z ht.typeIs entry_tuple_getitem ?_ (args_tuple_getitem _ _)))
 show wpAny _ _ (x2H (.ref t)>>=_) _ _ s;refine x0b (tupleItemsOf_ ht ?_);refine x0b (x2T hTs ?_);rw [if_pos (by decide)];refine x0b (a1D hs pl pu ?_)
 have hyes:(((sIx items.size 0 lo:Nat):Int) == 0 && (1:Int) == 1 && (sIx items.size items.size hi - sIx items.size 0 lo) == items.size)=true:=by
   rw [hw.1,hw.2];simp
 show wpAny _ _ (if(((sIx items.size 0 lo:Nat):Int) == 0 && (1:Int) == 1 && (sIx items.size items.size hi - sIx items.size 0 lo) == items.size)=true then _ else _) _ _ s;rw [if_pos hyes];unfold Builtin.Tuple.tupleIsExact;refine x0b (x0b (x2T hTt (x0e ?_)));rw [if_pos (by rfl)];exact x0b (x2x (x0e ⟨_,rfl,x0e h⟩))
end
end HT
namespace L2
open PySem PySem.Spec PyProof.Rows
section
variable {X:Cx}
def rSlTA (K:x0a):V->Option Int->Option Int->Hp->VK->Prop:=fun x lo hi H Q=>∃a xs,x=.ref a/\SqT K H a xs/\
 (cutV xs lo hi=xs->Q (.ref a) H)/\∀p,H p=none->Q (.ref p) (upd H p (.tup (cutV xs lo hi)))
theorem b1C:SlR X (rSlTA X.K):=by
 intro pins s σ H x v vl vu lo hi sl Q I rx hs pl pu h;obtain⟨a,xs,rfl,hx,h1,h2⟩:=h
 by_cases hw:HT.sIx xs.length 0 lo=0/\HT.sIx xs.length xs.length hi=xs.length
 · cases rx;obtain⟨its,r,ht,hz⟩:=I.tuple hx;have hlen:its.toArray.size=xs.length:=by rw [x0n];exact r.length.symm
   refine⟨"tuple",_,PyProof.Rows.slot_tuple_getitem.lookup,ht.typeIs,?_⟩;refine HT.getItem_tuple_whole ht hs pl pu (by rw [hlen];exact hw) ⟨.ref a,H,I,rfl,h1 ?_⟩;unfold cutV;rw [hw.1,hw.2];simp
 · exact sl_tup pins s σ H (.ref a) v vl vu lo hi sl Q I rx hs pl pu ⟨a,xs,rfl,hx,hw,h2⟩
end
end L2
namespace Pu
open PySem PySem.Spec L2
section
variable {T:PotK}{ι:Type}{K:x0a}{F:ι->Cx}{e a b c:Expr}{es rest:List Expr}{pe pa pb pc:pE}{pos:Pos}{pl pr:pA}
def wIx:w2:=fun x y R=>match x,y with
 | .lst xs,.int i=>match atI xs i with | some z=>R z | none=>False
 | .tup xs,.int i=>match atI xs i with | some z=>R z | none=>False
 | .scr ns,.int i=>match atI ns i with | some z=>R (.int z) | none=>False
 | .str z,.int i=>z.length<=1000000/\match atI z.cps.toList i with | some c=>R (.str ⟨#[c]⟩) | none=>False
 | _,_=>False
theorem a6E {K:x0a}{G:Gh}{H:Hp}{xs:List PV}{vs:List V}(r:Reps K G H xs vs){i:Int}{z:PV}(h:atI xs i=some z):∃v,atI vs i=some v/\Rep K G H z v:=by
 unfold atI at h ⊢;rw [<- r.length];cases e:ixN xs.length i with
 | none=>rw [e] at h;cases h
 | some j =>
   rw [e] at h;exact r.get' h
theorem a4E {K:x0a}{G:Gh}{H:Hp}{ns:List Int}{v:V}(h:RdV K G H (.scr ns) v):∃a,v=.ref a/\SqL K H a (ns.map V.int):=by
 obtain⟨a,e,h⟩:=h.rep (fun _ z=>nomatch z);refine⟨a,e,?_⟩;rcases h with⟨_,o,h⟩ | h
 · exact .inl (.inr ⟨o,h⟩)
 · exact .inr h
theorem W2.ix {K:x0a}:W2 K (rIx K) wIx:=by
 intro G H x y v u R Q hf rx ry hw k;unfold wIx at hw
 split at hw
 · rename_i xs i;obtain⟨a,vs,ev,hq,r⟩:=rx.lst;cases ez:atI xs i with
   | none=>rw [ez] at hw;exact hw.elim
   | some z =>
     rw [ez] at hw;obtain⟨v',e1,r1⟩:=a6E r ez;exact .inl ⟨a,vs,i,v',ev,ry.int,hq,e1,k _ _ _ hw (Same.refl _) r1⟩
 · rename_i xs i;obtain⟨a,vs,ev,hq,r⟩:=rx.tup;cases ez:atI xs i with
   | none=>rw [ez] at hw;exact hw.elim
   | some z =>
     rw [ez] at hw;obtain⟨v',e1,r1⟩:=a6E r ez;exact .inr (.inl ⟨a,vs,i,v',ev,ry.int,hq,e1,k _ _ _ hw (Same.refl _) r1⟩)
 · rename_i ns i;obtain⟨a,ev,hq⟩:=a4E rx;cases ez:atI ns i with
   | none=>rw [ez] at hw;exact hw.elim
   | some z =>
     rw [ez] at hw;refine .inl ⟨a,_,i,.int z,ev,ry.int,hq,?_,k _ _ _ hw (Same.refl _) rfl⟩;unfold atI at ez ⊢;rw [x0g];cases e:ixN ns.length i with
     | none=>rw [e] at ez;cases ez
     | some j =>
       rw [e] at ez;show(ns.map V.int)[j]?=_;rw [x0r,show ns[j]?=some z from ez]
       rfl
 · rename_i z i;obtain⟨hz,hw⟩:=hw;cases ez:atI z.cps.toList i with
   | none=>rw [ez] at hw;exact hw.elim
   | some c =>
     rw [ez] at hw;exact .inr (.inr ⟨z,i,c,rx.str,ry.int,mil hz,ez,k _ _ _ hw (Same.refl _) rfl⟩)
 · exact hw.elim
theorem a4H (ha:QE T K F a pa)(hb:QE T K F b pb)(hs:a5N b:=by exact fun _ _=>rfl)(hK:∀z,(F z).K=K:=by intro _;rfl):QE T K F (.Subscript a b pos) (qOp wIx pa pb):=by
 obtain⟨ta,h1,h2⟩:=ha;obtain⟨tb,h3,h4⟩:=hb.r;exact⟨_,fun z=>a3u (hK z▸b1b) (h1 z) (h3 z) hs,a8o W2.ix h2 h4⟩
theorem b0N (ha:QR T K F a pa)(hb:QE T K F b pb)(hs:a5N b:=by exact fun _ _=>rfl)(hK:∀z,(F z).K=K:=by intro _;rfl):QE T K F (.Subscript a b pos) (qOpR wIx pa pb):=by
 obtain⟨ta,h1,h2⟩:=ha;obtain⟨tb,h3,h4⟩:=hb.r;exact⟨_,fun z=>a3u (hK z▸b1b) (h1 z) (h3 z) hs,ok_opR W2.ix h2 h4⟩
abbrev pO:=Env->Nat->(Option Int->Env->Nat->Prop)->Prop
def qNo:pO:=fun env n R=>R none env n
def a4a (pe:pE):pO:=fun env n R=>pe env n fun x env1 n1=>match x with | .int i=>R (some i) env1 n1 | _=>False
def OOk (K:x0a)(T:PotK)(t:TO)(po:pO):Prop:=∀(C:Ct) (G:Gh) (σ:St) (H:Hp) (env:Env) (n:Nat) (R:Option Int->Env->Nat->Prop) (Q:Option Int->Hp->Prop),C.K=K->C.T=T->SR C G σ H env n->po env n R->
 (∀x env' n' H',R x env' n'->SR C G σ H' env' n'->Fr G H H'->Q x H')->t σ H Q
def QO {ι:Type}(T:PotK)(K:x0a)(F:ι->Cx)(e:Option Expr)(po:pO):Prop:=∃t,(∀z,PO (F z) e t)/\OOk K T t po
theorem a7S:QO T K F none qNo:=⟨_,fun _=>b2f,fun C G σ H env n R Q hK hT S hp k=>k _ _ _ _ hp S Fr.refl⟩
theorem a2e (h:QE T K F e pe):QO T K F (some e) (a4a pe):=by
 obtain⟨t,h1,h2⟩:=h;refine⟨_,fun z=>b2e (h1 z),fun C G σ H env n R Q hK hT S hp k=>?_⟩;refine h2 C G σ H env n _ _ hK hT S hp fun x env1 n1 v H1 p1 S1 r1 f1=>?_;cases x with
 | int i=>exact⟨i,r1,k _ _ _ _ p1 S1 f1⟩
 | _=>exact p1.elim
def cutP {α:Type}(xs:List α)(lo hi:Option Int):List α:=(xs.drop (HT.sIx xs.length 0 lo)).take (HT.sIx xs.length xs.length hi - HT.sIx xs.length 0 lo)
theorem Reps.cut {K:x0a}{G:Gh}{H:Hp}{xs:List PV}{vs:List V}(r:Reps K G H xs vs)(lo hi:Option Int):Reps K G H (cutP xs lo hi) (cutV vs lo hi):=by
 unfold cutP cutV;rw [<- r.length];exact(r.drop _).take _
def wSl (x:PV)(lo hi:Option Int)(R:PV->Prop):Prop:=match x with
 | .lst xs=>R (.lst (cutP xs lo hi))
 | .scr ns=>R (.lst ((cutP ns lo hi).map PV.int))
 | .tup xs=>R (.tup (cutP xs lo hi))
 | .str z=>z.length<=1000000/\R (.str (Txt.slice z lo hi))
 | _=>False
def qSl (pe:pE)(pl ph:pO):pE:=fun env n R=>pe env n fun x env1 n1=>pl env1 n1 fun lo env2 n2=>ph env2 n2 fun hi env3 n3=>wSl x lo hi fun z=>R z env3 n3
theorem a4F {K:x0a}{G:Gh}{H:Hp}:∀ns:List Int,Reps K G H (ns.map PV.int) (ns.map V.int):=by
 intro xq
 induction xq with
 | nil =>
   exact rfl
 | cons i ns ih =>
   exact⟨.int i,ns.map V.int,rfl,rfl,ih⟩
theorem b3c {α β:Type}(f:α->β)(xs:List α)(lo hi:Option Int):cutP (xs.map f) lo hi=(cutP xs lo hi).map f:=by
 unfold cutP;rw [x0g,List.map_take,x3O]
theorem sl_ok {K:x0a}{G:Gh}{H:Hp}{x:PV}{v:V}{lo hi:Option Int}{R:PV->Prop}{Q:VK}(hf:∀p,H p=none->p∉G.M)(rx:RdV K G H x v)(hw:wSl x lo hi R)(k:∀z v' H',R z->Same H H'->Rep K G H' z v'->Q v' H') :
   rSlL K v lo hi H Q\/rSlTA K v lo hi H Q\/rSlS v lo hi H Q:=by
 unfold wSl at hw
 split at hw
 · obtain⟨a,vs,ev,hq,r⟩:=rx.lst;exact .inl ⟨a,vs,ev,hq,fun p hp=>k _ _ _ hw (Same.lay1 hp) (a3W (hf p hp) hp (r.cut lo hi))⟩
 · rename_i ns;obtain⟨a,ev,hq⟩:=a4E rx;refine .inl ⟨a,_,ev,hq,fun p hp=>k _ _ _ hw (Same.lay1 hp) (a3W (hf p hp) hp ?_)⟩;have:=(a4F (K:=K) (G:=G) (H:=H) ns).cut lo hi;rw [b3c] at this;exact this
 · obtain⟨a,vs,ev,t,r⟩:=rx.rep (fun _ z=>nomatch z);refine .inr (.inl ⟨a,vs,ev,t.sq,fun z=>k _ _ _ hw (Same.refl _) ?_,fun p hp=>k _ _ _ hw (Same.lay1 hp) (a1K (hf p hp) hp (r.cut lo hi))⟩);have rc:=r.cut lo hi;rw [z] at rc;exact⟨a,vs,rfl,t,rc⟩
 · exact .inr (.inr ⟨_,rx.str,mil hw.1,k _ _ _ hw.2 (Same.refl _) rfl⟩)
 · exact hw.elim
theorem a6R {lo hi:Option Expr}{p2:Pos}{ql qh:pO}(he:QE T K F e pe)(hl:QO T K F lo ql)(hh:QO T K F hi qh)(hK:∀z,(F z).K=K:=by intro _;rfl):QE T K F (.Subscript e (.Slice lo hi none p2) pos) (qSl pe ql qh):=by
 obtain⟨t,h1,h2⟩:=he;obtain⟨tl,l1,l2⟩:=hl;obtain⟨th,u1,u2⟩:=hh;refine⟨_,fun z=>a9U ((hK z▸b1D).or ((hK z▸b1C).or sl_str)) (h1 z) (l1 z) (u1 z),fun C G σ H env n R Q hK hT S hp k=>?_⟩;refine h2 C G σ H env n _ _ hK hT S hp fun x env1 n1 v H1 p1 S1 r1 f1=>?_;refine l2 C G σ H1 env1 n1 _ _ hK hT S1 p1 fun lo env2 n2 H2 p2 S2 f2=>?_;refine u2 C G σ H2 env2 n2 _ _ hK hT S2 p2 fun hi env3 n3 H3 p3 S3 f3=>?_;exact sl_ok (fun p hp=>S3.fresh hp) (.inl ((r1.fr f2).fr f3)) p3 fun z v' H' rz s rv=>k _ _ _ _ _ rz (S3.same s) rv (((f1.trans f2).trans f3).trans (Fr.of s))
def WA1 (K:x0a)(r:List V->Hp->VK->Prop)(w:w1):Prop:=∀(G:Gh) (H:Hp) (x:PV) (v:V) (R:PV->Prop) (Q:VK),(∀p,H p=none->p∉G.M)->RdV K G H x v->w x R->
 (∀z v' H',R z->Same H H'->Rep K G H' z v'->Q v' H')->r [v] H Q
theorem b0W {K:x0a}{r:List V->Hp->VK->Prop}{w:w1}{t:TE}(hw:WA1 K r w)(h:ROk K T t pe):EOk K T (tCB r (a4z t tNil)) (qUn w pe):=fun C G σ H env n R Q hK hT S hp k=>by
 refine a6i h hK hT S hp fun x env1 n1 v H1 p1 S1 r1 f1=>?_;subst hK;exact hw G H1 x v _ _ (fun p hp=>S1.fresh hp) (r1.rd S1) p1 fun z v' H' rz s rv=>k _ _ _ _ _ rz (S1.same s) rv (f1.trans (Fr.of s))
theorem b0P {x:Str}{id:String}{r:List V->Hp->VK->Prop}{w:w1}{p:Pos}(hc:∀z,a1J (F z) (.builtin id) r)(hw:WA1 K r w)(hg:∀z,Gl (F z) x)(hm:∀z,(F z).mg x=none)(hv:x0U x=some (.builtin id))(ha:QR T K F e pe)(hs:a0w e=true:=by rfl)(hn:x≠"__name__":=by decide)(hdb:(x == ("__debug__":Str))=false:=by decide) :
   QE T K F (.Call (.Name x p) [e] [] pos) (qUn w pe):=by
 obtain⟨t,h1,h2⟩:=ha;exact⟨_,fun z=>a1W (hc z) (hg z) (hm z) hv (a0o (h1 z) a0M (a0c hs)) hn hdb (a0c hs),b0W hw h2⟩
theorem b0O {x:Str}{id:String}{r:List V->Hp->VK->Prop}{w:w1}{p:Pos}(hc:∀z,a1J (F z) (.type id) r)(hw:WA1 K r w)(hg:∀z,Gl (F z) x)(hm:∀z,(F z).mg x=none)(hv:x0U x=some (.type id))(ha:QR T K F e pe)(hs:a0w e=true:=by rfl)(hn:x≠"__name__":=by decide)(hdb:(x == ("__debug__":Str))=false:=by decide) :
   QE T K F (.Call (.Name x p) [e] [] pos) (qUn w pe):=by
 obtain⟨t,h1,h2⟩:=ha;exact⟨_,fun z=>a4M (hc z) (hg z) (hm z) hv (a0o (h1 z) a0M (a0c hs)) hn hdb (a0c hs),b0W hw h2⟩
def wLen:w1:=fun x R=>match x with
 | .lst xs=>R (.int xs.length)
 | .tup xs=>R (.int xs.length)
 | .scr xs=>R (.int xs.length)
 | .str z=>z.length<=1000000/\R (.int z.length)
 | _=>False
theorem WA1.len {K:x0a}:WA1 K (fun xs H Q=>(∃p ys,xs=[.ref p]/\(SqL K H p ys\/SqT K H p ys)/\Q (.int ys.length) H)\/∃z,xs=[.str z]/\z.length<=x0v/\Q (.int z.length) H) wLen:=by
 intro G H x v R Q hf rx hw k;unfold wLen at hw
 split at hw
 · obtain⟨a,vs,ev,hq,r⟩:=rx.lst;exact .inl ⟨a,vs,by rw [ev],.inl hq,k _ _ _ hw (Same.refl _) (by rw [r.length];rfl)⟩
 · obtain⟨a,vs,ev,hq,r⟩:=rx.tup;exact .inl ⟨a,vs,by rw [ev],.inr hq,k _ _ _ hw (Same.refl _) (by rw [r.length];rfl)⟩
 · obtain⟨a,ev,hq⟩:=a4E rx;exact .inl ⟨a,_,by rw [ev],.inl hq,k _ _ _ hw (Same.refl _) (by rw [x0g];rfl)⟩
 · exact .inr ⟨_,by rw [rx.str],mil hw.1,k _ _ _ hw.2 (Same.refl _) rfl⟩
 · exact hw.elim
theorem a2J {p:Pos}(hg:∀z,Gl (F z) "len")(hm:∀z,(F z).mg "len"=none)(ha:QR T K F e pe)(hs:a0w e=true:=by rfl)(hK:∀z,(F z).K=K:=by intro _;rfl):QE T K F (.Call (.Name "len" p) [e] [] pos) (qUn wLen pe):=b0P (fun z=>(hK z▸a2N).or a5c) WA1.len hg hm b1l ha hs
def wInt:w1:=fun x R=>match x with | .int i=>R (.int i) | .bl b=>R (.int (if b then 1 else 0)) | _=>False
theorem a6a {p:Pos}(hg:∀z,Gl (F z) "int")(hm:∀z,(F z).mg "int"=none)(ha:QR T K F e pe)(hs:a0w e=true:=by rfl):QE T K F (.Call (.Name "int" p) [e] [] pos) (qUn wInt pe):=b0O (fun _=>a8Z) (fun G H x v R Q hf rx hw k=>by
 unfold wInt at hw
 split at hw
 · exact .inl ⟨_,by rw [rx.int],k _ _ _ hw (Same.refl _) rfl⟩
 · exact .inr ⟨_,by rw [rx.bl],k _ _ _ hw (Same.refl _) rfl⟩
 · exact hw.elim) hg hm bt_int ha hs
def a2k:List PV->Option (List Bool)
 | []=>some []
 | .bl b::xs=>(a2k xs).map (b::·)
 | _=>none
theorem a3w {K:x0a}{G:Gh}{H:Hp}:∀{xs:List PV} {vs:List V} {bs:List Bool},a2k xs=some bs->Reps K G H xs vs->vs=bs.map V.bl
 | [],vs,bs,h,r=>by cases h;exact r
 | .bl b :: xs, vs, bs, h, r => by
   obtain⟨v,t,e,rv,rt⟩:=r;cases e1:a2k xs with
   | none=>simp [a2k,e1] at h
   | some cs =>
     have:b::cs=bs:=by simpa [a2k,e1] using h
     subst this;rw [e,show v=.bl b from rv,a3w e1 rt]
     rfl
 | .non::_,_,_,h,_=>by cases h
 | .int _::_,_,_,h,_=>by cases h
 | .str _::_,_,_,h,_=>by cases h
 | .ty _::_,_,_,h,_=>by cases h
 | .pot _::_,_,_,h,_=>by cases h
 | .tup _::_,_,_,h,_=>by cases h
 | .lst _::_,_,_,h,_=>by cases h
 | .dct _ _::_,_,_,h,_=>by cases h
 | .fdt _ _::_,_,_,h,_=>by cases h
 | .scr _::_,_,_,h,_=>by cases h
theorem a4x:∀bs:List Bool,a2k (bs.map PV.bl)=some bs:=by
 intro xq
 induction xq with
 | nil =>
   exact rfl
 | cons b bs ih =>
   simp [a2k,ih]
def wAll:w1:=fun x R=>match x with | .lst xs=>(match a2k xs with | some bs=>R (.bl (bs.all id)) | none=>False) | _=>False
theorem a6c {p:Pos}(hc:∀z,(F z).calm=true)(hg:∀z,Gl (F z) "all")(hm:∀z,(F z).mg "all"=none)(ha:QR T K F e pe)(hs:a0w e=true:=by rfl)(hK:∀z,(F z).K=K:=by intro _;rfl):QE T K F (.Call (.Name "all" p) [e] [] pos) (qUn wAll pe):=b0P (fun z=>hK z▸b0z (hc z)) (fun G H x v R Q hf rx hw k=>by
 unfold wAll at hw
 split at hw
 · rename_i xs;obtain⟨a,vs,ev,hq,r⟩:=rx.lst
   split at hw
   · rename_i bs eb;exact⟨a,bs,by rw [ev],a3w eb r▸hq,k _ _ _ hw (Same.refl _) rfl⟩
   · exact hw.elim
 · exact hw.elim) hg hm bt_all ha hs
def a2G:w1:=fun x R=>match x with | .lst xs=>R (.tup xs) | .tup xs=>R (.tup xs) | _=>False
theorem a2n {p:Pos}(hg:∀z,Gl (F z) "tuple")(hm:∀z,(F z).mg "tuple"=none)(ha:QR T K F e pe)(hs:a0w e=true:=by rfl)(hK:∀z,(F z).K=K:=by intro _;rfl):QE T K F (.Call (.Name "tuple" p) [e] [] pos) (qUn a2G pe):=b0O (fun z=>hK z▸a4r) (fun G H x v R Q hf rx hw k=>by
 unfold a2G at hw
 split at hw
 · obtain⟨a,vs,ev,hq,r⟩:=rx.lst;exact⟨a,vs,by rw [ev],.inl ⟨hq,fun l hl=>k _ _ _ hw (Same.lay1 hl) (a1K (hf l hl) hl r)⟩⟩
 · obtain⟨a,vs,ev,t,r⟩:=rx.rep (fun _ z=>nomatch z);exact⟨a,vs,by rw [ev],.inr ⟨t.sq,k _ _ _ hw (Same.refl _) ⟨a,vs,rfl,t,r⟩⟩⟩
 · exact hw.elim) hg hm a4s ha hs
def a9J (pe:pE):pA:=fun env n R=>pe env n fun x env1 n1=>match x with | .lst xs=>R xs env1 n1 | .tup xs=>R xs env1 n1 | .scr ns=>R (ns.map PV.int) env1 n1 | _=>False
theorem a7T {p:Pos}(hg:∀z,Gl (F z) "list")(hm:∀z,(F z).mg "list"=none)(ha:QR T K F e pe)(hs:a0w e=true:=by rfl)(hK:∀z,(F z).K=K:=by intro _;rfl):QN T K F (.Call (.Name "list" p) [e] [] pos) (a9J pe):=by
 obtain⟨t,h1,h2⟩:=ha;refine⟨_,fun z=>a4M (hK z▸a5b) (hg z) (hm z) b3h (a0o (h1 z) a0M (a0c hs)) (by decide) (by decide) (a0c hs),fun C G σ H env n R Q hK hT S hp k=>?_⟩;refine a6i h2 hK hT S hp fun x env1 n1 v H1 p1 S1 r1 f1=>?_;have rd:RdV K G H1 x v:=hK▸r1.rd S1;cases x with
 | lst xs =>
   obtain⟨a,vs,ev,hq,r⟩:=rd.lst;exact⟨a,vs,by rw [ev],.inl hq,fun l hl=>k _ _ _ _ _ _ p1 S1 f1 hl r⟩
 | tup xs =>
   obtain⟨a,vs,ev,hq,r⟩:=rd.tup;exact⟨a,vs,by rw [ev],.inr hq,fun l hl=>k _ _ _ _ _ _ p1 S1 f1 hl r⟩
 | scr ns =>
   obtain⟨a,ev,hq⟩:=a4E rd;exact⟨a,_,by rw [ev],.inl hq,fun l hl=>k _ _ _ _ _ _ p1 S1 f1 hl (a4F ns)⟩
 | _=>exact p1.elim
theorem tyw {X:Cx}{x:Str}{m:String}{pos:Pos}(hg:Gl X x)(hm:X.mg x=none)(hv:x0U x=some (.type m))(hn:x≠"__name__":=by decide)(hd:(x == ("__debug__":Str))=false:=by decide):EW X (.Name x pos) (tC (.ty m)):=⟨b2u (v:=.ty m) hg hm hv rfl hn hd⟩
def tyP:PV->Option String
 | .non=>some "NoneType"
 | .bl _=>some "bool"
 | .int _=>some "int"
 | .str _=>some "str"
 | .tup _=>some "tuple"
 | .lst _=>some "list"
 | .dct _ _=>some "dict"
 | _=>none
def isT (t n:String):Bool:=t == n || (t == "bool" && n == "int")
def wIsi (n:String):w1:=fun x R=>match tyP x with | some t=>R (.bl (isT t n)) | none=>False
theorem b2Q {K:x0a}{t n:String}(ht:t∈["NoneType","bool","int","str","tuple","list","dict"])(hn:n∈["bool","int","str","tuple","list"]):x3w K (.type t) (.type n)=some (isT t n):=by
 refine kit_of ?_;have:∀t∈["NoneType","bool","int","str","tuple","list","dict"],∀n∈["bool","int","str","tuple","list"],(if(x1o t == x1o n)=true then some true else if PySem.W.kitMeta n=true then(fastBuiltinMro t).map (·.contains (.type n)) else none)=some (isT t n):=by decide +kernel
 exact this t ht n hn
theorem a7V {p:Pos}{n:String}{b:Expr}(hn:n∈["bool","int","str","tuple","list"])(hg:∀z,Gl (F z) "isinstance")(hm:∀z,(F z).mg "isinstance"=none)(ha:QE T K F a pa)(hb:∀z,EW (F z) b (tC (.ty n)))(hs:a0w a=true:=by rfl)(hs2:a0w b=true:=by rfl)(hK:∀z,(F z).K=K:=by intro _;rfl):QE T K F (.Call (.Name "isinstance" p) [a,b] [] pos) (qUn (wIsi n) pa):=by
 obtain⟨t,h1,h2⟩:=ha;refine⟨_,fun z=>a1W (hK z▸a5L) (hg z) (hm z) a4t (a0o (h1 z) (a0o (hb z).h a0M (a0c hs2)) (a0c hs)) (by decide) (by decide) (a0c hs) (by rw [a0c hs2];rfl),fun C G σ H env n' R Q hK hT S hp k=>?_⟩;refine h2 C G σ H env n' _ _ hK hT S hp fun x env1 n1 v H1 p1 S1 r1 f1=>?_;unfold wIsi at p1
 have fin:∀t,TyOf K H1 v (.type t)->tyP x=some t->t∈["NoneType","bool","int","str","tuple","list","dict"]->∃x' n'' t' b',[v,V.ty n]=[x',.ty n'']/\TyOf K H1 x' t'/\x3w K t' (.type n'')=some b'/\Q (.bl b') H1:=by
   intro t ty e m;rw [e] at p1;exact⟨v,n,_,_,rfl,ty,b2Q m hn,k _ _ _ _ _ p1 S1 rfl f1⟩
 cases x with
 | non=>cases(show v=.non from r1);exact fin _ .non rfl (by decide)
 | bl b=>cases(show v=.bl b from r1);exact fin _ (.bl b) rfl (by decide)
 | int b=>cases(show v=.int b from r1);exact fin _ (.int b) rfl (by decide)
 | str b=>cases(show v=.str b from r1);exact fin _ (.str b) rfl (by decide)
 | tup xs=>obtain⟨a,vs,rfl,t,r⟩:=r1;exact fin _ (.tup t.2) rfl (by decide)
 | lst xs=>obtain⟨a,vs,rfl,t,r⟩:=r1;exact fin _ (.lst t.2) rfl (by decide)
 | dct ks xs=>obtain⟨a,kvs,rfl,_,t,r⟩:=r1;exact fin _ (.dK t) rfl (by decide)
 | ty n=>exact p1.elim
 | pot k=>exact p1.elim
 | fdt ks xs=>exact p1.elim
 | scr ns=>exact p1.elim
def wMin:w2:=fun x y R=>match x,y with | .int i,.int j=>R (.int (if j < i then j else i)) | _,_=>False
theorem ok_cb2 {K:x0a}{r:List V->Hp->VK->Prop}{w:w2}{t u:TE}(hw:W2 K (fun x y H Q=>r [x,y] H Q) w)(h:EOk K T t pa)(h':EOk K T u pb):EOk K T (tCB r (a4z t (a4z u tNil))) (qOp w pa pb):=fun C G σ H env n R Q hK hT S hp k=>by
 refine h C G σ H env n _ _ hK hT S hp fun x env1 n1 v H1 p1 S1 r1 f1=>?_;refine h' C G σ H1 env1 n1 _ _ hK hT S1 p1 fun y env2 n2 u H2 p2 S2 r2 f2=>?_;exact hw G H2 x y v u _ _ (fun p hp=>S2.fresh hp) (.inl (r1.fr f2)) (.inl r2) p2 fun z v' H' rz s rv=>k _ _ _ _ _ rz (S2.same s) rv ((f1.trans f2).trans (Fr.of s))
theorem qe_min {p:Pos}(hc:∀z,(F z).calm=true)(hg:∀z,Gl (F z) "min")(hm:∀z,(F z).mg "min"=none)(ha:QE T K F a pa)(hb:QE T K F b pb)(hs:a0w a=true:=by rfl)(hs2:a0w b=true:=by rfl):QE T K F (.Call (.Name "min" p) [a,b] [] pos) (qOp wMin pa pb):=by
 obtain⟨t,h1,h2⟩:=ha;obtain⟨u,h3,h4⟩:=hb;refine⟨_,fun z=>a1W (a8Y (hc z)) (hg z) (hm z) bt_min (a0o (h1 z) (a0o (h3 z) a0M (a0c hs2)) (a0c hs)) (by decide) (by decide) (a0c hs) (by rw [a0c hs2];rfl),ok_cb2 (fun G H x y v u R Q hf rx ry hw k=>?_) h2 h4⟩;unfold wMin at hw
 split at hw
 · exact⟨_,_,by rw [rx.int,ry.int],k _ _ _ hw (Same.refl _) rfl⟩
 · exact hw.elim
def a0z (K:x0a)(T:PotK)(f:pF):Sp:=fun vs H Q _=>∃(G:Gh) (xs:List PV) (n:Nat) (R:PV->Nat->Prop),(∀p∈G.pots,p∈G.M/\T.at_ G.M H p n)/\(∀a∈G.M,∃o,H a=some o/\MutO o)/\T.has G.pots/\Reps K G H xs vs/\f xs n R/\
 ∀r n' v H',R r n'->Rep K G H' r v->(∀p∈G.pots,T.at_ G.M H' p n')->(∀b o,b∉G.pots->H b=some o->H' b=some o)->Q v H'
def a1e (f:pF)(pa:pA):pE:=fun env n R=>pa env n fun xs env1 n1=>f xs n1 fun r n2=>R r env1 n2
theorem SR.call {C:Ct}{G:Gh}{σ:St}{H H':Hp}{env:Env}{n n':Nat}(S:SR C G σ H env n)(hk:∀b o,b∉G.pots->H b=some o->H' b=some o)(hp:∀p∈G.pots,C.T.at_ G.M H' p n'):SR C G σ H' env n' where
 frame b o hb e:=by
   by_cases hp:b∈G.pots
   · -- a pot that is new since the entry has no old object
     obtain⟨l,el,_⟩:=S.pre;rw [el] at hp;rcases x1g.mp hp with z | z
     · exact absurd z hb
     · have hM:=(S.pots b (by rw [el];exact hp)).1;rcases S.sub b hM with z2 | z2
       · exact(S.newp b (by rw [el];exact hp) hb z2).elim
       · rw [z2] at e;cases e
   · exact hk b o hp (S.frame b o hb e)
 sub:=S.sub
 sup:=S.sup
 pots p h:=⟨(S.pots p h).1,hp p h⟩
 pre:=S.pre
 mu a ha:=by
   by_cases h:a∈G.pots
   · exact C.T.mu (hp a h)
   · obtain⟨o,e,m⟩:=S.mu a ha;exact⟨o,hk a o h e,m⟩
 slots i x e:=by
   have f:Fr G H H':=fun b o hb he=>hk b o (fun z=>hb (S.pots b z).1) he;have:=S.slots i x e;cases x with
   | v x =>
     obtain⟨v,e1,r⟩:=this;exact⟨v,e1,r.fr f⟩
   | ow kk xs =>
     obtain⟨a,vs,e1,h1,h2,h3,h4,r⟩:=this;exact⟨a,vs,e1,h1,h2,h3,hk _ _ h3 h4,r.fr f⟩
 inj:=S.inj
 p0:=S.p0
 len:=S.len
 newp:=S.newp
theorem a1u {x:Str}{p:Pos}{f:pF}{ps:List Str}{k j:Nat}(hG:∀z,Kn (F z).prog (F z).w (F z).K (F z).mg (F z).base x k ps (a0z K T f))(hr:∀z,Room j (F z).A)(hk:k<=j)(hg:∀z,Gl (F z) x)(ha:QA T K F (e::es) pl)(hdb:(x == ("__debug__":Str))=false:=by decide)
   (hs:a0w e=true:=by rfl) (hpl:∀z,(backTo pos (x0T es (F z).env)).any (·.1)=false:=by intro _;rfl):QE T K F (.Call (.Name x p) (e::es) [] pos) (a1e f pl):=by
 obtain⟨t,h1,h2⟩:=ha;refine⟨_,fun z=>pe_fn (hG z) (hr z) hk (hg z) (h1 z) hdb (a0c hs) (hpl z),fun C G σ H env n R Q hK hT S hp k=>?_⟩;refine h2 C G σ H env n _ _ hK hT S hp fun xs env1 n1 vs H1 p1 S1 r1 f1=>?_;subst hT;rw [x1x];refine⟨G,xs,n1,_,fun p hp=>S1.pots p hp,S1.mu,S1.hasG,r1,p1,fun r n' v H' rr rv hp hk'=>?_⟩;exact k _ _ _ _ _ rr (S1.call hk' hp) rv (f1.trans fun b o hb e=>hk' b o (fun z=>hb (S1.pots b z).1) e)
end
end Pu
end
section
namespace Pu
open PySem PySem.Spec L2
abbrev pG:=PV->Env->(Env->Prop)->Prop
abbrev pGs:=List PV->Env->(Env->Prop)->Prop
def GOk (K:x0a)(g:TG)(pg:pG):Prop:=∀(C:Ct) (G:Gh) (σ:St) (H:Hp) (env:Env) (n:Nat) (x:PV) (v:V) (R:Env->Prop) (Q:St->Hp->Prop),C.K=K->SR C G σ H env n->Rep K G H x v->pg x env R->
 (∀env' σ',R env'->SR C G σ' H env' n->Q σ' H)->g v σ H Q
def GsOk (K:x0a)(g:TGs)(pg:pGs):Prop:=∀(C:Ct) (G:Gh) (σ:St) (H:Hp) (env:Env) (n:Nat) (x:List PV) (v:List V) (R:Env->Prop) (Q:St->Hp->Prop),C.K=K->SR C G σ H env n->Reps K G H x v->pg x env R->
 (∀env' σ',R env'->SR C G σ' H env' n->Q σ' H)->g v σ H Q
def QG {ι:Type}(K:x0a)(F:ι->Cx)(e:Expr)(pg:pG):Prop:=∃g,(∀z,PG (F z) e g)/\GOk K g pg
def QGs {ι:Type}(K:x0a)(F:ι->Cx)(e:List Expr)(pg:pGs):Prop:=∃g,(∀z,PGs (F z) e g)/\GsOk K g pg
def gN (i:Nat):pG:=fun x env R=>R (env.set i (some (.v x)))
def gNl:pGs:=fun xs env R=>match xs with | []=>R env | _=>False
def gCn (g:pG)(r:pGs):pGs:=fun xs env R=>match xs with | x::xs=>g x env fun env1=>r xs env1 R | []=>False
def gTp (k:Nat)(g:pGs):pG:=fun x env R=>match x with | .tup xs=>xs.length=k/\g xs env R | _=>False
theorem SR.set {C:Ct}{G:Gh}{σ:St}{H:Hp}{env:Env}{n:Nat}(S:SR C G σ H env n)(i:Nat){x:PV}{v:V}(r:Rep C.K G H x v):SR C G (σ.set i (some v)) H (env.set i (some (.v x))) n where
 frame:=S.frame
 sub:=S.sub
 sup:=S.sup
 pots:=S.pots
 pre:=S.pre
 mu:=S.mu
 slots j s e:=by
   by_cases h:i=j
   · subst h
     by_cases hl:i < env.length
     · rw [x0o hl] at e;cases e;exact⟨v,by rw [x0o (by rw [<- S.len];exact hl)],r⟩
     · rw [x0w (by rw [x0x];omega)] at e;cases e
   · rw [x0t h] at e ⊢;exact S.slots j s e
 inj j k xs ys a e1 e2 e3 e4:=by
   have nj:∀(j:Nat) (xs:OK×List PV),(env.set i (some (.v x)))[j]?=some (some (Slot.ow xs.1 xs.2))->i≠j:=by
     intro j xs e h;subst h
     by_cases hl:i < env.length
     · rw [x0o hl] at e;cases e
     · rw [x0w (by rw [x0x];omega)] at e;cases e
   have n1:=nj j xs e1;have n2:=nj k ys e2;rw [x0t n1] at e1 e3;rw [x0t n2] at e2 e4;exact S.inj j k xs ys a e1 e2 e3 e4
 p0:=S.p0
 len:=by rw [x0x,x0x];exact S.len
 newp:=S.newp
section
variable {T:PotK}{ι:Type}{K:x0a}{F:ι->Cx}{e a b c:Expr}{es rest:List Expr}{pe pa pb pc:pE}{pos:Pos}{pl pr:pA}{pg:pG}{pgs:pGs}{pt:pT}
theorem a0r {X:Cx}(i:Nat){x:Str}{pos:Pos}(hN:X.N.Nodup)(hi:X.N[i]?=some x)(hx:Loc X.env.scope x)(hf:X.fn x=true\/X.env.scope.names.lookup x=some .local:=by first | exact .inl rfl | exact .inr rfl | assumption):GW X (.Name x pos) (a1I i):=⟨b2n hN hi hx hf⟩
theorem a0q {i:Nat}{x:Str}(h:∀z,GW (F z) (.Name x pos) (a1I i)):QG K F (.Name x pos) (gN i):=⟨_,fun z=>(h z).h,fun C G σ H env n x v R Q hK S r hp k=>k _ _ hp (S.set i (hK▸r))⟩
theorem a3X:QGs K F [] gNl:=⟨_,fun _=>b2m,fun C G σ H env n x v R Q hK S r hp k=>by
 cases x with
 | nil=>exact⟨r,k _ _ hp S⟩
 | cons _ _=>exact hp.elim⟩
theorem a1i (h1:QG K F e pg)(h2:QGs K F es pgs)(hs:∀z,(x2w (e::es) (F z).env).map (·.2)=assign e (F z).env::(x2w es (F z).env).map (·.2):=by intro _;rfl):QGs K F (e::es) (gCn pg pgs):=by
 obtain⟨g,a1,a2⟩:=h1;obtain⟨gs,b1,b2⟩:=h2;refine⟨_,fun z=>a9T (a1 z) (b1 z) (hs z),fun C G σ H env n x v R Q hK S r hp k=>?_⟩;cases x with
 | nil=>exact hp.elim
 | cons x xs =>
   obtain⟨u,us,rfl,ru,rs⟩:=r;exact⟨u,us,rfl,a2 C G σ H env n x u _ _ hK S ru hp fun env' σ' re S'=>b2 C G σ' H env' n xs us _ _ hK S' rs re k⟩
theorem a5Z {m:Nat}{k:Nat}(hc:∀z,(F z).calm=true)(h:QGs K F es pgs)(hn:∀z,(x2w es (F z).env).length=m:=by intro _;rfl)(hst:∀z,(x2w es (F z).env).findIdx? (·.1)=none:=by intro _;rfl)(hK:∀z,(F z).K=K:=by intro _;rfl):QG K F (.Tuple es k pos) (gTp m pgs):=by
 obtain⟨g,a1,a2⟩:=h;refine⟨_,fun z=>hK z▸pg_tup (hc z) (a1 z) (hn z) (hst z),fun C G σ H env n x v R Q hK S r hp k=>?_⟩;cases x with
 | tup xs =>
   obtain⟨a,vs,rfl,t,rs⟩:=r;exact⟨a,vs,rfl,t.sq,by rw [<- rs.length];exact hp.1,a2 C G σ H env n xs vs _ _ hK S rs hp.2 k⟩
 | _=>exact hp.elim
def ItR (K:x0a)(G:Gh)(H:Hp)(J:It)(xs:List PV):Prop:=∀(G2:Gh) (H2:Hp),(∀b o,b∉G.M->H b=some o->H2 b=some o)->(∀a∈G2.M,a∈G.M\/H a=none)->(∀(k:Nat) (p:Addr),G.pots[k]?=some p->G2.pots[k]?=some p)->(∀p,H2 p=none->p∉G2.M)->
 (∀(i:Nat) x,xs[i]?=some x->J.go i H2/\∀v H3,J.yld i H2 v H3->Same H2 H3/\Rep K G2 H3 x v)/\∀i,xs.length<=i->J.stop i H2
def IOk (K:x0a)(T:PotK)(wi:TI)(pi:pA):Prop:=∀(C:Ct) (G:Gh) (σ:St) (H:Hp) (env:Env) (n:Nat) (R:List PV->Env->Nat->Prop) (Q:It->Hp->Prop),C.K=K->C.T=T->SR C G σ H env n->pi env n R->
 (∀xs env' n' J H',R xs env' n'->SR C G σ H' env' n'->Fr G H H'->ItR K G H' J xs->Q J H')->wi σ H Q
def QI {ι:Type}(T:PotK)(K:x0a)(F:ι->Cx)(tg iter:Expr)(pi:pA):Prop:=∃wi,(∀z,PI (F z) tg iter wi)/\IOk K T wi pi
variable {tg:Expr}
variable {D:Addr}{us:List V}{J:It}
theorem b0m {K:x0a}{G:Gh}{H:Hp}{a:Addr}{xs:List PV}{vs:List V}(t:AtL G.M H a vs)(r:Reps K G H xs vs):ItR K G H (Itl K a) xs:=by
 intro G2 H2 hk hM hp hf;have hq:SqL K H2 a vs:=SqL.of (hk a _ t.1 t.2);have r2:Reps K G2 H2 xs vs:=Reps.mono hk hM hp _ _ r;refine⟨fun i x e=>?_,fun i hi=>⟨vs,hq,by rw [<- r.length];exact hi⟩⟩;obtain⟨v,ev,rv⟩:=r2.get' e;refine⟨⟨vs,v,hq,ev⟩,fun v' H3 y=>?_⟩;obtain⟨e3,y⟩:=y;subst e3;have:=y vs hq;rw [ev] at this;cases this;exact⟨Same.refl _,rv⟩
theorem b2S {K:x0a}{G:Gh}{H:Hp}{a:Addr}{xs:List PV}{vs:List V}(t:AtT G.M H a vs)(r:Reps K G H xs vs):ItR K G H (Itt K a) xs:=by
 intro G2 H2 hk hM hp hf;have hq:SqT K H2 a vs:=SqT.of (hk a _ t.1 t.2);have r2:Reps K G2 H2 xs vs:=Reps.mono hk hM hp _ _ r;refine⟨fun i x e=>?_,fun i hi=>⟨vs,hq,by rw [<- r.length];exact hi⟩⟩;obtain⟨v,ev,rv⟩:=r2.get' e;refine⟨⟨vs,v,hq,ev⟩,fun v' H3 y=>?_⟩;obtain⟨e3,y⟩:=y;subst e3;have:=y vs hq;rw [ev] at this;cases this;exact⟨Same.refl _,rv⟩
def qIl (pe:pE):pA:=fun env n R=>pe env n fun x env1 n1=>match x with | .lst xs=>R xs env1 n1 | _=>False
def qIt (pe:pE):pA:=fun env n R=>pe env n fun x env1 n1=>match x with | .tup xs=>R xs env1 n1 | _=>False
theorem a5r (h:QE T K F e pe)(hK:∀z,(F z).K=K:=by intro _;rfl):QI T K F tg e (qIl pe):=by
 obtain⟨t,h1,h2⟩:=h;refine⟨_,fun z=>hK z▸b2j (h1 z),fun C G σ H env n R Q hK hT S hp k=>?_⟩;refine h2 C G σ H env n _ _ hK hT S hp fun x env1 n1 v H1 p1 S1 r1 f1=>?_;cases x with
 | lst xs =>
   obtain⟨a,vs,rfl,t,r⟩:=r1;exact⟨a,rfl,⟨vs,t.sq⟩,k _ _ _ _ _ p1 S1 f1 (b0m t r)⟩
 | _=>exact p1.elim
theorem a3A (h:QE T K F e pe)(hK:∀z,(F z).K=K:=by intro _;rfl):QI T K F tg e (qIt pe):=by
 obtain⟨t,h1,h2⟩:=h;refine⟨_,fun z=>hK z▸pi_tup (h1 z),fun C G σ H env n R Q hK hT S hp k=>?_⟩;refine h2 C G σ H env n _ _ hK hT S hp fun x env1 n1 v H1 p1 S1 r1 f1=>?_;cases x with
 | tup xs =>
   obtain⟨a,vs,rfl,t,r⟩:=r1;exact⟨a,rfl,⟨vs,t.sq⟩,k _ _ _ _ _ p1 S1 f1 (b2S t r)⟩
 | _=>exact p1.elim
theorem a8D {K:x0a}{G:Gh}{H:Hp}(lo:Int)(m:Nat):ItR K G H (Itr lo m) ((x0j m).map fun(k:Nat)=>PV.int (lo + k)):=by
 intro G2 H2 hk hM hp hf;refine⟨fun i x e=>?_,fun i hi=>(show m<=i by simpa using hi)⟩;rw [x0r] at e;cases e1:(x0j m)[i]? with
 | none=>rw [e1] at e;cases e
 | some j =>
   rw [e1] at e;cases e;obtain⟨hi,e2⟩:=x0k.mp e1;rw [x3g] at e2;subst e2;refine⟨(show i < m by simpa using hi),fun v H3 y=>?_⟩;obtain⟨e3,y⟩:=y;subst e3 y;exact⟨Same.refl _,rfl⟩
def a3Z (pe:pE):pA:=fun env n R=>pe env n fun x env1 n1=>match x with | .int j=>(-1000000<=j/\j<=1000000)/\R ((x0j j.toNat).map fun(k:Nat)=>PV.int (0 + k)) env1 n1 | _=>False
theorem a1c {p:Pos}(hg:∀z,Gl (F z) "range")(hm:∀z,(F z).mg "range"=none)(h:QE T K F e pe)(hs:a0w e=true:=by rfl):QI T K F tg (.Call (.Name "range" p) [e] [] pos) (a3Z pe):=by
 obtain⟨t,h1,h2⟩:=h;refine⟨_,fun z=>a8g (hg z) (hm z) (a0o (h1 z) a0M (a0c hs)) (by rw [a0c hs];rfl),fun C G σ H env n R Q hK hT S hp k=>?_⟩;refine a6i (pe:=pe) (fun C G σ H env n R Q hK hT S hp k=>h2 C G σ H env n R Q hK hT S hp fun x env' n' v H' r S' rp f=>k x env' n' v H' r S' (.inl (hK▸rp)) f) hK hT S hp fun x env1 n1 v H1 p1 S1 r1 f1=>?_;cases x with
 | int j=>exact⟨j,by rw [(r1.rd S1).int],by omega,by omega,k _ _ _ _ _ p1.2 S1 f1 (a8D 0 _)⟩
 | _=>exact p1.elim
def a4X (xs:List PV):List PV:=xs.zipIdx.map fun y=>.tup [.int (y.2:Nat),y.1]
def b1W (pe:pE):pA:=fun env n R=>pe env n fun x env1 n1=>match x with | .lst xs=>R (a4X xs) env1 n1 | _=>False
theorem a3o {xs:List PV}{i:Nat}{x:PV}(h:(a4X xs)[i]?=some x):∃y,xs[i]?=some y/\x=.tup [.int (i:Nat),y]:=by
 unfold a4X at h;rw [x0r,List.getElem?_zipIdx] at h;cases e:xs[i]? with
 | none=>rw [e] at h;cases h
 | some y =>
   rw [e] at h;cases h;exact⟨y,rfl,by simp⟩
theorem a2t (xs:List PV):(a4X xs).length=xs.length:=by unfold a4X;simp
theorem b1T {p:Pos}{elts:List Expr}{x1:Nat}{tpos:Pos}(hg:∀z,Gl (F z) "enumerate")(hm:∀z,(F z).mg "enumerate"=none)(h:QE T K F e pe)(hs:a0w e=true:=by rfl)(hK:∀z,(F z).K=K:=by intro _;rfl):QI T K F (.Tuple elts x1 tpos) (.Call (.Name "enumerate" p) [e] [] pos) (b1W pe):=by
 obtain⟨t,h1,h2⟩:=h;refine⟨_,fun z=>hK z▸b2k (hg z) (hm z) (a0o (h1 z) a0M (a0c hs)) (by rw [a0c hs];rfl),fun C G σ H env n R Q hK hT S hp k=>?_⟩;refine h2 C G σ H env n _ _ hK hT S hp fun x env1 n1 v H1 p1 S1 r1 f1=>?_;cases x with
 | lst xs =>
   obtain⟨a,vs,rfl,t,r⟩:=r1;refine⟨a,rfl,⟨vs,t.sq⟩,k _ _ _ _ _ p1 S1 f1 ?_⟩;intro G2 H2 hk hM hp hf;have hq:SqL K H2 a vs:=SqL.of (hk a _ t.1 t.2);have r2:Reps K G2 H2 xs vs:=Reps.mono hk hM hp _ _ r;refine⟨fun i x e=>?_,fun i hi=>⟨vs,hq,by rw [<- r.length,<- a2t];exact hi⟩⟩;obtain⟨y,ey,rfl⟩:=a3o e;obtain⟨v,ev,rv⟩:=r2.get' ey;refine⟨⟨vs,v,hq,ev⟩,fun v' H3 y=>?_⟩;obtain⟨p,w,hn,rfl,rfl,y⟩:=y;have:=y vs hq;rw [ev] at this;cases this;exact⟨Same.lay1 hn,a1K (hf p hn) hn (.cons rfl (.one rv))⟩
 | _=>exact p1.elim
def capS:Option (Option Slot)->Option Slot
 | some (some (.v x))=>some (.v x)
 | _=>none
def capV (cs:List (Option Nat))(env:Env):Env:=cs.map fun o=>o.bind fun j=>capS (env[j]?)
def a4q (g:pG)(tt:pT)(te:pE):List PV->Env->Nat->(List PV->Nat->Prop)->Prop
 | [],_,n,R=>R [] n
 | x::xs,env,n,R=>g x env fun env1=>tt env1 n fun b env2 n2=>if b=true then te env2 n2 fun y env3 n3=>a4q g tt te xs env3 n3 fun ys n4=>R (y::ys) n4 else a4q g tt te xs env2 n2 R
def qTru:pT:=fun env n R=>R true env n
def a4J (cs:List (Option Nat))(pi:pA)(g:pG)(tt:pT)(te:pE):pA:=fun env n R=>pi env n fun xs env1 n1=>xs.length<=1000000/\a4q g tt te xs (capV cs env1) n1 fun ys n2=>R ys env1 n2
structure Inn (K:x0a)(T:PotK)(G:Gh)(σ:St)(H:Hp)(env:Env)(n:Nat):Prop where
 pots:∀p∈G.pots,p∈G.M/\T.at_ G.M H p n
 has:T.has G.pots
 mu:∀a∈G.M,∃o,H a=some o/\MutO o
 slots:∀(i:Nat) (s:Slot),env[i]?=some (some s)->∃x v,s=.v x/\σ[i]?=some (some v)/\Rep K G H x v
 len:env.length=σ.length
theorem Inn.sr {K:x0a}{T:PotK}{G:Gh}{σ:St}{H:Hp}{env:Env}{n:Nat}(I:Inn K T G σ H env n):SR ⟨K,T,G.M,G.pots,H,false⟩ G σ H env n where
 frame b o _ e:=e
 sub a ha:=.inl ha
 sup a ha:=ha
 pots:=I.pots
 pre:=⟨[],by simp,.inl rfl⟩
 mu:=I.mu
 slots i s e:=by
   obtain⟨x,v,rfl,ev,r⟩:=I.slots i s e;exact⟨v,ev,r⟩
 inj i j xs ys a e1:=by
   obtain⟨x,v,z,_⟩:=I.slots i _ e1;cases z
 p0:=⟨fun p hp=>(I.pots p hp).1,I.has⟩
 len:=I.len
 newp p hp hn:=absurd hp hn
theorem SR.inn {K:x0a}{T:PotK}{G:Gh}{σ:St}{H H0:Hp}{env:Env}{n:Nat}(S:SR ⟨K,T,G.M,G.pots,H0,false⟩ G σ H env n):Inn K T G σ H env n where
 pots:=S.pots
 has:=S.hasG
 mu:=S.mu
 slots i s e:=by
   cases s with
   | v x =>
     obtain⟨v,ev,r⟩:=S.slots i _ e;exact⟨x,v,rfl,ev,r⟩
   | ow kk xs =>
     obtain⟨a,vs,ev,h1,h2,_⟩:=S.slots i _ e;exact absurd h1 h2
 len:=S.len
theorem b1t {K:x0a}:TOk K T tTru qTru:=fun C G σ H env n R Q hK hT S hp k=>k _ _ _ _ hp S Fr.refl
structure CI (K:x0a)(T:PotK)(G:Gh)(H1:Hp)(D:Addr)(σ:St)(H:Hp)(env:Env)(n:Nat)(acc:List PV)(us:List V):Prop where
 inn:Inn K T ⟨D::G.M,G.pots⟩ σ H env n
 kp:∀b o,b∉G.pots->H1 b=some o->H b=some o
 eD:H D=some (.lst us)
 ra:Reps K ⟨D::G.M,G.pots⟩ H acc us
theorem CI.start {K:x0a}{T:PotK}{G:Gh}{H1:Hp}{σ:St}{env:Env}{n:Nat}(hD:H1 D=none)(I0:Inn K T G σ H1 env n):CI K T G H1 D σ (upd H1 D (.lst [])) env n [] []:=by
 have lay:∀b o,H1 b=some o->upd H1 D (.lst []) b=some o:=fun b o e=>Same.lay1 hD b o e;have new:∀a,a∈D::G.M->a∈G.M\/H1 a=none:=fun a ha=>(x0s.mp ha).elim (fun z=>.inr (z▸hD)) .inl;refine⟨⟨fun p hp=>⟨x0d _ (I0.pots p hp).1,?_⟩,I0.has,fun a ha=>?_,fun i s e=>?_,I0.len⟩,fun b o _ e=>lay b o e,a0j,rfl⟩
 · have h1:=T.more (M':=D::G.M) (I0.pots p hp).2 new;obtain⟨o,e,_⟩:=T.mu h1;exact T.keep h1 (by rw [e,lay p o e]) fun b o _ e=>lay b o e
 · rcases x0s.mp ha with rfl | ha
   · exact⟨_,a0j,trivial⟩
   · obtain⟨o,e,m⟩:=I0.mu a ha;exact⟨o,lay a o e,m⟩
 · obtain⟨x,v,rfl,ev,r⟩:=I0.slots i s e;exact⟨x,v,rfl,ev,Rep.mono (G':=⟨D::G.M,G.pots⟩) (fun b o _ e=>lay b o e) new (fun _ _ e=>e) _ _ r⟩
theorem CI.go {K:x0a}{T:PotK}{G:Gh}{H1:Hp}{σ σ':St}{H H':Hp}{env env':Env}{n n':Nat}{acc:List PV}(c:CI K T G H1 D σ H env n acc us)(nD:D∉G.pots)(S:SR ⟨K,T,D::G.M,G.pots,H,false⟩ ⟨D::G.M,G.pots⟩ σ' H' env' n'):CI K T G H1 D σ' H' env' n' acc us:=
 ⟨S.inn,fun b o hb e=>S.frame b o hb (c.kp b o hb e),S.frame D _ nD c.eD,Reps.mono (fun b o hb e=>S.frame b o (fun z=>hb (c.inn.pots b z).1) e) (fun a ha=>.inl ha) (fun _ _ e=>e) _ _ c.ra⟩
theorem CI.fD {G:Gh}{H:Hp}(o:HO):Fr ⟨D::G.M,G.pots⟩ H (upd H D o):=fun b u hb e=>by
 rw [a0f (fun z=>hb (by rw [z];exact x0h))];exact e
theorem CI.add {K:x0a}{T:PotK}{G:Gh}{H1:Hp}{σ:St}{H:Hp}{env:Env}{n:Nat}{acc:List PV}{y:PV}{u:V}(c:CI K T G H1 D σ H env n acc us)(nD:D∉G.pots)(hD:H1 D=none)(r:Rep K ⟨D::G.M,G.pots⟩ H y u):CI K T G H1 D σ (upd H D (.lst (us++[u]))) env n (acc++[y]) (us++[u]):=by
 refine⟨⟨fun p hp=>⟨(c.inn.pots p hp).1,T.keep (c.inn.pots p hp).2 (a0f fun z=>nD (by rw [<- z];exact hp)) (CI.fD _)⟩,c.inn.has,fun a ha=>?_,fun q s e=>?_,c.inn.len⟩,fun b o hb e=>?_,a0j,(c.ra.append (.one r)).fr (CI.fD _)⟩
 · by_cases haD:a=D
   · subst haD;exact⟨_,a0j,trivial⟩
   · rw [a0f haD];exact c.inn.mu a ha
 · obtain⟨x,v,rfl,ev,r⟩:=c.inn.slots q s e;exact⟨x,v,rfl,ev,r.fr (CI.fD _)⟩
 · rw [a0f (fun z=>by rw [z,hD] at e;cases e)];exact c.kp b o hb e
theorem CI.it {K:x0a}{T:PotK}{G:Gh}{H1:Hp}{σ:St}{H:Hp}{env:Env}{n:Nat}{acc:List PV}{xs:List PV}(c:CI K T G H1 D σ H env n acc us)(hD:H1 D=none)(hJ:ItR K G H1 J xs):(∀(i:Nat) x,xs[i]?=some x->J.go i H/\∀v H3,J.yld i H v H3->Same H H3/\Rep K ⟨D::G.M,G.pots⟩ H3 x v)/\∀i,xs.length<=i->J.stop i H:=
 hJ ⟨D::G.M,G.pots⟩ H (fun b o hb e=>by
   by_cases z:b∈G.pots
   · obtain⟨h1,_⟩:=c.inn.pots b z;rcases x0s.mp h1 with rfl | h1
     · rw [hD] at e;cases e
     · exact absurd h1 hb
   · exact c.kp b o z e) (fun a ha=>(x0s.mp (show a∈D::G.M from ha)).elim (fun z=>.inr (z▸hD)) .inl) (fun _ _ e=>e) fun p hp=>c.inn.sr.fresh hp
theorem b3f {K:x0a}{T:PotK}{g:TG}{tt:TT}{te:TE}{pg:pG}{ptt:pT}{pte:pE}(hg:GOk K g pg)(ht:TOk K T tt ptt)(he:EOk K T te pte){G:Gh}{H1:Hp}{xs:List PV}(hJ:ItR K G H1 J xs)(hl:xs.length<=1000000)
   {σc:St} {env:Env} {n:Nat} {R:List PV->Nat->Prop} {Q:VK}  (hD:H1 D=none) (I0:Inn K T G σc H1 env n) (hp:a4q pg ptt pte xs env n R)
   (hQ:∀ys n' us H',R ys n'->(∀p∈G.pots,T.at_ (D::G.M) H' p n')->(∀b o,b∉G.pots->H1 b=some o->H' b=some o)->H' D=some (.lst us)->Reps K ⟨D::G.M,G.pots⟩ H' ys us->Q (.ref D) H') :
   CompW J g tt te Q D σc (upd H1 D (.lst [])):=by
 have nD:D∉G.pots:=fun z=>I0.sr.fresh hD (I0.pots D z).1;refine⟨fun i m σ H=>m=xs.length - i/\i<=xs.length/\∃env n acc us,CI K T G H1 D σ H env n acc us/\acc.length<=i/\a4q pg ptt pte (xs.drop i) env n fun ys n'=>R (acc++ys) n',⟨xs.length,rfl,x1z _,env,n,[],[],.start hD I0,x0m _,hp⟩,?_⟩;rintro i m σ H ⟨rfl,hi,env,n,acc,us,c,la,hc⟩;obtain⟨hgo,hstop⟩:=c.it hD hJ
 by_cases hlt:i < xs.length
 · obtain⟨g1,g2⟩:=hgo i _ (x0f hlt);refine .inr ⟨g1,fun v H2 y=>?_⟩;obtain⟨s2,rv⟩:=g2 v H2 y;rw [x1H hlt] at hc;refine hg _ _ σ H2 env n xs[i] v _ _ rfl (c.inn.sr.same s2) rv hc fun env1 σ1 hc1 S2=>?_;refine ht _ _ σ1 H2 env1 n _ _ rfl rfl S2 hc1 fun b env2 n2 H4 hc2 S4 f4=>?_;cases b with
   | false=>exact⟨xs.length - (i + 1),x2i _ _ hlt,rfl,hlt,env2,n2,acc,us,c.go nD S4,Nat.le_succ_of_le la,hc2⟩
   | true =>
     refine he _ _ σ1 H4 env2 n2 _ _ rfl rfl S4 hc2 fun y env3 n3 u H5 hc3 S5 r5 f5=>?_;have c5:=c.go nD S5;refine⟨us,c5.eD,by rw [<- c.ra.length];exact mil' (by omega),xs.length - (i + 1),x2i _ _ hlt,rfl,hlt,env3,n3,acc++[y],us++[u],c5.add nD hD r5,by rw [x0q,x0G];omega,?_⟩;simp only [x2l];exact hc3
 · obtain rfl:i=xs.length:=Nat.le_antisymm hi (x3F hlt);refine .inl ⟨hstop _ (x0m _),?_⟩;rw [x2M] at hc;have hc':R (acc++[]) n:=hc;rw [x1x] at hc';exact hQ _ n us H hc' (fun p hp=>(c.inn.pots p hp).2) c.kp c.eD c.ra
end
end Pu
end
section
namespace Pu
open PySem PySem.Spec L2
section
variable {T:PotK}{ι:Type}{K:x0a}{F:ι->Cx}{e a b c:Expr}{es rest:List Expr}{pe pa pb pc:pE}{pos:Pos}{pl pr:pA}{pg:pG}{pgs:pGs}{pt:pT}
def QIf {ι:Type}(T:PotK)(K:x0a)(F:ι->Cx)(ifs:List Expr)(pt:pT):Prop:=∃t,(∀z,PIf (F z) ifs t)/\TOk K T t pt
theorem a1M:QIf T K F [] qTru:=⟨_,fun _=>b2h,b1t⟩
theorem a5K {C:Ct}{G:Gh}{σ:St}{H:Hp}{env:Env}{n:Nat}(S:SR C G σ H env n)(cs:List (Option Nat)):Inn C.K C.T G (a7j cs σ) H (capV cs env) n where
 pots:=S.pots
 has:=S.hasG
 mu:=S.mu
 len:=by simp [capV,a7j]
 slots i s e:=by
   unfold capV at e;rw [x0r] at e;cases ec:cs[i]? with
   | none=>rw [ec] at e;cases e
   | some o =>
     rw [ec] at e;cases o with
     | none=>cases e
     | some j =>
       have e':capS (env[j]?)=some s:=by simpa using e
       unfold capS at e'
       split at e'
       · rename_i x ex;cases e';obtain⟨v,ev,r⟩:=S.slots j _ ex;refine⟨x,v,rfl,?_,r⟩;unfold a7j;rw [x0r,ec];simp [ev]
       · cases e'
def cutH (H:Hp)(D:Addr):Hp:=fun b=>if b=D then none else H b
theorem a0V {H:Hp}{D b:Addr}(h:b≠D):cutH H D b=H b:=if_neg h
theorem a3O {H:Hp}{D:Addr}{o:HO}(h:H D=some o):upd (cutH H D) D o=H:=by
 funext b
 by_cases hb:b=D
 · subst hb;rw [a0j,h]
 · rw [a0f hb,a0V hb]
theorem a2A {scope:Scope}{cl:ι->List (Str×Addr)}{N:List Str}{cs:List (Option Nat)}{elt tg iter:Expr}{ifs:List Expr}{pi:pA}{ptt:pT}{pte:pE}(S:∀z,a1a (F z) scope (cl z) N cs)(hc:∀z,(F z).calm=true)(hi:QI T K F tg iter pi)
   (hg:QG K (fun y:ι×List Addr×Addr×Shared×Hp=>a0l (F y.1) scope (cl y.1) N y.2.1 y.2.2.1 y.2.2.2.1 y.2.2.2.2) tg pg) (ht:QIf T K (fun y:ι×List Addr×Addr×Shared×Hp=>a0l (F y.1) scope (cl y.1) N y.2.1 y.2.2.1 y.2.2.2.1 y.2.2.2.2) ifs ptt)
   (he:QE T K (fun y:ι×List Addr×Addr×Shared×Hp=>a0l (F y.1) scope (cl y.1) N y.2.1 y.2.2.1 y.2.2.2.1 y.2.2.2.2) elt pte)
   (hs:∀z x,x0O iter (F z).env x=pure x:=by intro _ _;rfl):QN T K F (.ListComp elt [⟨tg,iter,ifs,0⟩] scope pos) (a4J cs pi pg ptt pte):=by
 obtain⟨wi,i1,i2⟩:=hi;obtain⟨g,hg0,hg⟩:=hg;obtain⟨tt,ht0,ht⟩:=ht;obtain⟨te,he0,he⟩:=he;refine⟨_,fun z=>b2r (S z) (hc z) (i1 z) (fun fp C s H=>⟨hg0 (z,fp,C,s,H),ht0 (z,fp,C,s,H),he0 (z,fp,C,s,H)⟩) (hs z),fun C G σ H env n R Q hK hT S hp k=>?_⟩;refine i2 C G σ H env n _ _ hK hT S hp fun xs env1 n1 J H1 p1 S1 f1 hJ=>?_;intro D hD;have hDM:=S1.fresh hD;refine b3f (G:=G) hg ht he hJ p1.1 hD (hT▸hK▸a5K S1 cs) p1.2 fun ys n2 us H' rr hpots hk eD ry=>?_
 -- the heap without D
 have nD:∀b o,H1 b=some o->b≠D:=fun b o e z=>by rw [z,hD] at e;cases e
 have hD0:C.H0 D=none:=by
   cases z:C.H0 D with
   | none=>rfl
   | some o =>
     by_cases hp:D∈C.pots0
     · exact absurd (S1.sup D (S1.p0.1 D hp)) hDM
     · have:=S1.frame D o hp z;rw [hD] at this;cases this
 have hk2:∀b o,b∉G.pots->H1 b=some o->cutH H' D b=some o:=fun b o hb e=>by rw [a0V (nD b o e)];exact hk b o hb e
 have nc:∀b,b∉D::G.M->b≠D:=fun b hb z=>hb (by rw [z];exact x0h);have np:∀p∈G.pots,p≠D:=fun p hp z=>hDM (z▸(S1.pots p hp).1)
 have Sb:SR C G σ (cutH H' D) env1 n2:=S1.call hk2 fun p hp=>by
   subst hT;have h2:=C.T.keep (hpots p hp) (H':=cutH H' D) (a0V (np p hp)) fun b o hb e=>by rw [a0V (nc b hb)];exact e
   exact C.T.more h2 fun a ha=>.inl (x0d _ ha)
 have:=k ys env1 n2 D us (cutH H' D) rr Sb (f1.trans fun b o hb e=>hk2 b o (fun z=>hb (S1.pots b z).1) e) (by unfold cutH;rw [if_pos rfl]) ?_
 · rw [a3O eD] at this;exact this
 · exact Reps.mono (G:=⟨D::G.M,G.pots⟩) (fun b o hb e=>by rw [a0V (nc b hb)];exact e) (fun a ha=>.inl (x0d _ ha)) (fun _ _ e=>e) _ _ ry
end
end Pu
end
section
namespace Pu
open PySem PySem.Spec L2
structure a5P where
 nx:Env->Nat->Prop
 rt:PV->Nat->Prop
 bk:Env->Nat->Prop:=fun _ _=>False
 ct:Env->Nat->Prop:=fun _ _=>False
abbrev pS:=a5P->Env->Nat->Prop
structure Ext (G:Gh)(H:Hp)(G':Gh)(H':Hp):Prop where
 keep:∀b o,b∉G.M->H b=some o->H' b=some o
 new:∀a∈G'.M,a∈G.M\/H a=none
 pot:∀(k:Nat) (p:Addr),G.pots[k]?=some p->G'.pots[k]?=some p
theorem Ext.refl {G:Gh}{H:Hp}:Ext G H G H:=⟨fun _ _ _ e=>e,fun _ h=>.inl h,fun _ _ e=>e⟩
theorem Ext.fr {G:Gh}{H H':Hp}(f:Fr G H H'):Ext G H G H':=⟨f,fun _ h=>.inl h,fun _ _ e=>e⟩
theorem Ext.trans {G G1 G2:Gh}{H H1 H2:Hp}(a:Ext G H G1 H1)(b:Ext G1 H1 G2 H2):Ext G H G2 H2 where
 keep c o hc e:=b.keep c o (fun z=>(a.new c z).elim hc fun z=>by rw [z] at e;cases e) (a.keep c o hc e)
 new c hc:=(b.new c hc).elim (fun z=>a.new c z) fun z=>by
   by_cases hM:c∈G.M
   · exact .inl hM
   · refine .inr ?_;cases e:H c with
     | none=>rfl
     | some o=>rw [a.keep c o hM e] at z;cases z
 pot k p e:=b.pot k p (a.pot k p e)
structure Link (C:Ct)(G:Gh)(H:Hp)(PD:a5P)(D:Ends):Prop where
 nx:∀env n G' σ H',PD.nx env n->SR C G' σ H' env n->Ext G H G' H'->D.nx σ H'
 rt:∀x n v G' σ H' env,PD.rt x n->SR C G' σ H' env n->Rep C.K ⟨C.M0,G'.pots⟩ H' x v->Ext G H G' H'->D.rt v H'
 bk:∀env n G' σ H',PD.bk env n->SR C G' σ H' env n->Ext G H G' H'->D.bk σ H'
 ct:∀env n G' σ H',PD.ct env n->SR C G' σ H' env n->Ext G H G' H'->D.ct σ H'
theorem Link.ext {C:Ct}{G G':Gh}{H H':Hp}{PD:a5P}{D:Ends}(L:Link C G H PD D)(x:Ext G H G' H'):Link C G' H' PD D:=
 ⟨fun env n G2 σ H2 p S e=>L.nx env n G2 σ H2 p S (x.trans e),fun y n v G2 σ H2 env p S r e=>L.rt y n v G2 σ H2 env p S r (x.trans e),fun env n G2 σ H2 p S e=>L.bk env n G2 σ H2 p S (x.trans e),fun env n G2 σ H2 p S e=>L.ct env n G2 σ H2 p S (x.trans e)⟩
def SOk (K:x0a)(T:PotK)(np:Bool)(t:TS)(ps:pS):Prop:=∀(C:Ct) (G:Gh) (σ:St) (H:Hp) (env:Env) (n:Nat) (PD:a5P) (D:Ends),C.K=K->C.T=T->C.np=np->SR C G σ H env n->ps PD env n->Link C G H PD D->t D σ H
def QS {ι:Type}(T:PotK)(np:Bool)(K:x0a)(F:ι->Cx)(st:Stmt)(ps:pS):Prop:=∃t,(∀z,PS (F z) st t)/\SOk K T np t ps
def QSs {ι:Type}(T:PotK)(np:Bool)(K:x0a)(F:ι->Cx)(st:List Stmt)(ps:pS):Prop:=∃t,(∀z,PSs (F z) st t)/\SOk K T np t ps
theorem SR.out {C:Ct}{G:Gh}{σ:St}{H:Hp}{env:Env}{n:Nat}(S:SR C G σ H env n){x:PV}{v:V}(r:Rep C.K G H x v):Rep C.K ⟨C.M0,G.pots⟩ H x v:=
 Rep.mono (G':=⟨C.M0,G.pots⟩) (fun _ _ _ e=>e) (fun a ha=>.inl (S.sup a ha)) (fun _ _ e=>e) _ _ r
theorem SR.old {C:Ct}{G:Gh}{σ:St}{H:Hp}{env:Env}{n:Nat}(S:SR C G σ H env n){a:Addr}(h:H a=none):C.H0 a=none:=by
 cases z:C.H0 a with
 | none=>rfl
 | some o =>
   by_cases hp:a∈C.pots0
   · exact absurd (S.sup a (S.p0.1 a hp)) (S.fresh h)
   · have:=S.frame a o hp z;rw [h] at this;cases this
theorem SR.moreO {C:Ct}{G:Gh}{σ:St}{H:Hp}{env:Env}{n:Nat}(S:SR C G σ H env n){a:Addr}{ob:HO}(mo:MutO ob)(h:H a=none):SR C ⟨a::G.M,G.pots⟩ σ (upd H a ob) env n where
 frame b o hb e:=Same.lay1 h b o (S.frame b o hb e)
 sub b hb:=(x0s.mp hb).elim (fun z=>.inr (z▸S.old h)) (S.sub b)
 sup b hb:=x0d _ (S.sup b hb)
 pots p hp:=⟨x0d _ (S.pots p hp).1,by
   have h1:=C.T.more (M':=a::G.M) (S.pots p hp).2 (fun c hc=>(x0s.mp hc).elim (fun z=>.inr (z▸h)) .inl);obtain⟨o,e,_⟩:=C.T.mu h1
   exact C.T.keep h1 (by rw [e,Same.lay1 h p o e]) fun b o _ e=>Same.lay1 h b o e⟩
 pre:=S.pre
 mu b hb:=by
   rcases x0s.mp hb with rfl | hb
   · exact⟨_,a0j,mo⟩
   · obtain⟨o,e,m⟩:=S.mu b hb;exact⟨o,Same.lay1 h b o e,m⟩
 slots i s e:=by
   have mm:∀{x:PV} {v:V},Rep C.K G H x v->Rep C.K ⟨a::G.M,G.pots⟩ (upd H a ob) x v:=fun r=>Rep.mono (G':=⟨a::G.M,G.pots⟩) (H':=upd H a ob) (fun b o _ e=>Same.lay1 h b o e) (fun c hc=>(x0s.mp (show c∈a::G.M from hc)).elim (fun z=>.inr (z▸h)) .inl) (fun _ _ e=>e) _ _ r;have:=S.slots i s e;cases s with
   | v x =>
     obtain⟨v,e1,r⟩:=this;exact⟨v,e1,mm r⟩
   | ow kk xs =>
     obtain⟨b,us,e1,h1,h2,h3,h4,r⟩:=this;exact⟨b,us,e1,x0d _ h1,h2,h3,Same.lay1 h _ _ h4,Reps.mono (G':=⟨a::G.M,G.pots⟩) (H':=upd H a ob) (fun b o _ e=>Same.lay1 h b o e) (fun c hc=>(x0s.mp (show c∈a::G.M from hc)).elim (fun z=>.inr (z▸h)) .inl) (fun _ _ e=>e) _ _ r⟩
 inj:=S.inj
 p0:=S.p0
 len:=S.len
 newp:=S.newp
theorem SR.more {C:Ct}{G:Gh}{σ:St}{H:Hp}{env:Env}{n:Nat}(S:SR C G σ H env n){a:Addr}{vs:List V}(h:H a=none):SR C ⟨a::G.M,G.pots⟩ σ (upd H a (.lst vs)) env n:=S.moreO (ob:=.lst vs) trivial h
theorem SR.ow {C:Ct}{G:Gh}{σ:St}{H:Hp}{env:Env}{n:Nat}(S:SR C G σ H env n)(i:Nat)(kk:OK){a:Addr}{xs:List PV}{vs:List V}(h:H a=none)(r:Reps C.K G H xs vs) :
   SR C ⟨a::G.M,G.pots⟩ (σ.set i (some (.ref a))) (upd H a (mkO kk vs)) (env.set i (some (.ow kk xs))) n:=by
 have S1:=S.moreO (a5x kk vs) h;have aM:a∉G.M:=S.fresh h;have r1:Reps C.K ⟨a::G.M,G.pots⟩ (upd H a (mkO kk vs)) xs vs:=Reps.mono (G':=⟨a::G.M,G.pots⟩) (H':=upd H a (mkO kk vs)) (fun b o _ e=>Same.lay1 h b o e) (fun c hc=>(x0s.mp (show c∈a::G.M from hc)).elim (fun z=>.inr (z▸h)) .inl) (fun _ _ e=>e) _ _ r
 have other:∀(j:Nat) (ys:OK×List PV),env[j]?=some (some (Slot.ow ys.1 ys.2))->σ[j]?≠some (some (.ref a)):=by
   intro j ys e z;obtain⟨b,us,e1,h1,_⟩:=S.slots j _ e;rw [z] at e1;cases e1;exact aM h1
 exact {
   frame:=S1.frame
   sub:=S1.sub
   sup:=S1.sup
   pots:=S1.pots
   pre:=S1.pre
   mu:=S1.mu
   slots:=fun j s e=>by
     by_cases hj:i=j
     · subst hj
       by_cases hl:i < env.length
       · rw [x0o hl] at e;cases e;exact⟨a,vs,by rw [x0o (by rw [<- S.len];exact hl)],x0h,fun z=>aM (S.sup a z),fun z=>aM (S.pots a z).1,a0j,r1⟩
       · rw [x0w (by rw [x0x];omega)] at e;cases e
     · rw [x0t hj] at e ⊢;exact S1.slots j s e
   inj:=fun j k xs' ys b e1 e2 e3 e4=>by
     by_cases hj:i=j
     · by_cases hk:i=k
       · omega
       · subst hj;rw [x0t hk] at e2 e4
         by_cases hl:i < σ.length
         · rw [x0o hl] at e3;cases e3;exact absurd e4 (other k ys e2)
         · rw [x0w (by rw [x0x];omega)] at e3;cases e3
     · rw [x0t hj] at e1 e3
       by_cases hk:i=k
       · subst hk
         by_cases hl:i < σ.length
         · rw [x0o hl] at e4;cases e4;exact absurd e3 (other j xs' e1)
         · rw [x0w (by rw [x0x];omega)] at e4;cases e4
       · rw [x0t hk] at e2 e4;exact S.inj j k xs' ys b e1 e2 e3 e4
   p0:=S.p0
   len:=by rw [x0x,x0x];exact S.len
   newp:=S.newp }
theorem SR.own {C:Ct}{G:Gh}{σ:St}{H:Hp}{env:Env}{n:Nat}(S:SR C G σ H env n)(i:Nat){a:Addr}{xs:List PV}{vs:List V}(h:H a=none)(r:Reps C.K G H xs vs) :
   SR C ⟨a::G.M,G.pots⟩ (σ.set i (some (.ref a))) (upd H a (.lst vs)) (env.set i (some (.ow .lst xs))) n:=S.ow i .lst h r
theorem SR.putO {C:Ct}{G:Gh}{σ:St}{H:Hp}{env:Env}{n:Nat}(S:SR C G σ H env n){i:Nat}{kk:OK}(k':OK){a:Addr}{xs ys:List PV}{vs:List V}(e:env[i]?=some (some (.ow kk xs)))(ea:σ[i]?=some (some (.ref a)))(r:Reps C.K G H ys vs) :
   SR C G σ (upd H a (mkO k' vs)) (env.set i (some (.ow k' ys))) n/\Fr G H (upd H a (mkO k' vs)):=by
 obtain⟨a',us,ea',aM,a0,ap,eH,_⟩:=S.slots i _ e;rw [ea] at ea';cases ea';have f:Fr G H (upd H a (mkO k' vs)):=fun b o hb he=>by rw [a0f (fun z=>hb (by rw [z];exact aM))];exact he
 refine⟨{
   frame:=fun b o hb he=>?_
   sub:=S.sub
   sup:=S.sup
   pots:=fun p hp=>⟨(S.pots p hp).1,C.T.keep (S.pots p hp).2 (a0f fun z=>ap (by rw [<- z];exact hp)) f⟩
   pre:=S.pre
   mu:=fun b hb=>?_
   slots:=fun j s es=>?_
   inj:=fun j k xs' ys' b e1 e2 e3 e4=>?_
   p0:=S.p0
   len:=by rw [x0x];exact S.len
   newp:=S.newp },f⟩
 · have hb2:b≠a:=fun z=>by
     rcases S.sub a aM with z2 | z2
     · exact a0 z2
     · rw [z,z2] at he;cases he
   rw [a0f hb2];exact S.frame b o hb he
 · by_cases hba:b=a
   · subst hba;exact⟨_,a0j,a5x k' vs⟩
   · obtain⟨o,he,m⟩:=S.mu b hb;exact⟨o,by rw [a0f hba];exact he,m⟩
 · by_cases hj:i=j
   · subst hj;have hl:i < env.length:=(x0k.mp e).1;rw [x0o hl] at es;cases es;exact⟨a,vs,ea,aM,a0,ap,a0j,r.fr f⟩
   · rw [x0t hj] at es;have:=S.slots j s es;cases s with
     | v x =>
       obtain⟨v,e1,r⟩:=this;exact⟨v,e1,r.fr f⟩
     | ow kz zs =>
       obtain⟨b,us',e1,h1,h2,h3,h4,r⟩:=this;have hba:b≠a:=fun z=>hj (S.inj i j (kk,xs) (kz,zs) a e es ea (by rw [e1,z]));exact⟨b,us',e1,h1,h2,h3,by rw [a0f hba];exact h4,r.fr f⟩
 · have back:∀(j:Nat) (zs:OK×List PV),(env.set i (some (.ow k' ys)))[j]?=some (some (Slot.ow zs.1 zs.2))->∃zs':OK×List PV,env[j]?=some (some (.ow zs'.1 zs'.2)):=by
     intro j zs h
     by_cases hj:i=j
     · subst hj;exact⟨(kk,xs),e⟩
     · rw [x0t hj] at h;exact⟨zs,h⟩
   obtain⟨z1,e1'⟩:=back j xs' e1;obtain⟨z2,e2'⟩:=back k ys' e2;exact S.inj j k z1 z2 b e1' e2' e3 e4
theorem SR.put {C:Ct}{G:Gh}{σ:St}{H:Hp}{env:Env}{n:Nat}(S:SR C G σ H env n){i:Nat}{a:Addr}{xs ys:List PV}{vs:List V}(e:env[i]?=some (some (.ow .lst xs)))(ea:σ[i]?=some (some (.ref a)))(r:Reps C.K G H ys vs) :
   SR C G σ (upd H a (.lst vs)) (env.set i (some (.ow .lst ys))) n/\Fr G H (upd H a (.lst vs)):=S.putO .lst e ea r
section
variable {T:PotK}{np:Bool}{ι:Type}{K:x0a}{F:ι->Cx}{e a b c:Expr}{es:List Expr}{st:Stmt}{rest:List Stmt}{pe pa pb pc:pE}{pos:Pos}{pl pr:pA}{pg:pG}{pt:pT}{p1 p2:pS}
def qNx:pS:=fun D env n=>D.nx env n
def qSeq (p q:pS):pS:=fun D env n=>p { D with nx:=fun e m=>q D e m } env n
theorem a0I:QSs T np K F [] qNx:=⟨_,fun _=>a5v,fun C G σ H env n PD D hK hT hn S hp L=>L.nx _ _ _ _ _ hp S Ext.refl⟩
theorem a0k (h:QS T np K F st p1):QSs T np K F [st] p1:=let ⟨t,h1,h2⟩:=h;⟨t,fun z=>a2Z (h1 z),h2⟩
theorem a0g (h:QS T np K F st p1)(h':QSs T np K F rest p2):QSs T np K F (st::rest) (qSeq p1 p2):=by
 obtain⟨t,a1,a2⟩:=h;obtain⟨u,b1,b2⟩:=h';refine⟨_,fun z=>a0R (a1 z) (b1 z),fun C G σ H env n PD D hK hT hn S hp L=>?_⟩;refine a2 C G σ H env n _ _ hK hT hn S hp ⟨fun env1 n1 G1 σ1 H1 q1 S1 x1=>?_,L.rt,L.bk,L.ct⟩;exact b2 C G1 σ1 H1 env1 n1 PD D hK hT hn S1 q1 (L.ext x1)
theorem a0W {X:Cx}{i:Nat}{x:Str}{e:Expr}{pos' pos:Pos}(hN:X.N.Nodup)(hi:X.N[i]?=some x)(hx:Loc X.env.scope x)(hs:x3A e (some (.Name x pos')) pos.line X.env=pure false:=by rfl)(hf:X.fn x=true\/X.env.scope.names.lookup x=some .local:=by first | exact .inl rfl | exact .inr rfl | assumption)(te:TE)(h:EW X e te):SW X (.Assign [.Name x pos'] e pos) (tAsg te (a1I i)):=⟨a3a hN hi hx h.h hs hf⟩
theorem sw_asg {X:Cx}{tg e:Expr}{pos:Pos}(hs:swapsWithSole [tg] e pos.line X.env=pure false:=by rfl)(hw:swappedStores [tg] e X.env=pure none:=by rfl)(h1:(x2w [tg] X.env).map (·.2)=[assign tg X.env]:=by rfl)(te:TE)(g:TG)(h:EW X e te)(hg:GW X tg g):SW X (.Assign [tg] e pos) (tAsg te g):=⟨a6f h.h hg.h hs hw h1⟩
theorem a2U {X:Cx}{e:Expr}{pos:Pos}(hs:x3A e none pos.line X.env=pure false:=by rfl)(te:TE)(h:EW X e te):SW X (.Expr e pos) (b1x te):=⟨b2b h.h hs⟩
def qSet (i:Nat)(pe:pE):pS:=fun D env n=>pe env n fun x env1 n1=>D.nx (env1.set i (some (.v x))) n1
theorem a2I (i:Nat)(h:∀z te,EW (F z) e te->SW (F z) st (tAsg te (a1I i)))(he:QE T K F e pe):QS T np K F st (qSet i pe):=by
 obtain⟨t,a1,a2⟩:=he;refine⟨_,fun z=>(h z _ ⟨a1 z⟩).h,fun C G σ H env n PD D hK hT hn S hp L=>?_⟩;refine a2 C G σ H env n _ _ hK hT S hp fun x env1 n1 v H1 q1 S1 r1 f1=>?_;exact L.nx _ _ _ _ _ q1 (S1.set i (hK▸r1)) (Ext.fr f1)
def qOwn (i:Nat)(pn:pA):pS:=fun D env n=>pn env n fun xs env1 n1=>D.nx (env1.set i (some (.ow .lst xs))) n1
theorem a1A {G:Gh}{H:Hp}{a:Addr}{o:HO}(h:H a=none):Ext G H ⟨a::G.M,G.pots⟩ (upd H a o):=⟨fun b u _ e=>Same.lay1 h b u e,fun c hc=>(x0s.mp (show c∈a::G.M from hc)).elim (fun z=>.inr (z▸h)) .inl,fun _ _ e=>e⟩
theorem a5Y (i:Nat)(h:∀z te,EW (F z) e te->SW (F z) st (tAsg te (a1I i)))(he:QN T K F e pl):QS T np K F st (qOwn i pl):=by
 obtain⟨t,a1,a2⟩:=he;refine⟨_,fun z=>(h z _ ⟨a1 z⟩).h,fun C G σ H env n PD D hK hT hn S hp L=>?_⟩;refine a2 C G σ H env n _ _ hK hT S hp fun xs env1 n1 a vs Hb q1 S1 f1 hn1 r1=>?_;exact L.nx _ _ _ _ _ q1 (S1.own i hn1 (hK▸r1)) ((Ext.fr f1).trans (a1A hn1))
def qAsg (pe:pE)(g:pG):pS:=fun D env n=>pe env n fun x env1 n1=>g x env1 fun env2=>D.nx env2 n1
theorem qs_asg {tg:Expr}(h:∀z te g,EW (F z) e te->GW (F z) tg g->SW (F z) st (tAsg te g))(he:QE T K F e pe)(hg:QG K F tg pg):QS T np K F st (qAsg pe pg):=by
 obtain⟨t,a1,a2⟩:=he;obtain⟨g,b1,b2⟩:=hg;refine⟨_,fun z=>(h z _ _ ⟨a1 z⟩ ⟨b1 z⟩).h,fun C G σ H env n PD D hK hT hn S hp L=>?_⟩;refine a2 C G σ H env n _ _ hK hT S hp fun x env1 n1 v H1 q1 S1 r1 f1=>?_;exact b2 C G σ H1 env1 n1 x v _ _ hK S1 r1 q1 fun env' σ' re S'=>L.nx _ _ _ _ _ re S' (Ext.fr f1)
def a5s (pe:pE):pS:=fun D env n=>pe env n fun _ env1 n1=>D.nx env1 n1
theorem a2Y (h:∀z te,EW (F z) e te->SW (F z) st (b1x te))(he:QE T K F e pe):QS T np K F st (a5s pe):=by
 obtain⟨t,a1,a2⟩:=he;refine⟨_,fun z=>(h z _ ⟨a1 z⟩).h,fun C G σ H env n PD D hK hT hn S hp L=>?_⟩;exact a2 C G σ H env n _ _ hK hT S hp fun x env1 n1 v H1 q1 S1 r1 f1=>L.nx _ _ _ _ _ q1 S1 (Ext.fr f1)
def qRet (pe:pE):pS:=fun D env n=>pe env n fun x _ n1=>D.rt x n1
theorem a0J (he:QE T K F e pe):QS T np K F (.Return (some e) pos) (qRet pe):=by
 obtain⟨t,a1,a2⟩:=he;refine⟨_,fun z=>a4K (a1 z),fun C G σ H env n PD D hK hT hn S hp L=>?_⟩;exact a2 C G σ H env n _ _ hK hT S hp fun x env1 n1 v H1 q1 S1 r1 f1=>L.rt _ _ _ _ _ _ _ q1 S1 (S1.out (hK▸r1)) (Ext.fr f1)
def a9H (i:Nat):pS:=fun D env n=>match env[i]? with | some (some (.ow .lst xs))=>D.rt (.lst xs) n | _=>False
theorem b1N (i:Nat){x:Str}{p:Pos}(h:∀z,EW (F z) (.Name x p) (tVar i)):QS T np K F (.Return (some (.Name x p)) pos) (a9H i):=by
 refine⟨_,fun z=>a4K (h z).h,fun C G σ H env n PD D hK hT hn S hp L=>?_⟩;unfold a9H at hp
 split at hp
 · rename_i xs ex;obtain⟨a,vs,ev,h1,h2,h3,h4,r⟩:=S.slots i _ ex;refine⟨.ref a,ev,L.rt _ _ _ _ _ _ _ hp S ⟨a,vs,rfl,⟨h2,h4⟩,?_⟩ Ext.refl⟩;exact Reps.mono (G':=⟨C.M0,G.pots⟩) (fun _ _ _ e=>e) (fun a ha=>.inl (S.sup a ha)) (fun _ _ e=>e) _ _ r
 · exact hp.elim
def qIfS (t:pT)(p q:pS):pS:=fun D env n=>t env n fun b env1 n1=>if b=true then p D env1 n1 else q D env1 n1
theorem a1Z {x y:List Stmt}(hc:QT T K F c pt)(h1:QSs T np K F x p1)(h2:QSs T np K F y p2):QS T np K F (.If c x y pos) (qIfS pt p1 p2):=by
 obtain⟨tc,c1,c2⟩:=hc;obtain⟨t,a1,a2⟩:=h1;obtain⟨u,b1,b2⟩:=h2;refine⟨_,fun z=>b2a (c1 z) (a1 z) (b1 z),fun C G σ H env n PD D hK hT hn S hp L=>?_⟩;refine c2 C G σ H env n _ _ hK hT S hp fun d env1 n1 H1 q1 S1 f1=>?_;cases d with
 | true=>exact a2 C G σ H1 env1 n1 PD D hK hT hn S1 q1 (L.ext (Ext.fr f1))
 | false=>exact b2 C G σ H1 env1 n1 PD D hK hT hn S1 q1 (L.ext (Ext.fr f1))
def forL (g:pG)(b:pS)(D:a5P):List PV->Env->Nat->Prop
 | [],env,n=>D.nx env n
 | x::xs,env,n=>g x env fun env1=>b { D with nx:=fun e m=>forL g b D xs e m,ct:=fun e m=>forL g b D xs e m,bk:=D.nx } env1 n
def qFor (pi:pA)(g:pG)(b:pS):pS:=fun D env n=>pi env n fun xs env1 n1=>forL g b D xs env1 n1
theorem a2b {tg iter:Expr}{body:List Stmt}(hc:∀z,(F z).calm=true)(hi:QI T K F tg iter pl)(hg:QG K F tg pg)(hb:QSs T np K F body p1)(hp:∀z,PassesOwn (model (F z).prog (F z).w) (F z).A (F z).env (F z).xe:=by intro _;exact PassesOwn.never)(hs:∀z x,x0O iter (F z).env x=pure x:=by intro _ _;rfl):QS T np K F (.For tg iter body [] pos) (qFor pl pg p1):=by
 obtain⟨wi,i1,i2⟩:=hi;obtain⟨g,g1,g2⟩:=hg;obtain⟨t,b1,b2⟩:=hb;refine⟨_,fun z=>b0S (hp z) (hc z) (i1 z) (g1 z) (b1 z) (hs z),fun C G σ H env n PD D hK hT hn S hp L=>?_⟩;refine i2 C G σ H env n _ _ hK hT S hp fun xs env1 n1 J H1 q1 S1 f1 hJ=>?_;have L1:=L.ext (Ext.fr f1);refine⟨fun i m σ H=>m=xs.length - i/\i<=xs.length/\∃G' env n,SR C G' σ H env n/\Ext G H1 G' H/\forL pg p1 PD (xs.drop i) env n,⟨xs.length,by simp,x1z _,G,env1,n1,S1,Ext.refl,by simpa using q1⟩,?_⟩;rintro i m σ' H' ⟨rfl,hi,G',env',n',S',x',q'⟩;have hf:∀p,H' p=none->p∉G'.M:=fun p hp=>S'.fresh hp;obtain⟨hgo,hstop⟩:=hJ G' H' x'.keep x'.new x'.pot hf
 by_cases hlt:i < xs.length
 · obtain⟨go1,go2⟩:=hgo i _ (x0f hlt);rw [x1H hlt] at q';refine .inr ⟨go1,fun σ H=>∃G' env n,SR C G' σ H env n/\Ext G H1 G' H/\forL pg p1 PD (xs.drop (i + 1)) env n,fun σ2 H2 h2=>⟨xs.length - (i + 1),by omega,rfl,hlt,h2⟩,fun v H2 y=>?_⟩;obtain⟨s2,rv⟩:=go2 v H2 y;have x2:Ext G' H' G' H2:=Ext.fr (Fr.of s2);refine g2 C G' σ' H2 env' n' _ v _ _ hK (S'.same s2) rv q' fun env2 σ2 q2 S2=>?_;refine b2 C G' σ2 H2 env2 n' _ _ hK hT hn S2 q2 ⟨fun e3 n3 G3 σ3 H3 q3 S3 x3=>?_,fun y n3 v G3 σ3 H3 e3 q3 S3 r3 x3=>?_,fun e3 n3 G3 σ3 H3 q3 S3 x3=>?_,fun e3 n3 G3 σ3 H3 q3 S3 x3=>?_⟩
   · exact⟨G3,e3,n3,S3,(x'.trans x2).trans x3,q3⟩
   · exact L1.rt _ _ _ _ _ _ _ q3 S3 r3 ((x'.trans x2).trans x3)
   · exact L1.nx _ _ _ _ _ q3 S3 ((x'.trans x2).trans x3)
   · exact⟨G3,e3,n3,S3,(x'.trans x2).trans x3,q3⟩
 · have ei:i=xs.length:=by omega
   subst ei;rw [x2M] at q';exact .inl ⟨hstop _ (x0m _),L1.nx _ _ _ _ _ q' S' x'⟩
def a5t (i:Nat)(pe:pE):pE:=fun env n R=>pe env n fun y env1 n1=>match env1[i]? with | some (some (.ow .lst xs))=>xs.length < 1000000/\R .non (env1.set i (some (.ow .lst (xs++[y])))) n1 | _=>False
theorem a1N (i:Nat){x:Str}{p ap:Pos}(hv:∀z,EW (F z) (.Name x p) (tVar i))(he:QE T K F e pe)(hs:a0w e=true:=by rfl)(hbase:∀z,attributeBase (.Name x p) "append" (F z).env (eval (.Name x p) (F z).env)=eval (.Name x p) (F z).env:=by intro _;rfl)(hline:(ap.endLine == pos.line)=true:=by rfl)
   (hfew:∀z,((backTo pos (x0T [e] (F z).env)).all (fun x=>!x.1) && (backToKw pos (keywordEach [] (F z).env)).all (fun x=>x.1.isSome) && decide (([e]:List Expr).length + ([]:List Keyword).length + (if([]:List Keyword).isEmpty then 0 else 1) < 30))=true:=by intro _;rfl) (hK:∀z,(F z).K=K:=by intro _;rfl):QE T K F (.Call (.Attribute (.Name x p) "append" ap) [e] [] pos) (fun env n R=>(∃xs,env[i]?=some (some (.ow .lst xs)))/\a5t i pe env n R):=by
 obtain⟨t,a1,a2⟩:=he;refine⟨tBM K "list" a7O (tVar i) (a4z t tNil),fun z=>hK z▸pe_bm PySem.F.plainAttrs_list PySem.F.slot_list_append PySem.F.type_list_append a3g (hv z).h (a0o (a1 z) a0M (a0c hs)) (hbase z) (hfew z) hline (a0c hs),fun C G σ H env n R Q hK hT S hp k=>?_⟩;obtain⟨⟨xs0,e0⟩,hp⟩:=hp;obtain⟨a,vs,ev,h1,h2,h3,h4,r⟩:=S.slots i _ e0;refine⟨.ref a,ev,.inl ⟨rfl,vs,SqL.of h4⟩,?_⟩;refine a2 C G σ H env n _ _ hK hT S hp fun y env1 n1 v H1 q1 S1 r1 f1=>?_
 split at q1
 · rename_i xs ex;obtain⟨a',us,ev',g1,g2,g3,g4,r'⟩:=S1.slots i _ ex;rw [ev] at ev';cases ev';subst hK;obtain⟨S2,f2⟩:=S1.put ex ev (r'.append (.one r1));exact⟨a,us,v,rfl,rfl,g4,by rw [<- r'.length];exact mil' (by omega),k _ _ _ _ _ q1.2 S2 rfl (f1.trans f2)⟩
 · exact q1.elim
end
end Pu
end
section
namespace Pu
open PySem PySem.Spec L2
abbrev pSl:=Env->Nat->(Slot->Env->Nat->Prop)->Prop
def a9j (σ:St)(env:Env)(a:Addr):Prop:=∃(j:Nat) (ys:OK×List PV),env[j]?=some (some (.ow ys.1 ys.2))/\σ[j]?=some (some (.ref a))
theorem SR.slot {C:Ct}{G:Gh}{σ:St}{H:Hp}{env:Env}{n:Nat}(S:SR C G σ H env n)(i:Nat){s:Slot}{v:V}(r:b3q C G H (some (some v)) s)(h:∀(xs:OK×List PV) a,s=.ow xs.1 xs.2->v=.ref a->¬a9j σ env a):SR C G (σ.set i (some v)) H (env.set i (some s)) n where
 frame:=S.frame
 sub:=S.sub
 sup:=S.sup
 pots:=S.pots
 pre:=S.pre
 mu:=S.mu
 slots j t e:=by
   by_cases hj:i=j
   · subst hj
     by_cases hl:i < env.length
     · rw [x0o hl] at e;cases e;rw [x0o (by rw [<- S.len];exact hl)];exact r
     · rw [x0w (by rw [x0x];omega)] at e;cases e
   · rw [x0t hj] at e ⊢;exact S.slots j t e
 inj j k xs ys b e1 e2 e3 e4:=by
   by_cases hj:i=j
   · by_cases hk:i=k
     · omega
     · subst hj;rw [x0t hk] at e2 e4
       by_cases hl:i < env.length
       · rw [x0o hl] at e1;rw [x0o (by rw [<- S.len];exact hl)] at e3;cases e1;cases e3;exact absurd ⟨k,ys,e2,e4⟩ (h xs b rfl rfl)
       · rw [x0w (by rw [x0x];omega)] at e1;cases e1
   · rw [x0t hj] at e1 e3
     by_cases hk:i=k
     · subst hk
       by_cases hl:i < env.length
       · rw [x0o hl] at e2;rw [x0o (by rw [<- S.len];exact hl)] at e4;cases e2;cases e4;exact absurd ⟨j,xs,e1,e3⟩ (h ys b rfl rfl)
       · rw [x0w (by rw [x0x];omega)] at e2;cases e2
     · rw [x0t hk] at e2 e4;exact S.inj j k xs ys b e1 e2 e3 e4
 p0:=S.p0
 len:=by rw [x0x,x0x];exact S.len
 newp:=S.newp
def Ct.guard (C:Ct)(a:Addr)(vs:List V):Ct:={ C with M0:=a::C.M0,H0:=upd C.H0 a (.lst vs) }
theorem SR.guard {C:Ct}{G:Gh}{σ:St}{H:Hp}{env:Env}{n:Nat}(S:SR C G σ H env n){a:Addr}(vs:List V)(h:H a=none):SR (C.guard a vs) ⟨a::G.M,G.pots⟩ σ (upd H a (.lst vs)) env n:=by
 have S1:=S.more (vs:=vs) h;have aM:=S.fresh h
 exact {
   frame:=fun b o hb e=>by
     by_cases hba:b=a
     · subst hba;have e':upd C.H0 b (.lst vs) b=some o:=e;rw [a0j] at e' ⊢;exact e'
     · have e':upd C.H0 a (.lst vs) b=some o:=e;rw [a0f hba] at e';exact S1.frame b o hb e'
   sub:=fun b hb=>by
     by_cases hba:b=a
     · exact .inl (by rw [hba];exact x0h)
     · rcases S1.sub b hb with z | z
       · exact .inl (x0d _ z)
       · refine .inr ?_;show upd C.H0 a (.lst vs) b=none;rw [a0f hba];exact z
   sup:=fun b hb=>by
     rcases x0s.mp (show b∈a::C.M0 from hb) with rfl | z
     · exact x0h
     · exact S1.sup b z
   pots:=S1.pots
   pre:=S1.pre
   mu:=S1.mu
   slots:=fun i s e=>by
     cases s with
     | v x =>
       obtain⟨v,ev,r⟩:=S1.slots i _ e;exact⟨v,ev,r⟩
     | ow kk xs =>
       obtain⟨b,us,ev,h1,h2,h3,h4,r⟩:=S1.slots i _ e;obtain⟨b',us',ev',g1,_⟩:=S.slots i _ e;rw [ev] at ev';cases ev';refine⟨b,us,ev,h1,fun z=>?_,h3,h4,r⟩;rcases x0s.mp (show b∈a::C.M0 from z) with rfl | z
       · exact aM g1
       · exact h2 z
   inj:=S1.inj
   p0:=⟨fun p hp=>x0d _ (S1.p0.1 p hp),S1.p0.2⟩
   len:=S1.len
   newp:=fun p hp hn hM=>by
     rcases x0s.mp (show p∈a::C.M0 from hM) with rfl | z
     · exact aM (S.pots p hp).1
     · exact S1.newp p hp hn z }
theorem SR.unguard {C:Ct}{G:Gh}{σ:St}{H:Hp}{env:Env}{n:Nat}{a:Addr}{vs:List V}(S:SR (C.guard a vs) G σ H env n)(ha:a∉C.M0)(hp0:∀p∈C.pots0,p∈C.M0)(h0:C.H0 a=none):SR C G σ H env n/\H a=some (.lst vs)/\¬a9j σ env a:=by
 have hap:a∉C.pots0:=fun z=>ha (hp0 a z)
 refine⟨{
   frame:=fun b o hb e=>S.frame b o hb (by
     show upd C.H0 a (.lst vs) b=some o
     rw [a0f (fun z=>by rw [z,h0] at e;cases e)];exact e)
   sub:=fun b hb=>by
     by_cases hba:b=a
     · exact .inr (hba▸h0)
     · rcases S.sub b hb with z | z
       · rcases x0s.mp (show b∈a::C.M0 from z) with z | z
         · exact absurd z hba
         · exact .inl z
       · have z':upd C.H0 a (.lst vs) b=none:=z;rw [a0f hba] at z';exact .inr z'
   sup:=fun b hb=>S.sup b (x0d _ hb)
   pots:=S.pots
   pre:=S.pre
   mu:=S.mu
   slots:=fun i s e=>by
     cases s with
     | v x =>
       obtain⟨v,ev,r⟩:=S.slots i _ e;exact⟨v,ev,r⟩
     | ow kk xs =>
       obtain⟨b,us,ev,h1,h2,h3,h4,r⟩:=S.slots i _ e;exact⟨b,us,ev,h1,fun z=>h2 (x0d _ z),h3,h4,r⟩
   inj:=S.inj
   p0:=⟨hp0,S.p0.2⟩
   len:=S.len
   newp:=fun p hp hn hM=>S.newp p hp hn (x0d _ hM) },S.frame a _ hap a0j,?_⟩
 rintro⟨j,ys,e1,e2⟩;obtain⟨b,us,ev,h1,h2,_⟩:=S.slots j _ e1;rw [e2] at ev;cases ev;exact h2 x0h
def LOk (K:x0a)(T:PotK)(t:TE)(pl:pSl):Prop:=∀(C:Ct) (G:Gh) (σ:St) (H:Hp) (env:Env) (n:Nat) (R:Slot->Env->Nat->Prop) (Q:VK),C.K=K->C.T=T->SR C G σ H env n->pl env n R->
 (∀x env' n' v H',R (.v x) env' n'->SR C G σ H' env' n'->Rep K G H' x v->Fr G H H'->Q v H')->
 (∀xs env' n' a vs Hb,R (.ow .lst xs) env' n'->SR C G σ Hb env' n'->Fr G H Hb->Hb a=none->Reps K G Hb xs vs->Q (.ref a) (upd Hb a (.lst vs)))->t σ H Q
def QL {ι:Type}(T:PotK)(K:x0a)(F:ι->Cx)(e:Expr)(pl:pSl):Prop:=∃t,(∀z,PE (F z) e t)/\LOk K T t pl
def sV (pe:pE):pSl:=fun env n R=>pe env n fun x env1 n1=>R (.v x) env1 n1
def sO (pn:pA):pSl:=fun env n R=>pn env n fun xs env1 n1=>R (.ow .lst xs) env1 n1
section
variable {T:PotK}{np:Bool}{ι:Type}{K:x0a}{F:ι->Cx}{e a b c:Expr}{es:List Expr}{st:Stmt}{rest:List Stmt}{pe pa pb pc:pE}{pos:Pos}{pl pr:pA}{pg:pG}{pt:pT}{p1 p2:pS}{s1 s2 s3:pSl}
theorem ql_v (h:QE T K F e pe):QL T K F e (sV pe):=let ⟨t,h1,h2⟩:=h;⟨t,h1,fun C G σ H env n R Q hK hT S hp k _=>h2 C G σ H env n _ _ hK hT S hp fun x env' n' v H' r S' rp f=>k x env' n' v H' r S' rp f⟩
theorem ql_o (h:QN T K F e pl):QL T K F e (sO pl):=let ⟨t,h1,h2⟩:=h;⟨t,h1,fun C G σ H env n R Q hK hT S hp _ k=>h2 C G σ H env n _ _ hK hT S hp fun xs env' n' a vs Hb r S' f hn rs=>k xs env' n' a vs Hb r S' f hn rs⟩
def Got (C:Ct)(G:Gh)(H:Hp)(σ:St)(env:Env)(s:Slot)(v:V):Prop:=b3q C G H (some (some v)) s/\∀(xs:OK×List PV) a,s=.ow xs.1 xs.2->v=.ref a->¬a9j σ env a
theorem a6p {t:TE}{C:Ct}{G:Gh}{σ:St}{H:Hp}{env:Env}{n:Nat}{R:Slot->Env->Nat->Prop}{Q:VK}(h:LOk K T t s1)(hK:C.K=K)(hT:C.T=T)(S:SR C G σ H env n)(hp:s1 env n R)
   (k:∀s env' n' v G' H',R s env' n'->SR C G' σ H' env' n'->Ext G H G' H'->Got C G' H' σ env' s v->Q v H'):t σ H Q:=by
 refine h C G σ H env n _ _ hK hT S hp (fun x env' n' v H' r S' rp f=>?_) fun xs env' n' a vs Hb r S' f hn rs=>?_
 · exact k _ _ _ _ _ _ r S' (Ext.fr f) ⟨⟨v,rfl,hK▸rp⟩,fun _ _ z=>nomatch z⟩
 · have aM:=S'.fresh hn;have S1:=S'.more (vs:=vs) hn;refine k _ _ _ _ _ _ r S1 ((Ext.fr f).trans (a1A hn)) ⟨⟨a,vs,rfl,x0h,fun z=>aM (S'.sup a z),fun z=>aM (S'.pots a z).1,a0j,?_⟩,fun ys b e1 e2=>?_⟩
   · exact Reps.mono (G':=⟨a::G.M,G.pots⟩) (H':=upd Hb a (.lst vs)) (fun b o _ e=>Same.lay1 hn b o e) (fun c hc=>(x0s.mp (show c∈a::G.M from hc)).elim (fun z=>.inr (z▸hn)) .inl) (fun _ _ e=>e) _ _ (hK▸rs)
   · cases e2;rintro⟨j,zs,z1,z2⟩;obtain⟨b,us,ev,g1,_⟩:=S'.slots j _ z1;rw [z2] at ev;cases ev;exact aM g1
theorem b2V {t u:TE}{C:Ct}{G:Gh}{σ:St}{H:Hp}{env:Env}{n:Nat}{R:Slot->Slot->Env->Nat->Prop}{Q:V->V->Hp->Prop}(h:LOk K T t s1)(h':LOk K T u s2)(hK:C.K=K)(hT:C.T=T)(S:SR C G σ H env n)(hp:s1 env n fun x env1 n1=>s2 env1 n1 fun y env2 n2=>R x y env2 n2)
   (k:∀x y env' n' v w G' H',R x y env' n'->SR C G' σ H' env' n'->Ext G H G' H'->Got C G' H' σ env' x v->Got C G' H' σ env' y w->(∀(xs ys:OK×List PV) a,x=.ow xs.1 xs.2->y=.ow ys.1 ys.2->v=.ref a->w≠.ref a)->Q v w H'):t σ H fun v H1=>u σ H1 fun w H2=>Q v w H2:=by
 refine h C G σ H env n _ _ hK hT S hp (fun x env1 n1 v H1 q1 S1 r1 f1=>?_) fun xs env1 n1 a vs Hb q1 S1 f1 hn rs=>?_
 · refine a6p h' hK hT S1 q1 fun y env2 n2 w G2 H2 q2 S2 x2 g2=>?_;exact k _ _ _ _ _ _ _ _ q2 S2 ((Ext.fr f1).trans x2) ⟨⟨v,rfl,Rep.mono x2.keep x2.new x2.pot _ _ (hK▸r1)⟩,fun _ _ z=>nomatch z⟩ g2 (fun _ _ _ z=>nomatch z)
 · have aM:=S1.fresh hn;have S1g:=S1.guard vs hn;have a0:a∉C.M0:=fun z=>aM (S1.sup a z);have aH:=S1.old hn;have x1:Ext G H ⟨a::G.M,G.pots⟩ (upd Hb a (.lst vs)):=(Ext.fr f1).trans (a1A hn);have r1:Reps C.K ⟨a::G.M,G.pots⟩ (upd Hb a (.lst vs)) xs vs:=Reps.mono (G':=⟨a::G.M,G.pots⟩) (H':=upd Hb a (.lst vs)) (fun b o _ e=>Same.lay1 hn b o e) (fun c hc=>(x0s.mp (show c∈a::G.M from hc)).elim (fun z=>.inr (z▸hn)) .inl) (fun _ _ e=>e) _ _ (hK▸rs);refine a6p (C:=C.guard a vs) h' hK hT S1g q1 fun y env2 n2 w G2 H2 q2 S2 x2 g2=>?_;obtain⟨S3,e3,no⟩:=S2.unguard a0 S1.p0.1 aH;have aM2:a∈G2.M:=S2.sup a x0h
   have ap2:a∉G2.pots:=fun z=>by
     by_cases hz:a∈C.pots0
     · exact a0 (S1.p0.1 a hz)
     · exact S2.newp a z hz x0h
   have gy:Got C G2 H2 σ env2 y w:=by
     refine⟨?_,g2.2⟩;cases y with
     | v x=>exact g2.1
     | ow kk ys =>
       obtain⟨b,us,ev,h1,h2,h3,h4,r⟩:=g2.1;exact⟨b,us,ev,h1,fun z=>h2 (x0d _ z),h3,h4,r⟩
   refine k _ _ _ _ _ _ _ _ q2 S3 (x1.trans x2) ⟨⟨a,vs,rfl,aM2,a0,ap2,e3,Reps.mono x2.keep x2.new x2.pot _ _ r1⟩,fun _ _ _ e=>by cases e;exact no⟩ gy fun xs' ys b ex ey ev ew=>?_;subst ey;cases ev;obtain⟨b,us,ev,h1,h2,_⟩:=g2.1;rw [ew] at ev;cases ev;exact h2 x0h
structure AW (X:Cx)(es:List Expr)(t:TA):Prop where
 h:PA X es t
theorem a7E {X:Cx}{i j:Nat}{x y:Str}{a b:Expr}{px py pt:Pos}{kt k2 pt2}{pos:Pos}(hc:X.calm=true)(hN:X.N.Nodup)(hi:X.N[i]?=some x)(hj:X.N[j]?=some y)(hij:i≠j)
   (hx:X.env.scope.names.lookup x=some .local) (hy:X.env.scope.names.lookup y=some .local) (hw:swappedStores [.Tuple [.Name x px,.Name y py] kt pt] (.Tuple [a,b] k2 pt2) X.env=pure (some [x,y]))
   (hs:swapsWithSole [.Tuple [.Name x px,.Name y py] kt pt] (.Tuple [a,b] k2 pt2) pos.line X.env=pure false:=by rfl) (ta:TA) (h:AW X [a,b] ta) :
   SW X (.Assign [.Tuple [.Name x px,.Name y py] kt pt] (.Tuple [a,b] k2 pt2) pos) (tPar i j ta):=⟨ps_par hc hN hi hj hij hx hy h.h hw hs⟩
def qPar (i j:Nat)(s1 s2:pSl):pS:=fun D env n=>s1 env n fun a env1 n1=>s2 env1 n1 fun b env2 n2=>D.nx ((env2.set i (some a)).set j (some b)) n2
theorem a8j {σ:St}{env:Env}{i:Nat}{s:Slot}{v:V}{a:Addr}(hl:env.length=σ.length)(h:a9j (σ.set i (some v)) (env.set i (some s)) a):a9j σ env a\/((∃xs:OK×List PV,s=.ow xs.1 xs.2)/\v=.ref a):=by
 obtain⟨j,ys,e1,e2⟩:=h
 by_cases hj:i=j
 · subst hj
   by_cases hl':i < env.length
   · rw [x0o hl'] at e1;rw [x0o (by omega)] at e2;cases e1;cases e2;exact .inr ⟨⟨_,rfl⟩,rfl⟩
   · rw [x0w (by rw [x0x];omega)] at e1;cases e1
 · rw [x0t hj] at e1 e2;exact .inl ⟨j,ys,e1,e2⟩
theorem a7R (i j:Nat)(h:∀z ta,AW (F z) [a,b] ta->SW (F z) st (tPar i j ta))(h1:QL T K F a s1)(h2:QL T K F b s2)(n1:a0w a=true:=by rfl)(n2:a0w b=true:=by rfl):QS T np K F st (qPar i j s1 s2):=by
 obtain⟨t,a1,a2⟩:=h1;obtain⟨u,b1,b2⟩:=h2;refine⟨_,fun z=>(h z _ ⟨a0o (a1 z) (a0o (b1 z) a0M (a0c n2)) (a0c n1)⟩).h,fun C G σ H env n PD D hK hT hn S hp L=>?_⟩;refine b2V (Q:=fun v w H2=>∃v' w',[v,w]=[v',w']/\D.nx ((σ.set i (some v')).set j (some w')) H2) a2 b2 hK hT S hp fun x y env2 n2 v w G2 H2 q S2 x2 gx gy ne=>?_;refine⟨v,w,rfl,L.nx _ _ _ _ _ q ((S2.slot i gx.1 gx.2).slot j gy.1 fun ys b e1 e2 z=>?_) x2⟩;rcases a8j S2.len z with z | ⟨⟨xs,ex⟩,ev⟩
 · exact gy.2 ys b e1 e2 z
 · exact ne xs ys b ex e1 ev e2
end
end Pu
end
section
namespace Pu
open PySem PySem.Spec L2
def a2m (N:List Str)(xs:List PV):Env:=xs.map (fun x=>some (.v x))++List.replicate (N.length - xs.length) none
def fnP (N ps:List Str)(body:pS):pF:=fun xs n R=>xs.length=ps.length/\body ⟨fun _ m=>R .non m,R,fun _ _=>False,fun _ _=>False⟩ (a2m N xs) n
theorem a5T {K:x0a}{T:PotK}{G:Gh}{H:Hp}{n:Nat}{np:Bool}{N:List Str}{xs:List PV}{vs:List V}(hp:∀p∈G.pots,p∈G.M/\T.at_ G.M H p n)(hm:∀a∈G.M,∃o,H a=some o/\MutO o)(hh:T.has G.pots)(r:Reps K G H xs vs) :
   SR ⟨K,T,G.M,G.pots,H,np⟩ G (L2.start N vs) H (a2m N xs) n where
 frame b o _ e:=e
 sub a ha:=.inl ha
 sup a ha:=ha
 pots:=hp
 pre:=⟨[],by simp,.inl rfl⟩
 mu:=hm
 slots i s e:=by
   unfold a2m at e
   by_cases hi:i < xs.length
   · rw [x0R (by simpa using hi),x0r] at e;cases ex:xs[i]? with
     | none=>rw [ex] at e;cases e
     | some x =>
       rw [ex] at e;cases e;obtain⟨v,ev,rv⟩:=r.get' ex;refine⟨v,?_,rv⟩;unfold L2.start;rw [x0R (by rw [x0g,<- r.length];exact hi),x0r,ev]
       rfl
   · rw [x1B (by simpa using hi),x3c] at e
     split at e <;> cases e
 inj i j xs' ys a e1:=by
   exfalso
   unfold a2m at e1
   by_cases hi:i < xs.length
   · rw [x0R (by simpa using hi),x0r] at e1;cases ex:xs[i]? with
     | none=>rw [ex] at e1;cases e1
     | some x=>rw [ex] at e1;cases e1
   · rw [x1B (by simpa using hi),x3c] at e1
     split at e1 <;> cases e1
 p0:=⟨fun p h=>(hp p h).1,hh⟩
 len:=by unfold a2m L2.start;simp [r.length]
 newp p h hn:=absurd h hn
section
variable {P:x0A}{w:World}{K:x0a}{mg:Str->Option Value}{base:Heap}{T:PotK}
theorem bd1 {P:List Value->Prop}(h:∀a,P [a])(us:List Value)(e:us.length=1):P us:=by
 obtain⟨a,rfl⟩:=List.length_eq_one_iff.mp e;exact h a
theorem bdS {n:Nat}{P:List Value->Prop}(h:∀a us,us.length=n->P (a::us))(us:List Value)(e:us.length=n + 1):P us:=by
 obtain⟨a,us,rfl⟩:=List.exists_cons_of_length_eq_add_one e;exact h a us (Nat.succ.inj e)
theorem bd2 {P:List Value->Prop}(h:∀a b,P [a,b])(us:List Value)(e:us.length=2):P us:=bdS (fun a us e=>bd1 (P:=fun us=>P (a::us)) (h a) us e) us e
theorem bd3 {P:List Value->Prop}(h:∀a b c,P [a,b,c])(us:List Value)(e:us.length=3):P us:=bdS (fun a us e=>bd2 (P:=fun us=>P (a::us)) (h a) us e) us e
theorem bd4 {P:List Value->Prop}(h:∀a b c d,P [a,b,c,d])(us:List Value)(e:us.length=4):P us:=bdS (fun a us e=>bd3 (P:=fun us=>P (a::us)) (h a) us e) us e
theorem a4o {x:Str}{st:Stmt}{N ps:List Str}{k:Nat}{body:pS}(F0:Fn0 K mg x st)(sc:a0D N ps (a0i st))
   (bd:∀(kV doc pm:Value) (an:Option Addr) (cdv ct:Value) (us:List Value),us.length=ps.length->bindArgs (x1Q x x (a1B st) (a0U st) (a0i st) .none kV doc pm an cdv ct) ⟨us,[]⟩=pure (ps.zip us))
   (h:∀(f:Addr) (cdv:Value) (A:Around) (outer:List PySem.Env) (s:Shared) (H:Hp) (E:XK),Room k (A.deeper (PyProof.Rows.envOfC x (a0i st) s.heap.objs.size f cdv))->
     QSs T false K (fun _:Unit=>(cxOf CX0 P w K mg base N x (a0i st) f cdv A outer s H E).nox) (a0U st) body) :
   Kn P w K mg base x (k + 1) ps (a0z K T (fnP N ps body)):=by
 refine F0.ok sc (fun vs H Q E h=>?_) bd (fun f cdv A outer s H vs Q E hr hsp=>?_)
 · obtain⟨G,xs,n,R,_,_,_,r,hf,_⟩:=h;rw [<- r.length];exact hf.1
 · obtain⟨t,h1,h2⟩:=h f cdv A outer s H E hr;obtain⟨G,xs,n,R,hp,hm,hh,r,hf,k'⟩:=hsp;refine⟨t,h1 (),?_⟩;have S0:=a5T (N:=N) (np:=false) hp hm hh r
   have fin:∀(x:PV) (n':Nat) (v:V) (G':Gh) (σ:St) (H':Hp) (env:Env),R x n'->SR ⟨K,T,G.M,G.pots,H,false⟩ G' σ H' env n'->Rep K ⟨G.M,G'.pots⟩ H' x v->Q v H':=by
     intro x n' v G' σ H' env rr S' rv
     have ep:G'.pots=G.pots:=by
       obtain⟨l,el,hl⟩:=S'.pre;rcases hl with hl | hl
       · rw [el,hl,x1x]
       · cases hl
     rw [ep] at rv;exact k' _ _ _ _ rr rv (fun p hp'=>T.more (S'.pots p (by rw [ep];exact hp')).2 fun a ha=>.inl (S'.sup a ha)) S'.frame
   refine h2 _ G _ H _ n _ _ rfl rfl rfl S0 hf.2 ⟨fun env n' G' σ H' q S' _=>?_,fun x n' v G' σ H' env q S' rv _=>fin x n' v G' σ H' env q S' rv,fun _ _ _ _ _ q=>q.elim,fun _ _ _ _ _ q=>q.elim⟩;exact fin .non n' .non G' σ H' env q S' rfl
theorem law_ok {x:Str}{st:Stmt}{N:List Str}{y:Str}{k:Nat}{body:pS}(F0:Fn0 K mg x st)(sc:a0D N [y] (a0i st))
   (bd:∀(kV doc pm:Value) (an:Option Addr) (cdv ct:Value) (us:List Value),us.length=[y].length->bindArgs (x1Q x x (a1B st) (a0U st) (a0i st) .none kV doc pm an cdv ct) ⟨us,[]⟩=pure ([y].zip us))
   (h:∀(f:Addr) (cdv:Value) (A:Around) (outer:List PySem.Env) (s:Shared) (H:Hp) (E:XK),Room k (A.deeper (PyProof.Rows.envOfC x (a0i st) s.heap.objs.size f cdv))->
     QSs T true K (fun _:Unit=>(cxOf CX0 P w K mg base N x (a0i st) f cdv A outer s H E).nox) (a0U st) body)
   (hlaw:∀ns:List Int,ns.length<=63->body ⟨fun _ _=>False,fun r _=>r=.bl true,fun _ _=>False,fun _ _=>False⟩ (a2m N [.scr ns]) 0) (h0:T.has []:=by trivial) :
   Kn P w K mg base x (k + 1) [y] (a9o K):=by
 refine F0.ok sc (fun vs H Q E h=>?_) bd (fun f cdv A outer s H vs Q E hr hsp=>?_)
 · obtain⟨a,ns,rfl,_⟩:=h
   rfl
 · obtain⟨t,h1,h2⟩:=h f cdv A outer s H E hr;obtain⟨a,ns,rfl,hS,hl,hO,q⟩:=hsp;refine⟨t,h1 (),?_⟩
   let G:Gh:=⟨[],[]⟩
   have r:Reps K G H [.scr ns] [.ref a]:=by
     refine .one ⟨a,rfl,?_⟩;rcases hS with(hS | ⟨o,hS⟩) | hS
     · rcases hO a with z | ⟨o,xs,z⟩
       · rw [z] at hS;cases hS
       · rw [z] at hS;cases hS
     · exact .inl ⟨by simp [G],o,hS⟩
     · exact .inr hS
   have S0:=a5T (T:=T) (N:=N) (np:=true) (n:=0) (G:=G) (fun p hp=>nomatch hp) (fun a ha=>nomatch ha) h0 r;refine h2 _ G _ H _ 0 _ _ rfl rfl rfl S0 (hlaw ns hl) ⟨fun _ _ _ _ _ q=>q.elim,fun x n' v G' σ H' env qq S' rv _=>?_,fun _ _ _ _ _ q=>q.elim,fun _ _ _ _ _ q=>q.elim⟩;subst qq;obtain rfl:v=.bl true:=rv;exact q H'
end
structure a7m (own seed go:Int):Prop where
 o0:0<=own
 s0:0<=seed
 s1:seed < 2 ^ 62
 g0:0<=go
 g1:go<=2 ^ 40
def PotAt (H:Hp)(p:Addr)(n:Nat):Prop:=∃own seed go,H p=some (.lst [.int own,.int seed,.int go])/\a7m own seed go/\go<=(n:Int)
def potL:PotK where
 at_:=fun _ H p n=>PotAt H p n
 mono:=fun⟨own,seed,go,a,b,c⟩ h=>⟨own,seed,go,a,b,by omega⟩
 keep:=fun⟨own,seed,go,a,b,c⟩ e _=>⟨own,seed,go,e.trans a,b,c⟩
 more:=fun h _=>h
 mu:=fun⟨own,seed,go,a,b,c⟩=>⟨_,a,trivial⟩
def a5h:pF:=fun xs n R=>match xs with | [.pot _,.int m]=>(0 < m/\m < 1000000/\n < 1000000000)/\∀d:Int,0<=d->d < m->R (.int d) (n + 1) | _=>False
section
variable {P:x0A}{w:World}{K:x0a}{mg:Str->Option Value}{base:Heap}
def spDraw:Sp:=fun vs H Q _=>∃(p:Addr) (own seed go many:Int),vs=[.ref p,.int many]/\H p=some (.lst [.int own,.int seed,.int go])/\a7m own seed go/\go < 2 ^ 40/\0 < many/\many < 1000000/\
 ∀d own' seed' go',0<=d->d < many->a7m own' seed' go'->go'<=go + 1->Q (.int d) (upd H p (.lst [.int own',.int seed',.int go']))
theorem a8Q {x:Str}{k:Nat}{ps:List Str}(G:Kn P w K mg base x k ps spDraw):Kn P w K mg base x k ps (a0z K potL a5h):=G.imp fun vs H Q E h=>by
 obtain⟨G,xs,n,R,hp,hm,_,r,hf,k⟩:=h;unfold a5h at hf
 split at hf
 · rename_i kk m;obtain⟨v,rr,rfl,rv,u,r2,rfl,ru,rfl⟩:=r;obtain⟨p,ep,rfl⟩:=rv;obtain rfl:u=.int m:=ru;have pin:p∈G.pots:=x0P ep;obtain⟨pM,own,seed,go,e,ok,hg⟩:=hp p pin;refine⟨p,own,seed,go,m,rfl,e,ok,by omega,hf.1.1,hf.1.2.1,fun d own' seed' go' d0 d1 ok' g'=>?_⟩;refine k _ _ _ _ (hf.2 d d0 d1) rfl (fun q hq=>?_) fun b o hb eb=>?_
   · by_cases hqp:q=p
     · subst hqp;exact⟨own',seed',go',a0j,ok',by omega⟩
     · obtain⟨_,o2,s2,g2,e2,ok2,hg2⟩:=hp q hq;exact⟨o2,s2,g2,by rw [a0f hqp];exact e2,ok2,by omega⟩
   · rw [a0f (fun z=>hb (by rw [z];exact pin))];exact eb
 · exact hf.elim
def spPot (K:x0a):Sp:=fun vs H Q _=>∃(a:Addr) (ns:List Int) (k:Int),vs=[.ref a,.int k]/\SqL K H a (ns.map V.int)/\0<=k/\k<=1000/\
 ∀p own seed,H p=none->a7m own seed 0->Q (.ref p) (upd H p (.lst [.int own,.int seed,.int 0]))
end
section
variable {ι:Type}{K:x0a}{F:ι->Cx}{e:Expr}{es:List Expr}{st:Stmt}{pos:Pos}{pl:pA}{pe pa pb:pE}
theorem SR.pot {C:Ct}{G:Gh}{σ:St}{H:Hp}{env:Env}{n:Nat}(S:SR C G σ H env n)(hn:C.np=true)(hT:C.T=potL){p:Addr}{own seed:Int}(h:H p=none)(ok:a7m own seed 0) :
   SR C ⟨p::G.M,G.pots++[p]⟩ σ (upd H p (.lst [.int own,.int seed,.int 0])) env n:=by
 have S1:=S.more (vs:=[.int own,.int seed,.int 0]) h
 have mm:∀{x:PV} {v:V} {H:Hp},Rep C.K ⟨p::G.M,G.pots⟩ H x v->Rep C.K ⟨p::G.M,G.pots++[p]⟩ H x v:=fun r=>Rep.mono (G:=⟨p::G.M,G.pots⟩) (G':=⟨p::G.M,G.pots++[p]⟩) (fun _ _ _ e=>e) (fun _ ha=>.inl ha) (fun k q e=>by
   obtain⟨hk,_⟩:=x0k.mp e;show(G.pots++[p])[k]?=_
   rw [x0R hk];exact e) _ _ r
 have mms:∀{x:List PV} {v:List V} {H:Hp},Reps C.K ⟨p::G.M,G.pots⟩ H x v->Reps C.K ⟨p::G.M,G.pots++[p]⟩ H x v:=fun r=>Reps.mono (G:=⟨p::G.M,G.pots⟩) (G':=⟨p::G.M,G.pots++[p]⟩) (fun _ _ _ e=>e) (fun _ ha=>.inl ha) (fun k q e=>by
   obtain⟨hk,_⟩:=x0k.mp e;show(G.pots++[p])[k]?=_
   rw [x0R hk];exact e) _ _ r
 have pM:=S.fresh h
 exact {
   frame:=S1.frame
   sub:=S1.sub
   sup:=S1.sup
   pots:=fun q hq=>by
     rcases x1g.mp hq with z | z
     · exact S1.pots q z
     · rw [x1c.mp z];refine⟨x0h,?_⟩;rw [hT];exact⟨own,seed,0,a0j,ok,by omega⟩
   pre:=by
     obtain⟨l,el,_⟩:=S1.pre;have el':G.pots=C.pots0++l:=el;exact⟨l++[p],by rw [el',x2l],.inr hn⟩
   mu:=S1.mu
   slots:=fun i s e=>by
     cases s with
     | v x =>
       obtain⟨v,ev,r⟩:=S1.slots i _ e;exact⟨v,ev,mm r⟩
     | ow kk xs =>
       obtain⟨b,us,ev,h1,h2,h3,h4,r⟩:=S1.slots i _ e;obtain⟨b',us',ev',g1,_⟩:=S.slots i _ e;rw [ev] at ev';cases ev';refine⟨b,us,ev,h1,h2,fun z=>?_,h4,mms r⟩;rcases x1g.mp z with z | z
       · exact h3 z
       · rw [x1c.mp z] at g1;exact pM g1
   inj:=S1.inj
   p0:=⟨S1.p0.1,C.T.hasM S1.p0.2 fun z=>pM (S.pots p z).1⟩
   len:=S1.len
   newp:=fun q hq hn' hM=>by
     rcases x1g.mp hq with z | z
     · exact S1.newp q z hn' hM
     · rw [x1c.mp z] at hM
       exact pM (S.sup p hM) }
end
end Pu
end
section
namespace Pu
open PySem PySem.Spec L2
section
variable {T:PotK}{np:Bool}{ι:Type}{K:x0a}{F:ι->Cx}{e a b c:Expr}{es:List Expr}{pe pa pb pc:pE}{pos:Pos}{pl pr:pA}
theorem RdV.lst' {G:Gh}{H:Hp}{xs:List PV}{v:V}(h:RdV K G H (.lst xs) v):∃a vs,v=.ref a/\H a=some (.lst vs)/\Reps K G H xs vs:=by
 rcases h with⟨a,vs,e,t,r⟩ | ⟨a,vs,ys,ex,ev,h4,r⟩
 · exact⟨a,vs,e,t.2,r⟩
 · cases ex;exact⟨a,vs,ev,h4,r⟩
def qCat (pa pb:pE):pA:=fun env n R=>pa env n fun x env1 n1=>pb env1 n1 fun y env2 n2=>match x,y with | .lst xs,.lst ys=>env2=env1/\xs.length + ys.length<=1000000/\R (xs++ys) env2 n2 | _,_=>False
theorem qn_cat (ha:QR T K F a pa)(hb:QR T K F b pb):QN T K F (.BinOp a .Add b pos) (qCat pa pb):=by
 obtain⟨t,a1,a2⟩:=ha;obtain⟨u,b1,b2⟩:=hb;refine⟨_,fun z=>a0Y op_cat (a1 z) (b1 z),fun C G σ H env n R Q hK hT S hp k=>?_⟩;refine a2 C G σ H env n _ _ hK hT S hp fun x env1 n1 v H1 q1 S1 r1 f1=>?_;refine b2 C G σ H1 env1 n1 _ _ hK hT S1 q1 fun y env2 n2 w H2 q2 S2 r2 f2=>?_
 split at q2
 · rename_i xs ys;obtain⟨e1,hl,q2⟩:=q2;subst e1;obtain⟨l,vs,ev,e1,rx⟩:=RdV.lst' ((r1.fr f2).rd S2);obtain⟨m,us,ew,e2,ry⟩:=RdV.lst' (r2.rd S2);exact⟨l,m,vs,us,ev,ew,e1,e2,by rw [<- rx.length,<- ry.length];exact mil hl,fun p hn=>k _ _ _ _ _ _ q2 S2 (f1.trans f2) hn (hK▸rx.append ry)⟩
 · exact q2.elim
def a3t:List PV->Option (List Str)
 | []=>some []
 | .str b::xs=>(a3t xs).map (b::·)
 | _=>none
theorem a4y {G:Gh}{H:Hp}:∀{xs:List PV} {vs:List V} {bs:List Str},a3t xs=some bs->Reps K G H xs vs->vs=bs.map V.str
 | [],vs,bs,h,r=>by cases h;exact r
 | .str b :: xs, vs, bs, h, r => by
   obtain⟨v,t,e,rv,rt⟩:=r;cases e1:a3t xs with
   | none=>simp [a3t,e1] at h
   | some cs =>
     have:b::cs=bs:=by simpa [a3t,e1] using h
     subst this;rw [e,show v=.str b from rv,a4y e1 rt]
     rfl
 | .non::_,_,_,h,_=>by cases h
 | .int _::_,_,_,h,_=>by cases h
 | .bl _::_,_,_,h,_=>by cases h
 | .ty _::_,_,_,h,_=>by cases h
 | .pot _::_,_,_,h,_=>by cases h
 | .tup _::_,_,_,h,_=>by cases h
 | .lst _::_,_,_,h,_=>by cases h
 | .dct _ _::_,_,_,h,_=>by cases h
 | .fdt _ _::_,_,_,h,_=>by cases h
 | .scr _::_,_,_,h,_=>by cases h
theorem a7B:∀bs:List Str,a3t (bs.map PV.str)=some bs:=by
 intro xq
 induction xq with
 | nil =>
   exact rfl
 | cons b bs ih =>
   simp [a3t,ih]
def wNeg:w1:=fun x R=>match x with | .int i=>R (.int (-i)) | _=>False
theorem a7U (h:QE T K F a pa):QE T K F (.UnaryOp .USub a pos) (qUn wNeg pa):=by
 obtain⟨t,a1,a2⟩:=h.r;refine⟨_,fun z=>b2p a7u (a1 z),ok_un (fun G H x v R Q hf rx hw k=>?_) a2⟩;unfold wNeg at hw
 split at hw
 · exact⟨_,rx.int,k _ _ _ hw (Same.refl _) rfl⟩
 · exact hw.elim
end
def a1V (i:Nat)(pe:pE):pE:=fun env n R=>(∃xs,env[i]?=some (some (.ow .lst xs)))/\a5t i pe env n R
end Pu
end
section
namespace Pu
open PySem PySem.Spec L2
theorem a8U {te:pE}{rest:Env}(f:PV->PV):∀(xs:List PV) (s0:Option Slot) (n:Nat) (R:List PV->Nat->Prop),(∀x∈xs,∀m Q,Q (f x) (some (.v x)::rest) m->te (some (.v x)::rest) m Q)->R (xs.map f) n->a4q (gN 0) qTru te xs (s0::rest) n R:=by
 intro xq
 induction xq with
 | nil =>
   intro _ _ _ _ h;exact h
 | cons x xs ih =>
   intro s0 n R ht h;show te (some (.v x)::rest) n _;refine ht x x0h n _ ?_;exact ih _ n _ (fun y hy=>ht y (x0d _ hy)) h
theorem a7h {te:pE}{rest:Env}(P:PV->Prop)(c N:Nat):∀(xs:List PV) (s0:Option Slot) (n:Nat) (R:List PV->Nat->Prop),
   (∀x∈xs,∀m Q,m<=N->(∀y m',P y->m'<=m + c->Q y (some (.v x)::rest) m')->te (some (.v x)::rest) m Q)->n + c * xs.length<=N->(∀ys n',ys.length=xs.length->(∀y∈ys,P y)->n'<=n + c * xs.length->R ys n')->a4q (gN 0) qTru te xs (s0::rest) n R:=by
 intro xq
 induction xq with
 | nil =>
   intro _ n _ _ _ h;exact h [] n rfl (fun _ z=>nomatch z) (by omega)
 | cons x xs ih =>
   intro s0 n R ht hN h;have hl:c * (x::xs).length=c * xs.length + c:=by rw [x0B,Nat.mul_succ]
   show te (some (.v x)::rest) n _;refine ht x x0h n _ (by omega) fun y m' py hm=>?_;refine ih _ m' _ (fun y hy=>ht y (x0d _ hy)) (by omega) fun ys n' e p hn=>?_;exact h (y::ys) n' (by simp [e]) (fun z hz=>(x0s.mp hz).elim (fun e=>e▸py) (p z)) (by omega)
theorem a0S {g:pG}{b:pS}{D:a5P}(I:Nat->Env->Nat->Prop):∀(xs:List PV) (k:Nat) (env:Env) (n:Nat),I k env n->
   (∀(i:Nat) x env n (N:Env->Nat->Prop),xs[i]?=some x->I (k + i) env n->(∀e m,I (k + i + 1) e m->N e m)->g x env fun env1=>b { D with nx:=N,ct:=N,bk:=D.nx } env1 n)->(∀env n,I (k + xs.length) env n->D.nx env n)->forL g b D xs env n:=by
 intro xq
 induction xq with
 | nil =>
   intro k env n h0 _ hd;exact hd env n h0
 | cons x xs ih =>
   intro k env n h0 hs hd;show g x env fun env1=>b { D with nx:=fun e m=>forL g b D xs e m,ct:=fun e m=>forL g b D xs e m,bk:=D.nx } env1 n;refine hs 0 x env n _ rfl h0 fun e m h1=>?_;refine ih (k + 1) e m h1 (fun i y env n N e1 h2 h3=>?_) fun env n h2=>hd env n (by rw [x0B,show k + (xs.length + 1)=k + 1 + xs.length by omega];exact h2);refine hs (i + 1) y env n N (by simpa using e1) (by rw [show k + (i + 1)=k + 1 + i by omega];exact h2) fun e m h4=>h3 e m (by rw [show k + 1 + i + 1=k + (i + 1) + 1 by omega];exact h4)
theorem a2z {j i:Nat}{lo:Int}{x:PV}(h:((x0j j).map fun(k:Nat)=>PV.int (lo + k))[i]?=some x):i < j/\x=.int (lo + i):=by
 rw [x0r] at h;cases e:(x0j j)[i]? with
 | none=>rw [e] at h;cases h
 | some y =>
   rw [e] at h;obtain⟨h1,h2⟩:=x0k.mp e;rw [x3g] at h2;cases h;subst h2;exact⟨by simpa using h1,rfl⟩
theorem a1t {j:Nat}{lo:Int}:((x0j j).map fun(k:Nat)=>PV.int (lo + k)).length=j:=by simp
theorem b3j {α:Type}{xs:List α}{d:Int}(h0:0<=d)(h1:d < xs.length):∃x,x∈xs/\atI xs d=some x:=by
 obtain⟨x,e1,e2⟩:=a9c h0 h1;exact⟨x,x0P e1,e2⟩
theorem b0G (n d k:Nat):HT.sIx n d (some (k:Int))=min k n:=HT.sIx_nat n d k
theorem b3b {α:Type}{xs:List α}{lo hi:Option Int}:∀x∈cutP xs lo hi,x∈xs:=fun x hx=>List.mem_of_mem_drop (List.mem_of_mem_take hx)
theorem b1f (a b:Str):eqP (.str a) (.str b)=decide (a=b):=rfl
theorem eqP_ll (xs ys:List PV):eqP (.lst xs) (.lst ys)=eqPs xs ys:=rfl
theorem eqP_tt (xs ys:List PV):eqP (.tup xs) (.tup ys)=eqPs xs ys:=rfl
theorem b2Y (x y:PV)(xs ys:List PV):eqPs (x::xs) (y::ys)=(eqP x y && eqPs xs ys):=rfl
theorem b2X:eqPs [] []=true:=rfl
theorem if_t {A B:Prop}{b:Bool}(h:b=true)(q:A):if b=true then A else B:=by rw [if_pos h];exact q
theorem if_f {A B:Prop}{b:Bool}(h:b=false)(q:B):if b=true then A else B:=by rw [if_neg (by rw [h];exact x0J)];exact q
end Pu
end
section
namespace L2
open PySem PySem.Spec PyProof.Rows
section
variable {κ:Type}[DecidableEq κ]
variable {kvs:List (κ×V)}
def valV (kvs:List (κ×V))(k:κ):Option V:=(kvs.find? fun kv=>decide (kv.1=k)).map (·.2)
def putK (kvs:List (κ×V))(k:κ)(v:V):List (κ×V):=
 if(kvs.any fun kv=>decide (kv.1=k))=true then kvs.map (fun kv=>if kv.1=k then(kv.1,v) else kv) else kvs++[(k,v)]
theorem a3M {p:κ×V}{r:List (κ×V)}{k:κ}(e:p.1=k):valV (p::r) k=some p.2:=by simp [valV,x2E,e]
theorem a3N {p:κ×V}{r:List (κ×V)}{k:κ}(e:¬p.1=k):valV (p::r) k=valV r k:=by simp [valV,x2E,e]
theorem a5S (k:κ):∀kvs:List (κ×V),(kvs.any fun kv=>decide (kv.1=k))=(valV kvs k).isSome:=by
 intro xq
 induction xq with
 | nil =>
   exact rfl
 | cons p r ih =>
   rw [x3N]
   by_cases e:p.1=k
   · simp only [a3M e,decide_eq_true e,Bool.true_or,Option.isSome_some]
   · rw [a3N e,decide_eq_false e,Bool.false_or];exact ih
theorem a3i (kvs:List (κ×V))(k:κ)(v:V):(putK kvs k v).length<=kvs.length + 1:=by
 unfold putK
 split
 · rw [x0g];omega
 · rw [x0q,x0B,List.length_nil];omega
theorem RelO.isSome_eq {o:Option V}{u:Option Value}(r:RelO o u):o.isSome=u.isSome:=by
 cases o with
 | none => cases u with
   | none=>rfl
   | some _=>exact(show False from r).elim
 | some _ => cases u with
   | none=>exact(show False from r).elim
   | some _=>rfl
theorem RelO.getD {o:Option V}{u:Option Value}{d:V}{d':Value}(r:RelO o u)(rd:RelV d d'):RelV (o.getD d) (u.getD d'):=by
 cases o with
 | none => cases u with
   | none=>exact rd
   | some _=>exact(show False from r).elim
 | some _ => cases u with
   | none=>exact(show False from r).elim
   | some _=>exact r
theorem KV.val {vs:List (κ×Value)}(r:KV kvs vs)(k:κ):RelO (valV kvs k) (valueAt vs k):=by
 unfold KV at r
 induction r with
 | nil=>exact x2y
 | @cons p q ps qs h t ih =>
   obtain⟨h1,h2⟩:=h
   by_cases e:p.1=k
   · have e':q.1=k:=h1.symm.trans e;have b:valueAt (q::qs) k=some q.2:=by simp [valueAt,x2E,e']
     rw [a3M e,b];exact h2
   · have e':¬q.1=k:=fun z=>e (h1.trans z);have b:valueAt (q::qs) k=valueAt qs k:=by simp [valueAt,x2E,e']
     rw [a3N e,b];exact ih
theorem KV.any {vs:List (κ×Value)}(r:KV kvs vs)(k:κ):(kvs.any fun kv=>decide (kv.1=k))=vs.any fun kv=>decide (kv.1=k):=by
 unfold KV at r
 induction r with
 | nil=>rfl
 | cons h t ih=>rw [x3N,x3N,ih,h.1]
theorem KV.repl {vs:List (κ×Value)}(r:KV kvs vs)(k:κ){y:V}{u:Value}(ry:RelV y u) :
   KV (kvs.map fun kv=>if kv.1=k then(kv.1,y) else kv) (vs.map fun kv=>if kv.1=k then(kv.1,u) else kv):=by
 unfold KV at r ⊢
 induction r with
 | nil=>exact .nil
 | @cons p q ps qs h t ih =>
   rw [x1f,x1f];refine .cons ?_ ih;obtain⟨h1,h2⟩:=h
   by_cases e:p.1=k
   · rw [if_pos e,if_pos (h1.symm.trans e)];exact⟨h1,ry⟩
   · rw [if_neg e,if_neg (fun z=>e (h1.trans z))];exact⟨h1,h2⟩
theorem KV.put {vs:List (κ×Value)}(r:KV kvs vs)(k:κ){y:V}{u:Value}(ry:RelV y u):KV (putK kvs k y) (stored vs k u):=by
 unfold putK stored;rw [r.any k]
 by_cases e:(vs.any fun kv=>decide (kv.1=k))=true
 · rw [if_pos e,if_pos e];exact r.repl k ry
 · rw [if_neg e,if_neg e];exact Paired.snoc r ⟨rfl,ry⟩
theorem KV.keys {vs:List (κ×Value)}(r:KV kvs vs):kvs.map (·.1)=vs.map (·.1):=by
 unfold KV at r
 induction r with
 | nil=>rfl
 | cons h t ih=>rw [x1f,x1f,ih,h.1]
theorem KV.length {vs:List (κ×Value)}(r:KV kvs vs):kvs.length=vs.length:=x2X r
end
variable {kvs:List (List Key×V)}
theorem a8B {P:x0A}{w:World}{k:Key}{u:Value}(r:RelV (kV k) u):(a0y P w).is k u=true:=by
 cases k with
 | inl i=>obtain⟨t,e⟩:=(show ∃t,u=Value.int i t from r);subst e;exact a5z P w i t
 | inr x=>obtain⟨t,e⟩:=(show ∃t,u=Value.str x t from r);subst e;exact a5y P w x t
theorem a4V {P:x0A}{w:World}:∀{ks:List Key} {us:List Value},Vals (ks.map kV) us->ItemsAre (a0y P w) ks us
 | [],_,r=>by rw [x4g] at r;cases r;exact .nil
 | k :: ks, _, r => by
   rw [x1f] at r;cases r with
   | cons h t=>exact .cons (a8B h) (a4V t)
abbrev KT (H:Hp):List (List Key×V)->List (List Key×Addr×Value)->Prop:=Paired fun p q=>p.1=q.1/\H q.2.1=some (.tup (p.1.map kV))/\RelV p.2 q.2.2
theorem KT.val {H:Hp}{xs:List (List Key×Addr×Value)}(r:KT H kvs xs)(k:List Key):RelO (valV kvs k) ((atKey xs k).map (·.2)):=by
 induction r with
 | nil=>exact x2y
 | @cons p q ps qs h t ih =>
   obtain⟨h1,_,h2⟩:=h
   by_cases e:p.1=k
   · have e':q.1=k:=h1.symm.trans e;have b:atKey (q::qs) k=some q.2:=by simp [atKey,x2E,e']
     rw [a3M e,b];exact h2
   · have e':¬q.1=k:=fun z=>e (h1.trans z);have b:atKey (q::qs) k=atKey qs k:=by simp [atKey,x2E,e']
     rw [a3N e,b];exact ih
theorem KT.repl {H:Hp}{xs:List (List Key×Addr×Value)}(r:KT H kvs xs)(k:List Key){y:V}{u:Value}(ry:RelV y u) :
   KT H (kvs.map fun kv=>if kv.1=k then(kv.1,y) else kv) (xs.map (putAt k u)):=by
 induction r with
 | nil=>exact .nil
 | @cons p q ps qs h t ih =>
   rw [x1f,x1f];refine .cons ?_ ih;obtain⟨h1,h2,h3⟩:=h;unfold putAt
   by_cases e:p.1=k
   · rw [if_pos e,if_pos (h1.symm.trans e)];exact⟨h1,h2,ry⟩
   · rw [if_neg e,if_neg (fun z=>e (h1.trans z))];exact⟨h1,h2,h3⟩
theorem KT.put {H:Hp}{xs:List (List Key×Addr×Value)}(r:KT H kvs xs)(k:List Key){b:Addr}{y:V}{u:Value}(hb:H b=some (.tup (k.map kV)))(ry:RelV y u) :
   KT H (putK kvs k y) (storedH xs k b u):=by
 have e:(kvs.any fun kv=>decide (kv.1=k))=(atKey xs k).isSome:=by
   rw [a5S,(r.val k).isSome_eq,Option.isSome_map]
 unfold putK storedH;rw [e]
 by_cases q:(atKey xs k).isSome=true
 · rw [if_pos q,if_pos q];exact r.repl k ry
 · rw [if_neg q,if_neg q];exact Paired.snoc r ⟨rfl,hb,ry⟩
theorem KT.keeps {H H':Hp}{xs:List (List Key×Addr×Value)}(r:KT H kvs xs)(ht:∀b ys,H b=some (.tup ys)->H' b=some (.tup ys)):KT H' kvs xs:=
 Paired.mapP r fun _ _ z=>⟨z.1,ht _ _ z.2.1,z.2.2⟩
section
variable {P:x0A}{w:World}{H:Hp}{h:Heap}{a:Addr}
theorem rd_of {u:HO}(ok:HOk P w H h)(e:Rd H a u):a0F P w H h a u:=e.ok ok
theorem a7e {kvs:List (Key×V)}(ok:HOk P w H h)(e:Rd H a (.dK kvs)):kvs.length<=x0v/\(a == x1D)=false/\∃vs,KV kvs vs/\h.DictOf (a0y P w) a vs:=
 show a0F P w H h a (.dK kvs) from rd_of ok e
theorem dk_of {kvs:List (Key×V)}(ok:HOk P w H h)(e:H a=some (.dK kvs)):kvs.length<=x0v/\(a == x1D)=false/\∃vs,KV kvs vs/\h.DictOf (a0y P w) a vs:=a7e ok (.inl e)
theorem a3k {ks:List Key}(ok:HOk P w H h)(e:H a=some (.tup (ks.map kV))):(x1w (a0y P w)).is h ks a:=by
 obtain⟨_,its,r,o,h1,h2,n,h3⟩:=(show a0F P w H h a (.tup (ks.map kV)) from ok a _ e);exact⟨o,its.toArray,n,h1,(x3T h2).1,h3,by simpa using a4V r⟩
theorem a7d {kvs:List (List Key×V)}(ok:HOk P w H h)(e:Rd H a (.dT kvs)):kvs.length<=x0v/\(a == x1D)=false/\
   ∃xs,KT H kvs xs/\h.DictOfH (x1w (a0y P w)) a xs:=by
 obtain⟨z,y,xs,r,o,es,ep,h1,h2,h3,h4,h5⟩:=(show a0F P w H h a (.dT kvs) from rd_of ok e);refine⟨z,y,xs,r,o,es,ep,h1,h2,h3,h4,fun x hx=>?_,h5⟩
 have all:∀{l:List (List Key×V)} {m:List (List Key×Addr×Value)},KT H l m->∀x∈m,(x1w (a0y P w)).is h x.1 x.2.1:=by
   intro l m q
   induction q with
   | nil=>intro x hx;exact nomatch hx
   | @cons p q ps qs hq t ih =>
     intro x hx;rcases x0s.mp hx with e | hx
     · subst e;exact a3k ok (by rw [<- hq.1];exact hq.2.1)
     · exact ih x hx
 exact all r x hx
theorem dt_of {kvs:List (List Key×V)}(ok:HOk P w H h)(e:H a=some (.dT kvs)):kvs.length<=x0v/\(a == x1D)=false/\
   ∃xs,KT H kvs xs/\h.DictOfH (x1w (a0y P w)) a xs:=a7d ok (.inl e)
end
def DGet (H:Hp)(a:Addr)(y:V)(r:Option V):Prop:=
 (∃kvs k,Rd H a (.dK kvs)/\y=kV k/\r=valV kvs k)\/∃kvs k b,Rd H a (.dT kvs)/\y=.ref b/\H b=some (.tup (k.map kV))/\r=valV kvs k
def DPut (H:Hp)(a:Addr)(y v:V)(H':Hp):Prop:=
 (∃kvs k,H a=some (.dK kvs)/\y=kV k/\kvs.length < x0v/\H'=upd H a (.dK (putK kvs k v)))\/
 ∃kvs k b,H a=some (.dT kvs)/\y=.ref b/\H b=some (.tup (k.map kV))/\kvs.length < x0v/\H'=upd H a (.dT (putK kvs k v))
theorem DGet.k {H:Hp}{a:Addr}{kvs:List (Key×V)}{k:Key}(e:H a=some (.dK kvs)):DGet H a (kV k) (valV kvs k):=.inl ⟨kvs,k,.inl e,rfl,rfl⟩
theorem DGet.t {H:Hp}{a b:Addr}{kvs:List (List Key×V)}{k:List Key}(e:H a=some (.dT kvs))(eb:H b=some (.tup (k.map kV))):DGet H a (.ref b) (valV kvs k):=.inr ⟨kvs,k,b,.inl e,rfl,eb,rfl⟩
theorem DPut.k {H:Hp}{a:Addr}{kvs:List (Key×V)}{k:Key}{v:V}(e:H a=some (.dK kvs))(hl:kvs.length < x0v):DPut H a (kV k) v (upd H a (.dK (putK kvs k v))):=.inl ⟨kvs,k,e,rfl,hl,rfl⟩
theorem DPut.t {H:Hp}{a b:Addr}{kvs:List (List Key×V)}{k:List Key}{v:V}(e:H a=some (.dT kvs))(eb:H b=some (.tup (k.map kV)))(hl:kvs.length < x0v) :
   DPut H a (.ref b) v (upd H a (.dT (putK kvs k v))):=.inr ⟨kvs,k,b,e,rfl,eb,hl,rfl⟩
section
variable {X:Cx}{pins:List (Addr×Obj)}{σ:St}{H:Hp}{s:Shared}{a:Addr}{y v:V}{u r:Value}{o:Option V}{A:Around}{E:Value->Shared->Prop}
theorem a8T {Q:Value->Shared->Prop}(hu:A.units + 1 < cLine)(I:Inv X pins σ H s)(g:DGet H a y (some v))(ry:RelV y u)(h:∀w' s',Inv X pins σ H s'->RelV v w'->Q w' s') :
   wpAny (model X.prog X.w) A (x3W (.ref a) u) Q E s:=by
 rcases g with⟨kvs,k,e,ey,l⟩ | ⟨kvs,k,b,e,ey,eb,l⟩
 · subst ey;obtain⟨z,hd,vs,rel,dd⟩:=a7e I.hok e;obtain⟨w',hw,rw'⟩:=RelO.some_of (v:=v) (o:=valueAt vs k) (by rw [l];exact rel.val k);exact wpAny_getItem_of (a8B ry) dd.mapOf hw (h w' _ (I.tok _) rw')
 · subst ey;cases(show u=x0I b from ry);obtain⟨z,hd,xs,rel,dd⟩:=a7d I.hok e;obtain⟨w',hw,rw'⟩:=RelO.some_of (v:=v) (o:=(atKey xs k).map (·.2)) (by rw [l];exact rel.val k);obtain⟨p,hp,hp2⟩:=Option.map_eq_some_iff.mp hw;refine wpAny_getItem_heap (x2B hu) (a3k I.hok eb) dd hp ?_;rw [hp2];exact h w' _ (I.tok _) rw'
theorem d_in {Q:Value->Shared->Prop}(hu:A.units + 1 < cLine)(I:Inv X pins σ H s)(g:DGet H a y o)(ry:RelV y u)(h:∀s',Inv X pins σ H s'->Q (.bool o.isSome) s') :
   wpAny (model X.prog X.w) A (x1v .In u (.ref a)) Q E s:=by
 rcases g with⟨kvs,k,e,ey,l⟩ | ⟨kvs,k,b,e,ey,eb,l⟩
 · subst ey;obtain⟨z,hd,vs,rel,dd⟩:=a7e I.hok e;refine wpAny_in_of (a8B ry) hd dd.mapOf ?_;rw [<- (rel.val k).isSome_eq,<- l];exact h _ (I.tok _)
 · subst ey;cases(show u=x0I b from ry);obtain⟨z,hd,xs,rel,dd⟩:=a7d I.hok e;refine wpAny_in_heap (x2B hu) (a3k I.hok eb) hd dd ?_;have q:=(rel.val k).isSome_eq;rw [Option.isSome_map] at q;rw [<- q,<- l];exact h _ (I.tok _)
theorem a5H {h':Heap}{t':Nat}{ob:HO}(I:Inv X pins σ H s)(mu:Mut (H a))(hs:x3z a s.heap h')(he:∃q,h'.get? a=some q)(new:a0F X.prog X.w (upd H a ob) h' a ob) :
   Inv X pins σ (upd H a ob) { s with heap:=h',toks:=t' }:=
 I.write (x:=a) (e:=a) mu (.inl rfl) (fun b q hb z=>(hs.2 b hb).trans z) he new
theorem dk_new {P:x0A}{w:World}{H':Hp}{h':Heap}{kvs:List (Key×V)}{vs:List (Key×Value)}(z:kvs.length<=x0v)(hd:(a == x1D)=false)(rel:KV kvs vs)(dd:h'.DictOf (a0y P w) a vs) :
   a0F P w H' h' a (.dK kvs):=⟨z,hd,vs,rel,dd⟩
theorem a8S {H':Hp}{Q:Unit->Shared->Prop}(hu:A.units + 1 < cLine)(I:Inv X pins σ H s)(g:DPut H a y v H')(ry:RelV y u)(rv:RelV v r)(h:∀s',Inv X pins σ H' s'->Q () s') :
   wpAny (model X.prog X.w) A (setItem (.ref a) u r) Q E s:=by
 rcases g with⟨kvs,k,e,ey,l,eH⟩ | ⟨kvs,k,b,e,ey,eb,l,eH⟩
 · subst ey eH;obtain⟨z,hd,vs,rel,dd⟩:=dk_of I.hok e;have hz:vs.length<=x0v:=by rw [<- rel.length];exact z
   have hl:(putK kvs k v).length<=x0v:=by have:=a3i kvs k v;omega
   refine wpAny_setItem_pairs (hsz:=hz) (a8B ry) dd fun h' dd' hs=>h _ ?_;have he:∃q,h'.get? a=some q:=let ⟨q,_,_,hq,_⟩:=dd';⟨q,hq⟩;exact a5H I (by rw [e];exact x2y) hs he (dk_new hl hd (rel.put k rv) dd')
 · subst ey eH;cases(show u=x0I b from ry);obtain⟨z,hd,xs,rel,dd⟩:=dt_of I.hok e;have hz:xs.length<=x0v:=by rw [<- x2X rel];exact z
   have hl:(putK kvs k v).length<=x0v:=by have:=a3i kvs k v;omega
   refine wpAny_setItem_heap (hsz:=hz) (x2B hu) (a3k I.hok eb) dd fun h' dd' hs=>h _ ?_;obtain⟨q,es,ep,hq,h2,h3,h4,_,h5⟩:=dd';refine a5H I (by rw [e];exact x2y) hs ⟨q,hq⟩ ⟨hl,hd,_,(rel.put k eb rv).keeps fun c ys ec=>?_,q,es,ep,hq,h2,h3,h4,h5⟩;rw [a0f (b0d ec e (fun z=>nomatch z))];exact ec
end
def NoSl (i:Expr):Prop:=∀ov iv,subscripted i false ov iv=operate [ov,iv] (x3W ov iv)
theorem b1A {prog:x0A}{w:World}{A:Around}{E:Value->Shared->Prop}{s:Shared}{env:Env}{value slice:Expr}{pos:Pos}{T id:String}{Q:Value->Shared->Prop}
   (hl:typeLookup (.type T) "__getitem__"=pure (some (.builtin id))) (hs:NoSl slice)
   (h:wpAny (model prog w) A (eval value env) (fun o s₁=>wpAny (model prog w) A (eval slice env) (fun i s₂=>s₂.TypeIs o T/\wpAny (model prog w) A (x3W o i) Q E s₂) E s₁) E s) :
   wpAny (model prog w) A (eval (.Subscript value slice pos) env) Q E s:=by
 refine Subscript_ (x0S h (fun o s₁ h₁=>x0S h₁ (fun i s₂ h₂=>?_) fun _ _ x=>x) fun _ _ x=>x);obtain⟨hT,h₂⟩:=h₂;unfold subscriptTail;refine x0b ?_;rw [getitemInPython_of_ne hT.not_modules];refine x0b (wpAny_specialOf hT hl ?_)
 have fin:wpAny (model prog w) A (subscripted slice false o i) (fun r s₃=>wpAny (model prog w) A (letTemporaryGo value o r>>=fun _=>pure r) Q E s₃) E s₂:=by
   rw [hs o i];exact wpAny_operating (x0S h₂ (fun r s₃ h₃=>x0b (wpAny_letTemporaryGo (x0e h₃))) fun _ _ x=>x)
 first
   | exact x0e (x0b fin)
   | exact x0b (x0e (x0b fin))
   | exact x0b fin
theorem a5G {X:Cx}{pins:List (Addr×Obj)}{σ:St}{H:Hp}{s:Shared}{a:Addr}{y:V}{o:Option V}(I:Inv X pins σ H s)(g:DGet H a y o):s.TypeIs (.ref a) "dict":=by
 rcases g with⟨kvs,k,e,_,_⟩ | ⟨kvs,k,b,e,_,_,_⟩
 · obtain⟨_,_,vs,_,dd⟩:=a7e I.hok e;exact dd.typeIs
 · obtain⟨_,_,xs,_,dd⟩:=a7d I.hok e;exact dd.typeIs
def tDGet (td ty:TE):TE:=fun σ H Q=>td σ H fun x H1=>ty σ H1 fun y H2=>∃a v,x=.ref a/\DGet H2 a y (some v)/\Q v H2
def b1K (td ty tv:TE):TS:=fun D σ H=>tv σ H fun v H1=>td σ H1 fun x H2=>ty σ H2 fun y H3=>∃a H4,x=.ref a/\DPut H3 a y v H4/\D.nx σ H4
section
variable {X:Cx}{o i e value:Expr}{pos pos' tpos:Pos}{td ty tv:TE}
theorem b2q (hu:X.A.units + 1 < cLine)(ho:PE X o td)(hi:PE X i ty)(hs:NoSl i):PE X (.Subscript o i pos) (tDGet td ty):=by
 intro pins s σ H Q I h;refine b1A PySem.F.slot_dict_getitem.lookup hs (thn (ho pins s σ H _ I h) fun u s1 ⟨x,H1,I1,rx,q1⟩=>thn (hi pins s1 σ H1 _ I1 q1) fun iv s2 ⟨y,H2,I2,ry,a,v,ex,g,q2⟩=>?_);subst ex;obtain rfl:u=x0I a:=rx;exact⟨a5G I2 g,a8T hu I2 g ry fun w' s3 I3 rw'=>⟨v,H2,I3,rw',q2⟩⟩
theorem b2c (hu:X.A.units + 1 < cLine)(ho:PE X o td)(hi:PE X i ty)(hv:PE X value tv)(hs:x3A value (some (.Subscript o i pos')) pos.line X.env=pure false) :
   PS X (.Assign [.Subscript o i pos'] value pos) (b1K td ty tv):=by
 intro pins s σ H D I h;refine wpAny_Assign_Subscript (thn (hv pins s σ H _ I h) fun r s1 ⟨v,H1,I1,rv,q1⟩=>thn (ho pins s1 σ H1 _ I1 q1) fun u s2 ⟨x,H2,I2,rx,q2⟩=>thn (hi pins s2 σ H2 _ I2 q2) fun iv s3 ⟨y,H3,I3,ry,a,H4,ex,g,q3⟩=>?_) hs;subst ex;obtain rfl:u=x0I a:=rx;exact a8S hu I3 g ry rv fun s4 I4=>⟨σ,H4,I4,q3⟩
end
theorem a6w {P:x0A}{w:World}{H:Hp}(h:Heap)(hb:x1D < h.objs.size):a0F P w H (h.push { cls:=.type "dict",data:=.dict #[] }) h.objs.size (.dT []):=
 ⟨x1z _,beq_eq_false_iff_ne.mpr (Ne.symm (x0u hb)),[],.nil,_,#[],0,x0p _ rfl,⟨rfl,rfl,rfl⟩,rfl,rfl,List.nodup_nil⟩
def tDNewT:TE:=fun _ H Q=>∀p,H p=none->Q (.ref p) (upd H p (.dT []))
section
variable {X:Cx}{pos:Pos}
theorem a9V:PE X (.Dict [] [] pos) tDNewT:=fun pins s σ H Q I h=>
 wpAny_Dict_empty ⟨.ref s.heap.objs.size,_,I.laid (a:=s.heap.objs.size) (o:=.dT []) (t':=s.toks) (fun _ _ q=>x0c _ q) (x0m _) (a6w s.heap I.big),rfl,h _ (I.hok.fresh (x0m _))⟩
end
def a7D:List (TE×TE)->St->Hp->(List (V×V)->Hp->Prop)->Prop
 | [],_,H,Q=>Q [] H
 | (tk,tv)::r,σ,H,Q=>tk σ H fun x H1=>tv σ H1 fun y H2=>a7D r σ H2 fun ps H3=>Q ((x,y)::ps) H3
abbrev VV:List (V×V)->List (Value×Value)->Prop:=Paired fun p q=>RelV p.1 q.1/\RelV p.2 q.2
def PPs (X:Cx)(pos:Pos)(keys:List (Option Expr))(values:List Expr)(trs:List (TE×TE)):Prop:=
 ∀ (pins : List (Addr × Obj)) (s : Shared) (σ : St) (H : Hp) (Q : List (V × V) -> Hp -> Prop), Inv X pins σ H s -> a7D trs σ H Q ->
   wpAny (model X.prog X.w) X.A (evalPairs (pairTrees keys values X.env pos)) (fun vs s'=>∃ps H',Inv X pins σ H' s'/\VV ps vs/\Q ps H') X.xe s
theorem b2d {X:Cx}{pos:Pos}:PPs X pos [] [] []:=fun pins s σ H Q I h=>pairTrees_nil_walk ⟨[],H,I,.nil,h⟩
theorem a9N {X:Cx}{pos:Pos}{k v:Expr}{ks:List (Option Expr)}{vs:List Expr}{tk tv:TE}{trs:List (TE×TE)}(hk:PE X k tk)(hv:PE X v tv)(hr:PPs X pos ks vs trs) :
   PPs X pos (some k::ks) (v::vs) ((tk,tv)::trs):=fun pins s σ H Q I h=>
 pairTrees_cons_walk (thn (hk pins s σ H _ I h) fun u s1 ⟨x,H1,I1,rx,q1⟩=>thn (hv pins s1 σ H1 _ I1 q1) fun w2 s2 ⟨y,H2,I2,ry,q2⟩=>
   thn (hr pins s2 σ H2 _ I2 q2) fun ws s3 ⟨ps,H3,I3,rel,q3⟩=>⟨(x,y)::ps,H3,I3,.cons ⟨rx,ry⟩ rel,q3⟩)
structure M2 (X:Cx)(o:Expr)(m:Str)(apos:Pos)(e f:Expr)(cpos:Pos):Prop where
 base:attributeBase o m X.env (eval o X.env)=eval o X.env
 few:((backTo cpos (x0T [e,f] X.env)).all (fun x=>!x.1) && (backToKw cpos (keywordEach [] X.env)).all (fun x=>x.1.isSome)
   && decide (([e,f]:List Expr).length + ([]:List Keyword).length + (if([]:List Keyword).isEmpty then 0 else 1) < 30))=true
 line:(apos.endLine == cpos.line)=true
 trees:backTo cpos (x0T [e,f] X.env)=[(false,eval e X.env),(false,eval f X.env)]
def IsD (H:Hp)(a:Addr):Prop:=(∃kvs,Rd H a (.dK kvs))\/∃kvs,Rd H a (.dT kvs)
theorem isD_at {X:Cx}{pins:List (Addr×Obj)}{σ:St}{H:Hp}{s:Shared}{a:Addr}(I:Inv X pins σ H s)(d:IsD H a) :
   s.TypeIs (.ref a) "dict"/\(∀b,x0I a=.ref b->∃ob,s.heap.get? b=some ob/\ob.dict=none)/\(a == x1D)=false:=by
 rcases d with⟨kvs,e⟩ | ⟨kvs,e⟩
 · obtain⟨_,hd,vs,_,dd⟩:=a7e I.hok e;refine⟨dd.typeIs,fun b q=>?_,hd⟩;cases q;obtain⟨ob,_,_,h1,h2,_⟩:=dd;exact⟨ob,h1,h2.2.1⟩
 · obtain⟨_,hd,xs,_,dd⟩:=a7d I.hok e;refine⟨dd.typeIs,fun b q=>?_,hd⟩;cases q;obtain⟨ob,_,_,h1,h2,_⟩:=dd;exact⟨ob,h1,h2.2.1⟩
section
variable {X:Cx}{pins:List (Addr×Obj)}{σ:St}{H:Hp}{s:Shared}{a:Addr}{y d:V}{u r:Value}{o:Option V}{A:Around}{E:Value->Shared->Prop}
theorem d_get2 {Q:Value->Shared->Prop}(hu:A.units + 1 < cLine)(I:Inv X pins σ H s)(g:DGet H a y o)(ry:RelV y u)(rd:RelV d r)(h:∀w' s',Inv X pins σ H s'->RelV (o.getD d) w'->Q w' s') :
   wpAny (model X.prog X.w) A (call (.builtin "dict.get") [.ref a,u,r]) Q E s:=by
 rcases g with⟨kvs,k,e,ey,l⟩ | ⟨kvs,k,b,e,ey,eb,l⟩
 · subst ey;obtain⟨z,hd,vs,rel,dd⟩:=a7e I.hok e;refine call_meetsIn x3D dd.typeIs PySem.F.entry_dict_get (PySem.F.args_dict_get_3 _ _ _) (meets_dict_get_default (a0y X.prog X.w) a (a8B ry) hd r) ⟨_,dd.mapOf,h _ _ (I.tok _) ?_⟩;rw [l];exact(rel.val k).getD rd
 · subst ey;cases(show u=x0I b from ry);obtain⟨z,hd,xs,rel,dd⟩:=a7d I.hok e;refine call_meetsIn x3D dd.typeIs PySem.F.entry_dict_get (PySem.F.args_dict_get_3 _ _ _) (meetsH_dict_get_default (x1w (a0y X.prog X.w)) a b hd r) ⟨x2B hu,k,xs,a3k I.hok eb,dd,h _ _ (I.tok _) ?_⟩;rw [l];exact(rel.val k).getD rd
end
def b0D (td ty tx:TE):TE:=fun σ H Q=>td σ H fun x H1=>∃a,x=.ref a/\IsD H1 a/\ty σ H1 fun y H2=>tx σ H2 fun z H3=>∃o,DGet H3 a y o/\Q (o.getD z) H3
section
variable {X:Cx}{o e f:Expr}{apos cpos:Pos}{td ty tx:TE}
theorem a9X (hu:X.A.units + 1 < cLine)(ho:PE X o td)(he:PE X e ty)(hf:PE X f tx)(m:M2 X o "get" apos e f cpos):PE X (.Call (.Attribute o "get" apos) [e,f] [] cpos) (b0D td ty tx):=by
 intro pins s σ H Q I h;refine wpAny_Call_method m.base m.few m.line PySem.F.plainAttrs_dict x3D PySem.F.type_dict_get (thn (ho pins s σ H _ I h) fun u s1 ⟨x,H1,I1,rx,a,ex,d,q1⟩=>?_);subst ex;obtain rfl:u=x0I a:=rx;obtain⟨t1,t2,_⟩:=isD_at I1 d;refine⟨t1,t2,?_⟩;rw [m.trees]
 refine Calls.callWith_builtin rfl (Calls.evalArgs_plain (x4e (thn (he pins s1 σ H1 _ I1 q1) fun iv s2 ⟨y,H2,I2,ry,q2⟩=>
   x4e (thn (hf pins s2 σ H2 _ I2 q2) fun fv s3 ⟨z,H3,I3,rz,ov,g,q3⟩=>Calls.spliced_nil ?_))))
 exact d_get2 hu I3 g ry rz fun w' s4 I4 rw'=>⟨_,H3,I4,rw',q3⟩
end
end L2
end
section
namespace HT
open PySem PySem.Spec PyProof.Rows
section
variable {prog:x0A}{w:World}{A:Around}{E:Value->Shared->Prop}{s:Shared}
theorem a7k (n:Nat):x1G none none (-1) (n:Int)=((n:Int) - 1,-1):=rfl
theorem a6S (n:Nat):x0W ((n:Int) - 1) (-1) (-1)=n:=by
 unfold x0W;rw [if_neg (by decide)];have h1:(- -1:Int)=1:=by decide
 rw [h1]
 by_cases h:(n:Int) - 1 > -1
 · rw [if_pos h,Int.ediv_one];omega
 · rw [if_neg h];omega
theorem a2O {sl:Addr}{vk:Value}{n:Nat}{Q:Int×Int×Nat->Shared->Prop}(hs:s.heap.IsSliceOf sl .none .none vk)(pk:IsPart vk (some (-1)))
   (h:Q ((n:Int) - 1,-1,n) s):wpAny (model prog w) A (x1Z (.ref sl) (pure (n:Int))) Q E s:=by
 obtain⟨os,hos,hcs,hds⟩:=id hs;unfold x1Z x4j;refine x0b (x0b (x1k hos hds (x:=.none) rfl (x0b (x1k hos hds (x:=.none) rfl (x0b (x1k hos hds (x:=vk) rfl (x0e ?_)))))));refine x0b (a1p pk ?_);show wpAny _ _ (if((-1:Int) == 0)=true then _ else _) _ _ s;rw [if_neg (by decide)];refine x0b (a1p .none (x0b (a1p .none (x0b (x0e ?_)))));show wpAny _ _ (match x1G none none (-1) (n:Int) with | (lo,hi)=>pure (lo,(-1:Int),x0W lo hi (-1))) _ _ s;rw [a7k];show wpAny _ _ (pure ((n:Int) - 1,(-1:Int),x0W ((n:Int) - 1) (-1) (-1))) _ _ s;rw [a6S];exact x0e h
theorem b0s {α β:Type}{f g:α->Option β}:∀l:List α,(∀m∈l,f m=g m)->l.filterMap f=l.filterMap g:=by
 intro xq
 induction xq with
 | nil =>
   intro _;exact rfl
 | cons x l ih =>
   intro h;rw [x2p,x2p,h x x0h,ih fun m hm=>h m (x0d _ hm)]
theorem a9P (xs:Array Value):((x0j xs.size).filterMap fun(m:Nat)=>xs[((xs.size:Int) - 1 + (m:Int) * -1).toNat]?).toArray=xs.toList.reverse.toArray:=by
 congr 1
 have e:(x0j xs.size).filterMap (fun(m:Nat)=>xs[((xs.size:Int) - 1 + (m:Int) * -1).toNat]?)=((x0j xs.size).map fun k=>xs.size - 1 - k).filterMap (xs[·]?):=by
   rw [List.filterMap_map];refine b0s _ fun m hm=>?_;have:=x1q.mp hm;show _=xs[xs.size - 1 - m]?
   congr 1
   omega
 rw [e,PySem.W.krv_range,List.filterMap_reverse,PySem.W.krv_all]
theorem getItem_tuple_rev {t sl:Addr}{items:Array Value}{vk:Value}{Q:Value->Shared->Prop}(ht:IsTup s.heap t items)(hs:s.heap.IsSliceOf sl .none .none vk)(pk:IsPart vk (some (-1)))
   (h:Q (.ref s.heap.objs.size) { s with heap:=s.heap.push { cls:=.type "tuple",data:=.seq items.toList.reverse.toArray } })
   (hsz:items.size<=x0v):wpAny (model prog w) A (x3W (.ref t) (.ref sl)) Q E s:=by
 have htake:sizeOk (.seq items.toList.reverse.toArray):=by
   show items.toList.reverse.toArray.size<=x0v;rw [x0n,x2s,x1E];omega
 obtain⟨os,hos,hcs,hds⟩:=id hs;have hTs:s.TypeIs (.ref sl) "slice":=⟨os,hos,hcs⟩;unfold x3W
 try with_reducible refine x1m ?_
 first | refine x0b (x0e ?_) | skip
 refine x0b (wpAny_sequenceKey ht.typeIs (by decide) ?_)
 refine x0b (x0Q (name:=x0i "__getitem__") ht.typeIs x0Z
   (x0X x0Z ht.typeIs entry_tuple_getitem ?_ (args_tuple_getitem _ _)))
 show wpAny _ _ (x2H (.ref t)>>=_) _ _ s;refine x0b (tupleItemsOf_ ht ?_);refine x0b (x2T hTs ?_);rw [if_pos (by decide)];refine x0b (a2O hs pk ?_)
 have hno:¬((((items.size:Int) - 1) == 0 && (-1:Int) == 1 && items.size == items.size)=true):=by
   intro q;rw [x1s,x1s] at q;exact absurd (eq_of_beq q.1.2) (by decide)
 show wpAny _ _ (if(((items.size:Int) - 1) == 0 && (-1:Int) == 1 && items.size == items.size)=true then _ else _) _ _ s;rw [if_neg hno,a9P]
 first
   | exact x0b (m:=x1a _) (x0F (x0e ⟨_,rfl,x0e h⟩) htake)
   | exact x0b (m:=x1a _) (x0F (x0b (x0e (x0e ⟨_,rfl,x0e h⟩))) htake)
   | exact x0b (x0b (m:=x1a _) (x0F (x0e (x0e ⟨_,rfl,x0e h⟩)) htake))
   | exact x0b (x0b (m:=x1a _) (x0F (x0e ⟨_,rfl,x0e h⟩) htake))
end
end HT
namespace L2
open PySem PySem.Spec PyProof.Rows
section
variable {X:Cx}{e st:Expr}{te:TE}{ts:TE}{pos p2:Pos}
def rRev (K:x0a):V->Hp->VK->Prop:=fun x H Q=>∃a xs,x=.ref a/\((SqL K H a xs/\∀p,H p=none->Q (.ref p) (upd H p (.lst xs.reverse)))\/(SqT K H a xs/\∀p,H p=none->Q (.ref p) (upd H p (.tup xs.reverse))))
def tRev (K:x0a)(te ts:TE):TE:=fun σ H Q=>te σ H fun x H1=>ts σ H1 fun y H2=>y=.int (-1)/\rRev K x H2 Q
theorem Vals.rev {xs:List V}{us:List Value}(r:Vals xs us):Vals xs.reverse us.reverse:=by
 induction r with
 | nil=>exact .nil
 | cons r1 _ ih =>
   rw [x3r,x3r];exact ih.append (.cons r1 .nil)
theorem pe_rev (he:PE X e te)(hs:PE X st ts):PE X (.Subscript e (.Slice none none (some st) p2) pos) (tRev X.K te ts):=by
 intro pins s σ H Q I h;refine Subscript_ (thn (he pins s σ H _ I h) fun v s1 ⟨x,H1,I1,r1,q1⟩=>?_);refine wpAny_Slice ?_;rw [evalPart_none];refine x0e (x0e ?_);rw [evalPart_some];refine thn (hs pins s1 σ H1 _ I1 q1) fun vk s3 ⟨y,H3,I3,ry,q3⟩=>?_;obtain⟨rfl,a,xs,rfl,q⟩:=q3;obtain⟨t,rfl⟩:=ry;obtain rfl:v=.ref a:=r1;have I4:Inv X pins σ H3 { s3 with heap:=s3.heap.push { cls:=.type "slice",data:=.fields #[.none,.none,.int (-1) t] } }:=I3.kept (t':=s3.toks) fun b ob q=>x0c _ q;show wpAny (model X.prog X.w) X.A (subscriptTail e (.Slice none none (some st) p2) (.ref a) (.ref s3.heap.objs.size)) (EP X pins σ Q) X.xe { s3 with heap:=s3.heap.push { cls:=.type "slice",data:=.fields #[.none,.none,.int (-1) t] } };rcases q with⟨hq,q⟩ | ⟨hq,q⟩
 · obtain⟨its,r,ht,hz⟩:=I4.list hq;refine tail_any (ops:=[.ref a,.ref s3.heap.objs.size]) ht.isList.typeIs slot_list_getitem.lookup ?_ (by with_unfolding_all rfl);refine wpAny_getItem_list_slice ht.isList (x4f ..) .none .none (.int (-1) t) (by decide) ?_ (by rw [x0n];have:=r.length;omega);rw [PySem.W.krv_pick];refine⟨.ref _,_,I4.laid (t':=s3.toks) (o:=.lst xs.reverse) (fun b ob q=>x0c _ q) (x0m _) ?_,rfl,q _ (I4.hok.fresh (x0m _))⟩;exact⟨by rw [x2s];exact hz,its.reverse,0,r.rev,x0p _ rfl⟩
 · obtain⟨its,r,ht,hz⟩:=I4.tuple hq;refine tail_any (ops:=[.ref a,.ref s3.heap.objs.size]) ht.typeIs PyProof.Rows.slot_tuple_getitem.lookup ?_ (by with_unfolding_all rfl);refine HT.getItem_tuple_rev ht (x4f ..) (.int (-1) t) ?_ (by rw [x0n];have:=r.length;omega);refine⟨.ref _,_,I4.laid (t':=s3.toks) (o:=.tup xs.reverse) (fun b ob q=>x0c _ q) (x0m _) ?_,rfl,q _ (I4.hok.fresh (x0m _))⟩;exact⟨by rw [x2s];exact hz,its.reverse,r.rev,a1T.new _ _⟩
end
end L2
namespace Pu
open PySem PySem.Spec L2
section
variable {T:PotK}{ι:Type}{K:x0a}{F:ι->Cx}{e:Expr}{pe:pE}{pos p2 p3 p4:Pos}
theorem Reps.rev {K:x0a}{G:Gh}{H:Hp}:∀{xs:List PV} {vs:List V},Reps K G H xs vs->Reps K G H xs.reverse vs.reverse
 | [],vs,r=>by obtain rfl:vs=[]:=r;exact rfl
 | x :: xs, vs, r => by
   obtain⟨v,r',rfl,r1,r2⟩:=r;rw [x3r,x3r];exact(Reps.rev r2).append ⟨v,[],rfl,r1,rfl⟩
def wRev:w1:=fun x R=>match x with | .lst xs=>R (.lst xs.reverse) | .tup xs=>R (.tup xs.reverse) | _=>False
theorem qe_rev {i:Nat}(he:QR T K F e pe)(hK:∀z,(F z).K=K:=by intro _;rfl):QE T K F (.Subscript e (.Slice none none (some (.UnaryOp .USub (.Constant (.int 1) i p3) p4)) p2) pos) (qUn wRev pe):=by
 obtain⟨t,h1,h2⟩:=he;refine⟨_,fun z=>hK z▸pe_rev (h1 z) (b2p a7u a0s),fun C G σ H env n R Q hK hT S hp k=>?_⟩;refine h2 C G σ H env n _ _ hK hT S hp fun x env1 n1 v H1 p1 S1 r1 f1=>?_;subst hK;have rx:=r1.rd S1;refine⟨1,rfl,rfl,?_⟩;unfold wRev at p1
 split at p1
 · obtain⟨a,vs,ev,hq,r⟩:=rx.lst;exact⟨a,vs,ev,.inl ⟨hq,fun p hn=>k _ _ _ _ _ p1 (S1.same (Same.lay1 hn)) (a3W (S1.fresh hn) hn r.rev) (f1.trans (Fr.of (Same.lay1 hn)))⟩⟩
 · obtain⟨a,vs,ev,hq,r⟩:=rx.tup;exact⟨a,vs,ev,.inr ⟨hq,fun p hn=>k _ _ _ _ _ p1 (S1.same (Same.lay1 hn)) (a1K (S1.fresh hn) hn r.rev) (f1.trans (Fr.of (Same.lay1 hn)))⟩⟩
 · exact p1.elim
end
end Pu
end
section
namespace L2
open PySem PySem.Spec PyProof.Rows
def Itd (a:Int)(n:Nat):It:=⟨fun i _=>i < n,fun i H x H'=>H'=H/\x=.int (a - i),fun i _=>n<=i⟩
theorem a7z {P:x0A}{w:World}{K:x0a}{tg:Expr}(it:Addr)(lo:Int)(n:Nat):Turn P w K tg (Itd lo n) [it] it (fun i h=>IsRangeIter h it (lo + (i:Nat) * -1) ((n:Int) - (i:Nat)) (-1)) where
 mem:=by simp
 obj:=fun i h st b hb=>by
   have e:b=it:=by simpa using hb
   subst e
   exact⟨_,st,fun v z=>by
     have z':Data.fields _=Data.cell v:=z
     cases z'⟩
 keep:=fun i h h' st k=>k it (by simp) _ st
 item:=by
   intro X hP hw hK hc i pins s σ H E I hf st hg;subst hP hw hK;obtain⟨f0,f1,f2,f3,f4,f5⟩:=hf it (by simp);have W:=Walks.range (prog:=X.prog) (w:=X.w) (I.ok.hd hc) it lo (-1) n;refine W.item i s _ _ hg st fun v h' tk hv st' kk=>?_;obtain⟨t,rfl⟩:=hv;have I1:Inv X pins σ H { s with heap:=h',toks:=tk }:=I.turned (fun b o hb e=>kk b o (by simpa using hb) e) f0 f1 f3 f4 f5;refine⟨_,rfl,a8J (s:={ s with heap:=h',toks:=tk }) (n:="range_iterator") st' rfl rfl (by decide) ⟨.int (lo - i),H,I1,⟨t,?_⟩,⟨rfl,rfl⟩,st',fun b hb=>(hf b hb).1⟩⟩;have e:lo + (i:Int) * -1=lo - i:=by omega
   rw [e]
 done:=by
   intro X hP hw hK hc i pins s σ H E I hf st hg;subst hP hw hK;obtain⟨f0,f1,f2,f3,f4,f5⟩:=hf it (by simp);exact wpAny_pyNext_range_end (I.ok.hd hc) st (by have:n<=i:=hg;omega) fun h' eb=>⟨rfl,I.turned (t':=s.toks) (fun b o hb e=>eb b o hb e) f0 f1 f3 f4 f5⟩
 self:=fun _ _ _ _ _ st h=>wpAny_pyIter_rangeiter st h
section
variable {X:Cx}{tg:Expr}
theorem a2a (a b:Int):x2q a b (-1)=if a > b then a - b else 0:=by
 unfold x2q;rw [if_neg (by decide)];have h1:(- -1:Int)=1:=by decide
 rw [h1,Int.ediv_one]
 split <;> omega
theorem a6L {a b:Int}(ha:-1000000<=a)(ha':a<=1000000)(hb:-1000000<=b)(hb':b<=1000000):Builtin.Range.small a b (-1)=true:=by
 unfold Builtin.Range.small;rw [a2a];simp only [Builtin.Range.rangeFitsLong,x1s,Bool.or_eq_true,decide_eq_true_eq,beq_iff_eq,show ¬((-1:Int) > 0) by decide,if_false]
 split <;> omega
theorem b2Z {pins:List (Addr×Obj)}{σ:St}{H:Hp}{s:Shared}{R:It->Hp->Prop}{E:Value->Shared->Prop}{lo hi:Int}{t u v:Tok}{tk:Nat}(I:Inv X pins σ H s)(h1:-1000000<=lo)(h2:lo<=1000000)(h3:-1000000<=hi)(h4:hi<=1000000)
   (q:R (Itd lo (lo - hi).toNat) H):wpAny (model X.prog X.w) X.A (pyIter (.ref s.heap.objs.size)) (PIE X pins σ tg R) E { s with heap:=s.heap.push { cls:=.type "range",data:=.fields #[.int lo t,.int hi u,.int (-1) v] },toks:=tk }:=by
 refine wpAny_pyIter_range (IsRange.new ..) (a6L h1 h2 h3 h4) ?_;have I1:Inv X pins σ H { s with heap:=s.heap.push { cls:=.type "range",data:=.fields #[.int lo t,.int hi u,.int (-1) v] },toks:=tk }:=I.kept fun b o e=>x0c _ e
 refine⟨(s.heap.push { cls:=.type "range",data:=.fields #[.int lo t,.int hi u,.int (-1) v] }).objs.size,[(s.heap.push { cls:=.type "range",data:=.fields #[.int lo t,.int hi u,.int (-1) v] }).objs.size],_,_,H,rfl,
   I1.kept (t':=tk) fun b o e=>x0c _ e,a7z _ lo (lo - hi).toNat,?_,fun b hb=>?_,q⟩
 · have e1:lo + ((0:Nat):Int) * -1=lo:=by simp
   have e2:(((lo - hi).toNat:Nat):Int) - ((0:Nat):Int)=x2q lo hi (-1):=by rw [a2a];split <;> omega
   show IsRangeIter _ _ (lo + ((0:Nat):Int) * -1) ((((lo - hi).toNat:Nat):Int) - ((0:Nat):Int)) (-1);rw [e1,e2];exact x0p _ rfl
 · have e:b=(s.heap.push { cls:=.type "range",data:=.fields #[.int lo t,.int hi u,.int (-1) v] }).objs.size:=by simpa using hb
   subst e;exact I1.fpOk (x0m _) (I1.hok.fresh (x0m _))
def iDown (ta:TA):TI:=fun σ H R=>ta σ H fun vs H1=>∃i j:Int,vs=[.int i,.int j,.int (-1)]/\(-1000000<=i/\i<=1000000/\-1000000<=j/\j<=1000000)/\R (Itd i (i - j).toNat) H1
theorem b2l {a b c:Expr}{ta:TA}{p pos:Pos}(hg:Gl X "range")(hm:X.mg "range"=none)(ha:PA X [a,b,c] ta)(hs:x0T [a,b,c] X.env=(false,eval a X.env)::x0T [b,c] X.env:=by rfl)(hs2:(backTo pos (x0T [b,c] X.env)).any (·.1)=false:=by rfl) :
   PI X tg (.Call (.Name "range" p) [a,b,c] [] pos) (iDown ta):=by
 intro pins s σ H R I h;refine Call_ (a2r I hg hm boot_range (x0Y (thn (ha pos pins s σ H _ I h) fun us s1 ⟨vs,H1,I1,r1,q1⟩=>?_) hs hs2));obtain⟨i,j,e,⟨q1,q2,q3,q4⟩,q⟩:=q1;subst e;cases r1 with
 | cons r rr =>
   cases rr with
   | cons r' rr =>
     cases rr with
     | cons r'' rr =>
       cases rr;obtain⟨t,rfl⟩:=r;obtain⟨t',rfl⟩:=r';obtain⟨t'',rfl⟩:=r'';exact call_range_3 (by decide) (b2Z I1 q1 q2 q3 q4 q) (.inl (PyProof.noPylong_small (by omega)))
end
end L2
namespace Pu
open PySem PySem.Spec L2
section
variable {T:PotK}{ι:Type}{K:x0a}{F:ι->Cx}{tg a b c:Expr}{pa pb pc:pE}{pos:Pos}
theorem b0n {K:x0a}{G:Gh}{H:Hp}(lo:Int)(m:Nat):ItR K G H (Itd lo m) ((x0j m).map fun(k:Nat)=>PV.int (lo - k)):=by
 intro G2 H2 hk hM hp hf;refine⟨fun i x e=>?_,fun i hi=>(show m<=i by simpa using hi)⟩;rw [x0r] at e;cases e1:(x0j m)[i]? with
 | none=>rw [e1] at e;cases e
 | some j =>
   rw [e1] at e;cases e;obtain⟨hi,e2⟩:=x0k.mp e1;rw [x3g] at e2;subst e2;refine⟨(show i < m by simpa using hi),fun v H3 y=>?_⟩;obtain⟨e3,y⟩:=y;subst e3 y;exact⟨Same.refl _,rfl⟩
def b1X (pa pb:pE):pA:=fun env n R=>pa env n fun x env1 n1=>pb env1 n1 fun y env2 n2=>match x,y with | .int i,.int j=>(-1000000<=i/\i<=1000000/\-1000000<=j/\j<=1000000)/\R ((x0j (i - j).toNat).map fun(k:Nat)=>PV.int (i - k)) env2 n2 | _,_=>False
theorem b1U {p p3 p4:Pos}{k1:Nat}(hg:∀z,Gl (F z) "range")(hm:∀z,(F z).mg "range"=none)(ha:QE T K F a pa)(hb:QE T K F b pb)(hs:a0w a=true:=by rfl)(hs2:a0w b=true:=by rfl):QI T K F tg (.Call (.Name "range" p) [a,b,.UnaryOp .USub (.Constant (.int 1) k1 p3) p4] [] pos) (b1X pa pb):=by
 obtain⟨t,h1,h2⟩:=ha;obtain⟨u,h3,h4⟩:=hb;refine⟨_,fun z=>b2l (hg z) (hm z) (a0o (h1 z) (a0o (h3 z) (a0o (b2p a7u a0s) a0M) (a0c hs2)) (a0c hs)) (a0c hs) (by rw [a0c hs2];rfl),fun C G σ H env n R Q hK hT S hp k=>?_⟩;refine h2 C G σ H env n _ _ hK hT S hp fun x env1 n1 v H1 p1 S1 r1 f1=>?_;refine h4 C G σ H1 env1 n1 _ _ hK hT S1 p1 fun y env2 n2 w H2 p2 S2 r2 f2=>?_;cases x with
 | int i =>
   cases y with
   | int j=>exact⟨1,rfl,i,j,by rw [show v=.int i from r1,show w=.int j from r2],⟨by omega,by omega,by omega,by omega⟩,k _ _ _ _ _ p2.2 S2 (f1.trans f2) (b0n i _)⟩
   | _=>exact p2.elim
 | _=>exact p2.elim
end
end Pu
end
section
namespace L2
open PySem PySem.Spec PyProof.Rows
theorem a3x:∀{ys:List Str} {us:List Value},Vals (ys.map V.str) us->StrsAre us ys
 | [],us,r=>by rw [x4g] at r;cases r;exact .nil
 | y :: ys, us, r => by
   rw [x1f] at r;cases r with
   | cons r1 r2 =>
     obtain⟨t,e⟩:=r1;subst e;exact .cons y t (a3x r2)
section
variable {X:Cx}
def b0J (K:x0a):V->List V->Hp->VK->Prop:=fun x vs H Q=>∃(l:Addr) (k:Str) (ys:List Str),x=.ref l/\vs=[.str k]/\SqL K H l (ys.map V.str)/\Q (.int (countIn (.str k) (ys.map PyData.str))) H
theorem b0f:MtM X "list.count" (b0J X.K):=by
 intro pins s σ H x vs v us Q I rx rv h;obtain⟨l,k,ys,rfl,rfl,hq,q⟩:=h;cases rx;obtain⟨u,rfl,ru⟩:=rv.one;obtain⟨t,rfl⟩:=ru;obtain⟨its,r,p,hz⟩:=I.list hq;exact count_list_strs p.isList (a3x r) ⟨.int _,H,I.tok _,⟨_,rfl⟩,q⟩
end
end L2
namespace Pu
open PySem PySem.Spec PyProof.Rows L2
section
variable {T:PotK}{ι:Type}{K:x0a}{F:ι->Cx}{e c:Expr}{pe pc:pE}{pos:Pos}
def a5R:w2:=fun x y R=>match x,y with | .lst xs,.str k=>(match a3t xs with | some ys=>R (.int (countIn (.str k) (ys.map PyData.str))) | none=>False) | _,_=>False
theorem a9F {ap:Pos}(he:QE T K F e pe)(hc:QE T K F c pc)(hs:a0w c=true:=by rfl)(hbase:∀z,attributeBase e "count" (F z).env (eval e (F z).env)=eval e (F z).env:=by intro _;rfl)(hline:(ap.endLine == pos.line)=true:=by rfl)
   (hfew:∀z,((backTo pos (x0T [c] (F z).env)).all (fun x=>!x.1) && (backToKw pos (keywordEach [] (F z).env)).all (fun x=>x.1.isSome) && decide (([c]:List Expr).length + ([]:List Keyword).length + (if([]:List Keyword).isEmpty then 0 else 1) < 30))=true:=by intro _;rfl) (hK:∀z,(F z).K=K:=by intro _;rfl):QE T K F (.Call (.Attribute e "count" ap) [c] [] pos) (fun env n R=>pe env n fun x env1 n1=>(∃xs,x=.lst xs)/\pc env1 n1 fun y env2 n2=>a5R x y fun z=>R z env2 n2):=by
 obtain⟨t,a1,a2⟩:=he;obtain⟨u,b1,b2⟩:=hc;refine⟨tBM K "list" (b0J K) t (a4z u tNil),fun z=>hK z▸pe_bm PySem.F.plainAttrs_list PySem.F.slot_list_count PySem.F.type_list_count b0f (a1 z) (a0o (b1 z) a0M (a0c hs)) (hbase z) (hfew z) hline (a0c hs),fun C G σ H env n R Q hK hT S hp k=>?_⟩;refine a2 C G σ H env n _ _ hK hT S hp fun x env1 n1 v H1 q1 S1 r1 f1=>?_;obtain⟨⟨xs,rfl⟩,q1⟩:=q1;obtain⟨a,vs,rfl,ta,ra⟩:=r1;refine⟨.inl ⟨rfl,vs,SqL.of ta.2⟩,?_⟩;refine b2 C G σ H1 env1 n1 _ _ hK hT S1 q1 fun y env2 n2 w H2 q2 S2 r2 f2=>?_;unfold a5R at q2
 split at q2
 · rename_i xs' kk e1;cases e1
   split at q2
   · rename_i ys ey;obtain⟨a',vs',e3,ta',ra'⟩:=(show Rep K G H1 (.lst xs) (.ref a) from⟨a,vs,rfl,ta,ra⟩).fr f2;cases e3;exact⟨a,kk,ys,rfl,by rw [show w=.str kk from r2],a4y ey ra'▸SqL.of ta'.2,k _ _ _ _ _ q2 S2 rfl (f1.trans f2)⟩
   · exact q2.elim
 · exact q2.elim
end
end Pu
namespace Pu
def b0R (pe pc:pE):pE:=fun env n R=>pe env n fun x env1 n1=>(∃xs,x=.lst xs)/\pc env1 n1 fun y env2 n2=>a5R x y fun z=>R z env2 n2
end Pu
end
section
namespace L2
open PySem PySem.Spec PyProof.Rows
section
variable {X:Cx}{pos:Pos}
theorem a3V:seqSlot? (.type "list") (dunderI "add")=pure (some (.builtin "list.__iadd__")):=PySem.seqSlot_of F.slot_list_iadd.lookup (by decide +kernel)
theorem a5F:fillsInplaceSlot (.type "list") "add" (Operator.Add == .Add)=pure false:=by
 unfold fillsInplaceSlot;show(typeLookup (.type "list") (dunderI "add")>>=fun fi=>pure (fi.isSome && !isSeqSlot fi))=pure false;rw [F.slot_list_iadd.lookup];show pure (true && !isSeqSlot (some (.builtin "list.__iadd__")))=(pure false:Sem Bool);rw [show isSeqSlot (some (.builtin "list.__iadd__"))=true by decide +kernel]
 rfl
def b0I:R2:=fun x y H Q=>∃l b xs zs,x=.ref l/\y=.ref b/\H l=some (.lst xs)/\H b=some (.lst zs)/\xs.length + zs.length<=x0v/\Q (.ref l) (upd H l (.lst (xs++zs)))
theorem a4W:OpR X (inplaceOp .Add) b0I:=by
 intro pins s σ H x y v u Q I rx ry h;obtain⟨l,b,xs,zs,rfl,rfl,hH,hB,hz,q⟩:=h;cases rx;cases ry;obtain⟨z,its,n,r,hl,e⟩:=I.lstM hH;obtain⟨z2,its2,n2,r2,hl2,e2⟩:=I.lstM hB;have hsz:its.toArray.size + its2.toArray.size<=x0v:=by rw [x0n,x0n];omega
 have hlong:¬(!its.toArray.isEmpty && x2U (its.toArray.size + its2.toArray.size))=true:=by
   rw [b0c hsz,Bool.and_false];exact x0J
 have ha:s.TypeIs (.ref l) "list":=⟨_,e,rfl⟩;have hb:s.TypeIs (.ref b) "list":=⟨_,e2,rfl⟩;unfold inplaceOp;refine x1m ?_;refine x0b (x2T ha (x0b (wpAny_of_eq a5F ?_)));show wpAny _ _ (if false=true then _ else _) _ _ s;rw [if_neg x0J];refine x0b (binaryOp1_none (nm:="add") ha hb noFill_list_add ?_);refine x0b (wpAny_of_eq a3V ?_);refine x0b (x2x ?_)
 refine call_meets F.slot_list_iadd ha F.entry_list_iadd (F.args_list_iadd_2 _ _)
   (AutoSeq1.list___iadd___list_list_0 l its.toArray n b its2.toArray n2 hlong (by rw [x0n];omega) (by omega)) ⟨e,e2,?_⟩
 refine⟨.ref l,_,I.lset (its':=its++its2) hH e (by simp) (r.append r2) ?_,rfl,q⟩;rw [x0q];omega
end
end L2
namespace Pu
open PySem PySem.Spec L2
section
variable {T:PotK}{np:Bool}{ι:Type}{K:x0a}{F:ι->Cx}{e:Expr}{st:Stmt}{pe:pE}{pos:Pos}
theorem sw_aug {X:Cx}{i:Nat}{x:Str}{e:Expr}{op:Operator}{ti:TIp}{pos' pos:Pos}(hN:X.N.Nodup)(hi:X.N[i]?=some x)(hx:Loc X.env.scope x)(ho:OpR X (inplaceOp op) ti)(hf:X.fn x=true\/X.env.scope.names.lookup x=some .local:=by first | exact .inl rfl | exact .inr rfl | assumption)(te:TE)(h:EW X e te):SW X (.AugAssign (.Name x pos') op e pos) (tAug i te ti):=⟨ps_aug hN hi hx h.h ho hf⟩
def b1Y (i:Nat)(pe:pE):pS:=fun D env n=>(∃xs,env[i]?=some (some (.ow .lst xs)))/\pe env n fun y env1 n1=>match env1[i]?,y with | some (some (.ow .lst xs)),.lst ys=>xs.length + ys.length<=1000000/\D.nx (env1.set i (some (.ow .lst (xs++ys)))) n1 | _,_=>False
theorem b1S (i:Nat)(h:∀z te,EW (F z) e te->SW (F z) st (tAug i te b0I))(he:QE T K F e pe):QS T np K F st (b1Y i pe):=by
 obtain⟨t,a1,a2⟩:=he;refine⟨_,fun z=>(h z _ ⟨a1 z⟩).h,fun C G σ H env n PD D hK hT hn S hp L=>?_⟩;obtain⟨⟨xs0,e0⟩,hp⟩:=hp;obtain⟨a,vs,ev,h1,h2,h3,h4,r⟩:=S.slots i _ e0;refine⟨.ref a,ev,?_⟩;refine a2 C G σ H env n _ _ hK hT S hp fun y env1 n1 v H1 q1 S1 r1 f1=>?_
 split at q1
 · rename_i xs ys ex;obtain⟨a',us,ev',g1,g2,g3,g4,r'⟩:=S1.slots i _ ex;rw [ev] at ev';cases ev';subst hK;obtain⟨b,ws,rfl,tb,rb⟩:=r1;obtain⟨S2,f2⟩:=S1.put ex ev (r'.append rb);refine⟨a,b,us,ws,rfl,rfl,g4,tb.2,by rw [<- r'.length,<- rb.length];exact mil q1.1,?_⟩
   have es:σ.set i (some (.ref a))=σ:=by
     obtain⟨hi,e⟩:=x0k.mp ev;rw [<- e];exact List.set_getElem_self hi
   show D.nx (σ.set i (some (.ref a))) _;rw [es];exact L.nx _ _ _ _ _ q1.2 S2 (Ext.fr (f1.trans f2))
 · exact q1.elim
end
end Pu
end
section
namespace Pu
open PySem PySem.Spec L2
section
variable {ι:Type}{K:x0a}{F:ι->Cx}{a b:Expr}{pos pos':Pos}{pa pb:pE}
def a4B (K:x0a):Sp:=fun vs H Q _=>∃(a:Addr) (ns:List Int) (k:Int),vs=[.ref a,.int k]/\SqL K H a (ns.map V.int)/\ns.length<=63/\0<=k/\k<=1000/\
 ∀H1,Same H H1->∀p own seed,H1 p=none->a7m own seed 0->Q (.ref p) (upd H1 p (.lst [.int own,.int seed,.int 0]))
theorem a9O {P:x0A}{w:World}{mg:Str->Option Value}{base:Heap}{x:Str}{k:Nat}{ps:List Str}(G:Kn P w K mg base x k ps (spPot K)):Kn P w K mg base x k ps (a4B K):=G.imp fun vs H Q E h=>by
 obtain⟨a,ns,k,e,hs,_,h0,h1,q⟩:=h;exact⟨a,ns,k,e,hs,h0,h1,q H (Same.refl _)⟩
def a4b (i:Nat)(pa pb:pE):pS:=fun D env n=>pa env n fun x env1 n1=>pb env1 n1 fun y env2 n2=>match x,y with | .scr ns,.int k=>(ns.length<=63/\0<=k/\k<=1000)/\∀q:Nat,D.nx (env2.set i (some (.v (.pot q)))) n2 | _,_=>False
theorem a6P (i:Nat){st:Stmt}{x:Str}{p:Pos}{k j:Nat}{ps:List Str}(h:∀z te,EW (F z) (.Call (.Name x p) [a,b] [] pos) te->SW (F z) st (tAsg te (a1I i)))(hG:∀z,Kn (F z).prog (F z).w (F z).K (F z).mg (F z).base x k ps (a4B K))(hr:∀z,Room j (F z).A)(hk:k<=j)(hg:∀z,Gl (F z) x)
   (ha:QE potL K F a pa) (hb:QE potL K F b pb) (n1:a0w a=true:=by rfl) (n2:a0w b=true:=by rfl) (hdb:(x == ("__debug__":Str))=false:=by decide):QS potL true K F st (a4b i pa pb):=by
 obtain⟨t,a1,a2⟩:=ha;obtain⟨u,b1,b2⟩:=hb;refine⟨_,fun z=>(h z _ ⟨pe_fn (hG z) (hr z) hk (hg z) (a0o (a1 z) (a0o (b1 z) a0M (a0c n2)) (a0c n1)) hdb (a0c n1) (by rw [a0c n2];rfl)⟩).h,fun C G σ H env n PD D hK hT hn S hp L=>?_⟩;refine a2 C G σ H env n _ _ hK hT S hp fun x env1 n1 v H1 q1 S1 r1 f1=>?_;refine b2 C G σ H1 env1 n1 _ _ hK hT S1 q1 fun y env2 n2 w H2 q2 S2 r2 f2=>?_
 split at q2
 · rename_i ns kk;obtain⟨a,ev,hq⟩:=a4E (.inl (r1.fr f2));refine(show a4B K [v,w] H2 (fun x H1=>a1I i x σ H1 D.nx) E0 from ?_);refine⟨a,ns,kk,by rw [ev,show w=.int kk from r2],hq,q2.1.1,q2.1.2.1,q2.1.2.2,fun H3 sm p own seed hn' ok=>?_⟩;have S3:=(S2.same sm).pot hn hT hn' ok;have S4:=S3.set i (x:=.pot G.pots.length) (v:=.ref p) ⟨p,by simp,rfl⟩;refine L.nx _ _ _ _ _ (q2.2 _) S4 ((Ext.fr ((f1.trans f2).trans (Fr.of sm))).trans ⟨fun b o _ e=>Same.lay1 hn' b o e,fun c hc=>(x0s.mp (show c∈p::G.M from hc)).elim (fun z=>.inr (z▸hn')) .inl,fun k q e=>?_⟩);obtain⟨hk,_⟩:=x0k.mp e;show(G.pots++[p])[k]?=_;rw [x0R hk];exact e
 · exact q2.elim
end
end Pu
end
section
namespace Pu
open PySem PySem.Spec L2
def SwOk (X:Cx)(e:Expr)(t:TE):Prop:=∀(i:Nat) (y:Str) (py spos:Pos),X.N.Nodup->X.N[i]?=some y->Loc X.env.scope y->x3A e (some (.Name y py)) spos.line X.env=pure true->(X.fn y=true\/X.env.scope.names.lookup y=some .local)->PS X (.Assign [.Name y py] e spos) (tAsg t (a1I i))
def QNC {ι:Type}(T:PotK)(K:x0a)(F:ι->Cx)(e:Expr)(pn:pA):Prop:=∃t,(∀z,PE (F z) e t)/\(∀z,SwOk (F z) e t)/\NOk K T t pn
section
variable {T:PotK}{np:Bool}{ι:Type}{K:x0a}{F:ι->Cx}{e:Expr}{pl:pA}{pg:pG}{pos:Pos}
theorem b1P (i:Nat){y:Str}{py spos:Pos}(h:QNC T K F e pl)(hN:∀z,(F z).N.Nodup)(hi:∀z,(F z).N[i]?=some y)(hy:∀z,Loc (F z).env.scope y)(hsw:∀z,x3A e (some (.Name y py)) spos.line (F z).env=pure true:=by intro _;rfl)(hf:∀z,(F z).fn y=true\/(F z).env.scope.names.lookup y=some .local:=by intro _;first | exact .inl rfl | exact .inr rfl):QS T np K F (.Assign [.Name y py] e spos) (qOwn i pl):=by
 obtain⟨t,a1,a3,a2⟩:=h;refine⟨_,fun z=>a3 z i y py spos (hN z) (hi z) (hy z) (hsw z) (hf z),fun C G σ H env n PD D hK hT hn S hp L=>?_⟩;refine a2 C G σ H env n _ _ hK hT S hp fun xs env1 n1 a vs Hb q1 S1 f1 hn1 r1=>?_;exact L.nx _ _ _ _ _ q1 (S1.own i hn1 (hK▸r1)) ((Ext.fr f1).trans (a1A hn1))
end
end Pu
end
section
namespace L2
open PySem PySem.Spec PyProof.Rows
def met (val:Nat->Key):Nat->List Key
 | 0=>[]
 | i + 1=>if(met val i).any (fun y=>decide (y=val i)) then met val i else met val i++[val i]
end L2
end
section
namespace L2
open PySem PySem.Spec PyProof.Rows
variable {items:Array Value}
def ItB (b:Bool)(h:Heap)(it l:Addr)(i:Nat):Prop:=match b with | true=>h.IsListIter it l i | false=>h.IsTupleIter it l i
def SeB (b:Bool)(h:Heap)(l:Addr)(items:Array Value):Prop:=match b with | true=>h.IsList l items | false=>h.IsTuple l items
theorem ItB.at {b:Bool}{h h':Heap}{it l:Addr}{i:Nat}(x:ItB b h it l i)(e:∀o,h.get? it=some o->h'.get? it=some o):ItB b h' it l i:=by
 cases b with
 | true=>exact(show h.IsListIter it l i from x).at e
 | false=>exact(show h.IsTupleIter it l i from x).at e
theorem SeB.at {b:Bool}{h h':Heap}{l:Addr}(x:SeB b h l items)(e:∀o,h.get? l=some o->h'.get? l=some o):SeB b h' l items:=by
 cases b with
 | true=>exact(show h.IsList l items from x).at e
 | false=>exact(show h.IsTuple l items from x).at e
theorem ItB.obj {b:Bool}{h:Heap}{it l:Addr}{i:Nat}(x:ItB b h it l i):∃o,h.get? it=some o/\(o.cls=.type "list_iterator"\/o.cls=.type "tuple_iterator")/\∀v,o.data≠.cell v:=by
 cases b with
 | true=>obtain⟨o,e,c,d⟩:=(show h.IsListIter it l i from x);exact⟨o,e,.inl c,fun v z=>by rw [d] at z;cases z⟩
 | false=>obtain⟨o,e,c,d⟩:=(show h.IsTupleIter it l i from x);exact⟨o,e,.inr c,fun v z=>by rw [d] at z;cases z⟩
theorem SeB.obj {b:Bool}{h:Heap}{l:Addr}(x:SeB b h l items):∃o,h.get? l=some o/\(o.cls=.type "list"\/o.cls=.type "tuple"):=by
 cases b with
 | true=>obtain⟨o,e,c,d⟩:=(show h.IsList l items from x);exact⟨o,e,.inl c⟩
 | false=>obtain⟨o,e,c,d⟩:=(show h.IsTuple l items from x);exact⟨o,e,.inr c⟩
theorem ItB.ne {b b':Bool}{h:Heap}{it l a:Addr}{i:Nat}(x:ItB b h it l i)(y:SeB b' h a items):a≠it:=fun z=>by
 obtain⟨o,e,c,_⟩:=x.obj;obtain⟨o',e',c'⟩:=y.obj;rw [z,e] at e';cases e';rcases c with c | c <;> rcases c' with c' | c' <;> (rw [c] at c';exact absurd c' (by decide))
section
variable {prog:x0A}{w:World}{A:Around}{E:Value->Shared->Prop}{s:Shared}
variable {items:Array Value}
theorem a6W {it t:Addr}{i:Nat}{x:Value}{Q:Value->Shared->Prop}(hit:s.heap.IsTupleIter it t i)(ht:s.heap.IsTuple t items)(hx:items[i]?=some x)
   (hQ:∀h',h'.IsTupleIter it t (i + 1)->x3z it s.heap h'->Q x { s with heap:=h' }):wpAny (model prog w) A (x0L (.ref it)) Q E s:=by
 obtain⟨oi,hoi,hci,hdi⟩:=id hit;obtain⟨ot,hot,_,nt,hdt⟩:=ht;have ty:=hit.typeIs;unfold x0L
 refine x0b (x0Q (name:=x0i "__next__") ty x2a
   (x0X x2a ty F.entry_tuple_iterator_next ?_ (F.args_tuple_iterator_next_1 _)))
 show wpAny _ _ (field (.ref it) 0>>=_) _ _ s;refine x0b (x1k hoi hdi (x:=.ref t) rfl ?_);show wpAny _ _ (if(x0I t == x1T)=true then _ else _) _ _ s;rw [if_neg (show ¬((x0I t == x1T)=true) from x0J)];show wpAny _ _ (field (.ref it) 1>>=_) _ _ s;refine x0b (x1k hoi hdi (x:=.int i 0) rfl ?_);show wpAny _ _ (seqItems? (.ref t)>>=_) _ _ s;refine x0b (x1R hot hdt ?_);simp only [x1i,hx];refine x0b (wpAny_setField hoi hdi (by simp) (x0e ⟨x,rfl,x0e (hQ _ ?_ (x1W ..))⟩));exact⟨_,x3B _ hoi (Obj.isFreed_of_fields (x3h hdi _)),(Obj.cls_mapFields ..).trans hci,by rw [x3h hdi];simp [rawInt]⟩
theorem a8r {it t:Addr}{i:Nat}{Q:Value->Shared->Prop}(hh:A.handled=none)(hit:s.heap.IsTupleIter it t i)(ht:s.heap.IsTuple t items)(hx:items[i]?=none)
   (hE:∀h' e,Heap.ExtBut it s.heap h'->(∃o,h'.get? e=some o/\o.cls=.type "StopIteration")->E (.ref e) { s with heap:=h' }):wpAny (model prog w) A (x0L (.ref it)) Q E s:=by
 obtain⟨oi,hoi,hci,hdi⟩:=id hit;obtain⟨ot,hot,_,nt,hdt⟩:=ht;have ty:=hit.typeIs;unfold x0L
 refine x0b (x0Q (name:=x0i "__next__") ty x2a
   (x0X x2a ty F.entry_tuple_iterator_next ?_ (F.args_tuple_iterator_next_1 _)))
 show wpAny _ _ (field (.ref it) 0>>=_) _ _ s;refine x0b (x1k hoi hdi (x:=.ref t) rfl ?_);show wpAny _ _ (if(x0I t == x1T)=true then _ else _) _ _ s;rw [if_neg (show ¬((x0I t == x1T)=true) from x0J)];show wpAny _ _ (field (.ref it) 1>>=_) _ _ s;refine x0b (x1k hoi hdi (x:=.int i 0) rfl ?_);show wpAny _ _ (seqItems? (.ref t)>>=_) _ _ s;refine x0b (x1R hot hdt ?_);simp only [x1i,hx];refine x0b (x2x (x0b (wpAny_setField hoi hdi (by simp) ?_)));show wpAny _ _ (newExc (.type "StopIteration") []>>=_) _ _ _;refine x0b ?_;simp only [newExc,newTuple];refine x0b (x0F ?_ (by size_fits));refine x0b (m:=firstArgMember _ _) (wpAny_of_eq (a:=x1T) (by first | rfl | (simp only [firstArgMember];rfl)) ?_);refine x0F ?_ (by size_fits);simp only [raiseNew];refine x0b (wpAny_handled ?_)
 first | rw [show A.in1.handled=none from hh] | rw [hh]
 refine x0b (x0e (wpAny_throw ?_));exact hE _ _ (((x1W ..).extBut.push _).push _) ⟨_,x0p _ rfl,rfl⟩
theorem a1X {b:Bool}{it t:Addr}{i:Nat}{x:Value}{Q:Value->Shared->Prop}(hit:ItB b s.heap it t i)(ht:SeB b s.heap t items)(hx:items[i]?=some x)
   (hQ:∀h',ItB b h' it t (i + 1)->x3z it s.heap h'->Q x { s with heap:=h' }):wpAny (model prog w) A (x0L (.ref it)) Q E s:=by
 cases b with
 | true=>exact wpAny_nextOf_list_item hit ht hx hQ
 | false=>exact a6W hit ht hx hQ
theorem a2p {b:Bool}{it t:Addr}{i:Nat}{Q:Value->Shared->Prop}(hh:A.handled=none)(hit:ItB b s.heap it t i)(ht:SeB b s.heap t items)(hx:items[i]?=none)
   (hE:∀h' e,Heap.ExtBut it s.heap h'->(∃o,h'.get? e=some o/\o.cls=.type "StopIteration")->E (.ref e) { s with heap:=h' }):wpAny (model prog w) A (x0L (.ref it)) Q E s:=by
 cases b with
 | true=>exact wpAny_nextOf_list_end hh hit ht hx hE
 | false=>exact a8r hh hit ht hx hE
theorem drawsB {b:Bool}(hh:A.handled=none)(it l:Addr)(hne:l≠it)(items:Array Value):Draws prog w A it [it,l] items.size (fun i v=>items[i]?=some v) (fun i h=>ItB b h it l i/\SeB b h l items) where
 live:=fun _ _ st=>let ⟨o,ho,_⟩:=st.1.obj;⟨o,ho⟩
 frame:=fun _ _ _ st hk=>⟨st.1.at fun o e=>hk it (by simp) o e,st.2.at fun o e=>hk l (by simp) o e⟩
 item:=fun i s Q E hi st hQ=>by
   refine a1X st.1 st.2 (x:=items[i]) (by simp [hi]) fun h' hit' hs'=>?_;exact hQ _ h' s.toks (by simp [hi]) ⟨hit',st.2.at fun o e=>hs'.extBut _ o hne e⟩ hs'
 done:=fun s Q E st hE=>a2p hh st.1 st.2 (by simp) hE
theorem b0u (l:Addr)(items:Array Value)(n:Nat)(dct:Option Addr)(sl:Array (Option Value)) :
   Meets (x4q.«enumerate.__new__» ⟨[.type "enumerate",.ref l],[]⟩) (fun _ R s=>s.heap.get? l=some { cls:=.type "tuple",dict:=dct,data:=.seq items n,slots:=sl }/\
     R (.ok (.ret (.ref (s.heap.push { cls := .type "tuple_iterator", data := .fields #[.ref l, .int 0 0] }).objs.size)))
       { s with heap:=(s.heap.push { cls:=.type "tuple_iterator",data:=.fields #[.ref l,.int 0 0] }).push { cls:=.type "enumerate",data:=.fields #[.none,.bool false,.ref s.heap.objs.size,rawInt 0,.none,.none] } }):=
 .of_wp fun prog w A R s hyp=>by
   obtain⟨hp,g,d,tk,os⟩:=s;obtain⟨hl,fin⟩:=hyp;have hsub:=sub_enumerate;have hL:Heap.IsTuple (Shared.heap ⟨hp,g,d,tk,os⟩) l items:=⟨_,hl,rfl,n,rfl⟩
   wp_walk using x2m hl
   refine wpAny_stack_any fun st=>x0e ?_
   split
   · rename_i c _ _ _ _ _;cases(c == x1o "enumerate")
     · wp_walk using x2m hl,x2A hL
       exact⟨_,rfl,fin⟩
     · wp_walk using x2m hl,x2A hL
       exact⟨_,rfl,fin⟩
   · wp_walk using x2m hl,x2A hL
     exact⟨_,rfl,fin⟩
theorem enumT {l:Addr}{Q:Value->Shared->Prop}(hL:s.heap.IsTuple l items)
   (h:∀h',IsEnum h' (s.heap.objs.size + 1) s.heap.objs.size 0 .none->h'.IsTupleIter s.heap.objs.size l 0->(∀b o,s.heap.get? b=some o->h'.get? b=some o)->Q (.ref (s.heap.objs.size + 1)) { s with heap:=h' }) :
   wpAny (model prog w) A (call (.type "enumerate") [.ref l]) Q E s:=by
 obtain⟨⟨c,dct,dt,sl⟩,hl,hc,n,hd⟩:=hL
 replace hc:c=.type "tuple":=hc
 replace hd:dt=.seq items n:=hd
 subst hc hd;refine callType_new F.called_enumerate (by decide) (F.typeCall_enumerate_1 _) (F.newCall_enumerate_1 _) (fun obj=>F.args_object_init_2 obj _) F.entry_enumerate_new (b0u l items n dct sl) ⟨hl,?_⟩;have hz:(s.heap.push { cls:=.type "tuple_iterator",data:=.fields #[.ref l,.int 0 0] }).objs.size=s.heap.objs.size + 1:=x2g ..;show _/\_;rw [hz]
 have he:IsEnum ((s.heap.push { cls:=.type "tuple_iterator",data:=.fields #[.ref l,.int 0 0] }).push { cls:=.type "enumerate",data:=.fields #[.none,.bool false,.ref s.heap.objs.size,rawInt 0,.none,.none] }) (s.heap.objs.size + 1) s.heap.objs.size 0 .none:=by
   have:=x0p (s.heap.push { cls:=.type "tuple_iterator",data:=.fields #[.ref l,.int 0 0] }) (o:={ cls:=.type "enumerate",data:=.fields #[.none,.bool false,.ref s.heap.objs.size,rawInt 0,.none,.none] }) rfl;rw [hz] at this;exact this
 exact⟨⟨_,he,rfl⟩,h _ he ⟨_,x0c _ (x0p _ rfl),rfl,rfl⟩ fun b o x=>x0c _ (x0c _ x)⟩
theorem enumB {b:Bool}{l:Addr}{Q:Value->Shared->Prop}(hL:SeB b s.heap l items)
   (h:∀h',IsEnum h' (s.heap.objs.size + 1) s.heap.objs.size 0 .none->ItB b h' s.heap.objs.size l 0->(∀b o,s.heap.get? b=some o->h'.get? b=some o)->Q (.ref (s.heap.objs.size + 1)) { s with heap:=h' }) :
   wpAny (model prog w) A (call (.type "enumerate") [.ref l]) Q E s:=by
 cases b with
 | true=>exact call_enumerate_list hL fun h' a b _ c=>h h' a b c
 | false=>exact enumT hL h
theorem b0v {b:Bool}{e it l:Addr}{j:Nat}{i:Int}{old:Value}{Q:Option Value->Shared->Prop}(hh:A.handled=none)(he:IsEnum s.heap e it i old)(hit:ItB b s.heap it l j)(ht:SeB b s.heap l items)(hx:items[j]?=none)
   (hQ:∀h',Heap.ExtBut it s.heap h'->Q none { s with heap:=h' }):wpAny (model prog w) A (pyNext (.ref e)) Q E s:=by
 have ty:s.TypeIs (.ref e) "enumerate":=⟨_,he,rfl⟩;unfold pyNext;refine x0b (x3i (x0Q (name:=x0i "__next__") ty F.slot_enumerate_next (x0X F.slot_enumerate_next ty F.entry_enumerate_next ?_ (F.args_enumerate_next_1 _))));show wpAny _ _ (field (.ref e) 2>>=_) _ _ _;refine x0b (x1k he rfl (x:=.ref it) rfl ?_);refine x0b (a2p (A:=A.in1) hh hit ht hx fun h' x he' hx'=>?_);obtain⟨o,ho,hc⟩:=hx';exact x0b (x3I (T:="StopIteration") (b:=true) ⟨o,ho,hc⟩ isSubtype_stop (x0e (hQ _ he')))
end
def SqB (b:Bool)(K:x0a)(H:Hp)(a:Addr)(xs:List V):Prop:=match b with | true=>SqL K H a xs | false=>SqT K H a xs
section
variable {X:Cx}
theorem Inv.seqB {b:Bool}{a:Addr}{xs:List V}{pins:List (Addr×Obj)}{σ:St}{H:Hp}{s:Shared}(I:Inv X pins σ H s)(h:SqB b X.K H a xs):∃its:List Value,Vals xs its/\SeB b s.heap a its.toArray/\xs.length<=x0v:=by
 cases b with
 | true=>obtain⟨its,r,p,z⟩:=I.list h;exact⟨its,r,p.isList,z⟩
 | false=>obtain⟨its,r,p,z⟩:=I.tuple h;exact⟨its,r,p,z⟩
theorem Inv.seqB_inj {b:Bool}{a:Addr}{xs ys:List V}{pins:List (Addr×Obj)}{σ:St}{H:Hp}{s:Shared}(I:Inv X pins σ H s)(h:SqB b X.K H a xs)(h':SqB b X.K H a ys):xs=ys:=by
 cases b with
 | true=>exact I.list_inj h h'
 | false=>exact I.tuple_inj h h'
def IteB (b:Bool)(K:x0a)(a:Addr):It:=
 ⟨fun i H=>∃xs x,SqB b K H a xs/\xs[i]?=some x,fun i H x H'=>∃p v,H p=none/\x=.ref p/\H'=upd H p (.tup [.int i,v])/\∀xs,SqB b K H a xs->xs[i]?=some v,fun i H=>∃xs,SqB b K H a xs/\xs.length<=i⟩
theorem a6K {b:Bool}{P:x0A}{w:World}{K:x0a}{elts:List Expr}{x1}{pos:Pos}(a e it:Addr)(hne:e≠it) :
   Turn P w K (.Tuple elts x1 pos) (IteB b K a) [e,it] e (fun i h=>(∃old,IsEnum h e it i old)/\ItB b h it a i) where
 mem:=by simp
 obj:=fun i h st c hc=>by
   obtain⟨⟨old,he⟩,st⟩:=st;obtain⟨o,e1,_,d⟩:=st.obj;have hc':c=e\/c=it:=by simpa using hc
   rcases hc' with rfl | rfl
   · exact⟨_,he,fun v z=>by cases z⟩
   · exact⟨o,e1,d⟩
 keep:=fun i h h' st k=>by
   obtain⟨⟨old,he⟩,st⟩:=st;exact⟨⟨old,k e (by simp) _ he⟩,st.at fun o e=>k it (by simp) o e⟩
 item:=by
   intro X hP hw hK hc i pins s σ H E I hf st hg;subst hP hw hK;obtain⟨⟨old,he⟩,st⟩:=st;obtain⟨xs,x,hq,hx⟩:=hg;obtain⟨its,rv,p,hz⟩:=I.seqB hq;obtain⟨u,hu,ru⟩:=rv.get hx;have nla:a≠it:=st.ne p
   have nea:e≠a:=fun z=>by
     obtain⟨o,e1,c1⟩:=p.obj;rw [<- z,he] at e1;cases e1;rcases c1 with c1 | c1
     · exact absurd (show x1o "enumerate"=x1o "list" from c1) (by decide)
     · exact absurd (show x1o "enumerate"=x1o "tuple" from c1) (by decide)
   have hi:i < its.toArray.size:=by
     obtain⟨h1,_⟩:=x0k.mp hu
     simpa using h1
   refine wpAny_pyNext_enum_itemD (drawsB (A:=X.A.in1) (I.ok.hd hc) it a nla its.toArray) he ⟨st,p⟩ hi hne (by simp [hne,nea]) fun y h' tk hy he' st' ht hz' k=>?_
   have ey:y=u:=by
     have:its[i]?=some y:=by simpa using hy
     rw [hu] at this;exact(x0C this).symm
   subst ey;refine⟨_,rfl,wpAny_letOwnedTupleGo_enum (s:={ s with heap:=h',toks:=tk + 1 }) he' fun h'' he'' sb=>?_⟩;have hpe:s.heap.objs.size≠e:=x2Q (x0l he);have ht'':h''.get? s.heap.objs.size=some { cls:=.type "tuple",data:=.seq #[.int i tk,y] }:=(sb.2 _ hpe).trans ht
   have k':∀c o,c∉[e,it]->s.heap.get? c=some o->h''.get? c=some o:=fun c o hb q=>by
     have hb1:c≠e:=fun z=>hb (by simp [z]);have hb2:c≠it:=fun z=>hb (by simp [z]);exact(sb.2 c hb1).trans (k c o hb1 hb2 q)
   have I1:Inv X pins σ (upd H s.heap.objs.size (.tup [.int i,x])) { s with heap:=h'',toks:=tk + 1 }:=
     I.turnedNew k' hf ⟨by show 2<=x0v;decide,[.int i tk,y],.cons ⟨_,rfl⟩ (.cons ru .nil),⟨_,ht'',rfl,_,rfl⟩⟩
   refine⟨.ref s.heap.objs.size,_,I1,rfl,⟨_,x,I.fresh,rfl,rfl,fun ys hy=>by rw [I.seqB_inj hy hq];exact hx⟩,⟨⟨y,he''⟩,st'.1.at fun o q=>(sb.2 it (Ne.symm hne)).trans q⟩,fun c hb=>?_⟩;have hb':c=e\/c=it:=by simpa using hb
   have hbs:c≠s.heap.objs.size:=by
     rcases hb' with rfl | rfl
     · exact Ne.symm hpe
     · obtain⟨o,e1,_⟩:=st.obj;exact x0u (x0l e1)
   rw [a0f hbs];exact(hf c hb).1
 done:=by
   intro X hP hw hK hc i pins s σ H E I hf st hg;subst hP hw hK;obtain⟨⟨old,he⟩,st⟩:=st;obtain⟨xs,hq,hx⟩:=hg;obtain⟨its,rv,p,hz⟩:=I.seqB hq;obtain⟨f0,f1,f2,f3,f4,f5⟩:=hf it (by simp);have hl:=rv.length;refine b0v (I.ok.hd hc) he st p (x1C (by rw [x0n];omega)) fun h' eb=>⟨rfl,I.turned (t':=s.toks) (fun c o hb e=>eb c o hb e) f0 f1 f3 f4 f5⟩
 self:=fun _ _ _ _ _ st h=>by
   obtain⟨⟨old,he⟩,_⟩:=st;exact x3q he h
def iEnumB (b:Bool)(K:x0a)(ta:TA):TI:=fun σ H R=>ta σ H fun vs H1=>∃a,vs=[.ref a]/\(∃xs,SqB b K H1 a xs)/\R (IteB b K a) H1
theorem a9S (b:Bool){l:Expr}{ta:TA}{p pos:Pos}{elts:List Expr}{x1}{tpos:Pos}(hg:Gl X "enumerate")(hm:X.mg "enumerate"=none)(ha:PA X [l] ta)(hs:x0T [l] X.env=[(false,eval l X.env)]:=by rfl) :
   PI X (.Tuple elts x1 tpos) (.Call (.Name "enumerate" p) [l] [] pos) (iEnumB b X.K ta):=by
 intro pins s σ H R I h;refine Call_ (a2r I hg hm boot_enumerate (x0Y (thn (ha pos pins s σ H _ I h) fun us s1 ⟨vs,H1,I1,r1,q1⟩=>?_) hs rfl));obtain⟨a,e,⟨xs,hq⟩,q⟩:=q1;subst e;obtain⟨u,rfl,ru⟩:=r1.one;obtain rfl:u=x0I a:=ru;obtain⟨its,rv,pl,hz⟩:=I1.seqB hq;refine enumB pl fun h' hE hI hk=>?_;refine x3q hE ?_;have I2:Inv X pins σ H1 { s1 with heap:=h' }:=I1.kept (t':=s1.toks) hk;refine⟨s1.heap.objs.size + 1,[s1.heap.objs.size + 1,s1.heap.objs.size],_,_,H1,rfl,I2,a6K a _ _ (Nat.succ_ne_self _),⟨⟨_,hE⟩,hI⟩,fun c hb=>?_,q⟩;have hb':c=s1.heap.objs.size + 1\/c=s1.heap.objs.size:=by simpa using hb
 rcases hb' with rfl | rfl
 · exact I1.fpOk (x3X _) (I1.hok.fresh (x3X _))
 · exact I1.fpOk (x0m _) (I1.hok.fresh (x0m _))
end
end L2
end
section
namespace L2
open PySem PySem.Spec PyProof.Rows
section
variable {prog:x0A}{w:World}{A:Around}{E:Value->Shared->Prop}{s:Shared}
structure ZAp (z TI TO i1 i2:Addr):Prop where
 a1:TI≠z
 a2:TO≠z
 a3:i1≠z
 a4:i2≠z
 a5:TI≠TO
 a6:TI≠i1
 a7:TI≠i2
 a8:TO≠i1
 a9:TO≠i2
 a10:i1≠i2
theorem b1o {b1 b2:Bool}{z TI TO i1 i2 l1 l2:Addr}{k:Nat}{xs ys:Array Value}{x y a b:Value}{Q:Value->Shared->Prop}(D:ZAp z TI TO i1 i2)(m1:l1≠z)(m2:l2≠z)(m3:l1≠TO)(m4:l2≠TO)(m5:l1≠i1)(m6:l2≠i1)
   (hz:IsZip s.heap z TI TO .none) (hTI:IsPair s.heap TI (.ref i1) (.ref i2)) (hTO:IsPair s.heap TO a b) (h1:ItB b1 s.heap i1 l1 k) (h2:ItB b2 s.heap i2 l2 k) (hl1:SeB b1 s.heap l1 xs) (hl2:SeB b2 s.heap l2 ys) (hx:xs[k]?=some x) (hy:ys[k]?=some y)
   (hQ:∀h',IsZip h' z TI TO (rawInt s.heap.objs.size)->IsPair h' TO x y->ItB b1 h' i1 l1 (k + 1)->ItB b2 h' i2 l2 (k + 1)->IsPair h' s.heap.objs.size x y->
     (∀c o,c≠z->c≠TO->c≠i1->c≠i2->s.heap.get? c=some o->h'.get? c=some o)->Q (.ref s.heap.objs.size) { s with heap:=h' }) :
   wpAny (model prog w) A (x4q.«zip.__next__» ⟨[.ref z],[]⟩) (fun fin s'=>∃v,fin=.done (.ret v)/\Q v s') E s:=by
 show wpAny _ _ (field (.ref z) 2>>=_) _ _ _;refine x0b (x1k hz rfl (x:=.bool false) rfl ?_);show wpAny _ _ (field (.ref z) 3>>=_) _ _ _;refine x0b (x1k hz rfl (x:=.ref TI) rfl (x0b (x1R hTI rfl ?_)));show wpAny _ _ (x1u (.ref z)>>=_) _ _ _;refine x0b ?_;unfold x1u;refine x0b (x1k hz rfl (x:=.none) rfl (x0e ?_));simp only [if_true];refine x0b (x2x (x0b (x1k hz rfl (x:=.ref TO) rfl (x0b (x2e hz (by simp) fun g1 z1 s1=>?_)))))
 replace z1:IsZip g1 z TI TO .ellipsis:=z1
 refine x0b ?_;simp only [List.zipIdx_cons,List.zipIdx_nil,x3j,x3y];refine x0b (x0b (wpAny_onRaise ?_));show wpAny _ _ (x0L (.ref i1)>>=_) _ _ _;refine x0b (a1X (s:={ s with heap:=g1 }) (h1.at fun o e=>s1.extBut _ o D.a3 e) (hl1.at fun o e=>s1.extBut _ o m1 e) hx fun g2 j2 s2=>x0e ?_);have t2:IsPair g2 TO a b:=s2.extBut _ _ D.a8 (s1.extBut _ _ D.a2 hTO);refine x0b (x1R t2 rfl (x0b (wpAny_updateSeq_pair (s:={ s with heap:=g2 }) t2 fun g3 t3 s3=>x0b (wpAny_letGo (x0e ?_)))))
 replace t3:IsPair g3 TO x b:=t3
 refine x0b (x0b (wpAny_onRaise ?_));show wpAny _ _ (x0L (.ref i2)>>=_) _ _ _;have up3:∀c o,c≠z->c≠i1->c≠TO->s.heap.get? c=some o->g3.get? c=some o:=fun c o c1 c2 c3 e=>s3.extBut _ o c3 (s2.extBut _ o c2 (s1.extBut _ o c1 e));refine x0b (a1X (s:={ s with heap:=g3 }) (h2.at fun o e=>up3 _ o D.a4 D.a10.symm D.a9.symm e) (hl2.at fun o e=>up3 _ o m2 m6 m4 e) hy fun g4 j4 s4=>x0e ?_);have t4:IsPair g4 TO x b:=s4.extBut _ _ D.a9 t3;refine x0b (x1R t4 rfl (x0b (wpAny_updateSeq_pair (s:={ s with heap:=g4 }) t4 fun g5 t5 s5=>x0b (wpAny_letGo (x0e (x0e ?_))))))
 replace t5:IsPair g5 TO x y:=t5
 refine x0b (x1R t5 rfl (x0b (wpAny_newTuple ?_)));have hsz:g5.objs.size=s.heap.objs.size:=by rw [s5.1,s4.1,s3.1,s2.1,s1.1]
 have z5:IsZip g5 z TI TO .ellipsis:=s5.extBut _ _ D.a2.symm (s4.extBut _ _ D.a4.symm (s3.extBut _ _ D.a2.symm (s2.extBut _ _ D.a3.symm z1)));have up5:∀c o,c≠z->c≠TO->c≠i1->c≠i2->s.heap.get? c=some o->g5.get? c=some o:=fun c o c1 c2 c3 c4 e=>s5.extBut _ _ c2 (s4.extBut _ _ c4 (up3 c o c1 c3 c2 e));have j1:ItB b1 g5 i1 l1 (k + 1):=j2.at fun o e=>s5.extBut _ o D.a8.symm (s4.extBut _ o D.a10 (s3.extBut _ o D.a8.symm e));have j5:ItB b2 g5 i2 l2 (k + 1):=j4.at fun o e=>s5.extBut _ o D.a9.symm e;have zlt:z < g5.objs.size:=x0l z5;show wpAny _ _ (x2K (.ref z) (.ref g5.objs.size)>>=_) _ _ _;refine x0b ?_;unfold x2K;have z6:IsZip (g5.push { cls:=.type "tuple",data:=.seq #[x,y] }) z TI TO .ellipsis:=x0c _ z5;refine x0b (x2e z6 (by simp) fun g7 z7 s7=>?_)
 replace z7:IsZip g7 z TI TO (rawInt g5.objs.size):=z7
 refine x2e z7 (by simp) fun g8 z8 s8=>?_
 replace z8:IsZip g8 z TI TO (rawInt g5.objs.size):=z8
 have up8:∀c o,c≠z->g5.get? c=some o->g8.get? c=some o:=fun c o c1 e=>s8.extBut _ _ c1 (s7.extBut _ _ c1 (x0c _ e));have t8:IsPair g8 g5.objs.size x y:=s8.extBut _ _ (x2Q zlt) (s7.extBut _ _ (x2Q zlt) (x0p _ rfl));rw [hsz] at z8 t8;refine x0e ⟨_,rfl,?_⟩;show Q (.ref g5.objs.size) _;rw [hsz];exact hQ g8 z8 (up8 _ _ D.a2 t5) (j1.at fun o e=>up8 _ o D.a3 e) (j5.at fun o e=>up8 _ o D.a4 e) t8 fun c o c1 c2 c3 c4 e=>up8 c o c1 (up5 c o c1 c2 c3 c4 e)
theorem zipEnd {b1 b2:Bool}{z TI TO i1 i2 l1 l2:Addr}{k:Nat}{xs ys:Array Value}{a b:Value}{Q:Fin->Shared->Prop}(hh:A.handled=none)(D:ZAp z TI TO i1 i2)(m1:l1≠z)(m2:l2≠z)(m3:l1≠TO)(m4:l2≠TO)(m5:l1≠i1)(m6:l2≠i1)
   (hz:IsZip s.heap z TI TO .none) (hTI:IsPair s.heap TI (.ref i1) (.ref i2)) (hTO:IsPair s.heap TO a b) (h1:ItB b1 s.heap i1 l1 k) (h2:ItB b2 s.heap i2 l2 k) (hl1:SeB b1 s.heap l1 xs) (hl2:SeB b2 s.heap l2 ys) (hend:xs[k]?=none\/ys[k]?=none)
   (hE:∀h' e,(∀c o,c≠z->c≠TO->c≠i1->c≠i2->s.heap.get? c=some o->h'.get? c=some o)->(∃o,h'.get? e=some o/\o.cls=.type "StopIteration")->E (.ref e) { s with heap:=h' }) :
   wpAny (model prog w) A (x4q.«zip.__next__» ⟨[.ref z],[]⟩) Q E s:=by
 show wpAny _ _ (field (.ref z) 2>>=_) _ _ _;refine x0b (x1k hz rfl (x:=.bool false) rfl ?_);show wpAny _ _ (field (.ref z) 3>>=_) _ _ _;refine x0b (x1k hz rfl (x:=.ref TI) rfl (x0b (x1R hTI rfl ?_)));show wpAny _ _ (x1u (.ref z)>>=_) _ _ _;refine x0b ?_;unfold x1u;refine x0b (x1k hz rfl (x:=.none) rfl (x0e ?_));simp only [if_true];refine x0b (x2x (x0b (x1k hz rfl (x:=.ref TO) rfl (x0b (x2e hz (by simp) fun g1 z1 s1=>?_)))))
 replace z1:IsZip g1 z TI TO .ellipsis:=z1
 refine x0b ?_;simp only [List.zipIdx_cons,List.zipIdx_nil,x3j,x3y];refine x0b (x0b (wpAny_onRaise ?_));show wpAny _ _ (x0L (.ref i1)>>=_) _ _ _;have h1':ItB b1 g1 i1 l1 k:=h1.at fun o e=>s1.extBut _ o D.a3 e;have hl1':SeB b1 g1 l1 xs:=hl1.at fun o e=>s1.extBut _ o m1 e
 have nz:∀{g:Heap} {e:Addr} {o:Obj},IsZip g z TI TO .ellipsis->g.get? e=some o->o.cls=.type "StopIteration"->e≠z:=fun {g e o} hz ho hc x=>by
   subst x;rw [hz] at ho;cases ho;exact absurd (show x1o "zip"=x1o "StopIteration" from hc) (by decide)
 cases hx:xs[k]? with
 | none =>
   refine x0b (a2p (s:={ s with heap:=g1 }) hh h1' hl1' hx fun g2 e s2 ⟨oe,hoe,hce⟩=>?_);have z2:IsZip g2 z TI TO .ellipsis:=s2 _ _ D.a3.symm z1;exact x2e z2 (by simp) fun g3 _ s3=>hE g3 e (fun c o c1 _ c3 _ x=>s3.extBut _ _ c1 (s2 _ _ c3 (s1.extBut _ _ c1 x))) ⟨oe,s3.extBut _ _ (nz z2 hoe hce) hoe,hce⟩
 | some x =>
   have hy:ys[k]?=none:=hend.elim (fun h=>by rw [hx] at h;cases h) id;refine x0b (a1X (s:={ s with heap:=g1 }) h1' hl1' hx fun g2 j2 s2=>x0e ?_);have t2:IsPair g2 TO a b:=s2.extBut _ _ D.a8 (s1.extBut _ _ D.a2 hTO);refine x0b (x1R t2 rfl (x0b (wpAny_updateSeq_pair (s:={ s with heap:=g2 }) t2 fun g3 t3 s3=>x0b (wpAny_letGo (x0e ?_)))));refine x0b (x0b (wpAny_onRaise ?_));show wpAny _ _ (x0L (.ref i2)>>=_) _ _ _;have up3:∀c o,c≠z->c≠i1->c≠TO->s.heap.get? c=some o->g3.get? c=some o:=fun c o c1 c2 c3 e=>s3.extBut _ o c3 (s2.extBut _ o c2 (s1.extBut _ o c1 e));refine x0b (a2p (s:={ s with heap:=g3 }) hh (h2.at fun o e=>up3 _ o D.a4 D.a10.symm D.a9.symm e) (hl2.at fun o e=>up3 _ o m2 m6 m4 e) hy fun g4 e s4 ⟨oe,hoe,hce⟩=>?_);have z4:IsZip g4 z TI TO .ellipsis:=s4 _ _ D.a4.symm (s3.extBut _ _ D.a2.symm (s2.extBut _ _ D.a3.symm z1));exact x2e z4 (by simp) fun g5 _ s5=>hE g5 e (fun c o c1 c2 c3 c4 x=>s5.extBut _ _ c1 (s4 _ _ c4 (up3 c o c1 c3 c2 x))) ⟨oe,s5.extBut _ _ (nz z4 hoe hce) hoe,hce⟩
end
def itO (b:Bool)(l:Addr):Obj:=match b with | true=>{ cls:=.type "list_iterator",data:=.fields #[.ref l,.int 0 0] } | false=>{ cls:=.type "tuple_iterator",data:=.fields #[.ref l,.int 0 0] }
theorem a6o (b:Bool)(l:Addr):(itO b l).isFreed=false:=by cases b <;> rfl
theorem b1c {b:Bool}{h:Heap}{l a:Addr}(e:h.get? a=some (itO b l)):ItB b h a l 0:=by
 cases b with
 | true=>exact⟨_,e,rfl,rfl⟩
 | false=>exact⟨_,e,rfl,rfl⟩
theorem iterO {b:Bool}{prog:x0A}{w:World}{A:Around}{E:Value->Shared->Prop}{s:Shared}{t:Addr}{items:Array Value}{Q:Value->Shared->Prop}(ht:SeB b s.heap t items)(hQ:Q (.ref s.heap.objs.size) { s with heap:=s.heap.push (itO b t) }):wpAny (model prog w) A (pyIter (.ref t)) Q E s:=by
 cases b with
 | true=>exact x3o ht hQ
 | false=>exact x2A ht hQ
abbrev zh2 (h:Heap)(b1 b2:Bool)(l1 l2:Addr):Heap:=(h.push (itO b1 l1)).push (itO b2 l2)
abbrev zh3 (h:Heap)(b1 b2:Bool)(l1 l2:Addr):Heap:=(zh2 h b1 b2 l1 l2).push { cls:=.type "tuple",data:=.seq #[.ref h.objs.size,.ref (h.push (itO b1 l1)).objs.size] }
abbrev zh4 (h:Heap)(b1 b2:Bool)(l1 l2:Addr):Heap:=(zh3 h b1 b2 l1 l2).push { cls:=.type "tuple",data:=.seq #[.none,.none] }
abbrev zh5 (h:Heap)(b1 b2:Bool)(l1 l2:Addr):Heap:=(zh4 h b1 b2 l1 l2).push { cls:=.type "zip",data:=.fields #[.none,.bool false,.bool false,.ref (zh2 h b1 b2 l1 l2).objs.size,.ref (zh3 h b1 b2 l1 l2).objs.size] }
theorem zipNew (b1 b2:Bool)(l1 l2:Addr)(xs ys:Array Value) :
   Meets (x4q.«zip.__new__» ⟨[.type "zip",.ref l1,.ref l2],[]⟩) (fun _ R s=>SeB b1 s.heap l1 xs/\SeB b2 s.heap l2 ys/\R (.ok (.ret (.ref (zh4 s.heap b1 b2 l1 l2).objs.size))) { s with heap:=zh5 s.heap b1 b2 l1 l2 }):=
 .of_wp fun prog w A R s hyp=>by
   obtain⟨hp,g,d,tk,os⟩:=s;obtain⟨k1,k2,fin⟩:=hyp;have hsub:=sub_zip;have L1:SeB b1 (Shared.heap ⟨hp,g,d,tk,os⟩) l1 xs:=k1;have L2:SeB b2 (Shared.heap ⟨hp.push (itO b1 l1),g,d,tk,os⟩) l2 ys:=k2.at fun o e=>x0c _ e
   wp_walk using iterO L1,iterO L2
   exact⟨_,rfl,fin⟩
section
variable {prog:x0A}{w:World}{A:Around}{E:Value->Shared->Prop}{s:Shared}
theorem zipB {b1 b2:Bool}{l1 l2:Addr}{xs ys:Array Value}{Q:Value->Shared->Prop}(hl1:SeB b1 s.heap l1 xs)(hl2:SeB b2 s.heap l2 ys)
   (h:∀h',IsZip h' (s.heap.objs.size + 4) (s.heap.objs.size + 2) (s.heap.objs.size + 3) .none->IsPair h' (s.heap.objs.size + 2) (.ref s.heap.objs.size) (.ref (s.heap.objs.size + 1))->
     IsPair h' (s.heap.objs.size + 3) .none .none->ItB b1 h' s.heap.objs.size l1 0->ItB b2 h' (s.heap.objs.size + 1) l2 0->(∀c o,s.heap.get? c=some o->h'.get? c=some o)->Q (.ref (s.heap.objs.size + 4)) { s with heap:=h' }) :
   wpAny (model prog w) A (call (.type "zip") [.ref l1,.ref l2]) Q E s:=by
 refine callType_new F.called_zip (by decide) (F.typeCall_zip_2 _ _) (F.newCall_zip_2 _ _) (fun obj=>F.args_object_init_3 obj _ _) F.entry_zip_new (zipNew b1 b2 l1 l2 xs ys) ⟨hl1,hl2,?_⟩;have z1:(s.heap.push (itO b1 l1)).objs.size=s.heap.objs.size + 1:=x2g ..;have z2:(zh2 s.heap b1 b2 l1 l2).objs.size=s.heap.objs.size + 2:=by rw [x2g,z1]
 have z3:(zh3 s.heap b1 b2 l1 l2).objs.size=s.heap.objs.size + 3:=by rw [x2g,z2]
 have z4:(zh4 s.heap b1 b2 l1 l2).objs.size=s.heap.objs.size + 4:=by rw [x2g,z3]
 have g5:(zh5 s.heap b1 b2 l1 l2).get? (zh4 s.heap b1 b2 l1 l2).objs.size=some _:=x0p _ rfl;have g4:(zh5 s.heap b1 b2 l1 l2).get? (zh3 s.heap b1 b2 l1 l2).objs.size=some _:=x0c _ (x0p _ rfl);have g3:(zh5 s.heap b1 b2 l1 l2).get? (zh2 s.heap b1 b2 l1 l2).objs.size=some _:=x0c _ (x0c _ (x0p _ rfl));have g2:(zh5 s.heap b1 b2 l1 l2).get? (s.heap.push (itO b1 l1)).objs.size=some _:=x0c _ (x0c _ (x0c _ (x0p _ (a6o b2 l2))));have g1:(zh5 s.heap b1 b2 l1 l2).get? s.heap.objs.size=some _:=x0c _ (x0c _ (x0c _ (x0c _ (x0p _ (a6o b1 l1)))));show _/\_;rw [z2,z3,z4] at g5;rw [z1,z2] at g3;rw [z3] at g4;rw [z1] at g2;rw [z4];exact⟨⟨_,g5,rfl⟩,h _ g5 g3 g4 (b1c g1) (b1c g2) fun c o x=>x0c _ (x0c _ (x0c _ (x0c _ (x0c _ x))))⟩
end
section
variable {X:Cx}
def ItzB (b1 b2:Bool)(K:x0a)(a c:Addr):It:=
 ⟨fun i H=>∃xs ys x y,SqB b1 K H a xs/\SqB b2 K H c ys/\xs[i]?=some x/\ys[i]?=some y,
  fun i H x H'=>∃p u v,H p=none/\x=.ref p/\H'=upd H p (.tup [u,v])/\(∀xs,SqB b1 K H a xs->xs[i]?=some u)/\∀ys,SqB b2 K H c ys->ys[i]?=some v,
  fun i H=>∃xs ys,SqB b1 K H a xs/\SqB b2 K H c ys/\min xs.length ys.length<=i⟩
theorem a5V {b:Bool}{h:Heap}{l e:Addr}{items:Array Value}{n:String}{o:Obj}(p:SeB b h l items)(he:h.get? e=some o)(hc:o.cls=.type n)(h1:n≠"list")(h2:n≠"tuple"):l≠e:=fun z=>by
 obtain⟨o',e1,c1⟩:=p.obj;rw [z,he] at e1;cases e1;rw [hc] at c1;rcases c1 with c1 | c1
 · exact h1 (x4k c1)
 · exact h2 (x4k c1)
theorem b0e {b:Bool}{l z TI TO i1 i2:Addr}{xs:List V}{pins:List (Addr×Obj)}{σ:St}{H:Hp}{s:Shared}{p q:Value}(I:Inv X pins σ H s)(hf:∀d∈[z,TI,TO,i1,i2],FpOk X pins H d)(hTO:IsPair s.heap TO p q)(hq:SqB b X.K H l xs):l≠TO:=fun zz=>by
 obtain⟨f0,f1,f2,f3,f4,f5⟩:=hf TO (by simp);subst zz;cases b with
 | true =>
   obtain⟨its,_,pl,_⟩:=I.list hq;obtain⟨o,e,c1,_⟩:=pl.isList;rw [hTO] at e;cases e;exact absurd (show x1o "tuple"=x1o "list" from c1) (by decide)
 | false =>
   rcases hq with hq | ⟨o,its,n,hk,hc1,hs,hz,r⟩
   · rcases hq with e | ⟨o,e⟩
     · rw [f0] at e;cases e
     · rw [f0] at e;cases e
   · have eb:X.base.get? l=some o:=I.ok.mod.kin l o hk;rcases f3 with f3 | f3
     · exact I.ok.noex l o eb f3
     · exact absurd (x0y (x0l eb) (x1j I.ok.bsz f3)) (x2c _)
theorem Inv.turnedAll {pins:List (Addr×Obj)}{σ:St}{H:Hp}{s:Shared}{h':Heap}{t':Nat}{ch:List Addr}(I:Inv X pins σ H s)(k:∀b o,b∉ch->s.heap.get? b=some o->h'.get? b=some o)(hf:∀b∈ch,FpOk X pins H b):Inv X pins σ H { s with heap:=h',toks:=t' }:=by
 have nch:∀b u,H b=some u->b∉ch:=fun b u e z=>by rw [(hf b z).1] at e;cases e
 refine I.step (g':=s.gens) (d':=s.drawn) (ch:=ch) (fun b hb=>⟨(hf b hb).2.2.2.1,(hf b hb).2.1,(hf b hb).2.2.2.2.1,(hf b hb).2.2.2.2.2⟩) (fun b o _ _ hc e _=>k b o hc e) (fun b o _ _ hc e _=>⟨o.slots,k b o hc e⟩) (fun _ _ _ _ n=>n)
   (fun b o hc e=>⟨o,k b o hc e⟩) (fun _ _ e=>e) (fun _ _ _ e=>e) (fun b ps e=>⟨#[],by rw [e];simp⟩) (fun z=>z) (fun m hm=>?_) (fun b u e=>?_) I.bare
 · obtain⟨o,es,ep,ho,r⟩:=hm;exact⟨o,es,ep,k _ o (fun z=>(hf _ z).2.1 rfl) ho,r⟩
 · refine(I.hok b u e).stay (fun c v hc q=>k c v ?_ q) (fun c q=>q) fun c ys q=>q;rcases hc with z | z
   · rw [z];exact nch b u e
   · exact nch c _ z
theorem a7v {b1 b2:Bool}{P:x0A}{w:World}{K:x0a}{elts:List Expr}{x1}{pos:Pos}(a c z TI TO i1 i2:Addr)(D:ZAp z TI TO i1 i2) :
   Turn P w K (.Tuple elts x1 pos) (ItzB b1 b2 K a c) [z,TI,TO,i1,i2] z (fun i h=>IsZip h z TI TO .none/\IsPair h TI (.ref i1) (.ref i2)/\(∃p q,IsPair h TO p q)/\ItB b1 h i1 a i/\ItB b2 h i2 c i) where
 mem:=by simp
 obj:=fun i h st e he=>by
   obtain⟨hz,h1,⟨p,q,h2⟩,h3,h4⟩:=st;obtain⟨o3,e3,_,d3⟩:=h3.obj;obtain⟨o4,e4,_,d4⟩:=h4.obj;have he':e=z\/e=TI\/e=TO\/e=i1\/e=i2:=by simpa using he
   rcases he' with rfl | rfl | rfl | rfl | rfl
   · exact⟨_,hz,fun v z=>by cases z⟩
   · exact⟨_,h1,fun v z=>by cases z⟩
   · exact⟨_,h2,fun v z=>by cases z⟩
   · exact⟨_,e3,d3⟩
   · exact⟨_,e4,d4⟩
 keep:=fun i h h' st k=>by
   obtain⟨hz,h1,⟨p,q,h2⟩,h3,h4⟩:=st;exact⟨k z (by simp) _ hz,k TI (by simp) _ h1,⟨p,q,k TO (by simp) _ h2⟩,h3.at fun o e=>k i1 (by simp) o e,h4.at fun o e=>k i2 (by simp) o e⟩
 item:=by
   intro X hP hw hK hc i pins s σ H E I hf st hg;subst hP hw hK;obtain⟨hz,hTI,⟨p,q,hTO⟩,h3,h4⟩:=st;obtain⟨xs,ys,x,y,hq1,hq2,hx,hy⟩:=hg;obtain⟨is1,rv1,p1,hz1⟩:=I.seqB hq1;obtain⟨is2,rv2,p2,hz2⟩:=I.seqB hq2;obtain⟨u,hu,ru⟩:=rv1.get hx;obtain⟨v,hv,rv⟩:=rv2.get hy;have ty:s.TypeIs (.ref z) "zip":=⟨_,hz,rfl⟩;unfold pyNext;refine x0b (x3i (x0Q (name:=x0i "__next__") ty x4a (x0X x4a ty F.entry_zip_next (b1o D (a5V p1 hz rfl (by decide) (by decide)) (a5V p2 hz rfl (by decide) (by decide)) (b0e I hf hTO hq1) (b0e I hf hTO hq2) (h3.ne p1) (h3.ne p2) hz hTI hTO h3 h4 p1 p2 (by simpa using hu) (by simpa using hv) fun h' a1 a2 a3 a4 a5 k=>x0e ?_) (F.args_zip_next_1 _))));refine⟨_,rfl,wpAny_letOwnedTupleGo_zip (s:={ s with heap:=h' }) a1 fun h'' z'' sb=>?_⟩;have lt:∀{d:Addr} {o:Obj},s.heap.get? d=some o->s.heap.objs.size≠d:=fun e=>x2Q (x0l e);have ht'':h''.get? s.heap.objs.size=some { cls:=.type "tuple",data:=.seq #[u,v] }:=(sb.2 _ (lt hz)).trans a5
   have k':∀d o,d∉[z,TI,TO,i1,i2]->s.heap.get? d=some o->h''.get? d=some o:=fun d o hb q=>by
     have hb1:d≠z:=fun e=>hb (by simp [e]);exact(sb.2 d hb1).trans (k d o hb1 (fun e=>hb (by simp [e])) (fun e=>hb (by simp [e])) (fun e=>hb (by simp [e])) q)
   have I1:Inv X pins σ (upd H s.heap.objs.size (.tup [x,y])) { s with heap:=h'' }:=
     I.turnedNew (t':=s.toks) k' hf ⟨by show 2<=x0v;decide,[u,v],.cons ru (.cons rv .nil),⟨_,ht'',rfl,_,rfl⟩⟩
   obtain⟨o3,e3,_,_⟩:=h3.obj;obtain⟨o4,e4,_,_⟩:=h4.obj
   refine⟨.ref s.heap.objs.size,_,I1,rfl,⟨_,x,y,I.fresh,rfl,rfl,fun zs hzs=>by rw [I.seqB_inj hzs hq1];exact hx,fun zs hzs=>by rw [I.seqB_inj hzs hq2];exact hy⟩,
     ⟨z'',sb.extBut _ _ D.a1 (k _ _ D.a1 D.a5 D.a6 D.a7 hTI),⟨u,v,sb.extBut _ _ D.a2 a2⟩,a3.at fun o e=>sb.extBut _ o D.a3 e,a4.at fun o e=>sb.extBut _ o D.a4 e⟩,fun d hd=>?_⟩
   have hd':d=z\/d=TI\/d=TO\/d=i1\/d=i2:=by simpa using hd
   have hds:d≠s.heap.objs.size:=by
     rcases hd' with rfl | rfl | rfl | rfl | rfl
     · exact(lt hz).symm
     · exact(lt hTI).symm
     · exact(lt hTO).symm
     · exact(lt e3).symm
     · exact(lt e4).symm
   rw [a0f hds];exact(hf d hd).1
 done:=by
   intro X hP hw hK hc i pins s σ H E I hf st hg;subst hP hw hK;obtain⟨hz,hTI,⟨p,q,hTO⟩,h3,h4⟩:=st;obtain⟨xs,ys,hq1,hq2,hmin⟩:=hg;obtain⟨is1,rv1,p1,hz1⟩:=I.seqB hq1;obtain⟨is2,rv2,p2,hz2⟩:=I.seqB hq2;have l1:=rv1.length;have l2:=rv2.length;have ty:s.TypeIs (.ref z) "zip":=⟨_,hz,rfl⟩
   have hend:is1.toArray[i]?=none\/is2.toArray[i]?=none:=by
     rcases Nat.le_total xs.length ys.length with h | h
     · exact .inl (x1C (by rw [x0n];omega))
     · exact .inr (x1C (by rw [x0n];omega))
   unfold pyNext;refine x0b (x3i (x0Q (name:=x0i "__next__") ty x4a (x0X x4a ty F.entry_zip_next (zipEnd (A:=X.A.in1) (I.ok.hd hc) D (a5V p1 hz rfl (by decide) (by decide)) (a5V p2 hz rfl (by decide) (by decide)) (b0e I hf hTO hq1) (b0e I hf hTO hq2) (h3.ne p1) (h3.ne p2) hz hTI hTO h3 h4 p1 p2 hend fun h' e k he=>?_) (F.args_zip_next_1 _))));obtain⟨o,ho,hce⟩:=he;refine x0b (x3I (T:="StopIteration") (b:=true) ⟨o,ho,hce⟩ isSubtype_stop (x0e ⟨rfl,?_⟩));exact I.turnedAll (t':=s.toks) (ch:=[z,TI,TO,i1,i2]) (fun d o hd e=>k d o (fun z=>hd (by simp [z])) (fun z=>hd (by simp [z])) (fun z=>hd (by simp [z])) (fun z=>hd (by simp [z])) e) hf
 self:=fun _ _ _ _ _ st h=>wpAny_pyIter_zip st.1 h
end
end L2
end
section
namespace L2
open PySem PySem.Spec PyProof.Rows
section
variable {X:Cx}
def iZipB (b1 b2:Bool)(K:x0a)(ta:TA):TI:=fun σ H R=>ta σ H fun vs H1=>∃a c,vs=[.ref a,.ref c]/\(∃xs,SqB b1 K H1 a xs)/\(∃ys,SqB b2 K H1 c ys)/\R (ItzB b1 b2 K a c) H1
theorem b2i (b1 b2:Bool){a b:Expr}{ta:TA}{p pos:Pos}{elts:List Expr}{x1}{tpos:Pos}(hg:Gl X "zip")(hm:X.mg "zip"=none)(ha:PA X [a,b] ta)(hs:x0T [a,b] X.env=[(false,eval a X.env),(false,eval b X.env)]:=by rfl)(hs2:x0T [b] X.env=[(false,eval b X.env)]:=by rfl) :
   PI X (.Tuple elts x1 tpos) (.Call (.Name "zip" p) [a,b] [] pos) (iZipB b1 b2 X.K ta):=by
 intro pins s σ H R I h;refine Call_ (a2r I hg hm boot_zip (x0Y (thn (ha pos pins s σ H _ I h) fun us s1 ⟨vs,H1,I1,r1,q1⟩=>?_) (by rw [hs,hs2]) (by rw [hs2];rfl)));obtain⟨a,c,e,⟨xs,h1⟩,⟨ys,h2⟩,q⟩:=q1;subst e;cases r1 with
 | cons r rr =>
   cases rr with
   | cons r' rr =>
     cases rr;cases r;cases r';obtain⟨is1,rv1,p1,hz1⟩:=I1.seqB h1;obtain⟨is2,rv2,p2,hz2⟩:=I1.seqB h2;refine zipB p1 p2 fun h' e1 e2 e3 e4 e5 hk=>?_;refine wpAny_pyIter_zip e1 ?_;have I2:Inv X pins σ H1 { s1 with heap:=h' }:=I1.kept (t':=s1.toks) hk;refine⟨s1.heap.objs.size + 4,[s1.heap.objs.size + 4,s1.heap.objs.size + 2,s1.heap.objs.size + 3,s1.heap.objs.size,s1.heap.objs.size + 1],_,_,H1,rfl,I2,a7v a c _ _ _ _ _ ⟨by simp,by simp,by simp,by simp,by simp,by simp,by simp,by simp,by simp,by simp⟩,⟨e1,e2,⟨_,_,e3⟩,e4,e5⟩,fun d hd=>?_,q⟩
     have hd':s1.heap.objs.size<=d:=by
       simp only [x0s,x1t,or_false] at hd;rcases hd with rfl | rfl | rfl | rfl | rfl <;> omega
     exact I1.fpOk hd' (I1.hok.fresh hd')
end
end L2
namespace Pu
open PySem PySem.Spec L2
section
variable {T:PotK}{ι:Type}{K:x0a}{F:ι->Cx}{e a b tg:Expr}{pe pa pb:pE}{pos:Pos}
def a7Z (pe:pE):pA:=fun env n R=>pe env n fun x env1 n1=>match x with | .tup xs=>R (a4X xs) env1 n1 | _=>False
theorem a9D {p:Pos}{elts:List Expr}{x1:Nat}{tpos:Pos}(hg:∀z,Gl (F z) "enumerate")(hm:∀z,(F z).mg "enumerate"=none)(h:QE T K F e pe)(hs:a0w e=true:=by rfl)(hK:∀z,(F z).K=K:=by intro _;rfl):QI T K F (.Tuple elts x1 tpos) (.Call (.Name "enumerate" p) [e] [] pos) (a7Z pe):=by
 obtain⟨t,h1,h2⟩:=h;refine⟨_,fun z=>hK z▸a9S false (hg z) (hm z) (a0o (h1 z) a0M (a0c hs)) (by rw [a0c hs];rfl),fun C G σ H env n R Q hK hT S hp k=>?_⟩;refine h2 C G σ H env n _ _ hK hT S hp fun x env1 n1 v H1 p1 S1 r1 f1=>?_;cases x with
 | tup xs =>
   obtain⟨a,vs,rfl,t,r⟩:=r1;refine⟨a,rfl,⟨vs,t.sq⟩,k _ _ _ _ _ p1 S1 f1 ?_⟩;intro G2 H2 hk hM hp hf;have hq:SqB false K H2 a vs:=SqT.of (hk a _ t.1 t.2);have r2:Reps K G2 H2 xs vs:=Reps.mono hk hM hp _ _ r;refine⟨fun i x e=>?_,fun i hi=>⟨vs,hq,by rw [<- r.length,<- a2t];exact hi⟩⟩;obtain⟨y,ey,rfl⟩:=a3o e;obtain⟨v,ev,rv⟩:=r2.get' ey;refine⟨⟨vs,v,hq,ev⟩,fun v' H3 y=>?_⟩;obtain⟨p,w,hn,rfl,rfl,y⟩:=y;have:=y vs hq;rw [ev] at this;cases this;exact⟨Same.lay1 hn,a1K (hf p hn) hn (.cons rfl (.one rv))⟩
 | _=>exact p1.elim
def zipP (xs ys:List PV):List PV:=(xs.zip ys).map fun y=>.tup [y.1,y.2]
def a6N (b:Bool):PV->Option (List PV)
 | .lst xs=>if b then some xs else none
 | .tup xs=>if b then none else some xs
 | _=>none
theorem a9t {b:Bool}{x:PV}{xs:List PV}(h:a6N b x=some xs):x=(match b with | true=>.lst xs | false=>.tup xs):=by
 cases x <;> cases b <;> simp [a6N] at h <;> simp [h]
theorem a7M {b:Bool}{x:PV}{xs:List PV}{G:Gh}{H:Hp}{v:V}(h:a6N b x=some xs)(r:Rep K G H x v):∃a vs,v=.ref a/\a∉G.M/\Reps K G H xs vs/\∀H2,(∀c o,c∉G.M->H c=some o->H2 c=some o)->SqB b K H2 a vs:=by
 rw [a9t h] at r;cases b with
 | true =>
   obtain⟨a,vs,e,t,r⟩:=r;exact⟨a,vs,e,t.1,r,fun H2 hk=>SqL.of (hk a _ t.1 t.2)⟩
 | false =>
   obtain⟨a,vs,e,t,r⟩:=r;exact⟨a,vs,e,t.1,r,fun H2 hk=>SqT.of (hk a _ t.1 t.2)⟩
def qZip (b1 b2:Bool)(pa pb:pE):pA:=fun env n R=>pa env n fun x env1 n1=>pb env1 n1 fun y env2 n2=>match a6N b1 x,a6N b2 y with | some xs,some ys=>R (zipP xs ys) env2 n2 | _,_=>False
theorem a5Q (xs ys:List PV):(zipP xs ys).length=min xs.length ys.length:=by simp [zipP]
theorem a9k {xs ys:List PV}{i:Nat}{x:PV}(h:(zipP xs ys)[i]?=some x):∃u v,xs[i]?=some u/\ys[i]?=some v/\x=.tup [u,v]:=by
 unfold zipP at h;rw [x0r] at h;cases e:(xs.zip ys)[i]? with
 | none=>rw [e] at h;cases h
 | some y =>
   rw [e] at h;obtain⟨h1,h2⟩:=List.getElem?_zip_eq_some.mp e;exact⟨y.1,y.2,h1,h2,(x0C h).symm⟩
theorem qi_zip (b1 b2:Bool){p:Pos}{elts:List Expr}{x1:Nat}{tpos:Pos}(hg:∀z,Gl (F z) "zip")(hm:∀z,(F z).mg "zip"=none)(ha:QE T K F a pa)(hb:QE T K F b pb)(hs:a0w a=true:=by rfl)(hs2:a0w b=true:=by rfl)(hK:∀z,(F z).K=K:=by intro _;rfl):QI T K F (.Tuple elts x1 tpos) (.Call (.Name "zip" p) [a,b] [] pos) (qZip b1 b2 pa pb):=by
 obtain⟨t,h1,h2⟩:=ha;obtain⟨u,h3,h4⟩:=hb;refine⟨_,fun z=>hK z▸b2i b1 b2 (hg z) (hm z) (a0o (h1 z) (a0o (h3 z) a0M (a0c hs2)) (a0c hs)) (by rw [a0c hs,a0c hs2];rfl) (by rw [a0c hs2];rfl),fun C G σ H env n R Q hK hT S hp k=>?_⟩;refine h2 C G σ H env n _ _ hK hT S hp fun x env1 n1 v H1 p1 S1 r1 f1=>?_;refine h4 C G σ H1 env1 n1 _ _ hK hT S1 p1 fun y env2 n2 w H2 p2 S2 r2 f2=>?_
 split at p2
 · rename_i xs ys ex ey;obtain⟨a,vs,rfl,na,ra,sa⟩:=a7M ex (r1.fr f2);obtain⟨c,us,rfl,nc,rc,scq⟩:=a7M ey r2;refine⟨a,c,rfl,⟨vs,sa H2 fun _ _ _ e=>e⟩,⟨us,scq H2 fun _ _ _ e=>e⟩,k _ _ _ _ _ p2 S2 (f1.trans f2) ?_⟩;intro G2 H3 hk hM hp hf;have ra':Reps K G2 H3 xs vs:=Reps.mono hk hM hp _ _ ra;have rc':Reps K G2 H3 ys us:=Reps.mono hk hM hp _ _ rc;refine⟨fun i x e=>?_,fun i hi=>⟨vs,us,sa H3 hk,scq H3 hk,by rw [<- ra.length,<- rc.length,<- a5Q];exact hi⟩⟩;obtain⟨u,v,eu,ev,rfl⟩:=a9k e;obtain⟨u',eu',ru⟩:=ra'.get' eu;obtain⟨v',ev',rv⟩:=rc'.get' ev;refine⟨⟨vs,us,u',v',sa H3 hk,scq H3 hk,eu',ev'⟩,fun x' H4 y=>?_⟩;obtain⟨p,u2,v2,hn,rfl,rfl,y1,y2⟩:=y;have q1:=y1 vs (sa H3 hk);have q2:=y2 us (scq H3 hk);rw [eu'] at q1;rw [ev'] at q2;cases q1;cases q2;exact⟨Same.lay1 hn,a1K (hf p hn) hn (.cons ru (.one rv))⟩
 · exact p2.elim
end
end Pu
end
section
namespace Pu
open PySem PySem.Spec L2
theorem a3J {te:pE}{rest:Env}{α:Type}(f:α->PV)(g:α->PV):∀(xs:List α) (s0:Option Slot) (n:Nat) (R:List PV->Nat->Prop),(∀x∈xs,∀m Q,Q (g x) (some (.v (f x))::rest) m->te (some (.v (f x))::rest) m Q)->R (xs.map g) n->a4q (gN 0) qTru te (xs.map f) (s0::rest) n R:=by
 intro xq
 induction xq with
 | nil =>
   intro _ _ _ _ h;exact h
 | cons x xs ih =>
   intro s0 n R ht h;show te (some (.v (f x))::rest) n _;refine ht x x0h n _ ?_;exact ih _ n _ (fun y hy=>ht y (x0d _ hy)) h
theorem a2w {α:Type}(xs:List α):a2k (xs.map fun _=>PV.bl true)=some (xs.map fun _=>true):=by
 have:xs.map (fun _=>PV.bl true)=(xs.map fun _=>true).map PV.bl:=by rw [x0V];rfl
 rw [this,a4x]
theorem a4u {α:Type}(xs:List α):(xs.map fun _=>true).all id=true:=by
 induction xs with
 | nil=>rfl
 | cons x xs ih=>simp
theorem a3I {te:pE}{rest:Env}{α:Type}(u v g:α->PV):∀(xs:List α) (s0 s1:Option Slot) (n:Nat) (R:List PV->Nat->Prop),(∀x∈xs,∀m Q,Q (g x) (some (.v (u x))::some (.v (v x))::rest) m->te (some (.v (u x))::some (.v (v x))::rest) m Q)->R (xs.map g) n->a4q (gTp 2 (gCn (gN 0) (gCn (gN 1) gNl))) qTru te (xs.map fun x=>.tup [u x,v x]) (s0::s1::rest) n R:=by
 intro xq
 induction xq with
 | nil =>
   intro _ _ _ _ _ h;exact h
 | cons x xs ih =>
   intro s0 s1 n R ht h;refine⟨rfl,?_⟩;show te (some (.v (u x))::some (.v (v x))::rest) n _;refine ht x x0h n _ ?_;exact ih _ _ n _ (fun y hy=>ht y (x0d _ hy)) h
theorem a7C {α:Type}{xs:List α}{i:Nat}{x:α}(h:xs[i]?=some x):xs.take (i + 1)=xs.take i++[x]:=by
 rw [x2h,h];rfl
end Pu
end
section
namespace L2
open PySem PySem.W PyProof.Rows
namespace Kr
structure Ord (lt:Nat->Nat->Bool):Prop where
 ir:∀a,lt a a=false
 tr:∀a b c,lt a b=true->lt b c=true->lt a c=true
 nt:∀a b c,lt a c=true->lt a b=true\/lt b c=true
variable {lt:Nat->Nat->Bool}(O:Ord lt)
include O
theorem Ord.as {a b:Nat}(h:lt a b=true):lt b a=false:=by
 cases e:lt b a with
 | false=>rfl
 | true=>have:=O.tr _ _ _ h e;rw [O.ir] at this;cases this
theorem Ord.l1 {a b c:Nat}(h1:lt a b=true)(h2:lt c b=false):lt a c=true:=by
 rcases O.nt a c b h1 with h | h
 · exact h
 · rw [h2] at h;cases h
theorem Ord.l2 {a b c:Nat}(h1:lt b a=false)(h2:lt b c=true):lt a c=true:=by
 rcases O.nt b a c h2 with h | h
 · rw [h1] at h;cases h
 · exact h
omit O
def g (p:Array Nat)(i:Nat):Nat:=p.getD i 0
include O
omit O
def En (n:Nat)(p:Array Nat):Prop:=0 < n/\∀x∈p,x < n
theorem En.g {n:Nat}{p:Array Nat}(h:En n p)(i:Nat):p.getD i 0 < n:=by
 by_cases c:i < p.size
 · rw [show p.getD i 0=p[i] by simp [Array.getD,c]];exact h.2 _ (Array.getElem_mem c)
 · rw [show p.getD i 0=0 by simp [Array.getD,c]];exact h.1
end Kr
end L2
end
section
namespace L2
open PySem PySem.W PySem.Spec PyProof.Rows
section
variable {prog:x0A}{w:World}{A:Around}{E:Value->Shared->Prop}{s:Shared}
def b0C (h h1:Heap)(a:Addr):Prop:=∀b o,b≠a->h.get? b=some o->h1.get? b=some o
end
end L2
end
section
namespace L2
open PySem PySem.W PySem.Spec PyProof.Rows
def a2S:Key->Key->Bool
 | .inl a,.inl b=>decide (a < b)
 | .inr a,.inr b=>decide (a.cps.toList < b.cps.toList)
 | .inl _,.inr _=>true
 | .inr _,.inl _=>false
def lexK:List Key->List Key->Bool
 | [],[]=>false
 | [],_::_=>true
 | _::_,[]=>false
 | x::xs,y::ys=>if x=y then lexK xs ys else a2S x y
theorem a6m (x:Key):a2S x x=false:=by
 cases x with
 | inl a=>exact decide_eq_false (Int.lt_irrefl a)
 | inr a=>exact decide_eq_false (List.lt_irrefl _)
def Al:List Key->List Key->Prop
 | .inl _::xs,.inl _::ys=>Al xs ys
 | .inr _::xs,.inr _::ys=>Al xs ys
 | _::_,_::_=>False
 | _,_=>True
def KeyV:Key->Value->Prop
 | .inl i,v=>∃t,v=.int i t
 | .inr z,v=>∃t,v=.str z t
inductive a3r:List Key->List Value->Prop
 | nil:a3r [] []
 | cons {k v ks vs} (h:KeyV k v) (t:a3r ks vs):a3r (k::ks) (v::vs)
section
variable {prog:x0A}{w:World}{A:Around}{E:Value->Shared->Prop}{s:Shared}
theorem a3H {x y:Key}{u v:Value}{xs ys:List Key}{Q:Bool->Shared->Prop}(hx:KeyV x u)(hy:KeyV y v)(al:Al (x::xs) (y::ys))(h:Q (decide (x=y)) s):wpAny (model prog w) A (eqBool u v) Q E s:=by
 cases x with
 | inl a =>
   cases y with
   | inl b =>
     obtain⟨t,rfl⟩:=hx;obtain⟨t',rfl⟩:=hy;refine wpAny_eqBool_int ?_
     have e:(a == b)=decide ((x4o a:Key)=.inl b):=by
       rw [x1J];exact decide_eq_decide.mpr ⟨fun e=>by rw [e],fun e=>by injection e⟩
     rw [e];exact h
   | inr b=>exact al.elim
 | inr a =>
   cases y with
   | inl b=>exact al.elim
   | inr b =>
     obtain⟨t,rfl⟩:=hx;obtain⟨t',rfl⟩:=hy;refine eqBool_str ?_
     have e:(a == b)=decide ((x4p a:Key)=.inr b):=by
       rw [x1J];exact decide_eq_decide.mpr ⟨fun e=>by rw [e],fun e=>by injection e⟩
     rw [e];exact h
theorem b0X {x y:Key}{u v:Value}{xs ys:List Key}{Q:Value->Shared->Prop}(hx:KeyV x u)(hy:KeyV y v)(al:Al (x::xs) (y::ys))(h:Q (.bool (a2S x y)) s):wpAny (model prog w) A (x1v .Lt u v) Q E s:=by
 cases x with
 | inl a =>
   cases y with
   | inl b =>
     obtain⟨t,rfl⟩:=hx;obtain⟨t',rfl⟩:=hy;exact PyProof.Rows.lt_int h
   | inr b=>exact al.elim
 | inr a =>
   cases y with
   | inl b=>exact al.elim
   | inr b =>
     obtain⟨t,rfl⟩:=hx;obtain⟨t',rfl⟩:=hy;exact PyProof.Rows.lt_str h
theorem a3e {x y:Key}{u v:Value}{xs ys:List Key}{b:Bool}{Q:Bool->Shared->Prop}(hx:KeyV x u)(hy:KeyV y v)(al:Al (x::xs) (y::ys))(h:Q (a2S x y) s):wpAny (model prog w) A (oneLt' b u v) Q E s:=by
 cases b with
 | false=>exact kat_one u v (b0X hx hy al h)
 | true =>
   cases x with
   | inl a =>
     cases y with
     | inl b =>
       obtain⟨t,rfl⟩:=hx;obtain⟨t',rfl⟩:=hy;exact oneLt_int h
     | inr b=>exact al.elim
   | inr a =>
     cases y with
     | inl b=>exact al.elim
     | inr b =>
       obtain⟨t,rfl⟩:=hx;obtain⟨t',rfl⟩:=hy;exact oneLt_str h
theorem b2L {b fin:Bool}{Q:Bool->Shared->Prop}:∀{xs ys:List Key} {us vs:List Value} (i:Nat),a3r xs us->a3r ys vs->Al xs ys->fin=decide (us.length < vs.length)->Q (lexK xs ys) s->KatLex prog w A b fin Q (us.zip vs) i s:=by
 intro xs
 induction xs with
 | nil =>
   intro ys us vs i hx hy al hf h;cases hx;refine kat_nil ?_;cases hy with
   | nil=>rw [hf];exact h
   | cons _ _=>rw [hf];exact h
 | cons x xs ih =>
   intro ys us vs i hx hy al hf h;cases hx with
   | @cons _ u _ us' hx1 hx2 =>
     cases hy with
     | nil=>rw [List.zip_nil_right];refine kat_nil ?_;rw [hf];exact h
     | @cons y v ys' vs' hy1 hy2 =>
       rw [x2f];refine kat_cons (a3H hx1 hy1 al ?_);have h':Q (if x=y then lexK xs ys' else a2S x y) s:=h
       by_cases c:x=y
       · rw [decide_eq_true c];rw [if_pos c] at h';refine kat_yes (ih (i + 1) hx2 hy2 ?_ ?_ h')
         · cases x <;> cases y <;> first | exact al | exact al.elim
         · rw [hf,x0B,x0B];exact decide_eq_decide.mpr (by omega)
       · rw [decide_eq_false c];rw [if_neg c] at h';exact kat_no (a3e hx1 hy1 al h')
def TupK (h:Heap)(v:Value)(ks:List Key):Prop:=∃a o items n,v=.ref a/\h.get? a=some o/\o.cls=.type "tuple"/\o.data=.seq items n/\a3r ks items.toList
theorem b3k {b:Bool}{u v:Value}{xs ys:List Key}{Q:Bool->Shared->Prop}(hx:TupK s.heap u xs)(hy:TupK s.heap v ys)(al:Al xs ys)(h:Q (lexK xs ys) s):wpAny (model prog w) A (keyLt' (tuples' b) u v) Q E s:=by
 obtain⟨a,o,items,n,rfl,ho,hc,hd,hk⟩:=hx;obtain⟨a',o',items',n',rfl,ho',hc',hd',hk'⟩:=hy;exact kat_lt ho hd ho' hd' (b2L 0 hk hk' al (by rw [x1E,x1E]) h)
theorem a3P {a b:Addr}{oa ob:Obj}{xs ys:Array Value}{na nb:Nat}{x y:List Key}{P:PySem.Fin->Shared->Prop}(hoa:s.heap.get? a=some oa)(hda:oa.data=.seq xs na)(hob:s.heap.get? b=some ob)(hcb:ob.cls=.type "tuple")(hdb:ob.data=.seq ys nb)
   (hia:a3r x xs.toList) (hib:a3r y ys.toList) (al:Al x y) (h:P (.done (.ret (.bool (lexK x y)))) s):wpAny (model prog w) A (x4q.«tuple.__lt__» ⟨[.ref a,.ref b],[]⟩) P E s:=by
 show wpAny _ _ (isInstance (.ref b) (.type "tuple")>>=_) _ _ s;refine x0b (x3I ⟨_,hob,hcb⟩ isSubtype_tuple_tuple ?_);simp only [Bool.not_true,x1d,if_false];refine x0b (wpAny_tupleItemsOf hoa hda ?_);refine x0b (wpAny_tupleItemsOf hob hdb ?_);refine x0b ?_
 refine wpAny_forIn_list _
   (fun rest r s'=>r.1=none/\s'=s/\∃x' y' xs' ys',rest=List.zip xs' ys'/\a3r x' xs'/\a3r y' ys'/\Al x' y'/\lexK x' y'=lexK x y/\(xs'.length < ys'.length↔xs.size < ys.size))
   _ ?_ ?_ _ _ ⟨rfl,rfl,x,y,xs.toList,ys.toList,rfl,hia,hib,al,rfl,by simp⟩
 · rintro⟨u,v⟩ rest r s' ⟨hr,rfl,x',y',xs',ys',hz,hx',hy',al',hdec,hlen⟩;cases hx' with
   | nil=>simp at hz
   | @cons k1 u' x'' xs'' h1 hx'' =>
     cases hy' with
     | nil=>simp at hz
     | @cons k2 v' y'' ys'' h2 hy'' =>
       simp only [x2f,List.cons.injEq,Prod.mk.injEq] at hz;obtain⟨⟨rfl,rfl⟩,rfl⟩:=hz;refine x0b (a3H h1 h2 al' ?_)
       change (if k1=k2 then lexK x'' y'' else a2S k1 k2)=_ at hdec
       by_cases hk:k1=k2
       · rw [if_pos hk] at hdec;rw [decide_eq_true hk];simp only [Bool.not_true,x1d,if_false];refine x0e ⟨rfl,rfl,x'',y'',xs'',ys'',rfl,hx'',hy'',?_,hdec,?_⟩
         · cases k1 <;> cases k2 <;> first | exact al' | exact al'.elim
         · rw [x0B,x0B] at hlen;omega
       · rw [if_neg hk] at hdec;rw [decide_eq_false hk];simp only [Bool.not_false,if_true];refine x0b (x2x ?_);refine x0b (show wpAny (model prog w) A (richCompare .Lt u v) _ _ _ from b0X h1 h2 al' ?_);rw [hdec];exact x0b (x0e (x0e (x0e h)))
 · rintro⟨r1,r2⟩ s' ⟨hr,rfl,x',y',xs',ys',hz,hx',hy',al',hdec,hlen⟩;simp only at hr;subst hr;refine x0e ?_
   have hfin:decide (xs.size < ys.size)=lexK x y:=by
     rw [<- hdec,show decide (xs.size < ys.size)=decide (xs'.length < ys'.length) from decide_eq_decide.mpr hlen.symm];cases hx' with
     | nil =>
       cases hy' with
       | nil=>simp [lexK]
       | cons _ _=>simp [lexK]
     | cons _ _ =>
       cases hy' with
       | nil=>simp [lexK]
       | cons _ _=>simp at hz
   show P (.done (.ret (.bool (decide (xs.size < ys.size))))) s';rw [hfin];exact h
theorem b2K {u v:Value}{x y:List Key}{Q:Value->Shared->Prop}(hu:A.units < cLine)(hx:TupK s.heap u x)(hy:TupK s.heap v y)(al:Al x y)(h:Q (.bool (lexK x y)) s):wpAny (model prog w) A (x1v .Lt u v) Q E s:=by
 obtain⟨a,o,items,n,rfl,ho,hc,hd,hk⟩:=hx;obtain⟨a',o',items',n',rfl,ho',hc',hd',hk'⟩:=hy;show wpAny (model prog w) A (richCompare .Lt (.ref a) (.ref a')) Q E s
 exact wpAny_richCompare_same_room (op:=.Lt) ⟨_,ho,hc⟩ ⟨_,ho',hc'⟩ F.slot_tuple_lt
     (x0X F.slot_tuple_lt ⟨_,ho,hc⟩ F.entry_tuple_lt (a3P ho hd ho' hc' hd' hk hk' al ⟨_,rfl,(fun e=>nomatch e),h⟩) (F.args_tuple_lt_2 _ _)) hu
end
end L2
end
section
namespace L2
open PySem PySem.W PySem.Spec PyProof.Rows
theorem a4h:∀{ks:List Key} {us:List Value},Vals (ks.map kV) us->a3r ks us
 | [],_,h=>by cases h;exact .nil
 | .inl i :: ks, _, h => by
   cases h with
   | cons h1 h2=>exact .cons h1 (a4h h2)
 | .inr z :: ks, _, h => by
   cases h with
   | cons h1 h2=>exact .cons h1 (a4h h2)
section
variable {X:Cx}
variable {ks:List Key}{kss:List (List Key)}
theorem a5m {pins:List (Addr×Obj)}{σ:St}{H:Hp}{s:Shared}(I:Inv X pins σ H s){a:Addr}(h:SqT X.K H a (ks.map kV)):TupK s.heap (.ref a) ks:=by
 obtain⟨its,r,⟨o,ho,hc,n,hd⟩,_⟩:=I.tuple h;exact⟨a,o,its.toArray,n,rfl,ho,hc,hd,a4h r⟩
theorem TupK.keep {h h':Heap}{v:Value}(t:TupK h v ks)(k:∀b o,h.get? b=some o->h'.get? b=some o):TupK h' v ks:=by
 obtain⟨a,o,its,n,e,ho,hc,hd,hk⟩:=t;exact⟨a,o,its,n,e,k _ _ ho,hc,hd,hk⟩
def rLtK (K:x0a):R2:=fun x y H Q=>∃a b ks js,x=.ref a/\y=.ref b/\SqT K H a (ks.map kV)/\SqT K H b (js.map kV)/\Al ks js/\Q (.bl (lexK ks js)) H
theorem op_ltK (hu:X.A.units < cLine):OpR X (x1v .Lt) (rLtK X.K):=by
 intro pins s σ H x y v u Q I rx ry h;obtain⟨a,b,ks,js,rfl,rfl,ha,hb,al,q⟩:=h;cases rx;cases ry;exact b2K hu (a5m I ha) (a5m I hb) al ⟨.bl (lexK ks js),H,I,rfl,q⟩
def KM (K:x0a)(H:Hp):Nat->V->List Key->Prop
 | 0,y,ks=>∃i,y=.int i/\ks=[.inl i]
 | 1,y,ks=>∃z,y=.str z/\ks=[.inr z]
 | _,y,ks=>∃a,y=.ref a/\SqT K H a (ks.map kV)/\ks≠[]
def Kv1 (h:Heap):Nat->Value->List Key->Prop
 | 0,u,ks=>∃i t,u=.int i t/\ks=[.inl i]
 | 1,u,ks=>∃z t,u=.str z t/\ks=[.inr z]
 | _,u,ks=>TupK h u ks/\ks≠[]
def ltIx (kss:List (List Key))(i j:Nat):Bool:=lexK (kss.getD i []) (kss.getD j [])
def b3s (kss:List (List Key)):Prop:=∀x∈kss,∀y∈kss,Al x y
theorem kv1_of {pins:List (Addr×Obj)}{σ:St}{H:Hp}{s:Shared}(I:Inv X pins σ H s)(m:Nat){ys:List V}{vs:List Value}(a:Vals ys vs)(b:Paired (KM X.K H m) ys kss):Paired (Kv1 s.heap m) vs kss:=by
 induction a generalizing kss with
 | nil=>cases b;exact .nil
 | cons h1 _ ih => cases b with
   | cons h2 r2 =>
     refine .cons ?_ (ih r2);rcases m with _ | _ | m
     · obtain⟨i,e1,e2⟩:=h2;subst e1;obtain⟨t,rfl⟩:=h1;exact⟨i,t,rfl,e2⟩
     · obtain⟨i,e1,e2⟩:=h2;subst e1;obtain⟨t,rfl⟩:=h1;exact⟨i,t,rfl,e2⟩
     · obtain⟨a,e1,e2,e3⟩:=h2;subst e1;cases h1;exact⟨a5m I e2,e3⟩
theorem Kv1.keep {h h':Heap}(k:∀b o,h.get? b=some o->h'.get? b=some o)(m:Nat){u:Value}(x:Kv1 h m u ks):Kv1 h' m u ks:=by
 match m,x with
 | 0,x=>exact x
 | 1,x=>exact x
 | _ + 2,x=>exact⟨x.1.keep k,x.2⟩
theorem a1f {α β:Type}{F:α->β->Prop}{xs:List α}{ys:List β}(h:Paired F xs ys)(d:α)(e:β):∀i,i < xs.length->F (xs.getD i d) (ys.getD i e):=by
 induction h with
 | nil=>intro i hi;exact absurd hi (x4b _)
 | cons h1 _ ih =>
   intro i hi;cases i with
   | zero=>exact h1
   | succ i=>exact ih i (Nat.lt_of_succ_lt_succ hi)
theorem a3b {α β:Type}{F:α->β->Prop}{xs:List α}{ys:List β}(h:Paired F xs ys):∀x∈xs,∃y∈ys,F x y:=by
 induction h with
 | nil=>intro x hx;cases hx
 | cons h1 _ ih =>
   intro x hx;rcases x0s.mp hx with rfl | hx
   · exact⟨_,x0h,h1⟩
   · obtain⟨y,hy,hf⟩:=ih x hx;exact⟨y,x0d _ hy,hf⟩
theorem a5l {h:Heap}{m:Nat}{vs:List Value}(p:Paired (Kv1 h (m + 2)) vs kss):∃fs,KatTups h vs fs/\fs.length=vs.length/\∀f∈fs,∃k r,(k::r)∈kss/\KeyV k f:=by
 induction p with
 | nil=>exact⟨[],trivial,rfl,fun _ z=>nomatch z⟩
 | cons h1 _ ih =>
   obtain⟨⟨a,o,its,n,rfl,ho,hc,hd,hk⟩,hne⟩:=h1;obtain⟨fs,t,hl,hf⟩:=ih;cases e:its.toList with
   | nil=>rw [e] at hk;cases hk;exact absurd rfl hne
   | cons f us =>
     rw [e] at hk;cases hk with
     | @cons k _ ks _ h2 h3 =>
       have ef:its[0]?=some f:=by rw [<- x3E,e];rfl
       refine⟨f::fs,KatTups.cons ho hc hd ef t,by rw [x0B,x0B,hl],fun g hg=>?_⟩;rcases x0s.mp hg with rfl | hg
       · exact⟨k,ks,x0h,h2⟩
       · obtain⟨k',r',h4,h5⟩:=hf g hg;exact⟨k',r',x0d _ h4,h5⟩
theorem a7H {prog:x0A}{w:World}{s:Shared}{m:Nat}{vs:List Value}(h2:2<=vs.length)(p:Paired (Kv1 s.heap m) vs kss)(al:b3s kss)(A:Around)(E:Value->Shared->Prop)(h1:Heap)(tk:Nat)(k:∀b o,s.heap.get? b=some o->h1.get? b=some o) :
   ∃κ,(∀Q:x4h->Shared->Prop,Q κ { s with heap:=h1,toks:=tk }->wpAny (model prog w) A (keyKind' vs.toArray) Q E { s with heap:=h1,toks:=tk })/\∀i j (C:Bool->Shared->Prop),i < vs.length->j < vs.length->C (ltIx kss i j) { s with heap:=h1,toks:=tk }->kas_ask prog w A κ vs i j C { s with heap:=h1,toks:=tk }:=by
 have p1:Paired (Kv1 h1 m) vs kss:=Paired.imp' (fun _ _ x=>x.keep k m) p;have lk:=x2X p1
 have mem:∀i,i < vs.length->kss.getD i []∈kss:=fun i hi=>by
   rw [x0D,x0f (by omega)];exact x3G _
 match m,p1 with
 | 0, p1 =>
   refine⟨oneType',fun Q q=>kas_kind (T:=.type "int") h2 (fun v hv=>?_) rfl rfl q,fun i j C hi hj c=>?_⟩
   · obtain⟨ks,_,i,t,rfl,_⟩:=a3b p1 v hv;exact Looks.of_pure rfl
   · obtain⟨a,t,e1,e2⟩:=a1f p1 .none [] i hi;obtain⟨b,t',e3,e4⟩:=a1f p1 .none [] j hj;unfold kas_ask;unfold ltIx at c;rw [e1,e3,keyLt'_oneType];rw [e2,e4] at c;refine a3e (x:=.inl a) (y:=.inl b) (xs:=[]) (ys:=[]) ⟨t,rfl⟩ ⟨t',rfl⟩ trivial ?_
     have e:lexK [.inl a] [.inl b]=a2S (.inl a) (.inl b):=by
       show(if(x4o a:Key)=.inl b then false else a2S (.inl a) (.inl b))=_
       by_cases c:(x4o a:Key)=.inl b
       · rw [if_pos c,c,a6m]
       · rw [if_neg c]
     rw [<- e];exact c
 | 1, p1 =>
   refine⟨oneType',fun Q q=>kas_kind (T:=.type "str") h2 (fun v hv=>?_) rfl rfl q,fun i j C hi hj c=>?_⟩
   · obtain⟨ks,_,i,t,rfl,_⟩:=a3b p1 v hv;exact Looks.of_pure rfl
   · obtain⟨a,t,e1,e2⟩:=a1f p1 .none [] i hi;obtain⟨b,t',e3,e4⟩:=a1f p1 .none [] j hj;unfold kas_ask;unfold ltIx at c;rw [e1,e3,keyLt'_oneType];rw [e2,e4] at c;refine a3e (x:=.inr a) (y:=.inr b) (xs:=[]) (ys:=[]) ⟨t,rfl⟩ ⟨t',rfl⟩ trivial ?_
     have e:lexK [.inr a] [.inr b]=a2S (.inr a) (.inr b):=by
       show(if(x4p a:Key)=.inr b then false else a2S (.inr a) (.inr b))=_
       by_cases c:(x4p a:Key)=.inr b
       · rw [if_pos c,c,a6m]
       · rw [if_neg c]
     rw [<- e];exact c
 | m' + 2, p1 =>
   obtain⟨fs,kt,fl,hf⟩:=a5l p1
   have asks:∀b i j (C:Bool->Shared->Prop),i < vs.length->j < vs.length->C (ltIx kss i j) { s with heap:=h1,toks:=tk }->kas_ask prog w A (tuples' b) vs i j C { s with heap:=h1,toks:=tk }:=fun b i j C hi hj c=>by
     have x1:=a1f p1 .none [] i hi;have x2:=a1f p1 .none [] j hj;exact b3k (s:={ s with heap:=h1,toks:=tk }) x1.1 x2.1 (al _ (mem i hi) _ (mem j hj)) c
   obtain⟨f0,fr,rfl⟩:∃f0 fr,fs=f0::fr:=by
     cases fs with
     | nil=>rw [<- fl] at h2;exact absurd h2 (by simp)
     | cons a r=>exact⟨a,r,rfl⟩
   obtain⟨k0,r0,m0,v0⟩:=hf f0 x0h
   have all:∀T:String,(∀f k r,(k::r)∈kss->KeyV k f->typeOf f=pure (.type T))->∀v∈f0::fr,Looks (model prog w) h1 (typeOf v) (.type T):=fun T hT v hv=>by
     obtain⟨k,r,h3,h4⟩:=hf v hv;exact Looks.of_pure (hT v k r h3 h4)
   cases k0 with
   | inl i0 =>
     refine⟨tuples' (x1o "int" != x1o "tuple"),fun Q q=>kat_kind (s:={ s with heap:=h1,toks:=tk }) kt (by simp) (all "int" fun f k r h3 h4=>?_) rfl q,asks _⟩;cases k with
     | inl i=>obtain⟨t,rfl⟩:=h4;rfl
     | inr z=>exact(al _ m0 _ h3).elim
   | inr i0 =>
     refine⟨tuples' (x1o "str" != x1o "tuple"),fun Q q=>kat_kind (s:={ s with heap:=h1,toks:=tk }) kt (by simp) (all "str" fun f k r h3 h4=>?_) rfl q,asks _⟩;cases k with
     | inr i=>obtain⟨t,rfl⟩:=h4;rfl
     | inl z=>exact(al _ m0 _ h3).elim
end
end L2
end
section
namespace Pu
open PySem PySem.Spec L2
def kP:Key->PV
 | .inl i=>.int i
 | .inr z=>.str z
def a0L:List PV->Option (List Key)
 | []=>some []
 | .int i::r=>(a0L r).map (.inl i::·)
 | .str z::r=>(a0L r).map (.inr z::·)
 | _=>none
def keyP:PV->List Key
 | .int i=>[.inl i]
 | .str z=>[.inr z]
 | .tup xs=>(a0L xs).getD []
 | _=>[]
theorem a3j:∀ks:List Key,a0L (ks.map kP)=some ks
 | []=>rfl
 | .inl i::r=>by show(a0L (r.map kP)).map _=_;rw [a3j r];rfl
 | .inr i::r=>by show(a0L (r.map kP)).map _=_;rw [a3j r];rfl
theorem b0k (ks:List Key):keyP (.tup (ks.map kP))=ks:=by show(a0L (ks.map kP)).getD []=_;rw [a3j];rfl
theorem a0Q {K:x0a}{G:Gh}{H:Hp}:∀(ks:List Key) {us:List V},Reps K G H (ks.map kP) us->us=ks.map kV
 | [],_,h=>h
 | .inl i :: r, _, h => by
   obtain⟨v,t,rfl,h1,h2⟩:=h;rw [a0Q r h2,show v=.int i from h1];rfl
 | .inr i :: r, _, h => by
   obtain⟨v,t,rfl,h1,h2⟩:=h;rw [a0Q r h2,show v=.str i from h1];rfl
theorem a0O:∀{xs:List PV} {ks:List Key},a0L xs=some ks->xs=ks.map kP
 | [],ks,h=>by cases h;rfl
 | .int i :: r, ks, h => by
   cases e:a0L r with
   | none=>simp [a0L,e] at h
   | some t=>simp [a0L,e] at h;subst h;rw [a0O e];rfl
 | .str i :: r, ks, h => by
   cases e:a0L r with
   | none=>simp [a0L,e] at h
   | some t=>simp [a0L,e] at h;subst h;rw [a0O e];rfl
 | .non::_,_,h=>by cases h
 | .bl _::_,_,h=>by cases h
 | .ty _::_,_,h=>by cases h
 | .pot _::_,_,h=>by cases h
 | .tup _::_,_,h=>by cases h
 | .lst _::_,_,h=>by cases h
 | .scr _::_,_,h=>by cases h
 | .fdt _ _::_,_,h=>by cases h
 | .dct _ _::_,_,h=>by cases h
def wLtT:w2:=fun x y R=>match x,y with | .tup xs,.tup ys=>(match a0L xs,a0L ys with | some ks,some js=>Al ks js/\R (.bl (lexK ks js)) | _,_=>False) | _,_=>False
theorem W2.ltT {K:x0a}:W2 K (rLtK K) wLtT:=by
 intro G H x y v u R Q hf rx ry hw k;unfold wLtT at hw
 split at hw
 · split at hw
   · rename_i xs ys _ _ ks js e1 e2;obtain⟨a,us,rfl,hq,r⟩:=rx.tup;obtain⟨b,vs,rfl,hq',r'⟩:=ry.tup;rw [a0O e1] at r;rw [a0O e2] at r';rw [a0Q ks r] at hq;rw [a0Q js r'] at hq';exact⟨a,b,ks,js,rfl,rfl,hq,hq',hw.1,k _ _ _ hw.2 (Same.refl _) rfl⟩
   · exact hw.elim
 · exact hw.elim
section
variable {T:PotK}{ι:Type}{K:x0a}{F:ι->Cx}{e:Expr}{pe:pE}{pos:Pos}
theorem cLtT {k:Nat}(hr:∀z,Room k (F z).A)(hK:∀z,(F z).K=K:=by intro _;rfl):Cmp K F .Lt wLtT:=⟨_,fun z=>hK z▸op_ltK (hr z).units0,W2.ltT⟩
def a6G (xs:List PV):Prop:=(∀x∈xs,∃i,x=.int i)\/(∀x∈xs,∃z,x=.str z)\/((∀x∈xs,∃ks,x=.tup (ks.map kP)/\ks≠[])/\∀x∈xs,∀y∈xs,Al (keyP x) (keyP y))
theorem a2d {G:Gh}{H:Hp}{P:PV->V->List Key->Prop}:∀(xs:List PV) {us:List V},Reps K G H xs us->(∀x∈xs,∀v,Rep K G H x v->P x v (keyP x))->Paired (fun v ks=>∃x,x∈xs/\P x v ks) us (xs.map keyP):=by
 intro xq
 induction xq with
 | nil =>
   intro _ h _;cases h;exact .nil
 | cons x xs ih =>
   intro _ h hP;obtain⟨v,t,rfl,h1,h2⟩:=h;refine .cons ⟨x,x0h,hP x x0h v h1⟩ ?_;exact Paired.imp' (fun v ks ⟨y,hy,hp⟩=>⟨y,x0d _ hy,hp⟩) (ih h2 fun y hy=>hP y (x0d _ hy))
theorem km_of {G:Gh}{H:Hp}{xs:List PV}{us:List V}(r:Reps K G H xs us)(h:a6G xs):∃m,Paired (KM K H m) us (xs.map keyP)/\b3s (xs.map keyP):=by
 rcases h with h | h | ⟨h,h'⟩
 · refine⟨0,Paired.imp' (fun v ks ⟨_,_,hp⟩=>hp) (a2d (P:=fun _ v ks=>KM K H 0 v ks) xs r fun x hx v hv=>?_),fun a ha b hb=>?_⟩
   · obtain⟨i,rfl⟩:=h x hx;exact⟨i,hv,rfl⟩
   · obtain⟨x,hx,rfl⟩:=x0H.mp ha;obtain⟨y,hy,rfl⟩:=x0H.mp hb;obtain⟨i,rfl⟩:=h x hx;obtain⟨j,rfl⟩:=h y hy;exact trivial
 · refine⟨1,Paired.imp' (fun v ks ⟨_,_,hp⟩=>hp) (a2d (P:=fun _ v ks=>KM K H 1 v ks) xs r fun x hx v hv=>?_),fun a ha b hb=>?_⟩
   · obtain⟨i,rfl⟩:=h x hx;exact⟨i,hv,rfl⟩
   · obtain⟨x,hx,rfl⟩:=x0H.mp ha;obtain⟨y,hy,rfl⟩:=x0H.mp hb;obtain⟨i,rfl⟩:=h x hx;obtain⟨j,rfl⟩:=h y hy;exact trivial
 · refine⟨2,Paired.imp' (fun v ks ⟨_,_,hp⟩=>hp) (a2d (P:=fun _ v ks=>KM K H 2 v ks) xs r fun x hx v hv=>?_),fun a ha b hb=>?_⟩
   · obtain⟨ks,rfl,hne⟩:=h x hx;obtain⟨a,vs,rfl,at',rr⟩:=hv;rw [b0k];refine⟨a,rfl,?_,hne⟩;rw [a0Q ks rr] at at';exact SqT.of at'.2
   · obtain⟨x,hx,rfl⟩:=x0H.mp ha;obtain⟨y,hy,rfl⟩:=x0H.mp hb;exact h' x hx y hy
theorem a7L {G:Gh}{H:Hp}{xs:List PV}{us:List V}(r:Reps K G H xs us)(i:Nat)(hi:i < xs.length):Rep K G H (xs.getD i .non) (us.getD i .non):=by
 induction xs generalizing us i with
 | nil=>exact absurd hi (x4b _)
 | cons x xs ih =>
   obtain⟨v,t,rfl,h1,h2⟩:=r;cases i with
   | zero=>exact h1
   | succ i=>exact ih h2 i (Nat.lt_of_succ_lt_succ hi)
end
end Pu
end
section
namespace L2
open PySem PySem.W PySem.Spec PyProof.Rows
def Raw (h:Heap)(d:Addr)(es:Array x4m)(ep:Nat):Prop:=∃o,h.get? d=some o/\o.ExactDict/\o.data=.dict es ep
theorem Raw.typeIs {s:Shared}{d:Addr}{es:Array x4m}{ep:Nat}(x:Raw s.heap d es ep):s.TypeIs (.ref d) "dict":=by
 obtain⟨o,ho,hc,_⟩:=x;exact⟨o,ho,hc.1⟩
section
variable {prog:x0A}{w:World}{A:Around}{E:Value->Shared->Prop}{s:Shared}{d it:Addr}{es:Array x4m}{ep:Nat}
theorem a9v {Q:Value->Shared->Prop}(hd:(d == x1D)=false)(hm:Raw s.heap d es ep)
   (hQ:Q (.ref s.heap.objs.size) { s with heap:=s.heap.push { cls:=.type "dict_keyiterator",data:=.fields #[.ref d,.int 0 0,.int es.size 0,.int ep 0] } }) :
   wpAny (model prog w) A (pyIter (.ref d)) Q E s:=by
 have hT:=hm.typeIs;obtain⟨o,ho,hc,hdat⟩:=id hm;refine wpAny_pyIter_slot hT F.slot_dict_iter (x0X F.slot_dict_iter hT F.entry_dict_iter ?_ (F.args_dict_iter_1 _));unfold x4q.«dict.__iter__»;refine x0b ?_;unfold Builtin.Dict.dictSlotNone;refine x0b (wpAny_notOrdered_dict hT (x0e ?_));show wpAny _ _ (Builtin.Dict.showsAll d>>=_) _ _ s;unfold Builtin.Dict.showsAll;rw [if_neg (by rw [hd];exact x0J)];refine x0b (x0e (x0b (wpAny_dictEntries ho hdat (x0b (wpAny_dictEpoch ho hdat ?_)))));refine x0b (x0F (x0e ⟨_,rfl,"dict_keyiterator",_,⟨_,x0p _ rfl,rfl⟩,F.slot_dict_keyiterator_next.lookup,?_⟩))
 simpa [rawInt] using hQ
theorem a9w {i:Nat}{e:x4m}{Q:Option Value->Shared->Prop}(hit:s.heap.IsKeyIter it d i es.size ep)(hm:Raw s.heap d es ep)(hx:es[i]?=some e)
   (hQ:∀h',h'.IsKeyIter it d (i + 1) es.size ep->x3z it s.heap h'->Q (some e.key) { s with heap:=h' }):wpAny (model prog w) A (pyNext (.ref it)) Q E s:=by
 obtain⟨o,ho,hc,hd⟩:=id hit;obtain⟨od,hod,hcd,hdd⟩:=id hm;unfold pyNext
 refine x0b (x3i (x0Q (name:=x0i "__next__") hit.typeIs x1P
   (x0X x1P hit.typeIs F.entry_dict_keyiterator_next ?_ (F.args_dict_keyiterator_next_1 _))))
 refine x0b (x0e (x0b (x0b ?_)))
 first | refine x0b (x1L hit.typeIs (x0e ?_)) | refine x0b (x2n hit.typeIs (x0e ?_))
 refine x0b (wpAny_fieldsOf ho hd ?_);have hown:x3P "dict_keyiterator"=false:=by decide
 simp only [hown,x1d,if_false];show wpAny _ _ (if(x0I d == x1T)=true then _ else _) _ _ s;rw [if_neg (show ¬((x0I d == x1T)=true) from x0J)];refine x0b (x0e (x0b (wpAny_dictEntries hod hdd ?_)));rw [if_neg (by simp)];refine x0b (x0e (x0b (wpAny_dictEpoch hod hdd ?_)));rw [if_neg (by simp)];refine x0e ?_;obtain⟨hlt,he⟩:=Array.getElem?_eq_some_iff.mp hx;simp only [show ¬((i:Int) < 0) from by omega,if_false,x1i,Array.getElem?_eq_getElem hlt];refine x0b ?_
 first | refine x0b (x1L hit.typeIs (x0e ?_)) | refine x0b (x2n hit.typeIs (x0e ?_))
 refine x0b (wpAny_isOneOf_keyiter hit.typeIs ?_);show wpAny _ _ (setField (.ref it) 1 (rawInt ((i:Int) + 1))>>=_) _ _ s;refine x0b (wpAny_setField ho hd (by simp) ?_)
 have hit':(s.heap.update it (Obj.mapFields (·.setIfInBounds 1 (rawInt ((i:Int) + 1))))).IsKeyIter it d (i + 1) es.size ep:=
   ⟨_,x3B _ ho (Obj.isFreed_of_fields (x3h hd _)),(Obj.cls_mapFields ..).trans hc,by rw [x3h hd];simp [rawInt]⟩
 refine x0b (x1m ?_);refine x0b (wpAny_isOneOf_keyiter (s:={ s with heap:=s.heap.update it (Obj.mapFields (·.setIfInBounds 1 (rawInt ((i:Int) + 1)))) }) hit'.typeIs ?_);show wpAny _ _ (pure es[i].key) _ _ _;rw [he];exact x0e (x0e ⟨_,rfl,x0e (hQ _ hit' (x1W ..))⟩)
theorem b1M {i:Nat}{Q:Option Value->Shared->Prop}(hh:A.handled=none)(hit:s.heap.IsKeyIter it d i es.size ep)(hm:Raw s.heap d es ep)(hx:es.size<=i)
   (hQ:∀h',Heap.ExtBut it s.heap h'->Q none { s with heap:=h' }):wpAny (model prog w) A (pyNext (.ref it)) Q E s:=by
 obtain⟨o,ho,hc,hd⟩:=id hit;obtain⟨od,hod,hcd,hdd⟩:=id hm;unfold pyNext
 refine x0b (x3i (x0Q (name:=x0i "__next__") hit.typeIs x1P
   (x0X x1P hit.typeIs F.entry_dict_keyiterator_next ?_ (F.args_dict_keyiterator_next_1 _))))
 refine x0b (x0e (x0b (x0b ?_)))
 first | refine x0b (x1L hit.typeIs (x0e ?_)) | refine x0b (x2n hit.typeIs (x0e ?_))
 refine x0b (wpAny_fieldsOf ho hd ?_);have hown:x3P "dict_keyiterator"=false:=by decide
 simp only [hown,x1d,if_false];show wpAny _ _ (if(x0I d == x1T)=true then _ else _) _ _ s;rw [if_neg (show ¬((x0I d == x1T)=true) from x0J)];refine x0b (x0e (x0b (wpAny_dictEntries hod hdd ?_)));rw [if_neg (by simp)];refine x0b (x0e (x0b (wpAny_dictEpoch hod hdd ?_)));rw [if_neg (by simp)];refine x0e ?_;simp only [show ¬((i:Int) < 0) from by omega,if_false,x1i,x1C hx];refine x0b ?_
 first | refine x0b (x1L hit.typeIs (x0e ?_)) | refine x0b (x2n hit.typeIs (x0e ?_))
 show wpAny _ _ (setField (.ref it) 0 .none>>=_) _ _ s;refine x0b (wpAny_setField ho hd (by simp) ?_);show wpAny _ _ (newExc (.type "StopIteration") []>>=_) _ _ _;refine x0b ?_;simp only [newExc,newTuple];refine x0b (x0F ?_ (by size_fits));refine x0b (m:=firstArgMember _ _) (wpAny_of_eq (a:=x1T) (by first | rfl | (simp only [firstArgMember];rfl)) ?_);refine x0F ?_ (by size_fits);simp only [raiseNew];refine x0b (wpAny_handled ?_);rw [show A.in1.handled=none from hh];refine x0b (x0e (wpAny_throw ?_));refine x0b (x3I (T:="StopIteration") (b:=true) ⟨_,x0p _ rfl,rfl⟩ isSubtype_stop ?_);exact x0e (hQ _ (((x1W ..).extBut.push _).push _))
end
end L2
end
section
namespace Pu
open PySem PySem.Spec L2
def a1h {κ:Type}[DecidableEq κ](ks:List κ)(k:κ):List κ:=if k∈ks then ks else ks++[k]
def a1O {κ α:Type}[DecidableEq κ](ks:List κ)(xs:List α)(k:κ)(x:α):List α:=if k∈ks then(ks.zip xs).map (fun p=>if p.1=k then x else p.2) else xs++[x]
theorem a8b {κ:Type}[DecidableEq κ]{ks:List κ}{vs:List V}(h:ks.length=vs.length)(k:κ)(v:V):putK (ks.zip vs) k v=(a1h ks k).zip (a1O ks vs k v):=by
 have any:((ks.zip vs).any fun kv=>decide (kv.1=k))=decide (k∈ks):=by
   clear v
   induction ks generalizing vs with
   | nil=>simp
   | cons a ks ih =>
     cases vs with
     | nil=>cases h
     | cons b vs =>
       rw [x2f,x3N,ih (by simpa using h)]
       by_cases c:a=k
       · subst c;simp
       · by_cases d:k∈ks
         · simp [d]
         · have:¬k=a:=fun e=>c e.symm;simp [c,d,this]
 unfold putK a1h a1O;rw [any]
 by_cases c:k∈ks
 · rw [if_pos (decide_eq_true c),if_pos c,if_pos c];clear any c
   induction ks generalizing vs with
   | nil=>simp
   | cons a ks ih =>
     cases vs with
     | nil=>cases h
     | cons b vs =>
       simp only [x2f,x1f];rw [ih (by simpa using h)]
       split <;> rfl
 · rw [if_neg (by simpa using c),if_neg c,if_neg c,List.zip_append h];rfl
theorem a5u {κ α:Type}[DecidableEq κ]{ks:List κ}{xs:List α}(h:ks.length=xs.length)(k:κ)(x:α):(a1h ks k).length=(a1O ks xs k x).length:=by
 unfold a1h a1O
 by_cases c:k∈ks
 · rw [if_pos c,if_pos c,x0g,List.length_zip];omega
 · rw [if_neg c,if_neg c,x0q,x0q,h];rfl
theorem a5W {κ:Type}[DecidableEq κ]{K:x0a}{G:Gh}{H:Hp}{ks:List κ}{xs:List PV}{vs:List V}(r:Reps K G H xs vs)(h:ks.length=xs.length)(k:κ){x:PV}{v:V}(rx:Rep K G H x v):Reps K G H (a1O ks xs k x) (a1O ks vs k v):=by
 unfold a1O
 by_cases c:k∈ks
 · rw [if_pos c,if_pos c];clear c
   induction ks generalizing xs vs with
   | nil=>exact rfl
   | cons a ks ih =>
     cases xs with
     | nil=>cases h
     | cons y ys =>
       obtain⟨u,t,rfl,h1,h2⟩:=r;refine⟨_,_,rfl,?_,ih h2 (by simpa using h)⟩;show Rep K G H (if a=k then x else y) (if a=k then v else u)
       by_cases d:a=k
       · rw [if_pos d,if_pos d];exact rx
       · rw [if_neg d,if_neg d];exact h1
 · rw [if_neg c,if_neg c];exact r.append ⟨v,[],rfl,rx,rfl⟩
def tupP (ks:List Key):PV:=.tup (ks.map kP)
section
variable {T:PotK}{np:Bool}{ι:Type}{K:x0a}{F:ι->Cx}{e:Expr}{st:Stmt}{pe pk pv:pE}{pos:Pos}
def b1V (i:Nat):pS:=fun D env n=>D.nx (env.set i (some (.ow (.dt []) []))) n
theorem b1O (i:Nat)(h:∀z te,EW (F z) (.Dict [] [] pos) te->SW (F z) st (tAsg te (a1I i))):QS T np K F st (b1V i):=by
 refine⟨_,fun z=>(h z _ ⟨a9V⟩).h,fun C G σ H env n PD D hK hT hn S hp L=>?_⟩;intro p hn1;exact L.nx _ _ _ _ _ hp (S.ow i (.dt []) (xs:=[]) (vs:=[]) hn1 rfl) (a1A hn1)
def a8a (i:Nat)(pk pv:pE):pS:=fun D env n=>pv env n fun x env1 n1=>(∃ks xs,env1[i]?=some (some (.ow (.dt ks) xs)))/\pk env1 n1 fun y env2 n2=>match env2[i]?,y with
 | some (some (.ow (.dt ks) xs)),.tup ys=>(match a0L ys with | some k=>ks.length=xs.length/\xs.length < 1000000/\D.nx (env2.set i (some (.ow (.dt (a1h ks k)) (a1O ks xs k x)))) n2 | none=>False)
 | _,_=>False
theorem b1z {X:Cx}{i:Nat}{o ix v:Expr}{pos' pos:Pos}(hu:X.A.units + 1 < cLine)(ho:EW X o (tVar i))(hs:x3A v (some (.Subscript o ix pos')) pos.line X.env=pure false:=by rfl)(tv ti:TE)(hv:EW X v tv)(hi:EW X ix ti):SW X (.Assign [.Subscript o ix pos'] v pos) (b1K (tVar i) ti tv):=⟨b2c hu ho.h hi.h hv.h hs⟩
theorem a9B (i:Nat){v ix:Expr}(h:∀z tv ti,EW (F z) v tv->EW (F z) ix ti->SW (F z) st (b1K (tVar i) ti tv))(hv:QE T K F v pv)(hi:QE T K F ix pk):QS T np K F st (a8a i pk pv):=by
 obtain⟨tv,v1,v2⟩:=hv;obtain⟨ti,i1,i2⟩:=hi;refine⟨_,fun z=>(h z _ _ ⟨v1 z⟩ ⟨i1 z⟩).h,fun C G σ H env n PD D hK hT hn S hp L=>?_⟩;refine v2 C G σ H env n _ _ hK hT S hp fun x env1 n1 v H1 q1 S1 r1 f1=>?_;obtain⟨⟨ks0,xs0,e0⟩,q1⟩:=q1;obtain⟨a,vs,ev,h1,h2,h3,h4,r⟩:=S1.slots i _ e0;refine⟨.ref a,ev,?_⟩;refine i2 C G σ H1 env1 n1 _ _ hK hT S1 q1 fun y env2 n2 w H2 q2 S2 r2 f2=>?_
 split at q2
 · rename_i ks xs ys ex
   split at q2
   · rename_i k ek;obtain⟨hl,hz,q3⟩:=q2;obtain⟨a',us,ev',g1,g2,g3,g4,r'⟩:=S2.slots i _ ex;rw [ev] at ev';cases ev';subst hK;have hlv:ks.length=us.length:=by rw [hl];exact r'.length
     obtain⟨b,ws,rfl,atb,rb⟩:=r2;rw [a0O ek] at rb;have eb:H2 b=some (.tup (k.map kV)):=by rw [<- a0Q k rb];exact atb.2
     have rx:=r1.fr f2;obtain⟨S3,f3⟩:=S2.putO (.dt (a1h ks k)) ex ev (a5W r' hl k rx)
     have eH:upd H2 a (mkO (.dt (a1h ks k)) (a1O ks us k v))=upd H2 a (.dT (putK (ks.zip us) k v)):=by
       show upd H2 a (.dT ((a1h ks k).zip (a1O ks us k v)))=_;rw [a8b hlv]
     have zl:(ks.zip us).length < x0v:=by rw [List.length_zip];unfold x0v;omega
     rw [eH] at S3 f3;exact⟨a,_,rfl,DPut.t g4 eb zl,L.nx _ _ _ _ _ q3 S3 (Ext.fr ((f1.trans f2).trans f3))⟩
   · exact q2.elim
 · exact q2.elim
theorem a5p {G:Gh}{H:Hp}:∀k:List Key,Reps K G H (k.map kP) (k.map kV)
 | []=>rfl
 | .inl i::k=>⟨_,_,rfl,rfl,a5p k⟩
 | .inr i::k=>⟨_,_,rfl,rfl,a5p k⟩
end
end Pu
end
section
namespace Pu
open PySem PySem.Spec L2
theorem SR.forget {C:Ct}{G:Gh}{σ:St}{H:Hp}{env:Env}{n:Nat}(S:SR C G σ H env n)(j:Nat):SR C G σ H (env.set j none) n:=by
 have back:∀(i:Nat) (s:Slot),(env.set j none)[i]?=some (some s)->j≠i/\env[i]?=some (some s):=fun i s e=>by
   by_cases h:j=i
   · subst h
     by_cases hl:j < env.length
     · rw [x0o hl] at e;cases e
     · rw [x0w (by rw [x0x];omega)] at e;cases e
   · rw [x0t h] at e;exact⟨h,e⟩
 exact { frame := S.frame, sub := S.sub, sup := S.sup, pots := S.pots, pre := S.pre, mu := S.mu, slots := fun i s e => S.slots i s (back i s e).2,
         inj:=fun i k xs ys a e1 e2 e3 e4=>S.inj i k xs ys a (back i _ e1).2 (back k _ e2).2 e3 e4,p0:=S.p0,len:=by rw [x0x];exact S.len,newp:=S.newp }
section
variable {T:PotK}{np:Bool}{ι:Type}{K:x0a}{F:ι->Cx}{e:Expr}{st:Stmt}{pe pk pv:pE}{pos:Pos}
def a9I (i j:Nat):pS:=fun D env n=>match env[j]? with | some (some (.ow k xs))=>D.nx ((env.set j none).set i (some (.ow k xs))) n | _=>False
theorem b1Q (i j:Nat)(h:∀z te,EW (F z) e te->SW (F z) st (tAsg te (a1I i)))(hv:∀z,EW (F z) e (tVar j)):QS T np K F st (a9I i j):=by
 refine⟨_,fun z=>(h z _ (hv z)).h,fun C G σ H env n PD D hK hT hn S hp L=>?_⟩;unfold a9I at hp
 split at hp
 · rename_i k xs ex;have sl:=S.slots j _ ex;obtain⟨a,vs,ev,h1,h2,h3,h4,r⟩:=sl;refine⟨.ref a,ev,?_⟩;have S1:=S.forget j;refine L.nx _ _ _ _ _ hp (S1.slot i (s:=.ow k xs) (v:=.ref a) ⟨a,vs,rfl,h1,h2,h3,h4,r⟩ fun x b e1 e2 z=>?_) Ext.refl;cases e2;obtain⟨m,y,z1,z2⟩:=z
   have hm:j≠m:=fun hj=>by
     subst hj
     by_cases hl:j < env.length
     · rw [x0o hl] at z1;cases z1
     · rw [x0w (by rw [x0x];omega)] at z1;cases z1
   rw [x0t hm] at z1;exact hm (S.inj j m (k,xs) y a ex z1 ev z2)
 · exact hp.elim
end
end Pu
end
section
namespace Pu
open PySem PySem.Spec L2
def frzS:Slot->Option Slot
 | .v x=>some (.v x)
 | .ow .lst xs=>some (.v (.lst xs))
 | .ow (.dk ks) xs=>if ks.length=xs.length then some (.v (.dct ks xs)) else none
 | .ow (.dt _) _=>none
 | .ow (.st _) _=>none
def frz (env:Env):Env:=env.map fun o=>o.bind frzS
def b3p (T:PotK):Prop:=∀M M' H p n,T.at_ M H p n->(∀a∈M',a∈M\/∃o,H a=some o/\MutO o)->T.at_ M' H p n
theorem SR.lend {C:Ct}{G:Gh}{σ:St}{H:Hp}{env:Env}{n:Nat}(S:SR C G σ H env n):SR ⟨C.K,C.T,G.pots,G.pots,H,C.np⟩ ⟨G.pots,G.pots⟩ σ H (frz env) n where
 frame _ _ _ e:=e
 sub a ha:=.inl ha
 sup a ha:=ha
 pots p hp:=⟨hp,C.T.more (S.pots p hp).2 fun b hb=>.inl (S.pots b hb).1⟩
 pre:=⟨[],(x1x _).symm,.inl rfl⟩
 mu a ha:=S.mu a (S.pots a ha).1
 slots i s e:=by
   have mm:∀{x:PV} {v:V},Rep C.K G H x v->Rep C.K ⟨G.pots,G.pots⟩ H x v:=fun r=>Rep.mono (G':=⟨G.pots,G.pots⟩) (fun _ _ _ e=>e) (fun b hb=>.inl (S.pots b hb).1) (fun _ _ e=>e) _ _ r;have mms:∀{x:List PV} {v:List V},Reps C.K G H x v->Reps C.K ⟨G.pots,G.pots⟩ H x v:=fun r=>Reps.mono (G':=⟨G.pots,G.pots⟩) (fun _ _ _ e=>e) (fun b hb=>.inl (S.pots b hb).1) (fun _ _ e=>e) _ _ r;unfold frz at e;rw [x0r] at e;cases h:env[i]? with
   | none=>rw [h] at e;cases e
   | some o =>
     rw [h] at e;cases o with
     | none=>cases e
     | some t =>
       have q:=S.slots i t h;have e':frzS t=some s:=by simpa using e
       cases t with
       | v x =>
         cases e';obtain⟨v,e1,r⟩:=q;exact⟨v,e1,mm r⟩
       | ow k xs =>
         obtain⟨a,vs,ev,h1,h2,h3,h4,r⟩:=q;cases k with
         | lst=>cases e';exact⟨.ref a,ev,a,vs,rfl,⟨h3,h4⟩,mms r⟩
         | dk ks =>
           have e':(if ks.length=xs.length then some (Slot.v (.dct ks xs)) else none)=some s:=e'
           split at e'
           · rename_i hl;cases e';have hlv:ks.length=vs.length:=by rw [hl];exact r.length
             refine⟨.ref a,ev,a,ks.zip vs,rfl,h3,h4,x2N (x2d hlv),?_⟩;rw [x3J (x2d hlv.symm)];exact mms r
           · cases e'
         | dt ks=>cases e'
         | st ks=>cases e'
 inj i j xs ys a e1:=by
   have:∀o:Option Slot,o.bind frzS≠some (.ow xs.1 xs.2):=by
     intro o z;cases o with
     | none=>cases z
     | some t =>
       cases t with
       | v x=>cases z
       | ow k ys =>
         cases k with
         | lst=>cases z
         | dk ks =>
           have z:(if ks.length=ys.length then some (Slot.v (.dct ks ys)) else none)=some (.ow xs.1 xs.2):=z
           split at z <;> cases z
         | dt ks=>cases z
         | st ks=>cases z
   unfold frz at e1;rw [x0r] at e1;cases h:env[i]? with
   | none=>rw [h] at e1;cases e1
   | some o=>rw [h] at e1;exact absurd (x0C e1) (this o)
 p0:=⟨fun p hp=>hp,S.hasG⟩
 len:=by unfold frz;rw [x0g];exact S.len
 newp p hp h:=absurd hp h
theorem a4L:b3p potL:=fun _ _ _ _ _ h _=>h
end Pu
end
section
namespace L2
open PySem PySem.Spec PyProof.Rows
def rInDK:R2:=fun y x H Q=>∃a o,x=.ref a/\DGet H a y o/\Q (.bl o.isSome) H
theorem b2y {X:Cx}(hu:X.A.units + 1 < cLine):OpR X (x1v .In) rInDK:=by
 intro pins s σ H x y v u Q I rx ry h;obtain⟨a,o,rfl,g,q⟩:=h;cases ry;exact d_in hu I g rx fun s3 I3=>⟨.bl o.isSome,H,I3,rfl,q⟩
end L2
end
section
namespace Pu
open PySem PySem.Spec L2
abbrev pSlN:=Env->Nat->(List Slot->Env->Nat->Prop)->Prop
def Gots (C:Ct)(G:Gh)(H:Hp)(σ:St)(env:Env):List Slot->List V->Prop
 | [],vs=>vs=[]
 | s::ss,vs=>∃v r,vs=v::r/\Got C G H σ env s v/\(∀(xs:OK×List PV) a,s=.ow xs.1 xs.2->v=.ref a->∀(ys:OK×List PV) w,(Slot.ow ys.1 ys.2,w)∈ss.zip r->w≠.ref a)/\Gots C G H σ env ss r
section
variable {T:PotK}{np:Bool}{ι:Type}{K:x0a}{F:ι->Cx}{e:Expr}{es:List Expr}{st:Stmt}{s1:pSl}{sl:pSlN}{pos:Pos}
theorem Gots.set {C:Ct}{G:Gh}{H:Hp}{σ:St}{env:Env}{i:Nat}{s0:Slot}{v0:V}(hl:env.length=σ.length):∀{ss:List Slot} {vs:List V},Gots C G H σ env ss vs->(∀(xs:OK×List PV) a,s0=.ow xs.1 xs.2->v0=.ref a->∀(ys:OK×List PV) w,(Slot.ow ys.1 ys.2,w)∈ss.zip vs->w≠.ref a)->Gots C G H (σ.set i (some v0)) (env.set i (some s0)) ss vs
 | [],_,h,_=>h
 | s :: ss, vs, h, no => by
   obtain⟨v,r,rfl,g,ne,h⟩:=h;refine⟨v,r,rfl,⟨g.1,fun xs a e1 e2 z=>?_⟩,ne,Gots.set hl h fun xs a e1 e2 ys w hw=>no xs a e1 e2 ys w (by rw [x2f];exact x0d _ hw)⟩;rcases a8j hl z with z | ⟨⟨zs,ez⟩,ev⟩
   · exact g.2 xs a e1 e2 z
   · exact no zs a ez ev xs v (by rw [x2f,e1];exact x0h) e2
end
end Pu
end
section
namespace L2
open PySem PySem.Spec PyProof.Rows
abbrev LC2 (elt t1 i1 t2 i2:Expr)(ifs:List Expr)(scope:Scope)(pos:Pos):Expr:=.ListComp elt [⟨t1,i1,[],0⟩,⟨t2,i2,ifs,0⟩] scope pos
theorem a7g (elt t1 i1 t2 i2:Expr)(ifs:List Expr)(scope:Scope)(pos:Pos)(it acc:Value)(env:Env) :
   compTurn (LC2 elt t1 i1 t2 i2 ifs scope pos) 1 it acc env=(do
     standAt i2.pos
     match ← pyNext it with
     | none=>pure (.done .next)
     | some v =>
       x1I t2 it v
       assign t2 env v
       let mut ok:=true
       for c in ifs do
         if ok then ok ← isTrue c env (eval c env)
       if ok then
         (do let _ ← call (.builtin "list.append") [acc,<- eval elt env])
       again (.compLoop (LC2 elt t1 i1 t2 i2 ifs scope pos) 1 it acc env)):=by rfl
section
variable {prog:x0A}{w:World}{A:Around}{R:Result->Shared->Prop}{s:Shared}{elt t1 i1 t2 i2:Expr}{ifs:List Expr}{scope:Scope}{pos:Pos}{it acc:Value}{env:Env}
theorem b0Z (I:Nat->Shared->Prop)
   (turn:∀n s,I n s->wpAny (model prog w) A (pyNext it) (fun r s₁=>match r with
     | none=>R (.ok .next) s₁
     | some v=>wpAny (model prog w) A (x1I t2 it v) (fun _ s₁'=>wpAny (model prog w) A (assign t2 env v) (fun _ s₂=>
         wpAny (model prog w) A (forIn ifs true fun c r=>if r=true then do let ok ← isTrue c env (eval c env);pure (x1y ok) else pure (x1y r)) (fun ok s₃=>
           if ok=true then wpAny (model prog w) A (eval elt env) (fun x s₄=>
             wpAny (model prog w) A (call (.builtin "list.append") [acc,x]) (fun _ s₅=>∃m,m < n/\I m s₅) (fun _ _=>False) s₄) (fun _ _=>False) s₃
           else ∃m,m < n/\I m s₃) (fun _ _=>False) s₂) (fun _ _=>False) s₁') (fun _ _=>False) s₁) (fun _ _=>False) s)
   (n:Nat) (h:I n s):x2J (model prog w) A (.compLoop (LC2 elt t1 i1 t2 i2 ifs scope pos) 1 it acc env) R s:=by
 refine codeAny_loop rfl I (fun n s hI=>?_) n h;show wpAny _ A ((compTurn (LC2 elt t1 i1 t2 i2 ifs scope pos) 1 it acc env).onRaise (fun x=>do noteFrame x env;theTreesLotGoes x)) _ _ s;refine wpAny_noted ?_;rw [a7g];refine x0b (x1M (x0b (x0S (turn n s hI) (fun r s₁ h₁=>?_) fun _ _ h'=>h'.elim)));cases r with
 | none=>exact x0e h₁
 | some v =>
   refine x0b (x0S h₁ (fun _ s₁' h₁'=>?_) fun _ _ h'=>h'.elim);refine x0b (x0S h₁' (fun _ s₂ h₂=>x0b (x0S h₂ (fun ok s₃ h₃=>?_) fun _ _ h'=>h'.elim)) fun _ _ h'=>h'.elim);cases ok with
   | false=>exact x0e ⟨rfl,h₃⟩
   | true =>
     exact x0b (x0b (x0S h₃ (fun x s₄ h₄=>x0b (x0S h₄ (fun _ s₅ h₅=>x0e (x0e ⟨rfl,h₅⟩)) fun _ _ h'=>h'.elim)) fun _ _ h'=>h'.elim))
theorem a7G (h0:x2J (model prog w) A (.compLoop (LC2 elt t1 i1 t2 i2 ifs scope pos) 1 it acc env) R s)
   (h:wpAny (model prog w) A (pyIter it) (fun it' s'=>x2J (model prog w) A (.compLoop (LC2 elt t1 i1 t2 i2 ifs scope pos) 1 it' acc env) R s') (fun _ _=>False) s) :
   x2J (model prog w) A (.compStart (LC2 elt t1 i1 t2 i2 ifs scope pos) 1 it acc env) R s:=by
 refine codeAny_of_tree ?_;show wpAny _ _ ((compStart (LC2 elt t1 i1 t2 i2 ifs scope pos) 1 it acc env).onRaise (fun x=>do noteFrame x env;standAt theWindowsPlace)) _ _ s;refine wpAny_notedAt ?_;unfold compStart;show wpAny _ _ (ask>>=_) _ _ s;refine x0b (wpAny_askSetting (wpAny_ite ?_))
 split
 · first
     | exact x0b (x0e (x0e (And.intro rfl h0)))
     | exact x0e (And.intro rfl h0)
 · first
     | exact x0b (x2x (x0b (x1M (x0b (x0S h (fun it' s' h'=>x0e (And.intro rfl h')) fun _ _ x=>x.elim)))))
     | (refine x0b (x2x ?_);show wpAny _ _ (standAt i2.pos>>=_) _ _ s;exact x0b (x1M (x0b (x0S h (fun it' s' h'=>x0e (And.intro rfl h')) fun _ _ x=>x.elim))))
theorem b0Y (hs:∀x,x0O i2 env x=pure x)(I:Nat->Shared->Prop)
   (turn:∀n s,I n s->wpAny (model prog w) A (pyNext it) (fun r s₁=>match r with
     | none=>R (.ok .next) s₁
     | some v=>wpAny (model prog w) A (x1I t1 it v) (fun _ s₁'=>wpAny (model prog w) A (assign t1 env v) (fun _ s₂=>
         wpAny (model prog w) A (eval i2 env) (fun x s₃=>wpAny (model prog w) A (pyIter x) (fun it2 s₄=>
           x2J (model prog w) A (.compStart (LC2 elt t1 i1 t2 i2 ifs scope pos) 1 it2 acc env) (fun r s'=>r=.ok .next/\∃m,m < n/\I m s') s₄) (fun _ _=>False) s₃) (fun _ _=>False) s₂) (fun _ _=>False) s₁') (fun _ _=>False) s₁) (fun _ _=>False) s)
   (n:Nat) (h:I n s):x2J (model prog w) A (.compLoop (LC2 elt t1 i1 t2 i2 ifs scope pos) 0 it acc env) R s:=by
 refine codeAny_loop rfl I (fun n s hI=>?_) n h;show wpAny _ A ((compTurn (LC2 elt t1 i1 t2 i2 ifs scope pos) 0 it acc env).onRaise (fun x=>do noteFrame x env;theTreesLotGoes x)) _ _ s;refine wpAny_noted ?_;unfold compTurn;show wpAny _ _ (standAt i1.pos>>=_) _ _ s;refine x0b (x1M ?_);refine x0b (x0S (turn n s hI) (fun r s₁ h₁=>?_) fun _ _ h'=>h'.elim);cases r with
 | none=>exact x0e h₁
 | some v =>
   refine x0b (x0S h₁ (fun _ s₁' h₁'=>?_) fun _ _ h'=>h'.elim);refine x0b (x0S h₁' (fun _ s₂ h₂=>x0b (wpAny_tests_nil ?_)) fun _ _ h'=>h'.elim);refine x0b (x0S h₂ (fun x s₃ h₃=>?_) fun _ _ h'=>h'.elim);refine x0b (x1M ?_);show wpAny _ _ (x0O i2 env x>>=fun x=>(holding [x] (pyIter x)>>=fun it2=>(runOwn (.compStart (LC2 elt t1 i1 t2 i2 ifs scope pos) 1 it2 acc env) env>>=fun _=>again (.compLoop (LC2 elt t1 i1 t2 i2 ifs scope pos) 0 it acc env)))) _ _ _;refine x0b (wpAny_of_eq (hs x) (x0b (x1m (x0S h₃ (fun it2 s₄ h₄=>?_) fun _ _ h'=>h'.elim))));refine x0b (wpAny_runOwn ?_);rw [Around.mark_none];refine codeAny_mono h₄ fun r s' hr=>?_;obtain⟨rfl,hr⟩:=hr;exact x0e ⟨rfl,hr⟩
end
def b1n (J:It)(g:TG)(tt:TT)(te:TE)(D:Addr)(N:St->Hp->Prop)(σ:St)(H:Hp):Prop:=∃W:Nat->Nat->St->Hp->Prop,(∃m,W 0 m σ H)/\
 ∀i m σ' H',W i m σ' H'->(J.stop i H'/\N σ' H')\/(J.go i H'/\∀x H2,J.yld i H' x H2->g x σ' H2 fun σ3 H3=>tt σ3 H3 fun b H4=>
    if b=true then te σ3 H4 fun v H5=>∃ys,H5 D=some (.lst ys)/\ys.length < x0v/\∃m',m' < m/\W (i + 1) m' σ3 (upd H5 D (.lst (ys++[v])))
    else ∃m',m' < m/\W (i + 1) m' σ3 H4)
def b1m (J:It)(g1:TG)(wi2:TI)(g2:TG)(tt:TT)(te:TE)(Q:VK)(D:Addr)(σc:St)(H1:Hp):Prop:=∃W:Nat->Nat->St->Hp->Prop,(∃m,W 0 m σc H1)/\
 ∀i m σ' H',W i m σ' H'->(J.stop i H'/\Q (.ref D) H')\/(J.go i H'/\∀x H2,J.yld i H' x H2->g1 x σ' H2 fun σ3 H3=>wi2 σ3 H3 fun J2 H4=>b1n J2 g2 tt te D (fun σ5 H5=>∃m',m' < m/\W (i + 1) m' σ5 H5) σ3 H4)
def b0E (cs:List (Option Nat))(wi:TI)(g1:TG)(wi2:TI)(g2:TG)(tt:TT)(te:TE):TE:=fun σ H Q=>wi σ H fun J H1=>∀D,H1 D=none->b1m J g1 wi2 g2 tt te Q D (a7j cs σ) (upd H1 D (.lst []))
theorem a6h {X:Cx}{scope:Scope}{cl:List (Str×Addr)}{N:List Str}{cs:List (Option Nat)}{elt t1 i1 t2 i2:Expr}{ifs:List Expr}{pos:Pos}{wi1 wi2:TI}{g1 g2:TG}{tt:TT}{te:TE}(S:a1a X scope cl N cs)(hc:X.calm=true)(hi:PI X t1 i1 wi1)
   (hb:∀(fp:List Addr) (C:Addr) (s:Shared) (H:Hp),PG (a0l X scope cl N fp C s H) t1 g1/\PI (a0l X scope cl N fp C s H) t2 i2 wi2/\PG (a0l X scope cl N fp C s H) t2 g2/\PIf (a0l X scope cl N fp C s H) ifs tt/\PE (a0l X scope cl N fp C s H) elt te)
   (hs2:∀fp C s H x,x0O i2 (a0l X scope cl N fp C s H).env x=pure x)
   (hs:∀x,x0O i1 X.env x=pure x:=by intro _;rfl) :
   PE X (LC2 elt t1 i1 t2 i2 ifs scope pos) (b0E cs wi1 g1 wi2 g2 tt te):=by
 intro pins s σ H Q I h;rw [eval_ListComp];refine x2V (use:=none) rfl hs S.clos S.kind S.names (thn (hi pins s σ H _ I h) fun v s1 h1=>thn h1 fun itv s2 h2=>?_);obtain⟨it,fp,tn,J,H2,rfl,I2,T,st2,f2,q⟩:=h2
 have ho:∀b∈fp,∃o,s2.heap.get? b=some o:=fun b hb=>by
   obtain⟨o,e,_⟩:=T.obj 0 _ st2 b hb;exact⟨o,e⟩
 refine x0F (wpAny_newFunctionEnv S.nocell (by intro y hy;simp at hy) (fun h₁ hns₁ hsb₁=>?_) S.kind);dsimp only at hns₁ hsb₁ ⊢;have hC:(s2.heap.push { cls:=.type "list",dict:=none,data:=.seq ([]:List Value).toArray }).objs.size=s2.heap.objs.size + 1:=by rw [x2g]
 generalize hH2:s2.heap.push { cls:=.type "list",dict:=none,data:=.seq ([]:List Value).toArray }=hp2 at hns₁ hsb₁ hC ⊢;have old:∀b o,s2.heap.get? b=some o->h₁.get? b=some o:=fun b o e=>hsb₁.extBut b o (by rw [hC];exact x0u (x1p (x0l e))) (x0c _ (hH2▸x0c _ e));have hD:h₁.get? s2.heap.objs.size=some { cls:=.type "list",data:=.seq ([]:List Value).toArray }:=hsb₁.extBut _ _ (by rw [hC];exact x0u (Nat.lt_succ_self _)) (x0c _ (hH2▸x0p _ rfl));rw [hC] at hns₁ ⊢;obtain⟨W,⟨m0,w0⟩,turn⟩:=q s2.heap.objs.size I2.fresh;have Ic:=a4m S (tk:=s2.toks + ([]:List (Str×Value)).length) I2 f2 ho old hns₁ hD;have nstk:∀b,b≠X.env.locals->b∉X.fs->b∉frs X.stack:=fun b h1 h2 hb=>(x0s.mp (I2.stkSub b hb)).elim h1 h2
 have stat:∀{H':Hp},(∀b∈fp,H' b=none)->∀b∈fp,FpOk (a0l X scope cl N fp (s2.heap.objs.size + 1) s2 H2) pins H' b:=fun hn b hb=>by
   obtain⟨o,e⟩:=ho b hb;exact⟨hn b hb,x0u (x1p (x0l e)),nstk b (f2 b hb).2.1 (f2 b hb).2.2.1,.inl hb,fun x c ec=>(f2 b hb).2.2.2.2.1 x c (S.sub x c ec),(f2 b hb).2.2.2.2.2⟩
 obtain⟨hg,hi2,hg2,hf,he⟩:=hb fp (s2.heap.objs.size + 1) s2 H2;have st1:tn 0 h₁:=T.keep _ _ _ st2 fun b hb o e=>old b o e
 have fr1:∀b∈fp,upd H2 s2.heap.objs.size (.lst []) b=none:=fun b hb=>by
   obtain⟨o,e⟩:=ho b hb;rw [a0f (x0u (x0l e))];exact(f2 b hb).1
 have loop:∀s₃:Shared,s₃={ s2 with heap:=h₁,toks:=s2.toks + ([]:List (Str×Value)).length }->
     x2J (model X.prog X.w) X.A (.compLoop (LC2 elt t1 i1 t2 i2 ifs scope pos) 0 (.ref it) (.ref s2.heap.objs.size) (compEnvC scope cl (s2.heap.objs.size + 1) X.env))
       (compPost (model X.prog X.w) X.A X.xe none (EP X pins σ Q) (.ref s2.heap.objs.size) (s2.heap.objs.size + 1)) s₃:=by
   rintro s₃ rfl;refine b0Y (hs2 fp (s2.heap.objs.size + 1) s2 H2) (fun n s'=>∃i σ' H',Inv (a0l X scope cl N fp (s2.heap.objs.size + 1) s2 H2) pins σ' H' s'/\tn i s'.heap/\(∀b∈fp,H' b=none)/\W i n σ' H') ?_ m0 ⟨0,_,_,Ic,st1,fr1,w0⟩;rintro n s3 ⟨i,σ3,H3,I3,st3,fr3,w3⟩;rcases turn i n σ3 H3 w3 with⟨stop,qn⟩ | ⟨go,step⟩
   · refine thn (T.done (a0l X scope cl N fp (s2.heap.objs.size + 1) s2 H2) rfl rfl rfl hc i pins s3 σ3 H3 (fun _ _=>False) I3 (stat fr3) st3 stop) fun r s4 ⟨hr,I4⟩=>?_;subst hr;obtain⟨m4,hn4,_⟩:=I4.loc;exact⟨m4,hn4,fun h' hs'=>⟨.ref s2.heap.objs.size,H3,Inv.uncomp I2 f2 I4 fun b hb=>hs'.2 b hb,rfl,qn⟩⟩
   · refine thn (T.item (a0l X scope cl N fp (s2.heap.objs.size + 1) s2 H2) rfl rfl rfl hc i pins s3 σ3 H3 (fun _ _=>False) I3 (stat fr3) st3 go) fun r s4 ⟨u,hr,h4⟩=>?_;subst hr;refine thn h4 fun _ s5 ⟨x,H5,I5,r5,y5,st5,fr5⟩=>?_;have I5':=I5.pinned (stat fr5) (T.obj _ _ st5);refine thn (hg _ s5 σ3 H5 x u _ I5' r5 (step x H5 y5)) fun _ s6 ⟨σ6,H6,I6,q6⟩=>?_;refine thn (hi2 _ s6 σ6 H6 _ I6 q6) fun v7 s7 h7=>thn h7 fun itv s8 h8=>?_;obtain⟨it2,fp2,tn2,J2,H8,rfl,I8,T2,st8,f8,W2,⟨m2,w2⟩,turn2⟩:=h8;have stat2:∀{H':Hp},(∀b∈fp2,H' b=none)->∀b∈fp2,FpOk (a0l X scope cl N fp (s2.heap.objs.size + 1) s2 H2) (pins++a2L fp s5.heap) H' b:=fun hn b hb=>⟨hn b hb,(f8 b hb).2⟩
     have inner:x2J (model X.prog X.w) X.A (.compLoop (LC2 elt t1 i1 t2 i2 ifs scope pos) 1 (.ref it2) (.ref s2.heap.objs.size) (compEnvC scope cl (s2.heap.objs.size + 1) X.env)) (fun r s'=>r=.ok .next/\∃m,m < n/\∃i σ' H',Inv (a0l X scope cl N fp (s2.heap.objs.size + 1) s2 H2) pins σ' H' s'/\tn i s'.heap/\(∀b∈fp,H' b=none)/\W i m σ' H') s8:=by
       exact b0Z _ (a7w (Y:=a0l X scope cl N fp (s2.heap.objs.size + 1) s2 H2) T2 hc stat2 hg2 hf he (fun s10 σ9 H9 I10 qn2=>⟨rfl,a4v T st5 I10 qn2⟩) turn2) m2 ⟨0,σ6,H8,I8,st8,fun b hb=>(f8 b hb).1,w2⟩
     exact a7G inner (T2.self _ 0 _ _ _ st8 inner)
 exact x3n (loop _ rfl) (T.self _ 0 _ _ _ st1 (loop _ rfl))
end L2
end
section
namespace Pu
open PySem PySem.Spec L2
def a7i (g:pG)(tt:pT)(te:pE):List PV->Env->Nat->(List PV->Env->Nat->Prop)->Prop
 | [],env,n,R=>R [] env n
 | x::xs,env,n,R=>g x env fun env1=>tt env1 n fun b env2 n2=>if b=true then te env2 n2 fun y env3 n3=>a7i g tt te xs env3 n3 fun ys e m=>R (y::ys) e m else a7i g tt te xs env2 n2 R
def a4Z (g1:pG)(pi2:pA)(g2:pG)(tt:pT)(te:pE):List PV->Env->Nat->(List PV->Nat->Prop)->Prop
 | [],_,n,R=>R [] n
 | x::xs,env,n,R=>g1 x env fun env1=>pi2 env1 n fun ys env2 n2=>ys.length<=1000/\a7i g2 tt te ys env2 n2 fun zs env3 n3=>a4Z g1 pi2 g2 tt te xs env3 n3 fun ws n4=>R (zs++ws) n4
def a4I (cs:List (Option Nat))(pi1:pA)(g1:pG)(pi2:pA)(g2:pG)(tt:pT)(te:pE):pA:=fun env n R=>pi1 env n fun xs env1 n1=>xs.length<=1000/\a4Z g1 pi2 g2 tt te xs (capV cs env1) n1 fun ys n2=>R ys env1 n2
theorem a8V {K:x0a}{T:PotK}{J:It}{g:TG}{tt:TT}{te:TE}{pg:pG}{ptt:pT}{pte:pE}(hg:GOk K g pg)(ht:TOk K T tt ptt)(he:EOk K T te pte){G:Gh}{H1 H4:Hp}{ys:List PV}{D:Addr}(hJ:ItR K ⟨D::G.M,G.pots⟩ H4 J ys)(nD:D∉G.pots)(hD:H1 D=none){σ:St}{env:Env}{n:Nat}{acc:List PV}{us:List V}{P:List PV->Env->Nat->Prop}{N:St->Hp->Prop}(c:CI K T G H1 D σ H4 env n acc us)(hl:acc.length + ys.length<=1001000)(hc:a7i pg ptt pte ys env n P)
   (hN:∀zs env n us σ H,P zs env n->CI K T G H1 D σ H env n (acc++zs) us->zs.length<=ys.length->N σ H):b1n J g tt te D N σ H4:=by
 refine⟨fun j m σ H'=>m=ys.length - j/\j<=ys.length/\∃env n zs us2,CI K T G H1 D σ H' env n (acc++zs) us2/\Fr ⟨D::G.M,G.pots⟩ H4 H'/\zs.length<=j/\a7i pg ptt pte (ys.drop j) env n fun ws e m=>P (zs++ws) e m,⟨ys.length,rfl,x1z _,env,n,[],us,by rw [x1x];exact c,Fr.refl,x0m _,hc⟩,?_⟩;rintro j m σ5 H5 ⟨rfl,hj,env5,n5,zs,us5,c5,fr5,la5,hc5⟩;obtain⟨hgo5,hstop5⟩:=hJ _ H5 fr5 (fun a ha=>.inl ha) (fun _ _ e=>e) fun p hp=>c5.inn.sr.fresh hp
 by_cases hlt5:j < ys.length
 · obtain⟨u1,u2⟩:=hgo5 j _ (x0f hlt5);refine .inr ⟨u1,fun v6 H6 y6=>?_⟩;obtain⟨s6,rv6⟩:=u2 v6 H6 y6;rw [x1H hlt5] at hc5;have np:∀b,b∉D::G.M->b∉G.pots:=fun b hb z=>hb (c5.inn.pots b z).1;refine hg _ _ σ5 H6 env5 n5 ys[j] v6 _ _ rfl (c5.inn.sr.same s6) rv6 hc5 fun env7 σ7 hc7 S7=>?_;refine ht _ _ σ7 H6 env7 n5 _ _ rfl rfl S7 hc7 fun b env8 n8 H8 hc8 S8 f8=>?_;cases b with
   | false=>exact⟨ys.length - (j + 1),x2i _ _ hlt5,rfl,hlt5,env8,n8,zs,us5,c5.go nD S8,fun b o hb e=>S8.frame b o (np b hb) (fr5 b o hb e),Nat.le_succ_of_le la5,hc8⟩
   | true =>
     refine he _ _ σ7 H8 env8 n8 _ _ rfl rfl S8 hc8 fun y env9 n9 u H9 hc9 S9 r9 f9=>?_;have c9:=c5.go nD S9;have c10:=c9.add nD hD r9;rw [x2l] at c10;refine⟨us5,c9.eD,by rw [<- c5.ra.length,x0q];exact x3e (show _<=1001000 by omega) (by rw [x2P];decide),ys.length - (j + 1),x2i _ _ hlt5,rfl,hlt5,env9,n9,zs++[y],us5++[u],c10,Fr.trans (fun b o hb e=>S9.frame b o (np b hb) (fr5 b o hb e)) (CI.fD _),by rw [x0q];exact Nat.succ_le_succ la5,?_⟩;simp only [x2l];exact hc9
 · obtain rfl:j=ys.length:=Nat.le_antisymm hj (x3F hlt5);rw [x2M] at hc5;have h5:P (zs++[]) env5 n5:=hc5;rw [x1x] at h5;exact .inl ⟨hstop5 _ (x0m _),hN zs env5 n5 us5 σ5 H5 h5 c5 la5⟩
theorem a6y {K:x0a}{T:PotK}{J:It}{g1 g2:TG}{wi2:TI}{tt:TT}{te:TE}{pg1 pg2:pG}{pi2:pA}{ptt:pT}{pte:pE}(hg1:GOk K g1 pg1)(hi2:IOk K T wi2 pi2)(hg2:GOk K g2 pg2)(ht:TOk K T tt ptt)(he:EOk K T te pte){G:Gh}{H1:Hp}{xs:List PV}(hJ:ItR K G H1 J xs)(hl:xs.length<=1000)
   {σc:St} {env:Env} {n:Nat} {R:List PV->Nat->Prop} {Q:VK} {D:Addr} (hD:H1 D=none) (I0:Inn K T G σc H1 env n) (hp:a4Z pg1 pi2 pg2 ptt pte xs env n R)
   (hQ:∀ys n' us H',R ys n'->(∀p∈G.pots,T.at_ (D::G.M) H' p n')->(∀b o,b∉G.pots->H1 b=some o->H' b=some o)->H' D=some (.lst us)->Reps K ⟨D::G.M,G.pots⟩ H' ys us->Q (.ref D) H') :
   b1m J g1 wi2 g2 tt te Q D σc (upd H1 D (.lst [])):=by
 have nD:D∉G.pots:=fun z=>I0.sr.fresh hD (I0.pots D z).1;refine⟨fun i m σ H=>m=xs.length - i/\i<=xs.length/\∃env n acc us,CI K T G H1 D σ H env n acc us/\acc.length<=1000 * i/\a4Z pg1 pi2 pg2 ptt pte (xs.drop i) env n fun ys n'=>R (acc++ys) n',⟨xs.length,rfl,x1z _,env,n,[],[],.start hD I0,x0m _,hp⟩,?_⟩;rintro i m σ H ⟨rfl,hi,env,n,acc,us,c,la,hc⟩;obtain⟨hgo,hstop⟩:=c.it hD hJ
 by_cases hlt:i < xs.length
 · obtain⟨gg1,gg2⟩:=hgo i _ (x0f hlt);refine .inr ⟨gg1,fun v H2 y=>?_⟩;obtain⟨s2,rv⟩:=gg2 v H2 y;rw [x1H hlt] at hc;refine hg1 _ _ σ H2 env n xs[i] v _ _ rfl (c.inn.sr.same s2) rv hc fun env1 σ1 hc1 S2=>?_;refine hi2 _ _ σ1 H2 env1 n _ _ rfl rfl S2 hc1 fun ys env2 n2 J2 H4 q4 S4 f4 hJ2=>?_;refine a8V hg2 ht he hJ2 nD hD (c.go nD S4) (by have:=q4.1;omega) q4.2 fun zs env5 n5 us5 σ5 H5 h5 c5 lz=>⟨xs.length - (i + 1),x2i _ _ hlt,rfl,hlt,env5,n5,acc++zs,us5,c5,by rw [x0q];have:=q4.1;omega,?_⟩;simp only [x2l];exact h5
 · obtain rfl:i=xs.length:=Nat.le_antisymm hi (x3F hlt);rw [x2M] at hc;have hc':R (acc++[]) n:=hc;rw [x1x] at hc';exact .inl ⟨hstop _ (x0m _),hQ _ n us H hc' (fun p hp=>(c.inn.pots p hp).2) c.kp c.eD c.ra⟩
section
variable {T:PotK}{ι:Type}{K:x0a}{F:ι->Cx}{pg1 pg2:pG}{pos:Pos}
theorem a9C {scope:Scope}{cl:ι->List (Str×Addr)}{N:List Str}{cs:List (Option Nat)}{elt t1 i1 t2 i2:Expr}{ifs:List Expr}{pi1 pi2:pA}{ptt:pT}{pte:pE}(S:∀z,a1a (F z) scope (cl z) N cs)(hc:∀z,(F z).calm=true)(hi:QI T K F t1 i1 pi1)
   (hg:QG K (fun y:ι×List Addr×Addr×Shared×Hp=>a0l (F y.1) scope (cl y.1) N y.2.1 y.2.2.1 y.2.2.2.1 y.2.2.2.2) t1 pg1)
   (hi2:QI T K (fun y:ι×List Addr×Addr×Shared×Hp=>a0l (F y.1) scope (cl y.1) N y.2.1 y.2.2.1 y.2.2.2.1 y.2.2.2.2) t2 i2 pi2)
   (hg2:QG K (fun y:ι×List Addr×Addr×Shared×Hp=>a0l (F y.1) scope (cl y.1) N y.2.1 y.2.2.1 y.2.2.2.1 y.2.2.2.2) t2 pg2)
   (ht:QIf T K (fun y:ι×List Addr×Addr×Shared×Hp=>a0l (F y.1) scope (cl y.1) N y.2.1 y.2.2.1 y.2.2.2.1 y.2.2.2.2) ifs ptt)
   (he:QE T K (fun y:ι×List Addr×Addr×Shared×Hp=>a0l (F y.1) scope (cl y.1) N y.2.1 y.2.2.1 y.2.2.2.1 y.2.2.2.2) elt pte)
   (hs:∀z x,x0O i1 (F z).env x=pure x:=by intro _ _;rfl) (hs2:∀z fp C s H x,x0O i2 (a0l (F z) scope (cl z) N fp C s H).env x=pure x:=by intro _ _ _ _ _ _;rfl):QN T K F (LC2 elt t1 i1 t2 i2 ifs scope pos) (a4I cs pi1 pg1 pi2 pg2 ptt pte):=by
 obtain⟨wi,i1',i2'⟩:=hi;obtain⟨g,hg0,hg⟩:=hg;obtain⟨wj,j1,j2⟩:=hi2;obtain⟨g2,hg20,hg2⟩:=hg2;obtain⟨tt,ht0,ht⟩:=ht;obtain⟨te,he0,he⟩:=he;refine⟨_,fun z=>a6h (S z) (hc z) (i1' z) (fun fp C s H=>⟨hg0 (z,fp,C,s,H),j1 (z,fp,C,s,H),hg20 (z,fp,C,s,H),ht0 (z,fp,C,s,H),he0 (z,fp,C,s,H)⟩) (hs2 z) (hs z),fun C G σ H env n R Q hK hT S hp k=>?_⟩;refine i2' C G σ H env n _ _ hK hT S hp fun xs env1 n1 J H1 p1 S1 f1 hJ=>?_;intro D hD;have hDM:=S1.fresh hD;refine a6y (G:=G) hg j2 hg2 ht he hJ p1.1 hD (hT▸hK▸a5K S1 cs) p1.2 fun ys n2 us H' rr hpots hk eD ry=>?_;have nD:∀b o,H1 b=some o->b≠D:=fun b o e z=>by rw [z,hD] at e;cases e
 have hk2:∀b o,b∉G.pots->H1 b=some o->cutH H' D b=some o:=fun b o hb e=>by rw [a0V (nD b o e)];exact hk b o hb e
 have nc:∀b,b∉D::G.M->b≠D:=fun b hb z=>hb (by rw [z];exact x0h);have np:∀p∈G.pots,p≠D:=fun p hp z=>hDM (z▸(S1.pots p hp).1)
 have Sb:SR C G σ (cutH H' D) env1 n2:=S1.call hk2 fun p hp=>by
   subst hT;have h2:=C.T.keep (hpots p hp) (H':=cutH H' D) (a0V (np p hp)) fun b o hb e=>by rw [a0V (nc b hb)];exact e
   exact C.T.more h2 fun a ha=>.inl (x0d _ ha)
 have:=k ys env1 n2 D us (cutH H' D) rr Sb (f1.trans fun b o hb e=>hk2 b o (fun z=>hb (S1.pots b z).1) e) (by unfold cutH;rw [if_pos rfl]) ?_
 · rw [a3O eD] at this;exact this
 · exact Reps.mono (G:=⟨D::G.M,G.pots⟩) (fun b o hb e=>by rw [a0V (nc b hb)];exact e) (fun a ha=>.inl (x0d _ ha)) (fun _ _ e=>e) _ _ ry
end
end Pu
end
section
namespace Pu
open PySem PySem.Spec L2
section
variable {C:Ct}{G:Gh}{σ:St}{H:Hp}{env:Env}{n:Nat}
theorem SR.take (S:SR C G σ H env n){i:Nat}{kk:OK}{xs:List PV}{a:Addr}(ex:env[i]?=some (some (.ow kk xs)))(ev:σ[i]?=some (some (.ref a)))(ob:HO) :
   ∃G':Gh,SR C G' σ (upd H a ob) (env.set i none) n/\Ext G H G' (upd H a ob)/\a∉G'.M/\(∀b∈G'.M,b∈G.M)/\G'.pots=G.pots:=by
 obtain⟨a',vs,ev',h1,h2,h3,h4,r⟩:=S.slots i _ ex;rw [ev] at ev';cases ev'
 let G':Gh:=⟨G.M.filter (·≠a),G.pots⟩
 have sub:∀b∈G'.M,b∈G.M:=fun b hb=>(x1U.mp hb).1;have sub2:∀b∈G'.M,b≠a:=fun b hb=>by simpa using(x1U.mp hb).2
 have f:Fr G H (upd H a ob):=fun b o hb he=>by rw [a0f (fun z=>hb (by rw [z];exact h1))];exact he
 have mm:∀{x:PV} {v:V},Rep C.K G H x v->Rep C.K G' (upd H a ob) x v:=fun r=>Rep.mono (G':=G') f (fun b hb=>.inl (sub b hb)) (fun _ _ e=>e) _ _ r;have mms:∀{x:List PV} {v:List V},Reps C.K G H x v->Reps C.K G' (upd H a ob) x v:=fun r=>Reps.mono (G':=G') f (fun b hb=>.inl (sub b hb)) (fun _ _ e=>e) _ _ r
 have back:∀(j:Nat) (s:Slot),(env.set i none)[j]?=some (some s)->i≠j/\env[j]?=some (some s):=fun j s e=>by
   by_cases h:i=j
   · subst h;rw [x0o (x0k.mp ex).1] at e;cases e
   · rw [x0t h] at e;exact⟨h,e⟩
 refine⟨G',{
   frame:=fun b o hb he=>?_
   sub:=fun b hb=>S.sub b (sub b hb)
   sup:=fun b hb=>x1U.mpr ⟨S.sup b hb,decide_eq_true (show b≠a from fun z=>h2 (by rw [<- z];exact hb))⟩
   pots:=fun p hp=>⟨x1U.mpr ⟨(S.pots p hp).1,decide_eq_true (show p≠a from fun z=>h3 (by rw [<- z];exact hp))⟩,C.T.more (C.T.keep (S.pots p hp).2 (a0f fun z=>h3 (by rw [<- z];exact hp)) f) fun b hb=>.inl (sub b hb)⟩
   pre:=S.pre
   mu:=fun b hb=>?_
   slots:=fun j s es=>?_
   inj:=fun j k xs' ys b e1 e2 e3 e4=>S.inj j k xs' ys b (back j _ e1).2 (back k _ e2).2 e3 e4
   p0:=S.p0
   len:=by rw [x0x];exact S.len
   newp:=S.newp },⟨f,fun b hb=>.inl (sub b hb),fun _ _ e=>e⟩,fun z=>sub2 a z rfl,sub,rfl⟩
 · have hb2:b≠a:=fun z=>by
     rcases S.sub a h1 with z2 | z2
     · exact h2 z2
     · rw [z,z2] at he;cases he
   rw [a0f hb2];exact S.frame b o hb he
 · obtain⟨o,he,m⟩:=S.mu b (sub b hb);exact⟨o,by rw [a0f (sub2 b hb)];exact he,m⟩
 · obtain⟨hj,es⟩:=back j s es;have:=S.slots j s es;cases s with
   | v x =>
     obtain⟨v,e1,r⟩:=this;exact⟨v,e1,mm r⟩
   | ow kz zs =>
     obtain⟨b,us,e1,g1,g2,g3,g4,r⟩:=this;have hba:b≠a:=fun z=>hj (S.inj i j (kk,xs) (kz,zs) a ex es ev (by rw [e1,z]));exact⟨b,us,e1,x1U.mpr ⟨g1,by simpa using hba⟩,g2,g3,by rw [a0f hba];exact g4,mms r⟩
def Ct.hid (C:Ct)(p:Addr)(ob:HO):Ct:={ C with M0:=p::C.M0,H0:=upd C.H0 p ob }
theorem SR.hide (S:SR C G σ H env n){p:Addr}{ob:HO}(mo:MutO ob)(h:H p=none):SR (C.hid p ob) ⟨p::G.M,G.pots⟩ σ (upd H p ob) env n:=by
 have S1:=S.moreO mo h;have pM:p∉G.M:=S.fresh h
 exact {
   frame:=fun b o hb e=>by
     by_cases hbp:b=p
     · subst hbp;have e':some ob=some o:=by rw [<- e];exact a0j.symm
       rw [a0j];exact e'
     · have e':C.H0 b=some o:=by rw [<- e];exact(a0f hbp).symm
       exact S1.frame b o hb e'
   sub:=fun b hb=>by
     rcases x0s.mp hb with rfl | hb
     · exact .inl x0h
     · rcases S.sub b hb with z | z
       · exact .inl (x0d _ z)
       · exact .inr (by show upd C.H0 p ob b=none;rw [a0f fun z=>pM (by rw [<- z];exact hb)];exact z)
   sup:=fun b hb=>by
     rcases x0s.mp hb with rfl | hb
     · exact x0h
     · exact x0d _ (S.sup b hb)
   pots:=S1.pots
   pre:=S.pre
   mu:=S1.mu
   slots:=fun j s e=>by
     have:=S1.slots j s e;cases s with
     | v x=>exact this
     | ow kk xs =>
       obtain⟨b,us,e1,g1,g2,g3,g4,r⟩:=this;obtain⟨b',us',e1',g1',_⟩:=S.slots j _ e;rw [e1] at e1';cases e1';refine⟨b,us,e1,g1,fun z=>?_,g3,g4,r⟩;rcases x0s.mp z with rfl | z
       · exact pM g1'
       · exact g2 z
   inj:=S.inj
   p0:=⟨fun q hq=>x0d _ (S.p0.1 q hq),S.p0.2⟩
   len:=S.len
   newp:=fun q hq h1 h2=>by
     rcases x0s.mp h2 with rfl | h2
     · exact pM (S.pots q hq).1
     · exact S.newp q hq h1 h2 }
theorem SR.hid_at {p:Addr}{ob:HO}(S:SR (C.hid p ob) G σ H env n)(h2:p∉C.pots0):H p=some ob:=S.frame p ob h2 a0j
theorem SR.unhide {p:Addr}{ob:HO}(S:SR (C.hid p ob) G σ H env n)(h0:C.H0 p=none)(hp:p∉C.M0)(h2:p∉C.pots0)(i:Nat)(kk:OK){xs:List PV}{vs:List V}(r:Reps C.K G H xs vs) :
   SR C G (σ.set i (some (.ref p))) (upd H p (mkO kk vs)) (env.set i (some (.ow kk xs))) n/\Fr G H (upd H p (mkO kk vs)):=by
 have pM:p∈G.M:=S.sup p x0h;have pp:p∉G.pots:=fun z=>S.newp p z h2 x0h;have f:Fr G H (upd H p (mkO kk vs)):=fun b o hb he=>by rw [a0f (fun z=>hb (by rw [z];exact pM))];exact he
 have other:∀(j:Nat) (ys:OK×List PV),env[j]?=some (some (Slot.ow ys.1 ys.2))->σ[j]?≠some (some (.ref p)):=by
   intro j ys e z;obtain⟨b,us,e1,h1,h2,_⟩:=S.slots j _ e;rw [z] at e1;cases e1;exact h2 x0h
 refine⟨{
   frame:=fun b o hb he=>?_
   sub:=fun b hb=>?_
   sup:=fun b hb=>S.sup b (x0d _ hb)
   pots:=fun q hq=>⟨(S.pots q hq).1,C.T.keep (S.pots q hq).2 (a0f fun z=>pp (by rw [<- z];exact hq)) f⟩
   pre:=S.pre
   mu:=fun b hb=>?_
   slots:=fun j s es=>?_
   inj:=fun j k xs' ys b e1 e2 e3 e4=>?_
   p0:=⟨fun q hq=>(x0s.mp (S.p0.1 q hq)).elim (fun z=>absurd hq (by rw [z];exact h2)) fun z=>z,S.p0.2⟩
   len:=by rw [x0x,x0x];exact S.len
   newp:=fun q hq h1 h2=>S.newp q hq h1 (x0d _ h2) },f⟩
 · have hbp:b≠p:=fun z=>by rw [z,h0] at he;cases he
   rw [a0f hbp];exact S.frame b o hb (by show upd C.H0 p ob b=some o;rw [a0f hbp];exact he)
 · by_cases hbp:b=p
   · exact .inr (by rw [hbp];exact h0)
   · rcases S.sub b hb with z | z
     · exact .inl ((x0s.mp z).elim (fun z=>absurd z hbp) fun z=>z)
     · refine .inr ?_;have z':upd C.H0 p ob b=none:=z;rw [a0f hbp] at z';exact z'
 · by_cases hbp:b=p
   · rw [hbp];exact⟨_,a0j,a5x kk vs⟩
   · obtain⟨o,he,m⟩:=S.mu b hb;exact⟨o,by rw [a0f hbp];exact he,m⟩
 · by_cases hj:i=j
   · subst hj
     by_cases hl:i < env.length
     · rw [x0o hl] at es;cases es;exact⟨p,vs,by rw [x0o (by rw [<- S.len];exact hl)],pM,hp,pp,a0j,r.fr f⟩
     · rw [x0w (by rw [x0x];omega)] at es;cases es
   · rw [x0t hj] at es ⊢;have:=S.slots j s es;cases s with
     | v x =>
       obtain⟨v,e1,r⟩:=this;exact⟨v,e1,r.fr f⟩
     | ow kz zs =>
       obtain⟨b,us,e1,g1,g2,g3,g4,r⟩:=this;have hba:b≠p:=fun z=>g2 (by rw [z];exact x0h);exact⟨b,us,e1,g1,fun z=>g2 (x0d _ z),g3,by rw [a0f hba];exact g4,r.fr f⟩
 · by_cases hj:i=j
   · by_cases hk:i=k
     · omega
     · subst hj;rw [x0t hk] at e2 e4
       by_cases hl:i < σ.length
       · rw [x0o hl] at e3;cases e3;exact absurd e4 (other k ys e2)
       · rw [x0w (by rw [x0x];omega)] at e3;cases e3
   · rw [x0t hj] at e1 e3
     by_cases hk:i=k
     · subst hk
       by_cases hl:i < σ.length
       · rw [x0o hl] at e4;cases e4;exact absurd e3 (other j xs' e1)
       · rw [x0w (by rw [x0x];omega)] at e4;cases e4
     · rw [x0t hk] at e2 e4;exact S.inj j k xs' ys b e1 e2 e3 e4
end
end Pu
end
section
namespace Pu
open PySem PySem.Spec L2
def lt (f t:Int)(k:Nat):Nat:=97 + ((f + (k:Int) * t) % 26).toNat
inductive Ev where
 | d (x:Str) | t (x y:Str)
def evB:Ev->List Str
 | .d x=>[x]
 | .t x y=>[x,y]
end Pu
end
section
namespace Pu
open PySem PySem.Spec L2
inductive Mk where
 | d | o | t | u
 deriving DecidableEq
def mkS:Mk->Str
 | .d=>x0i "d"
 | .o=>x0i "o"
 | .t=>x0i "t"
 | .u=>x0i "u"
def mkP (m:Mk):PV:=.str (mkS m)
theorem mk_t (m:Mk):decide (mkS m=x0i "t")=decide (m=.t):=by cases m <;> decide +kernel
theorem mk_u (m:Mk):decide (mkS m=x0i "u")=decide (m=.u):=by cases m <;> decide +kernel
theorem mk_d (m:Mk):decide (mkS m=x0i "d")=decide (m=.d):=by cases m <;> decide +kernel
theorem mk_o (m:Mk):decide (mkS m=x0i "o")=decide (m=.o):=by cases m <;> decide +kernel
def run (r:Int):Nat->List Nat->List Mk->Option (List Nat)
 | _,st,[]=>some st
 | k,st,.t::m=>run r (k + 1) (k::st) m
 | k,st,.d::m=>run r (k + 1) st m
 | k,[],.o::m=>run r (k + 1) [] m
 | _,_::_,.o::_=>none
 | _,[],.u::_=>none
 | k,p::st,.u::m=>if(k:Int) - p - 1<=r then run r (k + 1) st m else none
theorem a1s {r:Int}:∀(a:List Mk) (k:Nat) (st:List Nat) (b:List Mk),run r k st (a++b)=(run r k st a).bind fun st'=>run r (k + a.length) st' b
 | [],k,st,b=>rfl
 | .t :: a, k, st, b => by
   rw [x2O];show run r (k + 1) (k::st) (a++b)=(run r (k + 1) (k::st) a).bind _;rw [a1s a,x0B,show k + 1 + a.length=k + (a.length + 1) by omega]
 | .d :: a, k, st, b => by
   rw [x2O];show run r (k + 1) st (a++b)=(run r (k + 1) st a).bind _;rw [a1s a,x0B,show k + 1 + a.length=k + (a.length + 1) by omega]
 | .o :: a, k, [], b => by
   rw [x2O];show run r (k + 1) [] (a++b)=(run r (k + 1) [] a).bind _;rw [a1s a,x0B,show k + 1 + a.length=k + (a.length + 1) by omega]
 | .o::a,k,p::st,b=>rfl
 | .u::a,k,[],b=>rfl
 | .u :: a, k, p :: st, b => by
   rw [x2O];show(if(k:Int) - p - 1<=r then run r (k + 1) st (a++b) else none)=(if(k:Int) - p - 1<=r then run r (k + 1) st a else none).bind _
   split
   · rw [a1s a,x0B,show k + 1 + a.length=k + (a.length + 1) by omega]
   · rfl
def Cl (r:Int)(k:Nat)(m:List Mk):Prop:=∀st,run r k st m=some st
theorem Cl.app {r:Int}{k:Nat}{a b:List Mk}(h1:Cl r k a)(h2:Cl r (k + a.length) b):Cl r k (a++b):=fun st=>by rw [a1s,h1 st];exact h2 st
theorem Cl.d {r:Int}{k:Nat}{m:List Mk}(h:Cl r (k + 1) m):Cl r k (.d::m):=fun st=>h st
def Seg (r:Int):List Nat->List Mk->Prop
 | [],m=>run r 0 [] m=some []
 | p::ps,m=>∃m1 m2,m=m1++.d::m2/\m1.length=p/\Cl r (p + 1) m2/\Seg r ps m1
theorem Seg.app {r:Int}:∀{ps:List Nat} {m b:List Mk},Seg r ps m->Cl r m.length b->Seg r ps (m++b):=by
 intro xq
 induction xq with
 | nil =>
   intro m b h hb;show run r 0 [] (m++b)=some [];rw [a1s,show run r 0 [] m=some [] from h,x0N];exact hb []
 | cons p ps ih =>
   intro m b h hb;obtain⟨m1,m2,rfl,e,h2,h3⟩:=h;refine⟨m1,m2++b,by simp,e,h2.app ?_,h3⟩;rw [x0q,x0B,e] at hb;rw [show p + 1 + m2.length=p + (m2.length + 1) by omega];exact hb
inductive PE where
 | d (i:Nat) | t (i j:Nat)
def nm (zs:List Str)(i:Nat):Str:=zs.getD i (x0i "")
structure Fair (zs:List Str)(es:List Ev):Prop where
 nd:(es.flatMap evB).Nodup
 sub:∀b∈es.flatMap evB,b∈zs
theorem cut_hd {α:Type}(xs:List α)(b:Nat):cutP xs none (some (b:Int))=xs.take b:=by
 unfold cutP;rw [HT.sIx_none,HT.sIx_nat,List.drop_zero,Nat.sub_zero];rcases Nat.le_total b xs.length with h2 | h2
 · rw [x4c h2]
 · rw [Nat.min_eq_right h2,x2z (x0m _),x2z h2]
theorem b1i {α:Type}(xs:List α)(a:Nat):cutP xs (some (a:Int)) none=xs.drop a:=by
 unfold cutP;rw [HT.sIx_nat,HT.sIx_none];rcases Nat.le_total a xs.length with h2 | h2
 · rw [x4c h2];exact x2z (by rw [x2u];exact x0m _)
 · rw [Nat.min_eq_right h2,List.drop_of_length_le h2,List.drop_of_length_le (x0m _)];simp
theorem at2_0 {α:Type}{a b:α}:atI [a,b] 0=some a:=rfl
theorem at2_1 {α:Type}{a b:α}:atI [a,b] 1=some b:=rfl
theorem at3_0 {α:Type}{a b c:α}:atI [a,b,c] 0=some a:=rfl
theorem at3_1 {α:Type}{a b c:α}:atI [a,b,c] 1=some b:=rfl
theorem at3_2 {α:Type}{a b c:α}:atI [a,b,c] 2=some c:=rfl
end Pu
end
section
namespace Pu
open PySem PySem.Spec L2
section
variable {P:List Str->List Ev->Prop}{s n mx:Nat}{row:List Str}
theorem places {s n:Nat}(h1:1<=s)(hn:1<=n){k:Nat}(hk:k < (n + s - 1) / s):k * s<=n - 1:=by
 have:(n + s - 1) / s * s<=n + s - 1:=Nat.div_mul_le_self _ _;have h2:(k + 1) * s<=(n + s - 1) / s * s:=x1A s hk;rw [x4r,Nat.one_mul] at h2;omega
end
end Pu
end
section
namespace SeT
open PySem PySem.SetTable L2
def lp (mask:Nat)(h:Int):Nat->Nat×Nat
 | 0=>(bits h % (mask + 1),bits h)
 | k + 1=>leap mask (lp mask h k).1 (lp mask h k).2
def rn (mask i:Nat):Nat:=runEnd mask i - i
def vs (mask:Nat)(h:Int)(k off:Nat):Nat:=(lp mask h k).1 + off
def orb (M:Nat):Nat->Nat
 | 0=>0
 | m + 1=>(orb M m * 5 + 1) % M
def Msk (mask:Nat):Prop:=mask=7\/mask=31\/mask=127
def chk (M:Nat):Bool:=(x0j M).all fun e=>(x0j M).any fun m=>orb M m == e
def Rise (xs:List Nat):Prop:=xs.Pairwise (· < ·)
end SeT
end
section
namespace SeT
open PySem PySem.SetTable L2
def Lx (k' o' k o:Nat):Prop:=k' < k\/(k'=k/\o' < o)
def Rch (mask:Nat)(O:Nat->Prop)(s:Nat)(h:Int):Prop:=∃k o,o<=rn mask (lp mask h k).1/\vs mask h k o=s/\∀k' o',o'<=rn mask (lp mask h k').1->Lx k' o' k o->O (vs mask h k' o')
structure TOk (t:SetTable)(hs:List Int):Prop where
 size:t.place.toList.length=hs.length
 dum:t.dummies=#[]
 mask:Msk t.mask
 rise:Rise t.place.toList
 lim:∀s∈t.place.toList,s<=t.mask
 room:hs.length < t.mask
 reach:∀(i:Nat) s h,t.place.toList[i]?=some s->hs[i]?=some h->Rch t.mask (·∈t.place.toList) s h
section
variable {t:SetTable}{hs:List Int}{h:Int}
def pb (mask:Nat)(h:Int)(k o:Nat):Probe:={ j:=vs mask h k o,more:=rn mask (lp mask h k).1 - o,i:=(lp mask h k).1,perturb:=(lp mask h k).2,dummy:=none }
def nx (mask:Nat)(h:Int)(k o:Nat):Nat×Nat:=if o < rn mask (lp mask h k).1 then(k,o + 1) else(k + 1,0)
end
end SeT
end
section
namespace SeT
open PySem PySem.SetTable L2
structure Own (mask:Nat)(ow:Array (Option Nat))(sl:List Nat):Prop where
 size:ow.size=mask + 1
 nd:sl.Nodup
 lim:∀s∈sl,s<=mask
 has:∀(k s:Nat),sl[k]?=some s->ow[s]?=some (some k)
 no:∀s,s<=mask->s∉sl->ow[s]?=some none
theorem Own.none {mask:Nat}{ow:Array (Option Nat)}{sl:List Nat}(O:Own mask ow sl){s:Nat}(hs:s<=mask):(ow.getD s (some 0)).isNone=decide (s∉sl):=by
 rw [Array.getD_eq_getD_getElem?]
 by_cases c:s∈sl
 · obtain⟨k,hk⟩:=List.mem_iff_getElem?.mp c;rw [O.has k s hk,decide_eq_false (not_not_intro c)];rfl
 · rw [O.no s hs c,decide_eq_true c];rfl
def live (mask:Nat)(ow:Array (Option Nat)):List (Nat×Nat):=(x0j (mask + 1)).filterMap fun j=>(ow.getD j none).map (j,·)
end SeT
end
section
namespace SeT
open PySem PySem.Spec PyProof.Rows L2
section
variable (prog:x0A)(w:World)
abbrev TK:HeapKind prog w (List Key):=x1w (a0y prog w)
def enS (x:List Key×Addr):Int×Value:=((TK prog w).hash x.1,.ref x.2)
structure SetK (h:Heap)(a:Addr)(o:Obj)(es:Array (Int×Value))(ep:Nat)(t:SetTable)(xs:List (List Key×Addr)):Prop where
 ho:h.get? a=some o
 ex:o.ExactSet
 hd:o.data=.set es ep t
 hes:es.toList=xs.map (enS prog w)
 hk:∀x∈xs,(TK prog w).is h x.1 x.2
 nd:(xs.map (·.1)).Nodup
 tb:TOk t (xs.map fun x=>(TK prog w).hash x.1)
 few:5 * xs.length < 3 * t.mask
 led:t.led=!(w.params.followText "set-order")
end
end SeT
end
section
namespace SeT
open PySem PySem.Spec PyProof.Rows L2
section
variable {prog:x0A}{w:World}{A:Around}{E:Value->Shared->Prop}{s:Shared}{a:Addr}{o:Obj}{es:Array (Int×Value)}{ep:Nat}{t:SetTable}{xs:List (List Key×Addr)}
theorem TOk.pl {hs:List Int}(T:TOk t hs)(b:Bool):TOk { t with plain:=b } hs:=⟨T.size,T.dum,T.mask,T.rise,T.lim,T.room,T.reach⟩
end
end SeT
end
section
namespace SeT
open PySem PySem.Spec PyProof.Rows L2
def Holds (prog:x0A)(w:World)(h:Heap)(S:Addr)(rs:List (List Key×Addr)):Prop:=
 ∃o es ep t xs,SetK prog w h S o es ep t xs/\(∀x∈xs,x∈rs)/\∀x∈rs,x.1∈xs.map (·.1)
end SeT
end
section
namespace SeT
open PySem PySem.Spec PyProof.Rows L2
section
variable {prog:x0A}{w:World}{A:Around}{E:Value->Shared->Prop}{s:Shared}
def SetIt (h:Heap)(I a:Addr)(fst:Value)(i n ep:Nat):Prop:=∃o,h.get? I=some o/\o.cls=.type "set_iterator"/\o.data=.fields #[fst,.int i 0,.ref a,.int n 0,.int ep 0]
theorem SetIt.ty {I a:Addr}{fst:Value}{i n ep:Nat}(x:SetIt s.heap I a fst i n ep):s.TypeIs (.ref I) "set_iterator":=by
 obtain⟨o,ho,hc,_⟩:=x;exact⟨o,ho,hc⟩
end
end SeT
end
section
namespace SeT
open PySem PySem.W PySem.Spec PyProof.Rows L2
abbrev kks (ys:List (List Key×Addr)):List (List Key):=ys.map (·.1)
section
variable {X:Cx}
def SetO (X:Cx)(p:Addr)(rs:List (List Key×Addr)):HO:=.ext fun h=>∃h0 o es ep t xs,SetK X.prog X.w h0 p o es ep t xs/\h.get? p=some o/\(∀x∈xs,x∈rs)/\∀x∈rs,x.1∈kks xs
end
end SeT
end
section
namespace Pu
open PySem PySem.Spec L2
theorem Fair.tx {st:List Str}{es:List Ev}(h:Fair st es){x y:Str}(he:Ev.t x y∈es):x∈st/\y∈st:=
 ⟨h.sub x (List.mem_flatMap.mpr ⟨_,he,by simp [evB]⟩),h.sub y (List.mem_flatMap.mpr ⟨_,he,by simp [evB]⟩)⟩
end Pu
end
section
namespace Pu
open PySem PySem.Spec L2
theorem nodup_ix {α:Type}{l:List α}(nd:l.Nodup){k m:Nat}(h1:k < l.length)(h2:m < l.length)(e:l[k]=l[m]):k=m:=by
 have pw:=List.pairwise_iff_getElem.mp nd;rcases Nat.lt_trichotomy k m with c | c | c
 · exact absurd e (pw k m h1 h2 c)
 · exact c
 · exact absurd e.symm (pw m k h2 h1 c)
end Pu
end
section
namespace Pu
open PySem PySem.Spec L2
abbrev pD:=List Key->(Env->Nat->List (List PV)->Prop)->Env->Nat->List (List PV)->Prop
end Pu
end
section
namespace Pu
open PySem PySem.Spec L2
structure KE (K:x0a)(T:PotK)(G:Gh)(H1:Hp)(D:Addr)(M:List Addr)(as:List Addr)(ks:List Key)(yss:List (List PV))(H:Hp):Prop where
 mem:∀c,c∈M↔c∈as\/c=D\/c∈G.M
 keep:∀b o,b∉G.pots->H1 b=some o->H b=some o
 dic:H D=some (.dK (ks.zip (as.map V.ref)))
 lk:ks.length=as.length
 ly:yss.length=as.length
 nd:(D::as).Nodup
 new:∀b∈as,H1 b=none
 inn:∀(k:Nat) (b:Addr) (ys:List PV),as[k]?=some b->yss[k]?=some ys->∃vs,H b=some (.lst vs)/\Reps K ⟨M,G.pots⟩ H ys vs
end Pu
end
section
namespace L2
namespace Tm
open PySem PySem.W PyProof.Rows
structure Pk where
 v:Nat
 n:Nat
abbrev El:=Fin 1024
namespace Pk
def at' (q:Pk)(i:Nat):El:=⟨(q.v >>> (10 * i)) % 1024,Nat.mod_lt _ (by decide)⟩
def size (q:Pk):Nat:=q.n
def push (q:Pk)(x:El):Pk:=⟨q.v % 2 ^ (10 * q.n) ||| x.val <<< (10 * q.n),q.n + 1⟩
def extract (q:Pk)(i j:Nat):Pk:=⟨q.v >>> (10 * i),min j q.n - i⟩
def app (a b:Pk):Pk:=⟨a.v % 2 ^ (10 * a.n) ||| b.v <<< (10 * a.n),a.n + b.n⟩
instance:Append Pk:=⟨app⟩
def one (x:El):Pk:=⟨x.val,1⟩
def ofF (f:Nat->El):Nat->Pk
 | 0=>⟨0,0⟩
 | n + 1=>(ofF f n).push (f n)
def reverse (q:Pk):Pk:=ofF (fun i=>q.at' (q.n - 1 - i)) q.n
theorem tb (v i j:Nat)(h:j < 10):x0K ((v >>> (10 * i)) % 1024) j=x0K v (10 * i + j):=by
 rw [show(1024:Nat)=2 ^ 10 from rfl,x0E,x1Y,decide_eq_true h,Bool.true_and]
theorem a5i {q r:Pk}{i k:Nat}(h:∀j,j < 10->x0K q.v (10 * i + j)=x0K r.v (10 * k + j)):q.at' i=r.at' k:=by
 refine Fin.ext (Nat.eq_of_testBit_eq fun j=>?_);show x0K ((q.v >>> (10 * i)) % 1024) j=x0K ((r.v >>> (10 * k)) % 1024) j
 by_cases c:j < 10
 · rw [tb _ _ _ c,tb _ _ _ c,h j c]
 · rw [show(1024:Nat)=2 ^ 10 from rfl,x0E,x0E,decide_eq_false c];rfl
theorem at_val {q:Pk}{i:Nat}{x:El}(h:∀j,j < 10->x0K q.v (10 * i + j)=x0K x.val j):q.at' i=x:=by
 refine Fin.ext (Nat.eq_of_testBit_eq fun j=>?_);show x0K ((q.v >>> (10 * i)) % 1024) j=_
 by_cases c:j < 10
 · rw [tb _ _ _ c,h j c]
 · have z:x0K ((q.v >>> (10 * i)) % 1024) j=false:=by
     rw [show(1024:Nat)=2 ^ 10 from rfl,x0E,decide_eq_false c,x3v]
   rw [z];exact(Nat.testBit_lt_two_pow (x0y x.isLt (Nat.pow_le_pow_right (show 0 < 2 by decide) (show 10<=j by omega)))).symm
theorem at_push_lt (q:Pk)(x:El){i:Nat}(h:i < q.n):(q.push x).at' i=q.at' i:=a5i fun j hj=>by
 show x0K (q.v % 2 ^ (10 * q.n) ||| x.val <<< (10 * q.n)) _=_;rw [x1S,x0E,x1e,decide_eq_true (by omega),decide_eq_false (by omega)];simp
theorem at_push (q:Pk)(x:El):(q.push x).at' q.n=x:=at_val fun j hj=>by
 show x0K (q.v % 2 ^ (10 * q.n) ||| x.val <<< (10 * q.n)) _=_;rw [x1S,x0E,x1e,decide_eq_false (by omega),decide_eq_true (by omega),x3v,Bool.false_or,Bool.true_and]
 congr 1;omega
theorem at_ext (q:Pk)(i j k:Nat):(q.extract i j).at' k=q.at' (i + k):=a5i fun l hl=>by
 show x0K (q.v >>> (10 * i)) _=_;rw [x1Y]
 congr 1;omega
theorem at_app_lt (a b:Pk){i:Nat}(h:i < a.n):(a++b).at' i=a.at' i:=a5i fun j hj=>by
 show x0K (a.v % 2 ^ (10 * a.n) ||| b.v <<< (10 * a.n)) _=_;rw [x1S,x0E,x1e,decide_eq_true (by omega),decide_eq_false (by omega)];simp
theorem at_app_ge (a b:Pk)(i:Nat):(a++b).at' (a.n + i)=b.at' i:=a5i fun j hj=>by
 show x0K (a.v % 2 ^ (10 * a.n) ||| b.v <<< (10 * a.n)) _=_;rw [x1S,x0E,x1e,decide_eq_false (by omega),decide_eq_true (by omega),x3v,Bool.false_or,Bool.true_and]
 congr 1;omega
theorem ofF_n (f:Nat->El):∀n,(ofF f n).n=n:=by
 intro xq
 induction xq with
 | zero =>
   exact rfl
 | succ n ih =>
   show(ofF f n).n + 1=_;rw [ih]
theorem ofF_at (f:Nat->El):∀(n:Nat) {i:Nat},i < n->(ofF f n).at' i=f i:=by
 intro xq
 induction xq with
 | zero =>
   intro _ h;exact absurd h (x4b _)
 | succ n ih =>
   intro i h;show((ofF f n).push (f n)).at' i=_
   by_cases c:i=n
   · subst c;have:=at_push (ofF f i) (f i);rw [ofF_n] at this;exact this
   · rw [at_push_lt _ _ (by rw [ofF_n];omega)];exact ih (by omega)
def down (p:Pk)(k l:Nat):Pk:=⟨p.v % 2 ^ (10 * l) ||| (p.at' k).val <<< (10 * l) ||| ((p.v >>> (10 * l)) % 2 ^ (10 * (k - l))) <<< (10 * (l + 1)) ||| (p.v >>> (10 * (k + 1))) <<< (10 * (k + 1)),p.n⟩
theorem a6D {x:El}{j:Nat}(h:10<=j):x0K x.val j=false:=Nat.testBit_lt_two_pow (x0y x.isLt (Nat.pow_le_pow_right (show 0 < 2 by decide) h))
theorem at_down (p:Pk){k l:Nat}(h:l<=k)(i:Nat):(p.down k l).at' i=if i=l then p.at' k else if l < i/\i<=k then p.at' (i - 1) else p.at' i:=by
 have e:∀j,j < 10->x0K (p.down k l).v (10 * i + j)=((decide (10 * i + j < 10 * l) && x0K p.v (10 * i + j)) || (decide (10 * i + j>=10 * l) && x0K (p.at' k).val (10 * i + j - 10 * l)) || (decide (10 * i + j>=10 * (l + 1)) && (decide (10 * i + j - 10 * (l + 1) < 10 * (k - l)) && x0K p.v (10 * l + (10 * i + j - 10 * (l + 1))))) || (decide (10 * i + j>=10 * (k + 1)) && x0K p.v (10 * (k + 1) + (10 * i + j - 10 * (k + 1))))):=fun j hj=>by
   show x0K (p.v % 2 ^ (10 * l) ||| (p.at' k).val <<< (10 * l) ||| ((p.v >>> (10 * l)) % 2 ^ (10 * (k - l))) <<< (10 * (l + 1)) ||| (p.v >>> (10 * (k + 1))) <<< (10 * (k + 1))) _=_;rw [x1S,x1S,x1S,x0E,x1e,x1e,x1e,x0E,x1Y,x1Y]
 by_cases c1:i=l
 · rw [if_pos c1];subst c1;refine at_val fun j hj=>?_;rw [e j hj,decide_eq_false (show ¬10 * i + j < 10 * i by omega),decide_eq_true (show 10 * i + j>=10 * i by omega),decide_eq_false (show ¬10 * i + j>=10 * (i + 1) by omega),decide_eq_false (show ¬10 * i + j>=10 * (k + 1) by omega),show 10 * i + j - 10 * i=j by omega];simp
 · rw [if_neg c1]
   by_cases c2:l < i/\i<=k
   · rw [if_pos c2];refine a5i fun j hj=>?_;rw [e j hj,decide_eq_false (show ¬10 * i + j < 10 * l by omega),a6D (show 10<=10 * i + j - 10 * l by omega),decide_eq_true (show 10 * i + j>=10 * (l + 1) by omega),decide_eq_true (show 10 * i + j - 10 * (l + 1) < 10 * (k - l) by omega),decide_eq_false (show ¬10 * i + j>=10 * (k + 1) by omega),show 10 * l + (10 * i + j - 10 * (l + 1))=10 * (i - 1) + j by omega];simp
   · rw [if_neg c2];refine a5i fun j hj=>?_
     by_cases c3:i < l
     · rw [e j hj,decide_eq_true (show 10 * i + j < 10 * l by omega),decide_eq_false (show ¬10 * i + j>=10 * l by omega),decide_eq_false (show ¬10 * i + j>=10 * (l + 1) by omega),decide_eq_false (show ¬10 * i + j>=10 * (k + 1) by omega)];simp
     · rw [e j hj,decide_eq_false (show ¬10 * i + j < 10 * l by omega),a6D (show 10<=10 * i + j - 10 * l by omega),decide_eq_false (show ¬10 * i + j - 10 * (l + 1) < 10 * (k - l) by omega),decide_eq_true (show 10 * i + j>=10 * (k + 1) by omega),show 10 * (k + 1) + (10 * i + j - 10 * (k + 1))=10 * i + j by omega];simp
def over (p:Pk)(x:Nat)(r:Pk):Pk:=⟨p.v % 2 ^ (10 * x) ||| (r.v % 2 ^ (10 * r.n)) <<< (10 * x) ||| (p.v >>> (10 * (x + r.n))) <<< (10 * (x + r.n)),p.n⟩
theorem at_over (p r:Pk)(x i:Nat):(p.over x r).at' i=if x<=i/\i < x + r.n then r.at' (i - x) else p.at' i:=by
 have e:∀j,j < 10->x0K (p.over x r).v (10 * i + j)=((decide (10 * i + j < 10 * x) && x0K p.v (10 * i + j)) || (decide (10 * i + j>=10 * x) && (decide (10 * i + j - 10 * x < 10 * r.n) && x0K r.v (10 * i + j - 10 * x))) || (decide (10 * i + j>=10 * (x + r.n)) && x0K p.v (10 * (x + r.n) + (10 * i + j - 10 * (x + r.n))))):=fun j hj=>by
   show x0K (p.v % 2 ^ (10 * x) ||| (r.v % 2 ^ (10 * r.n)) <<< (10 * x) ||| (p.v >>> (10 * (x + r.n))) <<< (10 * (x + r.n))) _=_;rw [x1S,x1S,x0E,x1e,x1e,x0E,x1Y]
 by_cases c:x<=i/\i < x + r.n
 · rw [if_pos c];refine a5i fun j hj=>?_;rw [e j hj,decide_eq_false (show ¬10 * i + j < 10 * x by omega),decide_eq_true (show 10 * i + j>=10 * x by omega),decide_eq_true (show 10 * i + j - 10 * x < 10 * r.n by omega),decide_eq_false (show ¬10 * i + j>=10 * (x + r.n) by omega),show 10 * i + j - 10 * x=10 * (i - x) + j by omega];simp
 · rw [if_neg c];refine a5i fun j hj=>?_
   by_cases c3:i < x
   · rw [e j hj,decide_eq_true (show 10 * i + j < 10 * x by omega),decide_eq_false (show ¬10 * i + j>=10 * x by omega),decide_eq_false (show ¬10 * i + j>=10 * (x + r.n) by omega)];simp
   · rw [e j hj,decide_eq_false (show ¬10 * i + j < 10 * x by omega),decide_eq_false (show ¬10 * i + j - 10 * x < 10 * r.n by omega),decide_eq_true (show 10 * i + j>=10 * (x + r.n) by omega),show 10 * (x + r.n) + (10 * i + j - 10 * (x + r.n))=10 * i + j by omega];simp
end Pk
end Tm
end L2
end
section
namespace L2
namespace Tm
open PySem PySem.W PyProof.Rows
def ls (it:Array Keyed)(q:Pk):List Keyed:=(x0j q.n).map fun i=>x2j it (q.at' i).val
abbrev mp (it:Array Keyed)(q:Pk):Array Keyed:=(ls it q).toArray
theorem a2q {it:Array Keyed}(q:Pk)(i:Nat):(ls it q)[i]?=if i < q.n then some (x2j it (q.at' i).val) else none:=by
 unfold ls;rw [x0r]
 by_cases c:i < q.n
 · rw [if_pos c,List.getElem?_range c];rfl
 · rw [if_neg c,x0w (by rw [x3s];omega)];rfl
theorem a1G {it:Array Keyed}(q:Pk):(ls it q).length=q.n:=by unfold ls;rw [x0g,x3s]
theorem a6Y {it:Array Keyed}(q:Pk){l:List Keyed}(h:∀i,l[i]?=if i < q.n then some (x2j it (q.at' i).val) else none):l=ls it q:=List.ext_getElem? fun i=>by rw [h,a2q]
theorem b2G {it:Array Keyed}(q:Pk)(x:El):(mp it q).push (x2j it x.val)=mp it (q.push x):=by
 have:ls it q++[x2j it x.val]=ls it (q.push x):=a6Y _ fun i=>by
   show _=if i < q.n + 1 then _ else _
   by_cases c:i < q.n
   · rw [x0R (by rw [a1G];exact c),a2q,if_pos c,if_pos (by omega),Pk.at_push_lt _ _ c]
   · rw [x1B (by rw [a1G];omega),a1G]
     by_cases c2:i=q.n
     · subst c2;rw [Nat.sub_self,if_pos (by omega),Pk.at_push];rfl
     · rw [if_neg (by omega),x0w (by rw [x0G];omega)]
 show(ls it q).toArray.push _=(ls it (q.push x)).toArray;rw [<- this,List.push_toArray]
theorem mp_app {it:Array Keyed}(q r:Pk):mp it q++mp it r=mp it (q++r):=by
 have:ls it q++ls it r=ls it (q++r):=a6Y _ fun i=>by
   show _=if i < q.n + r.n then _ else _
   by_cases c:i < q.n
   · rw [x0R (by rw [a1G];exact c),a2q,if_pos c,if_pos (by omega),Pk.at_app_lt _ _ c]
   · rw [x1B (by rw [a1G];omega),a1G,a2q];obtain⟨k,rfl⟩:∃k,i=q.n + k:=⟨i - q.n,by omega⟩;rw [Pk.at_app_ge,show q.n + k - q.n=k by omega]
     by_cases c2:k < r.n
     · rw [if_pos c2,if_pos (by omega)]
     · rw [if_neg c2,if_neg (by omega)]
 show(ls it q).toArray++(ls it r).toArray=(ls it (q++r)).toArray;rw [<- this];exact(List.append_toArray _ _)
theorem a4P {it:Array Keyed}(q:Pk)(i j:Nat):(mp it q).extract i j=mp it (q.extract i j):=by
 have:(ls it q).extract i j=ls it (q.extract i j):=a6Y _ fun k=>by
   show((ls it q).drop i |>.take (j - i))[k]?=if k < min j q.n - i then _ else _;rw [List.getElem?_take,List.getElem?_drop,a2q,Pk.at_ext]
   by_cases c:k < j - i
   · rw [if_pos c]
     by_cases c2:i + k < q.n
     · rw [if_pos c2,if_pos (by omega)]
     · rw [if_neg c2,if_neg (by omega)]
   · rw [if_neg c,if_neg (by omega)]
 show(ls it q).toArray.extract i j=(ls it (q.extract i j)).toArray;rw [<- this,List.extract_toArray]
theorem mp_rev {it:Array Keyed}(q:Pk):(mp it q).reverse=mp it q.reverse:=by
 have:(ls it q).reverse=ls it q.reverse:=a6Y _ fun k=>by
   have hn:q.reverse.n=q.n:=Pk.ofF_n _ _;rw [hn]
   by_cases c:k < q.n
   · rw [List.getElem?_reverse (by rw [a1G];exact c),a1G,a2q,if_pos (by omega),if_pos c,show q.reverse.at' k=q.at' (q.n - 1 - k) from Pk.ofF_at _ _ c]
   · rw [if_neg c,x0w (by rw [x2s,a1G];omega)]
 show(ls it q).toArray.reverse=(ls it q.reverse).toArray;rw [<- this,List.reverse_toArray]
theorem a2C {it:Array Keyed}(q:Pk):(mp it q).size=q.size:=by
 show(ls it q).toArray.size=q.n;rw [x0n,a1G]
abbrev arr1 (x:Keyed):Array Keyed:=#[x]
theorem mp_one {it:Array Keyed}(x:El):arr1 (x2j it x.val)=mp it (Pk.one x):=by
 have:[x2j it x.val]=ls it (Pk.one x):=a6Y _ fun i=>by
   show _=if i < 1 then _ else _
   by_cases c:i < 1
   · obtain rfl:i=0:=by omega
     rw [if_pos (by decide),show(Pk.one x).at' 0=x from Pk.at_val fun j hj=>by show x0K x.val _=_;congr 1;omega];rfl
   · rw [if_neg c,x0w (by rw [x0G];omega)]
 show [x2j it x.val].toArray=_;rw [this]
structure S where
 p:Pk
 pend:Array (Nat×Nat×Nat)
 g:Nat
abbrev N:=StateT S Option
def toSt (κ:x4h)(it:Array Keyed)(s:S):SortSt:=x3S κ (mp it s.p) s.pend s.g none
def Sim (prog:x0A)(w:World)(A:Around)(E:Value->Shared->Prop)(sh:Shared)(κ:x4h)(it:Array Keyed){α β:Type}(F:β->α)(P:StateT SortSt Sem α)(m:N β):Prop:=
 ∀(s:S) (b:β) (s':S),m s=some (b,s')->∀Q:α->SortSt->Prop,Q (F b) (toSt κ it s')->wpS (model prog w) A E sh P Q (toSt κ it s)
section
variable {prog:x0A}{w:World}{A:Around}{E:Value->Shared->Prop}{sh:Shared}{κ:x4h}{it:Array Keyed}{α β γ δ:Type}
theorem a0A {F:β->α}(b:β){a:α}(h:a=F b):Sim prog w A E sh κ it F (pure a) (pure b):=fun s b' s' e Q q=>by
 cases e;exact wpS_pure (by rw [h];exact q)
theorem a0e {F:β->α}{G:δ->γ}{P:StateT SortSt Sem γ}{m:N δ}{f:γ->StateT SortSt Sem α}{g:δ->N β}(h1:Sim prog w A E sh κ it G P m)(h2:∀d,Sim prog w A E sh κ it F (f (G d)) (g d)):Sim prog w A E sh κ it F (P>>=f) (m>>=g):=fun s b s' e Q q=>by
 cases h:m s with
 | none =>
   have:(m>>=g) s=none:=by show(m s).bind _=none;rw [h];rfl
   rw [this] at e;cases e
 | some r =>
   obtain⟨d,s1⟩:=r;have:(m>>=g) s=g d s1:=by show(m s).bind _=_;rw [h];rfl
   rw [this] at e;exact wpS_bind (h1 s d s1 h _ (h2 d s1 b s' e Q q))
theorem a2c:Sim prog w A E sh κ it (toSt κ it) get get:=fun s b s' e Q q=>by
 cases e;exact wpS_get q
theorem a3y {f:SortSt->SortSt}{g:S->S}(h:∀s,f (toSt κ it s)=toSt κ it (g s)):Sim prog w A E sh κ it id (modify f) (modify g):=fun s b s' e Q q=>by
 cases e;refine wpS_modify ?_;rw [h];exact q
theorem b1E {st:SortSt}{s0:S}(h:st=toSt κ it s0):Sim prog w A E sh κ it id (set st) (set s0):=fun s b s' e Q q=>by
 cases e;subst h;exact x0e ⟨rfl,q⟩
theorem a9q {x:String}:Sim prog w A E sh κ it id (liftM (rule x):StateT SortSt Sem Unit) (pure ()):=fun s b s' e Q q=>by
 cases e;exact wpS_lift (x2x ⟨rfl,q⟩)
theorem a1r {F:β->α}{P:StateT SortSt Sem α}:Sim prog w A E sh κ it F P (fun _=>none):=fun s b s' e=>nomatch e
theorem a1m {F:β->α}{c:Prop}[Decidable c]{P1 P2:StateT SortSt Sem α}{m1 m2:N β}(h1:c->Sim prog w A E sh κ it F P1 m1)(h2:¬c->Sim prog w A E sh κ it F P2 m2):Sim prog w A E sh κ it F (if c then P1 else P2) (if c then m1 else m2):=by
 by_cases h:c
 · rw [if_pos h,if_pos h];exact h1 h
 · rw [if_neg h,if_neg h];exact h2 h
def stepF (F:β->α):ForInStep β->ForInStep α
 | .done d=>.done (F d)
 | .yield d=>.yield (F d)
theorem a9r {F:β->α}{f:Nat->α->StateT SortSt Sem (ForInStep α)}{g:Nat->β->N (ForInStep β)}(h:∀i d,Sim prog w A E sh κ it (stepF F) (f i (F d)) (g i d)):∀(l:List Nat) (d:β),Sim prog w A E sh κ it F (forIn l (F d) f) (forIn l d g):=by
 intro xq
 induction xq with
 | nil =>
   intro d;rw [x3y,x3y];exact a0A d rfl
 | cons x l ih =>
   intro d;rw [x3j,x3j];refine a0e (h x d) fun r=>?_;cases r with
   | done d'=>exact a0A d' rfl
   | yield d'=>exact ih d'
theorem a2y {F:β->α}{a b:Nat}{c:α}{d:β}(hc:c=F d){f:Nat->α->StateT SortSt Sem (ForInStep α)}{g:Nat->β->N (ForInStep β)}(h:∀i d,Sim prog w A E sh κ it (stepF F) (f i (F d)) (g i d)):Sim prog w A E sh κ it F (forIn [a:b] c f) (forIn (x1l a (b - a)) d g):=by
 rw [Std.Legacy.Range.forIn_eq_forIn_range'];have hsz:([a:b]:Std.Legacy.Range).size=b - a:=by simp [Std.Legacy.Range.size]
 show Sim prog w A E sh κ it F (forIn (x1l a ([a:b]:Std.Legacy.Range).size 1) c f) _;rw [hsz,hc];exact a9r h _ d
def elM (q:Pk)(i:Nat):N El:=if i < q.n then pure (q.at' i) else fun _=>none
abbrev ite' (it:Array Keyed)(x:El):Keyed:=x2j it x.val
theorem a1U (q:Pk)(i:Nat):Sim prog w A E sh κ it (ite' it) (elem' (mp it q) i) (elM q i):=by
 rw [elem'_eq];unfold elM;rw [List.getElem?_toArray,a2q]
 by_cases c:i < q.n
 · rw [if_pos c,if_pos c];exact a0A _ rfl
 · rw [if_neg c,if_neg c];exact a1r
def ltM (lt:Nat->Nat->Bool)(n:Nat)(i j:El):N (Option Bool):=if i.val < n/\j.val < n then pure (some (lt i.val j.val)) else fun _=>none
variable {lt:Nat->Nat->Bool}{n:Nat}
def Asks (prog:x0A)(w:World)(A:Around)(sh:Shared)(κ:x4h)(it:Array Keyed)(lt:Nat->Nat->Bool)(n:Nat):Prop:=∀i j (C:Bool->Shared->Prop),i < n->j < n->C (lt i j) sh->wpAny (model prog w) A (keyLt' κ (x2j it i).1 (x2j it j).1) C (fun _ _=>False) sh
theorem a4D (hA:Asks prog w A sh κ it lt n)(i j:El):Sim prog w A E sh κ it id (lt' (ite' it i) (ite' it j)) (ltM lt n i j):=by
 unfold ltM
 by_cases c:i.val < n/\j.val < n
 · rw [if_pos c];intro s b s' e Q q;cases e;rw [lt'_eq];refine wpS_bind (wpS_get ?_);refine wpS_bind (wpS_lift (x3i ?_));refine x0S (hA i.val j.val (fun b s2=>b=lt i.val j.val/\s2=sh) c.1 c.2 ⟨rfl,rfl⟩) (fun b s2 hb=>?_) fun _ _ z=>z.elim;obtain⟨rfl,rfl⟩:=hb;exact⟨rfl,wpS_pure q⟩
 · rw [if_neg c];exact a1r
def a1S:Bool->Keyed->Array Keyed->Nat->Nat->Nat->StateT SortSt Sem (Option Nat):=sortPriv% PySem.Builtin.gallop
def a4f:Array Keyed->Array Keyed->StateT SortSt Sem (Array Keyed):=sortPriv% PySem.Builtin.mergeLo
def a4g:Array Keyed->Array Keyed->StateT SortSt Sem (Array Keyed):=sortPriv% PySem.Builtin.mergeHi
def beyM (lt:Nat->Nat->Bool)(n:Nat)(l:Bool)(x:El)(q:Pk)(o i:Nat):N (Option Bool):=do
 let y ← elM q (o + i)
 if l=true then ltM lt n y x
 else do
   let r ← ltM lt n x y
   pure (Option.map (fun x=>!x) r)
def galM (lt:Nat->Nat->Bool)(n:Nat)(l:Bool)(x:El)(q:Pk)(o z h:Nat):N (Option Nat):=do
 let mut u:=0
 let mut v:=1
 let mut a:=0
 let mut b:=0
 let some r ← beyM lt n l x q o h | return none
 if r then
   let t:=z - h
   for _ in x1l 0 (z - 0) do
     if v>=t then break
     let some m ← beyM lt n l x q o (h + v) | return none
     if !m then break
     u:=v
     v:=2 * v + 1
   a:=h + u + 1
   b:=h + min v t
 else
   let t:=h + 1
   for _ in x1l 0 (z - 0) do
     if v>=t then break
     let some m ← beyM lt n l x q o (h - v) | return none
     if m then break
     u:=v
     v:=2 * v + 1
   a:=h + 1 - min v t
   b:=h - u
 for _ in x1l 0 (z - 0) do
   if a>=b then break
   let c:=a + (b - a) / 2
   let some m ← beyM lt n l x q o c | return none
   if m then a:=c + 1 else b:=c
 return some b
def beyK (l:Bool)(x:Keyed)(q:Array Keyed)(o i:Nat):StateT SortSt Sem (Option Bool):=do
 let y ← elem' q (o + i)
 if l=true then lt' y x
 else do
   let r ← lt' x y
   pure (Option.map (fun x=>!x) r)
theorem gal_eq (l:Bool)(x:Keyed)(q:Array Keyed)(o z h:Nat):a1S l x q o z h=(do
 let mut u:=0
 let mut v:=1
 let mut a:=0
 let mut b:=0
 let some r ← beyK l x q o h | return none
 if r then
   let t:=z - h
   for _ in [0:z] do
     if v>=t then break
     let some m ← beyK l x q o (h + v) | return none
     if !m then break
     u:=v
     v:=2 * v + 1
   a:=h + u + 1
   b:=h + min v t
 else
   let t:=h + 1
   for _ in [0:z] do
     if v>=t then break
     let some m ← beyK l x q o (h - v) | return none
     if m then break
     u:=v
     v:=2 * v + 1
   a:=h + 1 - min v t
   b:=h - u
 for _ in [0:z] do
   if a>=b then break
   let c:=a + (b - a) / 2
   let some m ← beyK l x q o c | return none
   if m then a:=c + 1 else b:=c
 return some b):=rfl
theorem b1I (hA:Asks prog w A sh κ it lt n)(l:Bool)(x:El)(q:Pk)(o i:Nat):Sim prog w A E sh κ it id (beyK l (ite' it x) (mp it q) o i) (beyM lt n l x q o i):=by
 unfold beyM beyK;refine a0e (a1U q _) fun y=>?_;refine a1m (fun _=>a4D hA y x) fun _=>?_;exact a0e (a4D hA x y) fun r=>a0A _ rfl
theorem a2x (hA:Asks prog w A sh κ it lt n)(l:Bool)(x:El)(q:Pk)(o z h:Nat):Sim prog w A E sh κ it id (a1S l (ite' it x) (mp it q) o z h) (galM lt n l x q o z h):=by
 have bey:=fun i=>b1I (E:=E) hA l x q o i;rw [gal_eq];unfold galM;generalize beyK l (ite' it x) (mp it q) o=B at *;generalize beyM lt n l x q o=BM at *;dsimp only
 repeat' first
   | exact a0A _ rfl
   | refine a1m (fun _=>?_) fun _=>?_
   | (refine a0e (bey _) fun y=>?_;cases y <;> dsimp only [id])
   | (refine a0e (a2y (F:=id) rfl fun i d=>?_) fun d=>?_ <;> obtain⟨r,d⟩:=d <;> cases r <;> dsimp only [id])
end
end Tm
end L2
end
section
namespace L2
namespace Tm
open PySem PySem.W PyProof.Rows
section
variable {prog:x0A}{w:World}{A:Around}{E:Value->Shared->Prop}{sh:Shared}{κ:x4h}{it:Array Keyed}{α β γ δ:Type}{lt:Nat->Nat->Bool}{n:Nat}
def a6M:Nat->StateT SortSt Sem Unit:=sortPriv% PySem.Builtin.setMinGallop
theorem b1J (m:Nat):a6M m=modify fun s=>x3S (kindOf s) (arrOf s) (x2L s) m (failedOf s):=rfl
def sgM (m:Nat):N Unit:=modify fun s=>{ s with g:=m }
theorem b0H (m:Nat):Sim prog w A E sh κ it id (a6M m) (sgM m):=by
 rw [b1J];exact a3y fun _=>rfl
def nopM:N Unit:=pure ()
theorem a3T {x:String}:Sim prog w A E sh κ it id (liftM (rule x):StateT SortSt Sem Unit) nopM:=a9q
abbrev FM (it:Array Keyed){ρ:Type}(d:Option Pk×Pk×ρ):Option (Array Keyed)×Array Keyed×ρ:=(d.1.map (mp it),mp it d.2.1,d.2.2)
abbrev FH (it:Array Keyed){ρ:Type}(d:Option Pk×Nat×Nat×Pk×ρ):Option (Array Keyed)×Nat×Nat×Array Keyed×ρ:=(d.1.map (mp it),d.2.1,d.2.2.1,mp it d.2.2.2.1,d.2.2.2.2)
theorem mlo_eq (a b:Array Keyed):a4f a b=(do
 rule "list.sort.merge-lo"
 let t:=a.size + b.size
 let dn (o:Array Keyed) (i j:Nat):=o++a.extract i a.size++b.extract j b.size
 let la (o:Array Keyed) (i j:Nat):=o++b.extract j b.size++a.extract i a.size
 let mut o:Array Keyed:=arr1 (← elem' b 0)
 let mut i:=0
 let mut j:=1
 if j == b.size then return dn o i j
 if i + 1 == a.size then return la o i j
 let mut m:=gallopOf (← get)
 for _ in [0:t] do
   let mut c:=0
   let mut d:=0
   for _ in [0:t] do
     let some y ← lt' (← elem' b j) (← elem' a i) | return dn o i j
     if y then
       o:=o.push (← elem' b j)
       j:=j + 1
       d:=d + 1
       c:=0
       if j == b.size then return dn o i j
       if d>=m then break
     else
       o:=o.push (← elem' a i)
       i:=i + 1
       c:=c + 1
       d:=0
       if i + 1 == a.size then return la o i j
       if c>=m then break
   rule "list.sort.gallop"
   m:=m + 1
   for _ in [0:t] do
     if m > 1 then m:=m - 1
     a6M m
     let some k ← a1S false (← elem' b j) a i (a.size - i) 0 | return dn o i j
     c:=k
     if k > 0 then
       o:=o++a.extract i (i + k)
       i:=i + k
       if i + 1 == a.size then return la o i j
       if i == a.size then return dn o i j
     o:=o.push (← elem' b j)
     j:=j + 1
     if j == b.size then return dn o i j
     let some k ← a1S true (← elem' a i) b j (b.size - j) 0 | return dn o i j
     d:=k
     if k > 0 then
       o:=o++b.extract j (j + k)
       j:=j + k
       if j == b.size then return dn o i j
     o:=o.push (← elem' a i)
     i:=i + 1
     if i + 1 == a.size then return la o i j
     if c < 7 && d < 7 then break
   m:=m + 1
   a6M m
 unsupported "internal:list.sort.merge-bound"):=rfl
def mloM (lt:Nat->Nat->Bool)(n:Nat)(a b:Pk):N Pk:=do
 nopM
 let t:=a.size + b.size
 let dn (o:Pk) (i j:Nat):=o++a.extract i a.size++b.extract j b.size
 let la (o:Pk) (i j:Nat):=o++b.extract j b.size++a.extract i a.size
 let mut o:Pk:=Pk.one (← elM b 0)
 let mut i:=0
 let mut j:=1
 if j == b.size then return dn o i j
 if i + 1 == a.size then return la o i j
 let mut m:=S.g (← get)
 for _ in x1l (0) (t - 0) do
   let mut c:=0
   let mut d:=0
   for _ in x1l (0) (t - 0) do
     let some y ← ltM lt n (← elM b j) (← elM a i) | return dn o i j
     if y then
       o:=o.push (← elM b j)
       j:=j + 1
       d:=d + 1
       c:=0
       if j == b.size then return dn o i j
       if d>=m then break
     else
       o:=o.push (← elM a i)
       i:=i + 1
       c:=c + 1
       d:=0
       if i + 1 == a.size then return la o i j
       if c>=m then break
   nopM
   m:=m + 1
   for _ in x1l (0) (t - 0) do
     if m > 1 then m:=m - 1
     sgM m
     let some k ← galM lt n false (← elM b j) a i (a.size - i) 0 | return dn o i j
     c:=k
     if k > 0 then
       o:=o++a.extract i (i + k)
       i:=i + k
       if i + 1 == a.size then return la o i j
       if i == a.size then return dn o i j
     o:=o.push (← elM b j)
     j:=j + 1
     if j == b.size then return dn o i j
     let some k ← galM lt n true (← elM a i) b j (b.size - j) 0 | return dn o i j
     d:=k
     if k > 0 then
       o:=o++b.extract j (j + k)
       j:=j + k
       if j == b.size then return dn o i j
     o:=o.push (← elM a i)
     i:=i + 1
     if i + 1 == a.size then return la o i j
     if c < 7 && d < 7 then break
   m:=m + 1
   sgM m
 (fun _=>none)
theorem mhi_eq (a b:Array Keyed):a4g a b=(do
 rule "list.sort.merge-hi"
 let t:=a.size + b.size
 let dn (o:Array Keyed) (i j:Nat):=a.extract 0 i++b.extract 0 j++o.reverse
 let fb (o:Array Keyed) (i j:Nat):=b.extract 0 j++a.extract 0 i++o.reverse
 let mut i:=a.size - 1
 let mut j:=b.size
 let mut o:Array Keyed:=arr1 (← elem' a i)
 if i == 0 then return dn o i j
 if j == 1 then return fb o i j
 let mut m:=gallopOf (← get)
 for _ in [0:t] do
   let mut c:=0
   let mut d:=0
   for _ in [0:t] do
     let some y ← lt' (← elem' b (j - 1)) (← elem' a (i - 1)) | return dn o i j
     if y then
       i:=i - 1
       o:=o.push (← elem' a i)
       c:=c + 1
       d:=0
       if i == 0 then return dn o i j
       if c>=m then break
     else
       j:=j - 1
       o:=o.push (← elem' b j)
       d:=d + 1
       c:=0
       if j == 1 then return fb o i j
       if d>=m then break
   rule "list.sort.gallop"
   m:=m + 1
   for _ in [0:t] do
     if m > 1 then m:=m - 1
     a6M m
     let some e ← a1S false (← elem' b (j - 1)) a 0 i (i - 1) | return dn o i j
     let k:=i - e
     c:=k
     if k > 0 then
       o:=o++(a.extract e i).reverse
       i:=e
       if i == 0 then return dn o i j
     j:=j - 1
     o:=o.push (← elem' b j)
     if j == 1 then return fb o i j
     let some e ← a1S true (← elem' a (i - 1)) b 0 j (j - 1) | return dn o i j
     let k:=j - e
     d:=k
     if k > 0 then
       o:=o++(b.extract e j).reverse
       j:=e
       if j == 1 then return fb o i j
       if j == 0 then return dn o i j
     i:=i - 1
     o:=o.push (← elem' a i)
     if i == 0 then return dn o i j
     if c < 7 && d < 7 then break
   m:=m + 1
   a6M m
 unsupported "internal:list.sort.merge-bound"):=rfl
def mhiM (lt:Nat->Nat->Bool)(n:Nat)(a b:Pk):N Pk:=do
 nopM
 let t:=a.size + b.size
 let dn (o:Pk) (i j:Nat):=a.extract 0 i++b.extract 0 j++o.reverse
 let fb (o:Pk) (i j:Nat):=b.extract 0 j++a.extract 0 i++o.reverse
 let mut i:=a.size - 1
 let mut j:=b.size
 let mut o:Pk:=Pk.one (← elM a i)
 if i == 0 then return dn o i j
 if j == 1 then return fb o i j
 let mut m:=S.g (← get)
 for _ in x1l (0) (t - 0) do
   let mut c:=0
   let mut d:=0
   for _ in x1l (0) (t - 0) do
     let some y ← ltM lt n (← elM b (j - 1)) (← elM a (i - 1)) | return dn o i j
     if y then
       i:=i - 1
       o:=o.push (← elM a i)
       c:=c + 1
       d:=0
       if i == 0 then return dn o i j
       if c>=m then break
     else
       j:=j - 1
       o:=o.push (← elM b j)
       d:=d + 1
       c:=0
       if j == 1 then return fb o i j
       if d>=m then break
   nopM
   m:=m + 1
   for _ in x1l (0) (t - 0) do
     if m > 1 then m:=m - 1
     sgM m
     let some e ← galM lt n false (← elM b (j - 1)) a 0 i (i - 1) | return dn o i j
     let k:=i - e
     c:=k
     if k > 0 then
       o:=o++(a.extract e i).reverse
       i:=e
       if i == 0 then return dn o i j
     j:=j - 1
     o:=o.push (← elM b j)
     if j == 1 then return fb o i j
     let some e ← galM lt n true (← elM a (i - 1)) b 0 j (j - 1) | return dn o i j
     let k:=j - e
     d:=k
     if k > 0 then
       o:=o++(b.extract e j).reverse
       j:=e
       if j == 1 then return fb o i j
       if j == 0 then return dn o i j
     i:=i - 1
     o:=o.push (← elM a i)
     if i == 0 then return dn o i j
     if c < 7 && d < 7 then break
   m:=m + 1
   sgM m
 (fun _=>none)
local macro_rules | `(tactic| walk_at "mpZ")=>`(tactic| ((try simp only [b2G,mp_app,a4P,mp_rev,mp_one]) <;> rfl))
theorem b1G (hA:Asks prog w A sh κ it lt n)(a b:Pk):Sim prog w A E sh κ it (mp it) (a4f (mp it a) (mp it b)) (mloM lt n a b):=by
 have el:=fun q i=>a1U (prog:=prog) (w:=w) (A:=A) (E:=E) (sh:=sh) (κ:=κ) (it:=it) q i;have gl:=fun l x q o z h=>a2x (E:=E) hA l x q o z h;have lq:=fun i j=>a4D (E:=E) hA i j;rw [mlo_eq];unfold mloM;dsimp only;simp only [a2C,a4P]
 repeat' first
   | exact a0A _ (by walk_at "mpZ")
   | exact a1r
   | refine a1m (fun _=>?_) fun _=>?_
   | refine a0e a3T fun _=>?_
   | refine a0e (el _ _) fun x=>?_
   | (refine a0e (lq _ _) fun y=>?_;cases y <;> dsimp only [id])
   | refine a0e a2c fun s=>?_
   | refine a0e (b0H _) fun _=>?_
   | (refine a0e (gl _ _ _ _ _ _) fun y=>?_;cases y <;> dsimp only [id])
   | (refine a0e (a2y (F:=FM it) (by walk_at "mpZ") fun i d=>?_) fun d=>?_ <;> obtain⟨r,d⟩:=d <;> cases r <;> dsimp only [FM,Option.map])
theorem b1H (hA:Asks prog w A sh κ it lt n)(a b:Pk):Sim prog w A E sh κ it (mp it) (a4g (mp it a) (mp it b)) (mhiM lt n a b):=by
 have el:=fun q i=>a1U (prog:=prog) (w:=w) (A:=A) (E:=E) (sh:=sh) (κ:=κ) (it:=it) q i;have gl:=fun l x q o z h=>a2x (E:=E) hA l x q o z h;have lq:=fun i j=>a4D (E:=E) hA i j;rw [mhi_eq];unfold mhiM;dsimp only;simp only [a2C,a4P]
 repeat' first
   | exact a0A _ (by walk_at "mpZ")
   | exact a1r
   | refine a1m (fun _=>?_) fun _=>?_
   | refine a0e a3T fun _=>?_
   | refine a0e (el _ _) fun x=>?_
   | (refine a0e (lq _ _) fun y=>?_;cases y <;> dsimp only [id])
   | refine a0e a2c fun s=>?_
   | refine a0e (b0H _) fun _=>?_
   | (refine a0e (gl _ _ _ _ _ _) fun y=>?_;cases y <;> dsimp only [id])
   | (refine a0e (a2y (F:=FH it) (by walk_at "mpZ") fun i d=>?_) fun d=>?_ <;> obtain⟨r,d⟩:=d <;> cases r <;> dsimp only [FH,Option.map])
end
end Tm
end L2
end
section
namespace L2
namespace Tm
open PySem PySem.W PyProof.Rows
section
variable {prog:x0A}{w:World}{A:Around}{E:Value->Shared->Prop}{sh:Shared}{κ:x4h}{it:Array Keyed}{α β γ δ:Type}{lt:Nat->Nat->Bool}{n:Nat}
abbrev setP (s:S)(p:Array (Nat×Nat×Nat)):S:=⟨s.p,p,s.g⟩
abbrev setA (s:S)(p:Pk):S:=⟨p,s.pend,s.g⟩
def a4Q (lt:Nat->Nat->Bool)(n i j:Nat):N (Option Bool):=do
 let a:=S.p (← get)
 ltM lt n (← elM a i) (← elM a j)
theorem a5U (hA:Asks prog w A sh κ it lt n)(i j:Nat):Sim prog w A E sh κ it id (ltAt' i j) (a4Q lt n i j):=by
 rw [ltAt'_eq];unfold a4Q;refine a0e a2c fun s=>?_;exact a0e (a1U _ _) fun x=>a0e (a1U _ _) fun y=>a4D hA x y
theorem a5o {F:β->α}{P:StateT SortSt Sem α}{m:N β}(h:∀s b s',m s=some (b,s')->∀Q:α->SortSt->Prop,Q (F b) (toSt κ it s')->wpS (model prog w) A E sh P Q (toSt κ it s)):Sim prog w A E sh κ it F P m:=h
theorem a6F {xs:Array Keyed}{q:Pk}(h:∀i,xs[i]?=if i < q.n then some (x2j it (q.at' i).val) else none):xs=mp it q:=by
 apply Array.toList_inj.mp
 exact a6Y q fun i=>by rw [x3E];exact h i
theorem a3E (q:Pk)(i:Nat):(mp it q)[i]?=if i < q.n then some (x2j it (q.at' i).val) else none:=by rw [List.getElem?_toArray,a2q]
def revP (p:Pk)(i j:Nat):Pk:=Pk.ofF (fun k=>if i<=k/\k < j then p.at' (i + j - 1 - k) else p.at' k) p.n
def revM (i j:Nat):N Unit:=fun s=>if j<=s.p.n then some ((),setA s (revP s.p i j)) else none
theorem b1F (i j:Nat):Sim prog w A E sh κ it id (x3Q i j) (revM i j):=a5o fun s b s' e Q q=>by
 unfold revM at e
 by_cases c:j<=s.p.n
 · rw [if_pos c] at e;cases e;rw [reverseSlice'_eq];refine wpS_modify ?_;have hs:j<=(mp it s.p).size:=by rw [a2C];exact c
   have e1:mirror (mp it s.p) i j ((j - i) / 2)=mp it (revP s.p i j):=a6F fun k=>by
     rw [getElem?_mirror_all hs,a3E,a3E,show(revP s.p i j).n=s.p.n from Pk.ofF_n _ _]
     by_cases c2:k < s.p.n
     · rw [if_pos c2,if_pos c2,show(revP s.p i j).at' k=_ from Pk.ofF_at _ _ c2]
       by_cases c3:i<=k/\k < j
       · rw [if_pos c3,if_pos c3,if_pos (by omega)]
       · rw [if_neg c3,if_neg c3]
     · rw [if_neg c2,if_neg c2,if_neg (by omega)]
   show Q () (x3S κ (mirror (mp it s.p) i j ((j - i) / 2)) s.pend s.g none);rw [e1];exact q
 · rw [if_neg c] at e;cases e
def b3a (k l:Nat):N Unit:=fun s=>if k < s.p.n/\l<=k then some ((),setA s (s.p.down k l)) else none
theorem a9s (k l:Nat):Sim prog w A E sh κ it id (moveDown' k l) (b3a k l):=a5o fun s b s' e Q q=>by
 unfold b3a at e
 by_cases c:k < s.p.n/\l<=k
 · rw [if_pos c] at e;cases e;rw [moveDown'_eq];refine wpS_modify ?_;have hs:k < (mp it s.p).size:=by rw [a2C];exact c.1
   have e1:bubble (mp it s.p) k (k - l)=mp it (s.p.down k l):=a6F fun i=>by
     rw [getElem?_bubble hs (k - l) (by omega),show k - (k - l)=l by omega,a3E,a3E,a3E,Pk.at_down _ c.2,show(s.p.down k l).n=s.p.n from rfl]
     by_cases c2:i=l
     · rw [if_pos c2,if_pos c.1,if_pos c2,if_pos (by omega)]
     · rw [if_neg c2,if_neg c2]
       by_cases c3:l < i/\i<=k
       · rw [if_pos c3,if_pos c3,if_pos (by omega),if_pos (by omega)]
       · rw [if_neg c3,if_neg c3]
   show Q () (x3S κ (bubble (mp it s.p) k (k - l)) s.pend s.g none);rw [e1];exact q
 · rw [if_neg c] at e;cases e
def wbK (x:Nat)(r:Array Keyed):StateT SortSt Sem Unit:=modify fun s=>setArr s (r.toList.zipIdx.foldl (fun a (p,j)=>a.setIfInBounds (x + j) p) (arrOf s))
def wbM (x:Nat)(r:Pk):N Unit:=fun s=>if x + r.n<=s.p.n then some ((),setA s (s.p.over x r)) else none
theorem b0r (x:Nat):∀(l:List Keyed) (k:Nat) (a:Array Keyed) (i:Nat),x + k + l.length<=a.size->((l.zipIdx k).foldl (fun a e=>a.setIfInBounds (x + e.2) e.1) a)[i]?=if x + k<=i/\i < x + k + l.length then l[i - (x + k)]? else a[i]?:=by
 intro xq
 induction xq with
 | nil =>
   intro k a i h;rw [if_neg (by rw [List.length_nil];omega)];rfl
 | cons y l ih =>
   intro k a i h;rw [x0B] at h;rw [List.zipIdx_cons,x3k,ih (k + 1) _ i (by rw [Array.size_setIfInBounds];omega),x0B,Array.getElem?_setIfInBounds]
   by_cases c:x + k=i
   · subst c;rw [if_neg (by omega),if_pos rfl,if_pos (by omega),if_pos (by omega),Nat.sub_self];rfl
   · by_cases c2:x + (k + 1)<=i/\i < x + (k + 1) + l.length
     · rw [if_pos c2,if_pos (by omega),show i - (x + k)=(i - (x + (k + 1))) + 1 by omega,x1O]
     · rw [if_neg c2,if_neg c,if_neg (by omega)]
theorem sim_wb (x:Nat)(r:Pk):Sim prog w A E sh κ it id (wbK x (mp it r)) (wbM x r):=a5o fun s b s' e Q q=>by
 unfold wbM at e
 by_cases c:x + r.n<=s.p.n
 · rw [if_pos c] at e;cases e;refine wpS_modify ?_
   have e1:(ls it r).zipIdx.foldl (fun a e=>a.setIfInBounds (x + e.2) e.1) (mp it s.p)=mp it (s.p.over x r):=a6F fun i=>by
     rw [b0r x (ls it r) 0 (mp it s.p) i (by rw [a2C,a1G];exact c),a1G,a2q,a3E,Pk.at_over,show(s.p.over x r).n=s.p.n from rfl]
     by_cases c2:x<=i/\i < x + r.n
     · rw [if_pos (by omega),if_pos (by omega),if_pos c2,if_pos (by omega)];rfl
     · rw [if_neg (by omega),if_neg c2]
   show Q () (x3S κ ((ls it r).zipIdx.foldl (fun a e=>a.setIfInBounds (x + e.2) e.1) (mp it s.p)) s.pend s.g none);rw [e1];exact q
 · rw [if_neg c] at e;cases e
theorem cr_eq (o z:Nat):countRun' o z=(do
 let mut k:=1
 for _ in [1:z] do
   let some y ← ltAt' (o + k) (o + k - 1) | return none
   if y then break
   k:=k + 1
 if k == z then return some k
 if k > 1 then
   let some y ← ltAt' o (o + k - 1) | return none
   if y then return some k
   x3Q o (o + k)
 rule "list.sort.descending-run"
 k:=k + 1
 let mut e:=0
 for _ in [k:z] do
   let some y ← ltAt' (o + k) (o + k - 1) | return none
   if y then
     if e > 0 then x3Q (o + k - (e + 1)) (o + k)
     e:=0
   else
     let some y ← ltAt' (o + k - 1) (o + k) | return none
     if y then break
     e:=e + 1
   k:=k + 1
 if e > 0 then x3Q (o + k - (e + 1)) (o + k)
 x3Q o (o + k)
 for _ in [k:z] do
   let some y ← ltAt' (o + k) (o + k - 1) | return none
   if y then break
   k:=k + 1
 return some k):=rfl
def crM (lt:Nat->Nat->Bool)(n o z:Nat):N (Option Nat):=do
 let mut k:=1
 for _ in x1l (1) (z - 1) do
   let some y ← a4Q lt n (o + k) (o + k - 1) | return none
   if y then break
   k:=k + 1
 if k == z then return some k
 if k > 1 then
   let some y ← a4Q lt n o (o + k - 1) | return none
   if y then return some k
   revM o (o + k)
 nopM
 k:=k + 1
 let mut e:=0
 for _ in x1l (k) (z - k) do
   let some y ← a4Q lt n (o + k) (o + k - 1) | return none
   if y then
     if e > 0 then revM (o + k - (e + 1)) (o + k)
     e:=0
   else
     let some y ← a4Q lt n (o + k - 1) (o + k) | return none
     if y then break
     e:=e + 1
   k:=k + 1
 if e > 0 then revM (o + k - (e + 1)) (o + k)
 revM o (o + k)
 for _ in x1l (k) (z - k) do
   let some y ← a4Q lt n (o + k) (o + k - 1) | return none
   if y then break
   k:=k + 1
 return some k
theorem bs_eq (o z c:Nat):binarySort' o z c=(do
 for k in [max c 1:z] do
   let mut l:=0
   let mut r:=k
   for _ in [0:k] do
     if l>=r then break
     let m:=(l + r) / 2
     let some y ← ltAt' (o + k) (o + m) | return false
     if y then r:=m else l:=m + 1
   moveDown' (o + k) (o + l)
 return true):=rfl
def bsM (lt:Nat->Nat->Bool)(n o z c:Nat):N Bool:=do
 for k in x1l (max c 1) (z - max c 1) do
   let mut l:=0
   let mut r:=k
   for _ in x1l (0) (k - 0) do
     if l>=r then break
     let m:=(l + r) / 2
     let some y ← a4Q lt n (o + k) (o + m) | return false
     if y then r:=m else l:=m + 1
   b3a (o + k) (o + l)
 return true
theorem ma_eq (i:Nat):mergeAt' i=(do
 let s ← get
 let (some (x,y,pw),some (u,v,_)):=((x2L s)[i]?,(x2L s)[i + 1]?) | unsupported "internal:list.sort.pending"
 set (setPending s (((x2L s).setIfInBounds i (x,y + v,pw)).eraseIdxIfInBounds (i + 1)))
 let some k ← a1S false (← elem' (arrOf s) u) (arrOf s) x y 0 | return false
 let (x,y):=(x + k,y - k)
 if y == 0 then return true
 let some v ← a1S true (← elem' (arrOf s) (x + y - 1)) (arrOf s) u v (v - 1) | return false
 if v == 0 then return true
 let e:=(arrOf s).extract x u
 let f:=(arrOf s).extract u (u + v)
 let r ← if y<=v then a4f e f else a4g e f
 wbK x r
 return (fun s=>(failedOf s).isNone) (← get)):=rfl
def maM (lt:Nat->Nat->Bool)(n i:Nat):N Bool:=do
 let s ← get
 let (some (x,y,pw),some (u,v,_)):=((S.pend s)[i]?,(S.pend s)[i + 1]?) | (fun _=>none)
 set (setP s (((S.pend s).setIfInBounds i (x,y + v,pw)).eraseIdxIfInBounds (i + 1)))
 let some k ← galM lt n false (← elM (S.p s) u) (S.p s) x y 0 | return false
 let (x,y):=(x + k,y - k)
 if y == 0 then return true
 let some v ← galM lt n true (← elM (S.p s) (x + y - 1)) (S.p s) u v (v - 1) | return false
 if v == 0 then return true
 let e:=(S.p s).extract x u
 let f:=(S.p s).extract u (u + v)
 let r ← if y<=v then mloM lt n e f else mhiM lt n e f
 wbM x r
 return (fun _=>true) (← get)
theorem sr_eq:sortRuns'=(do
 let z:=(arrOf (← get)).size
 let mr:=minRun' z z 0
 let mut o:=0
 for _ in [0:z] do
   if o>=z then break
   let some q ← countRun' o (z - o) | return
   let mut k:=q
   if k < mr then
     rule "list.sort.binary-insertion"
     let f:=min (z - o) mr
     if !(← binarySort' o f k) then return
     k:=f
   if let some (s1,n1,_):=(x2L (← get)).back? then
     let pw:=power' z (2 * s1 + n1) (2 * s1 + n1 + n1 + k) z
     for _ in [0:z] do
       let p:=x2L (← get)
       let some (_,_,b):=(if p.size > 1 then p[p.size - 2]? else none) | break
       if b<=pw then break
       if !(← mergeAt' (p.size - 2)) then return
     modify fun s=>setPending s ((x2L s).modify ((x2L s).size - 1) fun(st,len,_)=>(st,len,pw))
   modify fun s=>setPending s ((x2L s).push (o,k,0))
   o:=o + k
 for _ in [0:z] do
   let p:=x2L (← get)
   if p.size<=1 then break
   let i:=p.size - 2
   let b:=if i > 0 then p[i - 1]?.map (·.2.1) else none
   let i:=if b.any (· < (p[i + 1]?.elim 0 (·.2.1))) then i - 1 else i
   if !(← mergeAt' i) then return):=rfl
def srM (lt:Nat->Nat->Bool)(n:Nat):N Unit:=do
 let z:=(S.p (← get)).size
 let mr:=minRun' z z 0
 let mut o:=0
 for _ in x1l (0) (z - 0) do
   if o>=z then break
   let some q ← crM lt n o (z - o) | return
   let mut k:=q
   if k < mr then
     nopM
     let f:=min (z - o) mr
     if !(← bsM lt n o f k) then return
     k:=f
   if let some (s1,n1,_):=(S.pend (← get)).back? then
     let pw:=power' z (2 * s1 + n1) (2 * s1 + n1 + n1 + k) z
     for _ in x1l (0) (z - 0) do
       let p:=S.pend (← get)
       let some (_,_,b):=(if p.size > 1 then p[p.size - 2]? else none) | break
       if b<=pw then break
       if !(← maM lt n (p.size - 2)) then return
     modify fun s=>setP s ((S.pend s).modify ((S.pend s).size - 1) fun(st,len,_)=>(st,len,pw))
   modify fun s=>setP s ((S.pend s).push (o,k,0))
   o:=o + k
 for _ in x1l (0) (z - 0) do
   let p:=S.pend (← get)
   if p.size<=1 then break
   let i:=p.size - 2
   let b:=if i > 0 then p[i - 1]?.map (·.2.1) else none
   let i:=if b.any (· < (p[i + 1]?.elim 0 (·.2.1))) then i - 1 else i
   if !(← maM lt n i) then return
theorem sim_cr (hA:Asks prog w A sh κ it lt n)(o z:Nat):Sim prog w A E sh κ it id (countRun' o z) (crM lt n o z):=by
 have lq:=fun i j=>a5U (E:=E) hA i j;rw [cr_eq];unfold crM;dsimp only
 repeat' first
   | exact a0A _ rfl
   | refine a1m (fun _=>?_) fun _=>?_
   | refine a0e a3T fun _=>?_
   | refine a0e (b1F _ _) fun _=>?_
   | (refine a0e (lq _ _) fun y=>?_;cases y <;> dsimp only [id])
   | (refine a0e (a2y (F:=id) rfl fun i d=>?_) fun d=>?_ <;> obtain⟨r,d⟩:=d <;> cases r <;> dsimp only [id])
theorem sim_bs (hA:Asks prog w A sh κ it lt n)(o z c:Nat):Sim prog w A E sh κ it id (binarySort' o z c) (bsM lt n o z c):=by
 have lq:=fun i j=>a5U (E:=E) hA i j;rw [bs_eq];unfold bsM;dsimp only
 repeat' first
   | exact a0A _ rfl
   | refine a1m (fun _=>?_) fun _=>?_
   | refine a0e (a9s _ _) fun _=>?_
   | (refine a0e (lq _ _) fun y=>?_;cases y <;> dsimp only [id])
   | (refine a0e (a2y (F:=id) rfl fun i d=>?_) fun d=>?_ <;> obtain⟨r,d⟩:=d <;> cases r <;> try dsimp only [id])
theorem sim_ma (hA:Asks prog w A sh κ it lt n)(i:Nat):Sim prog w A E sh κ it id (mergeAt' i) (maM lt n i):=by
 have el:=fun q i=>a1U (prog:=prog) (w:=w) (A:=A) (E:=E) (sh:=sh) (κ:=κ) (it:=it) q i;have gl:=fun l x q o z h=>a2x (E:=E) hA l x q o z h;rw [ma_eq];unfold maM;refine a0e a2c fun s=>?_;dsimp only [toSt];generalize s.pend[i]?=e1;generalize s.pend[i + 1]?=e2;rcases e1 with _ | ⟨x,y,pw⟩ <;> rcases e2 with _ | ⟨u,v,_⟩
 · exact a1r
 · exact a1r
 · exact a1r
 dsimp only;refine a0e (b1E rfl) fun _=>?_;refine a0e (el _ _) fun a=>?_;refine a0e (gl _ _ _ _ _ _) fun k=>?_;cases k with
 | none=>exact a0A _ rfl
 | some k =>
   dsimp only [id];refine a1m (fun _=>a0A _ rfl) fun _=>?_;refine a0e (el _ _) fun b=>?_;refine a0e (gl _ _ _ _ _ _) fun v=>?_;cases v with
   | none=>exact a0A _ rfl
   | some v =>
     dsimp only [id];refine a1m (fun _=>a0A _ rfl) fun _=>?_;rw [show(mp it s.p).extract (x + k) u=mp it (s.p.extract (x + k) u) from a4P _ _ _,show(mp it s.p).extract u (u + v)=mp it (s.p.extract u (u + v)) from a4P _ _ _]
     have tl:∀r:Pk,Sim prog w A E sh κ it id (do
         wbK (x + k) (mp it r)
         let s ← get
         pure (failedOf s).isNone) (do
         wbM (x + k) r
         let _ ← get
         pure true):=fun r=>a0e (sim_wb _ _) fun _=>a0e a2c fun s=>a0A _ rfl
     exact a1m (fun _=>a0e (b1G hA _ _) tl) fun _=>a0e (b1H hA _ _) tl
theorem arr_of (s:S):arrOf (toSt κ it s)=mp it s.p:=rfl
theorem b2o (s:S):x2L (toSt κ it s)=s.pend:=rfl
theorem sim_sr (hA:Asks prog w A sh κ it lt n):Sim prog w A E sh κ it id sortRuns' (srM lt n):=by
 have ma:=fun i=>sim_ma (E:=E) hA i;have cr:=fun o z=>sim_cr (E:=E) hA o z;have bs:=fun o z c=>sim_bs (E:=E) hA o z c;rw [sr_eq];unfold srM;dsimp only;refine a0e a2c fun s=>?_;dsimp only [arr_of];simp only [a2C];generalize Pk.size s.p=z
 repeat' first
   | exact a0A _ rfl
   | refine a1m (fun _=>?_) fun _=>?_
   | refine a0e a3T fun _=>?_
   | (refine a0e (cr _ _) fun y=>?_;cases y <;> dsimp only [id])
   | (refine a0e (bs _ _ _) fun y=>?_;dsimp only [id])
   | (refine a0e (ma _) fun y=>?_;dsimp only [id])
   | (refine a0e a2c fun s=>?_;dsimp only [b2o];by_cases hp:s.pend.size > 1 <;> try simp only [hp,if_true,if_false])
   | refine a0e (a3y fun s=>rfl) fun _=>?_
   | (generalize Array.back? _=e;rcases e with _ | ⟨s1,n1,_⟩ <;> dsimp only)
   | (generalize getElem? (Array.mk _) _=e;rcases e with _ | ⟨s1,n1,b⟩ <;> dsimp only)
   | split
   | (refine a0e (a2y (F:=id) rfl fun i d=>?_) fun d=>?_ <;> obtain⟨r,d⟩:=d <;> cases r <;> try dsimp only [id])
end
end Tm
end L2
end
section
namespace L2
namespace Tm
open PySem PySem.W PySem.Spec PyProof.Rows
def places (q:Pk):List Nat:=(x0j q.n).map fun i=>(q.at' i).val
def idP (n:Nat):Pk:=Pk.ofF (fun i=>⟨i % 1024,Nat.mod_lt _ (by decide)⟩) n
def tsort (lt:Nat->Nat->Bool)(n:Nat):Option (List Nat):=(srM lt n ⟨idP n,#[],7⟩).map fun r=>places r.2.p
theorem a8t {it:Array Keyed}(q:Pk):mp it q=(places q).toArray.map (x2j it):=by
 unfold places;rw [List.map_toArray,x0V]
 rfl
theorem mp_id {it:Array Keyed}(h:it.size<=1024):mp it (idP it.size)=it:=by
 refine(a6F fun i=>?_).symm;rw [show(idP it.size).n=it.size from Pk.ofF_n _ _]
 by_cases c:i < it.size
 · rw [if_pos c,show(idP it.size).at' i=_ from Pk.ofF_at _ _ c];show it[i]?=some (x2j it (i % 1024));rw [Nat.mod_eq_of_lt (by omega)];unfold x2j;rw [Array.getD_eq_getD_getElem?,Array.getElem?_eq_getElem c];rfl
 · rw [if_neg c,x1C (by omega)]
def outB (ps:List Nat)(vs:List Value):List Value:=ps.map fun i=>vs.getD i x1T
section
variable {prog:x0A}{w:World}{A:Around}{E:Value->Shared->Prop}{s:Shared}
theorem a5n {ps:List Nat}{a:Addr}{vs:List Value}{n:Nat}{lt:Nat->Nat->Bool}{P:PySem.Fin->Shared->Prop}(ho:s.heap.get? a=some (seqObj "list" vs.toArray n))(l2:2<=vs.length)(hm:vs.length<=1000)(ht:tsort lt vs.length=some ps)(pl:ps.length=vs.length)
   (hk:∀h1,b0C s.heap h1 a->∃κ,(∀Q:x4h->Shared->Prop,Q κ { s with heap:=h1 }->wpAny (model prog w) A (keyKind' vs.toArray) Q E { s with heap:=h1 })/\∀i j (C:Bool->Shared->Prop),i < vs.length->j < vs.length->C (lt i j) { s with heap:=h1 }->kas_ask prog w A κ vs i j C { s with heap:=h1 })
   (h:∀h2 e,b0C s.heap h2 a->h2.get? a=some (seqObj "list" (outB ps vs).toArray e)->P (.done (.ret .none)) { s with heap:=h2 }):wpAny (model prog w) A (x4q.«list.sort» ⟨[.ref a],[]⟩) P E s:=by
 have ha:a < s.heap.objs.size:=x0l ho;have hsz:vs.toArray.size=vs.length:=by simp
 rw [list_sort_plain];refine x0b (listItems_at ho rfl ?_);refine x0b (listUpdate_at ho rfl ?_ (by rw [hsz,x2P];omega) (x1z _));obtain⟨e1,ho1⟩:∃e1,(s.heap.update a (x2b fun _=>(#[]:Array Value))).get? a=some (seqObj "list" #[] e1):=⟨_,get?_update_seq ho fun _=>#[]⟩;refine x0b (seqEpoch_at ho1 rfl ?_);refine x0b (wpAny_newTuple ?_ (by show vs.length<=_;rw [x2P];omega));refine x0b (wpAny_newList ?_ (x1z _));refine x1m ?_;show wpAny (model prog w) A _ P E { s with heap:=((s.heap.update a (x2b fun _=>(#[]:Array Value))).push (seqObj "tuple" vs.toArray 0)).push (seqObj "list" #[] 0) };have ho3:=x0c (seqObj "list" #[] 0) (x0c (seqObj "tuple" vs.toArray 0) ho1)
 have k3:b0C s.heap (((s.heap.update a (x2b fun _=>(#[]:Array Value))).push (seqObj "tuple" vs.toArray 0)).push (seqObj "list" #[] 0)) a:=fun b o hb e=>
   x0c _ (x0c _ (((x1W s.heap a (x2b fun _=>(#[]:Array Value))).2 b hb).trans e))
 generalize ((s.heap.update a (x2b fun _=>(#[]:Array Value))).push (seqObj "tuple" vs.toArray 0)).push (seqObj "list" #[] 0)=h3 at ho3 k3 ⊢;dsimp only
 have last:∀out:Array Value,out.size=vs.length->out=(outB ps vs).toArray->∃e,(h3.update a (x2b fun _=>out)).get? a=some (seqObj "list" (outB ps vs).toArray e)/\b0C s.heap (h3.update a (x2b fun _=>out)) a:=fun out _ eo=>
   ⟨_,by rw [<- eo];exact get?_update_seq ho3 fun _=>out,fun b o hb e=>((x1W h3 a (x2b fun _=>out)).2 b hb).trans (k3 b o hb e)⟩
 have h2:¬vs.toArray.size < 2:=by omega
 rw [if_neg h2,if_neg h2];obtain⟨κ,q1,q2⟩:=hk h3 k3;refine x0b (q1 _ ?_)
 have hA:Asks prog w A { s with heap:=h3 } κ (vs.toArray.zip vs.toArray) lt vs.length:=fun i j C hi hj c=>by
   have:=q2 i j C hi hj c;rw [kas_ask_eq] at this;exact this
 unfold tsort at ht;cases hr:srM lt vs.length ⟨idP vs.length,#[],7⟩ with
 | none=>rw [hr] at ht;cases ht
 | some r=>
 obtain⟨⟨⟩,sF⟩:=r;rw [hr] at ht;have ep:places sF.p=ps:=x0C ht;have hz:(vs.toArray.zip vs.toArray).size=vs.length:=by simp
 have st0:x3S κ (vs.toArray.zip vs.toArray) #[] 7 none=toSt κ (vs.toArray.zip vs.toArray) ⟨idP vs.length,#[],7⟩:=by
   unfold toSt;have:=mp_id (it:=vs.toArray.zip vs.toArray) (by omega);rw [hz] at this;show _=x3S κ (mp (vs.toArray.zip vs.toArray) (idP vs.length)) #[] 7 none;rw [this]
 have wp:=sim_sr (E:=E) hA _ _ _ hr (fun _ st'=>∃p:Array Nat,p.size=vs.length/\arrOf st'=p.map (x2j (vs.toArray.zip vs.toArray))/\failedOf st'=none/\p.toList=ps) ⟨ps.toArray,by rw [x0n,pl],by rw [<- ep];exact a8t sF.p,rfl,by simp⟩;rw [<- st0] at wp;refine x0b (x0S wp ?_ fun _ _ e=>e);rintro⟨⟨⟩,st'⟩ s' ⟨rfl,p,hp,har,hf,ep⟩;dsimp only
 have eo:(arrOf st').map (·.2)=(outB ps vs).toArray:=by
   rw [kat_snds rfl har,ep]
   rfl
 have so:((arrOf st').map (·.2)).size=vs.length:=by rw [eo];unfold outB;rw [x0n,x0g,pl]
 obtain⟨e,x1,x2⟩:=last _ so eo;refine x0b (seqEpoch_at ho3 rfl ?_);refine x0b (listUpdate_at ho3 rfl ?_ (x1z _) (by rw [so,x2P];omega));rw [hf];simp only [bne_self_eq_false,x1d,if_false];exact x0e (h _ e x2 x1)
theorem a3R {ps:List Nat}{v:Value}{vs:List Value}{lt:Nat->Nat->Bool}{Q:Value->Shared->Prop}(l2:2<=vs.length)(hm:vs.length<=1000)(ht:tsort lt vs.length=some ps)(pl:ps.length=vs.length)
   (hcol:∀(R:List Value->Shared->Prop),(∀h1 tk,(∀b o,s.heap.get? b=some o->h1.get? b=some o)->s.heap.objs.size<=h1.objs.size->R vs { s with heap:=h1,toks:=tk })->wpAny (model prog w) A.in1 (collect v) R E s)
   (hk:∀(A:Around) (E:Value->Shared->Prop) h1 tk,(∀b o,s.heap.get? b=some o->h1.get? b=some o)->∃κ,(∀Q:x4h->Shared->Prop,Q κ { s with heap:=h1,toks:=tk }->wpAny (model prog w) A (keyKind' vs.toArray) Q E { s with heap:=h1,toks:=tk })/\∀i j (C:Bool->Shared->Prop),i < vs.length->j < vs.length->C (lt i j) { s with heap:=h1,toks:=tk }->kas_ask prog w A κ vs i j C { s with heap:=h1,toks:=tk })
   (h:∀h2 tk D e,(∀b o,s.heap.get? b=some o->h2.get? b=some o)->s.heap.objs.size<=D->h2.get? D=some (seqObj "list" (outB ps vs).toArray e)->Q (.ref D) { s with heap:=h2,toks:=tk }) :
   wpAny (model prog w) A (call (.builtin "sorted") [v]) Q E s:=by
 refine Calls.call_function_entry kind_sorted plain_sorted entry_sorted (args_sorted1 _) ?_;unfold x4q.«sorted»;refine x0b (m:=checkCount "sorted" 1 1 _) (x0e ?_);refine x0b (hcol _ fun h1 tk k1 z1=>?_);refine x0b (wpAny_newList ?_ (by rw [x2P];omega));have hoL:(h1.push (seqObj "list" vs.toArray 0)).get? h1.objs.size=some (seqObj "list" vs.toArray 0):=x0p _ rfl;have kL:∀b o,s.heap.get? b=some o->(h1.push (seqObj "list" vs.toArray 0)).get? b=some o:=fun b o e=>x0c _ (k1 b o e);have ne:∀b o,s.heap.get? b=some o->b≠h1.objs.size:=fun b o e=>x0u (x0y (x0l e) z1);refine x0b (x1m (x0X slot_list_sort ⟨_,hoL,rfl⟩ entry_list_sort ?body (args_list_sort _)))
 case body=>
   refine a5n (lt:=lt) (s:={ s with heap:=h1.push (seqObj "list" vs.toArray 0),toks:=tk }) hoL l2 hm ht pl (fun h3 k3=>?_) fun h3 e k3 e3=>?_
   · exact hk _ _ h3 tk fun b o x=>k3 b o (ne b o x) (kL b o x)
   · exact⟨_,rfl,x0e ⟨_,rfl,h h3 tk _ e (fun b o x=>k3 b o (ne b o x) (kL b o x)) z1 e3⟩⟩
end
end Tm
end L2
end
section
namespace L2
open PySem PySem.W PySem.Spec PyProof.Rows Tm
section
variable {X:Cx}
def outW (ps:List Nat)(ys:List V):List V:=ps.map fun i=>ys.getD i .non
theorem a7q {ps:List Nat}{ys:List V}{vs:List Value}(r:Vals ys vs)(hm:∀i∈ps,i < vs.length):Vals (outW ps ys) (outB ps vs):=by
 unfold outW outB
 induction ps with
 | nil=>exact .nil
 | cons i is ih=>exact .cons (a1f r .non .none i (by rw [r.length];exact hm i x0h)) (ih fun j hj=>hm j (x0d _ hj))
theorem a5a:a1J X (.builtin "sorted") (fun xs H Q=>∃p ys m kss lt ps,xs=[.ref p]/\SqL X.K H p ys/\2<=ys.length/\ys.length<=1000/\(∀i j,i < ys.length->j < ys.length->lt i j=ltIx kss i j)/\tsort lt ys.length=some ps/\ps.length=ys.length/\(∀i∈ps,i < ys.length)/\Paired (KM X.K H m) ys kss/\b3s kss/\∀l,H l=none->Q (.ref l) (upd H l (.lst (outW ps ys)))):=by
 intro pins s σ H xs us Q I r h;obtain⟨p,ys,m,kss,lt,ps,rfl,hq,h2,hm,el,ht,pl,hi,hp,al,q⟩:=h;obtain⟨u,rfl,rx⟩:=a4w r;cases rx;obtain⟨its,r',pq,hz⟩:=I.list hq;have hlen:=r'.length;have pk:=kv1_of I m r' hp;rw [hlen] at h2 hm el ht pl hi;refine a3R (vs:=its) (lt:=lt) h2 hm ht pl (fun R hR=>?_) (fun A E h1 tk k=>let ⟨κ,q1,q2⟩:=a7H h2 pk al A E h1 tk k;⟨κ,q1,fun i j C hi hj c=>q2 i j C hi hj (by rw [<- el i j hi hj];exact c)⟩) fun h2 tk D e k hD ho=>?_
 · refine collect_list pq.isList (hR _ s.toks (fun b o e=>?_) ?_) (by omega)
   · have hlt:b < s.heap.objs.size:=x0l e;rw [Heap.get?_update_ne _ _ _ _ (x0u hlt)];exact x0c _ e
   · rw [Heap.size_update,size_push'];omega
 · have vo:=a7q (ps:=ps) r' hi
   have hl:(outW ps ys).length<=x0v:=by
     unfold outW;rw [x0g,pl,<- hlen];omega
   exact⟨.ref D,_,I.laid (t':=tk) k hD (show a0F X.prog X.w _ h2 _ (.lst (outW ps ys)) from⟨hl,_,e,vo,ho⟩),rfl,q _ (I.hok.fresh hD)⟩
end
end L2
namespace Pu
open PySem PySem.Spec L2 Tm
def a3Y (pe:pE):pA:=fun env n R=>pe env n fun x env1 n1=>match x with
 | .lst xs=>(2<=xs.length/\xs.length<=1000)/\a6G xs/\∃lt ps,(∀i j,i < xs.length->j < xs.length->lt i j=ltIx (xs.map keyP) i j)/\tsort lt xs.length=some ps/\ps.length=xs.length/\(∀i∈ps,i < xs.length)/\R (ps.map fun i=>xs.getD i .non) env1 n1
 | _=>False
section
variable {T:PotK}{ι:Type}{K:x0a}{F:ι->Cx}{e:Expr}{pe:pE}{pos:Pos}
theorem a7K {G:Gh}{H:Hp}{ps:List Nat}{xs:List PV}{us:List V}(r:Reps K G H xs us)(hm:∀i∈ps,i < xs.length):Reps K G H (ps.map fun i=>xs.getD i .non) (outW ps us):=by
 unfold outW
 induction ps with
 | nil=>exact rfl
 | cons i is ih=>exact⟨_,_,rfl,a7L r i (hm i x0h),ih fun j hj=>hm j (x0d _ hj)⟩
theorem a6Q {p:Pos}(hg:∀z,Gl (F z) "sorted")(hm:∀z,(F z).mg "sorted"=none)(ha:QR T K F e pe)(hs:a0w e=true:=by rfl)(hK:∀z,(F z).K=K:=by intro _;rfl):QN T K F (.Call (.Name "sorted" p) [e] [] pos) (a3Y pe):=by
 obtain⟨t,h1,h2⟩:=ha;refine⟨_,fun z=>a1W (hK z▸a5a) (hg z) (hm z) a9a (a0o (h1 z) a0M (a0c hs)) (by decide) (by decide) (a0c hs),fun C G σ H env n R Q hK hT S hp k=>?_⟩;refine a6i h2 hK hT S hp fun x env1 n1 v H1 p1 S1 r1 f1=>?_;have rd:RdV K G H1 x v:=hK▸r1.rd S1;cases x with
 | lst xs =>
   obtain⟨hl,so,q⟩:=p1;obtain⟨a,us,rfl,hq,r⟩:=rd.lst;obtain⟨m,pk,al⟩:=km_of r so;have lu:us.length=xs.length:=r.length.symm;obtain⟨lt,ps,el,ht,pl,pi,q⟩:=q;exact⟨a,us,m,xs.map keyP,lt,ps,rfl,hq,by omega,by omega,by rw [lu];exact el,by rw [lu];exact ht,by rw [lu];exact pl,by rw [lu];exact pi,pk,al,fun l hl=>k _ _ _ _ _ _ q S1 f1 hl (a7K r pi)⟩
 | _=>exact p1.elim
end
end Pu
end
section
namespace L2
open PySem PySem.Spec PyProof.Rows
theorem a3q {P:x0A}{w:World}{K:x0a}{tg:Expr}{J:It}{fp:List Addr}{it:Addr}{tn:Nat->Heap->Prop}{Y:Cx}{pins:List (Addr×Obj)}{W:Nat->Nat->St->Hp->Prop}{i n:Nat}{s5 s7:Shared}{σ7:St}{H7:Hp}(T:Turn P w K tg J fp it tn)(st5:tn (i + 1) s5.heap)(I7:Inv Y (pins++a2L fp s5.heap) σ7 H7 s7)(n7:∃m',m' < n/\W (i + 1) m' σ7 H7):∃m,m < n/\∃i σ' H',Inv Y pins σ' H' s7/\tn i s7.heap/\(∀b∈fp,H' b=none)/\W i m σ' H':=by
 obtain⟨m',hm,w7⟩:=n7;have pn:∀b∈fp,∀o,s5.heap.get? b=some o->_:=fun b hb o e=>I7.pin (b,o) (x0M _ (x0M _ (a1Y hb e)));refine⟨m',hm,i + 1,σ7,H7,I7.unpinned,T.keep _ _ _ st5 fun b hb o e=>(pn b hb o e).1,fun b hb=>?_,w7⟩;obtain⟨o,e,d⟩:=T.obj _ _ st5 b hb;exact(pn b hb o e).2.1
theorem a9m {Y:Cx}{pins:List (Addr×Obj)}{tg elt:Expr}{ifs:List Expr}{g:TG}{tt:TT}{te:TE}{J:It}{fp:List Addr}{it D:Addr}{tn:Nat->Heap->Prop}{W:Nat->Nat->St->Hp->Prop}{N:St->Hp->Prop}{Rn:Shared->Prop}(T:Turn Y.prog Y.w Y.K tg J fp it tn)(hc:Y.calm=true)(stat:∀{H':Hp},(∀b∈fp,H' b=none)->∀b∈fp,FpOk Y pins H' b)(hg:PG Y tg g)(hf:PIf Y ifs tt)(he:PE Y elt te)(fin:∀s σ H,Inv Y pins σ H s->N σ H->Rn s)
   (turn:∀i m σ' H',W i m σ' H'->(J.stop i H'/\N σ' H')\/(J.go i H'/\∀x H2,J.yld i H' x H2->g x σ' H2 fun σ3 H3=>tt σ3 H3 fun b H4=>
    if b=true then te σ3 H4 fun v H5=>∃ys,H5 D=some (.lst ys)/\ys.length < x0v/\∃m',m' < m/\W (i + 1) m' σ3 (upd H5 D (.lst (ys++[v])))
    else ∃m',m' < m/\W (i + 1) m' σ3 H4)) (n:Nat) (s:Shared) (hI:∃i σ' H',Inv Y pins σ' H' s/\tn i s.heap/\(∀b∈fp,H' b=none)/\W i n σ' H') :
   wpAny (model Y.prog Y.w) Y.A (pyNext (.ref it)) (fun r s₁=>match r with
     | none=>Rn s₁
     | some v=>wpAny (model Y.prog Y.w) Y.A (x1I tg (.ref it) v) (fun _ s₁'=>wpAny (model Y.prog Y.w) Y.A (assign tg Y.env v) (fun _ s₂=>
         wpAny (model Y.prog Y.w) Y.A (forIn ifs true fun c r=>if r=true then do let ok ← isTrue c Y.env (eval c Y.env);pure (x1y ok) else pure (x1y r)) (fun ok s₃=>
           if ok=true then wpAny (model Y.prog Y.w) Y.A (eval elt Y.env) (fun x s₄=>
             wpAny (model Y.prog Y.w) Y.A (call (.builtin "list.append") [.ref D,x]) (fun _ s₅=>∃m,m < n/\∃i σ' H',Inv Y pins σ' H' s₅/\tn i s₅.heap/\(∀b∈fp,H' b=none)/\W i m σ' H') Y.xe s₄) Y.xe s₃
           else ∃m,m < n/\∃i σ' H',Inv Y pins σ' H' s₃/\tn i s₃.heap/\(∀b∈fp,H' b=none)/\W i m σ' H') Y.xe s₂) Y.xe s₁') Y.xe s₁) Y.xe s:=by
 obtain⟨i,σ3,H3,I3,st3,fr3,w3⟩:=hI;rcases turn i n σ3 H3 w3 with⟨stop,qn⟩ | ⟨go,step⟩
 · refine thn (T.done Y rfl rfl rfl hc i pins s σ3 H3 Y.xe I3 (stat fr3) st3 stop) fun r s4 ⟨hr,I4⟩=>?_;subst hr;exact fin s4 σ3 H3 I4 qn
 · refine thn (T.item Y rfl rfl rfl hc i pins s σ3 H3 Y.xe I3 (stat fr3) st3 go) fun r s4 ⟨u,hr,h4⟩=>?_;subst hr;refine thn h4 fun _ s5 ⟨x,H5,I5,r5,y5,st5,fr5⟩=>?_;refine thn (hg _ s5 σ3 H5 x u _ (I5.pinned (stat fr5) (T.obj _ _ st5)) r5 (step x H5 y5)) fun _ s6 ⟨σ6,H6,I6,q6⟩=>?_;refine thn (hf _ s6 σ6 H6 _ I6 q6) fun ok s7 ⟨H7,I7,q7⟩=>?_;cases ok with
   | false=>exact a3q T st5 I7 q7
   | true =>
     refine thn (he _ s7 σ6 H7 _ I7 q7) fun y s8 ⟨v8,H8,I8,r8,ys,e8,z8,n8⟩=>?_;have ma:=a3g (X:=Y) _ s8 σ6 H8 (.ref D) [v8] (.ref D) [y] (fun v H9=>∃m',m' < n/\W (i + 1) m' σ6 H9) I8 rfl (.cons r8 .nil) ⟨_,ys,v8,rfl,rfl,e8,z8,n8⟩;exact thn ma fun _ s9 ⟨v9,H9,I9,_,q9⟩=>a3q T st5 I9 q9
theorem a5w {X:Cx}{scope:Scope}{cl:List (Str×Addr)}{N:List Str}{cs:List (Option Nat)}{elt t1 i1 t2 i2:Expr}{ifs:List Expr}{pos spos py:Pos}{wi1 wi2:TI}{g1 g2:TG}{tt:TT}{te:TE}{i:Nat}{y:Str}(hN:X.N.Nodup)(hiy:X.N[i]?=some y)(hy:Loc X.env.scope y)(S:a1a X scope cl N cs)(hc:X.calm=true)(hi:PI X t1 i1 wi1)
   (hb:∀(fp:List Addr) (C:Addr) (s:Shared) (H:Hp),PG (a0l X scope cl N fp C s H) t1 g1/\PI (a0l X scope cl N fp C s H) t2 i2 wi2/\PG (a0l X scope cl N fp C s H) t2 g2/\PIf (a0l X scope cl N fp C s H) ifs tt/\PE (a0l X scope cl N fp C s H) elt te)
   (hs2:∀fp C s H x,x0O i2 (a0l X scope cl N fp C s H).env x=pure x)
   (hsw:x3A (LC2 elt t1 i1 t2 i2 ifs scope pos) (some (.Name y py)) spos.line X.env=pure true:=by rfl)
   (hs:∀x,x0O i1 X.env x=pure x:=by intro _;rfl) (hff:X.fn y=true\/X.env.scope.names.lookup y=some .local:=by first | exact .inl rfl | exact .inr rfl | assumption) :
   PS X (.Assign [.Name y py] (LC2 elt t1 i1 t2 i2 ifs scope pos) spos) (tAsg (b0E cs wi1 g1 wi2 g2 tt te) (a1I i)):=by
 have bn:∀(M:Model) (A:Around) (v:Value) (Q:Unit->Shared->Prop) (E:Value->Shared->Prop) (s:Shared),wpAny M A (storeName X.env y v) Q E s->wpAny M A (assign (.Name y py) X.env v) Q E s:=fun M A v Q E s h=>wpAny_assign_Name h;intro pins s σ H DD I h;rw [exec_Assign_Name_used _ _ _ _ hsw];refine x0b (x1M (x0b ?_));show wpAny _ _ (do let _ ← comprehension (LC2 elt t1 i1 t2 i2 ifs scope pos) scope X.env _ (newList []) false (eval i1 X.env) (some (assign (.Name y py) X.env))) _ _ s;refine x0b (x0S (Q:=fun _ s'=>SP X pins DD .next s') ?_ (fun _ s' hq=>x0e (x0e hq)) fun _ _ e=>e);refine x2V (use:=some (assign (.Name y py) X.env)) rfl hs S.clos S.kind S.names (thn (hi pins s σ H _ I h) fun v s1 h1=>thn h1 fun itv s2 h2=>?_);obtain⟨it,fp,tn,J,H2,rfl,I2,T,st2,f2,q⟩:=h2
 have ho:∀b∈fp,∃o,s2.heap.get? b=some o:=fun b hb=>by
   obtain⟨o,e,_⟩:=T.obj 0 _ st2 b hb;exact⟨o,e⟩
 refine x0F (wpAny_newFunctionEnv S.nocell (by intro y hy;simp at hy) (fun h₁ hns₁ hsb₁=>?_) S.kind);dsimp only at hns₁ hsb₁ ⊢;have hC:(s2.heap.push { cls:=.type "list",dict:=none,data:=.seq ([]:List Value).toArray }).objs.size=s2.heap.objs.size + 1:=by rw [x2g]
 generalize hH2:s2.heap.push { cls:=.type "list",dict:=none,data:=.seq ([]:List Value).toArray }=hp2 at hns₁ hsb₁ hC ⊢;have old:∀b o,s2.heap.get? b=some o->h₁.get? b=some o:=fun b o e=>hsb₁.extBut b o (by rw [hC];exact x0u (x1p (x0l e))) (x0c _ (hH2▸x0c _ e));have hD:h₁.get? s2.heap.objs.size=some { cls:=.type "list",data:=.seq ([]:List Value).toArray }:=hsb₁.extBut _ _ (by rw [hC];exact x0u (Nat.lt_succ_self _)) (x0c _ (hH2▸x0p _ rfl));rw [hC] at hns₁ ⊢;obtain⟨W,⟨m0,w0⟩,turn⟩:=q s2.heap.objs.size I2.fresh;have Ic:=a4m S (tk:=s2.toks + ([]:List (Str×Value)).length) I2 f2 ho old hns₁ hD;have nstk:∀b,b≠X.env.locals->b∉X.fs->b∉frs X.stack:=fun b h1 h2 hb=>(x0s.mp (I2.stkSub b hb)).elim h1 h2
 have stat:∀{H':Hp},(∀b∈fp,H' b=none)->∀b∈fp,FpOk (a0l X scope cl N fp (s2.heap.objs.size + 1) s2 H2) pins H' b:=fun hn b hb=>by
   obtain⟨o,e⟩:=ho b hb;exact⟨hn b hb,x0u (x1p (x0l e)),nstk b (f2 b hb).2.1 (f2 b hb).2.2.1,.inl hb,fun x c ec=>(f2 b hb).2.2.2.2.1 x c (S.sub x c ec),(f2 b hb).2.2.2.2.2⟩
 obtain⟨hg,hi2,hg2,hf,he⟩:=hb fp (s2.heap.objs.size + 1) s2 H2;have st1:tn 0 h₁:=T.keep _ _ _ st2 fun b hb o e=>old b o e
 have fr1:∀b∈fp,upd H2 s2.heap.objs.size (.lst []) b=none:=fun b hb=>by
   obtain⟨o,e⟩:=ho b hb;rw [a0f (x0u (x0l e))];exact(f2 b hb).1
 have loop:∀s₃:Shared,s₃={ s2 with heap:=h₁,toks:=s2.toks + ([]:List (Str×Value)).length }->
     x2J (model X.prog X.w) X.A (.compLoop (LC2 elt t1 i1 t2 i2 ifs scope pos) 0 (.ref it) (.ref s2.heap.objs.size) (compEnvC scope cl (s2.heap.objs.size + 1) X.env))
       (compPost (model X.prog X.w) X.A X.xe (some (assign (.Name y py) X.env)) (fun _ s'=>SP X pins DD .next s') (.ref s2.heap.objs.size) (s2.heap.objs.size + 1)) s₃:=by
   rintro s₃ rfl;refine b0Y (hs2 fp (s2.heap.objs.size + 1) s2 H2) (fun n s'=>∃i σ' H',Inv (a0l X scope cl N fp (s2.heap.objs.size + 1) s2 H2) pins σ' H' s'/\tn i s'.heap/\(∀b∈fp,H' b=none)/\W i n σ' H') ?_ m0 ⟨0,_,_,Ic,st1,fr1,w0⟩;rintro n s3 ⟨i,σ3,H3,I3,st3,fr3,w3⟩;rcases turn i n σ3 H3 w3 with⟨stop,qn⟩ | ⟨go,step⟩
   · refine thn (T.done (a0l X scope cl N fp (s2.heap.objs.size + 1) s2 H2) rfl rfl rfl hc i pins s3 σ3 H3 (fun _ _=>False) I3 (stat fr3) st3 stop) fun r s4 ⟨hr,I4⟩=>?_;subst hr;obtain⟨m4,hn4,_⟩:=I4.loc;have I5:Inv X pins σ H3 s4:=Inv.uncomp (h':=s4.heap) I2 f2 I4 fun b hb=>rfl;have oldne:∀b o,s2.heap.get? b=some o->b≠s2.heap.objs.size + 1:=fun b o e=>x0u (x1p (x0l e));have locne:X.env.locals≠s2.heap.objs.size + 1:=x0u (x1p I2.lt)
     have cellne:∀x c,X.env.cells.lookup x=some c->c≠s2.heap.objs.size + 1:=fun x c e=>by
       obtain⟨v,o,h1,_⟩:=I2.cell x c e;exact oldne c o h1
     refine bn _ _ _ _ _ _ (a4A I5 hN hiy hy (v:=.ref s2.heap.objs.size) rfl (fun s6 I6 ⟨a6,sb6,ha6⟩=>?_) hff)
     have ane:s2.heap.objs.size + 1≠a6:=by
       rcases ha6 with rfl | ha6
       · exact Ne.symm locne
       · exact Ne.symm (cellne _ _ ha6)
     refine⟨m4,hn4.sameBut sb6 ane,fun h' hs'=>⟨_,H3,?_,qn⟩⟩;have hs7:∀b,b≠s2.heap.objs.size + 1->h'.get? b=s6.heap.get? b:=fun b hb=>hs'.2 b hb;have U0:Un (frs X.stack) [s2.heap.objs.size + 1] H3 H3 s6.heap s6.heap:=Un.refl
     have trC:∀b u,H3 b=some u->b≠s2.heap.objs.size + 1:=fun b u e z=>by
       have q:H3 (s2.heap.objs.size + 1)=none:=I4.free;rw [z,q] at e;cases e
     obtain⟨hh6,g6,d6,t6,os6⟩:=s6;refine I6.call (h':=h') (g':=g6) (d':=d6) (t':=t6) (ch:=[s2.heap.objs.size + 1]) ⟨fun b o e n hb hx=>?_,fun b o e n hb hx=>?_,U0.free,fun b o e hx=>?_,U0.tups,U0.frzs,U0.tbls,U0.sys⟩ (fun b u e=>?_) I6.bare fun b hb=>?_
     · have hb':b≠s2.heap.objs.size + 1:=fun z=>hx (by rw [z];exact x1c.mpr rfl);rw [hs7 b hb'];exact U0.keep b o e n hb hx
     · have hb':b≠s2.heap.objs.size + 1:=fun z=>hx (by rw [z];exact x1c.mpr rfl);rw [hs7 b hb'];exact U0.slot b o e n hb hx
     · have hb':b≠s2.heap.objs.size + 1:=fun z=>hx (by rw [z];exact x1c.mpr rfl);rw [hs7 b hb'];exact U0.there b o e hx
     · refine(I6.hok b u e).stay (fun c v hc q=>?_) (fun _ q=>q) fun _ _ q=>q
       have ne:c≠s2.heap.objs.size + 1:=by
         rcases hc with z | z
         · rw [z];exact trC b u e
         · exact trC c _ z
       rw [hs7 c ne];exact q
     · rw [x1c.mp hb];refine⟨.inr (Nat.le_succ_of_le I2.sz),Ne.symm locne,cellne,fun p hp=>?_⟩;exact oldne _ _ (I2.pin p hp).1
   · refine thn (T.item (a0l X scope cl N fp (s2.heap.objs.size + 1) s2 H2) rfl rfl rfl hc i pins s3 σ3 H3 (fun _ _=>False) I3 (stat fr3) st3 go) fun r s4 ⟨u,hr,h4⟩=>?_;subst hr;refine thn h4 fun _ s5 ⟨x,H5,I5,r5,y5,st5,fr5⟩=>?_;have I5':=I5.pinned (stat fr5) (T.obj _ _ st5);refine thn (hg _ s5 σ3 H5 x u _ I5' r5 (step x H5 y5)) fun _ s6 ⟨σ6,H6,I6,q6⟩=>?_;refine thn (hi2 _ s6 σ6 H6 _ I6 q6) fun v7 s7 h7=>thn h7 fun itv s8 h8=>?_;obtain⟨it2,fp2,tn2,J2,H8,rfl,I8,T2,st8,f8,W2,⟨m2,w2⟩,turn2⟩:=h8;have stat2:∀{H':Hp},(∀b∈fp2,H' b=none)->∀b∈fp2,FpOk (a0l X scope cl N fp (s2.heap.objs.size + 1) s2 H2) (pins++a2L fp s5.heap) H' b:=fun hn b hb=>⟨hn b hb,(f8 b hb).2⟩
     have inner:x2J (model X.prog X.w) X.A (.compLoop (LC2 elt t1 i1 t2 i2 ifs scope pos) 1 (.ref it2) (.ref s2.heap.objs.size) (compEnvC scope cl (s2.heap.objs.size + 1) X.env)) (fun r s'=>r=.ok .next/\∃m,m < n/\∃i σ' H',Inv (a0l X scope cl N fp (s2.heap.objs.size + 1) s2 H2) pins σ' H' s'/\tn i s'.heap/\(∀b∈fp,H' b=none)/\W i m σ' H') s8:=by
       exact b0Z _ (a9m (Y:=a0l X scope cl N fp (s2.heap.objs.size + 1) s2 H2) T2 hc stat2 hg2 hf he (fun s10 σ9 H9 I10 qn2=>⟨rfl,a3q T st5 I10 qn2⟩) turn2) m2 ⟨0,σ6,H8,I8,st8,fun b hb=>(f8 b hb).1,w2⟩
     exact a7G inner (T2.self _ 0 _ _ _ st8 inner)
 exact x3n (loop _ rfl) (T.self _ 0 _ _ _ st1 (loop _ rfl))
end L2
end
section
namespace Pu
open PySem PySem.Spec L2
section
variable {T:PotK}{ι:Type}{K:x0a}{F:ι->Cx}{pg1 pg2:pG}{pos:Pos}
theorem a9G {scope:Scope}{cl:ι->List (Str×Addr)}{N:List Str}{cs:List (Option Nat)}{elt t1 i1 t2 i2:Expr}{ifs:List Expr}{pi1 pi2:pA}{ptt:pT}{pte:pE}(S:∀z,a1a (F z) scope (cl z) N cs)(hc:∀z,(F z).calm=true)(hi:QI T K F t1 i1 pi1)
   (hg:QG K (fun y:ι×List Addr×Addr×Shared×Hp=>a0l (F y.1) scope (cl y.1) N y.2.1 y.2.2.1 y.2.2.2.1 y.2.2.2.2) t1 pg1)
   (hi2:QI T K (fun y:ι×List Addr×Addr×Shared×Hp=>a0l (F y.1) scope (cl y.1) N y.2.1 y.2.2.1 y.2.2.2.1 y.2.2.2.2) t2 i2 pi2)
   (hg2:QG K (fun y:ι×List Addr×Addr×Shared×Hp=>a0l (F y.1) scope (cl y.1) N y.2.1 y.2.2.1 y.2.2.2.1 y.2.2.2.2) t2 pg2)
   (ht:QIf T K (fun y:ι×List Addr×Addr×Shared×Hp=>a0l (F y.1) scope (cl y.1) N y.2.1 y.2.2.1 y.2.2.2.1 y.2.2.2.2) ifs ptt)
   (he:QE T K (fun y:ι×List Addr×Addr×Shared×Hp=>a0l (F y.1) scope (cl y.1) N y.2.1 y.2.2.1 y.2.2.2.1 y.2.2.2.2) elt pte)
   (hs:∀z x,x0O i1 (F z).env x=pure x:=by intro _ _;rfl) (hs2:∀z fp C s H x,x0O i2 (a0l (F z) scope (cl z) N fp C s H).env x=pure x:=by intro _ _ _ _ _ _;rfl):QNC T K F (LC2 elt t1 i1 t2 i2 ifs scope pos) (a4I cs pi1 pg1 pi2 pg2 ptt pte):=by
 obtain⟨wi,i1',i2'⟩:=hi;obtain⟨g,hg0,hg⟩:=hg;obtain⟨wj,j1,j2⟩:=hi2;obtain⟨g2,hg20,hg2⟩:=hg2;obtain⟨tt,ht0,ht⟩:=ht;obtain⟨te,he0,he⟩:=he;refine⟨_,fun z=>a6h (S z) (hc z) (i1' z) (fun fp C s H=>⟨hg0 (z,fp,C,s,H),j1 (z,fp,C,s,H),hg20 (z,fp,C,s,H),ht0 (z,fp,C,s,H),he0 (z,fp,C,s,H)⟩) (hs2 z) (hs z),fun z i y py spos hN hi hy hsw hf=>a5w hN hi hy (S z) (hc z) (i1' z) (fun fp C s H=>⟨hg0 (z,fp,C,s,H),j1 (z,fp,C,s,H),hg20 (z,fp,C,s,H),ht0 (z,fp,C,s,H),he0 (z,fp,C,s,H)⟩) (hs2 z) hsw (hs z) hf,fun C G σ H env n R Q hK hT S hp k=>?_⟩;refine i2' C G σ H env n _ _ hK hT S hp fun xs env1 n1 J H1 p1 S1 f1 hJ=>?_;intro D hD;have hDM:=S1.fresh hD;refine a6y (G:=G) hg j2 hg2 ht he hJ p1.1 hD (hT▸hK▸a5K S1 cs) p1.2 fun ys n2 us H' rr hpots hk eD ry=>?_;have nD:∀b o,H1 b=some o->b≠D:=fun b o e z=>by rw [z,hD] at e;cases e
 have hk2:∀b o,b∉G.pots->H1 b=some o->cutH H' D b=some o:=fun b o hb e=>by rw [a0V (nD b o e)];exact hk b o hb e
 have nc:∀b,b∉D::G.M->b≠D:=fun b hb z=>hb (by rw [z];exact x0h);have np:∀p∈G.pots,p≠D:=fun p hp z=>hDM (z▸(S1.pots p hp).1)
 have Sb:SR C G σ (cutH H' D) env1 n2:=S1.call hk2 fun p hp=>by
   subst hT;have h2:=C.T.keep (hpots p hp) (H':=cutH H' D) (a0V (np p hp)) fun b o hb e=>by rw [a0V (nc b hb)];exact e
   exact C.T.more h2 fun a ha=>.inl (x0d _ ha)
 have:=k ys env1 n2 D us (cutH H' D) rr Sb (f1.trans fun b o hb e=>hk2 b o (fun z=>hb (S1.pots b z).1) e) (by unfold cutH;rw [if_pos rfl]) ?_
 · rw [a3O eD] at this;exact this
 · exact Reps.mono (G:=⟨D::G.M,G.pots⟩) (fun b o hb e=>by rw [a0V (nc b hb)];exact e) (fun a ha=>.inl (x0d _ ha)) (fun _ _ e=>e) _ _ ry
end
end Pu
end
section
namespace Pu
open PySem PySem.Spec L2
def Lent (σ:St)(env:Env)(a:Addr):Prop:=∃(i:Nat) (k:OK) (xs:List PV),env[i]?=some (some (.ow k xs))/\σ[i]?=some (some (.ref a))
open Classical in
noncomputable def a1o (σ:St) (env:Env) (M:List Addr):List Addr:=M.filter fun a=>decide (¬Lent σ env a)
open Classical in
theorem a0G {σ:St}{env:Env}{M:List Addr}{a:Addr}:a∈a1o σ env M↔a∈M/\¬Lent σ env a:=by
 unfold a1o;rw [x1U];constructor
 · rintro⟨h1,h2⟩;exact⟨h1,of_decide_eq_true h2⟩
 · rintro⟨h1,h2⟩;exact⟨h1,decide_eq_true h2⟩
section
variable {C:Ct}{G:Gh}{σ:St}{H H':Hp}{env env':Env}{n n':Nat}
theorem SR.lendM (S:SR C G σ H env n):SR ⟨C.K,C.T,a1o σ env G.M,G.pots,H,C.np⟩ ⟨a1o σ env G.M,G.pots⟩ σ H (frz env) n where
 frame _ _ _ e:=e
 sub a ha:=.inl ha
 sup a ha:=ha
 pots p hp:=by
   refine⟨a0G.mpr ⟨(S.pots p hp).1,fun⟨i,k,xs,e1,e2⟩=>?_⟩,C.T.more (S.pots p hp).2 fun b hb=>.inl (a0G.mp hb).1⟩;obtain⟨a,vs,ev,_,_,h3,_⟩:=S.slots i _ e1;rw [e2] at ev;cases ev;exact h3 hp
 pre:=⟨[],(x1x _).symm,.inl rfl⟩
 mu a ha:=S.mu a (a0G.mp ha).1
 slots i s e:=by
   have mm:∀{x:PV} {v:V},Rep C.K G H x v->Rep C.K ⟨a1o σ env G.M,G.pots⟩ H x v:=fun r=>Rep.mono (G':=⟨a1o σ env G.M,G.pots⟩) (fun _ _ _ e=>e) (fun b hb=>.inl (a0G.mp hb).1) (fun _ _ e=>e) _ _ r;have mms:∀{x:List PV} {v:List V},Reps C.K G H x v->Reps C.K ⟨a1o σ env G.M,G.pots⟩ H x v:=fun r=>Reps.mono (G':=⟨a1o σ env G.M,G.pots⟩) (fun _ _ _ e=>e) (fun b hb=>.inl (a0G.mp hb).1) (fun _ _ e=>e) _ _ r;unfold frz at e;rw [x0r] at e;cases h:env[i]? with
   | none=>rw [h] at e;cases e
   | some o =>
     rw [h] at e;cases o with
     | none=>cases e
     | some t =>
       have q:=S.slots i t h;have e':frzS t=some s:=by simpa using e
       cases t with
       | v x =>
         cases e';obtain⟨v,e1,r⟩:=q;exact⟨v,e1,mm r⟩
       | ow k xs =>
         obtain⟨a,vs,ev,h1,h2,h3,h4,r⟩:=q;have na:a∉a1o σ env G.M:=fun z=>(a0G.mp z).2 ⟨i,k,xs,h,ev⟩;cases k with
         | lst=>cases e';exact⟨.ref a,ev,a,vs,rfl,⟨na,h4⟩,mms r⟩
         | dk ks =>
           have e':(if ks.length=xs.length then some (Slot.v (.dct ks xs)) else none)=some s:=e'
           split at e'
           · rename_i hl;cases e';have hlv:ks.length=vs.length:=by rw [hl];exact r.length
             refine⟨.ref a,ev,a,ks.zip vs,rfl,na,h4,x2N (x2d hlv),?_⟩;rw [x3J (x2d hlv.symm)];exact mms r
           · cases e'
         | dt ks=>cases e'
         | st ks=>cases e'
 inj:=S.lend.inj
 p0:=⟨fun p hp=>by
   refine a0G.mpr ⟨(S.pots p hp).1,fun⟨i,k,xs,e1,e2⟩=>?_⟩;obtain⟨a,vs,ev,_,_,h3,_⟩:=S.slots i _ e1;rw [e2] at ev;cases ev
   exact h3 hp,S.hasG⟩
 len:=by unfold frz;rw [x0g];exact S.len
 newp p hp h:=absurd hp h
theorem SR.backM (hT:b3p C.T)(S:SR C G σ H env n)(S':SR ⟨C.K,C.T,a1o σ env G.M,G.pots,H,C.np⟩ ⟨a1o σ env G.M,G.pots⟩ σ H' env' n'):SR C G σ H' env n':=
 S.call (fun b o hb e=>S'.frame b o hb e) fun p hp=>hT _ _ _ _ _ (S'.pots p hp).2 fun a ha=>by
   by_cases h:a∈G.pots
   · exact .inl (a0G.mpr ⟨ha,fun⟨i,k,xs,e1,e2⟩=>by
       obtain⟨b,vs,ev,_,_,h3,_⟩:=S.slots i _ e1;rw [e2] at ev;cases ev
       exact h3 h⟩)
   · obtain⟨o,e,m⟩:=S.mu a ha;exact .inr ⟨o,S'.frame a o h e,m⟩
end
def lsts (env:Env):Prop:=∀(i:Nat) (xs:List PV),env[i]?=some (some (.ow .lst xs))->∃l r,xs=.lst l::r
def a6d (pe:pE):pE:=fun env n R=>lsts env/\pe (frz env) n fun x env' n'=>match x with
 | .lst (.tup y::ys)=>noMut (.tup y)=true/\a1R ys=true/\R x env n'
 | _=>False
section
variable {T:PotK}{ι:Type}{K:x0a}{F:ι->Cx}{e:Expr}{pe:pE}
theorem a6b (hT:b3p T)(h:QE T K F e pe):QE T K F e (a6d pe):=by
 obtain⟨t,h1,h2⟩:=h;refine⟨t,h1,fun C G σ H env n R Q hK hT' S hp k=>?_⟩;obtain⟨hl,hp⟩:=hp;refine h2 ⟨C.K,C.T,a1o σ env G.M,G.pots,H,C.np⟩ ⟨a1o σ env G.M,G.pots⟩ σ H (frz env) n _ _ hK hT' S.lendM hp fun x env' n' v H' r S' rp f=>?_;have S2:=S.backM (by rw [hT'];exact hT) S'
 split at r
 · rename_i y ys;obtain⟨r1,r2,r3⟩:=r;obtain⟨b,vs,rfl,⟨nb,hb⟩,rs⟩:=rp
   have bM:b∉G.M:=fun z=>by
     have le:Lent σ env b:=Classical.byContradiction fun w=>nb (a0G.mpr ⟨z,w⟩);obtain⟨i,kk,zs,e1,e2⟩:=le;obtain⟨a,us,ev,g1,g2,g3,g4,rz⟩:=S.slots i _ e1;rw [e2] at ev;cases ev;have hb':=S'.frame b _ g3 g4;have hb:H' b=some (.lst vs):=hb;rw [hb] at hb';cases kk with
     | lst =>
       have eu:vs=us:=by
         have:HO.lst vs=HO.lst us:=x0C hb';cases this;rfl
       subst eu;obtain⟨l,r',rfl⟩:=hl i zs e1;obtain⟨u,t',rfl,ru,_⟩:=rz;obtain⟨u',t'',eq,ru',_⟩:=rs;cases eq;obtain⟨c,ws,rfl,⟨nc,hc⟩,_⟩:=ru;obtain⟨c',ws',eq',⟨_,hc'⟩,_⟩:=ru';cases eq';have:=S'.frame c _ (fun w=>nc (S.pots c w).1) hc;rw [show H' c=some (.tup ws') from hc'] at this;cases this
     | dk ks=>cases hb'
     | dt ks=>cases hb'
     | st ks=>cases hb'
   refine k _ _ _ _ _ r3 S2 ⟨b,vs,rfl,⟨bM,hb⟩,?_⟩ fun b o hb e=>S'.frame b o (fun z=>hb (S.pots b z).1) e
   have nm:a1R (.tup y::ys)=true:=by
     show(noMut (.tup y) && a1R ys)=true;rw [r1,r2];rfl
   subst hK;exact Reps.noMut S2.mu _ _ nm rs
 · exact r.elim
end
end Pu
end
section
namespace L2
open PySem PySem.Spec PyProof.Rows
section
variable {prog:x0A}{w:World}{A:Around}{E:Value->Shared->Prop}{s:Shared}
section
variable {b1 b2:Bool}{z TI TO i1 i2 l1 l2:Addr}{xs ys:Array Value}{ps:List Addr}
abbrev lstO (ps:List Addr)(c:Nat):Obj:={ cls:=.type "list",dict:=none,data:=.seq (ps.map x0I).toArray c,slots:=#[] }
end
end
end L2
end
section
namespace L2
open PySem PySem.Spec PyProof.Rows
section
variable {prog:x0A}{w:World}{A:Around}{E:Value->Shared->Prop}{s:Shared}
theorem a4R:typeLookup (.type "list") "keys"=pure none:=by rw [typeLookup_type,builtinLookup_eq_fast];kernel_rfl
theorem noKeys {a:Addr}{xs:Array Value}{k:Nat}{Q:Option Value->Shared->Prop}(hx:s.heap.get? a=some { cls:=.type "list",dict:=none,data:=.seq xs k,slots:=#[] })(hA:A.handled=none)
   (h:∀h' tk,(∀c o,s.heap.get? c=some o->h'.get? c=some o)->Q none { s with heap:=h',toks:=tk }) :
   wpAny (model prog w) A (getAttr? (.ref a) "keys") Q E s:=by
 obtain⟨hp,g,d,tk,os⟩:=s;have hT:∀tk',(⟨hp,g,d,tk',os⟩:Shared).TypeIs (.ref a) "list":=fun _=>⟨_,hx,rfl⟩;have f1:=sub_AttributeError;have f3:=F.slot_list_getattribute.lookup;have f4:=F.slot_list_getattribute.bind (.ref a);have f5:=am_list_getattr_none;unfold getAttr? getAttrBy? getAttrBy
 repeat (any_goals (first | assumption | exact hT _ | ((with_reducible show wpAny _ _ (call (Value.builtin "list.__getattribute__") _ _) _ _ _);refine call_meets F.slot_list_getattribute (hT _) am_entry_list_getattribute (F.args_list_getattribute_2 _ _) (meets_getattribute_miss_list a xs k #[] "keys" _ a4R (by decide) (by size_fits)) ⟨hx,hA,fun h' tk' e hx'=>?_⟩) | wp_step))
 obtain⟨t',u',he⟩:=hx'.there;show wpAny _ _ (getattributeRaised _ _ _ _ _ _ _) _ _ _;unfold getattributeRaised
 repeat (any_goals (first | assumption | wp_step))
 exact h _ _ hx'.keeps
theorem a4Y:entryFor table "dict.update.loop"=some x4q.«dict.update.loop»:=entryFor_of_tree (by kernel_rfl)
theorem a2o:plainId "dict.update.loop"=true:=by decide +kernel
end
end L2
end
section
namespace L2
open PySem PySem.Spec PyProof.Rows
section
variable {prog:x0A}{w:World}{A:Around}{E:Value->Shared->Prop}{s:Shared}
def a5O (h:Heap)(p:Addr)(x y:Value):Prop:=∃o n,h.get? p=some o/\o.cls=.type "tuple"/\o.data=.seq #[x,y] n
theorem a5O.keep {h h':Heap}{p:Addr}{x y:Value}(q:a5O h p x y)(k:∀o,o.cls=.type "tuple"->h.get? p=some o->h'.get? p=some o):a5O h' p x y:=by
 obtain⟨o,n,e,c,d⟩:=q;exact⟨o,n,k o c e,c,d⟩
theorem a3Q {κ:Type}[DecidableEq κ]{knd:KeyKind prog w κ}{h h':Heap}{k:List κ}{a:Addr}(q:(x1w knd).is h k a)(kp:∀o,o.cls=.type "tuple"->h.get? a=some o->h'.get? a=some o):(x1w knd).is h' k a:=by
 obtain⟨o,its,n,e,c,d⟩:=q;exact⟨o,its,n,kp o c e,c,d⟩
section
variable {κ:Type}[DecidableEq κ]{knd:KeyKind prog w κ}{ps:List Addr}{qs:List (List κ×Addr×Value)}
def a3n (qs:List (List κ×Addr×Value)):List (List κ×Addr×Value):=qs.foldl (fun xs q=>storedH xs q.1 q.2.1 q.2.2) []
theorem a7F (xs:List (List κ×Addr×Value))(k:List κ)(a:Addr)(v:Value):(storedH xs k a v).length<=xs.length + 1:=by
 unfold storedH
 split
 · rw [x0g];omega
 · rw [x0q];simp
theorem a6s (qs:List (List κ×Addr×Value)):(a3n qs).length<=qs.length:=by
 have:∀(qs xs:List (List κ×Addr×Value)),(qs.foldl (fun xs q=>storedH xs q.1 q.2.1 q.2.2) xs).length<=xs.length + qs.length:=by
   intro qs
   induction qs with
   | nil=>intro xs;simp
   | cons q qs ih =>
     intro xs;have h1:=ih (storedH xs q.1 q.2.1 q.2.2);have h2:=a7F xs q.1 q.2.1 q.2.2;rw [x3k,x0B];omega
 have h:=this qs []
 simpa [a3n] using h
theorem a7c {i:Nat}{q:List κ×Addr×Value}(h:qs[i]?=some q):a3n (qs.take (i + 1))=storedH (a3n (qs.take i)) q.1 q.2.1 q.2.2:=by
 unfold a3n;rw [x2h,h,x3t]
 rfl
theorem a8R {R:Result->Shared->Prop}(hh:A.handled=none)(hu:A.units + 1 < cLine){D it L:Addr}{c:Nat}(nD:D≠it)(nL:D≠L)(nL2:it≠L)(hl:ps.length<=1000)(lq:qs.length=ps.length) :
   ∀(m i:Nat) (s:Shared),ps.length - i=m->i<=ps.length->s.heap.IsListIter it L i->s.heap.get? L=some (lstO ps c)->
   (∀(j:Nat) (p:Addr),ps[j]?=some p->∃q,qs[j]?=some q/\a5O s.heap p (.ref q.2.1) q.2.2/\(x1w knd).is s.heap q.1 q.2.1)->s.heap.DictOfH (x1w knd) D (a3n (qs.take i))->
   (∀h' tk,h'.DictOfH (x1w knd) D (a3n qs)->(∀c o,c≠D->c≠it->s.heap.get? c=some o->h'.get? c=some o)->R (.ok (.ret .none)) { s with heap:=h',toks:=tk })->
   x2J (model prog w) A (.builtin "dict.update.loop" ⟨[.ref D,.ref it,rawInt i,.none],[]⟩) R s:=by
 have sl:(1000:Nat)<=x0v:=by decide
 have itn:∀(s:Shared) (i:Nat),s.heap.IsListIter it L i->∀a o,o.cls=.type "tuple"->s.heap.get? a=some o->a≠it:=by
   intro s i hit a o hc e z;obtain⟨o',e',hc',_⟩:=hit;rw [z,e'] at e;cases e;rw [hc'] at hc;exact absurd (x4k hc) (by decide)
 have dkeep:∀{h h':Heap} {xs:List (List κ×Addr×Value)},h.DictOfH (x1w knd) D xs->(∀c o,c≠it->h.get? c=some o->h'.get? c=some o)->(∀a o,o.cls=.type "tuple"->h.get? a=some o->a≠it)->h'.DictOfH (x1w knd) D xs:=by
   intro h h' xs dd k1 nt;obtain⟨o,es,ep,e1,e2,e3,e4,e5,e6⟩:=dd;exact⟨o,es,ep,k1 _ _ nD e1,e2,e3,e4,fun x hx=>a3Q (e5 x hx) fun o c e=>k1 _ _ (nt _ o c e) e,e6⟩
 intro m
 induction m with
 | zero =>
   intro i s hm hi hit hL hp hD hR;refine codeAny_builtin a4Y ?_;rw [Around.under_plainId a2o _];show wpAny _ A.in1 (pyNext (.ref it)>>=_) _ _ s;have isL:s.heap.IsList L (ps.map x0I).toArray:=⟨_,hL,rfl,_,rfl⟩;refine x0b (wpAny_pyNext_list_end hh hit isL (x1C (by simp;omega)) fun h' k=>?_);show wpAny _ A.in1 (Builtin.Dict.addKeywords D []>>=_) _ _ _;refine x0b (x0e (x0e ?_));rw [x2z (by omega)] at hD;exact hR h' s.toks (dkeep hD (fun c o hc e=>k c o hc e) (itn s i hit)) fun c o _ c2 e=>k c o c2 e
 | succ m ih =>
   intro i s hm hi hit hL hp hD hR;have hlt:i < ps.length:=by omega
   refine codeAny_builtin a4Y ?_;rw [Around.under_plainId a2o _];show wpAny _ A.in1 (pyNext (.ref it)>>=_) _ _ s;have isL:s.heap.IsList L (ps.map x0I).toArray:=⟨_,hL,rfl,_,rfl⟩;obtain⟨q,eq,pq,kq⟩:=hp i ps[i] (x0f hlt);refine x0b (wpAny_pyNext_list_item (x:=.ref ps[i]) hit isL (by simp [hlt]) fun h1 hit1 s1=>?_);have k1:∀c o,c≠it->s.heap.get? c=some o->h1.get? c=some o:=fun c o hc e=>s1.extBut c o hc e;have nt:=itn s i hit;have pq1:a5O h1 ps[i] (.ref q.2.1) q.2.2:=pq.keep fun o c e=>k1 _ _ (nt _ o c e) e;have kq1:(x1w knd).is h1 q.1 q.2.1:=a3Q kq fun o c e=>k1 _ _ (nt _ o c e) e;have hD1:=dkeep hD k1 nt;refine x0b (x1m ?_);refine x0b (wpAny_tryCatch ?_);unfold Builtin.Dict.pairItems;obtain⟨po,pn,pe1,pe2,pe3⟩:=pq1;refine x0b (x2T (T:="tuple") (s:={ s with heap:=h1 }) ⟨_,pe1,pe2⟩ ?_);rw [if_pos (by decide)];refine x0b (x1R (s:={ s with heap:=h1 }) pe1 pe3 (x0e ?_));show wpAny _ A.in1 (holding [.ref q.2.1,q.2.2] (dictSet D (.ref q.2.1) q.2.2)) _ _ _;have ml:=a6s (qs.take i);refine x1m (wpAny_dictSet_heap (s:={ s with heap:=h1 }) (hsz:=by rw [x1n] at ml;omega) (x2B hu) kq1 hD1 fun h2 hD2 s2=>?_);rw [<- a7c eq] at hD2;have k2:∀c o,c≠D->h1.get? c=some o->h2.get? c=some o:=fun c o hc e=>s2.extBut c o hc e
   have nt2:∀a o,o.cls=.type "tuple"->h1.get? a=some o->a≠D:=by
     intro a o hc e z;obtain⟨o',es,ep,e1,e2,_⟩:=hD1;rw [z,e1] at e;cases e;have:=e2.1;rw [hc] at this;exact absurd (x4k this) (by decide)
   refine x0e ⟨plainId_quiet a2o _,?_⟩;rw [show((i:Int) + 1)=((i + 1:Nat):Int) by omega];refine ih (i + 1) { s with heap:=h2,toks:=s.toks + _ } (by omega) hlt ?_ (k2 _ _ nL.symm (k1 _ _ nL2.symm hL)) (fun j p hj=>?_) hD2 fun h' tk q1 q2=>hR h' tk q1 fun c o c1 c2 e=>q2 c o c1 c2 (k2 c o c1 (k1 c o c2 e))
   · obtain⟨o,e,r⟩:=hit1;exact⟨o,k2 _ _ nD.symm e,r⟩
   · obtain⟨q',e1,e2,e3⟩:=hp j p hj;exact⟨q',e1,e2.keep fun o c e=>k2 _ _ (nt2 _ o c (k1 _ _ (nt _ o c e) e)) (k1 _ _ (nt _ o c e) e),a3Q e3 fun o c e=>k2 _ _ (nt2 _ o c (k1 _ _ (nt _ o c e) e)) (k1 _ _ (nt _ o c e) e)⟩
theorem a7f {Q:Value->Shared->Prop}(hh:A.handled=none)(hu:A.units + 2 < cLine){L:Addr}{c:Nat}(hl:ps.length<=1000)(lq:qs.length=ps.length)
   (hL:s.heap.get? L=some (lstO ps c)) (hp:∀(j:Nat) (p:Addr),ps[j]?=some p->∃q,qs[j]?=some q/\a5O s.heap p (.ref q.2.1) q.2.2/\(x1w knd).is s.heap q.1 q.2.1)
   (hQ:∀h' tk,h'.DictOfH (x1w knd) s.heap.objs.size (a3n qs)->(∀c o,s.heap.get? c=some o->h'.get? c=some o)->Q (.ref s.heap.objs.size) { s with heap:=h',toks:=tk }) :
   wpAny (model prog w) A (call (.type "dict") [.ref L]) Q E s:=by
 refine callType_codes (Q₁:=fun obj s₁=>obj=.ref s.heap.objs.size/\s₁={ s with heap:=s.heap.push { cls:=.type "dict",data:=.dict #[] } }) F.kt_called_dict (F.kt_typeCall_dict_1 _) F.entry_dict_init (kt_code_dict_new _ ⟨rfl,rfl⟩) ?_;rintro obj s₁ ⟨rfl,rfl⟩;have hnew:(s.heap.push { cls:=.type "dict",data:=.dict #[] }).DictOfH (x1w knd) s.heap.objs.size []:=Heap.DictOfH.new s.heap;have old:∀c o,s.heap.get? c=some o->c≠s.heap.objs.size:=fun c o e=>x0u (x0l e);have up:∀c o,s.heap.get? c=some o->(s.heap.push { cls:=.type "dict",data:=.dict #[] }).get? c=some o:=fun c o e=>x0c _ e;have D0:=hnew;refine⟨hnew.typeIs,F.args_dict_init_2 _ _,?_⟩;generalize hg:s.heap.push { cls:=.type "dict",data:=.dict #[] }=g at *;generalize hD:s.heap.objs.size=D at *;unfold x4q.«dict.__init__»;refine x0b ?_;unfold Builtin.Dict.selfAndRest;refine x0b (wpAny_notOrdered_dict (s:={ s with heap:=g }) hnew.typeIs ?_);show wpAny _ _ (pure (D,[x0I L])) _ _ _;refine x0e ?_;show wpAny _ _ (Builtin.Dict.updateFrom "dict.__init__" D (.ref L) [] .none) _ _ _;unfold Builtin.Dict.updateFrom;refine x0b (x2T (T:="list") (s:={ s with heap:=g }) ⟨_,up _ _ hL,rfl⟩ ?_);rw [if_pos (by decide)];refine x0b (noKeys (s:={ s with heap:=g }) (up _ _ hL) hh fun g2 tk k2=>?_);show wpAny _ _ (rule _>>=_) _ _ _;refine x0b (x2x ?_)
 have hL2:g2.get? L=some (lstO ps c):=k2 _ _ (up _ _ hL);refine x0b (x3o (s:={ s with heap:=g2,toks:=tk }) ⟨_,hL2,rfl,_,rfl⟩ ?_);obtain⟨od,es,ep,ed0,rd1,rd2,rd3,_,rd5⟩:=D0;have ed:=k2 _ _ ed0;have lD:D≠g2.objs.size:=x0u (x0l ed);have lL:g2.objs.size≠L:=x2Q (x0l hL2);have nDL:D≠L:=(old _ _ hL).symm;have up3:∀c o,g2.get? c=some o->(g2.push { cls:=x1o "list_iterator",data:=Data.fields #[x0I L,Value.int 0 0] }).get? c=some o:=fun c o e=>x0c _ e;refine x0e ⟨plainId_quiet a2o _,a8R (A:=A.in1) (i:=0) (c:=c) (knd:=knd) (qs:=qs) hh hu lD nDL lL hl lq _ _ rfl (x1z _) ⟨_,x0p _ rfl,rfl,rfl⟩ (up3 _ _ hL2) (fun j p hj=>?_) ?_ fun h' tk' q1 q2=>⟨rfl,hQ h' tk' q1 fun c o e=>q2 c o (old c o e) (x0u (x0l (k2 _ _ (up _ _ e)))) (up3 _ _ (k2 _ _ (up _ _ e)))⟩⟩
 · obtain⟨q,e1,e2,e3⟩:=hp j p hj;exact⟨q,e1,e2.keep fun o _ e=>up3 _ _ (k2 _ _ (up _ _ e)),a3Q e3 fun o _ e=>up3 _ _ (k2 _ _ (up _ _ e))⟩
 · exact⟨od,es,ep,up3 _ _ ed,rd1,rd2,rd3,fun x (hx:x∈[])=>absurd hx (x1t),rd5⟩
end
end
theorem hu2_of {A:Around}{k:Nat}(hr:Room k A):A.units + 2 < cLine:=x3e (Nat.add_le_add_left (by decide:2<=64) _) hr.units
def Prs (H:Hp):List V->List (List Key×V)->Prop
 | [],[]=>True
 | v::vs,q::qs=>(∃p b,v=.ref p/\H p=some (.tup [.ref b,q.2])/\H b=some (.tup (q.1.map kV)))/\Prs H vs qs
 | _,_=>False
abbrev PQ (H:Hp)(p:List Key×V)(q:List Key×Addr×Value):Prop:=p.1=q.1/\H q.2.1=some (.tup (p.1.map kV))/\RelV p.2 q.2.2
theorem a8e {P:x0A}{w:World}{H:Hp}{h:Heap}(ok:HOk P w H h):∀{ws:List V} {qs:List (List Key×V)} {its:List Value},Prs H ws qs->Vals ws its->
   ∃ (ps : List Addr) (qh : List (List Key × Addr × Value)), its = ps.map x0I /\ ps.length = ws.length /\ qh.length = ps.length /\
     (∀(j:Nat) (p:Addr),ps[j]?=some p->∃q,qh[j]?=some q/\a5O h p (.ref q.2.1) q.2.2/\(x1w (a0y P w)).is h q.1 q.2.1)/\Paired (PQ H) qs qh
 | [], [], _, _, r => by
   cases r;exact⟨[],[],rfl,rfl,rfl,fun j p hj=>by simp at hj,.nil⟩
 | v :: vs, q :: qs, its, hp, r => by
   obtain⟨⟨p,b,rfl,e1,e2⟩,hp⟩:=hp;cases r with
   | cons r1 r2 =>
     obtain⟨ps,qh,rfl,h1,h2,h3,h4⟩:=a8e ok hp r2;cases(show _=x0I p from r1);obtain⟨_,it2,rv,o,g1,g2,n,g3⟩:=(show a0F P w H h p (.tup [.ref b,q.2]) from ok p _ e1);cases rv with
     | cons ra rr =>
       cases rr with
       | @cons _ y _ _ rb rn =>
         cases rn;cases(show _=x0I b from ra);refine⟨p::ps,(q.1,b,y)::qh,rfl,by simp [h1],by simp [h2],fun j p' hj=>?_,.cons ⟨rfl,e2,rb⟩ h4⟩;cases j with
         | zero =>
           cases hj;exact⟨_,rfl,⟨o,n,g1,(x3T g2).1,g3⟩,a3k ok e2⟩
         | succ j=>exact h3 j p' hj
 | [],_::_,_,hp,_=>hp.elim
 | _::_,[],_,hp,_=>hp.elim
def a8K (qs:List (List Key×V)):List (List Key×V):=qs.foldl (fun d q=>putK d q.1 q.2) []
theorem b2O {H:Hp}{qs:List (List Key×V)}{qh:List (List Key×Addr×Value)}(r:Paired (PQ H) qs qh):∀{kvs:List (List Key×V)} {xs:List (List Key×Addr×Value)},KT H kvs xs->
   KT H (qs.foldl (fun d q=>putK d q.1 q.2) kvs) (qh.foldl (fun xs q=>storedH xs q.1 q.2.1 q.2.2) xs):=by
 induction r with
 | nil=>intro kvs xs h;exact h
 | @cons p q ps qs' h _ ih =>
   intro kvs xs hk;rw [x3k,x3k];obtain⟨e1,e2,e3⟩:=h;rw [<- e1];exact ih (hk.put p.1 e2 e3)
section
variable {X:Cx}
def tDictT (ta:TA):TE:=fun σ H Q=>ta σ H fun vs H1=>∃a ws qs,vs=[.ref a]/\H1 a=some (.lst ws)/\Prs H1 ws qs/\ws.length<=1000/\∀l,H1 l=none->Q (.ref l) (upd H1 l (.dT (a8K qs)))
theorem a9W {a:Expr}{ta:TA}{p1 pos1:Pos}(hc:X.calm=true)(hu:X.A.units + 2 < cLine)(g1:Gl X "dict")(m1:X.mg "dict"=none)(ha:PA X [a] ta)(hs:x0T [a] X.env=[(false,eval a X.env)]:=by rfl) :
   PE X (.Call (.Name "dict" p1) [a] [] pos1) (tDictT ta):=by
 intro pins s σ H Q I h;refine x3b (a2r I g1 m1 b3i (x0Y (thn (ha pos1 pins s σ H _ I h) fun us s1 h1=>?_) hs rfl));obtain⟨vs,H1,I1,r1,a,ws,qs,rfl,ea,hp,hl,q⟩:=h1;cases r1 with
 | cons r rr =>
   cases rr;cases(show _=x0I a from r);obtain⟨_,its,n,rv,e⟩:=(show a0F X.prog X.w H1 s1.heap a (.lst ws) from I1.hok a _ ea);obtain⟨ps,qh,rfl,h1,h2,h3,h4⟩:=a8e I1.hok hp rv;refine a7f (knd:=a0y X.prog X.w) (ps:=ps) (qs:=qh) (c:=n) (I1.ok.hd hc) hu (by omega) h2 e h3 fun h' tk dd kp=>?_;have kt:=(b2O h4 (KT.keeps (H:=H1) .nil fun _ _ e=>e):KT H1 (a8K qs) (a3n qh));have hle:=a6s qh;obtain⟨o,es,ep,d1,d2,d3,d4,_,d6⟩:=dd;have hf:H1 s1.heap.objs.size=none:=I1.hok.fresh (x0m _);refine⟨.ref s1.heap.objs.size,upd H1 s1.heap.objs.size (.dT (a8K qs)),I1.laid (t':=tk) kp (x0m _) ⟨?_,beq_eq_false_iff_ne.mpr (Ne.symm (x0u I1.big)),a3n qh,kt.keeps fun b ys eb=>?_,o,es,ep,d1,d2,d3,d4,d6⟩,rfl,q _ hf⟩
   · have:(a8K qs).length=(a3n qh).length:=x2X kt;have sl:(1000:Nat)<=x0v:=by decide
     omega
   · rw [a0f (fun z=>by rw [z,hf] at eb;cases eb)];exact eb
end
end L2
namespace Pu
open PySem PySem.Spec L2
section
variable {T:PotK}{np:Bool}{ι:Type}{K:x0a}{F:ι->Cx}{e:Expr}{pe:pE}{st:Stmt}{pos:Pos}
def a3D:List PV->Option (List (List Key×PV))
 | []=>some []
 | .tup [.tup ys,x]::r=>(match a0L ys,a3D r with | some k,some qs=>some ((k,x)::qs) | _,_=>none)
 | _=>none
def putD {α:Type}(d:List (List Key)×List α)(q:List Key×α):List (List Key)×List α:=(a1h d.1 q.1,a1O d.1 d.2 q.1 q.2)
def dtF {α:Type}(qs:List (List Key×α)):List (List Key)×List α:=qs.foldl putD ([],[])
theorem a3C {G:Gh}{H:Hp}:∀{xs:List PV} {vs:List V} {qs:List (List Key×PV)},Reps K G H xs vs->a3D xs=some qs->∃us:List V,us.length=qs.length/\Prs H vs ((qs.map (·.1)).zip us)/\Reps K G H (qs.map (·.2)) us
 | [], vs, qs, r, h => by
   cases h;have:vs=[]:=x1h r.length.symm;subst this;exact⟨[],rfl,trivial,rfl⟩
 | x :: xs, vs, qs, r, h => by
   unfold a3D at h
   split at h
   · rename_i heq;cases heq
   · rename_i ys y r' heq;cases heq
     split at h
     · rename_i k qs' e1 e2;cases h;obtain⟨v,rs,rfl,r1,r2⟩:=r;obtain⟨us,l1,l2,l3⟩:=a3C r2 e2;obtain⟨p,ws,rfl,⟨_,hp⟩,rw'⟩:=r1;obtain⟨b,ws1,rfl,rb,rw1⟩:=rw';obtain⟨u,ws2,rfl,ru,rn⟩:=rw1;have:ws2=[]:=rn;subst this;obtain⟨b',wk,rfl,⟨_,hb⟩,rk⟩:=rb;rw [a0O e1] at rk;refine⟨u::us,by simp [l1],⟨⟨p,b',rfl,hp,?_⟩,l2⟩,u,us,rfl,ru,l3⟩;show H b'=some (.tup (k.map kV));rw [<- a0Q k rk];exact hb
     · cases h
   · cases h
theorem b1h {G:Gh}{H:Hp}:∀{qs:List (List Key×PV)} {us:List V} {ks:List (List Key)} {xs:List PV} {vs:List V},us.length=qs.length->Reps K G H (qs.map (·.2)) us->ks.length=xs.length->Reps K G H xs vs->
   ∃ws,(qs.foldl putD (ks,xs)).1.length=(qs.foldl putD (ks,xs)).2.length/\Reps K G H (qs.foldl putD (ks,xs)).2 ws/\((qs.map (·.1)).zip us).foldl (fun d q=>putK d q.1 q.2) (ks.zip vs)=(qs.foldl putD (ks,xs)).1.zip ws
 | [], us, ks, xs, vs, l, r, hl, rx => by
   have:us=[]:=x1h l;subst this;exact⟨vs,hl,rx,rfl⟩
 | q :: qs, us, ks, xs, vs, l, r, hl, rx => by
   obtain⟨u,us',rfl,ru,rr⟩:=r;have l':us'.length=qs.length:=by simpa using l
   have hv:ks.length=vs.length:=hl.trans rx.length;obtain⟨ws,w1,w2,w3⟩:=b1h (ks:=a1h ks q.1) (xs:=a1O ks xs q.1 q.2) (vs:=a1O ks vs q.1 u) l' rr (a5u hl q.1 q.2) (a5W rx hl q.1 ru);refine⟨ws,w1,w2,?_⟩;show((qs.map (·.1)).zip us').foldl _ (putK (ks.zip vs) q.1 u)=_;rw [a8b hv];exact w3
def a7X (i:Nat)(pe:pE):pS:=fun D env n=>pe env n fun x env1 n1=>match x with
 | .lst xs => (match a3D xs with
   | some qs=>xs.length<=1000/\D.nx (env1.set i (some (.ow (.dt (dtF qs).1) (dtF qs).2))) n1
   | none=>False)
 | _=>False
theorem a9A (i:Nat){p1 pos1:Pos}(hc:∀z,(F z).calm=true)(hu:∀z,(F z).A.units + 2 < cLine)(g1:∀z,Gl (F z) "dict")(m1:∀z,(F z).mg "dict"=none)
   (h:∀z te,EW (F z) (.Call (.Name "dict" p1) [e] [] pos1) te->SW (F z) st (tAsg te (a1I i))) (ha:QE T K F e pe) (hs:a0w e=true:=by rfl):QS T np K F st (a7X i pe):=by
 obtain⟨t,h1,h2⟩:=ha;refine⟨_,fun z=>(h z _ ⟨a9W (hc z) (hu z) (g1 z) (m1 z) (a0o (h1 z) a0M (a0c hs)) (a0c hs)⟩).h,fun C G σ H env n PD D hK hT hn S hp L=>?_⟩;refine h2 C G σ H env n _ _ hK hT S hp fun x env1 n1 v H1 q1 S1 r1 f1=>?_
 split at q1
 · rename_i xs
   split at q1
   · rename_i qs eq;obtain⟨hl,q⟩:=q1;obtain⟨a,vs,rfl,⟨_,ea⟩,ra⟩:=r1;obtain⟨us,l1,l2,l3⟩:=a3C ra eq;obtain⟨ws,w1,w2,w3⟩:=b1h (ks:=[]) (xs:=[]) (vs:=[]) l1 l3 rfl rfl;refine⟨a,vs,_,rfl,ea,l2,by rw [<- ra.length];exact hl,fun D hD=>?_⟩;have ef:a8K ((qs.map (·.1)).zip us)=(dtF qs).1.zip ws:=w3;rw [ef];exact L.nx _ _ _ _ _ q (S1.ow i (.dt (dtF qs).1) hD (hK▸w2)) ((Ext.fr f1).trans (a1A hD))
   · exact q1.elim
 · exact q1.elim
end
end Pu
end
section
namespace L2
open PySem PySem.W PySem.Spec PyProof.Rows
def a3s (H:Hp):List Addr->List (List Key)->Prop:=Paired fun b k=>H b=some (.tup (k.map kV))
def ItT (a:Addr)(o:Obj)(kvs:List (List Key×V))(bs:List Addr):It:=
 ⟨fun i H=>H a=some (.frz o (.dT kvs))/\i < bs.length,fun i H x H'=>H'=H/\∃b,bs[i]?=some b/\x=.ref b,fun i H=>H a=some (.frz o (.dT kvs))/\bs.length<=i⟩
theorem a6r {X:Cx}{pins:List (Addr×Obj)}{σ:St}{H:Hp}{s:Shared}(I:Inv X pins σ H s){a:Addr}{o:Obj}{kvs:List (List Key×V)}{es:Array x4m}{ep:Nat}(hd:o.data=.dict es ep)(h:H a=some (.frz o (.dT kvs))):Raw s.heap a es ep:=by
 obtain⟨e,z,lo,ys,pr,o',es',ep',e',c,d,he,nd⟩:=(show a0F X.prog X.w H s.heap a (.frz o (.dT kvs)) from I.hok a _ h);rw [e] at e';cases e';exact⟨o,e,c,hd⟩
theorem turn_T {P:x0A}{w:World}{K:x0a}{tg:Expr}(a it:Addr)(o:Obj)(kvs:List (List Key×V))(bs:List Addr){es:Array x4m}{ep:Nat}(hd:o.data=.dict es ep)(hb:es.toList.map (·.key)=bs.map x0I) :
   Turn P w K tg (ItT a o kvs bs) [it] it (fun i h=>h.IsKeyIter it a i es.size ep) where
 mem:=by simp
 obj:=fun i h st b hb=>by
   have e:b=it:=by simpa using hb
   subst e;obtain⟨o,e,c,d⟩:=st;exact⟨o,e,fun v z=>by rw [d] at z;cases z⟩
 keep:=fun i h h' st k=>st.at fun o e=>k it (by simp) o e
 item:=by
   intro X hP hw hK hc i pins s σ H E I hf st hg;subst hP hw hK;obtain⟨hH,hi⟩:=hg;have raw:=a6r I hd hH;have e1:bs[i]?=some bs[i]:=x0f hi;have e2:(es.toList.map (·.key))[i]?=some (.ref bs[i]):=by rw [hb,x0r,e1];rfl
   rw [x0r] at e2;cases e3:es.toList[i]? with
   | none=>rw [e3] at e2;cases e2
   | some en =>
     rw [e3] at e2;have ek:en.key=.ref bs[i]:=x0C e2;obtain⟨f0,f1,f2,f3,f4,f5⟩:=hf it (by simp);refine a9w st raw (e:=en) (by rw [<- x3E];exact e3) fun h' st' sb=>?_;have I1:Inv X pins σ H { s with heap:=h' }:=I.turned (t':=s.toks) (fun b o hb e=>(sb.2 b hb).trans e) f0 f1 f3 f4 f5;obtain⟨ob,e,c,d⟩:=id st';exact⟨en.key,rfl,a8J (s:={ s with heap:=h' }) e c d (by decide) ⟨.ref bs[i],H,I1,by rw [ek];rfl,⟨rfl,bs[i],e1,rfl⟩,st',fun b hb=>(hf b hb).1⟩⟩
 done:=by
   intro X hP hw hK hc i pins s σ H E I hf st hg;subst hP hw hK;obtain⟨hH,hi⟩:=hg;have raw:=a6r I hd hH
   have hl:es.size=bs.length:=by
     have:=congrArg List.length hb;rw [x0g,x0g,x1E] at this;exact this
   obtain⟨f0,f1,f2,f3,f4,f5⟩:=hf it (by simp);exact b1M (I.ok.hd hc) st raw (by omega) fun h' eb=>⟨rfl,I.turned (t':=s.toks) (fun b o hb e=>eb b o hb e) f0 f1 f3 f4 f5⟩
 self:=fun _ _ _ _ _ st h=>wpAny_pyIter_keyiter st h
theorem a8A {H:Hp}{kvs:List (List Key×V)}{ys:List (List Key×Addr×Value)}(pr:Paired (fun(p:List Key×V) (q:List Key×Addr×Value)=>p.1=q.1/\H q.2.1=some (.tup (p.1.map kV))/\RelV p.2 q.2.2) kvs ys):a3s H (ys.map (·.2.1)) (kvs.map (·.1)):=by
 induction pr with
 | nil=>exact .nil
 | cons h1 _ ih=>exact .cons h1.2.1 ih
section
variable {X:Cx}
def iKeysT (to:TE):TI:=fun σ H R=>to σ H fun x H1=>∃a kvs,x=.ref a/\H1 a=some (.dT kvs)/\∀o bs,a3s H1 bs (kvs.map (·.1))->R (ItT a o kvs bs) (upd H1 a (.frz o (.dT kvs)))
theorem a9R {o tg:Expr}{to:TE}(ho:PE X o to):PI X tg o (iKeysT to):=by
 intro pins s σ H R I h;refine thn (ho pins s σ H _ I h) fun v s1 ⟨x,H1,I1,r1,a,kvs,ex,ha,q1⟩=>?_;subst ex;cases r1;obtain⟨z,lo,ys,pr,ob,es,ep,e,c,d,he,nd⟩:=(show a0F X.prog X.w H1 s1.heap a (.dT kvs) from I1.hok a _ ha);have raw:Raw s1.heap a es ep:=⟨ob,e,c,d⟩
 have hb:es.toList.map (·.key)=(ys.map (·.2.1)).map x0I:=by
   rw [he,x0V,x0V]
   rfl
 refine a9v lo raw ?_;have I3:Inv X pins σ H1 { s1 with heap:=s1.heap.push { cls:=.type "dict_keyiterator",data:=.fields #[.ref a,.int 0 0,.int es.size 0,.int ep 0] } }:=I1.kept (t':=s1.toks) fun b o e=>x0c _ e;have ea:(s1.heap.push { cls:=.type "dict_keyiterator",data:=.fields #[.ref a,.int 0 0,.int es.size 0,.int ep 0] }).get? a=some ob:=x0c _ e;have ka:=a8A pr;have pr':KT (upd H1 a (.frz ob (.dT kvs))) kvs ys:=KT.keeps pr fun b ys eb=>by rw [a0f (b0d eb ha (fun z=>nomatch z))];exact eb
 have I4:Inv X pins σ (upd H1 a (.frz ob (.dT kvs))) { s1 with heap:=s1.heap.push { cls:=.type "dict_keyiterator",data:=.fields #[.ref a,.int 0 0,.int es.size 0,.int ep 0] } }:=
   I3.write (x:=a) (e:=a) (t':=s1.toks) (by rw [ha];exact x2y) (.inl rfl) (fun _ _ _ z=>z) ⟨_,ea⟩ ⟨ea,z,lo,ys,pr',ob,es,ep,ea,c,d,he,nd⟩
 refine⟨s1.heap.objs.size,[s1.heap.objs.size],_,_,_,rfl,I4,turn_T a _ ob kvs _ d hb,⟨_,x0p _ rfl,rfl,rfl⟩,fun b hb=>?_,q1 ob _ ka⟩;have e':b=s1.heap.objs.size:=by simpa using hb
 subst e';refine I1.fpOk (x0m _) ?_;rw [a0f fun z=>?_]
 · exact I1.hok.fresh (x0m _)
 · exact absurd (x0l e) (by rw [<- z];exact x2c _)
def b1y (tk tv:TE):TE:=fun σ H Q=>∀p,H p=none->a7D [(tk,tv)] σ (upd H p (.dT [])) fun ps H2=>H2 p=some (.dT [])/\∃b k y,ps=[(.ref b,y)]/\H2 b=some (.tup (k.map kV))/\Q (.ref p) (upd H2 p (.dT [(k,y)]))
theorem a8i {k v:Expr}{tk tv:TE}{pos:Pos}(hu:X.A.units < cLine)(hk:PE X k tk)(hv:PE X v tv):PE X (.Dict [some k] [v] pos) (b1y tk tv):=by
 intro pins s σ H Q I q;have hn:=I.hok.fresh (x0m s.heap.objs.size);have I1:=I.laid (a:=s.heap.objs.size) (o:=.dT []) (h':=s.heap.push { cls:=.type "dict",data:=.dict #[] }) (t':=s.toks) (fun _ _ q=>x0c _ q) (x0m _) (a6w s.heap I.big);have hl:=pairTrees_length [some k] [v] X.env pos rfl rfl;rw [arm_eval_Dict,zip_pairTrees [some k] [v] X.env pos rfl rfl,dictDisplay_pairs _ (fun z=>by rw [z] at hl;cases hl) (by rw [hl];show 1 < 17;omega)];refine x0b (x1M (x0b ?_));unfold subDict;refine x0b (wpAny_alloc ?_);refine x0b (x1m ?_);rw [if_pos (by rw [hl];show 1<=15;omega)];refine x0b (thn (a9N hk hv b2d pins _ σ _ _ I1 (q _ hn)) fun ws s2 ⟨ps,H2,I2,rel,e,b,key,y,ep,eb,q2⟩=>?_);subst ep;cases rel with
 | @cons p1 p2 _ _ h1 t =>
   cases t;obtain⟨u,r⟩:=p2;obtain⟨ru,rr⟩:=h1;cases(show u=x0I b from ru);obtain⟨z,hd,xs,rl,dd⟩:=dt_of I2.hok e;cases rl;refine x1m ?_;rw [x3j];refine x0b (x0b (x0b (wpAny_dictSet_heap (hsz:=by decide) (show(x1w (a0y X.prog X.w)).room X.A from hu) (a3k I2.hok eb) dd fun h' dd' hs=>x0e ?_)));dsimp only;rw [x3y];refine x0e (x0e (x0e (x0e ?_)));obtain⟨q',es,ep',hq,h2,h3,h4,_,h5⟩:=dd';refine⟨.ref s.heap.objs.size,upd H2 s.heap.objs.size (.dT [(key,y)]),a5H I2 (by rw [e];exact x2y) hs ⟨q',hq⟩ (show a0F X.prog X.w _ h' _ (.dT [(key,y)]) from⟨by show 1<=x0v;decide,hd,_,?_,q',es,ep',hq,h2,h3,h4,h5⟩),rfl,q2⟩;exact .cons ⟨rfl,by rw [a0f (b0d eb e (fun z=>nomatch z))];exact eb,rr⟩ .nil
end
end L2
end
section
namespace Pu
open PySem PySem.Spec L2
theorem a6U {α β:Type}{R:α->β->Prop}{xs:List α}{ys:List β}(h:Paired R xs ys):∀{i:Nat} {x:α} {y:β},xs[i]?=some x->ys[i]?=some y->R x y:=by
 induction h with
 | nil=>intro i x y e;simp at e
 | @cons p q ps qs h t ih =>
   intro i x y e1 e2;cases i with
   | zero =>
     simp at e1 e2;subst e1 e2;exact h
   | succ i=>exact ih (i:=i) (by simpa using e1) (by simpa using e2)
theorem a5B {H H':Hp}{bs:List Addr}{ks:List (List Key)}(h:a3s H bs ks)(k:∀b xs,H b=some (.tup xs)->H' b=some (.tup xs)):a3s H' bs ks:=by
 unfold a3s at *
 induction h with
 | nil=>exact .nil
 | cons h _ ih=>exact .cons (k _ _ h) ih
theorem SR.takeV {C:Ct}{G:Gh}{σ:St}{H:Hp}{env:Env}{n:Nat}(S:SR C G σ H env n){i:Nat}{ks:List (List Key)}{xs:List PV}{a:Addr}{vs:List V}(ex:env[i]?=some (some (.ow (.dt ks) xs)))(hl:ks.length=xs.length)(ev:σ[i]?=some (some (.ref a)))(r:Reps C.K G H xs vs){ob:HO}(hob:ob=.dT (ks.zip vs)\/∃o,ob=.frz o (.dT (ks.zip vs))) :
   ∃G',SR C G' σ (upd H a ob) (env.set i (some (.v (.fdt ks xs)))) n/\Ext G H G' (upd H a ob)/\a∉G'.M:=by
 have hlv:ks.length=vs.length:=by rw [hl];exact r.length
 obtain⟨G',S1,x1,aM,_,_⟩:=S.take ex ev ob;have r1:Reps C.K G' (upd H a ob) xs vs:=Reps.mono x1.keep x1.new x1.pot _ _ r;have rd:Rd (upd H a ob) a (.dT (ks.zip vs)):=hob.elim (fun e=>.inl (by rw [a0j,e])) fun⟨o,e⟩=>.inr ⟨o,by rw [a0j,e]⟩;have rp:Rep C.K G' (upd H a ob) (.fdt ks xs) (.ref a):=⟨a,_,rfl,aM,rd,x2N (x2d hlv),by rw [x3J (x2d hlv.symm)];exact r1⟩;have S2:=S1.set i rp
 have eσ:σ.set i (some (.ref a))=σ:=by
   obtain⟨hi,e⟩:=x0k.mp ev;rw [<- e];exact List.set_getElem_self hi
 rw [List.set_set,eσ] at S2;exact⟨G',S2,x1,aM⟩
section
variable {T:PotK}{np:Bool}{ι:Type}{K:x0a}{F:ι->Cx}{e ek c f:Expr}{st:Stmt}{pe pk pv pc pf:pE}{pos:Pos}{pg:pG}{p1:pS}
variable {kvs:List (List Key×V)}{ks:List (List Key)}{k0:Nat}
def a1v (i:Nat)(p:pS):pS:=fun D env n=>match env[i]? with | some (some (.ow (.dt ks) xs))=>ks.length=xs.length/\p D (env.set i (some (.v (.fdt ks xs)))) n | some (some (.v _))=>p D env n | _=>False
theorem a3z (i:Nat)(h:QS T np K F st p1):QS T np K F st (a1v i p1):=by
 obtain⟨t,a1,a2⟩:=h;refine⟨t,a1,fun C G σ H env n PD D hK hT hn S hp L=>?_⟩;unfold a1v at hp
 split at hp
 · rename_i ks xs ex;obtain⟨a,vs,ev,h1,h2,h3,h4,r⟩:=S.slots i _ ex;obtain⟨G',S',x',_⟩:=S.takeV ex hp.1 ev r (.inl rfl)
   have eH:upd H a (.dT (ks.zip vs))=H:=by
     funext b
     by_cases hb:b=a
     · rw [hb,a0j];exact h4.symm
     · rw [a0f hb]
   rw [eH] at S' x';exact a2 C G' σ H _ n PD D hK hT hn S' hp.2 (L.ext x')
 · exact a2 C G σ H env n PD D hK hT hn S hp L
 · exact hp.elim
theorem itr_T {G:Gh}{H:Hp}{a:Addr}{o:Obj}{bs:List Addr}(mu:∀b∈G.M,∃o,H b=some o/\MutO o)(ha:a∉G.M)(h:H a=some (.frz o (.dT kvs)))(hb:a3s H bs ks):ItR K G H (ItT a o kvs bs) (ks.map tupP):=by
 intro G2 H2 hk hM hp hf;have hq:=hk a _ ha h;have hl:bs.length=ks.length:=x2X hb;refine⟨fun i x e=>?_,fun i hi=>⟨hq,by rw [hl];simpa using hi⟩⟩;rw [x0r] at e;cases ek:ks[i]? with
 | none=>rw [ek] at e;cases e
 | some k =>
   rw [ek] at e;cases e;have hi:i < bs.length:=by rw [hl];exact(x0k.mp ek).1
   refine⟨⟨hq,hi⟩,fun v' H3 y=>?_⟩;obtain⟨rfl,b,eb,rfl⟩:=y;have hbk:H b=some (.tup (k.map kV)):=a6U hb eb ek
   have nM:b∉G.M:=fun z=>by
     obtain⟨o,e,m⟩:=mu b z;rw [hbk] at e;cases e;exact m
   have n2:b∉G2.M:=fun z=>(hM b z).elim nM (fun z=>by rw [hbk] at z;cases z);exact⟨Same.refl _,b,_,rfl,⟨n2,hk b _ nM hbk⟩,a5p k⟩
def a9K (i:Nat)(g:pG)(b:pS):pS:=fun D env n=>match env[i]? with | some (some (.ow (.dt ks) xs))=>ks.length=xs.length/\forL g b D (ks.map tupP) (env.set i (some (.v (.fdt ks xs)))) n | _=>False
theorem b1R (i:Nat){x:Str}{p:Pos}{tg:Expr}{body:List Stmt}(hc:∀z,(F z).calm=true)(hv:∀z,EW (F z) (.Name x p) (tVar i))(hg:QG K F tg pg)(hb:QSs T np K F body p1)
   (hp:∀z,PassesOwn (model (F z).prog (F z).w) (F z).A (F z).env (F z).xe:=by intro _;exact PassesOwn.never) (hs:∀z y,x0O (.Name x p) (F z).env y=pure y:=by intro _ _;rfl):QS T np K F (.For tg (.Name x p) body [] pos) (a9K i pg p1):=by
 obtain⟨g,g1,g2⟩:=hg;obtain⟨t,b1,b2⟩:=hb;refine⟨_,fun z=>b0S (hp z) (hc z) (a9R (hv z).h) (g1 z) (b1 z) (hs z),fun C G σ H env n PD D hK hT hn S hp L=>?_⟩;unfold a9K at hp
 split at hp
 · rename_i ks xs0 ex;obtain⟨hl,q1⟩:=hp;obtain⟨a,vs,ev,h1,h2,h3,h4,r⟩:=S.slots i _ ex;have hlv:ks.length=vs.length:=by rw [hl];exact r.length
   refine⟨.ref a,ev,a,ks.zip vs,rfl,h4,fun o bs hb=>?_⟩;obtain⟨G1,S1,x1,aM⟩:=S.takeV ex hl ev r (.inr ⟨o,rfl⟩);rw [x2N (x2d hlv)] at hb;have hb':a3s (upd H a (.frz o (.dT (ks.zip vs)))) bs ks:=a5B hb fun b ys eb=>by rw [a0f (b0d eb h4 (fun z=>nomatch z))];exact eb
   have hJ:=itr_T (K:=K) S1.mu aM a0j hb';generalize upd H a (.frz o (.dT (ks.zip vs)))=H1 at S1 x1 hJ ⊢;generalize ks.map tupP=xs at q1 hJ;have L1:=L.ext x1;refine⟨fun i m σ H=>m=xs.length - i/\i<=xs.length/\∃G' env n,SR C G' σ H env n/\Ext G1 H1 G' H/\forL pg p1 PD (xs.drop i) env n,⟨xs.length,by simp,x1z _,G1,_,n,S1,Ext.refl,by simpa using q1⟩,?_⟩;rintro i m σ' H' ⟨rfl,hi,G',env',n',S',x',q'⟩;have hf:∀p,H' p=none->p∉G'.M:=fun p hp=>S'.fresh hp;obtain⟨hgo,hstop⟩:=hJ G' H' x'.keep x'.new x'.pot hf
   by_cases hlt:i < xs.length
   · obtain⟨go1,go2⟩:=hgo i _ (x0f hlt);rw [x1H hlt] at q';refine .inr ⟨go1,fun σ H=>∃G' env n,SR C G' σ H env n/\Ext G1 H1 G' H/\forL pg p1 PD (xs.drop (i + 1)) env n,fun σ2 H2 h2=>⟨xs.length - (i + 1),by omega,rfl,hlt,h2⟩,fun v H2 y=>?_⟩;obtain⟨s2,rv⟩:=go2 v H2 y;have x2:Ext G' H' G' H2:=Ext.fr (Fr.of s2);refine g2 C G' σ' H2 env' n' _ v _ _ hK (S'.same s2) rv q' fun env2 σ2 q2 S2=>?_;refine b2 C G' σ2 H2 env2 n' _ _ hK hT hn S2 q2 ⟨fun e3 n3 G3 σ3 H3 q3 S3 x3=>?_,fun y n3 v G3 σ3 H3 e3 q3 S3 r3 x3=>?_,fun e3 n3 G3 σ3 H3 q3 S3 x3=>?_,fun e3 n3 G3 σ3 H3 q3 S3 x3=>?_⟩
     · exact⟨G3,e3,n3,S3,(x'.trans x2).trans x3,q3⟩
     · exact L1.rt _ _ _ _ _ _ _ q3 S3 r3 ((x'.trans x2).trans x3)
     · exact L1.nx _ _ _ _ _ q3 S3 ((x'.trans x2).trans x3)
     · exact⟨G3,e3,n3,S3,(x'.trans x2).trans x3,q3⟩
   · have ei:i=xs.length:=by omega
     subst ei;rw [x2M] at q';exact .inl ⟨hstop _ (x0m _),L1.nx _ _ _ _ _ q' S' x'⟩
 · exact hp.elim
def a7W (i:Nat)(pk pv:pE):pS:=fun D env n=>pk env n fun y env1 n1=>pv env1 n1 fun x env2 n2=>match y with | .tup ys=>(match a0L ys with | some k=>D.nx (env2.set i (some (.ow (.dt [k]) [x]))) n2 | none=>False) | _=>False
theorem a9z (i:Nat)(hr:∀z,Room k0 (F z).A)(h:∀z te,EW (F z) (.Dict [some ek] [e] pos) te->SW (F z) st (tAsg te (a1I i)))(hk:QE T K F ek pk)(hv:QE T K F e pv):QS T np K F st (a7W i pk pv):=by
 obtain⟨tk,k1,k2⟩:=hk;obtain⟨tv,v1,v2⟩:=hv;refine⟨_,fun z=>(h z _ ⟨a8i (Nat.lt_of_succ_lt (a8G (hr z))) (k1 z) (v1 z)⟩).h,fun C G σ H env n PD D hK hT hn S hp L=>?_⟩;intro p hn1;have S1:=S.hide (ob:=.dT []) trivial hn1;have pM:p∉C.M0:=fun z=>S.fresh hn1 (S.sup p z);have p0:p∉C.pots0:=fun z=>pM (S.p0.1 p z);refine k2 (C.hid p (.dT [])) _ σ _ env n _ _ hK hT S1 hp fun y env1 n1 v H1 q1 S1 r1 f1=>?_;refine v2 (C.hid p (.dT [])) _ σ _ env1 n1 _ _ hK hT S1 q1 fun x env2 n2 u H2 q2 S2 r2 f2=>?_;refine⟨S2.hid_at p0,?_⟩
 split at q2
 · rename_i ys
   split at q2
   · rename_i k ek;obtain⟨b,ws,rfl,atb,rb⟩:=r1.fr f2;rw [a0O ek] at rb;have eb:H2 b=some (.tup (k.map kV)):=by rw [<- a0Q k rb];exact atb.2
     subst hK;obtain⟨S3,f3⟩:=S2.unhide (S.old hn1) pM p0 i (.dt [k]) (xs:=[x]) (vs:=[u]) (.one r2);refine⟨b,k,u,rfl,eb,?_⟩;exact L.nx _ _ _ _ _ q2 S3 ((a1A hn1).trans (Ext.fr ((f1.trans f2).trans f3)))
   · exact q2.elim
 · exact q2.elim
def getT:List (List Key)->List PV->List Key->Option PV
 | k'::ks,x::xs,k=>if k'=k then some x else getT ks xs k
 | _,_,_=>none
theorem a4n {G:Gh}{H:Hp}(k:List Key):∀(kvs:List (List Key×V)) (xs:List PV),Reps K G H xs (kvs.map (·.2))->(getT (kvs.map (·.1)) xs k=none/\valV kvs k=none)\/∃x v,getT (kvs.map (·.1)) xs k=some x/\valV kvs k=some v/\Rep K G H x v
 | [],xs,_=>.inl ⟨by cases xs <;> rfl,rfl⟩
 | (k',v')::kvs,[],h=>by cases h
 | (k', v') :: kvs, x :: xs, h => by
   obtain⟨v,t,e,h1,h2⟩:=h;rw [x1f] at e;injection e with e1 e2;subst e1;subst e2
   by_cases c:k'=k
   · refine .inr ⟨x,v',?_,?_,h1⟩
     · show(if k'=k then some x else _)=_;rw [if_pos c]
     · show(((k',v')::kvs).find? fun kv=>decide (kv.1=k)).map (·.2)=_;rw [List.find?_cons_of_pos (by exact decide_eq_true c)];rfl
   · have e1:getT (((k',v')::kvs).map (·.1)) (x::xs) k=getT (kvs.map (·.1)) xs k:=by
       show(if k'=k then some x else getT (kvs.map (·.1)) xs k)=_;rw [if_neg c]
     have e2:valV ((k',v')::kvs) k=valV kvs k:=by
       show(((k',v')::kvs).find? fun kv=>decide (kv.1=k)).map (·.2)=_;rw [List.find?_cons_of_neg (by simpa using c)];rfl
     rw [e1,e2];exact a4n k kvs xs h2
theorem DGet.tR {H:Hp}{a b:Addr}{k:List Key}(e:Rd H a (.dT kvs))(eb:H b=some (.tup (k.map kV))):DGet H a (.ref b) (valV kvs k):=.inr ⟨kvs,k,b,e,rfl,eb,rfl⟩
theorem a5q {G:Gh}{H:Hp}{ys:List PV}{v:V}{k:List Key}(r:Rep K G H (.tup ys) v)(ek:a0L ys=some k):∃b,v=.ref b/\H b=some (.tup (k.map kV)):=by
 obtain⟨b,ws,rfl,atb,rb⟩:=r;rw [a0O ek] at rb;exact⟨b,rfl,by rw [<- a0Q k rb];exact atb.2⟩
def qIxT (pd pk:pE):pE:=fun env n R=>pd env n fun d env1 n1=>pk env1 n1 fun k env2 n2=>match d,k with | .fdt ks xs,.tup ys=>(match a0L ys with | some key=>(match getT ks xs key with | some x=>R x env2 n2 | none=>False) | none=>False) | _,_=>False
theorem b0M (hr:∀z,Room k0 (F z).A)(he:QE T K F e pe)(hc:QE T K F c pc)(hs:NoSl c:=by exact fun _ _=>rfl):QE T K F (.Subscript e c pos) (qIxT pe pc):=by
 obtain⟨t,a1,a2⟩:=he;obtain⟨u,b1,b2⟩:=hc;refine⟨tDGet t u,fun z=>b2q (a8G (hr z)) (a1 z) (b1 z) hs,fun C G σ H env n R Q hK hT S hp k=>?_⟩;refine a2 C G σ H env n _ _ hK hT S hp fun x env1 n1 v H1 q1 S1 r1 f1=>?_;refine b2 C G σ H1 env1 n1 _ _ hK hT S1 q1 fun y env2 n2 v2 H2 q2 S2 r2 f2=>?_
 split at q2
 · rename_i ks xs ys
   split at q2
   · rename_i key e2;obtain⟨a,kvs,rfl,hM,ha,ek,rx⟩:=r1;have ha2:Rd H2 a (.dT kvs):=Rd.keep (u:=.dT kvs) ha fun o e=>f2 a o hM e;have rx2:Reps K G H2 xs (kvs.map (·.2)):=rx.fr f2;obtain⟨b,rfl,eb⟩:=a5q r2 e2;rw [<- ek] at q2;rcases a4n key kvs xs rx2 with⟨g1,g2⟩ | ⟨x,v,g1,g2,g3⟩
     · rw [g1] at q2;exact q2.elim
     · rw [g1] at q2;have dg:DGet H2 a (.ref b) (valV kvs key):=DGet.tR ha2 eb;rw [g2] at dg;exact⟨a,v,rfl,dg,k _ _ _ _ _ q2 S2 g3 (f1.trans f2)⟩
   · exact q2.elim
 · exact q2.elim
def a7Y (i:Nat)(pk pz:pE):pE:=fun env n R=>(∃ks xs,env[i]?=some (some (.ow (.dt ks) xs)))/\pk env n fun y env1 n1=>pz env1 n1 fun z env2 n2=>match env2[i]?,y with
 | some (some (.ow (.dt ks) xs)),.tup ys=>(match a0L ys with | some k=>ks.length=xs.length/\R ((getT ks xs k).getD z) env2 n2 | none=>False)
 | _,_=>False
theorem a9E (i:Nat){ap:Pos}(hr:∀z,Room k0 (F z).A)(hv:∀z,EW (F z) e (tVar i))(hc:QE T K F c pc)(hf:QE T K F f pf)(hm:∀z,M2 (F z) e "get" ap c f pos:=by intro _;exact⟨rfl,rfl,rfl,rfl⟩):QE T K F (.Call (.Attribute e "get" ap) [c,f] [] pos) (a7Y i pc pf):=by
 obtain⟨u,b1,b2⟩:=hc;obtain⟨w,c1,c2⟩:=hf;refine⟨b0D (tVar i) u w,fun z=>a9X (a8G (hr z)) (hv z).h (b1 z) (c1 z) (hm z),fun C G σ H env n R Q hK hT S hp k=>?_⟩;obtain⟨⟨ks0,xs0,e0⟩,hp⟩:=hp;obtain⟨a,vs0,ev,h1,h2,h3,h4,r⟩:=S.slots i _ e0;refine⟨.ref a,ev,a,rfl,.inr ⟨_,.inl h4⟩,?_⟩;refine b2 C G σ H env n _ _ hK hT S hp fun y env2 n2 v2 H2 q2 S2 r2 f2=>?_;refine c2 C G σ H2 env2 n2 _ _ hK hT S2 q2 fun z env3 n3 v3 H3 q3 S3 r3 f3=>?_
 split at q3
 · rename_i ks xs ys ex
   split at q3
   · rename_i key e2;obtain⟨hl,q3⟩:=q3;obtain⟨a',vs,ev',g1,g2,g3,g4,rr⟩:=S3.slots i _ ex;rw [ev] at ev';cases ev';have hlv:ks.length=vs.length:=by rw [hl];exact rr.length
     obtain⟨b,rfl,eb⟩:=a5q (r2.fr f3) e2;have g4':Rd H3 a (.dT (ks.zip vs)):=.inl g4;refine⟨valV (ks.zip vs) key,DGet.tR g4' eb,?_⟩;have em:(ks.zip vs).map (·.1)=ks:=x2N (x2d hlv);have em2:(ks.zip vs).map (·.2)=vs:=x3J (x2d hlv.symm);have rr':Reps K G H3 xs ((ks.zip vs).map (·.2)):=by rw [em2,<- hK];exact rr
     rcases a4n key (ks.zip vs) xs rr' with⟨k1,k2⟩ | ⟨x,v,k1,k2,k3⟩
     · rw [em] at k1;rw [k1] at q3;rw [k2];exact k _ _ _ _ _ q3 S3 r3 (f2.trans f3)
     · rw [em] at k1;rw [k1] at q3;rw [k2];exact k _ _ _ _ _ q3 S3 k3 (f2.trans f3)
   · exact q3.elim
 · exact q3.elim
def memT (ks:List (List Key))(k:List Key):Bool:=ks.any fun z=>decide (z=k)
theorem b0h {k:List Key}:memT ks k=true↔k∈ks:=by
 unfold memT;rw [x3H];exact⟨fun⟨x,h,e⟩=>by rw [<- of_decide_eq_true e];exact h,fun h=>⟨k,h,decide_eq_true rfl⟩⟩
theorem a7s {k:List Key}:(valV kvs k).isSome=memT (kvs.map (·.1)) k:=by
 rw [<- a5S];unfold memT;rw [List.any_map];rfl
def wInT:w2:=fun x y R=>match x,y with | .tup ys,.fdt ks _=>(match a0L ys with | some k=>R (.bl (memT ks k)) | none=>False) | _,_=>False
theorem W2.inT:W2 K rInDK wInT:=by
 intro G H x y v u R Q hf rx ry hw k;unfold wInT at hw
 split at hw
 · rename_i ys ks xs
   split at hw
   · rename_i key ek;obtain⟨a,kvs,rfl,hM,ha,ek2,rr⟩:=ry.rep (fun _ z=>nomatch z);obtain⟨b,rfl,eb⟩:=a5q (rx.rep (fun _ z=>nomatch z)) ek;have ha':Rd H a (.dT kvs):=ha;refine⟨a,valV kvs key,rfl,DGet.tR ha' eb,k _ _ _ hw (Same.refl _) ?_⟩;rw [a7s,ek2];rfl
   · exact hw.elim
 · exact hw.elim
theorem cInT {k:Nat}(hr:∀z,Room k (F z).A):Cmp K F .In wInT:=⟨_,fun z=>b2y (a8G (hr z)),W2.inT⟩
end
end Pu
end
section
namespace Tb
open PySem L2 Pu
abbrev a0E:pF:=a5h
def a1w:pS:=(qSeq (qIfS (qB (qOp (wEq 4) (qV 1) (qC (.str (x0i "t"))))) (qRet (qL (qCat (qV 0) (qL (qLst (a0h (qV 2) qNil)))))) qNx)
   (qSeq (qIfS (qB (qOp (wEq 4) (qV 1) (qC (.str (x0i "u"))))) (qRet (qIf (qAnd (qB (qOp (wNe 4) (qV 0) (qL (qLst qNil)))) (qB (qOp wLe (qOp wSub (qOp wSub (qV 2) (qOp wIx (qV 0) (qUn wNeg (qC (.int 1))))) (qC (.int 1))) (qV 3)))) (qSl (qV 0) qNo (a4a (qUn wNeg (qC (.int 1))))) (qC .non))) qNx)
   (qRet (qIf (qOr (qB (qOp (wEq 4) (qV 1) (qC (.str (x0i "d"))))) (qB (qOp (wEq 4) (qV 0) (qL (qLst qNil))))) (qV 0) (qC .non)))))
def a0H:pF:=fnP ["_law_opened_here","_law_mark","_law_place","_law_reach"] ["_law_opened_here","_law_mark","_law_place","_law_reach"] a1w
def a1Q:pS:=(qSeq (a7W 2 (qTup qNil) (qC (.int 1)))
   (qSeq (qFor (a3Z (qV 0)) (gN 3) (qSeq (b1V 4)
   (qSeq (a9K 2 (gN 5) (qFor (qIt (qTup (a0h (qC (.str (x0i "d"))) (a0h (qC (.str (x0i "o"))) (a0h (qC (.str (x0i "t"))) (a0h (qC (.str (x0i "u"))) qNil)))))) (gN 6) (qSeq (qSet 7 (a1e a0H (a0h (qL (a9J (qV 5))) (a0h (qV 6) (a0h (qV 3) (a0h (qV 1) qNil))))))
   (qIfS (qB (qOp a6H (qV 7) (qC .non))) (a8a 4 (qUn a2G (qV 7)) (qOp wAdd (a7Y 4 (qUn a2G (qV 7)) (qC (.int 0))) (qIxT (qV 2) (qV 5)))) qNx))))
   (a9I 2 4))))
   (a1v 2 (qRet (qIxT (qV 2) (qTup qNil))))))
def a1l:pF:=fnP ["_law_many","_law_reach","_law_ways","_law_place","_law_behind","_law_opened_here","_law_mark","_law_after"] ["_law_many","_law_reach"] a1Q
def a1y:pS:=(qSeq (qSet 2 (qC (.int 1)))
   (qSeq (qFor (b1X (qOp wSub (qV 1) (qC (.int 1))) (qUn wNeg (qC (.int 1)))) (gN 3) (qSeq (qSet 2 (qOp wSub (qOp wAdd (qV 2) (qUn wInt (qOp (wEq 4) (qOp wIx (qV 0) (qV 3)) (qC (.str (x0i "u")))))) (qUn wInt (qOp (wEq 4) (qOp wIx (qV 0) (qV 3)) (qC (.str (x0i "t")))))))
   (qIfS (qB (qOp (wEq 4) (qV 2) (qC (.int 0)))) (qRet (qV 3)) qNx)))
   (qRet (qC .non))))
def a1b:pF:=fnP ["_law_marks","_law_place","_law_left","_law_at"] ["_law_marks","_law_place"] a1y
def a1n:pS:=(qSeq (qIfS (qOr (qNot (qB (qUn (wIsi "tuple") (qV 1)))) (qNot (qB (a6e wLe wLe (qC (.int 1)) (qUn wLen (qV 1)) (qC (.int 24)))))) (qRet (qC (.bl false))) qNx)
   (qSeq (qIfS (qNot (qB (qUn wAll (qL (a4J [none] (qIt (qV 1)) (gN 0) qTru (a9L (qUn (wIsi "str") (qV 0)) (qOp (wIn 4 false) (qV 0) (qTup (a0h (qC (.str (x0i "u"))) (a0h (qC (.str (x0i "t"))) (a0h (qC (.str (x0i "d"))) (a0h (qC (.str (x0i "o"))) qNil)))))))))))) (qRet (qC (.bl false))) qNx)
   (qSeq (qOwn 2 (qLst qNil))
   (qSeq (qFor (a7Z (qV 1)) (gTp 2 (gCn (gN 3) (gCn (gN 4) gNl))) (qIfS (qB (qOp (wEq 4) (qV 4) (qC (.str (x0i "u"))))) (qSeq (qSet 5 (a1e a1b (a0h (qV 1) (a0h (qV 3) qNil))))
   (qSeq (qIfS (qOr (qB (qOp wIsN (qV 5) (qC .non))) (qOr (qB (qOp wGt (qOp wSub (qOp wSub (qV 3) (qV 5)) (qC (.int 1))) (qV 0))) (qB (qOp (wIn 4 false) (qC (.str (x0i "o"))) (qSl (qV 1) (a4a (qV 5)) (a4a (qV 3))))))) (qRet (qC (.bl false))) qNx)
   (a5s (a1V 2 (qV 5))))) qNx))
   (qRet (qOp (wEq 4) (qUn wLen (qO 2)) (b0R (qL (a9J (qV 1))) (qC (.str (x0i "t"))))))))))
def a0t:pF:=fnP ["_law_reach","_law_thing","_law_found","_law_place","_law_mark","_law_at"] ["_law_reach","_law_thing"] a1n
def a1x:pS:=(qSeq (qIfS (qB (qOp wGt (qUn wLen (qV 0)) (qOp wSub (qV 2) (qV 1)))) (qRet (qC (.bl false))) qNx)
   (qRet (qUn wAll (qL (a4J [none,none,some 3,some 1] (b1W (qUn wRev (qV 0))) (gTp 2 (gCn (gN 0) (gCn (gN 1) gNl))) qTru (qOp wLe (qOp wSub (qOp wSub (qOp wAdd (qV 3) (qV 0)) (qV 1)) (qC (.int 1))) (qV 2)))))))
def a0T:pF:=fnP ["_law_opened_here","_law_place","_law_many","_law_reach"] ["_law_opened_here","_law_place","_law_many","_law_reach"] a1x
def a2g:pS:=(qSeq (qPar 3 4 (sO (qLst qNil)) (sV (qL (qLst qNil))))
   (qSeq (qFor (a3Z (qV 1)) (gN 5) (qSeq (qOwn 6 (qLst qNil))
   (qSeq (qFor (qIt (qTup (a0h (qC (.str (x0i "o"))) (a0h (qC (.str (x0i "t"))) (a0h (qC (.str (x0i "d"))) (a0h (qC (.str (x0i "u"))) (a0h (qC (.str (x0i "o"))) (a0h (qC (.str (x0i "t"))) (a0h (qC (.str (x0i "u"))) qNil))))))))) (gN 7) (qSeq (qSet 8 (a1e a0H (a0h (qV 4) (a0h (qV 7) (a0h (qV 5) (a0h (qV 2) qNil))))))
   (qIfS (qAnd (qB (qOp a6H (qV 8) (qC .non))) (qB (a1e a0T (a0h (qV 8) (a0h (qOp wAdd (qV 5) (qC (.int 1))) (a0h (qV 1) (a0h (qV 2) qNil))))))) (a5s (a1V 6 (qTup (a0h (qV 7) (a0h (qV 8) qNil))))) qNx)))
   (qSeq (qAsg (qOpR wIx (qO 6) (a1e a0E (a0h (qV 0) (a0h (qUn wLen (qO 6)) qNil)))) (gTp 2 (gCn (gN 7) (gCn (gN 4) gNl))))
   (a5s (a1V 3 (qV 7)))))))
   (qRet (qUn a2G (qO 3)))))
def a1C:pF:=fnP ["_law_hand_here","_law_many","_law_reach","_law_marks","_law_opened_here","_law_place","_law_some","_law_mark","_law_after"] ["_law_hand_here","_law_many","_law_reach"] a2g
def a1P:pS:=(qSeq (qIfS (qOr (qNot (qB (qUn (wIsi "tuple") (qV 3)))) (qB (qOp (wNe 4) (qUn wLen (qV 3)) (a1e a1l (a0h (qV 1) (a0h (qV 2) qNil)))))) (qRet (qC (.bl false))) qNx)
   (qSeq (qIfS (qNot (qB (qUn wAll (qL (a4J [none,none] (qZip false false (qV 3) (qSl (qV 3) (a4a (qC (.int 1))) qNo)) (gTp 2 (gCn (gN 0) (gCn (gN 1) gNl))) qTru (qOp wLtT (qV 0) (qV 1))))))) (qRet (qC (.bl false))) qNx)
   (qSeq (qIfS (qNot (qB (qUn wAll (qL (a4J [none,some 1,some 2] (qIt (qV 3)) (gN 0) qTru (a9L (qOp (wEq 4) (qUn wLen (qV 0)) (qV 1)) (a1e a0t (a0h (qV 2) (a0h (qV 0) qNil))))))))) (qRet (qC (.bl false))) qNx)
   (qSeq (a7X 4 (qL (a4J [none] (qIt (qV 3)) (gN 0) qTru (qTup (a0h (qV 0) (a0h (qC (.bl true)) qNil))))))
   (qSeq (qFor (a3Z (qC (.int 30))) (gN 5) (qSeq (qSet 6 (qUn a2G (qL (a4J [none,some 0] (a3Z (qV 1)) (gN 0) qTru (qOp wIx (qC (.str (x0i "utdo"))) (a1e a0E (a0h (qV 1) (a0h (qC (.int 4)) qNil))))))))
   (qSeq (qIfS (qB (qOp (wEq 4) (a1e a0E (a0h (qV 0) (a0h (qC (.int 2)) qNil))) (qC (.int 0)))) (qSeq (qPar 6 7 (sV (a1e a1C (a0h (qV 0) (a0h (qV 1) (a0h (qV 2) qNil))))) (sV (a1e a0E (a0h (qV 0) (a0h (qV 1) qNil)))))
   (qSet 6 (qOp wAdd (qOp wAdd (qSl (qV 6) qNo (a4a (qV 7))) (qTup (a0h (qOp wIx (qC (.str (x0i "utdo"))) (a1e a0E (a0h (qV 0) (a0h (qC (.int 4)) qNil)))) qNil))) (qSl (qV 6) (a4a (qOp wAdd (qV 7) (qC (.int 1)))) qNo)))) qNx)
   (a1v 4 (qIfS (qB (qOp (wNe 4) (qOp wInT (qV 6) (qV 4)) (a1e a0t (a0h (qV 2) (a0h (qV 6) qNil))))) (qRet (qC (.bl false))) qNx)))))
   (qRet (qC (.bl true))))))))
def a1k:pF:=fnP ["_law_hand_here","_law_many","_law_reach","_law_found","_law_known","_law_turn","_law_marks","_law_at"] ["_law_hand_here","_law_many","_law_reach","_law_found"] a1P
def a4d:pS:=(qSeq (qSet 4 (qUn wLen (qV 2)))
   (qSeq (qOwn 5 (a4I [none,none,some 2,some 4] (qIt (qV 0)) (gN 0) (qIl (qOp wIx (qV 2) (qOp wSub (qV 3) (qC (.int 1))))) (gN 1) qTru (qOp wAdd (qTup (a0h (qV 0) qNil)) (qV 1))))
   (qSeq (qFor (a3Z (qOp wAdd (qOp wMin (qV 3) (qOp wSub (qV 4) (qC (.int 2)))) (qC (.int 1)))) (gN 6) (b1Y 5 (qL (a4I [none,none,some 2,some 6,some 4] (qIl (qOp wIx (qV 1) (qV 6))) (gN 0) (qIl (qOp wIx (qV 2) (qOp wSub (qOp wSub (qV 4) (qC (.int 2))) (qV 3)))) (gN 1) qTru (qOp wAdd (qOp wAdd (qOp wAdd (qTup (a0h (qC (.str (x0i "t"))) qNil)) (qV 0)) (qTup (a0h (qC (.str (x0i "u"))) qNil))) (qV 1))))))
   (a9H 5))))
def a2u:pF:=fnP ["singles","closed","shorter","reach","many","words","inner"] ["singles","closed","shorter","reach"] a4d
def a2f:pS:=(qSeq (qOwn 2 (qLst (a0h (qL (qLst (a0h (qTup qNil) qNil))) qNil)))
   (qSeq (qOwn 3 (qLst (a0h (qL (qLst (a0h (qTup qNil) qNil))) qNil)))
   (qSeq (qFor (a3Z (qV 0)) (gN 4) (qSeq (a5s (a1V 2 (a6d (a1e a2u (a0h (qTup (a0h (qC (.str (x0i "d"))) qNil)) (a0h (qV 2) (a0h (qV 2) (a0h (qV 1) qNil))))))))
   (a5s (a1V 3 (a6d (a1e a2u (a0h (qTup (a0h (qC (.str (x0i "d"))) (a0h (qC (.str (x0i "o"))) qNil))) (a0h (qV 2) (a0h (qV 3) (a0h (qV 1) qNil))))))))))
   (qRet (qUn a2G (qL (a3Y (qOpR wIx (qO 3) (qV 0)))))))))
def a1g:pF:=fnP ["many","reach","closed","words","length"] ["many","reach"] a2f
def a9Z:pS:=(qSeq (qFor (a3Z (qOp wAdd (qC (.int 1)) (qUn wLen (qSl (qV 0) qNo (a4a (qC (.int 3))))))) (gN 1) (qSeq (a4b 2 (qV 0) (qV 1))
   (qSeq (qPar 3 4 (sV (qOp wAdd (qC (.int 1)) (a1e a0E (a0h (qV 2) (a0h (qC (.int 7)) qNil))))) (sV (a1e a0E (a0h (qV 2) (a0h (qC (.int 8)) qNil)))))
   (qIfS (qNot (qB (a1e a1k (a0h (qV 2) (a0h (qV 3) (a0h (qV 4) (a0h (a1e a1g (a0h (qV 3) (a0h (qV 4) qNil))) qNil))))))) (qRet (qC (.bl false))) qNx))))
   (qRet (qC (.bl true))))
end Tb
end
section
namespace Tb
open PySem L2 Pu
def top (i:Nat):Stmt:=PySem.Challenge.pw_touchboats_k15_all_words_told.main.body.getD i (.Pass ⟨0,0,0,0⟩)
section
variable {P:x0A}{w:World}{K:x0a}{mg:Str->Option Value}{base:Heap}{Pt cd:Addr}
theorem a4j (F0:Fn0 K mg "_law_opened" (top 6)):Kn P w K mg base "_law_opened" 1 ["_law_opened_here","_law_mark","_law_place","_law_reach"] (a0z K potL a0H):=by
 have sc:a0D ["_law_opened_here","_law_mark","_law_place","_law_reach"] ["_law_opened_here","_law_mark","_law_place","_law_reach"] (a0i (top 6)):=⟨rfl,rfl,rfl,by decide +kernel,rfl,by decide +kernel,by decide +kernel⟩
 exact a4o F0 sc (fun _ _ _ _ _ _=>bd4 fun _ _ _ _=>rfl) (k:=0) (body:=a1w) (fun f cdv A outer s H E hr=>(a0g (a1Z (a0X (cEq 4 fun _=>hr) (a0a 1 fun _=>vw 1) (QE.r a0u) (a0C _)) (a0k (a0J (QN.ee (qn_cat (QE.r (a0a 0 fun _=>vw 0)) (QE.r (QN.ee (a1L (a0b (a0a 2 fun _=>vw 2) a0n)))))))) a0I)
   (a0g (a1Z (a0X (cEq 4 fun _=>hr) (a0a 1 fun _=>vw 1) (QE.r a0u) (a0C _)) (a0k (a0J (qe_if (QW.qt (b0K (a0X (cNe 4 fun _=>hr) (a0a 0 fun _=>vw 0) (QE.r (QN.ee (a1L a0n))) (a0C _)) (a7Q (a0X cLe (a1q (a1q (a0a 2 fun _=>vw 2) (a4H (a0a 0 fun _=>vw 0) (a7U a0v))) a0v) (QE.r (a0a 3 fun _=>vw 3)) (a0C _))))) (a6R (a0a 0 fun _=>vw 0) a7S (a2e (a7U a0v))) a3B))) a0I)
   (a0k (a0J (qe_if (QW.qt (a7P (a0X (cEq 4 fun _=>hr) (a0a 1 fun _=>vw 1) (QE.r a0u) (a0C _)) (a5X (a0X (cEq 4 fun _=>hr) (a0a 0 fun _=>vw 0) (QE.r (QN.ee (a1L a0n))) (a0C _))))) (a0a 0 fun _=>vw 0) a3B))))))
theorem a4U (F0:Fn0 K mg "_law_count" (top 11))(g__law_opened:Kn P w K mg base "_law_opened" 1 ["_law_opened_here","_law_mark","_law_place","_law_reach"] (a0z K potL a0H))(m_list:mg "list"=none)(m_range:mg "range"=none)(m_tuple:mg "tuple"=none):Kn P w K mg base "_law_count" 2 ["_law_many","_law_reach"] (a0z K potL a1l):=by
 have sc:a0D ["_law_many","_law_reach","_law_ways","_law_place","_law_behind","_law_opened_here","_law_mark","_law_after"] ["_law_many","_law_reach"] (a0i (top 11)):=⟨rfl,rfl,rfl,by decide +kernel,rfl,by decide +kernel,by decide +kernel⟩
 exact a4o F0 sc (fun _ _ _ _ _ _=>bd2 fun _ _=>rfl) (k:=1) (body:=a1Q) (fun f cdv A outer s H E hr=>(a0g (a9z 2 (fun _=>hr) (fun _=>a0W (i:=2) sc.nd rfl (Or.inl rfl)) (a1d a0n) a0v)
   (a0g (a2b (fun _=>rfl) (a1c (fun _=>rfl) (fun _=>m_range) (a0a 0 fun _=>vw 0)) (a0q fun _=>a0r 3 sc.nd rfl (Or.inl rfl)) (a0g (b1O 4 (fun _=>a0W (i:=4) sc.nd rfl (Or.inl rfl)))
   (a0g (b1R 2 (fun _=>rfl) (fun _=>vw 2) (a0q fun _=>a0r 5 sc.nd rfl (Or.inl rfl)) (a0k (a2b (fun _=>rfl) (a3A (a1d (a0b a0u (a0b a0u (a0b a0u (a0b a0u a0n)))))) (a0q fun _=>a0r 6 sc.nd rfl (Or.inl rfl)) (a0g (a2I 7 (fun _=>a0W (i:=7) sc.nd rfl (Or.inl rfl)) (a1u (fun _=>g__law_opened) (fun _=>hr) (by decide) (fun _=>rfl) (a0b (QN.ee (a7T (fun _=>rfl) (fun _=>m_list) (QE.r (a0a 5 fun _=>vw 5)))) (a0b (a0a 6 fun _=>vw 6) (a0b (a0a 3 fun _=>vw 3) (a0b (a0a 1 fun _=>vw 1) a0n))))))
   (a0k (a1Z (a0X b1k (a0a 7 fun _=>vw 7) (QE.r a3B) (a0C _)) (a0k (a9B 4 (fun _=>b1z (a8G hr) (vw 4)) (a1j (a9E 4 (fun _=>hr) (fun _=>vw 4) (a2n (fun _=>rfl) (fun _=>m_tuple) (QE.r (a0a 7 fun _=>vw 7))) a0v) (b0M (fun _=>hr) (a0a 2 fun _=>vw 2) (a0a 5 fun _=>vw 5))) (a2n (fun _=>rfl) (fun _=>m_tuple) (QE.r (a0a 7 fun _=>vw 7))))) a0I))))))
   (a0k (b1Q 2 4 (fun _=>a0W (i:=2) sc.nd rfl (Or.inl rfl)) (fun _=>vw 4))))))
   (a0k (a3z 2 (a0J (b0M (fun _=>hr) (a0a 2 fun _=>vw 2) (a1d a0n))))))))
theorem a4l (F0:Fn0 K mg "_law_closed" (top 9))(m_int:mg "int"=none)(m_range:mg "range"=none):Kn P w K mg base "_law_closed" 1 ["_law_marks","_law_place"] (a0z K potL a1b):=by
 have sc:a0D ["_law_marks","_law_place","_law_left","_law_at"] ["_law_marks","_law_place"] (a0i (top 9)):=⟨rfl,rfl,rfl,by decide +kernel,rfl,by decide +kernel,by decide +kernel⟩
 exact a4o F0 sc (fun _ _ _ _ _ _=>bd2 fun _ _=>rfl) (k:=0) (body:=a1y) (fun f cdv A outer s H E hr=>(a0g (a2I 2 (fun _=>a0W (i:=2) sc.nd rfl (Or.inl rfl)) a0v)
   (a0g (a2b (fun _=>rfl) (b1U (fun _=>rfl) (fun _=>m_range) (a1q (a0a 1 fun _=>vw 1) a0v) (a7U a0v)) (a0q fun _=>a0r 3 sc.nd rfl (Or.inl rfl)) (a0g (a2I 2 (fun _=>a0W (i:=2) sc.nd rfl (Or.inl rfl)) (a1q (a1j (a0a 2 fun _=>vw 2) (a6a (fun _=>rfl) (fun _=>m_int) (QE.r (a2K (cEq 4 fun _=>hr) (a4H (a0a 0 fun _=>vw 0) (a0a 3 fun _=>vw 3)) (QE.r a0u) (a0C _))))) (a6a (fun _=>rfl) (fun _=>m_int) (QE.r (a2K (cEq 4 fun _=>hr) (a4H (a0a 0 fun _=>vw 0) (a0a 3 fun _=>vw 3)) (QE.r a0u) (a0C _))))))
   (a0k (a1Z (a0X (cEq 4 fun _=>hr) (a0a 2 fun _=>vw 2) (QE.r a0v) (a0C _)) (a0k (a0J (a0a 3 fun _=>vw 3))) a0I))))
   (a0k (a0J a3B)))))
theorem a3v (F0:Fn0 K mg "_law_is_word" (top 10))(g__law_closed:Kn P w K mg base "_law_closed" 1 ["_law_marks","_law_place"] (a0z K potL a1b))(a2R:mg "all"=none)(m_enumerate:mg "enumerate"=none)(m_isinstance:mg "isinstance"=none)(m_len:mg "len"=none)(m_list:mg "list"=none)(m_str:mg "str"=none)(m_tuple:mg "tuple"=none):Kn P w K mg base "_law_is_word" 2 ["_law_reach","_law_thing"] (a0z K potL a0t):=by
 have sc:a0D ["_law_reach","_law_thing","_law_found","_law_place","_law_mark","_law_at"] ["_law_reach","_law_thing"] (a0i (top 10)):=⟨rfl,rfl,rfl,by decide +kernel,rfl,by decide +kernel,by decide +kernel⟩
 exact a4o F0 sc (fun _ _ _ _ _ _=>bd2 fun _ _=>rfl) (k:=1) (body:=a1n) (fun f cdv A outer s H E hr=>(a0g (a1Z (QW.qt (a7P (a2X (a2W (a7V (n:="tuple") (by decide) (fun _=>rfl) (fun _=>m_isinstance) (a0a 1 fun _=>vw 1) (fun _=>tyw rfl m_tuple a4s)))) (a5X (a2X (a9y cLe cLe a0v (a2J (fun _=>rfl) (fun _=>m_len) (QE.r (a0a 1 fun _=>vw 1))) a0v))))) (a0k (a0J a2P)) a0I)
   (a0g (a1Z (a2X (a2W (a6c (fun _=>rfl) (fun _=>rfl) (fun _=>a2R) (QE.r (QN.ee (a2A (N:=["_law_one"]) (cs:=[none]) (fun _=>a0Z rfl rfl rfl rfl trivial rfl rfl rfl) (fun _=>rfl) (a3A (a0a 1 fun _=>vw 1)) (a0q fun _=>a0r 0 (show x2o (["_law_one"]:List Str) by decide +kernel) rfl (Or.inl rfl)) a1M (b0Q (a7V (n:="str") (by decide) (fun _=>rfl) (fun _=>m_isinstance) (a0a 0 fun _=>vw 0) (fun _=>tyw rfl m_str bt_str)) (b0L (a2K (cIn 4 fun _=>hr) (a0a 0 fun _=>vw 0) (QE.r (a1d (a0b a0u (a0b a0u (a0b a0u (a0b a0u a0n)))))) rfl))))))))) (a0k (a0J a2P)) a0I)
   (a0g (a5Y 2 (fun _=>a0W (i:=2) sc.nd rfl (Or.inl rfl)) (a1L a0n))
   (a0g (a2b (fun _=>rfl) (a9D (fun _=>rfl) (fun _=>m_enumerate) (a0a 1 fun _=>vw 1)) (a5Z (fun _=>rfl) (a1i (a0q fun _=>a0r 3 sc.nd rfl (Or.inl rfl)) (a1i (a0q fun _=>a0r 4 sc.nd rfl (Or.inl rfl)) a3X))) (a0k (a1Z (a0X (cEq 4 fun _=>hr) (a0a 4 fun _=>vw 4) (QE.r a0u) (a0C _)) (a0g (a2I 5 (fun _=>a0W (i:=5) sc.nd rfl (Or.inl rfl)) (a1u (fun _=>g__law_closed) (fun _=>hr) (by decide) (fun _=>rfl) (a0b (a0a 1 fun _=>vw 1) (a0b (a0a 3 fun _=>vw 3) a0n))))
   (a0g (a1Z (QW.qt (a7P (a0X cIs (a0a 5 fun _=>vw 5) (QE.r a3B) (a0C _)) (a7P (a0X cGt (a1q (a1q (a0a 3 fun _=>vw 3) (a0a 5 fun _=>vw 5)) a0v) (QE.r (a0a 0 fun _=>vw 0)) (a0C _)) (a5X (a0X (cIn 4 fun _=>hr) a0u (QE.r (a6R (a0a 1 fun _=>vw 1) (a2e (a0a 5 fun _=>vw 5)) (a2e (a0a 3 fun _=>vw 3)))) rfl))))) (a0k (a0J a2P)) a0I)
   (a0k (a2Y (fun _=>a2U) (a1N 2 (fun _=>vw 2) (a0a 5 fun _=>vw 5)))))) a0I)))
   (a0k (a0J (a2K (cEq 4 fun _=>hr) (a2J (fun _=>rfl) (fun _=>m_len) (a4G 2 fun _=>vw 2)) (QE.r (a9F (QN.ee (a7T (fun _=>rfl) (fun _=>m_list) (QE.r (a0a 1 fun _=>vw 1)))) a0u)) (a0C _)))))))))
theorem a4k (F0:Fn0 K mg "_law_closes" (top 7))(a2R:mg "all"=none)(m_enumerate:mg "enumerate"=none)(m_len:mg "len"=none):Kn P w K mg base "_law_closes" 1 ["_law_opened_here","_law_place","_law_many","_law_reach"] (a0z K potL a0T):=by
 have sc:a0D ["_law_opened_here","_law_place","_law_many","_law_reach"] ["_law_opened_here","_law_place","_law_many","_law_reach"] (a0i (top 7)):=⟨rfl,rfl,rfl,by decide +kernel,rfl,by decide +kernel,by decide +kernel⟩
 exact a4o F0 sc (fun _ _ _ _ _ _=>bd4 fun _ _ _ _=>rfl) (k:=0) (body:=a1x) (fun f cdv A outer s H E hr=>(a0g (a1Z (a0X cGt (a2J (fun _=>rfl) (fun _=>m_len) (QE.r (a0a 0 fun _=>vw 0))) (QE.r (a1q (a0a 2 fun _=>vw 2) (a0a 1 fun _=>vw 1))) (a0C _)) (a0k (a0J a2P)) a0I)
   (a0k (a0J (a6c (fun _=>rfl) (fun _=>rfl) (fun _=>a2R) (QE.r (QN.ee (a2A (N:=["_law_k","_law_first","_law_reach","_law_place"]) (cs:=[none,none,some 3,some 1]) (fun _=>a0Z rfl rfl rfl rfl ⟨rfl,⟨rfl,trivial⟩⟩ rfl rfl rfl) (fun _=>rfl) (b1T (fun _=>rfl) (fun _=>m_enumerate) (qe_rev (QE.r (a0a 0 fun _=>vw 0)))) (a5Z (fun _=>rfl) (a1i (a0q fun _=>a0r 0 (show x2o (["_law_k","_law_first","_law_reach","_law_place"]:List Str) by decide +kernel) rfl (Or.inl rfl)) (a1i (a0q fun _=>a0r 1 (show x2o (["_law_k","_law_first","_law_reach","_law_place"]:List Str) by decide +kernel) rfl (Or.inl rfl)) a3X))) a1M (a2K cLe (a1q (a1q (a1j (a0a 3 fun _=>vw 3) (a0a 0 fun _=>vw 0)) (a0a 1 fun _=>vw 1)) a0v) (QE.r (a0a 2 fun _=>vw 2)) (a0C _))))))))))
theorem a5D (F0:Fn0 K mg "_law_word" (top 8))(g__law_opened:Kn P w K mg base "_law_opened" 1 ["_law_opened_here","_law_mark","_law_place","_law_reach"] (a0z K potL a0H))(g__law_closes:Kn P w K mg base "_law_closes" 1 ["_law_opened_here","_law_place","_law_many","_law_reach"] (a0z K potL a0T))(g__law_take:Kn P w K mg base "_law_take" 1 ["_law_hand_here","_law_many"] (a0z K potL a5h))(m_len:mg "len"=none)(m_range:mg "range"=none)(m_tuple:mg "tuple"=none):Kn P w K mg base "_law_word" 2 ["_law_hand_here","_law_many","_law_reach"] (a0z K potL a1C):=by
 have sc:a0D ["_law_hand_here","_law_many","_law_reach","_law_marks","_law_opened_here","_law_place","_law_some","_law_mark","_law_after"] ["_law_hand_here","_law_many","_law_reach"] (a0i (top 8)):=⟨rfl,rfl,rfl,by decide +kernel,rfl,by decide +kernel,by decide +kernel⟩
 exact a4o F0 sc (fun _ _ _ _ _ _=>bd3 fun _ _ _=>rfl) (k:=1) (body:=a2g) (fun f cdv A outer s H E hr=>(a0g (a7R 3 4 (fun _=>a7E (i:=3) (j:=4) rfl sc.nd rfl rfl (by decide) rfl rfl rfl) (ql_o (a1L a0n)) (ql_v (QN.ee (a1L a0n))))
   (a0g (a2b (fun _=>rfl) (a1c (fun _=>rfl) (fun _=>m_range) (a0a 1 fun _=>vw 1)) (a0q fun _=>a0r 5 sc.nd rfl (Or.inl rfl)) (a0g (a5Y 6 (fun _=>a0W (i:=6) sc.nd rfl (Or.inl rfl)) (a1L a0n))
   (a0g (a2b (fun _=>rfl) (a3A (a1d (a0b a0u (a0b a0u (a0b a0u (a0b a0u (a0b a0u (a0b a0u (a0b a0u a0n))))))))) (a0q fun _=>a0r 7 sc.nd rfl (Or.inl rfl)) (a0g (a2I 8 (fun _=>a0W (i:=8) sc.nd rfl (Or.inl rfl)) (a1u (fun _=>g__law_opened) (fun _=>hr) (by decide) (fun _=>rfl) (a0b (a0a 4 fun _=>vw 4) (a0b (a0a 7 fun _=>vw 7) (a0b (a0a 5 fun _=>vw 5) (a0b (a0a 2 fun _=>vw 2) a0n))))))
   (a0k (a1Z (QW.qt (b0K (a0X b1k (a0a 8 fun _=>vw 8) (QE.r a3B) (a0C _)) (a7Q (a2W (a1u (fun _=>g__law_closes) (fun _=>hr) (by decide) (fun _=>rfl) (a0b (a0a 8 fun _=>vw 8) (a0b (a1j (a0a 5 fun _=>vw 5) a0v) (a0b (a0a 1 fun _=>vw 1) (a0b (a0a 2 fun _=>vw 2) a0n))))))))) (a0k (a2Y (fun _=>a2U) (a1N 6 (fun _=>vw 6) (a1d (a0b (a0a 7 fun _=>vw 7) (a0b (a0a 8 fun _=>vw 8) a0n)))))) a0I))))
   (a0g (qs_asg (fun _=>sw_asg) (b0N (a4G 6 fun _=>vw 6) (a1u (fun _=>g__law_take) (fun _=>hr) (by decide) (fun _=>rfl) (a0b (a0a 0 fun _=>vw 0) (a0b (a2J (fun _=>rfl) (fun _=>m_len) (a4G 6 fun _=>vw 6)) a0n)))) (a5Z (fun _=>rfl) (a1i (a0q fun _=>a0r 7 sc.nd rfl (Or.inl rfl)) (a1i (a0q fun _=>a0r 4 sc.nd rfl (Or.inl rfl)) a3X))))
   (a0k (a2Y (fun _=>a2U) (a1N 3 (fun _=>vw 3) (a0a 7 fun _=>vw 7))))))))
   (a0k (a0J (a2n (fun _=>rfl) (fun _=>m_tuple) (a4G 3 fun _=>vw 3)))))))
theorem a4T (F0:Fn0 K mg "_law_right" (top 12))(g__law_count:Kn P w K mg base "_law_count" 2 ["_law_many","_law_reach"] (a0z K potL a1l))(g__law_is_word:Kn P w K mg base "_law_is_word" 2 ["_law_reach","_law_thing"] (a0z K potL a0t))(g__law_take:Kn P w K mg base "_law_take" 1 ["_law_hand_here","_law_many"] (a0z K potL a5h))(g__law_word:Kn P w K mg base "_law_word" 2 ["_law_hand_here","_law_many","_law_reach"] (a0z K potL a1C))(a2R:mg "all"=none)(m_dict:mg "dict"=none)(m_isinstance:mg "isinstance"=none)(m_len:mg "len"=none)(m_range:mg "range"=none)(m_tuple:mg "tuple"=none)(m_zip:mg "zip"=none):Kn P w K mg base "_law_right" 3 ["_law_hand_here","_law_many","_law_reach","_law_found"] (a0z K potL a1k):=by
 have sc:a0D ["_law_hand_here","_law_many","_law_reach","_law_found","_law_known","_law_turn","_law_marks","_law_at"] ["_law_hand_here","_law_many","_law_reach","_law_found"] (a0i (top 12)):=⟨rfl,rfl,rfl,by decide +kernel,rfl,by decide +kernel,by decide +kernel⟩
 exact a4o F0 sc (fun _ _ _ _ _ _=>bd4 fun _ _ _ _=>rfl) (k:=2) (body:=a1P) (fun f cdv A outer s H E hr=>(a0g (a1Z (QW.qt (a7P (a2X (a2W (a7V (n:="tuple") (by decide) (fun _=>rfl) (fun _=>m_isinstance) (a0a 3 fun _=>vw 3) (fun _=>tyw rfl m_tuple a4s)))) (a5X (a0X (cNe 4 fun _=>hr) (a2J (fun _=>rfl) (fun _=>m_len) (QE.r (a0a 3 fun _=>vw 3))) (QE.r (a1u (fun _=>g__law_count) (fun _=>hr) (by decide) (fun _=>rfl) (a0b (a0a 1 fun _=>vw 1) (a0b (a0a 2 fun _=>vw 2) a0n)))) (a0C _))))) (a0k (a0J a2P)) a0I)
   (a0g (a1Z (a2X (a2W (a6c (fun _=>rfl) (fun _=>rfl) (fun _=>a2R) (QE.r (QN.ee (a2A (N:=["_law_one","_law_other"]) (cs:=[none,none]) (fun _=>a0Z rfl rfl rfl rfl trivial rfl rfl rfl) (fun _=>rfl) (qi_zip false false (fun _=>rfl) (fun _=>m_zip) (a0a 3 fun _=>vw 3) (a6R (a0a 3 fun _=>vw 3) (a2e a0v) a7S)) (a5Z (fun _=>rfl) (a1i (a0q fun _=>a0r 0 (show x2o (["_law_one","_law_other"]:List Str) by decide +kernel) rfl (Or.inl rfl)) (a1i (a0q fun _=>a0r 1 (show x2o (["_law_one","_law_other"]:List Str) by decide +kernel) rfl (Or.inl rfl)) a3X))) a1M (a2K (cLtT fun _=>hr) (a0a 0 fun _=>vw 0) (QE.r (a0a 1 fun _=>vw 1)) (a0C _)))))))) (a0k (a0J a2P)) a0I)
   (a0g (a1Z (a2X (a2W (a6c (fun _=>rfl) (fun _=>rfl) (fun _=>a2R) (QE.r (QN.ee (a2A (N:=["_law_marks","_law_many","_law_reach"]) (cs:=[none,some 1,some 2]) (fun _=>a0Z rfl rfl rfl rfl ⟨rfl,⟨rfl,trivial⟩⟩ rfl rfl rfl) (fun _=>rfl) (a3A (a0a 3 fun _=>vw 3)) (a0q fun _=>a0r 0 (show x2o (["_law_marks","_law_many","_law_reach"]:List Str) by decide +kernel) rfl (Or.inl rfl)) a1M (b0Q (a2K (cEq 4 fun _=>hr) (a2J (fun _=>rfl) (fun _=>m_len) (QE.r (a0a 0 fun _=>vw 0))) (QE.r (a0a 1 fun _=>vw 1)) (a0C _)) (b0L (a1u (fun _=>g__law_is_word) (fun _=>hr) (by decide) (fun _=>rfl) (a0b (a0a 2 fun _=>vw 2) (a0b (a0a 0 fun _=>vw 0) a0n))))))))))) (a0k (a0J a2P)) a0I)
   (a0g (a9A 4 (fun _=>rfl) (fun _=>hu2_of hr) (fun _=>rfl) (fun _=>m_dict) (fun _=>a0W (i:=4) sc.nd rfl (Or.inl rfl)) (QN.ee (a2A (N:=["_law_marks"]) (cs:=[none]) (fun _=>a0Z rfl rfl rfl rfl trivial rfl rfl rfl) (fun _=>rfl) (a3A (a0a 3 fun _=>vw 3)) (a0q fun _=>a0r 0 (show x2o (["_law_marks"]:List Str) by decide +kernel) rfl (Or.inl rfl)) a1M (a1d (a0b (a0a 0 fun _=>vw 0) (a0b a2P a0n))))))
   (a0g (a2b (fun _=>rfl) (a1c (fun _=>rfl) (fun _=>m_range) a0v) (a0q fun _=>a0r 5 sc.nd rfl (Or.inl rfl)) (a0g (a2I 6 (fun _=>a0W (i:=6) sc.nd rfl (Or.inl rfl)) (a2n (fun _=>rfl) (fun _=>m_tuple) (QE.r (QN.ee (a2A (N:=["_law_k","_law_hand_here"]) (cs:=[none,some 0]) (fun _=>a0Z rfl rfl rfl rfl ⟨rfl,trivial⟩ rfl rfl rfl) (fun _=>rfl) (a1c (fun _=>rfl) (fun _=>m_range) (a0a 1 fun _=>vw 1)) (a0q fun _=>a0r 0 (show x2o (["_law_k","_law_hand_here"]:List Str) by decide +kernel) rfl (Or.inl rfl)) a1M (a4H a0u (a1u (fun _=>g__law_take) (fun _=>hr) (by decide) (fun _=>rfl) (a0b (a0a 1 fun _=>vw 1) (a0b a0v a0n)))))))))
   (a0g (a1Z (a0X (cEq 4 fun _=>hr) (a1u (fun _=>g__law_take) (fun _=>hr) (by decide) (fun _=>rfl) (a0b (a0a 0 fun _=>vw 0) (a0b a0v a0n))) (QE.r a0v) (a0C _)) (a0g (a7R 6 7 (fun _=>a7E (i:=6) (j:=7) rfl sc.nd rfl rfl (by decide) rfl rfl rfl) (ql_v (a1u (fun _=>g__law_word) (fun _=>hr) (by decide) (fun _=>rfl) (a0b (a0a 0 fun _=>vw 0) (a0b (a0a 1 fun _=>vw 1) (a0b (a0a 2 fun _=>vw 2) a0n))))) (ql_v (a1u (fun _=>g__law_take) (fun _=>hr) (by decide) (fun _=>rfl) (a0b (a0a 0 fun _=>vw 0) (a0b (a0a 1 fun _=>vw 1) a0n)))))
   (a0k (a2I 6 (fun _=>a0W (i:=6) sc.nd rfl (Or.inl rfl)) (a1j (a1j (a6R (a0a 6 fun _=>vw 6) a7S (a2e (a0a 7 fun _=>vw 7))) (a1d (a0b (a4H a0u (a1u (fun _=>g__law_take) (fun _=>hr) (by decide) (fun _=>rfl) (a0b (a0a 0 fun _=>vw 0) (a0b a0v a0n)))) a0n))) (a6R (a0a 6 fun _=>vw 6) (a2e (a1j (a0a 7 fun _=>vw 7) a0v)) a7S))))) a0I)
   (a0k (a3z 4 (a1Z (a0X (cNe 4 fun _=>hr) (a2K (cInT fun _=>hr) (a0a 6 fun _=>vw 6) (QE.r (a0a 4 fun _=>vw 4)) rfl) (QE.r (a1u (fun _=>g__law_is_word) (fun _=>hr) (by decide) (fun _=>rfl) (a0b (a0a 2 fun _=>vw 2) (a0b (a0a 6 fun _=>vw 6) a0n)))) (a0C _)) (a0k (a0J a2P)) a0I))))))
   (a0k (a0J a2P))))))))
theorem b0l (F0:Fn0 K mg "longer" (top 1))(m_len:mg "len"=none)(m_min:mg "min"=none)(m_range:mg "range"=none):Kn P w K mg base "longer" 1 ["singles","closed","shorter","reach"] (a0z K potL a2u):=by
 have sc:a0D ["singles","closed","shorter","reach","many","words","inner"] ["singles","closed","shorter","reach"] (a0i (top 1)):=⟨rfl,rfl,rfl,by decide +kernel,rfl,by decide +kernel,by decide +kernel⟩
 exact a4o F0 sc (fun _ _ _ _ _ _=>bd4 fun _ _ _ _=>rfl) (k:=0) (body:=a4d) (fun f cdv A outer s H E hr=>(a0g (a2I 4 (fun _=>a0W (i:=4) sc.nd rfl (Or.inr rfl)) (a2J (fun _=>rfl) (fun _=>m_len) (QE.r (a0a 2 fun _=>vw 2))))
   (a0g (b1P 5 (a9G (N:=["mark","word","shorter","many"]) (cs:=[none,none,some 2,some 4]) (fun _=>a0Z rfl rfl rfl rfl ⟨rfl,⟨rfl,trivial⟩⟩ rfl rfl rfl) (fun _=>rfl) (a3A (a0a 0 fun _=>vw 0)) (a0q fun _=>a0r 0 (show x2o (["mark","word","shorter","many"]:List Str) by decide +kernel) rfl (Or.inl rfl)) (a5r (a4H (a0a 2 fun _=>vw 2) (a1q (a0a 3 fun _=>vw 3) a0v))) (a0q fun _=>a0r 1 (show x2o (["mark","word","shorter","many"]:List Str) by decide +kernel) rfl (Or.inl rfl)) a1M (a1j (a1d (a0b (a0a 0 fun _=>vw 0) a0n)) (a0a 1 fun _=>vw 1))) (fun _=>sc.nd) (fun _=>rfl) (fun _=>Or.inl rfl))
   (a0g (a2b (fun _=>rfl) (a1c (fun _=>rfl) (fun _=>m_range) (a1j (qe_min (fun _=>rfl) (fun _=>rfl) (fun _=>m_min) (a0a 3 fun _=>vw 3) (a1q (a0a 4 fun _=>vw 4) a0v)) a0v)) (a0q fun _=>a0r 6 sc.nd rfl (Or.inr rfl)) (a0k (b1S 5 (fun _=>sw_aug (i:=5) sc.nd rfl (Or.inl rfl) a4W) (QN.ee (a9C (N:=["within","word","shorter","inner","many"]) (cs:=[none,none,some 2,some 6,some 4]) (fun _=>a0Z rfl rfl rfl rfl ⟨rfl,⟨rfl,⟨rfl,trivial⟩⟩⟩ rfl rfl rfl) (fun _=>rfl) (a5r (a4H (a0a 1 fun _=>vw 1) (a0a 6 fun _=>vw 6))) (a0q fun _=>a0r 0 (show x2o (["within","word","shorter","inner","many"]:List Str) by decide +kernel) rfl (Or.inl rfl)) (a5r (a4H (a0a 2 fun _=>vw 2) (a1q (a1q (a0a 4 fun _=>vw 4) a0v) (a0a 3 fun _=>vw 3)))) (a0q fun _=>a0r 1 (show x2o (["within","word","shorter","inner","many"]:List Str) by decide +kernel) rfl (Or.inl rfl)) a1M (a1j (a1j (a1j (a1d (a0b a0u a0n)) (a0a 0 fun _=>vw 0)) (a1d (a0b a0u a0n))) (a0a 1 fun _=>vw 1)))))))
   (a0k (b1N 5 fun _=>vw 5))))))
theorem a5C (F0:Fn0 K mg "all_words" (top 2))(g_longer:Kn P w K mg base "longer" 1 ["singles","closed","shorter","reach"] (a0z K potL a2u))(m_range:mg "range"=none)(m_sorted:mg "sorted"=none)(m_tuple:mg "tuple"=none):Kn P w K mg base "all_words" 2 ["many","reach"] (a0z K potL a1g):=by
 have sc:a0D ["many","reach","closed","words","length"] ["many","reach"] (a0i (top 2)):=⟨rfl,rfl,rfl,by decide +kernel,rfl,by decide +kernel,by decide +kernel⟩
 exact a4o F0 sc (fun _ _ _ _ _ _=>bd2 fun _ _=>rfl) (k:=1) (body:=a2f) (fun f cdv A outer s H E hr=>(a0g (a5Y 2 (fun _=>a0W (i:=2) sc.nd rfl (Or.inl rfl)) (a1L (a0b (QN.ee (a1L (a0b (a1d a0n) a0n))) a0n)))
   (a0g (a5Y 3 (fun _=>a0W (i:=3) sc.nd rfl (Or.inl rfl)) (a1L (a0b (QN.ee (a1L (a0b (a1d a0n) a0n))) a0n)))
   (a0g (a2b (fun _=>rfl) (a1c (fun _=>rfl) (fun _=>m_range) (a0a 0 fun _=>vw 0)) (a0q fun _=>a0r 4 sc.nd rfl (Or.inl rfl)) (a0g (a2Y (fun _=>a2U) (a1N 2 (fun _=>vw 2) (a6b a4L (a1u (fun _=>g_longer) (fun _=>hr) (by decide) (fun _=>rfl) (a0b (a1d (a0b a0u a0n)) (a0b (a0a 2 fun _=>vw 2) (a0b (a0a 2 fun _=>vw 2) (a0b (a0a 1 fun _=>vw 1) a0n))))))))
   (a0k (a2Y (fun _=>a2U) (a1N 3 (fun _=>vw 3) (a6b a4L (a1u (fun _=>g_longer) (fun _=>hr) (by decide) (fun _=>rfl) (a0b (a1d (a0b a0u (a0b a0u a0n))) (a0b (a0a 2 fun _=>vw 2) (a0b (a0a 3 fun _=>vw 3) (a0b (a0a 1 fun _=>vw 1) a0n)))))))))))
   (a0k (a0J (a2n (fun _=>rfl) (fun _=>m_tuple) (QE.r (QN.ee (a6Q (fun _=>rfl) (fun _=>m_sorted) (QE.r (b0N (a4G 3 fun _=>vw 3) (a0a 0 fun _=>vw 0)))))))))))))
theorem k_law (F0:Fn0 K mg "law" (top 13))(g__law_hand:Kn P w K mg base "_law_hand" 1 ["_law_script","_law_place"] (a4B K))(g__law_take:Kn P w K mg base "_law_take" 1 ["_law_hand_here","_law_many"] (a0z K potL a5h))(g_all_words:Kn P w K mg base "all_words" 2 ["many","reach"] (a0z K potL a1g))(g__law_right:Kn P w K mg base "_law_right" 3 ["_law_hand_here","_law_many","_law_reach","_law_found"] (a0z K potL a1k))(m_len:mg "len"=none)(m_range:mg "range"=none)(hlaw:∀ns:List Int,ns.length<=63->a9Z ⟨fun _ _=>False,fun r _=>r=.bl true,fun _ _=>False,fun _ _=>False⟩ (a2m ["_law_script","_law_place","_law_hand_here","_law_many","_law_reach"] [.scr ns]) 0):Kn P w K mg base "law" 4 ["_law_script"] (a9o K):=by
 have sc:a0D ["_law_script","_law_place","_law_hand_here","_law_many","_law_reach"] ["_law_script"] (a0i (top 13)):=⟨rfl,rfl,rfl,by decide +kernel,rfl,by decide +kernel,by decide +kernel⟩
 exact law_ok (T:=potL) F0 sc (fun _ _ _ _ _ _=>bd1 fun _=>rfl) (k:=3) (body:=a9Z) (fun f cdv A outer s H E hr=>(a0g (a2b (fun _=>rfl) (a1c (fun _=>rfl) (fun _=>m_range) (a1j a0v (a2J (fun _=>rfl) (fun _=>m_len) (QE.r (a6R (a0a 0 fun _=>vw 0) a7S (a2e a0v)))))) (a0q fun _=>a0r 1 sc.nd rfl (Or.inl rfl)) (a0g (a6P 2 (fun _=>a0W (i:=2) sc.nd rfl (Or.inl rfl)) (fun _=>g__law_hand) (fun _=>hr) (by decide) (fun _=>rfl) (a0a 0 fun _=>vw 0) (a0a 1 fun _=>vw 1))
   (a0g (a7R 3 4 (fun _=>a7E (i:=3) (j:=4) rfl sc.nd rfl rfl (by decide) rfl rfl rfl) (ql_v (a1j a0v (a1u (fun _=>g__law_take) (fun _=>hr) (by decide) (fun _=>rfl) (a0b (a0a 2 fun _=>vw 2) (a0b a0v a0n))))) (ql_v (a1u (fun _=>g__law_take) (fun _=>hr) (by decide) (fun _=>rfl) (a0b (a0a 2 fun _=>vw 2) (a0b a0v a0n)))))
   (a0k (a1Z (a2X (a2W (a1u (fun _=>g__law_right) (fun _=>hr) (by decide) (fun _=>rfl) (a0b (a0a 2 fun _=>vw 2) (a0b (a0a 3 fun _=>vw 3) (a0b (a0a 4 fun _=>vw 4) (a0b (a1u (fun _=>g_all_words) (fun _=>hr) (by decide) (fun _=>rfl) (a0b (a0a 3 fun _=>vw 3) (a0b (a0a 4 fun _=>vw 4) a0n))) a0n))))))) (a0k (a0J a2P)) a0I)))))
   (a0k (a0J a2P)))) hlaw
end
end Tb
end
section
namespace Tb
open PySem L2 Pu
theorem a8N (a b:Int):eqP (.int a) (.int b)=decide (a=b):=by
 show(a == b)=_;rw [x1J]
theorem b1e (a b:Str):eqP (.str a) (.str b)=decide (a=b):=by
 show(a == b)=_;rw [x1J]
theorem a8O (a b:Bool):eqP (.bl a) (.bl b)=decide (a=b):=by
 show(a == b)=_;rw [x1J]
set_option compiler.extract_closed false in
set_option hygiene false in
local macro_rules | `(tactic| walk_at "pd")=>`(tactic| dsimp only [dreduceIte,true_and,and_true,x1d,beq_self_eq_true,Nat.reduceLeDiff,Nat.reduceLT,Int.reduceLT,Int.reduceLE,x1z,a8N,b1e,a8O,qSeq,qNx,qSet,qOwn,qAsg,a5s,qRet,a9H,qIfS,qPar,sV,sO,qV,qO,qC,qOp,qOpR,qUn,wI,wI0,wAdd,wSub,wEq,wNe,wLt,wLe,wGt,wIsN,a6H,qB,a6e,qAnd,qOr,qNot,a9L,qIf,qNil,a0h,qTup,qLst,qL,wIx,qNo,a4a,qSl,wSl,wLen,wInt,wAll,a2G,a9J,wIsi,wMin,a1e,gN,gNl,gCn,gTp,qIl,qIt,a3Z,b1W,capV,capS,qTru,a4J,qCat,wNeg,a1V,a5t,a2m,tyP,isT,x2C,List.set,x0B,List.length_nil,x3f,x1O,x2O,List.nil_append,List.replicate,Nat.reduceSub,Nat.reduceAdd,Option.bind,Bool.not_true,Bool.not_false,Bool.true_or,Bool.false_or,Bool.or_false,Bool.true_and,x3v,String.reduceBEq,cmpb,a2H,eqP_ll,eqP_tt,b2Y,b2X,decide_true,decide_false,a5h,b1X,b0R,a5R,wRev,b1Y,a4b,a7Z,qZip,qFor,b1V,a8a,wLtT,a0L,a9I,a0E,at2_0,at2_1,at3_0,at3_1,at3_2,grd_t,a6d,frz,frzS,noMut,a4I,a7X,a3Y,a9K,a1v,a7W,qIxT,a7Y,wInT])
set_option hygiene false in
local macro_rules | `(tactic| walk_at "pu")=>`(tactic| (try walk_at "pd") <;> (try simp only [a8N,b1e,a8O,decide_true,decide_false,true_and,and_true,reduceIte,Nat.reduceLeDiff,Nat.reduceLT,Int.reduceLT,Int.reduceLE,x1z,beq_self_eq_true,x1d]))
namespace Wd
def S (f:Nat->Mk):Nat->List Nat
 | 0=>[]
 | n + 1=>match f n with | .t=>n::S f n | .u=>(S f n).tail | _=>S f n
def back (f:Nat->Mk):Nat->Nat->Option Nat
 | 0,_=>none
 | n + 1, l => match f n with
   | .t=>if l=1 then some n else back f n (l - 1)
   | .u=>back f n (l + 1)
   | _=>back f n l
theorem back_S (f:Nat->Mk):∀n l,back f n (l + 1)=(S f n)[l]?:=by
 intro xq
 induction xq with
 | zero =>
   intro l;simp [back,S]
 | succ n ih =>
   intro l;unfold back S;cases f n with
   | t =>
     cases l with
     | zero=>simp
     | succ k=>simp [ih k]
   | u=>simp only [ih (l + 1)];rw [List.getElem?_tail]
   | d=>simp only [ih l]
   | o=>simp only [ih l]
theorem S_lt {f:Nat->Mk}:∀{n a:Nat},a∈S f n->a < n/\f a=.t
 | 0,a,h=>by simp [S] at h
 | n + 1, a, h => by
   unfold S at h;cases e:f n with
   | t =>
     rw [e] at h;rcases x0s.mp h with h | h
     · subst h;exact⟨by omega,e⟩
     · have:=S_lt h;exact⟨by omega,this.2⟩
   | u=>rw [e] at h;have:=S_lt (List.mem_of_mem_tail h);exact⟨by omega,this.2⟩
   | d=>rw [e] at h;have:=S_lt h;exact⟨by omega,this.2⟩
   | o=>rw [e] at h;have:=S_lt h;exact⟨by omega,this.2⟩
theorem a9g {f:Nat->Mk}{a:Nat}:∀{n k:Nat},a∈S f n->a < k->k<=n->a∈S f k
 | 0,k,h,_,_=>by simp [S] at h
 | n + 1, k, h, h1, h2 => by
   by_cases hk:k=n + 1
   · rw [hk];exact h
   · refine a9g (n:=n) ?_ h1 (by omega);unfold S at h;cases e:f n with
     | t =>
       rw [e] at h;rcases x0s.mp h with h | h
       · omega
       · exact h
     | u=>rw [e] at h;exact List.mem_of_mem_tail h
     | d=>rw [e] at h;exact h
     | o=>rw [e] at h;exact h
theorem a9h {f:Nat->Mk}{a k:Nat}(hk:a∈S f k):∀{n:Nat},k<=n->a∉S f n->∃j,k<=j/\j < n/\f j=.u/\(S f j).head?=some a
 | 0, h1, h2 => by obtain rfl : k = 0 := by omega
                   exact absurd hk h2
 | n + 1, h1, h2 => by
   by_cases e:k=n + 1
   · subst e;exact absurd hk h2
   · by_cases hm:a∈S f n
     · have hs:=h2;unfold S at hs;cases q:f n with
       | t=>rw [q] at hs;exact absurd (x0d _ hm) hs
       | u =>
         rw [q] at hs;refine⟨n,by omega,by omega,q,?_⟩;cases es:S f n with
         | nil=>rw [es] at hm;cases hm
         | cons b r =>
           rw [es] at hm hs;rcases x0s.mp hm with z | z
           · rw [z];rfl
           · exact absurd z hs
       | d=>rw [q] at hs;exact absurd hm hs
       | o=>rw [q] at hs;exact absurd hm hs
     · obtain⟨j,a1,a2,a3,a4⟩:=a9h hk (n:=n) (by omega) hm;exact⟨j,a1,by omega,a3,a4⟩
def cnt (f:Nat->Mk)(m:Mk):Nat->Nat
 | 0=>0
 | n + 1=>cnt f m n + if f n=m then 1 else 0
theorem b3r {f:Nat->Mk}:∀{n:Nat},(∀j,j < n->f j=.u->S f j≠[])->(S f n).length + cnt f .u n=cnt f .t n
 | 0,_=>rfl
 | n + 1, h => by
   have ih:=b3r (n:=n) fun j hj=>h j (by omega);have hn:=h n (by omega);unfold S cnt;cases e:f n with
   | t=>simp;omega
   | u =>
     have:=List.length_pos_iff.mpr (hn e)
     simp;omega
   | d=>simp;omega
   | o=>simp;omega
def okAt (f:Nat->Mk)(reach:Int)(j:Nat):Prop:=(f j=.o->S f j=[])/\(f j=.u->∃a,(S f j).head?=some a/\(j:Int) - a - 1<=reach)
def lawAt (f:Nat->Mk)(reach:Int)(j:Nat):Prop:=f j=.u->∃a,(S f j).head?=some a/\(j:Int) - a - 1<=reach/\∀k,a<=k->k < j->f k≠.o
theorem head_mem {a:Nat}{l:List Nat}(h:l.head?=some a):a∈l:=by
 cases l with
 | nil=>cases h
 | cons b r=>cases h;exact x0h
theorem same (f:Nat->Mk)(reach:Int)(n:Nat):((∀j,j < n->okAt f reach j)/\S f n=[])↔((∀j,j < n->lawAt f reach j)/\cnt f .u n=cnt f .t n):=by
 constructor
 · rintro⟨h,hs⟩;refine⟨fun j hj e=>?_,?_⟩
   · obtain⟨a,ha,hd⟩:=(h j hj).2 e;refine⟨a,ha,hd,fun k h1 h2 ek=>?_⟩;have m:=head_mem ha;have lt:=S_lt m
     by_cases q:k=a
     · rw [q,lt.2] at ek;cases ek
     · have:=a9g m (k:=k) (by omega) (by omega);rw [(h k (by omega)).1 ek] at this;cases this
   · have:=b3r (f:=f) (n:=n) fun j hj e z=>by
       obtain⟨a,ha,_⟩:=(h j hj).2 e;rw [z] at ha;cases ha
     rw [hs] at this
     simpa using this
 · rintro⟨h,hc⟩
   have hl:=b3r (f:=f) (n:=n) fun j hj e z=>by
     obtain⟨a,ha,_⟩:=h j hj e;rw [z] at ha;cases ha
   have hs:S f n=[]:=x1h (by omega);refine⟨fun j hj=>⟨fun e=>?_,fun e=>?_⟩,hs⟩
   · cases es:S f j with
     | nil=>rfl
     | cons a r =>
       have ma:a∈S f j:=by rw [es];exact x0h
       obtain⟨i,a1,a2,a3,a4⟩:=a9h ma (n:=n) (by omega) (by rw [hs];exact fun z=>nomatch z);obtain⟨b,hb,_,ho⟩:=h i a2 a3;rw [a4] at hb;cases hb;have lt:=S_lt ma
       have:j < i:=by
         rcases Nat.lt_or_eq_of_le a1 with z | z
         · exact z
         · rw [<- z,e] at a3;cases a3
       exact absurd e (ho j (by omega) this)
   · obtain⟨a,ha,hd,_⟩:=h j hj e;exact⟨a,ha,hd⟩
end Wd
variable {ms:List Mk}{many place q:Nat}{O':List Nat}{L:List (List (List Nat))}{W:List (List Nat)}
def fN (ms:List Mk):Nat->Mk:=fun n=>ms.getD n .d
theorem b2W {i:Nat}{m:Mk}(h:ms[i]?=some m):fN ms i=m:=by
 unfold fN;rw [List.getD,h];rfl
def pin (a:Nat):PV:=.int (a:Int)
theorem S_t {f:Nat->Mk}{i:Nat}(h:f i=.t):Wd.S f (i + 1)=i::Wd.S f i:=by show(match f i with | .t=>i::Wd.S f i | .u=>(Wd.S f i).tail | _=>Wd.S f i)=_;rw [h]
theorem S_u {f:Nat->Mk}{i:Nat}(h:f i=.u):Wd.S f (i + 1)=(Wd.S f i).tail:=by show(match f i with | .t=>i::Wd.S f i | .u=>(Wd.S f i).tail | _=>Wd.S f i)=_;rw [h]
theorem S_d {f:Nat->Mk}{i:Nat}(h:f i=.d):Wd.S f (i + 1)=Wd.S f i:=by show(match f i with | .t=>i::Wd.S f i | .u=>(Wd.S f i).tail | _=>Wd.S f i)=_;rw [h]
theorem S_o {f:Nat->Mk}{i:Nat}(h:f i=.o):Wd.S f (i + 1)=Wd.S f i:=by show(match f i with | .t=>i::Wd.S f i | .u=>(Wd.S f i).tail | _=>Wd.S f i)=_;rw [h]
def OK (r:Int)(ms:List Mk):Prop:=(∀j,j < ms.length->Wd.okAt (fN ms) r j)/\Wd.S (fN ms) ms.length=[]
def opN:Option Nat->PV
 | none=>.non
 | some a=>.int (a:Int)
theorem at_mk {j:Nat}(h:j < ms.length):atI (ms.map mkP) (j:Int)=some (mkP (fN ms j)):=by
 refine a9d ?_;rw [x0r,x0f h];unfold fN;rw [List.getD,x0f h]
 rfl
theorem b0x {a:Int}{k:Nat}{i:Nat}{x:PV}(h:((x0j k).map fun(j:Nat)=>PV.int (a - j))[i]?=some x):i < k/\x=.int (a - i):=by
 rw [x0r] at h;cases e:(x0j k)[i]? with
 | none=>rw [e] at h;cases h
 | some y =>
   rw [e] at h;obtain⟨h1,h2⟩:=x0k.mp e;rw [x3g] at h2;cases h;subst h2;exact⟨by simpa using h1,rfl⟩
theorem bk_t {f:Nat->Mk}{l:Nat}(h:f q=.t):Wd.back f (q + 1) l=if l=1 then some q else Wd.back f q (l - 1):=by
 show(match f q with | .t=>(if l=1 then some q else Wd.back f q (l - 1)) | .u=>Wd.back f q (l + 1) | _=>Wd.back f q l)=_;rw [h]
theorem bk_u {f:Nat->Mk}{l:Nat}(h:f q=.u):Wd.back f (q + 1) l=Wd.back f q (l + 1):=by
 show(match f q with | .t=>(if l=1 then some q else Wd.back f q (l - 1)) | .u=>Wd.back f q (l + 1) | _=>Wd.back f q l)=_;rw [h]
theorem bk_d {f:Nat->Mk}{l:Nat}(h:f q=.d):Wd.back f (q + 1) l=Wd.back f q l:=by
 show(match f q with | .t=>(if l=1 then some q else Wd.back f q (l - 1)) | .u=>Wd.back f q (l + 1) | _=>Wd.back f q l)=_;rw [h]
theorem bk_o {f:Nat->Mk}{l:Nat}(h:f q=.o):Wd.back f (q + 1) l=Wd.back f q l:=by
 show(match f q with | .t=>(if l=1 then some q else Wd.back f q (l - 1)) | .u=>Wd.back f q (l + 1) | _=>Wd.back f q l)=_;rw [h]
theorem b0i {p n:Nat}(hp:p<=ms.length)(h24:ms.length<=24){R:PV->Nat->Prop}(h:R (opN (Wd.S (fN ms) p).head?) n):a1b [.tup (ms.map mkP),.int (p:Int)] n R:=by
 refine⟨rfl,?_⟩;unfold a1y;have hh:(Wd.S (fN ms) p).head?=Wd.back (fN ms) p 1:=by rw [Wd.back_S (fN ms) p 0,List.head?_eq_getElem?]
 rw [hh] at h;walk_at "pu";refine⟨by omega,?_⟩;rw [show((p:Int) - 1 - -1).toNat=p by omega];refine a0S (fun k env m=>∃(l:Nat) (s3:Option Slot),env=[some (.v (.tup (ms.map mkP))),some (.v (.int (p:Int))),some (.v (.int (l:Int))),s3]/\1<=l/\l<=1 + k/\Wd.back (fN ms) p 1=Wd.back (fN ms) (p - k) l/\m=n) _ 0 _ _ ⟨1,none,rfl,x0m _,x0m _,rfl,rfl⟩ (fun k x env m N ex hI hN=>?_) (fun env m hI=>?_)
 · obtain⟨l,s3,rfl,l1,l2,hbk,rfl⟩:=hI;rw [x0N] at hN hbk l2;obtain⟨hk,rfl⟩:=b0x ex;obtain⟨q,hq⟩:∃q,p - k=q + 1:=⟨p - k - 1,by omega⟩;rw [hq] at hbk;have eq1:(p:Int) - 1 - (k:Int)=(q:Int):=by omega
   have hql:q < ms.length:=by omega
   rw [eq1];walk_at "pu";rw [at_mk hql];unfold mkP;dsimp only;walk_at "pu";rw [mk_u,mk_t];have ek:p - (k + 1)=q:=by omega
   generalize hE:((l:Int) + (if decide (fN ms q=Mk.u)=true then(1:Int) else 0) - (if decide (fN ms q=Mk.t)=true then(1:Int) else 0))=E
   have go:∀l':Nat,E=(l':Int)->1<=l'->l'<=1 + (k + 1)->Wd.back (fN ms) p 1=Wd.back (fN ms) q l'->N [some (.v (.tup (ms.map mkP))),some (.v (.int (p:Int))),some (.v (.int E)),some (.v (.int (q:Int)))] m:=fun l' e h1 h2 h3=>by
     rw [e];exact hN _ _ ⟨l',_,rfl,h1,h2,(by rw [ek];exact h3),rfl⟩
   cases ef:fN ms q with
   | u =>
     rw [bk_u ef] at hbk;have e:E=((l + 1:Nat):Int):=by rw [<- hE,ef];simp
     exact if_f (decide_eq_false (by omega)) (go (l + 1) e (by omega) (by omega) hbk)
   | t =>
     rw [bk_t ef] at hbk;have e:E=(l:Int) - 1:=by rw [<- hE,ef];simp
     by_cases c:l=1
     · subst c;refine if_t (decide_eq_true (by omega)) ?_;rw [hbk,if_pos rfl] at h;exact h
     · rw [if_neg c] at hbk;exact if_f (decide_eq_false (by omega)) (go (l - 1) (by omega) (by omega) (by omega) hbk)
   | d =>
     rw [bk_d ef] at hbk;have e:E=(l:Int):=by rw [<- hE,ef];simp
     exact if_f (decide_eq_false (by omega)) (go l e (by omega) (by omega) hbk)
   | o =>
     rw [bk_o ef] at hbk;have e:E=(l:Int):=by rw [<- hE,ef];simp
     exact if_f (decide_eq_false (by omega)) (go l e (by omega) (by omega) hbk)
 · obtain⟨l,s3,rfl,l1,l2,hbk,rfl⟩:=hI;walk_at "pu";rw [x0g,x3s,x0N,Nat.sub_self] at hbk;rw [hbk] at h;exact h
theorem seg_o {a p:Nat}(ha:a<=p)(hp:p<=ms.length):memP (.str (x0i "o")) (cutP (ms.map mkP) (some (a:Int)) (some (p:Int)))=true↔∃k,a<=k/\k < p/\fN ms k=.o:=by
 have ec:cutP (ms.map mkP) (some (a:Int)) (some (p:Int))=((ms.drop a).take (p - a)).map mkP:=by
   unfold cutP;rw [b0G,b0G,x0g,x4c (show a<=ms.length by omega),x4c hp,<- x3O,<- List.map_take]
 rw [ec];unfold memP;rw [List.any_map,x3H];constructor
 · rintro⟨m,hm,e⟩;have e':decide (mkS m=x0i "o")=true:=by rw [<- b1f];exact e
   rw [mk_o] at e';have e2:m=.o:=of_decide_eq_true e';subst e2;obtain⟨j,hj⟩:=List.getElem?_of_mem hm
   have hj2:j < p - a:=by
     have:=(x0k.mp hj).1;rw [x1n] at this;omega
   rw [x2R hj2,List.getElem?_drop] at hj;exact⟨a + j,by omega,by omega,b2W hj⟩
 · rintro⟨k,h1,h2,e⟩;refine⟨.o,?_,?_⟩
   · refine x0P (i:=k - a) ?_;rw [x2R (by omega),List.getElem?_drop,show a + (k - a)=k by omega,x0f (by omega)];unfold fN at e;rw [List.getD,x0f (by omega)] at e;exact congrArg some e
   · show eqP (.str (mkS .o)) (.str (x0i "o"))=true;rw [b1f,mk_o];rfl
theorem b3e (ms:List Mk):PySem.Spec.countIn (.str (x0i "t")) ((ms.map mkS).map PyData.str)=((Wd.cnt (fN ms) .t ms.length:Nat):Int):=by
 have key:∀i,i<=ms.length->PySem.Spec.countIn (.str (x0i "t")) (((ms.take i).map mkS).map PyData.str)=((Wd.cnt (fN ms) .t i:Nat):Int):=by
   intro i
   induction i with
   | zero=>intro _;rfl
   | succ i ih =>
     intro hi;have e:ms[i]?=some ms[i]:=x0f (by omega);rw [a7C e,x1b,x1b,x1f,x4g,x1f,x4g,PyProof.Rows.FinIter.countIn_snoc,ih (by omega)];show _=((Wd.cnt (fN ms) .t i + (if fN ms i=.t then 1 else 0):Nat):Int);rw [b2W e]
     have es:PySem.Spec.same (.str (mkS ms[i])) (.str (x0i "t"))=decide (mkS ms[i]=x0i "t"):=by
       simp [PySem.Spec.same];rw [x1J]
     rw [es,mk_t]
     by_cases c:ms[i]=.t
     · rw [if_pos (decide_eq_true c),if_pos c];rfl
     · rw [if_neg (by simpa using c),if_neg c];rfl
 have:=key ms.length (x0m _);rw [x3K] at this;exact this
def LAW (r:Int)(ms:List Mk):Prop:=(∀j,j < ms.length->Wd.lawAt (fN ms) r j)/\Wd.cnt (fN ms) .u ms.length=Wd.cnt (fN ms) .t ms.length
theorem W2 {r:Int}(h1:1<=ms.length)(h24:ms.length<=24)(b:Bool)(hb:b=true↔LAW r ms){n:Nat}{R:PV->Nat->Prop}(h:R (.bl b) n):a0t [.int r,.tup (ms.map mkP)] n R:=by
 refine⟨rfl,?_⟩;unfold a1n
 have no:∀i,i < ms.length->¬Wd.lawAt (fN ms) r i->b=false:=fun i hi hn=>by
   cases b with
   | false=>rfl
   | true=>exact absurd ((hb.mp rfl).1 i hi) hn
 walk_at "pu";rw [x0g];refine if_t (decide_eq_true (by omega)) (if_f (by rw [decide_eq_true (by omega)];rfl) ⟨by omega,?_⟩);refine a8U (fun _=>.bl true) _ _ _ _ (fun y hy m Q hQ=>?_) ?_
 · obtain⟨m',_,rfl⟩:=x0H.mp hy;unfold mkP;walk_at "pu";simp only [wIn];refine⟨rfl,rfl,?_⟩;have e:memP (.str (mkS m')) [PV.str (x0i "u"),PV.str (x0i "t"),PV.str (x0i "d"),PV.str (x0i "o")]=true:=by cases m' <;> decide +kernel
   simp only [x1d,reduceIte];rw [e];exact hQ
 rw [a2w];dsimp only;rw [a4u];refine if_f rfl ?_;refine a0S (fun i env m=>∃s3 s4 s5 found,env=[some (.v (.int r)),some (.v (.tup (ms.map mkP))),some (.own found),s3,s4,s5]/\found.length=Wd.cnt (fN ms) .u i/\found.length<=i/\(∀j,j < i->Wd.lawAt (fN ms) r j)/\m=n) _ 0 _ _ ⟨none,none,none,[],rfl,rfl,x0m _,(fun j hj=>by omega),rfl⟩ (fun i x env m N ex hI hN=>?_) (fun env m hI=>?_)
 · obtain⟨s3,s4,s5,found,rfl,hf,hfl,hok,rfl⟩:=hI;rw [x0N] at hN hok hf hfl;obtain⟨v,ev,rfl⟩:=a3o ex;rw [x0r] at ev;cases em:ms[i]? with
   | none=>rw [em] at ev;cases ev
   | some mk =>
     rw [em] at ev;cases ev;have hi:i < ms.length:=(x0k.mp em).1;have fi:=b2W em;have ret:¬Wd.lawAt (fN ms) r i->R (.bl false) m:=fun hn=>by rw [no i hi hn] at h;exact h
     have cs:Wd.cnt (fN ms) .u (i + 1)=Wd.cnt (fN ms) .u i + if fN ms i=.u then 1 else 0:=rfl;walk_at "pu";have em2:(match mkP mk with | .str z=>decide (z=x0i "u") | _=>false)=decide (mk=.u):=mk_u mk;unfold mkP at *;walk_at "pu";rw [mk_u]
     by_cases c:mk=.u
     · subst c;refine if_t rfl ?_;refine b0i (Nat.le_of_lt hi) h24 ?_;cases eh:(Wd.S (fN ms) i).head? with
       | none =>
         refine if_t rfl (ret fun ho=>?_);obtain⟨a,ha,_⟩:=ho fi;rw [eh] at ha;cases ha
       | some a =>
         have am:=Wd.S_lt (Wd.head_mem eh);unfold opN;walk_at "pu";simp only [b0o,x1d,reduceIte]
         by_cases c1:(i:Int) - a - 1<=r
         · refine if_f (decide_eq_false (by omega)) ?_;simp only [wIn];refine⟨rfl,?_,?_⟩
           · refine x0z.mpr fun x hx=>?_;obtain⟨m,_,rfl⟩:=x0H.mp (b3b x hx)
             rfl
           · have so:=seg_o (ms:=ms) (a:=a) (p:=i) (by omega) (by omega);unfold mkP at so;simp only [x1d,reduceIte];cases eb:memP (.str (x0i "o")) (cutP (x2C (fun m=>PV.str (mkS m)) ms) (some (a:Int)) (some (i:Int))) with
             | true =>
               refine if_t rfl (ret fun ho=>?_);obtain⟨a',ha,_,hno⟩:=ho fi;rw [eh] at ha;cases ha;obtain⟨k,k1,k2,k3⟩:=so.mp eb;exact hno k k1 k2 k3
             | false =>
               refine if_f rfl ⟨⟨_,rfl⟩,by omega,hN _ _ ⟨_,_,_,_,rfl,?_,?_,?_,rfl⟩⟩
               · rw [cs,if_pos fi,x0q,hf];rfl
               · rw [x0q,x0G];omega
               · intro j hj;rcases x2W.mp hj with hj | hj
                 · exact hok j hj
                 · subst hj;intro _;refine⟨a,eh,c1,fun k k1 k2 k3=>?_⟩;have:=so.mpr ⟨k,k1,k2,k3⟩;rw [eb] at this;cases this
         · refine if_t (decide_eq_true (by omega)) (ret fun ho=>?_);obtain⟨a',ha,hc,_⟩:=ho fi;rw [eh] at ha;cases ha;exact c1 hc
     · refine if_f (decide_eq_false c) (hN _ _ ⟨_,_,_,_,rfl,?_,by omega,?_,rfl⟩)
       · rw [cs,if_neg (by rw [fi];exact c),hf];rfl
       · intro j hj;rcases x2W.mp hj with hj | hj
         · exact hok j hj
         · subst hj;intro e;rw [fi] at e;exact absurd e c
 · obtain⟨s3,s4,s5,found,rfl,hf,hfl,hok,rfl⟩:=hI;rw [a2t,x0g,x0N] at hok hf hfl;walk_at "pu";refine⟨⟨_,rfl⟩,?_⟩;rw [show ms.map mkP=(ms.map mkS).map PV.str by rw [x0V];rfl,a7B];dsimp only;rw [b3e,hf]
   have e:decide (((Wd.cnt (fN ms) .u ms.length:Nat):Int)=((Wd.cnt (fN ms) .t ms.length:Nat):Int))=b:=by
     by_cases c:Wd.cnt (fN ms) .u ms.length=Wd.cnt (fN ms) .t ms.length
     · rw [decide_eq_true (by omega)];exact(hb.mpr ⟨hok,c⟩).symm
     · rw [decide_eq_false (by omega)];cases b with
       | false=>rfl
       | true=>exact absurd (hb.mp rfl).2 c
   rw [e];exact h
theorem run_S {r:Int}{ms:List Mk}:∀q,q<=ms.length->(∀j,j < q->Wd.okAt (fN ms) r j)->run r 0 [] (ms.take q)=some (Wd.S (fN ms) q)
 | 0,_,_=>rfl
 | q + 1, hq, h => by
   have ih:=run_S (r:=r) q (by omega) fun j hj=>h j (by omega);have eq:ms[q]?=some (fN ms q):=by unfold fN;rw [x0D,x0f (by omega)];rfl
   have lq:(ms.take q).length=q:=by rw [x1n];omega
   rw [x2h,eq];show run r 0 [] (ms.take q++[fN ms q])=_;rw [a1s,ih];show run r (0 + (ms.take q).length) (Wd.S (fN ms) q) [fN ms q]=_;rw [lq,x0N];have ok:=h q (by omega);cases e:fN ms q with
   | t=>rw [S_t e];rfl
   | d=>rw [S_d e];rfl
   | o =>
     rw [S_o e,ok.1 e];rfl
   | u =>
     obtain⟨a,ha,hr⟩:=ok.2 e;rw [S_u e];cases es:Wd.S (fN ms) q with
     | nil=>rw [es] at ha;cases ha
     | cons b t =>
       rw [es] at ha;have:b=a:=by simpa using ha
       subst this;show(if(q:Int) - b - 1<=r then some t else none)=some t;rw [if_pos hr]
theorem run_OK {r:Int}(h:OK r ms):run r 0 [] ms=some []:=by
 have:=run_S (r:=r) ms.length (x0m _) h.1;rw [x3K,h.2] at this;exact this
theorem a9u {r:Int}:∀q,q<=ms.length->∀st,run r 0 [] (ms.take q)=some st->(∀j,j < q->Wd.okAt (fN ms) r j)/\Wd.S (fN ms) q=st:=by
 intro xq
 induction xq with
 | zero =>
   intro _ st h;exact⟨fun j hj=>absurd hj (x4b _),x0C h⟩
 | succ q ih =>
   intro hq st h;have eq:ms[q]?=some (fN ms q):=by unfold fN;rw [x0D,x0f (by omega)];rfl
   have lq:(ms.take q).length=q:=by rw [x1n];omega
   rw [x2h,eq] at h;have h:run r 0 [] (ms.take q++[fN ms q])=some st:=h;rw [a1s] at h;cases e0:run r 0 [] (ms.take q) with
   | none=>rw [e0] at h;cases h
   | some s0 =>
     rw [e0] at h;obtain⟨ok,es⟩:=ih (by omega) s0 e0;have h:run r (0 + (ms.take q).length) s0 [fN ms q]=some st:=h;rw [lq,x0N,<- es] at h
     have go:Wd.okAt (fN ms) r q/\Wd.S (fN ms) (q + 1)=st:=by
       cases e:fN ms q with
       | t=>rw [e] at h;rw [S_t e];exact⟨⟨(fun z=>by rw [e] at z;cases z),(fun z=>by rw [e] at z;cases z)⟩,x0C h⟩
       | d=>rw [e] at h;rw [S_d e];exact⟨⟨(fun z=>by rw [e] at z;cases z),(fun z=>by rw [e] at z;cases z)⟩,x0C h⟩
       | o =>
         rw [e] at h;rw [S_o e];cases es2:Wd.S (fN ms) q with
         | nil=>rw [es2] at h;exact⟨⟨fun _=>es2,(fun z=>by rw [e] at z;cases z)⟩,x0C h⟩
         | cons a t=>rw [es2] at h;cases h
       | u =>
         rw [e] at h;rw [S_u e];cases es2:Wd.S (fN ms) q with
         | nil=>rw [es2] at h;cases h
         | cons a t =>
           rw [es2] at h;have h:(if(q:Int) - a - 1<=r then some t else none)=some st:=h
           by_cases c:(q:Int) - a - 1<=r
           · rw [if_pos c] at h;exact⟨⟨(fun z=>by rw [e] at z;cases z),fun _=>⟨a,by rw [es2];rfl,c⟩⟩,x0C h⟩
           · rw [if_neg c] at h;cases h
     exact⟨fun j hj=>(x2W.mp hj).elim (ok j) (fun e=>e▸go.1),go.2⟩
theorem b2N {r:Int}:LAW r ms↔run r 0 [] ms=some []:=
 ⟨fun h=>run_OK ((Wd.same (fN ms) r ms.length).mpr h),fun h=>(Wd.same (fN ms) r ms.length).mp (by
   have:=a9u (r:=r) ms.length (x0m _) [] (by rw [x3K];exact h)
   exact this)⟩
theorem m_isw {r:Int}(h1:1<=ms.length)(h24:ms.length<=24){n:Nat}{R:PV->Nat->Prop}(h:R (.bl (decide (run r 0 [] ms=some []))) n):a0t [.int r,.tup (ms.map mkP)] n R:=W2 h1 h24 _ (by rw [decide_eq_true_eq];exact b2N.symm) h
def clo (r:Int)(O:List Nat)(place many:Nat):Prop:=O.length + place<=many/\∀(k a:Nat),O.reverse[k]?=some a->((place + k:Nat):Int) - a - 1<=r
theorem b0t (O:List Nat):a4X ((O.map pin).reverse)=O.reverse.zipIdx.map (fun y=>.tup [.int ((y.2:Nat):Int),pin y.1]):=by
 unfold a4X;rw [<- List.map_reverse,List.zipIdx_map,x0V];rfl
theorem a6l {r:Int}{O:List Nat}{n:Nat}{R:PV->Nat->Prop}(hO:O.length<=100)(b:Bool)(hb:b=true↔clo r O place many)(h:R (.bl b) n):a0T [.lst (O.map pin),.int (place:Int),.int (many:Int),.int r] n R:=by
 refine⟨rfl,?_⟩;unfold a1x;walk_at "pu";rw [x0g]
 by_cases c:O.length + place<=many
 · refine if_f (decide_eq_false (by omega)) ⟨by rw [a2t,x2s,x0g];omega,?_⟩;rw [b0t];refine a3I (fun y:Nat×Nat=>.int ((y.2:Nat):Int)) (fun y=>pin y.1) (fun y=>.bl (decide (((place:Int) + (y.2:Int)) - (y.1:Int) - 1<=r))) _ _ _ _ _ (fun y hy m Q hQ=>?_) ?_
   · unfold pin;walk_at "pu";exact hQ
   · have e:O.reverse.zipIdx.map (fun y=>PV.bl (decide (((place:Int) + (y.2:Int)) - (y.1:Int) - 1<=r)))=(O.reverse.zipIdx.map fun y=>decide (((place:Int) + (y.2:Int)) - (y.1:Int) - 1<=r)).map PV.bl:=by rw [x0V];rfl
     rw [e,a4x];dsimp only
     have e2:(O.reverse.zipIdx.map fun y=>decide (((place:Int) + (y.2:Int)) - (y.1:Int) - 1<=r)).all id=b:=by
       rw [List.all_map]
       have hiff:O.reverse.zipIdx.all (id∘fun y=>decide (((place:Int) + (y.2:Int)) - (y.1:Int) - 1<=r))=true↔clo r O place many:=by
         rw [x0z];constructor
         · intro hh;refine⟨c,fun k a hk=>?_⟩;have:=hh (a,k) (List.mem_iff_getElem?.mpr ⟨k,by rw [List.getElem?_zipIdx,hk];simp⟩);have:=of_decide_eq_true this;dsimp only at this;omega
         · rintro⟨_,hh⟩ ⟨a,k⟩ hy;have:=List.mk_mem_zipIdx_iff_getElem?.mp hy;have:=hh k a this;exact decide_eq_true (by dsimp only;omega)
       cases b with
       | true=>exact hiff.mpr (hb.mp rfl)
       | false =>
         rw [Bool.eq_false_iff];intro hh;exact absurd (hb.mpr (hiff.mp hh)) x0J
     rw [e2];exact h
 · refine if_t (decide_eq_true (by omega)) ?_;cases b with
   | false=>exact h
   | true=>exact absurd (hb.mp rfl).1 c
def opn (r:Int)(O:List Nat)(place:Nat):Mk->Option (List Nat)
 | .t=>some (O++[place])
 | .u=>match O.getLast? with | some a=>if(place:Int) - (a:Int) - 1<=r then some O.dropLast else none | none=>none
 | .d=>some O
 | .o=>if O=[] then some O else none
def oP:Option (List Nat)->PV
 | some O=>.lst (O.map pin)
 | none=>.non
theorem b2g (O:List Nat):(O.map pin).all (cmpb 3)=true:=x0z.mpr fun x hx=>by obtain⟨a,_,rfl⟩:=x0H.mp hx;rfl
theorem a4p (O:List Nat):eqPs (O.map pin) []=decide (O=[]):=by
 cases O <;> rfl
theorem b0y {α:Type}(xs:List α)(x:α):cutP (xs++[x]) none (some (-1))=xs:=by
 unfold cutP
 have e:HT.sIx (xs++[x]).length (xs++[x]).length (some (-1))=xs.length:=by
   show(if(-1:Int) < 0 then((-1:Int) + ((xs++[x]).length:Int)).toNat else min (-1:Int).toNat (xs++[x]).length)=_;rw [if_pos (by decide),x0q,x0G];omega
 rw [e,HT.sIx_none,List.drop_zero,Nat.sub_zero,List.take_left]
theorem a2h (O:List Nat):O=[]\/∃O' a,O=O'++[a]:=by
 rcases List.eq_nil_or_concat O with h | ⟨O',a,h⟩
 · exact .inl h
 · exact .inr ⟨O',a,by rw [h,List.concat_eq_append]⟩
theorem a6j {r:Int}{O:List Nat}{n:Nat}{m:Mk}{R:PV->Nat->Prop}(hO:O.length<=100)(h:R (oP (opn r O place m)) n):a0H [.lst (O.map pin),mkP m,.int (place:Int),.int r] n R:=by
 refine⟨rfl,?_⟩;unfold a1w mkP;generalize hL:O.map pin=L;walk_at "pu";rw [mk_t,mk_u,mk_d];subst hL;have cm:=b2g O;cases m with
 | t =>
   refine if_t rfl ⟨by rw [x0g];omega,?_⟩;rw [show O.map pin++[PV.int (place:Int)]=(O++[place]).map pin by rw [x1b];rfl];exact h
 | u =>
   refine if_f rfl (if_t rfl (gd2 cm rfl ?_));rcases a2h O with rfl | ⟨O',a,rfl⟩
   · exact h
   · refine if_t (by rw [a4p];simp) ?_;rw [x1b,show [a].map pin=[pin a] from rfl,b0B,b0y];unfold pin;dsimp only
     have e:opn r (O'++[a]) place .u=if(place:Int) - (a:Int) - 1<=r then some O' else none:=by
       simp only [opn,x3L,x3l,Option.some_or,x3M]
     rw [e] at h
     by_cases c:(place:Int) - (a:Int) - 1<=r
     · rw [if_pos c] at h;exact if_t (decide_eq_true c) h
     · rw [if_neg c] at h;exact if_f (decide_eq_false c) h
 | d=>exact if_f rfl (if_f rfl (if_t rfl h))
 | o =>
   refine if_f rfl (if_f rfl (if_f rfl (gd2 cm rfl ?_)))
   by_cases c:O=[]
   · refine if_t (by rw [a4p];exact decide_eq_true c) ?_;simp only [opn,if_pos c] at h;exact h
   · refine if_f (by rw [a4p];exact decide_eq_false c) ?_;simp only [opn,if_neg c] at h;exact h
theorem clo_u {r:Int}{O:List Nat}(h:clo r O place many)(hO:O≠[]):∃O',opn r O place .u=some O'/\clo r O' (place + 1) many:=by
 rcases a2h O with rfl | ⟨O',a,rfl⟩
 · exact absurd rfl hO
 · have h0:=h.2 0 a (by simp);refine⟨O',?_,?_,fun k b hk=>?_⟩
   · simp only [opn,x3L,x3l,Option.some_or,x3M];rw [if_pos (by omega)]
   · have:=h.1;rw [x0q,x0G] at this;omega
   · have:=h.2 (k + 1) b (by simp only [x4d,List.reverse_singleton,List.singleton_append,x1O];exact hk);omega
theorem b2v {r:Int}{O:List Nat}{m:Mk}(h:opn r O place m=some O'):O'.length<=O.length + 1:=by
 cases m with
 | t=>simp only [opn,x3u] at h;subst h;simp
 | d=>simp only [opn,x3u] at h;subst h;omega
 | o =>
   simp only [opn] at h
   split at h
   · cases h;omega
   · cases h
 | u =>
   simp only [opn] at h
   split at h
   · split at h
     · cases h;rw [List.length_dropLast];omega
     · cases h
   · cases h
theorem b1L {r:Int}{O:List Nat}{i:Nat}{m:Mk}(h:run r 0 [] ms=some O.reverse)(hi:ms.length=i)(ho:opn r O i m=some O'):run r 0 [] (ms++[m])=some O'.reverse:=by
 rw [a1s,h];show run r (0 + ms.length) O.reverse [m]=_;rw [x0N,hi];cases m with
 | t =>
   simp only [opn,x3u] at ho;subst ho;rw [x4d];rfl
 | d =>
   simp only [opn,x3u] at ho;subst ho
   rfl
 | o =>
   simp only [opn] at ho
   split at ho
   · rename_i c;cases ho;subst c
     rfl
   · cases ho
 | u =>
   rcases a2h O with rfl | ⟨P,a,rfl⟩
   · simp [opn] at ho
   · simp only [opn,x3L,x3l,Option.some_or,x3M] at ho
     split at ho
     · rename_i c;cases ho;rw [x4d];show(if(i:Int) - a - 1<=r then some O'.reverse else none)=_;rw [if_pos c]
     · cases ho
def enc (p:Mk×List Nat):PV:=.tup [mkP p.1,.lst (p.2.map pin)]
theorem seven {j:Nat}{x:PV}(h:[mkP .o,mkP .t,mkP .d,mkP .u,mkP .o,mkP .t,mkP .u][j]?=some x):∃m,x=mkP m/\(j=0->m=.o)/\(j=3->m=.u)/\j < 7:=by
 match j,h with
 | 0,h=>exact⟨.o,by cases h;rfl,fun _=>rfl,(fun z=>by omega),by omega⟩
 | 1,h=>exact⟨.t,by cases h;rfl,(fun z=>by omega),(fun z=>by omega),by omega⟩
 | 2,h=>exact⟨.d,by cases h;rfl,(fun z=>by omega),(fun z=>by omega),by omega⟩
 | 3,h=>exact⟨.u,by cases h;rfl,(fun z=>by omega),fun _=>rfl,by omega⟩
 | 4,h=>exact⟨.o,by cases h;rfl,(fun z=>by omega),(fun z=>by omega),by omega⟩
 | 5,h=>exact⟨.t,by cases h;rfl,(fun z=>by omega),(fun z=>by omega),by omega⟩
 | 6,h=>exact⟨.u,by cases h;rfl,(fun z=>by omega),(fun z=>by omega),by omega⟩
 | j + 7,h=>cases h
theorem m_word {r:Int}{n:Nat}{R:PV->Nat->Prop}(hm:many<=24)(hn:n<=999999000)(h:∀(ms:List Mk) n',ms.length=many->run r 0 [] ms=some []->n'<=n + many->R (.tup (ms.map mkP)) n'):a1C [.pot q,.int (many:Int),.int r] n R:=by
 refine⟨rfl,?_⟩;unfold a2g;walk_at "pu";refine⟨⟨by omega,by omega⟩,?_⟩;refine a0S (fun i env m=>∃(ms:List Mk) (O:List Nat) (s5 s6 s7 s8:Option Slot),env=[some (.v (.pot q)),some (.v (.int (many:Int))),some (.v (.int r)),some (.own (ms.map mkP)),some (.v (.lst (O.map pin))),s5,s6,s7,s8]/\ms.length=i/\clo r O i many/\O.length<=i/\run r 0 [] ms=some O.reverse/\m=n + i) _ 0 _ _ ⟨[],[],_,_,_,_,rfl,rfl,⟨by simp,by simp⟩,by simp,rfl,rfl⟩ (fun i x env m N ex hI hN=>?_) (fun env m hI=>?_)
 · obtain⟨ms,O,s5,s6,s7,s8,rfl,hms,hcl,hOl,hrun,rfl⟩:=hI;obtain⟨hi,rfl⟩:=a2z ex;rw [x1i] at hi;rw [x0N] at hms hcl hOl hN;simp only [Int.zero_add,x0N];generalize eMs:ms.map mkP=Ms;generalize eO:O.map pin=OP;walk_at "pu";rw [<- eO];refine a0S (fun j env m=>∃(acc:List (Mk×List Nat)) (s7 s8:Option Slot),env=[some (.v (.pot q)),some (.v (.int (many:Int))),some (.v (.int r)),some (.own Ms),some (.v (.lst (O.map pin))),some (.v (.int (i:Int))),some (.own (acc.map enc)),s7,s8]/\acc.length<=j/\(∀p∈acc,clo r p.2 (i + 1) many/\p.2.length<=i + 1/\opn r O i p.1=some p.2)/\(O=[]->1<=j->acc≠[])/\(O≠[]->4<=j->acc≠[])/\m=n + i) _ 0 _ _ ⟨[],_,_,rfl,by simp,by simp,(fun _ z=>by omega),(fun _ z=>by omega),rfl⟩ (fun j x env m N' ex' hJ hN'=>?_) (fun env m hJ=>?_)
   · obtain⟨acc,s7,s8,rfl,hal,hac,ha1,ha2,rfl⟩:=hJ;rw [x0N] at hal ha1 ha2 hN';obtain⟨mk,rfl,j0,j3,j7⟩:=seven ex';generalize eP:O.map pin=OP;generalize eA:acc.map enc=A;have cA:A.length<=7:=by rw [<- eA,x0g];omega
     have no:¬(∃O',opn r O i mk=some O'/\clo r O' (i + 1) many)->∀s7 s8,N' [some (.v (.pot q)),some (.v (.int (many:Int))),some (.v (.int r)),some (.own Ms),some (.v (.lst OP)),some (.v (.int (i:Int))),some (.own A),s7,s8] (n + i):=fun hno s7 s8=>by
       rw [<- eP,<- eA];refine hN' _ _ ⟨acc,_,_,rfl,by omega,hac,fun h0 _=>?_,fun h0 _=>?_,rfl⟩
       · by_cases c:j=0
         · rw [j0 c] at hno;refine absurd ⟨O,by simp only [opn,if_pos h0],by rw [h0];simp;omega,by rw [h0];simp⟩ hno
         · exact ha1 h0 (by omega)
       · by_cases c:j=3
         · rw [j3 c] at hno;exact absurd (clo_u hcl h0) hno
         · exact ha2 h0 (by omega)
     walk_at "pu";rw [<- eP];refine a6j (by omega) ?_;cases eo:opn r O i mk with
     | none =>
       refine if_f rfl ?_;rw [eP];exact no (fun⟨O',h1,_⟩=>by rw [eo] at h1;cases h1) _ _
     | some O' =>
       refine if_t rfl ?_;have lo:=b2v eo;have ei:((i:Int) + 1)=((i + 1:Nat):Int):=by omega
       show a0T [PV.lst (O'.map pin),PV.int ((i:Int) + 1),PV.int (many:Int),PV.int r] (n + i) _;rw [ei]
       by_cases c:clo r O' (i + 1) many
       · refine a6l (by omega) true ⟨fun _=>c,fun _=>rfl⟩ ?_;refine if_t rfl ⟨⟨_,rfl⟩,by omega,?_⟩;rw [show A++[PV.tup [mkP mk,oP (some O')]]=(acc++[(mk,O')]).map enc by rw [x1b,eA];rfl];refine hN' _ _ ⟨_,_,_,rfl,by rw [x0q,x0G];omega,fun p hp=>?_,(fun _ _=>by simp),(fun _ _=>by simp),rfl⟩;rcases x1g.mp hp with hp | hp
         · exact hac p hp
         · rw [x1c.mp hp];exact⟨c,(by show O'.length<=i + 1;omega),eo⟩
       · refine a6l (by omega) false ⟨(fun z=>nomatch z),fun z=>absurd z c⟩ ?_;refine if_f rfl ?_;rw [eP];exact no (fun⟨O2,h1,h2⟩=>by rw [eo] at h1;cases h1;exact c h2) _ _
   · obtain⟨acc,s7,s8,rfl,hal,hac,ha1,ha2,rfl⟩:=hJ
     have ne:acc≠[]:=by
       by_cases c:O=[]
       · exact ha1 c (by simp)
       · exact ha2 c (by simp)
     have nl:0 < acc.length:=List.length_pos_iff.mpr ne;have hal':acc.length<=7:=hal;generalize eA:acc.map enc=A;have lA:A.length=acc.length:=by rw [<- eA,x0g]
     generalize eP:O.map pin=OP;walk_at "pu";refine⟨⟨by omega,by omega,by omega⟩,fun d d0 d1=>?_⟩;obtain⟨y,hy,ey⟩:=b3j d0 d1;rw [ey];rw [<- eA] at hy;obtain⟨⟨mk,O'⟩,hp,rfl⟩:=x0H.mp hy;obtain⟨h1,h2,h3⟩:=hac _ hp;unfold enc;generalize eQ:O'.map pin=OQ;walk_at "pu";refine⟨⟨_,rfl⟩,by rw [<- eMs,x0g];omega,?_⟩;rw [<- eQ,show Ms++[mkP mk]=(ms++[mk]).map mkP by rw [x1b,eMs];rfl];exact hN _ _ ⟨_,_,_,_,_,_,rfl,by rw [x0q,x0G];omega,h1,h2,b1L hrun hms h3,by omega⟩
 · obtain⟨ms,O,s5,s6,s7,s8,rfl,hms,hcl,hOl,hrun,rfl⟩:=hI;rw [a1t] at hms hcl ⊢;walk_at "pu";have O0:O=[]:=x1h (by have:=hcl.1;omega);subst O0;exact h _ _ (by omega) hrun (by omega)
theorem at_map {α:Type}(f:α->PV)(d:α){xs:List α}{i:Int}{k:Nat}(hk:k < xs.length)(hi:i=k):atI (xs.map f) i=some (f (xs.getD k d)):=by
 subst hi;obtain⟨x,e1,e2⟩:=a9c (xs:=xs.map f) (d:=(k:Int)) (by omega) (by rw [x0g];omega);rw [e2];rw [x1i,x0r,x0f hk] at e1;rw [x0D,x0f hk];exact e1.symm
theorem a5E {α:Type}(f:α->Nat->α)(a:α)(k:Nat):(x0j (k + 1)).foldl f a=f ((x0j k).foldl f a) k:=by
 rw [List.range_succ,x3t];rfl
def mcP (c:Nat):PV:=.str (x0i (if c=1 then "d" else if c=2 then "o" else if c=3 then "t" else "u"))
def wdP (w:List Nat):PV:=.tup (w.map mcP)
def wsP (ws:List (List Nat)):PV:=.lst (ws.map wdP)
def a6t (si:List Nat)(sh:List (List (List Nat))):List (List Nat):=si.flatMap fun c=>(sh.getD (sh.length - 1) []).map fun b=>c::b
def a8q (cl sh:List (List (List Nat)))(i:Nat):List (List Nat):=(cl.getD i []).flatMap fun a=>(sh.getD (sh.length - 2 - i) []).map fun b=>3::(a++4::b)
def a2i (si:List Nat)(r:Nat)(cl sh:List (List (List Nat))):List (List Nat):=(x0j (min (r + 1) (sh.length - 1))).foldl (fun t i=>t++a8q cl sh i) (a6t si sh)
theorem a3K {α β:Type}(f:α->PV)(g:β->PV)(e:α->β->PV)(ys:List β){pi2:pA}{te:pE}{rest:Pu.Env}(l2:ys.length<=1000):∀(xs:List α) (s0 s1:Option Slot) (n:Nat) (R:List PV->Nat->Prop),
   (∀x∈xs,∀s m Q,Q (ys.map g) (some (.v (f x))::s::rest) m->pi2 (some (.v (f x))::s::rest) m Q)->
   (∀x∈xs,∀y∈ys,∀m Q,Q (e x y) (some (.v (f x))::some (.v (g y))::rest) m->te (some (.v (f x))::some (.v (g y))::rest) m Q)->
   R (xs.flatMap fun x=>ys.map (e x)) n->a4Z (gN 0) pi2 (gN 1) qTru te (xs.map f) (s0::s1::rest) n R:=by
 have inner:∀(x:α) (ys:List β) (s1:Option Slot) (n:Nat) (R:List PV->Pu.Env->Nat->Prop),(∀y∈ys,∀m Q,Q (e x y) (some (.v (f x))::some (.v (g y))::rest) m->te (some (.v (f x))::some (.v (g y))::rest) m Q)->
     (∀s,R (ys.map (e x)) (some (.v (f x))::s::rest) n)->a7i (gN 1) qTru te (ys.map g) (some (.v (f x))::s1::rest) n R:=by
   intro x ys
   induction ys with
   | nil=>intro s1 n R _ h;exact h s1
   | cons y ys ih =>
     intro s1 n R ht h;show te (some (.v (f x))::some (.v (g y))::rest) n _;refine ht y x0h n _ ?_;exact ih _ n _ (fun z hz=>ht z (x0d _ hz)) h
 intro xs
 induction xs with
 | nil=>intro s0 s1 n R _ _ h;exact h
 | cons x xs ih =>
   intro s0 s1 n R hi ht h;show pi2 (some (.v (f x))::s1::rest) n _;refine hi x x0h s1 n _ ⟨by rw [x0g];exact l2,?_⟩;refine inner x ys _ n _ (ht x x0h) fun s=>?_;exact ih _ s n _ (fun z hz=>hi z (x0d _ hz)) (fun z hz=>ht z (x0d _ hz)) h
def accW (si:List Nat)(cl sh:List (List (List Nat)))(k:Nat):List (List Nat):=(x0j k).foldl (fun t i=>t++a8q cl sh i) (a6t si sh)
theorem a5j (si:List Nat)(cl sh:List (List (List Nat)))(k:Nat):accW si cl sh (k + 1)=accW si cl sh k++a8q cl sh k:=a5E _ _ _
theorem b3o (si:List Nat)(cl sh:List (List (List Nat)))(k:Nat):∀d,(accW si cl sh k).length<=(accW si cl sh (k + d)).length:=by
 intro xq
 induction xq with
 | zero =>
   exact x0m _
 | succ d ih =>
   rw [<- Nat.add_assoc,a5j,x0q];have:=ih;omega
theorem a6k (si:List Nat)(r:Nat)(cl sh:List (List (List Nat)))(hs:1<=sh.length)(h1:sh.length<=cl.length + 1)(hb:sh.length<=10)(l0:si.length<=2)(lc:∀k,(cl.getD k []).length<=1000)(ls:∀k,(sh.getD k []).length<=1000)
   (wc:∀k,∀w∈cl.getD k [],w.length<=10) (ws:∀k,∀w∈sh.getD k [],w.length<=10) (tot:(a2i si r cl sh).length<=1000) {n:Nat} {R:PV->Nat->Prop} (h:R (wsP (a2i si r cl sh)) n):a2u [.tup (si.map mcP),.lst (cl.map wsP),.lst (sh.map wsP),.int r] n R:=by
 refine⟨rfl,?_⟩;unfold a4d;have gc:∀(j:Int) (k:Nat),j=k->k < cl.length->atI (cl.map wsP) j=some (wsP (cl.getD k [])):=fun j k e h=>at_map wsP [] h e;have gs:∀(j:Int) (k:Nat),j=k->k < sh.length->atI (sh.map wsP) j=some (wsP (sh.getD k [])):=fun j k e h=>at_map wsP [] h e;have lsi:(si.map mcP).length<=1000:=by rw [x0g];omega
 have lsh:(sh.map wsP).length=sh.length:=by rw [x0g]
 generalize esi:si.map mcP=SI at lsi;generalize ecl:cl.map wsP=CL at gc;generalize esh:sh.map wsP=SH at gs lsh;walk_at "pu";refine⟨lsi,?_⟩;rw [<- esi,lsh];refine a3K mcP wdP (fun c b=>wdP (c::b)) (sh.getD (sh.length - 1) []) (ls _) si none none n _ (fun x hx s m Q q=>?_) (fun x hx y hy m Q q=>?_) ?_
 · have e:=gs ((sh.length:Int) - 1) (sh.length - 1) (by omega) (by omega);walk_at "pu";rw [e];exact q
 · have:=ws _ y hy;unfold wdP at *;generalize ey:y.map mcP=Y at *;walk_at "pu";have ly:Y.length=y.length:=by rw [<- ey,x0g]
   refine⟨by omega,?_⟩;rw [<- ey] at *;exact q
 have eN:((if(sh.length:Int) - 2 < r then(sh.length:Int) - 2 else r) + 1).toNat=min (r + 1) (sh.length - 1):=by split <;> omega
 refine⟨⟨by split <;> omega,by split <;> omega⟩,?_⟩
 rw [eN]
 have e0:(si.flatMap fun x=>(sh.getD (sh.length - 1) []).map fun b=>wdP (x::b))=(accW si cl sh 0).map wdP:=by
   show _=(a6t si sh).map wdP;unfold a6t;rw [List.map_flatMap];refine congrArg (fun g=>List.flatMap g si) (funext fun c=>?_);rw [x0V]
   rfl
 rw [e0];rw [esi];refine a0S (fun k env q=>q=n/\∃z,env=[some (.v (.tup SI)),some (.v (.lst CL)),some (.v (.lst SH)),some (.v (.int r)),some (.v (.int sh.length)),some (.ow .lst ((accW si cl sh k).map wdP)),z]) _ 0 _ _ ⟨rfl,none,rfl⟩ (fun i x env q N hx hI hN=>?_) (fun env q hI=>?_)
 · obtain⟨rfl,z,rfl⟩:=hI;obtain⟨hi,rfl⟩:=a2z hx;rw [x0N] at *;rw [Int.zero_add]
   have tl:(accW si cl sh (i + 1)).length<=1000:=by
     have:=b3o si cl sh (i + 1) (min (r + 1) (sh.length - 1) - (i + 1));rw [show i + 1 + (min (r + 1) (sh.length - 1) - (i + 1))=min (r + 1) (sh.length - 1) by omega] at this;exact x1j this tot
   have ec:=gc (i:Int) i rfl (by omega);have es:=gs ((sh.length:Int) - 2 - i) (sh.length - 2 - i) (by omega) (by omega);have hN':=hN [some (.v (.tup SI)),some (.v (.lst CL)),some (.v (.lst SH)),some (.v (.int r)),some (.v (.int sh.length)),some (.ow .lst ((accW si cl sh (i + 1)).map wdP)),some (.v (.int i))] q ⟨rfl,_,rfl⟩;generalize eA:(accW si cl sh i).map wdP=AC;walk_at "pu";refine⟨⟨_,rfl⟩,?_⟩;rw [ec];unfold wsP;dsimp only;refine⟨by rw [x0g];exact lc _,?_⟩;refine a3K wdP wdP (fun a b=>wdP (3::(a++4::b))) (sh.getD (sh.length - 2 - i) []) (ls _) _ none none q _ (fun x hx s m Q q=>?_) (fun x hx y hy m Q q=>?_) ?_
   · walk_at "pu";rw [es];exact q
   · have h5:=ws _ y hy;have h6:=wc _ x hx;unfold wdP at *;have ex:(3::(x++4::y)).map mcP=.str (x0i "t")::(x.map mcP++.str (x0i "u")::y.map mcP):=by rw [x1f,x1b];rfl
     have lx:(x.map mcP).length=x.length:=by rw [x0g]
     have ly:(y.map mcP).length=y.length:=by rw [x0g]
     rw [ex] at q;generalize x.map mcP=X at *;generalize y.map mcP=Y at *;walk_at "pu";refine⟨by omega,by omega,by rw [x0q,x0G];omega,?_⟩;rw [x2l];exact q
   · have e:((cl.getD i []).flatMap fun a=>(sh.getD (sh.length - 2 - i) []).map fun b=>wdP (3::(a++4::b)))=(a8q cl sh i).map wdP:=by
       unfold a8q;rw [List.map_flatMap];refine congrArg (fun g=>List.flatMap g (cl.getD i [])) (funext fun c=>?_);rw [x0V]
       rfl
     rw [e];rw [a5j] at tl hN';rw [x0q] at tl;refine⟨by rw [<- eA,x0g,x0g];omega,?_⟩;rw [<- eA,<- x1b];exact hN'
 · obtain⟨rfl,z,rfl⟩:=hI;rw [x0N,a1t];exact h
def cls (r:Nat):Nat->List (List (List Nat))
 | 0=>[[[]]]
 | k + 1=>cls r k++[a2i [1] r (cls r k) (cls r k)]
def wss (r:Nat):Nat->List (List (List Nat))
 | 0=>[[[]]]
 | k + 1=>wss r k++[a2i [1,2] r (cls r (k + 1)) (wss r k)]
theorem a5J (r:Nat):∀k,(cls r k).length=k + 1:=by
 intro xq
 induction xq with
 | zero =>
   exact rfl
 | succ k ih =>
   rw [cls,x0q,ih];rfl
theorem a5k (r:Nat):∀k,(wss r k).length=k + 1:=by
 intro xq
 induction xq with
 | zero =>
   exact rfl
 | succ k ih =>
   rw [wss,x0q,ih];rfl
theorem cls_hd (r:Nat):∀k,∃t,cls r k=[[]]::t:=by
 intro xq
 induction xq with
 | zero =>
   exact⟨[],rfl⟩
 | succ k ih =>
   obtain⟨t,e⟩:=ih;rw [cls,e];exact⟨_,rfl⟩
theorem wss_hd (r:Nat):∀k,∃t,wss r k=[[]]::t:=by
 intro xq
 induction xq with
 | zero =>
   exact⟨[],rfl⟩
 | succ k ih =>
   obtain⟨t,e⟩:=ih;rw [wss,e];exact⟨_,rfl⟩
def OkW (L:List (List (List Nat))):Prop:=∀l∈L,l≠[]/\l.length<=1000/\∀w∈l,w.length<=10
theorem b3g {r:Nat}:∀(d k:Nat),∀x∈cls r k,x∈cls r (k + d):=by
 intro xq
 induction xq with
 | zero =>
   intro k x h;exact h
 | succ d ih =>
   intro k x h;rw [<- Nat.add_assoc,cls];exact x2I _ (ih k x h)
theorem b1p {r:Nat}:∀(d k:Nat),∀x∈wss r k,x∈wss r (k + d):=by
 intro xq
 induction xq with
 | zero =>
   intro k x h;exact h
 | succ d ih =>
   intro k x h;rw [<- Nat.add_assoc,wss];exact x2I _ (ih k x h)
theorem b1j {r k:Nat}(h:OkW (cls r 7))(hk:k<=7):OkW (cls r k):=fun l hl=>h l (by
 have:=b3g (7 - k) k l hl
 rwa [Nat.add_sub_cancel' hk] at this)
theorem a7p {r k:Nat}(h:OkW (wss r 7))(hk:k<=7):OkW (wss r k):=fun l hl=>h l (by
 have:=b1p (7 - k) k l hl
 rwa [Nat.add_sub_cancel' hk] at this)
theorem OkW.at (h:OkW L)(k:Nat):(L.getD k []).length<=1000/\∀w∈L.getD k [],w.length<=10:=by
 rw [x0D];cases e:L[k]? with
 | none=>exact⟨x1z _,fun w hw=>nomatch hw⟩
 | some l=>exact⟨(h l (x0P e)).2.1,(h l (x0P e)).2.2⟩
theorem a4e (w:List Nat):noMut (wdP w)=true:=by
 show a1R (w.map mcP)=true
 induction w with
 | nil=>rfl
 | cons c w ih=>exact ih
theorem a4O (ws:List (List Nat)):a1R (ws.map wdP)=true:=by
 induction ws with
 | nil=>rfl
 | cons c w ih=>show(noMut (wdP c) && a1R (w.map wdP))=true;rw [a4e,ih];rfl
theorem lsts5 {a b c:PV}{L1 L2:List PV}(h1:∃l t,L1=.lst l::t)(h2:∃l t,L2=.lst l::t):lsts [some (.v a),some (.v b),some (.ow .lst L1),some (.ow .lst L2),some (.v c)]:=fun i xs e=>by
 match i,e with
 | 2,e=>cases e;exact h1
 | 3,e=>cases e;exact h2
 | 0,e=>cases e
 | 1,e=>cases e
 | 4,e=>cases e
 | i + 5,e=>cases e
theorem a8s {α:Type}{l:List α}(h:l≠[]):∃w t,l=w::t:=by cases l;exact absurd rfl h;exact⟨_,_,rfl⟩
theorem a2R (r m:Nat)(hm:m<=7)(h0:1<=m)(oc:OkW (cls r 7))(ow:OkW (wss r 7))(eW:(wss r m).getD m []=W)(l2:2<=W.length)(so:a6G (W.map wdP)){lt:Nat->Nat->Bool}{ps:List Nat}
   (el:∀i j,i < W.length->j < W.length->lt i j=ltIx ((W.map wdP).map keyP) i j) (ht:Tm.tsort lt W.length=some ps) (pl:ps.length=W.length) (pi:∀i∈ps,i < W.length)
   {n:Nat} {R:PV->Nat->Prop} (h:R (.tup (ps.map fun i=>wdP (W.getD i []))) n):a1g [.int m,.int r] n R:=by
 refine⟨rfl,?_⟩;unfold a2f;walk_at "pu";refine⟨⟨by omega,by omega⟩,?_⟩;rw [x1i];refine a0S (fun k env q=>q=n/\∃z,env=[some (.v (.int m)),some (.v (.int r)),some (.ow .lst ((cls r k).map wsP)),some (.ow .lst ((wss r k).map wsP)),z]) _ 0 _ _ ⟨rfl,none,rfl⟩ (fun i x env q N hx hI hN=>?_) (fun env q hI=>?_)
 · obtain⟨rfl,z,rfl⟩:=hI;obtain⟨hi,rfl⟩:=a2z hx;rw [x0N] at *;rw [Int.zero_add];have lc:=a5J r i;have lw:=a5k r i;obtain⟨tc,ec⟩:=cls_hd r i;obtain⟨tw,ew⟩:=wss_hd r i;have o1:=b1j oc (show i<=7 by omega);have o2:=b1j oc (show i + 1<=7 by omega);have o3:=a7p ow (show i<=7 by omega);have o4:=a7p ow (show i + 1<=7 by omega);have k1:=o2 (a2i [1] r (cls r i) (cls r i)) (by rw [cls];exact x0M _ x0h);have k2:=o4 (a2i [1,2] r (cls r (i + 1)) (wss r i)) (by rw [wss];exact x0M _ x0h);have hN':=hN [some (.v (.int m)),some (.v (.int r)),some (.ow .lst ((cls r (i + 1)).map wsP)),some (.ow .lst ((wss r (i + 1)).map wsP)),some (.v (.int i))] q ⟨rfl,_,rfl⟩;have c1:(cls r (i + 1)).map wsP=(cls r i).map wsP++[wsP (a2i [1] r (cls r i) (cls r i))]:=by rw [cls,x1b];rfl
   have c2:(wss r (i + 1)).map wsP=(wss r i).map wsP++[wsP (a2i [1,2] r (cls r (i + 1)) (wss r i))]:=by rw [wss,x1b];rfl
   have hc:∃l t,(cls r i).map wsP=.lst l::t:=⟨_,_,by rw [ec];rfl⟩
   have hc2:∃l t,(cls r (i + 1)).map wsP=.lst l::t:=by
     obtain⟨l,t,e⟩:=hc;exact⟨l,_,by rw [c1,e];rfl⟩
   have hw:∃l t,(wss r i).map wsP=.lst l::t:=⟨_,_,by rw [ew];rfl⟩;have b1:=fun {R:PV->Nat->Prop} (h:R (wsP (a2i [1] r (cls r i) (cls r i))) q)=>a6k [1] r (cls r i) (cls r i) (by omega) (by omega) (by omega) (by decide) (fun k=>(o1.at k).1) (fun k=>(o1.at k).1) (fun k=>(o1.at k).2) (fun k=>(o1.at k).2) k1.2.1 (n:=q) h;have b2:=fun {R:PV->Nat->Prop} (h:R (wsP (a2i [1,2] r (cls r (i + 1)) (wss r i))) q)=>a6k [1,2] r (cls r (i + 1)) (wss r i) (by omega) (by rw [a5J];omega) (by omega) (by decide) (fun k=>(o2.at k).1) (fun k=>(o3.at k).1) (fun k=>(o2.at k).2) (fun k=>(o3.at k).2) k2.2.1 (n:=q) h;have lc':((cls r i).map wsP).length < 1000000:=by rw [x0g];omega
   have lw':((wss r i).map wsP).length < 1000000:=by rw [x0g];omega
   rw [c2] at hN';generalize (cls r i).map wsP=L1 at *;generalize (wss r i).map wsP=L2 at *;generalize (cls r (i + 1)).map wsP=L3 at *;walk_at "pu";obtain⟨w1,t1,e1⟩:=a8s k1.1;obtain⟨w2,t2,e2⟩:=a8s k2.1;refine⟨⟨_,rfl⟩,lsts5 hc hw,b1 ?_⟩;rw [e1];refine⟨a4e w1,a4O t1,?_⟩;rw [e1] at c1;refine⟨lc',⟨_,rfl⟩,lsts5 ?_ hw,?_⟩
   · obtain⟨l,t,e⟩:=hc2;exact⟨l,t,c1.symm.trans e⟩
   rw [<- c1];refine b2 ?_;rw [e2] at hN' ⊢;refine⟨a4e w2,a4O t2,lw',hN'⟩
 · obtain⟨rfl,z,rfl⟩:=hI;rw [x0N,a1t];have lw:=a5k r m;have e:atI ((wss r m).map wsP) (m:Int)=some (wsP ((wss r m).getD m [])):=at_map wsP [] (by omega) rfl;rw [eW] at e;generalize (wss r m).map wsP=L1 at *;walk_at "pu";rw [e];unfold wsP;dsimp only;have lW:(W.map wdP).length=W.length:=x0g _;have oW:W.length<=1000:=by rw [<- eW];exact((a7p ow hm).at m).1
   rw [lW];refine⟨⟨l2,oW⟩,so,lt,ps,el,ht,pl,pi,?_⟩
   have ep:(ps.map fun i=>(W.map wdP).getD i .non)=ps.map fun i=>wdP (W.getD i []):=by
     refine x1X fun i hi=>?_;have hl:=pi i hi;rw [x0D,x0D,x0r,x0f hl]
     rfl
   rw [ep];exact h
def mkK (c:Nat):Key:=.inr (x0i (if c=1 then "d" else if c=2 then "o" else if c=3 then "t" else "u"))
theorem a6n:∀w:List Nat,a0L (w.map mcP)=some (w.map mkK):=by
 intro xq
 induction xq with
 | nil =>
   exact rfl
 | cons c w ih =>
   show(a0L (w.map mcP)).map (mkK c::·)=_;rw [ih]
   rfl
theorem a5A (w:List Nat):keyP (wdP w)=w.map mkK:=by
 show(a0L (w.map mcP)).getD []=_;rw [a6n]
 rfl
def dig (c:Nat):Prop:=1<=c/\c<=4
def code:List Nat->Nat
 | []=>0
 | c::w=>c * 8 ^ w.length + code w
theorem a8W:∀w:List Nat,(∀c∈w,dig c)->code w < 8 ^ w.length:=by
 intro xq
 induction xq with
 | nil =>
   intro _
   decide
 | cons c w ih =>
   intro h;have h1:=ih fun d hd=>h d (x0d _ hd);have h2:=(h c x0h).2;show c * 8 ^ w.length + code w < 8 ^ (w.length + 1);rw [Nat.pow_succ];generalize 8 ^ w.length=p at *;have:c * p<=4 * p:=x1A p h2;omega
theorem a8u {c d:Nat}(hc:dig c)(hd:dig d):decide (mkK c=mkK d)=decide (c=d)/\a2S (mkK c) (mkK d)=decide (c < d):=by
 unfold dig at hc hd
 match c,d,hc,hd with
 | 1,1,_,_=>decide +kernel
 | 1,2,_,_=>decide +kernel
 | 1,3,_,_=>decide +kernel
 | 1,4,_,_=>decide +kernel
 | 2,1,_,_=>decide +kernel
 | 2,2,_,_=>decide +kernel
 | 2,3,_,_=>decide +kernel
 | 2,4,_,_=>decide +kernel
 | 3,1,_,_=>decide +kernel
 | 3,2,_,_=>decide +kernel
 | 3,3,_,_=>decide +kernel
 | 3,4,_,_=>decide +kernel
 | 4,1,_,_=>decide +kernel
 | 4,2,_,_=>decide +kernel
 | 4,3,_,_=>decide +kernel
 | 4,4,_,_=>decide +kernel
theorem a3h:∀a b:List Nat,(∀c∈a,dig c)->(∀c∈b,dig c)->a.length=b.length->lexK (a.map mkK) (b.map mkK)=decide (code a < code b)
 | [],[],_,_,_=>by decide
 | [],_::_,_,_,h=>nomatch h
 | _::_,[],_,_,h=>nomatch h
 | c :: a, d :: b, ha, hb, hl => by
   have hl':a.length=b.length:=by simpa using hl
   have ha':=fun x hx=>ha x (x0d c hx);have hb':=fun x hx=>hb x (x0d d hx);have ih:=a3h a b ha' hb' hl';obtain⟨k1,k2⟩:=a8u (ha c x0h) (hb d x0h);have la:=a8W a ha';have lb:=a8W b hb';rw [<- hl'] at lb;show(if mkK c=mkK d then lexK (a.map mkK) (b.map mkK) else a2S (mkK c) (mkK d))=decide (c * 8 ^ a.length + code a < d * 8 ^ b.length + code b);rw [<- hl'];generalize 8 ^ a.length=p at *
   by_cases e:c=d
   · subst e;rw [if_pos rfl,ih];refine decide_eq_decide.mpr ⟨fun h=>by omega,fun h=>by omega⟩
   · have e':¬mkK c=mkK d:=fun z=>by
       rw [decide_eq_true z] at k1;exact e (of_decide_eq_true k1.symm)
     rw [if_neg e',k2];refine decide_eq_decide.mpr ⟨fun h=>?_,fun h=>?_⟩
     · have:(c + 1) * p<=d * p:=x1A p h;rw [x4r] at this;omega
     · rcases Nat.lt_or_ge c d with z | z
       · exact z
       · have z':d + 1<=c:=by omega
         have:(d + 1) * p<=c * p:=x1A p z';rw [x4r] at this;omega
theorem b3n:∀a b:List Nat,Al (a.map mkK) (b.map mkK)
 | [],[]=>trivial
 | [],_::_=>trivial
 | _::_,[]=>trivial
 | _::a,_::b=>b3n a b
theorem mk_kP (w:List Nat):w.map mcP=(w.map mkK).map kP:=by rw [x0V];rfl
theorem a7I (h:∀w∈W,w≠[]):a6G (W.map wdP):=by
 refine .inr (.inr ⟨fun x hx=>?_,fun x hx y hy=>?_⟩)
 · obtain⟨w,hw,rfl⟩:=x0H.mp hx;refine⟨w.map mkK,by unfold wdP;rw [mk_kP],fun e=>?_⟩;exact h w hw (List.map_eq_nil_iff.mp e)
 · obtain⟨w,hw,rfl⟩:=x0H.mp hx;obtain⟨v,hv,rfl⟩:=x0H.mp hy;rw [a5A,a5A];exact b3n w v
def atB (b i:Nat):Nat:=(b >>> (21 * i)) % 2097152
def ltB (b i j:Nat):Bool:=Nat.blt (atB b i) (atB b j)
def decW:Nat->Nat->List Nat
 | 0,_=>[]
 | k + 1,n=>(n / 8 ^ k) % 8::decW k n
def unp (m len b:Nat):List (List Nat):=(x0j len).map fun i=>decW m (atB b i)
theorem ltB_ok {m b:Nat}(hd:∀w∈W,w.length=m/\∀c∈w,dig c)(hb:∀i,i < W.length->atB b i=code (W.getD i [])):∀i j,i < W.length->j < W.length->ltB b i j=ltIx ((W.map wdP).map keyP) i j:=by
 intro i j hi hj
 have g:∀k,k < W.length->((W.map wdP).map keyP).getD k []=(W.getD k []).map mkK/\W.getD k []∈W:=fun k hk=>by
   rw [x0V,x0D,x0D,x0r,x0f hk];exact⟨a5A _,x3G hk⟩
 unfold ltIx ltB;rw [(g i hi).1,(g j hj).1,hb i hi,hb j hj];have h1:=hd _ (g i hi).2;have h2:=hd _ (g j hj).2;rw [a3h _ _ h1.2 h2.2 (h1.1.trans h2.1.symm)];generalize code (W.getD i [])=x;generalize code (W.getD j [])=y;cases e:Nat.blt x y with
 | true=>exact(decide_eq_true (Nat.le_of_ble_eq_true e)).symm
 | false=>exact(decide_eq_false fun z=>by rw [show Nat.blt x y=true from Nat.ble_eq_true_of_le z] at e;cases e).symm
def low (m:Nat)(w:List Nat):Prop:=w.length=m/\∀c∈w,c < 8
theorem a6z:∀w:List Nat,(∀c∈w,c < 8)->code w < 8 ^ w.length:=by
 intro xq
 induction xq with
 | nil =>
   intro _
   decide
 | cons c w ih =>
   intro h;have h1:=ih fun d hd=>h d (x0d _ hd);have h2:=h c x0h;show c * 8 ^ w.length + code w < 8 ^ (w.length + 1);rw [Nat.pow_succ];generalize 8 ^ w.length=p at *;have:c * p<=7 * p:=x1A p (by omega);omega
theorem a6A:∀(m:Nat) (a b:List Nat),low m a->low m b->code a=code b->a=b
 | _,[],[],_,_,_=>rfl
 | m,[],d::b,ha,hb,_=>by have:=ha.1.trans hb.1.symm;cases this
 | m,c::a,[],ha,hb,_=>by have:=ha.1.trans hb.1.symm;cases this
 | m, c :: a, d :: b, ha, hb, e => by
   have l1:a.length=b.length:=by have:=ha.1.trans hb.1.symm;simpa using this
   have ha':low a.length a:=⟨rfl,fun x hx=>ha.2 x (x0d _ hx)⟩;have hb':low a.length b:=⟨l1.symm,fun x hx=>hb.2 x (x0d _ hx)⟩;have k1:=a6z a ha'.2;have k2:=a6z b hb'.2;rw [<- l1] at k2;have e':c * 8 ^ a.length + code a=d * 8 ^ b.length + code b:=e;rw [<- l1] at e'
   have hcd:c=d:=by
     generalize 8 ^ a.length=p at *;rcases Nat.lt_trichotomy c d with z | z | z
     · have:(c + 1) * p<=d * p:=x1A p z;rw [x4r] at this;omega
     · exact z
     · have:(d + 1) * p<=c * p:=x1A p z;rw [x4r] at this;omega
   subst hcd;have e2:code a=code b:=by omega
   rw [a6A a.length a b ha' hb' e2]
theorem a6x:∀m n,(decW m n).length=m:=by
 intro xq
 induction xq with
 | zero =>
   intro _;exact rfl
 | succ k ih =>
   intro n;show(decW k n).length + 1=_;rw [ih n]
theorem a7t {m len b i:Nat}(h:i < len):(unp m len b).getD i []=decW m (atB b i):=by
 unfold unp;rw [x0D,x0r,List.getElem?_range h]
 rfl
theorem b1s {m len b:Nat}:(unp m len b).length=len:=by unfold unp;rw [x0g,x3s]
theorem long5 {si:List Nat}{r:Nat}{cl sh:List (List (List Nat))}(hr:5<=r)(hl:sh.length<=7):a2i si r cl sh=a2i si 5 cl sh:=by
 unfold a2i;rw [show min (r + 1) (sh.length - 1)=min (5 + 1) (sh.length - 1) by omega]
theorem cls5 {r:Nat}(hr:5<=r):∀k,k<=7->cls r k=cls 5 k:=by
 intro xq
 induction xq with
 | zero =>
   intro _;exact rfl
 | succ k ih =>
   intro h;have l:=a5J 5 k;rw [cls,cls,ih (by omega),long5 hr (by omega)]
theorem wss5 {r:Nat}(hr:5<=r):∀k,k<=7->wss r k=wss 5 k:=by
 intro xq
 induction xq with
 | zero =>
   intro _;exact rfl
 | succ k ih =>
   intro h;have l:=a5k 5 k;rw [wss,wss,ih (by omega),cls5 hr (k + 1) (by omega),long5 hr (by omega)]
def okB (L:List (List (List Nat))):Bool:=L.all fun l=>!l.isEmpty && decide (l.length<=1000) && l.all fun w=>decide (w.length<=10)
theorem a1F (h:okB L=true):OkW L:=fun l hl=>by
 have:=x0z.mp h l hl;simp only [x1s,x0z,decide_eq_true_eq,Bool.not_eq_true',List.isEmpty_eq_false_iff] at this;exact⟨this.1.1,this.1.2,this.2⟩
def a0P (r:Nat):Nat->Nat->List Nat->List (List Mk)
 | 0,_,[]=>[[]]
 | 0,_,_::_=>[]
 | m + 1,k,[]=>(a0P r m (k + 1) []).map (Mk.d::·)++((a0P r m (k + 1) []).map (Mk.o::·)++(a0P r m (k + 1) [k]).map (Mk.t::·))
 | m + 1,k,p::s=>(a0P r m (k + 1) (p::s)).map (Mk.d::·)++((a0P r m (k + 1) (k::p::s)).map (Mk.t::·)++if k<=r + p + 1 then(a0P r m (k + 1) s).map (Mk.u::·) else [])
theorem a0N {m x:Mk}{w:List Mk}{L:List (List Mk)}:x::w∈L.map (m::·)↔x=m/\w∈L:=by
 rw [x0H];exact⟨fun⟨a,h,e⟩=>by cases e;exact⟨rfl,h⟩,fun⟨e,h⟩=>⟨w,h,by rw [e]⟩⟩
theorem a2B {m:Mk}{L:List (List Mk)}:[]∈L.map (m::·)↔False:=by
 rw [x0H];exact⟨fun⟨a,h,e⟩=>(by cases e),x2v⟩
theorem a0K {r:Nat}:∀(m k:Nat) (st:List Nat) (w:List Mk),w∈a0P r m k st↔w.length=m/\run (r:Int) k st w=some []
 | 0, k, [], w => by
   show w∈[[]]↔_;rw [x1c];exact⟨fun e=>by rw [e];exact⟨rfl,rfl⟩,fun h=>List.length_eq_zero_iff.mp h.1⟩
 | 0, k, p :: s, w => by
   show w∈[]↔_;refine⟨fun h=>absurd h x1t,fun h=>?_⟩;have e:=List.length_eq_zero_iff.mp h.1;rw [e] at h;cases h.2
 | m + 1, k, [], w => by
   have i0:=a0K (r:=r) m (k + 1) [];have i1:=a0K (r:=r) m (k + 1) [k];show w∈_++(_++_)↔_;rw [x1g,x1g];cases w with
   | nil =>
     rw [a2B,a2B,a2B];exact⟨fun h=>(by rcases h with h | h | h <;> exact h.elim),fun h=>(by cases h.1)⟩
   | cons x w =>
     rw [a0N,a0N,a0N,i0,i1,x0B,Nat.add_right_cancel_iff];cases x with
     | d=>exact⟨fun h=>(by rcases h with h | h | h <;> first | exact h.2 | cases h.1),fun h=>.inl ⟨rfl,h⟩⟩
     | o=>exact⟨fun h=>(by rcases h with h | h | h <;> first | exact h.2 | cases h.1),fun h=>.inr (.inl ⟨rfl,h⟩)⟩
     | t=>exact⟨fun h=>(by rcases h with h | h | h <;> first | exact h.2 | cases h.1),fun h=>.inr (.inr ⟨rfl,h⟩)⟩
     | u=>exact⟨fun h=>(by rcases h with h | h | h <;> cases h.1),fun h=>(by cases h.2)⟩
 | m + 1, k, p :: s, w => by
   have i0:=a0K (r:=r) m (k + 1) (p::s);have i1:=a0K (r:=r) m (k + 1) (k::p::s);have i2:=a0K (r:=r) m (k + 1) s;show w∈_++(_++if k<=r + p + 1 then _ else _)↔_;rw [x1g,x1g];cases w with
   | nil =>
     rw [a2B,a2B];refine⟨fun h=>?_,fun h=>by cases h.1⟩;rcases h with h | h | h
     · exact h.elim
     · exact h.elim
     · split at h
       · exact(a2B.mp h).elim
       · exact absurd h x1t
   | cons x w =>
     rw [a0N,a0N,i0,i1,x0B,Nat.add_right_cancel_iff]
     have hu:(x::w∈if k<=r + p + 1 then(a0P r m (k + 1) s).map (Mk.u::·) else [])↔x=.u/\k<=r + p + 1/\w.length=m/\run (r:Int) (k + 1) s w=some []:=by
       by_cases c:k<=r + p + 1
       · rw [if_pos c,a0N,i2];exact⟨fun⟨a,b⟩=>⟨a,c,b⟩,fun⟨a,_,b⟩=>⟨a,b⟩⟩
       · rw [if_neg c];exact⟨fun h=>absurd h x1t,fun h=>absurd h.2.1 c⟩
     rw [hu];cases x with
     | d=>exact⟨fun h=>(by rcases h with h | h | h <;> first | exact h.2 | cases h.1),fun h=>.inl ⟨rfl,h⟩⟩
     | o=>exact⟨fun h=>(by rcases h with h | h | h <;> cases h.1),fun h=>(by cases h.2)⟩
     | t=>exact⟨fun h=>(by rcases h with h | h | h <;> first | exact h.2 | cases h.1),fun h=>.inr (.inl ⟨rfl,h⟩)⟩
     | u =>
       have eu:run (r:Int) k (p::s) (.u::w)=if(k:Int) - p - 1<=r then run (r:Int) (k + 1) s w else none:=rfl;rw [eu];refine⟨fun h=>?_,fun h=>.inr (.inr ?_)⟩
       · rcases h with h | h | h
         · cases h.1
         · cases h.1
         · rw [if_pos (by omega)];exact h.2.2
       · by_cases c:(k:Int) - p - 1<=r
         · rw [if_pos c] at h;exact⟨rfl,by omega,h⟩
         · rw [if_neg c] at h;cases h.2
def cd:Mk->Nat
 | .d=>1
 | .o=>2
 | .t=>3
 | .u=>4
theorem mc_cd (m:Mk):mcP (cd m)=mkP m:=by cases m <;> rfl
theorem a6C (m:Mk):dig (cd m):=by cases m <;> exact⟨by decide,by decide⟩
def wP (w:List Mk):PV:=.tup (w.map mkP)
theorem wd_cd (w:List Mk):wdP (w.map cd)=wP w:=by
 unfold wdP wP;rw [x0V];exact congrArg PV.tup (x1X fun m _=>mc_cd m)
def a0m (r m:Nat):List Nat:=(a0P r m 0 []).map fun w=>code (w.map cd)
theorem a2M {m:Nat}:∀l1 l2:List (List Nat),(∀w∈l1,low m w)->(∀w∈l2,low m w)->l1.map code=l2.map code->l1=l2
 | [],[],_,_,_=>rfl
 | [],_::_,_,_,h=>nomatch h
 | _::_,[],_,_,h=>nomatch h
 | a :: l1, b :: l2, h1, h2, h => by
   rw [x1f,x1f] at h;obtain⟨e1,e2⟩:=List.cons.inj h;rw [a6A m a b (h1 a x0h) (h2 b x0h) e1,a2M l1 l2 (fun w hw=>h1 w (x0d _ hw)) (fun w hw=>h2 w (x0d _ hw)) e2]
def wok (m b i:Nat):Bool:=(code (decW m (atB b i)) == atB b i) && (decW m (atB b i)).all (fun c=>decide (1<=c) && decide (c<=4))
def chk (len b:Nat)(cs:List Nat):Bool:=match Tm.tsort (ltB b) len with
 | none=>false
 | some ps=>(ps.length == len) && ps.all (fun i=>decide (i < len)) && (ps.map (atB b) == cs)
def a0p (r m:Nat):Prop:=∀(n:Nat) (R:PV->Nat->Prop),R (.tup ((a0P r m 0 []).map wP)) n->a1g [.int m,.int r] n R
theorem a0d {r m len b:Nat}(h1:1<=m)(h7:m<=7)(l2:2<=len)(oc:OkW (cls r 7))(ow:OkW (wss r 7))(hW:(wss r m).getD m []=unp m len b)(hk:(x0j len).all (wok m b)=true)(hc:chk len b (a0m q m)=true)(hq:a0m r m=a0m q m):a0p r m:=by
 have facts:∀i,i < len->code (decW m (atB b i))=atB b i/\(∀c∈decW m (atB b i),dig c):=fun i hi=>by
   have h:=x0z.mp hk i (x1q.mpr hi);unfold wok at h;simp only [x1s,beq_iff_eq,x0z,decide_eq_true_eq] at h;exact h
 rw [<- hq] at hc;unfold chk at hc;cases ht:Tm.tsort (ltB b) len with
 | none=>rw [ht] at hc;cases hc
 | some ps =>
   rw [ht] at hc;simp only [x1s,beq_iff_eq,x0z,decide_eq_true_eq] at hc;obtain⟨⟨c1,c2⟩,c3⟩:=hc;have lu:(unp m len b).length=len:=b1s;intro n R q
   have mem:∀w∈unp m len b,w.length=m/\∀c∈w,dig c:=fun w hw=>by
     unfold unp at hw;obtain⟨i,hi,rfl⟩:=x0H.mp hw;exact⟨a6x _ _,(facts i (x1q.mp hi)).2⟩
   have eL:(ps.map fun i=>decW m (atB b i))=(a0P r m 0 []).map (·.map cd):=by
     refine a2M (m:=m) _ _ (fun w hw=>?_) (fun w hw=>?_) ?_
     · obtain⟨i,hi,rfl⟩:=x0H.mp hw;exact⟨a6x _ _,fun c hc=>by have:=((facts i (c2 i hi)).2 c hc).2;omega⟩
     · obtain⟨v,hv,rfl⟩:=x0H.mp hw;refine⟨by rw [x0g];exact((a0K m 0 [] v).mp hv).1,fun c hc=>?_⟩;obtain⟨x,_,rfl⟩:=x0H.mp hc;have:=(a6C x).2;omega
     · rw [x0V,x0V];unfold a0m at c3;rw [show x2C (code∘fun w=>x2C cd w) (a0P r m 0 [])=(a0P r m 0 []).map fun w=>code (w.map cd) from rfl,<- c3];exact x1X fun i hi=>(facts i (c2 i hi)).1
   refine a2R r m h7 h1 oc ow hW (by rw [lu];exact l2) (a7I fun w hw e=>by have:=(mem w hw).1;rw [e] at this;simp at this;omega) (lt:=ltB b) (ps:=ps) (ltB_ok mem fun i hi=>?_) (by rw [lu];exact ht) (by rw [lu];exact c1) (fun i hi=>by rw [lu];exact c2 i hi) ?_
   · rw [lu] at hi;rw [a7t hi];exact(facts i hi).1.symm
   · have e:(ps.map fun i=>wdP ((unp m len b).getD i []))=(a0P r m 0 []).map wP:=by
       have e1:(ps.map fun i=>wdP ((unp m len b).getD i []))=(ps.map fun i=>decW m (atB b i)).map wdP:=by
         rw [x0V];refine x1X fun i hi=>?_;rw [a7t (c2 i hi)]
         rfl
       rw [e1,eL,x0V];exact x1X fun w _=>wd_cd w
     rw [e];exact q
def mkL:Nat->List (Nat×Nat)->List (List (List Nat))
 | _,[]=>[]
 | k,(l,b)::t=>unp k l b::mkL (k + 1) t
theorem a2F {r:Nat}{C:List (List (List Nat))}(h0:C.take 1=[[[]]])(hl:C.length=8)(hs:∀k,k < 7->a2i [1] r (C.take (k + 1)) (C.take (k + 1))=C.getD (k + 1) []):∀k,k<=7->cls r k=C.take (k + 1):=by
 intro xq
 induction xq with
 | zero =>
   intro _;exact h0.symm
 | succ k ih =>
   intro h;rw [cls,ih (by omega),hs k (by omega),x2h (i:=k + 1),x0D,x0f (by omega)]
   rfl
theorem a2v {r:Nat}{C W:List (List (List Nat))}(hC:∀k,k<=7->cls r k=C.take (k + 1))(h0:W.take 1=[[[]]])(hl:W.length=8)(hs:∀k,k < 7->a2i [1,2] r (C.take (k + 2)) (W.take (k + 1))=W.getD (k + 1) []):∀k,k<=7->wss r k=W.take (k + 1):=by
 intro xq
 induction xq with
 | zero =>
   intro _;exact h0.symm
 | succ k ih =>
   intro h;rw [wss,ih (by omega),hC (k + 1) h,hs k (by omega),x2h (i:=k + 1),x0D,x0f (by omega)]
   rfl
def bc01:Nat:=1
def bw01:Nat:=4194305
def bc02:Nat:=58720265
def bw02:Nat:=541598933208125300465991689
def bc03:Nat:=989560657936457
def bw03:Nat:=779897707425981508789952048646020746938111407342904041544476373100265545
def bc04:Nat:=35203936478474281304440439369
def bw04:Nat:=1843779764821613107998917407765423356123802905502613948253175962757113300550075957213289151883435126389073648660158263142492342342502984561707272139528178928835367115363213436256841
def bc05:Nat:=2597770434085517210930640633146437149646391349833
def bw05:Nat:=226821882691100402069497793898383425106804593724162842596099124020567553437522409511720624408869635337604137094666511831763618857164324533644896702910822222512053565126420870938761159656629995726250064991455389308574950771392105849939061551005217869191422376251754423928783159211638170739070523197116568965044936002866096444482569547075908719189075917518672003764122576497984171658298668767802674974990027032295653132394050133648526343672393
def bc06:Nat:=843169447792782234122571832326349953782008896254068927254771707276087948220600905
def bw06:Nat:=125944920536946733663207514712711925194383366151533782468490402229019614313035504667999257365906676954088951225234505073468354577261309430137556606519532242651943504430559095885796539834386378853632595376807484173423543250707474751729302883774911022552590670807323637008861928950015620550697230208982708087525936997550099551421745379373985813409628648300782811374718143528377847690151651268291833672530100239062906111907661818849397979845096835907392810521026362323559215733415960462216299103013345138602547414238995637124132868295534490821971023631854429898736768930295943346998977393843520484353600347732703035175265699289314839524794032311158285918674277563465767298291805166117883082943945110491152444096572199218848910632603740028675902414506751821885023137520942448499647596895424109029642185989444342716734181556718531390123352807090221779776445530742358772128282933504739166537034895154425967194175273058032636562698274762073700029378679823815822576952422375670431251077437951329129682899784386057650057082625219764112476501126158616293901478329152962765558345
def bc07:Nat:=2523739854071999046393818229942502325348095971498436477432808964696692165187434101703328071382821461780425039154227255747363515699785
def bw07:Nat:=74613912439178234118800895396183813139975161684024663799540146841602874488171799166361974451969536603012867524410871499606392812075608221679763195873022162777050392121964850048440317531929842945039967125127776936573380458096274575442697137719570061089263983931251478501186157778473525944424316037413587521321987126269628753573918465208813507577324959894917232519589500779973796056196154984069419208676017148301750622096498133605605761277250533000075700106868817716157579862471584216432610680994005599539745309372102445307156292398149347153898764899871426060444327268040937609083906937231508847654821320013516862100606250626755606268702128792409415492039992263980094415769216624180073946905138259946583315492005790370291419550226863665496367042264770903997874818024127424398935145309938647444768171196140957216849225650246982549845056169884036002141919844345883877242283545957923007773255383039888645043715149804694048011767744013625541126992022547359954143592640278224098438813944664154391490929383098532905275751866707758265693231117158979614896686401276314398504902059111301766374635191009075399742298730835488578156012808446922686553852361478605542967003137823551339061383482344690238136030601418074809643898209540732008880481935769779785457001878751069919723979377004339866407588536732978201530467638605251181389100149547548019633239912261927051412392653339839976104870993579232239681572582136980392724477493748921758806034803387147542713339653333697980239992370986288265088516902550008640581548912367834800709901720507914661003528547804017524699318299674976386532660953834814787503818427084078266187793072594623577884237543350992123305534209042472108715445747248120428007285131620508307787456187132136761040759406016875910420076188544540011902338904512980060580974011777562833498450586500175453075304332112418000885357960345365326863192351982842714738699733856132780391912015631076629368141309885428753271313669030190596985552940457159755713957980944809334405429617507242558957420082463032954867481412677677514349409906234668181682670769218390754715524910015414078508236330068779041990893195950077090325297335348341504411006039777094081751266625779288000773995316599457996597918311131141729691113251711865733781374692368066529298404905091593283214557917151964580190314503074727058443544100435005193505870473933557925340590194985036005888891269190808948082512374039224033310090245640186276702608716200464552938609908572103966045896172376555065288375670617485907131856187523143428926611279654860468806187147999680259494824254488742245635427541291287108268332484567209903166025
def C0:List (List (List Nat)):=[[]]::mkL 1 [(1,bc01),(2,bc02),(3,bc03),(5,bc04),(8,bc05),(13,bc06),(21,bc07)]
def V0:List (List (List Nat)):=[[]]::mkL 1 [(2,bw01),(5,bw02),(12,bw03),(29,bw04),(70,bw05),(169,bw06),(408,bw07)]
theorem eC0:∀k,k<=7->cls 0 k=C0.take (k + 1):=a2F rfl rfl (by decide +kernel)
theorem eV0:∀k,k<=7->wss 0 k=V0.take (k + 1):=a2v eC0 rfl rfl (by decide +kernel)
theorem oC0:OkW (cls 0 7):=by rw [eC0 7 (by decide)];exact a1F (by decide +kernel)
theorem oV0:OkW (wss 0 7):=by rw [eV0 7 (by decide)];exact a1F (by decide +kernel)
theorem x01:(x0j 2).all (wok 1 bw01)=true/\chk 2 bw01 (a0m 0 1)=true:=⟨by decide +kernel,by decide +kernel⟩
theorem y01:(wss 0 1).getD 1 []=unp 1 2 bw01:=by rw [eV0 1 (by decide)];rfl
theorem z01:a0p 0 1:=a0d (by decide) (by decide) (by decide) oC0 oV0 y01 x01.1 x01.2 rfl
theorem x02:(x0j 5).all (wok 2 bw02)=true/\chk 5 bw02 (a0m 0 2)=true:=⟨by decide +kernel,by decide +kernel⟩
theorem y02:(wss 0 2).getD 2 []=unp 2 5 bw02:=by rw [eV0 2 (by decide)];rfl
theorem z02:a0p 0 2:=a0d (by decide) (by decide) (by decide) oC0 oV0 y02 x02.1 x02.2 rfl
theorem x03:(x0j 12).all (wok 3 bw03)=true/\chk 12 bw03 (a0m 0 3)=true:=⟨by decide +kernel,by decide +kernel⟩
theorem y03:(wss 0 3).getD 3 []=unp 3 12 bw03:=by rw [eV0 3 (by decide)];rfl
theorem z03:a0p 0 3:=a0d (by decide) (by decide) (by decide) oC0 oV0 y03 x03.1 x03.2 rfl
theorem x04:(x0j 29).all (wok 4 bw04)=true/\chk 29 bw04 (a0m 0 4)=true:=⟨by decide +kernel,by decide +kernel⟩
theorem y04:(wss 0 4).getD 4 []=unp 4 29 bw04:=by rw [eV0 4 (by decide)];rfl
theorem z04:a0p 0 4:=a0d (by decide) (by decide) (by decide) oC0 oV0 y04 x04.1 x04.2 rfl
theorem x05:(x0j 70).all (wok 5 bw05)=true/\chk 70 bw05 (a0m 0 5)=true:=⟨by decide +kernel,by decide +kernel⟩
theorem y05:(wss 0 5).getD 5 []=unp 5 70 bw05:=by rw [eV0 5 (by decide)];rfl
theorem z05:a0p 0 5:=a0d (by decide) (by decide) (by decide) oC0 oV0 y05 x05.1 x05.2 rfl
theorem x06:(x0j 169).all (wok 6 bw06)=true/\chk 169 bw06 (a0m 0 6)=true:=⟨by decide +kernel,by decide +kernel⟩
theorem y06:(wss 0 6).getD 6 []=unp 6 169 bw06:=by rw [eV0 6 (by decide)];rfl
theorem z06:a0p 0 6:=a0d (by decide) (by decide) (by decide) oC0 oV0 y06 x06.1 x06.2 rfl
theorem x07:(x0j 408).all (wok 7 bw07)=true/\chk 408 bw07 (a0m 0 7)=true:=⟨by decide +kernel,by decide +kernel⟩
theorem y07:(wss 0 7).getD 7 []=unp 7 408 bw07:=by rw [eV0 7 (by decide)];rfl
theorem z07:a0p 0 7:=a0d (by decide) (by decide) (by decide) oC0 oV0 y07 x07.1 x07.2 rfl
def bc11:Nat:=1
def bw11:Nat:=4194305
def bc12:Nat:=58720265
def bw12:Nat:=541598933208125300465991689
def bc13:Nat:=1881568885079032201289
def bw13:Nat:=1476349917673488917632038848812819471149939242598324534407125740577265503174729
def bc14:Nat:=138920350123478921414024979426061951435337
def bw14:Nat:=32019116577017901722840802172759743766180641012423480990481091530452627312145890632491800259662206303784912783229979968117606268385442975719983805186946575695650563133031568928383625366464773831264728777289
def bc15:Nat:=94689026059497254864671679938529072793887622663197884682259285847306644534334025
def bw15:Nat:=6486690616586345514291859381640317064450532984999410956726566556437370593392831670389686365253867376627168908754273668320478458452419103037825828045561951717547066821923446747946145971102086875099831237238209554743064335301645348065423990638809569179754094929147050772299154747934857051706048381334305414747535620861258826353405978856258981445810182972738626256612466486260531589203134222876947159400367937946005285737956142278825677663907887704234875623916263048269875935879246142799604269477746580591643995280664099314913514057
def bc16:Nat:=2613579080803053664857223661463284797227955012864200138318816321176824345340073434602750665564931663481902805890372090930262417972314780728316756267593
def bw16:Nat:=33644830496443025411917292213607011661042322607342237126091875293050115789422645834242636426129070867841103335610556385569839814969925413417355858690939521343781644314363408163361512818159348123007732829791343859791245066002938554487592738572600291389719342670250876539385422884365665767244397389953978244263617882553538748966628045761078984683420174939305690988557294064711794360140159217601333639447982784051180978799589859876952400202329411874791861884656528076046243541848091985991019097558492632902721035913710182691099988945888928598948406136843924241177111982120960353307866724758714959352751146445807201761706534919987086265470087716054987735042335455515498429844592490249345528691716240908829659312073259211099516383429515539950428341039390587089399294294179403539751173605591196660797415059830581664686766081782864875059843974303090290934588855473803652398906272854625519207916957408814520528995593969569898346137301640566901166462983592611922199552388516700932947093238747025280451903313369696413162583233362201611019165212343744137384527179344887514441501192954334639039575311844147475869751477339053601470872698042099092824589851301285414349167827688596306878770283218537986943283131687534521180598610496142901717962362432929639997695307016661124997555248053135999480092578951460711359010324198830364435543393286670590963827344307866604105
def bc17:Nat:=56614063798366480562912499341379474114388011048151165016744475119144186049483981737083194061142483426445922709124739701725977451479914086310144268590013846603529162141045646227537486738407652201718522599889562673218841882137756399148527189926485941029702661623451106054760600137
def bw17:Nat:=7753704209706582684766675443396727760140734151739680466097386784635485627709650217467017048572402736756163831256178348090535238797473128367313372609616260297439597196382970378334265464638817157159850521663258074339319669786360137000730366091020752233092785763171705623072390682748521549856173020772056904868836327718519226426962630345234105939280421043701880912473535138217675148778588797829674719054061522455267191090111427899728066301888097820515094524813268376152818587366962463321205169352618909379852444111454710492480638394035129418246835500600224948852953513541119554121773531917119553163556001889662061332567463669510661621055378688256356009899247184468676790534784510639520804905316598919184193655828691229020263881788654963111292409641430207121814493960460521330687734909736673002196839062819707205596782230022420589591738569113284910659532152433222177767452504053491709777342238034299670739564596169446590788279827902162909600744859727499388138375023599513613179335295643782061445315414580509906010206624807433050208680838438657027390594066721704009192304046784408745207822795201705257482656179560746578986676487973611107948964181182337676524240144396838567942346576028540740620594564071650588702341351302653076076760957044772052996625249061778018526592695351856578321911705737712463862203786775060104754188656439323953738807456360567157741068477773526412211697519629489571732346272329059552763538772533846326040298210888781892469608360804793169469798697080361886376545721596168618710092810367562438356011909610517627732568420250967453230874783386490739559172760836730782169721212576336086061027931659806669068221126439285468138858163886625544932167053246267853061513735235609465324922410361483771631309358886392404642797927041922957907530303018259443238412439338034836418676958982918499243062780641162905036863285177044439231037280483039363043451268773636380191212179546732832581569159713642904773028107475154565727826446556252787995553845173075199976707468204080559760474773555683025943705602100081120873343256330683896540343730807640610541223979590970920553475999877220075835773232737901966556297674441809863033990488972498647090131392707961751970334973732290372446705127607898874651065271392698209063970683368315028390387048993605790254536510672840789504769971614445432826721759660731386068349996891826556232734640452531539642695171398350124517491247094178591947347036236895070655736198321265341723381718346602261775166334735272943338106191849956001400572252839223990157405855078400459632165138603505040953229662557540613146222306393146684594125654195686017217806040409432826124560652512806788604753731899054882446666683669378529771706337279039735209848681767752446550632479219823048170121184881031789580997228431227237350743405139961980911644790151041246105325601764557249227705485742894926900475857879278162145652155190955823536963249706510508196077902902091726761407473100707254779308834063667982916424352102438062752268057114501663902081044239218967672926142528668072231444312469240940285158758453428893249341082087194687028503265365149293753691716446834372929831503876728419725523249638298952500266962362676493401603363903505090148147599254614182204220113047235805802301542325740611167609039419064177738944373088274231881553982141304410287052202644265466501918699395742292190992669108637913678806232079583071519898262755562674525956780874107815906404563329371185864874571619222019444619772138217120912439433714157630720873033
def C1:List (List (List Nat)):=[[]]::mkL 1 [(1,bc11),(2,bc12),(4,bc13),(7,bc14),(13,bc15),(24,bc16),(44,bc17)]
def V1:List (List (List Nat)):=[[]]::mkL 1 [(2,bw11),(5,bw12),(13,bw13),(33,bw14),(84,bw15),(214,bw16),(545,bw17)]
theorem eC1:∀k,k<=7->cls 1 k=C1.take (k + 1):=a2F rfl rfl (by decide +kernel)
theorem eV1:∀k,k<=7->wss 1 k=V1.take (k + 1):=a2v eC1 rfl rfl (by decide +kernel)
theorem oC1:OkW (cls 1 7):=by rw [eC1 7 (by decide)];exact a1F (by decide +kernel)
theorem oV1:OkW (wss 1 7):=by rw [eV1 7 (by decide)];exact a1F (by decide +kernel)
theorem x11:(x0j 2).all (wok 1 bw11)=true/\chk 2 bw11 (a0m 1 1)=true:=⟨by decide +kernel,by decide +kernel⟩
theorem y11:(wss 1 1).getD 1 []=unp 1 2 bw11:=by rw [eV1 1 (by decide)];rfl
theorem z11:a0p 1 1:=a0d (by decide) (by decide) (by decide) oC1 oV1 y11 x11.1 x11.2 rfl
theorem x12:(x0j 5).all (wok 2 bw12)=true/\chk 5 bw12 (a0m 1 2)=true:=⟨by decide +kernel,by decide +kernel⟩
theorem y12:(wss 1 2).getD 2 []=unp 2 5 bw12:=by rw [eV1 2 (by decide)];rfl
theorem z12:a0p 1 2:=a0d (by decide) (by decide) (by decide) oC1 oV1 y12 x12.1 x12.2 rfl
theorem x13:(x0j 13).all (wok 3 bw13)=true/\chk 13 bw13 (a0m 1 3)=true:=⟨by decide +kernel,by decide +kernel⟩
theorem y13:(wss 1 3).getD 3 []=unp 3 13 bw13:=by rw [eV1 3 (by decide)];rfl
theorem z13:a0p 1 3:=a0d (by decide) (by decide) (by decide) oC1 oV1 y13 x13.1 x13.2 rfl
theorem x14:(x0j 33).all (wok 4 bw14)=true/\chk 33 bw14 (a0m 1 4)=true:=⟨by decide +kernel,by decide +kernel⟩
theorem y14:(wss 1 4).getD 4 []=unp 4 33 bw14:=by rw [eV1 4 (by decide)];rfl
theorem z14:a0p 1 4:=a0d (by decide) (by decide) (by decide) oC1 oV1 y14 x14.1 x14.2 rfl
theorem x15:(x0j 84).all (wok 5 bw15)=true/\chk 84 bw15 (a0m 1 5)=true:=⟨by decide +kernel,by decide +kernel⟩
theorem y15:(wss 1 5).getD 5 []=unp 5 84 bw15:=by rw [eV1 5 (by decide)];rfl
theorem z15:a0p 1 5:=a0d (by decide) (by decide) (by decide) oC1 oV1 y15 x15.1 x15.2 rfl
theorem x16:(x0j 214).all (wok 6 bw16)=true/\chk 214 bw16 (a0m 1 6)=true:=⟨by decide +kernel,by decide +kernel⟩
theorem y16:(wss 1 6).getD 6 []=unp 6 214 bw16:=by rw [eV1 6 (by decide)];rfl
theorem z16:a0p 1 6:=a0d (by decide) (by decide) (by decide) oC1 oV1 y16 x16.1 x16.2 rfl
theorem x17:(x0j 545).all (wok 7 bw17)=true/\chk 545 bw17 (a0m 1 7)=true:=⟨by decide +kernel,by decide +kernel⟩
theorem y17:(wss 1 7).getD 7 []=unp 7 545 bw17:=by rw [eV1 7 (by decide)];rfl
theorem z17:a0p 1 7:=a0d (by decide) (by decide) (by decide) oC1 oV1 y17 x17.1 x17.2 rfl
def bc21:Nat:=1
def bw21:Nat:=4194305
def bc22:Nat:=58720265
def bw22:Nat:=541598933208125300465991689
def bc23:Nat:=1881568885079032201289
def bw23:Nat:=1476349917673488917632038848812819471149939242598324534407125740577265503174729
def bc24:Nat:=659991042982987464015132323663386820201000684562154057
def bw24:Nat:=152025231746617054162616445935253739815241759087516481672089204270674585948005969348469940688196657248307915974629245538411494010075680691579174854986601025254066903182677280464488384377381609838255025683859123977847369
def bc25:Nat:=1975595707517150944214816384511377230491594702213581959949865651459932128642338228235950755875132203340361
def bw25:Nat:=2618014418359418538012343516171770974116877057106154124034155421577395477721632316781554828685648125643670430978510933089055505466963745325188116527410083382732233149592317447187482139490477857777556642159819304670282029045365463427495614967896443517308205611958198794258136747879415983420272859189976148459322835654643447337325859979991140411980395880098770886399862697912677447755663620269560640424123941468772173319687731334728807830027274728792781015856500082759459200898749670601359209841947380696841139696681481061083397187329984951028408306996009389465556137502014571549257
def bc26:Nat:=4640592732328774150493766766603587085819779637487210114828688498343657272752357851363375094002136786096875148429579988287842099919959818727354184528015695982652241670086004035283049365753911257464114797744813544009
def bw26:Nat:=36778542608240666872053776626755530143789914769366160460938920289603353386738092584260374131339048784034090957315114662263021191681103061496162398134678083639170027028532793654424942348998349915846137317503004669095150787321243328209230820330604508507223992837430960849860396393624473537121045976051576774570936973287756963215991478629750018713855355581986733733048747229085332325175891800656513761575083348250992780529078135923405547184359644672507787263232039026006551361208128966151185350434243217367923225478563505795043777402051194267872169577322491381320091879743482822002208342327617261886863959845901636893082037959025022226077357051640825446439330320044726396164422474142805988298698369380092320211308644103407066487299819834965950834539432546627174390058017160903916036276220836811299183267556864430751927696877295445815662686930055676129899006327441994362267134147370933827609533427944216658015824099205930649306991407804585503895965718741565440902167677573776748627666957162971825468223484865092897351514014419718317131441963523674658322899746009426075106446980580194901945315214358239257264710313251520578525369023804083765804451457111178039543345842762392162276500622593229300571167386968531014971259072166179977587427884820703005835071355211572035411145737326297552606758770366661512646898793037921434660262282982741131315124170283518586920889348801278532691550358796422776685818663334719691832868934531892125171206250341294272360493061621867085396190039767744454192503254129333666004893818995620604774456101999177
def bc27:Nat:=3199416143317887126037931277173373385526611125464785888080203488558427785271113259449349350323483419486158228429335323078156761685462663135406471722049516117097559424815330747333812072691781873975548331755174707326768305966834300353796277736705070722478906209301774097743212089788421614430201358254788196272480695833568574818036324002397163541951116021874867535118313953908147248683157823724806235050996555088452649761795425473097
def bw27:Nat:=3254534807453989121542690703039506980201201166086784436333472303768427626883474082107299857280020393142954157579806034472669547725566498116128153543486909375739871007035102114204428781374905307970788311121951987327805488163957478287292741639304591375529131603058656634737519623987744241307935031758323316457467586923207627391668314700977112490753734063233920565066567376608739390731760097117208735142374171008099550397793421966269820885802777137459824123651798240125225315617370667872851151148806863314281690558075490477277088374379386810288364410160670413738918805859963569479982945122334527589782310215236406537201205543714891656361145927498740052299681721113914928192550401095011851581721871228417261521278222422574741192073558979930152862397966876844931179485314779144745088044059238924403470904164637845850501536071859879986174539125212766787225613199539091110638287234953283722707798206496738131632129831887350404885231089237854894959817451600900685896247766923951658409061602245045788993570791799110150802418176508642622736161015348236625476723483136560818312910701699572830934205999619301430133596319021783459085289400770584239002551424071381694805316161483389887622310437828226053132058647316789042555106845990908174346613537246323886692263802551440318950357209693517077824930474453914613070349038727699883643128357721198168824287576575146372520535227214554153710745989028234615033114402676482448057986286506131512756271360188385441127025689624176482853607998182964259755970894174548945034017997246018890279893076258865930780381249648363919278893465047545177544818171589119415692482819686434657983526366471636359145722536608535040363157671395888468945544530786439827681910910514582607821287229744353268407102530271190750752327800551506549869023915833717141679807435184939869697946553464562401095673562493115504208495992041042757949763832415436180194822979897621074586441656042211173261076323740561376898846540784933846724435618666990060782585276938754920714325688455489539752512181847663711081090408561849350906171981080927405867789942433567463012436128042346259995922140479423909111655804901399034730994573648243889153100189806596826277198611121128976154123436863957899087261658513615677267662832974710995061235723531281089376811492767323278412644691331073148912749292016184612511494657526977371083502492247811806464536907336608736699473738324322163075031291953225191911270803895657282838418662228450662334943963359339957639073830985651525845936256970881800408292935806363188473521223318429086476036204988888087936527340099972810937219389527093253524242787595467505992528418153629941703485946266519537514522446841112403199880867377712109181711379701938036673025981867571452403939981845599560294227652139828292466582759780490932768521007999122003386473163943659020828102467662509170611922679353556392251823499182159408954381944629235531612485183578054574981638704282645163318222169596341653215843771329127906714659206892966008488828802589331393910539377845895484950353397680905785650556081684238543530892477586573650392586807129785886729785839203306413332166830897402188208312351110691447453230956484876231914650762709308067536273340833672358488441520891747454431101975157545824502024030926868397166114182082090098129547535373168854332452238266259198546839698978596307446597729657887169105890981469178775779585342851112287564838502993296742310266138678075648818362026843050687663274896179619542105106129077235724722735072018703312910192715853005708416301319684814868878370670928069234429247750211701357940428147080728720721388160790359117006481910327191782279696134026058503492689217475870753781057810015838958425781274085961059870681319051944370925182782036580179921133601753129725318593685276488370443741969866762458253261078481077324228294560502586661033009517304383151011182248884649333222016507433811876983259825299558363590811485089778516346451482876043352864384171738060031033854408843623215568607927804442298923604332422488087996072116155363508798249959179020351881396328939269452199803120009003544815568458313
def C2:List (List (List Nat)):=[[]]::mkL 1 [(1,bc21),(2,bc22),(4,bc23),(9,bc24),(17,bc25),(34,bc26),(68,bc27)]
def V2:List (List (List Nat)):=[[]]::mkL 1 [(2,bw21),(5,bw22),(13,bw23),(35,bw24),(92,bw25),(242,bw26),(637,bw27)]
theorem eC2:∀k,k<=7->cls 2 k=C2.take (k + 1):=a2F rfl rfl (by decide +kernel)
theorem eV2:∀k,k<=7->wss 2 k=V2.take (k + 1):=a2v eC2 rfl rfl (by decide +kernel)
theorem oC2:OkW (cls 2 7):=by rw [eC2 7 (by decide)];exact a1F (by decide +kernel)
theorem oV2:OkW (wss 2 7):=by rw [eV2 7 (by decide)];exact a1F (by decide +kernel)
theorem x21:(x0j 2).all (wok 1 bw21)=true/\chk 2 bw21 (a0m 2 1)=true:=⟨by decide +kernel,by decide +kernel⟩
theorem y21:(wss 2 1).getD 1 []=unp 1 2 bw21:=by rw [eV2 1 (by decide)];rfl
theorem z21:a0p 2 1:=a0d (by decide) (by decide) (by decide) oC2 oV2 y21 x21.1 x21.2 rfl
theorem x22:(x0j 5).all (wok 2 bw22)=true/\chk 5 bw22 (a0m 2 2)=true:=⟨by decide +kernel,by decide +kernel⟩
theorem y22:(wss 2 2).getD 2 []=unp 2 5 bw22:=by rw [eV2 2 (by decide)];rfl
theorem z22:a0p 2 2:=a0d (by decide) (by decide) (by decide) oC2 oV2 y22 x22.1 x22.2 rfl
theorem x23:(x0j 13).all (wok 3 bw23)=true/\chk 13 bw23 (a0m 2 3)=true:=⟨by decide +kernel,by decide +kernel⟩
theorem y23:(wss 2 3).getD 3 []=unp 3 13 bw23:=by rw [eV2 3 (by decide)];rfl
theorem z23:a0p 2 3:=a0d (by decide) (by decide) (by decide) oC2 oV2 y23 x23.1 x23.2 rfl
theorem x24:(x0j 35).all (wok 4 bw24)=true/\chk 35 bw24 (a0m 2 4)=true:=⟨by decide +kernel,by decide +kernel⟩
theorem y24:(wss 2 4).getD 4 []=unp 4 35 bw24:=by rw [eV2 4 (by decide)];rfl
theorem z24:a0p 2 4:=a0d (by decide) (by decide) (by decide) oC2 oV2 y24 x24.1 x24.2 rfl
theorem x25:(x0j 92).all (wok 5 bw25)=true/\chk 92 bw25 (a0m 2 5)=true:=⟨by decide +kernel,by decide +kernel⟩
theorem y25:(wss 2 5).getD 5 []=unp 5 92 bw25:=by rw [eV2 5 (by decide)];rfl
theorem z25:a0p 2 5:=a0d (by decide) (by decide) (by decide) oC2 oV2 y25 x25.1 x25.2 rfl
theorem x26:(x0j 242).all (wok 6 bw26)=true/\chk 242 bw26 (a0m 2 6)=true:=⟨by decide +kernel,by decide +kernel⟩
theorem y26:(wss 2 6).getD 6 []=unp 6 242 bw26:=by rw [eV2 6 (by decide)];rfl
theorem z26:a0p 2 6:=a0d (by decide) (by decide) (by decide) oC2 oV2 y26 x26.1 x26.2 rfl
theorem x27:(x0j 637).all (wok 7 bw27)=true/\chk 637 bw27 (a0m 2 7)=true:=⟨by decide +kernel,by decide +kernel⟩
theorem y27:(wss 2 7).getD 7 []=unp 7 637 bw27:=by rw [eV2 7 (by decide)];rfl
theorem z27:a0p 2 7:=a0d (by decide) (by decide) (by decide) oC2 oV2 y27 x27.1 x27.2 rfl
def bc31:Nat:=1
def bw31:Nat:=4194305
def bc32:Nat:=58720265
def bw32:Nat:=541598933208125300465991689
def bc33:Nat:=1881568885079032201289
def bw33:Nat:=1476349917673488917632038848812819471149939242598324534407125740577265503174729
def bc34:Nat:=659991042982987464015132323663386820201000684562154057
def bw34:Nat:=152025231746617054162616445935253739815241759087516481672089204270674585948005969348469940688196657248307915974629245538411494010075680691579174854986601025254066903182677280464488384377381609838255025683859123977847369
def bc35:Nat:=37701827589988148205463553525453180597066730322556728628292973566217597722830930307237561630272327845507076790289320309103792230985
def bw35:Nat:=49958060987402435989825742122561261351985767227157226565467481454030574339009256334265549267169741106071787025794544887310095502719648942028227210867648880867103934833292353855979749513172809498014901121696555598180914188696593658570788694098797988689732415153346562653959588876639184735307234817526991565470884012456020004042209808206659794226429215820490994478286634258028976611956574258897357557845625279662799749440480074583648484922737394682605959336875581336357041083989305888188440344425624854801694129987359772615390666692078620419860361384509561488074779368522792295338413103816183106590639919689
def bc36:Nat:=1712712142221790757342982326310237584841528187278445863435244199758052578605348022231255377219099062323534973714021221086937778399106969169862933906502930333545595448799151750351998401783327359241562224421348868097556849767924098765212179310491151551051323741868617
def bw36:Nat:=5078653749957236020738144595202598914633405814696221242029723438623778457673749699891291730770906892667941037811041223829331046673239818141787656504725397047775766444062232056081589442689963089731224658298203947192897316053196122153861798752489973501650113641015416434488471385913423949410137221875712996162404466139278788489936685543966346503402113055266730238313603222661805286477547060086193271372236603273537621114932398175152978155695270002510225531849552130693898670459110683083538069840734022651382784003736113604402996365274122679906437872638571786634034049983591206843241134879188753945139654983363698683391318721682460955045172808754124013403132700149012918503933550336733201364403035493767873198712831400208699480909794948045459494828142319149547776460823100273430322774683885040435081588842874939406991147098363801264872800856770676804988550166915287706057773509919003379940089014612114219577273674950018671976528105438733825766163442486376959629859049950186608947045191755623135976530401537908235485236086378866569203702915801028007119393094397334000980037186960904514607327425218398277826633891521670229801359307401861454359256143404551301972285328877841928631991312225445962286439600856836159528052175607493957516838912990798271619851058881541780822495074939529091284174211399448914392296280820637222830604875348540555381776797811075024710186690974999300268159327196834679747369585911416777744166097174822432783816965799574516352993252016424833549432399633350537357858114117300177652666618333451246808624532660184062508747789578842795860249102344509766717122562089060538743403430566618406769783333243530600920420937
def bc37:Nat:=8545941573728948236882271677429309783504293133913884091923493013128885843349520656348726710287464320010197377345566952387501070219167908806154916469463431124018390728004740875003830414854489654254834021443826501329662423548576191900233002968393097259454439061768629040221015449049542301227892236708174608833961367169359767559913058340261965038332568582690663603832095148078554501386544046379886235589741113125664073811518547067258294862313652411759567113883498383011584605618094044848245135623910313543489455236888896351783465365661931107170406121571914313
def bw37:Nat:=3294995533461753425527416528948270813938252942682434961668645892758443537986013307256670821371554524494728681042052965536368208410519584592480985281941109852833380593001637456479531964837559277803797651114742378956254720951777327017984469854409679515431646969743431455647538220240090994696771804423422406346269886234775707110658626256425029716369823945973410475956900229405938967010432056592433454542315877992112594725291185379408611966982680569271813487779313984161692072554652140764480338258725212549040543579388008288717040363083779135296903166924307613269440351232576899913445247809574478187332158860930439109942412161018614104394571391755008142015015284143794961005175661679001234845695482794612470091611175365826803286962023051917795301647737755691455300759376294210232395922196822844899281700432275049098254473793436585298554668181512820050875483816234908933975383874161330468005627131537029204294670266111111945246779799454905539779681995721014339797187567983236144168459676500885256434550797709438200927774855938633060166788609271429951126611470349212087990857908402045912787039244872015808994594058780698698049237951554462111206816172638648660221500419242678858058846600745853447614749804425073000944299436974793593577087643739202895849380361850843486674063550631315939618465666947966998064702919105878299173645000350211663535908708691467844194121929191743299017149831086648030774035406607986317020895298221159244635200139061008607827386145463331170123894731769171442963334255042441536317860718809890419543386287194630761035802031621357795360459399505839597834782993727495411481384358953199581901194225866038425045940741009772251953015506971637990166945457693529863433701460255631323884357901583501785043405505545008194514621880763600633305606258188875052348385668794268729405564553342120151920636496518273255313268457733956625225627876284457820259571830435066954018878538535676958009578036791053377257764991543637504122812277188909383859721053508539465085235826717810514425953346741729667893044656203507390055910629826138161542739433319705323011248075372303208066935533703501948859833122927233325364936363359920873933965362278611235549681549027216616386945738155598509103887500734367673375718687243807956826970435326250831210366345819199824296176692611772181703783057645546810948040987688476028159401580603216087568305828344345847271574685310101134701973029431665378530997664838554866579247323711654482947121004621383382415545472191453649749673401341411115602525075719434155128173009693244897003811255731365354461992596477859007363921971750503891173506844451352007386144038750035285100754877029446138477319405018236221936031373954459428843681889414765108895769332360529740722442810769471598128005660154996271363758796388154220826777622421492221277563759756846873222936200436633923991859249133807740452798034552727796334308869749101223534512220827710025511068795275877774881835375997771278547936796158451347749229556519117143356929374882588385194070455620524224794482392138787477304366557164917214399255799495044862883637262473580106010737289569674401448626536459056434231608247378313481593388968389417736169820022616352175386471131379238222968147929792116632496351292121041283625177287162767741756992559101823639147023115389476372852975335526024885157819963214930035198414729640916574575602421757368713384620571436378500540343682612207792689428159469064011486192962202876349974371009782786219017318441822256433181349647751075515066814582222258147944523458610806013055469675405332011015705121514386531162340884556766631167503360705389125917505545077405791317603605687507888557797115348028056270026336005700272458205304120012116176758079991143576190594599667611669527685437231258129474621167456865844800660049000423787257652237950621969654183165822400954474829010248050085253688304875956364607976198106831066245562785794987833868535475936768114945316491330049844926086765205912719419441700144879637780165718097709699705561532287313192154700975699501333095181127260289327181305030268971021268081744683369062171766476439758274057649271346415131389475508197369248966412456568322522710657074143542422827266910057937968264948528184100143360489248852251004004353574643764478524455843260657531946647934601566564851457585846795567388268299097928909374447080119866319835419908459364900031943344329746496325067031779994441654025432797611701497263408956863881691077296566533429170761
def C3:List (List (List Nat)):=[[]]::mkL 1 [(1,bc31),(2,bc32),(4,bc33),(9,bc34),(21,bc35),(42,bc36),(88,bc37)]
def V3:List (List (List Nat)):=[[]]::mkL 1 [(2,bw31),(5,bw32),(13,bw33),(35,bw34),(96,bw35),(258,bw36),(693,bw37)]
theorem eC3:∀k,k<=7->cls 3 k=C3.take (k + 1):=a2F rfl rfl (by decide +kernel)
theorem eV3:∀k,k<=7->wss 3 k=V3.take (k + 1):=a2v eC3 rfl rfl (by decide +kernel)
theorem oC3:OkW (cls 3 7):=by rw [eC3 7 (by decide)];exact a1F (by decide +kernel)
theorem oV3:OkW (wss 3 7):=by rw [eV3 7 (by decide)];exact a1F (by decide +kernel)
theorem x31:(x0j 2).all (wok 1 bw31)=true/\chk 2 bw31 (a0m 3 1)=true:=⟨by decide +kernel,by decide +kernel⟩
theorem y31:(wss 3 1).getD 1 []=unp 1 2 bw31:=by rw [eV3 1 (by decide)];rfl
theorem z31:a0p 3 1:=a0d (by decide) (by decide) (by decide) oC3 oV3 y31 x31.1 x31.2 rfl
theorem x32:(x0j 5).all (wok 2 bw32)=true/\chk 5 bw32 (a0m 3 2)=true:=⟨by decide +kernel,by decide +kernel⟩
theorem y32:(wss 3 2).getD 2 []=unp 2 5 bw32:=by rw [eV3 2 (by decide)];rfl
theorem z32:a0p 3 2:=a0d (by decide) (by decide) (by decide) oC3 oV3 y32 x32.1 x32.2 rfl
theorem x33:(x0j 13).all (wok 3 bw33)=true/\chk 13 bw33 (a0m 3 3)=true:=⟨by decide +kernel,by decide +kernel⟩
theorem y33:(wss 3 3).getD 3 []=unp 3 13 bw33:=by rw [eV3 3 (by decide)];rfl
theorem z33:a0p 3 3:=a0d (by decide) (by decide) (by decide) oC3 oV3 y33 x33.1 x33.2 rfl
theorem x34:(x0j 35).all (wok 4 bw34)=true/\chk 35 bw34 (a0m 3 4)=true:=⟨by decide +kernel,by decide +kernel⟩
theorem y34:(wss 3 4).getD 4 []=unp 4 35 bw34:=by rw [eV3 4 (by decide)];rfl
theorem z34:a0p 3 4:=a0d (by decide) (by decide) (by decide) oC3 oV3 y34 x34.1 x34.2 rfl
theorem x35:(x0j 96).all (wok 5 bw35)=true/\chk 96 bw35 (a0m 3 5)=true:=⟨by decide +kernel,by decide +kernel⟩
theorem y35:(wss 3 5).getD 5 []=unp 5 96 bw35:=by rw [eV3 5 (by decide)];rfl
theorem z35:a0p 3 5:=a0d (by decide) (by decide) (by decide) oC3 oV3 y35 x35.1 x35.2 rfl
theorem x36:(x0j 258).all (wok 6 bw36)=true/\chk 258 bw36 (a0m 3 6)=true:=⟨by decide +kernel,by decide +kernel⟩
theorem y36:(wss 3 6).getD 6 []=unp 6 258 bw36:=by rw [eV3 6 (by decide)];rfl
theorem z36:a0p 3 6:=a0d (by decide) (by decide) (by decide) oC3 oV3 y36 x36.1 x36.2 rfl
theorem x37:(x0j 693).all (wok 7 bw37)=true/\chk 693 bw37 (a0m 3 7)=true:=⟨by decide +kernel,by decide +kernel⟩
theorem y37:(wss 3 7).getD 7 []=unp 7 693 bw37:=by rw [eV3 7 (by decide)];rfl
theorem z37:a0p 3 7:=a0d (by decide) (by decide) (by decide) oC3 oV3 y37 x37.1 x37.2 rfl
def bc41:Nat:=1
def bw41:Nat:=4194305
def bc42:Nat:=58720265
def bw42:Nat:=541598933208125300465991689
def bc43:Nat:=1881568885079032201289
def bw43:Nat:=1476349917673488917632038848812819471149939242598324534407125740577265503174729
def bc44:Nat:=659991042982987464015132323663386820201000684562154057
def bw44:Nat:=152025231746617054162616445935253739815241759087516481672089204270674585948005969348469940688196657248307915974629245538411494010075680691579174854986601025254066903182677280464488384377381609838255025683859123977847369
def bc45:Nat:=37701827589988148205463553525453180597066730322556728628292973566217597722830930307237561630272327845507076790289320309103792230985
def bw45:Nat:=49958060987402435989825742122561261351985767227157226565467481454030574339009256334265549267169741106071787025794544887310095502719648942028227210867648880867103934833292353855979749513172809498014901121696555598180914188696593658570788694098797988689732415153346562653959588876639184735307234817526991565470884012456020004042209808206659794226429215820490994478286634258028976611956574258897357557845625279662799749440480074583648484922737394682605959336875581336357041083989305888188440344425624854801694129987359772615390666692078620419860361384509561488074779368522792295338413103816183106590639919689
def bc46:Nat:=1356248381700230602438919104046016598446188933983829907579416766793904665393622287882379987565836810230734054687911564030132664366563299757308779983792097986199012083523445434233161180398418551777939955998423230091151103643390899527515040727149830101246860867954128531087079270922998237299166574503317987195559740381893193
def bw46:Nat:=4021606413382692341883724045732506900292711491953994988539760883776738478444313846544748125758580279138556090913148978228427876300091546680567630845055890710303804167996670742765661957704686276234816438117012891647107516206764598564302638280641674384293965802269910191193875493120106203950440286664520777157846318326331635634479450570909226149902835876865545093170232824942728167488387692336212027278852049078675453151026098168444668733947752258973669351095463812087146842989243727804539411619748600246228505151388910051199874373543358180490343411027071528772835817784281729126332694845848949285031501161704957849960978361011882123089335677850613771692369482782996054926272816559810745085293299518351739861409147144613258900917783221440089567277682803640312079237847715610666706434179997427033440581200343215196525609900134510562791951934553555692582666813610512158392405026978918739458655507101616333791450153162370505004675171478519240181548867656390733426224208785736825201630715597957047110105500899047415178432887085110535936219125069207673743970133341900716670567780372583870920684123067225683436330312858623835330735990313649137948447468963452864821091817322182050328837716497985149123925421747480392571546880474388400579907459562381506997094821223527025340316888241757162021829885548379502745404339097232089335041566277111581326439728161976070822389201576573247329728384700607499871365717637172467727067510465462522349423029889610271066678878346350696845778963493724675555563824718345956054030417065783902731052088218115337568407909715402303523520928431702880313920367400862991705260101557196710685039213770090135341724181788230370887334567451193418031242586111681525154184204873
def bc47:Nat:=5309757594611139284573198798425701427742158062997762588605599297741482690877972903912998300476327833406010845422122177330904994849229420663452171456424126902196376099266058794016561135349276507684515383883357237843202522512240870024938688937033078070624823173917164109740411837700943704557970661223368265165772239478172160065498341412576264284081344506013057789558008703380053480076423539510261161685006160033922628068724700041695256916597435147218383166797946444092371136747380025274056696434064136431337797585202514036655607906511416096457756526338895818738854371613168025443425743422106773027510782271523339907959598528130236335421908804141896787147965794407334318665
def bw47:Nat:=1260400166188991802656503769300634993453047346944797394889150928787076105493351137526539496906518733036568908979932995556591096091686720842244539177467682120284096535431823452677056121078267660883997520124627720634424310630957250827371617296112447762685969717379316483989205775242654854806996696879841513542922428317106567251969400079173506926737232760667970981087452896666021637345913288077553690774345085914784186876946436364651983655840927229738836683752527969786469385179347494190632918603671764303588484376101842767099584255808263529765733750288734158835303460759163362919625118557303980287111113153054369257896426264266661509365226240966270021650201294039020629909784374878342840539235277404877141653819730371414082306224418957450989329627034781596992527587027544885426977271923175765040886335101600566302982874543837906584012697057019515711974872695557636594491483258756160628458796055008045918148107754533646469999193780325606267403868280265429009492220627075839338914125440806598339898069882026228872321406449945944665403145632608963084856511802604476565856061871186787884924200505813349770415849690947973711523502194929847579198362935480108415232680857607109207611378012965084922593156766625980861641581412662212212673352865682779246895630464524254422711232821736008112200297014404857824993266197087216915807601524360574169023801782924387029921930900669844253583509791593041055560371663440509623757603302671956038208539681614721001719484457237442523146651570041223450167301835020154598186020009145965968153346941639243748234640595332481795357338339654605592611531709036285903204175534031359601337838237836925822606434891784308321442933540602856957731806099627191205272983286009103819938323872247509196370876527271898734182613644844820524682679938947291126075008706508007324119900545739650112450282241741435898773186510554826514860803365811601187730600311130814211890947315123346415838646052198351012803694288422763982855719947919142093146153427061528742108712540043155004733170644393605644360333222849411355694291142492019193321973373501807070189805713735580291250369275062680452770683321455048835611305694621999104494799601303119026470751826244705712952922277074359131502004649340177191284849883749550952795840690301071387697032081659474509788060887413104370615066646902676122027469511541213235167959009718668580500451473450263821933242198543239430944111650857748023582048617592624490377904783140419493148713623211233616613522316558019683776684883579892708740249768255722846462165205428287546129132155314625054540294221069195182310293994485528495982315559454083857661510341937537743701932891744113746980026182060529910387172226954954273150524607082148934150406830839119916827780652833462413127378124879605239046749689016921549574197096294424615200555349144640638983478526717024862993010885842985852074911743873687058586355272694905650985042551651879153370945814772946059482742220051646917549499807694248156550718378041674125507727743639442759746069192666993571516790062449957727491768943657499399505958697894179650638533342086971327716899413181776016104454451223957108943919167194481238736125539745670744522564440826412494412572983477823606554259174120270582853629755365920120163911897847370083731177083178511661157574169332314869362611450041166481658310958975056740146525846950085453213053461668677783535359215845488614640815104830199658606783017186202138514210855786148076670454231251626849675829343902084379883133638482488813323785523577971864333840366474981007032161210250205582770633209843211821568257247549447902722732418375139401137441962497558838026451724274486309774795596252560735373305066216883283715136778966733296840299985812011719784626564437557652885674369216229793373068801403617146037596989006689035193106051074633460815621042029979227898279622629890083077505651620227631527739882815383158804313057201046834515028362593482476054470748704350048259781586978271303572277765675856024872977525584702187978718472589703978326682346593018548395684061678321316505158924816227435818444104972500870549363275696991670930595290730445954962963481561737809811044558218627541856804419486356694919770745950644631272374224633069679593184119904025761027280945608024475306614525109660062907868992944036485842212309714420134319300403940039969303074437375623788882733583267582606140041797149766416815038052022723701952498731060290179875905466318786968615761555175497997962948350675359509266560573306649187826217143054952611369315973667302103814625087978156497461440181179792973517085287200869931502210436037672919455695539212010767537113769320546836136819267460209924208275887380375013564381328998437449
def C4:List (List (List Nat)):=[[]]::mkL 1 [(1,bc41),(2,bc42),(4,bc43),(9,bc44),(21,bc45),(51,bc46),(106,bc47)]
def V4:List (List (List Nat)):=[[]]::mkL 1 [(2,bw41),(5,bw42),(13,bw43),(35,bw44),(96,bw45),(267,bw46),(729,bw47)]
theorem eC4:∀k,k<=7->cls 4 k=C4.take (k + 1):=a2F rfl rfl (by decide +kernel)
theorem eV4:∀k,k<=7->wss 4 k=V4.take (k + 1):=a2v eC4 rfl rfl (by decide +kernel)
theorem oC4:OkW (cls 4 7):=by rw [eC4 7 (by decide)];exact a1F (by decide +kernel)
theorem oV4:OkW (wss 4 7):=by rw [eV4 7 (by decide)];exact a1F (by decide +kernel)
theorem x41:(x0j 2).all (wok 1 bw41)=true/\chk 2 bw41 (a0m 4 1)=true:=⟨by decide +kernel,by decide +kernel⟩
theorem y41:(wss 4 1).getD 1 []=unp 1 2 bw41:=by rw [eV4 1 (by decide)];rfl
theorem z41:a0p 4 1:=a0d (by decide) (by decide) (by decide) oC4 oV4 y41 x41.1 x41.2 rfl
theorem x42:(x0j 5).all (wok 2 bw42)=true/\chk 5 bw42 (a0m 4 2)=true:=⟨by decide +kernel,by decide +kernel⟩
theorem y42:(wss 4 2).getD 2 []=unp 2 5 bw42:=by rw [eV4 2 (by decide)];rfl
theorem z42:a0p 4 2:=a0d (by decide) (by decide) (by decide) oC4 oV4 y42 x42.1 x42.2 rfl
theorem x43:(x0j 13).all (wok 3 bw43)=true/\chk 13 bw43 (a0m 4 3)=true:=⟨by decide +kernel,by decide +kernel⟩
theorem y43:(wss 4 3).getD 3 []=unp 3 13 bw43:=by rw [eV4 3 (by decide)];rfl
theorem z43:a0p 4 3:=a0d (by decide) (by decide) (by decide) oC4 oV4 y43 x43.1 x43.2 rfl
theorem x44:(x0j 35).all (wok 4 bw44)=true/\chk 35 bw44 (a0m 4 4)=true:=⟨by decide +kernel,by decide +kernel⟩
theorem y44:(wss 4 4).getD 4 []=unp 4 35 bw44:=by rw [eV4 4 (by decide)];rfl
theorem z44:a0p 4 4:=a0d (by decide) (by decide) (by decide) oC4 oV4 y44 x44.1 x44.2 rfl
theorem x45:(x0j 96).all (wok 5 bw45)=true/\chk 96 bw45 (a0m 4 5)=true:=⟨by decide +kernel,by decide +kernel⟩
theorem y45:(wss 4 5).getD 5 []=unp 5 96 bw45:=by rw [eV4 5 (by decide)];rfl
theorem z45:a0p 4 5:=a0d (by decide) (by decide) (by decide) oC4 oV4 y45 x45.1 x45.2 rfl
theorem x46:(x0j 267).all (wok 6 bw46)=true/\chk 267 bw46 (a0m 4 6)=true:=⟨by decide +kernel,by decide +kernel⟩
theorem y46:(wss 4 6).getD 6 []=unp 6 267 bw46:=by rw [eV4 6 (by decide)];rfl
theorem z46:a0p 4 6:=a0d (by decide) (by decide) (by decide) oC4 oV4 y46 x46.1 x46.2 rfl
theorem x47:(x0j 729).all (wok 7 bw47)=true/\chk 729 bw47 (a0m 4 7)=true:=⟨by decide +kernel,by decide +kernel⟩
theorem y47:(wss 4 7).getD 7 []=unp 7 729 bw47:=by rw [eV4 7 (by decide)];rfl
theorem z47:a0p 4 7:=a0d (by decide) (by decide) (by decide) oC4 oV4 y47 x47.1 x47.2 rfl
def bc51:Nat:=1
def bw51:Nat:=4194305
def bc52:Nat:=58720265
def bw52:Nat:=541598933208125300465991689
def bc53:Nat:=1881568885079032201289
def bw53:Nat:=1476349917673488917632038848812819471149939242598324534407125740577265503174729
def bc54:Nat:=659991042982987464015132323663386820201000684562154057
def bw54:Nat:=152025231746617054162616445935253739815241759087516481672089204270674585948005969348469940688196657248307915974629245538411494010075680691579174854986601025254066903182677280464488384377381609838255025683859123977847369
def bc55:Nat:=37701827589988148205463553525453180597066730322556728628292973566217597722830930307237561630272327845507076790289320309103792230985
def bw55:Nat:=49958060987402435989825742122561261351985767227157226565467481454030574339009256334265549267169741106071787025794544887310095502719648942028227210867648880867103934833292353855979749513172809498014901121696555598180914188696593658570788694098797988689732415153346562653959588876639184735307234817526991565470884012456020004042209808206659794226429215820490994478286634258028976611956574258897357557845625279662799749440480074583648484922737394682605959336875581336357041083989305888188440344425624854801694129987359772615390666692078620419860361384509561488074779368522792295338413103816183106590639919689
def bc56:Nat:=1356248381700230602438919104046016598446188933983829907579416766793904665393622287882379987565836810230734054687911564030132664366563299757308779983792097986199012083523445434233161180398418551777939955998423230091151103643390899527515040727149830101246860867954128531087079270922998237299166574503317987195559740381893193
def bw56:Nat:=4021606413382692341883724045732506900292711491953994988539760883776738478444313846544748125758580279138556090913148978228427876300091546680567630845055890710303804167996670742765661957704686276234816438117012891647107516206764598564302638280641674384293965802269910191193875493120106203950440286664520777157846318326331635634479450570909226149902835876865545093170232824942728167488387692336212027278852049078675453151026098168444668733947752258973669351095463812087146842989243727804539411619748600246228505151388910051199874373543358180490343411027071528772835817784281729126332694845848949285031501161704957849960978361011882123089335677850613771692369482782996054926272816559810745085293299518351739861409147144613258900917783221440089567277682803640312079237847715610666706434179997427033440581200343215196525609900134510562791951934553555692582666813610512158392405026978918739458655507101616333791450153162370505004675171478519240181548867656390733426224208785736825201630715597957047110105500899047415178432887085110535936219125069207673743970133341900716670567780372583870920684123067225683436330312858623835330735990313649137948447468963452864821091817322182050328837716497985149123925421747480392571546880474388400579907459562381506997094821223527025340316888241757162021829885548379502745404339097232089335041566277111581326439728161976070822389201576573247329728384700607499871365717637172467727067510465462522349423029889610271066678878346350696845778963493724675555563824718345956054030417065783902731052088218115337568407909715402303523520928431702880313920367400862991705260101557196710685039213770090135341724181788230370887334567451193418031242586111681525154184204873
def bc57:Nat:=30099680079980394923759718925536248859486811907759311709562697902710627893360949757469470636466446080887294080490945454266044423213426186613946477719554143368593452655937551579283857547406994383821305305641397086580636591701133022867879447199755469106646229228956797614766659257356515636285958524797110533616273932010457877987879135458818051937612258257973436742576495831167329573477092017922283394125960784443526456854000698030324792137950428602133024291901110422343612080914769830138551801275972124828021985661780737240974026127189307470891409265157143520059894717969647435159341486066130029155771031252434479769193284747844673387316136772792847590436482977893274359176711990317039948854171217914709183838058969148808001516328796185649449335276238370499514256541837029468156139421682262683483107529289
def bw57:Nat:=7144883494315292656485137098266428425498996163668573815334537597441415107881323640324352967192715515520382802281177553863546659653358369768121006216479441654357300251173674986856276328131443167082040706451759281691075113411238017679289879791017845712232196550331089960656709790811093257884282268355181836040690161816052430602572017264771980134486953751911029742513428207110052732227149605272515227534070060466337304667150010698338574002223871621321357727794067270199069268543654736574642520767092864061314716914676131074679580406593846537521775287170771381143635799086454380930667247370593545531729789519117954891904769370296663609642690789709835409218303191851573921888393898023504177260936743750911636280607787612506195672888568882092208411776037917472960627440974077081181230370577975156045521030312157442406603209869167720646245379874402339223571797058797252108527575566660242021247720071895021785969213599569465339502391857634045338909282859330481399219151116915308032915251866891102172424238173251225970476678586011703169867576543026945439665766665446331637832208748544614366338251416517083198386087611869498823812707032305686689028888061552471853674831334563406091491770634657653798308556906776853822365948413180485151011351626127084875087368118766052764686853220672542862372943531884216380052595079176789153523666864113144292620352089365789005262994892479296483403695547755679998717445518937498851593502646270514788919462558489261050849544546452650980803353434942403735016583533701127348591874596168433650651967906712082468022513638795550915794788785721300061376745587117445388516163584630990199801021450562076891551109294358950209827910924140504210683718312654624425423665975981071862757778877704939473617547087720351026914919271405680080975531505120974645280896676889735234918345082906521495080120365616274160822062120621131330840299733728407464862321790664114881295597479088039530700255237252895638303018864204938133671313587049213343886638317532031654798281454965798081715947615257621178944136197432385968486941431309304856984744398604972871509078342979303584038884573197242248281537878592201143656405377333456575679782911587987288920103093532722125305975252836611481182281962484079465933676645290923778703522452931082322833038638875296995476157978479253916221882407034408459828072562918749198631545038291462959917097287306425288592378603960905264920986090680812465542321610483243240739666491310274947773107568808721516077702218851154366622514280853185747232065791199321073727127956906273276362981653811226358436809492966460317309982634993834770899850190216741432544553314732345030567615622923092948665258296454075008368852573863751637719819764604495878313133551913024427259329593785623273548755305584494087001131570849742348924911229665677192756993212698521610554658159488998828161632322985163454980355695722864486198598418275291984298947121835665607837771563324891928424258607276426701091910922202882670435603017858719073689074337412693485390543535619295951685564354367649490980213214125116986525331636105839683536174464410274763212066142859579988729213655786558704949979065808826118326931177935930381250219458108639495654218528912307157924592066485033253741626213324000646432450091966928196123298853650332329922740929847348216022138007233556353019224380272888980169871369703988375272794134500828722626154451347925468942697173074561083734361727932066213771871100843309994127580638924000808997532371985316756578779312386894046580403742956666367879207587236689083687612226693097508929845068980299794369613251316369019260532499237273895299908652128894276352157528843646853180722617068748276108798540376776293167178495523365638940824519502306395550674820520719733758552349819751178100072996803476626226251912361367000089338133297470156345336253871992511422621074743963173720175940809668099238777008424990777967813073683731930902461378171990179323304073866381050884172937649990786596192918322208612005354107732180070730834310376909429725234936421591074128345593804702051909841181168943238254973757505802603310626436867635199472288399611160102607720083796793408364507249326549614589689524669500344603730639980097539578423058877672683538147356636461815251359756764507428116995225185554807181672837368301049199737706720402746671216253968900821837125149068135119795596272155182378872854454823650974904483527708409656894280850853044817885386308750141475983546480794826933615955471643097106704252569058997981623420579095312385772013064537756903322025245987965035739859711699910855513735500235548697858948172032144030145171974822622633435777228091446932768516578105717030956431579516961969193424137783170848619529352066228026197191247290966165313485088290908610329709858270935056850260597101020212089127275859277367818882284738974159508041
def C5:List (List (List Nat)):=[[]]::mkL 1 [(1,bc51),(2,bc52),(4,bc53),(9,bc54),(21,bc55),(51,bc56),(127,bc57)]
def V5:List (List (List Nat)):=[[]]::mkL 1 [(2,bw51),(5,bw52),(13,bw53),(35,bw54),(96,bw55),(267,bw56),(750,bw57)]
theorem eC5:∀k,k<=7->cls 5 k=C5.take (k + 1):=a2F rfl rfl (by decide +kernel)
theorem eV5:∀k,k<=7->wss 5 k=V5.take (k + 1):=a2v eC5 rfl rfl (by decide +kernel)
theorem oC5:OkW (cls 5 7):=by rw [eC5 7 (by decide)];exact a1F (by decide +kernel)
theorem oV5:OkW (wss 5 7):=by rw [eV5 7 (by decide)];exact a1F (by decide +kernel)
theorem x51:(x0j 2).all (wok 1 bw51)=true/\chk 2 bw51 (a0m 5 1)=true:=⟨by decide +kernel,by decide +kernel⟩
theorem y51:(wss 5 1).getD 1 []=unp 1 2 bw51:=by rw [eV5 1 (by decide)];rfl
theorem z51:a0p 5 1:=a0d (by decide) (by decide) (by decide) oC5 oV5 y51 x51.1 x51.2 rfl
theorem z61:a0p 6 1:=a0d (by decide) (by decide) (by decide) (by rw [cls5 (by decide) 7 (by decide)];exact oC5) (by rw [wss5 (by decide) 7 (by decide)];exact oV5) (by rw [wss5 (by decide) 1 (by decide)];exact y51) x51.1 x51.2 (by decide +kernel)
theorem z71:a0p 7 1:=a0d (by decide) (by decide) (by decide) (by rw [cls5 (by decide) 7 (by decide)];exact oC5) (by rw [wss5 (by decide) 7 (by decide)];exact oV5) (by rw [wss5 (by decide) 1 (by decide)];exact y51) x51.1 x51.2 (by decide +kernel)
theorem x52:(x0j 5).all (wok 2 bw52)=true/\chk 5 bw52 (a0m 5 2)=true:=⟨by decide +kernel,by decide +kernel⟩
theorem y52:(wss 5 2).getD 2 []=unp 2 5 bw52:=by rw [eV5 2 (by decide)];rfl
theorem z52:a0p 5 2:=a0d (by decide) (by decide) (by decide) oC5 oV5 y52 x52.1 x52.2 rfl
theorem z62:a0p 6 2:=a0d (by decide) (by decide) (by decide) (by rw [cls5 (by decide) 7 (by decide)];exact oC5) (by rw [wss5 (by decide) 7 (by decide)];exact oV5) (by rw [wss5 (by decide) 2 (by decide)];exact y52) x52.1 x52.2 (by decide +kernel)
theorem z72:a0p 7 2:=a0d (by decide) (by decide) (by decide) (by rw [cls5 (by decide) 7 (by decide)];exact oC5) (by rw [wss5 (by decide) 7 (by decide)];exact oV5) (by rw [wss5 (by decide) 2 (by decide)];exact y52) x52.1 x52.2 (by decide +kernel)
theorem x53:(x0j 13).all (wok 3 bw53)=true/\chk 13 bw53 (a0m 5 3)=true:=⟨by decide +kernel,by decide +kernel⟩
theorem y53:(wss 5 3).getD 3 []=unp 3 13 bw53:=by rw [eV5 3 (by decide)];rfl
theorem z53:a0p 5 3:=a0d (by decide) (by decide) (by decide) oC5 oV5 y53 x53.1 x53.2 rfl
theorem z63:a0p 6 3:=a0d (by decide) (by decide) (by decide) (by rw [cls5 (by decide) 7 (by decide)];exact oC5) (by rw [wss5 (by decide) 7 (by decide)];exact oV5) (by rw [wss5 (by decide) 3 (by decide)];exact y53) x53.1 x53.2 (by decide +kernel)
theorem z73:a0p 7 3:=a0d (by decide) (by decide) (by decide) (by rw [cls5 (by decide) 7 (by decide)];exact oC5) (by rw [wss5 (by decide) 7 (by decide)];exact oV5) (by rw [wss5 (by decide) 3 (by decide)];exact y53) x53.1 x53.2 (by decide +kernel)
theorem x54:(x0j 35).all (wok 4 bw54)=true/\chk 35 bw54 (a0m 5 4)=true:=⟨by decide +kernel,by decide +kernel⟩
theorem y54:(wss 5 4).getD 4 []=unp 4 35 bw54:=by rw [eV5 4 (by decide)];rfl
theorem z54:a0p 5 4:=a0d (by decide) (by decide) (by decide) oC5 oV5 y54 x54.1 x54.2 rfl
theorem z64:a0p 6 4:=a0d (by decide) (by decide) (by decide) (by rw [cls5 (by decide) 7 (by decide)];exact oC5) (by rw [wss5 (by decide) 7 (by decide)];exact oV5) (by rw [wss5 (by decide) 4 (by decide)];exact y54) x54.1 x54.2 (by decide +kernel)
theorem z74:a0p 7 4:=a0d (by decide) (by decide) (by decide) (by rw [cls5 (by decide) 7 (by decide)];exact oC5) (by rw [wss5 (by decide) 7 (by decide)];exact oV5) (by rw [wss5 (by decide) 4 (by decide)];exact y54) x54.1 x54.2 (by decide +kernel)
theorem x55:(x0j 96).all (wok 5 bw55)=true/\chk 96 bw55 (a0m 5 5)=true:=⟨by decide +kernel,by decide +kernel⟩
theorem y55:(wss 5 5).getD 5 []=unp 5 96 bw55:=by rw [eV5 5 (by decide)];rfl
theorem z55:a0p 5 5:=a0d (by decide) (by decide) (by decide) oC5 oV5 y55 x55.1 x55.2 rfl
theorem z65:a0p 6 5:=a0d (by decide) (by decide) (by decide) (by rw [cls5 (by decide) 7 (by decide)];exact oC5) (by rw [wss5 (by decide) 7 (by decide)];exact oV5) (by rw [wss5 (by decide) 5 (by decide)];exact y55) x55.1 x55.2 (by decide +kernel)
theorem z75:a0p 7 5:=a0d (by decide) (by decide) (by decide) (by rw [cls5 (by decide) 7 (by decide)];exact oC5) (by rw [wss5 (by decide) 7 (by decide)];exact oV5) (by rw [wss5 (by decide) 5 (by decide)];exact y55) x55.1 x55.2 (by decide +kernel)
theorem x56:(x0j 267).all (wok 6 bw56)=true/\chk 267 bw56 (a0m 5 6)=true:=⟨by decide +kernel,by decide +kernel⟩
theorem y56:(wss 5 6).getD 6 []=unp 6 267 bw56:=by rw [eV5 6 (by decide)];rfl
theorem z56:a0p 5 6:=a0d (by decide) (by decide) (by decide) oC5 oV5 y56 x56.1 x56.2 rfl
theorem z66:a0p 6 6:=a0d (by decide) (by decide) (by decide) (by rw [cls5 (by decide) 7 (by decide)];exact oC5) (by rw [wss5 (by decide) 7 (by decide)];exact oV5) (by rw [wss5 (by decide) 6 (by decide)];exact y56) x56.1 x56.2 (by decide +kernel)
theorem z76:a0p 7 6:=a0d (by decide) (by decide) (by decide) (by rw [cls5 (by decide) 7 (by decide)];exact oC5) (by rw [wss5 (by decide) 7 (by decide)];exact oV5) (by rw [wss5 (by decide) 6 (by decide)];exact y56) x56.1 x56.2 (by decide +kernel)
theorem x57:(x0j 750).all (wok 7 bw57)=true/\chk 750 bw57 (a0m 5 7)=true:=⟨by decide +kernel,by decide +kernel⟩
theorem y57:(wss 5 7).getD 7 []=unp 7 750 bw57:=by rw [eV5 7 (by decide)];rfl
theorem z57:a0p 5 7:=a0d (by decide) (by decide) (by decide) oC5 oV5 y57 x57.1 x57.2 rfl
theorem z67:a0p 6 7:=a0d (by decide) (by decide) (by decide) (by rw [cls5 (by decide) 7 (by decide)];exact oC5) (by rw [wss5 (by decide) 7 (by decide)];exact oV5) (by rw [wss5 (by decide) 7 (by decide)];exact y57) x57.1 x57.2 (by decide +kernel)
theorem z77:a0p 7 7:=a0d (by decide) (by decide) (by decide) (by rw [cls5 (by decide) 7 (by decide)];exact oC5) (by rw [wss5 (by decide) 7 (by decide)];exact oV5) (by rw [wss5 (by decide) 7 (by decide)];exact y57) x57.1 x57.2 (by decide +kernel)
theorem words (m r:Nat)(h1:1<=m)(h7:m<=7)(hr:r < 8):a0p r m:=by
 match m,r,h1,h7,hr with
 | 1,0,_,_,_=>exact z01
 | 2,0,_,_,_=>exact z02
 | 3,0,_,_,_=>exact z03
 | 4,0,_,_,_=>exact z04
 | 5,0,_,_,_=>exact z05
 | 6,0,_,_,_=>exact z06
 | 7,0,_,_,_=>exact z07
 | 1,1,_,_,_=>exact z11
 | 2,1,_,_,_=>exact z12
 | 3,1,_,_,_=>exact z13
 | 4,1,_,_,_=>exact z14
 | 5,1,_,_,_=>exact z15
 | 6,1,_,_,_=>exact z16
 | 7,1,_,_,_=>exact z17
 | 1,2,_,_,_=>exact z21
 | 2,2,_,_,_=>exact z22
 | 3,2,_,_,_=>exact z23
 | 4,2,_,_,_=>exact z24
 | 5,2,_,_,_=>exact z25
 | 6,2,_,_,_=>exact z26
 | 7,2,_,_,_=>exact z27
 | 1,3,_,_,_=>exact z31
 | 2,3,_,_,_=>exact z32
 | 3,3,_,_,_=>exact z33
 | 4,3,_,_,_=>exact z34
 | 5,3,_,_,_=>exact z35
 | 6,3,_,_,_=>exact z36
 | 7,3,_,_,_=>exact z37
 | 1,4,_,_,_=>exact z41
 | 2,4,_,_,_=>exact z42
 | 3,4,_,_,_=>exact z43
 | 4,4,_,_,_=>exact z44
 | 5,4,_,_,_=>exact z45
 | 6,4,_,_,_=>exact z46
 | 7,4,_,_,_=>exact z47
 | 1,5,_,_,_=>exact z51
 | 2,5,_,_,_=>exact z52
 | 3,5,_,_,_=>exact z53
 | 4,5,_,_,_=>exact z54
 | 5,5,_,_,_=>exact z55
 | 6,5,_,_,_=>exact z56
 | 7,5,_,_,_=>exact z57
 | 1,6,_,_,_=>exact z61
 | 2,6,_,_,_=>exact z62
 | 3,6,_,_,_=>exact z63
 | 4,6,_,_,_=>exact z64
 | 5,6,_,_,_=>exact z65
 | 6,6,_,_,_=>exact z66
 | 7,6,_,_,_=>exact z67
 | 1,7,_,_,_=>exact z71
 | 2,7,_,_,_=>exact z72
 | 3,7,_,_,_=>exact z73
 | 4,7,_,_,_=>exact z74
 | 5,7,_,_,_=>exact z75
 | 6,7,_,_,_=>exact z76
 | 7,7,_,_,_=>exact z77
def kN (k:Nat):Key:=.inl (k:Int)
def keyN (O:List Nat):List Key:=O.map kN
theorem a2s:∀(a b:List Nat),keyN a=keyN b->a=b
 | [],[],_=>rfl
 | [],_::_,h=>nomatch h
 | _::_,[],h=>nomatch h
 | x :: a, y :: b, h => by
   have h1:=List.cons.inj (show kN x::keyN a=kN y::keyN b from h);have h2:(x:Int)=y:=Sum.inl.inj h1.1;rw [a2s a b h1.2,Int.ofNat_inj.mp h2]
theorem a4S:∀w:List Nat,a0L (w.map pin)=some (keyN w):=by
 intro xq
 induction xq with
 | nil =>
   exact rfl
 | cons c w ih =>
   show(a0L (w.map pin)).map (kN c::·)=_;rw [ih]
   rfl
theorem a7A (O:List Nat):tupP (keyN O)=.tup (O.map pin):=by
 unfold tupP keyN;rw [x0V]
 rfl
theorem a8d (ks:List (List Nat))(k:List Nat):a1h (ks.map keyN) (keyN k)=(a1h ks k).map keyN:=by
 unfold a1h
 by_cases h:k∈ks
 · rw [if_pos h,if_pos (x0H.mpr ⟨k,h,rfl⟩)]
 · rw [if_neg h,if_neg,x1b];rfl;intro z;obtain⟨b,hb,e⟩:=x0H.mp z;exact h (a2s b k e▸hb)
theorem a7o (k:List Nat)(x:Nat):∀(ks:List (List Nat)) (xs:List Nat),((ks.map keyN).zip (xs.map pin)).map (fun p=>if p.1=keyN k then pin x else p.2)=((ks.zip xs).map fun p=>if p.1=k then x else p.2).map pin
 | [],xs=>by cases xs <;> rfl
 | _::_,[]=>rfl
 | a :: ks, y :: xs => by
   show(if keyN a=keyN k then pin x else pin y)::((ks.map keyN).zip (xs.map pin)).map (fun p=>if p.1=keyN k then pin x else p.2)=pin (if a=k then x else y)::((ks.zip xs).map fun p=>if p.1=k then x else p.2).map pin;rw [a7o k x ks xs]
   by_cases h:a=k
   · rw [if_pos h,if_pos (by rw [h])]
   · rw [if_neg h,if_neg fun z=>h (a2s a k z)]
theorem a8c (ks:List (List Nat))(xs:List Nat)(k:List Nat)(x:Nat):a1O (ks.map keyN) (xs.map pin) (keyN k) (pin x)=(a1O ks xs k x).map pin:=by
 unfold a1O
 by_cases h:k∈ks
 · rw [if_pos h,if_pos (x0H.mpr ⟨k,h,rfl⟩)];exact a7o k x ks xs
 · rw [if_neg h,if_neg,x1b];rfl;intro z;obtain⟨b,hb,e⟩:=x0H.mp z;exact h (a2s b k e▸hb)
def getN:List (List Nat)->List Nat->List Nat->Option Nat
 | k'::ks,x::xs,k=>if k'=k then some x else getN ks xs k
 | _,_,_=>none
theorem a2T (k:List Nat):∀(ks:List (List Nat)) (xs:List Nat),getT (ks.map keyN) (xs.map pin) (keyN k)=(getN ks xs k).map pin
 | [],xs=>by cases xs <;> rfl
 | _::_,[]=>rfl
 | a :: ks, y :: xs => by
   show(if keyN a=keyN k then some (pin y) else getT (ks.map keyN) (xs.map pin) (keyN k))=(if a=k then some y else getN ks xs k).map pin;rw [a2T k ks xs]
   by_cases h:a=k
   · rw [if_pos h,if_pos (by rw [h])];rfl
   · rw [if_neg h,if_neg fun z=>h (a2s a k z)]
theorem a6q {k:List Nat}:∀{ks:List (List Nat)} {xs:List Nat},ks.length=xs.length->k∈ks->∃v,getN ks xs k=some v
 | [],_,_,h=>absurd h x1t
 | _::_,[],h,_=>nomatch h
 | a :: ks, x :: xs, hl, h => by
   by_cases c:a=k
   · exact⟨x,if_pos c⟩
   · obtain⟨v,e⟩:=a6q (k:=k) (ks:=ks) (xs:=xs) (by simpa using hl) ((x0s.mp h).elim (fun z=>absurd z.symm c) id);exact⟨v,(if_neg c).trans e⟩
structure Dn where
 ks:List (List Nat)
 xs:List Nat
def a2Q (r place:Nat)(O:List Nat)(w:Nat)(d:Dn)(m:Mk):Dn:=match opn (r:Int) O place m with
 | some O'=>⟨a1h d.ks O',a1O d.ks d.xs O' ((getN d.ks d.xs O').getD 0 + w)⟩
 | none=>d
def a8z (r place:Nat)(d0 d:Dn)(O:List Nat):Dn:=[Mk.d,Mk.o,Mk.t,Mk.u].foldl (a2Q r place O ((getN d0.ks d0.xs O).getD 0)) d
def b1B (r place:Nat)(d0:Dn):Dn:=d0.ks.foldl (a8z r place d0) ⟨[],[]⟩
def dps (r:Nat):Nat->Dn
 | 0=>⟨[[]],[1]⟩
 | k + 1=>b1B r k (dps r k)
def okD (r k:Nat):Bool:=(dps r k).ks.all (fun O=>decide (O.length<=100)) && ((dps r k).ks.length == (dps r k).xs.length) && decide ((dps r k).ks.length<=1000) && (getN (dps r k).ks (dps r k).xs [] == some (a0P r k 0 []).length) && decide ((a0P r k 0 []).length<=1000)
theorem b2E:∀r,r < 8->∀k,k < 8->okD r k=true:=by decide +kernel
theorem a3f {r k:Nat}(hr:r < 8)(hk:k < 8):(∀O∈(dps r k).ks,O.length<=100)/\(dps r k).ks.length=(dps r k).xs.length/\(dps r k).ks.length<=1000/\getN (dps r k).ks (dps r k).xs []=some (a0P r k 0 []).length/\(a0P r k 0 []).length<=1000:=by
 have h:=b2E r hr k hk;unfold okD at h;simp only [x1s,beq_iff_eq,x0z,decide_eq_true_eq] at h;obtain⟨⟨⟨⟨h1,h2⟩,h3⟩,h4⟩,h5⟩:=h;exact⟨h1,h2,h3,h4,h5⟩
theorem a8v {r w:Nat}{O:List Nat}{d:Dn}{m:Mk}(h:d.ks.length=d.xs.length):(a2Q r place O w d m).ks.length=(a2Q r place O w d m).xs.length/\(a2Q r place O w d m).xs.length<=d.xs.length + 1:=by
 unfold a2Q
 split
 · rename_i O' _;have:=a5u h O' ((getN d.ks d.xs O').getD 0 + w);refine⟨this,?_⟩;rw [<- this];show(a1h d.ks O').length<=_;unfold a1h
   split
   · omega
   · rw [x0q,x0G];omega
 · exact⟨h,by omega⟩
theorem four {j:Nat}{x:PV}(h:[PV.str (x0i "d"),PV.str (x0i "o"),PV.str (x0i "t"),PV.str (x0i "u")][j]?=some x):∃m,x=mkP m/\[Mk.d,Mk.o,Mk.t,Mk.u][j]?=some m:=by
 match j,h with
 | 0,h=>cases h;exact⟨.d,rfl,rfl⟩
 | 1,h=>cases h;exact⟨.o,rfl,rfl⟩
 | 2,h=>cases h;exact⟨.t,rfl,rfl⟩
 | 3,h=>cases h;exact⟨.u,rfl,rfl⟩
 | j + 4,h=>cases h
theorem b2J (r m:Nat)(hr:r < 8)(hm:m<=7){n:Nat}{R:PV->Nat->Prop}(h:R (.int ((a0P r m 0 []).length:Int)) n):a1l [.int m,.int r] n R:=by
 refine⟨rfl,?_⟩;unfold a1Q;walk_at "pu";refine⟨⟨by omega,by omega⟩,?_⟩;rw [x1i];refine a0S (fun k env q=>q=n/\∃z3 z4 z5 z6 z7,env=[some (.v (.int m)),some (.v (.int r)),some (.ow (.dt ((dps r k).ks.map keyN)) ((dps r k).xs.map pin)),z3,z4,z5,z6,z7]) _ 0 _ _ ⟨rfl,none,none,none,none,none,rfl⟩ (fun i x env q N hx hI hN=>?_) (fun env q hI=>?_)
 · obtain⟨rfl,z3,z4,z5,z6,z7,rfl⟩:=hI;obtain⟨hi,rfl⟩:=a2z hx;rw [x0N] at *;rw [Int.zero_add];obtain⟨o1,o2,o3,_,_⟩:=a3f hr (show i < 8 by omega);have hN':=fun z3 z4 z5 z6 z7=>hN [some (.v (.int m)),some (.v (.int r)),some (.ow (.dt ((dps r (i + 1)).ks.map keyN)) ((dps r (i + 1)).xs.map pin)),z3,z4,z5,z6,z7] q ⟨rfl,z3,z4,z5,z6,z7,rfl⟩;have eS:dps r (i + 1)=b1B r i (dps r i):=rfl;rw [eS] at hN';generalize dps r i=d0 at *;generalize eK:d0.ks.map keyN=KS;generalize eX:d0.xs.map pin=XS;walk_at "pu";have lK:KS.length=XS.length:=by rw [<- eK,<- eX,x0g,x0g,o2]
   refine⟨lK,?_⟩;refine a0S (fun j env p=>p=q/\∃d z5 z6 z7,env=[some (.v (.int m)),some (.v (.int r)),some (.v (.fdt KS XS)),some (.v (.int i)),some (.ow (.dt (x2C keyN d.ks)) (x2C pin d.xs)),z5,z6,z7]/\d=(d0.ks.take j).foldl (a8z r i d0) ⟨[],[]⟩/\d.ks.length=d.xs.length/\d.xs.length<=4 * j) _ 0 _ _ ⟨rfl,⟨[],[]⟩,_,_,_,rfl,rfl,rfl,x1z _⟩ (fun j x env p N' hx hJ hN2=>?_) (fun env p hJ=>?_)
   · obtain⟨rfl,d,y5,y6,y7,rfl,ed,ld,bd⟩:=hJ;rw [x0N] at *;rw [x0r,<- eK,x0r] at hx;cases eO:d0.ks[j]? with
     | none=>rw [eO] at hx;cases hx
     | some O =>
       rw [eO] at hx;cases hx;rw [a7A];have hO:=o1 O (x0P eO);obtain⟨v0,ev0⟩:=a6q o2 (x0P eO);have eg:getT KS XS (keyN O)=some (pin v0):=by rw [<- eK,<- eX,a2T,ev0];rfl
       have hj:j < 1000:=by have:=(x0k.mp eO).1;omega
       have eN:(d0.ks.take (j + 1)).foldl (a8z r i d0) ⟨[],[]⟩=a8z r i d0 d O:=by
         rw [x2h,eO,x3t,<- ed];rfl
       have eO2:=a4S O;have hN3:=fun d' z5 z6 z7 h1 h2 h3=>hN2 [some (.v (.int m)),some (.v (.int r)),some (.v (.fdt KS XS)),some (.v (.int i)),some (.ow (.dt (x2C keyN d'.ks)) (x2C pin d'.xs)),z5,z6,z7] p ⟨rfl,d',z5,z6,z7,rfl,h1,h2,h3⟩;rw [eN] at hN3;have hop:=fun mk {R:PV->Nat->Prop} h=>a6j (r:=(r:Int)) (O:=O) (place:=i) (n:=p) (m:=mk) (R:=R) hO h;generalize eP:O.map pin=OP at *;walk_at "pu";refine a0S (fun k env p'=>p'=p/\∃e z6 z7,env=[some (.v (.int m)),some (.v (.int r)),some (.v (.fdt KS XS)),some (.v (.int i)),some (.ow (.dt (x2C keyN e.ks)) (x2C pin e.xs)),some (.v (.tup OP)),z6,z7]/\e=([Mk.d,Mk.o,Mk.t,Mk.u].take k).foldl (a2Q r i O ((getN d0.ks d0.xs O).getD 0)) d/\e.ks.length=e.xs.length/\e.xs.length<=4 * j + k) _ 0 _ _ ⟨rfl,d,_,_,rfl,rfl,ld,by omega⟩ (fun k x env p' N3 hx hK hNk=>?_) (fun env p' hK=>?_)
       · obtain⟨rfl,e,w6,w7,rfl,ee,le,be⟩:=hK;rw [x0N] at *;obtain⟨mk,rfl,emk⟩:=four hx;have hk4:k < 4:=(x0k.mp emk).1
         have eM:([Mk.d,Mk.o,Mk.t,Mk.u].take (k + 1)).foldl (a2Q r i O ((getN d0.ks d0.xs O).getD 0)) d=a2Q r i O v0 e mk:=by
           rw [x2h,emk,x3t,<- ee,ev0];rfl
         obtain⟨l1,l2⟩:=a8v (r:=r) (place:=i) (w:=v0) (O:=O) (d:=e) (m:=mk) le;have hNk':=fun z6 z7=>hNk [some (.v (.int m)),some (.v (.int r)),some (.v (.fdt KS XS)),some (.v (.int i)),some (.ow (.dt (x2C keyN (a2Q r i O v0 e mk).ks)) (x2C pin (a2Q r i O v0 e mk).xs)),some (.v (.tup OP)),z6,z7] p' ⟨rfl,a2Q r i O v0 e mk,z6,z7,rfl,eM.symm,l1,by omega⟩;generalize eKe:e.ks.map keyN=KE;generalize eXe:e.xs.map pin=XE;walk_at "pu";refine hop mk ?_;unfold a2Q at hNk';cases eo:opn (r:Int) O i mk with
         | none =>
           rw [eo] at hNk';rw [eKe,eXe] at hNk';refine if_f rfl ?_;exact hNk' _ _
         | some O' =>
           rw [eo] at hNk';dsimp only at hNk';have lE:KE.length=XE.length:=by rw [<- eKe,<- eXe,x0g,x0g,le]
           have ek:=a4S O'
           have egE:(getT KE XE (keyN O')).getD (.int 0)=pin ((getN e.ks e.xs O').getD 0):=by
             rw [<- eKe,<- eXe,a2T];cases getN e.ks e.xs O' <;> rfl
           have pk:a1h KE (keyN O')=(a1h e.ks O').map keyN:=by rw [<- eKe,a8d]
           have px:=a8c e.ks e.xs O' ((getN e.ks e.xs O').getD 0 + v0);rw [eKe,eXe] at px;refine if_t rfl ?_;unfold oP;dsimp only;rw [ek];refine⟨⟨_,_,rfl⟩,lE,?_⟩;rw [eO2];dsimp only;rw [eg,egE];generalize (getN e.ks e.xs O').getD 0=a at *;unfold pin;dsimp only;refine⟨⟨_,_,rfl⟩,lE,by rw [<- eXe,x0g];omega,?_⟩;rw [show PV.int ((a:Int) + (v0:Int))=pin (a + v0) from congrArg PV.int (Int.natCast_add a v0).symm,pk,px];exact hNk' _ _
       · obtain⟨rfl,e,w6,w7,rfl,ee,le,be⟩:=hK;rw [x0N] at *;have ee':e=a8z r i d0 d O:=ee;exact hN3 _ _ _ _ ee' le (by have:e.xs.length<=4 * j + 4:=be;omega)
   · obtain⟨rfl,d,y5,y6,y7,rfl,ed,ld,bd⟩:=hJ;rw [x0N] at *;rw [x0g,<- eK,x0g,x3K] at ed;have ed':d=b1B r i d0:=ed;rw [ed'];exact hN' _ _ _ _ _
 · obtain⟨rfl,z3,z4,z5,z6,z7,rfl⟩:=hI;rw [x0N,a1t];obtain⟨o1,o2,o3,o4,_⟩:=a3f hr (show m < 8 by omega);have eg:=a2T [] (dps r m).ks (dps r m).xs;rw [o4] at eg;have lK:((dps r m).ks.map keyN).length=((dps r m).xs.map pin).length:=by rw [x0g,x0g,o2]
   generalize (dps r m).ks.map keyN=KS at *;generalize (dps r m).xs.map pin=XS at *;walk_at "pu";refine⟨lK,?_⟩;rw [show getT KS XS []=some (pin (a0P r m 0 []).length) from eg];exact h
theorem b1r {d:Int}(h0:0<=d)(h1:d < 4):∃m:Mk,atI (x0i "utdo").cps.toList d=(mkS m).cps[0]?/\(∀c,(mkS m).cps[0]?=some c->PV.str ⟨#[c]⟩=mkP m)/\(mkS m).cps[0]?.isSome=true:=by
 obtain⟨k,rfl⟩:=x2t h0;have hk:k < 4:=by omega
 match k,hk with
 | 0,_=>exact⟨.u,by decide +kernel,fun c h=>by cases h;rfl,by decide +kernel⟩
 | 1,_=>exact⟨.t,by decide +kernel,fun c h=>by cases h;rfl,by decide +kernel⟩
 | 2,_=>exact⟨.d,by decide +kernel,fun c h=>by cases h;rfl,by decide +kernel⟩
 | 3,_=>exact⟨.o,by decide +kernel,fun c h=>by cases h;rfl,by decide +kernel⟩
theorem utdo {d:Int}(h0:0<=d)(h1:d < 4):∃(m:Mk) (c:Nat),atI (x0i "utdo").cps.toList d=some c/\PV.str ⟨#[c]⟩=mkP m:=by
 obtain⟨m,e1,e2,e3⟩:=b1r h0 h1;obtain⟨c,ec⟩:=x1K.mp e3;exact⟨m,c,e1.trans ec,e2 c ec⟩
def kW (w:List Mk):List Key:=(w.map cd).map mkK
theorem a4i (w:List Mk):a0L (w.map mkP)=some (kW w):=by
 have:=a6n (w.map cd);rw [x0V] at this;rw [show w.map mkP=w.map (mcP∘cd) from x1X fun m _=>(mc_cd m).symm,this]
 rfl
theorem b2H {c d:Mk}(h:mkK (cd c)=mkK (cd d)):c=d:=by
 have:=(a8u (a6C c) (a6C d)).1;rw [decide_eq_true h] at this;have e:cd c=cd d:=of_decide_eq_true this.symm;cases c <;> cases d <;> first | rfl | cases e
theorem b1a:∀(a b:List Mk),kW a=kW b->a=b
 | [],[],_=>rfl
 | [],_::_,h=>nomatch h
 | _::_,[],h=>nomatch h
 | x :: a, y :: b, h => by
   have h1:=List.cons.inj (show mkK (cd x)::kW a=mkK (cd y)::kW b from h);rw [b1a a b h1.2,b2H h1.1]
theorem kW_mem {w:List Mk}{E:List (List Mk)}:kW w∈E.map kW↔w∈E:=by
 rw [x0H];exact⟨fun⟨v,h,e⟩=>by rw [<- b1a v w e];exact h,fun h=>⟨w,h,rfl⟩⟩
def wdig (w:List Mk):∀c∈w.map cd,dig c:=fun c hc=>by
 obtain⟨m,_,rfl⟩:=x0H.mp hc;exact a6C m
theorem w_lt {a b:List Mk}(hl:a.length=b.length):lexK (kW a) (kW b)=decide (code (a.map cd) < code (b.map cd)):=a3h _ _ (wdig a) (wdig b) (by rw [x0g,x0g,hl])
def asc:List Nat->Bool
 | a::b::t=>Nat.blt a b && asc (b::t)
 | _=>true
theorem a9e:∀l:List Nat,asc l=true->∀p∈l.zip (l.drop 1),p.1 < p.2
 | [],_,p,h=>absurd h x1t
 | [_],_,p,h=>absurd h x1t
 | a :: b :: t, h, p, hp => by
   have h':Nat.blt a b=true/\asc (b::t)=true:=by
     have:(Nat.blt a b && asc (b::t))=true:=h
     simpa using this
   rcases x0s.mp (show p∈(a,b)::(b::t).zip t from hp) with e | hp
   · rw [e];exact Nat.le_of_ble_eq_true h'.1
   · exact a9e (b::t) h'.2 p hp
theorem b3l:∀r,r < 8->∀m,m < 8->asc (a0m r m)=true:=by decide +kernel
theorem adj {r m:Nat}(hr:r < 8)(hm:m < 8):∀p∈(a0P r m 0 []).zip ((a0P r m 0 []).drop 1),lexK (kW p.1) (kW p.2)=true:=fun p hp=>by
 have h:=a9e _ (b3l r hr m hm) (code (p.1.map cd),code (p.2.map cd));have hm2:=x3V hp;have l1:=((a0K m 0 [] p.1).mp hm2.1).1;have l2:=((a0K m 0 [] p.2).mp (List.mem_of_mem_drop hm2.2)).1;rw [w_lt (l1.trans l2.symm)];refine decide_eq_true (h ?_);unfold a0m;rw [<- x3O,List.zip_map];exact x0H.mpr ⟨p,hp,rfl⟩
theorem b0g {κ:Type}[DecidableEq κ]{k:κ}:∀(l ks:List κ),k∈l.foldl a1h ks↔k∈ks\/k∈l:=by
 intro xq
 induction xq with
 | nil =>
   intro ks;exact⟨.inl,fun h=>h.elim id fun z=>absurd z x1t⟩
 | cons a l ih =>
   intro ks;rw [x3k,ih,x0s]
   have:k∈a1h ks a↔k∈ks\/k=a:=by
     unfold a1h
     split
     · rename_i c;exact⟨.inl,fun h=>h.elim id fun e=>e▸c⟩
     · rw [x1g,x1c]
   rw [this,or_assoc]
theorem b0w {α:Type}:∀(qs:List (List Key×α)) (d:List (List Key)×List α),d.1.length=d.2.length->(qs.foldl putD d).1=(qs.map (·.1)).foldl a1h d.1/\(qs.foldl putD d).1.length=(qs.foldl putD d).2.length:=by
 intro xq
 induction xq with
 | nil =>
   intro d h;exact⟨rfl,h⟩
 | cons q qs ih =>
   intro d h;exact ih (putD d q) (a5u h q.1 q.2)
def prW (w:List Mk):PV:=.tup [wP w,.bl true]
theorem a9Y:∀E:List (List Mk),a3D (E.map prW)=some (E.map fun w=>(kW w,PV.bl true)):=by
 intro xq
 induction xq with
 | nil =>
   exact rfl
 | cons w E ih =>
   show(match a0L (w.map mkP),a3D (E.map prW) with | some k,some qs=>some ((k,PV.bl true)::qs) | _,_=>none)=_;rw [a4i,ih]
   rfl
theorem b2P {r m:Nat}{ks:List (List Key)}{xs:List PV}(h:dtF ((a0P r m 0 []).map fun w=>(kW w,PV.bl true))=(ks,xs)):ks.length=xs.length/\∀ms:List Mk,ms.length=m->memT ks (kW ms)=decide (run (r:Int) 0 [] ms=some []):=by
 obtain⟨e1,e2⟩:=b0w ((a0P r m 0 []).map fun w=>(kW w,PV.bl true)) ([],[]) rfl;unfold dtF at h;rw [h] at e1 e2;refine⟨e2,fun ms hl=>?_⟩
 have:memT ks (kW ms)=true↔run (r:Int) 0 [] ms=some []:=by
   rw [b0h];show kW ms∈(ks,xs).1↔_;rw [e1,b0g,x0V];rw [show x2C ((fun x:List Key×PV=>x.1)∘fun w=>(kW w,PV.bl true)) (a0P r m 0 [])=(a0P r m 0 []).map kW from rfl,kW_mem,a0K];exact⟨fun z=>z.elim (fun z=>absurd z x1t) fun z=>z.2,fun z=>.inr ⟨hl,z⟩⟩
 by_cases c:run (r:Int) 0 [] ms=some []
 · rw [this.mpr c,decide_eq_true c]
 · rw [decide_eq_false c];exact Bool.eq_false_iff.mpr fun z=>c (this.mp z)
def IsM (y:PV):Prop:=∃m:Mk,y=mkP m
theorem b2T:∀ys:List PV,(∀y∈ys,IsM y)->∃ms:List Mk,ys=ms.map mkP:=by
 intro xq
 induction xq with
 | nil =>
   intro _;exact⟨[],rfl⟩
 | cons y ys ih =>
   intro h;obtain⟨m,e⟩:=h y x0h;obtain⟨ms,e2⟩:=ih fun z hz=>h z (x0d _ hz);exact⟨m::ms,by rw [e,e2];rfl⟩
theorem b2I (q r m:Nat)(h1:1<=m)(h7:m<=7)(hr:r < 8){n:Nat}(hn:n<=900000000){R:PV->Nat->Prop}(h:∀n',n'<=n + 1000->R (.bl true) n'):a1k [.pot q,.int m,.int r,.tup ((a0P r m 0 []).map wP)] n R:=by
 refine⟨rfl,?_⟩;unfold a1P;obtain⟨_,_,_,_,l1000⟩:=a3f hr (show m < 8 by omega);have ad:=adj hr (show m < 8 by omega);have lens:∀w∈a0P r m 0 [],w.length=m/\run (r:Int) 0 [] w=some []:=fun w hw=>(a0K m 0 [] w).mp hw;have cnt:=fun {n:Nat} {R:PV->Nat->Prop} h=>b2J r m hr h7 (n:=n) (R:=R) h;obtain⟨⟨ks,xs⟩,eD⟩:∃d,dtF ((a0P r m 0 []).map fun w=>(kW w,PV.bl true))=d:=⟨_,rfl⟩;obtain⟨lk,kn⟩:=b2P eD;generalize a0P r m 0 []=E at *;have lE:(E.map wP).length=E.length:=x0g _;have eC:cutP (E.map wP) (some 1) none=(E.drop 1).map wP:=by rw [show(1:Int)=((1:Nat):Int) from rfl,b1i,x3O]
 have eZ:zipP (E.map wP) ((E.drop 1).map wP)=(E.zip (E.drop 1)).map fun y=>.tup [wP y.1,wP y.2]:=by
   unfold zipP;rw [List.zip_map,x0V]
   rfl
 have lZ:(zipP (E.map wP) ((E.drop 1).map wP)).length<=1000:=by rw [a5Q,lE];omega
 generalize eW:E.map wP=WS at *;walk_at "pu";refine cnt ?_;rw [lE];refine a8I rfl (if_f (by rw [a8N,decide_eq_true rfl];rfl) ?_);rw [eC];dsimp only [a6N,x1d,reduceIte];refine⟨by omega,?_⟩;rw [eZ];refine a3I (fun y:List Mk×List Mk=>wP y.1) (fun y=>wP y.2) (fun _=>.bl true) _ _ _ _ _ (fun y hy m' Q hQ=>?_) ?_
 · have e:=ad y hy;have k1:=a4i y.1;have k2:=a4i y.2;unfold wP at hQ ⊢;generalize y.1.map mkP=Y1 at *;generalize y.2.map mkP=Y2 at *;walk_at "pu";rw [k1,k2];refine⟨b3n _ _,?_⟩;rw [e];exact hQ
 rw [a2w];dsimp only;rw [a4u];refine if_f rfl ⟨by omega,?_⟩;rw [<- eW];refine a3J wP (fun _=>.bl true) E none _ _ (fun w hw m' Q hQ=>?_) ?_
 · obtain⟨l,rn⟩:=lens w hw;have iw:=fun {n:Nat} {R:PV->Nat->Prop} h=>m_isw (ms:=w) (r:=(r:Int)) (by omega) (by omega) (n:=n) (R:=R) h;rw [decide_eq_true rn] at iw;have lw:(w.map mkP).length=w.length:=x0g _;unfold wP at hQ ⊢;generalize w.map mkP=Y at *;walk_at "pu";rw [lw,l];refine if_t (decide_eq_true rfl) (iw hQ)
 rw [a2w];dsimp only;rw [a4u];refine if_f rfl ⟨by omega,?_⟩;refine a3J wP prW E none _ _ (fun w hw m' Q hQ=>?_) ?_
 · walk_at "pu";exact hQ
 rw [a9Y];dsimp only;rw [eD,eW];refine⟨by rw [x0g];exact l1000,?_⟩;dsimp only;refine a0S (fun k env n'=>∃s4 z5 z6 z7,env=[some (.v (.pot q)),some (.v (.int m)),some (.v (.int r)),some (.v (.tup WS)),some s4,z5,z6,z7]/\(s4=.ow (.dt ks) xs\/s4=.v (.fdt ks xs))/\n'<=n + 30 * k) _ 0 _ _ ⟨.ow (.dt ks) xs,none,none,none,rfl,.inl rfl,by omega⟩ (fun k x env n' N hx hI hN=>?_) (fun env n' hI=>?_)
 · obtain⟨s4,z5,z6,z7,rfl,h4,hn'⟩:=hI;have hk:k < 30:=(a2z hx).1;rw [x0N] at *
   have fin:∀(D:a5P) (hD:∀e m,N e m->D.nx e m) (ms:List Mk) (n2:Nat) (z5 z7:Option Slot),ms.length=m->n2<=n' + 30->(a1v 4 (qIfS (qB (qOp (wNe 4) (qOp wInT (qV 6) (qV 4)) (a1e a0t (a0h (qV 2) (a0h (qV 6) qNil))))) (qRet (qC (.bl false))) qNx)) D [some (.v (.pot q)),some (.v (.int m)),some (.v (.int r)),some (.v (.tup WS)),some s4,z5,some (.v (.tup (ms.map mkP))),z7] n2:=fun D hD ms n2 z5 z7 hl h2=>by
     have e1:=a4i ms;have e2:=kn ms hl;have iw:=fun {n:Nat} {R:PV->Nat->Prop} h=>m_isw (ms:=ms) (r:=(r:Int)) (by omega) (by omega) (n:=n) (R:=R) h;have hN':=fun z5 z6 z7=>hN [some (.v (.pot q)),some (.v (.int m)),some (.v (.int r)),some (.v (.tup WS)),some (.v (.fdt ks xs)),z5,z6,z7] n2 ⟨_,z5,z6,z7,rfl,.inr rfl,by omega⟩;generalize ms.map mkP=Y at *;generalize decide (run (r:Int) 0 [] ms=some [])=b at *;have ne:(!eqP (.bl b) (.bl b))=false:=by rw [a8O,decide_eq_true rfl];rfl
     rcases h4 with rfl | rfl
     · walk_at "pu";refine⟨lk,?_⟩;rw [e1];dsimp only;rw [e2];exact iw (a8I rfl (if_f ne (hD _ _ (hN' _ _ _))))
     · walk_at "pu";rw [e1];dsimp only;rw [e2];exact iw (a8I rfl (if_f ne (hD _ _ (hN' _ _ _))))
   generalize (a1v 4 (qIfS (qB (qOp (wNe 4) (qOp wInT (qV 6) (qV 4)) (a1e a0t (a0h (qV 2) (a0h (qV 6) qNil))))) (qRet (qC (.bl false))) qNx))=FZ at fin ⊢;clear hN;walk_at "pu";refine⟨⟨by omega,by omega⟩,by rw [a1t];omega,?_⟩;refine a7h IsM 1 999999000 _ _ _ _ (fun y hy m1 Q hm1 hQ=>?_) (by rw [a1t];omega) (fun ys n2 hl hy hn2=>?_)
   · walk_at "pu";refine⟨by omega,fun d d0 d1=>⟨by decide,?_⟩⟩;obtain⟨mk,c,ec,em⟩:=utdo d0 d1;rw [ec];dsimp only;rw [em];exact hQ _ _ ⟨mk,rfl⟩ (x0m _)
   · obtain⟨ms,rfl⟩:=b2T ys hy;rw [x0g,a1t,x1i] at hl;rw [a1t,x1i] at hn2;refine⟨by omega,fun d d0 d1=>?_⟩
     by_cases c:d=0
     · refine if_t (decide_eq_true c) ?_;refine m_word (by omega) (by omega) fun vs n3 lv _ hn3=>?_;refine⟨⟨by omega,by omega,by omega⟩,fun e e0 e1=>?_⟩;obtain⟨a,rfl⟩:=x2t e0;have c1:cutP (vs.map mkP) none (some (a:Int))=(vs.take a).map mkP:=by rw [cut_hd,List.map_take]
       have c2:cutP (vs.map mkP) (some ((a:Int) + 1)) none=(vs.drop (a + 1)).map mkP:=by rw [show(a:Int) + 1=((a + 1:Nat):Int) by omega,b1i,x3O]
       dsimp only;rw [c1,c2];refine⟨by omega,fun f f0 f1=>⟨by decide,?_⟩⟩;obtain⟨mk,ch,ec,em⟩:=utdo f0 f1;rw [ec];dsimp only;rw [em,show(vs.take a).map mkP++[mkP mk]++(vs.drop (a + 1)).map mkP=(vs.take a++[mk]++vs.drop (a + 1)).map mkP by rw [x1b,x1b];rfl]
       have l2:(vs.take a++[mk]++vs.drop (a + 1)).length=m:=by
         rw [x0q,x0q,x1n,x2u,x0G];omega
       refine⟨by rw [x0g,x1n];omega,?_,?_⟩
       · rw [x0q,x0g,x0g,x1n,x2u,x0G];omega
       · exact fin _ (fun e m h=>h) _ _ _ _ l2 (by omega)
     · exact if_f (decide_eq_false c) (fin _ (fun e m h=>h) ms _ _ _ hl (by omega))
 · obtain⟨s4,z5,z6,z7,rfl,h4,hn'⟩:=hI;rw [x0N,a1t] at hn';have hn2:n'<=n + 30 * 30:=hn';exact h _ (by omega)
theorem b3d {ns:List Int}(h:ns.length<=63):(cutP ns none (some 3)).length<=63:=by
 unfold cutP;rw [x1n,x2u];omega
theorem m_law (ns:List Int)(hns:ns.length<=63):a9Z ⟨fun _ _=>False,fun r _=>r=.bl true,fun _ _=>False,fun _ _=>False⟩ (a2m ["_law_script","_law_place","_law_hand_here","_law_many","_law_reach"] [.scr ns]) 0:=by
 unfold a9Z;walk_at "pu"
 have l5:(x2C PV.int (cutP ns none (some 3))).length<=63:=by
   rw [x0g];exact b3d hns
 generalize (x2C PV.int (cutP ns none (some 3))).length=L at *;refine⟨⟨by omega,by omega⟩,?_⟩;rw [show((1:Int) + L).toNat=L + 1 by omega];refine a0S (fun k env q=>q<=2000 * k/\∃z1 z2 z3 z4,env=[some (.v (.scr ns)),z1,z2,z3,z4]) _ 0 _ _ ⟨x0m _,none,none,none,none,rfl⟩ (fun i x env q N hx hI hN=>?_) (fun env q hI=>?_)
 · obtain⟨hq,z1,z2,z3,z4,rfl⟩:=hI;obtain⟨hi,rfl⟩:=a2z hx;rw [x0N] at *;walk_at "pu";refine⟨⟨hns,by omega,by omega⟩,fun p=>⟨by omega,fun d1 a1 b1=>⟨by omega,fun d2 a2 b2=>?_⟩⟩⟩;obtain⟨k1,rfl⟩:=x2t a1;obtain⟨k2,rfl⟩:=x2t a2;rw [show(1:Int) + (k1:Int)=((k1 + 1:Nat):Int) by omega];refine words (k1 + 1) k2 (by omega) (by omega) (by omega) _ _ ?_;refine b2I p k2 (k1 + 1) (by omega) (by omega) (by omega) (by omega) fun n' hn'=>?_;exact if_f rfl (hN _ _ ⟨by omega,_,_,_,_,rfl⟩)
 · exact trivial
end Tb
end
section
namespace L2
open PySem PySem.Spec PyProof.Rows
def CPowB (i j:Int):Prop:=0<=j/\(Builtin.Int.intBits i:Int) * j<=2 ^ 27
theorem b2w {X:Cx}:OpR X (x2G .Pow) (rI CPowB fun i j=>.int (i ^ j.toNat)):=opI fun _ _ _ _ _ _ _ hc q=>pow_int hc.1 hc.2 q
end L2
namespace Tb
open PySem L2 Pu
def tIfS0 (u v:TS)(D:Ends)(σ:St)(H:Hp):Prop:=u { D with nx:=fun σ H=>v D σ H } σ H
section
variable {P:x0A}{w:World}{K:x0a}{mg:Str->Option Value}{base:Heap}
theorem b0a (F:Fn0 K mg "_law_hand" (top 4))(m_len:mg "len"=none)(m_abs:mg "abs"=none):Kn P w K mg base "_law_hand" 1 ["_law_script","_law_place"] (Pu.spPot K):=by
 have sc:a0D ["_law_script","_law_place","_law_cell","_law_digits"] ["_law_script","_law_place"] (a0i (top 4)):=⟨rfl,rfl,rfl,by decide +kernel,rfl,by decide +kernel,by decide +kernel⟩;refine F.ok sc (fun vs H Q E h=>?_) (fun _ _ _ _ _ _=>bd2 fun _ _=>rfl) (fun f cdv A outer s H vs Q E hr h=>?_)
 · obtain⟨a,ns,k,rfl,_⟩:=h
   rfl
 obtain⟨a,ns,k,rfl,hS,h0,h1,q⟩:=h
 refine⟨_,(a0R (a3a (i:=2) sc.nd rfl (Or.inl rfl) a0s)
     (a0R (b2a (a4c op_lt (pv 1) (a1W a2N rfl m_len b1l (a0o (pv 0) a0M)) (a0C _)) (a2Z (a3a (i:=2) sc.nd rfl (Or.inl rfl) (a1W b0A rfl m_abs bt_abs (a0o (a3u a1z (pv 0) (pv 1) (fun _ _=>rfl)) a0M)))) a5v)
     (a0R (a3a (i:=3) sc.nd rfl (Or.inl rfl) (a6g (a4c op_ge (pv 2) (a0Y b0V a0s a0s) (a0C _)) (a0Y a3c (pv 2) (a0Y b2w (a0Y b0V a0s a0s) a0s)) a0s))
     (a2Z (a4K (b0U (a0o (pv 3) (a0o (a0Y a3d (a0Y a3d (a0Y a3c (pv 2) a0s) (a0Y a4N a0s (pv 1))) a0s) (a0o a0s a0M))))))))),?_⟩
 have sq:∀(u v:TS) (D:Ends) (σ:St) (x:V) (i:Nat),tIfS0 u v D (σ.set i (some x)) H->tSeq (tAsg (tC x) (a1I i)) (tSeq u v) D σ H:=fun _ _ _ _ _ _ h=>h;refine sq _ _ _ _ _ _ ?_;unfold tIfS0;refine a9n (fun σ' H'=>∃c:Int,0<=c/\σ'=[some (.ref a),some (.int k),some (.int c),none]/\H'=H) (fun key=>?_) ?_
 · refine⟨_,rfl,_,rfl,a,_,rfl,.inl hS,_,_,rfl,rfl,_,rfl,?_⟩;refine ite2 (fun c=>?_) (fun c=>?_)
   · have c':k < (((ns.map V.int).length:Nat):Int):=of_decide_eq_true c;rw [x0g] at c';obtain⟨v,qa⟩:=L2.at_map (ns:=ns) h0 c';exact⟨_,rfl,_,rfl,a,_,_,_,rfl,rfl,hS,qa,_,rfl,key _ _ ⟨_,by split <;> omega,rfl,rfl⟩⟩
   · exact key _ _ ⟨0,by decide,rfl,rfl⟩
 rintro σ' H' ⟨c,c0,rfl,eH⟩;subst eH;dsimp only;have sq2:∀(u:TE) (v:TS) (D:Ends) (σ:St) (i:Nat),u σ H' (fun x H=>v D (σ.set i (some x)) H)->tSeq (tAsg u (a1I i)) v D σ H':=fun _ _ _ _ _ h=>h;refine sq2 _ _ _ _ _ ?_;refine b1w (fun v=>∃o:Int,v=.int o/\0<=o) (fun key=>?_) ?_
 · refine⟨_,rfl,_,_,rfl,rfl,⟨by decide,by decide,by decide⟩,_,_,rfl,rfl,_,rfl,?_⟩;exact ite2 (fun _=>⟨_,rfl,_,_,rfl,rfl,⟨by decide,by decide,by decide⟩,_,_,rfl,rfl,⟨by decide,by decide +kernel⟩,_,_,rfl,rfl,(by show(0:Int) < (10 ^ Int.toNat 60) ^ Int.toNat 17;decide +kernel),key _ ⟨_,rfl,x2F _ (by decide +kernel)⟩⟩) (fun _=>key _ ⟨_,rfl,by decide⟩)
 rintro v ⟨o,rfl,o0⟩;have m0:=x2F c (show(2305843009213693951:Int)≠0 by decide);have m1:=x2D c (show(0:Int) < 2305843009213693951 by decide);refine⟨_,rfl,_,rfl,_,_,rfl,rfl,(by show(0:Int) < 2305843009213693951;decide),_,rfl,_,_,rfl,rfl,.inl ⟨by decide,by decide⟩,_,_,rfl,rfl,_,_,rfl,rfl,(by show 3<=x0v;decide),fun p hp=>?_⟩;exact q p _ _ hp ⟨o0,by omega,by omega,by decide,by decide⟩
theorem b2B (F:Fn0 K mg "_law_take" (top 5)):Kn P w K mg base "_law_take" 1 ["_law_hand_here","_law_many"] (a0z K potL a5h):=by
 refine a8Q ?_;have sc:a0D ["_law_hand_here","_law_many","_law_digit","_law_turn","_law_mixed"] ["_law_hand_here","_law_many"] (a0i (top 5)):=⟨rfl,rfl,rfl,by decide +kernel,rfl,by decide +kernel,by decide +kernel⟩;refine F.ok sc (fun vs H Q E h=>?_) (fun _ _ _ _ _ _=>bd2 fun _ _=>rfl) (fun f cdv A outer s H vs Q E hr h=>?_)
 · obtain⟨p,own,seed,go,many,rfl,_⟩:=h
   rfl
 obtain⟨p,own,seed,go,many,rfl,hp,⟨o0,s0,s1,g0,g1⟩,g2,n0,n1,q⟩:=h
 refine⟨_,(a0R (b2a (a4c op_gt (a3u a1z (pv 0) a0s (fun _ _=>rfl)) a0s (a0C _)) (a0R (a3a (i:=2) sc.nd rfl (Or.inl rfl) (a0Y a3c (a3u a1z (pv 0) a0s (fun _ _=>rfl)) (pv 1)))
     (a0R (a6f (a0Y a8m (a3u a1z (pv 0) a0s (fun _ _=>rfl)) (pv 1)) (a8h (pv 0) a0s a3U))
     (a2Z (a4K (pv 2))))) a5v)
     (a0R (a6f (a0Y a3d (a3u a1z (pv 0) a0s (fun _ _=>rfl)) a0s) (a8h (pv 0) a0s a3U))
     (a0R (a3a (i:=3) sc.nd rfl (Or.inl rfl) (a3u a1z (pv 0) a0s (fun _ _=>rfl)))
     (a0R (a3a (i:=4) sc.nd rfl (Or.inl rfl) (a0Y a3c (a0Y a4N (a0Y a3d (a3u a1z (pv 0) a0s (fun _ _=>rfl)) (a0Y a4N a0s (pv 3))) (a0Y a3d a0s (a0Y a4N (pv 3) (pv 3)))) a0s))
     (a0R (a6f (a0Y a3c (a0Y a4N (pv 4) (a0Y a3d (a0Y a3c (pv 4) a0s) a0s)) a0s) (a8h (pv 0) a0s a3U))
     (a2Z (a4K (a0Y a3c (a0Y a8m (a3u a1z (pv 0) a0s (fun _ _=>rfl)) a0s) (pv 1))))))))),?_⟩
 refine⟨_,rfl,p,_,0,_,rfl,rfl,SqL.of hp,rfl,_,_,rfl,rfl,_,rfl,?_⟩;refine ite2 (fun c=>?_) (fun c=>?_)
 · refine⟨_,rfl,p,_,0,_,rfl,rfl,SqL.of hp,rfl,_,rfl,_,_,rfl,rfl,n0,?_⟩;refine⟨_,rfl,p,_,0,_,rfl,rfl,SqL.of hp,rfl,_,rfl,_,_,rfl,rfl,⟨n0,by omega⟩,?_⟩;refine⟨_,rfl,p,_,0,0,rfl,rfl,hp,rfl,?_⟩;refine⟨_,rfl,?_⟩;exact q _ _ _ _ (x2F _ (by omega)) (x2D _ n0) ⟨Int.ediv_nonneg o0 (by omega),s0,s1,g0,g1⟩ (by omega)
 · refine⟨_,rfl,p,_,2,_,rfl,rfl,SqL.of hp,rfl,_,_,rfl,rfl,?_⟩;refine⟨_,rfl,p,_,2,2,rfl,rfl,hp,rfl,?_⟩;refine⟨_,rfl,p,_,2,_,rfl,rfl,SqL.of a0j,rfl,?_⟩;refine⟨_,rfl,p,_,1,_,rfl,rfl,SqL.of a0j,rfl,_,rfl,_,_,rfl,rfl,.inl ⟨by decide,by decide⟩,_,_,rfl,rfl,?_⟩;refine⟨_,rfl,_,rfl,_,_,rfl,rfl,.inl ⟨by omega,by omega⟩,_,_,rfl,rfl,_,_,rfl,rfl,?_⟩;refine⟨.inl ⟨by omega,by omega⟩,_,_,rfl,rfl,(by show(0:Int) < 2305843009213693921;decide),?_⟩;dsimp only [a1I];generalize (seed + 39373 * (go + 1)) * (48271 + (go + 1) * (go + 1))=y;have m0:=x2F y (show(2305843009213693921:Int)≠0 by decide);have m1:=x2D y (show(0:Int) < 2305843009213693921 by decide);generalize y % 2305843009213693921=z at m0 m1 ⊢;refine⟨_,rfl,_,rfl,_,_,rfl,rfl,(by show(0:Int) < 1000003;decide),_,_,rfl,rfl,_,_,rfl,rfl,.inl ⟨by omega,by omega⟩,_,_,rfl,rfl,(by show(0:Int) < 2305843009213693907;decide),?_⟩;dsimp only;have r0:=x2F (z * (z % 1000003 + 17)) (show(2305843009213693907:Int)≠0 by decide);have r1:=x2D (z * (z % 1000003 + 17)) (show(0:Int) < 2305843009213693907 by decide);generalize z * (z % 1000003 + 17) % 2305843009213693907=sd at r0 r1 ⊢;refine⟨_,rfl,p,_,1,1,rfl,rfl,a0j,rfl,?_⟩;refine⟨_,rfl,p,_,1,_,rfl,rfl,SqL.of a0j,rfl,_,_,rfl,rfl,⟨by decide,by decide⟩,_,rfl,_,_,rfl,rfl,n0,?_⟩
   have e:∀(o o':HO),upd (upd H p o) p o'=upd H p o':=fun o o'=>by
     funext b
     unfold upd
     by_cases hb:b=p <;> simp [hb]
   show Q _ (upd (upd H p _) p _);rw [e];exact q _ _ _ _ (x2F _ (by omega)) (x2D _ n0) ⟨o0,r0,by omega,by omega,by omega⟩ (by omega)
theorem b2C (F:Fn0 K mg "_law_hand" (top 4))(m_len:mg "len"=none)(m_abs:mg "abs"=none):Kn P w K mg base "_law_hand" 1 ["_law_script","_law_place"] (Pu.a4B K):=a9O (b0a F m_len m_abs)
end
end Tb
end
section
open PySem PySem.W PyProof.Rows
set_option maxRecDepth 100000 in
set_option maxHeartbeats 0 in
theorem PySem.Challenge.cw_touchboats_k15_all_words_told_holds : PySem.Challenge.rw_touchboats_k15_all_words_told.Holds := by
 w_on;o_law;k_head;(case hw=>w_witness2)
 k_fill
 refine L2.a9l (l:=PySem.Challenge.rw_touchboats_k15_all_words_told) (x:="_law_script") (k:=4) rfl rfl ⟨rfl,by decide,by decide,rfl⟩ (fun w h Y=>PySem.W.kIn_of Y) ?F
 case F=>
   intro w mg h KX G
   have f__law_hand:L2.Fn0 (L2.KOf KX) mg "_law_hand" (Tb.top 4):=by
     dsimp only [L2.KOf]
     refine' L2.a1H KX G ?a ?l ?c ?k
     (case a=>k_is);(case l=>k_is);(case c=>k_is);(case k=>k_is)
   have f__law_take:L2.Fn0 (L2.KOf KX) mg "_law_take" (Tb.top 5):=by
     dsimp only [L2.KOf]
     refine' L2.a1H KX G ?a ?l ?c ?k
     (case a=>k_is);(case l=>k_is);(case c=>k_is);(case k=>k_is)
   have f__law_opened:L2.Fn0 (L2.KOf KX) mg "_law_opened" (Tb.top 6):=by
     dsimp only [L2.KOf]
     refine' L2.a1H KX G ?a ?l ?c ?k
     (case a=>k_is);(case l=>k_is);(case c=>k_is);(case k=>k_is)
   have f__law_count:L2.Fn0 (L2.KOf KX) mg "_law_count" (Tb.top 11):=by
     dsimp only [L2.KOf]
     refine' L2.a1H KX G ?a ?l ?c ?k
     (case a=>k_is);(case l=>k_is);(case c=>k_is);(case k=>k_is)
   have f__law_closed:L2.Fn0 (L2.KOf KX) mg "_law_closed" (Tb.top 9):=by
     dsimp only [L2.KOf]
     refine' L2.a1H KX G ?a ?l ?c ?k
     (case a=>k_is);(case l=>k_is);(case c=>k_is);(case k=>k_is)
   have f__law_is_word:L2.Fn0 (L2.KOf KX) mg "_law_is_word" (Tb.top 10):=by
     dsimp only [L2.KOf]
     refine' L2.a1H KX G ?a ?l ?c ?k
     (case a=>k_is);(case l=>k_is);(case c=>k_is);(case k=>k_is)
   have f__law_closes:L2.Fn0 (L2.KOf KX) mg "_law_closes" (Tb.top 7):=by
     dsimp only [L2.KOf]
     refine' L2.a1H KX G ?a ?l ?c ?k
     (case a=>k_is);(case l=>k_is);(case c=>k_is);(case k=>k_is)
   have f__law_word:L2.Fn0 (L2.KOf KX) mg "_law_word" (Tb.top 8):=by
     dsimp only [L2.KOf]
     refine' L2.a1H KX G ?a ?l ?c ?k
     (case a=>k_is);(case l=>k_is);(case c=>k_is);(case k=>k_is)
   have f__law_right:L2.Fn0 (L2.KOf KX) mg "_law_right" (Tb.top 12):=by
     dsimp only [L2.KOf]
     refine' L2.a1H KX G ?a ?l ?c ?k
     (case a=>k_is);(case l=>k_is);(case c=>k_is);(case k=>k_is)
   have f_longer:L2.Fn0 (L2.KOf KX) mg "longer" (Tb.top 1):=by
     dsimp only [L2.KOf]
     refine' L2.a1H KX G ?a ?l ?c ?k
     (case a=>k_is);(case l=>k_is);(case c=>k_is);(case k=>k_is)
   have f_all_words:L2.Fn0 (L2.KOf KX) mg "all_words" (Tb.top 2):=by
     dsimp only [L2.KOf]
     refine' L2.a1H KX G ?a ?l ?c ?k
     (case a=>k_is);(case l=>k_is);(case c=>k_is);(case k=>k_is)
   have f_law:L2.Fn0 (L2.KOf KX) mg "law" (Tb.top 13):=by
     dsimp only [L2.KOf]
     refine' L2.a1H KX G ?a ?l ?c ?k
     (case a=>k_is);(case l=>k_is);(case c=>k_is);(case k=>k_is)
   have z:∀x,PySem.W.nsIn (L2.KOf KX) x1V x=some none->mg x=none:=fun x e=>PySem.W.mg_none_of KX G e;have m_abs:mg "abs"=none:=z _ (by dsimp only [L2.KOf];k_is);have a2R:mg "all"=none:=z _ (by dsimp only [L2.KOf];k_is);have m_dict:mg "dict"=none:=z _ (by dsimp only [L2.KOf];k_is);have m_enumerate:mg "enumerate"=none:=z _ (by dsimp only [L2.KOf];k_is);have m_int:mg "int"=none:=z _ (by dsimp only [L2.KOf];k_is);have m_isinstance:mg "isinstance"=none:=z _ (by dsimp only [L2.KOf];k_is);have m_len:mg "len"=none:=z _ (by dsimp only [L2.KOf];k_is);have m_list:mg "list"=none:=z _ (by dsimp only [L2.KOf];k_is);have m_min:mg "min"=none:=z _ (by dsimp only [L2.KOf];k_is);have m_range:mg "range"=none:=z _ (by dsimp only [L2.KOf];k_is);have m_sorted:mg "sorted"=none:=z _ (by dsimp only [L2.KOf];k_is);have m_str:mg "str"=none:=z _ (by dsimp only [L2.KOf];k_is);have m_tuple:mg "tuple"=none:=z _ (by dsimp only [L2.KOf];k_is);have m_zip:mg "zip"=none:=z _ (by dsimp only [L2.KOf];k_is);refine⟨Tb.top 13,f_law,fun _ _ _ _ _ _ s u=>.of_eq rfl,fun base kb nb=>?_⟩;have g__law_hand:=Tb.b2C (P:=PySem.Challenge.rw_touchboats_k15_all_words_told.prog) (w:=w) (base:=base) f__law_hand m_len m_abs;have g__law_take:=Tb.b2B (P:=PySem.Challenge.rw_touchboats_k15_all_words_told.prog) (w:=w) (base:=base) f__law_take;have g__law_opened:=Tb.a4j (P:=PySem.Challenge.rw_touchboats_k15_all_words_told.prog) (w:=w) (base:=base) f__law_opened
   have g__law_count:=Tb.a4U (P:=PySem.Challenge.rw_touchboats_k15_all_words_told.prog) (w:=w) (base:=base) f__law_count g__law_opened m_list m_range m_tuple;have g__law_closed:=Tb.a4l (P:=PySem.Challenge.rw_touchboats_k15_all_words_told.prog) (w:=w) (base:=base) f__law_closed m_int m_range;have g__law_is_word:=Tb.a3v (P:=PySem.Challenge.rw_touchboats_k15_all_words_told.prog) (w:=w) (base:=base) f__law_is_word g__law_closed a2R m_enumerate m_isinstance m_len m_list m_str m_tuple;have g__law_closes:=Tb.a4k (P:=PySem.Challenge.rw_touchboats_k15_all_words_told.prog) (w:=w) (base:=base) f__law_closes a2R m_enumerate m_len;have g__law_word:=Tb.a5D (P:=PySem.Challenge.rw_touchboats_k15_all_words_told.prog) (w:=w) (base:=base) f__law_word g__law_opened g__law_closes g__law_take m_len m_range m_tuple;have g__law_right:=Tb.a4T (P:=PySem.Challenge.rw_touchboats_k15_all_words_told.prog) (w:=w) (base:=base) f__law_right g__law_count g__law_is_word g__law_take g__law_word a2R m_dict m_isinstance m_len m_range m_tuple m_zip;have g_longer:=Tb.b0l (P:=PySem.Challenge.rw_touchboats_k15_all_words_told.prog) (w:=w) (base:=base) f_longer m_len m_min m_range;have g_all_words:=Tb.a5C (P:=PySem.Challenge.rw_touchboats_k15_all_words_told.prog) (w:=w) (base:=base) f_all_words g_longer m_range m_sorted m_tuple;exact Tb.k_law (P:=PySem.Challenge.rw_touchboats_k15_all_words_told.prog) (w:=w) (base:=base) f_law g__law_hand g__law_take g_all_words g__law_right m_len m_range (fun ns hl=>Tb.m_law ns hl)
end
