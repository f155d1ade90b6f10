import PyProof.Rows.All
import Wide.All
import OpenK.AllK
import Wide.FinOn
import PyProof.EqAt
import PyProof.EqKinds
import PyProof.TupleCall
import PyProof.NeKinds
import PyProof.EnumMake
import PyProof.ConsumeWalk
import KE.LcSums
import PyProof.ReprLen
import PyProof.StrLawsRepr
import PyProof.Rows.StrNews2
import PyProof.Rows.SetFrom
import PyProof.WalksMore
import PyProof.StrLawsChain
import PyProof.StrLawsTight
import PyProof.StrLawsIdx
import PyProof.ZipIter
import PyProof.Draws
import PyProof.Rows.FactsT2
import PyProof.ListStr
import PyProof.Rows.StrPartPair
import KE.KSortTup
import KE.KDictSum
import KE.KRevIter
import KE.KSortKey
import KE.KLam
import KE.KNestM
import PyProof.DictItems
import KE.KPairComp
import PyProof.AutoSeq1
import PyProof.SetNew
import PyProof.AttrMissHeap
import KE.KDictOf
import PyProof.ListRange
import Lean
import PySem.Challenge.RW_touchboats_k16_words_and_rows_counted
set_option Elab.async false
set_option linter.all false
set_option maxRecDepth 100000
set_option maxHeartbeats 4000000
open PySem.W renaming Frag->x0a,kia_one->x0Z,fnOf->x1w,kas_item->x1N,kitOne->x2H,keepIn->x2I,codeIn->x3g,methodObj->x3h
open PySem renaming wpAny_bind->x0b,wpAny_pure->x0h,sizeLine->x0t,Program->x0x,foldedSetIterable->x0G,bootBuiltins->x0J,wpAny_mono->x0K,starEach->x0P,wpAny_newObj_type->x0R,wpAny_holding->x1d,wpAny_callSpecial?_slot->x1f,assignEach->x1h,mem_of_lookup->x1l,tupleKind->x1p,letOwnedTupleGo->x1q,wpAny_standAt->x1u,mainGlobals->x1z,wpAny_Call_Name_kw->x1G,sysModules->x1O,wpAny_getItem_str_slice->x1U,wpAny_call_entry->x1W,sizeLine_eq->x1Y,binaryOp->x2b,codeAny->x2c,wpAny_field->x2i,wpAny_rule->x2m,wpAny_comprehension_free->x2o,swapsWithSole->x2q,swappedStores->x2r,wpAny_pyIter_tuple->x2s,wpAny_passesOwn->x2t,FuncData->x2u,codeAny_compStart_list->x2A,wpAny_truthy_bool->x2C,sliceBounds->x2D,wpAny_bindName->x2F,compareOp->x2K,wpAny_typeOf->x2L,assignInOrder->x2Q,bindName->x2R,attributeBase->x2S,post_val_or_str->x2Y,swapsWith->x3i,holding->x3p
open List renaming mem_cons_of_mem->x0c,length_map->x0e,mem_cons_self->x0f,range->x0g,size_toArray->x0j,getElem?_eq_getElem->x0k,length_append->x0l,getElem?_set_self->x0m,getElem?_eq_some_iff->x0n,getElem?_map->x0p,mem_cons->x0q,getElem?_set_ne->x0r,getD_eq_getElem?_getD->x0v,length_set->x0w,mem_append_right->x0A,getElem?_eq_none->x0B,length_cons->x0D,getElem?_append_left->x0F,all_eq_true->x0I,map_append->x0Q,range'->x0S,mem_singleton->x0T,mem_append_left->x0W,mem_of_getElem?->x0X,mem_map->x1b,mem_append->x1c,append_nil->x1e,getElem?_append_right->x1j,drop_eq_getElem_cons->x1n,eq_nil_of_length_eq_zero->x1t,map_cons->x1v,mem_filter->x1y,length_singleton->x1H,zip_cons_cons->x1J,map_map->x1K,append_assoc->x1R,length_range->x1T,length_take->x2f,getElem_mem->x2g,cons_append->x2h,getElem?_replicate->x2v,getElem?_cons_succ->x2x,mem_range->x2E,drop_length->x2P,filterMap_cons->x2W,nodup_cons->x2X,find?_cons->x2Z,foldl_cons->x3a
open PySem.Heap renaming get?_push_of_some->x0d,lt_size->x0i,get?_push_size->x0y,size_push->x2J
open Nat renaming ne_of_lt->x0o,le_refl->x0s,lt_of_lt_of_le->x0u,testBit_mod_two_pow->x0z,testBit->x0C,zero_add->x0N,testBit_shiftLeft->x0O,le_trans->x0U,lt_succ_of_lt->x0V,mul_le_mul_right->x1i,testBit_or->x1o,zero_le->x1s,testBit_shiftRight->x1B,sub_succ_lt_self->x1M,add_sub_cancel'->x2k,lt_irrefl->x2p,le_of_not_lt->x2O,le_of_eq->x3d,le_succ->x3q,add_mul->x3r
open Bool renaming false_ne_true->x0E,and_eq_true->x1D,beq_eq_decide_eq->x1I,false_and->x2G
open PySem.Str renaming ofString->x0H
open Option.some renaming inj->x0L
open PyProof.Rows renaming callWith_type1->x0M,slot_tuple_getitem->x1m,assignInOrder_cons->x1F,pendingOf->x2e,reverseSlice'->x2T,SortKind->x3e
open PySem.Value renaming ref->x0Y,type->x1k,none->x2l
open PySem.Builtin.SmallTypes renaming nextOf->x1a
open ForInStep renaming yield->x1g
open Option renaming isSome_iff_exists->x1r
open Int renaming toNat_natCast->x1x,eq_ofNat_of_zero_le->x1V,emod_lt_of_pos->x1X,emod_nonneg->x1Z,zero_add->x3f
open Array renaming length_toList->x1A,getElem?_eq_none->x2B,getElem?_toList->x2M
open PySem.F renaming slot_tuple_iterator_next->x1C,args_tuple_add_2->x2n,entry_tuple_add->x2w,plainAttrs_list->x2y,slot_tuple_add->x2z
open PySem.Obj renaming mapSeq->x1E
open PySem.Builtin.Slice renaming slicePlaces->x1L,sliceAdjust->x2d,sliceApplied->x3b
open PySem.Builtin.Tuple renaming tupleExact->x1P,tupleItemsOf->x3c
open PySem.Builtin.List renaming listTooLong->x1Q
open PySem.AutoSeq1 renaming wpAny_loadPart'->x1S
open False renaming elim->x2a
open PySem.Heap.SameBut renaming update->x2j
open PySem.SeqAt renaming RcNeAt->x2N,EqAt->x3k,RcAt->x3l
open PyProof.Rows.SortSt renaming mk'->x2U
open Prod.mk renaming inj->x2V
open True renaming intro->x3j
open Sum renaming inl->x3m,inr->x3n
open PySem.Paired renaming length->x3o
local macro_rules|`(tactic|omega)=>`(tactic|lia)
section
namespace L2
open PySem PySem.Spec PyProof.Rows
abbrev Key:=Sum Int Str
def a5G:Key->Value->Bool
 | .inl k,v=>Value.isInt k v
 | .inr x,v=>Value.isStrOf x v
def keyH (w:World):Key->Int
 | .inl k=>hashInt k
 | .inr x=>hashStr w x
theorem a0v:∀{k:Key} {v:Value},a5G k v=true->(∃i t,k=x3m i/\v=Value.int i t)\/(∃x t,k=x3n x/\v=Value.str x t)
 | .inl i, v, h => by
   obtain⟨t,e⟩:=Value.isInt_shape (k:=i) (v:=v) h;exact .inl ⟨i,t,rfl,e⟩
 | .inr x, v, h => by
   obtain⟨t,e⟩:=Value.isStrOf_shape (x:=x) (v:=v) h;exact .inr ⟨x,t,rfl,e⟩
theorem a7d (i:Int)(t:Tok):a5G (.inl i) (.int i t)=true:=by simp [a5G,Value.isInt]
theorem a7c (x:Str)(t:Tok):a5G (.inr x) (.str x t)=true:=by simp [a5G,Value.isStrOf]
theorem key_ll (a b:Int):decide ((x3m a:Key)=x3m b)=(a == b):=by
 by_cases e:a=b
 · subst e;simp
 · have h:¬(x3m a:Key)=x3m b:=fun q=>e (Sum.inl.inj q);rw [decide_eq_false h];exact(beq_eq_false_iff_ne.mpr e).symm
theorem key_rr (a b:Str):decide ((x3n a:Key)=x3n b)=decide (a=b):=by
 by_cases e:a=b
 · subst e;simp
 · have h:¬(x3n a:Key)=x3n b:=fun q=>e (Sum.inr.inj q);rw [decide_eq_false h,decide_eq_false e]
theorem key_lr (a:Int)(b:Str):decide ((x3m a:Key)=x3n b)=false:=decide_eq_false (fun q=>nomatch q)
theorem key_rl (a:Str)(b:Int):decide ((x3n a:Key)=x3m b)=false:=decide_eq_false (fun q=>nomatch q)
def a0E (prog:x0x)(w:World):PySem.KeyKind prog w Key where
 is:=a5G
 hash:=keyH w
 inj:=fun v a b ha hb=>by
   rcases a0v ha with⟨i,t,rfl,rfl⟩ | ⟨x,t,rfl,rfl⟩
   · rcases a0v hb with⟨j,u,rfl,e⟩ | ⟨y,u,rfl,e⟩
     · injection e with e1 _;rw [e1]
     · exact nomatch e
   · rcases a0v hb with⟨j,u,rfl,e⟩ | ⟨y,u,rfl,e⟩
     · exact nomatch e
     · injection e with e1 _;rw [e1]
 byValue:=fun k v h=>by
   rcases a0v h with⟨i,t,rfl,rfl⟩ | ⟨x,t,rfl,rfl⟩ <;> rfl
 pyHash:=fun hv h=>by
   rcases a0v hv with⟨i,t,rfl,rfl⟩ | ⟨x,t,rfl,rfl⟩
   · exact wpAny_pyHash_int h
   · exact wpAny_pyHash_str h
 eqBool:=fun hu hv h=>by
   rcases a0v hu with⟨i,t,rfl,rfl⟩ | ⟨x,t,rfl,rfl⟩
   · rcases a0v hv with⟨j,u,rfl,rfl⟩ | ⟨y,u,rfl,rfl⟩
     · rw [key_ll] at h;exact wpAny_eqBool_int h
     · rw [key_lr] at h;exact SeqAt.EqAt.int_str i t y u _ _ _ _ h
   · rcases a0v hv with⟨j,u,rfl,rfl⟩ | ⟨y,u,rfl,rfl⟩
     · rw [key_rl] at h;exact SeqAt.EqAt.str_int x t j u _ _ _ _ h
     · rw [key_rr] at h;exact wpAny_eqBool_str h
 «strs»:=fun k x t v h=>by
   rcases a0v h with⟨i,u,rfl,e⟩ | ⟨y,u,rfl,e⟩
   · exact nomatch e
   · injection e with e1 _;subst e1;cases v <;> rfl
theorem a4y (prog:x0x)(w:World)(i:Int)(t:Tok):(a0E prog w).is (.inl i) (.int i t)=true:=a7d i t
theorem a4x (prog:x0x)(w:World)(x:Str)(t:Tok):(a0E prog w).is (.inr x) (.str x t)=true:=a7c x t
inductive V where
 | non | bl (b:Bool) | int (i:Int) | str (x:Str) | byt (b:Array UInt8) | flt (b:UInt64) | ref (a:Addr) | ty (n:String)
 deriving DecidableEq
def RelV:V->Value->Prop
 | .non,u=>u=x2l
 | .bl b,u=>u=Value.bool b
 | .int i,u=>∃t,u=Value.int i t
 | .str x,u=>∃t,u=Value.str x t
 | .byt b,u=>∃t,u=Value.bytes b t
 | .flt b,u=>∃t,u=Value.float b t
 | .ref a,u=>u=x0Y a
 | .ty n,u=>u=x1k n
abbrev Vals:List V->List Value->Prop:=Paired RelV
theorem Vals.length {xs:List V}{us:List Value}(r:Vals xs us):xs.length=us.length:=x3o r
theorem Vals.get:∀{xs:List V} {us:List Value} {i:Nat} {x:V},Vals xs us->xs[i]?=some x->∃u,us[i]?=some u/\RelV x u
 | _,_,_,_,.nil,e=>by simp at e
 | _,_,0,_,.cons r _,e=>by simp at e;subst e;exact⟨_,rfl,r⟩
 | _, _, i + 1, x, .cons _ t, e => by
   obtain⟨u,h1,h2⟩:=Vals.get (i:=i) (x:=x) t (by simpa using e);exact⟨u,by simpa using h1,h2⟩
theorem Vals.set {x:V}{u:Value}(r:RelV x u):∀{xs:List V} {us:List Value} (i:Nat),Vals xs us->Vals (xs.set i x) (us.set i u)
 | _,_,_,.nil=>.nil
 | _,_,0,.cons _ t=>.cons r t
 | _,_,i + 1,.cons q t=>.cons q (Vals.set r i t)
theorem Vals.append {xs ys:List V}{us ws:List Value}(h:Vals xs us)(s:Vals ys ws):Vals (xs++ys) (us++ws):=by
 induction h with
 | nil=>exact s
 | cons r _ ih=>exact .cons r ih
theorem Vals.take:∀{xs:List V} {us:List Value} (n:Nat),Vals xs us->Vals (xs.take n) (us.take n)
 | _,_,0,_=>.nil
 | _,_,_ + 1,.nil=>.nil
 | _,_,n + 1,.cons r t=>.cons r (Vals.take n t)
theorem Vals.drop:∀{xs:List V} {us:List Value} (n:Nat),Vals xs us->Vals (xs.drop n) (us.drop n)
 | _,_,0,r=>r
 | _,_,_ + 1,.nil=>.nil
 | _,_,n + 1,.cons _ t=>Vals.drop n t
def RelO:Option V->Option Value->Prop
 | some v,some u=>RelV v u
 | none,none=>True
 | _,_=>False
def KV {κ:Type}:List (κ×V)->List (κ×Value)->Prop:=Paired fun(p:κ×V) (q:κ×Value)=>p.1=q.1/\RelV p.2 q.2
def kV:Key->V
 | .inl i=>.int i
 | .inr x=>.str x
inductive HO where
 /-- a list -/
 | lst (xs:List V)
 /-- a tuple (never changes) -/
 | tup (xs:List V)
 /-- a dict whose keys are ints and a9n; one whose keys are tuples of ints and a9n (the empty one is both) -/
 | dK (kvs:List (Key×V)) | dT (kvs:List (List Key×V))
 /-- a set of ints: its members, its size -/
 | set (S:Key->Bool) (n:Nat)
 /-- an instance of the class at C, its dict at dx, its attributes -/
 | ins (C dx:Addr) (fs:List (Str×V))
 /-- the dict of the instance at x -/
 | own (x:Addr)
 /-- the dict of an exception -/
 | xd (fs:List (Str×V))
 /-- a bound method, f of x -/
 | met (f x:Addr)
 /-- a range object lo, lo + 1, .. below hi -/
 | rng (lo hi:Int)
 /-- a thing that is known to the object (the script; a dict while a loop walks it): read, never written while it is so -/
 | frz (o:Obj) (u:HO)
 /-- a code object's table -/
 | tbl (ps:Array Value)
 /-- any other thing, by what is true of its one object (a def of one's own: SetO a S n := HO.ext fun h => ..) -/
 | ext (φ:Heap->Prop)
abbrev Hp:=Addr->Option HO
def upd (H:Hp)(a:Addr)(o:HO):Hp:=fun b=>if b=a then some o else H b
theorem a0n {H:Hp}{a:Addr}{o:HO}:upd H a o a=some o:=by unfold upd;rw [if_pos rfl]
theorem a0j {H:Hp}{a b:Addr}{o:HO}(h:b≠a):upd H a o b=H b:=by unfold upd;rw [if_neg h]
theorem a0s {H:Hp}{a b:Addr}{o:HO}(h:H a=some o)(h':H b=none):a≠b:=by
 intro e;subst e;rw [h] at h';cases h'
def a1L (h:Heap)(a:Addr)(items:Array Value):Prop:=∃o,h.get? a=some o/\(o.cls,o.dict)=(x1k "tuple",none)/\∃n,o.data=.seq items n
theorem a1L.is {h:Heap}{a:Addr}{items:Array Value}(x:a1L h a items):IsTup h a items:=let ⟨o,e,c,r⟩:=x;⟨o,e,(x2V c).1,r⟩
theorem a1L.lt {h:Heap}{a:Addr}{items:Array Value}(x:a1L h a items):a < h.objs.size:=let ⟨_,e,_⟩:=x;x0i e
theorem a1L.new (h:Heap)(items:Array Value):a1L (h.push { cls:=.type "tuple",data:=.seq items }) h.objs.size items:=⟨_,x0y _ rfl,rfl,_,rfl⟩
section
variable (P:x0x)(w:World)
def a0J (H:Hp)(h:Heap)(a:Addr):HO->Prop
 | .lst xs=>xs.length<=x0t/\∃(its:List Value) (n:Nat),Vals xs its/\h.get? a=some { cls:=.type "list",data:=.seq its.toArray n }
 | .tup xs=>xs.length<=x0t/\∃its:List Value,Vals xs its/\a1L h a its.toArray
 | .dK kvs=>kvs.length<=x0t/\(a == x1O)=false/\∃vs,KV kvs vs/\h.DictOf (a0E P w) a vs
 | .dT kvs=>kvs.length<=x0t/\(a == x1O)=false/\∃xs:List (List Key×Addr×Value),
     Paired (fun(p:List Key×V) (q:List Key×Addr×Value)=>p.1=q.1/\H q.2.1=some (.tup (p.1.map kV))/\RelV p.2 q.2.2) kvs xs/\
     ∃o es ep,h.get? a=some o/\o.ExactDict/\o.data=.dict es ep/\es.toList=xs.map (entryOfKey (x1p (a0E P w)))/\(xs.map (·.1)).Nodup
 | .set S n=>h.SetOf (a0E P w) a S n
 | .ins C dx fs=>H dx=some (.own a)/\fs.length<=1000/\dx≠a/\h.get? a=some (PySem.W.instObj C dx)/\
     ∃mA,h.Ns1 dx mA/\(∀f,RelO (fs.lookup f) (mA f))/\PySem.Within mA (fs.map (·.1))
 | .own _=>∃o,h.get? a=some o
 | .xd fs=>∃mA,h.Ns1 a mA/\∀f,RelO (fs.lookup f) (mA f)
 | .rng lo hi=>∃t u v,h.get? a=some { cls:=.type "range",data:=.fields #[.int lo t,.int hi u,.int 1 v] }
 | .frz o u=>h.get? a=some o/\a0J H h a u
 | .tbl ps=>h.get? a=some { cls:=.none,data:=.fields ps }
 | .met f x=>h.get? a=some (x3h (.ref f) (.ref x))
 | .ext φ=>φ h/\(∃o,h.get? a=some o)/\∀h1 h2:Heap,φ h1->(∀o,h1.get? a=some o->h2.get? a=some o)->φ h2
def HOk (H:Hp)(h:Heap):Prop:=∀a o,H a=some o->a0J P w H h a o
end
section
variable {P:x0x}{w:World}{H H':Hp}{h h':Heap}{a:Addr}{o:HO}
theorem a0J.lt (x:a0J P w H h a o):a < h.objs.size:=by
 cases o with
 | lst xs=>obtain⟨_,_,_,_,e⟩:=x;exact x0i e
 | tup xs=>obtain⟨_,_,_,p⟩:=x;exact p.lt
 | dK kvs=>obtain⟨_,_,_,_,o,_,_,e,_⟩:=x;exact x0i e
 | dT kvs=>obtain⟨_,_,_,_,o,_,_,e,_⟩:=x;exact x0i e
 | set S n=>obtain⟨o,_,_,_,e,_⟩:=x;exact x0i e
 | ins C dx fs=>obtain⟨_,_,_,e,_⟩:=x;exact x0i e
 | own y=>obtain⟨_,e⟩:=x;exact x0i e
 | xd fs=>obtain⟨_,⟨_,_,_,e,_⟩,_⟩:=x;exact x0i e
 | rng lo hi=>obtain⟨_,_,_,e⟩:=x;exact x0i e
 | frz ob u=>obtain⟨e,_⟩:=x;exact x0i e
 | tbl ps=>exact x0i (show h.get? a=some _ from x)
 | met f y=>exact x0i (show h.get? a=some _ from x)
 | ext φ=>obtain⟨_,⟨_,e⟩,_⟩:=x;exact x0i e
theorem Paired.mapP {α β:Type}{F G:α->β->Prop}{l₁:List α}{l₂:List β}(h:Paired F l₁ l₂)(f:∀a b,F a b->G a b):Paired G l₁ l₂:=by
 induction h with
 | nil=>exact .nil
 | cons r _ ih=>exact .cons (f _ _ r) ih
theorem Paired.imp' {α β:Type}{F G:α->β->Prop}(f:∀a b,F a b->G a b){l₁:List α}{l₂:List β}(r:Paired F l₁ l₂):Paired G l₁ l₂:=Paired.mapP r f
theorem a0J.stay (x:a0J P w H h a o)(k:∀b u,(b=a\/H b=some (.own a))->h.get? b=some u->h'.get? b=some u)
   (ho:∀b,H b=some (.own a)->H' b=some (.own a)) (ht:∀b xs,H b=some (.tup xs)->H' b=some (.tup xs)):a0J P w H' h' a o:=by
 induction o with
 | lst xs=>obtain⟨z,its,n,r,e⟩:=x;exact⟨z,its,n,r,k _ _ (.inl rfl) e⟩
 | tup xs=>obtain⟨z,its,r,ob,e,c⟩:=x;exact⟨z,its,r,ob,k _ _ (.inl rfl) e,c⟩
 | dK kvs=>obtain⟨z,y,vs,r,ob,es,ep,e,c⟩:=x;exact⟨z,y,vs,r,ob,es,ep,k _ _ (.inl rfl) e,c⟩
 | dT kvs =>
   obtain⟨z,y,xs,r,ob,es,ep,e,c⟩:=x;exact⟨z,y,xs,Paired.mapP r fun p q z=>⟨z.1,ht _ _ z.2.1,z.2.2⟩,ob,es,ep,k _ _ (.inl rfl) e,c⟩
 | set S n=>obtain⟨ob,es,ep,t,e,c⟩:=x;exact⟨ob,es,ep,t,k _ _ (.inl rfl) e,c⟩
 | ins C dx fs =>
   obtain⟨d,z,ne,e,mA,⟨od,es,ep,e2,c⟩,r⟩:=x;exact⟨ho _ d,z,ne,k _ _ (.inl rfl) e,mA,⟨od,es,ep,k _ _ (.inr d) e2,c⟩,r⟩
 | own y=>obtain⟨ob,e⟩:=x;exact⟨ob,k _ _ (.inl rfl) e⟩
 | xd fs=>obtain⟨mA,⟨od,es,ep,e,c⟩,r⟩:=x;exact⟨mA,⟨od,es,ep,k _ _ (.inl rfl) e,c⟩,r⟩
 | rng lo hi=>obtain⟨t,u,v,e⟩:=x;exact⟨t,u,v,k _ _ (.inl rfl) e⟩
 | frz ob u ih=>obtain⟨e,q⟩:=x;exact⟨k _ _ (.inl rfl) e,ih q⟩
 | tbl ps =>
   have e:h.get? a=some { cls:=.none,data:=.fields ps }:=x;show h'.get? a=some { cls:=.none,data:=.fields ps };exact k a _ (.inl rfl) e
 | met f y =>
   have e:h.get? a=some (x3h (.ref f) (.ref y)):=x;show h'.get? a=some (x3h (.ref f) (.ref y));exact k a _ (.inl rfl) e
 | ext φ=>obtain⟨p,⟨o,e⟩,st⟩:=x;exact⟨st _ _ p fun o q=>k _ _ (.inl rfl) q,⟨o,k _ _ (.inl rfl) e⟩,st⟩
theorem HOk.lt (x:HOk P w H h)(e:H a=some o):a < h.objs.size:=(x a o e).lt
theorem HOk.fresh (x:HOk P w H h)(e:h.objs.size<=a):H a=none:=by
 cases q:H a with
 | none=>rfl
 | some u=>exact absurd (x0u (x.lt q) e) (x2p _)
theorem HOk.kept (x:HOk P w H h)(k:∀b u,h.get? b=some u->h'.get? b=some u):HOk P w H h':=fun a o e=>
 (x a o e).stay (fun b u _ q=>k b u q) (fun _ q=>q) fun _ _ q=>q
theorem HOk.laid (x:HOk P w H h)(k:∀b u,h.get? b=some u->h'.get? b=some u)(hp:h.objs.size<=a)(new:a0J P w (upd H a o) h' a o):HOk P w (upd H a o) h':=fun b u e=>by
 have hn:=x.fresh hp
 by_cases hb:b=a
 · subst hb;rw [a0n] at e;cases e;exact new
 · rw [a0j hb] at e;exact(x b u e).stay (fun c v _ q=>k c v q) (fun c q=>by rw [a0j (a0s q hn)];exact q) fun c xs q=>by rw [a0j (a0s q hn)];exact q
end
def Rd (H:Hp)(a:Addr)(u:HO):Prop:=H a=some u\/∃o,H a=some (.frz o u)
theorem Rd.ok {P:x0x}{w:World}{H:Hp}{h:Heap}{a:Addr}{u:HO}(r:Rd H a u)(x:HOk P w H h):a0J P w H h a u:=by
 rcases r with r | ⟨o,r⟩
 · exact x a u r
 · obtain⟨_,q⟩:=x a _ r;exact q
def Mut:Option HO->Prop
 | some (.lst _)=>True
 | some (.dK _)=>True
 | some (.dT _)=>True
 | some (.set _ _)=>True
 | some (.ins _ _ _)=>True
 | some (.ext _)=>True
 | _=>False
section
variable {P:x0x}{w:World}{H:Hp}{h h':Heap}{x e:Addr}{o':HO}
theorem HOk.write (ok:HOk P w H h)(mu:Mut (H x))(he:e=x\/H e=some (.own x))(k:∀b u,b≠e->h.get? b=some u->h'.get? b=some u)(heo:∃u,h'.get? e=some u)
   (new:a0J P w (upd H x o') h' x o'):HOk P w (upd H x o') h':=fun b u q=>by
 have nown:∀c y,H c=some (.own y)->c≠x:=fun c y r z=>by subst z;rw [r] at mu;exact mu
 have ntup:∀c xs,H c=some (.tup xs)->c≠x:=fun c xs r z=>by subst z;rw [r] at mu;exact mu
 by_cases hb:b=x
 · subst hb;rw [a0n] at q;cases q;exact new
 · rw [a0j hb] at q
   by_cases hbe:b=e
   · have q':H b=some (.own x):=by
       rcases he with z | z
       · exact absurd (hbe.trans z) hb
       · rw [hbe];exact z
     rw [q] at q';cases q';obtain⟨v,hv⟩:=heo;exact⟨v,by rw [hbe];exact hv⟩
   · refine(ok b u q).stay (fun c v hc r=>k c v ?_ r) (fun c r=>by rw [a0j (nown c b r)];exact r) fun c xs r=>by rw [a0j (ntup c xs r)];exact r
     rcases hc with rfl | hc
     · exact hbe
     · rintro rfl;rcases he with z | z
       · exact nown c b hc z
       · rw [hc] at z;cases z;exact hb rfl
end
def NS (H:Hp):Prop:=H x1O=none\/∃o u,H x1O=some (.frz o u)
structure Un (fs ex:List Addr)(H H':Hp)(h h':Heap):Prop where
 keep:∀b o,h.get? b=some o->H b=none->b∉fs->b∉ex->h'.get? b=some o
 slot:∀b o,h.get? b=some o->H b=none->b∈fs->b∉ex->∃sl,h'.get? b=some { o with slots:=sl }
 free:∀b o,h.get? b=some o->H b=none->b∉ex->H' b=none
 there:∀b o,h.get? b=some o->b∉ex->∃o',h'.get? b=some o'
 tups:∀b xs,H b=some (.tup xs)->H' b=some (.tup xs)
 frzs:∀b o u,H b=some (.frz o u)->H' b=some (.frz o u)
 tbls:∀b ps,H b=some (.tbl ps)->∃more,H' b=some (.tbl (ps++more))
 sys:NS H->NS H'
section
variable {fs fs' ex ex':List Addr}{H H1 H2:Hp}{h h1 h2 h':Heap}{a x e:Addr}{o:HO}
theorem Un.any (u:Un fs ex H H1 h h1){b:Addr}{ob:Obj}(q:h.get? b=some ob)(n:H b=none)(hx:b∉ex):∃sl,h1.get? b=some { ob with slots:=sl }:=by
 by_cases hb:b∈fs
 · exact u.slot b ob q n hb hx
 · exact⟨ob.slots,u.keep b ob q n hb hx⟩
theorem Un.kept (k:∀b u,h.get? b=some u->h'.get? b=some u):Un fs ex H H h h':=
 ⟨fun b ob q _ _ _=>k b ob q,fun b ob q _ _ _=>⟨ob.slots,k b ob q⟩,fun _ _ _ n _=>n,fun b ob q _=>⟨ob,k b ob q⟩,fun _ _ q=>q,fun _ _ _ q=>q,fun _ ps q=>⟨#[],by rw [q];simp⟩,fun z=>z⟩
theorem Un.refl:Un fs ex H H h h:=Un.kept fun _ _ q=>q
theorem Un.laid (k:∀b u,h.get? b=some u->h'.get? b=some u)(hp:h.objs.size<=a)(hn:H a=none)(hy:x1O < h.objs.size):Un fs ex H (upd H a o) h h' where
 keep:=fun b u q _ _ _=>k b u q
 slot:=fun b u q _ _ _=>⟨u.slots,k b u q⟩
 free:=fun b u q n _=>by rw [a0j (x0o (x0u (x0i q) hp))];exact n
 there:=fun b u q _=>⟨u,k b u q⟩
 tups:=fun b xs q=>by rw [a0j (a0s q hn)];exact q
 frzs:=fun b u xs q=>by rw [a0j (a0s q hn)];exact q
 tbls:=fun b ps q=>⟨#[],by rw [a0j (a0s q hn),q];simp⟩
 sys:=fun z=>by unfold NS;rw [a0j (x0o (x0u hy hp))];exact z
theorem Un.write (mu:Mut (H x))(he:e=x\/H e=some (.own x))(k:∀b u,b≠e->h.get? b=some u->h'.get? b=some u)(heo:∃u,h'.get? e=some u):Un fs ex H (upd H x o) h h':=by
 have hx:∀b,H b=none->b≠x:=fun b n z=>by subst z;rw [n] at mu;exact mu
 have hb:∀b,H b=none->b≠e:=fun b n z=>by
   subst z;rcases he with r | r
   · exact hx b n r
   · rw [n] at r;cases r
 have hm:∀b u,H b=some u->¬Mut (some u)->b≠x:=fun b u q nm z=>by subst z;rw [q] at mu;exact nm mu
 refine⟨fun b u q n _ _=>k b u (hb b n) q,fun b u q n _ _=>⟨u.slots,k b u (hb b n) q⟩,fun b u q n _=>by rw [a0j (hx b n)];exact n,fun b u q _=>?_,
   fun b xs q=>by rw [a0j (hm b _ q fun z=>z)];exact q,fun b u xs q=>by rw [a0j (hm b _ q fun z=>z)];exact q,fun b ps q=>⟨#[],by rw [a0j (hm b _ q fun z=>z),q];simp⟩,fun z=>by
     rcases z with z | ⟨ob,u,z⟩
     · exact .inl (by rw [a0j (hx _ z)];exact z)
     · exact .inr ⟨ob,u,by rw [a0j (hm _ _ z fun z=>z)];exact z⟩⟩
 by_cases hbe:b=e
 · subst hbe;exact heo
 · exact⟨u,k b u hbe q⟩
end
def trk (h:Heap)(H:Hp):List Addr:=(x0g h.objs.size).filter fun a=>(H a).isSome
def hidT (h:Heap)(H:Hp):Heap:=PySem.W.hideAll h (trk h H)
theorem a7k (h:Heap)(H:Hp):(hidT h H).objs.size=h.objs.size:=PySem.W.hideAll_size _ _
theorem a8n {h:Heap}{H:Hp}{b:Addr}{o:Obj}(e:h.get? b=some o)(n:H b=none):(hidT h H).get? b=some o:=
 PySem.W.hideAll_get _ e fun hm=>by
   have q:(H b).isSome=true:=(x1y.mp hm).2;rw [n] at q;simp at q
theorem b0o {h:Heap}{H:Hp}{b:Addr}{o:Obj}(e:(hidT h H).get? b=some o):h.get? b=some o/\H b=none:=by
 have e':h.get? b=some o:=PySem.W.of_hideAll (trk h H) e;refine⟨e',?_⟩;cases q:H b with
 | none=>rfl
 | some x =>
   have hm:b∈trk h H:=x1y.mpr ⟨x2E.mpr (x0i e'),by simp [q]⟩;have z:(hidT h H).get? b=none:=PySem.W.hideAll_none (trk h H) hm;rw [z] at e;cases e
def b0R (g h:Heap)(L:Addr):List (Addr×Obj):=(x0g h.objs.size).filterMap fun a=>if a=L\/(g.get? a).isSome=true then none else(h.get? a).map fun o=>(a,o)
def rest (g h:Heap)(L d:Addr):List (Addr×Obj):=(b0R g h L).filter fun p=>decide (p.1≠d)
structure Mod (K:x0a)(mg:Str->Option Value)(base:Heap):Prop where
 kin:K.In base
 glob:base.Ns x1z mg
 blt:∃mb,base.Ns builtinsNs mb/\∀x:Str,x≠"__name__"->mb x=x0J x
 nolimit:base.NoLimit
structure Cx where
 prog:x0x
 w:World
 K:x0a
 mg:Str->Option Value
 base:Heap
 A:Around
 N:List Str
 s₀:Shared
 H₀:Hp
 env:Env
 outer:List Env
 stack:List Env
 ex:List Addr
 fn:Str->Bool
 calm:Bool
 pn:List (Addr×Obj)
 xe:Value->Shared->Prop
def frs (l:List Env):List Addr:=l.filterMap (·.frame)
abbrev Cx.fs (X:Cx):List Addr:=frs X.outer
def Vis (sc:Scope)(x:Str):Prop:=sc.names.lookup x=some .local\/sc.names.lookup x=some .cell\/sc.names.lookup x=some .free
def Loc (sc:Scope)(x:Str):Prop:=sc.names.lookup x=some .local\/sc.names.lookup x=some .cell
def Look (env:Env)(h:Heap)(m:Str->Option Value)(x:Str)(u:Value):Prop:=
 (env.kindOf x=some .local/\m x=some u)\/((env.kindOf x=some .cell\/env.kindOf x=some .free)/\∃c,env.cells.lookup x=some c/\h.IsCell c (some u))
structure Cx.Ok (X:Cx):Prop where
 mod:Mod X.K X.mg X.base
 kind:X.env.scope.kind=.function
 glob:X.env.globals=x1z
 blt:X.env.builtins=builtinsNs
 above:X.s₀.heap.objs.size<=X.env.locals
 inj:∀x y c,X.env.cells.lookup x=some c->X.env.cells.lookup y=some c->x=y
 has:∀x,(X.env.kindOf x=some .cell\/X.env.kindOf x=some .free)->∃c,X.env.cells.lookup x=some c
 cab:∀x c,X.fn x=true->X.env.cells.lookup x=some c->X.s₀.heap.objs.size<=c
 hd:X.calm=true->X.A.handled=none
 frames:X.A.frames=some X.stack
 stk:X.stack=X.outer\/(X.stack=X.env::X.outer/\X.env.frame=some X.env.locals)
 exf:∀b∈X.ex,b≠X.env.locals/\∀x c,X.env.cells.lookup x=some c->c≠b
 bs:∀b o,X.base.get? b=some o->X.s₀.heap.get? b=some o/\X.H₀ b=none
 bsz:X.base.objs.size<=X.s₀.heap.objs.size
 noex:∀b o,X.base.get? b=some o->b∉X.ex
 exfs:∀b∈X.ex,b∉X.fs
 funs:X.s₀.heap.FunFrames X.base X.outer
 frf:∀b∈X.fs,X.H₀ b=none
 nos:NS X.H₀
structure Inv (X:Cx)(pins:List (Addr×Obj))(σ:List (Option V))(H:Hp)(s:Shared):Prop where
 ok:X.Ok
 os:s.os=X.s₀.os
 bare:AllBare s.gens
 base:Un X.fs X.ex X.H₀ H X.s₀.heap s.heap
 loc:∃m,s.heap.Ns X.env.locals m/\∀(i:Nat) (x:Str) (v:V),X.N[i]?=some x->σ[i]?=some (some v)->Vis X.env.scope x->∃u,RelV v u/\Look X.env s.heap m x u
 cell:∀x c,X.env.cells.lookup x=some c->∃v,s.heap.IsCell c v
 free:H X.env.locals=none
 freeC:∀x c,X.env.cells.lookup x=some c->H c=none
 pin:∀p∈X.pn++pins,s.heap.get? p.1=some p.2/\H p.1=none/\p.1≠X.env.locals/\p.1∉X.fs/\∀v,p.2.data≠.cell v
 hok:HOk X.prog X.w H s.heap
 len:σ.length=X.N.length
section
variable {X:Cx}{pins:List (Addr×Obj)}{σ:List (Option V)}{H H':Hp}{s:Shared}{h':Heap}
variable {g':Array GenState}{i t':Nat}{d':Drawn}{ch:List Addr}{M:Model}{v:V}
theorem Cx.Ok.nofr (ok:X.Ok){b:Addr}{o:Obj}(e:X.base.get? b=some o):b∉X.fs:=fun hb=>by
 have:=(ok.funs.mem hb).1;rw [e] at this;cases this
theorem Inv.bs (I:Inv X pins σ H s):∀b o,X.base.get? b=some o->s.heap.get? b=some o/\H b=none:=fun b o e=>
 ⟨I.base.keep b o (I.ok.bs b o e).1 (I.ok.bs b o e).2 (I.ok.nofr e) (I.ok.noex b o e),I.base.free b o (I.ok.bs b o e).1 (I.ok.bs b o e).2 (I.ok.noex b o e)⟩
theorem Inv.bk (I:Inv X pins σ H s):∀b o,X.base.get? b=some o->s.heap.get? b=some o:=fun b o e=>(I.bs b o e).1
theorem Inv.mod (I:Inv X pins σ H s):Mod X.K X.mg X.base:=I.ok.mod
theorem Inv.nos (I:Inv X pins σ H s):NS H:=I.base.sys I.ok.nos
theorem Inv.bigS (I:Inv X pins σ H s):x1O < s.heap.objs.size:=Nat.lt_trans (by decide) (I.mod.glob.keeps I.bk).lt
theorem Inv.kIn (I:Inv X pins σ H s):X.K.In s.heap:=I.ok.mod.kin.keeps I.bk
theorem Inv.lt (I:Inv X pins σ H s):X.env.locals < s.heap.objs.size:=let ⟨_,hn,_⟩:=I.loc;hn.lt
theorem Inv.sz (I:Inv X pins σ H s):X.s₀.heap.objs.size<=s.heap.objs.size:=x0U I.ok.above (Nat.le_of_lt I.lt)
theorem Inv.nofs (I:Inv X pins σ H s){a:Addr}(h:s.heap.objs.size<=a):a∉X.fs:=fun hb=>by
 obtain⟨_,o,ho,_⟩:=I.ok.funs.mem hb;exact absurd (x0u (x0i ho) (x0U I.sz h)) (x2p _)
theorem Inv.cne (I:Inv X pins σ H s):∀x c,X.env.cells.lookup x=some c->c≠X.env.locals:=fun x c e z=>by
 obtain⟨v,o,ho,hd⟩:=I.cell x c e;obtain⟨m,⟨o',es,ep,ho',hd',_⟩,_⟩:=I.loc;rw [z,ho'] at ho;cases ho;rw [hd'] at hd;cases hd
theorem Inv.funs (I:Inv X pins σ H s):s.heap.FunFrames X.base X.outer:=by
 have all:∀(l:List Env),(∀b∈frs l,b∈X.fs)->X.s₀.heap.FunFrames X.base l->s.heap.FunFrames X.base l:=by
   intro l
   induction l with
   | nil=>intro _ _;trivial
   | cons env r ih =>
     intro hs hl;obtain⟨hk,⟨L,o,hf,hn,ho,hd⟩,hr⟩:=hl;have hL:L∈X.fs:=hs L (by unfold frs;rw [x2W,hf];exact x0f);obtain⟨sl,e⟩:=I.base.slot L o ho (I.ok.frf L hL) hL fun z=>I.ok.exfs L z hL;exact⟨hk,⟨L,_,hf,hn,e,hd⟩,ih (fun b hb=>hs b (by unfold frs;rw [x2W,hf];exact x0c _ hb)) hr⟩
 exact all X.outer (fun _ hb=>hb) I.ok.funs
theorem Inv.stack (I:Inv X pins σ H s):s.heap.FunFrames X.base X.stack:=by
 rcases I.ok.stk with e | ⟨e,hf⟩
 · rw [e];exact I.funs
 · rw [e];obtain⟨m,hn,_⟩:=I.loc;refine .cons (by rw [I.ok.kind];decide) hf hn ?_ I.funs;exact Heap.get?_none_of_le (x0U I.ok.bsz I.ok.above)
theorem Inv.stkSub (I:Inv X pins σ H s):∀b∈frs X.stack,b∈X.env.locals::X.fs:=fun b hb=>by
 rcases I.ok.stk with e | ⟨e,hf⟩
 · rw [e] at hb;exact x0c _ hb
 · rw [e] at hb;unfold frs at hb;rw [x2W,hf] at hb;exact hb
theorem Inv.stkFree (I:Inv X pins σ H s):∀b∈frs X.stack,H b=none:=fun b hb=>by
 rcases x0q.mp (I.stkSub b hb) with e | hb
 · rw [e];exact I.free
 · obtain⟨_,o,ho,_⟩:=I.ok.funs.mem hb;exact I.base.free b o ho (I.ok.frf b hb) fun z=>I.ok.exfs b z hb
theorem Inv.step (I:Inv X pins σ H s)
   (hch:∀b∈ch,(b∈X.ex\/X.s₀.heap.objs.size<=b)/\b≠X.env.locals/\(∀x c,X.env.cells.lookup x=some c->c≠b)/\∀p∈X.pn++pins,p.1≠b)
   (keep:∀b o,b≠X.env.locals->b∉X.fs->b∉ch->s.heap.get? b=some o->H b=none->h'.get? b=some o)
   (slot:∀b o,b≠X.env.locals->b∈X.fs->b∉ch->s.heap.get? b=some o->H b=none->∃sl,h'.get? b=some { o with slots:=sl }) (free:∀b o,b∉ch->s.heap.get? b=some o->H b=none->H' b=none)
   (there:∀b o,b∉ch->s.heap.get? b=some o->∃o',h'.get? b=some o')
   (tups:∀b xs,H b=some (.tup xs)->H' b=some (.tup xs)) (frzs:∀b o u,H b=some (.frz o u)->H' b=some (.frz o u)) (tbls:∀b ps,H b=some (.tbl ps)->∃more,H' b=some (.tbl (ps++more))) (sys:NS H->NS H')
   (ns:∀m,s.heap.Ns X.env.locals m->h'.Ns X.env.locals m) (hok:HOk X.prog X.w H' h') (hg:AllBare g') :
   Inv X pins σ H' { s with heap:=h',gens:=g',drawn:=d',toks:=t' }:=by
 have neL:∀b o,X.s₀.heap.get? b=some o->b≠X.env.locals:=fun b o e=>x0o (x0u (x0i e) I.ok.above)
 have neC:∀b o,X.s₀.heap.get? b=some o->b∉X.ex->b∉ch:=fun b o e hx hb=>by
   rcases(hch b hb).1 with z | z
   · exact hx z
   · exact absurd (x0u (x0i e) z) (x2p _)
 have cellK:∀x c,X.env.cells.lookup x=some c->∀v,s.heap.IsCell c v->h'.IsCell c v:=fun x c e v ⟨o,ho,hd⟩=>by
   have nch:c∉ch:=fun z=>(hch c z).2.2.1 x c e rfl
   by_cases hc:c∈X.fs
   · obtain⟨sl,q⟩:=slot c o (I.cne x c e) hc nch ho (I.freeC x c e);exact⟨_,q,hd⟩
   · exact⟨o,keep c o (I.cne x c e) hc nch ho (I.freeC x c e),hd⟩
 refine⟨I.ok,I.os,hg,⟨fun b o e n hb hx=>?_,fun b o e n hb hx=>?_,fun b o e n hx=>?_,fun b o e hx=>?_,fun b xs e=>tups b xs (I.base.tups b xs e),fun b o xs e=>frzs b o xs (I.base.frzs b o xs e),fun b ps e=>?_,fun z=>sys (I.base.sys z)⟩,?_,fun x c e=>?_,?_,fun x c e=>?_,fun p hp=>?_,hok,I.len⟩
 · exact keep b o (neL b o e) hb (neC b o e hx) (I.base.keep b o e n hb hx) (I.base.free b o e n hx)
 · obtain⟨sl,e1⟩:=I.base.slot b o e n hb hx;obtain⟨sl',e2⟩:=slot b _ (neL b o e) hb (neC b o e hx) e1 (I.base.free b o e n hx);exact⟨sl',e2⟩
 · obtain⟨o',e1⟩:=I.base.there b o e hx;exact free b o' (neC b o e hx) e1 (I.base.free b o e n hx)
 · obtain⟨o',e1⟩:=I.base.there b o e hx;exact there b o' (neC b o e hx) e1
 · obtain⟨m1,e1⟩:=I.base.tbls b ps e;obtain⟨m2,e2⟩:=tbls b _ e1;exact⟨m1++m2,by rw [e2,Array.append_assoc]⟩
 · obtain⟨m,hn,hl⟩:=I.loc;refine⟨m,ns m hn,fun i x v e1 e2 e3=>?_⟩;obtain⟨u,r,l⟩:=hl i x v e1 e2 e3;refine⟨u,r,?_⟩;rcases l with l | ⟨k,c,e,z⟩
   · exact .inl l
   · exact .inr ⟨k,c,e,cellK x c e _ z⟩
 · obtain⟨v,z⟩:=I.cell x c e;exact⟨v,cellK x c e v z⟩
 · obtain⟨m,⟨o,_,_,ho,_⟩,_⟩:=I.loc;exact free _ o (fun z=>(hch _ z).2.1 rfl) ho I.free
 · obtain⟨v,o,ho,hd⟩:=I.cell x c e;exact free c o (fun z=>(hch c z).2.2.1 x c e rfl) ho (I.freeC x c e)
 · obtain⟨e,n,ne,nf,d⟩:=I.pin p hp;have nch:p.1∉ch:=fun z=>(hch p.1 z).2.2.2 p hp rfl;exact⟨keep p.1 p.2 ne nf nch e n,free p.1 p.2 nch e n,ne,nf,d⟩
theorem Inv.un (I:Inv X pins σ H s)(u:Un X.fs [] H H' s.heap h')(hok:HOk X.prog X.w H' h'):Inv X pins σ H' { s with heap:=h',toks:=t' }:=by
 obtain⟨m,⟨o,es,ep,ho,r⟩,_⟩:=id I.loc;obtain⟨sl,hL⟩:=u.any ho I.free (by simp)
 exact I.step (g':=s.gens) (d':=s.drawn) (ch:=[]) (fun _ z=>nomatch z) (fun b o _ hb _ e n=>u.keep b o e n hb (by simp)) (fun b o _ hb _ e n=>u.slot b o e n hb (by simp)) (fun b o _ e n=>u.free b o e n (by simp)) (fun b o _ e=>u.there b o e (by simp)) u.tups u.frzs u.tbls u.sys (fun m' hm=>by
   obtain⟨o',es',ep',ho',r'⟩:=hm;rw [ho] at ho';cases ho'
   exact⟨_,es',ep',hL,r'⟩) hok I.bare
theorem Inv.call (I:Inv X pins σ H s)(u:Un (frs X.stack) ch H H' s.heap h')(hok:HOk X.prog X.w H' h')(hg:AllBare g')
   (hch:∀b∈ch,(b∈X.ex\/X.s₀.heap.objs.size<=b)/\b≠X.env.locals/\(∀x c,X.env.cells.lookup x=some c->c≠b)/\∀p∈X.pn++pins,p.1≠b) :
   Inv X pins σ H' { s with heap:=h',gens:=g',drawn:=d',toks:=t' }:=by
 obtain⟨m,⟨o,es,ep,ho,r⟩,_⟩:=id I.loc;obtain⟨sl,hL⟩:=u.any ho I.free fun z=>(hch _ z).2.1 rfl
 exact I.step (ch:=ch) hch (fun b o hL hb hc e n=>u.keep b o e n (fun z=>(x0q.mp (I.stkSub b z)).elim hL hb) hc) (fun b o _ _ hc e n=>u.any e n hc) (fun b o hc e n=>u.free b o e n hc) (fun b o hc e=>u.there b o e hc) u.tups u.frzs u.tbls u.sys (fun m' hm=>by
   obtain⟨o',es',ep',ho',r'⟩:=hm;rw [ho] at ho';cases ho'
   exact⟨_,es',ep',hL,r'⟩) hok hg
theorem Inv.turned {it:Addr}(I:Inv X pins σ H s)(k:∀b o,b≠it->s.heap.get? b=some o->h'.get? b=some o)(hn:H it=none)(hL:it≠X.env.locals)
   (h1:it∈X.ex\/X.s₀.heap.objs.size<=it) (h2:∀x c,X.env.cells.lookup x=some c->c≠it) (h3:∀p∈X.pn++pins,p.1≠it):Inv X pins σ H { s with heap:=h',toks:=t' }:=by
 have nit:∀b u,H b=some u->b≠it:=fun b u e z=>by rw [z,hn] at e;cases e
 refine I.step (g':=s.gens) (d':=s.drawn) (ch:=[it]) (fun b hb=>?_) (fun b o _ _ hc e _=>k b o (fun z=>hc (by simp [z])) e) (fun b o _ _ hc e _=>⟨o.slots,k b o (fun z=>hc (by simp [z])) e⟩) (fun _ _ _ _ n=>n)
   (fun b o hc e=>⟨o,k b o (fun z=>hc (by simp [z])) e⟩) (fun _ _ e=>e) (fun _ _ _ e=>e) (fun b ps e=>⟨#[],by rw [e];simp⟩) (fun z=>z) (fun m hm=>?_) (fun b u e=>?_) I.bare
 · have e:b=it:=by simpa using hb
   subst e;exact⟨h1,hL,h2,h3⟩
 · obtain⟨o,es,ep,ho,r⟩:=hm;exact⟨o,es,ep,k _ o (Ne.symm hL) ho,r⟩
 · refine(I.hok b u e).stay (fun c v hc q=>k c v ?_ q) (fun _ q=>q) fun _ _ q=>q;rcases hc with z | z
   · rw [z];exact nit b u e
   · exact nit c _ z
theorem Inv.tok (I:Inv X pins σ H s)(t:Nat):Inv X pins σ H { s with toks:=t }:=I.un (h':=s.heap) (t':=t) Un.refl I.hok
theorem Inv.kept (I:Inv X pins σ H s)(k:∀b u,s.heap.get? b=some u->h'.get? b=some u):Inv X pins σ H { s with heap:=h',toks:=t' }:=I.un (Un.kept k) (I.hok.kept k)
theorem Inv.laid {a:Addr}{o:HO}(I:Inv X pins σ H s)(k:∀b u,s.heap.get? b=some u->h'.get? b=some u)(hp:s.heap.objs.size<=a)(new:a0J X.prog X.w (upd H a o) h' a o) :
   Inv X pins σ (upd H a o) { s with heap:=h',toks:=t' }:=I.un (Un.laid k hp (I.hok.fresh hp) I.bigS) (I.hok.laid k hp new)
theorem Inv.write {x e:Addr}{o:HO}(I:Inv X pins σ H s)(mu:Mut (H x))(he:e=x\/H e=some (.own x))(k:∀b u,b≠e->s.heap.get? b=some u->h'.get? b=some u)(heo:∃u,h'.get? e=some u)
   (new:a0J X.prog X.w (upd H x o) h' x o):Inv X pins σ (upd H x o) { s with heap:=h',toks:=t' }:=I.un (Un.write mu he k heo) (I.hok.write mu he k heo new)
theorem Inv.pins_of {pins':List (Addr×Obj)}(I:Inv X pins σ H s)(h:∀p∈pins',s.heap.get? p.1=some p.2/\H p.1=none/\p.1≠X.env.locals/\p.1∉X.fs/\∀v,p.2.data≠.cell v):Inv X pins' σ H s:=
 ⟨I.ok,I.os,I.bare,I.base,I.loc,I.cell,I.free,I.freeC,fun p hp=>(x1c.mp hp).elim (fun z=>I.pin p (x0W _ z)) (h p),I.hok,I.len⟩
theorem nodup_ix {N:List Str}(hN:N.Nodup){j:Nat}{x:Str}(a:N[i]?=some x)(b:N[j]?=some x):i=j:=by
 obtain⟨h1,e1⟩:=x0n.mp a;obtain⟨h2,e2⟩:=x0n.mp b;exact(List.getElem_inj hN).mp (e1.trans e2.symm)
theorem a3E {A:Around}{E:Value->Shared->Prop}{x:Str}{u:Value}{Q:Unit->Shared->Prop}(I:Inv X pins σ H s)(hN:X.N.Nodup)(hi:X.N[i]?=some x)(hx:Loc X.env.scope x)(r:RelV v u)
   (h:∀s',Inv X pins (σ.set i (some v)) H s'->(∃a,Heap.SameBut a s.heap s'.heap/\(a=X.env.locals\/X.env.cells.lookup x=some a))->Q () s') (hf:X.fn x=true\/X.env.scope.names.lookup x=some .local:=by first | exact .inl rfl | exact .inr rfl | assumption):wpAny M A (storeName X.env x u) Q E s:=by
 obtain⟨m,hn,hl⟩:=id I.loc;have hcls:(X.env.scope.kind == .class || (X.env.scope.kind == .module && X.env.locals != X.env.globals))=false:=by rw [I.ok.kind];rfl
 have hiσ:i < σ.length:=by rw [I.len];exact(x0n.mp hi).1
 have cne:=I.cne
 have tracked:∀{a:Addr} {h':Heap},(∃o,s.heap.get? a=some o/\H a=none)->Heap.SameBut a s.heap h'->HOk X.prog X.w H h':=fun {a h'} ha hs b ob e=>by
   obtain⟨_,_,hfree⟩:=ha;refine(I.hok b ob e).stay (fun c w' hc q=>(hs.2 c ?_).trans q) (fun _ q=>q) fun _ _ q=>q;rintro rfl;rcases hc with rfl | hc
   · rw [hfree] at e;cases e
   · rw [hfree] at hc;cases hc
 rcases hx with hk | hk
 · refine wpAny_storeName_local hk hn (fun h' hn' hs=>?_) hcls;obtain⟨oL,_,_,hoL,_⟩:=id hn;refine h _ ⟨I.ok,I.os,I.bare,⟨fun b o e n hb hx=>?_,fun b o e n hb hx=>?_,I.base.free,fun b o e hx=>?_,I.base.tups,I.base.frzs,I.base.tbls,I.base.sys⟩,⟨_,hn',fun j y v' e1 e2 e3=>?_⟩,fun y c e=>?_,I.free,I.freeC,fun p hp=>?_,tracked ⟨oL,hoL,I.free⟩ hs,by simpa using I.len⟩ ⟨_,hs,.inl rfl⟩
   · exact(hs.2 b (x0o (x0u (x0i e) I.ok.above))).trans (I.base.keep b o e n hb hx)
   · obtain⟨sl,e1⟩:=I.base.slot b o e n hb hx;exact⟨sl,(hs.2 b (x0o (x0u (x0i e) I.ok.above))).trans e1⟩
   · obtain⟨o',e1⟩:=I.base.there b o e hx;exact⟨o',(hs.2 b (x0o (x0u (x0i e) I.ok.above))).trans e1⟩
   · by_cases hj:j=i
     · subst hj;rw [hi] at e1;cases e1;rw [x0m hiσ] at e2;cases e2;exact⟨u,r,.inl ⟨hk,by simp⟩⟩
     · rw [x0r (Ne.symm hj)] at e2;obtain⟨u',r',q⟩:=hl j y v' e1 e2 e3;refine⟨u',r',?_⟩;rcases q with⟨k,e⟩ | ⟨k,c,e,z⟩
       · refine .inl ⟨k,?_⟩;have:y≠x:=fun e=>hj (nodup_ix hN e1 (e▸hi));simp [this,e]
       · exact .inr ⟨k,c,e,z.sameBut hs (cne y c e)⟩
   · obtain⟨w',z⟩:=I.cell y c e;exact⟨w',z.sameBut hs (cne y c e)⟩
   · obtain⟨e,n,ne,nf,d⟩:=I.pin p hp;exact⟨(hs.2 p.1 ne).trans e,n,ne,nf,d⟩
 · have hfn:X.fn x=true:=by
     rcases hf with z | z
     · exact z
     · rw [z] at hk;cases hk
   obtain⟨c,hc⟩:=I.ok.has x (.inl hk);obtain⟨w',z⟩:=I.cell x c hc;refine wpAny_storeName_cell I.ok.kind hk hc z (fun h' hc' hs=>?_);obtain⟨oc,hoc,hocd⟩:=id z;refine h { s with heap:=h' } ⟨I.ok,I.os,I.bare,⟨fun b o e n hb hx=>?_,fun b o e n hb hx=>?_,I.base.free,fun b o e hx=>?_,I.base.tups,I.base.frzs,I.base.tbls,I.base.sys⟩,⟨m,hn.sameBut hs (Ne.symm (cne x c hc)),fun j y v' e1 e2 e3=>?_⟩,fun y c' e=>?_,I.free,I.freeC,fun p hp=>?_,tracked ⟨oc,hoc,I.freeC x c hc⟩ hs,by simpa using I.len⟩ ⟨c,hs,.inr hc⟩
   · exact(hs.2 b (x0o (x0u (x0i e) (I.ok.cab x c hfn hc)))).trans (I.base.keep b o e n hb hx)
   · obtain⟨sl,e1⟩:=I.base.slot b o e n hb hx;exact⟨sl,(hs.2 b (x0o (x0u (x0i e) (I.ok.cab x c hfn hc)))).trans e1⟩
   · obtain⟨o',e1⟩:=I.base.there b o e hx;exact⟨o',(hs.2 b (x0o (x0u (x0i e) (I.ok.cab x c hfn hc)))).trans e1⟩
   · by_cases hj:j=i
     · subst hj;rw [hi] at e1;cases e1;rw [x0m hiσ] at e2;cases e2;exact⟨u,r,.inr ⟨.inl hk,c,hc,hc'⟩⟩
     · rw [x0r (Ne.symm hj)] at e2;obtain⟨u',r',q⟩:=hl j y v' e1 e2 e3;refine⟨u',r',?_⟩;rcases q with q | ⟨k,c',e,z'⟩
       · exact .inl q
       · refine .inr ⟨k,c',e,z'.sameBut hs ?_⟩;rintro rfl;exact hj (nodup_ix hN e1 (I.ok.inj _ _ _ e hc▸hi))
   · by_cases hcc:c'=c
     · subst hcc;exact⟨_,hc'⟩
     · obtain⟨w2,z2⟩:=I.cell y c' e;exact⟨w2,z2.sameBut hs hcc⟩
   · obtain⟨e,n,ne,nf,d⟩:=I.pin p hp;refine⟨(hs.2 p.1 ?_).trans e,n,ne,nf,d⟩;intro q;rw [q,hoc] at e;have q':oc=p.2:=x0L e;exact d w' (by rw [<- q'];exact hocd)
theorem a1b {A:Around}{E:Value->Shared->Prop}{x:Str}{u:Value}{Q:Unit->Shared->Prop}(I:Inv X pins σ H s)(hN:X.N.Nodup)(hi:X.N[i]?=some x)(hx:Loc X.env.scope x)(r:RelV v u)
   (h:∀s',Inv X pins (σ.set i (some v)) H s'->Q () s') (hf:X.fn x=true\/X.env.scope.names.lookup x=some .local:=by first | exact .inl rfl | exact .inr rfl | assumption):wpAny M A (storeName X.env x u) Q E s:=
 a3E I hN hi hx r (fun s' I' _=>h s' I') hf
end
abbrev XK:=Value->Option Addr->Hp->Prop
abbrev St:=List (Option V)
abbrev VK:=V->Hp->Prop
abbrev TE:=St->Hp->VK->Prop
abbrev TT:=St->Hp->(Bool->Hp->Prop)->Prop
abbrev TA:=St->Hp->(List V->Hp->Prop)->Prop
structure Ends where
 nx:St->Hp->Prop
 rt:VK
 bk:St->Hp->Prop:=fun _ _=>False
 ct:St->Hp->Prop:=fun _ _=>False
abbrev TS:=Ends->St->Hp->Prop
def EP (X:Cx)(pins:List (Addr×Obj))(σ:St)(Q:VK)(u:Value)(s':Shared):Prop:=∃v H',Inv X pins σ H' s'/\RelV v u/\Q v H'
def TP (X:Cx)(pins:List (Addr×Obj))(σ:St)(Q:Bool->Hp->Prop)(b:Bool)(s':Shared):Prop:=∃H',Inv X pins σ H' s'/\Q b H'
def AP (X:Cx)(pins:List (Addr×Obj))(σ:St)(Q:List V->Hp->Prop)(us:List Value)(s':Shared):Prop:=∃vs H',Inv X pins σ H' s'/\Vals vs us/\Q vs H'
def SP (X:Cx)(pins:List (Addr×Obj))(D:Ends)(f:Flow)(s':Shared):Prop:=
 match f with
 | .next=>∃σ' H',Inv X pins σ' H' s'/\D.nx σ' H'
 | .brk=>∃σ' H',Inv X pins σ' H' s'/\D.bk σ' H'
 | .cont=>∃σ' H',Inv X pins σ' H' s'/\D.ct σ' H'
 | .ret u=>∃v σ' H',Inv X pins σ' H' s'/\RelV v u/\D.rt v H'
def PE (X:Cx)(e:Expr)(t:TE):Prop:=
 ∀(pins:List (Addr×Obj)) (s:Shared) (σ:St) (H:Hp) (Q:VK),Inv X pins σ H s->t σ H Q->wpAny (model X.prog X.w) X.A (eval e X.env) (EP X pins σ Q) X.xe s
def PT (X:Cx)(e:Expr)(t:TT):Prop:=
 ∀(pins:List (Addr×Obj)) (s:Shared) (σ:St) (H:Hp) (Q:Bool->Hp->Prop),Inv X pins σ H s->t σ H Q->wpAny (model X.prog X.w) X.A (isTrue e X.env (eval e X.env)) (TP X pins σ Q) X.xe s
def PW (X:Cx)(e:Expr)(t:TT):Prop:=
 ∀(whole:Sem Value) (pins:List (Addr×Obj)) (s:Shared) (σ:St) (H:Hp) (Q:Bool->Hp->Prop),Inv X pins σ H s->t σ H Q->wpAny (model X.prog X.w) X.A (isTrue e X.env whole) (TP X pins σ Q) X.xe s
theorem PW.pt {X:Cx}{e:Expr}{t:TT}(h:PW X e t):PT X e t:=h _
def PA (X:Cx)(es:List Expr)(t:TA):Prop:=
 ∀(pos:Pos) (pins:List (Addr×Obj)) (s:Shared) (σ:St) (H:Hp) (Q:List V->Hp->Prop),Inv X pins σ H s->t σ H Q->wpAny (model X.prog X.w) X.A (spliced (backTo pos (x0P es X.env))) (AP X pins σ Q) X.xe s
def PS (X:Cx)(st:Stmt)(t:TS):Prop:=
 ∀(pins:List (Addr×Obj)) (s:Shared) (σ:St) (H:Hp) (D:Ends),Inv X pins σ H s->t D σ H->wpAny (model X.prog X.w) X.A (exec st X.env) (SP X pins D) X.xe s
def PSs (X:Cx)(st:List Stmt)(t:TS):Prop:=
 ∀(pins:List (Addr×Obj)) (s:Shared) (σ:St) (H:Hp) (D:Ends),Inv X pins σ H s->t D σ H->wpAny (model X.prog X.w) X.A (execs st X.env) (SP X pins D) X.xe s
theorem thn {α:Type}{t:Sem α}{Q Q':α->Shared->Prop}{M:Model}{A:Around}{E:Value->Shared->Prop}{s:Shared}(h:wpAny M A t Q E s)(hQ:∀a s,Q a s->Q' a s):wpAny M A t Q' E s:=x0K h hQ fun _ _ x=>x
section
variable {X:Cx}
def tVar (i:Nat):TE:=fun σ H Q=>∃v,σ[i]?=some (some v)/\Q v H
def tC (v:V):TE:=fun _ H Q=>Q v H
theorem a8O {i:Nat}{x:Str}{pos:Pos}(hN:X.N[i]?=some x)(hv:Vis X.env.scope x)(hd:(x == ("__debug__":Str))=false:=by decide)(hcd:(x == ("__classdict__":Str))=false:=by decide):PE X (.Name x pos) (tVar i):=by
 intro pins s σ H Q I h;obtain⟨v,e,h⟩:=h;obtain⟨m,hn,hl⟩:=I.loc;obtain⟨u,r,l⟩:=hl i x v hN e hv;have fin:EP X pins σ Q u s:=⟨v,H,I,r,h⟩;rcases l with⟨hk,hm⟩ | ⟨hk,c,hc,hcell⟩
 · exact wpAny_Name (wpAny_loadName_local I.ok.kind hk hn hm fin) hd
 · rcases hk with hk | hk
   · exact wpAny_Name (wpAny_loadName_cell I.ok.kind hk hc hcell fin) hd
   · exact wpAny_Name (wpAny_loadName_free I.ok.kind hk hc hcell fin hcd) hd
theorem a0q {i j pos}:PE X (.Constant (.int i) j pos) (tC (.int i)):=fun _ _ _ H _ I h=>wpAny_Constant_int ⟨.int i,H,I.tok _,⟨_,rfl⟩,h⟩
theorem pe_bl {b j pos}:PE X (.Constant (.bool b) j pos) (tC (.bl b)):=fun _ _ _ H _ I h=>Constant_bool ⟨.bl b,H,I,rfl,h⟩
theorem pe_str {x j pos}:PE X (.Constant (.str x) j pos) (tC (.str x)):=fun _ _ _ H _ I h=>Calls.Constant_str ⟨.str x,H,I.tok _,⟨_,rfl⟩,h⟩
def Gl (X:Cx)(x:Str):Prop:=X.env.kindOf x=some .globalImplicit
theorem b0s {E:Value->Shared->Prop}{pins:List (Addr×Obj)}{s:Shared}{σ:St}{H:Hp}{x:Str}{u:Value}{pos:Pos}{Q:Value->Shared->Prop}(I:Inv X pins σ H s)(hg:Gl X x)(hm:X.mg x=some u)(h:Q u s)
   (hd:(x == ("__debug__":Str))=false:=by decide):wpAny (model X.prog X.w) X.A (eval (.Name x pos) X.env) Q E s:=
 Calls.Name_function_global I.ok.kind hg (Calls.loadGlobal_global (by rw [I.ok.glob];exact I.mod.glob.keeps I.bk) hm h) hd
theorem a1Z {E:Value->Shared->Prop}{pins:List (Addr×Obj)}{s:Shared}{σ:St}{H:Hp}{x:Str}{u:Value}{pos:Pos}{Q:Value->Shared->Prop}(I:Inv X pins σ H s)(hg:Gl X x)(hm:X.mg x=none)(hv:x0J x=some u)(h:Q u s)
   (hn:x≠"__name__":=by decide) (hd:(x == ("__debug__":Str))=false:=by decide):wpAny (model X.prog X.w) X.A (eval (.Name x pos) X.env) Q E s:=by
 obtain⟨mb,h1,h2⟩:=I.mod.blt;exact Calls.Name_function_global I.ok.kind hg (Calls.loadGlobal_builtin (by rw [I.ok.glob];exact I.mod.glob.keeps I.bk) hm (by rw [I.ok.blt];exact h1.keeps I.bk) ((h2 x hn).trans hv) h) hd
theorem b0g {x:Str}{v:V}{u:Value}{pos:Pos}(hg:Gl X x)(hm:X.mg x=none)(hv:x0J x=some u)(r:RelV v u)(hn:x≠"__name__":=by decide)(hd:(x == ("__debug__":Str))=false:=by decide):PE X (.Name x pos) (tC v):=
 fun _ _ _ H _ I h=>a1Z I hg hm hv ⟨v,H,I,r,h⟩ hn hd
variable {a b:Expr}{ta tb:TE}{pos:Pos}
def PC (X:Cx)(op:CmpOp)(a b:Expr)(t:TE):Prop:=
 ∀ (pins : List (Addr × Obj)) (s : Shared) (σ : St) (H : Hp) (Q : VK), Inv X pins σ H s -> t σ H Q ->
   wpAny (model X.prog X.w) X.A (eval a X.env) (fun v s₁=>wpAny (model X.prog X.w) X.A (eval b X.env) (fun u s₂=>wpAny (model X.prog X.w) X.A (x2K op v u) (EP X pins σ Q) X.xe s₂) X.xe s₁) X.xe s
def tB (t:TE):TT:=fun σ H Q=>t σ H fun x H1=>∃c,x=.bl c/\Q c H1
theorem pt_val {e:Expr}{t:TE}(h:PE X e t)(he:∀whole,isTrue e X.env whole=(do let v ← whole;standAt e.pos;x3p [v] (truthy v)):=by intro _;rfl):PT X e (tB t):=by
 intro pins s σ H Q I hw;refine isTrue_plain (thn (h pins s σ H _ I hw) fun v s1 ⟨x,H1,I1,r1,q1⟩=>?_) (he _);obtain⟨d,rfl,q⟩:=q1;cases r1;exact x2C ⟨H1,I1,q⟩
variable {tA tB':TT}{rest:List Expr}
def tAnd (t u:TT):TT:=fun σ H Q=>t σ H fun c H1=>if c=true then u σ H1 Q else Q false H1
def tOr (t u:TT):TT:=fun σ H Q=>t σ H fun c H1=>if c=true then Q true H1 else u σ H1 Q
def tNot (t:TT):TT:=fun σ H Q=>t σ H fun c H1=>Q (!c) H1
theorem a9T (ha:PT X a tA):PW X (.BoolOp .And [a] pos) tA:=by
 intro wh pins s σ H Q I h;refine isTrue_and (thn (ha pins s σ H Q I h) fun c s1 e=>?_);cases c with
 | true=>exact isTrue_and_nil e
 | false=>exact e
theorem pw_or1 (ha:PT X a tA):PW X (.BoolOp .Or [a] pos) tA:=by
 intro wh pins s σ H Q I h;refine isTrue_or (thn (ha pins s σ H Q I h) fun c s1 e=>?_);cases c with
 | false=>exact isTrue_or_nil e
 | true=>exact e
theorem pw_and (ha:PT X a tA)(hb:PW X (.BoolOp .And (b::rest) pos) tB'):PW X (.BoolOp .And (a::b::rest) pos) (tAnd tA tB'):=by
 intro wh pins s σ H Q I h;refine isTrue_and (thn (ha pins s σ H _ I h) fun c s1 ⟨H1,I1,q1⟩=>?_);cases c with
 | true=>exact hb wh pins s1 σ H1 Q I1 q1
 | false=>exact⟨H1,I1,q1⟩
theorem pw_or (ha:PT X a tA)(hb:PW X (.BoolOp .Or (b::rest) pos) tB'):PW X (.BoolOp .Or (a::b::rest) pos) (tOr tA tB'):=by
 intro wh pins s σ H Q I h;refine isTrue_or (thn (ha pins s σ H _ I h) fun c s1 ⟨H1,I1,q1⟩=>?_);cases c with
 | true=>exact⟨H1,I1,q1⟩
 | false=>exact hb wh pins s1 σ H1 Q I1 q1
theorem pt_not (ha:PT X a tA):PT X (.UnaryOp .Not a pos) (tNot tA):=by
 intro pins s σ H Q I h;exact isTrue_not (ha pins s σ H (fun c H1=>Q (!c) H1) I h)
def tAndV (ta tb:TE):TE:=fun σ H Q=>ta σ H fun x H1=>∃c,x=.bl c/\if c=true then tb σ H1 Q else Q (.bl false) H1
def tNotV (ta:TE):TE:=fun σ H Q=>ta σ H fun x H1=>∃c,x=.bl c/\Q (.bl (!c)) H1
theorem pe_one {op}{t:TE}(h:PE X a t):PE X (.BoolOp op [a] pos) t:=fun pins s σ H Q I hw=>BoolOp_one (h pins s σ H Q I hw)
theorem pe_and (ha:PE X a ta)(hb:PE X (.BoolOp .And (b::rest) pos) tb):PE X (.BoolOp .And (a::b::rest) pos) (tAndV ta tb):=by
 intro pins s σ H Q I h;refine BoolOp_and (thn (ha pins s σ H _ I h) fun v s1 ⟨x,H1,I1,r1,q1⟩=>?_);obtain⟨c,rfl,q1⟩:=q1;cases r1;refine x2C ?_;cases c with
 | true=>exact hb pins s1 σ H1 Q I1 q1
 | false=>exact⟨.bl false,H1,I1,rfl,q1⟩
theorem pe_not (ha:PE X a ta):PE X (.UnaryOp .Not a pos) (tNotV ta):=by
 intro pins s σ H Q I h;refine UnaryOp_ (thn (ha pins s σ H _ I h) fun v s1 ⟨x,H1,I1,r1,q1⟩=>?_);obtain⟨c,rfl,q1⟩:=q1;cases r1;exact not_of (x2C ⟨.bl (!c),H1,I1,rfl,q1⟩)
def tIf (t:TT)(ta tb:TE):TE:=fun σ H Q=>t σ H fun c H1=>if c=true then ta σ H1 Q else tb σ H1 Q
theorem a8c {c:Expr}(hc:PT X c tA)(ha:PE X a ta)(hb:PE X b tb):PE X (.IfExp c a b pos) (tIf tA ta tb):=by
 intro pins s σ H Q I h;refine wpAny_IfExp (thn (hc pins s σ H _ I h) fun d s1 ⟨H1,I1,q1⟩=>?_);cases d with
 | true=>exact ha pins s1 σ H1 Q I1 q1
 | false=>exact hb pins s1 σ H1 Q I1 q1
end
def SqL (K:x0a)(H:Hp)(a:Addr)(xs:List V):Prop:=
 Rd H a (.lst xs)\/
   ∃(o:Obj) (its:Array Value) (n:Nat),K.lookup a=some o/\o.cls=.type "list"/\o.dict=none/\o.data=.seq its n/\its.size<=x0t/\Vals xs its.toList
def SqT (K:x0a)(H:Hp)(a:Addr)(xs:List V):Prop:=
 Rd H a (.tup xs)\/
   ∃(o:Obj) (its:Array Value) (n:Nat),K.lookup a=some o/\o.cls=.type "tuple"/\o.data=.seq its n/\its.size<=x0t/\Vals xs its.toList
def absV:Value->Option V
 | .none=>some .non
 | .bool b=>some (.bl b)
 | .int i _=>some (.int i)
 | .str x _=>some (.str x)
 | .bytes b _=>some (.byt b)
 | .float b _=>some (.flt b)
 | .ref a=>some (.ref a)
 | .type n=>some (.ty n)
 | _=>none
theorem RelV.abs {x:V}{u:Value}(r:RelV x u):absV u=some x:=by
 cases x with
 | non=>cases r;rfl
 | bl _=>cases r;rfl
 | int _=>obtain⟨t,rfl⟩:=r;rfl
 | str _=>obtain⟨t,rfl⟩:=r;rfl
 | byt _=>obtain⟨t,rfl⟩:=r;rfl
 | flt _=>obtain⟨t,rfl⟩:=r;rfl
 | ref _=>cases r;rfl
 | ty _=>cases r;rfl
theorem RelV.inj {x y:V}{u:Value}(r:RelV x u)(q:RelV y u):x=y:=x0L (r.abs.symm.trans q.abs)
theorem Vals.inj {xs ys:List V}{us:List Value}(h:Vals xs us)(h':Vals ys us):xs=ys:=by
 induction h generalizing ys with
 | nil=>cases h';rfl
 | cons r t ih=>cases h' with | cons r' t'=>rw [r.inj r',ih t']
section
variable {X:Cx}{pins:List (Addr×Obj)}{σ:St}{H:Hp}{s:Shared}{a:Addr}{xs ys:List V}
theorem SqL.of {K:x0a}(h:H a=some (.lst xs)):SqL K H a xs:=.inl (.inl h)
theorem SqT.of {K:x0a}(h:H a=some (.tup xs)):SqT K H a xs:=.inl (.inl h)
theorem Inv.list (I:Inv X pins σ H s)(h:SqL X.K H a xs):∃its:List Value,Vals xs its/\PlainL s.heap a its.toArray/\xs.length<=x0t:=by
 rcases h with h | ⟨o,its,n,hk,hc,hd,hs,hz,r⟩
 · obtain⟨z,its,n,r,e⟩:=h.ok I.hok;exact⟨its,r,⟨_,n,e,rfl,rfl,rfl⟩,z⟩
 · refine⟨its.toList,r,⟨o,n,I.kIn a o hk,hc,hd,by simpa using hs⟩,?_⟩;have e:=r.length;simp only [x1A] at e;omega
theorem Inv.tuple (I:Inv X pins σ H s)(h:SqT X.K H a xs):∃its:List Value,Vals xs its/\IsTup s.heap a its.toArray/\xs.length<=x0t:=by
 rcases h with h | ⟨o,its,n,hk,hc,hs,hz,r⟩
 · obtain⟨z,its,r,p⟩:=h.ok I.hok;exact⟨its,r,p.is,z⟩
 · refine⟨its.toList,r,⟨o,I.kIn a o hk,hc,n,by simpa using hs⟩,?_⟩;have e:=r.length;simp only [x1A] at e;omega
theorem Inv.list_inj (I:Inv X pins σ H s)(h:SqL X.K H a xs)(h':SqL X.K H a ys):xs=ys:=by
 obtain⟨its,r,⟨o,n,e,_,_,d⟩,_⟩:=I.list h;obtain⟨its',r',⟨o',n',e',_,_,d'⟩,_⟩:=I.list h';rw [e] at e';cases e';rw [d] at d';injection d' with d1 _;have:its=its':=by simpa using congrArg Array.toList d1
 subst this;exact r.inj r'
theorem Inv.tuple_inj (I:Inv X pins σ H s)(h:SqT X.K H a xs)(h':SqT X.K H a ys):xs=ys:=by
 obtain⟨its,r,⟨o,e,_,n,d⟩,_⟩:=I.tuple h;obtain⟨its',r',⟨o',e',_,n',d'⟩,_⟩:=I.tuple h';rw [e] at e';cases e';rw [d] at d';injection d' with d1 _;have:its=its':=by simpa using congrArg Array.toList d1
 subst this;exact r.inj r'
end
abbrev Cx.wish (X:Cx)(E:Value->Shared->Prop):Cx:={ X with xe:=E }
abbrev Cx.nox (X:Cx):Cx:=X.wish fun _ _=>False
theorem Cx.Ok.wish {X:Cx}(ok:X.Ok)(E:Value->Shared->Prop):(X.wish E).Ok:=
 ⟨ok.mod,ok.kind,ok.glob,ok.blt,ok.above,ok.inj,ok.has,ok.cab,ok.hd,ok.frames,ok.stk,ok.exf,ok.bs,ok.bsz,ok.noex,ok.exfs,ok.funs,ok.frf,ok.nos⟩
theorem Cx.Ok.unwish {X:Cx}{E:Value->Shared->Prop}(ok:(X.wish E).Ok):X.Ok:=
 ⟨ok.mod,ok.kind,ok.glob,ok.blt,ok.above,ok.inj,ok.has,ok.cab,ok.hd,ok.frames,ok.stk,ok.exf,ok.bs,ok.bsz,ok.noex,ok.exfs,ok.funs,ok.frf,ok.nos⟩
section
variable {X:Cx}{pins:List (Addr×Obj)}{σ:St}{H:Hp}{s:Shared}{E:Value->Shared->Prop}
theorem Inv.wish (I:Inv X pins σ H s)(E:Value->Shared->Prop):Inv (X.wish E) pins σ H s:=⟨I.ok.wish E,I.os,I.bare,I.base,I.loc,I.cell,I.free,I.freeC,I.pin,I.hok,I.len⟩
theorem Inv.unwish (I:Inv (X.wish E) pins σ H s):Inv X pins σ H s:=⟨I.ok.unwish,I.os,I.bare,I.base,I.loc,I.cell,I.free,I.freeC,I.pin,I.hok,I.len⟩
theorem SP.unwish {D:Ends}{f:Flow}{s':Shared}(h:SP (X.wish E) pins D f s'):SP X pins D f s':=by
 cases f with
 | next=>obtain⟨σ',H',I,q⟩:=h;exact⟨σ',H',I.unwish,q⟩
 | brk=>obtain⟨σ',H',I,q⟩:=h;exact⟨σ',H',I.unwish,q⟩
 | cont=>obtain⟨σ',H',I,q⟩:=h;exact⟨σ',H',I.unwish,q⟩
 | ret u=>obtain⟨v,σ',H',I,r,q⟩:=h;exact⟨v,σ',H',I.unwish,r,q⟩
theorem PSs.nox {st:List Stmt}{t:TS}(h:PSs X.nox st t):PSs X st t:=fun pins s σ H D I hw=>
 x0K (h pins s σ H D (I.wish _) hw) (fun _ _ q=>q.unwish) fun _ _ z=>x2a z
end
section
variable {X:Cx}{st:Stmt}{rest:List Stmt}{t u:TS}{e:Expr}{te:TE}{pos:Pos}
def tNext:TS:=fun D σ H=>D.nx σ H
def tSeq (t u:TS):TS:=fun D σ H=>t { D with nx:=u D } σ H
theorem a4u:PSs X [] tNext:=fun _ _ σ H _ I h=>wpAny_execs_nil ⟨σ,H,I,h⟩
theorem a0D (h1:PS X st t)(h2:PSs X rest u):PSs X (st::rest) (tSeq t u):=by
 intro pins s σ H D I h;refine wpAny_execs_cons (thn (h1 pins s σ H { D with nx:=u D } I h) fun f s1 q=>?_);cases f with
 | next =>
   obtain⟨σ',H',I',q⟩:=q;exact h2 pins s1 σ' H' D I' q
 | ret v=>exact q
 | brk=>exact q
 | cont=>exact q
theorem a2y (h1:PS X st t):PSs X [st] t:=by
 intro pins s σ H D I h;refine wpAny_execs_cons (thn (h1 pins s σ H D I h) fun f s1 q=>?_);cases f with
 | next=>exact wpAny_execs_nil q
 | ret v=>exact q
 | brk=>exact q
 | cont=>exact q
theorem Inv.quiet {pins:List (Addr×Obj)}{σ:St}{H:Hp}{s:Shared}(I:Inv X pins σ H s):interactive X.env=false:=by simp [interactive,I.ok.kind]
def a9s (te:TE):TS:=fun D σ H=>te σ H fun _ H1=>D.nx σ H1
theorem a9X (he:PE X e te)(hs:x3i e none pos.line X.env=pure false:=by rfl):PS X (.Expr e pos) (a9s te):=by
 intro pins s σ H D I h;exact wpAny_Expr_any (thn (he pins s σ H _ I h) fun v s1 ⟨x,H1,I1,r1,q1⟩=>⟨σ,H1,I1,q1⟩) I.quiet hs
def tRet (te:TE):TS:=fun D σ H=>te σ H D.rt
theorem a3N (he:PE X e te):PS X (.Return (some e) pos) (tRet te):=by
 intro pins s σ H D I h;exact wpAny_Return_some (thn (he pins s σ H _ I h) fun v s1 ⟨x,H1,I1,r1,q1⟩=>⟨x,σ,H1,I1,r1,q1⟩)
def tIfS (c:TT)(t u:TS):TS:=fun D σ H=>c σ H fun b H1=>if b=true then t D σ H1 else u D σ H1
theorem a9W {c:Expr}{a b:List Stmt}{tc:TT}(hc:PT X c tc)(ha:PSs X a t)(hb:PSs X b u):PS X (.If c a b pos) (tIfS tc t u):=by
 intro pins s σ H D I h;refine wpAny_If (thn (hc pins s σ H _ I h) fun d s1 ⟨H1,I1,q1⟩=>?_);cases d with
 | true=>exact ha pins s1 σ H1 D I1 q1
 | false=>exact hb pins s1 σ H1 D I1 q1
end
abbrev TG:=V->St->Hp->(St->Hp->Prop)->Prop
abbrev TGs:=List V->St->Hp->(St->Hp->Prop)->Prop
def PG (X:Cx)(target:Expr)(t:TG):Prop:=
 ∀ (pins : List (Addr × Obj)) (s : Shared) (σ : St) (H : Hp) (v : V) (u : Value) (Q : St -> Hp -> Prop), Inv X pins σ H s -> RelV v u -> t v σ H Q ->
   wpAny (model X.prog X.w) X.A (assign target X.env u) (fun _ s'=>∃σ' H',Inv X pins σ' H' s'/\Q σ' H') X.xe s
def PGs (X:Cx)(ts:List Expr)(t:TGs):Prop:=
 ∀ (pins : List (Addr × Obj)) (s : Shared) (σ : St) (H : Hp) (vs : List V) (us : List Value) (Q : St -> Hp -> Prop), Inv X pins σ H s -> Vals vs us -> t vs σ H Q ->
   wpAny (model X.prog X.w) X.A (x2Q ((x1h ts X.env).map (·.2)) us) (fun _ s'=>∃σ' H',Inv X pins σ' H' s'/\Q σ' H') X.xe s
abbrev TSet:=V->V->V->Hp->(Hp->Prop)->Prop
def PSet (X:Cx)(t:TSet):Prop:=
 ∀ (pins : List (Addr × Obj)) (s : Shared) (σ : St) (H : Hp) (o i v : V) (ov iv u : Value) (Q : Hp -> Prop), Inv X pins σ H s -> RelV o ov -> RelV i iv -> RelV v u -> t o i v H Q ->
   wpAny (model X.prog X.w) X.A (setItem ov iv u) (fun _ s'=>∃H',Inv X pins σ H' s'/\Q H') X.xe s
abbrev TIp:=V->V->Hp->VK->Prop
def PIp (X:Cx)(op:Operator)(t:TIp):Prop:=
 ∀ (pins : List (Addr × Obj)) (s : Shared) (σ : St) (H : Hp) (x y : V) (v u : Value) (Q : VK), Inv X pins σ H s -> RelV x v -> RelV y u -> t x y H Q ->
   wpAny (model X.prog X.w) X.A (inplaceOp op v u) (EP X pins σ Q) X.xe s
section
variable {X:Cx}{pos:Pos}
variable {i:Nat}
def a1S (i:Nat):TG:=fun v σ H Q=>Q (σ.set i (some v)) H
theorem b0c {x:Str}(hN:X.N.Nodup)(hi:X.N[i]?=some x)(hx:Loc X.env.scope x)(hf:X.fn x=true\/X.env.scope.names.lookup x=some .local:=by first | exact .inl rfl | exact .inr rfl | assumption):PG X (.Name x pos) (a1S i):=by
 intro pins s σ H v u Q I r h;exact wpAny_assign_Name (a1b I hN hi hx r (fun s' I'=>⟨_,H,I',h⟩) hf)
def gNil:TGs:=fun vs σ H Q=>vs=[]/\Q σ H
def a7l (t:TG)(u:TGs):TGs:=fun vs σ H Q=>∃v r,vs=v::r/\t v σ H fun σ' H'=>u r σ' H' Q
theorem a6N:PGs X [] gNil:=by
 intro pins s σ H vs us Q I r h;obtain⟨e,h⟩:=h;subst e;cases r;exact assignInOrder_nil ⟨σ,H,I,h⟩
theorem a3p {e:Expr}{es:List Expr}{t:TG}{u:TGs}(h1:PG X e t)(h2:PGs X es u)
   (hs:(x1h (e::es) X.env).map (·.2)=assign e X.env::(x1h es X.env).map (·.2):=by rfl):PGs X (e::es) (a7l t u):=by
 intro pins s σ H vs us Q I r h;obtain⟨v,vr,e1,h⟩:=h;subst e1;cases r with
 | cons r rr =>
   rw [hs];refine x1F (thn (h1 pins s σ H _ _ _ I r h) fun _ s1 ⟨σ1,H1,I1,q1⟩=>?_);exact h2 pins s1 σ1 H1 _ _ Q I1 rr q1
def gTup (K:x0a)(n:Nat)(t:TGs):TG:=fun v σ H Q=>∃a xs,v=.ref a/\SqT K H a xs/\xs.length=n/\t xs σ H Q
theorem a8N {es:List Expr}{k:Nat}{t:TGs}{n:Nat}(hc:X.calm=true)(h:PGs X es t)
   (hn:(x1h es X.env).length=n:=by rfl) (hst:(x1h es X.env).findIdx? (·.1)=none:=by rfl):PG X (.Tuple es k pos) (gTup X.K n t):=by
 intro pins s σ H v u Q I r hw;obtain⟨a,xs,e1,hq,hl,hw⟩:=hw;subst e1;cases r;obtain⟨its,rv,ht,hz⟩:=I.tuple hq;refine assign_Tuple_tuple (I.ok.hd hc) ht (by simp [hn,<- hl,rv.length]) hst fun h' hx=>?_;have I1:Inv X pins σ H { s with heap:=h' }:=I.kept (t':=s.toks) fun b o e=>hx b o (x0o (x0i e)) e;exact h pins _ σ H xs _ Q I1 (by simpa using rv) hw
def gSub (to ti:TE)(t:TSet):TG:=fun v σ H Q=>to σ H fun o H1=>ti σ H1 fun i H2=>t o i v H2 fun H3=>Q σ H3
theorem a4X {o i:Expr}{to ti:TE}{t:TSet}(ho:PE X o to)(hi:PE X i ti)(hs:PSet X t)
   (ha:∀v,assign (.Subscript o i pos) X.env v=(do
     let ov ← x3p [v] (eval o X.env)
     let iv ← x3p [v,ov] (eval i X.env)
     standAt pos
     x3p [v,ov,iv] (setItem ov iv v)
     release [v,ov,iv] []):=by intro _;rfl):PG X (.Subscript o i pos) (gSub to ti t):=by
 intro pins s σ H v u Q I r h;rw [ha];refine x0b (x1d (thn (ho pins s σ H _ I h) fun ov s1 ⟨x,H1,I1,r1,q1⟩=>?_));refine x0b (x1d (thn (hi pins s1 σ H1 _ I1 q1) fun iv s2 ⟨y,H2,I2,r2,q2⟩=>?_));refine x0b (x1u (x0b (x1d (thn (hs pins s2 σ H2 x y v ov iv u _ I2 r1 r2 r q2) fun _ s3 ⟨H3,I3,q3⟩=>?_))));exact wpAny_release ⟨σ,H3,I3,q3⟩
def tAsg (te:TE)(g:TG):TS:=fun D σ H=>te σ H fun x H1=>g x σ H1 D.nx
theorem a4W {tg e:Expr}{te:TE}{g:TG}(he:PE X e te)(hg:PG X tg g)(hs:x2q [tg] e pos.line X.env=pure false:=by rfl)(hw:x2r [tg] e X.env=pure none:=by rfl)
   (h1:(x1h [tg] X.env).map (·.2)=[assign tg X.env]:=by rfl):PS X (.Assign [tg] e pos) (tAsg te g):=by
 intro pins s σ H D I h;refine wpAny_Assign_stores (thn (he pins s σ H _ I h) fun v s1 ⟨x,H1,I1,r1,q1⟩=>?_) hs hw;rw [h1];exact thn (hg pins s1 σ H1 x v _ I1 r1 q1) fun _ s2 q=>q
theorem a2z {x:Str}{e:Expr}{te:TE}{pos':Pos}(hN:X.N.Nodup)(hi:X.N[i]?=some x)(hx:Loc X.env.scope x)(he:PE X e te)(hs:x3i e (some (.Name x pos')) pos.line X.env=pure false:=by rfl)(hf:X.fn x=true\/X.env.scope.names.lookup x=some .local:=by first | exact .inl rfl | exact .inr rfl | assumption) :
   PS X (.Assign [.Name x pos'] e pos) (tAsg te (a1S i)):=by
 intro pins s σ H D I h;refine wpAny_Assign_Name (thn (he pins s σ H _ I h) fun v s1 ⟨y,H1,I1,r1,q1⟩=>?_) hs;exact a1b I1 hN hi hx r1 (fun s2 I2=>⟨_,H1,I2,q1⟩) hf
def tPar (i j:Nat)(ta:TA):TS:=fun D σ H=>ta σ H fun vs H1=>∃v w,vs=[v,w]/\D.nx ((σ.set i (some v)).set j (some w)) H1
theorem ps_par {j:Nat}{x y:Str}{a b:Expr}{ta:TA}{px py pt:Pos}{kt k2 pt2}(hc:X.calm=true)(hN:X.N.Nodup)(hi:X.N[i]?=some x)(hj:X.N[j]?=some y)(hij:i≠j)
   (hx:X.env.scope.names.lookup x=some .local) (hy:X.env.scope.names.lookup y=some .local) (ha:PA X [a,b] ta)
   (hw:x2r [.Tuple [.Name x px,.Name y py] kt pt] (.Tuple [a,b] k2 pt2) X.env=pure (some [x,y]))
   (hs:x2q [.Tuple [.Name x px,.Name y py] kt pt] (.Tuple [a,b] k2 pt2) pos.line X.env=pure false:=by rfl) :
   PS X (.Assign [.Tuple [.Name x px,.Name y py] kt pt] (.Tuple [a,b] k2 pt2) pos) (tPar i j ta):=by
 intro pins s σ H D I h;rw [exec_Assign_arm];refine x0b (x1u ?_);rw [hs];refine x0b (x0h ?_);rw [if_neg (by decide)];refine x0b (Tuple_ (thn (ha _ pins s σ H _ I h) fun us s1 ⟨vs,H1,I1,r1,q1⟩=>?_));obtain⟨v,w,e1,q1⟩:=q1;subst e1
 obtain⟨u1,u2,rfl,rv,rw'⟩:∃u1 u2,us=[u1,u2]/\RelV v u1/\RelV w u2:=by
   cases r1 with
   | cons p q =>
     cases q with
     | cons p' q' =>
       cases q';exact⟨_,_,rfl,p,p'⟩
 refine x0R ?_ (by show 2<=x0t;decide);have I2:Inv X pins σ H1 { s1 with heap:=s1.heap.push { cls:=.type "tuple",data:=.seq [u1,u2].toArray } }:=I1.kept (t':=s1.toks) fun b o e=>x0d _ e;rw [hw];refine x0b (x0h ?_);show wpAny (model X.prog X.w) X.A (do rule "assign.swapped-stores";let items ← unpackItems (.ref s1.heap.objs.size) 2 none;x2Q [fun v=>x2R X.env y v,fun v=>x2R X.env x v] items.reverse;pure Flow.next) _ _ _;refine x0b (x2m (x0b (unpackItems_tuple (items:=#[u1,u2]) (I.ok.hd hc) (IsTup.new s1.heap _) fun h' hx'=>?_)));have I3:=I2.kept (h':=h') (t':=s1.toks) fun b o e=>hx' b o (x0o (x0i e)) e;show wpAny _ _ (x2Q [fun v=>x2R X.env y v,fun v=>x2R X.env x v] [u2,u1]>>=fun _=>pure Flow.next) _ _ _;refine x0b (x1F (x2F (a1b I3 hN hj (.inl hy) rw' (fun s2 I4=>?_) (.inr hy))));refine x1F (x2F (a1b I4 hN hi (.inl hx) rv (fun s3 I5=>assignInOrder_nil (x0h ?_)) (.inr hx)));rw [List.set_comm _ _ (Ne.symm hij)] at I5;exact⟨_,H1,I5,q1⟩
def tAug (i:Nat)(te:TE)(ti:TIp):TS:=fun D σ H=>∃x,σ[i]?=some (some x)/\te σ H fun y H1=>ti x y H1 fun z H2=>D.nx (σ.set i (some z)) H2
theorem ps_aug {x:Str}{e:Expr}{te:TE}{op:Operator}{ti:TIp}{pos':Pos}(hN:X.N.Nodup)(hi:X.N[i]?=some x)(hx:Loc X.env.scope x)(he:PE X e te)(ho:PIp X op ti)(hf:X.fn x=true\/X.env.scope.names.lookup x=some .local:=by first | exact .inl rfl | exact .inr rfl | assumption) :
   PS X (.AugAssign (.Name x pos') op e pos) (tAug i te ti):=by
 intro pins s σ H D I h;obtain⟨v,e1,h⟩:=h;obtain⟨m,hn,hl⟩:=I.loc;have vis:Vis X.env.scope x:=by rcases hx with k | k;exact .inl k;exact .inr (.inl k)
 obtain⟨u,r,l⟩:=hl i x v hi e1 vis;refine wpAny_AugAssign_Name ?_
 have go:wpAny (model X.prog X.w) X.A (eval e X.env) (fun w s₂=>wpAny (model X.prog X.w) X.A (inplaceOp op u w) (fun r s₃=>wpAny (model X.prog X.w) X.A (storeName X.env x r) (fun _=>SP X pins D .next) X.xe s₃) X.xe s₂) X.xe s:=by
   refine thn (he pins s σ H _ I h) fun w s1 ⟨y,H1,I1,r1,q1⟩=>?_;refine thn (ho pins s1 σ H1 v y u w _ I1 r r1 q1) fun z s2 ⟨zv,H2,I2,r2,q2⟩=>?_;exact a1b I2 hN hi hx r2 (fun s3 I3=>⟨_,H2,I3,q2⟩) hf
 rcases l with⟨hk,hm⟩ | ⟨hk,c,hc,hcell⟩
 · exact wpAny_loadName_local I.ok.kind hk hn hm go
 · rcases hk with hk | hk
   · exact wpAny_loadName_cell I.ok.kind hk hc hcell go
   · rcases hx with k | k
     · have:X.env.scope.names.lookup x=some .free:=hk;rw [k] at this;cases this
     · have:X.env.scope.names.lookup x=some .free:=hk;rw [k] at this;cases this
end
structure It where
 go:Nat->Hp->Prop
 yld:Nat->Hp->V->Hp->Prop
 stop:Nat->Hp->Prop
def FpOk (X:Cx)(pins:List (Addr×Obj))(H:Hp)(b:Addr):Prop:=
 H b=none/\b≠X.env.locals/\b∉X.fs/\(b∈X.ex\/X.s₀.heap.objs.size<=b)/\(∀x c,X.env.cells.lookup x=some c->c≠b)/\∀p∈X.pn++pins,p.1≠b
theorem Inv.fpOk {X:Cx}{pins:List (Addr×Obj)}{σ:St}{H H':Hp}{s:Shared}{b:Addr}(I:Inv X pins σ H s)(hb:s.heap.objs.size<=b)(hn:H' b=none):FpOk X pins H' b:=by
 refine⟨hn,Nat.ne_of_gt (x0u I.lt hb),I.nofs hb,.inr (x0U I.sz hb),fun x c e z=>?_,fun p hp z=>?_⟩
 · obtain⟨v,q⟩:=I.cell x c e;exact absurd (x0u q.lt (by rw [z];exact hb)) (x2p _)
 · exact absurd (x0u (x0i (I.pin p hp).1) (by rw [z];exact hb)) (x2p _)
structure Turn (P:x0x)(w:World)(K:x0a)(tg:Expr)(J:It)(fp:List Addr)(it:Addr)(tn:Nat->Heap->Prop):Prop where
 mem:it∈fp
 obj:∀i h,tn i h->∀b∈fp,∃o,h.get? b=some o/\∀v,o.data≠.cell v
 keep:∀i h h',tn i h->(∀b∈fp,∀o,h.get? b=some o->h'.get? b=some o)->tn i h'
 item:∀(X:Cx),X.prog=P->X.w=w->X.K=K->X.calm=true->∀(i:Nat) (pins:List (Addr×Obj)) (s:Shared) (σ:St) (H:Hp) (E:Value->Shared->Prop),Inv X pins σ H s->(∀b∈fp,FpOk X pins H b)->tn i s.heap->J.go i H->
   wpAny (model P w) X.A (pyNext (.ref it)) (fun r s1=>∃u,r=some u/\
     wpAny (model P w) X.A (x1q tg (.ref it) u) (fun _ s2=>∃x H',Inv X pins σ H' s2/\RelV x u/\J.yld i H x H'/\tn (i + 1) s2.heap/\∀b∈fp,H' b=none) E s1) E s
 done:∀(X:Cx),X.prog=P->X.w=w->X.K=K->X.calm=true->∀(i:Nat) (pins:List (Addr×Obj)) (s:Shared) (σ:St) (H:Hp) (E:Value->Shared->Prop),Inv X pins σ H s->(∀b∈fp,FpOk X pins H b)->tn i s.heap->J.stop i H->
   wpAny (model P w) X.A (pyNext (.ref it)) (fun r s1=>r=none/\Inv X pins σ H s1) E s
 self:∀(A:Around) (i:Nat) (s:Shared) (Q:Value->Shared->Prop) (E:Value->Shared->Prop),tn i s.heap->Q (.ref it) s->wpAny (model P w) A (pyIter (.ref it)) Q E s
abbrev TI:=St->Hp->(It->Hp->Prop)->Prop
def PIE (X:Cx)(pins:List (Addr×Obj))(σ:St)(tg:Expr)(R:It->Hp->Prop)(itv:Value)(s2:Shared):Prop:=
 ∃(it:Addr) (fp:List Addr) (tn:Nat->Heap->Prop) (J:It) (H':Hp),itv=.ref it/\Inv X pins σ H' s2/\Turn X.prog X.w X.K tg J fp it tn/\tn 0 s2.heap/\(∀b∈fp,FpOk X pins H' b)/\R J H'
def PI (X:Cx)(tg iter:Expr)(wi:TI):Prop:=
 ∀ (pins : List (Addr × Obj)) (s : Shared) (σ : St) (H : Hp) (R : It -> Hp -> Prop), Inv X pins σ H s -> wi σ H R ->
   wpAny (model X.prog X.w) X.A (eval iter X.env) (fun v s1=>wpAny (model X.prog X.w) X.A (pyIter v) (PIE X pins σ tg R) X.xe s1) X.xe s
theorem b0B {M:Model}{A:Around}{E:Value->Shared->Prop}{s:Shared}{tg:Expr}{it:Addr}{u:Value}{o:Obj}{n:String}{vs:Array Value}{Q:Unit->Shared->Prop}(ho:s.heap.get? it=some o)(hc:o.cls=.type n)(hd:o.data=.fields vs)
   (hn:["enumerate","zip","dict_itemiterator","dict_reverseitemiterator","odict_iterator","itertools.zip_longest","itertools.pairwise"].contains n=false) (hQ:Q () s):wpAny M A (x1q tg (.ref it) u) Q E s:=by
 unfold x1q
 cases tg <;> first
   | exact x0h hQ
   | (cases u <;> first
       | exact x0h hQ
       | (refine x0b (wpAny_load ho ?_)
          rw [hc,hd];show wpAny M A (if(["enumerate","zip","dict_itemiterator","dict_reverseitemiterator","odict_iterator","itertools.zip_longest","itertools.pairwise"].contains n && vs[0]? == some (rawInt _))=true then _ else _) Q E s;rw [if_neg (by intro h;rw [hn,x2G] at h;cases h)]
          exact x0h hQ))
def Itl (K:x0a)(a:Addr):It:=
 ⟨fun i H=>∃xs x,SqL K H a xs/\xs[i]?=some x,fun i H x H'=>H'=H/\∀xs,SqL K H a xs->xs[i]?=some x,fun i H=>∃xs,SqL K H a xs/\xs.length<=i⟩
def Itt (K:x0a)(a:Addr):It:=
 ⟨fun i H=>∃xs x,SqT K H a xs/\xs[i]?=some x,fun i H x H'=>H'=H/\∀xs,SqT K H a xs->xs[i]?=some x,fun i H=>∃xs,SqT K H a xs/\xs.length<=i⟩
def Itr (lo:Int)(n:Nat):It:=⟨fun i _=>i < n,fun i H x H'=>H'=H/\x=.int (lo + i),fun i _=>n<=i⟩
theorem a6c {P:x0x}{w:World}{K:x0a}{tg:Expr}(a it:Addr):Turn P w K tg (Itl K a) [it] it (fun i h=>h.IsListIter it a i) where
 mem:=by simp
 obj:=fun i h st b hb=>by
   have e:b=it:=by simpa using hb
   subst e;obtain⟨o,e,c,d⟩:=st;exact⟨o,e,fun v z=>by rw [d] at z;cases z⟩
 keep:=fun i h h' st k=>st.at fun o e=>k it (by simp) o e
 item:=by
   intro X hP hw hK hc i pins s σ H E I hf st hg;subst hP hw hK;obtain⟨xs,x,hq,hx⟩:=hg;obtain⟨its,rv,p,hz⟩:=I.list hq;obtain⟨u,hu,ru⟩:=rv.get hx;obtain⟨f0,f1,f2,f3,f4,f5⟩:=hf it (by simp);refine wpAny_pyNext_list_item st p.isList (x:=u) (by simpa using hu) fun h' st' sb=>?_;have I1:Inv X pins σ H { s with heap:=h' }:=I.turned (t':=s.toks) (fun b o hb e=>(sb.2 b hb).trans e) f0 f1 f3 f4 f5;obtain⟨o,e,c,d⟩:=id st';exact⟨u,rfl,b0B (s:={ s with heap:=h' }) e c d (by decide) ⟨x,H,I1,ru,⟨rfl,fun ys hy=>by rw [I.list_inj hy hq];exact hx⟩,st',fun b hb=>(hf b hb).1⟩⟩
 done:=by
   intro X hP hw hK hc i pins s σ H E I hf st hg;subst hP hw hK;obtain⟨xs,hq,hx⟩:=hg;obtain⟨its,rv,p,hz⟩:=I.list hq;obtain⟨f0,f1,f2,f3,f4,f5⟩:=hf it (by simp);have hl:=rv.length;exact wpAny_pyNext_list_end (I.ok.hd hc) st p.isList (by simp;omega) fun h' eb=>⟨rfl,I.turned (t':=s.toks) (fun b o hb e=>eb b o hb e) f0 f1 f3 f4 f5⟩
 self:=fun _ _ _ _ _ st h=>wpAny_pyIter_listiter st h
theorem a5s {P:x0x}{w:World}{K:x0a}{tg:Expr}(a it:Addr):Turn P w K tg (Itt K a) [it] it (fun i h=>h.IsTupleIter it a i) where
 mem:=by simp
 obj:=fun i h st b hb=>by
   have e:b=it:=by simpa using hb
   subst e;obtain⟨o,e,c,d⟩:=st;exact⟨o,e,fun v z=>by rw [d] at z;cases z⟩
 keep:=fun i h h' st k=>st.at fun o e=>k it (by simp) o e
 item:=by
   intro X hP hw hK hc i pins s σ H E I hf st hg;subst hP hw hK;obtain⟨xs,x,hq,hx⟩:=hg;obtain⟨its,rv,p,hz⟩:=I.tuple hq;obtain⟨u,hu,ru⟩:=rv.get hx;obtain⟨f0,f1,f2,f3,f4,f5⟩:=hf it (by simp);refine wpAny_pyNext_tuple_item st (show s.heap.IsTuple a its.toArray from p) (x:=u) (by simpa using hu) fun h' st' sb=>?_;have I1:Inv X pins σ H { s with heap:=h' }:=I.turned (t':=s.toks) (fun b o hb e=>(sb.2 b hb).trans e) f0 f1 f3 f4 f5;obtain⟨o,e,c,d⟩:=id st';exact⟨u,rfl,b0B (s:={ s with heap:=h' }) e c d (by decide) ⟨x,H,I1,ru,⟨rfl,fun ys hy=>by rw [I.tuple_inj hy hq];exact hx⟩,st',fun b hb=>(hf b hb).1⟩⟩
 done:=by
   intro X hP hw hK hc i pins s σ H E I hf st hg;subst hP hw hK;obtain⟨xs,hq,hx⟩:=hg;obtain⟨its,rv,p,hz⟩:=I.tuple hq;obtain⟨f0,f1,f2,f3,f4,f5⟩:=hf it (by simp);have hl:=rv.length;exact wpAny_pyNext_tuple_end (I.ok.hd hc) st (show s.heap.IsTuple a its.toArray from p) (by simp;omega) fun h' eb=>⟨rfl,I.turned (t':=s.toks) (fun b o hb e=>eb b o hb e) f0 f1 f3 f4 f5⟩
 self:=fun _ _ _ _ _ st h=>wpAny_pyIter_tupleiter st h
theorem a5t {P:x0x}{w:World}{K:x0a}{tg:Expr}(it:Addr)(lo:Int)(n:Nat):Turn P w K tg (Itr lo n) [it] it (fun i h=>IsRangeIter h it (lo + (i:Nat) * 1) ((n:Int) - (i:Nat)) 1) where
 mem:=by simp
 obj:=fun i h st b hb=>by
   have e:b=it:=by simpa using hb
   subst e
   exact⟨_,st,fun v z=>by
     have z':Data.fields _=Data.cell v:=z
     cases z'⟩
 keep:=fun i h h' st k=>k it (by simp) _ st
 item:=by
   intro X hP hw hK hc i pins s σ H E I hf st hg;subst hP hw hK;obtain⟨f0,f1,f2,f3,f4,f5⟩:=hf it (by simp);have W:=Walks.range (prog:=X.prog) (w:=X.w) (I.ok.hd hc) it lo 1 n;refine W.item i s _ _ hg st fun v h' tk hv st' kk=>?_;obtain⟨t,rfl⟩:=hv;have I1:Inv X pins σ H { s with heap:=h',toks:=tk }:=I.turned (fun b o hb e=>kk b o (by simpa using hb) e) f0 f1 f3 f4 f5;refine⟨_,rfl,b0B (s:={ s with heap:=h',toks:=tk }) (n:="range_iterator") st' rfl rfl (by decide) ⟨.int (lo + i),H,I1,⟨t,?_⟩,⟨rfl,rfl⟩,st',fun b hb=>(hf b hb).1⟩⟩;rw [Int.mul_one]
 done:=by
   intro X hP hw hK hc i pins s σ H E I hf st hg;subst hP hw hK;obtain⟨f0,f1,f2,f3,f4,f5⟩:=hf it (by simp);exact wpAny_pyNext_range_end (I.ok.hd hc) st (by have:n<=i:=hg;omega) fun h' eb=>⟨rfl,I.turned (t':=s.toks) (fun b o hb e=>eb b o hb e) f0 f1 f3 f4 f5⟩
 self:=fun _ _ _ _ _ st h=>wpAny_pyIter_rangeiter st h
section
variable {X:Cx}{tg:Expr}
variable {fp:List Addr}
def iList (K:x0a)(tl:TE):TI:=fun σ H R=>tl σ H fun x H1=>∃a,x=.ref a/\(∃xs,SqL K H1 a xs)/\R (Itl K a) H1
def iTup (K:x0a)(tl:TE):TI:=fun σ H R=>tl σ H fun x H1=>∃a,x=.ref a/\(∃xs,SqT K H1 a xs)/\R (Itt K a) H1
theorem b0b {l:Expr}{tl:TE}(hl:PE X l tl):PI X tg l (iList X.K tl):=by
 intro pins s σ H R I h;refine thn (hl pins s σ H _ I h) fun v s1 ⟨x,H1,I1,r1,q1⟩=>?_;obtain⟨a,e,⟨xs,hq⟩,q⟩:=q1;subst e;cases r1;obtain⟨its,rv,p,hz⟩:=I1.list hq;refine wpAny_pyIter_list p.isList ?_;refine⟨s1.heap.objs.size,[s1.heap.objs.size],_,_,H1,rfl,I1.kept (t':=s1.toks) fun b o e=>x0d _ e,a6c a _,⟨_,x0y _ rfl,rfl,rfl⟩,fun b hb=>?_,q⟩;have e:b=s1.heap.objs.size:=by simpa using hb
 subst e;exact I1.fpOk (x0s _) (I1.hok.fresh (x0s _))
theorem pi_tup {l:Expr}{tl:TE}(hl:PE X l tl):PI X tg l (iTup X.K tl):=by
 intro pins s σ H R I h;refine thn (hl pins s σ H _ I h) fun v s1 ⟨x,H1,I1,r1,q1⟩=>?_;obtain⟨a,e,⟨xs,hq⟩,q⟩:=q1;subst e;cases r1;obtain⟨its,rv,p,hz⟩:=I1.tuple hq;refine x2s (show s1.heap.IsTuple a its.toArray from p) ?_;refine⟨s1.heap.objs.size,[s1.heap.objs.size],_,_,H1,rfl,I1.kept (t':=s1.toks) fun b o e=>x0d _ e,a5s a _,⟨_,x0y _ rfl,rfl,rfl⟩,fun b hb=>?_,q⟩;have e:b=s1.heap.objs.size:=by simpa using hb
 subst e;exact I1.fpOk (x0s _) (I1.hok.fresh (x0s _))
theorem a4S {pins:List (Addr×Obj)}{σ:St}{H:Hp}{s:Shared}{R:It->Hp->Prop}{E:Value->Shared->Prop}{lo hi:Int}{t u v:Tok}{tk:Nat}(I:Inv X pins σ H s)(h1:-(2 ^ 62)<=lo)(h2:lo < 2 ^ 62)(h3:-(2 ^ 62)<=hi)(h4:hi < 2 ^ 62)
   (q:R (Itr lo (hi - lo).toNat) H):wpAny (model X.prog X.w) X.A (pyIter (.ref s.heap.objs.size)) (PIE X pins σ tg R) E { s with heap:=s.heap.push { cls:=.type "range",data:=.fields #[.int lo t,.int hi u,.int 1 v] },toks:=tk }:=by
 refine wpAny_pyIter_range (IsRange.new ..) (small_one h1 h2 h3 h4) ?_;have I1:Inv X pins σ H { s with heap:=s.heap.push { cls:=.type "range",data:=.fields #[.int lo t,.int hi u,.int 1 v] },toks:=tk }:=I.kept fun b o e=>x0d _ e
 refine⟨(s.heap.push { cls:=.type "range",data:=.fields #[.int lo t,.int hi u,.int 1 v] }).objs.size,[(s.heap.push { cls:=.type "range",data:=.fields #[.int lo t,.int hi u,.int 1 v] }).objs.size],_,_,H,rfl,
   I1.kept (t':=tk) fun b o e=>x0d _ e,a5t _ lo (hi - lo).toNat,?_,fun b hb=>?_,q⟩
 · have e1:lo + ((0:Nat):Int) * 1=lo:=by simp
   have e2:(((hi - lo).toNat:Nat):Int) - ((0:Nat):Int)=Builtin.Range.rangeSize lo hi 1:=by rw [rangeSize_one];split <;> omega
   show IsRangeIter _ _ (lo + ((0:Nat):Int) * 1) ((((hi - lo).toNat:Nat):Int) - ((0:Nat):Int)) 1;rw [e1,e2];exact x0y _ rfl
 · have e:b=(s.heap.push { cls:=.type "range",data:=.fields #[.int lo t,.int hi u,.int 1 v] }).objs.size:=by simpa using hb
   subst e;exact I1.fpOk (x0s _) (I1.hok.fresh (x0s _))
def iRng1 (ta:TA):TI:=fun σ H R=>ta σ H fun vs H1=>∃j:Int,vs=[.int j]/\-(2 ^ 62)<=j/\j < 2 ^ 62/\R (Itr 0 j.toNat) H1
def iRng2 (ta:TA):TI:=fun σ H R=>ta σ H fun vs H1=>∃i j:Int,vs=[.int i,.int j]/\(-(2 ^ 62)<=i/\i < 2 ^ 62/\-(2 ^ 62)<=j/\j < 2 ^ 62)/\R (Itr i (j - i).toNat) H1
theorem a6M {a:Expr}{ta:TA}{p pos:Pos}(hg:Gl X "range")(hm:X.mg "range"=none)(ha:PA X [a] ta)(hs:x0P [a] X.env=[(false,eval a X.env)]:=by rfl):PI X tg (.Call (.Name "range" p) [a] [] pos) (iRng1 ta):=by
 intro pins s σ H R I h;refine Call_ (a1Z I hg hm boot_range (x0M (thn (ha pos pins s σ H _ I h) fun us s1 ⟨vs,H1,I1,r1,q1⟩=>?_) hs rfl));obtain⟨j,e,q1,q2,q⟩:=q1;subst e;cases r1 with
 | cons r rr =>
   cases rr;obtain⟨t,rfl⟩:=r;exact call_range_1 (a4S I1 (by omega) (by omega) q1 q2 (by simpa using q))
theorem a6L {a b:Expr}{ta:TA}{p pos:Pos}(hg:Gl X "range")(hm:X.mg "range"=none)(ha:PA X [a,b] ta)(hs:x0P [a,b] X.env=[(false,eval a X.env),(false,eval b X.env)]:=by rfl)(hs2:x0P [b] X.env=[(false,eval b X.env)]:=by rfl) :
   PI X tg (.Call (.Name "range" p) [a,b] [] pos) (iRng2 ta):=by
 intro pins s σ H R I h;refine Call_ (a1Z I hg hm boot_range (x0M (thn (ha pos pins s σ H _ I h) fun us s1 ⟨vs,H1,I1,r1,q1⟩=>?_) (by rw [hs,hs2]) (by rw [hs2];rfl)));obtain⟨i,j,e,⟨q1,q2,q3,q4⟩,q⟩:=q1;subst e;cases r1 with
 | cons r rr =>
   cases rr with
   | cons r' rr =>
     cases rr;obtain⟨t,rfl⟩:=r;obtain⟨t',rfl⟩:=r';exact call_range_2 (a4S I1 q1 q2 q3 q4 q)
def tFor (wi:TI)(g:TG)(tb:TS):TS:=fun D σ H=>wi σ H fun J H1=>∃W:Nat->Nat->St->Hp->Prop,(∃m,W 0 m σ H1)/\∀i m σ H,W i m σ H->
 (J.stop i H/\D.nx σ H)\/(J.go i H/\∃N:St->Hp->Prop,(∀σ' H',N σ' H'->∃m',m' < m/\W (i + 1) m' σ' H')/\∀x H',J.yld i H x H'->g x σ H' fun σ2 H2=>tb { D with nx:=N,ct:=N,bk:=D.nx } σ2 H2)
def a2n (fp:List Addr)(h:Heap):List (Addr×Obj):=fp.filterMap fun b=>(h.get? b).map fun o=>(b,o)
theorem a1H {h:Heap}{b:Addr}{o:Obj}(hb:b∈fp)(e:h.get? b=some o):(b,o)∈a2n fp h:=List.mem_filterMap.mpr ⟨b,hb,by rw [e];rfl⟩
theorem a6S {h:Heap}{p:Addr×Obj}(hp:p∈a2n fp h):p.1∈fp/\h.get? p.1=some p.2:=by
 obtain⟨b,hb,e⟩:=List.mem_filterMap.mp hp;cases q:h.get? b with
 | none=>rw [q] at e;cases e
 | some o =>
   rw [q] at e;have e':(b,o)=p:=x0L e;subst e';exact⟨hb,q⟩
theorem Inv.pinned {pins:List (Addr×Obj)}{σ:St}{H:Hp}{s:Shared}(I:Inv X pins σ H s)(hf:∀b∈fp,FpOk X pins H b)(ho:∀b∈fp,∃o,s.heap.get? b=some o/\∀v,o.data≠.cell v):Inv X (pins++a2n fp s.heap) σ H s:=
 I.pins_of fun p hp=>(x1c.mp hp).elim (fun z=>I.pin p (x0A _ z)) fun z=>by
   obtain⟨hb,e⟩:=a6S z;obtain⟨f0,f1,f2,_⟩:=hf p.1 hb;obtain⟨o,e',d⟩:=ho p.1 hb;rw [e] at e';cases e';exact⟨e,f0,f1,f2,d⟩
theorem Inv.unpinned {pins pl:List (Addr×Obj)}{σ:St}{H:Hp}{s:Shared}(I:Inv X (pins++pl) σ H s):Inv X pins σ H s:=I.pins_of fun p hp=>I.pin p (x0A _ (x0W _ hp))
theorem ps_for {iter:Expr}{body:List Stmt}{wi:TI}{g:TG}{tb:TS}{pos:Pos}(hp:PassesOwn (model X.prog X.w) X.A X.env X.xe)(hc:X.calm=true)(hi:PI X tg iter wi)(hg:PG X tg g)(hb:PSs X body tb)
   (hs:∀x,x0G iter X.env x=pure x:=by intro _;rfl):PS X (.For tg iter body [] pos) (tFor wi g tb):=by
 intro pins s σ H D I h;refine wpAny_For (thn (hi pins s σ H _ I h) fun v s1 h1=>thn h1 fun itv s2 h2=>?_) hs;obtain⟨it,fp,tn,J,H2,e,I2,T,st2,f2,W,⟨m0,w0⟩,turn⟩:=h2;subst e
 -- what stays true of the iterator's objects through the loop
 have stat:∀{H':Hp},(∀b∈fp,H' b=none)->∀b∈fp,FpOk X pins H' b:=fun hn b hb=>⟨hn b hb,(f2 b hb).2⟩;refine codeAny_forLoop_any (fun n s'=>∃i σ' H',Inv X pins σ' H' s'/\tn i s'.heap/\(∀b∈fp,H' b=none)/\W i n σ' H') ?_ m0 ⟨0,σ,H2,I2,st2,fun b hb=>(f2 b hb).1,w0⟩;rintro n s3 ⟨i,σ3,H3,I3,st3,fr3,w3⟩;rcases turn i n σ3 H3 w3 with⟨stop,qn⟩ | ⟨go,N,hN,step⟩
 · refine x2t hp (thn (T.done X rfl rfl rfl hc i pins s3 σ3 H3 X.xe I3 (stat fr3) st3 stop) fun r s4 ⟨hr,I4⟩=>?_);subst hr;exact wpAny_execs_nil ⟨σ3,H3,I4,qn⟩
 · refine x2t hp (thn (T.item X rfl rfl rfl hc i pins s3 σ3 H3 X.xe I3 (stat fr3) st3 go) fun r s4 ⟨u,hr,h4⟩=>?_);subst hr;refine x2t hp (thn h4 fun _ s5 ⟨x,H5,I5,r5,y5,st5,fr5⟩=>?_);have I5':=I5.pinned (stat fr5) (T.obj _ _ st5);refine x2t hp (thn (hg _ s5 σ3 H5 x u _ I5' r5 (step x H5 y5)) fun _ s6 ⟨σ6,H6,I6,q6⟩=>?_);refine x2t hp (thn (hb _ s6 σ6 H6 _ I6 q6) fun f s7 q7=>?_)
   have again:∀{σ7:St} {H7:Hp},Inv X (pins++a2n fp s5.heap) σ7 H7 s7->N σ7 H7->∃m,m < n/\∃i σ' H',Inv X pins σ' H' s7/\tn i s7.heap/\(∀b∈fp,H' b=none)/\W i m σ' H':=fun {σ7 H7} I7 n7=>by
     obtain⟨m',hm,w7⟩:=hN σ7 H7 n7;refine⟨m',hm,i + 1,σ7,H7,I7.unpinned,T.keep _ _ _ st5 fun b hb o e=>(I7.pin (b,o) (x0A _ (x0A _ (a1H hb e)))).1,fun b hb=>?_,w7⟩;obtain⟨o,e,d⟩:=T.obj _ _ st5 b hb;exact(I7.pin (b,o) (x0A _ (x0A _ (a1H hb e)))).2.1
   cases f with
   | next=>obtain⟨σ7,H7,I7,n7⟩:=q7;exact again I7 n7
   | cont=>obtain⟨σ7,H7,I7,n7⟩:=q7;exact again I7 n7
   | brk=>obtain⟨σ7,H7,I7,q7⟩:=q7;exact⟨σ7,H7,I7.unpinned,q7⟩
   | ret v=>obtain⟨x7,σ7,H7,I7,r7,q7⟩:=q7;exact⟨x7,σ7,H7,I7.unpinned,r7,q7⟩
end
abbrev R2:=V->V->Hp->VK->Prop
def OpR (X:Cx)(f:Value->Value->Sem Value)(r:R2):Prop:=
 ∀ (pins : List (Addr × Obj)) (s : Shared) (σ : St) (H : Hp) (x y : V) (v u : Value) (Q : VK), Inv X pins σ H s -> RelV x v -> RelV y u -> r x y H Q ->
   wpAny (model X.prog X.w) X.A (f v u) (EP X pins σ Q) X.xe s
def a1F (X:Cx)(f:Value)(r:List V->Hp->VK->Prop):Prop:=
 ∀ (pins : List (Addr × Obj)) (s : Shared) (σ : St) (H : Hp) (xs : List V) (us : List Value) (Q : VK), Inv X pins σ H s -> Vals xs us -> r xs H Q ->
   wpAny (model X.prog X.w) X.A (call f us) (EP X pins σ Q) X.xe s
def tOp (r:R2)(ta tb:TE):TE:=fun σ H Q=>ta σ H fun x H1=>tb σ H1 fun y H2=>r x y H2 Q
def rI (C:Int->Int->Prop)(g:Int->Int->V):R2:=fun x y H Q=>∃i j,x=.int i/\y=.int j/\C i j/\Q (g i j) H
def rI0 (g:Int->Int->V):R2:=fun x y H Q=>∃i j,x=.int i/\y=.int j/\Q (g i j) H
section
variable {X:Cx}{a b c:Expr}{ta tb tc:TE}{pos:Pos}
theorem binT (ha:PE X a ta)(hb:PE X b tb){pins:List (Addr×Obj)}{s:Shared}{σ:St}{H:Hp}{R:V->V->Hp->Prop}(I:Inv X pins σ H s)
   (h:ta σ H fun x H1=>tb σ H1 fun y H2=>R x y H2) {Q:Value->Shared->Prop} {f:Value->Value->Sem Value}
   (hf:∀v u s2 x y H2,Inv X pins σ H2 s2->RelV x v->RelV y u->R x y H2->wpAny (model X.prog X.w) X.A (f v u) Q X.xe s2) :
   wpAny (model X.prog X.w) X.A (eval a X.env) (fun v s₁=>wpAny (model X.prog X.w) X.A (eval b X.env) (fun u s₂=>wpAny (model X.prog X.w) X.A (f v u) Q X.xe s₂) X.xe s₁) X.xe s:=by
 refine thn (ha pins s σ H _ I h) fun v s1 ⟨x,H1,I1,r1,q1⟩=>?_;refine thn (hb pins s1 σ H1 _ I1 q1) fun u s2 ⟨y,H2,I2,r2,q2⟩=>?_;exact hf v u s2 x y H2 I2 r1 r2 q2
theorem a0O {op:Operator}{r:R2}(ho:OpR X (x2b op) r)(ha:PE X a ta)(hb:PE X b tb):PE X (.BinOp a op b pos) (tOp r ta tb):=by
 intro pins s σ H Q I h;exact wpAny_BinOp (binT ha hb I h fun v u s2 x y H2 I2 rx ry q=>ho pins s2 σ H2 x y v u Q I2 rx ry q)
theorem opI {f:Value->Value->Sem Value}{C:Int->Int->Prop}{g:Int->Int->Int}
   (rule:∀(i j:Int) (t u:Tok) (s:Shared) (Q:Value->Shared->Prop) (E:Value->Shared->Prop),C i j->Q (.int (g i j) s.toks) { s with toks:=s.toks + 1 }->wpAny (model X.prog X.w) X.A (f (.int i t) (.int j u)) Q E s) :
   OpR X f (rI C fun i j=>.int (g i j)):=by
 intro pins s σ H x y v u Q I rx ry h;obtain⟨i,j,rfl,rfl,hc,q⟩:=h;obtain⟨t,rfl⟩:=rx;obtain⟨t',rfl⟩:=ry;exact rule i j t t' s _ _ hc ⟨.int (g i j),H,I.tok _,⟨_,rfl⟩,q⟩
theorem opI0 {f:Value->Value->Sem Value}{g:Int->Int->Int}
   (rule:∀(i j:Int) (t u:Tok) (s:Shared) (Q:Value->Shared->Prop) (E:Value->Shared->Prop),Q (.int (g i j) s.toks) { s with toks:=s.toks + 1 }->wpAny (model X.prog X.w) X.A (f (.int i t) (.int j u)) Q E s) :
   OpR X f (rI0 fun i j=>.int (g i j)):=by
 intro pins s σ H x y v u Q I rx ry h;obtain⟨i,j,rfl,rfl,q⟩:=h;obtain⟨t,rfl⟩:=rx;obtain⟨t',rfl⟩:=ry;exact rule i j t t' s _ _ ⟨.int (g i j),H,I.tok _,⟨_,rfl⟩,q⟩
theorem opB0 {f:Value->Value->Sem Value}{g:Int->Int->Bool}
   (rule:∀(i j:Int) (t u:Tok) (s:Shared) (Q:Value->Shared->Prop) (E:Value->Shared->Prop),Q (.bool (g i j)) s->wpAny (model X.prog X.w) X.A (f (.int i t) (.int j u)) Q E s) :
   OpR X f (rI0 fun i j=>.bl (g i j)):=by
 intro pins s σ H x y v u Q I rx ry h;obtain⟨i,j,rfl,rfl,q⟩:=h;obtain⟨t,rfl⟩:=rx;obtain⟨t',rfl⟩:=ry;exact rule i j t t' s _ _ ⟨.bl (g i j),H,I,rfl,q⟩
def CDiv (i j:Int):Prop:=0 < j/\j < 1073741824
def CPow (i j:Int):Prop:=0<=j/\j<=1000000/\i.natAbs < 2 ^ 64
def CMul (i j:Int):Prop:=(-(2 ^ 64) < i/\i < 2 ^ 64)\/(-(2 ^ 64) < j/\j < 2 ^ 64)
theorem CMul.ok {i j:Int}(h:CMul i j):IntMulOk i j:=by
 rcases h with⟨h1,h2⟩ | ⟨h1,h2⟩
 · exact .of_left (intBits_le_64 h1 h2)
 · exact .of_right (intBits_le_64 h1 h2)
theorem a2C:OpR X (x2b .Add) (rI0 fun i j=>.int (i + j)):=opI0 fun _ _ _ _ _ _ _ q=>add_int q
theorem op_sub:OpR X (x2b .Sub) (rI0 fun i j=>.int (i - j)):=opI0 fun _ _ _ _ _ _ _ q=>sub_int q
theorem a2Y:OpR X (x2b .Mult) (rI CMul fun i j=>.int (i * j)):=opI fun _ _ _ _ _ _ _ hc q=>mul_int q hc.ok
theorem a6Q:OpR X (x2b .FloorDiv) (rI CDiv fun i j=>.int (i / j)):=opI fun i j _ _ _ _ _ hc q=>by
 have h1:(0:Int) < j:=hc.1;have h2:j < 1073741824:=hc.2;exact floordiv_int (by omega) (by rw [Int.fdiv_eq_ediv_of_nonneg i (by omega)];exact q) (.inl (PyProof.noPylong_small (by omega)))
theorem a2B:OpR X (x2b .Mod) (rI (fun _ j=>0 < j) fun i j=>.int (i % j)):=opI fun i j _ _ _ _ _ hc q=>by
 have h1:(0:Int) < j:=hc;exact mod_int' (by omega) (by rw [Int.fmod_eq_emod_of_nonneg i (by omega)];exact q)
theorem a8R:OpR X (x2b .Pow) (rI CPow fun i j=>.int (i ^ j.toNat)):=opI fun _ _ _ _ _ _ _ hc q=>pow_int_small hc.1 hc.2.1 hc.2.2 q
theorem b0x:OpR X (inplaceOp .Add) (rI0 fun i j=>.int (i + j)):=opI0 fun _ _ _ _ _ _ _ q=>iadd_int q
end
section
variable {X:Cx}{a b c:Expr}{ta tb tc:TE}{pos:Pos}
theorem op_lt:OpR X (x2K .Lt) (rI0 fun i j=>.bl (decide (i < j))):=opB0 fun _ _ _ _ _ _ _ q=>lt_int q
theorem op_gt:OpR X (x2K .Gt) (rI0 fun i j=>.bl (decide (j < i))):=opB0 fun _ _ _ _ _ _ _ q=>gt_int q
theorem op_ge:OpR X (x2K .GtE) (rI0 fun i j=>.bl (decide (j<=i))):=opB0 fun _ _ _ _ _ _ _ q=>ge_int q
theorem OpR.or {f:Value->Value->Sem Value}{r r':R2}(h:OpR X f r)(h':OpR X f r'):OpR X f (fun x y H Q=>r x y H Q\/r' x y H Q):=by
 intro pins s σ H x y v u Q I rx ry q;rcases q with q | q
 · exact h pins s σ H x y v u Q I rx ry q
 · exact h' pins s σ H x y v u Q I rx ry q
theorem a1K (b:Expr){op:CmpOp}(h:op≠.In:=by decide)(h2:op≠.NotIn:=by decide):behindInMarks op b=false:=by
 have e1:(op == CmpOp.In)=false:=by cases op <;> first | rfl | exact absurd rfl h
 have e2:(op == CmpOp.NotIn)=false:=by cases op <;> first | rfl | exact absurd rfl h2
 cases b <;> simp [behindInMarks,e1,e2]
def tTest (t:TE):TT:=fun σ H Q=>t σ H fun x H'=>∃k,x=.bl k/\Q k H'
theorem a3o {op:CmpOp}{r:R2}(ho:OpR X (x2K op) r)(ha:PE X a ta)(hb:PE X b tb)(hm:behindInMarks op b=false):PT X (.Compare a [op] [b] pos) (tTest (tOp r ta tb)):=by
 intro pins s σ H Q I h
 refine wpAny_isTrue_Compare1 (thn (ha pins s σ H _ I h) fun v s1 ⟨x,H1,I1,r1,q1⟩=>thn (hb pins s1 σ H1 _ I1 q1) fun u s2 ⟨y,H2,I2,r2,q2⟩=>
   thn (ho pins s2 σ H2 x y v u _ I2 r1 r2 q2) fun c s3 ⟨z,H3,I3,r3,k,e,q3⟩=>?_) hm
 subst e;cases r3;exact x2C ⟨H3,I3,q3⟩
theorem a3a:(x0t:Nat) < 2 ^ 63:=by rw [x1Y];decide
theorem a5B:OpR X (x2b .Add) (fun x y H Q=>∃i j,x=.str i/\y=.str j/\i.length + j.length<=x0t/\Q (.str (i++j)) H):=by
 intro pins s σ H x y v u Q I rx ry h;obtain⟨i,j,rfl,rfl,hz,q⟩:=h;obtain⟨t,rfl⟩:=rx;obtain⟨t',rfl⟩:=ry;exact add_str (fun t' tk=>⟨.str (i++j),H,I.tok _,⟨_,rfl⟩,q⟩) hz
theorem a5r {x:V}{us:List Value}(r:Vals [x] us):∃u,us=[u]/\RelV x u:=by
 cases r with
 | cons r1 r2=>cases r2;exact⟨_,rfl,r1⟩
theorem vals2 {x y:V}{us:List Value}(r:Vals [x,y] us):∃u w',us=[u,w']/\RelV x u/\RelV y w':=by
 cases r with
 | cons r1 r2 =>
   cases r2 with
   | cons r3 r4=>cases r4;exact⟨_,_,rfl,r1,r3⟩
theorem a8v:a1F X (.builtin "abs") (fun xs H Q=>∃i,xs=[.int i]/\Q (.int (if i < 0 then -i else i)) H):=by
 intro pins s σ H xs us Q I r h;obtain⟨i,rfl,q⟩:=h;obtain⟨u,rfl,t,rfl⟩:=a5r r;exact call_abs_int fun u tk=>⟨.int (if i < 0 then -i else i),H,I.tok _,⟨_,rfl⟩,q⟩
theorem a7v (hc:X.calm=true):a1F X (.builtin "max") (fun xs H Q=>∃i j,xs=[.int i,.int j]/\Q (.int (if j > i then j else i)) H):=by
 intro pins s σ H xs us Q I r h;obtain⟨i,j,rfl,q⟩:=h;obtain⟨u,w',rfl,⟨t,rfl⟩,⟨t',rfl⟩⟩:=vals2 r;refine max_two_ints (I.ok.hd hc) fun h' tk k=>⟨_,H,I.kept k,?_,q⟩
 by_cases hj:j > i
 · rw [if_pos hj,if_pos hj];exact⟨_,rfl⟩
 · rw [if_neg hj,if_neg hj];exact⟨_,rfl⟩
theorem a7u (hc:X.calm=true):a1F X (.builtin "min") (fun xs H Q=>∃i j,xs=[.int i,.int j]/\Q (.int (if j < i then j else i)) H):=by
 intro pins s σ H xs us Q I r h;obtain⟨i,j,rfl,q⟩:=h;obtain⟨u,w',rfl,⟨t,rfl⟩,⟨t',rfl⟩⟩:=vals2 r;refine min_two_ints (I.ok.hd hc) fun h' tk k=>⟨_,H,I.kept k,?_,q⟩
 by_cases hj:j < i
 · rw [if_pos hj,if_pos hj];exact⟨_,rfl⟩
 · rw [if_neg hj,if_neg hj];exact⟨_,rfl⟩
end
structure ObjM (h:Heap)(x dx C:Addr)(mA:Str->Option Value):Prop where
 obj:h.get? x=some (PySem.W.instObj C dx)
 ns:h.Ns1 dx mA
 ne:dx≠x
theorem a7a {h:Heap}{dx:Addr}{mA:Str->Option Value}(n:h.Ns1 dx mA):∃od,h.get? dx=some od/\∀name,PySem.W.lookIn name od=some (mA name):=by
 obtain⟨o,es,ep,ho,hd,hk,_,hm⟩:=n;refine⟨o,ho,fun name=>?_⟩;have e:=hm name;unfold nsFind findBy at e;rw [<- Array.find?_toList] at e;unfold PySem.W.lookIn;rw [hd];dsimp only
 split
 · rename_i y q;rw [q] at e;exact congrArg some e
 · rename_i q;rw [q] at e
   have a:es.toList.any (·.refKey)=false:=by
     rw [List.any_eq_false];intro y hy;obtain⟨z,t,hkey⟩:=hk y (Array.mem_toList_iff.mp hy);simp [DictEntry.refKey,hkey]
   have a':¬es.toList.any (·.refKey)=true:=by rw [a];exact x0E
   rw [if_neg a'];exact congrArg some e
theorem ObjM.look {h:Heap}{x dx C:Addr}{mA:Str->Option Value}(I:ObjM h x dx C mA):∃od,PySem.W.InstAt h x (PySem.W.instObj C dx) C (some od)/\∀name,PySem.W.lookIn name od=some (mA name):=
 let ⟨od,ho,hl⟩:=a7a I.ns
 ⟨od,⟨I.obj,rfl,rfl,ho⟩,hl⟩
section
variable {P:x0x}{w:World}{H H':Hp}{h h':Heap}{a C dx:Addr}{fs fs':List (Str×V)}
theorem b0y (hok:HOk P w H h)(e:H a=some (.ins C dx fs)):∃mA,ObjM h a dx C mA/\(∀f,RelO (fs.lookup f) (mA f))/\PySem.Within mA (fs.map (·.1))/\fs.length<=1000/\H dx=some (.own a):=by
 obtain⟨d,z,ne,ob,mA,n,r,q⟩:=(show a0J P w H h a (.ins C dx fs) from hok a _ e);exact⟨mA,⟨ob,n,ne⟩,r,q,z,d⟩
end
structure Cls (K:x0a)(C:Addr):Prop where
 pg:PySem.W.plainGet K C Str.empty=true
 hd:PySem.W.hasDictIn K C=true
 po:PySem.W.plainOver K C=true
 sa:PySem.W.findIn K (.ref C) "__setattr__"=some (some (.builtin "object.__setattr__"))
theorem Cls.get {K:x0a}{C:Addr}(c:Cls K C)(f:Str):PySem.W.plainGet K C f=true:=c.pg
section
variable {X:Cx}{pins:List (Addr×Obj)}{σ:St}{H:Hp}{s:Shared}{A:Around}{E:Value->Shared->Prop}{Q:Value->Shared->Prop}{c:Value}{b:Bool}
inductive TyOf (K:x0a)(H:Hp):V->Value->Prop where
 | non:TyOf K H .non (.type "NoneType")
 | bl (x:Bool):TyOf K H (.bl x) (.type "bool")
 | int (i:Int):TyOf K H (.int i) (.type "int")
 | str (x:Str):TyOf K H (.str x) (.type "str")
 | flt (x:UInt64):TyOf K H (.flt x) (.type "float")
 | lst {a:Addr} {xs:List V} (e:H a=some (.lst xs)):TyOf K H (.ref a) (.type "list")
 | frz {a:Addr} {o:Obj} {xs:List V} (e:H a=some (.frz o (.lst xs))):TyOf K H (.ref a) (.type "list")
 | tup {a:Addr} {xs:List V} (e:H a=some (.tup xs)):TyOf K H (.ref a) (.type "tuple")
 | dK {a:Addr} {kvs:List (Key×V)} (e:H a=some (.dK kvs)):TyOf K H (.ref a) (.type "dict")
 | dT {a:Addr} {kvs:List (List Key×V)} (e:H a=some (.dT kvs)):TyOf K H (.ref a) (.type "dict")
 | ins {a C dx:Addr} {fs:List (Str×V)} (e:H a=some (.ins C dx fs)) (cl:Cls K C) (ha:PySem.W.findIn K (.ref C) "__class__"=some (some (.builtin "object.__class__")))
     (hn:PySem.W.specialIn K (.builtin "object.__class__") "__get__"=some (some (.builtin "getset_descriptor.__get__"))) (htk:PySem.W.takesIn K (.builtin "object.__class__")=some true)
     (hm:PySem.W.mroIn K C (.type "object")=some true):TyOf K H (.ref a) (.ref C)
theorem a7f {x:V}{u t:Value}(I:Inv X pins σ H s)(rx:RelV x u)(ty:TyOf X.K H x t)(e:x2H X.K t c=some b)(h:∀tk,Q (.bool b) { s with toks:=tk }) :
   wpAny (model X.prog X.w) A (call (.builtin "isinstance") [u,c]) Q E s:=by
 cases ty with
 | non=>cases(show u=x2l from rx);exact x0Z PySem.W.kitx_none I.kIn x3j e (fun z=>nomatch z) h
 | bl y=>cases(show u=Value.bool y from rx);exact x0Z PySem.W.kitx_bool I.kIn x3j e (fun z=>nomatch z) h
 | int i=>obtain⟨t,q⟩:=(show ∃t,u=Value.int i t from rx);cases q;exact x0Z PySem.W.kitx_int I.kIn x3j e (fun z=>nomatch z) h
 | str y=>obtain⟨t,q⟩:=(show ∃t,u=Value.str y t from rx);cases q;exact x0Z PySem.W.kitx_str I.kIn x3j e (fun z=>nomatch z) h
 | flt y=>obtain⟨t,q⟩:=(show ∃t,u=Value.float y t from rx);cases q;exact x0Z PySem.W.kitx_float I.kIn x3j e (fun z=>nomatch z) h
 | @lst a xs ea =>
   cases(show u=x0Y a from rx);obtain⟨_,_,n,_,h1⟩:=(show a0J X.prog X.w H s.heap a (.lst xs) from I.hok a _ ea);exact x0Z PySem.W.kitx_list I.kIn ⟨_,h1,rfl⟩ e (fun z=>nomatch z) h
 | @frz a ob xs ea =>
   cases(show u=x0Y a from rx);obtain⟨_,_,_,n,_,h1⟩:=(show a0J X.prog X.w H s.heap a (.frz ob (.lst xs)) from I.hok a _ ea);exact x0Z PySem.W.kitx_list I.kIn ⟨_,h1,rfl⟩ e (fun z=>nomatch z) h
 | @tup a xs ea =>
   cases(show u=x0Y a from rx);obtain⟨_,_,_,p⟩:=(show a0J X.prog X.w H s.heap a (.tup xs) from I.hok a _ ea);obtain⟨o,h1,h2,_⟩:=p;exact x0Z PySem.W.kitx_tuple I.kIn ⟨o,h1,(x2V h2).1⟩ e (fun z=>nomatch z) h
 | @dK a kvs ea =>
   cases(show u=x0Y a from rx);obtain⟨_,_,vs,_,p⟩:=(show a0J X.prog X.w H s.heap a (.dK kvs) from I.hok a _ ea);obtain⟨o,es,ep,h1,h2,_⟩:=p;exact x0Z PySem.W.kitx_dict I.kIn ⟨o,h1,h2.1⟩ e (fun z=>nomatch z) h
 | @dT a kvs ea =>
   cases(show u=x0Y a from rx);obtain⟨_,_,xs,_,o,es,ep,h1,h2,_⟩:=(show a0J X.prog X.w H s.heap a (.dT kvs) from I.hok a _ ea);exact x0Z PySem.W.kitx_dict I.kIn ⟨o,h1,h2.1⟩ e (fun z=>nomatch z) h
 | @ins a C dx fs ea cl ha hn htk hm =>
   cases(show u=x0Y a from rx);obtain⟨mA,O,_⟩:=b0y I.hok ea;obtain⟨od,J,_⟩:=O.look;exact x0Z (PySem.W.kitx_own (cl.get _) cl.hd ha hn htk hm) I.kIn J e (fun z=>nomatch z) h
end
structure Room (k:Nat)(A:Around):Prop where
 hd:A.handled=none
 dp:A.depth + 3 * k + 5 < recursionLimit
 un:A.units + 16 * k + 200 < cLine
 gd:A.guards=some []
theorem Room.mono {j k:Nat}{A:Around}(r:Room k A)(h:j<=k):Room j A:=⟨r.hd,by have:=r.dp;omega,by have:=r.un;omega,r.gd⟩
theorem Room.deeper {k:Nat}{A:Around}(r:Room (k + 1) A)(env:Env):Room k (A.deeper env):=
 ⟨r.hd,by have:=r.dp;show A.depth + 1 + 3 * k + 5 < _;omega,by have:=r.un;show A.units + 3 + 16 * k + 200 < _;omega,r.gd⟩
theorem Room.depth {k:Nat}{A:Around}(r:Room k A):A.depth < recursionLimit:=by have:=r.dp;omega
theorem Room.units {k:Nat}{A:Around}(r:Room k A):A.units + 64 < cLine:=by have:=r.un;omega
def tNil:TA:=fun _ H Q=>Q [] H
def a3e (ta:TE)(tr:TA):TA:=fun σ H Q=>ta σ H fun x H1=>tr σ H1 fun xs H2=>Q (x::xs) H2
section
variable {X:Cx}{e:Expr}{es:List Expr}{te:TE}{t:TA}{pos:Pos}
theorem a0C:PA X [] tNil:=fun _ _ _ _ H Q I h=>Calls.spliced_nil ⟨[],H,I,.nil,h⟩
theorem a0m (ha:PE X e te)(hr:PA X es t)(hs:x0P (e::es) X.env=(false,eval e X.env)::x0P es X.env:=by rfl):PA X (e::es) (a3e te t):=by
 intro pos pins s σ H Q I h;rw [hs];show wpAny _ _ (spliced ((false,eval e X.env)::backTo pos (x0P es X.env))) _ _ s;refine Calls.spliced_cons (thn (ha pins s σ H _ I h) fun u s1 ⟨x,H1,I1,r1,q1⟩=>?_);exact thn (hr pos pins s1 σ H1 _ I1 q1) fun us s2 ⟨xs,H2,I2,r2,q2⟩=>⟨x::xs,H2,I2,.cons r1 r2,q2⟩
def tTup (t:TA):TE:=fun σ H Q=>t σ H fun xs H1=>xs.length<=x0t/\∀p,H1 p=none->Q (.ref p) (upd H1 p (.tup xs))
def tLst (t:TA):TE:=fun σ H Q=>t σ H fun xs H1=>xs.length<=x0t/\∀p,H1 p=none->Q (.ref p) (upd H1 p (.lst xs))
theorem a8P {x1}(h:PA X es t):PE X (.Tuple es x1 pos) (tTup t):=by
 intro pins s σ H Q I hq;refine wpAny_Tuple_spliced (thn (h pos pins s σ H _ I hq) fun us s1 ⟨xs,H1,I1,r,z,q⟩=>⟨by rw [<- r.length];exact z,?_⟩);have hf:H1 s1.heap.objs.size=none:=I1.hok.fresh (x0s _);refine⟨.ref s1.heap.objs.size,upd H1 s1.heap.objs.size (.tup xs),I1.laid (t':=s1.toks) (fun b u e=>x0d _ e) (x0s _) ?_,rfl,q _ hf⟩;exact⟨z,us,r,⟨_,x0y _ rfl,rfl,_,rfl⟩⟩
theorem a8Q (h:PA X es t):PE X (.List es pos) (tLst t):=by
 intro pins s σ H Q I hq;refine wpAny_List_spliced (thn (h pos pins s σ H _ I hq) fun us s1 ⟨xs,H1,I1,r,z,q⟩=>⟨by rw [<- r.length];exact z,?_⟩);have hf:H1 s1.heap.objs.size=none:=I1.hok.fresh (x0s _);refine⟨.ref s1.heap.objs.size,upd H1 s1.heap.objs.size (.lst xs),I1.laid (t':=s1.toks) (fun b u e=>x0d _ e) (x0s _) ?_,rfl,q _ hf⟩;exact⟨z,us,0,r,x0y _ rfl⟩
end
abbrev Sp:=List V->Hp->VK->XK->Prop
abbrev CXT:=List Env->Hp->Shared->XK->Value->Shared->Prop
structure Env0 (P:x0x)(w:World)(K:x0a)(mg:Str->Option Value)(base:Heap)(A:Around)(outer:List Env)(s:Shared)(H:Hp):Prop where
 frames:A.frames=some outer
 mod:Mod K mg base
 bs:∀b o,base.get? b=some o->s.heap.get? b=some o/\H b=none
 bsz:base.objs.size<=s.heap.objs.size
 funs:s.heap.FunFrames base outer
 frf:∀b∈frs outer,H b=none
 hok:HOk P w H s.heap
 bare:AllBare s.gens
 nos:NS H
def CE (outer:List Env)(P:x0x)(w:World)(H:Hp)(s:Shared)(Q:VK)(u:Value)(s':Shared):Prop:=
 ∃v H',s'.os=s.os/\AllBare s'.gens/\Un (frs outer) [] H H' s.heap s'.heap/\HOk P w H' s'.heap/\RelV v u/\Q v H'
def CR (CX:CXT)(outer:List Env)(P:x0x)(w:World)(H:Hp)(s:Shared)(Q:VK)(E:XK)(r:Result)(s':Shared):Prop:=
 match r with
 | .ok (.ret u)=>CE outer P w H s Q u s'
 | .ok _=>False
 | .error e=>CX outer H s E e s'
structure FnOk (P:x0x)(w:World)(K:x0a)(mg:Str->Option Value)(base:Heap)(CX:CXT)(k:Nat)(f:Addr)(fd:x2u)(ps:List Str)(sp:Sp):Prop where
 len:∀vs H Q E,sp vs H Q E->vs.length=ps.length
 run:∀(A:Around) (outer:List Env) (s:Shared) (H:Hp) (args:Args) (us:List Value) (vs:List V) (Q:VK) (E:XK),Room k A->Env0 P w K mg base A outer s H->BindsTo s fd args (ps.zip us)->Vals vs us->sp vs H Q E->
   x2c (model P w) A (.call (.ref f) args) (CR CX outer P w H s Q E) s
theorem FnOk.imp {P:x0x}{w:World}{K:x0a}{mg:Str->Option Value}{base:Heap}{CX:CXT}{k:Nat}{f:Addr}{fd:x2u}{ps:List Str}{sp sp':Sp}(F:FnOk P w K mg base CX k f fd ps sp)
   (h:∀vs H Q E,sp' vs H Q E->sp vs H Q E):FnOk P w K mg base CX k f fd ps sp':=
 ⟨fun vs H Q E q=>F.len vs H Q E (h _ _ _ _ q),fun A outer s H args us vs Q E hr he hb hv hs=>F.run A outer s H args us vs Q E hr he hb hv (h _ _ _ _ hs)⟩
section
variable {X:Cx}{pins:List (Addr×Obj)}{σ:St}{H:Hp}{s s':Shared}
theorem Inv.env0 (I:Inv X pins σ H s):Env0 X.prog X.w X.K X.mg X.base X.A X.stack s H:=
 ⟨I.ok.frames,I.ok.mod,I.bs,x0U I.ok.bsz I.sz,I.stack,I.stkFree,I.hok,I.bare,I.nos⟩
theorem Inv.after {Q:VK}{u:Value}(I:Inv X pins σ H s)(h:CE X.stack X.prog X.w H s Q u s'):EP X pins σ Q u s':=by
 obtain⟨v,H',os,bare,un,hok,r,q⟩:=h;obtain⟨hh,g,d,t,os'⟩:=s';obtain rfl:os'=s.os:=os;exact⟨v,H',I.call (h':=hh) (g':=g) (d':=d) (t':=t) (ch:=[]) un hok bare (fun b z=>absurd z (by simp)),r,q⟩
end
def tCall (sp:Sp)(dvs:List V)(E:XK)(t:TA):TE:=fun σ H Q=>t σ H fun vs H1=>sp (vs++dvs) H1 Q E
def a5W (K:x0a)(fd:x2u)(ps:List Str)(ds:List Value):Prop:=
 ∀(s:Shared) (us:List Value),K.In s.heap->(us++ds).length=ps.length->BindsTo s fd ⟨us,[]⟩ (ps.zip (us++ds))
theorem a5W.all {K:x0a}{fd:x2u}{ps:List Str}(h:∀us:List Value,us.length=ps.length->bindArgs fd ⟨us,[]⟩=pure (ps.zip us)):a5W K fd ps []:=fun s us _ hl=>by
 rw [x1e] at hl ⊢;exact .of_eq (h us hl)
def a7B (CX:CXT)(X:Cx)(E:XK):Prop:=∀(pins:List (Addr×Obj)) (σ:St) (H:Hp) (s:Shared) (e:Value) (s':Shared),Inv X pins σ H s->CX X.stack H s E e s'->X.xe e s'
section
variable {X:Cx}{CX:CXT}{k:Nat}{f C:Addr}{fd:x2u}{ps:List Str}{sp:Sp}{dvs:List V}{ds:List Value}{E:XK}{x m:Str}{p pos apos:Pos}{e o:Expr}{es:List Expr}{ta:TE}{t:TA}
theorem run_fn {pins:List (Addr×Obj)}{σ:St}{H:Hp}{s:Shared}{Q:VK}{us:List Value}{vs:List V}(F:FnOk X.prog X.w X.K X.mg X.base CX k f fd ps sp)(hr:Room k X.A)(hb:a5W X.K fd ps ds)(hd:Vals dvs ds)(hx:a7B CX X E)
   (I:Inv X pins σ H s) (r:Vals vs us) (h:sp (vs++dvs) H Q E):wpAny (model X.prog X.w) X.A (call (.ref f) us) (EP X pins σ Q) X.xe s:=by
 have r2:Vals (vs++dvs) (us++ds):=r.append hd;have hl:(us++ds).length=ps.length:=by rw [<- r2.length];exact F.len _ _ _ _ h
 refine wpAny_call (codeAny_mono (F.run X.A X.stack s H ⟨us,[]⟩ (us++ds) (vs++dvs) Q E hr I.env0 (hb s us I.kIn hl) r2 h) fun r s' hq=>?_);cases r with
 | error e=>exact hx pins σ H s e s' I hq
 | ok fl =>
   cases fl with
   | ret u=>exact I.after hq
   | next=>exact x2a hq
   | brk=>exact x2a hq
   | cont=>exact x2a hq
theorem b0f (F:FnOk X.prog X.w X.K X.mg X.base CX k f fd ps sp)(hr:Room k X.A)(hg:Gl X x)(hm:X.mg x=some (.ref f))(hk:x2I X.K (.ref f)=true)(hb:a5W X.K fd ps ds)(hd:Vals dvs ds)(hx:a7B CX X E)
   (ha:PA X (e::es) t) (hdb:(x == ("__debug__":Str))=false:=by decide) (he:x0P (e::es) X.env=(false,eval e X.env)::x0P es X.env:=by rfl) (hpl:(backTo pos (x0P es X.env)).any (·.1)=false:=by rfl) :
   PE X (.Call (.Name x p) (e::es) [] pos) (tCall sp dvs E t):=by
 intro pins s σ H Q I h;refine x1G (b0s I hg hm ?_ hdb);refine PySem.W.callWith_K (h₀:=X.base) I.ok.mod.kin hk (thn (ha pos pins s σ H _ I h) fun us s1 ⟨vs,H1,I1,r,q⟩=>⟨I1.kIn,?_⟩) he hpl;exact run_fn F hr hb hd hx I1 r q
end
def PK (X:Cx)(kws:List Keyword)(t:TA):Prop:=
 ∀(pos:Pos) (pins:List (Addr×Obj)) (s:Shared) (σ:St) (H:Hp) (Q:List V->Hp->Prop),Inv X pins σ H s->t σ H Q->wpAny (model X.prog X.w) X.A (evalAll ((backToKw pos (keywordEach kws X.env)).map (·.2))) (AP X pins σ Q) X.xe s
structure a0y (N P:List Str)(sc:Scope):Prop where
 kind:sc.kind=.function
 co:sc.isCoroutine=false
 gen:sc.isGenerator=false
 nd:N.Nodup
 pre:N.take P.length=P
 par:∀x∈P,sc.names.lookup x=some .local\/sc.names.lookup x=some .cell
 nofree:∀y∈sc.names,y.2≠.free
theorem a4e {kindOf:Str->Option NameKind}{x:Str}:∀{binds:List (Str×Value)} {m:Str->Option Value},(∀v,(x,v)∉binds)->bindL kindOf binds m x=m x
 | [],_,_=>rfl
 | (n, v) :: r, m, h => by
   unfold bindL;rw [a4e fun w hw=>h w (x0c _ hw)]
   split
   · have:x≠n:=by rintro rfl;exact h v x0f
     simp [this]
   · rfl
theorem a4g {kindOf:Str->Option NameKind}{x:Str}:∀{binds:List (Str×Value)} {m:Str->Option Value},(∀v,(x,v)∉binds)->bindC kindOf binds m x=m x
 | [],_,_=>rfl
 | (n, v) :: r, m, h => by
   unfold bindC;rw [a4g fun w hw=>h w (x0c _ hw)]
   split
   · rfl
   · have:x≠n:=by rintro rfl;exact h v x0f
     simp [this]
theorem a4f {kindOf:Str->Option NameKind}{x:Str}{v:Value}:∀{P:List Str} {vs:List Value} {i:Nat} {m:Str->Option Value},P.Nodup->P[i]?=some x->vs[i]?=some v->kindOf x=some .local->
   bindL kindOf (P.zip vs) m x=some v
 | [],_,_,_,_,h,_,_=>by simp at h
 | _::_,[],_,_,_,_,h,_=>by simp at h
 | p :: P, w :: vs, 0, m, nd, h1, h2, hk => by
   simp at h1 h2;subst h1;subst h2;show bindL kindOf ((p,w)::P.zip vs) m p=_;unfold bindL;rw [a4e fun v hv=>(x2X.mp nd).1 (List.of_mem_zip hv).1,if_pos hk];simp
 | p :: P, w :: vs, i + 1, m, nd, h1, h2, hk => by
   show bindL kindOf ((p,w)::P.zip vs) m x=_;unfold bindL;exact a4f (i:=i) (x2X.mp nd).2 (by simpa using h1) (by simpa using h2) hk
theorem a4h {kindOf:Str->Option NameKind}{x:Str}{v:Value}:∀{P:List Str} {vs:List Value} {i:Nat} {m:Str->Option Value},P.Nodup->P[i]?=some x->vs[i]?=some v->kindOf x≠some .local->
   bindC kindOf (P.zip vs) m x=some v
 | [],_,_,_,_,h,_,_=>by simp at h
 | _::_,[],_,_,_,_,h,_=>by simp at h
 | p :: P, w :: vs, 0, m, nd, h1, h2, hk => by
   simp at h1 h2;subst h1;subst h2;show bindC kindOf ((p,w)::P.zip vs) m p=_;unfold bindC;rw [a4g fun v hv=>(x2X.mp nd).1 (List.of_mem_zip hv).1,if_neg hk];simp
 | p :: P, w :: vs, i + 1, m, nd, h1, h2, hk => by
   show bindC kindOf ((p,w)::P.zip vs) m x=_;unfold bindC;exact a4h (i:=i) (x2X.mp nd).2 (by simpa using h1) (by simpa using h2) hk
def start (N:List Str)(vs:List V):St:=vs.map some++List.replicate (N.length - vs.length) none
def cxOf (CX:CXT)(P:x0x)(w:World)(K:x0a)(mg:Str->Option Value)(base:Heap)(N:List Str)(qual:Str)(scope:Scope)(f:Addr)(cd:Value)(A:Around)(outer:List Env)(s:Shared)(H:Hp)(E:XK):Cx where
 prog:=P
 w:=w
 K:=K
 mg:=mg
 base:=base
 A:=A.deeper (envOfC qual scope s.heap.objs.size f cd)
 N:=N
 s₀:=s
 H₀:=H
 env:=envOfC qual scope s.heap.objs.size f cd
 outer:=outer
 stack:=envOfC qual scope s.heap.objs.size f cd::outer
 ex:=[]
 calm:=true
 fn:=fun _=>true
 pn:=[]
 xe:=fun e s'=>wpAny (model P w) (A.deeper (envOfC qual scope s.heap.objs.size f cd)) (leaving (envOfC qual scope s.heap.objs.size f cd) e) (fun _ s''=>CX outer H s E e s'') (fun e' s''=>CX outer H s E e' s'') s'
theorem a5m {sc:Scope}{n:Nat}{x:Str}(h:sc.names.lookup x=some .cell):∃c,(cellsFrom n sc.names []).lookup x=some c:=by
 have q:=PySem.W.cellsFrom_some sc.names n [] (.inl h);exact x1r.mp q
theorem a7g {CX:CXT}{P:x0x}{w:World}{K:x0a}{mg:Str->Option Value}{base:Heap}{N ps:List Str}{qual:Str}{scope:Scope}{f:Addr}{cd:Value}{A:Around}{outer:List Env}{s s1:Shared}{H:Hp}{E:XK}{us:List Value}{vs:List V}
   (S:a0y N ps scope) (hd:A.handled=none) (e0:Env0 P w K mg base A outer s H) (hl:vs.length=ps.length) (r:Vals vs us)
   (x:InCallC s s.heap.objs.size (bindL (envOfC qual scope s.heap.objs.size f cd).kindOf (ps.zip us) fun _=>none) (cellsFrom (s.heap.objs.size + 1) scope.names []) (bindC (envOfC qual scope s.heap.objs.size f cd).kindOf (ps.zip us) fun _=>none) s1) :
   Inv (cxOf CX P w K mg base N qual scope f cd A outer s H E) [] (start N vs) H s1:=by
 have hpl:ps.length<=N.length:=by have:=congrArg List.length S.pre;rw [x2f] at this;omega
 obtain⟨h1,tk,rfl,hk⟩:=x.done;have noA:∀b:Addr,b∉(cxOf CX P w K mg base N qual scope f cd A outer s H E).ex:=fun b z=>absurd (show b∈([]:List Addr) from z) (by simp)
 refine⟨⟨e0.mod,S.kind,rfl,rfl,x0s _,fun y z c h1 h2=>?_,fun y hy=>?_,fun y c _ h=>?_,fun _=>hd,Around.frames_deeper e0.frames,.inr ⟨rfl,rfl⟩,fun b z=>absurd z (noA b),e0.bs,e0.bsz,fun b _ _=>noA b,fun b z=>absurd z (noA b),e0.funs,e0.frf,e0.nos⟩,
   rfl,e0.bare,Un.kept hk,⟨_,x.toInCall.ns,fun i y v h1 h2 h3=>?_⟩,fun y c h=>⟨_,x.cell y c h⟩,e0.hok.fresh (x0s _),fun y c h=>?_,fun p hp=>absurd (show p∈([]:List (Addr×Obj)) from hp) (by simp),e0.hok.kept hk,?_⟩
 · exact name_of_addr x.apart (x1l h1) (x1l h2)
 · have hy:scope.names.lookup y=some .cell\/scope.names.lookup y=some .free:=hy;rcases hy with hy | hy
   · exact a5m hy
   · exact absurd rfl (S.nofree _ (x1l hy))
 · exact Nat.le_of_lt (x.above y c (x1l h))
 · have hi:i < vs.length:=by
     unfold start at h2
     by_cases hi:i < vs.length
     · exact hi
     · rw [x1j (by simpa using hi)] at h2;rw [x2v] at h2
       split at h2 <;> cases h2
   have ha:vs[i]?=some v:=by
     unfold start at h2;rw [x0F (by simpa using hi),x0p] at h2;cases e:vs[i]? with
     | none=>rw [e] at h2;cases h2
     | some a=>rw [e] at h2;cases h2;rfl
   obtain⟨u,hu,rv⟩:=r.get ha
   have hp:ps[i]?=some y:=by
     rw [<- S.pre,List.getElem?_take_of_lt (by omega)];exact h1
   have ndP:ps.Nodup:=by rw [<- S.pre];exact S.nd.sublist (List.take_sublist _ _)
   refine⟨u,rv,?_⟩;rcases S.par y (x0X hp) with k | k
   · exact .inl ⟨k,a4f ndP hp hu k⟩
   · obtain⟨c,e⟩:=a5m (n:=s.heap.objs.size + 1) k;refine .inr ⟨.inl k,c,e,?_⟩;have q:=x.cell y c e;rw [a4h ndP hp hu (by show scope.names.lookup y≠_;rw [k];decide)] at q;exact q
 · exact e0.hok.fresh (Nat.le_of_lt (x.above y c (x1l h)))
 · unfold start;show _=N.length;rw [x0l,x0e,List.length_replicate];omega
theorem fn_of {CX:CXT}{P:x0x}{w:World}{K:x0a}{mg:Str->Option Value}{base:Heap}{k:Nat}{f:Addr}{name qual:Str}{params:Arguments}{body:List Stmt}{scope:Scope}{dV kV doc pm cdv ct oc:Value}{an od:Option Addr}
   {osl:Array (Option Value)} {N ps:List Str} {sp:Sp} (lk:K.lookup f=some ⟨oc,od,.func (x1w name qual params body scope dV kV doc pm an cdv ct),osl⟩) (hcd:x3g K cdv qual=true) (S:a0y N ps scope)
   (len:∀vs H Q E,sp vs H Q E->vs.length=ps.length)
   (hbody:∀(A:Around) (outer:List Env) (s:Shared) (H:Hp) (vs:List V) (Q:VK) (E:XK),Room k (A.deeper (envOfC qual scope s.heap.objs.size f cdv))->sp vs H Q E->
     ∃t,PSs (cxOf CX P w K mg base N qual scope f cdv A outer s H E) body t/\t { nx:=fun _ H'=>Q .non H',rt:=Q } (start N vs) H) :
   FnOk P w K mg base CX (k + 1) f (x1w name qual params body scope dV kV doc pm an cdv ct) ps sp:=by
 refine⟨len,fun A outer s H args us vs Q E hr e0 hb r hsp=>?_⟩;have hl:=len _ _ _ _ hsp;have KX:K.In s.heap:=e0.mod.kin.keeps fun b o e=>(e0.bs b o e).1;have lim:s.heap.NoLimit:=e0.mod.nolimit.keeps fun b o e=>(e0.bs b o e).1
 have hkind:∀y∈ps.zip us,scope.names.lookup y.1=some .local\/(scope.names.lookup y.1=some .cell/\((cellsFrom (s.heap.objs.size + 1) scope.names []).lookup y.1).isSome=true):=fun⟨n,v⟩ hy=>by
   rcases S.par n (List.of_mem_zip hy).1 with q | q
   · exact .inl q
   · exact .inr ⟨q,PySem.W.cellsFrom_some _ _ _ (.inl q)⟩
 refine codeAny_call_function hr.depth (KX _ _ lk) rfl S.co S.gen rfl (PySem.W.codeRec_of KX hcd) (hb _ _ _ _ ?_);refine wpAny_newFunctionEnv_cells S.kind hkind fun env he s1 x=>?_;subst he;refine⟨lim.keeps x.toInCall.keep,codeAny_func ?_⟩;obtain⟨t,ht,hq⟩:=hbody A outer s H vs Q E (hr.deeper _) hsp;have I:Inv (cxOf CX P w K mg base N qual scope f cdv A outer s H E) [] (start N vs) H s1:=a7g S hr.hd e0 hl r x;refine x0K (ht [] s1 (start N vs) H _ I hq) (fun fl s' hs=>?_) fun e s' hs=>hs
 have fin:∀{σ':St} {H':Hp} {v:V} {u:Value},Inv (cxOf CX P w K mg base N qual scope f cdv A outer s H E) [] σ' H' s'->RelV v u->Q v H'->CE outer P w H s Q u s':=
   fun {σ' H' v u} J rv q=>⟨v,H',J.os,J.bare,J.base,J.hok,rv,q⟩
 cases fl with
 | ret u =>
   obtain⟨v,σ',H',J,rv,q⟩:=hs;exact fin J rv q
 | next =>
   obtain⟨σ',H',J,q⟩:=hs;exact fin (v:=V.non) (u:=x2l) J rfl q
 | brk =>
   obtain⟨_,_,_,q⟩:=hs;exact x2a q
 | cont =>
   obtain⟨_,_,_,q⟩:=hs;exact x2a q
section
variable {X:Cx}{x:Str}{p pos:Pos}{e:Expr}{es:List Expr}{t:TA}{id T:String}{r:List V->Hp->VK->Prop}
def tCB (r:List V->Hp->VK->Prop)(t:TA):TE:=fun σ H Q=>t σ H fun vs H1=>r vs H1 Q
theorem a1e (hc:a1F X (.builtin id) r)(hg:Gl X x)(hm:X.mg x=none)(hv:x0J x=some (.builtin id))(ha:PA X (e::es) t)(hn:x≠"__name__":=by decide)(hdb:(x == ("__debug__":Str))=false:=by decide)
   (he:x0P (e::es) X.env=(false,eval e X.env)::x0P es X.env:=by rfl) (hpl:(backTo pos (x0P es X.env)).any (·.1)=false:=by rfl):PE X (.Call (.Name x p) (e::es) [] pos) (tCB r t):=by
 intro pins s σ H Q I h;refine x1G (a1Z I hg hm hv ?_ hn hdb);exact PyProof.Rows.callWith_builtin1 (thn (ha pos pins s σ H _ I h) fun us s1 ⟨vs,H1,I1,r1,q1⟩=>hc pins s1 σ H1 vs us Q I1 r1 q1) he hpl
theorem a6O (hc:a1F X (.type T) r)(hg:Gl X x)(hm:X.mg x=none)(hv:x0J x=some (.type T))(ha:PA X (e::es) t)(hn:x≠"__name__":=by decide)(hdb:(x == ("__debug__":Str))=false:=by decide)
   (he:x0P (e::es) X.env=(false,eval e X.env)::x0P es X.env:=by rfl) (hpl:(backTo pos (x0P es X.env)).any (·.1)=false:=by rfl):PE X (.Call (.Name x p) (e::es) [] pos) (tCB r t):=by
 intro pins s σ H Q I h;refine x1G (a1Z I hg hm hv ?_ hn hdb);exact x0M (thn (ha pos pins s σ H _ I h) fun us s1 ⟨vs,H1,I1,r1,q1⟩=>hc pins s1 σ H1 vs us Q I1 r1 q1) he hpl
end
end L2
namespace HT
open PySem PyProof.Rows
section
variable {prog:x0x}{w:World}{A:Around}{E:Value->Shared->Prop}{s:Shared}
theorem cat_tup {t b:Addr}{vs ws:List Value}{Q:Value->Shared->Prop}(ht:IsTup s.heap t vs.toArray)(hb:IsTup s.heap b ws.toArray)(hv:vs≠[])
   (h1:ws=[]->Q (.ref t) s) (h2:ws≠[]->Q (.ref s.heap.objs.size) { s with heap:=s.heap.push { cls:=.type "tuple",data:=.seq (vs++ws).toArray } })
   (hsz:vs.length + ws.length<=x0t):wpAny (model prog w) A (x2b .Add (.ref t) (.ref b)) Q E s:=by
 obtain⟨⟨cls,dd,data,sl⟩,ho,hc,n,hd⟩:=id ht;obtain⟨⟨cls2,dd2,data2,sl2⟩,ho2,hc2,n2,hd2⟩:=id hb;simp only at hc hd hc2 hd2;subst hc hd hc2 hd2;have e:vs.toArray++ws.toArray=(vs++ws).toArray:=by simp
 by_cases hw:ws=[]
 · exact concat_meets ⟨_,ho,rfl⟩ ⟨_,ho2,rfl⟩ noFill_tuple_add seq_tuple_add x2z x2w (x2n _ _)
     (tuple_addW1 t b vs.toArray ws.toArray n n2 dd dd2 sl sl2 (by simpa using hv) (by simp [hw])) ⟨ho,ho2,h1 hw⟩
 · refine concat_meets ⟨_,ho,rfl⟩ ⟨_,ho2,rfl⟩ noFill_tuple_add seq_tuple_add x2z x2w (x2n _ _)
     (tuple_addW2 t b vs.toArray ws.toArray n n2 dd dd2 sl sl2 (by simpa using hv) (by simpa using hw) (by rw [x0j,x0j];exact hsz)) ⟨ho,ho2,?_⟩
   rw [e];exact h2 hw
def sIx (n d:Nat):Option Int->Nat
 | none=>d
 | some v=>if v < 0 then(v + (n:Int)).toNat else min v.toNat n
theorem sIx_le (n d:Nat)(hd:d<=n)(o:Option Int):sIx n d o<=n:=by
 cases o with
 | none=>exact hd
 | some v =>
   show(if v < 0 then(v + (n:Int)).toNat else min v.toNat n)<=n
   by_cases hv:v < 0
   · rw [if_pos hv];omega
   · rw [if_neg hv];exact Nat.min_le_right _ _
theorem a7t (v:Int)(n d:Nat):(if v < 0 then max (v + (n:Int)) 0 else min v (n:Int))=((sIx n d (some v):Nat):Int):=by
 show(if v < 0 then max (v + (n:Int)) 0 else min v (n:Int))=(((if v < 0 then(v + (n:Int)).toNat else min v.toNat n):Nat):Int)
 by_cases hv:v < 0
 · simp only [if_pos hv];omega
 · simp only [if_neg hv];omega
theorem a5T (lo hi:Option Int)(n:Nat):x2d lo hi 1 (n:Int)=(((sIx n 0 lo:Nat):Int),((sIx n n hi:Nat):Int)):=by
 have h1:¬((1:Int) < 0):=by omega
 unfold x2d;simp only [h1,if_false];refine Prod.ext ?_ ?_
 · cases lo with
   | none=>rfl
   | some v=>exact a7t v n 0
 · cases hi with
   | none=>rfl
   | some v=>exact a7t v n n
theorem a5z (i j:Nat):x1L (i:Int) (j:Int) 1=j - i:=by
 unfold x1L;have h1:(1:Int) > 0:=by omega
 simp only [h1,if_true,Int.ediv_one]
 split <;> omega
theorem a2S {v:Value}{o:Option Int}{Q:Option Int->Shared->Prop}(p:IsPart v o)(h:Q o s):wpAny (model prog w) A (Builtin.Slice.slicePartIndex v) Q E s:=by
 cases p with
 | none=>exact slicePart_none h
 | int i t=>exact slicePart_int h
theorem a1u {sl:Addr}{vl vu:Value}{lo hi:Option Int}{n:Nat}{Q:Int×Int×Nat->Shared->Prop}(hs:s.heap.IsSliceOf sl vl vu .none)(pl:IsPart vl lo)(pu:IsPart vu hi)
   (h:Q (((sIx n 0 lo:Nat):Int),1,sIx n n hi - sIx n 0 lo) s):wpAny (model prog w) A (x3b (.ref sl) (pure (n:Int))) Q E s:=by
 obtain⟨os,hos,hcs,hds⟩:=id hs;unfold x3b Builtin.Slice.sliceFields;refine x0b (x0b (x2i hos hds (x:=vl) rfl (x0b (x2i hos hds (x:=vu) rfl (x0b (x2i hos hds (x:=.none) rfl (x0h ?_)))))));refine x0b (slicePart_none ?_);show wpAny _ _ (if((1:Int) == 0)=true then _ else _) _ _ s;rw [if_neg (by decide)];refine x0b (a2S pl (x0b (a2S pu (x0b (x0h ?_)))));show wpAny _ _ (match x2d lo hi 1 (n:Int) with | (lo,hi)=>pure (lo,(1:Int),x1L lo hi 1)) _ _ s;rw [a5T lo hi n];show wpAny _ _ (pure (((sIx n 0 lo:Nat):Int),(1:Int),x1L ((sIx n 0 lo:Nat):Int) ((sIx n n hi:Nat):Int) 1)) _ _ s;rw [a5z];exact x0h h
theorem a7Y (xs:Array Value)(i k:Nat):((x0g k).filterMap fun(m:Nat)=>xs[((i:Int) + (m:Int) * 1).toNat]?).toArray=((xs.toList.drop i).take k).toArray:=by
 have e:(fun(m:Nat)=>xs[((i:Int) + (m:Int) * 1).toNat]?)=fun m=>xs[i + m]?:=by
   funext m
   have:((i:Int) + (m:Int) * 1).toNat=i + m:=by omega
   rw [this]
 rw [e];have:=pick_run xs i k;rw [List.filterMap_map] at this;have e2:((fun x=>xs[x]?)∘fun x=>i + x)=fun m=>xs[i + m]?:=rfl;rw [e2] at this;rw [this]
theorem getItem_tuple_cut {t sl:Addr}{items:Array Value}{vl vu:Value}{lo hi:Option Int}{Q:Value->Shared->Prop}(ht:IsTup s.heap t items)(hs:s.heap.IsSliceOf sl vl vu .none)(pl:IsPart vl lo)(pu:IsPart vu hi)
   (hw:¬(sIx items.size 0 lo=0/\sIx items.size items.size hi=items.size))
   (h:Q (.ref s.heap.objs.size) { s with heap:=s.heap.push { cls:=.type "tuple",data:=.seq ((items.toList.drop (sIx items.size 0 lo)).take (sIx items.size items.size hi - sIx items.size 0 lo)).toArray } })
   (hsz:items.size<=x0t):wpAny (model prog w) A (getItem (.ref t) (.ref sl)) Q E s:=by
 have htake:sizeOk (.seq ((items.toList.drop (sIx items.size 0 lo)).take (sIx items.size items.size hi - sIx items.size 0 lo)).toArray):=by
   show((items.toList.drop (sIx items.size 0 lo)).take (sIx items.size items.size hi - sIx items.size 0 lo)).toArray.size<=x0t;rw [x0j,x2f,List.length_drop,x1A];omega
 have hj:sIx items.size items.size hi<=items.size:=sIx_le _ _ (x0s _) hi;obtain⟨os,hos,hcs,hds⟩:=id hs;have hTs:s.TypeIs (.ref sl) "slice":=⟨os,hos,hcs⟩;unfold getItem
 try with_reducible refine x1d ?_
 first | refine x0b (x0h ?_) | skip
 refine x0b (wpAny_sequenceKey ht.typeIs (by decide) ?_)
 refine x0b (x1f (name:=x0H "__getitem__") ht.typeIs x1m
   (x1W x1m ht.typeIs entry_tuple_getitem ?_ (args_tuple_getitem _ _)))
 show wpAny _ _ (x3c (.ref t)>>=_) _ _ s;refine x0b (tupleItemsOf_ ht ?_);refine x0b (x2L hTs ?_);rw [if_pos (by decide)];refine x0b (a1u hs pl pu ?_)
 have hno:¬((((sIx items.size 0 lo:Nat):Int) == 0 && (1:Int) == 1 && (sIx items.size items.size hi - sIx items.size 0 lo) == items.size)=true):=by
   intro q;rw [x1D,x1D] at q;have q1:((sIx items.size 0 lo:Nat):Int)=0:=eq_of_beq q.1.1;have q2:sIx items.size items.size hi - sIx items.size 0 lo=items.size:=eq_of_beq q.2;exact hw ⟨by omega,by omega⟩
 show wpAny _ _ (if(((sIx items.size 0 lo:Nat):Int) == 0 && (1:Int) == 1 && (sIx items.size items.size hi - sIx items.size 0 lo) == items.size)=true then _ else _) _ _ s;rw [if_neg hno,a7Y]
 first
   | exact x0b (m:=x1P _) (x0R (x0h ⟨_,rfl,x0h h⟩) htake)
   | exact x0b (m:=x1P _) (x0R (x0b (x0h (x0h ⟨_,rfl,x0h h⟩))) htake)
   | exact x0b (x0b (m:=x1P _) (x0R (x0h (x0h ⟨_,rfl,x0h h⟩)) htake))
   | exact x0b (x0b (m:=x1P _) (x0R (x0h ⟨_,rfl,x0h h⟩) htake))
end
end HT
namespace L2
open PySem PySem.Spec PyProof.Rows
abbrev TO:=St->Hp->(Option Int->Hp->Prop)->Prop
def PO (X:Cx)(e:Option Expr)(t:TO):Prop:=
 ∀ (pins : List (Addr × Obj)) (s : Shared) (σ : St) (H : Hp) (Q : Option Int -> Hp -> Prop), Inv X pins σ H s -> t σ H Q ->
   wpAny (model X.prog X.w) X.A (evalPart e X.env) (fun u s'=>∃o H',Inv X pins σ H' s'/\IsPart u o/\Q o H') X.xe s
def a9q:TO:=fun _ H Q=>Q none H
def tPart (t:TE):TO:=fun σ H Q=>t σ H fun x H1=>∃i,x=.int i/\Q (some i) H1
section
variable {X:Cx}{e:Expr}{te:TE}{lo hi:Option Expr}{tl th:TO}{pos p2:Pos}
theorem a9Z:PO X none a9q:=by
 intro pins s σ H Q I h;rw [evalPart_none];exact x0h ⟨none,H,I,.none,h⟩
theorem a9Y (h:PE X e te):PO X (some e) (tPart te):=by
 intro pins s σ H Q I hw;rw [evalPart_some];refine thn (h pins s σ H _ I hw) fun u s1 ⟨x,H1,I1,r1,q1⟩=>?_;obtain⟨i,rfl,q⟩:=q1;obtain⟨t,rfl⟩:=r1;exact⟨some i,H1,I1,.int i t,q⟩
def SlR (X:Cx)(r:V->Option Int->Option Int->Hp->VK->Prop):Prop:=
 ∀ (pins : List (Addr × Obj)) (s : Shared) (σ : St) (H : Hp) (x : V) (v vl vu : Value) (lo hi : Option Int) (sl : Addr) (Q : VK), Inv X pins σ H s -> RelV x v -> s.heap.IsSliceOf sl vl vu .none -> IsPart vl lo -> IsPart vu hi -> r x lo hi H Q ->
   ∃T id,typeLookup (.type T) "__getitem__"=pure (some (.builtin id))/\s.TypeIs v T/\wpAny (model X.prog X.w) X.A (getItem v (.ref sl)) (EP X pins σ Q) X.xe s
theorem SlR.or {r r':V->Option Int->Option Int->Hp->VK->Prop}(h:SlR X r)(h':SlR X r'):SlR X (fun x lo hi H Q=>r x lo hi H Q\/r' x lo hi H Q):=by
 intro pins s σ H x v vl vu lo hi sl Q I rx hs pl pu q;rcases q with q | q
 · exact h pins s σ H x v vl vu lo hi sl Q I rx hs pl pu q
 · exact h' pins s σ H x v vl vu lo hi sl Q I rx hs pl pu q
def tSl (r:V->Option Int->Option Int->Hp->VK->Prop)(te:TE)(tl th:TO):TE:=fun σ H Q=>te σ H fun x H1=>tl σ H1 fun l H2=>th σ H2 fun u H3=>r x l u H3 Q
theorem a8a {r:V->Option Int->Option Int->Hp->VK->Prop}(hr:SlR X r)(he:PE X e te)(hl:PO X lo tl)(hu:PO X hi th):PE X (.Subscript e (.Slice lo hi none p2) pos) (tSl r te tl th):=by
 intro pins s σ H Q I h;refine Subscript_ (thn (he pins s σ H _ I h) fun v s1 ⟨x,H1,I1,r1,q1⟩=>?_);refine wpAny_Slice (thn (hl pins s1 σ H1 _ I1 q1) fun vl s2 ⟨l,H2,I2,pl,q2⟩=>thn (hu pins s2 σ H2 _ I2 q2) fun vu s3 ⟨u,H3,I3,pu,q3⟩=>?_);rw [evalPart_none];refine x0h ?_;have I4:Inv X pins σ H3 { s3 with heap:=s3.heap.push { cls:=.type "slice",data:=.fields #[vl,vu,.none] } }:=I3.kept (t':=s3.toks) fun b ob q=>x0d _ q;obtain⟨T,id,hT,ht,hg⟩:=hr pins { s3 with heap:=s3.heap.push { cls:=.type "slice",data:=.fields #[vl,vu,.none] } } σ H3 x v vl vu l u s3.heap.objs.size Q I4 r1 (Heap.IsSliceOf.new ..) pl pu q3;show wpAny (model X.prog X.w) X.A (subscriptTail e (.Slice lo hi none p2) v (.ref s3.heap.objs.size)) (EP X pins σ Q) X.xe { s3 with heap:=s3.heap.push { cls:=.type "slice",data:=.fields #[vl,vu,.none] } };exact tail_any (ops:=[.ref s3.heap.objs.size,v]) ht hT hg (by with_unfolding_all rfl)
def cutV (xs:List V)(lo hi:Option Int):List V:=(xs.drop (HT.sIx xs.length 0 lo)).take (HT.sIx xs.length xs.length hi - HT.sIx xs.length 0 lo)
theorem a2M (xs:List V)(lo hi:Option Int):(cutV xs lo hi).length<=xs.length:=by
 unfold cutV;rw [x2f,List.length_drop];omega
def rSlT (K:x0a):V->Option Int->Option Int->Hp->VK->Prop:=fun x lo hi H Q=>∃a xs,x=.ref a/\SqT K H a xs/\
 ¬(HT.sIx xs.length 0 lo=0/\HT.sIx xs.length xs.length hi=xs.length)/\∀p,H p=none->Q (.ref p) (upd H p (.tup (cutV xs lo hi)))
theorem sl_tup:SlR X (rSlT X.K):=by
 intro pins s σ H x v vl vu lo hi sl Q I rx hs pl pu h;obtain⟨a,xs,rfl,hx,hw,q⟩:=h;cases rx;obtain⟨its,r,ht,hz⟩:=I.tuple hx;have hlen:its.toArray.size=xs.length:=by rw [x0j];exact r.length.symm
 refine⟨"tuple",_,PyProof.Rows.slot_tuple_getitem.lookup,ht.typeIs,?_⟩;refine HT.getItem_tuple_cut ht hs pl pu (by rw [hlen];exact hw) ?_ (by rw [hlen];exact hz);rw [hlen];refine⟨.ref s.heap.objs.size,_,I.laid (t':=s.toks) (o:=.tup (cutV xs lo hi)) (fun b ob q=>x0d _ q) (x0s _) ?_,rfl,q _ (I.hok.fresh (x0s _))⟩;exact⟨x0U (a2M xs lo hi) hz,_,(r.drop (HT.sIx xs.length 0 lo)).take (HT.sIx xs.length xs.length hi - HT.sIx xs.length 0 lo),a1L.new _ _⟩
def rCatT (K:x0a):R2:=fun x y H Q=>∃a b xs ys,x=.ref a/\y=.ref b/\SqT K H a xs/\SqT K H b ys/\xs≠[]/\xs.length + ys.length<=x0t/\
 (ys=[]->Q (.ref a) H)/\(ys≠[]->∀p,H p=none->Q (.ref p) (upd H p (.tup (xs++ys))))
theorem Vals.nil_iff {xs:List V}{us:List Value}(r:Vals xs us):us=[]↔xs=[]:=by
 cases r with
 | nil=>simp
 | cons _ _=>simp
theorem b0i:OpR X (x2b .Add) (rCatT X.K):=by
 intro pins s σ H x y v u Q I rx ry h;obtain⟨a,b,xs,ys,rfl,rfl,ha,hb,hx,hz,q1,q2⟩:=h;cases rx;cases ry;obtain⟨its,r1,p1,_⟩:=I.tuple ha;obtain⟨its2,r2,p2,_⟩:=I.tuple hb;refine HT.cat_tup p1 p2 (fun z=>hx (r1.nil_iff.mp z)) (fun z=>⟨.ref a,H,I,rfl,q1 (r2.nil_iff.mp z)⟩) (fun z=>?_) (by rw [<- r1.length,<- r2.length];exact hz);refine⟨.ref s.heap.objs.size,_,I.laid (t':=s.toks) (o:=.tup (xs++ys)) (fun b ob q=>x0d _ q) (x0s _) ?_,rfl,q2 (fun w=>z (r2.nil_iff.mpr w)) _ (I.hok.fresh (x0s _))⟩;exact⟨by rw [x0l];exact hz,_,r1.append r2,a1L.new _ _⟩
end
def ixN (n:Nat)(i:Int):Option Nat:=if 0<=i then(if i < n then some i.toNat else none) else if -(n:Int)<=i then some (i + n).toNat else none
def atI {α:Type}(xs:List α)(i:Int):Option α:=(ixN xs.length i).bind fun j=>xs[j]?
theorem a7e {n:Nat}{i:Int}{j:Nat}(h:ixN n i=some j):seqIndex? i n=some j/\j < n/\-(n:Int)<=i/\i < n:=by
 unfold ixN at h
 by_cases h0:0<=i
 · rw [if_pos h0] at h
   by_cases h1:i < n
   · rw [if_pos h1] at h;have e:i.toNat=j:=x0L h;exact⟨by rw [seqIndex_of h0 h1,e],by omega,by omega,h1⟩
   · rw [if_neg h1] at h;cases h
 · rw [if_neg h0] at h
   by_cases h1:-(n:Int)<=i
   · rw [if_pos h1] at h;have e:(i + n).toNat=j:=x0L h;exact⟨by rw [seqIndex_neg (by omega) h1,e],by omega,h1,by omega⟩
   · rw [if_neg h1] at h;cases h
theorem a4J {α:Type}{xs:List α}{i:Int}{v:α}(h:atI xs i=some v):∃j,seqIndex? i xs.length=some j/\xs[j]?=some v/\j < xs.length/\-(xs.length:Int)<=i/\i < xs.length:=by
 unfold atI at h;cases e:ixN xs.length i with
 | none=>rw [e] at h;cases h
 | some j =>
   rw [e] at h;obtain⟨h1,h2,h3,h4⟩:=a7e e;exact⟨j,h1,h,h2,h3,h4⟩
theorem b0P {α:Type}{xs:List α}{j:Nat}{v:α}(h:xs[j]?=some v):atI xs (j:Int)=some v:=by
 have hj:j < xs.length:=(x0n.mp h).1
 have e:ixN xs.length (j:Int)=some j:=by
   unfold ixN;rw [if_pos (by omega),if_pos (by omega)];simp
 unfold atI;rw [e];exact h
def a4K (b:Expr):Prop:=∀o i,subscripted b false o i=operate [o,i] (getItem o i)
def IxR (X:Cx)(r:R2):Prop:=
 ∀ (value slice : Expr) (pins : List (Addr × Obj)) (s : Shared) (σ : St) (H : Hp) (x y : V) (v u : Value) (Q : VK), Inv X pins σ H s -> RelV x v -> RelV y u -> r x y H Q ->
   subscripted slice false v u=operate [v,u] (getItem v u)->wpAny (model X.prog X.w) X.A (subscriptTail value slice v u) (EP X pins σ Q) X.xe s
def MtR (X:Cx)(id:String)(r:V->List V->Hp->VK->Prop):Prop:=
 ∀ (pins : List (Addr × Obj)) (s : Shared) (σ : St) (H : Hp) (x : V) (xs : List V) (v : Value) (us : List Value) (Q : VK), Inv X pins σ H s -> RelV x v -> Vals xs us -> r x xs H Q ->
   wpAny (model X.prog X.w) X.A (call (.builtin id) (v::us)) (EP X pins σ Q) X.xe s
section
variable {X:Cx}{a b:Expr}{ta tb:TE}{pos:Pos}
theorem IxR.or {r r':R2}(h:IxR X r)(h':IxR X r'):IxR X (fun x y H Q=>r x y H Q\/r' x y H Q):=by
 intro value slice pins s σ H x y v u Q I rx ry q hs;rcases q with q | q
 · exact h value slice pins s σ H x y v u Q I rx ry q hs
 · exact h' value slice pins s σ H x y v u Q I rx ry q hs
theorem a2Q {r:R2}(hr:IxR X r)(ha:PE X a ta)(hb:PE X b tb)(hs:a4K b):PE X (.Subscript a b pos) (tOp r ta tb):=by
 intro pins s σ H Q I h;exact Subscript_ (binT ha hb I h fun v u s2 x y H2 I2 rx ry q=>hr a b pins s2 σ H2 x y v u Q I2 rx ry q (hs _ _))
def rIxL (K:x0a):R2:=fun x y H Q=>∃p xs i v,x=.ref p/\y=.int i/\SqL K H p xs/\atI xs i=some v/\Q v H
def rIxT (K:x0a):R2:=fun x y H Q=>∃p xs i v,x=.ref p/\y=.int i/\SqT K H p xs/\atI xs i=some v/\Q v H
def rIxS:R2:=fun x y H Q=>∃z i c,x=.str z/\y=.int i/\z.length<=x0t/\atI z.cps.toList i=some c/\Q (.str ⟨#[c]⟩) H
theorem a1s:IxR X (rIxL X.K):=by
 intro value slice pins s σ H x y v u Q I rx ry h hs;obtain⟨p,xs,i,z,rfl,rfl,hq,he,q⟩:=h;cases rx;obtain⟨t,rfl⟩:=ry;obtain⟨its,r,pl,hz⟩:=I.list hq;obtain⟨j,h1,h2,h3,h4,h5⟩:=a4J he;obtain⟨w,ew,rw'⟩:=r.get h2;have hl:=r.length;have hn:=a3a;have fin:EP X pins σ Q w s:=⟨z,H,I,rw',q⟩
 by_cases h0:0<=i
 · have hj:i.toNat=j:=by
     rw [seqIndex_of h0 h5] at h1;exact x0L h1
   exact item_listR pl.isList h0 (by omega) (by rw [hj];simpa using ew) fin hs
 · have hj:(i + (its.toArray.size:Int)).toNat=j:=by
     rw [seqIndex_neg (by omega) h4] at h1;rw [x0j,<- hl];exact x0L h1
   exact subscriptTail_builtinR (x:=w) pl.isList.typeIs slot_list_getitem.lookup
     (wpAny_getItem_list_neg (Q:=fun r s'=>r=w/\EP X pins σ Q r s') pl.isList (by omega) (by rw [x0j] <;> omega) (by omega) (by rw [hj];simpa using ew) ⟨rfl,fin⟩) hs
theorem ix_tup:IxR X (rIxT X.K):=by
 intro value slice pins s σ H x y v u Q I rx ry h hs;obtain⟨p,xs,i,z,rfl,rfl,hq,he,q⟩:=h;cases rx;obtain⟨t,rfl⟩:=ry;obtain⟨its,r,pl,hz⟩:=I.tuple hq;obtain⟨j,h1,h2,h3,h4,h5⟩:=a4J he;obtain⟨w,ew,rw'⟩:=r.get h2;have hl:=r.length;have hn:=a3a;have fin:EP X pins σ Q w s:=⟨z,H,I,rw',q⟩
 exact subscriptTail_builtinR (x:=w) pl.typeIs slot_tuple_getitem.lookup
   (getItem_tuple (j:=j) (Q:=fun r s'=>r=w/\EP X pins σ Q r s') pl (by omega) (by omega) (by rw [x0j,<- hl];exact h1) (by simpa using ew) ⟨rfl,fin⟩) hs
theorem ix_str:IxR X rIxS:=by
 intro value slice pins s σ H x y v u Q I rx ry h hs;obtain⟨z,i,c,rfl,rfl,hz,he,q⟩:=h;obtain⟨t,rfl⟩:=rx;obtain⟨t',rfl⟩:=ry;obtain⟨j,h1,h2,h3,h4,h5⟩:=a4J he;have hl:z.cps.toList.length=z.length:=by simp [Str.length]
 rw [hl] at h1 h4 h5;have hn:=a3a
 exact tail_any (typeIs_str s z t) slot_str_getitem.lookup (getItem_str (c:=c) (by
   have e1:decide (i < -(2 ^ 63:Int))=false:=decide_eq_false (by omega);have e2:decide (i>=2 ^ 63)=false:=decide_eq_false (by omega)
   rw [e1,e2,Bool.or_false]) (by rw [h1];simpa using h2) ⟨.str ⟨#[c]⟩,H,I.tok _,⟨_,rfl⟩,q⟩) hs
def rIx (K:x0a):R2:=fun x y H Q=>rIxL K x y H Q\/rIxT K x y H Q\/rIxS x y H Q
theorem a8X:IxR X (rIx X.K):=a1s.or (ix_tup.or ix_str)
theorem a5E (its:List Value)(n j:Nat)(u:Value):x1E (·.setIfInBounds j u) { cls:=.type "list",data:=.seq its.toArray n }={ cls:=.type "list",data:=.seq (its.set j u).toArray n }:=by
 simp [x1E]
theorem Inv.lst {pins:List (Addr×Obj)}{σ:St}{H:Hp}{s:Shared}{p:Addr}{xs:List V}(I:Inv X pins σ H s)(h:H p=some (.lst xs)) :
   ∃(its:List Value) (n:Nat),Vals xs its/\s.heap.get? p=some { cls:=.type "list",data:=.seq its.toArray n }/\xs.length<=x0t:=by
 obtain⟨z,its,n,r,e⟩:=I.hok p _ h;exact⟨its,n,r,e,z⟩
theorem Inv.lstUpd {pins:List (Addr×Obj)}{σ:St}{H:Hp}{s:Shared}{p:Addr}{xs ys:List V}{its its':List Value}{n n':Nat}{f:Obj->Obj}(I:Inv X pins σ H s)(h:H p=some (.lst xs))
   (ho:s.heap.get? p=some { cls:=.type "list",data:=.seq its.toArray n }) (hf:f { cls:=.type "list",data:=.seq its.toArray n }={ cls:=.type "list",data:=.seq its'.toArray n' }) (r:Vals ys its') (hz:ys.length<=x0t) (t:Nat) :
   Inv X pins σ (upd H p (.lst ys)) { s with heap:=s.heap.update p f,toks:=t }:=by
 have e:(s.heap.update p f).get? p=some { cls:=.type "list",data:=.seq its'.toArray n' }:=by
   rw [Heap.get?_update_self f ho (by rw [hf] <;> rfl),hf]
 refine I.write (x:=p) (e:=p) (by rw [h];trivial) (.inl rfl) (fun b u hb q=>(Heap.get?_update_other _ _ (Ne.symm hb)).trans q) ⟨_,e⟩ ?_;exact⟨hz,its',n',r,e⟩
def a7O:V->V->V->Hp->(Hp->Prop)->Prop:=fun o i v H Q=>∃p xs k j,o=.ref p/\i=.int k/\H p=some (.lst xs)/\ixN xs.length k=some j/\Q (upd H p (.lst (xs.set j v)))
theorem a2p:PSet X a7O:=by
 intro pins s σ H o i v ov iv u Q I ro ri rv h;obtain⟨p,xs,k,j,rfl,rfl,hp,hj,q⟩:=h;cases ro;obtain⟨t,rfl⟩:=ri;obtain⟨its,n,r,ho,hz⟩:=I.lst hp;obtain⟨h1,h2,h3,h4⟩:=a7e hj;have hl:=r.length;have hn:=a3a
 have I':Inv X pins σ (upd H p (.lst (xs.set j v))) { s with heap:=s.heap.update p (x1E (·.setIfInBounds j u)) }:=
   I.lstUpd hp ho (a5E its n j u) (r.set rv j) (by rw [x0w];exact hz) s.toks
 by_cases h0:0<=k
 · have hk:k.toNat=j:=by
     rw [seqIndex_of h0 h4] at h1;exact x0L h1
   exact PySem.W.ki_setAt ho h0 (by omega) (by rw [x0j,<- hl];exact h4) (by rw [hk];exact⟨_,I',q⟩)
 · have hk:(k + (its.toArray.size:Int)).toNat=j:=by
     rw [seqIndex_neg (by omega) h3] at h1;rw [x0j,<- hl];exact x0L h1
   exact PySem.W.ki_setBack ho (by omega) (by rw [x0j,<- hl];exact h3) (by omega) (by rw [hk];exact⟨_,I',q⟩)
theorem a3G (lo hi:Option Int)(n:Nat):(x2D lo hi none n).1=((HT.sIx n 0 lo:Nat):Int)/\(x2D lo hi none n).2.1=((HT.sIx n n hi:Nat):Int)/\(x2D lo hi none n).2.2=1:=by
 refine⟨?_,?_,rfl⟩
 · cases lo with
   | none=>simp [x2D,HT.sIx]
   | some i =>
     simp only [x2D,HT.sIx,Option.getD_none,show(1:Int) > 0 by decide,if_true]
     by_cases h:i < 0
     · simp only [h,if_true] <;> omega
     · simp only [h,if_false] <;> omega
 · cases hi with
   | none=>simp [x2D,HT.sIx]
   | some i =>
     simp only [x2D,HT.sIx,Option.getD_none,show(1:Int) > 0 by decide,if_true]
     by_cases h:i < 0
     · simp only [h,if_true] <;> omega
     · simp only [h,if_false] <;> omega
theorem a3g (its:List Value)(lo hi:Option Int):slicePick its.toArray lo hi none=((its.drop (HT.sIx its.length 0 lo)).take (HT.sIx its.length its.length hi - HT.sIx its.length 0 lo)).toArray:=by
 obtain⟨h1,h2,h3⟩:=a3G lo hi its.toArray.size;unfold slicePick;rw [h1,h2,h3];simp only [sliceRange_one,pick_run,x0j] <;> rfl
def rSlL (K:x0a):V->Option Int->Option Int->Hp->VK->Prop:=fun x lo hi H Q=>∃a xs,x=.ref a/\SqL K H a xs/\∀p,H p=none->Q (.ref p) (upd H p (.lst (cutV xs lo hi)))
theorem a9v:SlR X (rSlL X.K):=by
 intro pins s σ H x v vl vu lo hi sl Q I rx hs pl pu h;obtain⟨a,xs,rfl,hx,q⟩:=h;cases rx;obtain⟨its,r,ht,hz⟩:=I.list hx;have hlen:=r.length;refine⟨"list",_,slot_list_getitem.lookup,ht.isList.typeIs,?_⟩;refine wpAny_getItem_list_slice ht.isList hs pl pu .none (by simp) ?_ (by rw [x0j] <;> omega)
 rw [a3g,<- hlen];refine⟨.ref s.heap.objs.size,_,I.laid (t':=s.toks) (o:=.lst (cutV xs lo hi)) (fun b ob q=>x0d _ q) (x0s _) ?_,rfl,q _ (I.hok.fresh (x0s _))⟩;exact⟨x0U (a2M xs lo hi) hz,_,0,(r.drop (HT.sIx xs.length 0 lo)).take (HT.sIx xs.length xs.length hi - HT.sIx xs.length 0 lo),x0y _ rfl⟩
def a1T:V->Bool
 | .non=>true
 | .bl _=>true
 | .int _=>true
 | .str _=>true
 | _=>false
def eqV:V->V->Bool
 | .non,.non=>true
 | .bl a,.bl b=>a == b
 | .bl a,.int b=>(if a then 1 else 0) == b
 | .int a,.bl b=>a == (if b then 1 else 0)
 | .int a,.int b=>a == b
 | .str a,.str b=>a == b
 | _,_=>false
theorem a9c {A:Around}{s:Shared}{y x:V}{u v:Value}(ry:RelV y u)(rx:RelV x v)(fy:a1T y=true)(fx:a1T x=true):x3k A s u v (eqV y x):=by
 cases y with
 | non =>
   cases ry;cases x with
   | non=>cases rx;exact SeqAt.EqAt.same _
   | bl b=>cases rx;exact SeqAt.EqAt.none_bool b
   | int b=>obtain⟨t,rfl⟩:=rx;exact SeqAt.EqAt.none_int b t
   | str b=>obtain⟨t,rfl⟩:=rx;exact SeqAt.EqAt.none_str b t
   | _=>exact absurd (show false=true from fx) x0E
 | bl a =>
   cases ry;cases x with
   | non=>cases rx;exact SeqAt.EqAt.bool_none a
   | bl b=>cases rx;exact SeqAt.EqAt.bool_bool a b
   | int b=>obtain⟨t,rfl⟩:=rx;exact SeqAt.EqAt.bool_int a b t
   | str b=>obtain⟨t,rfl⟩:=rx;exact SeqAt.EqAt.bool_str a b t
   | _=>exact absurd (show false=true from fx) x0E
 | int a =>
   obtain⟨t',rfl⟩:=ry;cases x with
   | non=>cases rx;exact SeqAt.EqAt.int_none a t'
   | bl b=>cases rx;exact SeqAt.EqAt.int_bool a t' b
   | int b=>obtain⟨t,rfl⟩:=rx;exact SeqAt.EqAt.int_int a t' b t
   | str b=>obtain⟨t,rfl⟩:=rx;exact SeqAt.EqAt.int_str a t' b t
   | _=>exact absurd (show false=true from fx) x0E
 | str a =>
   obtain⟨t',rfl⟩:=ry;cases x with
   | non=>cases rx;exact SeqAt.EqAt.str_none a t'
   | bl b=>cases rx;exact SeqAt.EqAt.str_bool a t' b
   | int b=>obtain⟨t,rfl⟩:=rx;exact SeqAt.EqAt.str_int a t' b t
   | str b=>obtain⟨t,rfl⟩:=rx;exact SeqAt.EqAt.str_str a t' b t
   | _=>exact absurd (show false=true from fx) x0E
 | _=>exact absurd (show false=true from fy) x0E
theorem a2o:a1F X (.builtin "len") (fun xs H Q=>∃p ys,xs=[.ref p]/\(SqL X.K H p ys\/SqT X.K H p ys)/\Q (.int ys.length) H):=by
 intro pins s σ H xs us Q I r h;obtain⟨p,ys,rfl,hq,q⟩:=h;obtain⟨u,rfl,rx⟩:=a5r r;cases rx;have hn:=a3a;rcases hq with hq | hq
 · obtain⟨its,r',pl,hz⟩:=I.list hq;have hlen:=r'.length;exact Calls.call_len_list pl.isList (by simp only [x0j] <;> omega) ⟨.int ys.length,H,I.tok _,⟨s.toks + 1,by rw [x0j,hlen]⟩,q⟩
 · obtain⟨its,r',pl,hz⟩:=I.tuple hq;have hlen:=r'.length;exact len_tuple pl (by simp only [x0j] <;> omega) ⟨.int ys.length,H,I.tok _,⟨s.toks + 1,by rw [x0j,hlen]⟩,q⟩
theorem a4d:a1F X (.builtin "len") (fun xs H Q=>∃z,xs=[.str z]/\z.length<=x0t/\Q (.int z.length) H):=by
 intro pins s σ H xs us Q I r h;obtain⟨z,rfl,hz,q⟩:=h;obtain⟨u,rfl,t,rfl⟩:=a5r r;have hn:=a3a;exact len_str (by omega) ⟨.int z.length,H,I.tok _,⟨_,rfl⟩,q⟩
theorem a1F.or {f:Value}{r r':List V->Hp->VK->Prop}(h:a1F X f r)(h':a1F X f r'):a1F X f (fun xs H Q=>r xs H Q\/r' xs H Q):=by
 intro pins s σ H xs us Q I rs q;rcases q with q | q
 · exact h pins s σ H xs us Q I rs q
 · exact h' pins s σ H xs us Q I rs q
theorem a3A:a1F X (.type "tuple") (fun xs H Q=>∃p ys,xs=[.ref p]/\((SqL X.K H p ys/\∀l,H l=none->Q (.ref l) (upd H l (.tup ys)))\/(SqT X.K H p ys/\Q (.ref p) H))):=by
 intro pins s σ H xs us Q I r h;obtain⟨p,ys,rfl,h⟩:=h;obtain⟨u,rfl,rx⟩:=a5r r;cases rx;rcases h with⟨hq,q⟩ | ⟨hq,q⟩
 · obtain⟨its,r',pl,hz⟩:=I.list hq;have hlen:=r'.length;refine call_tuple_list pl.isList (fun h' kp=>?_) (by simp only [x0j] <;> omega)
   have I1:Inv X pins σ H { s with heap:=h' }:=I.kept (t':=s.toks) kp
   have I2:Inv X pins σ (upd H h'.objs.size (.tup ys)) { s with heap:=h'.push { cls:=.type "tuple",data:=.seq its.toArray } }:=
     I1.laid (t':=s.toks) (fun b o e=>x0d _ e) (x0s _) (show a0J X.prog X.w _ _ _ (.tup ys) from⟨hz,its,r',a1L.new _ _⟩)
   exact⟨.ref h'.objs.size,_,I2,rfl,q _ (I1.hok.fresh (x0s _))⟩
 · obtain⟨its,r',pl,hz⟩:=I.tuple hq;exact call_tuple_same pl ⟨.ref p,H,I,rfl,q⟩
def tyV (K:x0a)(T:String)(x:V)(H:Hp):Prop:=match x with
 | .str _=>T="str"
 | .int _=>T="int"
 | .ref p=>(T="list"/\∃xs,SqL K H p xs)\/(T="tuple"/\((∃o,K.lookup p=some o/\o.cls=.type "tuple"/\o.dict=none)\/∃xs,H p=some (.tup xs)))\/
     (T="dict"/\((∃kvs,H p=some (.dK kvs))\/∃kvs,H p=some (.dT kvs)))\/(T="set"/\∃S n,H p=some (.set S n))
 | _=>False
theorem a8z {pins:List (Addr×Obj)}{σ:St}{H:Hp}{s:Shared}{T:String}{x:V}{v:Value}(I:Inv X pins σ H s)(r:RelV x v)(ty:tyV X.K T x H) :
   s.TypeIs v T/\∀a,v=.ref a->∃ob,s.heap.get? a=some ob/\ob.dict=none:=by
 cases x with
 | str z =>
   obtain⟨t,rfl⟩:=r;cases(show T="str" from ty);exact⟨typeIs_str s z t,fun _ e=>nomatch e⟩
 | int i =>
   obtain⟨t,rfl⟩:=r;cases(show T="int" from ty);exact⟨typeIs_int s i t,fun _ e=>nomatch e⟩
 | ref p =>
   cases r;rcases ty with⟨rfl,xs,hq⟩ | ⟨rfl,hk⟩ | ⟨rfl,hk⟩ | ⟨rfl,S,n,hk⟩
   · obtain⟨its,_,pl,_⟩:=I.list hq;refine⟨pl.isList.typeIs,fun a e=>?_⟩;cases e;obtain⟨o,n,e,c,hd,_⟩:=pl;exact⟨o,e,hd⟩
   · rcases hk with⟨o,hk,hc,hd⟩ | ⟨xs,hk⟩
     · refine⟨⟨o,I.kIn p o hk,hc⟩,fun a e=>?_⟩;cases e;exact⟨o,I.kIn _ o hk,hd⟩
     · obtain⟨_,_,_,o,e,c,_⟩:=(show a0J X.prog X.w H s.heap p (.tup xs) from I.hok p _ hk);refine⟨⟨o,e,(x2V c).1⟩,fun a e2=>?_⟩;cases e2;exact⟨o,e,(x2V c).2⟩
   · have z:∃o,s.heap.get? p=some o/\o.ExactDict:=by
       rcases hk with⟨kvs,hk⟩ | ⟨kvs,hk⟩
       · obtain⟨_,_,_,_,o,_,_,e,ex,_⟩:=I.hok p _ hk;exact⟨o,e,ex⟩
       · obtain⟨_,_,_,_,o,_,_,e,ex,_⟩:=I.hok p _ hk;exact⟨o,e,ex⟩
     obtain⟨o,e,ex⟩:=z;refine⟨⟨o,e,ex.1⟩,fun a e2=>?_⟩;cases e2;exact⟨o,e,ex.2.1⟩
   · obtain⟨o,_,_,_,e,ex,_⟩:=I.hok p _ hk;refine⟨⟨o,e,ex.1⟩,fun a e2=>?_⟩;cases e2;exact⟨o,e,ex.2.1⟩
 | _=>exact x2a ty
def tBM0 (K:x0a)(T:String)(r:V->List V->Hp->VK->Prop)(to:TE):TE:=fun σ H Q=>to σ H fun x H1=>tyV K T x H1/\r x [] H1 Q
def tBM (K:x0a)(T:String)(r:V->List V->Hp->VK->Prop)(to:TE)(t:TA):TE:=fun σ H Q=>to σ H fun x H1=>tyV K T x H1/\t σ H1 fun xs H2=>r x xs H2 Q
variable {o e:Expr}{es:List Expr}{to:TE}{t:TA}{name:Str}{apos cpos:Pos}{T id:String}{r:V->List V->Hp->VK->Prop}
theorem pe_bm0 (pa:PlainAttrs T)(slot:Slot T name id)(hty:typeOf (.builtin id)=pure (.type "method_descriptor"))(hm:MtR X id r)(ho:PE X o to)
   (hbase:x2S o name X.env (eval o X.env)=eval o X.env:=by rfl) (hline:(apos.endLine == cpos.line)=true:=by rfl):PE X (.Call (.Attribute o name apos) [] [] cpos) (tBM0 X.K T r to):=by
 intro pins s σ H Q I h;refine wpAny_Call_method0_late hbase hline (thn (ho pins s σ H _ I h) fun v s1 ⟨x,H1,I1,r1,ty,q1⟩=>?_);obtain⟨h1,h2⟩:=a8z I1 r1 ty;exact⟨T,id,pa,slot,hty,h1,h2,Calls.callWith_builtin rfl (PySem.evalArgs_none (hm pins s1 σ H1 x [] v [] Q I1 r1 .nil q1))⟩
theorem pe_bm (pa:PlainAttrs T)(slot:Slot T name id)(hty:typeOf (.builtin id)=pure (.type "method_descriptor"))(hm:MtR X id r)(ho:PE X o to)(ha:PA X (e::es) t)
   (hbase:x2S o name X.env (eval o X.env)=eval o X.env:=by rfl)
   (hfew:((backTo cpos (x0P (e::es) X.env)).all (fun x=>!x.1) && (backToKw cpos (keywordEach [] X.env)).all (fun x=>x.1.isSome)
     && decide ((e::es).length + ([]:List Keyword).length + (if([]:List Keyword).isEmpty then 0 else 1) < 30))=true:=by rfl)
   (hline:(apos.endLine == cpos.line)=true:=by rfl) (hs:x0P (e::es) X.env=(false,eval e X.env)::x0P es X.env:=by rfl) (hplain:(backTo cpos (x0P es X.env)).any (·.1)=false:=by rfl) :
   PE X (.Call (.Attribute o name apos) (e::es) [] cpos) (tBM X.K T r to t):=by
 intro pins s σ H Q I h;refine wpAny_Call_method_late hbase hfew hline rfl (thn (ho pins s σ H _ I h) fun v s1 ⟨x,H1,I1,r1,ty,q1⟩=>?_);obtain⟨h1,h2⟩:=a8z I1 r1 ty;refine⟨T,id,pa,slot,hty,h1,h2,?_⟩;have hA:=ha cpos pins s1 σ H1 _ I1 q1;rw [hs] at hA ⊢;refine Calls.callWith_builtin (by show(false || (backTo cpos (x0P es X.env)).any (·.1))=false;rw [hplain] <;> rfl) (Calls.evalArgs_plain ?_)
 exact thn hA fun us s2 ⟨vs,H2,I2,r2,q2⟩=>hm pins s2 σ H2 x vs v us Q I2 r1 r2 q2
end
variable {us:List Value}
def MtM (X:Cx)(id:String)(r:V->List V->Hp->VK->Prop):Prop:=
 ∀ (pins : List (Addr × Obj)) (s : Shared) (σ : St) (H : Hp) (x : V) (xs : List V) (v : Value) (us : List Value) (Q : VK), Inv X pins σ H s -> RelV x v -> Vals xs us -> r x xs H Q ->
   wpAny (model X.prog X.w) X.A (call (.builtin id) (v::us)) (EP X pins σ Q) X.xe s
theorem Vals.one {x:V}(h:Vals [x] us):∃u,us=[u]/\RelV x u:=by
 cases h with | cons r h=>cases h;exact⟨_,rfl,r⟩
theorem Vals.two {x y:V}(h:Vals [x,y] us):∃u v,us=[u,v]/\RelV x u/\RelV y v:=by
 cases h with | cons r h=>cases h with | cons q h=>cases h;exact⟨_,_,rfl,r,q⟩
theorem Vals.zero:∀{us:List Value},Vals [] us->us=[]
 | _,.nil=>rfl
theorem Vals.dropLast {xs:List V}(h:Vals xs us):Vals xs.dropLast us.dropLast:=by
 induction h with
 | nil=>exact .nil
 | cons r t ih =>
   cases t with
   | nil=>exact .nil
   | cons q t'=>exact .cons r ih
theorem a5K {α:Type}(l:List α):l.eraseIdx (l.length - 1)=l.dropLast:=by
 induction l with
 | nil=>rfl
 | cons a r ih =>
   cases r with
   | nil=>rfl
   | cons b r =>
     have e:(a::b::r).length - 1=((b::r).length - 1) + 1:=by
       have h1:(a::b::r).length=r.length + 2:=rfl;have h2:(b::r).length=r.length + 1:=rfl;omega
     rw [e,List.eraseIdx_cons_succ,ih]
     all_goals rfl
section
variable {X:Cx}{pins:List (Addr×Obj)}{σ:St}{H:Hp}{s:Shared}{l b:Addr}{xs ys zs:List V}
theorem Inv.lset {its its':List Value}{n:Nat}{f:Array Value->Array Value}{t':Nat}(I:Inv X pins σ H s)(hH:H l=some (.lst xs))
   (e:s.heap.get? l=some { cls:=.type "list",data:=.seq its.toArray n }) (hf:f its.toArray=its'.toArray) (hv:Vals ys its') (hz:ys.length<=x0t) :
   Inv X pins σ (upd H l (.lst ys)) { s with heap:=s.heap.update l (x1E f),toks:=t' }:=by
 have q:=PySem.IsL.update e f;rw [hf] at q;refine I.write (x:=l) (e:=l) (by rw [hH];exact trivial) (.inl rfl) (fun b' u hb hu=>(Heap.get?_update_other s.heap (x1E f) (Ne.symm hb)).trans hu) ⟨_,q⟩ ?_;exact⟨hz,its',_,hv,q⟩
theorem Inv.fresh (I:Inv X pins σ H s):H s.heap.objs.size=none:=I.hok.fresh (x0s _)
theorem Inv.lstM (I:Inv X pins σ H s)(hH:H l=some (.lst xs)):xs.length<=x0t/\∃(its:List Value) (n:Nat),Vals xs its/\xs.length=its.length/\s.heap.get? l=some { cls:=.type "list",data:=.seq its.toArray n }:=by
 obtain⟨z,its,n,r,e⟩:=I.hok l _ hH;exact⟨z,its,n,r,r.length,e⟩
theorem a4Z {n:Nat}(h:n<=x0t):x1Q n=false:=by
 unfold x1Q;exact decide_eq_false (by omega)
end
section
variable {X:Cx}
def a6s:V->List V->Hp->VK->Prop:=fun x vs H Q=>∃l xs y,x=.ref l/\vs=[y]/\H l=some (.lst xs)/\xs.length < x0t/\Q .non (upd H l (.lst (xs++[y])))
theorem a2E:MtM X "list.append" a6s:=by
 intro pins s σ H x vs v us Q I rx rv h;obtain⟨l,xs,y,rfl,rfl,hH,hz,q⟩:=h;cases rx;obtain⟨u,rfl,ru⟩:=rv.one;obtain⟨z,its,n,r,hl,e⟩:=I.lstM hH;refine call_meets F.slot_list_append ⟨_,e,rfl⟩ F.entry_list_append (F.args_list_append_2 _ _) (PySem.list_append l its.toArray n u (by rw [x0j];omega)) ⟨e,?_⟩;refine⟨.non,_,I.lset (its':=its++[u]) hH e (by simp) (r.append (.cons ru .nil)) ?_,rfl,q⟩;rw [x0l,x1H];omega
def a6r:V->List V->Hp->VK->Prop:=fun x vs H Q=>∃l b xs zs,x=.ref l/\vs=[.ref b]/\H l=some (.lst xs)/\H b=some (.lst zs)/\xs.length + zs.length<=x0t/\Q .non (upd H l (.lst (xs++zs)))
theorem a6W:MtM X "list.extend" a6r:=by
 intro pins s σ H x vs v us Q I rx rv h;obtain⟨l,b,xs,zs,rfl,rfl,hH,hB,hz,q⟩:=h;cases rx;obtain⟨u,rfl,ru⟩:=rv.one;cases ru;obtain⟨z,its,n,r,hl,e⟩:=I.lstM hH;obtain⟨z2,its2,n2,r2,hl2,e2⟩:=I.lstM hB;have hsz:its.toArray.size + its2.toArray.size<=x0t:=by rw [x0j,x0j];omega
 have hlong:¬(!its.toArray.isEmpty && x1Q (its.toArray.size + its2.toArray.size))=true:=by
   rw [a4Z hsz,Bool.and_false];exact x0E
 refine call_meets F.slot_list_extend ⟨_,e,rfl⟩ F.entry_list_extend (F.args_list_extend_2 _ _)
   (AutoSeq1.list_extend_list_list_0 l its.toArray n b its2.toArray n2 hlong (by rw [x0j];omega) (by omega)) ⟨e,e2,?_⟩
 refine⟨.non,_,I.lset (its':=its++its2) hH e (by simp) (r.append r2) ?_,rfl,q⟩;rw [x0l];omega
def rPop:V->List V->Hp->VK->Prop:=fun x vs H Q=>∃l xs y,x=.ref l/\vs=[]/\H l=some (.lst xs)/\xs[xs.length - 1]?=some y/\Q y (upd H l (.lst xs.dropLast))
theorem mt_pop:MtM X "list.pop" rPop:=by
 intro pins s σ H x vs v us Q I rx rv h;obtain⟨l,xs,y,rfl,rfl,hH,hy,q⟩:=h;cases rx;have hus:=rv.zero;subst hus;obtain⟨z,its,n,r,hl,e⟩:=I.lstM hH;obtain⟨u,hu,ru⟩:=r.get hy
 have hy':its.toArray[its.toArray.size - 1]?=some u:=by
   show its.toArray[its.length - 1]?=some u;rw [<- x2M,<- hl];exact hu
 refine call_meets F.slot_list_pop ⟨_,e,rfl⟩ F.entry_list_pop (F.args_list_pop_1 _) (MeetsSeq.list_pop_last l its.toArray n u hy' (by rw [x0j];omega)) ⟨e,?_⟩;refine⟨y,_,I.lset (its':=its.dropLast) hH e ?_ r.dropLast ?_,ru,q⟩
 · show its.toArray.eraseIdxIfInBounds (its.toArray.size - 1)=its.dropLast.toArray;rw [x0j,List.eraseIdxIfInBounds_toArray,a5K]
 · rw [List.length_dropLast];omega
end
end L2
namespace Att
open PySem PySem.W PySem.Calls PyProof.Rows
theorem a2I {P:Params}{h:Heap}:∀(ns:List Int) (vs:List Value),WellAll P h vs (ns.map WData.int)->IntsAre vs ns:=by
 intro ns
 induction ns with
 | nil =>
   intro vs w;rw [List.map_nil] at w;cases w;exact .nil
 | cons n ns ih =>
   intro vs w;rw [x1v] at w;cases w with
   | cons a b =>
     cases a;exact .cons _ _ (ih _ b)
theorem a6m {l:OpenLaw}{n:Nat}(hn:l.most=some n){P:Params}{h:Heap}{args:List WData}{vals:List Value}
   (hpre:l.row.toRowW.claim.pre args=true) (hwl:WellAll P h vals args) :
   ∃a vs ns,vals=[x0Y a]/\args=[WData.list (ns.map WData.int)]/\h.get? a=some { cls:=.type "list",data:=.seq vs.toArray }/\IntsAre vs ns/\ns.length<=n:=by
 have hsh:WShape.hasAll [] args [.list .int]=true:=(pre_splitW hpre).1;have hc:l.pre.holds [] { args:=args }=true:=(pre_splitW hpre).2;obtain⟨d,r,rfl,h1,h2⟩:=hasAllW_cons hsh;obtain rfl:=hasAllW_nil h2;obtain⟨xs,rfl,h3⟩:=hasW_list h1;obtain⟨ns,rfl⟩:=items_int h3
 have hlen:ns.length<=n:=by
   unfold OpenLaw.pre at hc
   have h4:(WTm.not (.lt (.lit (.int (n:Int))) (.len (.arg 0)))).holds [] { args:=[.list (ns.map .int)] }=true:=by
     have h4:=(holds_andW hc).1;rw [hn] at h4;exact h4
   have h5:=condW_of h4 (w_not (w_lt w_lit (w_len_list (w_arg rfl))));rw [x0e] at h5;refine x2O fun q=>?_;have q':(n:Int) < ((ns.length:Nat):Int):=by omega
   first
     | (rw [decide_eq_true q'] at h5;exact absurd h5 (by decide))
     | (simp at h5;omega)
 cases hwl with
 | cons w1 w2 =>
   cases w2;cases w1 with
   | list ho hall=>exact⟨_,_,ns,rfl,rfl,ho,a2I ns _ hall,hlen⟩
theorem a6K (l:OpenLaw)(args:List WData):l.row.toRowW.claim.post args (.bool true) args=true:=
 postW_of (r:=l.row.toRowW) (X:=(true == true))
   (show WShape.has [] (.bool true) .bool=true by first | rfl | decide | simp [WShape.has,WShape.arms,WShape.armsAll])
   (show(WTm.eq .res (.lit (.bool true))).value [] { args:=args,res:=some (.bool true),after:=args }=some (.bool (true == true)) from w_eq_bool (w_res rfl) w_lit) rfl
theorem attach_call {l:OpenLaw}{n:Nat}{q:x0x}{loose:List Str}{XP:(Str->Option Value)->Heap->Prop}{YP:World->Heap->Prop}{d:DefRec}
   (hn:l.most=some n) (hdf:d.params.defaults=[])
   (call:∀(w:World) (s₀ s₁:Shared) (mg mb:Str->Option Value) (fa:Addr) (o:Obj) (pm cd doc:Value) (a:Addr) (vs:List Value) (ns:List Int),
     Ground q loose [] XP w s₀ mg mb s₁.heap->YP w s₁.heap->
     s₁.heap.get? fa=some o->o.data=.func (docDef d.name d.params d.body d.scope pm cd doc)->s₁.heap.CodeRec cd d.name->mg d.name=some (.ref fa)->
     s₁.heap.get? a=some { cls:=.type "list",data:=.seq vs.toArray }->IntsAre vs ns->ns.length<=n->s₁.gens=#[]->
     x2c (model l.prog w) callerA (.call (.ref fa) ⟨[.ref a],[]⟩) (fun r s'=>r=.ok (.ret (.bool true))/\OldK s₁.heap s'.heap/\s'.os=s₁.os/\AllBare s'.gens) s₁) :
   WalkO q loose XP YP l.row.toRowW d [] (fun f vs=>PySem.call f vs):=by
 intro w s₀ s₁ mg mb G Y fa o pm cd doc dV kV ho hd hcd hD hmg hg args vals as hpre hlay hrd hwl hlo;obtain rfl:dV=.none:=Dflts.none hD hdf;obtain rfl:kV=.none:=Dflts.noKw hD;obtain⟨a,vs,ns,rfl,rfl,hobj,hints,hlen⟩:=a6m hn hpre hwl;refine enter_call (codeAny_mono (call w s₀ s₁ mg mb fa o pm cd doc a vs ns G Y ho (fd_plain hd) hcd hmg hobj hints hlen hg) fun r s' hq=>?_);obtain⟨rfl,h2,h3,h4⟩:=hq;exact⟨.inl ⟨.bool true,.bool true,[],rfl,fun _=>rfl,.bool true,a6K l _,fun _=>⟨List.Pairwise.nil,fun _ hm=>(nomatch hm)⟩⟩,h2,h3,h4⟩
end Att
namespace L2
open PySem PySem.Spec PyProof.Rows
theorem a5Z {vs:List Value}{ns:List Int}(h:IntsAre vs ns):Vals (ns.map V.int) vs:=by
 induction h with
 | nil=>exact .nil
 | cons n t _ ih=>exact .cons ⟨t,rfl⟩ ih
def Only (H:Hp):Prop:=∀b,H b=none\/∃o xs,H b=some (.frz o (.lst xs))
theorem a8h {P:x0x}{w:World}{K:x0a}{mg mb:Str->Option Value}{CX:CXT}{k:Nat}{fa a:Addr}{fd:x2u}{x:Str}{sp:Sp}{s₁:Shared}{vs:List Value}{ns:List Int}
   (KX:K.In s₁.heap) (hns:s₁.heap.Ns x1z mg) (hb:s₁.heap.Ns builtinsNs mb) (hbb:∀x:Str,x≠"__name__"->mb x=x0J x) (hlim:s₁.heap.NoLimit) (hg:s₁.gens=#[])
   (ha:s₁.heap.get? a=some { cls:=.type "list",data:=.seq vs.toArray }) (hi:IntsAre vs ns) (hl:ns.length<=x0t) (hr:Room k callerA)
   (F:∀base:Heap,K.In base->base.Ns x1z mg->FnOk P w K mg base CX k fa fd [x] sp) (hbind:∀(s:Shared) (u:Value),BindsTo s fd ⟨[u],[]⟩ [(x,u)])
   (hsp:∀H:Hp,Only H->SqL K H a (ns.map V.int)->sp [.ref a] H (fun v _=>v=.bl true) fun _ _ _=>False)
   (hCX:∀H e s',CX [] H s₁ (fun _ _ _=>False) e s'->False) :
   x2c (model P w) callerA (.call (.ref fa) ⟨[.ref a],[]⟩) (fun r s'=>r=.ok (.ret (.bool true))/\OldK s₁.heap s'.heap/\s'.os=s₁.os/\AllBare s'.gens) s₁:=by
 have rv:=a5Z hi;have lenV:=hi.length
 -- from an abstract heap in which nothing but the script may be tracked
 have core:∀H:Hp,Only H->SqL K H a (ns.map V.int)->HOk P w H s₁.heap->(∀b,H b≠none->b=a)->(H a≠none->K.lookup a=none)->
     x2c (model P w) callerA (.call (.ref fa) ⟨[.ref a],[]⟩) (fun r s'=>r=.ok (.ret (.bool true))/\OldK s₁.heap s'.heap/\s'.os=s₁.os/\AllBare s'.gens) s₁:=by
   intro H hO hS hok hA hK;have base_of:∀{b:Addr} {o:Obj},s₁.heap.get? b=some o->H b=none->(hidT s₁.heap H).get? b=some o:=fun e n=>a8n e n
   have noA:∀{b:Addr} {o:Obj} {es:Array DictEntry} {ep:Nat},s₁.heap.get? b=some o->o.data=.dict es ep->H b=none:=fun {b o es ep} e d=>by
     cases q:H b with
     | none=>rfl
     | some u =>
       have e':b=a:=hA b (by rw [q];simp);subst e';rw [ha] at e;cases e;have d':Data.seq vs.toArray _=Data.dict es ep:=d;cases d'
   have nsK:∀{b:Addr} {m:Str->Option Value},s₁.heap.Ns b m->(hidT s₁.heap H).Ns b m:=fun {b m} ⟨o,es,ep,e,d,r⟩=>⟨o,es,ep,base_of e (noA e d),d,r⟩
   have hKb:K.In (hidT s₁.heap H):=fun b o e=>base_of (KX b o e) (by
     cases q:H b with
     | none=>rfl
     | some u =>
       have e':b=a:=hA b (by rw [q];simp);subst e'
       rw [hK (by rw [q];simp)] at e;cases e)
   have hM:Mod K mg (hidT s₁.heap H):=⟨hKb,nsK hns,⟨mb,nsK hb,hbb⟩,let ⟨mc,h1,h2⟩:=hlim;⟨mc,nsK h1,h2⟩⟩;have e0:Env0 P w K mg (hidT s₁.heap H) callerA [] s₁ H:=⟨rfl,hM,fun b o e=>b0o e,x3d (a7k _ _),trivial,fun b hb=>absurd (show b∈([]:List Addr) from hb) (by simp),hok,.of_eq hg,(hO x1O).imp id fun⟨o,xs,e⟩=>⟨o,_,e⟩⟩;refine codeAny_mono ((F _ hKb (nsK hns)).run callerA [] s₁ H ⟨[.ref a],[]⟩ [.ref a] [.ref a] _ _ hr e0 (hbind s₁ (.ref a)) (.cons rfl .nil) (hsp H hO hS)) fun r s' h=>?_;cases r with
   | error e=>exact(hCX H e s' h).elim
   | ok fl =>
     cases fl with
     | next=>exact x2a h
     | brk=>exact x2a h
     | cont=>exact x2a h
     | ret u =>
       obtain⟨v,H',os,bare,un,hok',r',q⟩:=h;have q':v=.bl true:=q;subst q';obtain rfl:u=Value.bool true:=r';refine⟨rfl,OldK.of_keep fun b o e=>?_,os,bare⟩;cases q:H b with
       | none=>exact un.keep b o e q (by intro z;exact absurd (show b∈([]:List Addr) from z) (by simp)) (by simp)
       | some u =>
         rcases hO b with z | ⟨ob,xs,z⟩
         · rw [q] at z;cases z
         · have z2:=un.frzs b ob _ z;obtain⟨e1,_⟩:=hok b _ z;obtain⟨e2,_⟩:=hok' b _ z2;rw [e] at e1;cases e1;exact e2
 cases hk:K.lookup a with
 | some o =>
   -- the script is one of the module's own objects
   have e:=KX a o hk;rw [ha] at e;cases e;refine core (fun _=>none) (fun _=>.inl rfl) (.inr ⟨_,vs.toArray,_,hk,rfl,rfl,rfl,by rw [x0j,lenV];exact hl,by simpa using rv⟩) (fun b u z=>by have z':(none:Option HO)=some u:=z;cases z') (fun b z=>absurd rfl z) fun z=>absurd rfl z
 | none =>
   refine core (fun b=>if b=a then some (.frz { cls:=.type "list",data:=.seq vs.toArray } (.lst (ns.map V.int))) else none) (fun b=>?_) (.inl (.inr ⟨{ cls:=.type "list",data:=.seq vs.toArray },if_pos rfl⟩)) (fun b u z=>?_) (fun b z=>?_) fun _=>hk
   · by_cases hb:b=a
     · exact .inr ⟨_,_,if_pos hb⟩
     · exact .inl (if_neg hb)
   · by_cases hb:b=a
     · have z':=(if_pos hb).symm.trans z;cases z';subst hb;exact⟨ha,by rw [x0e];exact hl,vs,_,rv,ha⟩
     · have z':=(if_neg hb).symm.trans z;cases z'
   · by_cases hb:b=a
     · exact hb
     · exact absurd (if_neg hb) z
abbrev KOf {K:x0a}{h:Heap}(_:K.In h):x0a:=K
theorem a9i {l:PySem.W.OpenLaw}{n k:Nat}{q:x0x}{loose:List Str}{XP:(Str->Option Value)->Heap->Prop}{YP:World->Heap->Prop}{d:DefRec}{K:Params->x0a}{CX:World->CXT}{sp:World->Sp}{x:Str}
   (hn:l.most=some n) (hn2:n<=x0t) (hdf:d.params.defaults=[]) (hr:Room k callerA)
   (hY:∀(w:World) (h:Heap),YP w h->(K w.params).In h)
   (F:∀(w:World) (mg:Str->Option Value) (fa:Addr) (h:Heap),(K w.params).In h->h.Ns x1z mg->mg d.name=some (.ref fa)->
     ∃ fd : x2u, (∀ (s : Shared) (u : Value), BindsTo s fd ⟨[u], []⟩ [(x, u)]) /\
       ∀base:Heap,(K w.params).In base->base.Ns x1z mg->FnOk l.prog w (K w.params) mg base (CX w) k fa fd [x] (sp w))
   (hsp:∀(w:World) (H:Hp) (a:Addr) (ns:List Int),ns.length<=n->Only H->SqL (K w.params) H a (ns.map V.int)->sp w [.ref a] H (fun v _=>v=.bl true) fun _ _ _=>False)
   (hCX:∀(w:World) (H:Hp) (s:Shared) (e:Value) (s':Shared),CX w [] H s (fun _ _ _=>False) e s'->False) :
   PySem.W.WalkO q loose XP YP l.row.toRowW d [] (fun f vs=>PySem.call f vs):=by
 refine Att.attach_call hn hdf fun w s₀ s₁ mg mb fa o pm cd doc a vs ns G Y ho hd hcd hmg hobj hints hlen hg=>?_;have KX:=hY w _ Y;obtain⟨fd,hb,hF⟩:=F w mg fa _ KX G.T.g hmg;exact a8h KX G.T.g G.T.b G.T.builtins G.T.nolimit hg hobj hints (x0U hlen hn2) hr hF hb (fun H hO hS=>hsp w H a ns hlen hO hS) fun H e s'=>hCX w H s₁ e s'
def a1t (s:Stmt):Arguments:=match s with
 | .FunctionDef _ a _ _ _ _ _ _ _ _=>a
 | _=>{ posonlyargs:=[],args:=[],vararg:=none,kwonlyargs:=[],kw_defaults:=[],kwarg:=none,defaults:=[] }
def a0H (s:Stmt):List Stmt:=match s with
 | .FunctionDef _ _ b _ _ _ _ _ _ _=>b
 | _=>[]
def a0i (s:Stmt):Scope:=match s with
 | .FunctionDef _ _ _ _ _ _ sc _ _ _=>sc
 | _=>{ kind:=.function,names:=[],isGenerator:=false,isCoroutine:=false }
abbrev CX0:CXT:=fun _ _ _ _ _ _=>False
abbrev E0:XK:=fun _ _ _=>False
theorem pass0 {X:Cx}:a7B CX0 X E0:=fun _ _ _ _ _ _ _ h=>h.elim
structure Fun (K:x0a)(x qual:Str)(st:Stmt)(f:Addr)(fd:x2u):Prop where
 ex:∃(oc:Value) (od:Option Addr) (kV doc pm:Value) (an:Option Addr) (cdv ct:Value) (osl:Array (Option Value)),
   fd=x1w x qual (a1t st) (a0H st) (a0i st) .none kV doc pm an cdv ct/\K.lookup f=some ⟨oc,od,.func fd,osl⟩/\x3g K cdv qual=true
 kp:x2I K (.ref f)=true
section
variable {P:x0x}{w:World}{K:x0a}{mg:Str->Option Value}{base:Heap}
variable {qual:Str}
theorem Fun.ok {x:Str}{st:Stmt}{f:Addr}{fd:x2u}{N ps:List Str}{k:Nat}{sp:Sp}(F:Fun K x qual st f fd)(S:a0y N ps (a0i st))(len:∀vs H Q E,sp vs H Q E->vs.length=ps.length)
   (hbody:∀(cdv:Value) (A:Around) (outer:List Env) (s:Shared) (H:Hp) (vs:List V) (Q:VK) (E:XK),Room k (A.deeper (envOfC qual (a0i st) s.heap.objs.size f cdv))->sp vs H Q E->
     ∃t,PSs (cxOf CX0 P w K mg base N qual (a0i st) f cdv A outer s H E).nox (a0H st) t/\t { nx:=fun _ H'=>Q .non H',rt:=Q } (start N vs) H):FnOk P w K mg base CX0 (k + 1) f fd ps sp:=by
 obtain⟨oc,od,kV,doc,pm,an,cdv,ct,osl,rfl,lk,hcd⟩:=F.ex;refine fn_of lk hcd S len fun A outer s H vs Q E hr hsp=>?_;obtain⟨t,h,q⟩:=hbody cdv A outer s H vs Q E hr hsp;exact⟨t,h.nox,q⟩
theorem Fun.binds {x:Str}{st:Stmt}{f:Addr}{fd:x2u}{ps:List Str}(F:Fun K x qual st f fd)
   (h:∀(kV doc pm:Value) (an:Option Addr) (cdv ct:Value) (us:List Value),us.length=ps.length->bindArgs (x1w x qual (a1t st) (a0H st) (a0i st) .none kV doc pm an cdv ct) ⟨us,[]⟩=pure (ps.zip us)):a5W K fd ps []:=by
 obtain⟨oc,od,kV,doc,pm,an,cdv,ct,osl,rfl,lk,hcd⟩:=F.ex;exact .all (h kV doc pm an cdv ct)
theorem fun_mk {x:Str}{st:Stmt}{f:Addr}{oc:Value}{od an:Option Addr}{osl:Array (Option Value)}{kV doc pm cdv ct:Value}(l:K.lookup f=some ⟨oc,od,.func (x1w x qual (a1t st) (a0H st) (a0i st) .none kV doc pm an cdv ct),osl⟩)
   (c:x3g K cdv qual=true) (k:x2I K (.ref f)=true):Fun K x qual st f (x1w x qual (a1t st) (a0H st) (a0i st) .none kV doc pm an cdv ct):=⟨⟨oc,od,kV,doc,pm,an,cdv,ct,osl,rfl,l,c⟩,k⟩
end
section
variable {X:Cx}
theorem pv (i:Nat){x:Str}{pos:Pos}(hN:X.N[i]?=some x:=by rfl)(hv:Vis X.env.scope x:=by first | exact Or.inl rfl | exact Or.inr (Or.inl rfl) | exact Or.inr (Or.inr rfl))(hd:(x == ("__debug__":Str))=false:=by decide)
   (hcd:(x == ("__classdict__":Str))=false:=by decide):PE X (.Name x pos) (tVar i):=a8O hN hv hd hcd
end
theorem ite2 {c A B:Prop}[Decidable c](h1:c->A)(h2:¬c->B):if c then A else B:=by
 by_cases h:c
 · rw [if_pos h];exact h1 h
 · rw [if_neg h];exact h2 h
def Same (H H':Hp):Prop:=∀b o,H b=some o->H' b=some o
theorem Same.refl (H:Hp):Same H H:=fun _ _ h=>h
end L2
end
section
namespace L2
open PySem PySem.Spec PyProof.Rows
variable {iter:Expr}{cl:List (Str×Addr)}{cs:List (Option Nat)}{fp:List Addr}{J:It}{tn:Nat->Heap->Prop}{Y:Cx}{W:Nat->Nat->St->Hp->Prop}{tt:TT}
theorem a4E {prog:x0x}{w:World}{A:Around}{R:Result->Shared->Prop}{s:Shared}{elt target:Expr}{ifs:List Expr}{scope:Scope}{pos:Pos}{it acc:Value}{env:Env}(I:Nat->Shared->Prop)
   (turn:∀n s,I n s->wpAny (model prog w) A (pyNext it) (fun r s₁=>match r with
     | none=>R (.ok .next) s₁
     | some v=>wpAny (model prog w) A (x1q target it v) (fun _ s₁'=>wpAny (model prog w) A (assign target env v) (fun _ s₂=>
         wpAny (model prog w) A (forIn ifs true fun c r=>if r=true then do let ok ← isTrue c env (eval c env);pure (x1g ok) else pure (x1g r)) (fun ok s₃=>
           if ok=true then wpAny (model prog w) A (eval elt env) (fun x s₄=>
             wpAny (model prog w) A (call (.builtin "list.append") [acc,x]) (fun _ s₅=>∃m,m < n/\I m s₅) (fun _ _=>False) s₄) (fun _ _=>False) s₃
           else ∃m,m < n/\I m s₃) (fun _ _=>False) s₂) (fun _ _=>False) s₁') (fun _ _=>False) s₁) (fun _ _=>False) s)
   (n:Nat) (h:I n s) :
   x2c (model prog w) A (.compLoop (.ListComp elt [⟨target,iter,ifs,0⟩] scope pos) 0 it acc env) R s:=by
 refine codeAny_loop rfl I (fun n s hI=>?_) n h;show wpAny _ A ((compTurn (.ListComp elt [⟨target,iter,ifs,0⟩] scope pos) 0 it acc env).onRaise (fun x=>do noteFrame x env;theTreesLotGoes x)) _ _ s;refine wpAny_noted ?_;rw [compTurn_list];refine x0b (x1u (x0b (x0K (turn n s hI) (fun r s₁ h₁=>?_) fun _ _ h'=>h'.elim)));cases r with
 | none=>exact x0h h₁
 | some v =>
   refine x0b (x0K h₁ (fun _ s₁' h₁'=>?_) fun _ _ h'=>h'.elim);refine x0b (x0K h₁' (fun _ s₂ h₂=>x0b (x0K h₂ (fun ok s₃ h₃=>?_) fun _ _ h'=>h'.elim)) fun _ _ h'=>h'.elim);cases ok with
   | false=>exact x0h ⟨rfl,h₃⟩
   | true =>
     exact x0b (x0b (x0K h₃ (fun x s₄ h₄=>x0b (x0K h₄ (fun _ s₅ h₅=>x0h (x0h ⟨rfl,h₅⟩)) fun _ _ h'=>h'.elim)) fun _ _ h'=>h'.elim))
def a0l (X:Cx)(scope:Scope)(cl:List (Str×Addr))(N:List Str)(fp:List Addr)(C:Addr)(s:Shared)(H:Hp):Cx where
 prog:=X.prog
 w:=X.w
 K:=X.K
 mg:=X.mg
 base:=X.base
 A:=X.A
 N:=N
 s₀:=s
 H₀:=H
 env:=compEnvC scope cl C X.env
 outer:=X.stack
 stack:=X.stack
 ex:=fp
 fn:=fun _=>false
 calm:=X.calm
 pn:=X.pn
 xe:=fun _ _=>False
structure a0N (X:Cx)(scope:Scope)(cl:List (Str×Addr))(N:List Str)(cs:List (Option Nat)):Prop where
 clos:closureFor scope X.env=pure cl
 kind:scope.kind=.function
 nocell:∀y∈scope.names,y.2≠.cell
 names:∀y∈scope.names,y.2=.local->scope.names.lookup y.1=some .local
 sub:∀x c,cl.lookup x=some c->X.env.cells.lookup x=some c
 has:∀x,((relabel scope X.env).names.lookup x=some .cell\/(relabel scope X.env).names.lookup x=some .free)->∃c,cl.lookup x=some c
 len:cs.length=N.length
 cap:∀(k j:Nat) (x:Str),cs[k]?=some (some j)->N[k]?=some x->X.N[j]?=some x/\Vis X.env.scope x/\X.env.kindOf x≠some .local/\(∃c,cl.lookup x=some c)/\((relabel scope X.env).names.lookup x=some .cell\/(relabel scope X.env).names.lookup x=some .free)
def a7A:List (Str×Addr)->List (Str×Addr)->Prop
 | [],_=>True
 | y::r,cells=>cells.lookup y.1=some y.2/\a7A r cells
theorem a7A.get:∀{cl cells:List (Str×Addr)},a7A cl cells->∀x c,cl.lookup x=some c->cells.lookup x=some c
 | [],_,_,_,_,h=>by cases h
 | (y, d) :: r, cells, ⟨h1, h2⟩, x, c, h => by
   rw [List.lookup_cons] at h;cases e:x == y with
   | true =>
     rw [e] at h;have ey:x=y:=by simpa using e
     cases h;rw [ey];exact h1
   | false=>rw [e] at h;exact a7A.get h2 x c h
theorem a2N {X:Cx}{scope:Scope}{N:List Str}(clos:closureFor scope X.env=pure cl)(kind:scope.kind=.function)(nocell:(scope.names.all fun y=>!(y.2 == .cell))=true)
   (names:(scope.names.all fun y=>!(y.2 == .local) || scope.names.lookup y.1 == some .local)=true) (sub:a7A cl X.env.cells)
   (has:((relabel scope X.env).names.all fun y=>!(y.2 == .cell || y.2 == .free) || (cl.lookup y.1).isSome)=true) (len:cs.length=N.length)
   (cap:((cs.zip N).all fun y=>match y.1 with | none=>true | some j=>X.N[j]? == some y.2 && (X.env.scope.names.lookup y.2 == some .cell || X.env.scope.names.lookup y.2 == some .free) && (cl.lookup y.2).isSome &&
     ((relabel scope X.env).names.lookup y.2 == some .cell || (relabel scope X.env).names.lookup y.2 == some .free))=true):a0N X scope cl N cs:=by
 refine⟨clos,kind,fun y hy=>?_,fun y hy e=>?_,sub.get,fun x hx=>?_,len,fun k j x hk hN=>?_⟩
 · have:=x0I.mp nocell y hy;intro z;rw [z] at this;cases this
 · have:=x0I.mp names y hy;rw [e] at this
   simpa using this
 · rcases hx with hx | hx
   · have:=x0I.mp has _ (x1l hx);exact x1r.mp (by simpa using this)
   · have:=x0I.mp has _ (x1l hx);exact x1r.mp (by simpa using this)
 · have hz:(cs.zip N)[k]?=some (some j,x):=by rw [List.getElem?_zip_eq_some];exact⟨hk,hN⟩
   have:=x0I.mp cap _ (x0X hz);simp only [x1D,Bool.or_eq_true,beq_iff_eq] at this;obtain⟨⟨⟨h1,h2⟩,h3⟩,h4⟩:=this;refine⟨h1,?_,?_,x1r.mp h3,h4⟩
   · rcases h2 with h2 | h2
     · exact .inr (.inl h2)
     · exact .inr (.inr h2)
   · intro z;have z':X.env.scope.names.lookup x=some .local:=z;rw [z'] at h2;rcases h2 with h2 | h2 <;> cases h2
def a5R (cs:List (Option Nat))(σ:St):St:=cs.map fun o=>o.bind fun j=>(σ[j]?).bind id
def PIf (X:Cx)(ifs:List Expr)(t:TT):Prop:=
 ∀ (pins : List (Addr × Obj)) (s : Shared) (σ : St) (H : Hp) (Q : Bool -> Hp -> Prop), Inv X pins σ H s -> t σ H Q ->
   wpAny (model X.prog X.w) X.A (forIn ifs true fun c r=>if r=true then do let ok ← isTrue c X.env (eval c X.env);pure (x1g ok) else pure (x1g r)) (TP X pins σ Q) X.xe s
def tTru:TT:=fun _ H Q=>Q true H
theorem b0a {X:Cx}:PIf X [] tTru:=fun pins s σ H Q I h=>wpAny_tests_nil ⟨H,I,h⟩
def CompW (J:It)(g:TG)(tt:TT)(te:TE)(Q:VK)(D:Addr)(σc:St)(H1:Hp):Prop:=∃W:Nat->Nat->St->Hp->Prop,(∃m,W 0 m σc H1)/\
 ∀i m σ' H',W i m σ' H'->(J.stop i H'/\Q (.ref D) H')\/(J.go i H'/\∀x H2,J.yld i H' x H2->g x σ' H2 fun σ3 H3=>tt σ3 H3 fun b H4=>
    if b=true then te σ3 H4 fun v H5=>∃ys,H5 D=some (.lst ys)/\ys.length < x0t/\∃m',m' < m/\W (i + 1) m' σ3 (upd H5 D (.lst (ys++[v])))
    else ∃m',m' < m/\W (i + 1) m' σ3 H4)
def tComp (cs:List (Option Nat))(wi:TI)(g:TG)(tt:TT)(te:TE):TE:=fun σ H Q=>wi σ H fun J H1=>∀D,H1 D=none->CompW J g tt te Q D (a5R cs σ) (upd H1 D (.lst []))
theorem a3x {X:Cx}{scope:Scope}{N:List Str}(S:a0N X scope cl N cs){pins:List (Addr×Obj)}{σ:St}{H:Hp}{s:Shared}{h₁:Heap}{tk:Nat}
   (I:Inv X pins σ H s) (f2:∀b∈fp,FpOk X pins H b) (ho:∀b∈fp,∃o,s.heap.get? b=some o)
   (old:∀b o,s.heap.get? b=some o->h₁.get? b=some o) (hns:h₁.Ns (s.heap.objs.size + 1) (fun x=>([]:List (Str×Value)).reverse.lookup x))
   (hD:h₁.get? s.heap.objs.size=some { cls:=.type "list",data:=.seq ([]:List Value).toArray }) :
   Inv (a0l X scope cl N fp (s.heap.objs.size + 1) s H) pins (a5R cs σ) (upd H s.heap.objs.size (.lst [])) { s with heap:=h₁,toks:=tk }:=by
 have lt:∀b o,s.heap.get? b=some o->b < s.heap.objs.size:=fun b o e=>x0i e;have neC:∀b o,s.heap.get? b=some o->b≠s.heap.objs.size + 1:=fun b o e=>x0o (x0V (lt b o e));have neD:∀b o,s.heap.get? b=some o->b≠s.heap.objs.size:=fun b o e=>x0o (lt b o e);have nstk:∀b,b≠X.env.locals->b∉X.fs->b∉frs X.stack:=fun b h1 h2 hb=>(x0q.mp (I.stkSub b hb)).elim h1 h2
 have cellO:∀x c,cl.lookup x=some c->∃v o,s.heap.get? c=some o/\s.heap.IsCell c v:=fun x c e=>by
   obtain⟨v,q⟩:=I.cell x c (S.sub x c e);obtain⟨o,h1,_⟩:=id q;exact⟨v,o,h1,q⟩
 refine⟨⟨I.ok.mod,S.kind,I.ok.glob,I.ok.blt,x3q _,fun x y c h1 h2=>I.ok.inj x y c (S.sub x c h1) (S.sub y c h2),fun x hx=>S.has x hx,fun x c hx=>(by cases hx),I.ok.hd,I.ok.frames,.inl rfl,fun b hb=>?_,I.bs,x0U I.ok.bsz I.sz,fun b o e hb=>?_,fun b hb=>?_,I.stack,I.stkFree,I.nos⟩,
   rfl,I.bare,Un.laid old (x0s _) I.fresh I.bigS,⟨_,hns,fun i x v e1 e2 e3=>?_⟩,fun x c e=>?_,?_,fun x c e=>?_,fun p hp=>?_,I.hok.laid old (x0s _) ⟨x1s _,[],0,.nil,hD⟩,?_⟩
 · obtain⟨o,e⟩:=ho b hb;exact⟨neC b o e,fun x c ec=>(f2 b hb).2.2.2.2.1 x c (S.sub x c ec)⟩
 · rcases(f2 b hb).2.2.2.1 with z | z
   · exact I.ok.noex b o e z
   · exact absurd (x0u (x0i e) (x0U I.ok.bsz z)) (x2p _)
 · exact nstk b (f2 b hb).2.1 (f2 b hb).2.2.1
 · have e2':(cs.map fun o=>o.bind fun j=>(σ[j]?).bind id)[i]?=some (some v):=e2;rw [x0p] at e2';cases ec:cs[i]? with
   | none=>rw [ec] at e2';cases e2'
   | some o =>
     rw [ec] at e2';cases o with
     | none=>cases e2'
     | some j =>
       have e2'':(σ[j]?).bind id=some v:=by simpa using e2'
       cases es:σ[j]? with
       | none=>rw [es] at e2'';cases e2''
       | some ov =>
         rw [es] at e2'';have e4:ov=some v:=by simpa using e2''
         subst e4;obtain⟨hN,hv,hnl,⟨c,hc⟩,hk⟩:=S.cap i j x ec e1;obtain⟨m,hn,hl⟩:=I.loc;obtain⟨u,r,l⟩:=hl j x v hN es hv;refine⟨u,r,?_⟩;rcases l with⟨hk',_⟩ | ⟨_,c',hc',z⟩
         · exact absurd hk' hnl
         · have ecc:c'=c:=by
             have:=S.sub x c hc;rw [hc'] at this;exact x0L this
           subst ecc;obtain⟨o,h1,h2⟩:=z;exact .inr ⟨hk,c',hc,⟨o,old _ o h1,h2⟩⟩
 · obtain⟨v,o,h1,o',h2,h3⟩:=cellO x c e;exact⟨v,o',old _ o' h2,h3⟩
 · show upd H s.heap.objs.size (.lst []) (s.heap.objs.size + 1)=none;rw [a0j (Nat.succ_ne_self _)];exact I.hok.fresh (x3q _)
 · obtain⟨v,o,h1,_⟩:=cellO x c e;rw [a0j (neD c o h1)];exact I.freeC x c (S.sub x c e)
 · obtain⟨e,n,ne,nf,d⟩:=I.pin p hp;exact⟨old _ _ e,by rw [a0j (neD _ _ e)];exact n,neC _ _ e,nstk _ ne nf,d⟩
 · show(cs.map _).length=N.length;rw [x0e];exact S.len
theorem Inv.uncomp {X:Cx}{scope:Scope}{N:List Str}{pins:List (Addr×Obj)}{σ σ':St}{H H':Hp}{s s':Shared}{h':Heap}
   (I:Inv X pins σ H s) (f2:∀b∈fp,FpOk X pins H b)
   (J:Inv (a0l X scope cl N fp (s.heap.objs.size + 1) s H) pins σ' H' s') (hs:∀b,b≠s.heap.objs.size + 1->h'.get? b=s'.heap.get? b) :
   Inv X pins σ H' { s' with heap:=h' }:=by
 obtain⟨hh,g,d,t,os'⟩:=s';obtain rfl:os'=s.os:=J.os;have U:Un (frs X.stack) fp H H' s.heap hh:=J.base;have old:∀b o,s.heap.get? b=some o->b≠s.heap.objs.size + 1:=fun b o e=>x0o (x0V (x0i e));have hs':∀b,b≠s.heap.objs.size + 1->h'.get? b=hh.get? b:=hs
 have trC:∀b u,H' b=some u->b≠s.heap.objs.size + 1:=fun b u e z=>by
   have q:H' (s.heap.objs.size + 1)=none:=J.free;rw [z,q] at e;cases e
 show Inv X pins σ H' { s with heap:=h',gens:=g,drawn:=d,toks:=t };refine I.call (h':=h') (g':=g) (d':=d) (t':=t) (ch:=fp) ⟨fun b o e n hb hx=>?_,fun b o e n hb hx=>?_,U.free,fun b o e hx=>?_,U.tups,U.frzs,U.tbls,U.sys⟩ (fun b u e=>?_) J.bare fun b hb=>?_
 · rw [hs' b (old b o e)];exact U.keep b o e n hb hx
 · rw [hs' b (old b o e)];exact U.slot b o e n hb hx
 · rw [hs' b (old b o e)];exact U.there b o e hx
 · refine(J.hok b u e).stay (fun c v hc q=>?_) (fun _ q=>q) fun _ _ q=>q
   have ne:c≠s.heap.objs.size + 1:=by
     rcases hc with z | z
     · rw [z];exact trC b u e
     · exact trC c _ z
   rw [hs' c ne];exact q
 · exact⟨(f2 b hb).2.2.2.1,(f2 b hb).2.1,(f2 b hb).2.2.2.2.1,(f2 b hb).2.2.2.2.2⟩
theorem a3C {P:x0x}{w:World}{K:x0a}{tg:Expr}{it:Addr}{pins:List (Addr×Obj)}{i n:Nat}{s5 s7:Shared}{σ7:St}{H7:Hp}(T:Turn P w K tg J fp it tn)(st5:tn (i + 1) s5.heap)(I7:Inv Y (pins++a2n fp s5.heap) σ7 H7 s7)(n7:∃m',m' < n/\W (i + 1) m' σ7 H7):∃m,m < n/\∃i σ' H',Inv Y pins σ' H' s7/\tn i s7.heap/\(∀b∈fp,H' b=none)/\W i m σ' H':=by
 obtain⟨m',hm,w7⟩:=n7;have pn:∀b∈fp,∀o,s5.heap.get? b=some o->_:=fun b hb o e=>I7.pin (b,o) (x0A _ (x0A _ (a1H hb e)));refine⟨m',hm,i + 1,σ7,H7,I7.unpinned,T.keep _ _ _ st5 fun b hb o e=>(pn b hb o e).1,fun b hb=>?_,w7⟩;obtain⟨o,e,d⟩:=T.obj _ _ st5 b hb;exact(pn b hb o e).2.1
theorem a6b {pins:List (Addr×Obj)}{tg elt:Expr}{ifs:List Expr}{g:TG}{te:TE}{it D:Addr}{N:St->Hp->Prop}{Rn:Shared->Prop}(T:Turn Y.prog Y.w Y.K tg J fp it tn)(hc:Y.calm=true)(stat:∀{H':Hp},(∀b∈fp,H' b=none)->∀b∈fp,FpOk Y pins H' b)(hg:PG Y tg g)(hf:PIf Y ifs tt)(he:PE Y elt te)(fin:∀s σ H,Inv Y pins σ H s->N σ H->Rn s)
   (turn:∀i m σ' H',W i m σ' H'->(J.stop i H'/\N σ' H')\/(J.go i H'/\∀x H2,J.yld i H' x H2->g x σ' H2 fun σ3 H3=>tt σ3 H3 fun b H4=>
    if b=true then te σ3 H4 fun v H5=>∃ys,H5 D=some (.lst ys)/\ys.length < x0t/\∃m',m' < m/\W (i + 1) m' σ3 (upd H5 D (.lst (ys++[v])))
    else ∃m',m' < m/\W (i + 1) m' σ3 H4)) (n:Nat) (s:Shared) (hI:∃i σ' H',Inv Y pins σ' H' s/\tn i s.heap/\(∀b∈fp,H' b=none)/\W i n σ' H') :
   wpAny (model Y.prog Y.w) Y.A (pyNext (.ref it)) (fun r s₁=>match r with
     | none=>Rn s₁
     | some v=>wpAny (model Y.prog Y.w) Y.A (x1q tg (.ref it) v) (fun _ s₁'=>wpAny (model Y.prog Y.w) Y.A (assign tg Y.env v) (fun _ s₂=>
         wpAny (model Y.prog Y.w) Y.A (forIn ifs true fun c r=>if r=true then do let ok ← isTrue c Y.env (eval c Y.env);pure (x1g ok) else pure (x1g r)) (fun ok s₃=>
           if ok=true then wpAny (model Y.prog Y.w) Y.A (eval elt Y.env) (fun x s₄=>
             wpAny (model Y.prog Y.w) Y.A (call (.builtin "list.append") [.ref D,x]) (fun _ s₅=>∃m,m < n/\∃i σ' H',Inv Y pins σ' H' s₅/\tn i s₅.heap/\(∀b∈fp,H' b=none)/\W i m σ' H') Y.xe s₄) Y.xe s₃
           else ∃m,m < n/\∃i σ' H',Inv Y pins σ' H' s₃/\tn i s₃.heap/\(∀b∈fp,H' b=none)/\W i m σ' H') Y.xe s₂) Y.xe s₁') Y.xe s₁) Y.xe s:=by
 obtain⟨i,σ3,H3,I3,st3,fr3,w3⟩:=hI;rcases turn i n σ3 H3 w3 with⟨stop,qn⟩ | ⟨go,step⟩
 · refine thn (T.done Y rfl rfl rfl hc i pins s σ3 H3 Y.xe I3 (stat fr3) st3 stop) fun r s4 ⟨hr,I4⟩=>?_;subst hr;exact fin s4 σ3 H3 I4 qn
 · refine thn (T.item Y rfl rfl rfl hc i pins s σ3 H3 Y.xe I3 (stat fr3) st3 go) fun r s4 ⟨u,hr,h4⟩=>?_;subst hr;refine thn h4 fun _ s5 ⟨x,H5,I5,r5,y5,st5,fr5⟩=>?_;refine thn (hg _ s5 σ3 H5 x u _ (I5.pinned (stat fr5) (T.obj _ _ st5)) r5 (step x H5 y5)) fun _ s6 ⟨σ6,H6,I6,q6⟩=>?_;refine thn (hf _ s6 σ6 H6 _ I6 q6) fun ok s7 ⟨H7,I7,q7⟩=>?_;cases ok with
   | false=>exact a3C T st5 I7 q7
   | true =>
     refine thn (he _ s7 σ6 H7 _ I7 q7) fun y s8 ⟨v8,H8,I8,r8,ys,e8,z8,n8⟩=>?_;have ma:=a2E (X:=Y) _ s8 σ6 H8 (.ref D) [v8] (.ref D) [y] (fun v H9=>∃m',m' < n/\W (i + 1) m' σ6 H9) I8 rfl (.cons r8 .nil) ⟨_,ys,v8,rfl,rfl,e8,z8,n8⟩;exact thn ma fun _ s9 ⟨v9,H9,I9,_,q9⟩=>a3C T st5 I9 q9
theorem b0e {X:Cx}{scope:Scope}{N:List Str}{elt tg:Expr}{ifs:List Expr}{pos:Pos}{wi:TI}{g:TG}{te:TE}(S:a0N X scope cl N cs)(hc:X.calm=true)(hi:PI X tg iter wi)
   (hb:∀(fp:List Addr) (C:Addr) (s:Shared) (H:Hp),PG (a0l X scope cl N fp C s H) tg g/\PIf (a0l X scope cl N fp C s H) ifs tt/\PE (a0l X scope cl N fp C s H) elt te)
   (hs:∀x,x0G iter X.env x=pure x:=by intro _;rfl) :
   PE X (.ListComp elt [⟨tg,iter,ifs,0⟩] scope pos) (tComp cs wi g tt te):=by
 intro pins s σ H Q I h;rw [eval_ListComp];refine x2o (use:=none) rfl hs S.clos S.kind S.names (thn (hi pins s σ H _ I h) fun v s1 h1=>thn h1 fun itv s2 h2=>?_);obtain⟨it,fp,tn,J,H2,rfl,I2,T,st2,f2,q⟩:=h2
 have ho:∀b∈fp,∃o,s2.heap.get? b=some o:=fun b hb=>by
   obtain⟨o,e,_⟩:=T.obj 0 _ st2 b hb;exact⟨o,e⟩
 refine x0R (wpAny_newFunctionEnv S.nocell (by intro y hy;simp at hy) (fun h₁ hns₁ hsb₁=>?_) S.kind);dsimp only at hns₁ hsb₁ ⊢;have hC:(s2.heap.push { cls:=.type "list",dict:=none,data:=.seq ([]:List Value).toArray }).objs.size=s2.heap.objs.size + 1:=by rw [x2J]
 generalize hH2:s2.heap.push { cls:=.type "list",dict:=none,data:=.seq ([]:List Value).toArray }=hp2 at hns₁ hsb₁ hC ⊢;have old:∀b o,s2.heap.get? b=some o->h₁.get? b=some o:=fun b o e=>hsb₁.extBut b o (by rw [hC];exact x0o (x0V (x0i e))) (x0d _ (hH2▸x0d _ e));have hD:h₁.get? s2.heap.objs.size=some { cls:=.type "list",data:=.seq ([]:List Value).toArray }:=hsb₁.extBut _ _ (by rw [hC];exact x0o (Nat.lt_succ_self _)) (x0d _ (hH2▸x0y _ rfl));rw [hC] at hns₁ ⊢;obtain⟨W,⟨m0,w0⟩,turn⟩:=q s2.heap.objs.size I2.fresh;have Ic:=a3x S (tk:=s2.toks + ([]:List (Str×Value)).length) I2 f2 ho old hns₁ hD;have nstk:∀b,b≠X.env.locals->b∉X.fs->b∉frs X.stack:=fun b h1 h2 hb=>(x0q.mp (I2.stkSub b hb)).elim h1 h2
 have stat:∀{H':Hp},(∀b∈fp,H' b=none)->∀b∈fp,FpOk (a0l X scope cl N fp (s2.heap.objs.size + 1) s2 H2) pins H' b:=fun hn b hb=>by
   obtain⟨o,e⟩:=ho b hb;exact⟨hn b hb,x0o (x0V (x0i e)),nstk b (f2 b hb).2.1 (f2 b hb).2.2.1,.inl hb,fun x c ec=>(f2 b hb).2.2.2.2.1 x c (S.sub x c ec),(f2 b hb).2.2.2.2.2⟩
 obtain⟨hg,hf,he⟩:=hb fp (s2.heap.objs.size + 1) s2 H2;have st1:tn 0 h₁:=T.keep _ _ _ st2 fun b hb o e=>old b o e
 have fr1:∀b∈fp,upd H2 s2.heap.objs.size (.lst []) b=none:=fun b hb=>by
   obtain⟨o,e⟩:=ho b hb;rw [a0j (x0o (x0i e))];exact(f2 b hb).1
 have loop:∀s₃:Shared,s₃={ s2 with heap:=h₁,toks:=s2.toks + ([]:List (Str×Value)).length }->
     x2c (model X.prog X.w) X.A (.compLoop (.ListComp elt [⟨tg,iter,ifs,0⟩] scope pos) 0 (.ref it) (.ref s2.heap.objs.size) (compEnvC scope cl (s2.heap.objs.size + 1) X.env))
       (compPost (model X.prog X.w) X.A X.xe none (EP X pins σ Q) (.ref s2.heap.objs.size) (s2.heap.objs.size + 1)) s₃:=by
   rintro s₃ rfl;refine a4E _ (a6b (Y:=a0l X scope cl N fp (s2.heap.objs.size + 1) s2 H2) T hc stat hg hf he (fun s4 σ3 H3 I4 qn=>?_) turn) m0 ⟨0,_,_,Ic,st1,fr1,w0⟩;obtain⟨m4,hn4,_⟩:=I4.loc;exact⟨m4,hn4,fun h' hs'=>⟨.ref s2.heap.objs.size,H3,Inv.uncomp I2 f2 I4 fun b hb=>hs'.2 b hb,rfl,qn⟩⟩
 exact x2A (loop _ rfl) (T.self _ 0 _ _ _ st1 (loop _ rfl))
end L2
end
section
namespace L2
open PySem PySem.Spec PyProof.Rows
section
variable {X:Cx}
theorem Vals.getE {xs:List V}{us:List Value}(r:Vals xs us){j:Nat}(h:j < us.length):∃x,xs[j]?=some x/\RelV x us[j]:=by
 have hl:=r.length;have h':j < xs.length:=by omega
 obtain⟨u,e,q⟩:=r.get (i:=j) (x:=xs[j]) (by simp [h']);refine⟨xs[j],by simp [h'],?_⟩;have e':us[j]?=some us[j]:=by simp [h]
 rw [e'] at e;cases e;exact q
theorem a5g {x:V}(h:a1T x=true):eqV x x=true:=by
 cases x <;> simp_all [a1T,eqV]
theorem a4I:a1F X (.builtin "isinstance") (fun vs H Q=>∃x n t b,vs=[x,.ty n]/\TyOf X.K H x t/\x2H X.K t (.type n)=some b/\Q (.bl b) H):=by
 intro pins s σ H vs us Q I rv h;obtain⟨x,n,t,b,rfl,ty,e,q⟩:=h;obtain⟨u,v,rfl,r1,r2⟩:=rv.two;cases r2;exact a7f I r1 ty e fun tk=>⟨.bl b,H,I.tok tk,rfl,q⟩
theorem Inv.turnedNew {pins:List (Addr×Obj)}{σ:St}{H:Hp}{s:Shared}{h':Heap}{t':Nat}{ch:List Addr}{xs:List V}(I:Inv X pins σ H s)(k:∀b o,b∉ch->s.heap.get? b=some o->h'.get? b=some o)
   (hf:∀b∈ch,FpOk X pins H b) (new:a0J X.prog X.w (upd H s.heap.objs.size (.tup xs)) h' s.heap.objs.size (.tup xs)):Inv X pins σ (upd H s.heap.objs.size (.tup xs)) { s with heap:=h',toks:=t' }:=by
 have nch:∀b u,H b=some u->b∉ch:=fun b u e z=>by rw [(hf b z).1] at e;cases e
 have nD:∀b o,s.heap.get? b=some o->b≠s.heap.objs.size:=fun b o e=>x0o (x0i e)
 refine I.step (g':=s.gens) (d':=s.drawn) (ch:=ch) (fun b hb=>⟨(hf b hb).2.2.2.1,(hf b hb).2.1,(hf b hb).2.2.2.2.1,(hf b hb).2.2.2.2.2⟩) (fun b o _ _ hc e _=>k b o hc e) (fun b o _ _ hc e _=>⟨o.slots,k b o hc e⟩) (fun b o _ e n=>by rw [a0j (nD b o e)];exact n)
   (fun b o hc e=>⟨o,k b o hc e⟩) (fun b ys e=>by rw [a0j (a0s e I.fresh)];exact e) (fun b o u e=>by rw [a0j (a0s e I.fresh)];exact e) (fun b ps e=>⟨#[],by rw [a0j (a0s e I.fresh),e];simp⟩) (fun z=>by unfold NS;rw [a0j (x0o I.bigS)];exact z) (fun m hm=>?_) (fun b u e=>?_) I.bare
 · obtain⟨o,es,ep,ho,r⟩:=hm;exact⟨o,es,ep,k _ o (fun z=>(hf _ z).2.1 rfl) ho,r⟩
 · by_cases hb:b=s.heap.objs.size
   · subst hb;rw [a0n] at e;cases e;exact new
   · rw [a0j hb] at e;refine(I.hok b u e).stay (fun c v hc q=>k c v ?_ q) (fun c q=>by rw [a0j (a0s q I.fresh)];exact q) fun c ys q=>by rw [a0j (a0s q I.fresh)];exact q
     rcases hc with z | z
     · rw [z];exact nch b u e
     · exact nch c _ z
end
end L2
end
section
namespace L2
open PySem PySem.Spec PyProof.Rows
theorem a7y:x0J "len"=some (.builtin "len"):=by decide +kernel
theorem bt_abs:x0J "abs"=some (.builtin "abs"):=by decide +kernel
theorem bt_min:x0J "min"=some (.builtin "min"):=by decide +kernel
theorem bt_max:x0J "max"=some (.builtin "max"):=by decide +kernel
theorem a3B:x0J "isinstance"=some (.builtin "isinstance"):=by decide +kernel
theorem a7x:x0J "sorted"=some (.builtin "sorted"):=by decide +kernel
theorem bt_int:x0J "int"=some (.type "int"):=by decide +kernel
theorem b0N:x0J "bool"=some (.type "bool"):=by decide +kernel
theorem b0L:x0J "list"=some (.type "list"):=by decide +kernel
theorem a8w:x0J "tuple"=some (.type "tuple"):=by decide +kernel
theorem b0M:x0J "dict"=some (.type "dict"):=by decide +kernel
theorem a9r {tA:TT}{ta tb:TE}{σ:St}{H:Hp}{R:VK}(p:V->Prop)(h:(∀v,p v->R v H)->tIf tA ta tb σ H R)(hp:∀v,p v->R v H):tIf tA ta tb σ H R:=h hp
theorem at_map {ns:List Int}{k:Int}(h0:0<=k)(h:k < (ns.length:Int)):∃v,atI (ns.map V.int) k=some (.int v):=by
 have hk:k.toNat < ns.length:=by omega
 have q:atI (ns.map V.int) ((k.toNat:Nat):Int)=some (.int ns[k.toNat]):=b0P (by rw [x0p,x0k hk] <;> rfl)
 rw [show((k.toNat:Nat):Int)=k by omega] at q;exact⟨_,q⟩
theorem kit_of {K:x0a}{T S:String}{b:Bool}(h:(if(x1k T == x1k S)=true then some true else if PySem.W.kitMeta S=true then(fastBuiltinMro T).map (·.contains (.type S)) else none)=some b):x2H K (.type T) (.type S)=some b:=h
structure Kn (P:x0x)(w:World)(K:x0a)(mg:Str->Option Value)(base:Heap)(x:Str)(k:Nat)(ps:List Str)(sp:Sp):Prop where
 ex:∃(f:Addr) (fd:x2u),FnOk P w K mg base CX0 k f fd ps sp/\a5W K fd ps []/\x2I K (.ref f)=true/\mg x=some (.ref f)/\∃oc od osl,K.lookup f=some ⟨oc,od,.func fd,osl⟩
structure Fn0 (K:x0a)(mg:Str->Option Value)(x:Str)(st:Stmt):Prop where
 ex:∃(f:Addr) (fd:x2u),Fun K x x st f fd/\mg x=some (.ref f)
theorem a1x {K:x0a}{h:Heap}{mg:Str->Option Value}{x:Str}{st:Stmt}(X:K.In h)(G:h.Ns x1z mg){f:Addr}{oc:Value}{od an:Option Addr}{osl:Array (Option Value)}{kV doc pm cdv ct:Value}
   (a:PySem.W.nsIn K x1z x=some (some (.ref f))) (l:K.lookup f=some ⟨oc,od,.func (x1w x x (a1t st) (a0H st) (a0i st) .none kV doc pm an cdv ct),osl⟩)
   (c:x3g K cdv x=true) (k:x2I K (.ref f)=true):Fn0 K mg x st:=⟨f,_,fun_mk l c k,PySem.W.mg_of X G a⟩
section
variable {P:x0x}{w:World}{K:x0a}{mg:Str->Option Value}{base:Heap}
theorem Fn0.ok {x:Str}{st:Stmt}{N ps:List Str}{k:Nat}{sp:Sp}(F:Fn0 K mg x st)(S:a0y N ps (a0i st))(len:∀vs H Q E,sp vs H Q E->vs.length=ps.length)
   (bd:∀(kV doc pm:Value) (an:Option Addr) (cdv ct:Value) (us:List Value),us.length=ps.length->bindArgs (x1w x x (a1t st) (a0H st) (a0i st) .none kV doc pm an cdv ct) ⟨us,[]⟩=pure (ps.zip us))
   (hbody:∀(f:Addr) (cdv:Value) (A:Around) (outer:List Env) (s:Shared) (H:Hp) (vs:List V) (Q:VK) (E:XK),Room k (A.deeper (envOfC x (a0i st) s.heap.objs.size f cdv))->sp vs H Q E->
     ∃t,PSs (cxOf CX0 P w K mg base N x (a0i st) f cdv A outer s H E).nox (a0H st) t/\t { nx:=fun _ H'=>Q .non H',rt:=Q } (start N vs) H):Kn P w K mg base x (k + 1) ps sp:=by
 obtain⟨f,fd,F1,m⟩:=F.ex
 have lk:∃oc od osl,K.lookup f=some ⟨oc,od,.func fd,osl⟩:=by
   obtain⟨oc,od,kV,doc,pm,an,cdv,ct,osl,_,lk,hcd⟩:=F1.ex;exact⟨oc,od,osl,lk⟩
 exact⟨f,fd,F1.ok S len fun cdv A outer s H vs Q E hr h=>hbody f cdv A outer s H vs Q E hr h,F1.binds bd,F1.kp,m,lk⟩
theorem Kn.imp {x:Str}{k:Nat}{ps:List Str}{sp sp':Sp}(G:Kn P w K mg base x k ps sp)(h:∀vs H Q E,sp' vs H Q E->sp vs H Q E):Kn P w K mg base x k ps sp':=by
 obtain⟨f,fd,a,b,c,d⟩:=G.ex;exact⟨f,fd,a.imp h,b,c,d⟩
end
section
variable {X:Cx}{x:Str}{p pos:Pos}{e:Expr}{es:List Expr}{t:TA}{ps:List Str}{sp:Sp}{j k:Nat}
theorem pe_fn (G:Kn X.prog X.w X.K X.mg X.base x k ps sp)(hr:Room j X.A)(hk:k<=j)(hg:Gl X x)(ha:PA X (e::es) t)(hdb:(x == ("__debug__":Str))=false:=by decide)
   (he:x0P (e::es) X.env=(false,eval e X.env)::x0P es X.env:=by rfl) (hpl:(backTo pos (x0P es X.env)).any (·.1)=false:=by rfl) :
   PE X (.Call (.Name x p) (e::es) [] pos) (tCall sp [] E0 t):=by
 intro pins s σ H Q I h;obtain⟨f,fd,F,hb,hkp,hm,_⟩:=G.ex;exact b0f F (hr.mono hk) hg hm hkp hb .nil pass0 ha hdb he hpl pins s σ H Q I h
end
def a7H (K:x0a):Sp:=fun vs H Q _=>∃(a:Addr) (ns:List Int),vs=[.ref a]/\SqL K H a (ns.map V.int)/\ns.length<=63/\Only H/\∀H',Q (.bl true) H'
theorem a7D {l:PySem.W.OpenLaw}{q:x0x}{loose:List Str}{XP:(Str->Option Value)->Heap->Prop}{YP:World->Heap->Prop}{d:DefRec}{K:Params->x0a}{x:Str}{k:Nat}(hn:l.most=some 63)(hdf:d.params.defaults=[])(hk:Room k callerA)
   (hY:∀(w:World) (h:Heap),YP w h->(K w.params).In h)
   (F:∀(w:World) (mg:Str->Option Value) (h:Heap),(K w.params).In h->h.Ns x1z mg->∃st,Fn0 (K w.params) mg d.name st/\
     (∀(kV doc pm:Value) (an:Option Addr) (cdv ct:Value) (s:Shared) (u:Value),BindsTo s (x1w d.name d.name (a1t st) (a0H st) (a0i st) .none kV doc pm an cdv ct) ⟨[u],[]⟩ [(x,u)])/\
     ∀base:Heap,(K w.params).In base->base.Ns x1z mg->Kn l.prog w (K w.params) mg base d.name k [x] (a7H (K w.params))) :
   PySem.W.WalkO q loose XP YP l.row.toRowW d [] (fun f vs=>PySem.call f vs):=by
 refine L2.a9i (n:=63) (k:=k) (x:=x) (CX:=fun _=>CX0) (sp:=fun w=>a7H (K w.params)) hn (by decide) hdf hk hY (fun w mg fa h KX G hmg=>?_) (fun _ _ a ns hl hO hS=>⟨a,ns,rfl,hS,hl,hO,fun _=>rfl⟩) fun _ _ _ _ _ z=>z;obtain⟨st,F0,hb,hF⟩:=F w mg h KX G;obtain⟨f,fd,F1,m⟩:=F0.ex;have e:=hmg.symm.trans m;cases e;refine⟨fd,fun s u=>?_,fun base kb nb=>?_⟩
 · obtain⟨oc,od,kV,doc,pm,an,cdv,ct,osl,rfl,lk,hcd⟩:=F1.ex;exact hb kV doc pm an cdv ct s u
 · obtain⟨f',fd',a,b,c,m',oc',od',osl',lk'⟩:=(hF base kb nb).ex;have e:=m.symm.trans m';cases e;obtain⟨oc,od,kV,doc,pm,an,cdv,ct,osl,_,lk,hcd⟩:=F1.ex;have e2:=lk.symm.trans lk';cases e2;exact a
end L2
end
section
namespace L2
open PySem PySem.Spec PyProof.Rows
section
variable {X:Cx}
theorem a5A:OpR X (x2b .Mult) (fun x y H Q=>∃i n,x=.str i/\y=.int n/\i.length<=100/\0<=n/\n<=1000/\Q (.str (Txt.mul i n)) H):=by
 intro pins s σ H x y v u Q I rx ry h;obtain⟨i,n,rfl,rfl,h1,h2,h3,q⟩:=h;obtain⟨t,rfl⟩:=rx;obtain⟨t',rfl⟩:=ry;exact SB.mul (mulOk_of 100 1000 h1 h3 (by omega) (by decide) (by decide)) fun t' tk=>⟨.str _,H,I.tok _,⟨_,rfl⟩,q⟩
def Low (l:List Nat):Prop:=∀c∈l,97<=c/\c<=122
theorem Low.app {a b:List Nat}(h:Low a)(h':Low b):Low (a++b):=fun c hc=>(x1c.mp hc).elim (h c) (h' c)
end
section
variable {X:Cx}{pos:Pos}
def a9p (i j k:Nat)(ta:TA):TS:=fun D σ H=>ta σ H fun vs H1=>∃u v w,vs=[u,v,w]/\D.nx (((σ.set i (some u)).set j (some v)).set k (some w)) H1
theorem a9V {i j k:Nat}{x y z:Str}{a b c:Expr}{ta:TA}{px py pz pt:Pos}{kt k2 pt2}(hc:X.calm=true)(hN:X.N.Nodup)(hi:X.N[i]?=some x)(hj:X.N[j]?=some y)(hk:X.N[k]?=some z)(hij:i≠j)(hik:i≠k)(hjk:j≠k)
   (hx:X.env.scope.names.lookup x=some .local) (hy:X.env.scope.names.lookup y=some .local) (hz:X.env.scope.names.lookup z=some .local) (ha:PA X [a,b,c] ta)
   (hw:x2r [.Tuple [.Name x px,.Name y py,.Name z pz] kt pt] (.Tuple [a,b,c] k2 pt2) X.env=pure (some [x,y,z]))
   (hs:x2q [.Tuple [.Name x px,.Name y py,.Name z pz] kt pt] (.Tuple [a,b,c] k2 pt2) pos.line X.env=pure false:=by rfl) :
   PS X (.Assign [.Tuple [.Name x px,.Name y py,.Name z pz] kt pt] (.Tuple [a,b,c] k2 pt2) pos) (a9p i j k ta):=by
 intro pins s σ H D I h;rw [exec_Assign_arm];refine x0b (x1u ?_);rw [hs];refine x0b (x0h ?_);rw [if_neg (by decide)];refine x0b (Tuple_ (thn (ha _ pins s σ H _ I h) fun us s1 ⟨vs,H1,I1,r1,q1⟩=>?_));obtain⟨v,w,w2,e1,q1⟩:=q1;subst e1
 obtain⟨u1,u2,u3,rfl,rv,rw',rw2⟩:∃u1 u2 u3,us=[u1,u2,u3]/\RelV v u1/\RelV w u2/\RelV w2 u3:=by
   cases r1 with
   | cons p q =>
     cases q with
     | cons p' q' =>
       cases q' with
       | cons p2 q2 =>
         cases q2;exact⟨_,_,_,rfl,p,p',p2⟩
 refine x0R ?_ (by show 3<=x0t;decide);have I2:Inv X pins σ H1 { s1 with heap:=s1.heap.push { cls:=.type "tuple",data:=.seq [u1,u2,u3].toArray } }:=I1.kept (t':=s1.toks) fun b o e=>x0d _ e;rw [hw];refine x0b (x0h ?_);show wpAny (model X.prog X.w) X.A (do rule "assign.swapped-stores";let items ← unpackItems (.ref s1.heap.objs.size) 3 none;x2Q [fun v=>x2R X.env z v,fun v=>x2R X.env y v,fun v=>x2R X.env x v] items.reverse;pure Flow.next) _ _ _;refine x0b (x2m (x0b (unpackItems_tuple (items:=#[u1,u2,u3]) (I.ok.hd hc) (IsTup.new s1.heap _) fun h' hx'=>?_)));have I3:=I2.kept (h':=h') (t':=s1.toks) fun b o e=>hx' b o (x0o (x0i e)) e;show wpAny _ _ (x2Q [fun v=>x2R X.env z v,fun v=>x2R X.env y v,fun v=>x2R X.env x v] [u3,u2,u1]>>=fun _=>pure Flow.next) _ _ _;refine x0b (x1F (x2F (a1b I3 hN hk (.inl hz) rw2 (fun s2 I4=>?_) (.inr hz))));refine x1F (x2F (a1b I4 hN hj (.inl hy) rw' (fun s3 I5=>?_) (.inr hy)));refine x1F (x2F (a1b I5 hN hi (.inl hx) rv (fun s4 I6=>assignInOrder_nil (x0h ?_)) (.inr hx)));rw [List.set_comm _ _ (Ne.symm hjk),List.set_comm _ _ (Ne.symm hik),List.set_comm _ _ (Ne.symm hij)] at I6;exact⟨_,H1,I6,q1⟩
end
theorem Same.lay {H H':Hp}{p:Addr}{o:HO}(s:Same H H')(h:H' p=none):Same H (upd H' p o):=fun b u e=>by
 rw [a0j (a0s (s b u e) h)];exact s b u e
theorem a7G {c:TT}{t u:TS}{D:Ends}{σ:St}{H:Hp}(p:St->Hp->Prop)(h:(∀σ' H',p σ' H'->D.nx σ' H')->tIfS c t u D σ H)(hp:∀σ' H',p σ' H'->D.nx σ' H'):tIfS c t u D σ H:=h hp
theorem b0v {n:Nat}{d:Int}(h0:0<=d)(h1:d < n):ixN n d=some d.toNat:=by
 unfold ixN;rw [if_pos h0,if_pos h1]
theorem b0O {α:Type}{xs:List α}{d:Int}(h0:0<=d)(h1:d < xs.length):∃x,xs[d.toNat]?=some x/\atI xs d=some x:=by
 have hk:d.toNat < xs.length:=by omega
 refine⟨xs[d.toNat],x0k hk,?_⟩;unfold atI;rw [b0v h0 h1];exact x0k hk
end L2
end
section
namespace L2
open PySem PySem.Spec PyProof.Rows
section
variable {X:Cx}
def rSlS:V->Option Int->Option Int->Hp->VK->Prop:=fun x lo hi H Q=>∃z,x=.str z/\z.length<=x0t/\Q (.str (Txt.slice z lo hi)) H
theorem sl_str:SlR X rSlS:=by
 intro pins s σ H x v vl vu lo hi sl Q I rx hs pl pu h;obtain⟨z,rfl,hz,q⟩:=h;obtain⟨t,rfl⟩:=rx;refine⟨"str",_,F.slot_str_getitem.lookup,typeIs_str _ _ _,?_⟩;cases pl with
 | none =>
   cases pu with
   | none=>exact x1U (l:=none) (u:=none) (st:=none) hs rfl (x2Y ⟨x0U (Txt.slice_le z _ _) hz,fun t' k=>⟨.str _,H,I.tok _,⟨_,rfl⟩,q⟩⟩)
   | int j tj=>exact x1U (l:=none) (u:=some (j,tj)) (st:=none) hs rfl (x2Y ⟨x0U (Txt.slice_le z _ _) hz,fun t' k=>⟨.str _,H,I.tok _,⟨_,rfl⟩,q⟩⟩)
 | int i ti =>
   cases pu with
   | none=>exact x1U (l:=some (i,ti)) (u:=none) (st:=none) hs rfl (x2Y ⟨x0U (Txt.slice_le z _ _) hz,fun t' k=>⟨.str _,H,I.tok _,⟨_,rfl⟩,q⟩⟩)
   | int j tj=>exact x1U (l:=some (i,ti)) (u:=some (j,tj)) (st:=none) hs rfl (x2Y ⟨x0U (Txt.slice_le z _ _) hz,fun t' k=>⟨.str _,H,I.tok _,⟨_,rfl⟩,q⟩⟩)
def rCatA (K:x0a):R2:=fun x y H Q=>∃a b xs ys,x=.ref a/\y=.ref b/\SqT K H a xs/\SqT K H b ys/\xs.length + ys.length<=x0t/\
 (xs=[]->Q (.ref b) H)/\(xs≠[]->ys=[]->Q (.ref a) H)/\(xs≠[]->ys≠[]->∀p,H p=none->Q (.ref p) (upd H p (.tup (xs++ys))))
theorem b0j:OpR X (x2b .Add) (rCatA X.K):=by
 intro pins s σ H x y v u Q I rx ry h;obtain⟨a,b,xs,ys,rfl,rfl,ha,hb,hz,q0,q1,q2⟩:=h
 by_cases hx:xs=[]
 · cases rx;cases ry;obtain⟨its,r1,p1,_⟩:=I.tuple ha;obtain⟨its2,r2,p2,_⟩:=I.tuple hb;obtain⟨⟨cls,dd,data,sl⟩,ho,hc,n,hd⟩:=id p1;obtain⟨⟨cls2,dd2,data2,sl2⟩,ho2,hc2,n2,hd2⟩:=id p2;simp only at hc hd hc2 hd2;subst hc hd hc2 hd2;have he:its=[]:=r1.nil_iff.mpr hx
   exact concat_meets ⟨_,ho,rfl⟩ ⟨_,ho2,rfl⟩ noFill_tuple_add seq_tuple_add x2z x2w (x2n _ _)
     (tuple_addW0 a b its.toArray its2.toArray n n2 dd dd2 sl sl2 (by simp [he])) ⟨ho,ho2,⟨.ref b,H,I,rfl,q0 hx⟩⟩
 · exact b0i pins s σ H _ _ v u Q I rx ry ⟨a,b,xs,ys,rfl,rfl,ha,hb,hx,hz,q1 hx,q2 hx⟩
theorem Inv.big {pins:List (Addr×Obj)}{σ:St}{H:Hp}{s:Shared}(I:Inv X pins σ H s):x1O < s.heap.objs.size:=by
 have h:x1z < s.heap.objs.size:=(I.mod.glob.keeps I.bk).lt;exact Nat.lt_trans (by decide) h
end
end L2
end
section
namespace Pu
open PySem PySem.Spec L2
inductive PV where
 | non | bl (b:Bool) | int (i:Int) | str (x:Str) | ty (n:String) | pot (k:Nat)
 | tup (xs:List PV) | lst (xs:List PV) | dct (ks:List Key) (xs:List PV)
 /-- the script -/
 | scr (ns:List Int)
structure Gh where
 M:List Addr
 pots:List Addr
def KLst (K:x0a)(a:Addr)(xs:List V):Prop:=∃(o:Obj) (its:Array Value) (n:Nat),K.lookup a=some o/\o.cls=.type "list"/\o.dict=none/\o.data=.seq its n/\its.size<=x0t/\Vals xs its.toList
def AtL (M:List Addr)(H:Hp)(a:Addr)(xs:List V):Prop:=a∉M/\H a=some (.lst xs)
def AtT (M:List Addr)(H:Hp)(a:Addr)(xs:List V):Prop:=a∉M/\H a=some (.tup xs)
theorem AtL.sq {K:x0a}{M:List Addr}{H:Hp}{a:Addr}{xs:List V}(h:AtL M H a xs):SqL K H a xs:=SqL.of h.2
theorem AtT.sq {K:x0a}{M:List Addr}{H:Hp}{a:Addr}{xs:List V}(h:AtT M H a xs):SqT K H a xs:=SqT.of h.2
mutual
def Rep (K:x0a)(G:Gh)(H:Hp):PV->V->Prop
 | .non,v=>v=.non
 | .bl b,v=>v=.bl b
 | .int i,v=>v=.int i
 | .str x,v=>v=.str x
 | .ty n,v=>v=.ty n
 | .pot k,v=>∃p,G.pots[k]?=some p/\v=.ref p
 | .tup xs,v=>∃a vs,v=.ref a/\AtT G.M H a vs/\Reps K G H xs vs
 | .lst xs,v=>∃a vs,v=.ref a/\AtL G.M H a vs/\Reps K G H xs vs
 | .scr ns,v=>∃a,v=.ref a/\((a∉G.M/\∃o,H a=some (.frz o (.lst (ns.map V.int))))\/KLst K a (ns.map V.int))
 | .dct ks xs,v=>∃a kvs,v=.ref a/\a∉G.M/\H a=some (.dK kvs)/\kvs.map (·.1)=ks/\Reps K G H xs (kvs.map (·.2))
def Reps (K:x0a)(G:Gh)(H:Hp):List PV->List V->Prop
 | [],vs=>vs=[]
 | x::xs,vs=>∃v r,vs=v::r/\Rep K G H x v/\Reps K G H xs r
end
section
variable {K:x0a}{G G':Gh}{H H':Hp}
mutual
theorem Rep.mono (hk:∀b o,b∉G.M->H b=some o->H' b=some o)(hM:∀a∈G'.M,a∈G.M\/H a=none)(hp:∀(k:Nat) (p:Addr),G.pots[k]?=some p->G'.pots[k]?=some p):∀(x:PV) (v:V),Rep K G H x v->Rep K G' H' x v
 | .non,v,h=>h
 | .bl b,v,h=>h
 | .int i,v,h=>h
 | .str x,v,h=>h
 | .ty n,v,h=>h
 | .pot k, v, h => by
   obtain⟨p,e,r⟩:=h;exact⟨p,hp k p e,r⟩
 | .tup xs, v, h => by
   obtain⟨a,vs,e,t,r⟩:=h;refine⟨a,vs,e,?_,Reps.mono hk hM hp xs vs r⟩;obtain⟨n,t⟩:=t;exact⟨fun z=>(hM a z).elim n (fun z=>by rw [z] at t;cases t),hk a _ n t⟩
 | .lst xs, v, h => by
   obtain⟨a,vs,e,t,r⟩:=h;refine⟨a,vs,e,?_,Reps.mono hk hM hp xs vs r⟩;obtain⟨n,t⟩:=t;exact⟨fun z=>(hM a z).elim n (fun z=>by rw [z] at t;cases t),hk a _ n t⟩
 | .scr ns, v, h => by
   obtain⟨a,e,h⟩:=h;refine⟨a,e,?_⟩;rcases h with⟨n,o,t⟩ | h
   · exact .inl ⟨fun z=>(hM a z).elim n (fun z=>by rw [z] at t;cases t),o,hk a _ n t⟩
   · exact .inr h
 | .dct ks xs, v, h => by
   obtain⟨a,kvs,e,n,t,ek,r⟩:=h;exact⟨a,kvs,e,fun z=>(hM a z).elim n (fun z=>by rw [z] at t;cases t),hk a _ n t,ek,Reps.mono hk hM hp xs _ r⟩
theorem Reps.mono (hk:∀b o,b∉G.M->H b=some o->H' b=some o)(hM:∀a∈G'.M,a∈G.M\/H a=none)(hp:∀(k:Nat) (p:Addr),G.pots[k]?=some p->G'.pots[k]?=some p):∀(xs:List PV) (vs:List V),Reps K G H xs vs->Reps K G' H' xs vs
 | [],vs,h=>h
 | x :: xs, vs, h => by
   obtain⟨v,r,e,hx,hr⟩:=h;exact⟨v,r,e,Rep.mono hk hM hp x v hx,Reps.mono hk hM hp xs r hr⟩
end
theorem Rep.same {x:PV}{v:V}(h:Rep K G H x v)(s:Same H H'):Rep K G H' x v:=Rep.mono (fun b o _ e=>s b o e) (fun a z=>.inl z) (fun _ _ e=>e) x v h
theorem Reps.same {x:List PV}{v:List V}(h:Reps K G H x v)(s:Same H H'):Reps K G H' x v:=Reps.mono (fun b o _ e=>s b o e) (fun a z=>.inl z) (fun _ _ e=>e) x v h
def Fr (G:Gh)(H H':Hp):Prop:=∀b o,b∉G.M->H b=some o->H' b=some o
theorem Fr.refl:Fr G H H:=fun _ _ _ e=>e
theorem Fr.trans {H2:Hp}(a:Fr G H H')(b:Fr G H' H2):Fr G H H2:=fun c o n e=>b c o n (a c o n e)
theorem Fr.of (s:Same H H'):Fr G H H':=fun b o _ e=>s b o e
theorem Rep.fr {x:PV}{v:V}(h:Rep K G H x v)(s:Fr G H H'):Rep K G H' x v:=Rep.mono s (fun a z=>.inl z) (fun _ _ e=>e) x v h
theorem Reps.fr {x:List PV}{v:List V}(h:Reps K G H x v)(s:Fr G H H'):Reps K G H' x v:=Reps.mono s (fun a z=>.inl z) (fun _ _ e=>e) x v h
theorem Reps.length:∀{xs:List PV} {vs:List V},Reps K G H xs vs->xs.length=vs.length
 | [],vs,h=>by cases(show vs=[] from h);rfl
 | x :: xs, vs, h => by
   obtain⟨v,r,e,hx,hr⟩:=h;subst e;simp [Reps.length hr]
theorem Reps.get:∀{xs:List PV} {vs:List V} {i:Nat} {v:V},Reps K G H xs vs->vs[i]?=some v->∃x,xs[i]?=some x/\Rep K G H x v
 | [],vs,i,v,h,e=>by cases(show vs=[] from h);simp at e
 | x :: xs, vs, i, v, h, e => by
   obtain⟨w,r,e1,hx,hr⟩:=h;subst e1;cases i with
   | zero=>simp at e;subst e;exact⟨x,rfl,hx⟩
   | succ i=>simpa using Reps.get (i:=i) hr (by simpa using e)
theorem Reps.get':∀{xs:List PV} {vs:List V} {i:Nat} {x:PV},Reps K G H xs vs->xs[i]?=some x->∃v,vs[i]?=some v/\Rep K G H x v:=fun {xs vs i x} h e=>by
 obtain⟨hi,_⟩:=x0n.mp e;have hl:=h.length;have e2:vs[i]?=some (vs[i]'(by omega)):=x0k (by omega);obtain⟨y,ey,r⟩:=h.get e2;rw [e] at ey;cases ey;exact⟨_,e2,r⟩
theorem Reps.append:∀{xs ys:List PV} {vs us:List V},Reps K G H xs vs->Reps K G H ys us->Reps K G H (xs++ys) (vs++us)
 | [],ys,vs,us,h,h'=>by cases(show vs=[] from h);exact h'
 | x :: xs, ys, vs, us, h, h' => by
   obtain⟨w,r,e1,hx,hr⟩:=h;subst e1;exact⟨w,r++us,rfl,hx,Reps.append hr h'⟩
theorem Reps.take:∀{xs:List PV} {vs:List V} (n:Nat),Reps K G H xs vs->Reps K G H (xs.take n) (vs.take n)
 | xs,vs,0,h=>by simp [Reps]
 | [],vs,n + 1,h=>by cases(show vs=[] from h);exact rfl
 | x :: xs, vs, n + 1, h => by
   obtain⟨w,r,e1,hx,hr⟩:=h;subst e1;exact⟨w,r.take n,rfl,hx,Reps.take n hr⟩
theorem Reps.drop:∀{xs:List PV} {vs:List V} (n:Nat),Reps K G H xs vs->Reps K G H (xs.drop n) (vs.drop n)
 | xs,vs,0,h=>by simpa using h
 | [],vs,n + 1,h=>by cases(show vs=[] from h);exact rfl
 | x :: xs, vs, n + 1, h => by
   obtain⟨w,r,e1,hx,hr⟩:=h;subst e1;exact Reps.drop n hr
theorem Reps.one {x:PV}{v:V}(h:Rep K G H x v):Reps K G H [x] [v]:=⟨v,[],rfl,h,rfl⟩
theorem Reps.set:∀{xs:List PV} {vs:List V} (n:Nat) {x:PV} {v:V},Reps K G H xs vs->Rep K G H x v->Reps K G H (xs.set n x) (vs.set n v)
 | [],vs,n,x,v,h,_=>by cases(show vs=[] from h);exact rfl
 | y :: xs, vs, 0, x, v, h, h' => by
   obtain⟨w,r,e1,hx,hr⟩:=h;subst e1;exact⟨v,r,rfl,h',hr⟩
 | y :: xs, vs, n + 1, x, v, h, h' => by
   obtain⟨w,r,e1,hx,hr⟩:=h;subst e1;exact⟨w,r.set n v,rfl,hx,Reps.set n hr h'⟩
mutual
def noMut:PV->Bool
 | .lst _=>false
 | .dct _ _=>false
 | .tup xs=>a1D xs
 | _=>true
def a1D:List PV->Bool
 | []=>true
 | x::xs=>noMut x && a1D xs
end
def MutO:HO->Prop
 | .lst _=>True
 | .dK _=>True
 | .dT _=>True
 | .set _ _=>True
 | .tbl _=>True
 | _=>False
mutual
theorem Rep.noMut {M':List Addr}(hm:∀a∈G.M,∃o,H a=some o/\MutO o):∀(x:PV) (v:V),Pu.noMut x=true->Rep K ⟨M',G.pots⟩ H x v->Rep K G H x v
 | .non,v,_,h=>h
 | .bl b,v,_,h=>h
 | .int i,v,_,h=>h
 | .str x,v,_,h=>h
 | .ty n,v,_,h=>h
 | .pot k,v,_,h=>h
 | .tup xs, v, e, h => by
   obtain⟨a,vs,ev,t,r⟩:=h;refine⟨a,vs,ev,?_,Reps.noMut hm xs vs (by simpa [Pu.noMut] using e) r⟩;obtain⟨n,t⟩:=t;refine⟨fun z=>?_,t⟩;obtain⟨o,e1,e2⟩:=hm a z;rw [e1] at t;cases t;exact e2
 | .scr ns, v, _, h => by
   obtain⟨a,e,h⟩:=h;refine⟨a,e,?_⟩;rcases h with⟨n,o,t⟩ | h
   · refine .inl ⟨fun z=>?_,o,t⟩;obtain⟨o',e1,e2⟩:=hm a z;rw [e1] at t;cases t;exact e2
   · exact .inr h
theorem Reps.noMut {M':List Addr}(hm:∀a∈G.M,∃o,H a=some o/\MutO o):∀(xs:List PV) (vs:List V),Pu.a1D xs=true->Reps K ⟨M',G.pots⟩ H xs vs->Reps K G H xs vs
 | [],vs,_,h=>h
 | x :: xs, vs, e, h => by
   obtain⟨v,r,ev,hx,hr⟩:=h;have e':Pu.noMut x=true/\Pu.a1D xs=true:=by simpa [Pu.a1D] using e
   exact⟨v,r,ev,Rep.noMut hm x v e'.1 hx,Reps.noMut hm xs r e'.2 hr⟩
end
end
inductive OK where
 | lst | dk (ks:List Key) | dt (ks:List (List Key)) | st (zs:List Key)
def memS (zs:List Key)(k:Key):Bool:=zs.any fun z=>decide (z=k)
def mkO:OK->List V->HO
 | .lst,vs=>.lst vs
 | .dk ks,vs=>.dK (ks.zip vs)
 | .dt ks,vs=>.dT (ks.zip vs)
 | .st zs,_=>.set (memS zs) zs.length
theorem a6Y (k:OK)(vs:List V):MutO (mkO k vs):=by cases k <;> trivial
inductive Slot where
 | v (x:PV)
 | ow (k:OK) (xs:List PV)
abbrev Env:=List (Option Slot)
structure PotK where
 at_:List Addr->Hp->Addr->Nat->Prop
 mono:∀{M H p n m},at_ M H p n->n<=m->at_ M H p m
 keep:∀{M H H' p n},at_ M H p n->H' p=H p->(∀b o,b∉M->H b=some o->H' b=some o)->at_ M H' p n
 more:∀{M M' H p n},at_ M H p n->(∀a∈M',a∈M\/H a=none)->at_ M' H p n
 mu:∀{M H p n},at_ M H p n->∃o,H p=some o/\MutO o
 /-- what is known of all pots together -/
 has:List Addr->Prop:=fun _=>True
 hasM:∀{l:List Addr} {p:Addr},has l->p∉l->has (l++[p]):=by intro _ _ _ _;trivial
structure Ct where
 K:x0a
 T:PotK
 M0:List Addr
 pots0:List Addr
 H0:Hp
 np:Bool
def b0T (C:Ct)(G:Gh)(H:Hp)(o:Option (Option V)):Slot->Prop
 | .v x=>∃v,o=some (some v)/\Rep C.K G H x v
 | .ow k xs=>∃a vs,o=some (some (.ref a))/\a∈G.M/\a∉C.M0/\a∉G.pots/\H a=some (mkO k vs)/\Reps C.K G H xs vs
structure SR (C:Ct)(G:Gh)(σ:St)(H:Hp)(env:Env)(n:Nat):Prop where
 frame:∀b o,b∉C.pots0->C.H0 b=some o->H b=some o
 sub:∀a∈G.M,a∈C.M0\/C.H0 a=none
 sup:∀a∈C.M0,a∈G.M
 pots:∀p∈G.pots,p∈G.M/\C.T.at_ G.M H p n
 pre:∃l,G.pots=C.pots0++l/\(l=[]\/C.np=true)
 mu:∀a∈G.M,∃o,H a=some o/\MutO o
 slots:∀(i:Nat) (s:Slot),env[i]?=some (some s)->b0T C G H (σ[i]?) s
 inj:∀(i j:Nat) (xs ys:OK×List PV) (a:Addr),env[i]?=some (some (.ow xs.1 xs.2))->env[j]?=some (some (.ow ys.1 ys.2))->σ[i]?=some (some (.ref a))->σ[j]?=some (some (.ref a))->i=j
 p0:(∀p∈C.pots0,p∈C.M0)/\C.T.has G.pots
 len:env.length=σ.length
 newp:∀p∈G.pots,p∉C.pots0->p∈C.M0->False
section
variable {C:Ct}{G G':Gh}{σ:St}{H H':Hp}{env:Env}{n:Nat}
theorem SR.hasG (S:SR C G σ H env n):C.T.has G.pots:=S.p0.2
theorem SR.fresh (S:SR C G σ H env n){p:Addr}(h:H p=none):p∉G.M:=fun z=>by
 obtain⟨o,e,_⟩:=S.mu p z;rw [h] at e;cases e
theorem SR.same (S:SR C G σ H env n)(s:Same H H'):SR C G σ H' env n where
 frame b o hb e:=s b o (S.frame b o hb e)
 sub:=S.sub
 sup:=S.sup
 pots p hp:=⟨(S.pots p hp).1,C.T.keep (S.pots p hp).2 (by
   obtain⟨o,e,_⟩:=C.T.mu (S.pots p hp).2
   rw [e,s p o e]) fun b o _ e=>s b o e⟩
 pre:=S.pre
 mu a ha:=by
   obtain⟨o,e,m⟩:=S.mu a ha;exact⟨o,s a o e,m⟩
 slots i x e:=by
   have:=S.slots i x e;cases x with
   | v x =>
     obtain⟨v,e1,r⟩:=this;exact⟨v,e1,r.same s⟩
   | ow kk xs =>
     obtain⟨a,vs,e1,h1,h2,h3,h4,r⟩:=this;exact⟨a,vs,e1,h1,h2,h3,s _ _ h4,r.same s⟩
 inj:=S.inj
 p0:=S.p0
 len:=S.len
 newp:=S.newp
theorem Same.lay1 {p:Addr}{o:HO}(h:H p=none):Same H (upd H p o):=(Same.refl H).lay h
end
end Pu
end
section
namespace Pu
open PySem PySem.Spec L2
abbrev PK:=PV->Env->Nat->Prop
abbrev pE:=Env->Nat->PK->Prop
abbrev pT:=Env->Nat->(Bool->Env->Nat->Prop)->Prop
abbrev pA:=Env->Nat->(List PV->Env->Nat->Prop)->Prop
abbrev pF:=List PV->Nat->(PV->Nat->Prop)->Prop
def RdV (K:x0a)(G:Gh)(H:Hp)(x:PV)(v:V):Prop:=Rep K G H x v\/∃a vs xs,x=.lst xs/\v=.ref a/\H a=some (.lst vs)/\Reps K G H xs vs
def RdS (C:Ct)(G:Gh)(σ:St)(H:Hp)(env:Env)(x:PV)(v:V):Prop:=Rep C.K G H x v\/∃(i:Nat) (a:Addr) (xs:List PV),env[i]?=some (some (.ow .lst xs))/\σ[i]?=some (some (.ref a))/\x=.lst xs/\v=.ref a
def EOk (K:x0a)(T:PotK)(t:TE)(pe:pE):Prop:=∀(C:Ct) (G:Gh) (σ:St) (H:Hp) (env:Env) (n:Nat) (R:PK) (Q:VK),C.K=K->C.T=T->SR C G σ H env n->pe env n R->
 (∀x env' n' v H',R x env' n'->SR C G σ H' env' n'->Rep K G H' x v->Fr G H H'->Q v H')->t σ H Q
def ROk (K:x0a)(T:PotK)(t:TE)(pe:pE):Prop:=∀(C:Ct) (G:Gh) (σ:St) (H:Hp) (env:Env) (n:Nat) (R:PK) (Q:VK),C.K=K->C.T=T->SR C G σ H env n->pe env n R->
 (∀x env' n' v H',R x env' n'->SR C G σ H' env' n'->RdS C G σ H' env' x v->Fr G H H'->Q v H')->t σ H Q
def NOk (K:x0a)(T:PotK)(t:TE)(pn:pA):Prop:=∀(C:Ct) (G:Gh) (σ:St) (H:Hp) (env:Env) (n:Nat) (R:List PV->Env->Nat->Prop) (Q:VK),C.K=K->C.T=T->SR C G σ H env n->pn env n R->
 (∀xs env' n' a vs Hb,R xs env' n'->SR C G σ Hb env' n'->Fr G H Hb->Hb a=none->Reps K G Hb xs vs->Q (.ref a) (upd Hb a (.lst vs)))->t σ H Q
def TOk (K:x0a)(T:PotK)(t:TT)(pt:pT):Prop:=∀(C:Ct) (G:Gh) (σ:St) (H:Hp) (env:Env) (n:Nat) (R:Bool->Env->Nat->Prop) (Q:Bool->Hp->Prop),C.K=K->C.T=T->SR C G σ H env n->pt env n R->
 (∀b env' n' H',R b env' n'->SR C G σ H' env' n'->Fr G H H'->Q b H')->t σ H Q
def AOk (K:x0a)(T:PotK)(t:TA)(pa:pA):Prop:=∀(C:Ct) (G:Gh) (σ:St) (H:Hp) (env:Env) (n:Nat) (R:List PV->Env->Nat->Prop) (Q:List V->Hp->Prop),C.K=K->C.T=T->SR C G σ H env n->pa env n R->
 (∀xs env' n' vs H',R xs env' n'->SR C G σ H' env' n'->Reps K G H' xs vs->Fr G H H'->Q vs H')->t σ H Q
structure EW (X:Cx)(e:Expr)(t:TE):Prop where
 h:PE X e t
structure SW (X:Cx)(st:Stmt)(t:TS):Prop where
 h:PS X st t
structure GW (X:Cx)(e:Expr)(g:TG):Prop where
 h:PG X e g
theorem vw {X:Cx}(i:Nat){x:Str}{pos:Pos}(hN:X.N[i]?=some x:=by rfl)(hv:Vis X.env.scope x:=by first | exact Or.inl rfl | exact Or.inr (Or.inl rfl) | exact Or.inr (Or.inr rfl))(hd:(x == ("__debug__":Str))=false:=by decide)(hcd:(x == ("__classdict__":Str))=false:=by decide):EW X (.Name x pos) (tVar i):=⟨a8O hN hv hd hcd⟩
def QE {ι:Type}(T:PotK)(K:x0a)(F:ι->Cx)(e:Expr)(pe:pE):Prop:=∃t,(∀z,PE (F z) e t)/\EOk K T t pe
def QR {ι:Type}(T:PotK)(K:x0a)(F:ι->Cx)(e:Expr)(pe:pE):Prop:=∃t,(∀z,PE (F z) e t)/\ROk K T t pe
def QN {ι:Type}(T:PotK)(K:x0a)(F:ι->Cx)(e:Expr)(pn:pA):Prop:=∃t,(∀z,PE (F z) e t)/\NOk K T t pn
def QT {ι:Type}(T:PotK)(K:x0a)(F:ι->Cx)(e:Expr)(pt:pT):Prop:=∃t,(∀z,PT (F z) e t)/\TOk K T t pt
def QW {ι:Type}(T:PotK)(K:x0a)(F:ι->Cx)(e:Expr)(pt:pT):Prop:=∃t,(∀z,PW (F z) e t)/\TOk K T t pt
def QA {ι:Type}(T:PotK)(K:x0a)(F:ι->Cx)(es:List Expr)(pa:pA):Prop:=∃t,(∀z,PA (F z) es t)/\AOk K T t pa
section
variable {T:PotK}{ι:Type}{K:x0a}{F:ι->Cx}{e a b:Expr}{es:List Expr}{pe pa pb:pE}
variable {v:V}{i:Nat}{g':Int->Int->PV}
theorem Reps.nil {K:x0a}{G:Gh}{H:Hp}:Reps K G H [] []:=rfl
theorem Reps.cons {K:x0a}{G:Gh}{H:Hp}{x:PV}{xs:List PV}{v:V}{vs:List V}(h:Rep K G H x v)(h':Reps K G H xs vs):Reps K G H (x::xs) (v::vs):=⟨v,vs,rfl,h,h'⟩
theorem RdS.rd {C:Ct}{G:Gh}{σ:St}{H:Hp}{env:Env}{n:Nat}{x:PV}(S:SR C G σ H env n)(h:RdS C G σ H env x v):RdV C.K G H x v:=by
 rcases h with h | ⟨i,a,xs,e1,e2,ex,ev⟩
 · exact .inl h
 · obtain⟨a',vs,e3,_,_,_,h4,r⟩:=S.slots i _ e1;rw [e2] at e3;cases e3;exact .inr ⟨a,vs,xs,ex,ev,h4,r⟩
theorem RdS.fr {C:Ct}{G:Gh}{σ:St}{H H':Hp}{env:Env}{x:PV}(h:RdS C G σ H env x v)(f:Fr G H H'):RdS C G σ H' env x v:=by
 rcases h with h | h
 · exact .inl (h.fr f)
 · exact .inr h
theorem RdV.lst {K:x0a}{G:Gh}{H:Hp}{xs:List PV}{v:V}(h:RdV K G H (.lst xs) v):∃a vs,v=.ref a/\SqL K H a vs/\Reps K G H xs vs:=by
 rcases h with⟨a,vs,e,t,r⟩ | ⟨a,vs,ys,ex,ev,h4,r⟩
 · exact⟨a,vs,e,t.sq,r⟩
 · cases ex;exact⟨a,vs,ev,SqL.of h4,r⟩
theorem RdV.rep {K:x0a}{G:Gh}{H:Hp}{x:PV}(h:RdV K G H x v)(hx:∀xs,x≠.lst xs):Rep K G H x v:=by
 rcases h with h | ⟨a,vs,ys,ex,ev,h4,r⟩
 · exact h
 · exact absurd ex (hx ys)
theorem RdV.tup {K:x0a}{G:Gh}{H:Hp}{xs:List PV}{v:V}(h:RdV K G H (.tup xs) v):∃a vs,v=.ref a/\SqT K H a vs/\Reps K G H xs vs:=by
 obtain⟨a,vs,e,t,r⟩:=h.rep (fun _ z=>nomatch z);exact⟨a,vs,e,t.sq,r⟩
theorem RdV.int {K:x0a}{G:Gh}{H:Hp}{i:Int}(h:RdV K G H (.int i) v):v=.int i:=h.rep (fun _ z=>nomatch z)
theorem RdV.str {K:x0a}{G:Gh}{H:Hp}{i:Str}(h:RdV K G H (.str i) v):v=.str i:=h.rep (fun _ z=>nomatch z)
theorem RdV.bl {K:x0a}{G:Gh}{H:Hp}{i:Bool}(h:RdV K G H (.bl i) v):v=.bl i:=h.rep (fun _ z=>nomatch z)
theorem RdV.non {K:x0a}{G:Gh}{H:Hp}(h:RdV K G H .non v):v=.non:=h.rep (fun _ z=>nomatch z)
def qV (i:Nat):pE:=fun env n R=>match env[i]? with | some (some (.v x))=>R x env n | _=>False
def qO (i:Nat):pE:=fun env n R=>match env[i]? with | some (some (.ow .lst xs))=>R (.lst xs) env n | _=>False
def qC (c:PV):pE:=fun env n R=>R c env n
theorem qV_ex {env:Env}{n:Nat}{R:PK}(h:qV i env n R):∃x,env[i]?=some (some (.v x))/\R x env n:=by
 unfold qV at h
 split at h
 · exact⟨_,by assumption,h⟩
 · exact h.elim
theorem qO_ex {env:Env}{n:Nat}{R:PK}(h:qO i env n R):∃xs,env[i]?=some (some (.ow .lst xs))/\R (.lst xs) env n:=by
 unfold qO at h
 split at h
 · exact⟨_,by assumption,h⟩
 · exact h.elim
theorem a0b (i:Nat){x:Str}{pos:Pos}(h:∀z,EW (F z) (.Name x pos) (tVar i)):QE T K F (.Name x pos) (qV i):=by
 refine⟨_,fun z=>(h z).h,fun C G σ H env n R Q hK hT S hp k=>?_⟩;obtain⟨x,e,r⟩:=qV_ex hp;obtain⟨v,ev,rv⟩:=S.slots i _ e;exact⟨v,ev,k _ _ _ _ _ r S (hK▸rv) Fr.refl⟩
theorem a1c (i:Nat){x:Str}{pos:Pos}(h:∀z,EW (F z) (.Name x pos) (tVar i)):QR T K F (.Name x pos) (qO i):=by
 refine⟨_,fun z=>(h z).h,fun C G σ H env n R Q hK hT S hp k=>?_⟩;obtain⟨xs,e,r⟩:=qO_ex hp;obtain⟨a,vs,ev,_,_,_,_,rv⟩:=S.slots i _ e;exact⟨.ref a,ev,k _ _ _ _ _ r S (.inr ⟨i,a,xs,e,ev,rfl,rfl⟩) Fr.refl⟩
theorem QE.r (h:QE T K F e pe):QR T K F e pe:=by
 obtain⟨t,h1,h2⟩:=h;exact⟨t,h1,fun C G σ H env n R Q hK hT S hp k=>h2 C G σ H env n R Q hK hT S hp fun x env' n' v H' r S' rp f=>k x env' n' v H' r S' (.inl (by rw [hK];exact rp)) f⟩
theorem ok_c {K:x0a}{c:PV}(h:∀G H,Rep K G H c v):EOk K T (tC v) (qC c):=fun C G σ H env n R Q hK hT S hp k=>k _ _ _ _ _ hp S (h G H) Fr.refl
theorem a0h {i j pos}:QE T K F (.Constant (.int i) j pos) (qC (.int i)):=⟨_,fun z=>a0q,ok_c fun _ _=>rfl⟩
theorem a6B {i j pos}:QE T K F (.Constant (.bool i) j pos) (qC (.bl i)):=⟨_,fun z=>pe_bl,ok_c fun _ _=>rfl⟩
theorem a2w {i j pos}:QE T K F (.Constant (.str i) j pos) (qC (.str i)):=⟨_,fun z=>pe_str,ok_c fun _ _=>rfl⟩
abbrev w1:=PV->(PV->Prop)->Prop
abbrev w2:=PV->PV->(PV->Prop)->Prop
def W2 (K:x0a)(r:R2)(w:w2):Prop:=∀(G:Gh) (H:Hp) (x y:PV) (v u:V) (R:PV->Prop) (Q:VK),(∀p,H p=none->p∉G.M)->RdV K G H x v->RdV K G H y u->w x y R->
 (∀z v' H',R z->Same H H'->Rep K G H' z v'->Q v' H')->r v u H Q
def qOp (w:w2)(pa pb:pE):pE:=fun env n R=>pa env n fun x env1 n1=>pb env1 n1 fun y env2 n2=>w x y fun z=>R z env2 n2
def qOpR (w:w2)(pa pb:pE):pE:=fun env n R=>pa env n fun x env1 n1=>pb env1 n1 fun y env2 n2=>env2=env1/\w x y fun z=>R z env2 n2
def qUn (w:w1)(pa:pE):pE:=fun env n R=>pa env n fun x env1 n1=>w x fun z=>R z env1 n1
theorem a8f {K:x0a}{r:R2}{w:w2}{ta tb:TE}(hw:W2 K r w)(ha:EOk K T ta pa)(hb:ROk K T tb pb):EOk K T (tOp r ta tb) (qOp w pa pb):=fun C G σ H env n R Q hK hT S hp k=>by
 refine ha C G σ H env n _ _ hK hT S hp fun x env1 n1 v H1 p1 S1 r1 f1=>?_;refine hb C G σ H1 env1 n1 _ _ hK hT S1 p1 fun y env2 n2 u H2 p2 S2 r2 f2=>?_;subst hK;exact hw G H2 x y v u _ _ (fun p hp=>S2.fresh hp) (.inl (r1.fr f2)) (r2.rd S2) p2 fun z v' H' rz s rv=>k _ _ _ _ _ rz (S2.same s) rv ((f1.trans f2).trans (Fr.of s))
theorem ok_opR {K:x0a}{r:R2}{w:w2}{ta tb:TE}(hw:W2 K r w)(ha:ROk K T ta pa)(hb:ROk K T tb pb):EOk K T (tOp r ta tb) (qOpR w pa pb):=fun C G σ H env n R Q hK hT S hp k=>by
 refine ha C G σ H env n _ _ hK hT S hp fun x env1 n1 v H1 p1 S1 r1 f1=>?_;refine hb C G σ H1 env1 n1 _ _ hK hT S1 p1 fun y env2 n2 u H2 p2 S2 r2 f2=>?_;subst hK;obtain⟨e,p2⟩:=p2;subst e;exact hw G H2 x y v u _ _ (fun p hp=>S2.fresh hp) ((r1.fr f2).rd S2) (r2.rd S2) p2 fun z v' H' rz s rv=>k _ _ _ _ _ rz (S2.same s) rv ((f1.trans f2).trans (Fr.of s))
def wI (C:Int->Int->Prop)(g:Int->Int->PV):w2:=fun x y R=>match x,y with | .int i,.int j=>C i j/\R (g i j) | _,_=>False
theorem W2.I {K:x0a}{C:Int->Int->Prop}{g:Int->Int->V}(hg:∀i j G H,Rep K G H (g' i j) (g i j)):W2 K (rI C g) (wI C g'):=by
 intro G H x y v u R Q hf rx ry hw k;unfold wI at hw
 split at hw
 · exact⟨_,_,rx.int,ry.int,hw.1,k _ _ _ hw.2 (Same.refl _) (hg _ _ _ _)⟩
 · exact hw.elim
def wI0 (g:Int->Int->PV):w2:=fun x y R=>match x,y with | .int i,.int j=>R (g i j) | _,_=>False
theorem W2.I0 {K:x0a}{g:Int->Int->V}(hg:∀i j G H,Rep K G H (g' i j) (g i j)):W2 K (rI0 g) (wI0 g'):=by
 intro G H x y v u R Q hf rx ry hw k;unfold wI0 at hw
 split at hw
 · exact⟨_,_,rx.int,ry.int,k _ _ _ hw (Same.refl _) (hg _ _ _ _)⟩
 · exact hw.elim
def wAdd:w2:=fun x y R=>match x,y with
 | .int i,.int j=>R (.int (i + j))
 | .str i,.str j=>i.length + j.length<=1000000/\R (.str (i++j))
 | .tup xs,.tup ys=>xs.length + ys.length<=1000000/\R (.tup (xs++ys))
 | _,_=>False
theorem mil {n:Nat}(h:n<=1000000):n<=x0t:=x0U h (by rw [x1Y];decide)
theorem mil' {n:Nat}(h:n<=1000000):n < x0t:=Nat.lt_of_le_of_lt h (by rw [x1Y];decide)
theorem a2s {K:x0a}{G:Gh}{H:Hp}{p:Addr}{xs:List PV}{vs:List V}(hf:p∉G.M)(hn:H p=none)(r:Reps K G H xs vs):Rep K G (upd H p (.tup vs)) (.tup xs) (.ref p):=
 ⟨p,vs,rfl,⟨hf,a0n⟩,r.same (Same.lay1 hn)⟩
theorem a4p {K:x0a}{G:Gh}{H:Hp}{p:Addr}{xs:List PV}{vs:List V}(hf:p∉G.M)(hn:H p=none)(r:Reps K G H xs vs):Rep K G (upd H p (.lst vs)) (.lst xs) (.ref p):=
 ⟨p,vs,rfl,⟨hf,a0n⟩,r.same (Same.lay1 hn)⟩
theorem W2.add {K:x0a}:W2 K (fun x y H Q=>(rI0 fun i j=>.int (i + j)) x y H Q\/(∃i j,x=.str i/\y=.str j/\i.length + j.length<=x0t/\Q (.str (i++j)) H)\/rCatA K x y H Q) wAdd:=by
 intro G H x y v u R Q hf rx ry hw k;unfold wAdd at hw
 split at hw
 · exact .inl ⟨_,_,rx.int,ry.int,k _ _ _ hw (Same.refl _) rfl⟩
 · exact .inr (.inl ⟨_,_,rx.str,ry.str,mil hw.1,k _ _ _ hw.2 (Same.refl _) rfl⟩)
 · rename_i xs ys;obtain⟨a,vs,ea,ta,ra⟩:=rx.rep (fun _ z=>nomatch z);obtain⟨b,us,eb,tb,rb⟩:=ry.rep (fun _ z=>nomatch z);refine .inr (.inr ⟨a,b,vs,us,ea,eb,ta.sq,tb.sq,?_,fun z=>?_,fun z1 z2=>?_,fun z1 z2 p hp=>?_⟩)
   · rw [<- ra.length,<- rb.length];exact mil hw.1
   · subst z;have:xs=[]:=x1t ra.length;subst this;exact k _ _ _ hw.2 (Same.refl _) ⟨b,us,rfl,tb,rb⟩
   · subst z2;have:ys=[]:=x1t rb.length;subst this;exact k _ _ _ hw.2 (Same.refl _) (by rw [x1e];exact⟨a,vs,rfl,ta,ra⟩)
   · exact k _ _ _ hw.2 (Same.lay1 hp) (a2s (hf p hp) hp (ra.append rb))
 · exact hw.elim
theorem a0Q {pos:Pos}(ha:QE T K F a pa)(hb:QE T K F b pb)(hK:∀z,(F z).K=K:=by intro _;rfl):QE T K F (.BinOp a .Add b pos) (qOp wAdd pa pb):=by
 obtain⟨ta,h1,h2⟩:=ha;obtain⟨tb,h3,h4⟩:=hb.r;exact⟨_,fun z=>a0O (a2C.or (a5B.or (hK z▸b0j))) (h1 z) (h3 z),a8f W2.add h2 h4⟩
theorem qe_op {op:Operator}{r:R2}{w:w2}{pos:Pos}(ho:∀z,OpR (F z) (x2b op) r)(hw:W2 K r w)(ha:QE T K F a pa)(hb:QE T K F b pb):QE T K F (.BinOp a op b pos) (qOp w pa pb):=by
 obtain⟨ta,h1,h2⟩:=ha;obtain⟨tb,h3,h4⟩:=hb.r;exact⟨_,fun z=>a0O (ho z) (h1 z) (h3 z),a8f hw h2 h4⟩
def wSub:w2:=wI0 fun i j=>.int (i - j)
def wMul:w2:=fun x y R=>match x,y with
 | .int i,.int j=>CMul i j/\R (.int (i * j))
 | .str i,.int n=>i.length<=100/\0<=n/\n<=1000/\R (.str (Txt.mul i n))
 | _,_=>False
theorem W2.mul {K:x0a}:W2 K (fun x y H Q=>(rI CMul fun i j=>.int (i * j)) x y H Q\/(∃i n,x=.str i/\y=.int n/\i.length<=100/\0<=n/\n<=1000/\Q (.str (Txt.mul i n)) H)) wMul:=by
 intro G H x y v u R Q hf rx ry hw k;unfold wMul at hw
 split at hw
 · exact .inl ⟨_,_,rx.int,ry.int,hw.1,k _ _ _ hw.2 (Same.refl _) rfl⟩
 · exact .inr ⟨_,_,rx.str,ry.int,hw.1,hw.2.1,hw.2.2.1,k _ _ _ hw.2.2.2 (Same.refl _) rfl⟩
 · exact hw.elim
theorem a0G {pos:Pos}(ha:QE T K F a pa)(hb:QE T K F b pb):QE T K F (.BinOp a .Sub b pos) (qOp wSub pa pb):=qe_op (fun _=>op_sub) (W2.I0 fun _ _ _ _=>rfl) ha hb
theorem a2U {pos:Pos}(ha:QE T K F a pa)(hb:QE T K F b pb):QE T K F (.BinOp a .Mult b pos) (qOp wMul pa pb):=qe_op (fun _=>a2Y.or a5A) W2.mul ha hb
end
end Pu
end
section
namespace L2
open PySem PySem.Spec PyProof.Rows
def EqD (K:x0a)(H:Hp):Nat->V->V->Bool->Prop
 | 0,x,y,b=>a1T x=true/\a1T y=true/\b=eqV x y
 | d + 1, x, y, b => (a1T x = true /\ a1T y = true /\ b = eqV x y) \/
   (∃p q xs ys,∃f:Nat->Bool,x=.ref p/\y=.ref q/\SqT K H p xs/\SqT K H q ys/\(∀(j:Nat) x' y',xs[j]?=some x'->ys[j]?=some y'->EqD K H d x' y' (f j))/\b=((x0g (min xs.length ys.length)).all f && xs.length == ys.length))\/
   (∃p q xs ys,∃f:Nat->Bool,x=.ref p/\y=.ref q/\SqL K H p xs/\SqL K H q ys/\(∀(j:Nat) x' y',xs[j]?=some x'->ys[j]?=some y'->EqD K H d x' y' (f j))/\b=((x0g (min xs.length ys.length)).all f && xs.length == ys.length))\/
   (b=false/\((∃p xs,x=.ref p/\(SqT K H p xs\/SqL K H p xs)/\a1T y=true)\/(∃p xs,y=.ref p/\(SqT K H p xs\/SqL K H p xs)/\a1T x=true)\/
     (∃p q xs ys,x=.ref p/\y=.ref q/\SqT K H p xs/\SqL K H q ys)\/(∃p q xs ys,x=.ref p/\y=.ref q/\SqL K H p xs/\SqT K H q ys)))
section
variable {X:Cx}{pins:List (Addr×Obj)}{σ:St}{H:Hp}{s:Shared}
theorem a8E (I:Inv X pins σ H s){p:Addr}{xs ys:List V}(h:SqT X.K H p xs)(h':SqL X.K H p ys):False:=by
 obtain⟨its,r,⟨o,e,c,n,d⟩,_⟩:=I.tuple h;obtain⟨its',r',⟨o',n',e',c',_,d'⟩,_⟩:=I.list h';rw [e] at e';cases e';rw [c] at c';injection c' with c';exact absurd c' (by decide)
theorem EqD.refl (I:Inv X pins σ H s):∀(d:Nat) (x:V) (b:Bool),EqD X.K H d x x b->b=true:=by
 intro d
 induction d with
 | zero =>
   intro x b h;obtain⟨h1,_,rfl⟩:=h;exact a5g h1
 | succ d ih =>
   intro x b h;rcases h with⟨h1,_,rfl⟩ | ⟨p,q,xs,ys,f,e1,e2,s1,s2,hf,rfl⟩ | ⟨p,q,xs,ys,f,e1,e2,s1,s2,hf,rfl⟩ | ⟨rfl,h⟩
   · exact a5g h1
   · subst e1;cases e2;have:=I.tuple_inj s1 s2;subst this;simp only [Nat.min_self,beq_self_eq_true,Bool.and_true,x0I,x2E];intro j hj;exact ih _ _ (hf j xs[j] xs[j] (by simp [hj]) (by simp [hj]))
   · subst e1;cases e2;have:=I.list_inj s1 s2;subst this;simp only [Nat.min_self,beq_self_eq_true,Bool.and_true,x0I,x2E];intro j hj;exact ih _ _ (hf j xs[j] xs[j] (by simp [hj]) (by simp [hj]))
   · rcases h with⟨p,xs,rfl,_,h⟩ | ⟨p,xs,rfl,_,h⟩ | ⟨p,q,xs,ys,e1,e2,s1,s2⟩ | ⟨p,q,xs,ys,e1,e2,s1,s2⟩
     · cases h
     · cases h
     · subst e1;cases e2;exact(a8E I s1 s2).elim
     · subst e1;cases e2;exact(a8E I s2 s1).elim
theorem Inv.sqL (I:Inv X pins σ H s){p:Addr}{xs:List V}(h:SqL X.K H p xs):∃its:List Value,Vals xs its/\s.heap.IsList p its.toArray:=by
 obtain⟨its,r,pl,_⟩:=I.list h;exact⟨its,r,pl.isList⟩
theorem Inv.sqT (I:Inv X pins σ H s){p:Addr}{xs:List V}(h:SqT X.K H p xs):∃its:List Value,Vals xs its/\s.heap.IsTuple p its.toArray:=by
 obtain⟨its,r,pl,_⟩:=I.tuple h;exact⟨its,r,pl⟩
theorem a2t (I:Inv X pins σ H s){A:Around}(hu:A.units < cLine){p:Addr}{xs:List V}(hq:SqT X.K H p xs\/SqL X.K H p xs){y:V}{w:Value}(ry:RelV y w)(fy:a1T y=true) :
   x3l A s (.ref p) w false/\x2N A s (.ref p) w true/\x3l A s w (.ref p) false/\x2N A s w (.ref p) true/\x3k A s (.ref p) w false/\x3k A s w (.ref p) false:=by
 rcases hq with hq | hq
 · obtain⟨its,r,il⟩:=I.sqT hq;cases y with
   | non=>cases ry;exact⟨.tuple_none il hu,.tuple_none il hu,.none_tuple il hu,.none_tuple il hu,.tuple_none il hu,.none_tuple il hu⟩
   | bl b=>cases ry;exact⟨.tuple_bool b il hu,.tuple_bool b il hu,.bool_tuple b il hu,.bool_tuple b il hu,.tuple_bool b il hu,.bool_tuple b il hu⟩
   | int i=>obtain⟨t,rfl⟩:=ry;exact⟨.tuple_int i t il hu,.tuple_int i t il hu,.int_tuple i t il hu,.int_tuple i t il hu,.tuple_int i t il hu,.int_tuple i t il hu⟩
   | str i=>obtain⟨t,rfl⟩:=ry;exact⟨.tuple_str i t il hu,.tuple_str i t il hu,.str_tuple i t il hu,.str_tuple i t il hu,.tuple_str i t il hu,.str_tuple i t il hu⟩
   | _=>cases fy
 · obtain⟨its,r,il⟩:=I.sqL hq;cases y with
   | non=>cases ry;exact⟨.list_none il hu,.list_none il hu,.none_list il hu,.none_list il hu,.list_none il hu,.none_list il hu⟩
   | bl b=>cases ry;exact⟨.list_bool b il hu,.list_bool b il hu,.bool_list b il hu,.bool_list b il hu,.list_bool b il hu,.bool_list b il hu⟩
   | int i=>obtain⟨t,rfl⟩:=ry;exact⟨.list_int i t il hu,.list_int i t il hu,.int_list i t il hu,.int_list i t il hu,.list_int i t il hu,.int_list i t il hu⟩
   | str i=>obtain⟨t,rfl⟩:=ry;exact⟨.list_str i t il hu,.list_str i t il hu,.str_list i t il hu,.str_list i t il hu,.list_str i t il hu,.str_list i t il hu⟩
   | _=>cases fy
theorem a6q {A:Around}{x y:V}{u w:Value}(rx:RelV x u)(ry:RelV y w)(fx:a1T x=true)(fy:a1T y=true):x3l A s u w (eqV x y)/\x2N A s u w (!eqV x y):=by
 cases x with
 | non =>
   cases rx;cases y with
   | non=>cases ry;exact⟨.none_none,.none_none⟩
   | bl j=>cases ry;exact⟨.none_bool j,.none_bool j⟩
   | int j=>obtain⟨t,rfl⟩:=ry;exact⟨.none_int j t,.none_int j t⟩
   | str j=>obtain⟨t,rfl⟩:=ry;exact⟨.none_str j t,.none_str j t⟩
   | _=>cases fy
 | bl i =>
   cases rx;cases y with
   | non=>cases ry;exact⟨.bool_none i,.bool_none i⟩
   | bl j=>cases ry;exact⟨.bool_bool i j,.bool_bool i j⟩
   | int j=>obtain⟨t,rfl⟩:=ry;exact⟨.bool_int i j t,.bool_int i j t⟩
   | str j=>obtain⟨t,rfl⟩:=ry;exact⟨.bool_str i j t,.bool_str i j t⟩
   | _=>cases fy
 | int i =>
   obtain⟨ti,rfl⟩:=rx;cases y with
   | non=>cases ry;exact⟨.int_none i ti,.int_none i ti⟩
   | bl j=>cases ry;exact⟨.int_bool i ti j,.int_bool i ti j⟩
   | int j=>obtain⟨t,rfl⟩:=ry;exact⟨.int_int i ti j t,.int_int i ti j t⟩
   | str j=>obtain⟨t,rfl⟩:=ry;exact⟨.int_str i ti j t,.int_str i ti j t⟩
   | _=>cases fy
 | str i =>
   obtain⟨ti,rfl⟩:=rx;cases y with
   | non=>cases ry;exact⟨.str_none i ti,.str_none i ti⟩
   | bl j=>cases ry;exact⟨.str_bool i ti j,.str_bool i ti j⟩
   | int j=>obtain⟨t,rfl⟩:=ry;exact⟨.str_int i ti j t,.str_int i ti j t⟩
   | str j=>obtain⟨t,rfl⟩:=ry;exact⟨.str_str i ti j t,.str_str i ti j t⟩
   | _=>cases fy
 | _=>cases fx
theorem a7i (A:Around):A.in1.units=A.units + 1:=rfl
theorem EqD.at (I:Inv X pins σ H s):∀(d:Nat) (A:Around) (x y:V) (u w:Value) (b:Bool),A.units + d < cLine->RelV x u->RelV y w->EqD X.K H d x y b->x3k A s u w b/\x3l A s u w b/\x2N A s u w (!b):=by
 intro d
 induction d with
 | zero =>
   intro A x y u w b hu rx ry h;obtain⟨h1,h2,rfl⟩:=h;exact⟨a9c rx ry h1 h2,a6q rx ry h1 h2⟩
 | succ d ih =>
   intro A x y u w b hu rx ry h;have hu0:A.units < cLine:=by omega
   have hu1:A.in1.units + d < cLine:=by rw [a7i];omega
   have hrefl:=EqD.refl I (d + 1) x b;rcases h with⟨h1,h2,rfl⟩ | ⟨p,q,xs,ys,f,e1,e2,s1,s2,hf,eb⟩ | ⟨p,q,xs,ys,f,e1,e2,s1,s2,hf,eb⟩ | ⟨rfl,h⟩
   · exact⟨a9c rx ry h1 h2,a6q rx ry h1 h2⟩
   · subst e1 e2;cases rx;cases ry;obtain⟨its,r1,t1⟩:=I.sqT s1;obtain⟨its2,r2,t2⟩:=I.sqT s2;have z1:its.toArray.size=xs.length:=by simpa using r1.length.symm
     have z2:its2.toArray.size=ys.length:=by simpa using r2.length.symm
     have he:∀j (h1:j < its.toArray.size) (h2:j < its2.toArray.size),x3k A.in1 s its.toArray[j] its2.toArray[j] (f j):=by
       intro j h1 h2;obtain⟨x',e1,q1⟩:=r1.getE (j:=j) (by simpa using h1);obtain⟨y',e2,q2⟩:=r2.getE (j:=j) (by simpa using h2);exact(ih A.in1 x' y' _ _ (f j) hu1 (by simpa using q1) (by simpa using q2) (hf j x' y' e1 e2)).1
     have rc:x3l A s (.ref p) (.ref q) b:=by
       rw [eb,<- z1,<- z2];exact SeqAt.RcAt.tuples t1 t2 hu0 he
     have rn:x2N A s (.ref p) (.ref q) (!b):=by
       rw [eb,<- z1,<- z2];exact SeqAt.RcNeAt.tuples t1 t2 hu0 he
     refine⟨?_,rc,rn⟩
     by_cases hpq:p=q
     · subst hpq;rw [hrefl (.inr (.inl ⟨p,p,xs,ys,f,rfl,rfl,s1,s2,hf,eb⟩))];exact .same _
     · exact .of_refs hpq rc
   · subst e1 e2;cases rx;cases ry;obtain⟨its,r1,t1⟩:=I.sqL s1;obtain⟨its2,r2,t2⟩:=I.sqL s2;have z1:its.toArray.size=xs.length:=by simpa using r1.length.symm
     have z2:its2.toArray.size=ys.length:=by simpa using r2.length.symm
     have he:∀j (h1:j < its.toArray.size) (h2:j < its2.toArray.size),x3k A.in1 s its.toArray[j] its2.toArray[j] (f j):=by
       intro j h1 h2;obtain⟨x',e1,q1⟩:=r1.getE (j:=j) (by simpa using h1);obtain⟨y',e2,q2⟩:=r2.getE (j:=j) (by simpa using h2);exact(ih A.in1 x' y' _ _ (f j) hu1 (by simpa using q1) (by simpa using q2) (hf j x' y' e1 e2)).1
     have rr:x3l A s (.ref p) (.ref q) b/\x2N A s (.ref p) (.ref q) (!b):=by
       by_cases hl:xs.length=ys.length
       · have e3:b=(x0g its.toArray.size).all f:=by rw [eb,hl,Nat.min_self,beq_self_eq_true,Bool.and_true,z1,hl]
         rw [e3];exact⟨SeqAt.RcAt.lists t1 t2 (by rw [z1,z2,hl]) hu0 he,SeqAt.RcNeAt.lists t1 t2 (by rw [z1,z2,hl]) hu0 he⟩
       · have e3:b=false:=by
           rw [eb];have:(xs.length == ys.length)=false:=by simpa using hl
           rw [this,Bool.and_false]
         rw [e3];have e4:(its.toArray.size != its2.toArray.size)=true:=by rw [z1,z2];simpa using hl
         exact⟨SeqAt.RcAt.lists_lengths t1 t2 e4 hu0,SeqAt.RcNeAt.lists_lengths t1 t2 e4 hu0⟩
     refine⟨?_,rr⟩
     by_cases hpq:p=q
     · subst hpq;rw [hrefl (.inr (.inr (.inl ⟨p,p,xs,ys,f,rfl,rfl,s1,s2,hf,eb⟩)))];exact .same _
     · exact .of_refs hpq rr.1
   · rcases h with⟨p,xs,rfl,hq,fy⟩ | ⟨p,xs,rfl,hq,fx⟩ | ⟨p,q,xs,ys,e1,e2,s1,s2⟩ | ⟨p,q,xs,ys,e1,e2,s1,s2⟩
     · cases rx;obtain⟨a1,a2,a3,a4,a5,a6⟩:=a2t I hu0 hq ry fy;exact⟨a5,a1,a2⟩
     · cases ry;obtain⟨a1,a2,a3,a4,a5,a6⟩:=a2t I hu0 hq rx fx;exact⟨a6,a3,a4⟩
     · subst e1 e2;cases rx;cases ry;obtain⟨its,r1,t1⟩:=I.sqT s1;obtain⟨its2,r2,t2⟩:=I.sqL s2;exact⟨.tuple_list t1 t2 hu0,.tuple_list t1 t2 hu0,.tuple_list t1 t2 hu0⟩
     · subst e1 e2;cases rx;cases ry;obtain⟨its,r1,t1⟩:=I.sqL s1;obtain⟨its2,r2,t2⟩:=I.sqT s2;exact⟨.list_tuple t1 t2 hu0,.list_tuple t1 t2 hu0,.list_tuple t1 t2 hu0⟩
end
section
variable {X:Cx}
def rEqD (K:x0a)(d:Nat)(neg:Bool):R2:=fun x y H Q=>∃b,EqD K H d x y b/\Q (.bl (if neg then !b else b)) H
theorem op_eqD (d:Nat)(hu:X.A.units + d < cLine):OpR X (x2K .Eq) (rEqD X.K d false):=by
 intro pins s σ H x y v u Q I rx ry h;obtain⟨b,hb,q⟩:=h;exact(hb.at I d X.A x y v u b hu rx ry).2.1 X.prog X.w X.xe _ ⟨.bl _,H,I,rfl,q⟩
theorem op_neD (d:Nat)(hu:X.A.units + d < cLine):OpR X (x2K .NotEq) (rEqD X.K d true):=by
 intro pins s σ H x y v u Q I rx ry h;obtain⟨b,hb,q⟩:=h;exact(hb.at I d X.A x y v u b hu rx ry).2.2 X.prog X.w X.xe _ ⟨.bl _,H,I,rfl,q⟩
open Classical in
end
end L2
namespace Pu
open PySem PySem.Spec L2
def a2m:PV->Bool
 | .non=>true
 | .bl _=>true
 | .int _=>true
 | .str _=>true
 | _=>false
def cmpb:Nat->PV->Bool
 | 0,x=>a2m x
 | d + 1,.tup xs=>xs.all (cmpb d)
 | d + 1,.lst xs=>xs.all (cmpb d)
 | _ + 1,x=>a2m x
mutual
def eqP:PV->PV->Bool
 | .non,.non=>true
 | .bl a,.bl b=>a == b
 | .bl a,.int b=>(if a then 1 else 0) == b
 | .int a,.bl b=>a == (if b then 1 else 0)
 | .int a,.int b=>a == b
 | .str a,.str b=>a == b
 | .tup xs,.tup ys=>eqPs xs ys
 | .lst xs,.lst ys=>eqPs xs ys
 | _,_=>false
def eqPs:List PV->List PV->Bool
 | [],[]=>true
 | x::xs,y::ys=>eqP x y && eqPs xs ys
 | _,_=>false
end
theorem a2k:∀(xs ys:List PV),((x0g (min xs.length ys.length)).all (fun j=>match xs[j]?,ys[j]? with | some x,some y=>eqP x y | _,_=>false) && xs.length == ys.length)=eqPs xs ys
 | [],[]=>rfl
 | [],_::_=>rfl
 | _::_,[]=>rfl
 | x :: xs, y :: ys => by
   have ih:=a2k xs ys;show _=(eqP x y && eqPs xs ys);rw [<- ih];simp only [x0D,Nat.succ_min_succ,List.range_succ_eq_map,List.all_cons,List.all_map,Function.comp_def,List.getElem?_cons_zero,x2x];rw [Bool.and_assoc]
   congr 1
   simp
end Pu
end
section
namespace Pu
open PySem PySem.Spec L2
section
variable {K:x0a}{G:Gh}{H:Hp}
inductive Sort3 (K:x0a)(G:Gh)(H:Hp)(d:Nat)(x:PV)(v:V):Prop where
 | fl (h:a1T v=true) (s:a2m x=true)
 | tp (p:Addr) (xs:List PV) (vs:List V) (e:x=.tup xs) (ev:v=.ref p) (h:SqT K H p vs) (r:Reps K G H xs vs) (c:xs.all (cmpb d)=true)
 | ls (p:Addr) (xs:List PV) (vs:List V) (e:x=.lst xs) (ev:v=.ref p) (h:SqL K H p vs) (r:Reps K G H xs vs) (c:xs.all (cmpb d)=true)
theorem a2j {x:PV}{v:V}(s:a2m x=true)(h:RdV K G H x v):a1T v=true:=by
 cases x with
 | non=>rw [h.non];rfl
 | bl b=>rw [h.bl];rfl
 | int b=>rw [h.int];rfl
 | str b=>rw [h.str];rfl
 | _=>cases s
theorem a7I {d:Nat}{x:PV}{v:V}(c:cmpb (d + 1) x=true)(h:RdV K G H x v):Sort3 K G H d x v:=by
 cases x with
 | tup xs =>
   obtain⟨a,vs,e,t,r⟩:=h.tup;exact .tp a xs vs rfl e t r c
 | lst xs =>
   obtain⟨a,vs,e,t,r⟩:=h.lst;exact .ls a xs vs rfl e t r c
 | non=>exact .fl (a2j c h) c
 | bl _=>exact .fl (a2j c h) c
 | int _=>exact .fl (a2j c h) c
 | str _=>exact .fl (a2j c h) c
 | ty _=>cases c
 | pot _=>cases c
 | scr _=>cases c
 | dct _ _=>cases c
theorem a7n {x y:PV}{v u:V}(sx:a2m x=true)(sy:a2m y=true)(hx:RdV K G H x v)(hy:RdV K G H y u):eqP x y=eqV v u:=by
 cases x with
 | non =>
   cases hx.non;cases y with
   | non=>cases hy.non;rfl
   | bl j=>cases hy.bl;rfl
   | int j=>cases hy.int;rfl
   | str j=>cases hy.str;rfl
   | _=>cases sy
 | bl i =>
   cases hx.bl;cases y with
   | non=>cases hy.non;rfl
   | bl j=>cases hy.bl;rfl
   | int j=>cases hy.int;rfl
   | str j=>cases hy.str;rfl
   | _=>cases sy
 | int i =>
   cases hx.int;cases y with
   | non=>cases hy.non;rfl
   | bl j=>cases hy.bl;rfl
   | int j=>cases hy.int;rfl
   | str j=>cases hy.str;rfl
   | _=>cases sy
 | str i =>
   cases hx.str;cases y with
   | non=>cases hy.non;rfl
   | bl j=>cases hy.bl;rfl
   | int j=>cases hy.int;rfl
   | str j=>cases hy.str;rfl
   | _=>cases sy
 | _=>cases sx
theorem a5h {xs:List PV}{y:PV}(sy:a2m y=true):eqP (.tup xs) y=false/\eqP (.lst xs) y=false/\eqP y (.tup xs)=false/\eqP y (.lst xs)=false:=by
 cases y <;> first | exact⟨rfl,rfl,rfl,rfl⟩ | cases sy
theorem a9b:∀(d:Nat) (x y:PV) (v u:V),cmpb d x=true->cmpb d y=true->RdV K G H x v->RdV K G H y u->EqD K H d v u (eqP x y):=by
 intro d
 induction d with
 | zero=>intro x y v u cx cy hx hy;exact⟨a2j cx hx,a2j cy hy,a7n cx cy hx hy⟩
 | succ d ih =>
   intro x y v u cx cy hx hy
   have el:∀(xs ys:List PV) (vs us:List V),Reps K G H xs vs->Reps K G H ys us->xs.all (cmpb d)=true->ys.all (cmpb d)=true->∀(j:Nat) x' y',vs[j]?=some x'->us[j]?=some y'->EqD K H d x' y' (match xs[j]?,ys[j]? with | some x,some y=>eqP x y | _,_=>false):=by
     intro xs ys vs us r1 r2 c1 c2 j x' y' e1 e2;obtain⟨x1,ex,rx⟩:=r1.get e1;obtain⟨y1,ey,ry⟩:=r2.get e2;rw [ex,ey];exact ih x1 y1 x' y' (x0I.mp c1 x1 (x0X ex)) (x0I.mp c2 y1 (x0X ey)) (.inl rx) (.inl ry)
   cases a7I cx hx with
   | fl fx sx =>
     cases a7I cy hy with
     | fl fy sy=>exact .inl ⟨fx,fy,a7n sx sy hx hy⟩
     | tp q ys us e ev h r c=>subst e;exact .inr (.inr (.inr ⟨(a5h sx).2.2.1,.inr (.inl ⟨q,us,ev,.inl h,fx⟩)⟩))
     | ls q ys us e ev h r c=>subst e;exact .inr (.inr (.inr ⟨(a5h sx).2.2.2,.inr (.inl ⟨q,us,ev,.inr h,fx⟩)⟩))
   | tp p xs vs e ev h r c =>
     subst e;cases a7I cy hy with
     | fl fy sy=>exact .inr (.inr (.inr ⟨(a5h sy).1,.inl ⟨p,vs,ev,.inl h,fy⟩⟩))
     | tp q ys us e2 ev2 h2 r2 c2 =>
       subst e2;refine .inr (.inl ⟨p,q,vs,us,_,ev,ev2,h,h2,el xs ys vs us r r2 c c2,?_⟩);rw [<- r.length,<- r2.length];exact(a2k xs ys).symm
     | ls q ys us e2 ev2 h2 r2 c2=>subst e2;exact .inr (.inr (.inr ⟨rfl,.inr (.inr (.inl ⟨p,q,vs,us,ev,ev2,h,h2⟩))⟩))
   | ls p xs vs e ev h r c =>
     subst e;cases a7I cy hy with
     | fl fy sy=>exact .inr (.inr (.inr ⟨(a5h sy).2.1,.inl ⟨p,vs,ev,.inr h,fy⟩⟩))
     | tp q ys us e2 ev2 h2 r2 c2=>subst e2;exact .inr (.inr (.inr ⟨rfl,.inr (.inr (.inr ⟨p,q,vs,us,ev,ev2,h,h2⟩))⟩))
     | ls q ys us e2 ev2 h2 r2 c2 =>
       subst e2;refine .inr (.inr (.inl ⟨p,q,vs,us,_,ev,ev2,h,h2,el xs ys vs us r r2 c c2,?_⟩));rw [<- r.length,<- r2.length];exact(a2k xs ys).symm
end
section
variable {T:PotK}{ι:Type}{K:x0a}{F:ι->Cx}{e a b c:Expr}{es rest:List Expr}{pe pa pb pc:pE}{pos:Pos}
def grd (b:Bool)(P:Prop):Prop:=match b with | true=>P | false=>False
theorem grd_t {P:Prop}:grd true P=P:=rfl
theorem a2a {b:Bool}{P:Prop}(h:b=true)(p:P):grd b P:=by subst h;exact p
theorem a8o {b:Bool}{P:Prop}(h:grd b P):b=true:=by cases b;exact h.elim;rfl
theorem a5I {b:Bool}{P:Prop}(h:grd b P):P:=by cases b;exact h.elim;exact h
def wEq (d:Nat):w2:=fun x y R=>grd (cmpb d x) (grd (cmpb d y) (R (.bl (eqP x y))))
def wNe (d:Nat):w2:=fun x y R=>grd (cmpb d x) (grd (cmpb d y) (R (.bl (!eqP x y))))
theorem W2.eq {K:x0a}(d:Nat):W2 K (rEqD K d false) (wEq d):=fun G H x y v u R Q hf rx ry hw k=>⟨_,a9b d x y v u (a8o hw) (a8o (a5I hw)) rx ry,k _ _ _ (a5I (a5I hw)) (Same.refl _) rfl⟩
theorem W2.ne {K:x0a}(d:Nat):W2 K (rEqD K d true) (wNe d):=fun G H x y v u R Q hf rx ry hw k=>⟨_,a9b d x y v u (a8o hw) (a8o (a5I hw)) rx ry,k _ _ _ (a5I (a5I hw)) (Same.refl _) rfl⟩
def memP (x:PV)(ys:List PV):Bool:=ys.any fun y=>eqP y x
def wIn (d:Nat)(neg:Bool):w2:=fun x y R=>match x,y with
 | .str i,.str j=>R (.bl (if neg then !(!(Builtin.Str.occurrences j i 0 j.length 1).isEmpty) else !(Builtin.Str.occurrences j i 0 j.length 1).isEmpty))
 | x,.lst ys=>cmpb d x=true/\ys.all (cmpb d)=true/\R (.bl (if neg then !memP x ys else memP x ys))
 | x,.tup ys=>cmpb d x=true/\ys.all (cmpb d)=true/\R (.bl (if neg then !memP x ys else memP x ys))
 | _,_=>False
def wLt:w2:=fun x y R=>match x,y with | .int i,.int j=>R (.bl (decide (i < j))) | .str i,.str j=>R (.bl (decide (i.cps.toList < j.cps.toList))) | _,_=>False
def wGe:w2:=wI0 fun i j=>.bl (decide (j<=i))
theorem W2.lt {K:x0a}:W2 K (fun x y H Q=>(rI0 fun i j=>.bl (decide (i < j))) x y H Q\/∃i j,x=.str i/\y=.str j/\Q (.bl (decide (i.cps.toList < j.cps.toList))) H) wLt:=by
 intro G H x y v u R Q hf rx ry hw k;unfold wLt at hw
 split at hw
 · exact .inl ⟨_,_,rx.int,ry.int,k _ _ _ hw (Same.refl _) rfl⟩
 · exact .inr ⟨_,_,rx.str,ry.str,k _ _ _ hw (Same.refl _) rfl⟩
 · exact hw.elim
structure Cmp {ι:Type}(K:x0a)(F:ι->Cx)(op:CmpOp)(w:w2):Prop where
 ex:∃r,(∀z,OpR (F z) (x2K op) r)/\W2 K r w
theorem cEq (d:Nat){k:Nat}(hr:∀z,Room k (F z).A)(hd:d<=30:=by decide)(hK:∀z,(F z).K=K:=by intro _;rfl):Cmp K F .Eq (wEq d):=⟨_,fun z=>hK z▸op_eqD d (by have:=(hr z).units;omega),W2.eq d⟩
theorem cNe (d:Nat){k:Nat}(hr:∀z,Room k (F z).A)(hd:d<=30:=by decide)(hK:∀z,(F z).K=K:=by intro _;rfl):Cmp K F .NotEq (wNe d):=⟨_,fun z=>hK z▸op_neD d (by have:=(hr z).units;omega),W2.ne d⟩
theorem cGe:Cmp K F .GtE wGe:=⟨_,fun _=>op_ge,W2.I0 fun _ _ _ _=>rfl⟩
def qB (pe:pE):pT:=fun env n R=>pe env n fun x env' n'=>match x with | .bl b=>R b env' n' | _=>False
theorem ok_b {K:x0a}{t:TE}(h:EOk K T t pe):TOk K T (tB t) (qB pe):=fun C G σ H env n R Q hK hT S hp k=>by
 refine h C G σ H env n _ _ hK hT S hp fun x env' n' v H' r S' rp f=>?_;cases x with
 | bl b=>exact⟨b,rp,k _ _ _ _ r S' f⟩
 | _=>exact r.elim
theorem b0k {K:x0a}{t:TE}(h:EOk K T t pe):TOk K T (tTest t) (qB pe):=fun C G σ H env n R Q hK hT S hp k=>by
 refine h C G σ H env n _ _ hK hT S hp fun x env' n' v H' r S' rp f=>?_;cases x with
 | bl b=>exact⟨b,rp,k _ _ _ _ r S' f⟩
 | _=>exact r.elim
theorem a8H (h:QE T K F e pe)(he:∀z whole,isTrue e (F z).env whole=(do let v ← whole;standAt e.pos;x3p [v] (truthy v)):=by intro _ _;rfl):QT T K F e (qB pe):=by
 obtain⟨t,h1,h2⟩:=h;exact⟨_,fun z=>pt_val (h1 z) (he z),ok_b h2⟩
theorem a2u {op:CmpOp}{w:w2}(hc:Cmp K F op w)(ha:QE T K F a pa)(hb:QR T K F b pb)(hm:behindInMarks op b=false):QT T K F (.Compare a [op] [b] pos) (qB (qOp w pa pb)):=by
 obtain⟨r,ho,hw⟩:=hc.ex;obtain⟨ta,h1,h2⟩:=ha;obtain⟨tb,h3,h4⟩:=hb;exact⟨_,fun z=>a3o (ho z) (h1 z) (h3 z) hm,b0k (a8f hw h2 h4)⟩
variable {pt pu:pT}
def qAnd (t u:pT):pT:=fun env n R=>t env n fun b env1 n1=>if b=true then u env1 n1 R else R false env1 n1
def qOr (t u:pT):pT:=fun env n R=>t env n fun b env1 n1=>if b=true then R true env1 n1 else u env1 n1 R
def qNot (t:pT):pT:=fun env n R=>t env n fun b env1 n1=>R (!b) env1 n1
theorem ok_and {K:x0a}{t u:TT}(h:TOk K T t pt)(h':TOk K T u pu):TOk K T (tAnd t u) (qAnd pt pu):=fun C G σ H env n R Q hK hT S hp k=>by
 refine h C G σ H env n _ _ hK hT S hp fun b env1 n1 H1 p1 S1 f1=>?_;cases b with
 | true=>exact h' C G σ H1 env1 n1 _ _ hK hT S1 p1 fun b env2 n2 H2 p2 S2 f2=>k _ _ _ _ p2 S2 (f1.trans f2)
 | false=>exact k _ _ _ _ p1 S1 f1
theorem ok_or {K:x0a}{t u:TT}(h:TOk K T t pt)(h':TOk K T u pu):TOk K T (tOr t u) (qOr pt pu):=fun C G σ H env n R Q hK hT S hp k=>by
 refine h C G σ H env n _ _ hK hT S hp fun b env1 n1 H1 p1 S1 f1=>?_;cases b with
 | false=>exact h' C G σ H1 env1 n1 _ _ hK hT S1 p1 fun b env2 n2 H2 p2 S2 f2=>k _ _ _ _ p2 S2 (f1.trans f2)
 | true=>exact k _ _ _ _ p1 S1 f1
theorem ok_not {K:x0a}{t:TT}(h:TOk K T t pt):TOk K T (tNot t) (qNot pt):=fun C G σ H env n R Q hK hT S hp k=>h C G σ H env n _ _ hK hT S hp fun b env1 n1 H1 p1 S1 f1=>k _ _ _ _ p1 S1 f1
theorem a9E (ha:QT T K F a pt):QW T K F (.BoolOp .And [a] pos) pt:=let ⟨t,h1,h2⟩:=ha;⟨t,fun z=>a9T (h1 z),h2⟩
theorem a8G (ha:QT T K F a pt):QW T K F (.BoolOp .Or [a] pos) pt:=let ⟨t,h1,h2⟩:=ha;⟨t,fun z=>pw_or1 (h1 z),h2⟩
theorem qw_and (ha:QT T K F a pt)(hb:QW T K F (.BoolOp .And (b::rest) pos) pu):QW T K F (.BoolOp .And (a::b::rest) pos) (qAnd pt pu):=let ⟨t,h1,h2⟩:=ha;let ⟨u,h3,h4⟩:=hb;⟨_,fun z=>pw_and (h1 z) (h3 z),ok_and h2 h4⟩
theorem a9D (ha:QT T K F a pt)(hb:QW T K F (.BoolOp .Or (b::rest) pos) pu):QW T K F (.BoolOp .Or (a::b::rest) pos) (qOr pt pu):=let ⟨t,h1,h2⟩:=ha;let ⟨u,h3,h4⟩:=hb;⟨_,fun z=>pw_or (h1 z) (h3 z),ok_or h2 h4⟩
theorem QW.qt (h:QW T K F e pt):QT T K F e pt:=let ⟨t,h1,h2⟩:=h;⟨t,fun z=>(h1 z).pt,h2⟩
theorem a8I (ha:QT T K F a pt):QT T K F (.UnaryOp .Not a pos) (qNot pt):=let ⟨t,h1,h2⟩:=ha;⟨_,fun z=>pt_not (h1 z),ok_not h2⟩
def a9S (pa pb:pE):pE:=fun env n R=>pa env n fun x env1 n1=>match x with | .bl b=>if b=true then pb env1 n1 R else R (.bl false) env1 n1 | _=>False
def a9P (pa:pE):pE:=fun env n R=>pa env n fun x env1 n1=>match x with | .bl b=>R (.bl (!b)) env1 n1 | _=>False
theorem qe_one {op}(h:QE T K F a pa):QE T K F (.BoolOp op [a] pos) pa:=let ⟨t,h1,h2⟩:=h;⟨t,fun z=>pe_one (h1 z),h2⟩
theorem qe_and (ha:QE T K F a pa)(hb:QE T K F (.BoolOp .And (b::rest) pos) pb):QE T K F (.BoolOp .And (a::b::rest) pos) (a9S pa pb):=by
 obtain⟨t,h1,h2⟩:=ha;obtain⟨u,h3,h4⟩:=hb;refine⟨_,fun z=>pe_and (h1 z) (h3 z),fun C G σ H env n R Q hK hT S hp k=>?_⟩;refine h2 C G σ H env n _ _ hK hT S hp fun x env1 n1 v H1 p1 S1 r1 f1=>?_;cases x with
 | bl c =>
   refine⟨c,r1,?_⟩;cases c with
   | true=>exact h4 C G σ H1 env1 n1 _ _ hK hT S1 p1 fun x env2 n2 v H2 p2 S2 r2 f2=>k _ _ _ _ _ p2 S2 r2 (f1.trans f2)
   | false=>exact k _ _ _ _ _ p1 S1 rfl f1
 | _=>exact p1.elim
theorem qe_not (ha:QE T K F a pa):QE T K F (.UnaryOp .Not a pos) (a9P pa):=by
 obtain⟨t,h1,h2⟩:=ha;refine⟨_,fun z=>pe_not (h1 z),fun C G σ H env n R Q hK hT S hp k=>?_⟩;refine h2 C G σ H env n _ _ hK hT S hp fun x env1 n1 v H1 p1 S1 r1 f1=>?_;cases x with
 | bl c=>exact⟨c,r1,k _ _ _ _ _ p1 S1 rfl f1⟩
 | _=>exact p1.elim
variable {pl pr:pA}
def qNil:pA:=fun env n R=>R [] env n
def a0f (pe:pE)(pr:pA):pA:=fun env n R=>pe env n fun x env1 n1=>pr env1 n1 fun xs env2 n2=>R (x::xs) env2 n2
theorem a0k:QA T K F [] qNil:=⟨_,fun _=>a0C,fun C G σ H env n R Q hK hT S hp k=>k _ _ _ _ _ hp S Reps.nil Fr.refl⟩
theorem b0n {K:x0a}{t:TE}{u:TA}(h:EOk K T t pe)(h':AOk K T u pr):AOk K T (a3e t u) (a0f pe pr):=fun C G σ H env n R Q hK hT S hp k=>by
 refine h C G σ H env n _ _ hK hT S hp fun x env1 n1 v H1 p1 S1 r1 f1=>?_;exact h' C G σ H1 env1 n1 _ _ hK hT S1 p1 fun xs env2 n2 vs H2 p2 S2 r2 f2=>k _ _ _ _ _ p2 S2 (.cons (r1.fr f2) r2) (f1.trans f2)
def a0r:Expr->Bool
 | .Starred ..=>false
 | _=>true
theorem a0c {e:Expr}{es:List Expr}{env:PySem.Env}(h:a0r e=true):x0P (e::es) env=(false,eval e env)::x0P es env:=by
 cases e <;> first | rfl | cases h
theorem a0a (ha:QE T K F e pe)(hr:QA T K F es pr)(h:a0r e=true:=by rfl):QA T K F (e::es) (a0f pe pr):=by
 obtain⟨t,h1,h2⟩:=ha;obtain⟨u,h3,h4⟩:=hr;exact⟨_,fun z=>a0m (h1 z) (h3 z) (a0c h),b0n h2 h4⟩
def qTup (pa:pA):pE:=fun env n R=>pa env n fun xs env1 n1=>xs.length<=1000000/\R (.tup xs) env1 n1
def qLst (pa:pA):pA:=fun env n R=>pa env n fun xs env1 n1=>xs.length<=1000000/\R xs env1 n1
def qL (pn:pA):pE:=fun env n R=>pn env n fun xs env1 n1=>R (.lst xs) env1 n1
theorem a1d {x1}(h:QA T K F es pl):QE T K F (.Tuple es x1 pos) (qTup pl):=by
 obtain⟨t,h1,h2⟩:=h;refine⟨_,fun z=>a8P (h1 z),fun C G σ H env n R Q hK hT S hp k=>?_⟩;refine h2 C G σ H env n _ _ hK hT S hp fun xs env1 n1 vs H1 p1 S1 r1 f1=>⟨by rw [<- r1.length];exact mil p1.1,fun p hp=>?_⟩;exact k _ _ _ _ _ p1.2 (S1.same (Same.lay1 hp)) (a2s (S1.fresh hp) hp r1) (f1.trans (Fr.of (Same.lay1 hp)))
theorem a0P (h:QA T K F es pl):QN T K F (.List es pos) (qLst pl):=by
 obtain⟨t,h1,h2⟩:=h;refine⟨_,fun z=>a8Q (h1 z),fun C G σ H env n R Q hK hT S hp k=>?_⟩;exact h2 C G σ H env n _ _ hK hT S hp fun xs env1 n1 vs H1 p1 S1 r1 f1=>⟨by rw [<- r1.length];exact mil p1.1,fun p hp=>k _ _ _ _ _ _ p1.2 S1 f1 hp r1⟩
theorem QN.ee (h:QN T K F e pl):QE T K F e (qL pl):=by
 obtain⟨t,h1,h2⟩:=h;refine⟨t,h1,fun C G σ H env n R Q hK hT S hp k=>?_⟩;refine h2 C G σ H env n _ _ hK hT S hp fun xs env1 n1 a vs Hb p1 S1 f1 hn r1=>?_;exact k _ _ _ _ _ p1 (S1.same (Same.lay1 hn)) (a4p (S1.fresh hn) hn r1) (f1.trans (Fr.of (Same.lay1 hn)))
theorem a6R {K:x0a}{t:TE}(h:ROk K T t pe){C:Ct}{G:Gh}{σ:St}{H:Hp}{env:Env}{n:Nat}{R:PK}{Q:List V->Hp->Prop}(hK:C.K=K)(hT:C.T=T)(S:SR C G σ H env n)(hp:pe env n R)
   (k:∀x env' n' v H',R x env' n'->SR C G σ H' env' n'->RdS C G σ H' env' x v->Fr G H H'->Q [v] H'):a3e t tNil σ H Q:=
 h C G σ H env n _ _ hK hT S hp fun x env1 n1 v H1 p1 S1 r1 f1=>k _ _ _ _ _ p1 S1 r1 f1
end
end Pu
end
section
namespace HT
open PySem PySem.Spec PyProof.Rows
section
variable {prog:x0x}{w:World}{A:Around}{E:Value->Shared->Prop}{s:Shared}
theorem getItem_tuple_whole {t sl:Addr}{items:Array Value}{vl vu:Value}{lo hi:Option Int}{Q:Value->Shared->Prop}(ht:IsTup s.heap t items)(hs:s.heap.IsSliceOf sl vl vu .none)(pl:IsPart vl lo)(pu:IsPart vu hi)
   (hw:sIx items.size 0 lo=0/\sIx items.size items.size hi=items.size) (h:Q (.ref t) s):wpAny (model prog w) A (getItem (.ref t) (.ref sl)) Q E s:=by
 obtain⟨os,hos,hcs,hds⟩:=id hs;have hTs:s.TypeIs (.ref sl) "slice":=⟨os,hos,hcs⟩;have hTt:s.TypeIs (.ref t) "tuple":=ht.typeIs;unfold getItem
 try with_reducible refine x1d ?_
 first | refine x0b (x0h ?_) | skip
 refine x0b (wpAny_sequenceKey ht.typeIs (by decide) ?_)
 refine x0b (x1f (name:=x0H "__getitem__") ht.typeIs x1m
   (x1W x1m ht.typeIs entry_tuple_getitem ?_ (args_tuple_getitem _ _)))
 show wpAny _ _ (x3c (.ref t)>>=_) _ _ s;refine x0b (tupleItemsOf_ ht ?_);refine x0b (x2L hTs ?_);rw [if_pos (by decide)];refine x0b (a1u hs pl pu ?_)
 have hyes:(((sIx items.size 0 lo:Nat):Int) == 0 && (1:Int) == 1 && (sIx items.size items.size hi - sIx items.size 0 lo) == items.size)=true:=by
   rw [hw.1,hw.2];simp
 show wpAny _ _ (if(((sIx items.size 0 lo:Nat):Int) == 0 && (1:Int) == 1 && (sIx items.size items.size hi - sIx items.size 0 lo) == items.size)=true then _ else _) _ _ s;rw [if_pos hyes];unfold Builtin.Tuple.tupleIsExact;refine x0b (x0b (x2L hTt (x0h ?_)));rw [if_pos (by rfl)];exact x0b (x2m (x0h ⟨_,rfl,x0h h⟩))
end
end HT
namespace L2
open PySem PySem.Spec PyProof.Rows
section
variable {X:Cx}
def rSlTA (K:x0a):V->Option Int->Option Int->Hp->VK->Prop:=fun x lo hi H Q=>∃a xs,x=.ref a/\SqT K H a xs/\
 (cutV xs lo hi=xs->Q (.ref a) H)/\∀p,H p=none->Q (.ref p) (upd H p (.tup (cutV xs lo hi)))
theorem a9u:SlR X (rSlTA X.K):=by
 intro pins s σ H x v vl vu lo hi sl Q I rx hs pl pu h;obtain⟨a,xs,rfl,hx,h1,h2⟩:=h
 by_cases hw:HT.sIx xs.length 0 lo=0/\HT.sIx xs.length xs.length hi=xs.length
 · cases rx;obtain⟨its,r,ht,hz⟩:=I.tuple hx;have hlen:its.toArray.size=xs.length:=by rw [x0j];exact r.length.symm
   refine⟨"tuple",_,PyProof.Rows.slot_tuple_getitem.lookup,ht.typeIs,?_⟩;refine HT.getItem_tuple_whole ht hs pl pu (by rw [hlen];exact hw) ⟨.ref a,H,I,rfl,h1 ?_⟩;unfold cutV;rw [hw.1,hw.2];simp
 · exact sl_tup pins s σ H (.ref a) v vl vu lo hi sl Q I rx hs pl pu ⟨a,xs,rfl,hx,hw,h2⟩
end
end L2
namespace Pu
open PySem PySem.Spec L2
section
variable {T:PotK}{ι:Type}{K:x0a}{F:ι->Cx}{e a b c:Expr}{es rest:List Expr}{pe pa pb pc:pE}{pos:Pos}{pl pr:pA}
def wIx:w2:=fun x y R=>match x,y with
 | .lst xs,.int i=>match atI xs i with | some z=>R z | none=>False
 | .tup xs,.int i=>match atI xs i with | some z=>R z | none=>False
 | .scr ns,.int i=>match atI ns i with | some z=>R (.int z) | none=>False
 | .str z,.int i=>z.length<=1000000/\match atI z.cps.toList i with | some c=>R (.str ⟨#[c]⟩) | none=>False
 | _,_=>False
theorem a5o {K:x0a}{G:Gh}{H:Hp}{xs:List PV}{vs:List V}(r:Reps K G H xs vs){i:Int}{z:PV}(h:atI xs i=some z):∃v,atI vs i=some v/\Rep K G H z v:=by
 unfold atI at h ⊢;rw [<- r.length];cases e:ixN xs.length i with
 | none=>rw [e] at h;cases h
 | some j =>
   rw [e] at h;exact r.get' h
theorem a4R {K:x0a}{G:Gh}{H:Hp}{ns:List Int}{v:V}(h:RdV K G H (.scr ns) v):∃a,v=.ref a/\SqL K H a (ns.map V.int):=by
 obtain⟨a,e,h⟩:=h.rep (fun _ z=>nomatch z);refine⟨a,e,?_⟩;rcases h with⟨_,o,h⟩ | h
 · exact .inl (.inr ⟨o,h⟩)
 · exact .inr h
theorem W2.ix {K:x0a}:W2 K (rIx K) wIx:=by
 intro G H x y v u R Q hf rx ry hw k;unfold wIx at hw
 split at hw
 · rename_i xs i;obtain⟨a,vs,ev,hq,r⟩:=rx.lst;cases ez:atI xs i with
   | none=>rw [ez] at hw;exact hw.elim
   | some z =>
     rw [ez] at hw;obtain⟨v',e1,r1⟩:=a5o r ez;exact .inl ⟨a,vs,i,v',ev,ry.int,hq,e1,k _ _ _ hw (Same.refl _) r1⟩
 · rename_i xs i;obtain⟨a,vs,ev,hq,r⟩:=rx.tup;cases ez:atI xs i with
   | none=>rw [ez] at hw;exact hw.elim
   | some z =>
     rw [ez] at hw;obtain⟨v',e1,r1⟩:=a5o r ez;exact .inr (.inl ⟨a,vs,i,v',ev,ry.int,hq,e1,k _ _ _ hw (Same.refl _) r1⟩)
 · rename_i ns i;obtain⟨a,ev,hq⟩:=a4R rx;cases ez:atI ns i with
   | none=>rw [ez] at hw;exact hw.elim
   | some z =>
     rw [ez] at hw;refine .inl ⟨a,_,i,.int z,ev,ry.int,hq,?_,k _ _ _ hw (Same.refl _) rfl⟩;unfold atI at ez ⊢;rw [x0e];cases e:ixN ns.length i with
     | none=>rw [e] at ez;cases ez
     | some j =>
       rw [e] at ez;show(ns.map V.int)[j]?=_;rw [x0p,show ns[j]?=some z from ez]
       rfl
 · rename_i z i;obtain⟨hz,hw⟩:=hw;cases ez:atI z.cps.toList i with
   | none=>rw [ez] at hw;exact hw.elim
   | some c =>
     rw [ez] at hw;exact .inr (.inr ⟨z,i,c,rx.str,ry.int,mil hz,ez,k _ _ _ hw (Same.refl _) rfl⟩)
 · exact hw.elim
theorem a1B (ha:QE T K F a pa)(hb:QE T K F b pb)(hs:a4K b:=by exact fun _ _=>rfl)(hK:∀z,(F z).K=K:=by intro _;rfl):QE T K F (.Subscript a b pos) (qOp wIx pa pb):=by
 obtain⟨ta,h1,h2⟩:=ha;obtain⟨tb,h3,h4⟩:=hb.r;exact⟨_,fun z=>a2Q (hK z▸a8X) (h1 z) (h3 z) hs,a8f W2.ix h2 h4⟩
theorem a1k (ha:QR T K F a pa)(hb:QE T K F b pb)(hs:a4K b:=by exact fun _ _=>rfl)(hK:∀z,(F z).K=K:=by intro _;rfl):QE T K F (.Subscript a b pos) (qOpR wIx pa pb):=by
 obtain⟨ta,h1,h2⟩:=ha;obtain⟨tb,h3,h4⟩:=hb.r;exact⟨_,fun z=>a2Q (hK z▸a8X) (h1 z) (h3 z) hs,ok_opR W2.ix h2 h4⟩
abbrev pO:=Env->Nat->(Option Int->Env->Nat->Prop)->Prop
def qNo:pO:=fun env n R=>R none env n
def a9N (pe:pE):pO:=fun env n R=>pe env n fun x env1 n1=>match x with | .int i=>R (some i) env1 n1 | _=>False
def OOk (K:x0a)(T:PotK)(t:TO)(po:pO):Prop:=∀(C:Ct) (G:Gh) (σ:St) (H:Hp) (env:Env) (n:Nat) (R:Option Int->Env->Nat->Prop) (Q:Option Int->Hp->Prop),C.K=K->C.T=T->SR C G σ H env n->po env n R->
 (∀x env' n' H',R x env' n'->SR C G σ H' env' n'->Fr G H H'->Q x H')->t σ H Q
def QO {ι:Type}(T:PotK)(K:x0a)(F:ι->Cx)(e:Option Expr)(po:pO):Prop:=∃t,(∀z,PO (F z) e t)/\OOk K T t po
theorem qo_no:QO T K F none qNo:=⟨_,fun _=>a9Z,fun C G σ H env n R Q hK hT S hp k=>k _ _ _ _ hp S Fr.refl⟩
theorem a9J (h:QE T K F e pe):QO T K F (some e) (a9N pe):=by
 obtain⟨t,h1,h2⟩:=h;refine⟨_,fun z=>a9Y (h1 z),fun C G σ H env n R Q hK hT S hp k=>?_⟩;refine h2 C G σ H env n _ _ hK hT S hp fun x env1 n1 v H1 p1 S1 r1 f1=>?_;cases x with
 | int i=>exact⟨i,r1,k _ _ _ _ p1 S1 f1⟩
 | _=>exact p1.elim
def cutP {α:Type}(xs:List α)(lo hi:Option Int):List α:=(xs.drop (HT.sIx xs.length 0 lo)).take (HT.sIx xs.length xs.length hi - HT.sIx xs.length 0 lo)
theorem Reps.cut {K:x0a}{G:Gh}{H:Hp}{xs:List PV}{vs:List V}(r:Reps K G H xs vs)(lo hi:Option Int):Reps K G H (cutP xs lo hi) (cutV vs lo hi):=by
 unfold cutP cutV;rw [<- r.length];exact(r.drop _).take _
def wSl (x:PV)(lo hi:Option Int)(R:PV->Prop):Prop:=match x with
 | .lst xs=>R (.lst (cutP xs lo hi))
 | .scr ns=>R (.lst ((cutP ns lo hi).map PV.int))
 | .tup xs=>R (.tup (cutP xs lo hi))
 | .str z=>z.length<=1000000/\R (.str (Txt.slice z lo hi))
 | _=>False
def qSl (pe:pE)(pl ph:pO):pE:=fun env n R=>pe env n fun x env1 n1=>pl env1 n1 fun lo env2 n2=>ph env2 n2 fun hi env3 n3=>wSl x lo hi fun z=>R z env3 n3
theorem a6o {K:x0a}{G:Gh}{H:Hp}:∀ns:List Int,Reps K G H (ns.map PV.int) (ns.map V.int):=by
 intro xq
 induction xq with
 | nil =>
   exact rfl
 | cons i ns ih =>
   exact⟨.int i,ns.map V.int,rfl,rfl,ih⟩
theorem b0F {α β:Type}(f:α->β)(xs:List α)(lo hi:Option Int):cutP (xs.map f) lo hi=(cutP xs lo hi).map f:=by
 unfold cutP;rw [x0e,List.map_take,List.map_drop]
theorem sl_ok {K:x0a}{G:Gh}{H:Hp}{x:PV}{v:V}{lo hi:Option Int}{R:PV->Prop}{Q:VK}(hf:∀p,H p=none->p∉G.M)(rx:RdV K G H x v)(hw:wSl x lo hi R)(k:∀z v' H',R z->Same H H'->Rep K G H' z v'->Q v' H') :
   rSlL K v lo hi H Q\/rSlTA K v lo hi H Q\/rSlS v lo hi H Q:=by
 unfold wSl at hw
 split at hw
 · obtain⟨a,vs,ev,hq,r⟩:=rx.lst;exact .inl ⟨a,vs,ev,hq,fun p hp=>k _ _ _ hw (Same.lay1 hp) (a4p (hf p hp) hp (r.cut lo hi))⟩
 · rename_i ns;obtain⟨a,ev,hq⟩:=a4R rx;refine .inl ⟨a,_,ev,hq,fun p hp=>k _ _ _ hw (Same.lay1 hp) (a4p (hf p hp) hp ?_)⟩;have:=(a6o (K:=K) (G:=G) (H:=H) ns).cut lo hi;rw [b0F] at this;exact this
 · obtain⟨a,vs,ev,t,r⟩:=rx.rep (fun _ z=>nomatch z);refine .inr (.inl ⟨a,vs,ev,t.sq,fun z=>k _ _ _ hw (Same.refl _) ?_,fun p hp=>k _ _ _ hw (Same.lay1 hp) (a2s (hf p hp) hp (r.cut lo hi))⟩);have rc:=r.cut lo hi;rw [z] at rc;exact⟨a,vs,rfl,t,rc⟩
 · exact .inr (.inr ⟨_,rx.str,mil hw.1,k _ _ _ hw.2 (Same.refl _) rfl⟩)
 · exact hw.elim
theorem qe_sl {lo hi:Option Expr}{p2:Pos}{ql qh:pO}(he:QE T K F e pe)(hl:QO T K F lo ql)(hh:QO T K F hi qh)(hK:∀z,(F z).K=K:=by intro _;rfl):QE T K F (.Subscript e (.Slice lo hi none p2) pos) (qSl pe ql qh):=by
 obtain⟨t,h1,h2⟩:=he;obtain⟨tl,l1,l2⟩:=hl;obtain⟨th,u1,u2⟩:=hh;refine⟨_,fun z=>a8a ((hK z▸a9v).or ((hK z▸a9u).or sl_str)) (h1 z) (l1 z) (u1 z),fun C G σ H env n R Q hK hT S hp k=>?_⟩;refine h2 C G σ H env n _ _ hK hT S hp fun x env1 n1 v H1 p1 S1 r1 f1=>?_;refine l2 C G σ H1 env1 n1 _ _ hK hT S1 p1 fun lo env2 n2 H2 p2 S2 f2=>?_;refine u2 C G σ H2 env2 n2 _ _ hK hT S2 p2 fun hi env3 n3 H3 p3 S3 f3=>?_;exact sl_ok (fun p hp=>S3.fresh hp) (.inl ((r1.fr f2).fr f3)) p3 fun z v' H' rz s rv=>k _ _ _ _ _ rz (S3.same s) rv (((f1.trans f2).trans f3).trans (Fr.of s))
def WA1 (K:x0a)(r:List V->Hp->VK->Prop)(w:w1):Prop:=∀(G:Gh) (H:Hp) (x:PV) (v:V) (R:PV->Prop) (Q:VK),(∀p,H p=none->p∉G.M)->RdV K G H x v->w x R->
 (∀z v' H',R z->Same H H'->Rep K G H' z v'->Q v' H')->r [v] H Q
theorem a8T {K:x0a}{r:List V->Hp->VK->Prop}{w:w1}{t:TE}(hw:WA1 K r w)(h:ROk K T t pe):EOk K T (tCB r (a3e t tNil)) (qUn w pe):=fun C G σ H env n R Q hK hT S hp k=>by
 refine a6R h hK hT S hp fun x env1 n1 v H1 p1 S1 r1 f1=>?_;subst hK;exact hw G H1 x v _ _ (fun p hp=>S1.fresh hp) (r1.rd S1) p1 fun z v' H' rz s rv=>k _ _ _ _ _ rz (S1.same s) rv (f1.trans (Fr.of s))
theorem qe_cb1 {x:Str}{id:String}{r:List V->Hp->VK->Prop}{w:w1}{p:Pos}(hc:∀z,a1F (F z) (.builtin id) r)(hw:WA1 K r w)(hg:∀z,Gl (F z) x)(hm:∀z,(F z).mg x=none)(hv:x0J x=some (.builtin id))(ha:QR T K F e pe)(hs:a0r e=true:=by rfl)(hn:x≠"__name__":=by decide)(hdb:(x == ("__debug__":Str))=false:=by decide) :
   QE T K F (.Call (.Name x p) [e] [] pos) (qUn w pe):=by
 obtain⟨t,h1,h2⟩:=ha;exact⟨_,fun z=>a1e (hc z) (hg z) (hm z) hv (a0m (h1 z) a0C (a0c hs)) hn hdb (a0c hs),a8T hw h2⟩
theorem qe_ct1 {x:Str}{id:String}{r:List V->Hp->VK->Prop}{w:w1}{p:Pos}(hc:∀z,a1F (F z) (.type id) r)(hw:WA1 K r w)(hg:∀z,Gl (F z) x)(hm:∀z,(F z).mg x=none)(hv:x0J x=some (.type id))(ha:QR T K F e pe)(hs:a0r e=true:=by rfl)(hn:x≠"__name__":=by decide)(hdb:(x == ("__debug__":Str))=false:=by decide) :
   QE T K F (.Call (.Name x p) [e] [] pos) (qUn w pe):=by
 obtain⟨t,h1,h2⟩:=ha;exact⟨_,fun z=>a6O (hc z) (hg z) (hm z) hv (a0m (h1 z) a0C (a0c hs)) hn hdb (a0c hs),a8T hw h2⟩
def wLen:w1:=fun x R=>match x with
 | .lst xs=>R (.int xs.length)
 | .tup xs=>R (.int xs.length)
 | .scr xs=>R (.int xs.length)
 | .str z=>z.length<=1000000/\R (.int z.length)
 | _=>False
theorem WA1.len {K:x0a}:WA1 K (fun xs H Q=>(∃p ys,xs=[.ref p]/\(SqL K H p ys\/SqT K H p ys)/\Q (.int ys.length) H)\/∃z,xs=[.str z]/\z.length<=x0t/\Q (.int z.length) H) wLen:=by
 intro G H x v R Q hf rx hw k;unfold wLen at hw
 split at hw
 · obtain⟨a,vs,ev,hq,r⟩:=rx.lst;exact .inl ⟨a,vs,by rw [ev],.inl hq,k _ _ _ hw (Same.refl _) (by rw [r.length];rfl)⟩
 · obtain⟨a,vs,ev,hq,r⟩:=rx.tup;exact .inl ⟨a,vs,by rw [ev],.inr hq,k _ _ _ hw (Same.refl _) (by rw [r.length];rfl)⟩
 · obtain⟨a,ev,hq⟩:=a4R rx;exact .inl ⟨a,_,by rw [ev],.inl hq,k _ _ _ hw (Same.refl _) (by rw [x0e];rfl)⟩
 · exact .inr ⟨_,by rw [rx.str],mil hw.1,k _ _ _ hw.2 (Same.refl _) rfl⟩
 · exact hw.elim
theorem a2V {p:Pos}(hg:∀z,Gl (F z) "len")(hm:∀z,(F z).mg "len"=none)(ha:QR T K F e pe)(hs:a0r e=true:=by rfl)(hK:∀z,(F z).K=K:=by intro _;rfl):QE T K F (.Call (.Name "len" p) [e] [] pos) (qUn wLen pe):=qe_cb1 (fun z=>(hK z▸a2o).or a4d) WA1.len hg hm a7y ha hs
def a3D:w1:=fun x R=>match x with | .lst xs=>R (.tup xs) | .tup xs=>R (.tup xs) | _=>False
theorem a4T {p:Pos}(hg:∀z,Gl (F z) "tuple")(hm:∀z,(F z).mg "tuple"=none)(ha:QR T K F e pe)(hs:a0r e=true:=by rfl)(hK:∀z,(F z).K=K:=by intro _;rfl):QE T K F (.Call (.Name "tuple" p) [e] [] pos) (qUn a3D pe):=qe_ct1 (fun z=>hK z▸a3A) (fun G H x v R Q hf rx hw k=>by
 unfold a3D at hw
 split at hw
 · obtain⟨a,vs,ev,hq,r⟩:=rx.lst;exact⟨a,vs,by rw [ev],.inl ⟨hq,fun l hl=>k _ _ _ hw (Same.lay1 hl) (a2s (hf l hl) hl r)⟩⟩
 · obtain⟨a,vs,ev,t,r⟩:=rx.rep (fun _ z=>nomatch z);exact⟨a,vs,by rw [ev],.inr ⟨t.sq,k _ _ _ hw (Same.refl _) ⟨a,vs,rfl,t,r⟩⟩⟩
 · exact hw.elim) hg hm a8w ha hs
theorem tyw {X:Cx}{x:Str}{m:String}{pos:Pos}(hg:Gl X x)(hm:X.mg x=none)(hv:x0J x=some (.type m))(hn:x≠"__name__":=by decide)(hd:(x == ("__debug__":Str))=false:=by decide):EW X (.Name x pos) (tC (.ty m)):=⟨b0g (v:=.ty m) hg hm hv rfl hn hd⟩
def tyP:PV->Option String
 | .non=>some "NoneType"
 | .bl _=>some "bool"
 | .int _=>some "int"
 | .str _=>some "str"
 | .tup _=>some "tuple"
 | .lst _=>some "list"
 | .dct _ _=>some "dict"
 | _=>none
def isT (t n:String):Bool:=t == n || (t == "bool" && n == "int")
def wIsi (n:String):w1:=fun x R=>match tyP x with | some t=>R (.bl (isT t n)) | none=>False
theorem b0u {K:x0a}{t n:String}(ht:t∈["NoneType","bool","int","str","tuple","list","dict"])(hn:n∈["bool","int","str","tuple","list"]):x2H K (.type t) (.type n)=some (isT t n):=by
 refine kit_of ?_;have:∀t∈["NoneType","bool","int","str","tuple","list","dict"],∀n∈["bool","int","str","tuple","list"],(if(x1k t == x1k n)=true then some true else if PySem.W.kitMeta n=true then(fastBuiltinMro t).map (·.contains (.type n)) else none)=some (isT t n):=by decide +kernel
 exact this t ht n hn
theorem a8M {p:Pos}{n:String}{b:Expr}(hn:n∈["bool","int","str","tuple","list"])(hg:∀z,Gl (F z) "isinstance")(hm:∀z,(F z).mg "isinstance"=none)(ha:QE T K F a pa)(hb:∀z,EW (F z) b (tC (.ty n)))(hs:a0r a=true:=by rfl)(hs2:a0r b=true:=by rfl)(hK:∀z,(F z).K=K:=by intro _;rfl):QE T K F (.Call (.Name "isinstance" p) [a,b] [] pos) (qUn (wIsi n) pa):=by
 obtain⟨t,h1,h2⟩:=ha;refine⟨_,fun z=>a1e (hK z▸a4I) (hg z) (hm z) a3B (a0m (h1 z) (a0m (hb z).h a0C (a0c hs2)) (a0c hs)) (by decide) (by decide) (a0c hs) (by rw [a0c hs2];rfl),fun C G σ H env n' R Q hK hT S hp k=>?_⟩;refine h2 C G σ H env n' _ _ hK hT S hp fun x env1 n1 v H1 p1 S1 r1 f1=>?_;unfold wIsi at p1
 have fin:∀t,TyOf K H1 v (.type t)->tyP x=some t->t∈["NoneType","bool","int","str","tuple","list","dict"]->∃x' n'' t' b',[v,V.ty n]=[x',.ty n'']/\TyOf K H1 x' t'/\x2H K t' (.type n'')=some b'/\Q (.bl b') H1:=by
   intro t ty e m;rw [e] at p1;exact⟨v,n,_,_,rfl,ty,b0u m hn,k _ _ _ _ _ p1 S1 rfl f1⟩
 cases x with
 | non=>cases(show v=.non from r1);exact fin _ .non rfl (by decide)
 | bl b=>cases(show v=.bl b from r1);exact fin _ (.bl b) rfl (by decide)
 | int b=>cases(show v=.int b from r1);exact fin _ (.int b) rfl (by decide)
 | str b=>cases(show v=.str b from r1);exact fin _ (.str b) rfl (by decide)
 | tup xs=>obtain⟨a,vs,rfl,t,r⟩:=r1;exact fin _ (.tup t.2) rfl (by decide)
 | lst xs=>obtain⟨a,vs,rfl,t,r⟩:=r1;exact fin _ (.lst t.2) rfl (by decide)
 | dct ks xs=>obtain⟨a,kvs,rfl,_,t,r⟩:=r1;exact fin _ (.dK t) rfl (by decide)
 | ty n=>exact p1.elim
 | pot k=>exact p1.elim
 | scr ns=>exact p1.elim
def wMin:w2:=fun x y R=>match x,y with | .int i,.int j=>R (.int (if j < i then j else i)) | _,_=>False
def wMax:w2:=fun x y R=>match x,y with | .int i,.int j=>R (.int (if j > i then j else i)) | _,_=>False
theorem a8S {K:x0a}{r:List V->Hp->VK->Prop}{w:w2}{t u:TE}(hw:W2 K (fun x y H Q=>r [x,y] H Q) w)(h:EOk K T t pa)(h':EOk K T u pb):EOk K T (tCB r (a3e t (a3e u tNil))) (qOp w pa pb):=fun C G σ H env n R Q hK hT S hp k=>by
 refine h C G σ H env n _ _ hK hT S hp fun x env1 n1 v H1 p1 S1 r1 f1=>?_;refine h' C G σ H1 env1 n1 _ _ hK hT S1 p1 fun y env2 n2 u H2 p2 S2 r2 f2=>?_;exact hw G H2 x y v u _ _ (fun p hp=>S2.fresh hp) (.inl (r1.fr f2)) (.inl r2) p2 fun z v' H' rz s rv=>k _ _ _ _ _ rz (S2.same s) rv ((f1.trans f2).trans (Fr.of s))
theorem a8L {p:Pos}(hc:∀z,(F z).calm=true)(hg:∀z,Gl (F z) "min")(hm:∀z,(F z).mg "min"=none)(ha:QE T K F a pa)(hb:QE T K F b pb)(hs:a0r a=true:=by rfl)(hs2:a0r b=true:=by rfl):QE T K F (.Call (.Name "min" p) [a,b] [] pos) (qOp wMin pa pb):=by
 obtain⟨t,h1,h2⟩:=ha;obtain⟨u,h3,h4⟩:=hb;refine⟨_,fun z=>a1e (a7u (hc z)) (hg z) (hm z) bt_min (a0m (h1 z) (a0m (h3 z) a0C (a0c hs2)) (a0c hs)) (by decide) (by decide) (a0c hs) (by rw [a0c hs2];rfl),a8S (fun G H x y v u R Q hf rx ry hw k=>?_) h2 h4⟩;unfold wMin at hw
 split at hw
 · exact⟨_,_,by rw [rx.int,ry.int],k _ _ _ hw (Same.refl _) rfl⟩
 · exact hw.elim
theorem qe_max {p:Pos}(hc:∀z,(F z).calm=true)(hg:∀z,Gl (F z) "max")(hm:∀z,(F z).mg "max"=none)(ha:QE T K F a pa)(hb:QE T K F b pb)(hs:a0r a=true:=by rfl)(hs2:a0r b=true:=by rfl):QE T K F (.Call (.Name "max" p) [a,b] [] pos) (qOp wMax pa pb):=by
 obtain⟨t,h1,h2⟩:=ha;obtain⟨u,h3,h4⟩:=hb;refine⟨_,fun z=>a1e (a7v (hc z)) (hg z) (hm z) bt_max (a0m (h1 z) (a0m (h3 z) a0C (a0c hs2)) (a0c hs)) (by decide) (by decide) (a0c hs) (by rw [a0c hs2];rfl),a8S (fun G H x y v u R Q hf rx ry hw k=>?_) h2 h4⟩;unfold wMax at hw
 split at hw
 · exact⟨_,_,by rw [rx.int,ry.int],k _ _ _ hw (Same.refl _) rfl⟩
 · exact hw.elim
def a0w (K:x0a)(T:PotK)(f:pF):Sp:=fun vs H Q _=>∃(G:Gh) (xs:List PV) (n:Nat) (R:PV->Nat->Prop),(∀p∈G.pots,p∈G.M/\T.at_ G.M H p n)/\(∀a∈G.M,∃o,H a=some o/\MutO o)/\T.has G.pots/\Reps K G H xs vs/\f xs n R/\
 ∀r n' v H',R r n'->Rep K G H' r v->(∀p∈G.pots,T.at_ G.M H' p n')->(∀b o,b∉G.pots->H b=some o->H' b=some o)->Q v H'
def a1g (f:pF)(pa:pA):pE:=fun env n R=>pa env n fun xs env1 n1=>f xs n1 fun r n2=>R r env1 n2
theorem SR.call {C:Ct}{G:Gh}{σ:St}{H H':Hp}{env:Env}{n n':Nat}(S:SR C G σ H env n)(hk:∀b o,b∉G.pots->H b=some o->H' b=some o)(hp:∀p∈G.pots,C.T.at_ G.M H' p n'):SR C G σ H' env n' where
 frame b o hb e:=by
   by_cases hp:b∈G.pots
   · -- a pot that is new since the entry has no old object
     obtain⟨l,el,_⟩:=S.pre;rw [el] at hp;rcases x1c.mp hp with z | z
     · exact absurd z hb
     · have hM:=(S.pots b (by rw [el];exact hp)).1;rcases S.sub b hM with z2 | z2
       · exact(S.newp b (by rw [el];exact hp) hb z2).elim
       · rw [z2] at e;cases e
   · exact hk b o hp (S.frame b o hb e)
 sub:=S.sub
 sup:=S.sup
 pots p h:=⟨(S.pots p h).1,hp p h⟩
 pre:=S.pre
 mu a ha:=by
   by_cases h:a∈G.pots
   · exact C.T.mu (hp a h)
   · obtain⟨o,e,m⟩:=S.mu a ha;exact⟨o,hk a o h e,m⟩
 slots i x e:=by
   have f:Fr G H H':=fun b o hb he=>hk b o (fun z=>hb (S.pots b z).1) he;have:=S.slots i x e;cases x with
   | v x =>
     obtain⟨v,e1,r⟩:=this;exact⟨v,e1,r.fr f⟩
   | ow kk xs =>
     obtain⟨a,vs,e1,h1,h2,h3,h4,r⟩:=this;exact⟨a,vs,e1,h1,h2,h3,hk _ _ h3 h4,r.fr f⟩
 inj:=S.inj
 p0:=S.p0
 len:=S.len
 newp:=S.newp
theorem a1p {x:Str}{p:Pos}{f:pF}{ps:List Str}{k j:Nat}(hG:∀z,Kn (F z).prog (F z).w (F z).K (F z).mg (F z).base x k ps (a0w K T f))(hr:∀z,Room j (F z).A)(hk:k<=j)(hg:∀z,Gl (F z) x)(ha:QA T K F (e::es) pl)(hdb:(x == ("__debug__":Str))=false:=by decide)
   (hs:a0r e=true:=by rfl) (hpl:∀z,(backTo pos (x0P es (F z).env)).any (·.1)=false:=by intro _;rfl):QE T K F (.Call (.Name x p) (e::es) [] pos) (a1g f pl):=by
 obtain⟨t,h1,h2⟩:=ha;refine⟨_,fun z=>pe_fn (hG z) (hr z) hk (hg z) (h1 z) hdb (a0c hs) (hpl z),fun C G σ H env n R Q hK hT S hp k=>?_⟩;refine h2 C G σ H env n _ _ hK hT S hp fun xs env1 n1 vs H1 p1 S1 r1 f1=>?_;subst hT;rw [x1e];refine⟨G,xs,n1,_,fun p hp=>S1.pots p hp,S1.mu,S1.hasG,r1,p1,fun r n' v H' rr rv hp hk'=>?_⟩;exact k _ _ _ _ _ rr (S1.call hk' hp) rv (f1.trans fun b o hb e=>hk' b o (fun z=>hb (S1.pots b z).1) e)
end
end Pu
end
section
namespace Pu
open PySem PySem.Spec L2
abbrev pG:=PV->Env->(Env->Prop)->Prop
abbrev pGs:=List PV->Env->(Env->Prop)->Prop
def GOk (K:x0a)(g:TG)(pg:pG):Prop:=∀(C:Ct) (G:Gh) (σ:St) (H:Hp) (env:Env) (n:Nat) (x:PV) (v:V) (R:Env->Prop) (Q:St->Hp->Prop),C.K=K->SR C G σ H env n->Rep K G H x v->pg x env R->
 (∀env' σ',R env'->SR C G σ' H env' n->Q σ' H)->g v σ H Q
def GsOk (K:x0a)(g:TGs)(pg:pGs):Prop:=∀(C:Ct) (G:Gh) (σ:St) (H:Hp) (env:Env) (n:Nat) (x:List PV) (v:List V) (R:Env->Prop) (Q:St->Hp->Prop),C.K=K->SR C G σ H env n->Reps K G H x v->pg x env R->
 (∀env' σ',R env'->SR C G σ' H env' n->Q σ' H)->g v σ H Q
def QG {ι:Type}(K:x0a)(F:ι->Cx)(e:Expr)(pg:pG):Prop:=∃g,(∀z,PG (F z) e g)/\GOk K g pg
def QGs {ι:Type}(K:x0a)(F:ι->Cx)(e:List Expr)(pg:pGs):Prop:=∃g,(∀z,PGs (F z) e g)/\GsOk K g pg
def gN (i:Nat):pG:=fun x env R=>R (env.set i (some (.v x)))
def gNl:pGs:=fun xs env R=>match xs with | []=>R env | _=>False
def gCn (g:pG)(r:pGs):pGs:=fun xs env R=>match xs with | x::xs=>g x env fun env1=>r xs env1 R | []=>False
def gTp (k:Nat)(g:pGs):pG:=fun x env R=>match x with | .tup xs=>xs.length=k/\g xs env R | _=>False
theorem SR.set {C:Ct}{G:Gh}{σ:St}{H:Hp}{env:Env}{n:Nat}(S:SR C G σ H env n)(i:Nat){x:PV}{v:V}(r:Rep C.K G H x v):SR C G (σ.set i (some v)) H (env.set i (some (.v x))) n where
 frame:=S.frame
 sub:=S.sub
 sup:=S.sup
 pots:=S.pots
 pre:=S.pre
 mu:=S.mu
 slots j s e:=by
   by_cases h:i=j
   · subst h
     by_cases hl:i < env.length
     · rw [x0m hl] at e;cases e;exact⟨v,by rw [x0m (by rw [<- S.len];exact hl)],r⟩
     · rw [x0B (by rw [x0w];omega)] at e;cases e
   · rw [x0r h] at e ⊢;exact S.slots j s e
 inj j k xs ys a e1 e2 e3 e4:=by
   have nj:∀(j:Nat) (xs:OK×List PV),(env.set i (some (.v x)))[j]?=some (some (Slot.ow xs.1 xs.2))->i≠j:=by
     intro j xs e h;subst h
     by_cases hl:i < env.length
     · rw [x0m hl] at e;cases e
     · rw [x0B (by rw [x0w];omega)] at e;cases e
   have n1:=nj j xs e1;have n2:=nj k ys e2;rw [x0r n1] at e1 e3;rw [x0r n2] at e2 e4;exact S.inj j k xs ys a e1 e2 e3 e4
 p0:=S.p0
 len:=by rw [x0w,x0w];exact S.len
 newp:=S.newp
section
variable {T:PotK}{ι:Type}{K:x0a}{F:ι->Cx}{e a b c:Expr}{es rest:List Expr}{pe pa pb pc:pE}{pos:Pos}{pl pr:pA}{pg:pG}{pgs:pGs}{pt:pT}
theorem a0A {X:Cx}(i:Nat){x:Str}{pos:Pos}(hN:X.N.Nodup)(hi:X.N[i]?=some x)(hx:Loc X.env.scope x)(hf:X.fn x=true\/X.env.scope.names.lookup x=some .local:=by first | exact .inl rfl | exact .inr rfl | assumption):GW X (.Name x pos) (a1S i):=⟨b0c hN hi hx hf⟩
theorem a0z {i:Nat}{x:Str}(h:∀z,GW (F z) (.Name x pos) (a1S i)):QG K F (.Name x pos) (gN i):=⟨_,fun z=>(h z).h,fun C G σ H env n x v R Q hK S r hp k=>k _ _ hp (S.set i (hK▸r))⟩
theorem a6x:QGs K F [] gNl:=⟨_,fun _=>a6N,fun C G σ H env n x v R Q hK S r hp k=>by
 cases x with
 | nil=>exact⟨r,k _ _ hp S⟩
 | cons _ _=>exact hp.elim⟩
theorem a2q (h1:QG K F e pg)(h2:QGs K F es pgs)(hs:∀z,(x1h (e::es) (F z).env).map (·.2)=assign e (F z).env::(x1h es (F z).env).map (·.2):=by intro _;rfl):QGs K F (e::es) (gCn pg pgs):=by
 obtain⟨g,a1,a2⟩:=h1;obtain⟨gs,b1,b2⟩:=h2;refine⟨_,fun z=>a3p (a1 z) (b1 z) (hs z),fun C G σ H env n x v R Q hK S r hp k=>?_⟩;cases x with
 | nil=>exact hp.elim
 | cons x xs =>
   obtain⟨u,us,rfl,ru,rs⟩:=r;exact⟨u,us,rfl,a2 C G σ H env n x u _ _ hK S ru hp fun env' σ' re S'=>b2 C G σ' H env' n xs us _ _ hK S' rs re k⟩
theorem a8K {m:Nat}{k:Nat}(hc:∀z,(F z).calm=true)(h:QGs K F es pgs)(hn:∀z,(x1h es (F z).env).length=m:=by intro _;rfl)(hst:∀z,(x1h es (F z).env).findIdx? (·.1)=none:=by intro _;rfl)(hK:∀z,(F z).K=K:=by intro _;rfl):QG K F (.Tuple es k pos) (gTp m pgs):=by
 obtain⟨g,a1,a2⟩:=h;refine⟨_,fun z=>hK z▸a8N (hc z) (a1 z) (hn z) (hst z),fun C G σ H env n x v R Q hK S r hp k=>?_⟩;cases x with
 | tup xs =>
   obtain⟨a,vs,rfl,t,rs⟩:=r;exact⟨a,vs,rfl,t.sq,by rw [<- rs.length];exact hp.1,a2 C G σ H env n xs vs _ _ hK S rs hp.2 k⟩
 | _=>exact hp.elim
def ItR (K:x0a)(G:Gh)(H:Hp)(J:It)(xs:List PV):Prop:=∀(G2:Gh) (H2:Hp),(∀b o,b∉G.M->H b=some o->H2 b=some o)->(∀a∈G2.M,a∈G.M\/H a=none)->(∀(k:Nat) (p:Addr),G.pots[k]?=some p->G2.pots[k]?=some p)->(∀p,H2 p=none->p∉G2.M)->
 (∀(i:Nat) x,xs[i]?=some x->J.go i H2/\∀v H3,J.yld i H2 v H3->Same H2 H3/\Rep K G2 H3 x v)/\∀i,xs.length<=i->J.stop i H2
def IOk (K:x0a)(T:PotK)(wi:TI)(pi:pA):Prop:=∀(C:Ct) (G:Gh) (σ:St) (H:Hp) (env:Env) (n:Nat) (R:List PV->Env->Nat->Prop) (Q:It->Hp->Prop),C.K=K->C.T=T->SR C G σ H env n->pi env n R->
 (∀xs env' n' J H',R xs env' n'->SR C G σ H' env' n'->Fr G H H'->ItR K G H' J xs->Q J H')->wi σ H Q
def QI {ι:Type}(T:PotK)(K:x0a)(F:ι->Cx)(tg iter:Expr)(pi:pA):Prop:=∃wi,(∀z,PI (F z) tg iter wi)/\IOk K T wi pi
variable {tg:Expr}
variable {D:Addr}{us:List V}{J:It}
theorem a8m {K:x0a}{G:Gh}{H:Hp}{a:Addr}{xs:List PV}{vs:List V}(t:AtL G.M H a vs)(r:Reps K G H xs vs):ItR K G H (Itl K a) xs:=by
 intro G2 H2 hk hM hp hf;have hq:SqL K H2 a vs:=SqL.of (hk a _ t.1 t.2);have r2:Reps K G2 H2 xs vs:=Reps.mono hk hM hp _ _ r;refine⟨fun i x e=>?_,fun i hi=>⟨vs,hq,by rw [<- r.length];exact hi⟩⟩;obtain⟨v,ev,rv⟩:=r2.get' e;refine⟨⟨vs,v,hq,ev⟩,fun v' H3 y=>?_⟩;obtain⟨e3,y⟩:=y;subst e3;have:=y vs hq;rw [ev] at this;cases this;exact⟨Same.refl _,rv⟩
theorem b0w {K:x0a}{G:Gh}{H:Hp}{a:Addr}{xs:List PV}{vs:List V}(t:AtT G.M H a vs)(r:Reps K G H xs vs):ItR K G H (Itt K a) xs:=by
 intro G2 H2 hk hM hp hf;have hq:SqT K H2 a vs:=SqT.of (hk a _ t.1 t.2);have r2:Reps K G2 H2 xs vs:=Reps.mono hk hM hp _ _ r;refine⟨fun i x e=>?_,fun i hi=>⟨vs,hq,by rw [<- r.length];exact hi⟩⟩;obtain⟨v,ev,rv⟩:=r2.get' e;refine⟨⟨vs,v,hq,ev⟩,fun v' H3 y=>?_⟩;obtain⟨e3,y⟩:=y;subst e3;have:=y vs hq;rw [ev] at this;cases this;exact⟨Same.refl _,rv⟩
def qIl (pe:pE):pA:=fun env n R=>pe env n fun x env1 n1=>match x with | .lst xs=>R xs env1 n1 | _=>False
def qIt (pe:pE):pA:=fun env n R=>pe env n fun x env1 n1=>match x with | .tup xs=>R xs env1 n1 | _=>False
theorem a3l (h:QE T K F e pe)(hK:∀z,(F z).K=K:=by intro _;rfl):QI T K F tg e (qIl pe):=by
 obtain⟨t,h1,h2⟩:=h;refine⟨_,fun z=>hK z▸b0b (h1 z),fun C G σ H env n R Q hK hT S hp k=>?_⟩;refine h2 C G σ H env n _ _ hK hT S hp fun x env1 n1 v H1 p1 S1 r1 f1=>?_;cases x with
 | lst xs =>
   obtain⟨a,vs,rfl,t,r⟩:=r1;exact⟨a,rfl,⟨vs,t.sq⟩,k _ _ _ _ _ p1 S1 f1 (a8m t r)⟩
 | _=>exact p1.elim
theorem a8J (h:QE T K F e pe)(hK:∀z,(F z).K=K:=by intro _;rfl):QI T K F tg e (qIt pe):=by
 obtain⟨t,h1,h2⟩:=h;refine⟨_,fun z=>hK z▸pi_tup (h1 z),fun C G σ H env n R Q hK hT S hp k=>?_⟩;refine h2 C G σ H env n _ _ hK hT S hp fun x env1 n1 v H1 p1 S1 r1 f1=>?_;cases x with
 | tup xs =>
   obtain⟨a,vs,rfl,t,r⟩:=r1;exact⟨a,rfl,⟨vs,t.sq⟩,k _ _ _ _ _ p1 S1 f1 (b0w t r)⟩
 | _=>exact p1.elim
theorem a3V {K:x0a}{G:Gh}{H:Hp}(lo:Int)(m:Nat):ItR K G H (Itr lo m) ((x0g m).map fun(k:Nat)=>PV.int (lo + k)):=by
 intro G2 H2 hk hM hp hf;refine⟨fun i x e=>?_,fun i hi=>(show m<=i by simpa using hi)⟩;rw [x0p] at e;cases e1:(x0g m)[i]? with
 | none=>rw [e1] at e;cases e
 | some j =>
   rw [e1] at e;cases e;obtain⟨hi,e2⟩:=x0n.mp e1;rw [List.getElem_range] at e2;subst e2;refine⟨(show i < m by simpa using hi),fun v H3 y=>?_⟩;obtain⟨e3,y⟩:=y;subst e3 y;exact⟨Same.refl _,rfl⟩
def a3L (pe:pE):pA:=fun env n R=>pe env n fun x env1 n1=>match x with | .int j=>(-1000000<=j/\j<=1000000)/\R ((x0g j.toNat).map fun(k:Nat)=>PV.int (0 + k)) env1 n1 | _=>False
theorem a1j {p:Pos}(hg:∀z,Gl (F z) "range")(hm:∀z,(F z).mg "range"=none)(h:QE T K F e pe)(hs:a0r e=true:=by rfl):QI T K F tg (.Call (.Name "range" p) [e] [] pos) (a3L pe):=by
 obtain⟨t,h1,h2⟩:=h;refine⟨_,fun z=>a6M (hg z) (hm z) (a0m (h1 z) a0C (a0c hs)) (by rw [a0c hs];rfl),fun C G σ H env n R Q hK hT S hp k=>?_⟩;refine a6R (pe:=pe) (fun C G σ H env n R Q hK hT S hp k=>h2 C G σ H env n R Q hK hT S hp fun x env' n' v H' r S' rp f=>k x env' n' v H' r S' (.inl (hK▸rp)) f) hK hT S hp fun x env1 n1 v H1 p1 S1 r1 f1=>?_;cases x with
 | int j=>exact⟨j,by rw [(r1.rd S1).int],by omega,by omega,k _ _ _ _ _ p1.2 S1 f1 (a3V 0 _)⟩
 | _=>exact p1.elim
def a7V (pa pb:pE):pA:=fun env n R=>pa env n fun x env1 n1=>pb env1 n1 fun y env2 n2=>match x,y with | .int i,.int j=>(-1000000<=i/\i<=1000000/\-1000000<=j/\j<=1000000)/\R ((x0g (j - i).toNat).map fun(k:Nat)=>PV.int (i + k)) env2 n2 | _,_=>False
theorem a3K {p:Pos}(hg:∀z,Gl (F z) "range")(hm:∀z,(F z).mg "range"=none)(ha:QE T K F a pa)(hb:QE T K F b pb)(hs:a0r a=true:=by rfl)(hs2:a0r b=true:=by rfl):QI T K F tg (.Call (.Name "range" p) [a,b] [] pos) (a7V pa pb):=by
 obtain⟨t,h1,h2⟩:=ha;obtain⟨u,h3,h4⟩:=hb;refine⟨_,fun z=>a6L (hg z) (hm z) (a0m (h1 z) (a0m (h3 z) a0C (a0c hs2)) (a0c hs)) (by rw [a0c hs,a0c hs2];rfl) (by rw [a0c hs2];rfl),fun C G σ H env n R Q hK hT S hp k=>?_⟩;refine h2 C G σ H env n _ _ hK hT S hp fun x env1 n1 v H1 p1 S1 r1 f1=>?_;refine h4 C G σ H1 env1 n1 _ _ hK hT S1 p1 fun y env2 n2 w H2 p2 S2 r2 f2=>?_;cases x with
 | int i =>
   cases y with
   | int j=>exact⟨i,j,by rw [show v=.int i from r1,show w=.int j from r2],⟨by omega,by omega,by omega,by omega⟩,k _ _ _ _ _ p2.2 S2 (f1.trans f2) (a3V i _)⟩
   | _=>exact p2.elim
 | _=>exact p2.elim
def a4D (xs:List PV):List PV:=xs.zipIdx.map fun y=>.tup [.int (y.2:Nat),y.1]
theorem a3Y {xs:List PV}{i:Nat}{x:PV}(h:(a4D xs)[i]?=some x):∃y,xs[i]?=some y/\x=.tup [.int (i:Nat),y]:=by
 unfold a4D at h;rw [x0p,List.getElem?_zipIdx] at h;cases e:xs[i]? with
 | none=>rw [e] at h;cases h
 | some y =>
   rw [e] at h;cases h;exact⟨y,rfl,by simp⟩
theorem a7o (xs:List PV):(a4D xs).length=xs.length:=by unfold a4D;simp
def capS:Option (Option Slot)->Option Slot
 | some (some (.v x))=>some (.v x)
 | _=>none
def capV (cs:List (Option Nat))(env:Env):Env:=cs.map fun o=>o.bind fun j=>capS (env[j]?)
def a5P (g:pG)(tt:pT)(te:pE):List PV->Env->Nat->(List PV->Nat->Prop)->Prop
 | [],_,n,R=>R [] n
 | x::xs,env,n,R=>g x env fun env1=>tt env1 n fun b env2 n2=>if b=true then te env2 n2 fun y env3 n3=>a5P g tt te xs env3 n3 fun ys n4=>R (y::ys) n4 else a5P g tt te xs env2 n2 R
def qTru:pT:=fun env n R=>R true env n
def a9Q (cs:List (Option Nat))(pi:pA)(g:pG)(tt:pT)(te:pE):pA:=fun env n R=>pi env n fun xs env1 n1=>xs.length<=1000000/\a5P g tt te xs (capV cs env1) n1 fun ys n2=>R ys env1 n2
structure Inn (K:x0a)(T:PotK)(G:Gh)(σ:St)(H:Hp)(env:Env)(n:Nat):Prop where
 pots:∀p∈G.pots,p∈G.M/\T.at_ G.M H p n
 has:T.has G.pots
 mu:∀a∈G.M,∃o,H a=some o/\MutO o
 slots:∀(i:Nat) (s:Slot),env[i]?=some (some s)->∃x v,s=.v x/\σ[i]?=some (some v)/\Rep K G H x v
 len:env.length=σ.length
theorem Inn.sr {K:x0a}{T:PotK}{G:Gh}{σ:St}{H:Hp}{env:Env}{n:Nat}(I:Inn K T G σ H env n):SR ⟨K,T,G.M,G.pots,H,false⟩ G σ H env n where
 frame b o _ e:=e
 sub a ha:=.inl ha
 sup a ha:=ha
 pots:=I.pots
 pre:=⟨[],by simp,.inl rfl⟩
 mu:=I.mu
 slots i s e:=by
   obtain⟨x,v,rfl,ev,r⟩:=I.slots i s e;exact⟨v,ev,r⟩
 inj i j xs ys a e1:=by
   obtain⟨x,v,z,_⟩:=I.slots i _ e1;cases z
 p0:=⟨fun p hp=>(I.pots p hp).1,I.has⟩
 len:=I.len
 newp p hp hn:=absurd hp hn
theorem SR.inn {K:x0a}{T:PotK}{G:Gh}{σ:St}{H H0:Hp}{env:Env}{n:Nat}(S:SR ⟨K,T,G.M,G.pots,H0,false⟩ G σ H env n):Inn K T G σ H env n where
 pots:=S.pots
 has:=S.hasG
 mu:=S.mu
 slots i s e:=by
   cases s with
   | v x =>
     obtain⟨v,ev,r⟩:=S.slots i _ e;exact⟨x,v,rfl,ev,r⟩
   | ow kk xs =>
     obtain⟨a,vs,ev,h1,h2,_⟩:=S.slots i _ e;exact absurd h1 h2
 len:=S.len
theorem a9m {K:x0a}:TOk K T tTru qTru:=fun C G σ H env n R Q hK hT S hp k=>k _ _ _ _ hp S Fr.refl
structure CI (K:x0a)(T:PotK)(G:Gh)(H1:Hp)(D:Addr)(σ:St)(H:Hp)(env:Env)(n:Nat)(acc:List PV)(us:List V):Prop where
 inn:Inn K T ⟨D::G.M,G.pots⟩ σ H env n
 kp:∀b o,b∉G.pots->H1 b=some o->H b=some o
 eD:H D=some (.lst us)
 ra:Reps K ⟨D::G.M,G.pots⟩ H acc us
theorem CI.start {K:x0a}{T:PotK}{G:Gh}{H1:Hp}{σ:St}{env:Env}{n:Nat}(hD:H1 D=none)(I0:Inn K T G σ H1 env n):CI K T G H1 D σ (upd H1 D (.lst [])) env n [] []:=by
 have lay:∀b o,H1 b=some o->upd H1 D (.lst []) b=some o:=fun b o e=>Same.lay1 hD b o e;have new:∀a,a∈D::G.M->a∈G.M\/H1 a=none:=fun a ha=>(x0q.mp ha).elim (fun z=>.inr (z▸hD)) .inl;refine⟨⟨fun p hp=>⟨x0c _ (I0.pots p hp).1,?_⟩,I0.has,fun a ha=>?_,fun i s e=>?_,I0.len⟩,fun b o _ e=>lay b o e,a0n,rfl⟩
 · have h1:=T.more (M':=D::G.M) (I0.pots p hp).2 new;obtain⟨o,e,_⟩:=T.mu h1;exact T.keep h1 (by rw [e,lay p o e]) fun b o _ e=>lay b o e
 · rcases x0q.mp ha with rfl | ha
   · exact⟨_,a0n,trivial⟩
   · obtain⟨o,e,m⟩:=I0.mu a ha;exact⟨o,lay a o e,m⟩
 · obtain⟨x,v,rfl,ev,r⟩:=I0.slots i s e;exact⟨x,v,rfl,ev,Rep.mono (G':=⟨D::G.M,G.pots⟩) (fun b o _ e=>lay b o e) new (fun _ _ e=>e) _ _ r⟩
theorem CI.go {K:x0a}{T:PotK}{G:Gh}{H1:Hp}{σ σ':St}{H H':Hp}{env env':Env}{n n':Nat}{acc:List PV}(c:CI K T G H1 D σ H env n acc us)(nD:D∉G.pots)(S:SR ⟨K,T,D::G.M,G.pots,H,false⟩ ⟨D::G.M,G.pots⟩ σ' H' env' n'):CI K T G H1 D σ' H' env' n' acc us:=
 ⟨S.inn,fun b o hb e=>S.frame b o hb (c.kp b o hb e),S.frame D _ nD c.eD,Reps.mono (fun b o hb e=>S.frame b o (fun z=>hb (c.inn.pots b z).1) e) (fun a ha=>.inl ha) (fun _ _ e=>e) _ _ c.ra⟩
theorem CI.fD {G:Gh}{H:Hp}(o:HO):Fr ⟨D::G.M,G.pots⟩ H (upd H D o):=fun b u hb e=>by
 rw [a0j (fun z=>hb (by rw [z];exact x0f))];exact e
theorem CI.add {K:x0a}{T:PotK}{G:Gh}{H1:Hp}{σ:St}{H:Hp}{env:Env}{n:Nat}{acc:List PV}{y:PV}{u:V}(c:CI K T G H1 D σ H env n acc us)(nD:D∉G.pots)(hD:H1 D=none)(r:Rep K ⟨D::G.M,G.pots⟩ H y u):CI K T G H1 D σ (upd H D (.lst (us++[u]))) env n (acc++[y]) (us++[u]):=by
 refine⟨⟨fun p hp=>⟨(c.inn.pots p hp).1,T.keep (c.inn.pots p hp).2 (a0j fun z=>nD (by rw [<- z];exact hp)) (CI.fD _)⟩,c.inn.has,fun a ha=>?_,fun q s e=>?_,c.inn.len⟩,fun b o hb e=>?_,a0n,(c.ra.append (.one r)).fr (CI.fD _)⟩
 · by_cases haD:a=D
   · subst haD;exact⟨_,a0n,trivial⟩
   · rw [a0j haD];exact c.inn.mu a ha
 · obtain⟨x,v,rfl,ev,r⟩:=c.inn.slots q s e;exact⟨x,v,rfl,ev,r.fr (CI.fD _)⟩
 · rw [a0j (fun z=>by rw [z,hD] at e;cases e)];exact c.kp b o hb e
theorem CI.it {K:x0a}{T:PotK}{G:Gh}{H1:Hp}{σ:St}{H:Hp}{env:Env}{n:Nat}{acc:List PV}{xs:List PV}(c:CI K T G H1 D σ H env n acc us)(hD:H1 D=none)(hJ:ItR K G H1 J xs):(∀(i:Nat) x,xs[i]?=some x->J.go i H/\∀v H3,J.yld i H v H3->Same H H3/\Rep K ⟨D::G.M,G.pots⟩ H3 x v)/\∀i,xs.length<=i->J.stop i H:=
 hJ ⟨D::G.M,G.pots⟩ H (fun b o hb e=>by
   by_cases z:b∈G.pots
   · obtain⟨h1,_⟩:=c.inn.pots b z;rcases x0q.mp h1 with rfl | h1
     · rw [hD] at e;cases e
     · exact absurd h1 hb
   · exact c.kp b o z e) (fun a ha=>(x0q.mp (show a∈D::G.M from ha)).elim (fun z=>.inr (z▸hD)) .inl) (fun _ _ e=>e) fun p hp=>c.inn.sr.fresh hp
theorem b0H {K:x0a}{T:PotK}{g:TG}{tt:TT}{te:TE}{pg:pG}{ptt:pT}{pte:pE}(hg:GOk K g pg)(ht:TOk K T tt ptt)(he:EOk K T te pte){G:Gh}{H1:Hp}{xs:List PV}(hJ:ItR K G H1 J xs)(hl:xs.length<=1000000)
   {σc:St} {env:Env} {n:Nat} {R:List PV->Nat->Prop} {Q:VK}  (hD:H1 D=none) (I0:Inn K T G σc H1 env n) (hp:a5P pg ptt pte xs env n R)
   (hQ:∀ys n' us H',R ys n'->(∀p∈G.pots,T.at_ (D::G.M) H' p n')->(∀b o,b∉G.pots->H1 b=some o->H' b=some o)->H' D=some (.lst us)->Reps K ⟨D::G.M,G.pots⟩ H' ys us->Q (.ref D) H') :
   CompW J g tt te Q D σc (upd H1 D (.lst [])):=by
 have nD:D∉G.pots:=fun z=>I0.sr.fresh hD (I0.pots D z).1;refine⟨fun i m σ H=>m=xs.length - i/\i<=xs.length/\∃env n acc us,CI K T G H1 D σ H env n acc us/\acc.length<=i/\a5P pg ptt pte (xs.drop i) env n fun ys n'=>R (acc++ys) n',⟨xs.length,rfl,x1s _,env,n,[],[],.start hD I0,x0s _,hp⟩,?_⟩;rintro i m σ H ⟨rfl,hi,env,n,acc,us,c,la,hc⟩;obtain⟨hgo,hstop⟩:=c.it hD hJ
 by_cases hlt:i < xs.length
 · obtain⟨g1,g2⟩:=hgo i _ (x0k hlt);refine .inr ⟨g1,fun v H2 y=>?_⟩;obtain⟨s2,rv⟩:=g2 v H2 y;rw [x1n hlt] at hc;refine hg _ _ σ H2 env n xs[i] v _ _ rfl (c.inn.sr.same s2) rv hc fun env1 σ1 hc1 S2=>?_;refine ht _ _ σ1 H2 env1 n _ _ rfl rfl S2 hc1 fun b env2 n2 H4 hc2 S4 f4=>?_;cases b with
   | false=>exact⟨xs.length - (i + 1),x1M _ _ hlt,rfl,hlt,env2,n2,acc,us,c.go nD S4,Nat.le_succ_of_le la,hc2⟩
   | true =>
     refine he _ _ σ1 H4 env2 n2 _ _ rfl rfl S4 hc2 fun y env3 n3 u H5 hc3 S5 r5 f5=>?_;have c5:=c.go nD S5;refine⟨us,c5.eD,by rw [<- c.ra.length];exact mil' (by omega),xs.length - (i + 1),x1M _ _ hlt,rfl,hlt,env3,n3,acc++[y],us++[u],c5.add nD hD r5,by rw [x0l,x1H];omega,?_⟩;simp only [x1R];exact hc3
 · obtain rfl:i=xs.length:=Nat.le_antisymm hi (x2O hlt);refine .inl ⟨hstop _ (x0s _),?_⟩;rw [x2P] at hc;have hc':R (acc++[]) n:=hc;rw [x1e] at hc';exact hQ _ n us H hc' (fun p hp=>(c.inn.pots p hp).2) c.kp c.eD c.ra
end
end Pu
end
section
namespace Pu
open PySem PySem.Spec L2
section
variable {T:PotK}{ι:Type}{K:x0a}{F:ι->Cx}{e a b c:Expr}{es rest:List Expr}{pe pa pb pc:pE}{pos:Pos}{pl pr:pA}{pg:pG}{pgs:pGs}{pt:pT}
def QIf {ι:Type}(T:PotK)(K:x0a)(F:ι->Cx)(ifs:List Expr)(pt:pT):Prop:=∃t,(∀z,PIf (F z) ifs t)/\TOk K T t pt
theorem a4q:QIf T K F [] qTru:=⟨_,fun _=>b0a,a9m⟩
theorem a4H {C:Ct}{G:Gh}{σ:St}{H:Hp}{env:Env}{n:Nat}(S:SR C G σ H env n)(cs:List (Option Nat)):Inn C.K C.T G (a5R cs σ) H (capV cs env) n where
 pots:=S.pots
 has:=S.hasG
 mu:=S.mu
 len:=by simp [capV,a5R]
 slots i s e:=by
   unfold capV at e;rw [x0p] at e;cases ec:cs[i]? with
   | none=>rw [ec] at e;cases e
   | some o =>
     rw [ec] at e;cases o with
     | none=>cases e
     | some j =>
       have e':capS (env[j]?)=some s:=by simpa using e
       unfold capS at e'
       split at e'
       · rename_i x ex;cases e';obtain⟨v,ev,r⟩:=S.slots j _ ex;refine⟨x,v,rfl,?_,r⟩;unfold a5R;rw [x0p,ec];simp [ev]
       · cases e'
def cutH (H:Hp)(D:Addr):Hp:=fun b=>if b=D then none else H b
theorem a0I {H:Hp}{D b:Addr}(h:b≠D):cutH H D b=H b:=if_neg h
theorem a3c {H:Hp}{D:Addr}{o:HO}(h:H D=some o):upd (cutH H D) D o=H:=by
 funext b
 by_cases hb:b=D
 · subst hb;rw [a0n,h]
 · rw [a0j hb,a0I hb]
theorem a9K {scope:Scope}{cl:ι->List (Str×Addr)}{N:List Str}{cs:List (Option Nat)}{elt tg iter:Expr}{ifs:List Expr}{pi:pA}{ptt:pT}{pte:pE}(S:∀z,a0N (F z) scope (cl z) N cs)(hc:∀z,(F z).calm=true)(hi:QI T K F tg iter pi)
   (hg:QG K (fun y:ι×List Addr×Addr×Shared×Hp=>a0l (F y.1) scope (cl y.1) N y.2.1 y.2.2.1 y.2.2.2.1 y.2.2.2.2) tg pg) (ht:QIf T K (fun y:ι×List Addr×Addr×Shared×Hp=>a0l (F y.1) scope (cl y.1) N y.2.1 y.2.2.1 y.2.2.2.1 y.2.2.2.2) ifs ptt)
   (he:QE T K (fun y:ι×List Addr×Addr×Shared×Hp=>a0l (F y.1) scope (cl y.1) N y.2.1 y.2.2.1 y.2.2.2.1 y.2.2.2.2) elt pte)
   (hs:∀z x,x0G iter (F z).env x=pure x:=by intro _ _;rfl):QN T K F (.ListComp elt [⟨tg,iter,ifs,0⟩] scope pos) (a9Q cs pi pg ptt pte):=by
 obtain⟨wi,i1,i2⟩:=hi;obtain⟨g,hg0,hg⟩:=hg;obtain⟨tt,ht0,ht⟩:=ht;obtain⟨te,he0,he⟩:=he;refine⟨_,fun z=>b0e (S z) (hc z) (i1 z) (fun fp C s H=>⟨hg0 (z,fp,C,s,H),ht0 (z,fp,C,s,H),he0 (z,fp,C,s,H)⟩) (hs z),fun C G σ H env n R Q hK hT S hp k=>?_⟩;refine i2 C G σ H env n _ _ hK hT S hp fun xs env1 n1 J H1 p1 S1 f1 hJ=>?_;intro D hD;have hDM:=S1.fresh hD;refine b0H (G:=G) hg ht he hJ p1.1 hD (hT▸hK▸a4H S1 cs) p1.2 fun ys n2 us H' rr hpots hk eD ry=>?_
 -- the heap without D
 have nD:∀b o,H1 b=some o->b≠D:=fun b o e z=>by rw [z,hD] at e;cases e
 have hD0:C.H0 D=none:=by
   cases z:C.H0 D with
   | none=>rfl
   | some o =>
     by_cases hp:D∈C.pots0
     · exact absurd (S1.sup D (S1.p0.1 D hp)) hDM
     · have:=S1.frame D o hp z;rw [hD] at this;cases this
 have hk2:∀b o,b∉G.pots->H1 b=some o->cutH H' D b=some o:=fun b o hb e=>by rw [a0I (nD b o e)];exact hk b o hb e
 have nc:∀b,b∉D::G.M->b≠D:=fun b hb z=>hb (by rw [z];exact x0f);have np:∀p∈G.pots,p≠D:=fun p hp z=>hDM (z▸(S1.pots p hp).1)
 have Sb:SR C G σ (cutH H' D) env1 n2:=S1.call hk2 fun p hp=>by
   subst hT;have h2:=C.T.keep (hpots p hp) (H':=cutH H' D) (a0I (np p hp)) fun b o hb e=>by rw [a0I (nc b hb)];exact e
   exact C.T.more h2 fun a ha=>.inl (x0c _ ha)
 have:=k ys env1 n2 D us (cutH H' D) rr Sb (f1.trans fun b o hb e=>hk2 b o (fun z=>hb (S1.pots b z).1) e) (by unfold cutH;rw [if_pos rfl]) ?_
 · rw [a3c eD] at this;exact this
 · exact Reps.mono (G:=⟨D::G.M,G.pots⟩) (fun b o hb e=>by rw [a0I (nc b hb)];exact e) (fun a ha=>.inl (x0c _ ha)) (fun _ _ e=>e) _ _ ry
end
end Pu
end
section
namespace Pu
open PySem PySem.Spec L2
structure a5V where
 nx:Env->Nat->Prop
 rt:PV->Nat->Prop
 bk:Env->Nat->Prop:=fun _ _=>False
 ct:Env->Nat->Prop:=fun _ _=>False
abbrev pS:=a5V->Env->Nat->Prop
structure Ext (G:Gh)(H:Hp)(G':Gh)(H':Hp):Prop where
 keep:∀b o,b∉G.M->H b=some o->H' b=some o
 new:∀a∈G'.M,a∈G.M\/H a=none
 pot:∀(k:Nat) (p:Addr),G.pots[k]?=some p->G'.pots[k]?=some p
theorem Ext.refl {G:Gh}{H:Hp}:Ext G H G H:=⟨fun _ _ _ e=>e,fun _ h=>.inl h,fun _ _ e=>e⟩
theorem Ext.fr {G:Gh}{H H':Hp}(f:Fr G H H'):Ext G H G H':=⟨f,fun _ h=>.inl h,fun _ _ e=>e⟩
theorem Ext.trans {G G1 G2:Gh}{H H1 H2:Hp}(a:Ext G H G1 H1)(b:Ext G1 H1 G2 H2):Ext G H G2 H2 where
 keep c o hc e:=b.keep c o (fun z=>(a.new c z).elim hc fun z=>by rw [z] at e;cases e) (a.keep c o hc e)
 new c hc:=(b.new c hc).elim (fun z=>a.new c z) fun z=>by
   by_cases hM:c∈G.M
   · exact .inl hM
   · refine .inr ?_;cases e:H c with
     | none=>rfl
     | some o=>rw [a.keep c o hM e] at z;cases z
 pot k p e:=b.pot k p (a.pot k p e)
structure Link (C:Ct)(G:Gh)(H:Hp)(PD:a5V)(D:Ends):Prop where
 nx:∀env n G' σ H',PD.nx env n->SR C G' σ H' env n->Ext G H G' H'->D.nx σ H'
 rt:∀x n v G' σ H' env,PD.rt x n->SR C G' σ H' env n->Rep C.K ⟨C.M0,G'.pots⟩ H' x v->Ext G H G' H'->D.rt v H'
 bk:∀env n G' σ H',PD.bk env n->SR C G' σ H' env n->Ext G H G' H'->D.bk σ H'
 ct:∀env n G' σ H',PD.ct env n->SR C G' σ H' env n->Ext G H G' H'->D.ct σ H'
theorem Link.ext {C:Ct}{G G':Gh}{H H':Hp}{PD:a5V}{D:Ends}(L:Link C G H PD D)(x:Ext G H G' H'):Link C G' H' PD D:=
 ⟨fun env n G2 σ H2 p S e=>L.nx env n G2 σ H2 p S (x.trans e),fun y n v G2 σ H2 env p S r e=>L.rt y n v G2 σ H2 env p S r (x.trans e),fun env n G2 σ H2 p S e=>L.bk env n G2 σ H2 p S (x.trans e),fun env n G2 σ H2 p S e=>L.ct env n G2 σ H2 p S (x.trans e)⟩
def SOk (K:x0a)(T:PotK)(np:Bool)(t:TS)(ps:pS):Prop:=∀(C:Ct) (G:Gh) (σ:St) (H:Hp) (env:Env) (n:Nat) (PD:a5V) (D:Ends),C.K=K->C.T=T->C.np=np->SR C G σ H env n->ps PD env n->Link C G H PD D->t D σ H
def QS {ι:Type}(T:PotK)(np:Bool)(K:x0a)(F:ι->Cx)(st:Stmt)(ps:pS):Prop:=∃t,(∀z,PS (F z) st t)/\SOk K T np t ps
def QSs {ι:Type}(T:PotK)(np:Bool)(K:x0a)(F:ι->Cx)(st:List Stmt)(ps:pS):Prop:=∃t,(∀z,PSs (F z) st t)/\SOk K T np t ps
theorem SR.out {C:Ct}{G:Gh}{σ:St}{H:Hp}{env:Env}{n:Nat}(S:SR C G σ H env n){x:PV}{v:V}(r:Rep C.K G H x v):Rep C.K ⟨C.M0,G.pots⟩ H x v:=
 Rep.mono (G':=⟨C.M0,G.pots⟩) (fun _ _ _ e=>e) (fun a ha=>.inl (S.sup a ha)) (fun _ _ e=>e) _ _ r
theorem SR.old {C:Ct}{G:Gh}{σ:St}{H:Hp}{env:Env}{n:Nat}(S:SR C G σ H env n){a:Addr}(h:H a=none):C.H0 a=none:=by
 cases z:C.H0 a with
 | none=>rfl
 | some o =>
   by_cases hp:a∈C.pots0
   · exact absurd (S.sup a (S.p0.1 a hp)) (S.fresh h)
   · have:=S.frame a o hp z;rw [h] at this;cases this
theorem SR.moreO {C:Ct}{G:Gh}{σ:St}{H:Hp}{env:Env}{n:Nat}(S:SR C G σ H env n){a:Addr}{ob:HO}(mo:MutO ob)(h:H a=none):SR C ⟨a::G.M,G.pots⟩ σ (upd H a ob) env n where
 frame b o hb e:=Same.lay1 h b o (S.frame b o hb e)
 sub b hb:=(x0q.mp hb).elim (fun z=>.inr (z▸S.old h)) (S.sub b)
 sup b hb:=x0c _ (S.sup b hb)
 pots p hp:=⟨x0c _ (S.pots p hp).1,by
   have h1:=C.T.more (M':=a::G.M) (S.pots p hp).2 (fun c hc=>(x0q.mp hc).elim (fun z=>.inr (z▸h)) .inl);obtain⟨o,e,_⟩:=C.T.mu h1
   exact C.T.keep h1 (by rw [e,Same.lay1 h p o e]) fun b o _ e=>Same.lay1 h b o e⟩
 pre:=S.pre
 mu b hb:=by
   rcases x0q.mp hb with rfl | hb
   · exact⟨_,a0n,mo⟩
   · obtain⟨o,e,m⟩:=S.mu b hb;exact⟨o,Same.lay1 h b o e,m⟩
 slots i s e:=by
   have mm:∀{x:PV} {v:V},Rep C.K G H x v->Rep C.K ⟨a::G.M,G.pots⟩ (upd H a ob) x v:=fun r=>Rep.mono (G':=⟨a::G.M,G.pots⟩) (H':=upd H a ob) (fun b o _ e=>Same.lay1 h b o e) (fun c hc=>(x0q.mp (show c∈a::G.M from hc)).elim (fun z=>.inr (z▸h)) .inl) (fun _ _ e=>e) _ _ r;have:=S.slots i s e;cases s with
   | v x =>
     obtain⟨v,e1,r⟩:=this;exact⟨v,e1,mm r⟩
   | ow kk xs =>
     obtain⟨b,us,e1,h1,h2,h3,h4,r⟩:=this;exact⟨b,us,e1,x0c _ h1,h2,h3,Same.lay1 h _ _ h4,Reps.mono (G':=⟨a::G.M,G.pots⟩) (H':=upd H a ob) (fun b o _ e=>Same.lay1 h b o e) (fun c hc=>(x0q.mp (show c∈a::G.M from hc)).elim (fun z=>.inr (z▸h)) .inl) (fun _ _ e=>e) _ _ r⟩
 inj:=S.inj
 p0:=S.p0
 len:=S.len
 newp:=S.newp
theorem SR.more {C:Ct}{G:Gh}{σ:St}{H:Hp}{env:Env}{n:Nat}(S:SR C G σ H env n){a:Addr}{vs:List V}(h:H a=none):SR C ⟨a::G.M,G.pots⟩ σ (upd H a (.lst vs)) env n:=S.moreO (ob:=.lst vs) trivial h
theorem SR.ow {C:Ct}{G:Gh}{σ:St}{H:Hp}{env:Env}{n:Nat}(S:SR C G σ H env n)(i:Nat)(kk:OK){a:Addr}{xs:List PV}{vs:List V}(h:H a=none)(r:Reps C.K G H xs vs) :
   SR C ⟨a::G.M,G.pots⟩ (σ.set i (some (.ref a))) (upd H a (mkO kk vs)) (env.set i (some (.ow kk xs))) n:=by
 have S1:=S.moreO (a6Y kk vs) h;have aM:a∉G.M:=S.fresh h;have r1:Reps C.K ⟨a::G.M,G.pots⟩ (upd H a (mkO kk vs)) xs vs:=Reps.mono (G':=⟨a::G.M,G.pots⟩) (H':=upd H a (mkO kk vs)) (fun b o _ e=>Same.lay1 h b o e) (fun c hc=>(x0q.mp (show c∈a::G.M from hc)).elim (fun z=>.inr (z▸h)) .inl) (fun _ _ e=>e) _ _ r
 have other:∀(j:Nat) (ys:OK×List PV),env[j]?=some (some (Slot.ow ys.1 ys.2))->σ[j]?≠some (some (.ref a)):=by
   intro j ys e z;obtain⟨b,us,e1,h1,_⟩:=S.slots j _ e;rw [z] at e1;cases e1;exact aM h1
 exact {
   frame:=S1.frame
   sub:=S1.sub
   sup:=S1.sup
   pots:=S1.pots
   pre:=S1.pre
   mu:=S1.mu
   slots:=fun j s e=>by
     by_cases hj:i=j
     · subst hj
       by_cases hl:i < env.length
       · rw [x0m hl] at e;cases e;exact⟨a,vs,by rw [x0m (by rw [<- S.len];exact hl)],x0f,fun z=>aM (S.sup a z),fun z=>aM (S.pots a z).1,a0n,r1⟩
       · rw [x0B (by rw [x0w];omega)] at e;cases e
     · rw [x0r hj] at e ⊢;exact S1.slots j s e
   inj:=fun j k xs' ys b e1 e2 e3 e4=>by
     by_cases hj:i=j
     · by_cases hk:i=k
       · omega
       · subst hj;rw [x0r hk] at e2 e4
         by_cases hl:i < σ.length
         · rw [x0m hl] at e3;cases e3;exact absurd e4 (other k ys e2)
         · rw [x0B (by rw [x0w];omega)] at e3;cases e3
     · rw [x0r hj] at e1 e3
       by_cases hk:i=k
       · subst hk
         by_cases hl:i < σ.length
         · rw [x0m hl] at e4;cases e4;exact absurd e3 (other j xs' e1)
         · rw [x0B (by rw [x0w];omega)] at e4;cases e4
       · rw [x0r hk] at e2 e4;exact S.inj j k xs' ys b e1 e2 e3 e4
   p0:=S.p0
   len:=by rw [x0w,x0w];exact S.len
   newp:=S.newp }
theorem SR.own {C:Ct}{G:Gh}{σ:St}{H:Hp}{env:Env}{n:Nat}(S:SR C G σ H env n)(i:Nat){a:Addr}{xs:List PV}{vs:List V}(h:H a=none)(r:Reps C.K G H xs vs) :
   SR C ⟨a::G.M,G.pots⟩ (σ.set i (some (.ref a))) (upd H a (.lst vs)) (env.set i (some (.ow .lst xs))) n:=S.ow i .lst h r
theorem SR.putO {C:Ct}{G:Gh}{σ:St}{H:Hp}{env:Env}{n:Nat}(S:SR C G σ H env n){i:Nat}{kk:OK}(k':OK){a:Addr}{xs ys:List PV}{vs:List V}(e:env[i]?=some (some (.ow kk xs)))(ea:σ[i]?=some (some (.ref a)))(r:Reps C.K G H ys vs) :
   SR C G σ (upd H a (mkO k' vs)) (env.set i (some (.ow k' ys))) n/\Fr G H (upd H a (mkO k' vs)):=by
 obtain⟨a',us,ea',aM,a0,ap,eH,_⟩:=S.slots i _ e;rw [ea] at ea';cases ea';have f:Fr G H (upd H a (mkO k' vs)):=fun b o hb he=>by rw [a0j (fun z=>hb (by rw [z];exact aM))];exact he
 refine⟨{
   frame:=fun b o hb he=>?_
   sub:=S.sub
   sup:=S.sup
   pots:=fun p hp=>⟨(S.pots p hp).1,C.T.keep (S.pots p hp).2 (a0j fun z=>ap (by rw [<- z];exact hp)) f⟩
   pre:=S.pre
   mu:=fun b hb=>?_
   slots:=fun j s es=>?_
   inj:=fun j k xs' ys' b e1 e2 e3 e4=>?_
   p0:=S.p0
   len:=by rw [x0w];exact S.len
   newp:=S.newp },f⟩
 · have hb2:b≠a:=fun z=>by
     rcases S.sub a aM with z2 | z2
     · exact a0 z2
     · rw [z,z2] at he;cases he
   rw [a0j hb2];exact S.frame b o hb he
 · by_cases hba:b=a
   · subst hba;exact⟨_,a0n,a6Y k' vs⟩
   · obtain⟨o,he,m⟩:=S.mu b hb;exact⟨o,by rw [a0j hba];exact he,m⟩
 · by_cases hj:i=j
   · subst hj;have hl:i < env.length:=(x0n.mp e).1;rw [x0m hl] at es;cases es;exact⟨a,vs,ea,aM,a0,ap,a0n,r.fr f⟩
   · rw [x0r hj] at es;have:=S.slots j s es;cases s with
     | v x =>
       obtain⟨v,e1,r⟩:=this;exact⟨v,e1,r.fr f⟩
     | ow kz zs =>
       obtain⟨b,us',e1,h1,h2,h3,h4,r⟩:=this;have hba:b≠a:=fun z=>hj (S.inj i j (kk,xs) (kz,zs) a e es ea (by rw [e1,z]));exact⟨b,us',e1,h1,h2,h3,by rw [a0j hba];exact h4,r.fr f⟩
 · have back:∀(j:Nat) (zs:OK×List PV),(env.set i (some (.ow k' ys)))[j]?=some (some (Slot.ow zs.1 zs.2))->∃zs':OK×List PV,env[j]?=some (some (.ow zs'.1 zs'.2)):=by
     intro j zs h
     by_cases hj:i=j
     · subst hj;exact⟨(kk,xs),e⟩
     · rw [x0r hj] at h;exact⟨zs,h⟩
   obtain⟨z1,e1'⟩:=back j xs' e1;obtain⟨z2,e2'⟩:=back k ys' e2;exact S.inj j k z1 z2 b e1' e2' e3 e4
theorem SR.put {C:Ct}{G:Gh}{σ:St}{H:Hp}{env:Env}{n:Nat}(S:SR C G σ H env n){i:Nat}{a:Addr}{xs ys:List PV}{vs:List V}(e:env[i]?=some (some (.ow .lst xs)))(ea:σ[i]?=some (some (.ref a)))(r:Reps C.K G H ys vs) :
   SR C G σ (upd H a (.lst vs)) (env.set i (some (.ow .lst ys))) n/\Fr G H (upd H a (.lst vs)):=S.putO .lst e ea r
section
variable {T:PotK}{np:Bool}{ι:Type}{K:x0a}{F:ι->Cx}{e a b c:Expr}{es:List Expr}{st:Stmt}{rest:List Stmt}{pe pa pb pc:pE}{pos:Pos}{pl pr:pA}{pg:pG}{pt:pT}{p1 p2:pS}
def qNx:pS:=fun D env n=>D.nx env n
def qSeq (p q:pS):pS:=fun D env n=>p { D with nx:=fun e m=>q D e m } env n
theorem a2v:QSs T np K F [] qNx:=⟨_,fun _=>a4u,fun C G σ H env n PD D hK hT hn S hp L=>L.nx _ _ _ _ _ hp S Ext.refl⟩
theorem a0p (h:QS T np K F st p1):QSs T np K F [st] p1:=let ⟨t,h1,h2⟩:=h;⟨t,fun z=>a2y (h1 z),h2⟩
theorem a0g (h:QS T np K F st p1)(h':QSs T np K F rest p2):QSs T np K F (st::rest) (qSeq p1 p2):=by
 obtain⟨t,a1,a2⟩:=h;obtain⟨u,b1,b2⟩:=h';refine⟨_,fun z=>a0D (a1 z) (b1 z),fun C G σ H env n PD D hK hT hn S hp L=>?_⟩;refine a2 C G σ H env n _ _ hK hT hn S hp ⟨fun env1 n1 G1 σ1 H1 q1 S1 x1=>?_,L.rt,L.bk,L.ct⟩;exact b2 C G1 σ1 H1 env1 n1 PD D hK hT hn S1 q1 (L.ext x1)
theorem a0F {X:Cx}{i:Nat}{x:Str}{e:Expr}{pos' pos:Pos}(hN:X.N.Nodup)(hi:X.N[i]?=some x)(hx:Loc X.env.scope x)(hs:x3i e (some (.Name x pos')) pos.line X.env=pure false:=by rfl)(hf:X.fn x=true\/X.env.scope.names.lookup x=some .local:=by first | exact .inl rfl | exact .inr rfl | assumption)(te:TE)(h:EW X e te):SW X (.Assign [.Name x pos'] e pos) (tAsg te (a1S i)):=⟨a2z hN hi hx h.h hs hf⟩
theorem sw_asg {X:Cx}{tg e:Expr}{pos:Pos}(hs:x2q [tg] e pos.line X.env=pure false:=by rfl)(hw:x2r [tg] e X.env=pure none:=by rfl)(h1:(x1h [tg] X.env).map (·.2)=[assign tg X.env]:=by rfl)(te:TE)(g:TG)(h:EW X e te)(hg:GW X tg g):SW X (.Assign [tg] e pos) (tAsg te g):=⟨a4W h.h hg.h hs hw h1⟩
theorem a1m {X:Cx}{e:Expr}{pos:Pos}(hs:x3i e none pos.line X.env=pure false:=by rfl)(te:TE)(h:EW X e te):SW X (.Expr e pos) (a9s te):=⟨a9X h.h hs⟩
def qSet (i:Nat)(pe:pE):pS:=fun D env n=>pe env n fun x env1 n1=>D.nx (env1.set i (some (.v x))) n1
theorem a1z (i:Nat)(h:∀z te,EW (F z) e te->SW (F z) st (tAsg te (a1S i)))(he:QE T K F e pe):QS T np K F st (qSet i pe):=by
 obtain⟨t,a1,a2⟩:=he;refine⟨_,fun z=>(h z _ ⟨a1 z⟩).h,fun C G σ H env n PD D hK hT hn S hp L=>?_⟩;refine a2 C G σ H env n _ _ hK hT S hp fun x env1 n1 v H1 q1 S1 r1 f1=>?_;exact L.nx _ _ _ _ _ q1 (S1.set i (hK▸r1)) (Ext.fr f1)
def qOwn (i:Nat)(pn:pA):pS:=fun D env n=>pn env n fun xs env1 n1=>D.nx (env1.set i (some (.ow .lst xs))) n1
theorem a1I {G:Gh}{H:Hp}{a:Addr}{o:HO}(h:H a=none):Ext G H ⟨a::G.M,G.pots⟩ (upd H a o):=⟨fun b u _ e=>Same.lay1 h b u e,fun c hc=>(x0q.mp (show c∈a::G.M from hc)).elim (fun z=>.inr (z▸h)) .inl,fun _ _ e=>e⟩
theorem a3J (i:Nat)(h:∀z te,EW (F z) e te->SW (F z) st (tAsg te (a1S i)))(he:QN T K F e pl):QS T np K F st (qOwn i pl):=by
 obtain⟨t,a1,a2⟩:=he;refine⟨_,fun z=>(h z _ ⟨a1 z⟩).h,fun C G σ H env n PD D hK hT hn S hp L=>?_⟩;refine a2 C G σ H env n _ _ hK hT S hp fun xs env1 n1 a vs Hb q1 S1 f1 hn1 r1=>?_;exact L.nx _ _ _ _ _ q1 (S1.own i hn1 (hK▸r1)) ((Ext.fr f1).trans (a1I hn1))
def a2x (pe:pE):pS:=fun D env n=>pe env n fun _ env1 n1=>D.nx env1 n1
theorem a1o (h:∀z te,EW (F z) e te->SW (F z) st (a9s te))(he:QE T K F e pe):QS T np K F st (a2x pe):=by
 obtain⟨t,a1,a2⟩:=he;refine⟨_,fun z=>(h z _ ⟨a1 z⟩).h,fun C G σ H env n PD D hK hT hn S hp L=>?_⟩;exact a2 C G σ H env n _ _ hK hT S hp fun x env1 n1 v H1 q1 S1 r1 f1=>L.nx _ _ _ _ _ q1 S1 (Ext.fr f1)
def qRet (pe:pE):pS:=fun D env n=>pe env n fun x _ n1=>D.rt x n1
theorem a1A (he:QE T K F e pe):QS T np K F (.Return (some e) pos) (qRet pe):=by
 obtain⟨t,a1,a2⟩:=he;refine⟨_,fun z=>a3N (a1 z),fun C G σ H env n PD D hK hT hn S hp L=>?_⟩;exact a2 C G σ H env n _ _ hK hT S hp fun x env1 n1 v H1 q1 S1 r1 f1=>L.rt _ _ _ _ _ _ _ q1 S1 (S1.out (hK▸r1)) (Ext.fr f1)
def a6C (i:Nat):pS:=fun D env n=>match env[i]? with | some (some (.ow .lst xs))=>D.rt (.lst xs) n | _=>False
theorem a6t (i:Nat){x:Str}{p:Pos}(h:∀z,EW (F z) (.Name x p) (tVar i)):QS T np K F (.Return (some (.Name x p)) pos) (a6C i):=by
 refine⟨_,fun z=>a3N (h z).h,fun C G σ H env n PD D hK hT hn S hp L=>?_⟩;unfold a6C at hp
 split at hp
 · rename_i xs ex;obtain⟨a,vs,ev,h1,h2,h3,h4,r⟩:=S.slots i _ ex;refine⟨.ref a,ev,L.rt _ _ _ _ _ _ _ hp S ⟨a,vs,rfl,⟨h2,h4⟩,?_⟩ Ext.refl⟩;exact Reps.mono (G':=⟨C.M0,G.pots⟩) (fun _ _ _ e=>e) (fun a ha=>.inl (S.sup a ha)) (fun _ _ e=>e) _ _ r
 · exact hp.elim
def qIfS (t:pT)(p q:pS):pS:=fun D env n=>t env n fun b env1 n1=>if b=true then p D env1 n1 else q D env1 n1
theorem a6v {x y:List Stmt}(hc:QT T K F c pt)(h1:QSs T np K F x p1)(h2:QSs T np K F y p2):QS T np K F (.If c x y pos) (qIfS pt p1 p2):=by
 obtain⟨tc,c1,c2⟩:=hc;obtain⟨t,a1,a2⟩:=h1;obtain⟨u,b1,b2⟩:=h2;refine⟨_,fun z=>a9W (c1 z) (a1 z) (b1 z),fun C G σ H env n PD D hK hT hn S hp L=>?_⟩;refine c2 C G σ H env n _ _ hK hT S hp fun d env1 n1 H1 q1 S1 f1=>?_;cases d with
 | true=>exact a2 C G σ H1 env1 n1 PD D hK hT hn S1 q1 (L.ext (Ext.fr f1))
 | false=>exact b2 C G σ H1 env1 n1 PD D hK hT hn S1 q1 (L.ext (Ext.fr f1))
def forL (g:pG)(b:pS)(D:a5V):List PV->Env->Nat->Prop
 | [],env,n=>D.nx env n
 | x::xs,env,n=>g x env fun env1=>b { D with nx:=fun e m=>forL g b D xs e m,ct:=fun e m=>forL g b D xs e m,bk:=D.nx } env1 n
def qFor (pi:pA)(g:pG)(b:pS):pS:=fun D env n=>pi env n fun xs env1 n1=>forL g b D xs env1 n1
theorem a1J {tg iter:Expr}{body:List Stmt}(hc:∀z,(F z).calm=true)(hi:QI T K F tg iter pl)(hg:QG K F tg pg)(hb:QSs T np K F body p1)(hp:∀z,PassesOwn (model (F z).prog (F z).w) (F z).A (F z).env (F z).xe:=by intro _;exact PassesOwn.never)(hs:∀z x,x0G iter (F z).env x=pure x:=by intro _ _;rfl):QS T np K F (.For tg iter body [] pos) (qFor pl pg p1):=by
 obtain⟨wi,i1,i2⟩:=hi;obtain⟨g,g1,g2⟩:=hg;obtain⟨t,b1,b2⟩:=hb;refine⟨_,fun z=>ps_for (hp z) (hc z) (i1 z) (g1 z) (b1 z) (hs z),fun C G σ H env n PD D hK hT hn S hp L=>?_⟩;refine i2 C G σ H env n _ _ hK hT S hp fun xs env1 n1 J H1 q1 S1 f1 hJ=>?_;have L1:=L.ext (Ext.fr f1);refine⟨fun i m σ H=>m=xs.length - i/\i<=xs.length/\∃G' env n,SR C G' σ H env n/\Ext G H1 G' H/\forL pg p1 PD (xs.drop i) env n,⟨xs.length,by simp,x1s _,G,env1,n1,S1,Ext.refl,by simpa using q1⟩,?_⟩;rintro i m σ' H' ⟨rfl,hi,G',env',n',S',x',q'⟩;have hf:∀p,H' p=none->p∉G'.M:=fun p hp=>S'.fresh hp;obtain⟨hgo,hstop⟩:=hJ G' H' x'.keep x'.new x'.pot hf
 by_cases hlt:i < xs.length
 · obtain⟨go1,go2⟩:=hgo i _ (x0k hlt);rw [x1n hlt] at q';refine .inr ⟨go1,fun σ H=>∃G' env n,SR C G' σ H env n/\Ext G H1 G' H/\forL pg p1 PD (xs.drop (i + 1)) env n,fun σ2 H2 h2=>⟨xs.length - (i + 1),by omega,rfl,hlt,h2⟩,fun v H2 y=>?_⟩;obtain⟨s2,rv⟩:=go2 v H2 y;have x2:Ext G' H' G' H2:=Ext.fr (Fr.of s2);refine g2 C G' σ' H2 env' n' _ v _ _ hK (S'.same s2) rv q' fun env2 σ2 q2 S2=>?_;refine b2 C G' σ2 H2 env2 n' _ _ hK hT hn S2 q2 ⟨fun e3 n3 G3 σ3 H3 q3 S3 x3=>?_,fun y n3 v G3 σ3 H3 e3 q3 S3 r3 x3=>?_,fun e3 n3 G3 σ3 H3 q3 S3 x3=>?_,fun e3 n3 G3 σ3 H3 q3 S3 x3=>?_⟩
   · exact⟨G3,e3,n3,S3,(x'.trans x2).trans x3,q3⟩
   · exact L1.rt _ _ _ _ _ _ _ q3 S3 r3 ((x'.trans x2).trans x3)
   · exact L1.nx _ _ _ _ _ q3 S3 ((x'.trans x2).trans x3)
   · exact⟨G3,e3,n3,S3,(x'.trans x2).trans x3,q3⟩
 · have ei:i=xs.length:=by omega
   subst ei;rw [x2P] at q';exact .inl ⟨hstop _ (x0s _),L1.nx _ _ _ _ _ q' S' x'⟩
def a4t (i:Nat)(pe:pE):pE:=fun env n R=>pe env n fun y env1 n1=>match env1[i]? with | some (some (.ow .lst xs))=>xs.length < 1000000/\R .non (env1.set i (some (.ow .lst (xs++[y])))) n1 | _=>False
theorem a0L (i:Nat){x:Str}{p ap:Pos}(hv:∀z,EW (F z) (.Name x p) (tVar i))(he:QE T K F e pe)(hs:a0r e=true:=by rfl)(hbase:∀z,x2S (.Name x p) "append" (F z).env (eval (.Name x p) (F z).env)=eval (.Name x p) (F z).env:=by intro _;rfl)(hline:(ap.endLine == pos.line)=true:=by rfl)
   (hfew:∀z,((backTo pos (x0P [e] (F z).env)).all (fun x=>!x.1) && (backToKw pos (keywordEach [] (F z).env)).all (fun x=>x.1.isSome) && decide (([e]:List Expr).length + ([]:List Keyword).length + (if([]:List Keyword).isEmpty then 0 else 1) < 30))=true:=by intro _;rfl) (hK:∀z,(F z).K=K:=by intro _;rfl):QE T K F (.Call (.Attribute (.Name x p) "append" ap) [e] [] pos) (fun env n R=>(∃xs,env[i]?=some (some (.ow .lst xs)))/\a4t i pe env n R):=by
 obtain⟨t,a1,a2⟩:=he;refine⟨tBM K "list" a6s (tVar i) (a3e t tNil),fun z=>hK z▸pe_bm x2y PySem.F.slot_list_append PySem.F.type_list_append a2E (hv z).h (a0m (a1 z) a0C (a0c hs)) (hbase z) (hfew z) hline (a0c hs),fun C G σ H env n R Q hK hT S hp k=>?_⟩;obtain⟨⟨xs0,e0⟩,hp⟩:=hp;obtain⟨a,vs,ev,h1,h2,h3,h4,r⟩:=S.slots i _ e0;refine⟨.ref a,ev,.inl ⟨rfl,vs,SqL.of h4⟩,?_⟩;refine a2 C G σ H env n _ _ hK hT S hp fun y env1 n1 v H1 q1 S1 r1 f1=>?_
 split at q1
 · rename_i xs ex;obtain⟨a',us,ev',g1,g2,g3,g4,r'⟩:=S1.slots i _ ex;rw [ev] at ev';cases ev';subst hK;obtain⟨S2,f2⟩:=S1.put ex ev (r'.append (.one r1));exact⟨a,us,v,rfl,rfl,g4,by rw [<- r'.length];exact mil' (by omega),k _ _ _ _ _ q1.2 S2 rfl (f1.trans f2)⟩
 · exact q1.elim
def qPop (i:Nat):pE:=fun env n R=>match env[i]? with | some (some (.ow .lst xs))=>(match xs[xs.length - 1]? with | some y=>R y (env.set i (some (.ow .lst xs.dropLast))) n | none=>False) | _=>False
theorem a3j {K:x0a}{G:Gh}{H:Hp}{xs:List PV}{vs:List V}(r:Reps K G H xs vs):Reps K G H xs.dropLast vs.dropLast:=by
 rw [List.dropLast_eq_take,List.dropLast_eq_take,<- r.length];exact r.take _
theorem qe_pop (i:Nat){x:Str}{p ap:Pos}(hv:∀z,EW (F z) (.Name x p) (tVar i))(hbase:∀z,x2S (.Name x p) "pop" (F z).env (eval (.Name x p) (F z).env)=eval (.Name x p) (F z).env:=by intro _;rfl)(hline:(ap.endLine == pos.line)=true:=by rfl)(hK:∀z,(F z).K=K:=by intro _;rfl):QE T K F (.Call (.Attribute (.Name x p) "pop" ap) [] [] pos) (qPop i):=by
 refine⟨tBM0 K "list" rPop (tVar i),fun z=>hK z▸pe_bm0 x2y PySem.F.slot_list_pop PySem.F.type_list_pop mt_pop (hv z).h (hbase z) hline,fun C G σ H env n R Q hK hT S hp k=>?_⟩;unfold qPop at hp
 split at hp
 · rename_i xs ex
   split at hp
   · rename_i y ey;obtain⟨a,vs,ev,h1,h2,h3,h4,r⟩:=S.slots i _ ex;obtain⟨v,e1,rv⟩:=r.get' ey;obtain⟨S2,f2⟩:=S.put ex ev (a3j r);subst hK;exact⟨.ref a,ev,.inl ⟨rfl,vs,SqL.of h4⟩,a,vs,v,rfl,rfl,h4,by rw [<- r.length];exact e1,k _ _ _ _ _ hp S2 (rv.fr f2) f2⟩
   · exact hp.elim
 · exact hp.elim
end
end Pu
end
section
namespace Pu
open PySem PySem.Spec L2
abbrev pSl:=Env->Nat->(Slot->Env->Nat->Prop)->Prop
def a7C (σ:St)(env:Env)(a:Addr):Prop:=∃(j:Nat) (ys:OK×List PV),env[j]?=some (some (.ow ys.1 ys.2))/\σ[j]?=some (some (.ref a))
theorem SR.slot {C:Ct}{G:Gh}{σ:St}{H:Hp}{env:Env}{n:Nat}(S:SR C G σ H env n)(i:Nat){s:Slot}{v:V}(r:b0T C G H (some (some v)) s)(h:∀(xs:OK×List PV) a,s=.ow xs.1 xs.2->v=.ref a->¬a7C σ env a):SR C G (σ.set i (some v)) H (env.set i (some s)) n where
 frame:=S.frame
 sub:=S.sub
 sup:=S.sup
 pots:=S.pots
 pre:=S.pre
 mu:=S.mu
 slots j t e:=by
   by_cases hj:i=j
   · subst hj
     by_cases hl:i < env.length
     · rw [x0m hl] at e;cases e;rw [x0m (by rw [<- S.len];exact hl)];exact r
     · rw [x0B (by rw [x0w];omega)] at e;cases e
   · rw [x0r hj] at e ⊢;exact S.slots j t e
 inj j k xs ys b e1 e2 e3 e4:=by
   by_cases hj:i=j
   · by_cases hk:i=k
     · omega
     · subst hj;rw [x0r hk] at e2 e4
       by_cases hl:i < env.length
       · rw [x0m hl] at e1;rw [x0m (by rw [<- S.len];exact hl)] at e3;cases e1;cases e3;exact absurd ⟨k,ys,e2,e4⟩ (h xs b rfl rfl)
       · rw [x0B (by rw [x0w];omega)] at e1;cases e1
   · rw [x0r hj] at e1 e3
     by_cases hk:i=k
     · subst hk
       by_cases hl:i < env.length
       · rw [x0m hl] at e2;rw [x0m (by rw [<- S.len];exact hl)] at e4;cases e2;cases e4;exact absurd ⟨j,xs,e1,e3⟩ (h ys b rfl rfl)
       · rw [x0B (by rw [x0w];omega)] at e2;cases e2
     · rw [x0r hk] at e2 e4;exact S.inj j k xs ys b e1 e2 e3 e4
 p0:=S.p0
 len:=by rw [x0w,x0w];exact S.len
 newp:=S.newp
def Ct.guard (C:Ct)(a:Addr)(vs:List V):Ct:={ C with M0:=a::C.M0,H0:=upd C.H0 a (.lst vs) }
theorem SR.guard {C:Ct}{G:Gh}{σ:St}{H:Hp}{env:Env}{n:Nat}(S:SR C G σ H env n){a:Addr}(vs:List V)(h:H a=none):SR (C.guard a vs) ⟨a::G.M,G.pots⟩ σ (upd H a (.lst vs)) env n:=by
 have S1:=S.more (vs:=vs) h;have aM:=S.fresh h
 exact {
   frame:=fun b o hb e=>by
     by_cases hba:b=a
     · subst hba;have e':upd C.H0 b (.lst vs) b=some o:=e;rw [a0n] at e' ⊢;exact e'
     · have e':upd C.H0 a (.lst vs) b=some o:=e;rw [a0j hba] at e';exact S1.frame b o hb e'
   sub:=fun b hb=>by
     by_cases hba:b=a
     · exact .inl (by rw [hba];exact x0f)
     · rcases S1.sub b hb with z | z
       · exact .inl (x0c _ z)
       · refine .inr ?_;show upd C.H0 a (.lst vs) b=none;rw [a0j hba];exact z
   sup:=fun b hb=>by
     rcases x0q.mp (show b∈a::C.M0 from hb) with rfl | z
     · exact x0f
     · exact S1.sup b z
   pots:=S1.pots
   pre:=S1.pre
   mu:=S1.mu
   slots:=fun i s e=>by
     cases s with
     | v x =>
       obtain⟨v,ev,r⟩:=S1.slots i _ e;exact⟨v,ev,r⟩
     | ow kk xs =>
       obtain⟨b,us,ev,h1,h2,h3,h4,r⟩:=S1.slots i _ e;obtain⟨b',us',ev',g1,_⟩:=S.slots i _ e;rw [ev] at ev';cases ev';refine⟨b,us,ev,h1,fun z=>?_,h3,h4,r⟩;rcases x0q.mp (show b∈a::C.M0 from z) with rfl | z
       · exact aM g1
       · exact h2 z
   inj:=S1.inj
   p0:=⟨fun p hp=>x0c _ (S1.p0.1 p hp),S1.p0.2⟩
   len:=S1.len
   newp:=fun p hp hn hM=>by
     rcases x0q.mp (show p∈a::C.M0 from hM) with rfl | z
     · exact aM (S.pots p hp).1
     · exact S1.newp p hp hn z }
theorem SR.unguard {C:Ct}{G:Gh}{σ:St}{H:Hp}{env:Env}{n:Nat}{a:Addr}{vs:List V}(S:SR (C.guard a vs) G σ H env n)(ha:a∉C.M0)(hp0:∀p∈C.pots0,p∈C.M0)(h0:C.H0 a=none):SR C G σ H env n/\H a=some (.lst vs)/\¬a7C σ env a:=by
 have hap:a∉C.pots0:=fun z=>ha (hp0 a z)
 refine⟨{
   frame:=fun b o hb e=>S.frame b o hb (by
     show upd C.H0 a (.lst vs) b=some o
     rw [a0j (fun z=>by rw [z,h0] at e;cases e)];exact e)
   sub:=fun b hb=>by
     by_cases hba:b=a
     · exact .inr (hba▸h0)
     · rcases S.sub b hb with z | z
       · rcases x0q.mp (show b∈a::C.M0 from z) with z | z
         · exact absurd z hba
         · exact .inl z
       · have z':upd C.H0 a (.lst vs) b=none:=z;rw [a0j hba] at z';exact .inr z'
   sup:=fun b hb=>S.sup b (x0c _ hb)
   pots:=S.pots
   pre:=S.pre
   mu:=S.mu
   slots:=fun i s e=>by
     cases s with
     | v x =>
       obtain⟨v,ev,r⟩:=S.slots i _ e;exact⟨v,ev,r⟩
     | ow kk xs =>
       obtain⟨b,us,ev,h1,h2,h3,h4,r⟩:=S.slots i _ e;exact⟨b,us,ev,h1,fun z=>h2 (x0c _ z),h3,h4,r⟩
   inj:=S.inj
   p0:=⟨hp0,S.p0.2⟩
   len:=S.len
   newp:=fun p hp hn hM=>S.newp p hp hn (x0c _ hM) },S.frame a _ hap a0n,?_⟩
 rintro⟨j,ys,e1,e2⟩;obtain⟨b,us,ev,h1,h2,_⟩:=S.slots j _ e1;rw [e2] at ev;cases ev;exact h2 x0f
def LOk (K:x0a)(T:PotK)(t:TE)(pl:pSl):Prop:=∀(C:Ct) (G:Gh) (σ:St) (H:Hp) (env:Env) (n:Nat) (R:Slot->Env->Nat->Prop) (Q:VK),C.K=K->C.T=T->SR C G σ H env n->pl env n R->
 (∀x env' n' v H',R (.v x) env' n'->SR C G σ H' env' n'->Rep K G H' x v->Fr G H H'->Q v H')->
 (∀xs env' n' a vs Hb,R (.ow .lst xs) env' n'->SR C G σ Hb env' n'->Fr G H Hb->Hb a=none->Reps K G Hb xs vs->Q (.ref a) (upd Hb a (.lst vs)))->t σ H Q
def QL {ι:Type}(T:PotK)(K:x0a)(F:ι->Cx)(e:Expr)(pl:pSl):Prop:=∃t,(∀z,PE (F z) e t)/\LOk K T t pl
def sV (pe:pE):pSl:=fun env n R=>pe env n fun x env1 n1=>R (.v x) env1 n1
def sO (pn:pA):pSl:=fun env n R=>pn env n fun xs env1 n1=>R (.ow .lst xs) env1 n1
section
variable {T:PotK}{np:Bool}{ι:Type}{K:x0a}{F:ι->Cx}{e a b c:Expr}{es:List Expr}{st:Stmt}{rest:List Stmt}{pe pa pb pc:pE}{pos:Pos}{pl pr:pA}{pg:pG}{pt:pT}{p1 p2:pS}{s1 s2 s3:pSl}
variable {i:Nat}{y:Str}{px py:Pos}
theorem ql_v (h:QE T K F e pe):QL T K F e (sV pe):=let ⟨t,h1,h2⟩:=h;⟨t,h1,fun C G σ H env n R Q hK hT S hp k _=>h2 C G σ H env n _ _ hK hT S hp fun x env' n' v H' r S' rp f=>k x env' n' v H' r S' rp f⟩
theorem ql_o (h:QN T K F e pl):QL T K F e (sO pl):=let ⟨t,h1,h2⟩:=h;⟨t,h1,fun C G σ H env n R Q hK hT S hp _ k=>h2 C G σ H env n _ _ hK hT S hp fun xs env' n' a vs Hb r S' f hn rs=>k xs env' n' a vs Hb r S' f hn rs⟩
def Got (C:Ct)(G:Gh)(H:Hp)(σ:St)(env:Env)(s:Slot)(v:V):Prop:=b0T C G H (some (some v)) s/\∀(xs:OK×List PV) a,s=.ow xs.1 xs.2->v=.ref a->¬a7C σ env a
theorem a5d {t:TE}{C:Ct}{G:Gh}{σ:St}{H:Hp}{env:Env}{n:Nat}{R:Slot->Env->Nat->Prop}{Q:VK}(h:LOk K T t s1)(hK:C.K=K)(hT:C.T=T)(S:SR C G σ H env n)(hp:s1 env n R)
   (k:∀s env' n' v G' H',R s env' n'->SR C G' σ H' env' n'->Ext G H G' H'->Got C G' H' σ env' s v->Q v H'):t σ H Q:=by
 refine h C G σ H env n _ _ hK hT S hp (fun x env' n' v H' r S' rp f=>?_) fun xs env' n' a vs Hb r S' f hn rs=>?_
 · exact k _ _ _ _ _ _ r S' (Ext.fr f) ⟨⟨v,rfl,hK▸rp⟩,fun _ _ z=>nomatch z⟩
 · have aM:=S'.fresh hn;have S1:=S'.more (vs:=vs) hn;refine k _ _ _ _ _ _ r S1 ((Ext.fr f).trans (a1I hn)) ⟨⟨a,vs,rfl,x0f,fun z=>aM (S'.sup a z),fun z=>aM (S'.pots a z).1,a0n,?_⟩,fun ys b e1 e2=>?_⟩
   · exact Reps.mono (G':=⟨a::G.M,G.pots⟩) (H':=upd Hb a (.lst vs)) (fun b o _ e=>Same.lay1 hn b o e) (fun c hc=>(x0q.mp (show c∈a::G.M from hc)).elim (fun z=>.inr (z▸hn)) .inl) (fun _ _ e=>e) _ _ (hK▸rs)
   · cases e2;rintro⟨j,zs,z1,z2⟩;obtain⟨b,us,ev,g1,_⟩:=S'.slots j _ z1;rw [z2] at ev;cases ev;exact aM g1
theorem b0A {t u:TE}{C:Ct}{G:Gh}{σ:St}{H:Hp}{env:Env}{n:Nat}{R:Slot->Slot->Env->Nat->Prop}{Q:V->V->Hp->Prop}(h:LOk K T t s1)(h':LOk K T u s2)(hK:C.K=K)(hT:C.T=T)(S:SR C G σ H env n)(hp:s1 env n fun x env1 n1=>s2 env1 n1 fun y env2 n2=>R x y env2 n2)
   (k:∀x y env' n' v w G' H',R x y env' n'->SR C G' σ H' env' n'->Ext G H G' H'->Got C G' H' σ env' x v->Got C G' H' σ env' y w->(∀(xs ys:OK×List PV) a,x=.ow xs.1 xs.2->y=.ow ys.1 ys.2->v=.ref a->w≠.ref a)->Q v w H'):t σ H fun v H1=>u σ H1 fun w H2=>Q v w H2:=by
 refine h C G σ H env n _ _ hK hT S hp (fun x env1 n1 v H1 q1 S1 r1 f1=>?_) fun xs env1 n1 a vs Hb q1 S1 f1 hn rs=>?_
 · refine a5d h' hK hT S1 q1 fun y env2 n2 w G2 H2 q2 S2 x2 g2=>?_;exact k _ _ _ _ _ _ _ _ q2 S2 ((Ext.fr f1).trans x2) ⟨⟨v,rfl,Rep.mono x2.keep x2.new x2.pot _ _ (hK▸r1)⟩,fun _ _ z=>nomatch z⟩ g2 (fun _ _ _ z=>nomatch z)
 · have aM:=S1.fresh hn;have S1g:=S1.guard vs hn;have a0:a∉C.M0:=fun z=>aM (S1.sup a z);have aH:=S1.old hn;have x1:Ext G H ⟨a::G.M,G.pots⟩ (upd Hb a (.lst vs)):=(Ext.fr f1).trans (a1I hn);have r1:Reps C.K ⟨a::G.M,G.pots⟩ (upd Hb a (.lst vs)) xs vs:=Reps.mono (G':=⟨a::G.M,G.pots⟩) (H':=upd Hb a (.lst vs)) (fun b o _ e=>Same.lay1 hn b o e) (fun c hc=>(x0q.mp (show c∈a::G.M from hc)).elim (fun z=>.inr (z▸hn)) .inl) (fun _ _ e=>e) _ _ (hK▸rs);refine a5d (C:=C.guard a vs) h' hK hT S1g q1 fun y env2 n2 w G2 H2 q2 S2 x2 g2=>?_;obtain⟨S3,e3,no⟩:=S2.unguard a0 S1.p0.1 aH;have aM2:a∈G2.M:=S2.sup a x0f
   have ap2:a∉G2.pots:=fun z=>by
     by_cases hz:a∈C.pots0
     · exact a0 (S1.p0.1 a hz)
     · exact S2.newp a z hz x0f
   have gy:Got C G2 H2 σ env2 y w:=by
     refine⟨?_,g2.2⟩;cases y with
     | v x=>exact g2.1
     | ow kk ys =>
       obtain⟨b,us,ev,h1,h2,h3,h4,r⟩:=g2.1;exact⟨b,us,ev,h1,fun z=>h2 (x0c _ z),h3,h4,r⟩
   refine k _ _ _ _ _ _ _ _ q2 S3 (x1.trans x2) ⟨⟨a,vs,rfl,aM2,a0,ap2,e3,Reps.mono x2.keep x2.new x2.pot _ _ r1⟩,fun _ _ _ e=>by cases e;exact no⟩ gy fun xs' ys b ex ey ev ew=>?_;subst ey;cases ev;obtain⟨b,us,ev,h1,h2,_⟩:=g2.1;rw [ew] at ev;cases ev;exact h2 x0f
structure AW (X:Cx)(es:List Expr)(t:TA):Prop where
 h:PA X es t
theorem a6g {X:Cx}{j:Nat}{x:Str}{a b:Expr}{pt:Pos}{kt k2 pt2}{pos:Pos}(hc:X.calm=true)(hN:X.N.Nodup)(hi:X.N[i]?=some x)(hj:X.N[j]?=some y)(hij:i≠j)
   (hx:X.env.scope.names.lookup x=some .local) (hy:X.env.scope.names.lookup y=some .local) (hw:x2r [.Tuple [.Name x px,.Name y py] kt pt] (.Tuple [a,b] k2 pt2) X.env=pure (some [x,y]))
   (hs:x2q [.Tuple [.Name x px,.Name y py] kt pt] (.Tuple [a,b] k2 pt2) pos.line X.env=pure false:=by rfl) (ta:TA) (h:AW X [a,b] ta) :
   SW X (.Assign [.Tuple [.Name x px,.Name y py] kt pt] (.Tuple [a,b] k2 pt2) pos) (tPar i j ta):=⟨ps_par hc hN hi hj hij hx hy h.h hw hs⟩
theorem a9t {X:Cx}{j k:Nat}{x z:Str}{a b c:Expr}{pz pt:Pos}{kt k2 pt2}{pos:Pos}(hc:X.calm=true)(hN:X.N.Nodup)(hi:X.N[i]?=some x)(hj:X.N[j]?=some y)(hk:X.N[k]?=some z)(hij:i≠j)(hik:i≠k)(hjk:j≠k)
   (hx:X.env.scope.names.lookup x=some .local) (hy:X.env.scope.names.lookup y=some .local) (hz:X.env.scope.names.lookup z=some .local) (hw:x2r [.Tuple [.Name x px,.Name y py,.Name z pz] kt pt] (.Tuple [a,b,c] k2 pt2) X.env=pure (some [x,y,z]))
   (hs:x2q [.Tuple [.Name x px,.Name y py,.Name z pz] kt pt] (.Tuple [a,b,c] k2 pt2) pos.line X.env=pure false:=by rfl) (ta:TA) (h:AW X [a,b,c] ta) :
   SW X (.Assign [.Tuple [.Name x px,.Name y py,.Name z pz] kt pt] (.Tuple [a,b,c] k2 pt2) pos) (a9p i j k ta):=⟨a9V hc hN hi hj hk hij hik hjk hx hy hz h.h hw hs⟩
def qPar (i j:Nat)(s1 s2:pSl):pS:=fun D env n=>s1 env n fun a env1 n1=>s2 env1 n1 fun b env2 n2=>D.nx ((env2.set i (some a)).set j (some b)) n2
theorem a6P {σ:St}{env:Env}{s:Slot}{v:V}{a:Addr}(hl:env.length=σ.length)(h:a7C (σ.set i (some v)) (env.set i (some s)) a):a7C σ env a\/((∃xs:OK×List PV,s=.ow xs.1 xs.2)/\v=.ref a):=by
 obtain⟨j,ys,e1,e2⟩:=h
 by_cases hj:i=j
 · subst hj
   by_cases hl':i < env.length
   · rw [x0m hl'] at e1;rw [x0m (by omega)] at e2;cases e1;cases e2;exact .inr ⟨⟨_,rfl⟩,rfl⟩
   · rw [x0B (by rw [x0w];omega)] at e1;cases e1
 · rw [x0r hj] at e1 e2;exact .inl ⟨j,ys,e1,e2⟩
theorem a6u (i j:Nat)(h:∀z ta,AW (F z) [a,b] ta->SW (F z) st (tPar i j ta))(h1:QL T K F a s1)(h2:QL T K F b s2)(n1:a0r a=true:=by rfl)(n2:a0r b=true:=by rfl):QS T np K F st (qPar i j s1 s2):=by
 obtain⟨t,a1,a2⟩:=h1;obtain⟨u,b1,b2⟩:=h2;refine⟨_,fun z=>(h z _ ⟨a0m (a1 z) (a0m (b1 z) a0C (a0c n2)) (a0c n1)⟩).h,fun C G σ H env n PD D hK hT hn S hp L=>?_⟩;refine b0A (Q:=fun v w H2=>∃v' w',[v,w]=[v',w']/\D.nx ((σ.set i (some v')).set j (some w')) H2) a2 b2 hK hT S hp fun x y env2 n2 v w G2 H2 q S2 x2 gx gy ne=>?_;refine⟨v,w,rfl,L.nx _ _ _ _ _ q ((S2.slot i gx.1 gx.2).slot j gy.1 fun ys b e1 e2 z=>?_) x2⟩;rcases a6P S2.len z with z | ⟨⟨xs,ex⟩,ev⟩
 · exact gy.2 ys b e1 e2 z
 · exact ne xs ys b ex e1 ev e2
theorem gw_at {X:Cx}{o ix:Expr}{pos:Pos}(ho:EW X o (tVar i))(ha:∀v,assign (.Subscript o ix pos) X.env v=(do
     let ov ← x3p [v] (eval o X.env)
     let iv ← x3p [v,ov] (eval ix X.env)
     standAt pos
     x3p [v,ov,iv] (setItem ov iv v)
     release [v,ov,iv] []):=by intro _;rfl) (ti:TE) (hi:EW X ix ti):GW X (.Subscript o ix pos) (gSub (tVar i) ti a7O):=⟨a4X ho.h hi.h a2p ha⟩
def gAt (i:Nat)(pe:pE):PV->Env->Nat->(Env->Nat->Prop)->Prop:=fun x env n R=>pe env n fun y env1 n1=>match env1[i]?,y with | some (some (.ow .lst xs)),.int d=>(match ixN xs.length d with | some j=>R (env1.set i (some (.ow .lst (xs.set j x)))) n1 | none=>False) | _,_=>False
def a8p (i:Nat)(env:Env):Env:=match env[i]? with | some (some (.ow .lst xs))=>env.set i (some (.v (.lst xs))) | _=>env
theorem SR.freeze {C:Ct}{G:Gh}{σ:St}{H:Hp}{env:Env}{n:Nat}(S:SR C G σ H env n)(i:Nat):∃G',SR C G' σ H (a8p i env) n/\Ext G H G' H:=by
 unfold a8p
 split
 · rename_i xs ex;obtain⟨a,vs,ev,h1,h2,h3,h4,r⟩:=S.slots i _ ex
   let G':Gh:=⟨G.M.filter (·≠a),G.pots⟩
   have sub:∀b∈G'.M,b∈G.M:=fun b hb=>(x1y.mp hb).1;have mm:∀{x:PV} {v:V},Rep C.K G H x v->Rep C.K G' H x v:=fun r=>Rep.mono (G':=G') (fun _ _ _ e=>e) (fun b hb=>.inl (sub b hb)) (fun _ _ e=>e) _ _ r;have mms:∀{x:List PV} {v:List V},Reps C.K G H x v->Reps C.K G' H x v:=fun r=>Reps.mono (G':=G') (fun _ _ _ e=>e) (fun b hb=>.inl (sub b hb)) (fun _ _ e=>e) _ _ r
   refine⟨G',{
     frame:=S.frame
     sub:=fun b hb=>S.sub b (sub b hb)
     sup:=fun b hb=>x1y.mpr ⟨S.sup b hb,decide_eq_true (show b≠a from fun z=>h2 (by rw [<- z];exact hb))⟩
     pots:=fun p hp=>⟨x1y.mpr ⟨(S.pots p hp).1,decide_eq_true (show p≠a from fun z=>h3 (by rw [<- z];exact hp))⟩,C.T.more (S.pots p hp).2 fun b hb=>.inl (sub b hb)⟩
     pre:=S.pre
     mu:=fun b hb=>S.mu b (sub b hb)
     slots:=fun j s es=>?_
     inj:=fun j k xs' ys b e1 e2 e3 e4=>?_
     p0:=S.p0
     len:=by rw [x0w];exact S.len
     newp:=S.newp },⟨fun _ _ _ e=>e,fun b hb=>.inl (sub b hb),fun _ _ e=>e⟩⟩
   · by_cases hj:i=j
     · subst hj;rw [x0m (x0n.mp ex).1] at es;cases es;exact⟨.ref a,ev,a,vs,rfl,⟨fun z=>by simpa using(x1y.mp z).2,h4⟩,mms r⟩
     · rw [x0r hj] at es;have:=S.slots j s es;cases s with
       | v x =>
         obtain⟨v,e1,r⟩:=this;exact⟨v,e1,mm r⟩
       | ow kz zs =>
         obtain⟨b,us,e1,g1,g2,g3,g4,r⟩:=this;have hba:b≠a:=fun z=>hj (S.inj i j (.lst,xs) (kz,zs) a ex es ev (by rw [e1,z]));exact⟨b,us,e1,x1y.mpr ⟨g1,by simpa using hba⟩,g2,g3,g4,mms r⟩
   · have back:∀(j:Nat) (zs:OK×List PV),(env.set i (some (.v (.lst xs))))[j]?=some (some (Slot.ow zs.1 zs.2))->env[j]?=some (some (.ow zs.1 zs.2)):=by
       intro j zs h
       by_cases hj:i=j
       · subst hj;rw [x0m (x0n.mp ex).1] at h;cases h
       · rw [x0r hj] at h;exact h
     exact S.inj j k xs' ys b (back j _ e1) (back k _ e2) e3 e4
 · exact⟨G,S,Ext.refl⟩
def a4r (i:Nat)(p:pS):pS:=fun D env n=>p D (a8p i env) n
theorem a6w (i:Nat)(h:QS T np K F st p1):QS T np K F st (a4r i p1):=by
 obtain⟨t,a1,a2⟩:=h;refine⟨t,a1,fun C G σ H env n PD D hK hT hn S hp L=>?_⟩;obtain⟨G',S',x'⟩:=S.freeze i;exact a2 C G' σ H _ n PD D hK hT hn S' hp (L.ext x')
end
end Pu
end
section
namespace Pu
open PySem PySem.Spec L2
def a1U (N:List Str)(xs:List PV):Env:=xs.map (fun x=>some (.v x))++List.replicate (N.length - xs.length) none
def fnP (N ps:List Str)(body:pS):pF:=fun xs n R=>xs.length=ps.length/\body ⟨fun _ m=>R .non m,R,fun _ _=>False,fun _ _=>False⟩ (a1U N xs) n
theorem a4P {K:x0a}{T:PotK}{G:Gh}{H:Hp}{n:Nat}{np:Bool}{N:List Str}{xs:List PV}{vs:List V}(hp:∀p∈G.pots,p∈G.M/\T.at_ G.M H p n)(hm:∀a∈G.M,∃o,H a=some o/\MutO o)(hh:T.has G.pots)(r:Reps K G H xs vs) :
   SR ⟨K,T,G.M,G.pots,H,np⟩ G (L2.start N vs) H (a1U N xs) n where
 frame b o _ e:=e
 sub a ha:=.inl ha
 sup a ha:=ha
 pots:=hp
 pre:=⟨[],by simp,.inl rfl⟩
 mu:=hm
 slots i s e:=by
   unfold a1U at e
   by_cases hi:i < xs.length
   · rw [x0F (by simpa using hi),x0p] at e;cases ex:xs[i]? with
     | none=>rw [ex] at e;cases e
     | some x =>
       rw [ex] at e;cases e;obtain⟨v,ev,rv⟩:=r.get' ex;refine⟨v,?_,rv⟩;unfold L2.start;rw [x0F (by rw [x0e,<- r.length];exact hi),x0p,ev]
       rfl
   · rw [x1j (by simpa using hi),x2v] at e
     split at e <;> cases e
 inj i j xs' ys a e1:=by
   exfalso
   unfold a1U at e1
   by_cases hi:i < xs.length
   · rw [x0F (by simpa using hi),x0p] at e1;cases ex:xs[i]? with
     | none=>rw [ex] at e1;cases e1
     | some x=>rw [ex] at e1;cases e1
   · rw [x1j (by simpa using hi),x2v] at e1
     split at e1 <;> cases e1
 p0:=⟨fun p h=>(hp p h).1,hh⟩
 len:=by unfold a1U L2.start;simp [r.length]
 newp p h hn:=absurd h hn
section
variable {P:x0x}{w:World}{K:x0a}{mg:Str->Option Value}{base:Heap}{T:PotK}
theorem bd1 {P:List Value->Prop}(h:∀a,P [a])(us:List Value)(e:us.length=1):P us:=by
 obtain⟨a,rfl⟩:=List.length_eq_one_iff.mp e;exact h a
theorem bdS {n:Nat}{P:List Value->Prop}(h:∀a us,us.length=n->P (a::us))(us:List Value)(e:us.length=n + 1):P us:=by
 obtain⟨a,us,rfl⟩:=List.exists_cons_of_length_eq_add_one e;exact h a us (Nat.succ.inj e)
theorem bd2 {P:List Value->Prop}(h:∀a b,P [a,b])(us:List Value)(e:us.length=2):P us:=bdS (fun a us e=>bd1 (P:=fun us=>P (a::us)) (h a) us e) us e
theorem bd3 {P:List Value->Prop}(h:∀a b c,P [a,b,c])(us:List Value)(e:us.length=3):P us:=bdS (fun a us e=>bd2 (P:=fun us=>P (a::us)) (h a) us e) us e
theorem bd4 {P:List Value->Prop}(h:∀a b c d,P [a,b,c,d])(us:List Value)(e:us.length=4):P us:=bdS (fun a us e=>bd3 (P:=fun us=>P (a::us)) (h a) us e) us e
theorem a3z {x:Str}{st:Stmt}{N ps:List Str}{k:Nat}{body:pS}(F0:Fn0 K mg x st)(sc:a0y N ps (a0i st))
   (bd:∀(kV doc pm:Value) (an:Option Addr) (cdv ct:Value) (us:List Value),us.length=ps.length->bindArgs (x1w x x (a1t st) (a0H st) (a0i st) .none kV doc pm an cdv ct) ⟨us,[]⟩=pure (ps.zip us))
   (h:∀(f:Addr) (cdv:Value) (A:Around) (outer:List PySem.Env) (s:Shared) (H:Hp) (E:XK),Room k (A.deeper (PyProof.Rows.envOfC x (a0i st) s.heap.objs.size f cdv))->
     QSs T false K (fun _:Unit=>(cxOf CX0 P w K mg base N x (a0i st) f cdv A outer s H E).nox) (a0H st) body) :
   Kn P w K mg base x (k + 1) ps (a0w K T (fnP N ps body)):=by
 refine F0.ok sc (fun vs H Q E h=>?_) bd (fun f cdv A outer s H vs Q E hr hsp=>?_)
 · obtain⟨G,xs,n,R,_,_,_,r,hf,_⟩:=h;rw [<- r.length];exact hf.1
 · obtain⟨t,h1,h2⟩:=h f cdv A outer s H E hr;obtain⟨G,xs,n,R,hp,hm,hh,r,hf,k'⟩:=hsp;refine⟨t,h1 (),?_⟩;have S0:=a4P (N:=N) (np:=false) hp hm hh r
   have fin:∀(x:PV) (n':Nat) (v:V) (G':Gh) (σ:St) (H':Hp) (env:Env),R x n'->SR ⟨K,T,G.M,G.pots,H,false⟩ G' σ H' env n'->Rep K ⟨G.M,G'.pots⟩ H' x v->Q v H':=by
     intro x n' v G' σ H' env rr S' rv
     have ep:G'.pots=G.pots:=by
       obtain⟨l,el,hl⟩:=S'.pre;rcases hl with hl | hl
       · rw [el,hl,x1e]
       · cases hl
     rw [ep] at rv;exact k' _ _ _ _ rr rv (fun p hp'=>T.more (S'.pots p (by rw [ep];exact hp')).2 fun a ha=>.inl (S'.sup a ha)) S'.frame
   refine h2 _ G _ H _ n _ _ rfl rfl rfl S0 hf.2 ⟨fun env n' G' σ H' q S' _=>?_,fun x n' v G' σ H' env q S' rv _=>fin x n' v G' σ H' env q S' rv,fun _ _ _ _ _ q=>q.elim,fun _ _ _ _ _ q=>q.elim⟩;exact fin .non n' .non G' σ H' env q S' rfl
theorem law_ok {x:Str}{st:Stmt}{N:List Str}{y:Str}{k:Nat}{body:pS}(F0:Fn0 K mg x st)(sc:a0y N [y] (a0i st))
   (bd:∀(kV doc pm:Value) (an:Option Addr) (cdv ct:Value) (us:List Value),us.length=[y].length->bindArgs (x1w x x (a1t st) (a0H st) (a0i st) .none kV doc pm an cdv ct) ⟨us,[]⟩=pure ([y].zip us))
   (h:∀(f:Addr) (cdv:Value) (A:Around) (outer:List PySem.Env) (s:Shared) (H:Hp) (E:XK),Room k (A.deeper (PyProof.Rows.envOfC x (a0i st) s.heap.objs.size f cdv))->
     QSs T true K (fun _:Unit=>(cxOf CX0 P w K mg base N x (a0i st) f cdv A outer s H E).nox) (a0H st) body)
   (hlaw:∀ns:List Int,ns.length<=63->body ⟨fun _ _=>False,fun r _=>r=.bl true,fun _ _=>False,fun _ _=>False⟩ (a1U N [.scr ns]) 0) (h0:T.has []:=by trivial) :
   Kn P w K mg base x (k + 1) [y] (a7H K):=by
 refine F0.ok sc (fun vs H Q E h=>?_) bd (fun f cdv A outer s H vs Q E hr hsp=>?_)
 · obtain⟨a,ns,rfl,_⟩:=h
   rfl
 · obtain⟨t,h1,h2⟩:=h f cdv A outer s H E hr;obtain⟨a,ns,rfl,hS,hl,hO,q⟩:=hsp;refine⟨t,h1 (),?_⟩
   let G:Gh:=⟨[],[]⟩
   have r:Reps K G H [.scr ns] [.ref a]:=by
     refine .one ⟨a,rfl,?_⟩;rcases hS with(hS | ⟨o,hS⟩) | hS
     · rcases hO a with z | ⟨o,xs,z⟩
       · rw [z] at hS;cases hS
       · rw [z] at hS;cases hS
     · exact .inl ⟨by simp [G],o,hS⟩
     · exact .inr hS
   have S0:=a4P (T:=T) (N:=N) (np:=true) (n:=0) (G:=G) (fun p hp=>nomatch hp) (fun a ha=>nomatch ha) h0 r;refine h2 _ G _ H _ 0 _ _ rfl rfl rfl S0 (hlaw ns hl) ⟨fun _ _ _ _ _ q=>q.elim,fun x n' v G' σ H' env qq S' rv _=>?_,fun _ _ _ _ _ q=>q.elim,fun _ _ _ _ _ q=>q.elim⟩;subst qq;obtain rfl:v=.bl true:=rv;exact q H'
end
structure a5U (own seed go:Int):Prop where
 o0:0<=own
 s0:0<=seed
 s1:seed < 2 ^ 62
 g0:0<=go
 g1:go<=2 ^ 40
def PotAt (H:Hp)(p:Addr)(n:Nat):Prop:=∃own seed go,H p=some (.lst [.int own,.int seed,.int go])/\a5U own seed go/\go<=(n:Int)
def potL:PotK where
 at_:=fun _ H p n=>PotAt H p n
 mono:=fun⟨own,seed,go,a,b,c⟩ h=>⟨own,seed,go,a,b,by omega⟩
 keep:=fun⟨own,seed,go,a,b,c⟩ e _=>⟨own,seed,go,e.trans a,b,c⟩
 more:=fun h _=>h
 mu:=fun⟨own,seed,go,a,b,c⟩=>⟨_,a,trivial⟩
def a5S:pF:=fun xs n R=>match xs with | [.pot _,.int m]=>(0 < m/\m < 1000000/\n < 1000000000)/\∀d:Int,0<=d->d < m->R (.int d) (n + 1) | _=>False
section
variable {P:x0x}{w:World}{K:x0a}{mg:Str->Option Value}{base:Heap}
def spDraw:Sp:=fun vs H Q _=>∃(p:Addr) (own seed go many:Int),vs=[.ref p,.int many]/\H p=some (.lst [.int own,.int seed,.int go])/\a5U own seed go/\go < 2 ^ 40/\0 < many/\many < 1000000/\
 ∀d own' seed' go',0<=d->d < many->a5U own' seed' go'->go'<=go + 1->Q (.int d) (upd H p (.lst [.int own',.int seed',.int go']))
theorem a7p {x:Str}{k:Nat}{ps:List Str}(G:Kn P w K mg base x k ps spDraw):Kn P w K mg base x k ps (a0w K potL a5S):=G.imp fun vs H Q E h=>by
 obtain⟨G,xs,n,R,hp,hm,_,r,hf,k⟩:=h;unfold a5S at hf
 split at hf
 · rename_i kk m;obtain⟨v,rr,rfl,rv,u,r2,rfl,ru,rfl⟩:=r;obtain⟨p,ep,rfl⟩:=rv;obtain rfl:u=.int m:=ru;have pin:p∈G.pots:=x0X ep;obtain⟨pM,own,seed,go,e,ok,hg⟩:=hp p pin;refine⟨p,own,seed,go,m,rfl,e,ok,by omega,hf.1.1,hf.1.2.1,fun d own' seed' go' d0 d1 ok' g'=>?_⟩;refine k _ _ _ _ (hf.2 d d0 d1) rfl (fun q hq=>?_) fun b o hb eb=>?_
   · by_cases hqp:q=p
     · subst hqp;exact⟨own',seed',go',a0n,ok',by omega⟩
     · obtain⟨_,o2,s2,g2,e2,ok2,hg2⟩:=hp q hq;exact⟨o2,s2,g2,by rw [a0j hqp];exact e2,ok2,by omega⟩
   · rw [a0j (fun z=>hb (by rw [z];exact pin))];exact eb
 · exact hf.elim
def spPot (K:x0a):Sp:=fun vs H Q _=>∃(a:Addr) (ns:List Int) (k:Int),vs=[.ref a,.int k]/\SqL K H a (ns.map V.int)/\0<=k/\k<=1000/\
 ∀p own seed,H p=none->a5U own seed 0->Q (.ref p) (upd H p (.lst [.int own,.int seed,.int 0]))
end
section
variable {ι:Type}{K:x0a}{F:ι->Cx}{e:Expr}{es:List Expr}{st:Stmt}{pos:Pos}{pl:pA}{pe pa pb:pE}
theorem SR.pot {C:Ct}{G:Gh}{σ:St}{H:Hp}{env:Env}{n:Nat}(S:SR C G σ H env n)(hn:C.np=true)(hT:C.T=potL){p:Addr}{own seed:Int}(h:H p=none)(ok:a5U own seed 0) :
   SR C ⟨p::G.M,G.pots++[p]⟩ σ (upd H p (.lst [.int own,.int seed,.int 0])) env n:=by
 have S1:=S.more (vs:=[.int own,.int seed,.int 0]) h
 have mm:∀{x:PV} {v:V} {H:Hp},Rep C.K ⟨p::G.M,G.pots⟩ H x v->Rep C.K ⟨p::G.M,G.pots++[p]⟩ H x v:=fun r=>Rep.mono (G:=⟨p::G.M,G.pots⟩) (G':=⟨p::G.M,G.pots++[p]⟩) (fun _ _ _ e=>e) (fun _ ha=>.inl ha) (fun k q e=>by
   obtain⟨hk,_⟩:=x0n.mp e;show(G.pots++[p])[k]?=_
   rw [x0F hk];exact e) _ _ r
 have mms:∀{x:List PV} {v:List V} {H:Hp},Reps C.K ⟨p::G.M,G.pots⟩ H x v->Reps C.K ⟨p::G.M,G.pots++[p]⟩ H x v:=fun r=>Reps.mono (G:=⟨p::G.M,G.pots⟩) (G':=⟨p::G.M,G.pots++[p]⟩) (fun _ _ _ e=>e) (fun _ ha=>.inl ha) (fun k q e=>by
   obtain⟨hk,_⟩:=x0n.mp e;show(G.pots++[p])[k]?=_
   rw [x0F hk];exact e) _ _ r
 have pM:=S.fresh h
 exact {
   frame:=S1.frame
   sub:=S1.sub
   sup:=S1.sup
   pots:=fun q hq=>by
     rcases x1c.mp hq with z | z
     · exact S1.pots q z
     · rw [x0T.mp z];refine⟨x0f,?_⟩;rw [hT];exact⟨own,seed,0,a0n,ok,by omega⟩
   pre:=by
     obtain⟨l,el,_⟩:=S1.pre;have el':G.pots=C.pots0++l:=el;exact⟨l++[p],by rw [el',x1R],.inr hn⟩
   mu:=S1.mu
   slots:=fun i s e=>by
     cases s with
     | v x =>
       obtain⟨v,ev,r⟩:=S1.slots i _ e;exact⟨v,ev,mm r⟩
     | ow kk xs =>
       obtain⟨b,us,ev,h1,h2,h3,h4,r⟩:=S1.slots i _ e;obtain⟨b',us',ev',g1,_⟩:=S.slots i _ e;rw [ev] at ev';cases ev';refine⟨b,us,ev,h1,h2,fun z=>?_,h4,mms r⟩;rcases x1c.mp z with z | z
       · exact h3 z
       · rw [x0T.mp z] at g1;exact pM g1
   inj:=S1.inj
   p0:=⟨S1.p0.1,C.T.hasM S1.p0.2 fun z=>pM (S.pots p z).1⟩
   len:=S1.len
   newp:=fun q hq hn' hM=>by
     rcases x1c.mp hq with z | z
     · exact S1.newp q z hn' hM
     · rw [x0T.mp z] at hM
       exact pM (S.sup p hM) }
end
end Pu
end
section
namespace Pu
open PySem PySem.Spec L2
section
variable {T:PotK}{np:Bool}{ι:Type}{K:x0a}{F:ι->Cx}{e a b c:Expr}{es:List Expr}{pe pa pb pc:pE}{pos:Pos}{pl pr:pA}
def a9n:List PV->Option (List Str)
 | []=>some []
 | .str b::xs=>(a9n xs).map (b::·)
 | _=>none
end
def a0R (i:Nat)(pe:pE):pE:=fun env n R=>(∃xs,env[i]?=some (some (.ow .lst xs)))/\a4t i pe env n R
end Pu
end
section
namespace Pu
open PySem PySem.Spec L2
theorem a0K {g:pG}{b:pS}{D:a5V}(I:Nat->Env->Nat->Prop):∀(xs:List PV) (k:Nat) (env:Env) (n:Nat),I k env n->
   (∀(i:Nat) x env n (N:Env->Nat->Prop),xs[i]?=some x->I (k + i) env n->(∀e m,I (k + i + 1) e m->N e m)->g x env fun env1=>b { D with nx:=N,ct:=N,bk:=D.nx } env1 n)->(∀env n,I (k + xs.length) env n->D.nx env n)->forL g b D xs env n:=by
 intro xq
 induction xq with
 | nil =>
   intro k env n h0 _ hd;exact hd env n h0
 | cons x xs ih =>
   intro k env n h0 hs hd;show g x env fun env1=>b { D with nx:=fun e m=>forL g b D xs e m,ct:=fun e m=>forL g b D xs e m,bk:=D.nx } env1 n;refine hs 0 x env n _ rfl h0 fun e m h1=>?_;refine ih (k + 1) e m h1 (fun i y env n N e1 h2 h3=>?_) fun env n h2=>hd env n (by rw [x0D,show k + (xs.length + 1)=k + 1 + xs.length by omega];exact h2);refine hs (i + 1) y env n N (by simpa using e1) (by rw [show k + (i + 1)=k + 1 + i by omega];exact h2) fun e m h4=>h3 e m (by rw [show k + 1 + i + 1=k + (i + 1) + 1 by omega];exact h4)
theorem a1y {j i:Nat}{lo:Int}{x:PV}(h:((x0g j).map fun(k:Nat)=>PV.int (lo + k))[i]?=some x):i < j/\x=.int (lo + i):=by
 rw [x0p] at h;cases e:(x0g j)[i]? with
 | none=>rw [e] at h;cases h
 | some y =>
   rw [e] at h;obtain⟨h1,h2⟩:=x0n.mp e;rw [List.getElem_range] at h2;cases h;subst h2;exact⟨by simpa using h1,rfl⟩
theorem a1N {j:Nat}{lo:Int}:((x0g j).map fun(k:Nat)=>PV.int (lo + k)).length=j:=by simp
theorem eqP_ll (xs ys:List PV):eqP (.lst xs) (.lst ys)=eqPs xs ys:=rfl
theorem eqP_tt (xs ys:List PV):eqP (.tup xs) (.tup ys)=eqPs xs ys:=rfl
theorem b0D (x y:PV)(xs ys:List PV):eqPs (x::xs) (y::ys)=(eqP x y && eqPs xs ys):=rfl
theorem b0C:eqPs [] []=true:=rfl
theorem if_t {A B:Prop}{b:Bool}(h:b=true)(q:A):if b=true then A else B:=by rw [if_pos h];exact q
theorem if_f {A B:Prop}{b:Bool}(h:b=false)(q:B):if b=true then A else B:=by rw [if_neg (by rw [h];exact x0E)];exact q
end Pu
end
section
namespace L2
open PySem PySem.Spec PyProof.Rows
section
variable {κ:Type}[DecidableEq κ]
def valV (kvs:List (κ×V))(k:κ):Option V:=(kvs.find? fun kv=>decide (kv.1=k)).map (·.2)
def putK (kvs:List (κ×V))(k:κ)(v:V):List (κ×V):=
 if(kvs.any fun kv=>decide (kv.1=k))=true then kvs.map (fun kv=>if kv.1=k then(kv.1,v) else kv) else kvs++[(k,v)]
theorem a4N {p:κ×V}{r:List (κ×V)}{k:κ}(e:p.1=k):valV (p::r) k=some p.2:=by simp [valV,x2Z,e]
theorem a4O {p:κ×V}{r:List (κ×V)}{k:κ}(e:¬p.1=k):valV (p::r) k=valV r k:=by simp [valV,x2Z,e]
theorem a7E (k:κ):∀kvs:List (κ×V),(kvs.any fun kv=>decide (kv.1=k))=(valV kvs k).isSome:=by
 intro xq
 induction xq with
 | nil =>
   exact rfl
 | cons p r ih =>
   rw [List.any_cons]
   by_cases e:p.1=k
   · simp only [a4N e,decide_eq_true e,Bool.true_or,Option.isSome_some]
   · rw [a4O e,decide_eq_false e,Bool.false_or];exact ih
theorem RelO.isSome_eq {o:Option V}{u:Option Value}(r:RelO o u):o.isSome=u.isSome:=by
 cases o with
 | none => cases u with
   | none=>rfl
   | some _=>exact(show False from r).elim
 | some _ => cases u with
   | none=>exact(show False from r).elim
   | some _=>rfl
theorem KV.keys {kvs:List (κ×V)}{vs:List (κ×Value)}(r:KV kvs vs):kvs.map (·.1)=vs.map (·.1):=by
 unfold KV at r
 induction r with
 | nil=>rfl
 | cons h t ih=>rw [x1v,x1v,ih,h.1]
end
variable {kvs:List (List Key×V)}{y:V}
theorem kV_is {P:x0x}{w:World}{k:Key}{u:Value}(r:RelV (kV k) u):(a0E P w).is k u=true:=by
 cases k with
 | inl i=>obtain⟨t,e⟩:=(show ∃t,u=Value.int i t from r);subst e;exact a4y P w i t
 | inr x=>obtain⟨t,e⟩:=(show ∃t,u=Value.str x t from r);subst e;exact a4x P w x t
theorem a3W {P:x0x}{w:World}:∀{ks:List Key} {us:List Value},Vals (ks.map kV) us->ItemsAre (a0E P w) ks us
 | [],_,r=>by rw [List.map_nil] at r;cases r;exact .nil
 | k :: ks, _, r => by
   rw [x1v] at r;cases r with
   | cons h t=>exact .cons (kV_is h) (a3W t)
abbrev KT (H:Hp):List (List Key×V)->List (List Key×Addr×Value)->Prop:=Paired fun p q=>p.1=q.1/\H q.2.1=some (.tup (p.1.map kV))/\RelV p.2 q.2.2
theorem KT.val {H:Hp}{xs:List (List Key×Addr×Value)}(r:KT H kvs xs)(k:List Key):RelO (valV kvs k) ((atKey xs k).map (·.2)):=by
 induction r with
 | nil=>exact x3j
 | @cons p q ps qs h t ih =>
   obtain⟨h1,_,h2⟩:=h
   by_cases e:p.1=k
   · have e':q.1=k:=h1.symm.trans e;have b:atKey (q::qs) k=some q.2:=by simp [atKey,x2Z,e']
     rw [a4N e,b];exact h2
   · have e':¬q.1=k:=fun z=>e (h1.trans z);have b:atKey (q::qs) k=atKey qs k:=by simp [atKey,x2Z,e']
     rw [a4O e,b];exact ih
theorem KT.repl {H:Hp}{xs:List (List Key×Addr×Value)}(r:KT H kvs xs)(k:List Key){u:Value}(ry:RelV y u) :
   KT H (kvs.map fun kv=>if kv.1=k then(kv.1,y) else kv) (xs.map (putAt k u)):=by
 induction r with
 | nil=>exact .nil
 | @cons p q ps qs h t ih =>
   rw [x1v,x1v];refine .cons ?_ ih;obtain⟨h1,h2,h3⟩:=h;unfold putAt
   by_cases e:p.1=k
   · rw [if_pos e,if_pos (h1.symm.trans e)];exact⟨h1,h2,ry⟩
   · rw [if_neg e,if_neg (fun z=>e (h1.trans z))];exact⟨h1,h2,h3⟩
theorem KT.put {H:Hp}{xs:List (List Key×Addr×Value)}(r:KT H kvs xs)(k:List Key){b:Addr}{u:Value}(hb:H b=some (.tup (k.map kV)))(ry:RelV y u) :
   KT H (putK kvs k y) (storedH xs k b u):=by
 have e:(kvs.any fun kv=>decide (kv.1=k))=(atKey xs k).isSome:=by
   rw [a7E,(r.val k).isSome_eq,Option.isSome_map]
 unfold putK storedH;rw [e]
 by_cases q:(atKey xs k).isSome=true
 · rw [if_pos q,if_pos q];exact r.repl k ry
 · rw [if_neg q,if_neg q];exact Paired.snoc r ⟨rfl,hb,ry⟩
theorem KT.keeps {H H':Hp}{xs:List (List Key×Addr×Value)}(r:KT H kvs xs)(ht:∀b ys,H b=some (.tup ys)->H' b=some (.tup ys)):KT H' kvs xs:=
 Paired.mapP r fun _ _ z=>⟨z.1,ht _ _ z.2.1,z.2.2⟩
section
variable {P:x0x}{w:World}{H:Hp}{h:Heap}{a:Addr}
theorem rd_of {u:HO}(ok:HOk P w H h)(e:Rd H a u):a0J P w H h a u:=e.ok ok
theorem a8W {ks:List Key}(ok:HOk P w H h)(e:H a=some (.tup (ks.map kV))):(x1p (a0E P w)).is h ks a:=by
 obtain⟨_,its,r,o,h1,h2,n,h3⟩:=(show a0J P w H h a (.tup (ks.map kV)) from ok a _ e);exact⟨o,its.toArray,n,h1,(x2V h2).1,h3,by simpa using a3W r⟩
theorem dt_rd {kvs:List (List Key×V)}(ok:HOk P w H h)(e:Rd H a (.dT kvs)):kvs.length<=x0t/\(a == x1O)=false/\
   ∃xs,KT H kvs xs/\h.DictOfH (x1p (a0E P w)) a xs:=by
 obtain⟨z,y,xs,r,o,es,ep,h1,h2,h3,h4,h5⟩:=(show a0J P w H h a (.dT kvs) from rd_of ok e);refine⟨z,y,xs,r,o,es,ep,h1,h2,h3,h4,fun x hx=>?_,h5⟩
 have all:∀{l:List (List Key×V)} {m:List (List Key×Addr×Value)},KT H l m->∀x∈m,(x1p (a0E P w)).is h x.1 x.2.1:=by
   intro l m q
   induction q with
   | nil=>intro x hx;exact nomatch hx
   | @cons p q ps qs hq t ih =>
     intro x hx;rcases x0q.mp hx with e | hx
     · subst e;exact a8W ok (by rw [<- hq.1];exact hq.2.1)
     · exact ih x hx
 exact all r x hx
theorem dt_of {kvs:List (List Key×V)}(ok:HOk P w H h)(e:H a=some (.dT kvs)):kvs.length<=x0t/\(a == x1O)=false/\
   ∃xs,KT H kvs xs/\h.DictOfH (x1p (a0E P w)) a xs:=dt_rd ok (.inl e)
end
def DGet (H:Hp)(a:Addr)(y:V)(r:Option V):Prop:=
 (∃kvs k,Rd H a (.dK kvs)/\y=kV k/\r=valV kvs k)\/∃kvs k b,Rd H a (.dT kvs)/\y=.ref b/\H b=some (.tup (k.map kV))/\r=valV kvs k
def DPut (H:Hp)(a:Addr)(y v:V)(H':Hp):Prop:=
 (∃kvs k,H a=some (.dK kvs)/\y=kV k/\kvs.length < x0t/\H'=upd H a (.dK (putK kvs k v)))\/
 ∃kvs k b,H a=some (.dT kvs)/\y=.ref b/\H b=some (.tup (k.map kV))/\kvs.length < x0t/\H'=upd H a (.dT (putK kvs k v))
theorem DGet.k {H:Hp}{a:Addr}{kvs:List (Key×V)}{k:Key}(e:H a=some (.dK kvs)):DGet H a (kV k) (valV kvs k):=.inl ⟨kvs,k,.inl e,rfl,rfl⟩
theorem DGet.t {H:Hp}{a b:Addr}{kvs:List (List Key×V)}{k:List Key}(e:H a=some (.dT kvs))(eb:H b=some (.tup (k.map kV))):DGet H a (.ref b) (valV kvs k):=.inr ⟨kvs,k,b,.inl e,rfl,eb,rfl⟩
theorem DPut.k {H:Hp}{a:Addr}{kvs:List (Key×V)}{k:Key}{v:V}(e:H a=some (.dK kvs))(hl:kvs.length < x0t):DPut H a (kV k) v (upd H a (.dK (putK kvs k v))):=.inl ⟨kvs,k,e,rfl,hl,rfl⟩
theorem DPut.t {H:Hp}{a b:Addr}{kvs:List (List Key×V)}{k:List Key}{v:V}(e:H a=some (.dT kvs))(eb:H b=some (.tup (k.map kV)))(hl:kvs.length < x0t) :
   DPut H a (.ref b) v (upd H a (.dT (putK kvs k v))):=.inr ⟨kvs,k,b,e,rfl,eb,hl,rfl⟩
end L2
end
section
namespace Pu
open PySem PySem.Spec L2
section
variable {T:PotK}{ι:Type}{K:x0a}{F:ι->Cx}{e:Expr}{pe:pE}{pos:Pos}
def a4s (i:Nat)(pe:pE):pE:=fun env n R=>(∃xs,env[i]?=some (some (.ow .lst xs)))/\pe env n fun y env1 n1=>match env1[i]?,y with | some (some (.ow .lst xs)),.lst ys=>xs.length + ys.length<=1000000/\R .non (env1.set i (some (.ow .lst (xs++ys)))) n1 | _,_=>False
theorem a6A (i:Nat){x:Str}{p ap:Pos}(hv:∀z,EW (F z) (.Name x p) (tVar i))(he:QE T K F e pe)(hs:a0r e=true:=by rfl)(hbase:∀z,x2S (.Name x p) "extend" (F z).env (eval (.Name x p) (F z).env)=eval (.Name x p) (F z).env:=by intro _;rfl)(hline:(ap.endLine == pos.line)=true:=by rfl)
   (hfew:∀z,((backTo pos (x0P [e] (F z).env)).all (fun x=>!x.1) && (backToKw pos (keywordEach [] (F z).env)).all (fun x=>x.1.isSome) && decide (([e]:List Expr).length + ([]:List Keyword).length + (if([]:List Keyword).isEmpty then 0 else 1) < 30))=true:=by intro _;rfl) (hK:∀z,(F z).K=K:=by intro _;rfl):QE T K F (.Call (.Attribute (.Name x p) "extend" ap) [e] [] pos) (a4s i pe):=by
 obtain⟨t,a1,a2⟩:=he;refine⟨tBM K "list" a6r (tVar i) (a3e t tNil),fun z=>hK z▸pe_bm x2y PySem.F.slot_list_extend PySem.F.type_list_extend a6W (hv z).h (a0m (a1 z) a0C (a0c hs)) (hbase z) (hfew z) hline (a0c hs),fun C G σ H env n R Q hK hT S hp k=>?_⟩;obtain⟨⟨xs0,e0⟩,hp⟩:=hp;obtain⟨a,vs,ev,h1,h2,h3,h4,r⟩:=S.slots i _ e0;refine⟨.ref a,ev,.inl ⟨rfl,vs,SqL.of h4⟩,?_⟩;refine a2 C G σ H env n _ _ hK hT S hp fun y env1 n1 v H1 q1 S1 r1 f1=>?_
 split at q1
 · rename_i xs ys ex;obtain⟨a',us,ev',g1,g2,g3,g4,r'⟩:=S1.slots i _ ex;rw [ev] at ev';cases ev';subst hK;obtain⟨b,ws,rfl,tb,rb⟩:=r1;obtain⟨S2,f2⟩:=S1.put ex ev (r'.append rb);exact⟨a,b,us,ws,rfl,rfl,g4,tb.2,by rw [<- r'.length,<- rb.length];exact mil q1.1,k _ _ _ _ _ q1.2 S2 rfl (f1.trans f2)⟩
 · exact q1.elim
end
end Pu
end
section
namespace L2
open PySem PySem.Spec PyProof.Rows
section
variable {X:Cx}{pos:Pos}
theorem a3i:seqSlot? (.type "list") (dunderI "add")=pure (some (.builtin "list.__iadd__")):=PySem.seqSlot_of F.slot_list_iadd.lookup (by decide +kernel)
theorem a4C:fillsInplaceSlot (.type "list") "add" (Operator.Add == .Add)=pure false:=by
 unfold fillsInplaceSlot;show(typeLookup (.type "list") (dunderI "add")>>=fun fi=>pure (fi.isSome && !isSeqSlot fi))=pure false;rw [F.slot_list_iadd.lookup];show pure (true && !isSeqSlot (some (.builtin "list.__iadd__")))=(pure false:Sem Bool);rw [show isSeqSlot (some (.builtin "list.__iadd__"))=true by decide +kernel]
 rfl
def a8F:R2:=fun x y H Q=>∃l b xs zs,x=.ref l/\y=.ref b/\H l=some (.lst xs)/\H b=some (.lst zs)/\xs.length + zs.length<=x0t/\Q (.ref l) (upd H l (.lst (xs++zs)))
theorem a3X:OpR X (inplaceOp .Add) a8F:=by
 intro pins s σ H x y v u Q I rx ry h;obtain⟨l,b,xs,zs,rfl,rfl,hH,hB,hz,q⟩:=h;cases rx;cases ry;obtain⟨z,its,n,r,hl,e⟩:=I.lstM hH;obtain⟨z2,its2,n2,r2,hl2,e2⟩:=I.lstM hB;have hsz:its.toArray.size + its2.toArray.size<=x0t:=by rw [x0j,x0j];omega
 have hlong:¬(!its.toArray.isEmpty && x1Q (its.toArray.size + its2.toArray.size))=true:=by
   rw [a4Z hsz,Bool.and_false];exact x0E
 have ha:s.TypeIs (.ref l) "list":=⟨_,e,rfl⟩;have hb:s.TypeIs (.ref b) "list":=⟨_,e2,rfl⟩;unfold inplaceOp;refine x1d ?_;refine x0b (x2L ha (x0b (wpAny_of_eq a4C ?_)));show wpAny _ _ (if false=true then _ else _) _ _ s;rw [if_neg x0E];refine x0b (binaryOp1_none (nm:="add") ha hb noFill_list_add ?_);refine x0b (wpAny_of_eq a3i ?_);refine x0b (x2m ?_)
 refine call_meets F.slot_list_iadd ha F.entry_list_iadd (F.args_list_iadd_2 _ _)
   (AutoSeq1.list___iadd___list_list_0 l its.toArray n b its2.toArray n2 hlong (by rw [x0j];omega) (by omega)) ⟨e,e2,?_⟩
 refine⟨.ref l,_,I.lset (its':=its++its2) hH e (by simp) (r.append r2) ?_,rfl,q⟩;rw [x0l];omega
end
end L2
namespace Pu
open PySem PySem.Spec L2
section
variable {T:PotK}{np:Bool}{ι:Type}{K:x0a}{F:ι->Cx}{e:Expr}{st:Stmt}{pe:pE}{pos:Pos}
theorem a8B {X:Cx}{i:Nat}{x:Str}{e:Expr}{op:Operator}{ti:TIp}{pos' pos:Pos}(hN:X.N.Nodup)(hi:X.N[i]?=some x)(hx:Loc X.env.scope x)(ho:OpR X (inplaceOp op) ti)(hf:X.fn x=true\/X.env.scope.names.lookup x=some .local:=by first | exact .inl rfl | exact .inr rfl | assumption)(te:TE)(h:EW X e te):SW X (.AugAssign (.Name x pos') op e pos) (tAug i te ti):=⟨ps_aug hN hi hx h.h ho hf⟩
def a9R (i:Nat)(pe:pE):pS:=fun D env n=>(∃xs,env[i]?=some (some (.ow .lst xs)))/\pe env n fun y env1 n1=>match env1[i]?,y with | some (some (.ow .lst xs)),.lst ys=>xs.length + ys.length<=1000000/\D.nx (env1.set i (some (.ow .lst (xs++ys)))) n1 | _,_=>False
theorem a9H (i:Nat)(h:∀z te,EW (F z) e te->SW (F z) st (tAug i te a8F))(he:QE T K F e pe):QS T np K F st (a9R i pe):=by
 obtain⟨t,a1,a2⟩:=he;refine⟨_,fun z=>(h z _ ⟨a1 z⟩).h,fun C G σ H env n PD D hK hT hn S hp L=>?_⟩;obtain⟨⟨xs0,e0⟩,hp⟩:=hp;obtain⟨a,vs,ev,h1,h2,h3,h4,r⟩:=S.slots i _ e0;refine⟨.ref a,ev,?_⟩;refine a2 C G σ H env n _ _ hK hT S hp fun y env1 n1 v H1 q1 S1 r1 f1=>?_
 split at q1
 · rename_i xs ys ex;obtain⟨a',us,ev',g1,g2,g3,g4,r'⟩:=S1.slots i _ ex;rw [ev] at ev';cases ev';subst hK;obtain⟨b,ws,rfl,tb,rb⟩:=r1;obtain⟨S2,f2⟩:=S1.put ex ev (r'.append rb);refine⟨a,b,us,ws,rfl,rfl,g4,tb.2,by rw [<- r'.length,<- rb.length];exact mil q1.1,?_⟩
   have es:σ.set i (some (.ref a))=σ:=by
     obtain⟨hi,e⟩:=x0n.mp ev;rw [<- e];exact List.set_getElem_self hi
   show D.nx (σ.set i (some (.ref a))) _;rw [es];exact L.nx _ _ _ _ _ q1.2 S2 (Ext.fr (f1.trans f2))
 · exact q1.elim
def qAug (i:Nat)(w:w2)(pe:pE):pS:=fun D env n=>match env[i]? with | some (some (.v x))=>(pe env n fun y env1 n1=>w x y fun z=>D.nx (env1.set i (some (.v z))) n1) | _=>False
theorem qs_aug (i:Nat){ti:TIp}{w:w2}(hw:W2 K ti w)(h:∀z te,EW (F z) e te->SW (F z) st (tAug i te ti))(he:QE T K F e pe):QS T np K F st (qAug i w pe):=by
 obtain⟨t,a1,a2⟩:=he;refine⟨_,fun z=>(h z _ ⟨a1 z⟩).h,fun C G σ H env n PD D hK hT hn S hp L=>?_⟩;unfold qAug at hp
 split at hp
 · rename_i x ex;obtain⟨v,ev,rv⟩:=S.slots i _ ex;refine⟨v,ev,?_⟩;refine a2 C G σ H env n _ _ hK hT S hp fun y env1 n1 u H1 q1 S1 r1 f1=>?_;subst hK;refine hw G H1 x y v u _ _ (fun p hp=>S1.fresh hp) (.inl (rv.fr f1)) (.inl r1) q1 fun z v' H' rz s rv'=>?_;exact L.nx _ _ _ _ _ rz ((S1.same s).set i rv') (Ext.fr (f1.trans (Fr.of s)))
 · exact hp.elim
def a9j:w2:=wI0 fun i j=>.int (i + j)
theorem a9I (i:Nat)(h:∀z te,EW (F z) e te->SW (F z) st (tAug i te (rI0 fun i j=>.int (i + j))))(he:QE T K F e pe):QS T np K F st (qAug i a9j pe):=qs_aug i (W2.I0 fun _ _ _ _=>rfl) h he
end
end Pu
end
section
namespace Pu
open PySem PySem.Spec L2
section
variable {ι:Type}{K:x0a}{F:ι->Cx}{a b:Expr}{pos pos':Pos}{pa pb:pE}
def a3F (K:x0a):Sp:=fun vs H Q _=>∃(a:Addr) (ns:List Int) (k:Int),vs=[.ref a,.int k]/\SqL K H a (ns.map V.int)/\ns.length<=63/\0<=k/\k<=1000/\
 ∀H1,Same H H1->∀p own seed,H1 p=none->a5U own seed 0->Q (.ref p) (upd H1 p (.lst [.int own,.int seed,.int 0]))
theorem a7X {P:x0x}{w:World}{mg:Str->Option Value}{base:Heap}{x:Str}{k:Nat}{ps:List Str}(G:Kn P w K mg base x k ps (spPot K)):Kn P w K mg base x k ps (a3F K):=G.imp fun vs H Q E h=>by
 obtain⟨a,ns,k,e,hs,_,h0,h1,q⟩:=h;exact⟨a,ns,k,e,hs,h0,h1,q H (Same.refl _)⟩
def a3n (i:Nat)(pa pb:pE):pS:=fun D env n=>pa env n fun x env1 n1=>pb env1 n1 fun y env2 n2=>match x,y with | .scr ns,.int k=>(ns.length<=63/\0<=k/\k<=1000)/\∀q:Nat,D.nx (env2.set i (some (.v (.pot q)))) n2 | _,_=>False
theorem a5x (i:Nat){st:Stmt}{x:Str}{p:Pos}{k j:Nat}{ps:List Str}(h:∀z te,EW (F z) (.Call (.Name x p) [a,b] [] pos) te->SW (F z) st (tAsg te (a1S i)))(hG:∀z,Kn (F z).prog (F z).w (F z).K (F z).mg (F z).base x k ps (a3F K))(hr:∀z,Room j (F z).A)(hk:k<=j)(hg:∀z,Gl (F z) x)
   (ha:QE potL K F a pa) (hb:QE potL K F b pb) (n1:a0r a=true:=by rfl) (n2:a0r b=true:=by rfl) (hdb:(x == ("__debug__":Str))=false:=by decide):QS potL true K F st (a3n i pa pb):=by
 obtain⟨t,a1,a2⟩:=ha;obtain⟨u,b1,b2⟩:=hb;refine⟨_,fun z=>(h z _ ⟨pe_fn (hG z) (hr z) hk (hg z) (a0m (a1 z) (a0m (b1 z) a0C (a0c n2)) (a0c n1)) hdb (a0c n1) (by rw [a0c n2];rfl)⟩).h,fun C G σ H env n PD D hK hT hn S hp L=>?_⟩;refine a2 C G σ H env n _ _ hK hT S hp fun x env1 n1 v H1 q1 S1 r1 f1=>?_;refine b2 C G σ H1 env1 n1 _ _ hK hT S1 q1 fun y env2 n2 w H2 q2 S2 r2 f2=>?_
 split at q2
 · rename_i ns kk;obtain⟨a,ev,hq⟩:=a4R (.inl (r1.fr f2));refine(show a3F K [v,w] H2 (fun x H1=>a1S i x σ H1 D.nx) E0 from ?_);refine⟨a,ns,kk,by rw [ev,show w=.int kk from r2],hq,q2.1.1,q2.1.2.1,q2.1.2.2,fun H3 sm p own seed hn' ok=>?_⟩;have S3:=(S2.same sm).pot hn hT hn' ok;have S4:=S3.set i (x:=.pot G.pots.length) (v:=.ref p) ⟨p,by simp,rfl⟩;refine L.nx _ _ _ _ _ (q2.2 _) S4 ((Ext.fr ((f1.trans f2).trans (Fr.of sm))).trans ⟨fun b o _ e=>Same.lay1 hn' b o e,fun c hc=>(x0q.mp (show c∈p::G.M from hc)).elim (fun z=>.inr (z▸hn')) .inl,fun k q e=>?_⟩);obtain⟨hk,_⟩:=x0n.mp e;show(G.pots++[p])[k]?=_;rw [x0F hk];exact e
 · exact q2.elim
end
end Pu
end
section
namespace Pu
open PySem PySem.Spec L2
def SwOk (X:Cx)(e:Expr)(t:TE):Prop:=∀(i:Nat) (y:Str) (py spos:Pos),X.N.Nodup->X.N[i]?=some y->Loc X.env.scope y->x3i e (some (.Name y py)) spos.line X.env=pure true->(X.fn y=true\/X.env.scope.names.lookup y=some .local)->PS X (.Assign [.Name y py] e spos) (tAsg t (a1S i))
def QNC {ι:Type}(T:PotK)(K:x0a)(F:ι->Cx)(e:Expr)(pn:pA):Prop:=∃t,(∀z,PE (F z) e t)/\(∀z,SwOk (F z) e t)/\NOk K T t pn
section
variable {T:PotK}{np:Bool}{ι:Type}{K:x0a}{F:ι->Cx}{e:Expr}{pl:pA}{pg:pG}{pos:Pos}
theorem a9G (i:Nat){y:Str}{py spos:Pos}(h:QNC T K F e pl)(hN:∀z,(F z).N.Nodup)(hi:∀z,(F z).N[i]?=some y)(hy:∀z,Loc (F z).env.scope y)(hsw:∀z,x3i e (some (.Name y py)) spos.line (F z).env=pure true:=by intro _;rfl)(hf:∀z,(F z).fn y=true\/(F z).env.scope.names.lookup y=some .local:=by intro _;first | exact .inl rfl | exact .inr rfl):QS T np K F (.Assign [.Name y py] e spos) (qOwn i pl):=by
 obtain⟨t,a1,a3,a2⟩:=h;refine⟨_,fun z=>a3 z i y py spos (hN z) (hi z) (hy z) (hsw z) (hf z),fun C G σ H env n PD D hK hT hn S hp L=>?_⟩;refine a2 C G σ H env n _ _ hK hT S hp fun xs env1 n1 a vs Hb q1 S1 f1 hn1 r1=>?_;exact L.nx _ _ _ _ _ q1 (S1.own i hn1 (hK▸r1)) ((Ext.fr f1).trans (a1I hn1))
end
end Pu
end
section
namespace L2
open PySem PySem.Spec PyProof.Rows
def met (val:Nat->Key):Nat->List Key
 | 0=>[]
 | i + 1=>if(met val i).any (fun y=>decide (y=val i)) then met val i else met val i++[val i]
end L2
end
section
namespace L2
open PySem PySem.Spec PyProof.Rows
variable {i:Nat}{items:Array Value}
def ItB (b:Bool)(h:Heap)(it l:Addr)(i:Nat):Prop:=match b with | true=>h.IsListIter it l i | false=>h.IsTupleIter it l i
def SeB (b:Bool)(h:Heap)(l:Addr)(items:Array Value):Prop:=match b with | true=>h.IsList l items | false=>h.IsTuple l items
theorem ItB.at {b:Bool}{h h':Heap}{it l:Addr}(x:ItB b h it l i)(e:∀o,h.get? it=some o->h'.get? it=some o):ItB b h' it l i:=by
 cases b with
 | true=>exact(show h.IsListIter it l i from x).at e
 | false=>exact(show h.IsTupleIter it l i from x).at e
theorem SeB.at {b:Bool}{h h':Heap}{l:Addr}(x:SeB b h l items)(e:∀o,h.get? l=some o->h'.get? l=some o):SeB b h' l items:=by
 cases b with
 | true=>exact(show h.IsList l items from x).at e
 | false=>exact(show h.IsTuple l items from x).at e
theorem ItB.obj {b:Bool}{h:Heap}{it l:Addr}(x:ItB b h it l i):∃o,h.get? it=some o/\(o.cls=.type "list_iterator"\/o.cls=.type "tuple_iterator")/\∀v,o.data≠.cell v:=by
 cases b with
 | true=>obtain⟨o,e,c,d⟩:=(show h.IsListIter it l i from x);exact⟨o,e,.inl c,fun v z=>by rw [d] at z;cases z⟩
 | false=>obtain⟨o,e,c,d⟩:=(show h.IsTupleIter it l i from x);exact⟨o,e,.inr c,fun v z=>by rw [d] at z;cases z⟩
theorem SeB.obj {b:Bool}{h:Heap}{l:Addr}(x:SeB b h l items):∃o,h.get? l=some o/\(o.cls=.type "list"\/o.cls=.type "tuple"):=by
 cases b with
 | true=>obtain⟨o,e,c,d⟩:=(show h.IsList l items from x);exact⟨o,e,.inl c⟩
 | false=>obtain⟨o,e,c,d⟩:=(show h.IsTuple l items from x);exact⟨o,e,.inr c⟩
theorem ItB.ne {b b':Bool}{h:Heap}{it l a:Addr}(x:ItB b h it l i)(y:SeB b' h a items):a≠it:=fun z=>by
 obtain⟨o,e,c,_⟩:=x.obj;obtain⟨o',e',c'⟩:=y.obj;rw [z,e] at e';cases e';rcases c with c | c <;> rcases c' with c' | c' <;> (rw [c] at c';exact absurd c' (by decide))
section
variable {prog:x0x}{w:World}{A:Around}{E:Value->Shared->Prop}{s:Shared}
variable {i:Nat}{items:Array Value}
theorem a5C {it t:Addr}{x:Value}{Q:Value->Shared->Prop}(hit:s.heap.IsTupleIter it t i)(ht:s.heap.IsTuple t items)(hx:items[i]?=some x)
   (hQ:∀h',h'.IsTupleIter it t (i + 1)->Heap.SameBut it s.heap h'->Q x { s with heap:=h' }):wpAny (model prog w) A (x1a (.ref it)) Q E s:=by
 obtain⟨oi,hoi,hci,hdi⟩:=id hit;obtain⟨ot,hot,_,nt,hdt⟩:=ht;have ty:=hit.typeIs;unfold x1a
 refine x0b (x1f (name:=x0H "__next__") ty x1C
   (x1W x1C ty F.entry_tuple_iterator_next ?_ (F.args_tuple_iterator_next_1 _)))
 show wpAny _ _ (field (.ref it) 0>>=_) _ _ s;refine x0b (x2i hoi hdi (x:=.ref t) rfl ?_);show wpAny _ _ (if(x0Y t == x2l)=true then _ else _) _ _ s;rw [if_neg (show ¬((x0Y t == x2l)=true) from x0E)];show wpAny _ _ (field (.ref it) 1>>=_) _ _ s;refine x0b (x2i hoi hdi (x:=.int i 0) rfl ?_);show wpAny _ _ (seqItems? (.ref t)>>=_) _ _ s;refine x0b (wpAny_seqItems hot hdt ?_);simp only [x1x,hx];refine x0b (wpAny_setField hoi hdi (by simp) (x0h ⟨x,rfl,x0h (hQ _ ?_ (x2j ..))⟩));exact⟨_,Heap.get?_update_self _ hoi (Obj.isFreed_of_fields (Obj.data_mapFields hdi _)),(Obj.cls_mapFields ..).trans hci,by rw [Obj.data_mapFields hdi];simp [rawInt]⟩
theorem a6U {it t:Addr}{Q:Value->Shared->Prop}(hh:A.handled=none)(hit:s.heap.IsTupleIter it t i)(ht:s.heap.IsTuple t items)(hx:items[i]?=none)
   (hE:∀h' e,Heap.ExtBut it s.heap h'->(∃o,h'.get? e=some o/\o.cls=.type "StopIteration")->E (.ref e) { s with heap:=h' }):wpAny (model prog w) A (x1a (.ref it)) Q E s:=by
 obtain⟨oi,hoi,hci,hdi⟩:=id hit;obtain⟨ot,hot,_,nt,hdt⟩:=ht;have ty:=hit.typeIs;unfold x1a
 refine x0b (x1f (name:=x0H "__next__") ty x1C
   (x1W x1C ty F.entry_tuple_iterator_next ?_ (F.args_tuple_iterator_next_1 _)))
 show wpAny _ _ (field (.ref it) 0>>=_) _ _ s;refine x0b (x2i hoi hdi (x:=.ref t) rfl ?_);show wpAny _ _ (if(x0Y t == x2l)=true then _ else _) _ _ s;rw [if_neg (show ¬((x0Y t == x2l)=true) from x0E)];show wpAny _ _ (field (.ref it) 1>>=_) _ _ s;refine x0b (x2i hoi hdi (x:=.int i 0) rfl ?_);show wpAny _ _ (seqItems? (.ref t)>>=_) _ _ s;refine x0b (wpAny_seqItems hot hdt ?_);simp only [x1x,hx];refine x0b (x2m (x0b (wpAny_setField hoi hdi (by simp) ?_)));show wpAny _ _ (newExc (.type "StopIteration") []>>=_) _ _ _;refine x0b ?_;simp only [newExc,newTuple];refine x0b (x0R ?_ (by size_fits));refine x0b (m:=firstArgMember _ _) (wpAny_of_eq (a:=x2l) (by first | rfl | (simp only [firstArgMember];rfl)) ?_);refine x0R ?_ (by size_fits);simp only [raiseNew];refine x0b (wpAny_handled ?_)
 first | rw [show A.in1.handled=none from hh] | rw [hh]
 refine x0b (x0h (wpAny_throw ?_));exact hE _ _ (((x2j ..).extBut.push _).push _) ⟨_,x0y _ rfl,rfl⟩
theorem a5D {b:Bool}{it t:Addr}{x:Value}{Q:Value->Shared->Prop}(hit:ItB b s.heap it t i)(ht:SeB b s.heap t items)(hx:items[i]?=some x)
   (hQ:∀h',ItB b h' it t (i + 1)->Heap.SameBut it s.heap h'->Q x { s with heap:=h' }):wpAny (model prog w) A (x1a (.ref it)) Q E s:=by
 cases b with
 | true=>exact wpAny_nextOf_list_item hit ht hx hQ
 | false=>exact a5C hit ht hx hQ
theorem a3P {b:Bool}{it t:Addr}{Q:Value->Shared->Prop}(hh:A.handled=none)(hit:ItB b s.heap it t i)(ht:SeB b s.heap t items)(hx:items[i]?=none)
   (hE:∀h' e,Heap.ExtBut it s.heap h'->(∃o,h'.get? e=some o/\o.cls=.type "StopIteration")->E (.ref e) { s with heap:=h' }):wpAny (model prog w) A (x1a (.ref it)) Q E s:=by
 cases b with
 | true=>exact wpAny_nextOf_list_end hh hit ht hx hE
 | false=>exact a6U hh hit ht hx hE
theorem drawsB {b:Bool}(hh:A.handled=none)(it l:Addr)(hne:l≠it)(items:Array Value):Draws prog w A it [it,l] items.size (fun i v=>items[i]?=some v) (fun i h=>ItB b h it l i/\SeB b h l items) where
 live:=fun _ _ st=>let ⟨o,ho,_⟩:=st.1.obj;⟨o,ho⟩
 frame:=fun _ _ _ st hk=>⟨st.1.at fun o e=>hk it (by simp) o e,st.2.at fun o e=>hk l (by simp) o e⟩
 item:=fun i s Q E hi st hQ=>by
   refine a5D st.1 st.2 (x:=items[i]) (by simp [hi]) fun h' hit' hs'=>?_;exact hQ _ h' s.toks (by simp [hi]) ⟨hit',st.2.at fun o e=>hs'.extBut _ o hne e⟩ hs'
 done:=fun s Q E st hE=>a3P hh st.1 st.2 (by simp) hE
theorem a8r (l:Addr)(items:Array Value)(n:Nat)(dct:Option Addr)(sl:Array (Option Value)) :
   Meets (Builtin.«enumerate.__new__» ⟨[.type "enumerate",.ref l],[]⟩) (fun _ R s=>s.heap.get? l=some { cls:=.type "tuple",dict:=dct,data:=.seq items n,slots:=sl }/\
     R (.ok (.ret (.ref (s.heap.push { cls := .type "tuple_iterator", data := .fields #[.ref l, .int 0 0] }).objs.size)))
       { s with heap:=(s.heap.push { cls:=.type "tuple_iterator",data:=.fields #[.ref l,.int 0 0] }).push { cls:=.type "enumerate",data:=.fields #[.none,.bool false,.ref s.heap.objs.size,rawInt 0,.none,.none] } }):=
 .of_wp fun prog w A R s hyp=>by
   obtain⟨hp,g,d,tk,os⟩:=s;obtain⟨hl,fin⟩:=hyp;have hsub:=sub_enumerate;have hL:Heap.IsTuple (Shared.heap ⟨hp,g,d,tk,os⟩) l items:=⟨_,hl,rfl,n,rfl⟩
   wp_walk using x1S hl
   refine wpAny_stack_any fun st=>x0h ?_
   split
   · rename_i c _ _ _ _ _;cases(c == x1k "enumerate")
     · wp_walk using x1S hl,x2s hL
       exact⟨_,rfl,fin⟩
     · wp_walk using x1S hl,x2s hL
       exact⟨_,rfl,fin⟩
   · wp_walk using x1S hl,x2s hL
     exact⟨_,rfl,fin⟩
theorem enumT {l:Addr}{Q:Value->Shared->Prop}(hL:s.heap.IsTuple l items)
   (h:∀h',IsEnum h' (s.heap.objs.size + 1) s.heap.objs.size 0 .none->h'.IsTupleIter s.heap.objs.size l 0->(∀b o,s.heap.get? b=some o->h'.get? b=some o)->Q (.ref (s.heap.objs.size + 1)) { s with heap:=h' }) :
   wpAny (model prog w) A (call (.type "enumerate") [.ref l]) Q E s:=by
 obtain⟨⟨c,dct,dt,sl⟩,hl,hc,n,hd⟩:=hL
 replace hc:c=.type "tuple":=hc
 replace hd:dt=.seq items n:=hd
 subst hc hd;refine callType_new F.called_enumerate (by decide) (F.typeCall_enumerate_1 _) (F.newCall_enumerate_1 _) (fun obj=>F.args_object_init_2 obj _) F.entry_enumerate_new (a8r l items n dct sl) ⟨hl,?_⟩;have hz:(s.heap.push { cls:=.type "tuple_iterator",data:=.fields #[.ref l,.int 0 0] }).objs.size=s.heap.objs.size + 1:=x2J ..;show _/\_;rw [hz]
 have he:IsEnum ((s.heap.push { cls:=.type "tuple_iterator",data:=.fields #[.ref l,.int 0 0] }).push { cls:=.type "enumerate",data:=.fields #[.none,.bool false,.ref s.heap.objs.size,rawInt 0,.none,.none] }) (s.heap.objs.size + 1) s.heap.objs.size 0 .none:=by
   have:=x0y (s.heap.push { cls:=.type "tuple_iterator",data:=.fields #[.ref l,.int 0 0] }) (o:={ cls:=.type "enumerate",data:=.fields #[.none,.bool false,.ref s.heap.objs.size,rawInt 0,.none,.none] }) rfl;rw [hz] at this;exact this
 exact⟨⟨_,he,rfl⟩,h _ he ⟨_,x0d _ (x0y _ rfl),rfl,rfl⟩ fun b o x=>x0d _ (x0d _ x)⟩
theorem enumB {b:Bool}{l:Addr}{Q:Value->Shared->Prop}(hL:SeB b s.heap l items)
   (h:∀h',IsEnum h' (s.heap.objs.size + 1) s.heap.objs.size 0 .none->ItB b h' s.heap.objs.size l 0->(∀b o,s.heap.get? b=some o->h'.get? b=some o)->Q (.ref (s.heap.objs.size + 1)) { s with heap:=h' }) :
   wpAny (model prog w) A (call (.type "enumerate") [.ref l]) Q E s:=by
 cases b with
 | true=>exact call_enumerate_list hL fun h' a b _ c=>h h' a b c
 | false=>exact enumT hL h
theorem a8s {b:Bool}{e it l:Addr}{j:Nat}{i:Int}{old:Value}{Q:Option Value->Shared->Prop}(hh:A.handled=none)(he:IsEnum s.heap e it i old)(hit:ItB b s.heap it l j)(ht:SeB b s.heap l items)(hx:items[j]?=none)
   (hQ:∀h',Heap.ExtBut it s.heap h'->Q none { s with heap:=h' }):wpAny (model prog w) A (pyNext (.ref e)) Q E s:=by
 have ty:s.TypeIs (.ref e) "enumerate":=⟨_,he,rfl⟩;unfold pyNext;refine x0b (wpAny_attempt (x1f (name:=x0H "__next__") ty F.slot_enumerate_next (x1W F.slot_enumerate_next ty F.entry_enumerate_next ?_ (F.args_enumerate_next_1 _))));show wpAny _ _ (field (.ref e) 2>>=_) _ _ _;refine x0b (x2i he rfl (x:=.ref it) rfl ?_);refine x0b (a3P (A:=A.in1) hh hit ht hx fun h' x he' hx'=>?_);obtain⟨o,ho,hc⟩:=hx';exact x0b (wpAny_isInstance (T:="StopIteration") (b:=true) ⟨o,ho,hc⟩ isSubtype_stop (x0h (hQ _ he')))
end
def SqB (b:Bool)(K:x0a)(H:Hp)(a:Addr)(xs:List V):Prop:=match b with | true=>SqL K H a xs | false=>SqT K H a xs
section
variable {X:Cx}
theorem Inv.seqB {b:Bool}{a:Addr}{xs:List V}{pins:List (Addr×Obj)}{σ:St}{H:Hp}{s:Shared}(I:Inv X pins σ H s)(h:SqB b X.K H a xs):∃its:List Value,Vals xs its/\SeB b s.heap a its.toArray/\xs.length<=x0t:=by
 cases b with
 | true=>obtain⟨its,r,p,z⟩:=I.list h;exact⟨its,r,p.isList,z⟩
 | false=>obtain⟨its,r,p,z⟩:=I.tuple h;exact⟨its,r,p,z⟩
theorem Inv.seqB_inj {b:Bool}{a:Addr}{xs ys:List V}{pins:List (Addr×Obj)}{σ:St}{H:Hp}{s:Shared}(I:Inv X pins σ H s)(h:SqB b X.K H a xs)(h':SqB b X.K H a ys):xs=ys:=by
 cases b with
 | true=>exact I.list_inj h h'
 | false=>exact I.tuple_inj h h'
def IteB (b:Bool)(K:x0a)(a:Addr):It:=
 ⟨fun i H=>∃xs x,SqB b K H a xs/\xs[i]?=some x,fun i H x H'=>∃p v,H p=none/\x=.ref p/\H'=upd H p (.tup [.int i,v])/\∀xs,SqB b K H a xs->xs[i]?=some v,fun i H=>∃xs,SqB b K H a xs/\xs.length<=i⟩
theorem a5u {b:Bool}{P:x0x}{w:World}{K:x0a}{elts:List Expr}{x1}{pos:Pos}(a e it:Addr)(hne:e≠it) :
   Turn P w K (.Tuple elts x1 pos) (IteB b K a) [e,it] e (fun i h=>(∃old,IsEnum h e it i old)/\ItB b h it a i) where
 mem:=by simp
 obj:=fun i h st c hc=>by
   obtain⟨⟨old,he⟩,st⟩:=st;obtain⟨o,e1,_,d⟩:=st.obj;have hc':c=e\/c=it:=by simpa using hc
   rcases hc' with rfl | rfl
   · exact⟨_,he,fun v z=>by cases z⟩
   · exact⟨o,e1,d⟩
 keep:=fun i h h' st k=>by
   obtain⟨⟨old,he⟩,st⟩:=st;exact⟨⟨old,k e (by simp) _ he⟩,st.at fun o e=>k it (by simp) o e⟩
 item:=by
   intro X hP hw hK hc i pins s σ H E I hf st hg;subst hP hw hK;obtain⟨⟨old,he⟩,st⟩:=st;obtain⟨xs,x,hq,hx⟩:=hg;obtain⟨its,rv,p,hz⟩:=I.seqB hq;obtain⟨u,hu,ru⟩:=rv.get hx;have nla:a≠it:=st.ne p
   have nea:e≠a:=fun z=>by
     obtain⟨o,e1,c1⟩:=p.obj;rw [<- z,he] at e1;cases e1;rcases c1 with c1 | c1
     · exact absurd (show x1k "enumerate"=x1k "list" from c1) (by decide)
     · exact absurd (show x1k "enumerate"=x1k "tuple" from c1) (by decide)
   have hi:i < its.toArray.size:=by
     obtain⟨h1,_⟩:=x0n.mp hu
     simpa using h1
   refine wpAny_pyNext_enum_itemD (drawsB (A:=X.A.in1) (I.ok.hd hc) it a nla its.toArray) he ⟨st,p⟩ hi hne (by simp [hne,nea]) fun y h' tk hy he' st' ht hz' k=>?_
   have ey:y=u:=by
     have:its[i]?=some y:=by simpa using hy
     rw [hu] at this;exact(x0L this).symm
   subst ey;refine⟨_,rfl,wpAny_letOwnedTupleGo_enum (s:={ s with heap:=h',toks:=tk + 1 }) he' fun h'' he'' sb=>?_⟩;have hpe:s.heap.objs.size≠e:=Nat.ne_of_gt (x0i he);have ht'':h''.get? s.heap.objs.size=some { cls:=.type "tuple",data:=.seq #[.int i tk,y] }:=(sb.2 _ hpe).trans ht
   have k':∀c o,c∉[e,it]->s.heap.get? c=some o->h''.get? c=some o:=fun c o hb q=>by
     have hb1:c≠e:=fun z=>hb (by simp [z]);have hb2:c≠it:=fun z=>hb (by simp [z]);exact(sb.2 c hb1).trans (k c o hb1 hb2 q)
   have I1:Inv X pins σ (upd H s.heap.objs.size (.tup [.int i,x])) { s with heap:=h'',toks:=tk + 1 }:=
     I.turnedNew k' hf ⟨by show 2<=x0t;decide,[.int i tk,y],.cons ⟨_,rfl⟩ (.cons ru .nil),⟨_,ht'',rfl,_,rfl⟩⟩
   refine⟨.ref s.heap.objs.size,_,I1,rfl,⟨_,x,I.fresh,rfl,rfl,fun ys hy=>by rw [I.seqB_inj hy hq];exact hx⟩,⟨⟨y,he''⟩,st'.1.at fun o q=>(sb.2 it (Ne.symm hne)).trans q⟩,fun c hb=>?_⟩;have hb':c=e\/c=it:=by simpa using hb
   have hbs:c≠s.heap.objs.size:=by
     rcases hb' with rfl | rfl
     · exact Ne.symm hpe
     · obtain⟨o,e1,_⟩:=st.obj;exact x0o (x0i e1)
   rw [a0j hbs];exact(hf c hb).1
 done:=by
   intro X hP hw hK hc i pins s σ H E I hf st hg;subst hP hw hK;obtain⟨⟨old,he⟩,st⟩:=st;obtain⟨xs,hq,hx⟩:=hg;obtain⟨its,rv,p,hz⟩:=I.seqB hq;obtain⟨f0,f1,f2,f3,f4,f5⟩:=hf it (by simp);have hl:=rv.length;refine a8s (I.ok.hd hc) he st p (x2B (by rw [x0j];omega)) fun h' eb=>⟨rfl,I.turned (t':=s.toks) (fun c o hb e=>eb c o hb e) f0 f1 f3 f4 f5⟩
 self:=fun _ _ _ _ _ st h=>by
   obtain⟨⟨old,he⟩,_⟩:=st;exact wpAny_pyIter_enum he h
def iEnumB (b:Bool)(K:x0a)(ta:TA):TI:=fun σ H R=>ta σ H fun vs H1=>∃a,vs=[.ref a]/\(∃xs,SqB b K H1 a xs)/\R (IteB b K a) H1
theorem a7Z (b:Bool){l:Expr}{ta:TA}{p pos:Pos}{elts:List Expr}{x1}{tpos:Pos}(hg:Gl X "enumerate")(hm:X.mg "enumerate"=none)(ha:PA X [l] ta)(hs:x0P [l] X.env=[(false,eval l X.env)]:=by rfl) :
   PI X (.Tuple elts x1 tpos) (.Call (.Name "enumerate" p) [l] [] pos) (iEnumB b X.K ta):=by
 intro pins s σ H R I h;refine Call_ (a1Z I hg hm boot_enumerate (x0M (thn (ha pos pins s σ H _ I h) fun us s1 ⟨vs,H1,I1,r1,q1⟩=>?_) hs rfl));obtain⟨a,e,⟨xs,hq⟩,q⟩:=q1;subst e;obtain⟨u,rfl,ru⟩:=r1.one;obtain rfl:u=x0Y a:=ru;obtain⟨its,rv,pl,hz⟩:=I1.seqB hq;refine enumB pl fun h' hE hI hk=>?_;refine wpAny_pyIter_enum hE ?_;have I2:Inv X pins σ H1 { s1 with heap:=h' }:=I1.kept (t':=s1.toks) hk;refine⟨s1.heap.objs.size + 1,[s1.heap.objs.size + 1,s1.heap.objs.size],_,_,H1,rfl,I2,a5u a _ _ (Nat.succ_ne_self _),⟨⟨_,hE⟩,hI⟩,fun c hb=>?_,q⟩;have hb':c=s1.heap.objs.size + 1\/c=s1.heap.objs.size:=by simpa using hb
 rcases hb' with rfl | rfl
 · exact I1.fpOk (x3q _) (I1.hok.fresh (x3q _))
 · exact I1.fpOk (x0s _) (I1.hok.fresh (x0s _))
end
end L2
end
section
namespace Pu
open PySem PySem.Spec L2
section
variable {T:PotK}{ι:Type}{K:x0a}{F:ι->Cx}{e a b tg:Expr}{pe pa pb:pE}{pos:Pos}
def a6G (pe:pE):pA:=fun env n R=>pe env n fun x env1 n1=>match x with | .tup xs=>R (a4D xs) env1 n1 | _=>False
theorem a7T {p:Pos}{elts:List Expr}{x1:Nat}{tpos:Pos}(hg:∀z,Gl (F z) "enumerate")(hm:∀z,(F z).mg "enumerate"=none)(h:QE T K F e pe)(hs:a0r e=true:=by rfl)(hK:∀z,(F z).K=K:=by intro _;rfl):QI T K F (.Tuple elts x1 tpos) (.Call (.Name "enumerate" p) [e] [] pos) (a6G pe):=by
 obtain⟨t,h1,h2⟩:=h;refine⟨_,fun z=>hK z▸a7Z false (hg z) (hm z) (a0m (h1 z) a0C (a0c hs)) (by rw [a0c hs];rfl),fun C G σ H env n R Q hK hT S hp k=>?_⟩;refine h2 C G σ H env n _ _ hK hT S hp fun x env1 n1 v H1 p1 S1 r1 f1=>?_;cases x with
 | tup xs =>
   obtain⟨a,vs,rfl,t,r⟩:=r1;refine⟨a,rfl,⟨vs,t.sq⟩,k _ _ _ _ _ p1 S1 f1 ?_⟩;intro G2 H2 hk hM hp hf;have hq:SqB false K H2 a vs:=SqT.of (hk a _ t.1 t.2);have r2:Reps K G2 H2 xs vs:=Reps.mono hk hM hp _ _ r;refine⟨fun i x e=>?_,fun i hi=>⟨vs,hq,by rw [<- r.length,<- a7o];exact hi⟩⟩;obtain⟨y,ey,rfl⟩:=a3Y e;obtain⟨v,ev,rv⟩:=r2.get' ey;refine⟨⟨vs,v,hq,ev⟩,fun v' H3 y=>?_⟩;obtain⟨p,w,hn,rfl,rfl,y⟩:=y;have:=y vs hq;rw [ev] at this;cases this;exact⟨Same.lay1 hn,a2s (hf p hn) hn (.cons rfl (.one rv))⟩
 | _=>exact p1.elim
end
end Pu
end
section
namespace L2
open PySem PySem.Spec PyProof.Rows
section
variable {X:Cx}
theorem a2r:∀(xs:List V) (us:List Value),xs.length=us.length->(∀(j:Nat) (x:V) (u:Value),xs[j]?=some x->us[j]?=some u->RelV x u)->Vals xs us
 | [],[],_,_=>.nil
 | [],_::_,h,_=>by cases h
 | _::_,[],h,_=>by cases h
 | x::xs,u::us,h,hr=>.cons (hr 0 x u rfl rfl) (a2r xs us (by simpa using h) fun j x u e1 e2=>hr (j + 1) x u (by simpa using e1) (by simpa using e2))
end
end L2
end
section
namespace Pu
open PySem PySem.Spec L2
theorem a5O {te:pE}{rest:Env}{α:Type}(f:α->PV)(g:α->PV):∀(xs:List α) (s0:Option Slot) (n:Nat) (R:List PV->Nat->Prop),(∀x∈xs,∀m Q,Q (g x) (some (.v (f x))::rest) m->te (some (.v (f x))::rest) m Q)->R (xs.map g) n->a5P (gN 0) qTru te (xs.map f) (s0::rest) n R:=by
 intro xq
 induction xq with
 | nil =>
   intro _ _ _ _ h;exact h
 | cons x xs ih =>
   intro s0 n R ht h;show te (some (.v (f x))::rest) n _;refine ht x x0f n _ ?_;exact ih _ n _ (fun y hy=>ht y (x0c _ hy)) h
end Pu
end
section
namespace L2
open PySem PySem.W PyProof.Rows
namespace Kr
structure Ord (lt:Nat->Nat->Bool):Prop where
 ir:∀a,lt a a=false
 tr:∀a b c,lt a b=true->lt b c=true->lt a c=true
 nt:∀a b c,lt a c=true->lt a b=true\/lt b c=true
variable {lt:Nat->Nat->Bool}(O:Ord lt)
include O
theorem Ord.as {a b:Nat}(h:lt a b=true):lt b a=false:=by
 cases e:lt b a with
 | false=>rfl
 | true=>have:=O.tr _ _ _ h e;rw [O.ir] at this;cases this
theorem Ord.l1 {a b c:Nat}(h1:lt a b=true)(h2:lt c b=false):lt a c=true:=by
 rcases O.nt a c b h1 with h | h
 · exact h
 · rw [h2] at h;cases h
theorem Ord.l2 {a b c:Nat}(h1:lt b a=false)(h2:lt b c=true):lt a c=true:=by
 rcases O.nt b a c h2 with h | h
 · rw [h1] at h;cases h
 · exact h
omit O
def g (p:Array Nat)(i:Nat):Nat:=p.getD i 0
include O
omit O
def En (n:Nat)(p:Array Nat):Prop:=0 < n/\∀x∈p,x < n
theorem En.g {n:Nat}{p:Array Nat}(h:En n p)(i:Nat):p.getD i 0 < n:=by
 by_cases c:i < p.size
 · rw [show p.getD i 0=p[i] by simp [Array.getD,c]];exact h.2 _ (Array.getElem_mem c)
 · rw [show p.getD i 0=0 by simp [Array.getD,c]];exact h.1
end Kr
end L2
end
section
namespace L2
open PySem PySem.W PySem.Spec PyProof.Rows
section
variable {prog:x0x}{w:World}{A:Around}{E:Value->Shared->Prop}{s:Shared}
def a8x (h h1:Heap)(a:Addr):Prop:=∀b o,b≠a->h.get? b=some o->h1.get? b=some o
end
end L2
end
section
namespace L2
open PySem PySem.W PySem.Spec PyProof.Rows
def a2F:Key->Key->Bool
 | .inl a,.inl b=>decide (a < b)
 | .inr a,.inr b=>decide (a.cps.toList < b.cps.toList)
 | .inl _,.inr _=>true
 | .inr _,.inl _=>false
def lexK:List Key->List Key->Bool
 | [],[]=>false
 | [],_::_=>true
 | _::_,[]=>false
 | x::xs,y::ys=>if x=y then lexK xs ys else a2F x y
theorem a5c (x:Key):a2F x x=false:=by
 cases x with
 | inl a=>exact decide_eq_false (Int.lt_irrefl a)
 | inr a=>exact decide_eq_false (List.lt_irrefl _)
def Al:List Key->List Key->Prop
 | .inl _::xs,.inl _::ys=>Al xs ys
 | .inr _::xs,.inr _::ys=>Al xs ys
 | _::_,_::_=>False
 | _,_=>True
def KeyV:Key->Value->Prop
 | .inl i,v=>∃t,v=.int i t
 | .inr z,v=>∃t,v=.str z t
inductive a4M:List Key->List Value->Prop
 | nil:a4M [] []
 | cons {k v ks vs} (h:KeyV k v) (t:a4M ks vs):a4M (k::ks) (v::vs)
section
variable {prog:x0x}{w:World}{A:Around}{E:Value->Shared->Prop}{s:Shared}
variable {y:Key}{v:Value}
theorem a5L {x:Key}{u:Value}{xs ys:List Key}{Q:Bool->Shared->Prop}(hx:KeyV x u)(hy:KeyV y v)(al:Al (x::xs) (y::ys))(h:Q (decide (x=y)) s):wpAny (model prog w) A (eqBool u v) Q E s:=by
 cases x with
 | inl a =>
   cases y with
   | inl b =>
     obtain⟨t,rfl⟩:=hx;obtain⟨t',rfl⟩:=hy;refine wpAny_eqBool_int ?_
     have e:(a == b)=decide ((x3m a:Key)=.inl b):=by
       rw [x1I];exact decide_eq_decide.mpr ⟨fun e=>by rw [e],fun e=>by injection e⟩
     rw [e];exact h
   | inr b=>exact al.elim
 | inr a =>
   cases y with
   | inl b=>exact al.elim
   | inr b =>
     obtain⟨t,rfl⟩:=hx;obtain⟨t',rfl⟩:=hy;refine eqBool_str ?_
     have e:(a == b)=decide ((x3n a:Key)=.inr b):=by
       rw [x1I];exact decide_eq_decide.mpr ⟨fun e=>by rw [e],fun e=>by injection e⟩
     rw [e];exact h
theorem lt_key {x:Key}{u:Value}{xs ys:List Key}{Q:Value->Shared->Prop}(hx:KeyV x u)(hy:KeyV y v)(al:Al (x::xs) (y::ys))(h:Q (.bool (a2F x y)) s):wpAny (model prog w) A (x2K .Lt u v) Q E s:=by
 cases x with
 | inl a =>
   cases y with
   | inl b =>
     obtain⟨t,rfl⟩:=hx;obtain⟨t',rfl⟩:=hy;exact PyProof.Rows.lt_int h
   | inr b=>exact al.elim
 | inr a =>
   cases y with
   | inl b=>exact al.elim
   | inr b =>
     obtain⟨t,rfl⟩:=hx;obtain⟨t',rfl⟩:=hy;exact PyProof.Rows.lt_str h
theorem a2D {x:Key}{u:Value}{xs ys:List Key}{b:Bool}{Q:Bool->Shared->Prop}(hx:KeyV x u)(hy:KeyV y v)(al:Al (x::xs) (y::ys))(h:Q (a2F x y) s):wpAny (model prog w) A (oneLt' b u v) Q E s:=by
 cases b with
 | false=>exact kat_one u v (lt_key hx hy al h)
 | true =>
   cases x with
   | inl a =>
     cases y with
     | inl b =>
       obtain⟨t,rfl⟩:=hx;obtain⟨t',rfl⟩:=hy;exact oneLt_int h
     | inr b=>exact al.elim
   | inr a =>
     cases y with
     | inl b=>exact al.elim
     | inr b =>
       obtain⟨t,rfl⟩:=hx;obtain⟨t',rfl⟩:=hy;exact oneLt_str h
theorem b0r {b fin:Bool}{Q:Bool->Shared->Prop}:∀{xs ys:List Key} {us vs:List Value} (i:Nat),a4M xs us->a4M ys vs->Al xs ys->fin=decide (us.length < vs.length)->Q (lexK xs ys) s->KatLex prog w A b fin Q (us.zip vs) i s:=by
 intro xs
 induction xs with
 | nil =>
   intro ys us vs i hx hy al hf h;cases hx;refine kat_nil ?_;cases hy with
   | nil=>rw [hf];exact h
   | cons _ _=>rw [hf];exact h
 | cons x xs ih =>
   intro ys us vs i hx hy al hf h;cases hx with
   | @cons _ u _ us' hx1 hx2 =>
     cases hy with
     | nil=>rw [List.zip_nil_right];refine kat_nil ?_;rw [hf];exact h
     | @cons y v ys' vs' hy1 hy2 =>
       rw [x1J];refine kat_cons (a5L hx1 hy1 al ?_);have h':Q (if x=y then lexK xs ys' else a2F x y) s:=h
       by_cases c:x=y
       · rw [decide_eq_true c];rw [if_pos c] at h';refine kat_yes (ih (i + 1) hx2 hy2 ?_ ?_ h')
         · cases x <;> cases y <;> first | exact al | exact al.elim
         · rw [hf,x0D,x0D];exact decide_eq_decide.mpr (by omega)
       · rw [decide_eq_false c];rw [if_neg c] at h';exact kat_no (a2D hx1 hy1 al h')
def TupK (h:Heap)(v:Value)(ks:List Key):Prop:=∃a o items n,v=.ref a/\h.get? a=some o/\o.cls=.type "tuple"/\o.data=.seq items n/\a4M ks items.toList
theorem b0Q {b:Bool}{u:Value}{xs ys:List Key}{Q:Bool->Shared->Prop}(hx:TupK s.heap u xs)(hy:TupK s.heap v ys)(al:Al xs ys)(h:Q (lexK xs ys) s):wpAny (model prog w) A (keyLt' (tuples' b) u v) Q E s:=by
 obtain⟨a,o,items,n,rfl,ho,hc,hd,hk⟩:=hx;obtain⟨a',o',items',n',rfl,ho',hc',hd',hk'⟩:=hy;exact kat_lt ho hd ho' hd' (b0r 0 hk hk' al (by rw [x1A,x1A]) h)
end
end L2
end
section
namespace L2
open PySem PySem.W PySem.Spec PyProof.Rows
theorem a3u:∀{ks:List Key} {us:List Value},Vals (ks.map kV) us->a4M ks us
 | [],_,h=>by cases h;exact .nil
 | .inl i :: ks, _, h => by
   cases h with
   | cons h1 h2=>exact .cons h1 (a3u h2)
 | .inr z :: ks, _, h => by
   cases h with
   | cons h1 h2=>exact .cons h1 (a3u h2)
section
variable {X:Cx}
variable {ks:List Key}{kss:List (List Key)}
theorem a9l {pins:List (Addr×Obj)}{σ:St}{H:Hp}{s:Shared}(I:Inv X pins σ H s){a:Addr}(h:SqT X.K H a (ks.map kV)):TupK s.heap (.ref a) ks:=by
 obtain⟨its,r,⟨o,ho,hc,n,hd⟩,_⟩:=I.tuple h;exact⟨a,o,its.toArray,n,rfl,ho,hc,hd,a3u r⟩
theorem TupK.keep {h h':Heap}{v:Value}(t:TupK h v ks)(k:∀b o,h.get? b=some o->h'.get? b=some o):TupK h' v ks:=by
 obtain⟨a,o,its,n,e,ho,hc,hd,hk⟩:=t;exact⟨a,o,its,n,e,k _ _ ho,hc,hd,hk⟩
def KM (K:x0a)(H:Hp):Nat->V->List Key->Prop
 | 0,y,ks=>∃i,y=.int i/\ks=[.inl i]
 | 1,y,ks=>∃z,y=.str z/\ks=[.inr z]
 | _,y,ks=>∃a,y=.ref a/\SqT K H a (ks.map kV)/\ks≠[]
def Kv1 (h:Heap):Nat->Value->List Key->Prop
 | 0,u,ks=>∃i t,u=.int i t/\ks=[.inl i]
 | 1,u,ks=>∃z t,u=.str z t/\ks=[.inr z]
 | _,u,ks=>TupK h u ks/\ks≠[]
def ltIx (kss:List (List Key))(i j:Nat):Bool:=lexK (kss.getD i []) (kss.getD j [])
def b0U (kss:List (List Key)):Prop:=∀x∈kss,∀y∈kss,Al x y
theorem kv1_of {pins:List (Addr×Obj)}{σ:St}{H:Hp}{s:Shared}(I:Inv X pins σ H s)(m:Nat){ys:List V}{vs:List Value}(a:Vals ys vs)(b:Paired (KM X.K H m) ys kss):Paired (Kv1 s.heap m) vs kss:=by
 induction a generalizing kss with
 | nil=>cases b;exact .nil
 | cons h1 _ ih => cases b with
   | cons h2 r2 =>
     refine .cons ?_ (ih r2);rcases m with _ | _ | m
     · obtain⟨i,e1,e2⟩:=h2;subst e1;obtain⟨t,rfl⟩:=h1;exact⟨i,t,rfl,e2⟩
     · obtain⟨i,e1,e2⟩:=h2;subst e1;obtain⟨t,rfl⟩:=h1;exact⟨i,t,rfl,e2⟩
     · obtain⟨a,e1,e2,e3⟩:=h2;subst e1;cases h1;exact⟨a9l I e2,e3⟩
theorem Kv1.keep {h h':Heap}(k:∀b o,h.get? b=some o->h'.get? b=some o)(m:Nat){u:Value}(x:Kv1 h m u ks):Kv1 h' m u ks:=by
 match m,x with
 | 0,x=>exact x
 | 1,x=>exact x
 | _ + 2,x=>exact⟨x.1.keep k,x.2⟩
theorem a0V {α β:Type}{F:α->β->Prop}{xs:List α}{ys:List β}(h:Paired F xs ys)(d:α)(e:β):∀i,i < xs.length->F (xs.getD i d) (ys.getD i e):=by
 induction h with
 | nil=>intro i hi;exact absurd hi (Nat.not_lt_zero _)
 | cons h1 _ ih =>
   intro i hi;cases i with
   | zero=>exact h1
   | succ i=>exact ih i (Nat.lt_of_succ_lt_succ hi)
theorem a2A {α β:Type}{F:α->β->Prop}{xs:List α}{ys:List β}(h:Paired F xs ys):∀x∈xs,∃y∈ys,F x y:=by
 induction h with
 | nil=>intro x hx;cases hx
 | cons h1 _ ih =>
   intro x hx;rcases x0q.mp hx with rfl | hx
   · exact⟨_,x0f,h1⟩
   · obtain⟨y,hy,hf⟩:=ih x hx;exact⟨y,x0c _ hy,hf⟩
theorem a4m {h:Heap}{m:Nat}{vs:List Value}(p:Paired (Kv1 h (m + 2)) vs kss):∃fs,KatTups h vs fs/\fs.length=vs.length/\∀f∈fs,∃k r,(k::r)∈kss/\KeyV k f:=by
 induction p with
 | nil=>exact⟨[],trivial,rfl,fun _ z=>nomatch z⟩
 | cons h1 _ ih =>
   obtain⟨⟨a,o,its,n,rfl,ho,hc,hd,hk⟩,hne⟩:=h1;obtain⟨fs,t,hl,hf⟩:=ih;cases e:its.toList with
   | nil=>rw [e] at hk;cases hk;exact absurd rfl hne
   | cons f us =>
     rw [e] at hk;cases hk with
     | @cons k _ ks _ h2 h3 =>
       have ef:its[0]?=some f:=by rw [<- x2M,e];rfl
       refine⟨f::fs,KatTups.cons ho hc hd ef t,by rw [x0D,x0D,hl],fun g hg=>?_⟩;rcases x0q.mp hg with rfl | hg
       · exact⟨k,ks,x0f,h2⟩
       · obtain⟨k',r',h4,h5⟩:=hf g hg;exact⟨k',r',x0c _ h4,h5⟩
theorem a6j {prog:x0x}{w:World}{s:Shared}{m:Nat}{vs:List Value}(h2:2<=vs.length)(p:Paired (Kv1 s.heap m) vs kss)(al:b0U kss)(A:Around)(E:Value->Shared->Prop)(h1:Heap)(tk:Nat)(k:∀b o,s.heap.get? b=some o->h1.get? b=some o) :
   ∃κ,(∀Q:x3e->Shared->Prop,Q κ { s with heap:=h1,toks:=tk }->wpAny (model prog w) A (keyKind' vs.toArray) Q E { s with heap:=h1,toks:=tk })/\∀i j (C:Bool->Shared->Prop),i < vs.length->j < vs.length->C (ltIx kss i j) { s with heap:=h1,toks:=tk }->kas_ask prog w A κ vs i j C { s with heap:=h1,toks:=tk }:=by
 have p1:Paired (Kv1 h1 m) vs kss:=Paired.imp' (fun _ _ x=>x.keep k m) p;have lk:=x3o p1
 have mem:∀i,i < vs.length->kss.getD i []∈kss:=fun i hi=>by
   rw [x0v,x0k (by omega)];exact x2g _
 match m,p1 with
 | 0, p1 =>
   refine⟨oneType',fun Q q=>kas_kind (T:=.type "int") h2 (fun v hv=>?_) rfl rfl q,fun i j C hi hj c=>?_⟩
   · obtain⟨ks,_,i,t,rfl,_⟩:=a2A p1 v hv;exact Looks.of_pure rfl
   · obtain⟨a,t,e1,e2⟩:=a0V p1 .none [] i hi;obtain⟨b,t',e3,e4⟩:=a0V p1 .none [] j hj;unfold kas_ask;unfold ltIx at c;rw [e1,e3,keyLt'_oneType];rw [e2,e4] at c;refine a2D (x:=.inl a) (y:=.inl b) (xs:=[]) (ys:=[]) ⟨t,rfl⟩ ⟨t',rfl⟩ trivial ?_
     have e:lexK [.inl a] [.inl b]=a2F (.inl a) (.inl b):=by
       show(if(x3m a:Key)=.inl b then false else a2F (.inl a) (.inl b))=_
       by_cases c:(x3m a:Key)=.inl b
       · rw [if_pos c,c,a5c]
       · rw [if_neg c]
     rw [<- e];exact c
 | 1, p1 =>
   refine⟨oneType',fun Q q=>kas_kind (T:=.type "str") h2 (fun v hv=>?_) rfl rfl q,fun i j C hi hj c=>?_⟩
   · obtain⟨ks,_,i,t,rfl,_⟩:=a2A p1 v hv;exact Looks.of_pure rfl
   · obtain⟨a,t,e1,e2⟩:=a0V p1 .none [] i hi;obtain⟨b,t',e3,e4⟩:=a0V p1 .none [] j hj;unfold kas_ask;unfold ltIx at c;rw [e1,e3,keyLt'_oneType];rw [e2,e4] at c;refine a2D (x:=.inr a) (y:=.inr b) (xs:=[]) (ys:=[]) ⟨t,rfl⟩ ⟨t',rfl⟩ trivial ?_
     have e:lexK [.inr a] [.inr b]=a2F (.inr a) (.inr b):=by
       show(if(x3n a:Key)=.inr b then false else a2F (.inr a) (.inr b))=_
       by_cases c:(x3n a:Key)=.inr b
       · rw [if_pos c,c,a5c]
       · rw [if_neg c]
     rw [<- e];exact c
 | m' + 2, p1 =>
   obtain⟨fs,kt,fl,hf⟩:=a4m p1
   have asks:∀b i j (C:Bool->Shared->Prop),i < vs.length->j < vs.length->C (ltIx kss i j) { s with heap:=h1,toks:=tk }->kas_ask prog w A (tuples' b) vs i j C { s with heap:=h1,toks:=tk }:=fun b i j C hi hj c=>by
     have x1:=a0V p1 .none [] i hi;have x2:=a0V p1 .none [] j hj;exact b0Q (s:={ s with heap:=h1,toks:=tk }) x1.1 x2.1 (al _ (mem i hi) _ (mem j hj)) c
   obtain⟨f0,fr,rfl⟩:∃f0 fr,fs=f0::fr:=by
     cases fs with
     | nil=>rw [<- fl] at h2;exact absurd h2 (by simp)
     | cons a r=>exact⟨a,r,rfl⟩
   obtain⟨k0,r0,m0,v0⟩:=hf f0 x0f
   have all:∀T:String,(∀f k r,(k::r)∈kss->KeyV k f->typeOf f=pure (.type T))->∀v∈f0::fr,Looks (model prog w) h1 (typeOf v) (.type T):=fun T hT v hv=>by
     obtain⟨k,r,h3,h4⟩:=hf v hv;exact Looks.of_pure (hT v k r h3 h4)
   cases k0 with
   | inl i0 =>
     refine⟨tuples' (x1k "int" != x1k "tuple"),fun Q q=>kat_kind (s:={ s with heap:=h1,toks:=tk }) kt (by simp) (all "int" fun f k r h3 h4=>?_) rfl q,asks _⟩;cases k with
     | inl i=>obtain⟨t,rfl⟩:=h4;rfl
     | inr z=>exact(al _ m0 _ h3).elim
   | inr i0 =>
     refine⟨tuples' (x1k "str" != x1k "tuple"),fun Q q=>kat_kind (s:={ s with heap:=h1,toks:=tk }) kt (by simp) (all "str" fun f k r h3 h4=>?_) rfl q,asks _⟩;cases k with
     | inr i=>obtain⟨t,rfl⟩:=h4;rfl
     | inl z=>exact(al _ m0 _ h3).elim
end
end L2
end
section
namespace Pu
open PySem PySem.Spec L2
def kP:Key->PV
 | .inl i=>.int i
 | .inr z=>.str z
def a1a:List PV->Option (List Key)
 | []=>some []
 | .int i::r=>(a1a r).map (.inl i::·)
 | .str z::r=>(a1a r).map (.inr z::·)
 | _=>none
def keyP:PV->List Key
 | .int i=>[.inl i]
 | .str z=>[.inr z]
 | .tup xs=>(a1a xs).getD []
 | _=>[]
theorem a2G:∀ks:List Key,a1a (ks.map kP)=some ks
 | []=>rfl
 | .inl i::r=>by show(a1a (r.map kP)).map _=_;rw [a2G r];rfl
 | .inr i::r=>by show(a1a (r.map kP)).map _=_;rw [a2G r];rfl
theorem a8k (ks:List Key):keyP (.tup (ks.map kP))=ks:=by show(a1a (ks.map kP)).getD []=_;rw [a2G];rfl
theorem a1V {K:x0a}{G:Gh}{H:Hp}:∀(ks:List Key) {us:List V},Reps K G H (ks.map kP) us->us=ks.map kV
 | [],_,h=>h
 | .inl i :: r, _, h => by
   obtain⟨v,t,rfl,h1,h2⟩:=h;rw [a1V r h2,show v=.int i from h1];rfl
 | .inr i :: r, _, h => by
   obtain⟨v,t,rfl,h1,h2⟩:=h;rw [a1V r h2,show v=.str i from h1];rfl
theorem a2i:∀{xs:List PV} {ks:List Key},a1a xs=some ks->xs=ks.map kP
 | [],ks,h=>by cases h;rfl
 | .int i :: r, ks, h => by
   cases e:a1a r with
   | none=>simp [a1a,e] at h
   | some t=>simp [a1a,e] at h;subst h;rw [a2i e];rfl
 | .str i :: r, ks, h => by
   cases e:a1a r with
   | none=>simp [a1a,e] at h
   | some t=>simp [a1a,e] at h;subst h;rw [a2i e];rfl
 | .non::_,_,h=>by cases h
 | .bl _::_,_,h=>by cases h
 | .ty _::_,_,h=>by cases h
 | .pot _::_,_,h=>by cases h
 | .tup _::_,_,h=>by cases h
 | .lst _::_,_,h=>by cases h
 | .scr _::_,_,h=>by cases h
 | .dct _ _::_,_,h=>by cases h
section
variable {T:PotK}{ι:Type}{K:x0a}{F:ι->Cx}{e:Expr}{pe:pE}{pos:Pos}
def a5q (xs:List PV):Prop:=(∀x∈xs,∃i,x=.int i)\/(∀x∈xs,∃z,x=.str z)\/((∀x∈xs,∃ks,x=.tup (ks.map kP)/\ks≠[])/\∀x∈xs,∀y∈xs,Al (keyP x) (keyP y))
theorem a1O {G:Gh}{H:Hp}{P:PV->V->List Key->Prop}:∀(xs:List PV) {us:List V},Reps K G H xs us->(∀x∈xs,∀v,Rep K G H x v->P x v (keyP x))->Paired (fun v ks=>∃x,x∈xs/\P x v ks) us (xs.map keyP):=by
 intro xq
 induction xq with
 | nil =>
   intro _ h _;cases h;exact .nil
 | cons x xs ih =>
   intro _ h hP;obtain⟨v,t,rfl,h1,h2⟩:=h;refine .cons ⟨x,x0f,hP x x0f v h1⟩ ?_;exact Paired.imp' (fun v ks ⟨y,hy,hp⟩=>⟨y,x0c _ hy,hp⟩) (ih h2 fun y hy=>hP y (x0c _ hy))
theorem km_of {G:Gh}{H:Hp}{xs:List PV}{us:List V}(r:Reps K G H xs us)(h:a5q xs):∃m,Paired (KM K H m) us (xs.map keyP)/\b0U (xs.map keyP):=by
 rcases h with h | h | ⟨h,h'⟩
 · refine⟨0,Paired.imp' (fun v ks ⟨_,_,hp⟩=>hp) (a1O (P:=fun _ v ks=>KM K H 0 v ks) xs r fun x hx v hv=>?_),fun a ha b hb=>?_⟩
   · obtain⟨i,rfl⟩:=h x hx;exact⟨i,hv,rfl⟩
   · obtain⟨x,hx,rfl⟩:=x1b.mp ha;obtain⟨y,hy,rfl⟩:=x1b.mp hb;obtain⟨i,rfl⟩:=h x hx;obtain⟨j,rfl⟩:=h y hy;exact trivial
 · refine⟨1,Paired.imp' (fun v ks ⟨_,_,hp⟩=>hp) (a1O (P:=fun _ v ks=>KM K H 1 v ks) xs r fun x hx v hv=>?_),fun a ha b hb=>?_⟩
   · obtain⟨i,rfl⟩:=h x hx;exact⟨i,hv,rfl⟩
   · obtain⟨x,hx,rfl⟩:=x1b.mp ha;obtain⟨y,hy,rfl⟩:=x1b.mp hb;obtain⟨i,rfl⟩:=h x hx;obtain⟨j,rfl⟩:=h y hy;exact trivial
 · refine⟨2,Paired.imp' (fun v ks ⟨_,_,hp⟩=>hp) (a1O (P:=fun _ v ks=>KM K H 2 v ks) xs r fun x hx v hv=>?_),fun a ha b hb=>?_⟩
   · obtain⟨ks,rfl,hne⟩:=h x hx;obtain⟨a,vs,rfl,at',rr⟩:=hv;rw [a8k];refine⟨a,rfl,?_,hne⟩;rw [a1V ks rr] at at';exact SqT.of at'.2
   · obtain⟨x,hx,rfl⟩:=x1b.mp ha;obtain⟨y,hy,rfl⟩:=x1b.mp hb;exact h' x hx y hy
theorem a6p {G:Gh}{H:Hp}{xs:List PV}{us:List V}(r:Reps K G H xs us)(i:Nat)(hi:i < xs.length):Rep K G H (xs.getD i .non) (us.getD i .non):=by
 induction xs generalizing us i with
 | nil=>exact absurd hi (Nat.not_lt_zero _)
 | cons x xs ih =>
   obtain⟨v,t,rfl,h1,h2⟩:=r;cases i with
   | zero=>exact h1
   | succ i=>exact ih h2 i (Nat.lt_of_succ_lt_succ hi)
end
end Pu
end
section
namespace Pu
open PySem PySem.Spec L2
def a0U {κ:Type}[DecidableEq κ](ks:List κ)(k:κ):List κ:=if k∈ks then ks else ks++[k]
def a2P {κ α:Type}[DecidableEq κ](ks:List κ)(xs:List α)(k:κ)(x:α):List α:=if k∈ks then(ks.zip xs).map (fun p=>if p.1=k then x else p.2) else xs++[x]
theorem a9U {κ:Type}[DecidableEq κ]{ks:List κ}{vs:List V}(h:ks.length=vs.length)(k:κ)(v:V):putK (ks.zip vs) k v=(a0U ks k).zip (a2P ks vs k v):=by
 have any:((ks.zip vs).any fun kv=>decide (kv.1=k))=decide (k∈ks):=by
   clear v
   induction ks generalizing vs with
   | nil=>simp
   | cons a ks ih =>
     cases vs with
     | nil=>cases h
     | cons b vs =>
       rw [x1J,List.any_cons,ih (by simpa using h)]
       by_cases c:a=k
       · subst c;simp
       · by_cases d:k∈ks
         · simp [d]
         · have:¬k=a:=fun e=>c e.symm;simp [c,d,this]
 unfold putK a0U a2P;rw [any]
 by_cases c:k∈ks
 · rw [if_pos (decide_eq_true c),if_pos c,if_pos c];clear any c
   induction ks generalizing vs with
   | nil=>simp
   | cons a ks ih =>
     cases vs with
     | nil=>cases h
     | cons b vs =>
       simp only [x1J,x1v];rw [ih (by simpa using h)]
       split <;> rfl
 · rw [if_neg (by simpa using c),if_neg c,if_neg c,List.zip_append h];rfl
theorem a6I {κ α:Type}[DecidableEq κ]{ks:List κ}{xs:List α}(h:ks.length=xs.length)(k:κ)(x:α):(a0U ks k).length=(a2P ks xs k x).length:=by
 unfold a0U a2P
 by_cases c:k∈ks
 · rw [if_pos c,if_pos c,x0e,List.length_zip];omega
 · rw [if_neg c,if_neg c,x0l,x0l,h];rfl
theorem a7N {κ:Type}[DecidableEq κ]{K:x0a}{G:Gh}{H:Hp}{ks:List κ}{xs:List PV}{vs:List V}(r:Reps K G H xs vs)(h:ks.length=xs.length)(k:κ){x:PV}{v:V}(rx:Rep K G H x v):Reps K G H (a2P ks xs k x) (a2P ks vs k v):=by
 unfold a2P
 by_cases c:k∈ks
 · rw [if_pos c,if_pos c];clear c
   induction ks generalizing xs vs with
   | nil=>exact rfl
   | cons a ks ih =>
     cases xs with
     | nil=>cases h
     | cons y ys =>
       obtain⟨u,t,rfl,h1,h2⟩:=r;refine⟨_,_,rfl,?_,ih h2 (by simpa using h)⟩;show Rep K G H (if a=k then x else y) (if a=k then v else u)
       by_cases d:a=k
       · rw [if_pos d,if_pos d];exact rx
       · rw [if_neg d,if_neg d];exact h1
 · rw [if_neg c,if_neg c];exact r.append ⟨v,[],rfl,rx,rfl⟩
end Pu
end
section
namespace Pu
open PySem PySem.Spec L2
def frzS:Slot->Option Slot
 | .v x=>some (.v x)
 | .ow .lst xs=>some (.v (.lst xs))
 | .ow (.dk ks) xs=>if ks.length=xs.length then some (.v (.dct ks xs)) else none
 | .ow (.dt _) _=>none
 | .ow (.st _) _=>none
def frz (env:Env):Env:=env.map fun o=>o.bind frzS
def a7z (T:PotK):Prop:=∀M M' H p n,T.at_ M H p n->(∀a∈M',a∈M\/∃o,H a=some o/\MutO o)->T.at_ M' H p n
theorem SR.lend {C:Ct}{G:Gh}{σ:St}{H:Hp}{env:Env}{n:Nat}(S:SR C G σ H env n):SR ⟨C.K,C.T,G.pots,G.pots,H,C.np⟩ ⟨G.pots,G.pots⟩ σ H (frz env) n where
 frame _ _ _ e:=e
 sub a ha:=.inl ha
 sup a ha:=ha
 pots p hp:=⟨hp,C.T.more (S.pots p hp).2 fun b hb=>.inl (S.pots b hb).1⟩
 pre:=⟨[],(x1e _).symm,.inl rfl⟩
 mu a ha:=S.mu a (S.pots a ha).1
 slots i s e:=by
   have mm:∀{x:PV} {v:V},Rep C.K G H x v->Rep C.K ⟨G.pots,G.pots⟩ H x v:=fun r=>Rep.mono (G':=⟨G.pots,G.pots⟩) (fun _ _ _ e=>e) (fun b hb=>.inl (S.pots b hb).1) (fun _ _ e=>e) _ _ r;have mms:∀{x:List PV} {v:List V},Reps C.K G H x v->Reps C.K ⟨G.pots,G.pots⟩ H x v:=fun r=>Reps.mono (G':=⟨G.pots,G.pots⟩) (fun _ _ _ e=>e) (fun b hb=>.inl (S.pots b hb).1) (fun _ _ e=>e) _ _ r;unfold frz at e;rw [x0p] at e;cases h:env[i]? with
   | none=>rw [h] at e;cases e
   | some o =>
     rw [h] at e;cases o with
     | none=>cases e
     | some t =>
       have q:=S.slots i t h;have e':frzS t=some s:=by simpa using e
       cases t with
       | v x =>
         cases e';obtain⟨v,e1,r⟩:=q;exact⟨v,e1,mm r⟩
       | ow k xs =>
         obtain⟨a,vs,ev,h1,h2,h3,h4,r⟩:=q;cases k with
         | lst=>cases e';exact⟨.ref a,ev,a,vs,rfl,⟨h3,h4⟩,mms r⟩
         | dk ks =>
           have e':(if ks.length=xs.length then some (Slot.v (.dct ks xs)) else none)=some s:=e'
           split at e'
           · rename_i hl;cases e';have hlv:ks.length=vs.length:=by rw [hl];exact r.length
             refine⟨.ref a,ev,a,ks.zip vs,rfl,h3,h4,List.map_fst_zip (x3d hlv),?_⟩;rw [List.map_snd_zip (x3d hlv.symm)];exact mms r
           · cases e'
         | dt ks=>cases e'
         | st ks=>cases e'
 inj i j xs ys a e1:=by
   have:∀o:Option Slot,o.bind frzS≠some (.ow xs.1 xs.2):=by
     intro o z;cases o with
     | none=>cases z
     | some t =>
       cases t with
       | v x=>cases z
       | ow k ys =>
         cases k with
         | lst=>cases z
         | dk ks =>
           have z:(if ks.length=ys.length then some (Slot.v (.dct ks ys)) else none)=some (.ow xs.1 xs.2):=z
           split at z <;> cases z
         | dt ks=>cases z
         | st ks=>cases z
   unfold frz at e1;rw [x0p] at e1;cases h:env[i]? with
   | none=>rw [h] at e1;cases e1
   | some o=>rw [h] at e1;exact absurd (x0L e1) (this o)
 p0:=⟨fun p hp=>hp,S.hasG⟩
 len:=by unfold frz;rw [x0e];exact S.len
 newp p hp h:=absurd hp h
theorem SR.back {C:Ct}{G:Gh}{σ:St}{H H':Hp}{env env':Env}{n n':Nat}(hT:a7z C.T)(S:SR C G σ H env n)(S':SR ⟨C.K,C.T,G.pots,G.pots,H,C.np⟩ ⟨G.pots,G.pots⟩ σ H' env' n'):SR C G σ H' env n':=
 S.call (fun b o hb e=>S'.frame b o hb e) fun p hp=>hT _ _ _ _ _ (S'.pots p hp).2 fun a ha=>by
   by_cases h:a∈G.pots
   · exact .inl h
   · obtain⟨o,e,m⟩:=S.mu a ha;exact .inr ⟨o,S'.frame a o h e,m⟩
def a7W (pe:pE):pE:=fun env n R=>pe (frz env) n fun x env' n'=>noMut x=true/\R x env n'
section
variable {T:PotK}{ι:Type}{K:x0a}{F:ι->Cx}{e:Expr}{pe:pE}{pn:pA}
theorem a6y (hT:a7z T)(h:QE T K F e pe):QE T K F e (a7W pe):=by
 obtain⟨t,h1,h2⟩:=h;refine⟨t,h1,fun C G σ H env n R Q hK hT' S hp k=>?_⟩;refine h2 ⟨C.K,C.T,G.pots,G.pots,H,C.np⟩ ⟨G.pots,G.pots⟩ σ H (frz env) n _ _ hK hT' S.lend hp fun x env' n' v H' r S' rp f=>?_;have S2:=S.back (by rw [hT'];exact hT) S';exact k _ _ _ _ _ r.2 S2 (Rep.noMut S2.mu _ _ r.1 rp) fun b o hb e=>S'.frame b o (fun z=>hb (S.pots b z).1) e
end
theorem a1W:a7z potL:=fun _ _ _ _ _ h _=>h
end Pu
end
section
namespace Pu
open PySem PySem.Spec L2
abbrev pSlN:=Env->Nat->(List Slot->Env->Nat->Prop)->Prop
def a9w:pSlN:=fun env n R=>R [] env n
def a3H (s:pSl)(r:pSlN):pSlN:=fun env n R=>s env n fun a env1 n1=>r env1 n1 fun ss env2 n2=>R (a::ss) env2 n2
def setAll:List Nat->List Slot->Env->Env
 | i::is,s::ss,env=>setAll is ss (env.set i (some s))
 | _,_,env=>env
def a6l:List Nat->List V->St->St
 | i::is,v::vs,σ=>a6l is vs (σ.set i (some v))
 | _,_,σ=>σ
def Gots (C:Ct)(G:Gh)(H:Hp)(σ:St)(env:Env):List Slot->List V->Prop
 | [],vs=>vs=[]
 | s::ss,vs=>∃v r,vs=v::r/\Got C G H σ env s v/\(∀(xs:OK×List PV) a,s=.ow xs.1 xs.2->v=.ref a->∀(ys:OK×List PV) w,(Slot.ow ys.1 ys.2,w)∈ss.zip r->w≠.ref a)/\Gots C G H σ env ss r
def LsOk (K:x0a)(T:PotK)(t:TA)(sl:pSlN):Prop:=∀(C:Ct) (G:Gh) (σ:St) (H:Hp) (env:Env) (n:Nat) (R:List Slot->Env->Nat->Prop) (Q:List V->Hp->Prop),C.K=K->C.T=T->SR C G σ H env n->sl env n R->
 (∀ss env' n' vs G' H',R ss env' n'->SR C G' σ H' env' n'->Ext G H G' H'->Gots C G' H' σ env' ss vs->Q vs H')->t σ H Q
def QLs {ι:Type}(T:PotK)(K:x0a)(F:ι->Cx)(es:List Expr)(sl:pSlN):Prop:=∃t,(∀z,PA (F z) es t)/\LsOk K T t sl
section
variable {T:PotK}{np:Bool}{ι:Type}{K:x0a}{F:ι->Cx}{e:Expr}{es:List Expr}{st:Stmt}{s1:pSl}{sl:pSlN}{pos:Pos}
theorem a9L:QLs T K F [] a9w:=⟨tNil,fun z=>a0C,fun C G σ H env n R Q hK hT S hp k=>k _ _ _ _ _ _ hp S Ext.refl rfl⟩
theorem Gots.unguard {C:Ct}{G:Gh}{H:Hp}{σ:St}{env:Env}{a:Addr}{us:List V}:∀{ss:List Slot} {vs:List V},Gots (C.guard a us) G H σ env ss vs->Gots C G H σ env ss vs/\∀(ys:OK×List PV) w,(Slot.ow ys.1 ys.2,w)∈ss.zip vs->w≠.ref a
 | [],_,h=>⟨h,fun _ _ z=>by simp at z⟩
 | s :: ss, vs, h => by
   obtain⟨v,r,rfl,g,ne,h⟩:=h;obtain⟨h1,h2⟩:=Gots.unguard h
   have gy:Got C G H σ env s v:=by
     refine⟨?_,g.2⟩;cases s with
     | v x=>exact g.1
     | ow kk ys =>
       obtain⟨b,us,ev,g1,g2,g3,g4,r⟩:=g.1;exact⟨b,us,ev,g1,fun z=>g2 (x0c _ z),g3,g4,r⟩
   refine⟨⟨v,r,rfl,gy,ne,h1⟩,fun ys w hw ew=>?_⟩;rw [x1J] at hw;rcases x0q.mp hw with e | hw
   · cases e;obtain⟨b,us,ev,g1,g2,_⟩:=g.1;rw [ew] at ev;cases ev;exact g2 x0f
   · exact h2 ys w hw ew
theorem a3k (h:QL T K F e s1)(hr:QLs T K F es sl)(n1:a0r e=true:=by rfl):QLs T K F (e::es) (a3H s1 sl):=by
 obtain⟨t,a1,a2⟩:=h;obtain⟨u,b1,b2⟩:=hr;refine⟨a3e t u,fun z=>a0m (a1 z) (b1 z) (a0c n1),fun C G σ H env n R Q hK hT S hp k=>?_⟩;refine a2 C G σ H env n _ _ hK hT S hp (fun x env1 n1 v H1 q1 S1 r1 f1=>?_) fun xs env1 n1 a vs Hb q1 S1 f1 hn rs=>?_
 · refine b2 C G σ H1 env1 n1 _ _ hK hT S1 q1 fun ss env2 n2 ws G2 H2 q2 S2 x2 g2=>?_;exact k _ _ _ _ _ _ q2 S2 ((Ext.fr f1).trans x2) ⟨v,ws,rfl,⟨⟨v,rfl,Rep.mono x2.keep x2.new x2.pot _ _ (hK▸r1)⟩,fun _ _ z=>nomatch z⟩,(fun _ _ z=>nomatch z),g2⟩
 · have aM:=S1.fresh hn;have S1g:=S1.guard vs hn;have a0:a∉C.M0:=fun z=>aM (S1.sup a z);have aH:=S1.old hn;have x1:Ext G H ⟨a::G.M,G.pots⟩ (upd Hb a (.lst vs)):=(Ext.fr f1).trans (a1I hn);have r1:Reps C.K ⟨a::G.M,G.pots⟩ (upd Hb a (.lst vs)) xs vs:=Reps.mono (G':=⟨a::G.M,G.pots⟩) (H':=upd Hb a (.lst vs)) (fun b o _ e=>Same.lay1 hn b o e) (fun c hc=>(x0q.mp (show c∈a::G.M from hc)).elim (fun z=>.inr (z▸hn)) .inl) (fun _ _ e=>e) _ _ (hK▸rs);refine b2 (C.guard a vs) ⟨a::G.M,G.pots⟩ σ (upd Hb a (.lst vs)) env1 n1 _ _ hK hT S1g q1 fun ss env2 n2 ws G2 H2 q2 S2 x2 g2=>?_;obtain⟨S3,e3,no⟩:=S2.unguard a0 S1.p0.1 aH;have aM2:a∈G2.M:=S2.sup a x0f
   have ap2:a∉G2.pots:=fun z=>by
     by_cases hz:a∈C.pots0
     · exact a0 (S1.p0.1 a hz)
     · exact S2.newp a z hz x0f
   obtain⟨g3,g4⟩:=Gots.unguard g2;refine k _ _ _ _ _ _ q2 S3 (x1.trans x2) ⟨.ref a,ws,rfl,⟨⟨a,vs,rfl,aM2,a0,ap2,e3,Reps.mono x2.keep x2.new x2.pot _ _ r1⟩,fun _ _ _ e=>by cases e;exact no⟩,fun xs' b ex ev ys w hw=>?_,g3⟩;cases ev;exact g4 ys w hw
theorem Gots.len {C:Ct}{G:Gh}{H:Hp}{σ:St}{env:Env}:∀{ss:List Slot} {vs:List V},Gots C G H σ env ss vs->ss.length=vs.length
 | [],_,h=>by cases(show _=[] from h);rfl
 | s :: ss, vs, h => by
   obtain⟨v,r,rfl,g,ne,h⟩:=h;have:=Gots.len h;simp [this]
theorem Gots.set {C:Ct}{G:Gh}{H:Hp}{σ:St}{env:Env}{i:Nat}{s0:Slot}{v0:V}(hl:env.length=σ.length):∀{ss:List Slot} {vs:List V},Gots C G H σ env ss vs->(∀(xs:OK×List PV) a,s0=.ow xs.1 xs.2->v0=.ref a->∀(ys:OK×List PV) w,(Slot.ow ys.1 ys.2,w)∈ss.zip vs->w≠.ref a)->Gots C G H (σ.set i (some v0)) (env.set i (some s0)) ss vs
 | [],_,h,_=>h
 | s :: ss, vs, h, no => by
   obtain⟨v,r,rfl,g,ne,h⟩:=h;refine⟨v,r,rfl,⟨g.1,fun xs a e1 e2 z=>?_⟩,ne,Gots.set hl h fun xs a e1 e2 ys w hw=>no xs a e1 e2 ys w (by rw [x1J];exact x0c _ hw)⟩;rcases a6P hl z with z | ⟨⟨zs,ez⟩,ev⟩
   · exact g.2 xs a e1 e2 z
   · exact no zs a ez ev xs v (by rw [x1J,e1];exact x0f) e2
theorem SR.setAll {C:Ct}{G:Gh}{H:Hp}{n:Nat}:∀(is:List Nat) (ss:List Slot) (vs:List V) {σ:St} {env:Env},SR C G σ H env n->Gots C G H σ env ss vs->SR C G (a6l is vs σ) H (Pu.setAll is ss env) n
 | [],_,_,_,_,S,_=>S
 | i::is,[],vs,_,_,S,g=>by cases(show vs=[] from g);exact S
 | i :: is, s :: ss, vs, σ, env, S, g => by
   obtain⟨v,r,rfl,g1,ne,g2⟩:=g;exact SR.setAll is ss r (S.slot i g1.1 g1.2) (g2.set S.len ne)
def a9O (is:List Nat)(sl:pSlN):pS:=fun D env n=>sl env n fun ss env1 n1=>ss.length=is.length/\D.nx (setAll is ss env1) n1
end
end Pu
end
section
namespace L2
open PySem PySem.Spec PyProof.Rows
abbrev LC2 (elt t1 i1 t2 i2:Expr)(ifs:List Expr)(scope:Scope)(pos:Pos):Expr:=.ListComp elt [⟨t1,i1,[],0⟩,⟨t2,i2,ifs,0⟩] scope pos
theorem a5N (elt t1 i1 t2 i2:Expr)(ifs:List Expr)(scope:Scope)(pos:Pos)(it acc:Value)(env:Env) :
   compTurn (LC2 elt t1 i1 t2 i2 ifs scope pos) 1 it acc env=(do
     standAt i2.pos
     match ← pyNext it with
     | none=>pure (.done .next)
     | some v =>
       x1q t2 it v
       assign t2 env v
       let mut ok:=true
       for c in ifs do
         if ok then ok ← isTrue c env (eval c env)
       if ok then
         (do let _ ← call (.builtin "list.append") [acc,<- eval elt env])
       again (.compLoop (LC2 elt t1 i1 t2 i2 ifs scope pos) 1 it acc env)):=by rfl
section
variable {prog:x0x}{w:World}{A:Around}{R:Result->Shared->Prop}{s:Shared}{elt t1 i1 t2 i2:Expr}{ifs:List Expr}{scope:Scope}{pos:Pos}{it acc:Value}{env:Env}
theorem a8V (I:Nat->Shared->Prop)
   (turn:∀n s,I n s->wpAny (model prog w) A (pyNext it) (fun r s₁=>match r with
     | none=>R (.ok .next) s₁
     | some v=>wpAny (model prog w) A (x1q t2 it v) (fun _ s₁'=>wpAny (model prog w) A (assign t2 env v) (fun _ s₂=>
         wpAny (model prog w) A (forIn ifs true fun c r=>if r=true then do let ok ← isTrue c env (eval c env);pure (x1g ok) else pure (x1g r)) (fun ok s₃=>
           if ok=true then wpAny (model prog w) A (eval elt env) (fun x s₄=>
             wpAny (model prog w) A (call (.builtin "list.append") [acc,x]) (fun _ s₅=>∃m,m < n/\I m s₅) (fun _ _=>False) s₄) (fun _ _=>False) s₃
           else ∃m,m < n/\I m s₃) (fun _ _=>False) s₂) (fun _ _=>False) s₁') (fun _ _=>False) s₁) (fun _ _=>False) s)
   (n:Nat) (h:I n s):x2c (model prog w) A (.compLoop (LC2 elt t1 i1 t2 i2 ifs scope pos) 1 it acc env) R s:=by
 refine codeAny_loop rfl I (fun n s hI=>?_) n h;show wpAny _ A ((compTurn (LC2 elt t1 i1 t2 i2 ifs scope pos) 1 it acc env).onRaise (fun x=>do noteFrame x env;theTreesLotGoes x)) _ _ s;refine wpAny_noted ?_;rw [a5N];refine x0b (x1u (x0b (x0K (turn n s hI) (fun r s₁ h₁=>?_) fun _ _ h'=>h'.elim)));cases r with
 | none=>exact x0h h₁
 | some v =>
   refine x0b (x0K h₁ (fun _ s₁' h₁'=>?_) fun _ _ h'=>h'.elim);refine x0b (x0K h₁' (fun _ s₂ h₂=>x0b (x0K h₂ (fun ok s₃ h₃=>?_) fun _ _ h'=>h'.elim)) fun _ _ h'=>h'.elim);cases ok with
   | false=>exact x0h ⟨rfl,h₃⟩
   | true =>
     exact x0b (x0b (x0K h₃ (fun x s₄ h₄=>x0b (x0K h₄ (fun _ s₅ h₅=>x0h (x0h ⟨rfl,h₅⟩)) fun _ _ h'=>h'.elim)) fun _ _ h'=>h'.elim))
theorem a6i (h0:x2c (model prog w) A (.compLoop (LC2 elt t1 i1 t2 i2 ifs scope pos) 1 it acc env) R s)
   (h:wpAny (model prog w) A (pyIter it) (fun it' s'=>x2c (model prog w) A (.compLoop (LC2 elt t1 i1 t2 i2 ifs scope pos) 1 it' acc env) R s') (fun _ _=>False) s) :
   x2c (model prog w) A (.compStart (LC2 elt t1 i1 t2 i2 ifs scope pos) 1 it acc env) R s:=by
 refine codeAny_of_tree ?_;show wpAny _ _ ((compStart (LC2 elt t1 i1 t2 i2 ifs scope pos) 1 it acc env).onRaise (fun x=>do noteFrame x env;standAt theWindowsPlace)) _ _ s;refine wpAny_notedAt ?_;unfold compStart;show wpAny _ _ (ask>>=_) _ _ s;refine x0b (wpAny_askSetting (wpAny_ite ?_))
 split
 · first
     | exact x0b (x0h (x0h (And.intro rfl h0)))
     | exact x0h (And.intro rfl h0)
 · first
     | exact x0b (x2m (x0b (x1u (x0b (x0K h (fun it' s' h'=>x0h (And.intro rfl h')) fun _ _ x=>x.elim)))))
     | (refine x0b (x2m ?_);show wpAny _ _ (standAt i2.pos>>=_) _ _ s;exact x0b (x1u (x0b (x0K h (fun it' s' h'=>x0h (And.intro rfl h')) fun _ _ x=>x.elim))))
theorem a8U (hs:∀x,x0G i2 env x=pure x)(I:Nat->Shared->Prop)
   (turn:∀n s,I n s->wpAny (model prog w) A (pyNext it) (fun r s₁=>match r with
     | none=>R (.ok .next) s₁
     | some v=>wpAny (model prog w) A (x1q t1 it v) (fun _ s₁'=>wpAny (model prog w) A (assign t1 env v) (fun _ s₂=>
         wpAny (model prog w) A (eval i2 env) (fun x s₃=>wpAny (model prog w) A (pyIter x) (fun it2 s₄=>
           x2c (model prog w) A (.compStart (LC2 elt t1 i1 t2 i2 ifs scope pos) 1 it2 acc env) (fun r s'=>r=.ok .next/\∃m,m < n/\I m s') s₄) (fun _ _=>False) s₃) (fun _ _=>False) s₂) (fun _ _=>False) s₁') (fun _ _=>False) s₁) (fun _ _=>False) s)
   (n:Nat) (h:I n s):x2c (model prog w) A (.compLoop (LC2 elt t1 i1 t2 i2 ifs scope pos) 0 it acc env) R s:=by
 refine codeAny_loop rfl I (fun n s hI=>?_) n h;show wpAny _ A ((compTurn (LC2 elt t1 i1 t2 i2 ifs scope pos) 0 it acc env).onRaise (fun x=>do noteFrame x env;theTreesLotGoes x)) _ _ s;refine wpAny_noted ?_;unfold compTurn;show wpAny _ _ (standAt i1.pos>>=_) _ _ s;refine x0b (x1u ?_);refine x0b (x0K (turn n s hI) (fun r s₁ h₁=>?_) fun _ _ h'=>h'.elim);cases r with
 | none=>exact x0h h₁
 | some v =>
   refine x0b (x0K h₁ (fun _ s₁' h₁'=>?_) fun _ _ h'=>h'.elim);refine x0b (x0K h₁' (fun _ s₂ h₂=>x0b (wpAny_tests_nil ?_)) fun _ _ h'=>h'.elim);refine x0b (x0K h₂ (fun x s₃ h₃=>?_) fun _ _ h'=>h'.elim);refine x0b (x1u ?_);show wpAny _ _ (x0G i2 env x>>=fun x=>(x3p [x] (pyIter x)>>=fun it2=>(runOwn (.compStart (LC2 elt t1 i1 t2 i2 ifs scope pos) 1 it2 acc env) env>>=fun _=>again (.compLoop (LC2 elt t1 i1 t2 i2 ifs scope pos) 0 it acc env)))) _ _ _;refine x0b (wpAny_of_eq (hs x) (x0b (x1d (x0K h₃ (fun it2 s₄ h₄=>?_) fun _ _ h'=>h'.elim))));refine x0b (wpAny_runOwn ?_);rw [Around.mark_none];refine codeAny_mono h₄ fun r s' hr=>?_;obtain⟨rfl,hr⟩:=hr;exact x0h ⟨rfl,hr⟩
end
def a9g (J:It)(g:TG)(tt:TT)(te:TE)(D:Addr)(N:St->Hp->Prop)(σ:St)(H:Hp):Prop:=∃W:Nat->Nat->St->Hp->Prop,(∃m,W 0 m σ H)/\
 ∀i m σ' H',W i m σ' H'->(J.stop i H'/\N σ' H')\/(J.go i H'/\∀x H2,J.yld i H' x H2->g x σ' H2 fun σ3 H3=>tt σ3 H3 fun b H4=>
    if b=true then te σ3 H4 fun v H5=>∃ys,H5 D=some (.lst ys)/\ys.length < x0t/\∃m',m' < m/\W (i + 1) m' σ3 (upd H5 D (.lst (ys++[v])))
    else ∃m',m' < m/\W (i + 1) m' σ3 H4)
def a9f (J:It)(g1:TG)(wi2:TI)(g2:TG)(tt:TT)(te:TE)(Q:VK)(D:Addr)(σc:St)(H1:Hp):Prop:=∃W:Nat->Nat->St->Hp->Prop,(∃m,W 0 m σc H1)/\
 ∀i m σ' H',W i m σ' H'->(J.stop i H'/\Q (.ref D) H')\/(J.go i H'/\∀x H2,J.yld i H' x H2->g1 x σ' H2 fun σ3 H3=>wi2 σ3 H3 fun J2 H4=>a9g J2 g2 tt te D (fun σ5 H5=>∃m',m' < m/\W (i + 1) m' σ5 H5) σ3 H4)
def a8A (cs:List (Option Nat))(wi:TI)(g1:TG)(wi2:TI)(g2:TG)(tt:TT)(te:TE):TE:=fun σ H Q=>wi σ H fun J H1=>∀D,H1 D=none->a9f J g1 wi2 g2 tt te Q D (a5R cs σ) (upd H1 D (.lst []))
theorem a4Y {X:Cx}{scope:Scope}{cl:List (Str×Addr)}{N:List Str}{cs:List (Option Nat)}{elt t1 i1 t2 i2:Expr}{ifs:List Expr}{pos:Pos}{wi1 wi2:TI}{g1 g2:TG}{tt:TT}{te:TE}(S:a0N X scope cl N cs)(hc:X.calm=true)(hi:PI X t1 i1 wi1)
   (hb:∀(fp:List Addr) (C:Addr) (s:Shared) (H:Hp),PG (a0l X scope cl N fp C s H) t1 g1/\PI (a0l X scope cl N fp C s H) t2 i2 wi2/\PG (a0l X scope cl N fp C s H) t2 g2/\PIf (a0l X scope cl N fp C s H) ifs tt/\PE (a0l X scope cl N fp C s H) elt te)
   (hs2:∀fp C s H x,x0G i2 (a0l X scope cl N fp C s H).env x=pure x)
   (hs:∀x,x0G i1 X.env x=pure x:=by intro _;rfl) :
   PE X (LC2 elt t1 i1 t2 i2 ifs scope pos) (a8A cs wi1 g1 wi2 g2 tt te):=by
 intro pins s σ H Q I h;rw [eval_ListComp];refine x2o (use:=none) rfl hs S.clos S.kind S.names (thn (hi pins s σ H _ I h) fun v s1 h1=>thn h1 fun itv s2 h2=>?_);obtain⟨it,fp,tn,J,H2,rfl,I2,T,st2,f2,q⟩:=h2
 have ho:∀b∈fp,∃o,s2.heap.get? b=some o:=fun b hb=>by
   obtain⟨o,e,_⟩:=T.obj 0 _ st2 b hb;exact⟨o,e⟩
 refine x0R (wpAny_newFunctionEnv S.nocell (by intro y hy;simp at hy) (fun h₁ hns₁ hsb₁=>?_) S.kind);dsimp only at hns₁ hsb₁ ⊢;have hC:(s2.heap.push { cls:=.type "list",dict:=none,data:=.seq ([]:List Value).toArray }).objs.size=s2.heap.objs.size + 1:=by rw [x2J]
 generalize hH2:s2.heap.push { cls:=.type "list",dict:=none,data:=.seq ([]:List Value).toArray }=hp2 at hns₁ hsb₁ hC ⊢;have old:∀b o,s2.heap.get? b=some o->h₁.get? b=some o:=fun b o e=>hsb₁.extBut b o (by rw [hC];exact x0o (x0V (x0i e))) (x0d _ (hH2▸x0d _ e));have hD:h₁.get? s2.heap.objs.size=some { cls:=.type "list",data:=.seq ([]:List Value).toArray }:=hsb₁.extBut _ _ (by rw [hC];exact x0o (Nat.lt_succ_self _)) (x0d _ (hH2▸x0y _ rfl));rw [hC] at hns₁ ⊢;obtain⟨W,⟨m0,w0⟩,turn⟩:=q s2.heap.objs.size I2.fresh;have Ic:=a3x S (tk:=s2.toks + ([]:List (Str×Value)).length) I2 f2 ho old hns₁ hD;have nstk:∀b,b≠X.env.locals->b∉X.fs->b∉frs X.stack:=fun b h1 h2 hb=>(x0q.mp (I2.stkSub b hb)).elim h1 h2
 have stat:∀{H':Hp},(∀b∈fp,H' b=none)->∀b∈fp,FpOk (a0l X scope cl N fp (s2.heap.objs.size + 1) s2 H2) pins H' b:=fun hn b hb=>by
   obtain⟨o,e⟩:=ho b hb;exact⟨hn b hb,x0o (x0V (x0i e)),nstk b (f2 b hb).2.1 (f2 b hb).2.2.1,.inl hb,fun x c ec=>(f2 b hb).2.2.2.2.1 x c (S.sub x c ec),(f2 b hb).2.2.2.2.2⟩
 obtain⟨hg,hi2,hg2,hf,he⟩:=hb fp (s2.heap.objs.size + 1) s2 H2;have st1:tn 0 h₁:=T.keep _ _ _ st2 fun b hb o e=>old b o e
 have fr1:∀b∈fp,upd H2 s2.heap.objs.size (.lst []) b=none:=fun b hb=>by
   obtain⟨o,e⟩:=ho b hb;rw [a0j (x0o (x0i e))];exact(f2 b hb).1
 have loop:∀s₃:Shared,s₃={ s2 with heap:=h₁,toks:=s2.toks + ([]:List (Str×Value)).length }->
     x2c (model X.prog X.w) X.A (.compLoop (LC2 elt t1 i1 t2 i2 ifs scope pos) 0 (.ref it) (.ref s2.heap.objs.size) (compEnvC scope cl (s2.heap.objs.size + 1) X.env))
       (compPost (model X.prog X.w) X.A X.xe none (EP X pins σ Q) (.ref s2.heap.objs.size) (s2.heap.objs.size + 1)) s₃:=by
   rintro s₃ rfl;refine a8U (hs2 fp (s2.heap.objs.size + 1) s2 H2) (fun n s'=>∃i σ' H',Inv (a0l X scope cl N fp (s2.heap.objs.size + 1) s2 H2) pins σ' H' s'/\tn i s'.heap/\(∀b∈fp,H' b=none)/\W i n σ' H') ?_ m0 ⟨0,_,_,Ic,st1,fr1,w0⟩;rintro n s3 ⟨i,σ3,H3,I3,st3,fr3,w3⟩;rcases turn i n σ3 H3 w3 with⟨stop,qn⟩ | ⟨go,step⟩
   · refine thn (T.done (a0l X scope cl N fp (s2.heap.objs.size + 1) s2 H2) rfl rfl rfl hc i pins s3 σ3 H3 (fun _ _=>False) I3 (stat fr3) st3 stop) fun r s4 ⟨hr,I4⟩=>?_;subst hr;obtain⟨m4,hn4,_⟩:=I4.loc;exact⟨m4,hn4,fun h' hs'=>⟨.ref s2.heap.objs.size,H3,Inv.uncomp I2 f2 I4 fun b hb=>hs'.2 b hb,rfl,qn⟩⟩
   · refine thn (T.item (a0l X scope cl N fp (s2.heap.objs.size + 1) s2 H2) rfl rfl rfl hc i pins s3 σ3 H3 (fun _ _=>False) I3 (stat fr3) st3 go) fun r s4 ⟨u,hr,h4⟩=>?_;subst hr;refine thn h4 fun _ s5 ⟨x,H5,I5,r5,y5,st5,fr5⟩=>?_;have I5':=I5.pinned (stat fr5) (T.obj _ _ st5);refine thn (hg _ s5 σ3 H5 x u _ I5' r5 (step x H5 y5)) fun _ s6 ⟨σ6,H6,I6,q6⟩=>?_;refine thn (hi2 _ s6 σ6 H6 _ I6 q6) fun v7 s7 h7=>thn h7 fun itv s8 h8=>?_;obtain⟨it2,fp2,tn2,J2,H8,rfl,I8,T2,st8,f8,W2,⟨m2,w2⟩,turn2⟩:=h8;have stat2:∀{H':Hp},(∀b∈fp2,H' b=none)->∀b∈fp2,FpOk (a0l X scope cl N fp (s2.heap.objs.size + 1) s2 H2) (pins++a2n fp s5.heap) H' b:=fun hn b hb=>⟨hn b hb,(f8 b hb).2⟩
     have inner:x2c (model X.prog X.w) X.A (.compLoop (LC2 elt t1 i1 t2 i2 ifs scope pos) 1 (.ref it2) (.ref s2.heap.objs.size) (compEnvC scope cl (s2.heap.objs.size + 1) X.env)) (fun r s'=>r=.ok .next/\∃m,m < n/\∃i σ' H',Inv (a0l X scope cl N fp (s2.heap.objs.size + 1) s2 H2) pins σ' H' s'/\tn i s'.heap/\(∀b∈fp,H' b=none)/\W i m σ' H') s8:=by
       exact a8V _ (a6b (Y:=a0l X scope cl N fp (s2.heap.objs.size + 1) s2 H2) T2 hc stat2 hg2 hf he (fun s10 σ9 H9 I10 qn2=>⟨rfl,a3C T st5 I10 qn2⟩) turn2) m2 ⟨0,σ6,H8,I8,st8,fun b hb=>(f8 b hb).1,w2⟩
     exact a6i inner (T2.self _ 0 _ _ _ st8 inner)
 exact x2A (loop _ rfl) (T.self _ 0 _ _ _ st1 (loop _ rfl))
end L2
end
section
namespace Pu
open PySem PySem.Spec L2
def a5Q (g:pG)(tt:pT)(te:pE):List PV->Env->Nat->(List PV->Env->Nat->Prop)->Prop
 | [],env,n,R=>R [] env n
 | x::xs,env,n,R=>g x env fun env1=>tt env1 n fun b env2 n2=>if b=true then te env2 n2 fun y env3 n3=>a5Q g tt te xs env3 n3 fun ys e m=>R (y::ys) e m else a5Q g tt te xs env2 n2 R
def a4a (g1:pG)(pi2:pA)(g2:pG)(tt:pT)(te:pE):List PV->Env->Nat->(List PV->Nat->Prop)->Prop
 | [],_,n,R=>R [] n
 | x::xs,env,n,R=>g1 x env fun env1=>pi2 env1 n fun ys env2 n2=>ys.length<=1000/\a5Q g2 tt te ys env2 n2 fun zs env3 n3=>a4a g1 pi2 g2 tt te xs env3 n3 fun ws n4=>R (zs++ws) n4
def a3M (cs:List (Option Nat))(pi1:pA)(g1:pG)(pi2:pA)(g2:pG)(tt:pT)(te:pE):pA:=fun env n R=>pi1 env n fun xs env1 n1=>xs.length<=1000/\a4a g1 pi2 g2 tt te xs (capV cs env1) n1 fun ys n2=>R ys env1 n2
theorem a7r {K:x0a}{T:PotK}{J:It}{g:TG}{tt:TT}{te:TE}{pg:pG}{ptt:pT}{pte:pE}(hg:GOk K g pg)(ht:TOk K T tt ptt)(he:EOk K T te pte){G:Gh}{H1 H4:Hp}{ys:List PV}{D:Addr}(hJ:ItR K ⟨D::G.M,G.pots⟩ H4 J ys)(nD:D∉G.pots)(hD:H1 D=none){σ:St}{env:Env}{n:Nat}{acc:List PV}{us:List V}{P:List PV->Env->Nat->Prop}{N:St->Hp->Prop}(c:CI K T G H1 D σ H4 env n acc us)(hl:acc.length + ys.length<=1001000)(hc:a5Q pg ptt pte ys env n P)
   (hN:∀zs env n us σ H,P zs env n->CI K T G H1 D σ H env n (acc++zs) us->zs.length<=ys.length->N σ H):a9g J g tt te D N σ H4:=by
 refine⟨fun j m σ H'=>m=ys.length - j/\j<=ys.length/\∃env n zs us2,CI K T G H1 D σ H' env n (acc++zs) us2/\Fr ⟨D::G.M,G.pots⟩ H4 H'/\zs.length<=j/\a5Q pg ptt pte (ys.drop j) env n fun ws e m=>P (zs++ws) e m,⟨ys.length,rfl,x1s _,env,n,[],us,by rw [x1e];exact c,Fr.refl,x0s _,hc⟩,?_⟩;rintro j m σ5 H5 ⟨rfl,hj,env5,n5,zs,us5,c5,fr5,la5,hc5⟩;obtain⟨hgo5,hstop5⟩:=hJ _ H5 fr5 (fun a ha=>.inl ha) (fun _ _ e=>e) fun p hp=>c5.inn.sr.fresh hp
 by_cases hlt5:j < ys.length
 · obtain⟨u1,u2⟩:=hgo5 j _ (x0k hlt5);refine .inr ⟨u1,fun v6 H6 y6=>?_⟩;obtain⟨s6,rv6⟩:=u2 v6 H6 y6;rw [x1n hlt5] at hc5;have np:∀b,b∉D::G.M->b∉G.pots:=fun b hb z=>hb (c5.inn.pots b z).1;refine hg _ _ σ5 H6 env5 n5 ys[j] v6 _ _ rfl (c5.inn.sr.same s6) rv6 hc5 fun env7 σ7 hc7 S7=>?_;refine ht _ _ σ7 H6 env7 n5 _ _ rfl rfl S7 hc7 fun b env8 n8 H8 hc8 S8 f8=>?_;cases b with
   | false=>exact⟨ys.length - (j + 1),x1M _ _ hlt5,rfl,hlt5,env8,n8,zs,us5,c5.go nD S8,fun b o hb e=>S8.frame b o (np b hb) (fr5 b o hb e),Nat.le_succ_of_le la5,hc8⟩
   | true =>
     refine he _ _ σ7 H8 env8 n8 _ _ rfl rfl S8 hc8 fun y env9 n9 u H9 hc9 S9 r9 f9=>?_;have c9:=c5.go nD S9;have c10:=c9.add nD hD r9;rw [x1R] at c10;refine⟨us5,c9.eD,by rw [<- c5.ra.length,x0l];exact Nat.lt_of_le_of_lt (show _<=1001000 by omega) (by rw [x1Y];decide),ys.length - (j + 1),x1M _ _ hlt5,rfl,hlt5,env9,n9,zs++[y],us5++[u],c10,Fr.trans (fun b o hb e=>S9.frame b o (np b hb) (fr5 b o hb e)) (CI.fD _),by rw [x0l];exact Nat.succ_le_succ la5,?_⟩;simp only [x1R];exact hc9
 · obtain rfl:j=ys.length:=Nat.le_antisymm hj (x2O hlt5);rw [x2P] at hc5;have h5:P (zs++[]) env5 n5:=hc5;rw [x1e] at h5;exact .inl ⟨hstop5 _ (x0s _),hN zs env5 n5 us5 σ5 H5 h5 c5 la5⟩
theorem a5j {K:x0a}{T:PotK}{J:It}{g1 g2:TG}{wi2:TI}{tt:TT}{te:TE}{pg1 pg2:pG}{pi2:pA}{ptt:pT}{pte:pE}(hg1:GOk K g1 pg1)(hi2:IOk K T wi2 pi2)(hg2:GOk K g2 pg2)(ht:TOk K T tt ptt)(he:EOk K T te pte){G:Gh}{H1:Hp}{xs:List PV}(hJ:ItR K G H1 J xs)(hl:xs.length<=1000)
   {σc:St} {env:Env} {n:Nat} {R:List PV->Nat->Prop} {Q:VK} {D:Addr} (hD:H1 D=none) (I0:Inn K T G σc H1 env n) (hp:a4a pg1 pi2 pg2 ptt pte xs env n R)
   (hQ:∀ys n' us H',R ys n'->(∀p∈G.pots,T.at_ (D::G.M) H' p n')->(∀b o,b∉G.pots->H1 b=some o->H' b=some o)->H' D=some (.lst us)->Reps K ⟨D::G.M,G.pots⟩ H' ys us->Q (.ref D) H') :
   a9f J g1 wi2 g2 tt te Q D σc (upd H1 D (.lst [])):=by
 have nD:D∉G.pots:=fun z=>I0.sr.fresh hD (I0.pots D z).1;refine⟨fun i m σ H=>m=xs.length - i/\i<=xs.length/\∃env n acc us,CI K T G H1 D σ H env n acc us/\acc.length<=1000 * i/\a4a pg1 pi2 pg2 ptt pte (xs.drop i) env n fun ys n'=>R (acc++ys) n',⟨xs.length,rfl,x1s _,env,n,[],[],.start hD I0,x0s _,hp⟩,?_⟩;rintro i m σ H ⟨rfl,hi,env,n,acc,us,c,la,hc⟩;obtain⟨hgo,hstop⟩:=c.it hD hJ
 by_cases hlt:i < xs.length
 · obtain⟨gg1,gg2⟩:=hgo i _ (x0k hlt);refine .inr ⟨gg1,fun v H2 y=>?_⟩;obtain⟨s2,rv⟩:=gg2 v H2 y;rw [x1n hlt] at hc;refine hg1 _ _ σ H2 env n xs[i] v _ _ rfl (c.inn.sr.same s2) rv hc fun env1 σ1 hc1 S2=>?_;refine hi2 _ _ σ1 H2 env1 n _ _ rfl rfl S2 hc1 fun ys env2 n2 J2 H4 q4 S4 f4 hJ2=>?_;refine a7r hg2 ht he hJ2 nD hD (c.go nD S4) (by have:=q4.1;omega) q4.2 fun zs env5 n5 us5 σ5 H5 h5 c5 lz=>⟨xs.length - (i + 1),x1M _ _ hlt,rfl,hlt,env5,n5,acc++zs,us5,c5,by rw [x0l];have:=q4.1;omega,?_⟩;simp only [x1R];exact h5
 · obtain rfl:i=xs.length:=Nat.le_antisymm hi (x2O hlt);rw [x2P] at hc;have hc':R (acc++[]) n:=hc;rw [x1e] at hc';exact .inl ⟨hstop _ (x0s _),hQ _ n us H hc' (fun p hp=>(c.inn.pots p hp).2) c.kp c.eD c.ra⟩
section
variable {T:PotK}{ι:Type}{K:x0a}{F:ι->Cx}{pg1 pg2:pG}{pos:Pos}
theorem a7S {scope:Scope}{cl:ι->List (Str×Addr)}{N:List Str}{cs:List (Option Nat)}{elt t1 i1 t2 i2:Expr}{ifs:List Expr}{pi1 pi2:pA}{ptt:pT}{pte:pE}(S:∀z,a0N (F z) scope (cl z) N cs)(hc:∀z,(F z).calm=true)(hi:QI T K F t1 i1 pi1)
   (hg:QG K (fun y:ι×List Addr×Addr×Shared×Hp=>a0l (F y.1) scope (cl y.1) N y.2.1 y.2.2.1 y.2.2.2.1 y.2.2.2.2) t1 pg1)
   (hi2:QI T K (fun y:ι×List Addr×Addr×Shared×Hp=>a0l (F y.1) scope (cl y.1) N y.2.1 y.2.2.1 y.2.2.2.1 y.2.2.2.2) t2 i2 pi2)
   (hg2:QG K (fun y:ι×List Addr×Addr×Shared×Hp=>a0l (F y.1) scope (cl y.1) N y.2.1 y.2.2.1 y.2.2.2.1 y.2.2.2.2) t2 pg2)
   (ht:QIf T K (fun y:ι×List Addr×Addr×Shared×Hp=>a0l (F y.1) scope (cl y.1) N y.2.1 y.2.2.1 y.2.2.2.1 y.2.2.2.2) ifs ptt)
   (he:QE T K (fun y:ι×List Addr×Addr×Shared×Hp=>a0l (F y.1) scope (cl y.1) N y.2.1 y.2.2.1 y.2.2.2.1 y.2.2.2.2) elt pte)
   (hs:∀z x,x0G i1 (F z).env x=pure x:=by intro _ _;rfl) (hs2:∀z fp C s H x,x0G i2 (a0l (F z) scope (cl z) N fp C s H).env x=pure x:=by intro _ _ _ _ _ _;rfl):QN T K F (LC2 elt t1 i1 t2 i2 ifs scope pos) (a3M cs pi1 pg1 pi2 pg2 ptt pte):=by
 obtain⟨wi,i1',i2'⟩:=hi;obtain⟨g,hg0,hg⟩:=hg;obtain⟨wj,j1,j2⟩:=hi2;obtain⟨g2,hg20,hg2⟩:=hg2;obtain⟨tt,ht0,ht⟩:=ht;obtain⟨te,he0,he⟩:=he;refine⟨_,fun z=>a4Y (S z) (hc z) (i1' z) (fun fp C s H=>⟨hg0 (z,fp,C,s,H),j1 (z,fp,C,s,H),hg20 (z,fp,C,s,H),ht0 (z,fp,C,s,H),he0 (z,fp,C,s,H)⟩) (hs2 z) (hs z),fun C G σ H env n R Q hK hT S hp k=>?_⟩;refine i2' C G σ H env n _ _ hK hT S hp fun xs env1 n1 J H1 p1 S1 f1 hJ=>?_;intro D hD;have hDM:=S1.fresh hD;refine a5j (G:=G) hg j2 hg2 ht he hJ p1.1 hD (hT▸hK▸a4H S1 cs) p1.2 fun ys n2 us H' rr hpots hk eD ry=>?_;have nD:∀b o,H1 b=some o->b≠D:=fun b o e z=>by rw [z,hD] at e;cases e
 have hk2:∀b o,b∉G.pots->H1 b=some o->cutH H' D b=some o:=fun b o hb e=>by rw [a0I (nD b o e)];exact hk b o hb e
 have nc:∀b,b∉D::G.M->b≠D:=fun b hb z=>hb (by rw [z];exact x0f);have np:∀p∈G.pots,p≠D:=fun p hp z=>hDM (z▸(S1.pots p hp).1)
 have Sb:SR C G σ (cutH H' D) env1 n2:=S1.call hk2 fun p hp=>by
   subst hT;have h2:=C.T.keep (hpots p hp) (H':=cutH H' D) (a0I (np p hp)) fun b o hb e=>by rw [a0I (nc b hb)];exact e
   exact C.T.more h2 fun a ha=>.inl (x0c _ ha)
 have:=k ys env1 n2 D us (cutH H' D) rr Sb (f1.trans fun b o hb e=>hk2 b o (fun z=>hb (S1.pots b z).1) e) (by unfold cutH;rw [if_pos rfl]) ?_
 · rw [a3c eD] at this;exact this
 · exact Reps.mono (G:=⟨D::G.M,G.pots⟩) (fun b o hb e=>by rw [a0I (nc b hb)];exact e) (fun a ha=>.inl (x0c _ ha)) (fun _ _ e=>e) _ _ ry
end
end Pu
end
section
namespace Pu
open PySem PySem.Spec L2
section
variable {T:PotK}{np:Bool}{ι:Type}{K:x0a}{F:ι->Cx}{a b ea eb:Expr}{st:Stmt}{pos:Pos}{pa pb pi pj:pE}
theorem b0z {X:Cx}(K:x0a){x y:Expr}{gx gy:TG}{pos:Pos}{k:Nat}(hc:X.calm=true)(h1:GW X x gx)(h2:GW X y gy)(hn:(x1h [x,y] X.env).length=2:=by rfl)(hst:(x1h [x,y] X.env).findIdx? (·.1)=none:=by rfl)
   (hs:(x1h [x,y] X.env).map (·.2)=assign x X.env::(x1h [y] X.env).map (·.2):=by rfl) (hs2:(x1h [y] X.env).map (·.2)=assign y X.env::(x1h [] X.env).map (·.2):=by rfl) (hK:X.K=K:=by rfl) :
   GW X (.Tuple [x,y] k pos) (gTup K 2 (a7l gx (a7l gy gNil))):=⟨hK▸a8N hc (a3p h1.h (a3p h2.h a6N hs2) hs) hn hst⟩
def a9M (i:Nat)(pa pb pi pj:pE):pS:=fun D env n=>pa env n fun x env1 n1=>pb env1 n1 fun y env2 n2=>(∃xs,env2[i]?=some (some (.ow .lst xs)))/\gAt i pi x env2 n2 fun env3 n3=>gAt i pj y env3 n3 D.nx
theorem a9F (i:Nat){tg:Expr}{k:Nat}{p:Pos}(h:∀z te g,EW (F z) (.Tuple [a,b] k p) te->GW (F z) tg g->SW (F z) st (tAsg te g))(hg:∀z ti tj,EW (F z) ea ti->EW (F z) eb tj->GW (F z) tg (gTup K 2 (a7l (gSub (tVar i) ti a7O) (a7l (gSub (tVar i) tj a7O) gNil))))(h1:QE T K F a pa)(h2:QE T K F b pb)(h3:QE T K F ea pi)(h4:QE T K F eb pj)(n1:a0r a=true:=by rfl)(n2:a0r b=true:=by rfl):QS T np K F st (a9M i pa pb pi pj):=by
 obtain⟨t,a1,a2⟩:=h1;obtain⟨u,b1,b2⟩:=h2;obtain⟨ti,i1,i2⟩:=h3;obtain⟨tj,j1,j2⟩:=h4;refine⟨_,fun z=>(h z _ _ ⟨a8P (a0m (a1 z) (a0m (b1 z) a0C (a0c n2)) (a0c n1))⟩ (hg z _ _ ⟨i1 z⟩ ⟨j1 z⟩)).h,fun C G σ H env n PD D hK hT hn S hp L=>?_⟩;refine a2 C G σ H env n _ _ hK hT S hp fun x env1 n1 v H1 q1 S1 r1 f1=>?_;refine b2 C G σ H1 env1 n1 _ _ hK hT S1 q1 fun y env2 n2 w H2 q2 S2 r2 f2=>?_;obtain⟨⟨xs0,e0⟩,q2⟩:=q2;refine⟨by show 2<=x0t;decide,fun p hn'=>⟨p,[v,w],rfl,SqT.of a0n,rfl,v,[w],rfl,?_⟩⟩;have sm:Same H2 (upd H2 p (.tup [v,w])):=Same.lay1 hn';generalize upd H2 p (.tup [v,w])=H3 at sm ⊢;have S3:=S2.same sm;obtain⟨a,vs,ev,h1,h2,h3,h4,r⟩:=S3.slots i _ e0;refine⟨.ref a,ev,?_⟩;refine i2 C G σ H3 env2 n2 _ _ hK hT S3 q2 fun d env3 n3 ud H4 q3 S4 r4 f4=>?_
 split at q3
 · rename_i xs d ex
   split at q3
   · rename_i jj ej;obtain⟨a',us,ev',g1,g2,g3,g4,r'⟩:=S4.slots i _ ex;rw [ev] at ev';cases ev';subst hK;obtain⟨S5,f5⟩:=S4.put ex ev (r'.set jj (((r1.fr f2).same sm).fr f4));refine⟨a,us,d,jj,rfl,r4,g4,by rw [<- r'.length];exact ej,?_⟩;refine⟨w,[],rfl,.ref a,ev,?_⟩;refine j2 C G σ _ _ n3 _ _ rfl hT S5 q3 fun d2 env5 n5 ud2 H5 q5 S6 r6 f6=>?_
     split at q5
     · rename_i xs2 d2 ex2
       split at q5
       · rename_i jj2 ej2;obtain⟨a',us2,ev',k1,k2,k3,k4,r7⟩:=S6.slots i _ ex2;rw [ev] at ev';cases ev';obtain⟨S7,f7⟩:=S6.put ex2 ev (r7.set jj2 ((((r2.same sm).fr f4).fr f5).fr f6));exact⟨a,us2,d2,jj2,rfl,r6,k4,by rw [<- r7.length];exact ej2,rfl,L.nx _ _ _ _ _ q5 S7 (Ext.fr ((((((f1.trans f2).trans (Fr.of sm)).trans f4).trans f5).trans f6).trans f7))⟩
       · exact q5.elim
     · exact q5.elim
   · exact q3.elim
 · exact q3.elim
end
end Pu
end
section
namespace Pu
open PySem PySem.Spec L2
def lt (f t:Int)(k:Nat):Nat:=97 + ((f + (k:Int) * t) % 26).toNat
inductive Ev where
 | d (x:Str) | t (x y:Str)
def evB:Ev->List Str
 | .d x=>[x]
 | .t x y=>[x,y]
end Pu
end
section
namespace Pu
open PySem PySem.Spec L2
inductive Mk where
 | d | o | t | u
 deriving DecidableEq
def mkS:Mk->Str
 | .d=>x0H "d"
 | .o=>x0H "o"
 | .t=>x0H "t"
 | .u=>x0H "u"
def mkP (m:Mk):PV:=.str (mkS m)
def run (r:Int):Nat->List Nat->List Mk->Option (List Nat)
 | _,st,[]=>some st
 | k,st,.t::m=>run r (k + 1) (k::st) m
 | k,st,.d::m=>run r (k + 1) st m
 | k,[],.o::m=>run r (k + 1) [] m
 | _,_::_,.o::_=>none
 | _,[],.u::_=>none
 | k,p::st,.u::m=>if(k:Int) - p - 1<=r then run r (k + 1) st m else none
theorem a2f {r:Int}:∀(a:List Mk) (k:Nat) (st:List Nat) (b:List Mk),run r k st (a++b)=(run r k st a).bind fun st'=>run r (k + a.length) st' b
 | [],k,st,b=>rfl
 | .t :: a, k, st, b => by
   rw [x2h];show run r (k + 1) (k::st) (a++b)=(run r (k + 1) (k::st) a).bind _;rw [a2f a,x0D,show k + 1 + a.length=k + (a.length + 1) by omega]
 | .d :: a, k, st, b => by
   rw [x2h];show run r (k + 1) st (a++b)=(run r (k + 1) st a).bind _;rw [a2f a,x0D,show k + 1 + a.length=k + (a.length + 1) by omega]
 | .o :: a, k, [], b => by
   rw [x2h];show run r (k + 1) [] (a++b)=(run r (k + 1) [] a).bind _;rw [a2f a,x0D,show k + 1 + a.length=k + (a.length + 1) by omega]
 | .o::a,k,p::st,b=>rfl
 | .u::a,k,[],b=>rfl
 | .u :: a, k, p :: st, b => by
   rw [x2h];show(if(k:Int) - p - 1<=r then run r (k + 1) st (a++b) else none)=(if(k:Int) - p - 1<=r then run r (k + 1) st a else none).bind _
   split
   · rw [a2f a,x0D,show k + 1 + a.length=k + (a.length + 1) by omega]
   · rfl
def Cl (r:Int)(k:Nat)(m:List Mk):Prop:=∀st,run r k st m=some st
theorem Cl.app {r:Int}{k:Nat}{a b:List Mk}(h1:Cl r k a)(h2:Cl r (k + a.length) b):Cl r k (a++b):=fun st=>by rw [a2f,h1 st];exact h2 st
theorem Cl.d {r:Int}{k:Nat}{m:List Mk}(h:Cl r (k + 1) m):Cl r k (.d::m):=fun st=>h st
def Seg (r:Int):List Nat->List Mk->Prop
 | [],m=>run r 0 [] m=some []
 | p::ps,m=>∃m1 m2,m=m1++.d::m2/\m1.length=p/\Cl r (p + 1) m2/\Seg r ps m1
theorem Seg.app {r:Int}:∀{ps:List Nat} {m b:List Mk},Seg r ps m->Cl r m.length b->Seg r ps (m++b):=by
 intro xq
 induction xq with
 | nil =>
   intro m b h hb;show run r 0 [] (m++b)=some [];rw [a2f,show run r 0 [] m=some [] from h,x0N];exact hb []
 | cons p ps ih =>
   intro m b h hb;obtain⟨m1,m2,rfl,e,h2,h3⟩:=h;refine⟨m1,m2++b,by simp,e,h2.app ?_,h3⟩;rw [x0l,x0D,e] at hb;rw [show p + 1 + m2.length=p + (m2.length + 1) by omega];exact hb
inductive PE where
 | d (i:Nat) | t (i j:Nat)
def nm (zs:List Str)(i:Nat):Str:=zs.getD i (x0H "")
structure Fair (zs:List Str)(es:List Ev):Prop where
 nd:(es.flatMap evB).Nodup
 sub:∀b∈es.flatMap evB,b∈zs
theorem at2_0 {α:Type}{a b:α}:atI [a,b] 0=some a:=rfl
theorem at2_1 {α:Type}{a b:α}:atI [a,b] 1=some b:=rfl
theorem at3_0 {α:Type}{a b c:α}:atI [a,b,c] 0=some a:=rfl
theorem at3_1 {α:Type}{a b c:α}:atI [a,b,c] 1=some b:=rfl
theorem at3_2 {α:Type}{a b c:α}:atI [a,b,c] 2=some c:=rfl
end Pu
end
section
namespace Pu
open PySem PySem.Spec L2
section
variable {P:List Str->List Ev->Prop}{s n mx:Nat}{row:List Str}
theorem places {s n:Nat}(h1:1<=s)(hn:1<=n){k:Nat}(hk:k < (n + s - 1) / s):k * s<=n - 1:=by
 have:(n + s - 1) / s * s<=n + s - 1:=Nat.div_mul_le_self _ _;have h2:(k + 1) * s<=(n + s - 1) / s * s:=x1i s hk;rw [x3r,Nat.one_mul] at h2;omega
end
end Pu
end
section
namespace SeT
open PySem PySem.SetTable L2
def lp (mask:Nat)(h:Int):Nat->Nat×Nat
 | 0=>(bits h % (mask + 1),bits h)
 | k + 1=>leap mask (lp mask h k).1 (lp mask h k).2
def rn (mask i:Nat):Nat:=runEnd mask i - i
def vs (mask:Nat)(h:Int)(k off:Nat):Nat:=(lp mask h k).1 + off
def orb (M:Nat):Nat->Nat
 | 0=>0
 | m + 1=>(orb M m * 5 + 1) % M
def Msk (mask:Nat):Prop:=mask=7\/mask=31\/mask=127
def chk (M:Nat):Bool:=(x0g M).all fun e=>(x0g M).any fun m=>orb M m == e
def Rise (xs:List Nat):Prop:=xs.Pairwise (· < ·)
end SeT
end
section
namespace SeT
open PySem PySem.SetTable L2
def Lx (k' o' k o:Nat):Prop:=k' < k\/(k'=k/\o' < o)
def Rch (mask:Nat)(O:Nat->Prop)(s:Nat)(h:Int):Prop:=∃k o,o<=rn mask (lp mask h k).1/\vs mask h k o=s/\∀k' o',o'<=rn mask (lp mask h k').1->Lx k' o' k o->O (vs mask h k' o')
structure TOk (t:SetTable)(hs:List Int):Prop where
 size:t.place.toList.length=hs.length
 dum:t.dummies=#[]
 mask:Msk t.mask
 rise:Rise t.place.toList
 lim:∀s∈t.place.toList,s<=t.mask
 room:hs.length < t.mask
 reach:∀(i:Nat) s h,t.place.toList[i]?=some s->hs[i]?=some h->Rch t.mask (·∈t.place.toList) s h
section
variable {t:SetTable}{hs:List Int}{h:Int}
def pb (mask:Nat)(h:Int)(k o:Nat):Probe:={ j:=vs mask h k o,more:=rn mask (lp mask h k).1 - o,i:=(lp mask h k).1,perturb:=(lp mask h k).2,dummy:=none }
def nx (mask:Nat)(h:Int)(k o:Nat):Nat×Nat:=if o < rn mask (lp mask h k).1 then(k,o + 1) else(k + 1,0)
end
end SeT
end
section
namespace SeT
open PySem PySem.SetTable L2
structure Own (mask:Nat)(ow:Array (Option Nat))(sl:List Nat):Prop where
 size:ow.size=mask + 1
 nd:sl.Nodup
 lim:∀s∈sl,s<=mask
 has:∀(k s:Nat),sl[k]?=some s->ow[s]?=some (some k)
 no:∀s,s<=mask->s∉sl->ow[s]?=some none
theorem Own.none {mask:Nat}{ow:Array (Option Nat)}{sl:List Nat}(O:Own mask ow sl){s:Nat}(hs:s<=mask):(ow.getD s (some 0)).isNone=decide (s∉sl):=by
 rw [Array.getD_eq_getD_getElem?]
 by_cases c:s∈sl
 · obtain⟨k,hk⟩:=List.mem_iff_getElem?.mp c;rw [O.has k s hk,decide_eq_false (not_not_intro c)];rfl
 · rw [O.no s hs c,decide_eq_true c];rfl
def live (mask:Nat)(ow:Array (Option Nat)):List (Nat×Nat):=(x0g (mask + 1)).filterMap fun j=>(ow.getD j none).map (j,·)
end SeT
end
section
namespace SeT
open PySem PySem.Spec PyProof.Rows L2
section
variable (prog:x0x)(w:World)
abbrev TK:HeapKind prog w (List Key):=x1p (a0E prog w)
def enS (x:List Key×Addr):Int×Value:=((TK prog w).hash x.1,.ref x.2)
structure SetK (h:Heap)(a:Addr)(o:Obj)(es:Array (Int×Value))(ep:Nat)(t:SetTable)(xs:List (List Key×Addr)):Prop where
 ho:h.get? a=some o
 ex:o.ExactSet
 hd:o.data=.set es ep t
 hes:es.toList=xs.map (enS prog w)
 hk:∀x∈xs,(TK prog w).is h x.1 x.2
 nd:(xs.map (·.1)).Nodup
 tb:TOk t (xs.map fun x=>(TK prog w).hash x.1)
 few:5 * xs.length < 3 * t.mask
 led:t.led=!(w.params.followText "set-order")
end
end SeT
end
section
namespace SeT
open PySem PySem.Spec PyProof.Rows L2
section
variable {prog:x0x}{w:World}{A:Around}{E:Value->Shared->Prop}{s:Shared}{a:Addr}{o:Obj}{es:Array (Int×Value)}{ep:Nat}{t:SetTable}{xs:List (List Key×Addr)}
theorem TOk.pl {hs:List Int}(T:TOk t hs)(b:Bool):TOk { t with plain:=b } hs:=⟨T.size,T.dum,T.mask,T.rise,T.lim,T.room,T.reach⟩
end
end SeT
end
section
namespace SeT
open PySem PySem.Spec PyProof.Rows L2
def Holds (prog:x0x)(w:World)(h:Heap)(S:Addr)(rs:List (List Key×Addr)):Prop:=
 ∃o es ep t xs,SetK prog w h S o es ep t xs/\(∀x∈xs,x∈rs)/\∀x∈rs,x.1∈xs.map (·.1)
end SeT
end
section
namespace SeT
open PySem PySem.Spec PyProof.Rows L2
section
variable {prog:x0x}{w:World}{A:Around}{E:Value->Shared->Prop}{s:Shared}
def SetIt (h:Heap)(I a:Addr)(fst:Value)(i n ep:Nat):Prop:=∃o,h.get? I=some o/\o.cls=.type "set_iterator"/\o.data=.fields #[fst,.int i 0,.ref a,.int n 0,.int ep 0]
theorem SetIt.ty {I a:Addr}{fst:Value}{i n ep:Nat}(x:SetIt s.heap I a fst i n ep):s.TypeIs (.ref I) "set_iterator":=by
 obtain⟨o,ho,hc,_⟩:=x;exact⟨o,ho,hc⟩
end
end SeT
end
section
namespace SeT
open PySem PySem.W PySem.Spec PyProof.Rows L2
abbrev kks (ys:List (List Key×Addr)):List (List Key):=ys.map (·.1)
section
variable {X:Cx}
def SetO (X:Cx)(p:Addr)(rs:List (List Key×Addr)):HO:=.ext fun h=>∃h0 o es ep t xs,SetK X.prog X.w h0 p o es ep t xs/\h.get? p=some o/\(∀x∈xs,x∈rs)/\∀x∈rs,x.1∈kks xs
end
end SeT
end
section
namespace Pu
open PySem PySem.Spec L2
theorem Fair.tx {st:List Str}{es:List Ev}(h:Fair st es){x y:Str}(he:Ev.t x y∈es):x∈st/\y∈st:=
 ⟨h.sub x (List.mem_flatMap.mpr ⟨_,he,by simp [evB]⟩),h.sub y (List.mem_flatMap.mpr ⟨_,he,by simp [evB]⟩)⟩
end Pu
end
section
namespace Pu
open PySem PySem.Spec L2
theorem nodup_ix {α:Type}{l:List α}(nd:l.Nodup){k m:Nat}(h1:k < l.length)(h2:m < l.length)(e:l[k]=l[m]):k=m:=by
 have pw:=List.pairwise_iff_getElem.mp nd;rcases Nat.lt_trichotomy k m with c | c | c
 · exact absurd e (pw k m h1 h2 c)
 · exact c
 · exact absurd e.symm (pw m k h2 h1 c)
end Pu
end
section
namespace Pu
open PySem PySem.Spec L2
abbrev pD:=List Key->(Env->Nat->List (List PV)->Prop)->Env->Nat->List (List PV)->Prop
end Pu
end
section
namespace Pu
open PySem PySem.Spec L2
structure KE (K:x0a)(T:PotK)(G:Gh)(H1:Hp)(D:Addr)(M:List Addr)(as:List Addr)(ks:List Key)(yss:List (List PV))(H:Hp):Prop where
 mem:∀c,c∈M↔c∈as\/c=D\/c∈G.M
 keep:∀b o,b∉G.pots->H1 b=some o->H b=some o
 dic:H D=some (.dK (ks.zip (as.map V.ref)))
 lk:ks.length=as.length
 ly:yss.length=as.length
 nd:(D::as).Nodup
 new:∀b∈as,H1 b=none
 inn:∀(k:Nat) (b:Addr) (ys:List PV),as[k]?=some b->yss[k]?=some ys->∃vs,H b=some (.lst vs)/\Reps K ⟨M,G.pots⟩ H ys vs
end Pu
end
section
namespace L2
namespace Tm
open PySem PySem.W PyProof.Rows
structure Pk where
 v:Nat
 n:Nat
abbrev El:=Fin 1024
namespace Pk
variable {q:Pk}{i:Nat}
def at' (q:Pk)(i:Nat):El:=⟨(q.v >>> (10 * i)) % 1024,Nat.mod_lt _ (by decide)⟩
def size (q:Pk):Nat:=q.n
def push (q:Pk)(x:El):Pk:=⟨q.v % 2 ^ (10 * q.n) ||| x.val <<< (10 * q.n),q.n + 1⟩
def extract (q:Pk)(i j:Nat):Pk:=⟨q.v >>> (10 * i),min j q.n - i⟩
def app (a b:Pk):Pk:=⟨a.v % 2 ^ (10 * a.n) ||| b.v <<< (10 * a.n),a.n + b.n⟩
instance:Append Pk:=⟨app⟩
def one (x:El):Pk:=⟨x.val,1⟩
def ofF (f:Nat->El):Nat->Pk
 | 0=>⟨0,0⟩
 | n + 1=>(ofF f n).push (f n)
def reverse (q:Pk):Pk:=ofF (fun i=>q.at' (q.n - 1 - i)) q.n
theorem tb (v i j:Nat)(h:j < 10):x0C ((v >>> (10 * i)) % 1024) j=x0C v (10 * i + j):=by
 rw [show(1024:Nat)=2 ^ 10 from rfl,x0z,x1B,decide_eq_true h,Bool.true_and]
theorem a4i {r:Pk}{k:Nat}(h:∀j,j < 10->x0C q.v (10 * i + j)=x0C r.v (10 * k + j)):q.at' i=r.at' k:=by
 refine Fin.ext (Nat.eq_of_testBit_eq fun j=>?_);show x0C ((q.v >>> (10 * i)) % 1024) j=x0C ((r.v >>> (10 * k)) % 1024) j
 by_cases c:j < 10
 · rw [tb _ _ _ c,tb _ _ _ c,h j c]
 · rw [show(1024:Nat)=2 ^ 10 from rfl,x0z,x0z,decide_eq_false c];rfl
theorem at_val {x:El}(h:∀j,j < 10->x0C q.v (10 * i + j)=x0C x.val j):q.at' i=x:=by
 refine Fin.ext (Nat.eq_of_testBit_eq fun j=>?_);show x0C ((q.v >>> (10 * i)) % 1024) j=_
 by_cases c:j < 10
 · rw [tb _ _ _ c,h j c]
 · have z:x0C ((q.v >>> (10 * i)) % 1024) j=false:=by
     rw [show(1024:Nat)=2 ^ 10 from rfl,x0z,decide_eq_false c,x2G]
   rw [z];exact(Nat.testBit_lt_two_pow (x0u x.isLt (Nat.pow_le_pow_right (show 0 < 2 by decide) (show 10<=j by omega)))).symm
theorem at_push_lt (q:Pk)(x:El)(h:i < q.n):(q.push x).at' i=q.at' i:=a4i fun j hj=>by
 show x0C (q.v % 2 ^ (10 * q.n) ||| x.val <<< (10 * q.n)) _=_;rw [x1o,x0z,x0O,decide_eq_true (by omega),decide_eq_false (by omega)];simp
theorem at_push (q:Pk)(x:El):(q.push x).at' q.n=x:=at_val fun j hj=>by
 show x0C (q.v % 2 ^ (10 * q.n) ||| x.val <<< (10 * q.n)) _=_;rw [x1o,x0z,x0O,decide_eq_false (by omega),decide_eq_true (by omega),x2G,Bool.false_or,Bool.true_and]
 congr 1;omega
theorem at_ext (q:Pk)(i j k:Nat):(q.extract i j).at' k=q.at' (i + k):=a4i fun l hl=>by
 show x0C (q.v >>> (10 * i)) _=_;rw [x1B]
 congr 1;omega
theorem at_app_lt (a b:Pk)(h:i < a.n):(a++b).at' i=a.at' i:=a4i fun j hj=>by
 show x0C (a.v % 2 ^ (10 * a.n) ||| b.v <<< (10 * a.n)) _=_;rw [x1o,x0z,x0O,decide_eq_true (by omega),decide_eq_false (by omega)];simp
theorem at_app_ge (a b:Pk)(i:Nat):(a++b).at' (a.n + i)=b.at' i:=a4i fun j hj=>by
 show x0C (a.v % 2 ^ (10 * a.n) ||| b.v <<< (10 * a.n)) _=_;rw [x1o,x0z,x0O,decide_eq_false (by omega),decide_eq_true (by omega),x2G,Bool.false_or,Bool.true_and]
 congr 1;omega
theorem ofF_n (f:Nat->El):∀n,(ofF f n).n=n:=by
 intro xq
 induction xq with
 | zero =>
   exact rfl
 | succ n ih =>
   show(ofF f n).n + 1=_;rw [ih]
theorem ofF_at (f:Nat->El):∀(n:Nat) {i:Nat},i < n->(ofF f n).at' i=f i:=by
 intro xq
 induction xq with
 | zero =>
   intro _ h;exact absurd h (Nat.not_lt_zero _)
 | succ n ih =>
   intro i h;show((ofF f n).push (f n)).at' i=_
   by_cases c:i=n
   · subst c;have:=at_push (ofF f i) (f i);rw [ofF_n] at this;exact this
   · rw [at_push_lt _ _ (by rw [ofF_n];omega)];exact ih (by omega)
def down (p:Pk)(k l:Nat):Pk:=⟨p.v % 2 ^ (10 * l) ||| (p.at' k).val <<< (10 * l) ||| ((p.v >>> (10 * l)) % 2 ^ (10 * (k - l))) <<< (10 * (l + 1)) ||| (p.v >>> (10 * (k + 1))) <<< (10 * (k + 1)),p.n⟩
theorem a5n {x:El}{j:Nat}(h:10<=j):x0C x.val j=false:=Nat.testBit_lt_two_pow (x0u x.isLt (Nat.pow_le_pow_right (show 0 < 2 by decide) h))
theorem at_down (p:Pk){k l:Nat}(h:l<=k)(i:Nat):(p.down k l).at' i=if i=l then p.at' k else if l < i/\i<=k then p.at' (i - 1) else p.at' i:=by
 have e:∀j,j < 10->x0C (p.down k l).v (10 * i + j)=((decide (10 * i + j < 10 * l) && x0C p.v (10 * i + j)) || (decide (10 * i + j>=10 * l) && x0C (p.at' k).val (10 * i + j - 10 * l)) || (decide (10 * i + j>=10 * (l + 1)) && (decide (10 * i + j - 10 * (l + 1) < 10 * (k - l)) && x0C p.v (10 * l + (10 * i + j - 10 * (l + 1))))) || (decide (10 * i + j>=10 * (k + 1)) && x0C p.v (10 * (k + 1) + (10 * i + j - 10 * (k + 1))))):=fun j hj=>by
   show x0C (p.v % 2 ^ (10 * l) ||| (p.at' k).val <<< (10 * l) ||| ((p.v >>> (10 * l)) % 2 ^ (10 * (k - l))) <<< (10 * (l + 1)) ||| (p.v >>> (10 * (k + 1))) <<< (10 * (k + 1))) _=_;rw [x1o,x1o,x1o,x0z,x0O,x0O,x0O,x0z,x1B,x1B]
 by_cases c1:i=l
 · rw [if_pos c1];subst c1;refine at_val fun j hj=>?_;rw [e j hj,decide_eq_false (show ¬10 * i + j < 10 * i by omega),decide_eq_true (show 10 * i + j>=10 * i by omega),decide_eq_false (show ¬10 * i + j>=10 * (i + 1) by omega),decide_eq_false (show ¬10 * i + j>=10 * (k + 1) by omega),show 10 * i + j - 10 * i=j by omega];simp
 · rw [if_neg c1]
   by_cases c2:l < i/\i<=k
   · rw [if_pos c2];refine a4i fun j hj=>?_;rw [e j hj,decide_eq_false (show ¬10 * i + j < 10 * l by omega),a5n (show 10<=10 * i + j - 10 * l by omega),decide_eq_true (show 10 * i + j>=10 * (l + 1) by omega),decide_eq_true (show 10 * i + j - 10 * (l + 1) < 10 * (k - l) by omega),decide_eq_false (show ¬10 * i + j>=10 * (k + 1) by omega),show 10 * l + (10 * i + j - 10 * (l + 1))=10 * (i - 1) + j by omega];simp
   · rw [if_neg c2];refine a4i fun j hj=>?_
     by_cases c3:i < l
     · rw [e j hj,decide_eq_true (show 10 * i + j < 10 * l by omega),decide_eq_false (show ¬10 * i + j>=10 * l by omega),decide_eq_false (show ¬10 * i + j>=10 * (l + 1) by omega),decide_eq_false (show ¬10 * i + j>=10 * (k + 1) by omega)];simp
     · rw [e j hj,decide_eq_false (show ¬10 * i + j < 10 * l by omega),a5n (show 10<=10 * i + j - 10 * l by omega),decide_eq_false (show ¬10 * i + j - 10 * (l + 1) < 10 * (k - l) by omega),decide_eq_true (show 10 * i + j>=10 * (k + 1) by omega),show 10 * (k + 1) + (10 * i + j - 10 * (k + 1))=10 * i + j by omega];simp
def over (p:Pk)(x:Nat)(r:Pk):Pk:=⟨p.v % 2 ^ (10 * x) ||| (r.v % 2 ^ (10 * r.n)) <<< (10 * x) ||| (p.v >>> (10 * (x + r.n))) <<< (10 * (x + r.n)),p.n⟩
theorem at_over (p r:Pk)(x i:Nat):(p.over x r).at' i=if x<=i/\i < x + r.n then r.at' (i - x) else p.at' i:=by
 have e:∀j,j < 10->x0C (p.over x r).v (10 * i + j)=((decide (10 * i + j < 10 * x) && x0C p.v (10 * i + j)) || (decide (10 * i + j>=10 * x) && (decide (10 * i + j - 10 * x < 10 * r.n) && x0C r.v (10 * i + j - 10 * x))) || (decide (10 * i + j>=10 * (x + r.n)) && x0C p.v (10 * (x + r.n) + (10 * i + j - 10 * (x + r.n))))):=fun j hj=>by
   show x0C (p.v % 2 ^ (10 * x) ||| (r.v % 2 ^ (10 * r.n)) <<< (10 * x) ||| (p.v >>> (10 * (x + r.n))) <<< (10 * (x + r.n))) _=_;rw [x1o,x1o,x0z,x0O,x0O,x0z,x1B]
 by_cases c:x<=i/\i < x + r.n
 · rw [if_pos c];refine a4i fun j hj=>?_;rw [e j hj,decide_eq_false (show ¬10 * i + j < 10 * x by omega),decide_eq_true (show 10 * i + j>=10 * x by omega),decide_eq_true (show 10 * i + j - 10 * x < 10 * r.n by omega),decide_eq_false (show ¬10 * i + j>=10 * (x + r.n) by omega),show 10 * i + j - 10 * x=10 * (i - x) + j by omega];simp
 · rw [if_neg c];refine a4i fun j hj=>?_
   by_cases c3:i < x
   · rw [e j hj,decide_eq_true (show 10 * i + j < 10 * x by omega),decide_eq_false (show ¬10 * i + j>=10 * x by omega),decide_eq_false (show ¬10 * i + j>=10 * (x + r.n) by omega)];simp
   · rw [e j hj,decide_eq_false (show ¬10 * i + j < 10 * x by omega),decide_eq_false (show ¬10 * i + j - 10 * x < 10 * r.n by omega),decide_eq_true (show 10 * i + j>=10 * (x + r.n) by omega),show 10 * (x + r.n) + (10 * i + j - 10 * (x + r.n))=10 * i + j by omega];simp
end Pk
end Tm
end L2
end
section
namespace L2
namespace Tm
open PySem PySem.W PyProof.Rows
def ls (it:Array Keyed)(q:Pk):List Keyed:=(x0g q.n).map fun i=>x1N it (q.at' i).val
abbrev mp (it:Array Keyed)(q:Pk):Array Keyed:=(ls it q).toArray
theorem a1Y {it:Array Keyed}(q:Pk)(i:Nat):(ls it q)[i]?=if i < q.n then some (x1N it (q.at' i).val) else none:=by
 unfold ls;rw [x0p]
 by_cases c:i < q.n
 · rw [if_pos c,List.getElem?_range c];rfl
 · rw [if_neg c,x0B (by rw [x1T];omega)];rfl
theorem a1w {it:Array Keyed}(q:Pk):(ls it q).length=q.n:=by unfold ls;rw [x0e,x1T]
theorem a5F {it:Array Keyed}(q:Pk){l:List Keyed}(h:∀i,l[i]?=if i < q.n then some (x1N it (q.at' i).val) else none):l=ls it q:=List.ext_getElem? fun i=>by rw [h,a1Y]
theorem b0p {it:Array Keyed}(q:Pk)(x:El):(mp it q).push (x1N it x.val)=mp it (q.push x):=by
 have:ls it q++[x1N it x.val]=ls it (q.push x):=a5F _ fun i=>by
   show _=if i < q.n + 1 then _ else _
   by_cases c:i < q.n
   · rw [x0F (by rw [a1w];exact c),a1Y,if_pos c,if_pos (by omega),Pk.at_push_lt _ _ c]
   · rw [x1j (by rw [a1w];omega),a1w]
     by_cases c2:i=q.n
     · subst c2;rw [Nat.sub_self,if_pos (by omega),Pk.at_push];rfl
     · rw [if_neg (by omega),x0B (by rw [x1H];omega)]
 show(ls it q).toArray.push _=(ls it (q.push x)).toArray;rw [<- this,List.push_toArray]
theorem mp_app {it:Array Keyed}(q r:Pk):mp it q++mp it r=mp it (q++r):=by
 have:ls it q++ls it r=ls it (q++r):=a5F _ fun i=>by
   show _=if i < q.n + r.n then _ else _
   by_cases c:i < q.n
   · rw [x0F (by rw [a1w];exact c),a1Y,if_pos c,if_pos (by omega),Pk.at_app_lt _ _ c]
   · rw [x1j (by rw [a1w];omega),a1w,a1Y];obtain⟨k,rfl⟩:∃k,i=q.n + k:=⟨i - q.n,by omega⟩;rw [Pk.at_app_ge,show q.n + k - q.n=k by omega]
     by_cases c2:k < r.n
     · rw [if_pos c2,if_pos (by omega)]
     · rw [if_neg c2,if_neg (by omega)]
 show(ls it q).toArray++(ls it r).toArray=(ls it (q++r)).toArray;rw [<- this];exact(List.append_toArray _ _)
theorem a3Q {it:Array Keyed}(q:Pk)(i j:Nat):(mp it q).extract i j=mp it (q.extract i j):=by
 have:(ls it q).extract i j=ls it (q.extract i j):=a5F _ fun k=>by
   show((ls it q).drop i |>.take (j - i))[k]?=if k < min j q.n - i then _ else _;rw [List.getElem?_take,List.getElem?_drop,a1Y,Pk.at_ext]
   by_cases c:k < j - i
   · rw [if_pos c]
     by_cases c2:i + k < q.n
     · rw [if_pos c2,if_pos (by omega)]
     · rw [if_neg c2,if_neg (by omega)]
   · rw [if_neg c,if_neg (by omega)]
 show(ls it q).toArray.extract i j=(ls it (q.extract i j)).toArray;rw [<- this,List.extract_toArray]
theorem mp_rev {it:Array Keyed}(q:Pk):(mp it q).reverse=mp it q.reverse:=by
 have:(ls it q).reverse=ls it q.reverse:=a5F _ fun k=>by
   have hn:q.reverse.n=q.n:=Pk.ofF_n _ _;rw [hn]
   by_cases c:k < q.n
   · rw [List.getElem?_reverse (by rw [a1w];exact c),a1w,a1Y,if_pos (by omega),if_pos c,show q.reverse.at' k=q.at' (q.n - 1 - k) from Pk.ofF_at _ _ c]
   · rw [if_neg c,x0B (by rw [List.length_reverse,a1w];omega)]
 show(ls it q).toArray.reverse=(ls it q.reverse).toArray;rw [<- this,List.reverse_toArray]
theorem a2h {it:Array Keyed}(q:Pk):(mp it q).size=q.size:=by
 show(ls it q).toArray.size=q.n;rw [x0j,a1w]
abbrev arr1 (x:Keyed):Array Keyed:=#[x]
theorem mp_one {it:Array Keyed}(x:El):arr1 (x1N it x.val)=mp it (Pk.one x):=by
 have:[x1N it x.val]=ls it (Pk.one x):=a5F _ fun i=>by
   show _=if i < 1 then _ else _
   by_cases c:i < 1
   · obtain rfl:i=0:=by omega
     rw [if_pos (by decide),show(Pk.one x).at' 0=x from Pk.at_val fun j hj=>by show x0C x.val _=_;congr 1;omega];rfl
   · rw [if_neg c,x0B (by rw [x1H];omega)]
 show [x1N it x.val].toArray=_;rw [this]
structure S where
 p:Pk
 pend:Array (Nat×Nat×Nat)
 g:Nat
abbrev N:=StateT S Option
def toSt (κ:x3e)(it:Array Keyed)(s:S):SortSt:=x2U κ (mp it s.p) s.pend s.g none
def Sim (prog:x0x)(w:World)(A:Around)(E:Value->Shared->Prop)(sh:Shared)(κ:x3e)(it:Array Keyed){α β:Type}(F:β->α)(P:StateT SortSt Sem α)(m:N β):Prop:=
 ∀(s:S) (b:β) (s':S),m s=some (b,s')->∀Q:α->SortSt->Prop,Q (F b) (toSt κ it s')->wpS (model prog w) A E sh P Q (toSt κ it s)
section
variable {prog:x0x}{w:World}{A:Around}{E:Value->Shared->Prop}{sh:Shared}{κ:x3e}{it:Array Keyed}{α β γ δ:Type}
theorem a0u {F:β->α}(b:β){a:α}(h:a=F b):Sim prog w A E sh κ it F (pure a) (pure b):=fun s b' s' e Q q=>by
 cases e;exact wpS_pure (by rw [h];exact q)
theorem a0e {F:β->α}{G:δ->γ}{P:StateT SortSt Sem γ}{m:N δ}{f:γ->StateT SortSt Sem α}{g:δ->N β}(h1:Sim prog w A E sh κ it G P m)(h2:∀d,Sim prog w A E sh κ it F (f (G d)) (g d)):Sim prog w A E sh κ it F (P>>=f) (m>>=g):=fun s b s' e Q q=>by
 cases h:m s with
 | none =>
   have:(m>>=g) s=none:=by show(m s).bind _=none;rw [h];rfl
   rw [this] at e;cases e
 | some r =>
   obtain⟨d,s1⟩:=r;have:(m>>=g) s=g d s1:=by show(m s).bind _=_;rw [h];rfl
   rw [this] at e;exact wpS_bind (h1 s d s1 h _ (h2 d s1 b s' e Q q))
theorem a1M:Sim prog w A E sh κ it (toSt κ it) get get:=fun s b s' e Q q=>by
 cases e;exact wpS_get q
theorem a2T {f:SortSt->SortSt}{g:S->S}(h:∀s,f (toSt κ it s)=toSt κ it (g s)):Sim prog w A E sh κ it id (modify f) (modify g):=fun s b s' e Q q=>by
 cases e;refine wpS_modify ?_;rw [h];exact q
theorem a9x {st:SortSt}{s0:S}(h:st=toSt κ it s0):Sim prog w A E sh κ it id (set st) (set s0):=fun s b s' e Q q=>by
 cases e;subst h;exact x0h ⟨rfl,q⟩
theorem a7K {x:String}:Sim prog w A E sh κ it id (liftM (rule x):StateT SortSt Sem Unit) (pure ()):=fun s b s' e Q q=>by
 cases e;exact wpS_lift (x2m ⟨rfl,q⟩)
theorem a1n {F:β->α}{P:StateT SortSt Sem α}:Sim prog w A E sh κ it F P (fun _=>none):=fun s b s' e=>nomatch e
theorem a1f {F:β->α}{c:Prop}[Decidable c]{P1 P2:StateT SortSt Sem α}{m1 m2:N β}(h1:c->Sim prog w A E sh κ it F P1 m1)(h2:¬c->Sim prog w A E sh κ it F P2 m2):Sim prog w A E sh κ it F (if c then P1 else P2) (if c then m1 else m2):=by
 by_cases h:c
 · rw [if_pos h,if_pos h];exact h1 h
 · rw [if_neg h,if_neg h];exact h2 h
def stepF (F:β->α):ForInStep β->ForInStep α
 | .done d=>.done (F d)
 | .yield d=>.yield (F d)
theorem a7L {F:β->α}{f:Nat->α->StateT SortSt Sem (ForInStep α)}{g:Nat->β->N (ForInStep β)}(h:∀i d,Sim prog w A E sh κ it (stepF F) (f i (F d)) (g i d)):∀(l:List Nat) (d:β),Sim prog w A E sh κ it F (forIn l (F d) f) (forIn l d g):=by
 intro xq
 induction xq with
 | nil =>
   intro d;rw [List.forIn_nil,List.forIn_nil];exact a0u d rfl
 | cons x l ih =>
   intro d;rw [List.forIn_cons,List.forIn_cons];refine a0e (h x d) fun r=>?_;cases r with
   | done d'=>exact a0u d' rfl
   | yield d'=>exact ih d'
theorem a2e {F:β->α}{a b:Nat}{c:α}{d:β}(hc:c=F d){f:Nat->α->StateT SortSt Sem (ForInStep α)}{g:Nat->β->N (ForInStep β)}(h:∀i d,Sim prog w A E sh κ it (stepF F) (f i (F d)) (g i d)):Sim prog w A E sh κ it F (forIn [a:b] c f) (forIn (x0S a (b - a)) d g):=by
 rw [Std.Legacy.Range.forIn_eq_forIn_range'];have hsz:([a:b]:Std.Legacy.Range).size=b - a:=by simp [Std.Legacy.Range.size]
 show Sim prog w A E sh κ it F (forIn (x0S a ([a:b]:Std.Legacy.Range).size 1) c f) _;rw [hsz,hc];exact a7L h _ d
def elM (q:Pk)(i:Nat):N El:=if i < q.n then pure (q.at' i) else fun _=>none
abbrev ite' (it:Array Keyed)(x:El):Keyed:=x1N it x.val
theorem a1G (q:Pk)(i:Nat):Sim prog w A E sh κ it (ite' it) (elem' (mp it q) i) (elM q i):=by
 rw [elem'_eq];unfold elM;rw [List.getElem?_toArray,a1Y]
 by_cases c:i < q.n
 · rw [if_pos c,if_pos c];exact a0u _ rfl
 · rw [if_neg c,if_neg c];exact a1n
def ltM (lt:Nat->Nat->Bool)(n:Nat)(i j:El):N (Option Bool):=if i.val < n/\j.val < n then pure (some (lt i.val j.val)) else fun _=>none
variable {lt:Nat->Nat->Bool}{n:Nat}
def Asks (prog:x0x)(w:World)(A:Around)(sh:Shared)(κ:x3e)(it:Array Keyed)(lt:Nat->Nat->Bool)(n:Nat):Prop:=∀i j (C:Bool->Shared->Prop),i < n->j < n->C (lt i j) sh->wpAny (model prog w) A (keyLt' κ (x1N it i).1 (x1N it j).1) C (fun _ _=>False) sh
theorem a3I (hA:Asks prog w A sh κ it lt n)(i j:El):Sim prog w A E sh κ it id (lt' (ite' it i) (ite' it j)) (ltM lt n i j):=by
 unfold ltM
 by_cases c:i.val < n/\j.val < n
 · rw [if_pos c];intro s b s' e Q q;cases e;rw [lt'_eq];refine wpS_bind (wpS_get ?_);refine wpS_bind (wpS_lift (wpAny_attempt ?_));refine x0K (hA i.val j.val (fun b s2=>b=lt i.val j.val/\s2=sh) c.1 c.2 ⟨rfl,rfl⟩) (fun b s2 hb=>?_) fun _ _ z=>z.elim;obtain⟨rfl,rfl⟩:=hb;exact⟨rfl,wpS_pure q⟩
 · rw [if_neg c];exact a1n
def a1E:Bool->Keyed->Array Keyed->Nat->Nat->Nat->StateT SortSt Sem (Option Nat):=sortPriv% PySem.Builtin.gallop
def a3s:Array Keyed->Array Keyed->StateT SortSt Sem (Array Keyed):=sortPriv% PySem.Builtin.mergeLo
def a3t:Array Keyed->Array Keyed->StateT SortSt Sem (Array Keyed):=sortPriv% PySem.Builtin.mergeHi
def beyM (lt:Nat->Nat->Bool)(n:Nat)(l:Bool)(x:El)(q:Pk)(o i:Nat):N (Option Bool):=do
 let y ← elM q (o + i)
 if l=true then ltM lt n y x
 else do
   let r ← ltM lt n x y
   pure (Option.map (fun x=>!x) r)
def galM (lt:Nat->Nat->Bool)(n:Nat)(l:Bool)(x:El)(q:Pk)(o z h:Nat):N (Option Nat):=do
 let mut u:=0
 let mut v:=1
 let mut a:=0
 let mut b:=0
 let some r ← beyM lt n l x q o h | return none
 if r then
   let t:=z - h
   for _ in x0S 0 (z - 0) do
     if v>=t then break
     let some m ← beyM lt n l x q o (h + v) | return none
     if !m then break
     u:=v
     v:=2 * v + 1
   a:=h + u + 1
   b:=h + min v t
 else
   let t:=h + 1
   for _ in x0S 0 (z - 0) do
     if v>=t then break
     let some m ← beyM lt n l x q o (h - v) | return none
     if m then break
     u:=v
     v:=2 * v + 1
   a:=h + 1 - min v t
   b:=h - u
 for _ in x0S 0 (z - 0) do
   if a>=b then break
   let c:=a + (b - a) / 2
   let some m ← beyM lt n l x q o c | return none
   if m then a:=c + 1 else b:=c
 return some b
def beyK (l:Bool)(x:Keyed)(q:Array Keyed)(o i:Nat):StateT SortSt Sem (Option Bool):=do
 let y ← elem' q (o + i)
 if l=true then lt' y x
 else do
   let r ← lt' x y
   pure (Option.map (fun x=>!x) r)
theorem gal_eq (l:Bool)(x:Keyed)(q:Array Keyed)(o z h:Nat):a1E l x q o z h=(do
 let mut u:=0
 let mut v:=1
 let mut a:=0
 let mut b:=0
 let some r ← beyK l x q o h | return none
 if r then
   let t:=z - h
   for _ in [0:z] do
     if v>=t then break
     let some m ← beyK l x q o (h + v) | return none
     if !m then break
     u:=v
     v:=2 * v + 1
   a:=h + u + 1
   b:=h + min v t
 else
   let t:=h + 1
   for _ in [0:z] do
     if v>=t then break
     let some m ← beyK l x q o (h - v) | return none
     if m then break
     u:=v
     v:=2 * v + 1
   a:=h + 1 - min v t
   b:=h - u
 for _ in [0:z] do
   if a>=b then break
   let c:=a + (b - a) / 2
   let some m ← beyK l x q o c | return none
   if m then a:=c + 1 else b:=c
 return some b):=rfl
theorem a9B (hA:Asks prog w A sh κ it lt n)(l:Bool)(x:El)(q:Pk)(o i:Nat):Sim prog w A E sh κ it id (beyK l (ite' it x) (mp it q) o i) (beyM lt n l x q o i):=by
 unfold beyM beyK;refine a0e (a1G q _) fun y=>?_;refine a1f (fun _=>a3I hA y x) fun _=>?_;exact a0e (a3I hA x y) fun r=>a0u _ rfl
theorem a2d (hA:Asks prog w A sh κ it lt n)(l:Bool)(x:El)(q:Pk)(o z h:Nat):Sim prog w A E sh κ it id (a1E l (ite' it x) (mp it q) o z h) (galM lt n l x q o z h):=by
 have bey:=fun i=>a9B (E:=E) hA l x q o i;rw [gal_eq];unfold galM;generalize beyK l (ite' it x) (mp it q) o=B at *;generalize beyM lt n l x q o=BM at *;dsimp only
 repeat' first
   | exact a0u _ rfl
   | refine a1f (fun _=>?_) fun _=>?_
   | (refine a0e (bey _) fun y=>?_;cases y <;> dsimp only [id])
   | (refine a0e (a2e (F:=id) rfl fun i d=>?_) fun d=>?_ <;> obtain⟨r,d⟩:=d <;> cases r <;> dsimp only [id])
end
end Tm
end L2
end
section
namespace L2
namespace Tm
open PySem PySem.W PyProof.Rows
section
variable {prog:x0x}{w:World}{A:Around}{E:Value->Shared->Prop}{sh:Shared}{κ:x3e}{it:Array Keyed}{α β γ δ:Type}{lt:Nat->Nat->Bool}{n:Nat}
def a5v:Nat->StateT SortSt Sem Unit:=sortPriv% PySem.Builtin.setMinGallop
theorem a9C (m:Nat):a5v m=modify fun s=>x2U (kindOf s) (arrOf s) (x2e s) m (failedOf s):=rfl
def sgM (m:Nat):N Unit:=modify fun s=>{ s with g:=m }
theorem a8D (m:Nat):Sim prog w A E sh κ it id (a5v m) (sgM m):=by
 rw [a9C];exact a2T fun _=>rfl
def nopM:N Unit:=pure ()
theorem a3h {x:String}:Sim prog w A E sh κ it id (liftM (rule x):StateT SortSt Sem Unit) nopM:=a7K
abbrev FM (it:Array Keyed){ρ:Type}(d:Option Pk×Pk×ρ):Option (Array Keyed)×Array Keyed×ρ:=(d.1.map (mp it),mp it d.2.1,d.2.2)
abbrev FH (it:Array Keyed){ρ:Type}(d:Option Pk×Nat×Nat×Pk×ρ):Option (Array Keyed)×Nat×Nat×Array Keyed×ρ:=(d.1.map (mp it),d.2.1,d.2.2.1,mp it d.2.2.2.1,d.2.2.2.2)
theorem mlo_eq (a b:Array Keyed):a3s a b=(do
 rule "list.sort.merge-lo"
 let t:=a.size + b.size
 let dn (o:Array Keyed) (i j:Nat):=o++a.extract i a.size++b.extract j b.size
 let la (o:Array Keyed) (i j:Nat):=o++b.extract j b.size++a.extract i a.size
 let mut o:Array Keyed:=arr1 (← elem' b 0)
 let mut i:=0
 let mut j:=1
 if j == b.size then return dn o i j
 if i + 1 == a.size then return la o i j
 let mut m:=gallopOf (← get)
 for _ in [0:t] do
   let mut c:=0
   let mut d:=0
   for _ in [0:t] do
     let some y ← lt' (← elem' b j) (← elem' a i) | return dn o i j
     if y then
       o:=o.push (← elem' b j)
       j:=j + 1
       d:=d + 1
       c:=0
       if j == b.size then return dn o i j
       if d>=m then break
     else
       o:=o.push (← elem' a i)
       i:=i + 1
       c:=c + 1
       d:=0
       if i + 1 == a.size then return la o i j
       if c>=m then break
   rule "list.sort.gallop"
   m:=m + 1
   for _ in [0:t] do
     if m > 1 then m:=m - 1
     a5v m
     let some k ← a1E false (← elem' b j) a i (a.size - i) 0 | return dn o i j
     c:=k
     if k > 0 then
       o:=o++a.extract i (i + k)
       i:=i + k
       if i + 1 == a.size then return la o i j
       if i == a.size then return dn o i j
     o:=o.push (← elem' b j)
     j:=j + 1
     if j == b.size then return dn o i j
     let some k ← a1E true (← elem' a i) b j (b.size - j) 0 | return dn o i j
     d:=k
     if k > 0 then
       o:=o++b.extract j (j + k)
       j:=j + k
       if j == b.size then return dn o i j
     o:=o.push (← elem' a i)
     i:=i + 1
     if i + 1 == a.size then return la o i j
     if c < 7 && d < 7 then break
   m:=m + 1
   a5v m
 unsupported "internal:list.sort.merge-bound"):=rfl
def mloM (lt:Nat->Nat->Bool)(n:Nat)(a b:Pk):N Pk:=do
 nopM
 let t:=a.size + b.size
 let dn (o:Pk) (i j:Nat):=o++a.extract i a.size++b.extract j b.size
 let la (o:Pk) (i j:Nat):=o++b.extract j b.size++a.extract i a.size
 let mut o:Pk:=Pk.one (← elM b 0)
 let mut i:=0
 let mut j:=1
 if j == b.size then return dn o i j
 if i + 1 == a.size then return la o i j
 let mut m:=S.g (← get)
 for _ in x0S (0) (t - 0) do
   let mut c:=0
   let mut d:=0
   for _ in x0S (0) (t - 0) do
     let some y ← ltM lt n (← elM b j) (← elM a i) | return dn o i j
     if y then
       o:=o.push (← elM b j)
       j:=j + 1
       d:=d + 1
       c:=0
       if j == b.size then return dn o i j
       if d>=m then break
     else
       o:=o.push (← elM a i)
       i:=i + 1
       c:=c + 1
       d:=0
       if i + 1 == a.size then return la o i j
       if c>=m then break
   nopM
   m:=m + 1
   for _ in x0S (0) (t - 0) do
     if m > 1 then m:=m - 1
     sgM m
     let some k ← galM lt n false (← elM b j) a i (a.size - i) 0 | return dn o i j
     c:=k
     if k > 0 then
       o:=o++a.extract i (i + k)
       i:=i + k
       if i + 1 == a.size then return la o i j
       if i == a.size then return dn o i j
     o:=o.push (← elM b j)
     j:=j + 1
     if j == b.size then return dn o i j
     let some k ← galM lt n true (← elM a i) b j (b.size - j) 0 | return dn o i j
     d:=k
     if k > 0 then
       o:=o++b.extract j (j + k)
       j:=j + k
       if j == b.size then return dn o i j
     o:=o.push (← elM a i)
     i:=i + 1
     if i + 1 == a.size then return la o i j
     if c < 7 && d < 7 then break
   m:=m + 1
   sgM m
 (fun _=>none)
theorem mhi_eq (a b:Array Keyed):a3t a b=(do
 rule "list.sort.merge-hi"
 let t:=a.size + b.size
 let dn (o:Array Keyed) (i j:Nat):=a.extract 0 i++b.extract 0 j++o.reverse
 let fb (o:Array Keyed) (i j:Nat):=b.extract 0 j++a.extract 0 i++o.reverse
 let mut i:=a.size - 1
 let mut j:=b.size
 let mut o:Array Keyed:=arr1 (← elem' a i)
 if i == 0 then return dn o i j
 if j == 1 then return fb o i j
 let mut m:=gallopOf (← get)
 for _ in [0:t] do
   let mut c:=0
   let mut d:=0
   for _ in [0:t] do
     let some y ← lt' (← elem' b (j - 1)) (← elem' a (i - 1)) | return dn o i j
     if y then
       i:=i - 1
       o:=o.push (← elem' a i)
       c:=c + 1
       d:=0
       if i == 0 then return dn o i j
       if c>=m then break
     else
       j:=j - 1
       o:=o.push (← elem' b j)
       d:=d + 1
       c:=0
       if j == 1 then return fb o i j
       if d>=m then break
   rule "list.sort.gallop"
   m:=m + 1
   for _ in [0:t] do
     if m > 1 then m:=m - 1
     a5v m
     let some e ← a1E false (← elem' b (j - 1)) a 0 i (i - 1) | return dn o i j
     let k:=i - e
     c:=k
     if k > 0 then
       o:=o++(a.extract e i).reverse
       i:=e
       if i == 0 then return dn o i j
     j:=j - 1
     o:=o.push (← elem' b j)
     if j == 1 then return fb o i j
     let some e ← a1E true (← elem' a (i - 1)) b 0 j (j - 1) | return dn o i j
     let k:=j - e
     d:=k
     if k > 0 then
       o:=o++(b.extract e j).reverse
       j:=e
       if j == 1 then return fb o i j
       if j == 0 then return dn o i j
     i:=i - 1
     o:=o.push (← elem' a i)
     if i == 0 then return dn o i j
     if c < 7 && d < 7 then break
   m:=m + 1
   a5v m
 unsupported "internal:list.sort.merge-bound"):=rfl
def mhiM (lt:Nat->Nat->Bool)(n:Nat)(a b:Pk):N Pk:=do
 nopM
 let t:=a.size + b.size
 let dn (o:Pk) (i j:Nat):=a.extract 0 i++b.extract 0 j++o.reverse
 let fb (o:Pk) (i j:Nat):=b.extract 0 j++a.extract 0 i++o.reverse
 let mut i:=a.size - 1
 let mut j:=b.size
 let mut o:Pk:=Pk.one (← elM a i)
 if i == 0 then return dn o i j
 if j == 1 then return fb o i j
 let mut m:=S.g (← get)
 for _ in x0S (0) (t - 0) do
   let mut c:=0
   let mut d:=0
   for _ in x0S (0) (t - 0) do
     let some y ← ltM lt n (← elM b (j - 1)) (← elM a (i - 1)) | return dn o i j
     if y then
       i:=i - 1
       o:=o.push (← elM a i)
       c:=c + 1
       d:=0
       if i == 0 then return dn o i j
       if c>=m then break
     else
       j:=j - 1
       o:=o.push (← elM b j)
       d:=d + 1
       c:=0
       if j == 1 then return fb o i j
       if d>=m then break
   nopM
   m:=m + 1
   for _ in x0S (0) (t - 0) do
     if m > 1 then m:=m - 1
     sgM m
     let some e ← galM lt n false (← elM b (j - 1)) a 0 i (i - 1) | return dn o i j
     let k:=i - e
     c:=k
     if k > 0 then
       o:=o++(a.extract e i).reverse
       i:=e
       if i == 0 then return dn o i j
     j:=j - 1
     o:=o.push (← elM b j)
     if j == 1 then return fb o i j
     let some e ← galM lt n true (← elM a (i - 1)) b 0 j (j - 1) | return dn o i j
     let k:=j - e
     d:=k
     if k > 0 then
       o:=o++(b.extract e j).reverse
       j:=e
       if j == 1 then return fb o i j
       if j == 0 then return dn o i j
     i:=i - 1
     o:=o.push (← elM a i)
     if i == 0 then return dn o i j
     if c < 7 && d < 7 then break
   m:=m + 1
   sgM m
 (fun _=>none)
local macro_rules | `(tactic| walk_at "mpZ")=>`(tactic| ((try simp only [b0p,mp_app,a3Q,mp_rev,mp_one]) <;> rfl))
theorem a9z (hA:Asks prog w A sh κ it lt n)(a b:Pk):Sim prog w A E sh κ it (mp it) (a3s (mp it a) (mp it b)) (mloM lt n a b):=by
 have el:=fun q i=>a1G (prog:=prog) (w:=w) (A:=A) (E:=E) (sh:=sh) (κ:=κ) (it:=it) q i;have gl:=fun l x q o z h=>a2d (E:=E) hA l x q o z h;have lq:=fun i j=>a3I (E:=E) hA i j;rw [mlo_eq];unfold mloM;dsimp only;simp only [a2h,a3Q]
 repeat' first
   | exact a0u _ (by walk_at "mpZ")
   | exact a1n
   | refine a1f (fun _=>?_) fun _=>?_
   | refine a0e a3h fun _=>?_
   | refine a0e (el _ _) fun x=>?_
   | (refine a0e (lq _ _) fun y=>?_;cases y <;> dsimp only [id])
   | refine a0e a1M fun s=>?_
   | refine a0e (a8D _) fun _=>?_
   | (refine a0e (gl _ _ _ _ _ _) fun y=>?_;cases y <;> dsimp only [id])
   | (refine a0e (a2e (F:=FM it) (by walk_at "mpZ") fun i d=>?_) fun d=>?_ <;> obtain⟨r,d⟩:=d <;> cases r <;> dsimp only [FM,Option.map])
theorem a9A (hA:Asks prog w A sh κ it lt n)(a b:Pk):Sim prog w A E sh κ it (mp it) (a3t (mp it a) (mp it b)) (mhiM lt n a b):=by
 have el:=fun q i=>a1G (prog:=prog) (w:=w) (A:=A) (E:=E) (sh:=sh) (κ:=κ) (it:=it) q i;have gl:=fun l x q o z h=>a2d (E:=E) hA l x q o z h;have lq:=fun i j=>a3I (E:=E) hA i j;rw [mhi_eq];unfold mhiM;dsimp only;simp only [a2h,a3Q]
 repeat' first
   | exact a0u _ (by walk_at "mpZ")
   | exact a1n
   | refine a1f (fun _=>?_) fun _=>?_
   | refine a0e a3h fun _=>?_
   | refine a0e (el _ _) fun x=>?_
   | (refine a0e (lq _ _) fun y=>?_;cases y <;> dsimp only [id])
   | refine a0e a1M fun s=>?_
   | refine a0e (a8D _) fun _=>?_
   | (refine a0e (gl _ _ _ _ _ _) fun y=>?_;cases y <;> dsimp only [id])
   | (refine a0e (a2e (F:=FH it) (by walk_at "mpZ") fun i d=>?_) fun d=>?_ <;> obtain⟨r,d⟩:=d <;> cases r <;> dsimp only [FH,Option.map])
end
end Tm
end L2
end
section
namespace L2
namespace Tm
open PySem PySem.W PyProof.Rows
section
variable {prog:x0x}{w:World}{A:Around}{E:Value->Shared->Prop}{sh:Shared}{κ:x3e}{it:Array Keyed}{α β γ δ:Type}{lt:Nat->Nat->Bool}{n:Nat}
abbrev setP (s:S)(p:Array (Nat×Nat×Nat)):S:=⟨s.p,p,s.g⟩
abbrev setA (s:S)(p:Pk):S:=⟨p,s.pend,s.g⟩
def a3R (lt:Nat->Nat->Bool)(n i j:Nat):N (Option Bool):=do
 let a:=S.p (← get)
 ltM lt n (← elM a i) (← elM a j)
theorem a4Q (hA:Asks prog w A sh κ it lt n)(i j:Nat):Sim prog w A E sh κ it id (ltAt' i j) (a3R lt n i j):=by
 rw [ltAt'_eq];unfold a3R;refine a0e a1M fun s=>?_;exact a0e (a1G _ _) fun x=>a0e (a1G _ _) fun y=>a3I hA x y
theorem a4o {F:β->α}{P:StateT SortSt Sem α}{m:N β}(h:∀s b s',m s=some (b,s')->∀Q:α->SortSt->Prop,Q (F b) (toSt κ it s')->wpS (model prog w) A E sh P Q (toSt κ it s)):Sim prog w A E sh κ it F P m:=h
theorem a5p {xs:Array Keyed}{q:Pk}(h:∀i,xs[i]?=if i < q.n then some (x1N it (q.at' i).val) else none):xs=mp it q:=by
 apply Array.toList_inj.mp
 exact a5F q fun i=>by rw [x2M];exact h i
theorem a2Z (q:Pk)(i:Nat):(mp it q)[i]?=if i < q.n then some (x1N it (q.at' i).val) else none:=by rw [List.getElem?_toArray,a1Y]
def revP (p:Pk)(i j:Nat):Pk:=Pk.ofF (fun k=>if i<=k/\k < j then p.at' (i + j - 1 - k) else p.at' k) p.n
def revM (i j:Nat):N Unit:=fun s=>if j<=s.p.n then some ((),setA s (revP s.p i j)) else none
theorem a9y (i j:Nat):Sim prog w A E sh κ it id (x2T i j) (revM i j):=a4o fun s b s' e Q q=>by
 unfold revM at e
 by_cases c:j<=s.p.n
 · rw [if_pos c] at e;cases e;rw [reverseSlice'_eq];refine wpS_modify ?_;have hs:j<=(mp it s.p).size:=by rw [a2h];exact c
   have e1:mirror (mp it s.p) i j ((j - i) / 2)=mp it (revP s.p i j):=a5p fun k=>by
     rw [getElem?_mirror_all hs,a2Z,a2Z,show(revP s.p i j).n=s.p.n from Pk.ofF_n _ _]
     by_cases c2:k < s.p.n
     · rw [if_pos c2,if_pos c2,show(revP s.p i j).at' k=_ from Pk.ofF_at _ _ c2]
       by_cases c3:i<=k/\k < j
       · rw [if_pos c3,if_pos c3,if_pos (by omega)]
       · rw [if_neg c3,if_neg c3]
     · rw [if_neg c2,if_neg c2,if_neg (by omega)]
   show Q () (x2U κ (mirror (mp it s.p) i j ((j - i) / 2)) s.pend s.g none);rw [e1];exact q
 · rw [if_neg c] at e;cases e
def b0E (k l:Nat):N Unit:=fun s=>if k < s.p.n/\l<=k then some ((),setA s (s.p.down k l)) else none
theorem a7M (k l:Nat):Sim prog w A E sh κ it id (moveDown' k l) (b0E k l):=a4o fun s b s' e Q q=>by
 unfold b0E at e
 by_cases c:k < s.p.n/\l<=k
 · rw [if_pos c] at e;cases e;rw [moveDown'_eq];refine wpS_modify ?_;have hs:k < (mp it s.p).size:=by rw [a2h];exact c.1
   have e1:bubble (mp it s.p) k (k - l)=mp it (s.p.down k l):=a5p fun i=>by
     rw [getElem?_bubble hs (k - l) (by omega),show k - (k - l)=l by omega,a2Z,a2Z,a2Z,Pk.at_down _ c.2,show(s.p.down k l).n=s.p.n from rfl]
     by_cases c2:i=l
     · rw [if_pos c2,if_pos c.1,if_pos c2,if_pos (by omega)]
     · rw [if_neg c2,if_neg c2]
       by_cases c3:l < i/\i<=k
       · rw [if_pos c3,if_pos c3,if_pos (by omega),if_pos (by omega)]
       · rw [if_neg c3,if_neg c3]
   show Q () (x2U κ (bubble (mp it s.p) k (k - l)) s.pend s.g none);rw [e1];exact q
 · rw [if_neg c] at e;cases e
def wbK (x:Nat)(r:Array Keyed):StateT SortSt Sem Unit:=modify fun s=>setArr s (r.toList.zipIdx.foldl (fun a (p,j)=>a.setIfInBounds (x + j) p) (arrOf s))
def wbM (x:Nat)(r:Pk):N Unit:=fun s=>if x + r.n<=s.p.n then some ((),setA s (s.p.over x r)) else none
theorem a8q (x:Nat):∀(l:List Keyed) (k:Nat) (a:Array Keyed) (i:Nat),x + k + l.length<=a.size->((l.zipIdx k).foldl (fun a e=>a.setIfInBounds (x + e.2) e.1) a)[i]?=if x + k<=i/\i < x + k + l.length then l[i - (x + k)]? else a[i]?:=by
 intro xq
 induction xq with
 | nil =>
   intro k a i h;rw [if_neg (by rw [List.length_nil];omega)];rfl
 | cons y l ih =>
   intro k a i h;rw [x0D] at h;rw [List.zipIdx_cons,x3a,ih (k + 1) _ i (by rw [Array.size_setIfInBounds];omega),x0D,Array.getElem?_setIfInBounds]
   by_cases c:x + k=i
   · subst c;rw [if_neg (by omega),if_pos rfl,if_pos (by omega),if_pos (by omega),Nat.sub_self];rfl
   · by_cases c2:x + (k + 1)<=i/\i < x + (k + 1) + l.length
     · rw [if_pos c2,if_pos (by omega),show i - (x + k)=(i - (x + (k + 1))) + 1 by omega,x2x]
     · rw [if_neg c2,if_neg c,if_neg (by omega)]
theorem sim_wb (x:Nat)(r:Pk):Sim prog w A E sh κ it id (wbK x (mp it r)) (wbM x r):=a4o fun s b s' e Q q=>by
 unfold wbM at e
 by_cases c:x + r.n<=s.p.n
 · rw [if_pos c] at e;cases e;refine wpS_modify ?_
   have e1:(ls it r).zipIdx.foldl (fun a e=>a.setIfInBounds (x + e.2) e.1) (mp it s.p)=mp it (s.p.over x r):=a5p fun i=>by
     rw [a8q x (ls it r) 0 (mp it s.p) i (by rw [a2h,a1w];exact c),a1w,a1Y,a2Z,Pk.at_over,show(s.p.over x r).n=s.p.n from rfl]
     by_cases c2:x<=i/\i < x + r.n
     · rw [if_pos (by omega),if_pos (by omega),if_pos c2,if_pos (by omega)];rfl
     · rw [if_neg (by omega),if_neg c2]
   show Q () (x2U κ ((ls it r).zipIdx.foldl (fun a e=>a.setIfInBounds (x + e.2) e.1) (mp it s.p)) s.pend s.g none);rw [e1];exact q
 · rw [if_neg c] at e;cases e
theorem cr_eq (o z:Nat):countRun' o z=(do
 let mut k:=1
 for _ in [1:z] do
   let some y ← ltAt' (o + k) (o + k - 1) | return none
   if y then break
   k:=k + 1
 if k == z then return some k
 if k > 1 then
   let some y ← ltAt' o (o + k - 1) | return none
   if y then return some k
   x2T o (o + k)
 rule "list.sort.descending-run"
 k:=k + 1
 let mut e:=0
 for _ in [k:z] do
   let some y ← ltAt' (o + k) (o + k - 1) | return none
   if y then
     if e > 0 then x2T (o + k - (e + 1)) (o + k)
     e:=0
   else
     let some y ← ltAt' (o + k - 1) (o + k) | return none
     if y then break
     e:=e + 1
   k:=k + 1
 if e > 0 then x2T (o + k - (e + 1)) (o + k)
 x2T o (o + k)
 for _ in [k:z] do
   let some y ← ltAt' (o + k) (o + k - 1) | return none
   if y then break
   k:=k + 1
 return some k):=rfl
def crM (lt:Nat->Nat->Bool)(n o z:Nat):N (Option Nat):=do
 let mut k:=1
 for _ in x0S (1) (z - 1) do
   let some y ← a3R lt n (o + k) (o + k - 1) | return none
   if y then break
   k:=k + 1
 if k == z then return some k
 if k > 1 then
   let some y ← a3R lt n o (o + k - 1) | return none
   if y then return some k
   revM o (o + k)
 nopM
 k:=k + 1
 let mut e:=0
 for _ in x0S (k) (z - k) do
   let some y ← a3R lt n (o + k) (o + k - 1) | return none
   if y then
     if e > 0 then revM (o + k - (e + 1)) (o + k)
     e:=0
   else
     let some y ← a3R lt n (o + k - 1) (o + k) | return none
     if y then break
     e:=e + 1
   k:=k + 1
 if e > 0 then revM (o + k - (e + 1)) (o + k)
 revM o (o + k)
 for _ in x0S (k) (z - k) do
   let some y ← a3R lt n (o + k) (o + k - 1) | return none
   if y then break
   k:=k + 1
 return some k
theorem bs_eq (o z c:Nat):binarySort' o z c=(do
 for k in [max c 1:z] do
   let mut l:=0
   let mut r:=k
   for _ in [0:k] do
     if l>=r then break
     let m:=(l + r) / 2
     let some y ← ltAt' (o + k) (o + m) | return false
     if y then r:=m else l:=m + 1
   moveDown' (o + k) (o + l)
 return true):=rfl
def bsM (lt:Nat->Nat->Bool)(n o z c:Nat):N Bool:=do
 for k in x0S (max c 1) (z - max c 1) do
   let mut l:=0
   let mut r:=k
   for _ in x0S (0) (k - 0) do
     if l>=r then break
     let m:=(l + r) / 2
     let some y ← a3R lt n (o + k) (o + m) | return false
     if y then r:=m else l:=m + 1
   b0E (o + k) (o + l)
 return true
theorem ma_eq (i:Nat):mergeAt' i=(do
 let s ← get
 let (some (x,y,pw),some (u,v,_)):=((x2e s)[i]?,(x2e s)[i + 1]?) | unsupported "internal:list.sort.pending"
 set (setPending s (((x2e s).setIfInBounds i (x,y + v,pw)).eraseIdxIfInBounds (i + 1)))
 let some k ← a1E false (← elem' (arrOf s) u) (arrOf s) x y 0 | return false
 let (x,y):=(x + k,y - k)
 if y == 0 then return true
 let some v ← a1E true (← elem' (arrOf s) (x + y - 1)) (arrOf s) u v (v - 1) | return false
 if v == 0 then return true
 let e:=(arrOf s).extract x u
 let f:=(arrOf s).extract u (u + v)
 let r ← if y<=v then a3s e f else a3t e f
 wbK x r
 return (fun s=>(failedOf s).isNone) (← get)):=rfl
def maM (lt:Nat->Nat->Bool)(n i:Nat):N Bool:=do
 let s ← get
 let (some (x,y,pw),some (u,v,_)):=((S.pend s)[i]?,(S.pend s)[i + 1]?) | (fun _=>none)
 set (setP s (((S.pend s).setIfInBounds i (x,y + v,pw)).eraseIdxIfInBounds (i + 1)))
 let some k ← galM lt n false (← elM (S.p s) u) (S.p s) x y 0 | return false
 let (x,y):=(x + k,y - k)
 if y == 0 then return true
 let some v ← galM lt n true (← elM (S.p s) (x + y - 1)) (S.p s) u v (v - 1) | return false
 if v == 0 then return true
 let e:=(S.p s).extract x u
 let f:=(S.p s).extract u (u + v)
 let r ← if y<=v then mloM lt n e f else mhiM lt n e f
 wbM x r
 return (fun _=>true) (← get)
theorem sr_eq:sortRuns'=(do
 let z:=(arrOf (← get)).size
 let mr:=minRun' z z 0
 let mut o:=0
 for _ in [0:z] do
   if o>=z then break
   let some q ← countRun' o (z - o) | return
   let mut k:=q
   if k < mr then
     rule "list.sort.binary-insertion"
     let f:=min (z - o) mr
     if !(← binarySort' o f k) then return
     k:=f
   if let some (s1,n1,_):=(x2e (← get)).back? then
     let pw:=power' z (2 * s1 + n1) (2 * s1 + n1 + n1 + k) z
     for _ in [0:z] do
       let p:=x2e (← get)
       let some (_,_,b):=(if p.size > 1 then p[p.size - 2]? else none) | break
       if b<=pw then break
       if !(← mergeAt' (p.size - 2)) then return
     modify fun s=>setPending s ((x2e s).modify ((x2e s).size - 1) fun(st,len,_)=>(st,len,pw))
   modify fun s=>setPending s ((x2e s).push (o,k,0))
   o:=o + k
 for _ in [0:z] do
   let p:=x2e (← get)
   if p.size<=1 then break
   let i:=p.size - 2
   let b:=if i > 0 then p[i - 1]?.map (·.2.1) else none
   let i:=if b.any (· < (p[i + 1]?.elim 0 (·.2.1))) then i - 1 else i
   if !(← mergeAt' i) then return):=rfl
def srM (lt:Nat->Nat->Bool)(n:Nat):N Unit:=do
 let z:=(S.p (← get)).size
 let mr:=minRun' z z 0
 let mut o:=0
 for _ in x0S (0) (z - 0) do
   if o>=z then break
   let some q ← crM lt n o (z - o) | return
   let mut k:=q
   if k < mr then
     nopM
     let f:=min (z - o) mr
     if !(← bsM lt n o f k) then return
     k:=f
   if let some (s1,n1,_):=(S.pend (← get)).back? then
     let pw:=power' z (2 * s1 + n1) (2 * s1 + n1 + n1 + k) z
     for _ in x0S (0) (z - 0) do
       let p:=S.pend (← get)
       let some (_,_,b):=(if p.size > 1 then p[p.size - 2]? else none) | break
       if b<=pw then break
       if !(← maM lt n (p.size - 2)) then return
     modify fun s=>setP s ((S.pend s).modify ((S.pend s).size - 1) fun(st,len,_)=>(st,len,pw))
   modify fun s=>setP s ((S.pend s).push (o,k,0))
   o:=o + k
 for _ in x0S (0) (z - 0) do
   let p:=S.pend (← get)
   if p.size<=1 then break
   let i:=p.size - 2
   let b:=if i > 0 then p[i - 1]?.map (·.2.1) else none
   let i:=if b.any (· < (p[i + 1]?.elim 0 (·.2.1))) then i - 1 else i
   if !(← maM lt n i) then return
theorem sim_cr (hA:Asks prog w A sh κ it lt n)(o z:Nat):Sim prog w A E sh κ it id (countRun' o z) (crM lt n o z):=by
 have lq:=fun i j=>a4Q (E:=E) hA i j;rw [cr_eq];unfold crM;dsimp only
 repeat' first
   | exact a0u _ rfl
   | refine a1f (fun _=>?_) fun _=>?_
   | refine a0e a3h fun _=>?_
   | refine a0e (a9y _ _) fun _=>?_
   | (refine a0e (lq _ _) fun y=>?_;cases y <;> dsimp only [id])
   | (refine a0e (a2e (F:=id) rfl fun i d=>?_) fun d=>?_ <;> obtain⟨r,d⟩:=d <;> cases r <;> dsimp only [id])
theorem sim_bs (hA:Asks prog w A sh κ it lt n)(o z c:Nat):Sim prog w A E sh κ it id (binarySort' o z c) (bsM lt n o z c):=by
 have lq:=fun i j=>a4Q (E:=E) hA i j;rw [bs_eq];unfold bsM;dsimp only
 repeat' first
   | exact a0u _ rfl
   | refine a1f (fun _=>?_) fun _=>?_
   | refine a0e (a7M _ _) fun _=>?_
   | (refine a0e (lq _ _) fun y=>?_;cases y <;> dsimp only [id])
   | (refine a0e (a2e (F:=id) rfl fun i d=>?_) fun d=>?_ <;> obtain⟨r,d⟩:=d <;> cases r <;> try dsimp only [id])
theorem sim_ma (hA:Asks prog w A sh κ it lt n)(i:Nat):Sim prog w A E sh κ it id (mergeAt' i) (maM lt n i):=by
 have el:=fun q i=>a1G (prog:=prog) (w:=w) (A:=A) (E:=E) (sh:=sh) (κ:=κ) (it:=it) q i;have gl:=fun l x q o z h=>a2d (E:=E) hA l x q o z h;rw [ma_eq];unfold maM;refine a0e a1M fun s=>?_;dsimp only [toSt];generalize s.pend[i]?=e1;generalize s.pend[i + 1]?=e2;rcases e1 with _ | ⟨x,y,pw⟩ <;> rcases e2 with _ | ⟨u,v,_⟩
 · exact a1n
 · exact a1n
 · exact a1n
 dsimp only;refine a0e (a9x rfl) fun _=>?_;refine a0e (el _ _) fun a=>?_;refine a0e (gl _ _ _ _ _ _) fun k=>?_;cases k with
 | none=>exact a0u _ rfl
 | some k =>
   dsimp only [id];refine a1f (fun _=>a0u _ rfl) fun _=>?_;refine a0e (el _ _) fun b=>?_;refine a0e (gl _ _ _ _ _ _) fun v=>?_;cases v with
   | none=>exact a0u _ rfl
   | some v =>
     dsimp only [id];refine a1f (fun _=>a0u _ rfl) fun _=>?_;rw [show(mp it s.p).extract (x + k) u=mp it (s.p.extract (x + k) u) from a3Q _ _ _,show(mp it s.p).extract u (u + v)=mp it (s.p.extract u (u + v)) from a3Q _ _ _]
     have tl:∀r:Pk,Sim prog w A E sh κ it id (do
         wbK (x + k) (mp it r)
         let s ← get
         pure (failedOf s).isNone) (do
         wbM (x + k) r
         let _ ← get
         pure true):=fun r=>a0e (sim_wb _ _) fun _=>a0e a1M fun s=>a0u _ rfl
     exact a1f (fun _=>a0e (a9z hA _ _) tl) fun _=>a0e (a9A hA _ _) tl
theorem arr_of (s:S):arrOf (toSt κ it s)=mp it s.p:=rfl
theorem b0d (s:S):x2e (toSt κ it s)=s.pend:=rfl
theorem sim_sr (hA:Asks prog w A sh κ it lt n):Sim prog w A E sh κ it id sortRuns' (srM lt n):=by
 have ma:=fun i=>sim_ma (E:=E) hA i;have cr:=fun o z=>sim_cr (E:=E) hA o z;have bs:=fun o z c=>sim_bs (E:=E) hA o z c;rw [sr_eq];unfold srM;dsimp only;refine a0e a1M fun s=>?_;dsimp only [arr_of];simp only [a2h];generalize Pk.size s.p=z
 repeat' first
   | exact a0u _ rfl
   | refine a1f (fun _=>?_) fun _=>?_
   | refine a0e a3h fun _=>?_
   | (refine a0e (cr _ _) fun y=>?_;cases y <;> dsimp only [id])
   | (refine a0e (bs _ _ _) fun y=>?_;dsimp only [id])
   | (refine a0e (ma _) fun y=>?_;dsimp only [id])
   | (refine a0e a1M fun s=>?_;dsimp only [b0d];by_cases hp:s.pend.size > 1 <;> try simp only [hp,if_true,if_false])
   | refine a0e (a2T fun s=>rfl) fun _=>?_
   | (generalize Array.back? _=e;rcases e with _ | ⟨s1,n1,_⟩ <;> dsimp only)
   | (generalize getElem? (Array.mk _) _=e;rcases e with _ | ⟨s1,n1,b⟩ <;> dsimp only)
   | split
   | (refine a0e (a2e (F:=id) rfl fun i d=>?_) fun d=>?_ <;> obtain⟨r,d⟩:=d <;> cases r <;> try dsimp only [id])
end
end Tm
end L2
end
section
namespace L2
namespace Tm
open PySem PySem.W PySem.Spec PyProof.Rows
def places (q:Pk):List Nat:=(x0g q.n).map fun i=>(q.at' i).val
def idP (n:Nat):Pk:=Pk.ofF (fun i=>⟨i % 1024,Nat.mod_lt _ (by decide)⟩) n
def tsort (lt:Nat->Nat->Bool)(n:Nat):Option (List Nat):=(srM lt n ⟨idP n,#[],7⟩).map fun r=>places r.2.p
theorem a6X {it:Array Keyed}(q:Pk):mp it q=(places q).toArray.map (x1N it):=by
 unfold places;rw [List.map_toArray,x1K]
 rfl
theorem mp_id {it:Array Keyed}(h:it.size<=1024):mp it (idP it.size)=it:=by
 refine(a5p fun i=>?_).symm;rw [show(idP it.size).n=it.size from Pk.ofF_n _ _]
 by_cases c:i < it.size
 · rw [if_pos c,show(idP it.size).at' i=_ from Pk.ofF_at _ _ c];show it[i]?=some (x1N it (i % 1024));rw [Nat.mod_eq_of_lt (by omega)];unfold x1N;rw [Array.getD_eq_getD_getElem?,Array.getElem?_eq_getElem c];rfl
 · rw [if_neg c,x2B (by omega)]
def outB (ps:List Nat)(vs:List Value):List Value:=ps.map fun i=>vs.getD i x2l
section
variable {prog:x0x}{w:World}{A:Around}{E:Value->Shared->Prop}{s:Shared}
theorem a4n {ps:List Nat}{a:Addr}{vs:List Value}{n:Nat}{lt:Nat->Nat->Bool}{P:PySem.Fin->Shared->Prop}(ho:s.heap.get? a=some (seqObj "list" vs.toArray n))(l2:2<=vs.length)(hm:vs.length<=1000)(ht:tsort lt vs.length=some ps)(pl:ps.length=vs.length)
   (hk:∀h1,a8x s.heap h1 a->∃κ,(∀Q:x3e->Shared->Prop,Q κ { s with heap:=h1 }->wpAny (model prog w) A (keyKind' vs.toArray) Q E { s with heap:=h1 })/\∀i j (C:Bool->Shared->Prop),i < vs.length->j < vs.length->C (lt i j) { s with heap:=h1 }->kas_ask prog w A κ vs i j C { s with heap:=h1 })
   (h:∀h2 e,a8x s.heap h2 a->h2.get? a=some (seqObj "list" (outB ps vs).toArray e)->P (.done (.ret .none)) { s with heap:=h2 }):wpAny (model prog w) A (Builtin.«list.sort» ⟨[.ref a],[]⟩) P E s:=by
 have ha:a < s.heap.objs.size:=x0i ho;have hsz:vs.toArray.size=vs.length:=by simp
 rw [list_sort_plain];refine x0b (listItems_at ho rfl ?_);refine x0b (listUpdate_at ho rfl ?_ (by rw [hsz,x1Y];omega) (x1s _));obtain⟨e1,ho1⟩:∃e1,(s.heap.update a (x1E fun _=>(#[]:Array Value))).get? a=some (seqObj "list" #[] e1):=⟨_,get?_update_seq ho fun _=>#[]⟩;refine x0b (seqEpoch_at ho1 rfl ?_);refine x0b (wpAny_newTuple ?_ (by show vs.length<=_;rw [x1Y];omega));refine x0b (wpAny_newList ?_ (x1s _));refine x1d ?_;show wpAny (model prog w) A _ P E { s with heap:=((s.heap.update a (x1E fun _=>(#[]:Array Value))).push (seqObj "tuple" vs.toArray 0)).push (seqObj "list" #[] 0) };have ho3:=x0d (seqObj "list" #[] 0) (x0d (seqObj "tuple" vs.toArray 0) ho1)
 have k3:a8x s.heap (((s.heap.update a (x1E fun _=>(#[]:Array Value))).push (seqObj "tuple" vs.toArray 0)).push (seqObj "list" #[] 0)) a:=fun b o hb e=>
   x0d _ (x0d _ (((x2j s.heap a (x1E fun _=>(#[]:Array Value))).2 b hb).trans e))
 generalize ((s.heap.update a (x1E fun _=>(#[]:Array Value))).push (seqObj "tuple" vs.toArray 0)).push (seqObj "list" #[] 0)=h3 at ho3 k3 ⊢;dsimp only
 have last:∀out:Array Value,out.size=vs.length->out=(outB ps vs).toArray->∃e,(h3.update a (x1E fun _=>out)).get? a=some (seqObj "list" (outB ps vs).toArray e)/\a8x s.heap (h3.update a (x1E fun _=>out)) a:=fun out _ eo=>
   ⟨_,by rw [<- eo];exact get?_update_seq ho3 fun _=>out,fun b o hb e=>((x2j h3 a (x1E fun _=>out)).2 b hb).trans (k3 b o hb e)⟩
 have h2:¬vs.toArray.size < 2:=by omega
 rw [if_neg h2,if_neg h2];obtain⟨κ,q1,q2⟩:=hk h3 k3;refine x0b (q1 _ ?_)
 have hA:Asks prog w A { s with heap:=h3 } κ (vs.toArray.zip vs.toArray) lt vs.length:=fun i j C hi hj c=>by
   have:=q2 i j C hi hj c;rw [kas_ask_eq] at this;exact this
 unfold tsort at ht;cases hr:srM lt vs.length ⟨idP vs.length,#[],7⟩ with
 | none=>rw [hr] at ht;cases ht
 | some r=>
 obtain⟨⟨⟩,sF⟩:=r;rw [hr] at ht;have ep:places sF.p=ps:=x0L ht;have hz:(vs.toArray.zip vs.toArray).size=vs.length:=by simp
 have st0:x2U κ (vs.toArray.zip vs.toArray) #[] 7 none=toSt κ (vs.toArray.zip vs.toArray) ⟨idP vs.length,#[],7⟩:=by
   unfold toSt;have:=mp_id (it:=vs.toArray.zip vs.toArray) (by omega);rw [hz] at this;show _=x2U κ (mp (vs.toArray.zip vs.toArray) (idP vs.length)) #[] 7 none;rw [this]
 have wp:=sim_sr (E:=E) hA _ _ _ hr (fun _ st'=>∃p:Array Nat,p.size=vs.length/\arrOf st'=p.map (x1N (vs.toArray.zip vs.toArray))/\failedOf st'=none/\p.toList=ps) ⟨ps.toArray,by rw [x0j,pl],by rw [<- ep];exact a6X sF.p,rfl,by simp⟩;rw [<- st0] at wp;refine x0b (x0K wp ?_ fun _ _ e=>e);rintro⟨⟨⟩,st'⟩ s' ⟨rfl,p,hp,har,hf,ep⟩;dsimp only
 have eo:(arrOf st').map (·.2)=(outB ps vs).toArray:=by
   rw [kat_snds rfl har,ep]
   rfl
 have so:((arrOf st').map (·.2)).size=vs.length:=by rw [eo];unfold outB;rw [x0j,x0e,pl]
 obtain⟨e,x1,x2⟩:=last _ so eo;refine x0b (seqEpoch_at ho3 rfl ?_);refine x0b (listUpdate_at ho3 rfl ?_ (x1s _) (by rw [so,x1Y];omega));rw [hf];simp only [bne_self_eq_false,Bool.false_eq_true,if_false];exact x0h (h _ e x2 x1)
theorem a3f {ps:List Nat}{v:Value}{vs:List Value}{lt:Nat->Nat->Bool}{Q:Value->Shared->Prop}(l2:2<=vs.length)(hm:vs.length<=1000)(ht:tsort lt vs.length=some ps)(pl:ps.length=vs.length)
   (hcol:∀(R:List Value->Shared->Prop),(∀h1 tk,(∀b o,s.heap.get? b=some o->h1.get? b=some o)->s.heap.objs.size<=h1.objs.size->R vs { s with heap:=h1,toks:=tk })->wpAny (model prog w) A.in1 (collect v) R E s)
   (hk:∀(A:Around) (E:Value->Shared->Prop) h1 tk,(∀b o,s.heap.get? b=some o->h1.get? b=some o)->∃κ,(∀Q:x3e->Shared->Prop,Q κ { s with heap:=h1,toks:=tk }->wpAny (model prog w) A (keyKind' vs.toArray) Q E { s with heap:=h1,toks:=tk })/\∀i j (C:Bool->Shared->Prop),i < vs.length->j < vs.length->C (lt i j) { s with heap:=h1,toks:=tk }->kas_ask prog w A κ vs i j C { s with heap:=h1,toks:=tk })
   (h:∀h2 tk D e,(∀b o,s.heap.get? b=some o->h2.get? b=some o)->s.heap.objs.size<=D->h2.get? D=some (seqObj "list" (outB ps vs).toArray e)->Q (.ref D) { s with heap:=h2,toks:=tk }) :
   wpAny (model prog w) A (call (.builtin "sorted") [v]) Q E s:=by
 refine Calls.call_function_entry kind_sorted plain_sorted entry_sorted (args_sorted1 _) ?_;unfold Builtin.«sorted»;refine x0b (m:=checkCount "sorted" 1 1 _) (x0h ?_);refine x0b (hcol _ fun h1 tk k1 z1=>?_);refine x0b (wpAny_newList ?_ (by rw [x1Y];omega));have hoL:(h1.push (seqObj "list" vs.toArray 0)).get? h1.objs.size=some (seqObj "list" vs.toArray 0):=x0y _ rfl;have kL:∀b o,s.heap.get? b=some o->(h1.push (seqObj "list" vs.toArray 0)).get? b=some o:=fun b o e=>x0d _ (k1 b o e);have ne:∀b o,s.heap.get? b=some o->b≠h1.objs.size:=fun b o e=>x0o (x0u (x0i e) z1);refine x0b (x1d (x1W slot_list_sort ⟨_,hoL,rfl⟩ entry_list_sort ?body (args_list_sort _)))
 case body=>
   refine a4n (lt:=lt) (s:={ s with heap:=h1.push (seqObj "list" vs.toArray 0),toks:=tk }) hoL l2 hm ht pl (fun h3 k3=>?_) fun h3 e k3 e3=>?_
   · exact hk _ _ h3 tk fun b o x=>k3 b o (ne b o x) (kL b o x)
   · exact⟨_,rfl,x0h ⟨_,rfl,h h3 tk _ e (fun b o x=>k3 b o (ne b o x) (kL b o x)) z1 e3⟩⟩
end
end Tm
end L2
end
section
namespace L2
open PySem PySem.W PySem.Spec PyProof.Rows Tm
section
variable {X:Cx}
def outW (ps:List Nat)(ys:List V):List V:=ps.map fun i=>ys.getD i .non
theorem a5Y {ps:List Nat}{ys:List V}{vs:List Value}(r:Vals ys vs)(hm:∀i∈ps,i < vs.length):Vals (outW ps ys) (outB ps vs):=by
 unfold outW outB
 induction ps with
 | nil=>exact .nil
 | cons i is ih=>exact .cons (a0V r .non .none i (by rw [r.length];exact hm i x0f)) (ih fun j hj=>hm j (x0c _ hj))
theorem a4c:a1F X (.builtin "sorted") (fun xs H Q=>∃p ys m kss lt ps,xs=[.ref p]/\SqL X.K H p ys/\2<=ys.length/\ys.length<=1000/\(∀i j,i < ys.length->j < ys.length->lt i j=ltIx kss i j)/\tsort lt ys.length=some ps/\ps.length=ys.length/\(∀i∈ps,i < ys.length)/\Paired (KM X.K H m) ys kss/\b0U kss/\∀l,H l=none->Q (.ref l) (upd H l (.lst (outW ps ys)))):=by
 intro pins s σ H xs us Q I r h;obtain⟨p,ys,m,kss,lt,ps,rfl,hq,h2,hm,el,ht,pl,hi,hp,al,q⟩:=h;obtain⟨u,rfl,rx⟩:=a5r r;cases rx;obtain⟨its,r',pq,hz⟩:=I.list hq;have hlen:=r'.length;have pk:=kv1_of I m r' hp;rw [hlen] at h2 hm el ht pl hi;refine a3f (vs:=its) (lt:=lt) h2 hm ht pl (fun R hR=>?_) (fun A E h1 tk k=>let ⟨κ,q1,q2⟩:=a6j h2 pk al A E h1 tk k;⟨κ,q1,fun i j C hi hj c=>q2 i j C hi hj (by rw [<- el i j hi hj];exact c)⟩) fun h2 tk D e k hD ho=>?_
 · refine collect_list pq.isList (hR _ s.toks (fun b o e=>?_) ?_) (by omega)
   · have hlt:b < s.heap.objs.size:=x0i e;rw [Heap.get?_update_ne _ _ _ _ (x0o hlt)];exact x0d _ e
   · rw [Heap.size_update,size_push'];omega
 · have vo:=a5Y (ps:=ps) r' hi
   have hl:(outW ps ys).length<=x0t:=by
     unfold outW;rw [x0e,pl,<- hlen];omega
   exact⟨.ref D,_,I.laid (t':=tk) k hD (show a0J X.prog X.w _ h2 _ (.lst (outW ps ys)) from⟨hl,_,e,vo,ho⟩),rfl,q _ (I.hok.fresh hD)⟩
end
end L2
namespace Pu
open PySem PySem.Spec L2 Tm
def a3m (pe:pE):pA:=fun env n R=>pe env n fun x env1 n1=>match x with
 | .lst xs=>(2<=xs.length/\xs.length<=1000)/\a5q xs/\∃lt ps,(∀i j,i < xs.length->j < xs.length->lt i j=ltIx (xs.map keyP) i j)/\tsort lt xs.length=some ps/\ps.length=xs.length/\(∀i∈ps,i < xs.length)/\R (ps.map fun i=>xs.getD i .non) env1 n1
 | _=>False
section
variable {T:PotK}{ι:Type}{K:x0a}{F:ι->Cx}{e:Expr}{pe:pE}{pos:Pos}
theorem a6n {G:Gh}{H:Hp}{ps:List Nat}{xs:List PV}{us:List V}(r:Reps K G H xs us)(hm:∀i∈ps,i < xs.length):Reps K G H (ps.map fun i=>xs.getD i .non) (outW ps us):=by
 unfold outW
 induction ps with
 | nil=>exact rfl
 | cons i is ih=>exact⟨_,_,rfl,a6p r i (hm i x0f),ih fun j hj=>hm j (x0c _ hj)⟩
theorem a5y {p:Pos}(hg:∀z,Gl (F z) "sorted")(hm:∀z,(F z).mg "sorted"=none)(ha:QR T K F e pe)(hs:a0r e=true:=by rfl)(hK:∀z,(F z).K=K:=by intro _;rfl):QN T K F (.Call (.Name "sorted" p) [e] [] pos) (a3m pe):=by
 obtain⟨t,h1,h2⟩:=ha;refine⟨_,fun z=>a1e (hK z▸a4c) (hg z) (hm z) a7x (a0m (h1 z) a0C (a0c hs)) (by decide) (by decide) (a0c hs),fun C G σ H env n R Q hK hT S hp k=>?_⟩;refine a6R h2 hK hT S hp fun x env1 n1 v H1 p1 S1 r1 f1=>?_;have rd:RdV K G H1 x v:=hK▸r1.rd S1;cases x with
 | lst xs =>
   obtain⟨hl,so,q⟩:=p1;obtain⟨a,us,rfl,hq,r⟩:=rd.lst;obtain⟨m,pk,al⟩:=km_of r so;have lu:us.length=xs.length:=r.length.symm;obtain⟨lt,ps,el,ht,pl,pi,q⟩:=q;exact⟨a,us,m,xs.map keyP,lt,ps,rfl,hq,by omega,by omega,by rw [lu];exact el,by rw [lu];exact ht,by rw [lu];exact pl,by rw [lu];exact pi,pk,al,fun l hl=>k _ _ _ _ _ _ q S1 f1 hl (a6n r pi)⟩
 | _=>exact p1.elim
end
end Pu
end
section
namespace L2
open PySem PySem.Spec PyProof.Rows
theorem a2O {P:x0x}{w:World}{K:x0a}{tg:Expr}{J:It}{fp:List Addr}{it:Addr}{tn:Nat->Heap->Prop}{Y:Cx}{pins:List (Addr×Obj)}{W:Nat->Nat->St->Hp->Prop}{i n:Nat}{s5 s7:Shared}{σ7:St}{H7:Hp}(T:Turn P w K tg J fp it tn)(st5:tn (i + 1) s5.heap)(I7:Inv Y (pins++a2n fp s5.heap) σ7 H7 s7)(n7:∃m',m' < n/\W (i + 1) m' σ7 H7):∃m,m < n/\∃i σ' H',Inv Y pins σ' H' s7/\tn i s7.heap/\(∀b∈fp,H' b=none)/\W i m σ' H':=by
 obtain⟨m',hm,w7⟩:=n7;have pn:∀b∈fp,∀o,s5.heap.get? b=some o->_:=fun b hb o e=>I7.pin (b,o) (x0A _ (x0A _ (a1H hb e)));refine⟨m',hm,i + 1,σ7,H7,I7.unpinned,T.keep _ _ _ st5 fun b hb o e=>(pn b hb o e).1,fun b hb=>?_,w7⟩;obtain⟨o,e,d⟩:=T.obj _ _ st5 b hb;exact(pn b hb o e).2.1
theorem a7F {Y:Cx}{pins:List (Addr×Obj)}{tg elt:Expr}{ifs:List Expr}{g:TG}{tt:TT}{te:TE}{J:It}{fp:List Addr}{it D:Addr}{tn:Nat->Heap->Prop}{W:Nat->Nat->St->Hp->Prop}{N:St->Hp->Prop}{Rn:Shared->Prop}(T:Turn Y.prog Y.w Y.K tg J fp it tn)(hc:Y.calm=true)(stat:∀{H':Hp},(∀b∈fp,H' b=none)->∀b∈fp,FpOk Y pins H' b)(hg:PG Y tg g)(hf:PIf Y ifs tt)(he:PE Y elt te)(fin:∀s σ H,Inv Y pins σ H s->N σ H->Rn s)
   (turn:∀i m σ' H',W i m σ' H'->(J.stop i H'/\N σ' H')\/(J.go i H'/\∀x H2,J.yld i H' x H2->g x σ' H2 fun σ3 H3=>tt σ3 H3 fun b H4=>
    if b=true then te σ3 H4 fun v H5=>∃ys,H5 D=some (.lst ys)/\ys.length < x0t/\∃m',m' < m/\W (i + 1) m' σ3 (upd H5 D (.lst (ys++[v])))
    else ∃m',m' < m/\W (i + 1) m' σ3 H4)) (n:Nat) (s:Shared) (hI:∃i σ' H',Inv Y pins σ' H' s/\tn i s.heap/\(∀b∈fp,H' b=none)/\W i n σ' H') :
   wpAny (model Y.prog Y.w) Y.A (pyNext (.ref it)) (fun r s₁=>match r with
     | none=>Rn s₁
     | some v=>wpAny (model Y.prog Y.w) Y.A (x1q tg (.ref it) v) (fun _ s₁'=>wpAny (model Y.prog Y.w) Y.A (assign tg Y.env v) (fun _ s₂=>
         wpAny (model Y.prog Y.w) Y.A (forIn ifs true fun c r=>if r=true then do let ok ← isTrue c Y.env (eval c Y.env);pure (x1g ok) else pure (x1g r)) (fun ok s₃=>
           if ok=true then wpAny (model Y.prog Y.w) Y.A (eval elt Y.env) (fun x s₄=>
             wpAny (model Y.prog Y.w) Y.A (call (.builtin "list.append") [.ref D,x]) (fun _ s₅=>∃m,m < n/\∃i σ' H',Inv Y pins σ' H' s₅/\tn i s₅.heap/\(∀b∈fp,H' b=none)/\W i m σ' H') Y.xe s₄) Y.xe s₃
           else ∃m,m < n/\∃i σ' H',Inv Y pins σ' H' s₃/\tn i s₃.heap/\(∀b∈fp,H' b=none)/\W i m σ' H') Y.xe s₂) Y.xe s₁') Y.xe s₁) Y.xe s:=by
 obtain⟨i,σ3,H3,I3,st3,fr3,w3⟩:=hI;rcases turn i n σ3 H3 w3 with⟨stop,qn⟩ | ⟨go,step⟩
 · refine thn (T.done Y rfl rfl rfl hc i pins s σ3 H3 Y.xe I3 (stat fr3) st3 stop) fun r s4 ⟨hr,I4⟩=>?_;subst hr;exact fin s4 σ3 H3 I4 qn
 · refine thn (T.item Y rfl rfl rfl hc i pins s σ3 H3 Y.xe I3 (stat fr3) st3 go) fun r s4 ⟨u,hr,h4⟩=>?_;subst hr;refine thn h4 fun _ s5 ⟨x,H5,I5,r5,y5,st5,fr5⟩=>?_;refine thn (hg _ s5 σ3 H5 x u _ (I5.pinned (stat fr5) (T.obj _ _ st5)) r5 (step x H5 y5)) fun _ s6 ⟨σ6,H6,I6,q6⟩=>?_;refine thn (hf _ s6 σ6 H6 _ I6 q6) fun ok s7 ⟨H7,I7,q7⟩=>?_;cases ok with
   | false=>exact a2O T st5 I7 q7
   | true =>
     refine thn (he _ s7 σ6 H7 _ I7 q7) fun y s8 ⟨v8,H8,I8,r8,ys,e8,z8,n8⟩=>?_;have ma:=a2E (X:=Y) _ s8 σ6 H8 (.ref D) [v8] (.ref D) [y] (fun v H9=>∃m',m' < n/\W (i + 1) m' σ6 H9) I8 rfl (.cons r8 .nil) ⟨_,ys,v8,rfl,rfl,e8,z8,n8⟩;exact thn ma fun _ s9 ⟨v9,H9,I9,_,q9⟩=>a2O T st5 I9 q9
theorem a4v {X:Cx}{scope:Scope}{cl:List (Str×Addr)}{N:List Str}{cs:List (Option Nat)}{elt t1 i1 t2 i2:Expr}{ifs:List Expr}{pos spos py:Pos}{wi1 wi2:TI}{g1 g2:TG}{tt:TT}{te:TE}{i:Nat}{y:Str}(hN:X.N.Nodup)(hiy:X.N[i]?=some y)(hy:Loc X.env.scope y)(S:a0N X scope cl N cs)(hc:X.calm=true)(hi:PI X t1 i1 wi1)
   (hb:∀(fp:List Addr) (C:Addr) (s:Shared) (H:Hp),PG (a0l X scope cl N fp C s H) t1 g1/\PI (a0l X scope cl N fp C s H) t2 i2 wi2/\PG (a0l X scope cl N fp C s H) t2 g2/\PIf (a0l X scope cl N fp C s H) ifs tt/\PE (a0l X scope cl N fp C s H) elt te)
   (hs2:∀fp C s H x,x0G i2 (a0l X scope cl N fp C s H).env x=pure x)
   (hsw:x3i (LC2 elt t1 i1 t2 i2 ifs scope pos) (some (.Name y py)) spos.line X.env=pure true:=by rfl)
   (hs:∀x,x0G i1 X.env x=pure x:=by intro _;rfl) (hff:X.fn y=true\/X.env.scope.names.lookup y=some .local:=by first | exact .inl rfl | exact .inr rfl | assumption) :
   PS X (.Assign [.Name y py] (LC2 elt t1 i1 t2 i2 ifs scope pos) spos) (tAsg (a8A cs wi1 g1 wi2 g2 tt te) (a1S i)):=by
 have bn:∀(M:Model) (A:Around) (v:Value) (Q:Unit->Shared->Prop) (E:Value->Shared->Prop) (s:Shared),wpAny M A (storeName X.env y v) Q E s->wpAny M A (assign (.Name y py) X.env v) Q E s:=fun M A v Q E s h=>wpAny_assign_Name h;intro pins s σ H DD I h;rw [exec_Assign_Name_used _ _ _ _ hsw];refine x0b (x1u (x0b ?_));show wpAny _ _ (do let _ ← comprehension (LC2 elt t1 i1 t2 i2 ifs scope pos) scope X.env _ (newList []) false (eval i1 X.env) (some (assign (.Name y py) X.env))) _ _ s;refine x0b (x0K (Q:=fun _ s'=>SP X pins DD .next s') ?_ (fun _ s' hq=>x0h (x0h hq)) fun _ _ e=>e);refine x2o (use:=some (assign (.Name y py) X.env)) rfl hs S.clos S.kind S.names (thn (hi pins s σ H _ I h) fun v s1 h1=>thn h1 fun itv s2 h2=>?_);obtain⟨it,fp,tn,J,H2,rfl,I2,T,st2,f2,q⟩:=h2
 have ho:∀b∈fp,∃o,s2.heap.get? b=some o:=fun b hb=>by
   obtain⟨o,e,_⟩:=T.obj 0 _ st2 b hb;exact⟨o,e⟩
 refine x0R (wpAny_newFunctionEnv S.nocell (by intro y hy;simp at hy) (fun h₁ hns₁ hsb₁=>?_) S.kind);dsimp only at hns₁ hsb₁ ⊢;have hC:(s2.heap.push { cls:=.type "list",dict:=none,data:=.seq ([]:List Value).toArray }).objs.size=s2.heap.objs.size + 1:=by rw [x2J]
 generalize hH2:s2.heap.push { cls:=.type "list",dict:=none,data:=.seq ([]:List Value).toArray }=hp2 at hns₁ hsb₁ hC ⊢;have old:∀b o,s2.heap.get? b=some o->h₁.get? b=some o:=fun b o e=>hsb₁.extBut b o (by rw [hC];exact x0o (x0V (x0i e))) (x0d _ (hH2▸x0d _ e));have hD:h₁.get? s2.heap.objs.size=some { cls:=.type "list",data:=.seq ([]:List Value).toArray }:=hsb₁.extBut _ _ (by rw [hC];exact x0o (Nat.lt_succ_self _)) (x0d _ (hH2▸x0y _ rfl));rw [hC] at hns₁ ⊢;obtain⟨W,⟨m0,w0⟩,turn⟩:=q s2.heap.objs.size I2.fresh;have Ic:=a3x S (tk:=s2.toks + ([]:List (Str×Value)).length) I2 f2 ho old hns₁ hD;have nstk:∀b,b≠X.env.locals->b∉X.fs->b∉frs X.stack:=fun b h1 h2 hb=>(x0q.mp (I2.stkSub b hb)).elim h1 h2
 have stat:∀{H':Hp},(∀b∈fp,H' b=none)->∀b∈fp,FpOk (a0l X scope cl N fp (s2.heap.objs.size + 1) s2 H2) pins H' b:=fun hn b hb=>by
   obtain⟨o,e⟩:=ho b hb;exact⟨hn b hb,x0o (x0V (x0i e)),nstk b (f2 b hb).2.1 (f2 b hb).2.2.1,.inl hb,fun x c ec=>(f2 b hb).2.2.2.2.1 x c (S.sub x c ec),(f2 b hb).2.2.2.2.2⟩
 obtain⟨hg,hi2,hg2,hf,he⟩:=hb fp (s2.heap.objs.size + 1) s2 H2;have st1:tn 0 h₁:=T.keep _ _ _ st2 fun b hb o e=>old b o e
 have fr1:∀b∈fp,upd H2 s2.heap.objs.size (.lst []) b=none:=fun b hb=>by
   obtain⟨o,e⟩:=ho b hb;rw [a0j (x0o (x0i e))];exact(f2 b hb).1
 have loop:∀s₃:Shared,s₃={ s2 with heap:=h₁,toks:=s2.toks + ([]:List (Str×Value)).length }->
     x2c (model X.prog X.w) X.A (.compLoop (LC2 elt t1 i1 t2 i2 ifs scope pos) 0 (.ref it) (.ref s2.heap.objs.size) (compEnvC scope cl (s2.heap.objs.size + 1) X.env))
       (compPost (model X.prog X.w) X.A X.xe (some (assign (.Name y py) X.env)) (fun _ s'=>SP X pins DD .next s') (.ref s2.heap.objs.size) (s2.heap.objs.size + 1)) s₃:=by
   rintro s₃ rfl;refine a8U (hs2 fp (s2.heap.objs.size + 1) s2 H2) (fun n s'=>∃i σ' H',Inv (a0l X scope cl N fp (s2.heap.objs.size + 1) s2 H2) pins σ' H' s'/\tn i s'.heap/\(∀b∈fp,H' b=none)/\W i n σ' H') ?_ m0 ⟨0,_,_,Ic,st1,fr1,w0⟩;rintro n s3 ⟨i,σ3,H3,I3,st3,fr3,w3⟩;rcases turn i n σ3 H3 w3 with⟨stop,qn⟩ | ⟨go,step⟩
   · refine thn (T.done (a0l X scope cl N fp (s2.heap.objs.size + 1) s2 H2) rfl rfl rfl hc i pins s3 σ3 H3 (fun _ _=>False) I3 (stat fr3) st3 stop) fun r s4 ⟨hr,I4⟩=>?_;subst hr;obtain⟨m4,hn4,_⟩:=I4.loc;have I5:Inv X pins σ H3 s4:=Inv.uncomp (h':=s4.heap) I2 f2 I4 fun b hb=>rfl;have oldne:∀b o,s2.heap.get? b=some o->b≠s2.heap.objs.size + 1:=fun b o e=>x0o (x0V (x0i e));have locne:X.env.locals≠s2.heap.objs.size + 1:=x0o (x0V I2.lt)
     have cellne:∀x c,X.env.cells.lookup x=some c->c≠s2.heap.objs.size + 1:=fun x c e=>by
       obtain⟨v,o,h1,_⟩:=I2.cell x c e;exact oldne c o h1
     refine bn _ _ _ _ _ _ (a3E I5 hN hiy hy (v:=.ref s2.heap.objs.size) rfl (fun s6 I6 ⟨a6,sb6,ha6⟩=>?_) hff)
     have ane:s2.heap.objs.size + 1≠a6:=by
       rcases ha6 with rfl | ha6
       · exact Ne.symm locne
       · exact Ne.symm (cellne _ _ ha6)
     refine⟨m4,hn4.sameBut sb6 ane,fun h' hs'=>⟨_,H3,?_,qn⟩⟩;have hs7:∀b,b≠s2.heap.objs.size + 1->h'.get? b=s6.heap.get? b:=fun b hb=>hs'.2 b hb;have U0:Un (frs X.stack) [s2.heap.objs.size + 1] H3 H3 s6.heap s6.heap:=Un.refl
     have trC:∀b u,H3 b=some u->b≠s2.heap.objs.size + 1:=fun b u e z=>by
       have q:H3 (s2.heap.objs.size + 1)=none:=I4.free;rw [z,q] at e;cases e
     obtain⟨hh6,g6,d6,t6,os6⟩:=s6;refine I6.call (h':=h') (g':=g6) (d':=d6) (t':=t6) (ch:=[s2.heap.objs.size + 1]) ⟨fun b o e n hb hx=>?_,fun b o e n hb hx=>?_,U0.free,fun b o e hx=>?_,U0.tups,U0.frzs,U0.tbls,U0.sys⟩ (fun b u e=>?_) I6.bare fun b hb=>?_
     · have hb':b≠s2.heap.objs.size + 1:=fun z=>hx (by rw [z];exact x0T.mpr rfl);rw [hs7 b hb'];exact U0.keep b o e n hb hx
     · have hb':b≠s2.heap.objs.size + 1:=fun z=>hx (by rw [z];exact x0T.mpr rfl);rw [hs7 b hb'];exact U0.slot b o e n hb hx
     · have hb':b≠s2.heap.objs.size + 1:=fun z=>hx (by rw [z];exact x0T.mpr rfl);rw [hs7 b hb'];exact U0.there b o e hx
     · refine(I6.hok b u e).stay (fun c v hc q=>?_) (fun _ q=>q) fun _ _ q=>q
       have ne:c≠s2.heap.objs.size + 1:=by
         rcases hc with z | z
         · rw [z];exact trC b u e
         · exact trC c _ z
       rw [hs7 c ne];exact q
     · rw [x0T.mp hb];refine⟨.inr (Nat.le_succ_of_le I2.sz),Ne.symm locne,cellne,fun p hp=>?_⟩;exact oldne _ _ (I2.pin p hp).1
   · refine thn (T.item (a0l X scope cl N fp (s2.heap.objs.size + 1) s2 H2) rfl rfl rfl hc i pins s3 σ3 H3 (fun _ _=>False) I3 (stat fr3) st3 go) fun r s4 ⟨u,hr,h4⟩=>?_;subst hr;refine thn h4 fun _ s5 ⟨x,H5,I5,r5,y5,st5,fr5⟩=>?_;have I5':=I5.pinned (stat fr5) (T.obj _ _ st5);refine thn (hg _ s5 σ3 H5 x u _ I5' r5 (step x H5 y5)) fun _ s6 ⟨σ6,H6,I6,q6⟩=>?_;refine thn (hi2 _ s6 σ6 H6 _ I6 q6) fun v7 s7 h7=>thn h7 fun itv s8 h8=>?_;obtain⟨it2,fp2,tn2,J2,H8,rfl,I8,T2,st8,f8,W2,⟨m2,w2⟩,turn2⟩:=h8;have stat2:∀{H':Hp},(∀b∈fp2,H' b=none)->∀b∈fp2,FpOk (a0l X scope cl N fp (s2.heap.objs.size + 1) s2 H2) (pins++a2n fp s5.heap) H' b:=fun hn b hb=>⟨hn b hb,(f8 b hb).2⟩
     have inner:x2c (model X.prog X.w) X.A (.compLoop (LC2 elt t1 i1 t2 i2 ifs scope pos) 1 (.ref it2) (.ref s2.heap.objs.size) (compEnvC scope cl (s2.heap.objs.size + 1) X.env)) (fun r s'=>r=.ok .next/\∃m,m < n/\∃i σ' H',Inv (a0l X scope cl N fp (s2.heap.objs.size + 1) s2 H2) pins σ' H' s'/\tn i s'.heap/\(∀b∈fp,H' b=none)/\W i m σ' H') s8:=by
       exact a8V _ (a7F (Y:=a0l X scope cl N fp (s2.heap.objs.size + 1) s2 H2) T2 hc stat2 hg2 hf he (fun s10 σ9 H9 I10 qn2=>⟨rfl,a2O T st5 I10 qn2⟩) turn2) m2 ⟨0,σ6,H8,I8,st8,fun b hb=>(f8 b hb).1,w2⟩
     exact a6i inner (T2.self _ 0 _ _ _ st8 inner)
 exact x2A (loop _ rfl) (T.self _ 0 _ _ _ st1 (loop _ rfl))
end L2
end
section
namespace Pu
open PySem PySem.Spec L2
section
variable {T:PotK}{ι:Type}{K:x0a}{F:ι->Cx}{pg1 pg2:pG}{pos:Pos}
theorem a7U {scope:Scope}{cl:ι->List (Str×Addr)}{N:List Str}{cs:List (Option Nat)}{elt t1 i1 t2 i2:Expr}{ifs:List Expr}{pi1 pi2:pA}{ptt:pT}{pte:pE}(S:∀z,a0N (F z) scope (cl z) N cs)(hc:∀z,(F z).calm=true)(hi:QI T K F t1 i1 pi1)
   (hg:QG K (fun y:ι×List Addr×Addr×Shared×Hp=>a0l (F y.1) scope (cl y.1) N y.2.1 y.2.2.1 y.2.2.2.1 y.2.2.2.2) t1 pg1)
   (hi2:QI T K (fun y:ι×List Addr×Addr×Shared×Hp=>a0l (F y.1) scope (cl y.1) N y.2.1 y.2.2.1 y.2.2.2.1 y.2.2.2.2) t2 i2 pi2)
   (hg2:QG K (fun y:ι×List Addr×Addr×Shared×Hp=>a0l (F y.1) scope (cl y.1) N y.2.1 y.2.2.1 y.2.2.2.1 y.2.2.2.2) t2 pg2)
   (ht:QIf T K (fun y:ι×List Addr×Addr×Shared×Hp=>a0l (F y.1) scope (cl y.1) N y.2.1 y.2.2.1 y.2.2.2.1 y.2.2.2.2) ifs ptt)
   (he:QE T K (fun y:ι×List Addr×Addr×Shared×Hp=>a0l (F y.1) scope (cl y.1) N y.2.1 y.2.2.1 y.2.2.2.1 y.2.2.2.2) elt pte)
   (hs:∀z x,x0G i1 (F z).env x=pure x:=by intro _ _;rfl) (hs2:∀z fp C s H x,x0G i2 (a0l (F z) scope (cl z) N fp C s H).env x=pure x:=by intro _ _ _ _ _ _;rfl):QNC T K F (LC2 elt t1 i1 t2 i2 ifs scope pos) (a3M cs pi1 pg1 pi2 pg2 ptt pte):=by
 obtain⟨wi,i1',i2'⟩:=hi;obtain⟨g,hg0,hg⟩:=hg;obtain⟨wj,j1,j2⟩:=hi2;obtain⟨g2,hg20,hg2⟩:=hg2;obtain⟨tt,ht0,ht⟩:=ht;obtain⟨te,he0,he⟩:=he;refine⟨_,fun z=>a4Y (S z) (hc z) (i1' z) (fun fp C s H=>⟨hg0 (z,fp,C,s,H),j1 (z,fp,C,s,H),hg20 (z,fp,C,s,H),ht0 (z,fp,C,s,H),he0 (z,fp,C,s,H)⟩) (hs2 z) (hs z),fun z i y py spos hN hi hy hsw hf=>a4v hN hi hy (S z) (hc z) (i1' z) (fun fp C s H=>⟨hg0 (z,fp,C,s,H),j1 (z,fp,C,s,H),hg20 (z,fp,C,s,H),ht0 (z,fp,C,s,H),he0 (z,fp,C,s,H)⟩) (hs2 z) hsw (hs z) hf,fun C G σ H env n R Q hK hT S hp k=>?_⟩;refine i2' C G σ H env n _ _ hK hT S hp fun xs env1 n1 J H1 p1 S1 f1 hJ=>?_;intro D hD;have hDM:=S1.fresh hD;refine a5j (G:=G) hg j2 hg2 ht he hJ p1.1 hD (hT▸hK▸a4H S1 cs) p1.2 fun ys n2 us H' rr hpots hk eD ry=>?_;have nD:∀b o,H1 b=some o->b≠D:=fun b o e z=>by rw [z,hD] at e;cases e
 have hk2:∀b o,b∉G.pots->H1 b=some o->cutH H' D b=some o:=fun b o hb e=>by rw [a0I (nD b o e)];exact hk b o hb e
 have nc:∀b,b∉D::G.M->b≠D:=fun b hb z=>hb (by rw [z];exact x0f);have np:∀p∈G.pots,p≠D:=fun p hp z=>hDM (z▸(S1.pots p hp).1)
 have Sb:SR C G σ (cutH H' D) env1 n2:=S1.call hk2 fun p hp=>by
   subst hT;have h2:=C.T.keep (hpots p hp) (H':=cutH H' D) (a0I (np p hp)) fun b o hb e=>by rw [a0I (nc b hb)];exact e
   exact C.T.more h2 fun a ha=>.inl (x0c _ ha)
 have:=k ys env1 n2 D us (cutH H' D) rr Sb (f1.trans fun b o hb e=>hk2 b o (fun z=>hb (S1.pots b z).1) e) (by unfold cutH;rw [if_pos rfl]) ?_
 · rw [a3c eD] at this;exact this
 · exact Reps.mono (G:=⟨D::G.M,G.pots⟩) (fun b o hb e=>by rw [a0I (nc b hb)];exact e) (fun a ha=>.inl (x0c _ ha)) (fun _ _ e=>e) _ _ ry
end
end Pu
end
section
namespace Pu
open PySem PySem.Spec L2
def Lent (σ:St)(env:Env)(a:Addr):Prop:=∃(i:Nat) (k:OK) (xs:List PV),env[i]?=some (some (.ow k xs))/\σ[i]?=some (some (.ref a))
open Classical in
noncomputable def a1i (σ:St) (env:Env) (M:List Addr):List Addr:=M.filter fun a=>decide (¬Lent σ env a)
open Classical in
theorem a0B {σ:St}{env:Env}{M:List Addr}{a:Addr}:a∈a1i σ env M↔a∈M/\¬Lent σ env a:=by
 unfold a1i;rw [x1y];constructor
 · rintro⟨h1,h2⟩;exact⟨h1,of_decide_eq_true h2⟩
 · rintro⟨h1,h2⟩;exact⟨h1,decide_eq_true h2⟩
section
variable {C:Ct}{G:Gh}{σ:St}{H H':Hp}{env env':Env}{n n':Nat}
theorem SR.lendM (S:SR C G σ H env n):SR ⟨C.K,C.T,a1i σ env G.M,G.pots,H,C.np⟩ ⟨a1i σ env G.M,G.pots⟩ σ H (frz env) n where
 frame _ _ _ e:=e
 sub a ha:=.inl ha
 sup a ha:=ha
 pots p hp:=by
   refine⟨a0B.mpr ⟨(S.pots p hp).1,fun⟨i,k,xs,e1,e2⟩=>?_⟩,C.T.more (S.pots p hp).2 fun b hb=>.inl (a0B.mp hb).1⟩;obtain⟨a,vs,ev,_,_,h3,_⟩:=S.slots i _ e1;rw [e2] at ev;cases ev;exact h3 hp
 pre:=⟨[],(x1e _).symm,.inl rfl⟩
 mu a ha:=S.mu a (a0B.mp ha).1
 slots i s e:=by
   have mm:∀{x:PV} {v:V},Rep C.K G H x v->Rep C.K ⟨a1i σ env G.M,G.pots⟩ H x v:=fun r=>Rep.mono (G':=⟨a1i σ env G.M,G.pots⟩) (fun _ _ _ e=>e) (fun b hb=>.inl (a0B.mp hb).1) (fun _ _ e=>e) _ _ r;have mms:∀{x:List PV} {v:List V},Reps C.K G H x v->Reps C.K ⟨a1i σ env G.M,G.pots⟩ H x v:=fun r=>Reps.mono (G':=⟨a1i σ env G.M,G.pots⟩) (fun _ _ _ e=>e) (fun b hb=>.inl (a0B.mp hb).1) (fun _ _ e=>e) _ _ r;unfold frz at e;rw [x0p] at e;cases h:env[i]? with
   | none=>rw [h] at e;cases e
   | some o =>
     rw [h] at e;cases o with
     | none=>cases e
     | some t =>
       have q:=S.slots i t h;have e':frzS t=some s:=by simpa using e
       cases t with
       | v x =>
         cases e';obtain⟨v,e1,r⟩:=q;exact⟨v,e1,mm r⟩
       | ow k xs =>
         obtain⟨a,vs,ev,h1,h2,h3,h4,r⟩:=q;have na:a∉a1i σ env G.M:=fun z=>(a0B.mp z).2 ⟨i,k,xs,h,ev⟩;cases k with
         | lst=>cases e';exact⟨.ref a,ev,a,vs,rfl,⟨na,h4⟩,mms r⟩
         | dk ks =>
           have e':(if ks.length=xs.length then some (Slot.v (.dct ks xs)) else none)=some s:=e'
           split at e'
           · rename_i hl;cases e';have hlv:ks.length=vs.length:=by rw [hl];exact r.length
             refine⟨.ref a,ev,a,ks.zip vs,rfl,na,h4,List.map_fst_zip (x3d hlv),?_⟩;rw [List.map_snd_zip (x3d hlv.symm)];exact mms r
           · cases e'
         | dt ks=>cases e'
         | st ks=>cases e'
 inj:=S.lend.inj
 p0:=⟨fun p hp=>by
   refine a0B.mpr ⟨(S.pots p hp).1,fun⟨i,k,xs,e1,e2⟩=>?_⟩;obtain⟨a,vs,ev,_,_,h3,_⟩:=S.slots i _ e1;rw [e2] at ev;cases ev
   exact h3 hp,S.hasG⟩
 len:=by unfold frz;rw [x0e];exact S.len
 newp p hp h:=absurd hp h
theorem SR.backM (hT:a7z C.T)(S:SR C G σ H env n)(S':SR ⟨C.K,C.T,a1i σ env G.M,G.pots,H,C.np⟩ ⟨a1i σ env G.M,G.pots⟩ σ H' env' n'):SR C G σ H' env n':=
 S.call (fun b o hb e=>S'.frame b o hb e) fun p hp=>hT _ _ _ _ _ (S'.pots p hp).2 fun a ha=>by
   by_cases h:a∈G.pots
   · exact .inl (a0B.mpr ⟨ha,fun⟨i,k,xs,e1,e2⟩=>by
       obtain⟨b,vs,ev,_,_,h3,_⟩:=S.slots i _ e1;rw [e2] at ev;cases ev
       exact h3 h⟩)
   · obtain⟨o,e,m⟩:=S.mu a ha;exact .inr ⟨o,S'.frame a o h e,m⟩
end
def lsts (env:Env):Prop:=∀(i:Nat) (xs:List PV),env[i]?=some (some (.ow .lst xs))->∃l r,xs=.lst l::r
def a4V (pe:pE):pE:=fun env n R=>lsts env/\pe (frz env) n fun x env' n'=>match x with
 | .lst (.tup y::ys)=>noMut (.tup y)=true/\a1D ys=true/\R x env n'
 | _=>False
section
variable {T:PotK}{ι:Type}{K:x0a}{F:ι->Cx}{e:Expr}{pe:pE}
theorem a4U (hT:a7z T)(h:QE T K F e pe):QE T K F e (a4V pe):=by
 obtain⟨t,h1,h2⟩:=h;refine⟨t,h1,fun C G σ H env n R Q hK hT' S hp k=>?_⟩;obtain⟨hl,hp⟩:=hp;refine h2 ⟨C.K,C.T,a1i σ env G.M,G.pots,H,C.np⟩ ⟨a1i σ env G.M,G.pots⟩ σ H (frz env) n _ _ hK hT' S.lendM hp fun x env' n' v H' r S' rp f=>?_;have S2:=S.backM (by rw [hT'];exact hT) S'
 split at r
 · rename_i y ys;obtain⟨r1,r2,r3⟩:=r;obtain⟨b,vs,rfl,⟨nb,hb⟩,rs⟩:=rp
   have bM:b∉G.M:=fun z=>by
     have le:Lent σ env b:=Classical.byContradiction fun w=>nb (a0B.mpr ⟨z,w⟩);obtain⟨i,kk,zs,e1,e2⟩:=le;obtain⟨a,us,ev,g1,g2,g3,g4,rz⟩:=S.slots i _ e1;rw [e2] at ev;cases ev;have hb':=S'.frame b _ g3 g4;have hb:H' b=some (.lst vs):=hb;rw [hb] at hb';cases kk with
     | lst =>
       have eu:vs=us:=by
         have:HO.lst vs=HO.lst us:=x0L hb';cases this;rfl
       subst eu;obtain⟨l,r',rfl⟩:=hl i zs e1;obtain⟨u,t',rfl,ru,_⟩:=rz;obtain⟨u',t'',eq,ru',_⟩:=rs;cases eq;obtain⟨c,ws,rfl,⟨nc,hc⟩,_⟩:=ru;obtain⟨c',ws',eq',⟨_,hc'⟩,_⟩:=ru';cases eq';have:=S'.frame c _ (fun w=>nc (S.pots c w).1) hc;rw [show H' c=some (.tup ws') from hc'] at this;cases this
     | dk ks=>cases hb'
     | dt ks=>cases hb'
     | st ks=>cases hb'
   refine k _ _ _ _ _ r3 S2 ⟨b,vs,rfl,⟨bM,hb⟩,?_⟩ fun b o hb e=>S'.frame b o (fun z=>hb (S.pots b z).1) e
   have nm:a1D (.tup y::ys)=true:=by
     show(noMut (.tup y) && a1D ys)=true;rw [r1,r2];rfl
   subst hK;exact Reps.noMut S2.mu _ _ nm rs
 · exact r.elim
end
end Pu
end
section
namespace L2
open PySem PySem.Spec PyProof.Rows
section
variable {prog:x0x}{w:World}{A:Around}{E:Value->Shared->Prop}{s:Shared}
section
variable {b1 b2:Bool}{z TI TO i1 i2 l1 l2:Addr}{xs ys:Array Value}{ps:List Addr}
abbrev lstO (ps:List Addr)(c:Nat):Obj:={ cls:=.type "list",dict:=none,data:=.seq (ps.map x0Y).toArray c,slots:=#[] }
end
end
end L2
end
section
namespace L2
open PySem PySem.Spec PyProof.Rows
section
variable {prog:x0x}{w:World}{A:Around}{E:Value->Shared->Prop}{s:Shared}
theorem a3S:typeLookup (.type "list") "keys"=pure none:=by rw [typeLookup_type,builtinLookup_eq_fast];kernel_rfl
theorem noKeys {a:Addr}{xs:Array Value}{k:Nat}{Q:Option Value->Shared->Prop}(hx:s.heap.get? a=some { cls:=.type "list",dict:=none,data:=.seq xs k,slots:=#[] })(hA:A.handled=none)
   (h:∀h' tk,(∀c o,s.heap.get? c=some o->h'.get? c=some o)->Q none { s with heap:=h',toks:=tk }) :
   wpAny (model prog w) A (getAttr? (.ref a) "keys") Q E s:=by
 obtain⟨hp,g,d,tk,os⟩:=s;have hT:∀tk',(⟨hp,g,d,tk',os⟩:Shared).TypeIs (.ref a) "list":=fun _=>⟨_,hx,rfl⟩;have f1:=sub_AttributeError;have f3:=F.slot_list_getattribute.lookup;have f4:=F.slot_list_getattribute.bind (.ref a);have f5:=am_list_getattr_none;unfold getAttr? getAttrBy? getAttrBy
 repeat (any_goals (first | assumption | exact hT _ | ((with_reducible show wpAny _ _ (call (Value.builtin "list.__getattribute__") _ _) _ _ _);refine call_meets F.slot_list_getattribute (hT _) am_entry_list_getattribute (F.args_list_getattribute_2 _ _) (meets_getattribute_miss_list a xs k #[] "keys" _ a3S (by decide) (by size_fits)) ⟨hx,hA,fun h' tk' e hx'=>?_⟩) | wp_step))
 obtain⟨t',u',he⟩:=hx'.there;show wpAny _ _ (getattributeRaised _ _ _ _ _ _ _) _ _ _;unfold getattributeRaised
 repeat (any_goals (first | assumption | wp_step))
 exact h _ _ hx'.keeps
theorem a3Z:entryFor table "dict.update.loop"=some Builtin.«dict.update.loop»:=entryFor_of_tree (by kernel_rfl)
theorem a1X:plainId "dict.update.loop"=true:=by decide +kernel
end
end L2
end
section
namespace L2
open PySem PySem.Spec PyProof.Rows
section
variable {X:Cx}
def tListR (ta:TA):TE:=fun σ H Q=>ta σ H fun vs H1=>∃j:Int,vs=[.int j]/\0<=j/\j<=1000000/\∀l,H1 l=none->Q (.ref l) (upd H1 l (.lst ((x0g j.toNat).map fun(k:Nat)=>.int (k:Int))))
theorem a8b {a:Expr}{ta:TA}{p1 p2 pos1 pos2:Pos}(hc:X.calm=true)(g1:Gl X "list")(m1:X.mg "list"=none)(g2:Gl X "range")(m2:X.mg "range"=none)(ha:PA X [a] ta)(hs:x0P [a] X.env=[(false,eval a X.env)]:=by rfl) :
   PE X (.Call (.Name "list" p1) [.Call (.Name "range" p2) [a] [] pos2] [] pos1) (tListR ta):=by
 intro pins s σ H Q I h;refine x1G (a1Z I g1 m1 b0L (x0M (Calls.spliced_cons ?_) rfl rfl));refine x1G (a1Z I g2 m2 boot_range (x0M (thn (ha pos2 pins s σ H _ I h) fun us s1 h1=>?_) hs rfl));obtain⟨vs,H1,I1,r1,j,rfl,j0,j1,q⟩:=h1;cases r1 with
 | cons r rr =>
   cases rr;obtain⟨t,rfl⟩:=r;have hh:X.A.handled=none:=I1.ok.hd hc;refine call_range_1 ?_;refine x0h ?_;have hn:Builtin.Range.rangeSize 0 j 1=(j.toNat:Int):=by rw [rangeSize_one];split <;> omega
   refine call_list_range (s:={ s1 with heap:=s1.heap.push { cls:=.type "range",data:=.fields #[.int 0 s1.toks,.int j t,.int 1 (s1.toks + 1)] },toks:=s1.toks + 1 + 1 }) hh (IsRange.new ..) (small_one (by omega) (by omega) (by omega) (by omega)) hn (by omega) fun h' tk acc c hk hD hI=>?_;have hs1:s1.heap.objs.size<=(s1.heap.push { cls:=.type "range",data:=.fields #[.int 0 s1.toks,.int j t,.int 1 (s1.toks + 1)] }).objs.size:=by rw [x2J];exact x3q _
   generalize (s1.heap.push { cls:=.type "range",data:=.fields #[.int 0 s1.toks,.int j t,.int 1 (s1.toks + 1)] }).objs.size=D at hs1 hD ⊢
   have va:Vals ((x0g j.toNat).map fun(k:Nat)=>V.int (k:Int)) acc.toList:=by
     refine a2r _ _ (by have:=hI.1;rw [x0e,x1T,x1A];omega) fun i x u e1 e2=>?_;obtain⟨w,rfl⟩:=hI.2 i u (by simpa using e2);rw [x0p] at e1;cases e:(x0g j.toNat)[i]? with
     | none=>rw [e] at e1;cases e1
     | some k =>
       rw [e] at e1;cases e1;obtain⟨_,ek⟩:=x0n.mp e;rw [List.getElem_range] at ek;subst ek;exact⟨w,by simp⟩
   exact⟨.ref D,_,I1.laid (t':=tk) (o:=.lst ((x0g j.toNat).map fun(k:Nat)=>V.int (k:Int))) (fun b o e=>hk b o (x0d _ e)) hs1 ⟨by rw [x0e,x1T];unfold x0t;omega,acc.toList,c,va,by simpa using hD⟩,rfl,q _ (I1.hok.fresh hs1)⟩
end
end L2
namespace Pu
open PySem PySem.Spec L2
section
variable {T:PotK}{ι:Type}{K:x0a}{F:ι->Cx}{e:Expr}{pe:pE}{pos pos2 p1 p2:Pos}
def a6E (pe:pE):pA:=fun env n R=>pe env n fun x env1 n1=>match x with | .int j=>(0<=j/\j<=1000000)/\R ((x0g j.toNat).map fun(k:Nat)=>PV.int (k:Int)) env1 n1 | _=>False
theorem a5w {G:Gh}{H:Hp}:∀l:List Nat,Reps K G H (l.map fun(k:Nat)=>PV.int (k:Int)) (l.map fun(k:Nat)=>V.int (k:Int)):=by
 intro xq
 induction xq with
 | nil =>
   exact rfl
 | cons k l ih =>
   exact⟨_,_,rfl,rfl,ih⟩
theorem a7R (hc:∀z,(F z).calm=true)(g1:∀z,Gl (F z) "list")(m1:∀z,(F z).mg "list"=none)(g2:∀z,Gl (F z) "range")(m2:∀z,(F z).mg "range"=none)(ha:QE T K F e pe)(hs:a0r e=true:=by rfl):QN T K F (.Call (.Name "list" p1) [.Call (.Name "range" p2) [e] [] pos2] [] pos) (a6E pe):=by
 obtain⟨t,h1,h2⟩:=ha;refine⟨_,fun z=>a8b (hc z) (g1 z) (m1 z) (g2 z) (m2 z) (a0m (h1 z) a0C (a0c hs)) (a0c hs),fun C G σ H env n R Q hK hT S hp k=>?_⟩;refine h2 C G σ H env n _ _ hK hT S hp fun x env1 n1 v H1 q1 S1 r1 f1=>?_;cases x with
 | int j =>
   obtain⟨⟨j0,j1⟩,q⟩:=q1;have r1:v=.int j:=r1;subst r1;exact⟨j,rfl,j0,j1,fun l hl=>k _ _ _ _ _ _ q S1 f1 hl (a5w _)⟩
 | _=>exact q1.elim
end
end Pu
end
section
namespace L2
open PySem PySem.Spec PyProof.Rows
section
variable {prog:x0x}{w:World}{A:Around}{E:Value->Shared->Prop}{s:Shared}
def a4L (h:Heap)(p:Addr)(x y:Value):Prop:=∃o n,h.get? p=some o/\o.cls=.type "tuple"/\o.data=.seq #[x,y] n
theorem a4L.keep {h h':Heap}{p:Addr}{x y:Value}(q:a4L h p x y)(k:∀o,o.cls=.type "tuple"->h.get? p=some o->h'.get? p=some o):a4L h' p x y:=by
 obtain⟨o,n,e,c,d⟩:=q;exact⟨o,n,k o c e,c,d⟩
theorem a3d {κ:Type}[DecidableEq κ]{knd:KeyKind prog w κ}{h h':Heap}{k:List κ}{a:Addr}(q:(x1p knd).is h k a)(kp:∀o,o.cls=.type "tuple"->h.get? a=some o->h'.get? a=some o):(x1p knd).is h' k a:=by
 obtain⟨o,its,n,e,c,d⟩:=q;exact⟨o,its,n,kp o c e,c,d⟩
section
variable {κ:Type}[DecidableEq κ]{knd:KeyKind prog w κ}{ps:List Addr}{qs:List (List κ×Addr×Value)}
def a2K (qs:List (List κ×Addr×Value)):List (List κ×Addr×Value):=qs.foldl (fun xs q=>storedH xs q.1 q.2.1 q.2.2) []
theorem a6h (xs:List (List κ×Addr×Value))(k:List κ)(a:Addr)(v:Value):(storedH xs k a v).length<=xs.length + 1:=by
 unfold storedH
 split
 · rw [x0e];omega
 · rw [x0l];simp
theorem a5e (qs:List (List κ×Addr×Value)):(a2K qs).length<=qs.length:=by
 have:∀(qs xs:List (List κ×Addr×Value)),(qs.foldl (fun xs q=>storedH xs q.1 q.2.1 q.2.2) xs).length<=xs.length + qs.length:=by
   intro qs
   induction qs with
   | nil=>intro xs;simp
   | cons q qs ih =>
     intro xs;have h1:=ih (storedH xs q.1 q.2.1 q.2.2);have h2:=a6h xs q.1 q.2.1 q.2.2;rw [x3a,x0D];omega
 have h:=this qs []
 simpa [a2K] using h
theorem a5J {i:Nat}{q:List κ×Addr×Value}(h:qs[i]?=some q):a2K (qs.take (i + 1))=storedH (a2K (qs.take i)) q.1 q.2.1 q.2.2:=by
 unfold a2K;rw [List.take_succ,h,List.foldl_append]
 rfl
theorem a7q {R:Result->Shared->Prop}(hh:A.handled=none)(hu:A.units + 1 < cLine){D it L:Addr}{c:Nat}(nD:D≠it)(nL:D≠L)(nL2:it≠L)(hl:ps.length<=1000)(lq:qs.length=ps.length) :
   ∀(m i:Nat) (s:Shared),ps.length - i=m->i<=ps.length->s.heap.IsListIter it L i->s.heap.get? L=some (lstO ps c)->
   (∀(j:Nat) (p:Addr),ps[j]?=some p->∃q,qs[j]?=some q/\a4L s.heap p (.ref q.2.1) q.2.2/\(x1p knd).is s.heap q.1 q.2.1)->s.heap.DictOfH (x1p knd) D (a2K (qs.take i))->
   (∀h' tk,h'.DictOfH (x1p knd) D (a2K qs)->(∀c o,c≠D->c≠it->s.heap.get? c=some o->h'.get? c=some o)->R (.ok (.ret .none)) { s with heap:=h',toks:=tk })->
   x2c (model prog w) A (.builtin "dict.update.loop" ⟨[.ref D,.ref it,rawInt i,.none],[]⟩) R s:=by
 have sl:(1000:Nat)<=x0t:=by decide
 have itn:∀(s:Shared) (i:Nat),s.heap.IsListIter it L i->∀a o,o.cls=.type "tuple"->s.heap.get? a=some o->a≠it:=by
   intro s i hit a o hc e z;obtain⟨o',e',hc',_⟩:=hit;rw [z,e'] at e;cases e;rw [hc'] at hc;exact absurd (Value.type.inj hc) (by decide)
 have dkeep:∀{h h':Heap} {xs:List (List κ×Addr×Value)},h.DictOfH (x1p knd) D xs->(∀c o,c≠it->h.get? c=some o->h'.get? c=some o)->(∀a o,o.cls=.type "tuple"->h.get? a=some o->a≠it)->h'.DictOfH (x1p knd) D xs:=by
   intro h h' xs dd k1 nt;obtain⟨o,es,ep,e1,e2,e3,e4,e5,e6⟩:=dd;exact⟨o,es,ep,k1 _ _ nD e1,e2,e3,e4,fun x hx=>a3d (e5 x hx) fun o c e=>k1 _ _ (nt _ o c e) e,e6⟩
 intro m
 induction m with
 | zero =>
   intro i s hm hi hit hL hp hD hR;refine codeAny_builtin a3Z ?_;rw [Around.under_plainId a1X _];show wpAny _ A.in1 (pyNext (.ref it)>>=_) _ _ s;have isL:s.heap.IsList L (ps.map x0Y).toArray:=⟨_,hL,rfl,_,rfl⟩;refine x0b (wpAny_pyNext_list_end hh hit isL (x2B (by simp;omega)) fun h' k=>?_);show wpAny _ A.in1 (Builtin.Dict.addKeywords D []>>=_) _ _ _;refine x0b (x0h (x0h ?_));rw [List.take_of_length_le (by omega)] at hD;exact hR h' s.toks (dkeep hD (fun c o hc e=>k c o hc e) (itn s i hit)) fun c o _ c2 e=>k c o c2 e
 | succ m ih =>
   intro i s hm hi hit hL hp hD hR;have hlt:i < ps.length:=by omega
   refine codeAny_builtin a3Z ?_;rw [Around.under_plainId a1X _];show wpAny _ A.in1 (pyNext (.ref it)>>=_) _ _ s;have isL:s.heap.IsList L (ps.map x0Y).toArray:=⟨_,hL,rfl,_,rfl⟩;obtain⟨q,eq,pq,kq⟩:=hp i ps[i] (x0k hlt);refine x0b (wpAny_pyNext_list_item (x:=.ref ps[i]) hit isL (by simp [hlt]) fun h1 hit1 s1=>?_);have k1:∀c o,c≠it->s.heap.get? c=some o->h1.get? c=some o:=fun c o hc e=>s1.extBut c o hc e;have nt:=itn s i hit;have pq1:a4L h1 ps[i] (.ref q.2.1) q.2.2:=pq.keep fun o c e=>k1 _ _ (nt _ o c e) e;have kq1:(x1p knd).is h1 q.1 q.2.1:=a3d kq fun o c e=>k1 _ _ (nt _ o c e) e;have hD1:=dkeep hD k1 nt;refine x0b (x1d ?_);refine x0b (wpAny_tryCatch ?_);unfold Builtin.Dict.pairItems;obtain⟨po,pn,pe1,pe2,pe3⟩:=pq1;refine x0b (x2L (T:="tuple") (s:={ s with heap:=h1 }) ⟨_,pe1,pe2⟩ ?_);rw [if_pos (by decide)];refine x0b (wpAny_seqItems (s:={ s with heap:=h1 }) pe1 pe3 (x0h ?_));show wpAny _ A.in1 (x3p [.ref q.2.1,q.2.2] (dictSet D (.ref q.2.1) q.2.2)) _ _ _;have ml:=a5e (qs.take i);refine x1d (wpAny_dictSet_heap (s:={ s with heap:=h1 }) (hsz:=by rw [x2f] at ml;omega) (tupleKind_room_in1 hu) kq1 hD1 fun h2 hD2 s2=>?_);rw [<- a5J eq] at hD2;have k2:∀c o,c≠D->h1.get? c=some o->h2.get? c=some o:=fun c o hc e=>s2.extBut c o hc e
   have nt2:∀a o,o.cls=.type "tuple"->h1.get? a=some o->a≠D:=by
     intro a o hc e z;obtain⟨o',es,ep,e1,e2,_⟩:=hD1;rw [z,e1] at e;cases e;have:=e2.1;rw [hc] at this;exact absurd (Value.type.inj this) (by decide)
   refine x0h ⟨plainId_quiet a1X _,?_⟩;rw [show((i:Int) + 1)=((i + 1:Nat):Int) by omega];refine ih (i + 1) { s with heap:=h2,toks:=s.toks + _ } (by omega) hlt ?_ (k2 _ _ nL.symm (k1 _ _ nL2.symm hL)) (fun j p hj=>?_) hD2 fun h' tk q1 q2=>hR h' tk q1 fun c o c1 c2 e=>q2 c o c1 c2 (k2 c o c1 (k1 c o c2 e))
   · obtain⟨o,e,r⟩:=hit1;exact⟨o,k2 _ _ nD.symm e,r⟩
   · obtain⟨q',e1,e2,e3⟩:=hp j p hj;exact⟨q',e1,e2.keep fun o c e=>k2 _ _ (nt2 _ o c (k1 _ _ (nt _ o c e) e)) (k1 _ _ (nt _ o c e) e),a3d e3 fun o c e=>k2 _ _ (nt2 _ o c (k1 _ _ (nt _ o c e) e)) (k1 _ _ (nt _ o c e) e)⟩
theorem a5M {Q:Value->Shared->Prop}(hh:A.handled=none)(hu:A.units + 2 < cLine){L:Addr}{c:Nat}(hl:ps.length<=1000)(lq:qs.length=ps.length)
   (hL:s.heap.get? L=some (lstO ps c)) (hp:∀(j:Nat) (p:Addr),ps[j]?=some p->∃q,qs[j]?=some q/\a4L s.heap p (.ref q.2.1) q.2.2/\(x1p knd).is s.heap q.1 q.2.1)
   (hQ:∀h' tk,h'.DictOfH (x1p knd) s.heap.objs.size (a2K qs)->(∀c o,s.heap.get? c=some o->h'.get? c=some o)->Q (.ref s.heap.objs.size) { s with heap:=h',toks:=tk }) :
   wpAny (model prog w) A (call (.type "dict") [.ref L]) Q E s:=by
 refine callType_codes (Q₁:=fun obj s₁=>obj=.ref s.heap.objs.size/\s₁={ s with heap:=s.heap.push { cls:=.type "dict",data:=.dict #[] } }) F.kt_called_dict (F.kt_typeCall_dict_1 _) F.entry_dict_init (kt_code_dict_new _ ⟨rfl,rfl⟩) ?_;rintro obj s₁ ⟨rfl,rfl⟩;have hnew:(s.heap.push { cls:=.type "dict",data:=.dict #[] }).DictOfH (x1p knd) s.heap.objs.size []:=Heap.DictOfH.new s.heap;have old:∀c o,s.heap.get? c=some o->c≠s.heap.objs.size:=fun c o e=>x0o (x0i e);have up:∀c o,s.heap.get? c=some o->(s.heap.push { cls:=.type "dict",data:=.dict #[] }).get? c=some o:=fun c o e=>x0d _ e;have D0:=hnew;refine⟨hnew.typeIs,F.args_dict_init_2 _ _,?_⟩;generalize hg:s.heap.push { cls:=.type "dict",data:=.dict #[] }=g at *;generalize hD:s.heap.objs.size=D at *;unfold Builtin.«dict.__init__»;refine x0b ?_;unfold Builtin.Dict.selfAndRest;refine x0b (wpAny_notOrdered_dict (s:={ s with heap:=g }) hnew.typeIs ?_);show wpAny _ _ (pure (D,[x0Y L])) _ _ _;refine x0h ?_;show wpAny _ _ (Builtin.Dict.updateFrom "dict.__init__" D (.ref L) [] .none) _ _ _;unfold Builtin.Dict.updateFrom;refine x0b (x2L (T:="list") (s:={ s with heap:=g }) ⟨_,up _ _ hL,rfl⟩ ?_);rw [if_pos (by decide)];refine x0b (noKeys (s:={ s with heap:=g }) (up _ _ hL) hh fun g2 tk k2=>?_);show wpAny _ _ (rule _>>=_) _ _ _;refine x0b (x2m ?_)
 have hL2:g2.get? L=some (lstO ps c):=k2 _ _ (up _ _ hL);refine x0b (wpAny_pyIter_list (s:={ s with heap:=g2,toks:=tk }) ⟨_,hL2,rfl,_,rfl⟩ ?_);obtain⟨od,es,ep,ed0,rd1,rd2,rd3,_,rd5⟩:=D0;have ed:=k2 _ _ ed0;have lD:D≠g2.objs.size:=x0o (x0i ed);have lL:g2.objs.size≠L:=Nat.ne_of_gt (x0i hL2);have nDL:D≠L:=(old _ _ hL).symm;have up3:∀c o,g2.get? c=some o->(g2.push { cls:=x1k "list_iterator",data:=Data.fields #[x0Y L,Value.int 0 0] }).get? c=some o:=fun c o e=>x0d _ e;refine x0h ⟨plainId_quiet a1X _,a7q (A:=A.in1) (i:=0) (c:=c) (knd:=knd) (qs:=qs) hh hu lD nDL lL hl lq _ _ rfl (x1s _) ⟨_,x0y _ rfl,rfl,rfl⟩ (up3 _ _ hL2) (fun j p hj=>?_) ?_ fun h' tk' q1 q2=>⟨rfl,hQ h' tk' q1 fun c o e=>q2 c o (old c o e) (x0o (x0i (k2 _ _ (up _ _ e)))) (up3 _ _ (k2 _ _ (up _ _ e)))⟩⟩
 · obtain⟨q,e1,e2,e3⟩:=hp j p hj;exact⟨q,e1,e2.keep fun o _ e=>up3 _ _ (k2 _ _ (up _ _ e)),a3d e3 fun o _ e=>up3 _ _ (k2 _ _ (up _ _ e))⟩
 · exact⟨od,es,ep,up3 _ _ ed,rd1,rd2,rd3,fun x (hx:x∈[])=>absurd hx (List.not_mem_nil),rd5⟩
end
end
theorem hu2_of {A:Around}{k:Nat}(hr:Room k A):A.units + 2 < cLine:=Nat.lt_of_le_of_lt (Nat.add_le_add_left (by decide:2<=64) _) hr.units
def Prs (H:Hp):List V->List (List Key×V)->Prop
 | [],[]=>True
 | v::vs,q::qs=>(∃p b,v=.ref p/\H p=some (.tup [.ref b,q.2])/\H b=some (.tup (q.1.map kV)))/\Prs H vs qs
 | _,_=>False
abbrev PQ (H:Hp)(p:List Key×V)(q:List Key×Addr×Value):Prop:=p.1=q.1/\H q.2.1=some (.tup (p.1.map kV))/\RelV p.2 q.2.2
theorem a6J {P:x0x}{w:World}{H:Hp}{h:Heap}(ok:HOk P w H h):∀{ws:List V} {qs:List (List Key×V)} {its:List Value},Prs H ws qs->Vals ws its->
   ∃ (ps : List Addr) (qh : List (List Key × Addr × Value)), its = ps.map x0Y /\ ps.length = ws.length /\ qh.length = ps.length /\
     (∀(j:Nat) (p:Addr),ps[j]?=some p->∃q,qh[j]?=some q/\a4L h p (.ref q.2.1) q.2.2/\(x1p (a0E P w)).is h q.1 q.2.1)/\Paired (PQ H) qs qh
 | [], [], _, _, r => by
   cases r;exact⟨[],[],rfl,rfl,rfl,fun j p hj=>by simp at hj,.nil⟩
 | v :: vs, q :: qs, its, hp, r => by
   obtain⟨⟨p,b,rfl,e1,e2⟩,hp⟩:=hp;cases r with
   | cons r1 r2 =>
     obtain⟨ps,qh,rfl,h1,h2,h3,h4⟩:=a6J ok hp r2;cases(show _=x0Y p from r1);obtain⟨_,it2,rv,o,g1,g2,n,g3⟩:=(show a0J P w H h p (.tup [.ref b,q.2]) from ok p _ e1);cases rv with
     | cons ra rr =>
       cases rr with
       | @cons _ y _ _ rb rn =>
         cases rn;cases(show _=x0Y b from ra);refine⟨p::ps,(q.1,b,y)::qh,rfl,by simp [h1],by simp [h2],fun j p' hj=>?_,.cons ⟨rfl,e2,rb⟩ h4⟩;cases j with
         | zero =>
           cases hj;exact⟨_,rfl,⟨o,n,g1,(x2V g2).1,g3⟩,a8W ok e2⟩
         | succ j=>exact h3 j p' hj
 | [],_::_,_,hp,_=>hp.elim
 | _::_,[],_,hp,_=>hp.elim
def a7m (qs:List (List Key×V)):List (List Key×V):=qs.foldl (fun d q=>putK d q.1 q.2) []
theorem b0t {H:Hp}{qs:List (List Key×V)}{qh:List (List Key×Addr×Value)}(r:Paired (PQ H) qs qh):∀{kvs:List (List Key×V)} {xs:List (List Key×Addr×Value)},KT H kvs xs->
   KT H (qs.foldl (fun d q=>putK d q.1 q.2) kvs) (qh.foldl (fun xs q=>storedH xs q.1 q.2.1 q.2.2) xs):=by
 induction r with
 | nil=>intro kvs xs h;exact h
 | @cons p q ps qs' h _ ih =>
   intro kvs xs hk;rw [x3a,x3a];obtain⟨e1,e2,e3⟩:=h;rw [<- e1];exact ih (hk.put p.1 e2 e3)
section
variable {X:Cx}
def tDictT (ta:TA):TE:=fun σ H Q=>ta σ H fun vs H1=>∃a ws qs,vs=[.ref a]/\H1 a=some (.lst ws)/\Prs H1 ws qs/\ws.length<=1000/\∀l,H1 l=none->Q (.ref l) (upd H1 l (.dT (a7m qs)))
theorem a8d {a:Expr}{ta:TA}{p1 pos1:Pos}(hc:X.calm=true)(hu:X.A.units + 2 < cLine)(g1:Gl X "dict")(m1:X.mg "dict"=none)(ha:PA X [a] ta)(hs:x0P [a] X.env=[(false,eval a X.env)]:=by rfl) :
   PE X (.Call (.Name "dict" p1) [a] [] pos1) (tDictT ta):=by
 intro pins s σ H Q I h;refine x1G (a1Z I g1 m1 b0M (x0M (thn (ha pos1 pins s σ H _ I h) fun us s1 h1=>?_) hs rfl));obtain⟨vs,H1,I1,r1,a,ws,qs,rfl,ea,hp,hl,q⟩:=h1;cases r1 with
 | cons r rr =>
   cases rr;cases(show _=x0Y a from r);obtain⟨_,its,n,rv,e⟩:=(show a0J X.prog X.w H1 s1.heap a (.lst ws) from I1.hok a _ ea);obtain⟨ps,qh,rfl,h1,h2,h3,h4⟩:=a6J I1.hok hp rv;refine a5M (knd:=a0E X.prog X.w) (ps:=ps) (qs:=qh) (c:=n) (I1.ok.hd hc) hu (by omega) h2 e h3 fun h' tk dd kp=>?_;have kt:=(b0t h4 (KT.keeps (H:=H1) .nil fun _ _ e=>e):KT H1 (a7m qs) (a2K qh));have hle:=a5e qh;obtain⟨o,es,ep,d1,d2,d3,d4,_,d6⟩:=dd;have hf:H1 s1.heap.objs.size=none:=I1.hok.fresh (x0s _);refine⟨.ref s1.heap.objs.size,upd H1 s1.heap.objs.size (.dT (a7m qs)),I1.laid (t':=tk) kp (x0s _) ⟨?_,beq_eq_false_iff_ne.mpr (Ne.symm (x0o I1.big)),a2K qh,kt.keeps fun b ys eb=>?_,o,es,ep,d1,d2,d3,d4,d6⟩,rfl,q _ hf⟩
   · have:(a7m qs).length=(a2K qh).length:=x3o kt;have sl:(1000:Nat)<=x0t:=by decide
     omega
   · rw [a0j (fun z=>by rw [z,hf] at eb;cases eb)];exact eb
end
section
variable {prog:x0x}{w:World}{A:Around}{E:Value->Shared->Prop}{s:Shared}{κ:Type}[DecidableEq κ]{knd:HeapKind prog w κ}
theorem sizeT (D:Addr)(nm:(D == x1O)=false):MeetsIn prog w (Builtin.«dict.__len__» ⟨[.ref D],[]⟩) (fun _ R s=>∃xs,s.heap.DictOfH knd D xs/\R (.ok (.ret (.int xs.length s.toks))) { s with toks:=s.toks + 1 }):=
 .of_wp fun A R s ⟨xs,dd,h⟩=>by
   obtain⟨o,es,ep,e1,_,e3,e4,_⟩:=dd;show wpAny _ _ (dictSize D>>=_) _ _ s;unfold dictSize;refine x0b (x0b (wpAny_dictEntries e1 e3 (x0h ?_)));show wpAny _ _ (Builtin.Dict.pendingCount D>>=_) _ _ s;refine x0b (wpAny_pendingCount_other nm (wpAny_ret_mkInt ?_));rw [Nat.add_zero,size_of_entries e4];exact h
theorem lenT {D:Addr}{xs:List (κ×Addr×Value)}{Q:Value->Shared->Prop}(nm:(D == x1O)=false)(dd:s.heap.DictOfH knd D xs)(hz:xs.length<=x0t)
   (h:∀t s',s'={ s with toks:=s.toks + 1 + 1 }->Q (.int xs.length t) s'):wpAny (model prog w) A (call (.builtin "len") [.ref D]) Q E s:=by
 have big:(xs.length:Int) < 2 ^ 63:=by rw [x1Y] at hz;omega
 refine Calls.call_function_entry kind_len plain_len entry_len (args_len1 _) ?_;unfold Builtin.«len»;refine x0b (m:=oneArg "len" _) (x0h ?_);refine x0b (x1f (name:=x0H "__len__") dd.typeIs F.slot_dict_len (call_meetsIn F.slot_dict_len dd.typeIs F.entry_dict_len (F.args_dict_len_1 _) (sizeT D nm) ⟨xs,dd,?_⟩));show wpAny _ _ _ _ _ { s with toks:=s.toks + 1 };refine x0b (x1d (x0h (x0b (wpAny_letGo ?_))));show wpAny _ _ (if(xs.length:Int) < 0 then _ else _) _ _ _;rw [if_neg (Int.not_lt.mpr (Int.natCast_nonneg _))];show wpAny _ _ (if(xs.length:Int)>=2 ^ 63 then _ else _) _ _ _;rw [if_neg (Int.not_le.mpr big)];exact x0b (wpAny_mkInt (x0h ⟨_,rfl,h _ _ rfl⟩))
end
section
variable {X:Cx}
theorem a7w:a1F X (.builtin "len") (fun xs H Q=>∃a kvs,xs=[.ref a]/\H a=some (.dT kvs)/\Q (.int kvs.length) H):=by
 intro pins s σ H xs us Q I r h;obtain⟨a,kvs,rfl,e,q⟩:=h;obtain⟨u,rfl,rx⟩:=a5r r;cases rx;obtain⟨z,nm,xs,rel,dd⟩:=dt_of I.hok e;have hl:kvs.length=xs.length:=x3o rel;refine lenT nm dd (by omega) fun t s' es=>?_;subst es;exact⟨.int kvs.length,H,I.tok _,⟨t,by rw [hl]⟩,q⟩
end
end L2
namespace Pu
open PySem PySem.Spec L2
section
variable {T:PotK}{np:Bool}{ι:Type}{K:x0a}{F:ι->Cx}{e:Expr}{pe:pE}{st:Stmt}{pos:Pos}
def a2X:List PV->Option (List (List Key×PV))
 | []=>some []
 | .tup [.tup ys,x]::r=>(match a1a ys,a2X r with | some k,some qs=>some ((k,x)::qs) | _,_=>none)
 | _=>none
def putD {α:Type}(d:List (List Key)×List α)(q:List Key×α):List (List Key)×List α:=(a0U d.1 q.1,a2P d.1 d.2 q.1 q.2)
def dtF {α:Type}(qs:List (List Key×α)):List (List Key)×List α:=qs.foldl putD ([],[])
theorem a2W {G:Gh}{H:Hp}:∀{xs:List PV} {vs:List V} {qs:List (List Key×PV)},Reps K G H xs vs->a2X xs=some qs->∃us:List V,us.length=qs.length/\Prs H vs ((qs.map (·.1)).zip us)/\Reps K G H (qs.map (·.2)) us
 | [], vs, qs, r, h => by
   cases h;have:vs=[]:=x1t r.length.symm;subst this;exact⟨[],rfl,trivial,rfl⟩
 | x :: xs, vs, qs, r, h => by
   unfold a2X at h
   split at h
   · rename_i heq;cases heq
   · rename_i ys y r' heq;cases heq
     split at h
     · rename_i k qs' e1 e2;cases h;obtain⟨v,rs,rfl,r1,r2⟩:=r;obtain⟨us,l1,l2,l3⟩:=a2W r2 e2;obtain⟨p,ws,rfl,⟨_,hp⟩,rw'⟩:=r1;obtain⟨b,ws1,rfl,rb,rw1⟩:=rw';obtain⟨u,ws2,rfl,ru,rn⟩:=rw1;have:ws2=[]:=rn;subst this;obtain⟨b',wk,rfl,⟨_,hb⟩,rk⟩:=rb;rw [a2i e1] at rk;refine⟨u::us,by simp [l1],⟨⟨p,b',rfl,hp,?_⟩,l2⟩,u,us,rfl,ru,l3⟩;show H b'=some (.tup (k.map kV));rw [<- a1V k rk];exact hb
     · cases h
   · cases h
theorem a9d {G:Gh}{H:Hp}:∀{qs:List (List Key×PV)} {us:List V} {ks:List (List Key)} {xs:List PV} {vs:List V},us.length=qs.length->Reps K G H (qs.map (·.2)) us->ks.length=xs.length->Reps K G H xs vs->
   ∃ws,(qs.foldl putD (ks,xs)).1.length=(qs.foldl putD (ks,xs)).2.length/\Reps K G H (qs.foldl putD (ks,xs)).2 ws/\((qs.map (·.1)).zip us).foldl (fun d q=>putK d q.1 q.2) (ks.zip vs)=(qs.foldl putD (ks,xs)).1.zip ws
 | [], us, ks, xs, vs, l, r, hl, rx => by
   have:us=[]:=x1t l;subst this;exact⟨vs,hl,rx,rfl⟩
 | q :: qs, us, ks, xs, vs, l, r, hl, rx => by
   obtain⟨u,us',rfl,ru,rr⟩:=r;have l':us'.length=qs.length:=by simpa using l
   have hv:ks.length=vs.length:=hl.trans rx.length;obtain⟨ws,w1,w2,w3⟩:=a9d (ks:=a0U ks q.1) (xs:=a2P ks xs q.1 q.2) (vs:=a2P ks vs q.1 u) l' rr (a6I hl q.1 q.2) (a7N rx hl q.1 ru);refine⟨ws,w1,w2,?_⟩;show((qs.map (·.1)).zip us').foldl _ (putK (ks.zip vs) q.1 u)=_;rw [a9U hv];exact w3
def a6D (i:Nat)(pe:pE):pS:=fun D env n=>pe env n fun x env1 n1=>match x with
 | .lst xs => (match a2X xs with
   | some qs=>xs.length<=1000/\D.nx (env1.set i (some (.ow (.dt (dtF qs).1) (dtF qs).2))) n1
   | none=>False)
 | _=>False
theorem a7Q (i:Nat){p1 pos1:Pos}(hc:∀z,(F z).calm=true)(hu:∀z,(F z).A.units + 2 < cLine)(g1:∀z,Gl (F z) "dict")(m1:∀z,(F z).mg "dict"=none)
   (h:∀z te,EW (F z) (.Call (.Name "dict" p1) [e] [] pos1) te->SW (F z) st (tAsg te (a1S i))) (ha:QE T K F e pe) (hs:a0r e=true:=by rfl):QS T np K F st (a6D i pe):=by
 obtain⟨t,h1,h2⟩:=ha;refine⟨_,fun z=>(h z _ ⟨a8d (hc z) (hu z) (g1 z) (m1 z) (a0m (h1 z) a0C (a0c hs)) (a0c hs)⟩).h,fun C G σ H env n PD D hK hT hn S hp L=>?_⟩;refine h2 C G σ H env n _ _ hK hT S hp fun x env1 n1 v H1 q1 S1 r1 f1=>?_
 split at q1
 · rename_i xs
   split at q1
   · rename_i qs eq;obtain⟨hl,q⟩:=q1;obtain⟨a,vs,rfl,⟨_,ea⟩,ra⟩:=r1;obtain⟨us,l1,l2,l3⟩:=a2W ra eq;obtain⟨ws,w1,w2,w3⟩:=a9d (ks:=[]) (xs:=[]) (vs:=[]) l1 l3 rfl rfl;refine⟨a,vs,_,rfl,ea,l2,by rw [<- ra.length];exact hl,fun D hD=>?_⟩;have ef:a7m ((qs.map (·.1)).zip us)=(dtF qs).1.zip ws:=w3;rw [ef];exact L.nx _ _ _ _ _ q (S1.ow i (.dt (dtF qs).1) hD (hK▸w2)) ((Ext.fr f1).trans (a1I hD))
   · exact q1.elim
 · exact q1.elim
def a6F (i:Nat):pE:=fun env n R=>match env[i]? with
 | some (some (.ow (.dt ks) xs))=>ks.length=xs.length/\R (.int ks.length) env n
 | _=>False
theorem a6z (i:Nat){x:Str}{p p':Pos}(hg:∀z,Gl (F z) "len")(hm:∀z,(F z).mg "len"=none)(hv:∀z,EW (F z) (.Name x p') (tVar i)):QE T K F (.Call (.Name "len" p) [.Name x p'] [] pos) (a6F i):=by
 refine⟨_,fun z=>a1e a7w (hg z) (hm z) a7y (a0m (hv z).h a0C (a0c rfl)) (by decide) (by decide) (a0c rfl),fun C G σ H env n R Q hK hT S hp k=>?_⟩;unfold a6F at hp
 split at hp
 · rename_i ks xs ex;obtain⟨hl,q⟩:=hp;obtain⟨a,us,ev,g1,g2,g3,g4,r⟩:=S.slots i _ ex;have hlu:ks.length=us.length:=hl.trans r.length;refine⟨.ref a,ev,a,ks.zip us,rfl,g4,?_⟩;rw [List.length_zip,<- hlu,Nat.min_self];exact k _ _ _ _ _ q S rfl Fr.refl
 · exact hp.elim
end
end Pu
end
section
namespace Pu
open PySem PySem.Spec L2
section
variable {T:PotK}{np:Bool}{ι:Type}{K:x0a}{F:ι->Cx}{a b c:Expr}{st:Stmt}{sl:pSlN}
theorem a7P (i j k:Nat)(h:∀z ta,AW (F z) [a,b,c] ta->SW (F z) st (a9p i j k ta))(h1:QLs T K F [a,b,c] sl):QS T np K F st (a9O [i,j,k] sl):=by
 obtain⟨t,a1,a2⟩:=h1;refine⟨_,fun z=>(h z _ ⟨a1 z⟩).h,fun C G σ H env n PD D hK hT hn S hp L=>?_⟩;refine a2 C G σ H env n _ _ hK hT S hp fun ss env2 n2 vs G2 H2 q S2 x2 g=>?_;have lv:vs.length=3:=g.len.symm.trans q.1
 match vs,lv,g with
 | [u,v,w],_,g=>exact⟨u,v,w,rfl,L.nx _ _ _ _ _ q.2 (SR.setAll [i,j,k] ss [u,v,w] S2 g) x2⟩
end
end Pu
end
section
namespace Tb
open PySem L2 Pu
abbrev a0Z:pF:=a5S
def a3q:pS:=(qSeq (qSet 4 (qUn wLen (qV 2)))
   (qSeq (qOwn 5 (a3M [none,none,some 2,some 4] (qIt (qV 0)) (gN 0) (qIl (qOp wIx (qV 2) (qOp wSub (qV 3) (qC (.int 1))))) (gN 1) qTru (qOp wAdd (qTup (a0f (qV 0) qNil)) (qV 1))))
   (qSeq (qFor (a3L (qOp wAdd (qOp wMin (qV 3) (qOp wSub (qV 4) (qC (.int 2)))) (qC (.int 1)))) (gN 6) (a9R 5 (qL (a3M [none,none,some 2,some 6,some 4] (qIl (qOp wIx (qV 1) (qV 6))) (gN 0) (qIl (qOp wIx (qV 2) (qOp wSub (qOp wSub (qV 4) (qC (.int 2))) (qV 3)))) (gN 1) qTru (qOp wAdd (qOp wAdd (qOp wAdd (qTup (a0f (qC (.str (x0H "t"))) qNil)) (qV 0)) (qTup (a0f (qC (.str (x0H "u"))) qNil))) (qV 1))))))
   (a6C 5))))
def a2b:pF:=fnP ["singles","closed","shorter","reach","many","words","inner"] ["singles","closed","shorter","reach"] a3q
def a1Q:pS:=(qSeq (qOwn 2 (qLst (a0f (qL (qLst (a0f (qTup qNil) qNil))) qNil)))
   (qSeq (qOwn 3 (qLst (a0f (qL (qLst (a0f (qTup qNil) qNil))) qNil)))
   (qSeq (qFor (a3L (qV 0)) (gN 4) (qSeq (a2x (a0R 2 (a4V (a1g a2b (a0f (qTup (a0f (qC (.str (x0H "d"))) qNil)) (a0f (qV 2) (a0f (qV 2) (a0f (qV 1) qNil))))))))
   (a2x (a0R 3 (a4V (a1g a2b (a0f (qTup (a0f (qC (.str (x0H "d"))) (a0f (qC (.str (x0H "o"))) qNil))) (a0f (qV 2) (a0f (qV 3) (a0f (qV 1) qNil))))))))))
   (qRet (qUn a3D (qL (a3m (qOpR wIx (qO 3) (qV 0)))))))))
def a0Y:pF:=fnP ["many","reach","closed","words","length"] ["many","reach"] a1Q
def a1h:pS:=(qSeq (qSet 4 (qUn wLen (qV 2)))
   (qSeq (qSet 5 (qOp wMul (qV 0) (qOp wIx (qV 2) (qOp wSub (qV 4) (qC (.int 1))))))
   (qSeq (qFor (a3L (qOp wAdd (qOp wMin (qV 3) (qOp wSub (qV 4) (qC (.int 2)))) (qC (.int 1)))) (gN 6) (qAug 5 a9j (qOp wMul (qOp wIx (qV 1) (qV 6)) (qOp wIx (qV 2) (qOp wSub (qOp wSub (qV 4) (qC (.int 2))) (qV 6))))))
   (qRet (qV 5)))))
def a0x:pF:=fnP ["singles","closed","shorter","reach","many","count","inner"] ["singles","closed","shorter","reach"] a1h
def a0W:pS:=(qSeq (qOwn 2 (qLst (a0f (qC (.int 1)) qNil)))
   (qSeq (qFor (a3L (qV 0)) (gN 3) (a2x (a0R 2 (a7W (a1g a0x (a0f (qC (.int 1)) (a0f (qV 2) (a0f (qV 2) (a0f (qV 1) qNil)))))))))
   (a6C 2)))
def a0t:pF:=fnP ["many","reach","closed","length"] ["many","reach"] a0W
def a2g:pS:=(qSeq (qSet 2 (a1g a0t (a0f (qV 0) (a0f (qV 1) qNil))))
   (qSeq (qOwn 3 (qLst (a0f (qC (.int 1)) qNil)))
   (qSeq (qFor (a3L (qV 0)) (gN 4) (a2x (a0R 3 (a7W (a1g a0x (a0f (qC (.int 2)) (a0f (qV 2) (a0f (qV 3) (a0f (qV 1) qNil)))))))))
   (qRet (qOpR wIx (qO 3) (qV 0))))))
def a1l:pF:=fnP ["many","reach","closed","counts","length"] ["many","reach"] a2g
def a1P:pS:=(qRet (qOp wIx (a1g a0t (a0f (qV 0) (a0f (qV 1) qNil))) (qV 0)))
def a0X:pF:=fnP ["many","reach"] ["many","reach"] a1P
def a1q:pS:=(qSeq (a9O [2,3,4] (a3H (sO (qLst (a0f (qC (.int 1)) qNil))) (a3H (sO (qLst (a0f (qC (.int 1)) qNil))) (a3H (sO (qLst (a0f (qC (.int 1)) qNil))) a9w))))
   (qSeq (qFor (a7V (qC (.int 1)) (qOp wAdd (qV 0) (qC (.int 1)))) (gN 5) (qSeq (qSet 6 (qL (qLst (a0f (qC (.int 0)) (a0f (qC (.int 0)) (a0f (qC (.int 0)) qNil))))))
   (qSeq (qFor (a7V (qOp wMax (qC (.int 0)) (qOp wSub (qOp wSub (qV 5) (qC (.int 2))) (qV 1))) (qOp wSub (qV 5) (qC (.int 1)))) (gN 7) (qSeq (qSet 8 (qOp wSub (qOp wSub (qV 5) (qC (.int 2))) (qV 7)))
   (qSet 6 (qL (qLst (a0f (qOp wAdd (qOp wIx (qV 6) (qC (.int 0))) (qOp wMul (qOpR wIx (qO 2) (qV 7)) (qOpR wIx (qO 2) (qV 8)))) (a0f (qOp wAdd (qOp wIx (qV 6) (qC (.int 1))) (qOp wMul (qOpR wIx (qO 3) (qV 7)) (qOpR wIx (qO 3) (qV 8)))) (a0f (qOp wAdd (qOp wIx (qV 6) (qC (.int 2))) (qOp wMul (qOpR wIx (qO 4) (qV 7)) (qOpR wIx (qO 3) (qV 8)))) qNil))))))))
   (qSeq (a2x (a0R 2 (qOp wAdd (qOpR wIx (qO 2) (qOp wSub (qV 5) (qC (.int 1)))) (qOp wIx (qV 6) (qC (.int 0))))))
   (qSeq (a2x (a0R 3 (qOp wAdd (qOpR wIx (qO 3) (qOp wSub (qV 5) (qC (.int 1)))) (qOp wIx (qV 6) (qC (.int 1))))))
   (a2x (a0R 4 (qOp wAdd (qOp wMul (qC (.int 2)) (qOpR wIx (qO 4) (qOp wSub (qV 5) (qC (.int 1))))) (qOp wIx (qV 6) (qC (.int 2)))))))))))
   (qRet (qTup (a0f (qOpR wIx (qO 4) (qV 0)) (a0f (qOpR wIx (qO 2) (qV 0)) qNil))))))
def a0S:pF:=fnP ["_law_many","_law_reach","_law_rows","_law_plain","_law_words","_law_k","_law_ways","_law_first","_law_between"] ["_law_many","_law_reach"] a1q
def a1C:pS:=(qRet (a9S (qUn (wIsi "int") (qV 0)) (a9P (qUn (wIsi "bool") (qV 0)))))
def a0M:pF:=fnP ["_law_found"] ["_law_found"] a1C
def a1r:pS:=(qSeq (qPar 1 2 (sO (a6E (qUn wLen (qV 0)))) (sO (qLst qNil)))
   (qSeq (qFor (a6G (qV 0)) (gTp 2 (gCn (gN 3) (gCn (gN 4) gNl))) (qSeq (qIfS (qB (qOp (wEq 4) (qV 4) (qC (.str (x0H "t"))))) (a2x (a0R 2 (qV 3))) qNx)
   (qIfS (qB (qOp (wEq 4) (qV 4) (qC (.str (x0H "u"))))) (qSeq (qSet 5 (qPop 2))
   (a9M 1 (qV 3) (qV 5) (qV 5) (qV 3))) qNx)))
   (qRet (qUn a3D (qO 1)))))
def a0T:pF:=fnP ["_law_marks","_law_row","_law_opened","_law_place","_law_mark","_law_at"] ["_law_marks"] a1r
def a8e:pS:=(qSeq (qOwn 1 (qLst qNil))
   (qSeq (qFor (a3L (qOp wAdd (qC (.int 1)) (qUn wLen (qSl (qV 0) qNo (a9N (qC (.int 5))))))) (gN 2) (qSeq (a3n 3 (qV 0) (qV 2))
   (qSeq (qPar 4 5 (sV (qOp wAdd (qC (.int 1)) (a1g a0Z (a0f (qV 3) (a0f (qC (.int 24)) qNil))))) (sV (a1g a0Z (a0f (qV 3) (a0f (qC (.int 8)) qNil)))))
   (qSeq (qPar 6 7 (sV (qOp wAdd (qC (.int 1)) (a1g a0Z (a0f (qV 3) (a0f (qC (.int 7)) qNil))))) (sV (a1g a0Z (a0f (qV 3) (a0f (qC (.int 8)) qNil)))))
   (qSeq (a2x (a4s 1 (qL (qLst (a0f (qTup (a0f (qV 4) (a0f (qV 5) qNil))) (a0f (qTup (a0f (qV 6) (a0f (qV 7) qNil))) qNil))))))
   (qSeq (qSet 8 (a1g a0Y (a0f (qV 6) (a0f (qV 7) qNil))))
   (qSeq (a6D 9 (qL (a9Q [none] (qIt (qV 8)) (gN 0) qTru (qTup (a0f (a1g a0T (a0f (qV 0) qNil)) (a0f (qC (.bl true)) qNil))))))
   (qSeq (qIfS (qOr (qB (qOp (wNe 4) (a1g a1l (a0f (qV 6) (a0f (qV 7) qNil))) (qUn wLen (qV 8)))) (qB (qOp (wNe 4) (a1g a0X (a0f (qV 6) (a0f (qV 7) qNil))) (a6F 9)))) (qRet (qC (.bl false))) qNx)
   (qSeq (qSet 10 (qOp wSub (qV 6) (qC (.int 1))))
   (qIfS (qAnd (qB (qOp wGe (qV 7) (qOp wSub (qV 6) (qC (.int 2))))) (qB (qOp (wNe 4) (qTup (a0f (qUn wLen (qV 8)) (a0f (a6F 9) qNil))) (qTup (a0f (qOp wIx (qL (qLst (a0f (qC (.int 2)) (a0f (qC (.int 5)) (a0f (qC (.int 13)) (a0f (qC (.int 35)) (a0f (qC (.int 96)) (a0f (qC (.int 267)) (a0f (qC (.int 750)) qNil))))))))) (qV 10)) (a0f (qOp wIx (qL (qLst (a0f (qC (.int 1)) (a0f (qC (.int 2)) (a0f (qC (.int 4)) (a0f (qC (.int 9)) (a0f (qC (.int 21)) (a0f (qC (.int 51)) (a0f (qC (.int 127)) qNil))))))))) (qV 10)) qNil)))))) (qRet (qC (.bl false))) qNx))))))))))
   (qSeq (a4r 1 (qFor (qIl (qV 1)) (gTp 2 (gCn (gN 4) (gCn (gN 5) gNl))) (qSeq (qSet 11 (qTup (a0f (a1g a1l (a0f (qV 4) (a0f (qV 5) qNil))) (a0f (a1g a0X (a0f (qV 4) (a0f (qV 5) qNil))) qNil))))
   (qIfS (qOr (qB (qOp (wNe 4) (qV 11) (a1g a0S (a0f (qV 4) (a0f (qV 5) qNil))))) (qOr (qNot (qB (a1g a0M (a0f (qOp wIx (qV 11) (qC (.int 0))) qNil)))) (qNot (qB (a1g a0M (a0f (qOp wIx (qV 11) (qC (.int 1))) qNil)))))) (qRet (qC (.bl false))) qNx))))
   (qRet (qC (.bl true))))))
end Tb
end
section
namespace Tb
open PySem L2 Pu
def top (i:Nat):Stmt:=PySem.Challenge.pw_touchboats_k16_words_and_rows_counted.main.body.getD i (.Pass ⟨0,0,0,0⟩)
section
variable {P:x0x}{w:World}{K:x0a}{mg:Str->Option Value}{base:Heap}{Pt cd:Addr}
theorem a8l (F0:Fn0 K mg "longer" (top 1))(m_len:mg "len"=none)(m_min:mg "min"=none)(m_range:mg "range"=none):Kn P w K mg base "longer" 1 ["singles","closed","shorter","reach"] (a0w K potL a2b):=by
 have sc:a0y ["singles","closed","shorter","reach","many","words","inner"] ["singles","closed","shorter","reach"] (a0i (top 1)):=⟨rfl,rfl,rfl,by decide +kernel,rfl,by decide +kernel,by decide +kernel⟩
 exact a3z F0 sc (fun _ _ _ _ _ _=>bd4 fun _ _ _ _=>rfl) (k:=0) (body:=a3q) (fun f cdv A outer s H E hr=>(a0g (a1z 4 (fun _=>a0F (i:=4) sc.nd rfl (Or.inr rfl)) (a2V (fun _=>rfl) (fun _=>m_len) (QE.r (a0b 2 fun _=>vw 2))))
   (a0g (a9G 5 (a7U (N:=["mark","word","shorter","many"]) (cs:=[none,none,some 2,some 4]) (fun _=>a2N rfl rfl rfl rfl ⟨rfl,⟨rfl,trivial⟩⟩ rfl rfl rfl) (fun _=>rfl) (a8J (a0b 0 fun _=>vw 0)) (a0z fun _=>a0A 0 (show List.Nodup (["mark","word","shorter","many"]:List Str) by decide +kernel) rfl (Or.inl rfl)) (a3l (a1B (a0b 2 fun _=>vw 2) (a0G (a0b 3 fun _=>vw 3) a0h))) (a0z fun _=>a0A 1 (show List.Nodup (["mark","word","shorter","many"]:List Str) by decide +kernel) rfl (Or.inl rfl)) a4q (a0Q (a1d (a0a (a0b 0 fun _=>vw 0) a0k)) (a0b 1 fun _=>vw 1))) (fun _=>sc.nd) (fun _=>rfl) (fun _=>Or.inl rfl))
   (a0g (a1J (fun _=>rfl) (a1j (fun _=>rfl) (fun _=>m_range) (a0Q (a8L (fun _=>rfl) (fun _=>rfl) (fun _=>m_min) (a0b 3 fun _=>vw 3) (a0G (a0b 4 fun _=>vw 4) a0h)) a0h)) (a0z fun _=>a0A 6 sc.nd rfl (Or.inr rfl)) (a0p (a9H 5 (fun _=>a8B (i:=5) sc.nd rfl (Or.inl rfl) a3X) (QN.ee (a7S (N:=["within","word","shorter","inner","many"]) (cs:=[none,none,some 2,some 6,some 4]) (fun _=>a2N rfl rfl rfl rfl ⟨rfl,⟨rfl,⟨rfl,trivial⟩⟩⟩ rfl rfl rfl) (fun _=>rfl) (a3l (a1B (a0b 1 fun _=>vw 1) (a0b 6 fun _=>vw 6))) (a0z fun _=>a0A 0 (show List.Nodup (["within","word","shorter","inner","many"]:List Str) by decide +kernel) rfl (Or.inl rfl)) (a3l (a1B (a0b 2 fun _=>vw 2) (a0G (a0G (a0b 4 fun _=>vw 4) a0h) (a0b 3 fun _=>vw 3)))) (a0z fun _=>a0A 1 (show List.Nodup (["within","word","shorter","inner","many"]:List Str) by decide +kernel) rfl (Or.inl rfl)) a4q (a0Q (a0Q (a0Q (a1d (a0a a2w a0k)) (a0b 0 fun _=>vw 0)) (a1d (a0a a2w a0k))) (a0b 1 fun _=>vw 1)))))))
   (a0p (a6t 5 fun _=>vw 5))))))
theorem a4B (F0:Fn0 K mg "all_words" (top 2))(g_longer:Kn P w K mg base "longer" 1 ["singles","closed","shorter","reach"] (a0w K potL a2b))(m_range:mg "range"=none)(m_sorted:mg "sorted"=none)(m_tuple:mg "tuple"=none):Kn P w K mg base "all_words" 2 ["many","reach"] (a0w K potL a0Y):=by
 have sc:a0y ["many","reach","closed","words","length"] ["many","reach"] (a0i (top 2)):=⟨rfl,rfl,rfl,by decide +kernel,rfl,by decide +kernel,by decide +kernel⟩
 exact a3z F0 sc (fun _ _ _ _ _ _=>bd2 fun _ _=>rfl) (k:=1) (body:=a1Q) (fun f cdv A outer s H E hr=>(a0g (a3J 2 (fun _=>a0F (i:=2) sc.nd rfl (Or.inl rfl)) (a0P (a0a (QN.ee (a0P (a0a (a1d a0k) a0k))) a0k)))
   (a0g (a3J 3 (fun _=>a0F (i:=3) sc.nd rfl (Or.inl rfl)) (a0P (a0a (QN.ee (a0P (a0a (a1d a0k) a0k))) a0k)))
   (a0g (a1J (fun _=>rfl) (a1j (fun _=>rfl) (fun _=>m_range) (a0b 0 fun _=>vw 0)) (a0z fun _=>a0A 4 sc.nd rfl (Or.inl rfl)) (a0g (a1o (fun _=>a1m) (a0L 2 (fun _=>vw 2) (a4U a1W (a1p (fun _=>g_longer) (fun _=>hr) (by decide) (fun _=>rfl) (a0a (a1d (a0a a2w a0k)) (a0a (a0b 2 fun _=>vw 2) (a0a (a0b 2 fun _=>vw 2) (a0a (a0b 1 fun _=>vw 1) a0k))))))))
   (a0p (a1o (fun _=>a1m) (a0L 3 (fun _=>vw 3) (a4U a1W (a1p (fun _=>g_longer) (fun _=>hr) (by decide) (fun _=>rfl) (a0a (a1d (a0a a2w (a0a a2w a0k))) (a0a (a0b 2 fun _=>vw 2) (a0a (a0b 3 fun _=>vw 3) (a0a (a0b 1 fun _=>vw 1) a0k)))))))))))
   (a0p (a1A (a4T (fun _=>rfl) (fun _=>m_tuple) (QE.r (QN.ee (a5y (fun _=>rfl) (fun _=>m_sorted) (QE.r (a1k (a1c 3 fun _=>vw 3) (a0b 0 fun _=>vw 0)))))))))))))
theorem a2R (F0:Fn0 K mg "longer_count" (top 3))(m_len:mg "len"=none)(m_min:mg "min"=none)(m_range:mg "range"=none):Kn P w K mg base "longer_count" 1 ["singles","closed","shorter","reach"] (a0w K potL a0x):=by
 have sc:a0y ["singles","closed","shorter","reach","many","count","inner"] ["singles","closed","shorter","reach"] (a0i (top 3)):=⟨rfl,rfl,rfl,by decide +kernel,rfl,by decide +kernel,by decide +kernel⟩
 exact a3z F0 sc (fun _ _ _ _ _ _=>bd4 fun _ _ _ _=>rfl) (k:=0) (body:=a1h) (fun f cdv A outer s H E hr=>(a0g (a1z 4 (fun _=>a0F (i:=4) sc.nd rfl (Or.inl rfl)) (a2V (fun _=>rfl) (fun _=>m_len) (QE.r (a0b 2 fun _=>vw 2))))
   (a0g (a1z 5 (fun _=>a0F (i:=5) sc.nd rfl (Or.inl rfl)) (a2U (a0b 0 fun _=>vw 0) (a1B (a0b 2 fun _=>vw 2) (a0G (a0b 4 fun _=>vw 4) a0h))))
   (a0g (a1J (fun _=>rfl) (a1j (fun _=>rfl) (fun _=>m_range) (a0Q (a8L (fun _=>rfl) (fun _=>rfl) (fun _=>m_min) (a0b 3 fun _=>vw 3) (a0G (a0b 4 fun _=>vw 4) a0h)) a0h)) (a0z fun _=>a0A 6 sc.nd rfl (Or.inl rfl)) (a0p (a9I 5 (fun _=>a8B (i:=5) sc.nd rfl (Or.inl rfl) b0x) (a2U (a1B (a0b 1 fun _=>vw 1) (a0b 6 fun _=>vw 6)) (a1B (a0b 2 fun _=>vw 2) (a0G (a0G (a0b 4 fun _=>vw 4) a0h) (a0b 6 fun _=>vw 6)))))))
   (a0p (a1A (a0b 5 fun _=>vw 5)))))))
theorem a2H (F0:Fn0 K mg "closed_counts" (top 4))(g_longer_count:Kn P w K mg base "longer_count" 1 ["singles","closed","shorter","reach"] (a0w K potL a0x))(m_range:mg "range"=none):Kn P w K mg base "closed_counts" 2 ["many","reach"] (a0w K potL a0t):=by
 have sc:a0y ["many","reach","closed","length"] ["many","reach"] (a0i (top 4)):=⟨rfl,rfl,rfl,by decide +kernel,rfl,by decide +kernel,by decide +kernel⟩
 exact a3z F0 sc (fun _ _ _ _ _ _=>bd2 fun _ _=>rfl) (k:=1) (body:=a0W) (fun f cdv A outer s H E hr=>(a0g (a3J 2 (fun _=>a0F (i:=2) sc.nd rfl (Or.inl rfl)) (a0P (a0a a0h a0k)))
   (a0g (a1J (fun _=>rfl) (a1j (fun _=>rfl) (fun _=>m_range) (a0b 0 fun _=>vw 0)) (a0z fun _=>a0A 3 sc.nd rfl (Or.inl rfl)) (a0p (a1o (fun _=>a1m) (a0L 2 (fun _=>vw 2) (a6y a1W (a1p (fun _=>g_longer_count) (fun _=>hr) (by decide) (fun _=>rfl) (a0a a0h (a0a (a0b 2 fun _=>vw 2) (a0a (a0b 2 fun _=>vw 2) (a0a (a0b 1 fun _=>vw 1) a0k))))))))))
   (a0p (a6t 2 fun _=>vw 2)))))
theorem a5H (F0:Fn0 K mg "how_many" (top 5))(g_closed_counts:Kn P w K mg base "closed_counts" 2 ["many","reach"] (a0w K potL a0t))(g_longer_count:Kn P w K mg base "longer_count" 1 ["singles","closed","shorter","reach"] (a0w K potL a0x))(m_range:mg "range"=none):Kn P w K mg base "how_many" 3 ["many","reach"] (a0w K potL a1l):=by
 have sc:a0y ["many","reach","closed","counts","length"] ["many","reach"] (a0i (top 5)):=⟨rfl,rfl,rfl,by decide +kernel,rfl,by decide +kernel,by decide +kernel⟩
 exact a3z F0 sc (fun _ _ _ _ _ _=>bd2 fun _ _=>rfl) (k:=2) (body:=a2g) (fun f cdv A outer s H E hr=>(a0g (a1z 2 (fun _=>a0F (i:=2) sc.nd rfl (Or.inl rfl)) (a1p (fun _=>g_closed_counts) (fun _=>hr) (by decide) (fun _=>rfl) (a0a (a0b 0 fun _=>vw 0) (a0a (a0b 1 fun _=>vw 1) a0k))))
   (a0g (a3J 3 (fun _=>a0F (i:=3) sc.nd rfl (Or.inl rfl)) (a0P (a0a a0h a0k)))
   (a0g (a1J (fun _=>rfl) (a1j (fun _=>rfl) (fun _=>m_range) (a0b 0 fun _=>vw 0)) (a0z fun _=>a0A 4 sc.nd rfl (Or.inl rfl)) (a0p (a1o (fun _=>a1m) (a0L 3 (fun _=>vw 3) (a6y a1W (a1p (fun _=>g_longer_count) (fun _=>hr) (by decide) (fun _=>rfl) (a0a a0h (a0a (a0b 2 fun _=>vw 2) (a0a (a0b 3 fun _=>vw 3) (a0a (a0b 1 fun _=>vw 1) a0k))))))))))
   (a0p (a1A (a1k (a1c 3 fun _=>vw 3) (a0b 0 fun _=>vw 0))))))))
theorem a4A (F0:Fn0 K mg "rows_from" (top 6))(g_closed_counts:Kn P w K mg base "closed_counts" 2 ["many","reach"] (a0w K potL a0t)):Kn P w K mg base "rows_from" 3 ["many","reach"] (a0w K potL a0X):=by
 have sc:a0y ["many","reach"] ["many","reach"] (a0i (top 6)):=⟨rfl,rfl,rfl,by decide +kernel,rfl,by decide +kernel,by decide +kernel⟩;exact a3z F0 sc (fun _ _ _ _ _ _=>bd2 fun _ _=>rfl) (k:=2) (body:=a1P) (fun f cdv A outer s H E hr=>(a0p (a1A (a1B (a1p (fun _=>g_closed_counts) (fun _=>hr) (by decide) (fun _=>rfl) (a0a (a0b 0 fun _=>vw 0) (a0a (a0b 1 fun _=>vw 1) a0k))) (a0b 0 fun _=>vw 0)))))
theorem a3v (F0:Fn0 K mg "_law_tables" (top 10))(m_max:mg "max"=none)(m_range:mg "range"=none):Kn P w K mg base "_law_tables" 1 ["_law_many","_law_reach"] (a0w K potL a0S):=by
 have sc:a0y ["_law_many","_law_reach","_law_rows","_law_plain","_law_words","_law_k","_law_ways","_law_first","_law_between"] ["_law_many","_law_reach"] (a0i (top 10)):=⟨rfl,rfl,rfl,by decide +kernel,rfl,by decide +kernel,by decide +kernel⟩
 exact a3z F0 sc (fun _ _ _ _ _ _=>bd2 fun _ _=>rfl) (k:=0) (body:=a1q) (fun f cdv A outer s H E hr=>(a0g (a7P 2 3 4 (fun _=>a9t (i:=2) (j:=3) (k:=4) rfl sc.nd rfl rfl rfl (by decide) (by decide) (by decide) rfl rfl rfl rfl) (a3k (ql_o (a0P (a0a a0h a0k))) (a3k (ql_o (a0P (a0a a0h a0k))) (a3k (ql_o (a0P (a0a a0h a0k))) a9L))))
   (a0g (a1J (fun _=>rfl) (a3K (fun _=>rfl) (fun _=>m_range) a0h (a0Q (a0b 0 fun _=>vw 0) a0h)) (a0z fun _=>a0A 5 sc.nd rfl (Or.inl rfl)) (a0g (a1z 6 (fun _=>a0F (i:=6) sc.nd rfl (Or.inl rfl)) (QN.ee (a0P (a0a a0h (a0a a0h (a0a a0h a0k))))))
   (a0g (a1J (fun _=>rfl) (a3K (fun _=>rfl) (fun _=>m_range) (qe_max (fun _=>rfl) (fun _=>rfl) (fun _=>m_max) a0h (a0G (a0G (a0b 5 fun _=>vw 5) a0h) (a0b 1 fun _=>vw 1))) (a0G (a0b 5 fun _=>vw 5) a0h)) (a0z fun _=>a0A 7 sc.nd rfl (Or.inl rfl)) (a0g (a1z 8 (fun _=>a0F (i:=8) sc.nd rfl (Or.inl rfl)) (a0G (a0G (a0b 5 fun _=>vw 5) a0h) (a0b 7 fun _=>vw 7)))
   (a0p (a1z 6 (fun _=>a0F (i:=6) sc.nd rfl (Or.inl rfl)) (QN.ee (a0P (a0a (a0Q (a1B (a0b 6 fun _=>vw 6) a0h) (a2U (a1k (a1c 2 fun _=>vw 2) (a0b 7 fun _=>vw 7)) (a1k (a1c 2 fun _=>vw 2) (a0b 8 fun _=>vw 8)))) (a0a (a0Q (a1B (a0b 6 fun _=>vw 6) a0h) (a2U (a1k (a1c 3 fun _=>vw 3) (a0b 7 fun _=>vw 7)) (a1k (a1c 3 fun _=>vw 3) (a0b 8 fun _=>vw 8)))) (a0a (a0Q (a1B (a0b 6 fun _=>vw 6) a0h) (a2U (a1k (a1c 4 fun _=>vw 4) (a0b 7 fun _=>vw 7)) (a1k (a1c 3 fun _=>vw 3) (a0b 8 fun _=>vw 8)))) a0k)))))))))
   (a0g (a1o (fun _=>a1m) (a0L 2 (fun _=>vw 2) (a0Q (a1k (a1c 2 fun _=>vw 2) (a0G (a0b 5 fun _=>vw 5) a0h)) (a1B (a0b 6 fun _=>vw 6) a0h))))
   (a0g (a1o (fun _=>a1m) (a0L 3 (fun _=>vw 3) (a0Q (a1k (a1c 3 fun _=>vw 3) (a0G (a0b 5 fun _=>vw 5) a0h)) (a1B (a0b 6 fun _=>vw 6) a0h))))
   (a0p (a1o (fun _=>a1m) (a0L 4 (fun _=>vw 4) (a0Q (a2U a0h (a1k (a1c 4 fun _=>vw 4) (a0G (a0b 5 fun _=>vw 5) a0h))) (a1B (a0b 6 fun _=>vw 6) a0h))))))))))
   (a0p (a1A (a1d (a0a (a1k (a1c 4 fun _=>vw 4) (a0b 0 fun _=>vw 0)) (a0a (a1k (a1c 2 fun _=>vw 2) (a0b 0 fun _=>vw 0)) a0k))))))))
theorem a3U (F0:Fn0 K mg "_law_whole" (top 12))(m_bool:mg "bool"=none)(m_int:mg "int"=none)(m_isinstance:mg "isinstance"=none):Kn P w K mg base "_law_whole" 1 ["_law_found"] (a0w K potL a0M):=by
 have sc:a0y ["_law_found"] ["_law_found"] (a0i (top 12)):=⟨rfl,rfl,rfl,by decide +kernel,rfl,by decide +kernel,by decide +kernel⟩;exact a3z F0 sc (fun _ _ _ _ _ _=>bd1 fun _=>rfl) (k:=0) (body:=a1C) (fun f cdv A outer s H E hr=>(a0p (a1A (qe_and (a8M (n:="int") (by decide) (fun _=>rfl) (fun _=>m_isinstance) (a0b 0 fun _=>vw 0) (fun _=>tyw rfl m_int bt_int)) (qe_one (qe_not (a8M (n:="bool") (by decide) (fun _=>rfl) (fun _=>m_isinstance) (a0b 0 fun _=>vw 0) (fun _=>tyw rfl m_bool b0N))))))))
theorem a3w (F0:Fn0 K mg "_law_row_of" (top 11))(m_enumerate:mg "enumerate"=none)(m_len:mg "len"=none)(m_list:mg "list"=none)(m_range:mg "range"=none)(m_tuple:mg "tuple"=none):Kn P w K mg base "_law_row_of" 1 ["_law_marks"] (a0w K potL a0T):=by
 have sc:a0y ["_law_marks","_law_row","_law_opened","_law_place","_law_mark","_law_at"] ["_law_marks"] (a0i (top 11)):=⟨rfl,rfl,rfl,by decide +kernel,rfl,by decide +kernel,by decide +kernel⟩
 exact a3z F0 sc (fun _ _ _ _ _ _=>bd1 fun _=>rfl) (k:=0) (body:=a1r) (fun f cdv A outer s H E hr=>(a0g (a6u 1 2 (fun _=>a6g (i:=1) (j:=2) rfl sc.nd rfl rfl (by decide) rfl rfl rfl) (ql_o (a7R (fun _=>rfl) (fun _=>rfl) (fun _=>m_list) (fun _=>rfl) (fun _=>m_range) (a2V (fun _=>rfl) (fun _=>m_len) (QE.r (a0b 0 fun _=>vw 0))))) (ql_o (a0P a0k)))
   (a0g (a1J (fun _=>rfl) (a7T (fun _=>rfl) (fun _=>m_enumerate) (a0b 0 fun _=>vw 0)) (a8K (fun _=>rfl) (a2q (a0z fun _=>a0A 3 sc.nd rfl (Or.inl rfl)) (a2q (a0z fun _=>a0A 4 sc.nd rfl (Or.inl rfl)) a6x))) (a0g (a6v (a2u (cEq 4 fun _=>hr) (a0b 4 fun _=>vw 4) (QE.r a2w) (a1K _)) (a0p (a1o (fun _=>a1m) (a0L 2 (fun _=>vw 2) (a0b 3 fun _=>vw 3)))) a2v)
   (a0p (a6v (a2u (cEq 4 fun _=>hr) (a0b 4 fun _=>vw 4) (QE.r a2w) (a1K _)) (a0g (a1z 5 (fun _=>a0F (i:=5) sc.nd rfl (Or.inl rfl)) (qe_pop 2 fun _=>vw 2))
   (a0p (a9F 1 (fun _=>sw_asg) (fun _ _ _ h1 h2=>b0z K rfl (gw_at (vw 1) (by intro _;rfl) _ h1) (gw_at (vw 1) (by intro _;rfl) _ h2)) (a0b 3 fun _=>vw 3) (a0b 5 fun _=>vw 5) (a0b 5 fun _=>vw 5) (a0b 3 fun _=>vw 3)))) a2v))))
   (a0p (a1A (a4T (fun _=>rfl) (fun _=>m_tuple) (a1c 1 fun _=>vw 1)))))))
theorem k_law (F0:Fn0 K mg "law" (top 13))(g__law_hand:Kn P w K mg base "_law_hand" 1 ["_law_script","_law_place"] (a3F K))(g__law_take:Kn P w K mg base "_law_take" 1 ["_law_hand_here","_law_many"] (a0w K potL a5S))(g_all_words:Kn P w K mg base "all_words" 2 ["many","reach"] (a0w K potL a0Y))(g__law_row_of:Kn P w K mg base "_law_row_of" 1 ["_law_marks"] (a0w K potL a0T))(g_rows_from:Kn P w K mg base "rows_from" 3 ["many","reach"] (a0w K potL a0X))(g_how_many:Kn P w K mg base "how_many" 3 ["many","reach"] (a0w K potL a1l))(g__law_whole:Kn P w K mg base "_law_whole" 1 ["_law_found"] (a0w K potL a0M))(g__law_tables:Kn P w K mg base "_law_tables" 1 ["_law_many","_law_reach"] (a0w K potL a0S))(m_dict:mg "dict"=none)(m_len:mg "len"=none)(m_range:mg "range"=none)(hlaw:∀ns:List Int,ns.length<=63->a8e ⟨fun _ _=>False,fun r _=>r=.bl true,fun _ _=>False,fun _ _=>False⟩ (a1U ["_law_script","_law_asked","_law_place","_law_hand_here","_law_many","_law_reach","_law_few","_law_near","_law_marks","_law_rows","_law_at","_law_found"] [.scr ns]) 0):Kn P w K mg base "law" 4 ["_law_script"] (a7H K):=by
 have sc:a0y ["_law_script","_law_asked","_law_place","_law_hand_here","_law_many","_law_reach","_law_few","_law_near","_law_marks","_law_rows","_law_at","_law_found"] ["_law_script"] (a0i (top 13)):=⟨rfl,rfl,rfl,by decide +kernel,rfl,by decide +kernel,by decide +kernel⟩
 exact law_ok (T:=potL) F0 sc (fun _ _ _ _ _ _=>bd1 fun _=>rfl) (k:=3) (body:=a8e) (fun f cdv A outer s H E hr=>(a0g (a3J 1 (fun _=>a0F (i:=1) sc.nd rfl (Or.inl rfl)) (a0P a0k))
   (a0g (a1J (fun _=>rfl) (a1j (fun _=>rfl) (fun _=>m_range) (a0Q a0h (a2V (fun _=>rfl) (fun _=>m_len) (QE.r (qe_sl (a0b 0 fun _=>vw 0) qo_no (a9J a0h)))))) (a0z fun _=>a0A 2 sc.nd rfl (Or.inl rfl)) (a0g (a5x 3 (fun _=>a0F (i:=3) sc.nd rfl (Or.inl rfl)) (fun _=>g__law_hand) (fun _=>hr) (by decide) (fun _=>rfl) (a0b 0 fun _=>vw 0) (a0b 2 fun _=>vw 2))
   (a0g (a6u 4 5 (fun _=>a6g (i:=4) (j:=5) rfl sc.nd rfl rfl (by decide) rfl rfl rfl) (ql_v (a0Q a0h (a1p (fun _=>g__law_take) (fun _=>hr) (by decide) (fun _=>rfl) (a0a (a0b 3 fun _=>vw 3) (a0a a0h a0k))))) (ql_v (a1p (fun _=>g__law_take) (fun _=>hr) (by decide) (fun _=>rfl) (a0a (a0b 3 fun _=>vw 3) (a0a a0h a0k)))))
   (a0g (a6u 6 7 (fun _=>a6g (i:=6) (j:=7) rfl sc.nd rfl rfl (by decide) rfl rfl rfl) (ql_v (a0Q a0h (a1p (fun _=>g__law_take) (fun _=>hr) (by decide) (fun _=>rfl) (a0a (a0b 3 fun _=>vw 3) (a0a a0h a0k))))) (ql_v (a1p (fun _=>g__law_take) (fun _=>hr) (by decide) (fun _=>rfl) (a0a (a0b 3 fun _=>vw 3) (a0a a0h a0k)))))
   (a0g (a1o (fun _=>a1m) (a6A 1 (fun _=>vw 1) (QN.ee (a0P (a0a (a1d (a0a (a0b 4 fun _=>vw 4) (a0a (a0b 5 fun _=>vw 5) a0k))) (a0a (a1d (a0a (a0b 6 fun _=>vw 6) (a0a (a0b 7 fun _=>vw 7) a0k))) a0k))))))
   (a0g (a1z 8 (fun _=>a0F (i:=8) sc.nd rfl (Or.inl rfl)) (a1p (fun _=>g_all_words) (fun _=>hr) (by decide) (fun _=>rfl) (a0a (a0b 6 fun _=>vw 6) (a0a (a0b 7 fun _=>vw 7) a0k))))
   (a0g (a7Q 9 (fun _=>rfl) (fun _=>hu2_of hr) (fun _=>rfl) (fun _=>m_dict) (fun _=>a0F (i:=9) sc.nd rfl (Or.inl rfl)) (QN.ee (a9K (N:=["_law_one"]) (cs:=[none]) (fun _=>a2N rfl rfl rfl rfl trivial rfl rfl rfl) (fun _=>rfl) (a8J (a0b 8 fun _=>vw 8)) (a0z fun _=>a0A 0 (show List.Nodup (["_law_one"]:List Str) by decide +kernel) rfl (Or.inl rfl)) a4q (a1d (a0a (a1p (fun _=>g__law_row_of) (fun _=>hr) (by decide) (fun _=>rfl) (a0a (a0b 0 fun _=>vw 0) a0k)) (a0a a6B a0k))))))
   (a0g (a6v (QW.qt (a9D (a2u (cNe 4 fun _=>hr) (a1p (fun _=>g_how_many) (fun _=>hr) (by decide) (fun _=>rfl) (a0a (a0b 6 fun _=>vw 6) (a0a (a0b 7 fun _=>vw 7) a0k))) (QE.r (a2V (fun _=>rfl) (fun _=>m_len) (QE.r (a0b 8 fun _=>vw 8)))) (a1K _)) (a8G (a2u (cNe 4 fun _=>hr) (a1p (fun _=>g_rows_from) (fun _=>hr) (by decide) (fun _=>rfl) (a0a (a0b 6 fun _=>vw 6) (a0a (a0b 7 fun _=>vw 7) a0k))) (QE.r (a6z 9 (fun _=>rfl) (fun _=>m_len) (fun _=>vw 9))) (a1K _))))) (a0p (a1A a6B)) a2v)
   (a0g (a1z 10 (fun _=>a0F (i:=10) sc.nd rfl (Or.inl rfl)) (a0G (a0b 6 fun _=>vw 6) a0h))
   (a0p (a6v (QW.qt (qw_and (a2u cGe (a0b 7 fun _=>vw 7) (QE.r (a0G (a0b 6 fun _=>vw 6) a0h)) (a1K _)) (a9E (a2u (cNe 4 fun _=>hr) (a1d (a0a (a2V (fun _=>rfl) (fun _=>m_len) (QE.r (a0b 8 fun _=>vw 8))) (a0a (a6z 9 (fun _=>rfl) (fun _=>m_len) (fun _=>vw 9)) a0k))) (QE.r (a1d (a0a (a1B (QN.ee (a0P (a0a a0h (a0a a0h (a0a a0h (a0a a0h (a0a a0h (a0a a0h (a0a a0h a0k))))))))) (a0b 10 fun _=>vw 10)) (a0a (a1B (QN.ee (a0P (a0a a0h (a0a a0h (a0a a0h (a0a a0h (a0a a0h (a0a a0h (a0a a0h a0k))))))))) (a0b 10 fun _=>vw 10)) a0k)))) (a1K _))))) (a0p (a1A a6B)) a2v)))))))))))
   (a0g (a6w 1 (a1J (fun _=>rfl) (a3l (a0b 1 fun _=>vw 1)) (a8K (fun _=>rfl) (a2q (a0z fun _=>a0A 4 sc.nd rfl (Or.inl rfl)) (a2q (a0z fun _=>a0A 5 sc.nd rfl (Or.inl rfl)) a6x))) (a0g (a1z 11 (fun _=>a0F (i:=11) sc.nd rfl (Or.inl rfl)) (a1d (a0a (a1p (fun _=>g_how_many) (fun _=>hr) (by decide) (fun _=>rfl) (a0a (a0b 4 fun _=>vw 4) (a0a (a0b 5 fun _=>vw 5) a0k))) (a0a (a1p (fun _=>g_rows_from) (fun _=>hr) (by decide) (fun _=>rfl) (a0a (a0b 4 fun _=>vw 4) (a0a (a0b 5 fun _=>vw 5) a0k))) a0k))))
   (a0p (a6v (QW.qt (a9D (a2u (cNe 4 fun _=>hr) (a0b 11 fun _=>vw 11) (QE.r (a1p (fun _=>g__law_tables) (fun _=>hr) (by decide) (fun _=>rfl) (a0a (a0b 4 fun _=>vw 4) (a0a (a0b 5 fun _=>vw 5) a0k)))) (a1K _)) (a9D (a8I (a8H (a1p (fun _=>g__law_whole) (fun _=>hr) (by decide) (fun _=>rfl) (a0a (a1B (a0b 11 fun _=>vw 11) a0h) a0k)))) (a8G (a8I (a8H (a1p (fun _=>g__law_whole) (fun _=>hr) (by decide) (fun _=>rfl) (a0a (a1B (a0b 11 fun _=>vw 11) a0h) a0k)))))))) (a0p (a1A a6B)) a2v)))))
   (a0p (a1A a6B)))))) hlaw
end
end Tb
end
section
namespace Tb
open PySem L2 Pu
variable {L:List (List (List Nat))}{W:List (List Nat)}{i:Nat}
theorem a2L (a b:Int):eqP (.int a) (.int b)=decide (a=b):=by
 show(a == b)=_;rw [x1I]
theorem a8Z (a b:Str):eqP (.str a) (.str b)=decide (a=b):=by
 show(a == b)=_;rw [x1I]
theorem a9a (a b:Bool):eqP (.bl a) (.bl b)=decide (a=b):=by
 show(a == b)=_;rw [x1I]
set_option compiler.extract_closed false in
set_option hygiene false in
local macro_rules | `(tactic| walk_at "pd")=>`(tactic| dsimp only [dreduceIte,true_and,and_true,Bool.false_eq_true,beq_self_eq_true,Nat.reduceLeDiff,Nat.reduceLT,Int.reduceLT,Int.reduceLE,x1s,a2L,a8Z,a9a,qSeq,qNx,qSet,qOwn,a2x,qRet,a6C,qIfS,qPar,sV,sO,gAt,a4r,a8p,qV,qO,qC,qOp,qOpR,qUn,wI,wI0,wAdd,wSub,wMul,wEq,wNe,wGe,qB,qAnd,qOr,qNot,a9S,a9P,qNil,a0f,qTup,qLst,qL,wIx,qNo,a9N,qSl,wSl,wLen,a3D,wIsi,wMin,wMax,a1g,gN,gNl,gCn,gTp,qIl,qIt,a3L,a7V,capV,capS,qTru,a9Q,a0R,a4t,qPop,a1U,tyP,isT,List.map,List.set,x0D,List.length_nil,List.getElem?_cons_zero,x2x,x2h,List.nil_append,List.replicate,Nat.reduceSub,Nat.reduceAdd,Option.bind,Bool.not_true,Bool.not_false,Bool.true_or,Bool.false_or,Bool.or_false,Bool.true_and,x2G,String.reduceBEq,cmpb,a2m,eqP_ll,eqP_tt,b0D,b0C,decide_true,decide_false,a5S,a4s,a9R,qAug,a9j,a3n,a6G,qFor,a1a,a9M,a0Z,at2_0,at2_1,at3_0,at3_1,at3_2,grd_t,a7W,a4V,frz,frzS,noMut,a9O,a3H,a9w,setAll,a6E,a3M,a6D,a6F,a3m])
set_option hygiene false in
local macro_rules | `(tactic| walk_at "pu")=>`(tactic| (try walk_at "pd") <;> (try simp only [a2L,a8Z,a9a,decide_true,decide_false,true_and,and_true,reduceIte,Nat.reduceLeDiff,Nat.reduceLT,Int.reduceLT,Int.reduceLE,x1s,beq_self_eq_true,Bool.false_eq_true]))
theorem at_map {α:Type}(f:α->PV)(d:α){xs:List α}{i:Int}{k:Nat}(hk:k < xs.length)(hi:i=k):atI (xs.map f) i=some (f (xs.getD k d)):=by
 subst hi;obtain⟨x,e1,e2⟩:=b0O (xs:=xs.map f) (d:=(k:Int)) (by omega) (by rw [x0e];omega);rw [e2];rw [x1x,x0p,x0k hk] at e1;rw [x0v,x0k hk];exact e1.symm
def a7b (s r:Nat)(cl sh:List Int):Int:=(x0g (min (r + 1) (sh.length - 1))).foldl (fun t i=>t + cl.getD i 0 * sh.getD (sh.length - 2 - i) 0) (s * sh.getD (sh.length - 1) 0)
theorem a2J {α:Type}(f:α->Nat->α)(a:α)(k:Nat):(x0g (k + 1)).foldl f a=f ((x0g k).foldl f a) k:=by
 rw [List.range_succ,List.foldl_append];rfl
theorem a5b (s r:Nat)(cl sh:List Int)(hs:1<=sh.length)(h1:sh.length<=cl.length + 1)(hb:sh.length<=100)(s2:s<=2)(sm:∀x∈cl,-(2 ^ 64) < x/\x < 2 ^ 64){n:Nat}{R:PV->Nat->Prop}(h:R (.int (a7b s r cl sh)) n):a0x [.int s,.lst (cl.map .int),.lst (sh.map .int),.int r] n R:=by
 refine⟨rfl,?_⟩;unfold a1h;generalize ecl:cl.map PV.int=CL;generalize esh:sh.map PV.int=SH;walk_at "pu";have lsh:SH.length=sh.length:=by rw [<- esh,x0e]
 rw [lsh];have e0:atI SH ((sh.length:Int) - 1)=some (.int (sh.getD (sh.length - 1) 0)):=by rw [<- esh];exact at_map PV.int 0 (by omega) (by omega)
 rw [e0];dsimp only;have eN:((if(sh.length:Int) - 2 < r then(sh.length:Int) - 2 else r) + 1).toNat=min (r + 1) (sh.length - 1):=by split <;> omega
 refine⟨.inl ⟨by omega,by omega⟩,⟨by split <;> omega,by split <;> omega⟩,?_⟩
 rw [eN];refine a0K (fun k env m=>m=n/\∃z,env=[some (.v (.int s)),some (.v (.lst CL)),some (.v (.lst SH)),some (.v (.int r)),some (.v (.int sh.length)),some (.v (.int ((x0g k).foldl (fun t i=>t + cl.getD i 0 * sh.getD (sh.length - 2 - i) 0) (s * sh.getD (sh.length - 1) 0)))),z]) _ 0 _ _ ⟨rfl,none,rfl⟩ (fun i x env m N hx hI hN=>?_) (fun env m hI=>?_)
 · obtain⟨rfl,z,rfl⟩:=hI;obtain⟨hi,rfl⟩:=a1y hx;have ec:atI CL (i:Int)=some (.int (cl.getD i 0)):=by rw [<- ecl];exact at_map PV.int 0 (by omega) rfl
   have es:atI SH ((sh.length:Int) - 2 - i)=some (.int (sh.getD (sh.length - 2 - i) 0)):=by rw [<- esh];exact at_map PV.int 0 (by omega) (by omega)
   have hm:cl.getD i 0∈cl:=by rw [x0v,x0k (by omega)];exact x2g _
   rw [x3f];walk_at "pu";rw [ec];dsimp only;rw [es];dsimp only;refine⟨.inl (sm _ hm),hN _ _ ⟨rfl,some (.v (.int i)),?_⟩⟩;rw [x0N,a2J]
 · obtain⟨rfl,z,rfl⟩:=hI;rw [x0N,a1N];exact h
def ccs (r:Nat):Nat->List Int
 | 0=>[1]
 | k + 1=>ccs r k++[a7b 1 r (ccs r k) (ccs r k)]
def hms (r:Nat)(cl:List Int):Nat->List Int
 | 0=>[1]
 | k + 1=>hms r cl k++[a7b 2 r cl (hms r cl k)]
theorem a4G (r:Nat):∀k,(ccs r k).length=k + 1:=by
 intro xq
 induction xq with
 | zero =>
   exact rfl
 | succ k ih =>
   rw [ccs,x0l,ih];rfl
theorem a7j (r:Nat)(cl:List Int):∀k,(hms r cl k).length=k + 1:=by
 intro xq
 induction xq with
 | zero =>
   exact rfl
 | succ k ih =>
   rw [hms,x0l,ih];rfl
def a7J (r:Nat):Prop:=∀x∈ccs r 24,-(2 ^ 64) < x/\x < 2 ^ 64
theorem b0K {r:Nat}:∀(d k:Nat),∀x∈ccs r k,x∈ccs r (k + d):=by
 intro xq
 induction xq with
 | zero =>
   intro k x h;exact h
 | succ d ih =>
   intro k x h;rw [<- Nat.add_assoc,ccs];exact x0W _ (ih k x h)
theorem a4b {r k:Nat}(h:a7J r)(hk:k<=24):∀x∈ccs r k,-(2 ^ 64) < x/\x < 2 ^ 64:=fun x hx=>h x (by
 have:=b0K (24 - k) k x hx
 rwa [x2k hk] at this)
theorem m_cc (r m:Nat)(sm:a7J r)(hm:m<=24){n:Nat}{R:PV->Nat->Prop}(h:R (.lst ((ccs r m).map .int)) n):a0t [.int m,.int r] n R:=by
 refine⟨rfl,?_⟩;unfold a0W;walk_at "pu";refine⟨⟨by omega,by omega⟩,?_⟩;rw [x1x];refine a0K (fun k env q=>q=n/\∃z,env=[some (.v (.int m)),some (.v (.int r)),some (.ow .lst ((ccs r k).map .int)),z]) _ 0 _ _ ⟨rfl,none,rfl⟩ (fun i x env q N hx hI hN=>?_) (fun env q hI=>?_)
 · obtain⟨rfl,z,rfl⟩:=hI;obtain⟨hi,rfl⟩:=a1y hx;rw [x0N] at *;rw [x3f];have lk:=a4G r i;generalize eL:(ccs r i).map PV.int=L;walk_at "pu";refine⟨⟨_,rfl⟩,?_⟩;rw [<- eL];refine a5b 1 r (ccs r i) (ccs r i) (by omega) (by omega) (by omega) (by omega) (a4b sm (by omega)) ?_;refine⟨rfl,⟨by rw [x0e];omega,?_⟩⟩;exact hN _ _ ⟨rfl,some (.v (.int i)),by rw [ccs,x0Q];rfl⟩
 · obtain⟨rfl,z,rfl⟩:=hI;rw [x0N,a1N];exact h
theorem m_hm (r m:Nat)(sm:a7J r)(hm:m<=24){n:Nat}{R:PV->Nat->Prop}(h:R (.int ((hms r (ccs r m) m).getD m 0)) n):a1l [.int m,.int r] n R:=by
 refine⟨rfl,?_⟩;unfold a2g;walk_at "pu";refine m_cc r m sm hm ?_;have lc:=a4G r m;generalize eC:(ccs r m).map PV.int=CL;walk_at "pu";refine⟨⟨by omega,by omega⟩,?_⟩;rw [x1x];refine a0K (fun k env q=>q=n/\∃z,env=[some (.v (.int m)),some (.v (.int r)),some (.v (.lst CL)),some (.ow .lst ((hms r (ccs r m) k).map .int)),z]) _ 0 _ _ ⟨rfl,none,rfl⟩ (fun i x env q N hx hI hN=>?_) (fun env q hI=>?_)
 · obtain⟨rfl,z,rfl⟩:=hI;obtain⟨hi,rfl⟩:=a1y hx;rw [x0N] at *;rw [x3f];have lk:=a7j r (ccs r m) i;generalize eL:(hms r (ccs r m) i).map PV.int=L;walk_at "pu";refine⟨⟨_,rfl⟩,?_⟩;rw [<- eL,<- eC];refine a5b 2 r (ccs r m) (hms r (ccs r m) i) (by omega) (by omega) (by omega) (by omega) (a4b sm (by omega)) ?_;refine⟨rfl,⟨by rw [x0e];omega,?_⟩⟩;rw [eC];exact hN _ _ ⟨rfl,some (.v (.int i)),by rw [hms,x0Q];rfl⟩
 · obtain⟨rfl,z,rfl⟩:=hI;rw [x0N,a1N];have lk:=a7j r (ccs r m) m;have e:atI ((hms r (ccs r m) m).map PV.int) (m:Int)=some (.int ((hms r (ccs r m) m).getD m 0)):=at_map PV.int 0 (by omega) rfl;generalize (hms r (ccs r m) m).map PV.int=L at e ⊢;walk_at "pu";rw [e];exact h
theorem m_rf (r m:Nat)(sm:a7J r)(hm:m<=24){n:Nat}{R:PV->Nat->Prop}(h:R (.int ((ccs r m).getD m 0)) n):a0X [.int m,.int r] n R:=by
 refine⟨rfl,?_⟩;unfold a1P;walk_at "pu";refine m_cc r m sm hm ?_;have lc:=a4G r m;have e:atI ((ccs r m).map PV.int) (m:Int)=some (.int ((ccs r m).getD m 0)):=at_map PV.int 0 (by omega) rfl;generalize (ccs r m).map PV.int=L at e ⊢;walk_at "pu";rw [e];exact h
def mkP (c:Nat):PV:=.str (x0H (if c=1 then "d" else if c=2 then "o" else if c=3 then "t" else "u"))
def wdP (w:List Nat):PV:=.tup (w.map mkP)
def wsP (ws:List (List Nat)):PV:=.lst (ws.map wdP)
def a5f (si:List Nat)(sh:List (List (List Nat))):List (List Nat):=si.flatMap fun c=>(sh.getD (sh.length - 1) []).map fun b=>c::b
def a6T (cl sh:List (List (List Nat)))(i:Nat):List (List Nat):=(cl.getD i []).flatMap fun a=>(sh.getD (sh.length - 2 - i) []).map fun b=>3::(a++4::b)
def a1R (si:List Nat)(r:Nat)(cl sh:List (List (List Nat))):List (List Nat):=(x0g (min (r + 1) (sh.length - 1))).foldl (fun t i=>t++a6T cl sh i) (a5f si sh)
theorem a3b {α β:Type}(f:α->PV)(g:β->PV)(e:α->β->PV)(ys:List β){pi2:pA}{te:pE}{rest:Pu.Env}(l2:ys.length<=1000):∀(xs:List α) (s0 s1:Option Slot) (n:Nat) (R:List PV->Nat->Prop),
   (∀x∈xs,∀s m Q,Q (ys.map g) (some (.v (f x))::s::rest) m->pi2 (some (.v (f x))::s::rest) m Q)->
   (∀x∈xs,∀y∈ys,∀m Q,Q (e x y) (some (.v (f x))::some (.v (g y))::rest) m->te (some (.v (f x))::some (.v (g y))::rest) m Q)->
   R (xs.flatMap fun x=>ys.map (e x)) n->a4a (gN 0) pi2 (gN 1) qTru te (xs.map f) (s0::s1::rest) n R:=by
 have inner:∀(x:α) (ys:List β) (s1:Option Slot) (n:Nat) (R:List PV->Pu.Env->Nat->Prop),(∀y∈ys,∀m Q,Q (e x y) (some (.v (f x))::some (.v (g y))::rest) m->te (some (.v (f x))::some (.v (g y))::rest) m Q)->
     (∀s,R (ys.map (e x)) (some (.v (f x))::s::rest) n)->a5Q (gN 1) qTru te (ys.map g) (some (.v (f x))::s1::rest) n R:=by
   intro x ys
   induction ys with
   | nil=>intro s1 n R _ h;exact h s1
   | cons y ys ih =>
     intro s1 n R ht h;show te (some (.v (f x))::some (.v (g y))::rest) n _;refine ht y x0f n _ ?_;exact ih _ n _ (fun z hz=>ht z (x0c _ hz)) h
 intro xs
 induction xs with
 | nil=>intro s0 s1 n R _ _ h;exact h
 | cons x xs ih =>
   intro s0 s1 n R hi ht h;show pi2 (some (.v (f x))::s1::rest) n _;refine hi x x0f s1 n _ ⟨by rw [x0e];exact l2,?_⟩;refine inner x ys _ n _ (ht x x0f) fun s=>?_;exact ih _ s n _ (fun z hz=>hi z (x0c _ hz)) (fun z hz=>ht z (x0c _ hz)) h
def accW (si:List Nat)(cl sh:List (List (List Nat)))(k:Nat):List (List Nat):=(x0g k).foldl (fun t i=>t++a6T cl sh i) (a5f si sh)
theorem a4k (si:List Nat)(cl sh:List (List (List Nat)))(k:Nat):accW si cl sh (k + 1)=accW si cl sh k++a6T cl sh k:=a2J _ _ _
theorem b0S (si:List Nat)(cl sh:List (List (List Nat)))(k:Nat):∀d,(accW si cl sh k).length<=(accW si cl sh (k + d)).length:=by
 intro xq
 induction xq with
 | zero =>
   exact x0s _
 | succ d ih =>
   rw [<- Nat.add_assoc,a4k,x0l];have:=ih;omega
theorem a5a (si:List Nat)(r:Nat)(cl sh:List (List (List Nat)))(hs:1<=sh.length)(h1:sh.length<=cl.length + 1)(hb:sh.length<=10)(l0:si.length<=2)(lc:∀k,(cl.getD k []).length<=1000)(ls:∀k,(sh.getD k []).length<=1000)
   (wc:∀k,∀w∈cl.getD k [],w.length<=10) (ws:∀k,∀w∈sh.getD k [],w.length<=10) (tot:(a1R si r cl sh).length<=1000) {n:Nat} {R:PV->Nat->Prop} (h:R (wsP (a1R si r cl sh)) n):a2b [.tup (si.map mkP),.lst (cl.map wsP),.lst (sh.map wsP),.int r] n R:=by
 refine⟨rfl,?_⟩;unfold a3q;have gc:∀(j:Int) (k:Nat),j=k->k < cl.length->atI (cl.map wsP) j=some (wsP (cl.getD k [])):=fun j k e h=>at_map wsP [] h e;have gs:∀(j:Int) (k:Nat),j=k->k < sh.length->atI (sh.map wsP) j=some (wsP (sh.getD k [])):=fun j k e h=>at_map wsP [] h e;have lsi:(si.map mkP).length<=1000:=by rw [x0e];omega
 have lsh:(sh.map wsP).length=sh.length:=by rw [x0e]
 generalize esi:si.map mkP=SI at lsi;generalize ecl:cl.map wsP=CL at gc;generalize esh:sh.map wsP=SH at gs lsh;walk_at "pu";refine⟨lsi,?_⟩;rw [<- esi,lsh];refine a3b mkP wdP (fun c b=>wdP (c::b)) (sh.getD (sh.length - 1) []) (ls _) si none none n _ (fun x hx s m Q q=>?_) (fun x hx y hy m Q q=>?_) ?_
 · have e:=gs ((sh.length:Int) - 1) (sh.length - 1) (by omega) (by omega);walk_at "pu";rw [e];exact q
 · have:=ws _ y hy;unfold wdP at *;generalize ey:y.map mkP=Y at *;walk_at "pu";have ly:Y.length=y.length:=by rw [<- ey,x0e]
   refine⟨by omega,?_⟩;rw [<- ey] at *;exact q
 have eN:((if(sh.length:Int) - 2 < r then(sh.length:Int) - 2 else r) + 1).toNat=min (r + 1) (sh.length - 1):=by split <;> omega
 refine⟨⟨by split <;> omega,by split <;> omega⟩,?_⟩
 rw [eN]
 have e0:(si.flatMap fun x=>(sh.getD (sh.length - 1) []).map fun b=>wdP (x::b))=(accW si cl sh 0).map wdP:=by
   show _=(a5f si sh).map wdP;unfold a5f;rw [List.map_flatMap];refine congrArg (fun g=>List.flatMap g si) (funext fun c=>?_);rw [x1K]
   rfl
 rw [e0];rw [esi];refine a0K (fun k env q=>q=n/\∃z,env=[some (.v (.tup SI)),some (.v (.lst CL)),some (.v (.lst SH)),some (.v (.int r)),some (.v (.int sh.length)),some (.ow .lst ((accW si cl sh k).map wdP)),z]) _ 0 _ _ ⟨rfl,none,rfl⟩ (fun i x env q N hx hI hN=>?_) (fun env q hI=>?_)
 · obtain⟨rfl,z,rfl⟩:=hI;obtain⟨hi,rfl⟩:=a1y hx;rw [x0N] at *;rw [x3f]
   have tl:(accW si cl sh (i + 1)).length<=1000:=by
     have:=b0S si cl sh (i + 1) (min (r + 1) (sh.length - 1) - (i + 1));rw [show i + 1 + (min (r + 1) (sh.length - 1) - (i + 1))=min (r + 1) (sh.length - 1) by omega] at this;exact x0U this tot
   have ec:=gc (i:Int) i rfl (by omega);have es:=gs ((sh.length:Int) - 2 - i) (sh.length - 2 - i) (by omega) (by omega);have hN':=hN [some (.v (.tup SI)),some (.v (.lst CL)),some (.v (.lst SH)),some (.v (.int r)),some (.v (.int sh.length)),some (.ow .lst ((accW si cl sh (i + 1)).map wdP)),some (.v (.int i))] q ⟨rfl,_,rfl⟩;generalize eA:(accW si cl sh i).map wdP=AC;walk_at "pu";refine⟨⟨_,rfl⟩,?_⟩;rw [ec];unfold wsP;dsimp only;refine⟨by rw [x0e];exact lc _,?_⟩;refine a3b wdP wdP (fun a b=>wdP (3::(a++4::b))) (sh.getD (sh.length - 2 - i) []) (ls _) _ none none q _ (fun x hx s m Q q=>?_) (fun x hx y hy m Q q=>?_) ?_
   · walk_at "pu";rw [es];exact q
   · have h5:=ws _ y hy;have h6:=wc _ x hx;unfold wdP at *;have ex:(3::(x++4::y)).map mkP=.str (x0H "t")::(x.map mkP++.str (x0H "u")::y.map mkP):=by rw [x1v,x0Q];rfl
     have lx:(x.map mkP).length=x.length:=by rw [x0e]
     have ly:(y.map mkP).length=y.length:=by rw [x0e]
     rw [ex] at q;generalize x.map mkP=X at *;generalize y.map mkP=Y at *;walk_at "pu";refine⟨by omega,by omega,by rw [x0l,x1H];omega,?_⟩;rw [x1R];exact q
   · have e:((cl.getD i []).flatMap fun a=>(sh.getD (sh.length - 2 - i) []).map fun b=>wdP (3::(a++4::b)))=(a6T cl sh i).map wdP:=by
       unfold a6T;rw [List.map_flatMap];refine congrArg (fun g=>List.flatMap g (cl.getD i [])) (funext fun c=>?_);rw [x1K]
       rfl
     rw [e];rw [a4k] at tl hN';rw [x0l] at tl;refine⟨by rw [<- eA,x0e,x0e];omega,?_⟩;rw [<- eA,<- x0Q];exact hN'
 · obtain⟨rfl,z,rfl⟩:=hI;rw [x0N,a1N];exact h
def cls (r:Nat):Nat->List (List (List Nat))
 | 0=>[[[]]]
 | k + 1=>cls r k++[a1R [1] r (cls r k) (cls r k)]
def wss (r:Nat):Nat->List (List (List Nat))
 | 0=>[[[]]]
 | k + 1=>wss r k++[a1R [1,2] r (cls r (k + 1)) (wss r k)]
theorem a4F (r:Nat):∀k,(cls r k).length=k + 1:=by
 intro xq
 induction xq with
 | zero =>
   exact rfl
 | succ k ih =>
   rw [cls,x0l,ih];rfl
theorem a4l (r:Nat):∀k,(wss r k).length=k + 1:=by
 intro xq
 induction xq with
 | zero =>
   exact rfl
 | succ k ih =>
   rw [wss,x0l,ih];rfl
theorem cls_hd (r:Nat):∀k,∃t,cls r k=[[]]::t:=by
 intro xq
 induction xq with
 | zero =>
   exact⟨[],rfl⟩
 | succ k ih =>
   obtain⟨t,e⟩:=ih;rw [cls,e];exact⟨_,rfl⟩
theorem wss_hd (r:Nat):∀k,∃t,wss r k=[[]]::t:=by
 intro xq
 induction xq with
 | zero =>
   exact⟨[],rfl⟩
 | succ k ih =>
   obtain⟨t,e⟩:=ih;rw [wss,e];exact⟨_,rfl⟩
def OkW (L:List (List (List Nat))):Prop:=∀l∈L,l≠[]/\l.length<=1000/\∀w∈l,w.length<=10
theorem b0J {r:Nat}:∀(d k:Nat),∀x∈cls r k,x∈cls r (k + d):=by
 intro xq
 induction xq with
 | zero =>
   intro k x h;exact h
 | succ d ih =>
   intro k x h;rw [<- Nat.add_assoc,cls];exact x0W _ (ih k x h)
theorem a9h {r:Nat}:∀(d k:Nat),∀x∈wss r k,x∈wss r (k + d):=by
 intro xq
 induction xq with
 | zero =>
   intro k x h;exact h
 | succ d ih =>
   intro k x h;rw [<- Nat.add_assoc,wss];exact x0W _ (ih k x h)
theorem a9e {r k:Nat}(h:OkW (cls r 7))(hk:k<=7):OkW (cls r k):=fun l hl=>h l (by
 have:=b0J (7 - k) k l hl
 rwa [x2k hk] at this)
theorem a5X {r k:Nat}(h:OkW (wss r 7))(hk:k<=7):OkW (wss r k):=fun l hl=>h l (by
 have:=a9h (7 - k) k l hl
 rwa [x2k hk] at this)
theorem OkW.at (h:OkW L)(k:Nat):(L.getD k []).length<=1000/\∀w∈L.getD k [],w.length<=10:=by
 rw [x0v];cases e:L[k]? with
 | none=>exact⟨x1s _,fun w hw=>nomatch hw⟩
 | some l=>exact⟨(h l (x0X e)).2.1,(h l (x0X e)).2.2⟩
theorem a3r (w:List Nat):noMut (wdP w)=true:=by
 show a1D (w.map mkP)=true
 induction w with
 | nil=>rfl
 | cons c w ih=>exact ih
theorem a3O (ws:List (List Nat)):a1D (ws.map wdP)=true:=by
 induction ws with
 | nil=>rfl
 | cons c w ih=>show(noMut (wdP c) && a1D (w.map wdP))=true;rw [a3r,ih];rfl
theorem lsts5 {a b c:PV}{L1 L2:List PV}(h1:∃l t,L1=.lst l::t)(h2:∃l t,L2=.lst l::t):lsts [some (.v a),some (.v b),some (.ow .lst L1),some (.ow .lst L2),some (.v c)]:=fun i xs e=>by
 match i,e with
 | 2,e=>cases e;exact h1
 | 3,e=>cases e;exact h2
 | 0,e=>cases e
 | 1,e=>cases e
 | 4,e=>cases e
 | i + 5,e=>cases e
theorem a6V {α:Type}{l:List α}(h:l≠[]):∃w t,l=w::t:=by cases l;exact absurd rfl h;exact⟨_,_,rfl⟩
theorem m_all (r m:Nat)(hm:m<=7)(h0:1<=m)(oc:OkW (cls r 7))(ow:OkW (wss r 7))(eW:(wss r m).getD m []=W)(l2:2<=W.length)(so:a5q (W.map wdP)){lt:Nat->Nat->Bool}{ps:List Nat}
   (el:∀i j,i < W.length->j < W.length->lt i j=ltIx ((W.map wdP).map keyP) i j) (ht:Tm.tsort lt W.length=some ps) (pl:ps.length=W.length) (pi:∀i∈ps,i < W.length)
   {n:Nat} {R:PV->Nat->Prop} (h:R (.tup (ps.map fun i=>wdP (W.getD i []))) n):a0Y [.int m,.int r] n R:=by
 refine⟨rfl,?_⟩;unfold a1Q;walk_at "pu";refine⟨⟨by omega,by omega⟩,?_⟩;rw [x1x];refine a0K (fun k env q=>q=n/\∃z,env=[some (.v (.int m)),some (.v (.int r)),some (.ow .lst ((cls r k).map wsP)),some (.ow .lst ((wss r k).map wsP)),z]) _ 0 _ _ ⟨rfl,none,rfl⟩ (fun i x env q N hx hI hN=>?_) (fun env q hI=>?_)
 · obtain⟨rfl,z,rfl⟩:=hI;obtain⟨hi,rfl⟩:=a1y hx;rw [x0N] at *;rw [x3f];have lc:=a4F r i;have lw:=a4l r i;obtain⟨tc,ec⟩:=cls_hd r i;obtain⟨tw,ew⟩:=wss_hd r i;have o1:=a9e oc (show i<=7 by omega);have o2:=a9e oc (show i + 1<=7 by omega);have o3:=a5X ow (show i<=7 by omega);have o4:=a5X ow (show i + 1<=7 by omega);have k1:=o2 (a1R [1] r (cls r i) (cls r i)) (by rw [cls];exact x0A _ x0f);have k2:=o4 (a1R [1,2] r (cls r (i + 1)) (wss r i)) (by rw [wss];exact x0A _ x0f);have hN':=hN [some (.v (.int m)),some (.v (.int r)),some (.ow .lst ((cls r (i + 1)).map wsP)),some (.ow .lst ((wss r (i + 1)).map wsP)),some (.v (.int i))] q ⟨rfl,_,rfl⟩;have c1:(cls r (i + 1)).map wsP=(cls r i).map wsP++[wsP (a1R [1] r (cls r i) (cls r i))]:=by rw [cls,x0Q];rfl
   have c2:(wss r (i + 1)).map wsP=(wss r i).map wsP++[wsP (a1R [1,2] r (cls r (i + 1)) (wss r i))]:=by rw [wss,x0Q];rfl
   have hc:∃l t,(cls r i).map wsP=.lst l::t:=⟨_,_,by rw [ec];rfl⟩
   have hc2:∃l t,(cls r (i + 1)).map wsP=.lst l::t:=by
     obtain⟨l,t,e⟩:=hc;exact⟨l,_,by rw [c1,e];rfl⟩
   have hw:∃l t,(wss r i).map wsP=.lst l::t:=⟨_,_,by rw [ew];rfl⟩;have b1:=fun {R:PV->Nat->Prop} (h:R (wsP (a1R [1] r (cls r i) (cls r i))) q)=>a5a [1] r (cls r i) (cls r i) (by omega) (by omega) (by omega) (by decide) (fun k=>(o1.at k).1) (fun k=>(o1.at k).1) (fun k=>(o1.at k).2) (fun k=>(o1.at k).2) k1.2.1 (n:=q) h;have b2:=fun {R:PV->Nat->Prop} (h:R (wsP (a1R [1,2] r (cls r (i + 1)) (wss r i))) q)=>a5a [1,2] r (cls r (i + 1)) (wss r i) (by omega) (by rw [a4F];omega) (by omega) (by decide) (fun k=>(o2.at k).1) (fun k=>(o3.at k).1) (fun k=>(o2.at k).2) (fun k=>(o3.at k).2) k2.2.1 (n:=q) h;have lc':((cls r i).map wsP).length < 1000000:=by rw [x0e];omega
   have lw':((wss r i).map wsP).length < 1000000:=by rw [x0e];omega
   rw [c2] at hN';generalize (cls r i).map wsP=L1 at *;generalize (wss r i).map wsP=L2 at *;generalize (cls r (i + 1)).map wsP=L3 at *;walk_at "pu";obtain⟨w1,t1,e1⟩:=a6V k1.1;obtain⟨w2,t2,e2⟩:=a6V k2.1;refine⟨⟨_,rfl⟩,lsts5 hc hw,b1 ?_⟩;rw [e1];refine⟨a3r w1,a3O t1,?_⟩;rw [e1] at c1;refine⟨lc',⟨_,rfl⟩,lsts5 ?_ hw,?_⟩
   · obtain⟨l,t,e⟩:=hc2;exact⟨l,t,c1.symm.trans e⟩
   rw [<- c1];refine b2 ?_;rw [e2] at hN' ⊢;refine⟨a3r w2,a3O t2,lw',hN'⟩
 · obtain⟨rfl,z,rfl⟩:=hI;rw [x0N,a1N];have lw:=a4l r m;have e:atI ((wss r m).map wsP) (m:Int)=some (wsP ((wss r m).getD m [])):=at_map wsP [] (by omega) rfl;rw [eW] at e;generalize (wss r m).map wsP=L1 at *;walk_at "pu";rw [e];unfold wsP;dsimp only;have lW:(W.map wdP).length=W.length:=x0e _;have oW:W.length<=1000:=by rw [<- eW];exact((a5X ow hm).at m).1
   rw [lW];refine⟨⟨l2,oW⟩,so,lt,ps,el,ht,pl,pi,?_⟩
   have ep:(ps.map fun i=>(W.map wdP).getD i .non)=ps.map fun i=>wdP (W.getD i []):=by
     refine List.map_congr_left fun i hi=>?_;have hl:=pi i hi;rw [x0v,x0v,x0p,x0k hl]
     rfl
   rw [ep];exact h
def rowF:List Nat->Nat->List Nat->List Nat->Option (List Nat)
 | [],_,row,_=>some row
 | c::w,i,row,op=>if c=3 then rowF w (i + 1) row (i::op) else if c=4 then(match op with | a::t=>rowF w (i + 1) ((row.set a i).set i a) t | []=>none) else rowF w (i + 1) row op
def inP (k:Nat):PV:=.int (k:Int)
theorem mk3 {c:Nat}:eqP (mkP c) (.str (x0H "t"))=decide (c=3):=by
 unfold mkP
 by_cases h1:c=1
 · subst h1;rfl
 · by_cases h2:c=2
   · subst h2;rfl
   · by_cases h3:c=3
     · subst h3;rfl
     · rw [if_neg h1,if_neg h2,if_neg h3,decide_eq_false h3];rfl
theorem mk4 {c:Nat}(h:1<=c/\c<=4):eqP (mkP c) (.str (x0H "u"))=decide (c=4):=by
 match c,h with
 | 1,_=>rfl
 | 2,_=>rfl
 | 3,_=>rfl
 | 4,_=>rfl
theorem a8Y {n k:Nat}(h:k < n):ixN n (k:Int)=some k:=by
 unfold ixN;rw [if_pos (by omega),if_pos (by omega)];simp
theorem m_row (w row:List Nat)(hw:∀c∈w,1<=c/\c<=4)(lw:w.length<=10)(h0:rowF w 0 (x0g w.length) []=some row){n:Nat}{R:PV->Nat->Prop}(h:R (.tup (row.map inP)) n):a0T [wdP w] n R:=by
 refine⟨rfl,?_⟩;unfold a1r wdP;have lM:(w.map mkP).length=w.length:=x0e _;generalize eM:w.map mkP=M at *;walk_at "pu";refine⟨⟨by omega,by omega⟩,?_⟩;rw [x1x,lM];have lE:(a4D M).length=w.length:=by rw [<- lM];unfold a4D;simp
 refine a0K (fun k env q=>q=n/\∃rw' op z3 z4 z5,env=[some (.v (.tup M)),some (.ow .lst (List.map inP rw')),some (.ow .lst (op.reverse.map inP)),z3,z4,z5]/\rowF (w.drop k) k rw' op=some row/\rw'.length=w.length/\(∀a∈op,a < w.length)/\op.length<=k) _ 0 _ _ ⟨rfl,x0g w.length,[],none,none,none,rfl,h0,x1T,(fun a ha=>nomatch ha),x1s _⟩ (fun i x env q N hx hI hN=>?_) (fun env q hI=>?_)
 · obtain⟨rfl,rw',op,z3,z4,z5,rfl,hr,hl,ho,lo⟩:=hI;rw [x0N] at *
   have hi:i < w.length:=by
     rw [<- lE];exact(x0n.mp hx).1
   have ew:w.drop i=w[i]::w.drop (i + 1):=x1n hi
   have exx:x=.tup [.int i,mkP w[i]]:=by
     obtain⟨y,ey,e⟩:=a3Y hx;rw [<- eM,x0p,x0k hi] at ey;cases ey;exact e
   subst exx;have hc:=hw w[i] (x2g hi);generalize w[i]=c at *;rw [ew] at hr
   match c,hc with
   | 1, _ =>
     walk_at "pu";refine a2a rfl (if_f (mk3 (c:=1)) (a2a rfl (if_f (mk4 (c:=1) ⟨by decide,by decide⟩) ?_)));exact hN _ _ ⟨rfl,rw',op,_,_,_,rfl,hr,hl,ho,by omega⟩
   | 2, _ =>
     walk_at "pu";refine a2a rfl (if_f (mk3 (c:=2)) (a2a rfl (if_f (mk4 (c:=2) ⟨by decide,by decide⟩) ?_)));exact hN _ _ ⟨rfl,rw',op,_,_,_,rfl,hr,hl,ho,by omega⟩
   | 3, _ =>
     walk_at "pu";refine a2a rfl (if_t (mk3 (c:=3)) ⟨⟨_,rfl⟩,by rw [x0e,List.length_reverse];omega,a2a rfl (if_f (mk4 (c:=3) ⟨by decide,by decide⟩) ?_)⟩);refine hN _ _ ⟨rfl,rw',i::op,some (.v (.int i)),some (.v (mkP 3)),z5,?_,hr,hl,fun a ha=>?_,by rw [x0D];omega⟩
     · rw [List.reverse_cons,x0Q];rfl
     · rcases x0q.mp ha with e | ha
       · rw [e];exact hi
       · exact ho a ha
   | 4, _ =>
     cases op with
     | nil=>cases hr
     | cons a t =>
       have ha:=ho a x0f;have e1:(a::t).reverse.map inP=t.reverse.map inP++[inP a]:=by rw [List.reverse_cons,x0Q];rfl
       have i1:ixN (rw'.map inP).length (a:Int)=some a:=by rw [x0e,hl];exact a8Y ha
       have i2:∀y,ixN ((rw'.map inP).set a y).length (i:Int)=some i:=fun y=>by rw [x0w,x0e,hl];exact a8Y hi
       have i3:((rw'.map inP).set a (inP i)).set i (inP a)=((rw'.set a i).set i a).map inP:=by rw [List.map_set,List.map_set]
       rw [e1];have e2:(t.reverse.map inP++[inP a])[(t.reverse.map inP++[inP a]).length - 1]?=some (inP a):=by rw [x0l];simp
       have e3:(t.reverse.map inP++[inP a]).dropLast=t.reverse.map inP:=List.dropLast_concat;have hN':=hN [some (.v (.tup M)),some (.ow .lst (((rw'.map inP).set a (inP i)).set i (inP a))),some (.ow .lst (t.reverse.map inP)),some (.v (.int i)),some (.v (mkP 4)),some (.v (inP a))] q ⟨rfl,(rw'.set a i).set i a,t,_,_,_,by rw [i3],hr,by rw [x0w,x0w,hl],fun b hb=>ho b (x0c _ hb),by rw [x0D] at lo;omega⟩;generalize t.reverse.map inP=TT at *;generalize rw'.map inP=RW at *;walk_at "pu";refine a2a rfl (if_f (mk3 (c:=4)) (a2a rfl (if_t (mk4 (c:=4) ⟨by decide,by decide⟩) ?_)));rw [e2,e3];refine⟨⟨_,rfl⟩,?_⟩;show(match ixN RW.length (a:Int) with | some j=>_ | none=>False);rw [i1];dsimp only;rw [i2];exact hN'
 · obtain⟨rfl,rw',op,z3,z4,z5,rfl,hr,hl,ho,lo⟩:=hI;rw [x0N,lE,List.drop_eq_nil_of_le (x0s _)] at hr;cases hr;exact h
def mkK (c:Nat):Key:=.inr (x0H (if c=1 then "d" else if c=2 then "o" else if c=3 then "t" else "u"))
theorem a8i:∀w:List Nat,a1a (w.map mkP)=some (w.map mkK):=by
 intro xq
 induction xq with
 | nil =>
   exact rfl
 | cons c w ih =>
   show(a1a (w.map mkP)).map (mkK c::·)=_;rw [ih]
   rfl
theorem a4z (w:List Nat):keyP (wdP w)=w.map mkK:=by
 show(a1a (w.map mkP)).getD []=_;rw [a8i]
 rfl
def dig (c:Nat):Prop:=1<=c/\c<=4
def code:List Nat->Nat
 | []=>0
 | c::w=>c * 8 ^ w.length + code w
theorem a7s:∀w:List Nat,(∀c∈w,dig c)->code w < 8 ^ w.length:=by
 intro xq
 induction xq with
 | nil =>
   intro _
   decide
 | cons c w ih =>
   intro h;have h1:=ih fun d hd=>h d (x0c _ hd);have h2:=(h c x0f).2;show c * 8 ^ w.length + code w < 8 ^ (w.length + 1);rw [Nat.pow_succ];generalize 8 ^ w.length=p at *;have:c * p<=4 * p:=x1i p h2;omega
theorem b0q {c d:Nat}(hc:dig c)(hd:dig d):decide (mkK c=mkK d)=decide (c=d)/\a2F (mkK c) (mkK d)=decide (c < d):=by
 unfold dig at hc hd
 match c,d,hc,hd with
 | 1,1,_,_=>decide +kernel
 | 1,2,_,_=>decide +kernel
 | 1,3,_,_=>decide +kernel
 | 1,4,_,_=>decide +kernel
 | 2,1,_,_=>decide +kernel
 | 2,2,_,_=>decide +kernel
 | 2,3,_,_=>decide +kernel
 | 2,4,_,_=>decide +kernel
 | 3,1,_,_=>decide +kernel
 | 3,2,_,_=>decide +kernel
 | 3,3,_,_=>decide +kernel
 | 3,4,_,_=>decide +kernel
 | 4,1,_,_=>decide +kernel
 | 4,2,_,_=>decide +kernel
 | 4,3,_,_=>decide +kernel
 | 4,4,_,_=>decide +kernel
theorem a3T:∀a b:List Nat,(∀c∈a,dig c)->(∀c∈b,dig c)->a.length=b.length->lexK (a.map mkK) (b.map mkK)=decide (code a < code b)
 | [],[],_,_,_=>by decide
 | [],_::_,_,_,h=>nomatch h
 | _::_,[],_,_,h=>nomatch h
 | c :: a, d :: b, ha, hb, hl => by
   have hl':a.length=b.length:=by simpa using hl
   have ha':=fun x hx=>ha x (x0c c hx);have hb':=fun x hx=>hb x (x0c d hx);have ih:=a3T a b ha' hb' hl';obtain⟨k1,k2⟩:=b0q (ha c x0f) (hb d x0f);have la:=a7s a ha';have lb:=a7s b hb';rw [<- hl'] at lb;show(if mkK c=mkK d then lexK (a.map mkK) (b.map mkK) else a2F (mkK c) (mkK d))=decide (c * 8 ^ a.length + code a < d * 8 ^ b.length + code b);rw [<- hl'];generalize 8 ^ a.length=p at *
   by_cases e:c=d
   · subst e;rw [if_pos rfl,ih];refine decide_eq_decide.mpr ⟨fun h=>by omega,fun h=>by omega⟩
   · have e':¬mkK c=mkK d:=fun z=>by
       rw [decide_eq_true z] at k1;exact e (of_decide_eq_true k1.symm)
     rw [if_neg e',k2];refine decide_eq_decide.mpr ⟨fun h=>?_,fun h=>?_⟩
     · have:(c + 1) * p<=d * p:=x1i p h;rw [x3r] at this;omega
     · rcases Nat.lt_or_ge c d with z | z
       · exact z
       · have z':d + 1<=c:=by omega
         have:(d + 1) * p<=c * p:=x1i p z';rw [x3r] at this;omega
theorem al_wd:∀a b:List Nat,Al (a.map mkK) (b.map mkK)
 | [],[]=>trivial
 | [],_::_=>trivial
 | _::_,[]=>trivial
 | _::a,_::b=>al_wd a b
theorem mk_kP (w:List Nat):w.map mkP=(w.map mkK).map kP:=by rw [x1K];rfl
theorem a6k (h:∀w∈W,w≠[]):a5q (W.map wdP):=by
 refine .inr (.inr ⟨fun x hx=>?_,fun x hx y hy=>?_⟩)
 · obtain⟨w,hw,rfl⟩:=x1b.mp hx;refine⟨w.map mkK,by unfold wdP;rw [mk_kP],fun e=>?_⟩;exact h w hw (List.map_eq_nil_iff.mp e)
 · obtain⟨w,hw,rfl⟩:=x1b.mp hx;obtain⟨v,hv,rfl⟩:=x1b.mp hy;rw [a4z,a4z];exact al_wd w v
def atB (b i:Nat):Nat:=(b >>> (21 * i)) % 2097152
def ltB (b i j:Nat):Bool:=Nat.blt (atB b i) (atB b j)
def decW:Nat->Nat->List Nat
 | 0,_=>[]
 | k + 1,n=>(n / 8 ^ k) % 8::decW k n
def unp (m len b:Nat):List (List Nat):=(x0g len).map fun i=>decW m (atB b i)
theorem ltB_ok {m b:Nat}(hd:∀w∈W,w.length=m/\∀c∈w,dig c)(hb:∀i,i < W.length->atB b i=code (W.getD i [])):∀i j,i < W.length->j < W.length->ltB b i j=ltIx ((W.map wdP).map keyP) i j:=by
 intro i j hi hj
 have g:∀k,k < W.length->((W.map wdP).map keyP).getD k []=(W.getD k []).map mkK/\W.getD k []∈W:=fun k hk=>by
   rw [x1K,x0v,x0v,x0p,x0k hk];exact⟨a4z _,x2g hk⟩
 unfold ltIx ltB;rw [(g i hi).1,(g j hj).1,hb i hi,hb j hj];have h1:=hd _ (g i hi).2;have h2:=hd _ (g j hj).2;rw [a3T _ _ h1.2 h2.2 (h1.1.trans h2.1.symm)];generalize code (W.getD i [])=x;generalize code (W.getD j [])=y;cases e:Nat.blt x y with
 | true=>exact(decide_eq_true (Nat.le_of_ble_eq_true e)).symm
 | false=>exact(decide_eq_false fun z=>by rw [show Nat.blt x y=true from Nat.ble_eq_true_of_le z] at e;cases e).symm
theorem a6H {α β:Type}[DecidableEq α][DecidableEq β](f:α->β)(S:α->Prop)(inj:∀a b,S a->S b->f a=f b->a=b):∀(l ks:List α),(∀a∈l,S a)->(∀a∈ks,S a)->(l.map f).foldl a0U (ks.map f)=(l.foldl a0U ks).map f:=by
 intro xq
 induction xq with
 | nil =>
   intro ks _ _;exact rfl
 | cons a l ih =>
   intro ks hl hk;have ha:=hl a x0f;have hl':=fun x hx=>hl x (x0c a hx);show(l.map f).foldl a0U (a0U (ks.map f) (f a))=(l.foldl a0U (a0U ks a)).map f
   have e:a0U (ks.map f) (f a)=(a0U ks a).map f:=by
     unfold a0U
     by_cases h:a∈ks
     · rw [if_pos h,if_pos (x1b.mpr ⟨a,h,rfl⟩)]
     · rw [if_neg h,if_neg,x0Q];rfl;intro z;obtain⟨b,hb,e⟩:=x1b.mp z;have:=inj b a (hk b hb) ha e;exact h (this▸hb)
   rw [e];refine ih _ hl' fun x hx=>?_;unfold a0U at hx
   split at hx
   · exact hk x hx
   · rcases x1c.mp hx with hx | hx
     · exact hk x hx
     · rw [x0T.mp hx];exact ha
def cntB:List Nat->Nat->Nat->Nat
 | [],_,c=>c
 | k::l,m,c=>if m.testBit k=true then cntB l m c else cntB l (m ||| 2 ^ k) (c + 1)
theorem b0I:∀(l ks:List Nat) (m:Nat),(∀k,k∈ks↔m.testBit k=true)->(l.foldl a0U ks).length=cntB l m ks.length:=by
 intro xq
 induction xq with
 | nil =>
   intro ks m _;exact rfl
 | cons k l ih =>
   intro ks m h;show(l.foldl a0U (a0U ks k)).length=if m.testBit k=true then _ else _;unfold a0U
   by_cases c:k∈ks
   · rw [if_pos c,if_pos ((h k).mp c)];exact ih ks m h
   · rw [if_neg c,if_neg fun z=>c ((h k).mpr z)]
     have:=ih (ks++[k]) (m ||| 2 ^ k) fun j=>by
       rw [x1c,x0T,x1o,Bool.or_eq_true,Nat.testBit_two_pow,decide_eq_true_eq,h j];exact or_congr Iff.rfl eq_comm
     rw [x0l] at this;exact this
def low (m:Nat)(w:List Nat):Prop:=w.length=m/\∀c∈w,c < 8
theorem a5k:∀w:List Nat,(∀c∈w,c < 8)->code w < 8 ^ w.length:=by
 intro xq
 induction xq with
 | nil =>
   intro _
   decide
 | cons c w ih =>
   intro h;have h1:=ih fun d hd=>h d (x0c _ hd);have h2:=h c x0f;show c * 8 ^ w.length + code w < 8 ^ (w.length + 1);rw [Nat.pow_succ];generalize 8 ^ w.length=p at *;have:c * p<=7 * p:=x1i p (by omega);omega
theorem a5l:∀(m:Nat) (a b:List Nat),low m a->low m b->code a=code b->a=b
 | _,[],[],_,_,_=>rfl
 | m,[],d::b,ha,hb,_=>by have:=ha.1.trans hb.1.symm;cases this
 | m,c::a,[],ha,hb,_=>by have:=ha.1.trans hb.1.symm;cases this
 | m, c :: a, d :: b, ha, hb, e => by
   have l1:a.length=b.length:=by have:=ha.1.trans hb.1.symm;simpa using this
   have ha':low a.length a:=⟨rfl,fun x hx=>ha.2 x (x0c _ hx)⟩;have hb':low a.length b:=⟨l1.symm,fun x hx=>hb.2 x (x0c _ hx)⟩;have k1:=a5k a ha'.2;have k2:=a5k b hb'.2;rw [<- l1] at k2;have e':c * 8 ^ a.length + code a=d * 8 ^ b.length + code b:=e;rw [<- l1] at e'
   have hcd:c=d:=by
     generalize 8 ^ a.length=p at *;rcases Nat.lt_trichotomy c d with z | z | z
     · have:(c + 1) * p<=d * p:=x1i p z;rw [x3r] at this;omega
     · exact z
     · have:(d + 1) * p<=c * p:=x1i p z;rw [x3r] at this;omega
   subst hcd;have e2:code a=code b:=by omega
   rw [a5l a.length a b ha' hb' e2]
def inK (k:Nat):Key:=.inl (k:Int)
theorem a7h:∀(a b:List Nat),a.map inK=b.map inK->a=b
 | [],[],_=>rfl
 | [],_::_,h=>nomatch h
 | _::_,[],h=>nomatch h
 | x :: a, y :: b, h => by
   rw [x1v,x1v] at h;have h1:=List.cons.inj h;have h2:(x:Int)=y:=Sum.inl.inj h1.1;rw [a7h a b h1.2,Int.ofNat_inj.mp h2]
theorem a8j:∀w:List Nat,a1a (w.map inP)=some (w.map inK):=by
 intro xq
 induction xq with
 | nil =>
   exact rfl
 | cons c w ih =>
   show(a1a (w.map inP)).map (inK c::·)=_;rw [ih]
   rfl
def prP (row:List Nat):PV:=.tup [.tup (row.map inP),.bl true]
theorem a4w:∀rows:List (List Nat),a2X (rows.map prP)=some (rows.map fun row=>(row.map inK,PV.bl true)):=by
 intro xq
 induction xq with
 | nil =>
   exact rfl
 | cons r rows ih =>
   show(match a1a (r.map inP),a2X (rows.map prP) with | some k,some qs=>some ((k,PV.bl true)::qs) | _,_=>none)=_;rw [a8j,ih]
   rfl
theorem a8t {α:Type}:∀(qs:List (List Key×α)) (d:List (List Key)×List α),d.1.length=d.2.length->(qs.foldl putD d).1=(qs.map (·.1)).foldl a0U d.1/\(qs.foldl putD d).1.length=(qs.foldl putD d).2.length:=by
 intro xq
 induction xq with
 | nil =>
   intro d h;exact⟨rfl,h⟩
 | cons q qs ih =>
   intro d h;exact ih (putD d q) (a6I h q.1 q.2)
theorem a8u {rows:List (List Nat)}{m:Nat}(h:∀r∈rows,low m r):(dtF (rows.map fun row=>(row.map inK,PV.bl true))).1.length=cntB (rows.map code) 0 0/\(dtF (rows.map fun row=>(row.map inK,PV.bl true))).1.length=(dtF (rows.map fun row=>(row.map inK,PV.bl true))).2.length:=by
 obtain⟨e1,e2⟩:=a8t (rows.map fun row=>(row.map inK,PV.bl true)) ([],[]) rfl;refine⟨?_,e2⟩;unfold dtF;rw [e1,x1K];have e3:(rows.map ((·.1)∘fun row=>(List.map inK row,PV.bl true)))=rows.map fun row=>row.map inK:=rfl;rw [e3];have p1:=a6H (fun row:List Nat=>row.map inK) (fun _=>True) (fun a b _ _ e=>a7h a b e) rows [] (fun _ _=>trivial) (fun _ _=>trivial);have p2:=a6H code (low m) (a5l m) rows [] h (fun _ hx=>nomatch hx);have p3:=b0I (rows.map code) [] 0 fun k=>by rw [Nat.zero_testBit];exact⟨fun h=>absurd h List.not_mem_nil,fun h=>absurd h x0E⟩
 show((rows.map fun row=>row.map inK).foldl a0U ([].map fun row:List Nat=>row.map inK)).length=_;rw [p1,x0e];refine Eq.trans ?_ p3;show _=((rows.map code).foldl a0U ([].map code)).length;rw [p2,x0e]
def rowD (w:List Nat):List Nat:=(rowF w 0 (x0g w.length) []).getD []
def wok (m b i:Nat):Bool:=(code (decW m (atB b i)) == atB b i) && (decW m (atB b i)).all (fun c=>decide (1<=c) && decide (c<=4)) && (rowF (decW m (atB b i)) 0 (x0g (decW m (atB b i)).length) []).isSome && ((rowD (decW m (atB b i))).length == m) && (rowD (decW m (atB b i))).all (fun c=>decide (c < 8))
def chk (m len b cnt:Nat):Bool:=match Tm.tsort (ltB b) len with
 | none=>false
 | some ps=>(ps.length == len) && ps.all (fun i=>decide (i < len)) && (cntB (ps.map fun i=>code (rowD (decW m (atB b i)))) 0 0 == cnt)
theorem a5i:∀m n,(decW m n).length=m:=by
 intro xq
 induction xq with
 | zero =>
   intro _;exact rfl
 | succ k ih =>
   intro n;show(decW k n).length + 1=_;rw [ih n]
theorem a6a {m len b:Nat}(h:i < len):(unp m len b).getD i []=decW m (atB b i):=by
 unfold unp;rw [x0v,x0p,List.getElem?_range h]
 rfl
theorem a9k {m len b:Nat}:(unp m len b).length=len:=by unfold unp;rw [x0e,x1T]
def a0o (r m len cnt:Nat):Prop:=∃ws:List (List Nat),ws.length=len/\(∀w∈ws,w.length=m/\(∀c∈w,1<=c/\c<=4)/\rowF w 0 (x0g w.length) []=some (rowD w)/\low m (rowD w))/\cntB ((ws.map rowD).map code) 0 0=cnt/\∀(n:Nat) (R:PV->Nat->Prop),R (.tup (ws.map wdP)) n->a0Y [.int m,.int r] n R
theorem a0d {r m len b cnt:Nat}(h1:1<=m)(h7:m<=7)(l2:2<=len)(oc:OkW (cls r 7))(ow:OkW (wss r 7))(hW:(wss r m).getD m []=unp m len b)(hk:(x0g len).all (wok m b)=true)(hc:chk m len b cnt=true):a0o r m len cnt:=by
 have hk':∀i,i < len->wok m b i=true:=fun i hi=>x0I.mp hk i (x2E.mpr hi)
 have facts:∀i,i < len->code (decW m (atB b i))=atB b i/\(∀c∈decW m (atB b i),1<=c/\c<=4)/\rowF (decW m (atB b i)) 0 (x0g (decW m (atB b i)).length) []=some (rowD (decW m (atB b i)))/\low m (rowD (decW m (atB b i))):=fun i hi=>by
   have h:=hk' i hi;unfold wok at h;simp only [x1D,beq_iff_eq,x0I,decide_eq_true_eq] at h;obtain⟨⟨⟨⟨a1,a2⟩,a3⟩,a4⟩,a5⟩:=h;refine⟨a1,a2,?_,a4,a5⟩;unfold rowD;obtain⟨x,ex⟩:=x1r.mp a3;rw [ex];rfl
 unfold chk at hc;cases ht:Tm.tsort (ltB b) len with
 | none=>rw [ht] at hc;cases hc
 | some ps =>
   rw [ht] at hc;simp only [x1D,beq_iff_eq,x0I,decide_eq_true_eq] at hc;obtain⟨⟨c1,c2⟩,c3⟩:=hc;have lu:(unp m len b).length=len:=a9k;refine⟨ps.map fun i=>decW m (atB b i),by rw [x0e,c1],fun w hw=>?_,?_,fun n R q=>?_⟩
   · obtain⟨i,hi,rfl⟩:=x1b.mp hw;obtain⟨_,a2,a3,a4⟩:=facts i (c2 i hi);exact⟨a5i _ _,a2,a3,a4⟩
   · rw [x1K,x1K];exact c3
   · have mem:∀w∈unp m len b,w.length=m/\∀c∈w,dig c:=fun w hw=>by
       unfold unp at hw;obtain⟨i,hi,rfl⟩:=x1b.mp hw;exact⟨a5i _ _,(facts i (x2E.mp hi)).2.1⟩
     refine m_all r m h7 h1 oc ow hW (by rw [lu];exact l2) (a6k fun w hw e=>by have:=(mem w hw).1;rw [e] at this;simp at this;omega) (lt:=ltB b) (ps:=ps) (ltB_ok mem fun i hi=>?_) (by rw [lu];exact ht) (by rw [lu];exact c1) (fun i hi=>by rw [lu];exact c2 i hi) ?_
     · rw [lu] at hi;rw [a6a hi];exact(facts i hi).1.symm
     · have e:(ps.map fun i=>wdP ((unp m len b).getD i []))=(ps.map fun i=>decW m (atB b i)).map wdP:=by
         rw [x1K];refine List.map_congr_left fun i hi=>?_;rw [a6a (c2 i hi)]
         rfl
       rw [e];exact q
theorem long5 {si:List Nat}{r:Nat}{cl sh:List (List (List Nat))}(hr:5<=r)(hl:sh.length<=7):a1R si r cl sh=a1R si 5 cl sh:=by
 unfold a1R;rw [show min (r + 1) (sh.length - 1)=min (5 + 1) (sh.length - 1) by omega]
theorem cls5 {r:Nat}(hr:5<=r):∀k,k<=7->cls r k=cls 5 k:=by
 intro xq
 induction xq with
 | zero =>
   intro _;exact rfl
 | succ k ih =>
   intro h;have l:=a4F 5 k;rw [cls,cls,ih (by omega),long5 hr (by omega)]
theorem wss5 {r:Nat}(hr:5<=r):∀k,k<=7->wss r k=wss 5 k:=by
 intro xq
 induction xq with
 | zero =>
   intro _;exact rfl
 | succ k ih =>
   intro h;have l:=a4l 5 k;rw [wss,wss,ih (by omega),cls5 hr (k + 1) (by omega),long5 hr (by omega)]
def okB (L:List (List (List Nat))):Bool:=L.all fun l=>!l.isEmpty && decide (l.length<=1000) && l.all fun w=>decide (w.length<=10)
theorem a1v (h:okB L=true):OkW L:=fun l hl=>by
 have:=x0I.mp h l hl;simp only [x1D,x0I,decide_eq_true_eq,Bool.not_eq_true',List.isEmpty_eq_false_iff] at this;exact⟨this.1.1,this.1.2,this.2⟩
def mkL:Nat->List (Nat×Nat)->List (List (List Nat))
 | _,[]=>[]
 | k,(l,b)::t=>unp k l b::mkL (k + 1) t
theorem a2l {r:Nat}{C:List (List (List Nat))}(h0:C.take 1=[[[]]])(hl:C.length=8)(hs:∀k,k < 7->a1R [1] r (C.take (k + 1)) (C.take (k + 1))=C.getD (k + 1) []):∀k,k<=7->cls r k=C.take (k + 1):=by
 intro xq
 induction xq with
 | zero =>
   intro _;exact h0.symm
 | succ k ih =>
   intro h;rw [cls,ih (by omega),hs k (by omega),List.take_succ (i:=k + 1),x0v,x0k (by omega)]
   rfl
theorem a2c {r:Nat}{C W:List (List (List Nat))}(hC:∀k,k<=7->cls r k=C.take (k + 1))(h0:W.take 1=[[[]]])(hl:W.length=8)(hs:∀k,k < 7->a1R [1,2] r (C.take (k + 2)) (W.take (k + 1))=W.getD (k + 1) []):∀k,k<=7->wss r k=W.take (k + 1):=by
 intro xq
 induction xq with
 | zero =>
   intro _;exact h0.symm
 | succ k ih =>
   intro h;rw [wss,ih (by omega),hC (k + 1) h,hs k (by omega),List.take_succ (i:=k + 1),x0v,x0k (by omega)]
   rfl
def bc01:Nat:=1
def bw01:Nat:=4194305
def bc02:Nat:=58720265
def bw02:Nat:=541598933208125300465991689
def bc03:Nat:=989560657936457
def bw03:Nat:=779897707425981508789952048646020746938111407342904041544476373100265545
def bc04:Nat:=35203936478474281304440439369
def bw04:Nat:=1843779764821613107998917407765423356123802905502613948253175962757113300550075957213289151883435126389073648660158263142492342342502984561707272139528178928835367115363213436256841
def bc05:Nat:=2597770434085517210930640633146437149646391349833
def bw05:Nat:=226821882691100402069497793898383425106804593724162842596099124020567553437522409511720624408869635337604137094666511831763618857164324533644896702910822222512053565126420870938761159656629995726250064991455389308574950771392105849939061551005217869191422376251754423928783159211638170739070523197116568965044936002866096444482569547075908719189075917518672003764122576497984171658298668767802674974990027032295653132394050133648526343672393
def bc06:Nat:=843169447792782234122571832326349953782008896254068927254771707276087948220600905
def bw06:Nat:=125944920536946733663207514712711925194383366151533782468490402229019614313035504667999257365906676954088951225234505073468354577261309430137556606519532242651943504430559095885796539834386378853632595376807484173423543250707474751729302883774911022552590670807323637008861928950015620550697230208982708087525936997550099551421745379373985813409628648300782811374718143528377847690151651268291833672530100239062906111907661818849397979845096835907392810521026362323559215733415960462216299103013345138602547414238995637124132868295534490821971023631854429898736768930295943346998977393843520484353600347732703035175265699289314839524794032311158285918674277563465767298291805166117883082943945110491152444096572199218848910632603740028675902414506751821885023137520942448499647596895424109029642185989444342716734181556718531390123352807090221779776445530742358772128282933504739166537034895154425967194175273058032636562698274762073700029378679823815822576952422375670431251077437951329129682899784386057650057082625219764112476501126158616293901478329152962765558345
def bc07:Nat:=2523739854071999046393818229942502325348095971498436477432808964696692165187434101703328071382821461780425039154227255747363515699785
def bw07:Nat:=74613912439178234118800895396183813139975161684024663799540146841602874488171799166361974451969536603012867524410871499606392812075608221679763195873022162777050392121964850048440317531929842945039967125127776936573380458096274575442697137719570061089263983931251478501186157778473525944424316037413587521321987126269628753573918465208813507577324959894917232519589500779973796056196154984069419208676017148301750622096498133605605761277250533000075700106868817716157579862471584216432610680994005599539745309372102445307156292398149347153898764899871426060444327268040937609083906937231508847654821320013516862100606250626755606268702128792409415492039992263980094415769216624180073946905138259946583315492005790370291419550226863665496367042264770903997874818024127424398935145309938647444768171196140957216849225650246982549845056169884036002141919844345883877242283545957923007773255383039888645043715149804694048011767744013625541126992022547359954143592640278224098438813944664154391490929383098532905275751866707758265693231117158979614896686401276314398504902059111301766374635191009075399742298730835488578156012808446922686553852361478605542967003137823551339061383482344690238136030601418074809643898209540732008880481935769779785457001878751069919723979377004339866407588536732978201530467638605251181389100149547548019633239912261927051412392653339839976104870993579232239681572582136980392724477493748921758806034803387147542713339653333697980239992370986288265088516902550008640581548912367834800709901720507914661003528547804017524699318299674976386532660953834814787503818427084078266187793072594623577884237543350992123305534209042472108715445747248120428007285131620508307787456187132136761040759406016875910420076188544540011902338904512980060580974011777562833498450586500175453075304332112418000885357960345365326863192351982842714738699733856132780391912015631076629368141309885428753271313669030190596985552940457159755713957980944809334405429617507242558957420082463032954867481412677677514349409906234668181682670769218390754715524910015414078508236330068779041990893195950077090325297335348341504411006039777094081751266625779288000773995316599457996597918311131141729691113251711865733781374692368066529298404905091593283214557917151964580190314503074727058443544100435005193505870473933557925340590194985036005888891269190808948082512374039224033310090245640186276702608716200464552938609908572103966045896172376555065288375670617485907131856187523143428926611279654860468806187147999680259494824254488742245635427541291287108268332484567209903166025
def C0:List (List (List Nat)):=[[]]::mkL 1 [(1,bc01),(2,bc02),(3,bc03),(5,bc04),(8,bc05),(13,bc06),(21,bc07)]
def V0:List (List (List Nat)):=[[]]::mkL 1 [(2,bw01),(5,bw02),(12,bw03),(29,bw04),(70,bw05),(169,bw06),(408,bw07)]
theorem eC0:∀k,k<=7->cls 0 k=C0.take (k + 1):=a2l rfl rfl (by decide +kernel)
theorem eV0:∀k,k<=7->wss 0 k=V0.take (k + 1):=a2c eC0 rfl rfl (by decide +kernel)
theorem oC0:OkW (cls 0 7):=by rw [eC0 7 (by decide)];exact a1v (by decide +kernel)
theorem oV0:OkW (wss 0 7):=by rw [eV0 7 (by decide)];exact a1v (by decide +kernel)
theorem x01:(x0g 2).all (wok 1 bw01)=true/\chk 1 2 bw01 1=true:=⟨by decide +kernel,by decide +kernel⟩
theorem y01:(wss 0 1).getD 1 []=unp 1 2 bw01:=by rw [eV0 1 (by decide)];rfl
theorem z01:a0o 0 1 2 1:=a0d (by decide) (by decide) (by decide) oC0 oV0 y01 x01.1 x01.2
theorem x02:(x0g 5).all (wok 2 bw02)=true/\chk 2 5 bw02 2=true:=⟨by decide +kernel,by decide +kernel⟩
theorem y02:(wss 0 2).getD 2 []=unp 2 5 bw02:=by rw [eV0 2 (by decide)];rfl
theorem z02:a0o 0 2 5 2:=a0d (by decide) (by decide) (by decide) oC0 oV0 y02 x02.1 x02.2
theorem x03:(x0g 12).all (wok 3 bw03)=true/\chk 3 12 bw03 3=true:=⟨by decide +kernel,by decide +kernel⟩
theorem y03:(wss 0 3).getD 3 []=unp 3 12 bw03:=by rw [eV0 3 (by decide)];rfl
theorem z03:a0o 0 3 12 3:=a0d (by decide) (by decide) (by decide) oC0 oV0 y03 x03.1 x03.2
theorem x04:(x0g 29).all (wok 4 bw04)=true/\chk 4 29 bw04 5=true:=⟨by decide +kernel,by decide +kernel⟩
theorem y04:(wss 0 4).getD 4 []=unp 4 29 bw04:=by rw [eV0 4 (by decide)];rfl
theorem z04:a0o 0 4 29 5:=a0d (by decide) (by decide) (by decide) oC0 oV0 y04 x04.1 x04.2
theorem x05:(x0g 70).all (wok 5 bw05)=true/\chk 5 70 bw05 8=true:=⟨by decide +kernel,by decide +kernel⟩
theorem y05:(wss 0 5).getD 5 []=unp 5 70 bw05:=by rw [eV0 5 (by decide)];rfl
theorem z05:a0o 0 5 70 8:=a0d (by decide) (by decide) (by decide) oC0 oV0 y05 x05.1 x05.2
theorem x06:(x0g 169).all (wok 6 bw06)=true/\chk 6 169 bw06 13=true:=⟨by decide +kernel,by decide +kernel⟩
theorem y06:(wss 0 6).getD 6 []=unp 6 169 bw06:=by rw [eV0 6 (by decide)];rfl
theorem z06:a0o 0 6 169 13:=a0d (by decide) (by decide) (by decide) oC0 oV0 y06 x06.1 x06.2
theorem x07:(x0g 408).all (wok 7 bw07)=true/\chk 7 408 bw07 21=true:=⟨by decide +kernel,by decide +kernel⟩
theorem y07:(wss 0 7).getD 7 []=unp 7 408 bw07:=by rw [eV0 7 (by decide)];rfl
theorem z07:a0o 0 7 408 21:=a0d (by decide) (by decide) (by decide) oC0 oV0 y07 x07.1 x07.2
def bc11:Nat:=1
def bw11:Nat:=4194305
def bc12:Nat:=58720265
def bw12:Nat:=541598933208125300465991689
def bc13:Nat:=1881568885079032201289
def bw13:Nat:=1476349917673488917632038848812819471149939242598324534407125740577265503174729
def bc14:Nat:=138920350123478921414024979426061951435337
def bw14:Nat:=32019116577017901722840802172759743766180641012423480990481091530452627312145890632491800259662206303784912783229979968117606268385442975719983805186946575695650563133031568928383625366464773831264728777289
def bc15:Nat:=94689026059497254864671679938529072793887622663197884682259285847306644534334025
def bw15:Nat:=6486690616586345514291859381640317064450532984999410956726566556437370593392831670389686365253867376627168908754273668320478458452419103037825828045561951717547066821923446747946145971102086875099831237238209554743064335301645348065423990638809569179754094929147050772299154747934857051706048381334305414747535620861258826353405978856258981445810182972738626256612466486260531589203134222876947159400367937946005285737956142278825677663907887704234875623916263048269875935879246142799604269477746580591643995280664099314913514057
def bc16:Nat:=2613579080803053664857223661463284797227955012864200138318816321176824345340073434602750665564931663481902805890372090930262417972314780728316756267593
def bw16:Nat:=33644830496443025411917292213607011661042322607342237126091875293050115789422645834242636426129070867841103335610556385569839814969925413417355858690939521343781644314363408163361512818159348123007732829791343859791245066002938554487592738572600291389719342670250876539385422884365665767244397389953978244263617882553538748966628045761078984683420174939305690988557294064711794360140159217601333639447982784051180978799589859876952400202329411874791861884656528076046243541848091985991019097558492632902721035913710182691099988945888928598948406136843924241177111982120960353307866724758714959352751146445807201761706534919987086265470087716054987735042335455515498429844592490249345528691716240908829659312073259211099516383429515539950428341039390587089399294294179403539751173605591196660797415059830581664686766081782864875059843974303090290934588855473803652398906272854625519207916957408814520528995593969569898346137301640566901166462983592611922199552388516700932947093238747025280451903313369696413162583233362201611019165212343744137384527179344887514441501192954334639039575311844147475869751477339053601470872698042099092824589851301285414349167827688596306878770283218537986943283131687534521180598610496142901717962362432929639997695307016661124997555248053135999480092578951460711359010324198830364435543393286670590963827344307866604105
def bc17:Nat:=56614063798366480562912499341379474114388011048151165016744475119144186049483981737083194061142483426445922709124739701725977451479914086310144268590013846603529162141045646227537486738407652201718522599889562673218841882137756399148527189926485941029702661623451106054760600137
def bw17:Nat:=7753704209706582684766675443396727760140734151739680466097386784635485627709650217467017048572402736756163831256178348090535238797473128367313372609616260297439597196382970378334265464638817157159850521663258074339319669786360137000730366091020752233092785763171705623072390682748521549856173020772056904868836327718519226426962630345234105939280421043701880912473535138217675148778588797829674719054061522455267191090111427899728066301888097820515094524813268376152818587366962463321205169352618909379852444111454710492480638394035129418246835500600224948852953513541119554121773531917119553163556001889662061332567463669510661621055378688256356009899247184468676790534784510639520804905316598919184193655828691229020263881788654963111292409641430207121814493960460521330687734909736673002196839062819707205596782230022420589591738569113284910659532152433222177767452504053491709777342238034299670739564596169446590788279827902162909600744859727499388138375023599513613179335295643782061445315414580509906010206624807433050208680838438657027390594066721704009192304046784408745207822795201705257482656179560746578986676487973611107948964181182337676524240144396838567942346576028540740620594564071650588702341351302653076076760957044772052996625249061778018526592695351856578321911705737712463862203786775060104754188656439323953738807456360567157741068477773526412211697519629489571732346272329059552763538772533846326040298210888781892469608360804793169469798697080361886376545721596168618710092810367562438356011909610517627732568420250967453230874783386490739559172760836730782169721212576336086061027931659806669068221126439285468138858163886625544932167053246267853061513735235609465324922410361483771631309358886392404642797927041922957907530303018259443238412439338034836418676958982918499243062780641162905036863285177044439231037280483039363043451268773636380191212179546732832581569159713642904773028107475154565727826446556252787995553845173075199976707468204080559760474773555683025943705602100081120873343256330683896540343730807640610541223979590970920553475999877220075835773232737901966556297674441809863033990488972498647090131392707961751970334973732290372446705127607898874651065271392698209063970683368315028390387048993605790254536510672840789504769971614445432826721759660731386068349996891826556232734640452531539642695171398350124517491247094178591947347036236895070655736198321265341723381718346602261775166334735272943338106191849956001400572252839223990157405855078400459632165138603505040953229662557540613146222306393146684594125654195686017217806040409432826124560652512806788604753731899054882446666683669378529771706337279039735209848681767752446550632479219823048170121184881031789580997228431227237350743405139961980911644790151041246105325601764557249227705485742894926900475857879278162145652155190955823536963249706510508196077902902091726761407473100707254779308834063667982916424352102438062752268057114501663902081044239218967672926142528668072231444312469240940285158758453428893249341082087194687028503265365149293753691716446834372929831503876728419725523249638298952500266962362676493401603363903505090148147599254614182204220113047235805802301542325740611167609039419064177738944373088274231881553982141304410287052202644265466501918699395742292190992669108637913678806232079583071519898262755562674525956780874107815906404563329371185864874571619222019444619772138217120912439433714157630720873033
def C1:List (List (List Nat)):=[[]]::mkL 1 [(1,bc11),(2,bc12),(4,bc13),(7,bc14),(13,bc15),(24,bc16),(44,bc17)]
def V1:List (List (List Nat)):=[[]]::mkL 1 [(2,bw11),(5,bw12),(13,bw13),(33,bw14),(84,bw15),(214,bw16),(545,bw17)]
theorem eC1:∀k,k<=7->cls 1 k=C1.take (k + 1):=a2l rfl rfl (by decide +kernel)
theorem eV1:∀k,k<=7->wss 1 k=V1.take (k + 1):=a2c eC1 rfl rfl (by decide +kernel)
theorem oC1:OkW (cls 1 7):=by rw [eC1 7 (by decide)];exact a1v (by decide +kernel)
theorem oV1:OkW (wss 1 7):=by rw [eV1 7 (by decide)];exact a1v (by decide +kernel)
theorem x11:(x0g 2).all (wok 1 bw11)=true/\chk 1 2 bw11 1=true:=⟨by decide +kernel,by decide +kernel⟩
theorem y11:(wss 1 1).getD 1 []=unp 1 2 bw11:=by rw [eV1 1 (by decide)];rfl
theorem z11:a0o 1 1 2 1:=a0d (by decide) (by decide) (by decide) oC1 oV1 y11 x11.1 x11.2
theorem x12:(x0g 5).all (wok 2 bw12)=true/\chk 2 5 bw12 2=true:=⟨by decide +kernel,by decide +kernel⟩
theorem y12:(wss 1 2).getD 2 []=unp 2 5 bw12:=by rw [eV1 2 (by decide)];rfl
theorem z12:a0o 1 2 5 2:=a0d (by decide) (by decide) (by decide) oC1 oV1 y12 x12.1 x12.2
theorem x13:(x0g 13).all (wok 3 bw13)=true/\chk 3 13 bw13 4=true:=⟨by decide +kernel,by decide +kernel⟩
theorem y13:(wss 1 3).getD 3 []=unp 3 13 bw13:=by rw [eV1 3 (by decide)];rfl
theorem z13:a0o 1 3 13 4:=a0d (by decide) (by decide) (by decide) oC1 oV1 y13 x13.1 x13.2
theorem x14:(x0g 33).all (wok 4 bw14)=true/\chk 4 33 bw14 7=true:=⟨by decide +kernel,by decide +kernel⟩
theorem y14:(wss 1 4).getD 4 []=unp 4 33 bw14:=by rw [eV1 4 (by decide)];rfl
theorem z14:a0o 1 4 33 7:=a0d (by decide) (by decide) (by decide) oC1 oV1 y14 x14.1 x14.2
theorem x15:(x0g 84).all (wok 5 bw15)=true/\chk 5 84 bw15 13=true:=⟨by decide +kernel,by decide +kernel⟩
theorem y15:(wss 1 5).getD 5 []=unp 5 84 bw15:=by rw [eV1 5 (by decide)];rfl
theorem z15:a0o 1 5 84 13:=a0d (by decide) (by decide) (by decide) oC1 oV1 y15 x15.1 x15.2
theorem x16:(x0g 214).all (wok 6 bw16)=true/\chk 6 214 bw16 24=true:=⟨by decide +kernel,by decide +kernel⟩
theorem y16:(wss 1 6).getD 6 []=unp 6 214 bw16:=by rw [eV1 6 (by decide)];rfl
theorem z16:a0o 1 6 214 24:=a0d (by decide) (by decide) (by decide) oC1 oV1 y16 x16.1 x16.2
theorem x17:(x0g 545).all (wok 7 bw17)=true/\chk 7 545 bw17 44=true:=⟨by decide +kernel,by decide +kernel⟩
theorem y17:(wss 1 7).getD 7 []=unp 7 545 bw17:=by rw [eV1 7 (by decide)];rfl
theorem z17:a0o 1 7 545 44:=a0d (by decide) (by decide) (by decide) oC1 oV1 y17 x17.1 x17.2
def bc21:Nat:=1
def bw21:Nat:=4194305
def bc22:Nat:=58720265
def bw22:Nat:=541598933208125300465991689
def bc23:Nat:=1881568885079032201289
def bw23:Nat:=1476349917673488917632038848812819471149939242598324534407125740577265503174729
def bc24:Nat:=659991042982987464015132323663386820201000684562154057
def bw24:Nat:=152025231746617054162616445935253739815241759087516481672089204270674585948005969348469940688196657248307915974629245538411494010075680691579174854986601025254066903182677280464488384377381609838255025683859123977847369
def bc25:Nat:=1975595707517150944214816384511377230491594702213581959949865651459932128642338228235950755875132203340361
def bw25:Nat:=2618014418359418538012343516171770974116877057106154124034155421577395477721632316781554828685648125643670430978510933089055505466963745325188116527410083382732233149592317447187482139490477857777556642159819304670282029045365463427495614967896443517308205611958198794258136747879415983420272859189976148459322835654643447337325859979991140411980395880098770886399862697912677447755663620269560640424123941468772173319687731334728807830027274728792781015856500082759459200898749670601359209841947380696841139696681481061083397187329984951028408306996009389465556137502014571549257
def bc26:Nat:=4640592732328774150493766766603587085819779637487210114828688498343657272752357851363375094002136786096875148429579988287842099919959818727354184528015695982652241670086004035283049365753911257464114797744813544009
def bw26:Nat:=36778542608240666872053776626755530143789914769366160460938920289603353386738092584260374131339048784034090957315114662263021191681103061496162398134678083639170027028532793654424942348998349915846137317503004669095150787321243328209230820330604508507223992837430960849860396393624473537121045976051576774570936973287756963215991478629750018713855355581986733733048747229085332325175891800656513761575083348250992780529078135923405547184359644672507787263232039026006551361208128966151185350434243217367923225478563505795043777402051194267872169577322491381320091879743482822002208342327617261886863959845901636893082037959025022226077357051640825446439330320044726396164422474142805988298698369380092320211308644103407066487299819834965950834539432546627174390058017160903916036276220836811299183267556864430751927696877295445815662686930055676129899006327441994362267134147370933827609533427944216658015824099205930649306991407804585503895965718741565440902167677573776748627666957162971825468223484865092897351514014419718317131441963523674658322899746009426075106446980580194901945315214358239257264710313251520578525369023804083765804451457111178039543345842762392162276500622593229300571167386968531014971259072166179977587427884820703005835071355211572035411145737326297552606758770366661512646898793037921434660262282982741131315124170283518586920889348801278532691550358796422776685818663334719691832868934531892125171206250341294272360493061621867085396190039767744454192503254129333666004893818995620604774456101999177
def bc27:Nat:=3199416143317887126037931277173373385526611125464785888080203488558427785271113259449349350323483419486158228429335323078156761685462663135406471722049516117097559424815330747333812072691781873975548331755174707326768305966834300353796277736705070722478906209301774097743212089788421614430201358254788196272480695833568574818036324002397163541951116021874867535118313953908147248683157823724806235050996555088452649761795425473097
def bw27:Nat:=3254534807453989121542690703039506980201201166086784436333472303768427626883474082107299857280020393142954157579806034472669547725566498116128153543486909375739871007035102114204428781374905307970788311121951987327805488163957478287292741639304591375529131603058656634737519623987744241307935031758323316457467586923207627391668314700977112490753734063233920565066567376608739390731760097117208735142374171008099550397793421966269820885802777137459824123651798240125225315617370667872851151148806863314281690558075490477277088374379386810288364410160670413738918805859963569479982945122334527589782310215236406537201205543714891656361145927498740052299681721113914928192550401095011851581721871228417261521278222422574741192073558979930152862397966876844931179485314779144745088044059238924403470904164637845850501536071859879986174539125212766787225613199539091110638287234953283722707798206496738131632129831887350404885231089237854894959817451600900685896247766923951658409061602245045788993570791799110150802418176508642622736161015348236625476723483136560818312910701699572830934205999619301430133596319021783459085289400770584239002551424071381694805316161483389887622310437828226053132058647316789042555106845990908174346613537246323886692263802551440318950357209693517077824930474453914613070349038727699883643128357721198168824287576575146372520535227214554153710745989028234615033114402676482448057986286506131512756271360188385441127025689624176482853607998182964259755970894174548945034017997246018890279893076258865930780381249648363919278893465047545177544818171589119415692482819686434657983526366471636359145722536608535040363157671395888468945544530786439827681910910514582607821287229744353268407102530271190750752327800551506549869023915833717141679807435184939869697946553464562401095673562493115504208495992041042757949763832415436180194822979897621074586441656042211173261076323740561376898846540784933846724435618666990060782585276938754920714325688455489539752512181847663711081090408561849350906171981080927405867789942433567463012436128042346259995922140479423909111655804901399034730994573648243889153100189806596826277198611121128976154123436863957899087261658513615677267662832974710995061235723531281089376811492767323278412644691331073148912749292016184612511494657526977371083502492247811806464536907336608736699473738324322163075031291953225191911270803895657282838418662228450662334943963359339957639073830985651525845936256970881800408292935806363188473521223318429086476036204988888087936527340099972810937219389527093253524242787595467505992528418153629941703485946266519537514522446841112403199880867377712109181711379701938036673025981867571452403939981845599560294227652139828292466582759780490932768521007999122003386473163943659020828102467662509170611922679353556392251823499182159408954381944629235531612485183578054574981638704282645163318222169596341653215843771329127906714659206892966008488828802589331393910539377845895484950353397680905785650556081684238543530892477586573650392586807129785886729785839203306413332166830897402188208312351110691447453230956484876231914650762709308067536273340833672358488441520891747454431101975157545824502024030926868397166114182082090098129547535373168854332452238266259198546839698978596307446597729657887169105890981469178775779585342851112287564838502993296742310266138678075648818362026843050687663274896179619542105106129077235724722735072018703312910192715853005708416301319684814868878370670928069234429247750211701357940428147080728720721388160790359117006481910327191782279696134026058503492689217475870753781057810015838958425781274085961059870681319051944370925182782036580179921133601753129725318593685276488370443741969866762458253261078481077324228294560502586661033009517304383151011182248884649333222016507433811876983259825299558363590811485089778516346451482876043352864384171738060031033854408843623215568607927804442298923604332422488087996072116155363508798249959179020351881396328939269452199803120009003544815568458313
def C2:List (List (List Nat)):=[[]]::mkL 1 [(1,bc21),(2,bc22),(4,bc23),(9,bc24),(17,bc25),(34,bc26),(68,bc27)]
def V2:List (List (List Nat)):=[[]]::mkL 1 [(2,bw21),(5,bw22),(13,bw23),(35,bw24),(92,bw25),(242,bw26),(637,bw27)]
theorem eC2:∀k,k<=7->cls 2 k=C2.take (k + 1):=a2l rfl rfl (by decide +kernel)
theorem eV2:∀k,k<=7->wss 2 k=V2.take (k + 1):=a2c eC2 rfl rfl (by decide +kernel)
theorem oC2:OkW (cls 2 7):=by rw [eC2 7 (by decide)];exact a1v (by decide +kernel)
theorem oV2:OkW (wss 2 7):=by rw [eV2 7 (by decide)];exact a1v (by decide +kernel)
theorem x21:(x0g 2).all (wok 1 bw21)=true/\chk 1 2 bw21 1=true:=⟨by decide +kernel,by decide +kernel⟩
theorem y21:(wss 2 1).getD 1 []=unp 1 2 bw21:=by rw [eV2 1 (by decide)];rfl
theorem z21:a0o 2 1 2 1:=a0d (by decide) (by decide) (by decide) oC2 oV2 y21 x21.1 x21.2
theorem x22:(x0g 5).all (wok 2 bw22)=true/\chk 2 5 bw22 2=true:=⟨by decide +kernel,by decide +kernel⟩
theorem y22:(wss 2 2).getD 2 []=unp 2 5 bw22:=by rw [eV2 2 (by decide)];rfl
theorem z22:a0o 2 2 5 2:=a0d (by decide) (by decide) (by decide) oC2 oV2 y22 x22.1 x22.2
theorem x23:(x0g 13).all (wok 3 bw23)=true/\chk 3 13 bw23 4=true:=⟨by decide +kernel,by decide +kernel⟩
theorem y23:(wss 2 3).getD 3 []=unp 3 13 bw23:=by rw [eV2 3 (by decide)];rfl
theorem z23:a0o 2 3 13 4:=a0d (by decide) (by decide) (by decide) oC2 oV2 y23 x23.1 x23.2
theorem x24:(x0g 35).all (wok 4 bw24)=true/\chk 4 35 bw24 9=true:=⟨by decide +kernel,by decide +kernel⟩
theorem y24:(wss 2 4).getD 4 []=unp 4 35 bw24:=by rw [eV2 4 (by decide)];rfl
theorem z24:a0o 2 4 35 9:=a0d (by decide) (by decide) (by decide) oC2 oV2 y24 x24.1 x24.2
theorem x25:(x0g 92).all (wok 5 bw25)=true/\chk 5 92 bw25 17=true:=⟨by decide +kernel,by decide +kernel⟩
theorem y25:(wss 2 5).getD 5 []=unp 5 92 bw25:=by rw [eV2 5 (by decide)];rfl
theorem z25:a0o 2 5 92 17:=a0d (by decide) (by decide) (by decide) oC2 oV2 y25 x25.1 x25.2
theorem x26:(x0g 242).all (wok 6 bw26)=true/\chk 6 242 bw26 34=true:=⟨by decide +kernel,by decide +kernel⟩
theorem y26:(wss 2 6).getD 6 []=unp 6 242 bw26:=by rw [eV2 6 (by decide)];rfl
theorem z26:a0o 2 6 242 34:=a0d (by decide) (by decide) (by decide) oC2 oV2 y26 x26.1 x26.2
theorem x27:(x0g 637).all (wok 7 bw27)=true/\chk 7 637 bw27 68=true:=⟨by decide +kernel,by decide +kernel⟩
theorem y27:(wss 2 7).getD 7 []=unp 7 637 bw27:=by rw [eV2 7 (by decide)];rfl
theorem z27:a0o 2 7 637 68:=a0d (by decide) (by decide) (by decide) oC2 oV2 y27 x27.1 x27.2
def bc31:Nat:=1
def bw31:Nat:=4194305
def bc32:Nat:=58720265
def bw32:Nat:=541598933208125300465991689
def bc33:Nat:=1881568885079032201289
def bw33:Nat:=1476349917673488917632038848812819471149939242598324534407125740577265503174729
def bc34:Nat:=659991042982987464015132323663386820201000684562154057
def bw34:Nat:=152025231746617054162616445935253739815241759087516481672089204270674585948005969348469940688196657248307915974629245538411494010075680691579174854986601025254066903182677280464488384377381609838255025683859123977847369
def bc35:Nat:=37701827589988148205463553525453180597066730322556728628292973566217597722830930307237561630272327845507076790289320309103792230985
def bw35:Nat:=49958060987402435989825742122561261351985767227157226565467481454030574339009256334265549267169741106071787025794544887310095502719648942028227210867648880867103934833292353855979749513172809498014901121696555598180914188696593658570788694098797988689732415153346562653959588876639184735307234817526991565470884012456020004042209808206659794226429215820490994478286634258028976611956574258897357557845625279662799749440480074583648484922737394682605959336875581336357041083989305888188440344425624854801694129987359772615390666692078620419860361384509561488074779368522792295338413103816183106590639919689
def bc36:Nat:=1712712142221790757342982326310237584841528187278445863435244199758052578605348022231255377219099062323534973714021221086937778399106969169862933906502930333545595448799151750351998401783327359241562224421348868097556849767924098765212179310491151551051323741868617
def bw36:Nat:=5078653749957236020738144595202598914633405814696221242029723438623778457673749699891291730770906892667941037811041223829331046673239818141787656504725397047775766444062232056081589442689963089731224658298203947192897316053196122153861798752489973501650113641015416434488471385913423949410137221875712996162404466139278788489936685543966346503402113055266730238313603222661805286477547060086193271372236603273537621114932398175152978155695270002510225531849552130693898670459110683083538069840734022651382784003736113604402996365274122679906437872638571786634034049983591206843241134879188753945139654983363698683391318721682460955045172808754124013403132700149012918503933550336733201364403035493767873198712831400208699480909794948045459494828142319149547776460823100273430322774683885040435081588842874939406991147098363801264872800856770676804988550166915287706057773509919003379940089014612114219577273674950018671976528105438733825766163442486376959629859049950186608947045191755623135976530401537908235485236086378866569203702915801028007119393094397334000980037186960904514607327425218398277826633891521670229801359307401861454359256143404551301972285328877841928631991312225445962286439600856836159528052175607493957516838912990798271619851058881541780822495074939529091284174211399448914392296280820637222830604875348540555381776797811075024710186690974999300268159327196834679747369585911416777744166097174822432783816965799574516352993252016424833549432399633350537357858114117300177652666618333451246808624532660184062508747789578842795860249102344509766717122562089060538743403430566618406769783333243530600920420937
def bc37:Nat:=8545941573728948236882271677429309783504293133913884091923493013128885843349520656348726710287464320010197377345566952387501070219167908806154916469463431124018390728004740875003830414854489654254834021443826501329662423548576191900233002968393097259454439061768629040221015449049542301227892236708174608833961367169359767559913058340261965038332568582690663603832095148078554501386544046379886235589741113125664073811518547067258294862313652411759567113883498383011584605618094044848245135623910313543489455236888896351783465365661931107170406121571914313
def bw37:Nat:=3294995533461753425527416528948270813938252942682434961668645892758443537986013307256670821371554524494728681042052965536368208410519584592480985281941109852833380593001637456479531964837559277803797651114742378956254720951777327017984469854409679515431646969743431455647538220240090994696771804423422406346269886234775707110658626256425029716369823945973410475956900229405938967010432056592433454542315877992112594725291185379408611966982680569271813487779313984161692072554652140764480338258725212549040543579388008288717040363083779135296903166924307613269440351232576899913445247809574478187332158860930439109942412161018614104394571391755008142015015284143794961005175661679001234845695482794612470091611175365826803286962023051917795301647737755691455300759376294210232395922196822844899281700432275049098254473793436585298554668181512820050875483816234908933975383874161330468005627131537029204294670266111111945246779799454905539779681995721014339797187567983236144168459676500885256434550797709438200927774855938633060166788609271429951126611470349212087990857908402045912787039244872015808994594058780698698049237951554462111206816172638648660221500419242678858058846600745853447614749804425073000944299436974793593577087643739202895849380361850843486674063550631315939618465666947966998064702919105878299173645000350211663535908708691467844194121929191743299017149831086648030774035406607986317020895298221159244635200139061008607827386145463331170123894731769171442963334255042441536317860718809890419543386287194630761035802031621357795360459399505839597834782993727495411481384358953199581901194225866038425045940741009772251953015506971637990166945457693529863433701460255631323884357901583501785043405505545008194514621880763600633305606258188875052348385668794268729405564553342120151920636496518273255313268457733956625225627876284457820259571830435066954018878538535676958009578036791053377257764991543637504122812277188909383859721053508539465085235826717810514425953346741729667893044656203507390055910629826138161542739433319705323011248075372303208066935533703501948859833122927233325364936363359920873933965362278611235549681549027216616386945738155598509103887500734367673375718687243807956826970435326250831210366345819199824296176692611772181703783057645546810948040987688476028159401580603216087568305828344345847271574685310101134701973029431665378530997664838554866579247323711654482947121004621383382415545472191453649749673401341411115602525075719434155128173009693244897003811255731365354461992596477859007363921971750503891173506844451352007386144038750035285100754877029446138477319405018236221936031373954459428843681889414765108895769332360529740722442810769471598128005660154996271363758796388154220826777622421492221277563759756846873222936200436633923991859249133807740452798034552727796334308869749101223534512220827710025511068795275877774881835375997771278547936796158451347749229556519117143356929374882588385194070455620524224794482392138787477304366557164917214399255799495044862883637262473580106010737289569674401448626536459056434231608247378313481593388968389417736169820022616352175386471131379238222968147929792116632496351292121041283625177287162767741756992559101823639147023115389476372852975335526024885157819963214930035198414729640916574575602421757368713384620571436378500540343682612207792689428159469064011486192962202876349974371009782786219017318441822256433181349647751075515066814582222258147944523458610806013055469675405332011015705121514386531162340884556766631167503360705389125917505545077405791317603605687507888557797115348028056270026336005700272458205304120012116176758079991143576190594599667611669527685437231258129474621167456865844800660049000423787257652237950621969654183165822400954474829010248050085253688304875956364607976198106831066245562785794987833868535475936768114945316491330049844926086765205912719419441700144879637780165718097709699705561532287313192154700975699501333095181127260289327181305030268971021268081744683369062171766476439758274057649271346415131389475508197369248966412456568322522710657074143542422827266910057937968264948528184100143360489248852251004004353574643764478524455843260657531946647934601566564851457585846795567388268299097928909374447080119866319835419908459364900031943344329746496325067031779994441654025432797611701497263408956863881691077296566533429170761
def C3:List (List (List Nat)):=[[]]::mkL 1 [(1,bc31),(2,bc32),(4,bc33),(9,bc34),(21,bc35),(42,bc36),(88,bc37)]
def V3:List (List (List Nat)):=[[]]::mkL 1 [(2,bw31),(5,bw32),(13,bw33),(35,bw34),(96,bw35),(258,bw36),(693,bw37)]
theorem eC3:∀k,k<=7->cls 3 k=C3.take (k + 1):=a2l rfl rfl (by decide +kernel)
theorem eV3:∀k,k<=7->wss 3 k=V3.take (k + 1):=a2c eC3 rfl rfl (by decide +kernel)
theorem oC3:OkW (cls 3 7):=by rw [eC3 7 (by decide)];exact a1v (by decide +kernel)
theorem oV3:OkW (wss 3 7):=by rw [eV3 7 (by decide)];exact a1v (by decide +kernel)
theorem x31:(x0g 2).all (wok 1 bw31)=true/\chk 1 2 bw31 1=true:=⟨by decide +kernel,by decide +kernel⟩
theorem y31:(wss 3 1).getD 1 []=unp 1 2 bw31:=by rw [eV3 1 (by decide)];rfl
theorem z31:a0o 3 1 2 1:=a0d (by decide) (by decide) (by decide) oC3 oV3 y31 x31.1 x31.2
theorem x32:(x0g 5).all (wok 2 bw32)=true/\chk 2 5 bw32 2=true:=⟨by decide +kernel,by decide +kernel⟩
theorem y32:(wss 3 2).getD 2 []=unp 2 5 bw32:=by rw [eV3 2 (by decide)];rfl
theorem z32:a0o 3 2 5 2:=a0d (by decide) (by decide) (by decide) oC3 oV3 y32 x32.1 x32.2
theorem x33:(x0g 13).all (wok 3 bw33)=true/\chk 3 13 bw33 4=true:=⟨by decide +kernel,by decide +kernel⟩
theorem y33:(wss 3 3).getD 3 []=unp 3 13 bw33:=by rw [eV3 3 (by decide)];rfl
theorem z33:a0o 3 3 13 4:=a0d (by decide) (by decide) (by decide) oC3 oV3 y33 x33.1 x33.2
theorem x34:(x0g 35).all (wok 4 bw34)=true/\chk 4 35 bw34 9=true:=⟨by decide +kernel,by decide +kernel⟩
theorem y34:(wss 3 4).getD 4 []=unp 4 35 bw34:=by rw [eV3 4 (by decide)];rfl
theorem z34:a0o 3 4 35 9:=a0d (by decide) (by decide) (by decide) oC3 oV3 y34 x34.1 x34.2
theorem x35:(x0g 96).all (wok 5 bw35)=true/\chk 5 96 bw35 21=true:=⟨by decide +kernel,by decide +kernel⟩
theorem y35:(wss 3 5).getD 5 []=unp 5 96 bw35:=by rw [eV3 5 (by decide)];rfl
theorem z35:a0o 3 5 96 21:=a0d (by decide) (by decide) (by decide) oC3 oV3 y35 x35.1 x35.2
theorem x36:(x0g 258).all (wok 6 bw36)=true/\chk 6 258 bw36 42=true:=⟨by decide +kernel,by decide +kernel⟩
theorem y36:(wss 3 6).getD 6 []=unp 6 258 bw36:=by rw [eV3 6 (by decide)];rfl
theorem z36:a0o 3 6 258 42:=a0d (by decide) (by decide) (by decide) oC3 oV3 y36 x36.1 x36.2
theorem x37:(x0g 693).all (wok 7 bw37)=true/\chk 7 693 bw37 88=true:=⟨by decide +kernel,by decide +kernel⟩
theorem y37:(wss 3 7).getD 7 []=unp 7 693 bw37:=by rw [eV3 7 (by decide)];rfl
theorem z37:a0o 3 7 693 88:=a0d (by decide) (by decide) (by decide) oC3 oV3 y37 x37.1 x37.2
def bc41:Nat:=1
def bw41:Nat:=4194305
def bc42:Nat:=58720265
def bw42:Nat:=541598933208125300465991689
def bc43:Nat:=1881568885079032201289
def bw43:Nat:=1476349917673488917632038848812819471149939242598324534407125740577265503174729
def bc44:Nat:=659991042982987464015132323663386820201000684562154057
def bw44:Nat:=152025231746617054162616445935253739815241759087516481672089204270674585948005969348469940688196657248307915974629245538411494010075680691579174854986601025254066903182677280464488384377381609838255025683859123977847369
def bc45:Nat:=37701827589988148205463553525453180597066730322556728628292973566217597722830930307237561630272327845507076790289320309103792230985
def bw45:Nat:=49958060987402435989825742122561261351985767227157226565467481454030574339009256334265549267169741106071787025794544887310095502719648942028227210867648880867103934833292353855979749513172809498014901121696555598180914188696593658570788694098797988689732415153346562653959588876639184735307234817526991565470884012456020004042209808206659794226429215820490994478286634258028976611956574258897357557845625279662799749440480074583648484922737394682605959336875581336357041083989305888188440344425624854801694129987359772615390666692078620419860361384509561488074779368522792295338413103816183106590639919689
def bc46:Nat:=1356248381700230602438919104046016598446188933983829907579416766793904665393622287882379987565836810230734054687911564030132664366563299757308779983792097986199012083523445434233161180398418551777939955998423230091151103643390899527515040727149830101246860867954128531087079270922998237299166574503317987195559740381893193
def bw46:Nat:=4021606413382692341883724045732506900292711491953994988539760883776738478444313846544748125758580279138556090913148978228427876300091546680567630845055890710303804167996670742765661957704686276234816438117012891647107516206764598564302638280641674384293965802269910191193875493120106203950440286664520777157846318326331635634479450570909226149902835876865545093170232824942728167488387692336212027278852049078675453151026098168444668733947752258973669351095463812087146842989243727804539411619748600246228505151388910051199874373543358180490343411027071528772835817784281729126332694845848949285031501161704957849960978361011882123089335677850613771692369482782996054926272816559810745085293299518351739861409147144613258900917783221440089567277682803640312079237847715610666706434179997427033440581200343215196525609900134510562791951934553555692582666813610512158392405026978918739458655507101616333791450153162370505004675171478519240181548867656390733426224208785736825201630715597957047110105500899047415178432887085110535936219125069207673743970133341900716670567780372583870920684123067225683436330312858623835330735990313649137948447468963452864821091817322182050328837716497985149123925421747480392571546880474388400579907459562381506997094821223527025340316888241757162021829885548379502745404339097232089335041566277111581326439728161976070822389201576573247329728384700607499871365717637172467727067510465462522349423029889610271066678878346350696845778963493724675555563824718345956054030417065783902731052088218115337568407909715402303523520928431702880313920367400862991705260101557196710685039213770090135341724181788230370887334567451193418031242586111681525154184204873
def bc47:Nat:=5309757594611139284573198798425701427742158062997762588605599297741482690877972903912998300476327833406010845422122177330904994849229420663452171456424126902196376099266058794016561135349276507684515383883357237843202522512240870024938688937033078070624823173917164109740411837700943704557970661223368265165772239478172160065498341412576264284081344506013057789558008703380053480076423539510261161685006160033922628068724700041695256916597435147218383166797946444092371136747380025274056696434064136431337797585202514036655607906511416096457756526338895818738854371613168025443425743422106773027510782271523339907959598528130236335421908804141896787147965794407334318665
def bw47:Nat:=1260400166188991802656503769300634993453047346944797394889150928787076105493351137526539496906518733036568908979932995556591096091686720842244539177467682120284096535431823452677056121078267660883997520124627720634424310630957250827371617296112447762685969717379316483989205775242654854806996696879841513542922428317106567251969400079173506926737232760667970981087452896666021637345913288077553690774345085914784186876946436364651983655840927229738836683752527969786469385179347494190632918603671764303588484376101842767099584255808263529765733750288734158835303460759163362919625118557303980287111113153054369257896426264266661509365226240966270021650201294039020629909784374878342840539235277404877141653819730371414082306224418957450989329627034781596992527587027544885426977271923175765040886335101600566302982874543837906584012697057019515711974872695557636594491483258756160628458796055008045918148107754533646469999193780325606267403868280265429009492220627075839338914125440806598339898069882026228872321406449945944665403145632608963084856511802604476565856061871186787884924200505813349770415849690947973711523502194929847579198362935480108415232680857607109207611378012965084922593156766625980861641581412662212212673352865682779246895630464524254422711232821736008112200297014404857824993266197087216915807601524360574169023801782924387029921930900669844253583509791593041055560371663440509623757603302671956038208539681614721001719484457237442523146651570041223450167301835020154598186020009145965968153346941639243748234640595332481795357338339654605592611531709036285903204175534031359601337838237836925822606434891784308321442933540602856957731806099627191205272983286009103819938323872247509196370876527271898734182613644844820524682679938947291126075008706508007324119900545739650112450282241741435898773186510554826514860803365811601187730600311130814211890947315123346415838646052198351012803694288422763982855719947919142093146153427061528742108712540043155004733170644393605644360333222849411355694291142492019193321973373501807070189805713735580291250369275062680452770683321455048835611305694621999104494799601303119026470751826244705712952922277074359131502004649340177191284849883749550952795840690301071387697032081659474509788060887413104370615066646902676122027469511541213235167959009718668580500451473450263821933242198543239430944111650857748023582048617592624490377904783140419493148713623211233616613522316558019683776684883579892708740249768255722846462165205428287546129132155314625054540294221069195182310293994485528495982315559454083857661510341937537743701932891744113746980026182060529910387172226954954273150524607082148934150406830839119916827780652833462413127378124879605239046749689016921549574197096294424615200555349144640638983478526717024862993010885842985852074911743873687058586355272694905650985042551651879153370945814772946059482742220051646917549499807694248156550718378041674125507727743639442759746069192666993571516790062449957727491768943657499399505958697894179650638533342086971327716899413181776016104454451223957108943919167194481238736125539745670744522564440826412494412572983477823606554259174120270582853629755365920120163911897847370083731177083178511661157574169332314869362611450041166481658310958975056740146525846950085453213053461668677783535359215845488614640815104830199658606783017186202138514210855786148076670454231251626849675829343902084379883133638482488813323785523577971864333840366474981007032161210250205582770633209843211821568257247549447902722732418375139401137441962497558838026451724274486309774795596252560735373305066216883283715136778966733296840299985812011719784626564437557652885674369216229793373068801403617146037596989006689035193106051074633460815621042029979227898279622629890083077505651620227631527739882815383158804313057201046834515028362593482476054470748704350048259781586978271303572277765675856024872977525584702187978718472589703978326682346593018548395684061678321316505158924816227435818444104972500870549363275696991670930595290730445954962963481561737809811044558218627541856804419486356694919770745950644631272374224633069679593184119904025761027280945608024475306614525109660062907868992944036485842212309714420134319300403940039969303074437375623788882733583267582606140041797149766416815038052022723701952498731060290179875905466318786968615761555175497997962948350675359509266560573306649187826217143054952611369315973667302103814625087978156497461440181179792973517085287200869931502210436037672919455695539212010767537113769320546836136819267460209924208275887380375013564381328998437449
def C4:List (List (List Nat)):=[[]]::mkL 1 [(1,bc41),(2,bc42),(4,bc43),(9,bc44),(21,bc45),(51,bc46),(106,bc47)]
def V4:List (List (List Nat)):=[[]]::mkL 1 [(2,bw41),(5,bw42),(13,bw43),(35,bw44),(96,bw45),(267,bw46),(729,bw47)]
theorem eC4:∀k,k<=7->cls 4 k=C4.take (k + 1):=a2l rfl rfl (by decide +kernel)
theorem eV4:∀k,k<=7->wss 4 k=V4.take (k + 1):=a2c eC4 rfl rfl (by decide +kernel)
theorem oC4:OkW (cls 4 7):=by rw [eC4 7 (by decide)];exact a1v (by decide +kernel)
theorem oV4:OkW (wss 4 7):=by rw [eV4 7 (by decide)];exact a1v (by decide +kernel)
theorem x41:(x0g 2).all (wok 1 bw41)=true/\chk 1 2 bw41 1=true:=⟨by decide +kernel,by decide +kernel⟩
theorem y41:(wss 4 1).getD 1 []=unp 1 2 bw41:=by rw [eV4 1 (by decide)];rfl
theorem z41:a0o 4 1 2 1:=a0d (by decide) (by decide) (by decide) oC4 oV4 y41 x41.1 x41.2
theorem x42:(x0g 5).all (wok 2 bw42)=true/\chk 2 5 bw42 2=true:=⟨by decide +kernel,by decide +kernel⟩
theorem y42:(wss 4 2).getD 2 []=unp 2 5 bw42:=by rw [eV4 2 (by decide)];rfl
theorem z42:a0o 4 2 5 2:=a0d (by decide) (by decide) (by decide) oC4 oV4 y42 x42.1 x42.2
theorem x43:(x0g 13).all (wok 3 bw43)=true/\chk 3 13 bw43 4=true:=⟨by decide +kernel,by decide +kernel⟩
theorem y43:(wss 4 3).getD 3 []=unp 3 13 bw43:=by rw [eV4 3 (by decide)];rfl
theorem z43:a0o 4 3 13 4:=a0d (by decide) (by decide) (by decide) oC4 oV4 y43 x43.1 x43.2
theorem x44:(x0g 35).all (wok 4 bw44)=true/\chk 4 35 bw44 9=true:=⟨by decide +kernel,by decide +kernel⟩
theorem y44:(wss 4 4).getD 4 []=unp 4 35 bw44:=by rw [eV4 4 (by decide)];rfl
theorem z44:a0o 4 4 35 9:=a0d (by decide) (by decide) (by decide) oC4 oV4 y44 x44.1 x44.2
theorem x45:(x0g 96).all (wok 5 bw45)=true/\chk 5 96 bw45 21=true:=⟨by decide +kernel,by decide +kernel⟩
theorem y45:(wss 4 5).getD 5 []=unp 5 96 bw45:=by rw [eV4 5 (by decide)];rfl
theorem z45:a0o 4 5 96 21:=a0d (by decide) (by decide) (by decide) oC4 oV4 y45 x45.1 x45.2
theorem x46:(x0g 267).all (wok 6 bw46)=true/\chk 6 267 bw46 51=true:=⟨by decide +kernel,by decide +kernel⟩
theorem y46:(wss 4 6).getD 6 []=unp 6 267 bw46:=by rw [eV4 6 (by decide)];rfl
theorem z46:a0o 4 6 267 51:=a0d (by decide) (by decide) (by decide) oC4 oV4 y46 x46.1 x46.2
theorem x47:(x0g 729).all (wok 7 bw47)=true/\chk 7 729 bw47 106=true:=⟨by decide +kernel,by decide +kernel⟩
theorem y47:(wss 4 7).getD 7 []=unp 7 729 bw47:=by rw [eV4 7 (by decide)];rfl
theorem z47:a0o 4 7 729 106:=a0d (by decide) (by decide) (by decide) oC4 oV4 y47 x47.1 x47.2
def bc51:Nat:=1
def bw51:Nat:=4194305
def bc52:Nat:=58720265
def bw52:Nat:=541598933208125300465991689
def bc53:Nat:=1881568885079032201289
def bw53:Nat:=1476349917673488917632038848812819471149939242598324534407125740577265503174729
def bc54:Nat:=659991042982987464015132323663386820201000684562154057
def bw54:Nat:=152025231746617054162616445935253739815241759087516481672089204270674585948005969348469940688196657248307915974629245538411494010075680691579174854986601025254066903182677280464488384377381609838255025683859123977847369
def bc55:Nat:=37701827589988148205463553525453180597066730322556728628292973566217597722830930307237561630272327845507076790289320309103792230985
def bw55:Nat:=49958060987402435989825742122561261351985767227157226565467481454030574339009256334265549267169741106071787025794544887310095502719648942028227210867648880867103934833292353855979749513172809498014901121696555598180914188696593658570788694098797988689732415153346562653959588876639184735307234817526991565470884012456020004042209808206659794226429215820490994478286634258028976611956574258897357557845625279662799749440480074583648484922737394682605959336875581336357041083989305888188440344425624854801694129987359772615390666692078620419860361384509561488074779368522792295338413103816183106590639919689
def bc56:Nat:=1356248381700230602438919104046016598446188933983829907579416766793904665393622287882379987565836810230734054687911564030132664366563299757308779983792097986199012083523445434233161180398418551777939955998423230091151103643390899527515040727149830101246860867954128531087079270922998237299166574503317987195559740381893193
def bw56:Nat:=4021606413382692341883724045732506900292711491953994988539760883776738478444313846544748125758580279138556090913148978228427876300091546680567630845055890710303804167996670742765661957704686276234816438117012891647107516206764598564302638280641674384293965802269910191193875493120106203950440286664520777157846318326331635634479450570909226149902835876865545093170232824942728167488387692336212027278852049078675453151026098168444668733947752258973669351095463812087146842989243727804539411619748600246228505151388910051199874373543358180490343411027071528772835817784281729126332694845848949285031501161704957849960978361011882123089335677850613771692369482782996054926272816559810745085293299518351739861409147144613258900917783221440089567277682803640312079237847715610666706434179997427033440581200343215196525609900134510562791951934553555692582666813610512158392405026978918739458655507101616333791450153162370505004675171478519240181548867656390733426224208785736825201630715597957047110105500899047415178432887085110535936219125069207673743970133341900716670567780372583870920684123067225683436330312858623835330735990313649137948447468963452864821091817322182050328837716497985149123925421747480392571546880474388400579907459562381506997094821223527025340316888241757162021829885548379502745404339097232089335041566277111581326439728161976070822389201576573247329728384700607499871365717637172467727067510465462522349423029889610271066678878346350696845778963493724675555563824718345956054030417065783902731052088218115337568407909715402303523520928431702880313920367400862991705260101557196710685039213770090135341724181788230370887334567451193418031242586111681525154184204873
def bc57:Nat:=30099680079980394923759718925536248859486811907759311709562697902710627893360949757469470636466446080887294080490945454266044423213426186613946477719554143368593452655937551579283857547406994383821305305641397086580636591701133022867879447199755469106646229228956797614766659257356515636285958524797110533616273932010457877987879135458818051937612258257973436742576495831167329573477092017922283394125960784443526456854000698030324792137950428602133024291901110422343612080914769830138551801275972124828021985661780737240974026127189307470891409265157143520059894717969647435159341486066130029155771031252434479769193284747844673387316136772792847590436482977893274359176711990317039948854171217914709183838058969148808001516328796185649449335276238370499514256541837029468156139421682262683483107529289
def bw57:Nat:=7144883494315292656485137098266428425498996163668573815334537597441415107881323640324352967192715515520382802281177553863546659653358369768121006216479441654357300251173674986856276328131443167082040706451759281691075113411238017679289879791017845712232196550331089960656709790811093257884282268355181836040690161816052430602572017264771980134486953751911029742513428207110052732227149605272515227534070060466337304667150010698338574002223871621321357727794067270199069268543654736574642520767092864061314716914676131074679580406593846537521775287170771381143635799086454380930667247370593545531729789519117954891904769370296663609642690789709835409218303191851573921888393898023504177260936743750911636280607787612506195672888568882092208411776037917472960627440974077081181230370577975156045521030312157442406603209869167720646245379874402339223571797058797252108527575566660242021247720071895021785969213599569465339502391857634045338909282859330481399219151116915308032915251866891102172424238173251225970476678586011703169867576543026945439665766665446331637832208748544614366338251416517083198386087611869498823812707032305686689028888061552471853674831334563406091491770634657653798308556906776853822365948413180485151011351626127084875087368118766052764686853220672542862372943531884216380052595079176789153523666864113144292620352089365789005262994892479296483403695547755679998717445518937498851593502646270514788919462558489261050849544546452650980803353434942403735016583533701127348591874596168433650651967906712082468022513638795550915794788785721300061376745587117445388516163584630990199801021450562076891551109294358950209827910924140504210683718312654624425423665975981071862757778877704939473617547087720351026914919271405680080975531505120974645280896676889735234918345082906521495080120365616274160822062120621131330840299733728407464862321790664114881295597479088039530700255237252895638303018864204938133671313587049213343886638317532031654798281454965798081715947615257621178944136197432385968486941431309304856984744398604972871509078342979303584038884573197242248281537878592201143656405377333456575679782911587987288920103093532722125305975252836611481182281962484079465933676645290923778703522452931082322833038638875296995476157978479253916221882407034408459828072562918749198631545038291462959917097287306425288592378603960905264920986090680812465542321610483243240739666491310274947773107568808721516077702218851154366622514280853185747232065791199321073727127956906273276362981653811226358436809492966460317309982634993834770899850190216741432544553314732345030567615622923092948665258296454075008368852573863751637719819764604495878313133551913024427259329593785623273548755305584494087001131570849742348924911229665677192756993212698521610554658159488998828161632322985163454980355695722864486198598418275291984298947121835665607837771563324891928424258607276426701091910922202882670435603017858719073689074337412693485390543535619295951685564354367649490980213214125116986525331636105839683536174464410274763212066142859579988729213655786558704949979065808826118326931177935930381250219458108639495654218528912307157924592066485033253741626213324000646432450091966928196123298853650332329922740929847348216022138007233556353019224380272888980169871369703988375272794134500828722626154451347925468942697173074561083734361727932066213771871100843309994127580638924000808997532371985316756578779312386894046580403742956666367879207587236689083687612226693097508929845068980299794369613251316369019260532499237273895299908652128894276352157528843646853180722617068748276108798540376776293167178495523365638940824519502306395550674820520719733758552349819751178100072996803476626226251912361367000089338133297470156345336253871992511422621074743963173720175940809668099238777008424990777967813073683731930902461378171990179323304073866381050884172937649990786596192918322208612005354107732180070730834310376909429725234936421591074128345593804702051909841181168943238254973757505802603310626436867635199472288399611160102607720083796793408364507249326549614589689524669500344603730639980097539578423058877672683538147356636461815251359756764507428116995225185554807181672837368301049199737706720402746671216253968900821837125149068135119795596272155182378872854454823650974904483527708409656894280850853044817885386308750141475983546480794826933615955471643097106704252569058997981623420579095312385772013064537756903322025245987965035739859711699910855513735500235548697858948172032144030145171974822622633435777228091446932768516578105717030956431579516961969193424137783170848619529352066228026197191247290966165313485088290908610329709858270935056850260597101020212089127275859277367818882284738974159508041
def C5:List (List (List Nat)):=[[]]::mkL 1 [(1,bc51),(2,bc52),(4,bc53),(9,bc54),(21,bc55),(51,bc56),(127,bc57)]
def V5:List (List (List Nat)):=[[]]::mkL 1 [(2,bw51),(5,bw52),(13,bw53),(35,bw54),(96,bw55),(267,bw56),(750,bw57)]
theorem eC5:∀k,k<=7->cls 5 k=C5.take (k + 1):=a2l rfl rfl (by decide +kernel)
theorem eV5:∀k,k<=7->wss 5 k=V5.take (k + 1):=a2c eC5 rfl rfl (by decide +kernel)
theorem oC5:OkW (cls 5 7):=by rw [eC5 7 (by decide)];exact a1v (by decide +kernel)
theorem oV5:OkW (wss 5 7):=by rw [eV5 7 (by decide)];exact a1v (by decide +kernel)
theorem x51:(x0g 2).all (wok 1 bw51)=true/\chk 1 2 bw51 1=true:=⟨by decide +kernel,by decide +kernel⟩
theorem y51:(wss 5 1).getD 1 []=unp 1 2 bw51:=by rw [eV5 1 (by decide)];rfl
theorem z51:a0o 5 1 2 1:=a0d (by decide) (by decide) (by decide) oC5 oV5 y51 x51.1 x51.2
theorem z61:a0o 6 1 2 1:=a0d (by decide) (by decide) (by decide) (by rw [cls5 (by decide) 7 (by decide)];exact oC5) (by rw [wss5 (by decide) 7 (by decide)];exact oV5) (by rw [wss5 (by decide) 1 (by decide)];exact y51) x51.1 x51.2
theorem z71:a0o 7 1 2 1:=a0d (by decide) (by decide) (by decide) (by rw [cls5 (by decide) 7 (by decide)];exact oC5) (by rw [wss5 (by decide) 7 (by decide)];exact oV5) (by rw [wss5 (by decide) 1 (by decide)];exact y51) x51.1 x51.2
theorem x52:(x0g 5).all (wok 2 bw52)=true/\chk 2 5 bw52 2=true:=⟨by decide +kernel,by decide +kernel⟩
theorem y52:(wss 5 2).getD 2 []=unp 2 5 bw52:=by rw [eV5 2 (by decide)];rfl
theorem z52:a0o 5 2 5 2:=a0d (by decide) (by decide) (by decide) oC5 oV5 y52 x52.1 x52.2
theorem z62:a0o 6 2 5 2:=a0d (by decide) (by decide) (by decide) (by rw [cls5 (by decide) 7 (by decide)];exact oC5) (by rw [wss5 (by decide) 7 (by decide)];exact oV5) (by rw [wss5 (by decide) 2 (by decide)];exact y52) x52.1 x52.2
theorem z72:a0o 7 2 5 2:=a0d (by decide) (by decide) (by decide) (by rw [cls5 (by decide) 7 (by decide)];exact oC5) (by rw [wss5 (by decide) 7 (by decide)];exact oV5) (by rw [wss5 (by decide) 2 (by decide)];exact y52) x52.1 x52.2
theorem x53:(x0g 13).all (wok 3 bw53)=true/\chk 3 13 bw53 4=true:=⟨by decide +kernel,by decide +kernel⟩
theorem y53:(wss 5 3).getD 3 []=unp 3 13 bw53:=by rw [eV5 3 (by decide)];rfl
theorem z53:a0o 5 3 13 4:=a0d (by decide) (by decide) (by decide) oC5 oV5 y53 x53.1 x53.2
theorem z63:a0o 6 3 13 4:=a0d (by decide) (by decide) (by decide) (by rw [cls5 (by decide) 7 (by decide)];exact oC5) (by rw [wss5 (by decide) 7 (by decide)];exact oV5) (by rw [wss5 (by decide) 3 (by decide)];exact y53) x53.1 x53.2
theorem z73:a0o 7 3 13 4:=a0d (by decide) (by decide) (by decide) (by rw [cls5 (by decide) 7 (by decide)];exact oC5) (by rw [wss5 (by decide) 7 (by decide)];exact oV5) (by rw [wss5 (by decide) 3 (by decide)];exact y53) x53.1 x53.2
theorem x54:(x0g 35).all (wok 4 bw54)=true/\chk 4 35 bw54 9=true:=⟨by decide +kernel,by decide +kernel⟩
theorem y54:(wss 5 4).getD 4 []=unp 4 35 bw54:=by rw [eV5 4 (by decide)];rfl
theorem z54:a0o 5 4 35 9:=a0d (by decide) (by decide) (by decide) oC5 oV5 y54 x54.1 x54.2
theorem z64:a0o 6 4 35 9:=a0d (by decide) (by decide) (by decide) (by rw [cls5 (by decide) 7 (by decide)];exact oC5) (by rw [wss5 (by decide) 7 (by decide)];exact oV5) (by rw [wss5 (by decide) 4 (by decide)];exact y54) x54.1 x54.2
theorem z74:a0o 7 4 35 9:=a0d (by decide) (by decide) (by decide) (by rw [cls5 (by decide) 7 (by decide)];exact oC5) (by rw [wss5 (by decide) 7 (by decide)];exact oV5) (by rw [wss5 (by decide) 4 (by decide)];exact y54) x54.1 x54.2
theorem x55:(x0g 96).all (wok 5 bw55)=true/\chk 5 96 bw55 21=true:=⟨by decide +kernel,by decide +kernel⟩
theorem y55:(wss 5 5).getD 5 []=unp 5 96 bw55:=by rw [eV5 5 (by decide)];rfl
theorem z55:a0o 5 5 96 21:=a0d (by decide) (by decide) (by decide) oC5 oV5 y55 x55.1 x55.2
theorem z65:a0o 6 5 96 21:=a0d (by decide) (by decide) (by decide) (by rw [cls5 (by decide) 7 (by decide)];exact oC5) (by rw [wss5 (by decide) 7 (by decide)];exact oV5) (by rw [wss5 (by decide) 5 (by decide)];exact y55) x55.1 x55.2
theorem z75:a0o 7 5 96 21:=a0d (by decide) (by decide) (by decide) (by rw [cls5 (by decide) 7 (by decide)];exact oC5) (by rw [wss5 (by decide) 7 (by decide)];exact oV5) (by rw [wss5 (by decide) 5 (by decide)];exact y55) x55.1 x55.2
theorem x56:(x0g 267).all (wok 6 bw56)=true/\chk 6 267 bw56 51=true:=⟨by decide +kernel,by decide +kernel⟩
theorem y56:(wss 5 6).getD 6 []=unp 6 267 bw56:=by rw [eV5 6 (by decide)];rfl
theorem z56:a0o 5 6 267 51:=a0d (by decide) (by decide) (by decide) oC5 oV5 y56 x56.1 x56.2
theorem z66:a0o 6 6 267 51:=a0d (by decide) (by decide) (by decide) (by rw [cls5 (by decide) 7 (by decide)];exact oC5) (by rw [wss5 (by decide) 7 (by decide)];exact oV5) (by rw [wss5 (by decide) 6 (by decide)];exact y56) x56.1 x56.2
theorem z76:a0o 7 6 267 51:=a0d (by decide) (by decide) (by decide) (by rw [cls5 (by decide) 7 (by decide)];exact oC5) (by rw [wss5 (by decide) 7 (by decide)];exact oV5) (by rw [wss5 (by decide) 6 (by decide)];exact y56) x56.1 x56.2
theorem x57:(x0g 750).all (wok 7 bw57)=true/\chk 7 750 bw57 127=true:=⟨by decide +kernel,by decide +kernel⟩
theorem y57:(wss 5 7).getD 7 []=unp 7 750 bw57:=by rw [eV5 7 (by decide)];rfl
theorem z57:a0o 5 7 750 127:=a0d (by decide) (by decide) (by decide) oC5 oV5 y57 x57.1 x57.2
theorem z67:a0o 6 7 750 127:=a0d (by decide) (by decide) (by decide) (by rw [cls5 (by decide) 7 (by decide)];exact oC5) (by rw [wss5 (by decide) 7 (by decide)];exact oV5) (by rw [wss5 (by decide) 7 (by decide)];exact y57) x57.1 x57.2
theorem z77:a0o 7 7 750 127:=a0d (by decide) (by decide) (by decide) (by rw [cls5 (by decide) 7 (by decide)];exact oC5) (by rw [wss5 (by decide) 7 (by decide)];exact oV5) (by rw [wss5 (by decide) 7 (by decide)];exact y57) x57.1 x57.2
def Gd (m r len cnt:Nat):Bool:=decide ((len:Int)=(hms r (ccs r m) m).getD m 0) && decide ((cnt:Int)=(ccs r m).getD m 0) && (!decide (m<=r + 2) || (decide (len=[2,5,13,35,96,267,750].getD (m - 1) 0) && decide (cnt=[1,2,4,9,21,51,127].getD (m - 1) 0)))
theorem good (m r:Nat)(h1:1<=m)(h7:m<=7)(hr:r < 8):∃len cnt,a0o r m len cnt/\len<=1000/\Gd m r len cnt=true:=by
 match m,r,h1,h7,hr with
 | 1,0,_,_,_=>exact⟨2,1,z01,by decide,by decide +kernel⟩
 | 2,0,_,_,_=>exact⟨5,2,z02,by decide,by decide +kernel⟩
 | 3,0,_,_,_=>exact⟨12,3,z03,by decide,by decide +kernel⟩
 | 4,0,_,_,_=>exact⟨29,5,z04,by decide,by decide +kernel⟩
 | 5,0,_,_,_=>exact⟨70,8,z05,by decide,by decide +kernel⟩
 | 6,0,_,_,_=>exact⟨169,13,z06,by decide,by decide +kernel⟩
 | 7,0,_,_,_=>exact⟨408,21,z07,by decide,by decide +kernel⟩
 | 1,1,_,_,_=>exact⟨2,1,z11,by decide,by decide +kernel⟩
 | 2,1,_,_,_=>exact⟨5,2,z12,by decide,by decide +kernel⟩
 | 3,1,_,_,_=>exact⟨13,4,z13,by decide,by decide +kernel⟩
 | 4,1,_,_,_=>exact⟨33,7,z14,by decide,by decide +kernel⟩
 | 5,1,_,_,_=>exact⟨84,13,z15,by decide,by decide +kernel⟩
 | 6,1,_,_,_=>exact⟨214,24,z16,by decide,by decide +kernel⟩
 | 7,1,_,_,_=>exact⟨545,44,z17,by decide,by decide +kernel⟩
 | 1,2,_,_,_=>exact⟨2,1,z21,by decide,by decide +kernel⟩
 | 2,2,_,_,_=>exact⟨5,2,z22,by decide,by decide +kernel⟩
 | 3,2,_,_,_=>exact⟨13,4,z23,by decide,by decide +kernel⟩
 | 4,2,_,_,_=>exact⟨35,9,z24,by decide,by decide +kernel⟩
 | 5,2,_,_,_=>exact⟨92,17,z25,by decide,by decide +kernel⟩
 | 6,2,_,_,_=>exact⟨242,34,z26,by decide,by decide +kernel⟩
 | 7,2,_,_,_=>exact⟨637,68,z27,by decide,by decide +kernel⟩
 | 1,3,_,_,_=>exact⟨2,1,z31,by decide,by decide +kernel⟩
 | 2,3,_,_,_=>exact⟨5,2,z32,by decide,by decide +kernel⟩
 | 3,3,_,_,_=>exact⟨13,4,z33,by decide,by decide +kernel⟩
 | 4,3,_,_,_=>exact⟨35,9,z34,by decide,by decide +kernel⟩
 | 5,3,_,_,_=>exact⟨96,21,z35,by decide,by decide +kernel⟩
 | 6,3,_,_,_=>exact⟨258,42,z36,by decide,by decide +kernel⟩
 | 7,3,_,_,_=>exact⟨693,88,z37,by decide,by decide +kernel⟩
 | 1,4,_,_,_=>exact⟨2,1,z41,by decide,by decide +kernel⟩
 | 2,4,_,_,_=>exact⟨5,2,z42,by decide,by decide +kernel⟩
 | 3,4,_,_,_=>exact⟨13,4,z43,by decide,by decide +kernel⟩
 | 4,4,_,_,_=>exact⟨35,9,z44,by decide,by decide +kernel⟩
 | 5,4,_,_,_=>exact⟨96,21,z45,by decide,by decide +kernel⟩
 | 6,4,_,_,_=>exact⟨267,51,z46,by decide,by decide +kernel⟩
 | 7,4,_,_,_=>exact⟨729,106,z47,by decide,by decide +kernel⟩
 | 1,5,_,_,_=>exact⟨2,1,z51,by decide,by decide +kernel⟩
 | 2,5,_,_,_=>exact⟨5,2,z52,by decide,by decide +kernel⟩
 | 3,5,_,_,_=>exact⟨13,4,z53,by decide,by decide +kernel⟩
 | 4,5,_,_,_=>exact⟨35,9,z54,by decide,by decide +kernel⟩
 | 5,5,_,_,_=>exact⟨96,21,z55,by decide,by decide +kernel⟩
 | 6,5,_,_,_=>exact⟨267,51,z56,by decide,by decide +kernel⟩
 | 7,5,_,_,_=>exact⟨750,127,z57,by decide,by decide +kernel⟩
 | 1,6,_,_,_=>exact⟨2,1,z61,by decide,by decide +kernel⟩
 | 2,6,_,_,_=>exact⟨5,2,z62,by decide,by decide +kernel⟩
 | 3,6,_,_,_=>exact⟨13,4,z63,by decide,by decide +kernel⟩
 | 4,6,_,_,_=>exact⟨35,9,z64,by decide,by decide +kernel⟩
 | 5,6,_,_,_=>exact⟨96,21,z65,by decide,by decide +kernel⟩
 | 6,6,_,_,_=>exact⟨267,51,z66,by decide,by decide +kernel⟩
 | 7,6,_,_,_=>exact⟨750,127,z67,by decide,by decide +kernel⟩
 | 1,7,_,_,_=>exact⟨2,1,z71,by decide,by decide +kernel⟩
 | 2,7,_,_,_=>exact⟨5,2,z72,by decide,by decide +kernel⟩
 | 3,7,_,_,_=>exact⟨13,4,z73,by decide,by decide +kernel⟩
 | 4,7,_,_,_=>exact⟨35,9,z74,by decide,by decide +kernel⟩
 | 5,7,_,_,_=>exact⟨96,21,z75,by decide,by decide +kernel⟩
 | 6,7,_,_,_=>exact⟨267,51,z76,by decide,by decide +kernel⟩
 | 7,7,_,_,_=>exact⟨750,127,z77,by decide,by decide +kernel⟩
def ways (r k:Nat)(A B C:List Int):Nat->List Int
 | 0=>[0,0,0]
 | i + 1=>[(ways r k A B C i).getD 0 0 + A.getD (k - 2 - r + i) 0 * A.getD (k - 2 - (k - 2 - r + i)) 0,(ways r k A B C i).getD 1 0 + B.getD (k - 2 - r + i) 0 * B.getD (k - 2 - (k - 2 - r + i)) 0,(ways r k A B C i).getD 2 0 + C.getD (k - 2 - r + i) 0 * B.getD (k - 2 - (k - 2 - r + i)) 0]
theorem a8y (r k:Nat)(A B C:List Int)(i:Nat):ways r k A B C i=[(ways r k A B C i).getD 0 0,(ways r k A B C i).getD 1 0,(ways r k A B C i).getD 2 0]:=by cases i <;> rfl
structure T3 where
 a:List Int
 b:List Int
 c:List Int
def T3.step (r k:Nat)(t:T3):T3:=
 let w:=ways r (k + 1) t.a t.b t.c (k - (k - 1 - r))
 ⟨t.a++[t.a.getD k 0 + w.getD 0 0],t.b++[t.b.getD k 0 + w.getD 1 0],t.c++[2 * t.c.getD k 0 + w.getD 2 0]⟩
def tbs (r:Nat):Nat->T3
 | 0=>⟨[1],[1],[1]⟩
 | k + 1=>(tbs r k).step r k
theorem a6e (r:Nat):∀k,(tbs r k).a.length=k + 1/\(tbs r k).b.length=k + 1/\(tbs r k).c.length=k + 1:=by
 intro xq
 induction xq with
 | zero =>
   exact⟨rfl,rfl,rfl⟩
 | succ k ih =>
   obtain⟨h1,h2,h3⟩:=ih;refine⟨?_,?_,?_⟩
   · show((tbs r k).a++[_]).length=_;rw [x0l,h1];rfl
   · show((tbs r k).b++[_]).length=_;rw [x0l,h2];rfl
   · show((tbs r k).c++[_]).length=_;rw [x0l,h3];rfl
def a8C (r:Nat):Prop:=∀x∈(tbs r 24).a++(tbs r 24).b,-(2 ^ 64) < x/\x < 2 ^ 64
theorem a9o {r:Nat}:∀(d k:Nat),(∀x∈(tbs r k).a,x∈(tbs r (k + d)).a)/\∀x∈(tbs r k).b,x∈(tbs r (k + d)).b:=by
 intro xq
 induction xq with
 | zero =>
   intro k;exact⟨fun x h=>h,fun x h=>h⟩
 | succ d ih =>
   intro k;exact⟨fun x h=>x0W _ ((ih k).1 x h),fun x h=>x0W _ ((ih k).2 x h)⟩
theorem a6d {r k:Nat}(h:a8C r)(hk:k<=24):(∀x∈(tbs r k).a,-(2 ^ 64) < x/\x < 2 ^ 64)/\∀x∈(tbs r k).b,-(2 ^ 64) < x/\x < 2 ^ 64:=by
 have:=@a9o r (24 - k) k;rw [x2k hk] at this;exact⟨fun x hx=>h x (x0W _ (this.1 x hx)),fun x hx=>h x (x0A _ (this.2 x hx))⟩
theorem a3y {xs:List Int}(h:i < xs.length):xs.getD i 0∈xs:=by rw [x0v,x0k h];exact x2g _
theorem m_tb (r m:Nat)(sm:a8C r)(hm:m<=24){n:Nat}{R:PV->Nat->Prop}(h:R (.tup [.int ((tbs r m).c.getD m 0),.int ((tbs r m).a.getD m 0)]) n):a0S [.int m,.int r] n R:=by
 refine⟨rfl,?_⟩;unfold a1q;walk_at "pu";refine⟨⟨by omega,by omega⟩,?_⟩;have eN:((m:Int) + 1 - 1).toNat=m:=by omega
 rw [eN];refine a0K (fun k env q=>q=n/\∃z5 z6 z7 z8,env=[some (.v (.int m)),some (.v (.int r)),some (.ow .lst ((tbs r k).a.map .int)),some (.ow .lst ((tbs r k).b.map .int)),some (.ow .lst ((tbs r k).c.map .int)),z5,z6,z7,z8]) _ 0 _ _ ⟨rfl,none,none,none,none,rfl⟩ (fun i x env q N hx hI hN=>?_) (fun env q hI=>?_)
 · obtain⟨rfl,z5,z6,z7,z8,rfl⟩:=hI;obtain⟨hi,rfl⟩:=a1y hx;rw [x0N] at *;obtain⟨la,lb,lc⟩:=a6e r i;obtain⟨sa,sb⟩:=a6d sm (show i<=24 by omega);generalize hA:(tbs r i).a=A at *;generalize hB:(tbs r i).b=B at *;generalize hC:(tbs r i).c=C at *;have ga:∀(j:Int) (k:Nat),j=k->k < i + 1->atI (A.map PV.int) j=some (.int (A.getD k 0)):=fun j k e h=>at_map PV.int 0 (by omega) e;have gb:∀(j:Int) (k:Nat),j=k->k < i + 1->atI (B.map PV.int) j=some (.int (B.getD k 0)):=fun j k e h=>at_map PV.int 0 (by omega) e;have gc:∀(j:Int) (k:Nat),j=k->k < i + 1->atI (C.map PV.int) j=some (.int (C.getD k 0)):=fun j k e h=>at_map PV.int 0 (by omega) e;generalize eA:A.map PV.int=PA at *;generalize eB:B.map PV.int=PB at *;generalize eC:C.map PV.int=PC at *;walk_at "pu";have elo:(if(1 + (i:Int)) - 2 - r > 0 then(1 + (i:Int)) - 2 - r else 0)=((i - 1 - r:Nat):Int):=by split <;> omega
   rw [elo];have ehi:((1 + (i:Int)) - 1 - ((i - 1 - r:Nat):Int)).toNat=i - (i - 1 - r):=by omega
   refine⟨⟨by omega,by omega,by omega,by omega⟩,?_⟩;rw [ehi];refine a0K (fun k env p=>p=q/\∃z7 z8,env=[some (.v (.int m)),some (.v (.int r)),some (.ow .lst PA),some (.ow .lst PB),some (.ow .lst PC),some (.v (.int (1 + (i:Int)))),some (.v (.lst ((ways r (i + 1) A B C k).map .int))),z7,z8]) _ 0 _ _ ⟨rfl,z7,z8,rfl⟩ (fun j x env p N' hx hI hN'=>?_) (fun env p hI=>?_)
   · obtain⟨rfl,y7,y8,rfl⟩:=hI;obtain⟨hj,rfl⟩:=a1y hx;rw [x0N] at *;have e1:=ga (((i - 1 - r:Nat):Int) + j) (i + 1 - 2 - r + j) (by omega) (by omega);have e2:=ga (1 + (i:Int) - 2 - (((i - 1 - r:Nat):Int) + j)) (i + 1 - 2 - (i + 1 - 2 - r + j)) (by omega) (by omega);have e3:=gb (((i - 1 - r:Nat):Int) + j) (i + 1 - 2 - r + j) (by omega) (by omega);have e4:=gb (1 + (i:Int) - 2 - (((i - 1 - r:Nat):Int) + j)) (i + 1 - 2 - (i + 1 - 2 - r + j)) (by omega) (by omega);have e5:=gc (((i - 1 - r:Nat):Int) + j) (i + 1 - 2 - r + j) (by omega) (by omega);rw [a8y];generalize hw0:(ways r (i + 1) A B C j).getD 0 0=w0;generalize hw1:(ways r (i + 1) A B C j).getD 1 0=w1;generalize hw2:(ways r (i + 1) A B C j).getD 2 0=w2;walk_at "pu";rw [e1];dsimp only;rw [e2];dsimp only;refine⟨.inl (sa _ (a3y (by omega))),?_⟩;rw [e3];dsimp only;rw [e4];dsimp only;refine⟨.inl (sb _ (a3y (by omega))),?_⟩;rw [e5];dsimp only;refine⟨.inr (sb _ (a3y (by omega))),?_⟩;refine hN' _ _ ⟨rfl,some (.v (.int (((i - 1 - r:Nat):Int) + j))),some (.v (.int (1 + (i:Int) - 2 - (((i - 1 - r:Nat):Int) + j)))),?_⟩;rw [ways,hw0,hw1,hw2]
     rfl
   · obtain⟨rfl,y7,y8,rfl⟩:=hI;rw [x0N,a1N];have e1:=ga ((1 + (i:Int)) - 1) i (by omega) (by omega);have e3:=gb ((1 + (i:Int)) - 1) i (by omega) (by omega);have e5:=gc ((1 + (i:Int)) - 1) i (by omega) (by omega);rw [a8y];generalize hw0:(ways r (i + 1) A B C _).getD 0 0=w0;generalize hw1:(ways r (i + 1) A B C _).getD 1 0=w1;generalize hw2:(ways r (i + 1) A B C _).getD 2 0=w2;walk_at "pu";refine⟨⟨_,rfl⟩,?_⟩;rw [e1];dsimp only;refine⟨by rw [<- eA,x0e];omega,⟨_,rfl⟩,?_⟩;rw [e3];dsimp only;refine⟨by rw [<- eB,x0e];omega,⟨_,rfl⟩,?_⟩;rw [e5];dsimp only;refine⟨.inl ⟨by decide,by decide⟩,by rw [<- eC,x0e];omega,hN _ _ ⟨rfl,some (.v (.int (1 + (i:Int)))),some (.v (.lst [.int w0,.int w1,.int w2])),y7,y8,?_⟩⟩;have t1:tbs r (i + 1)=(tbs r i).step r i:=rfl;rw [t1];unfold T3.step;rw [hA,hB,hC];dsimp only;rw [hw0,hw1,hw2,x0Q,x0Q,x0Q,eA,eB,eC]
     rfl
 · obtain⟨rfl,z5,z6,z7,z8,rfl⟩:=hI;rw [x0N,a1N];obtain⟨la,lb,lc⟩:=a6e r m;have e1:atI ((tbs r m).c.map PV.int) (m:Int)=some (.int ((tbs r m).c.getD m 0)):=at_map PV.int 0 (by omega) rfl;have e2:atI ((tbs r m).a.map PV.int) (m:Int)=some (.int ((tbs r m).a.getD m 0)):=at_map PV.int 0 (by omega) rfl;generalize (tbs r m).c.map PV.int=L1 at e1 ⊢;generalize (tbs r m).a.map PV.int=L2 at e2 ⊢;walk_at "pu";rw [e1];dsimp only;rw [e2];exact h
theorem a6Z (k:Int){n:Nat}{R:PV->Nat->Prop}(h:R (.bl true) n):a0M [.int k] n R:=by
 refine⟨rfl,?_⟩;unfold a1C;walk_at "pu";exact h
theorem a4j:∀r,r < 8->(∀x∈ccs r 24,-(2 ^ 64) < x/\x < 2 ^ 64)/\(∀x∈(tbs r 24).a++(tbs r 24).b,-(2 ^ 64) < x/\x < 2 ^ 64):=by decide +kernel
theorem a6f:∀r,r < 8->∀m,m < 25->(tbs r m).c.getD m 0=(hms r (ccs r m) m).getD m 0/\(tbs r m).a.getD m 0=(ccs r m).getD m 0:=by decide +kernel
def prI (p:Nat×Nat):PV:=.tup [.int (p.1:Int),.int (p.2:Int)]
theorem b0G {ns:List Int}(h:ns.length<=63):(cutP ns none (some 5)).length<=63:=by
 unfold cutP;rw [x2f,List.length_drop];omega
theorem m_law (ns:List Int)(hns:ns.length<=63):a8e ⟨fun _ _=>False,fun r _=>r=.bl true,fun _ _=>False,fun _ _=>False⟩ (a1U ["_law_script","_law_asked","_law_place","_law_hand_here","_law_many","_law_reach","_law_few","_law_near","_law_marks","_law_rows","_law_at","_law_found"] [.scr ns]) 0:=by
 unfold a8e;walk_at "pu"
 have l5:(List.map PV.int (cutP ns none (some 5))).length<=63:=by
   rw [x0e];exact b0G hns
 generalize (List.map PV.int (cutP ns none (some 5))).length=L at *;refine⟨⟨by omega,by omega⟩,?_⟩;rw [show((1:Int) + L).toNat=L + 1 by omega];refine a0K (fun k env q=>q=4 * k/\∃asked:List (Nat×Nat),asked.length=2 * k/\(∀p∈asked,p.1<=24/\p.2 < 8)/\∃z2 z3 z4 z5 z6 z7 z8 z9 z10 z11,env=[some (.v (.scr ns)),some (.ow .lst (asked.map prI)),z2,z3,z4,z5,z6,z7,z8,z9,z10,z11]) _ 0 _ _ ⟨rfl,[],rfl,(fun p (hp:p∈[])=>absurd hp List.not_mem_nil),none,none,none,none,none,none,none,none,none,none,rfl⟩ (fun i x env q N hx hI hN=>?_) (fun env q hI=>?_)
 · obtain⟨rfl,asked,la,ha,z2,z3,z4,z5,z6,z7,z8,z9,z10,z11,rfl⟩:=hI;obtain⟨hi,rfl⟩:=a1y hx;rw [x0N] at *;have lA:(asked.map prI).length<=1000:=by rw [x0e];omega
   have hN':=fun(p1 p2:Nat×Nat) (h1:p1.1<=24/\p1.2 < 8) (h2:p2.1<=24/\p2.2 < 8) z2 z3 z4 z5 z6 z7 z8 z9 z10 z11=>hN [some (.v (.scr ns)),some (.ow .lst (asked.map prI++[prI p1,prI p2])),z2,z3,z4,z5,z6,z7,z8,z9,z10,z11] (4 * (i + 1)) ⟨rfl,asked++[p1,p2],by rw [x0l,la];show 2 * i + 2=_;omega,fun p hp=>by
     rcases x1c.mp hp with hp | hp
     · exact ha p hp
     · rcases x0q.mp hp with e | hp
       · rw [e];exact h1
       · rw [x0T.mp hp];exact h2,z2,z3,z4,z5,z6,z7,z8,z9,z10,z11,by rw [x0Q];rfl⟩
   generalize asked.map prI=AS at *;walk_at "pu";refine⟨⟨hns,by omega,by omega⟩,fun q=>⟨by omega,fun d1 a1 b1=>⟨by omega,fun d2 a2 b2=>⟨by omega,fun d3 a3 b3=>⟨by omega,fun d4 a4 b4=>⟨⟨_,rfl⟩,by omega,?_⟩⟩⟩⟩⟩⟩;obtain⟨k1,rfl⟩:=x1V a1;obtain⟨k2,rfl⟩:=x1V a2;obtain⟨k3,rfl⟩:=x1V a3;obtain⟨k4,rfl⟩:=x1V a4;rw [show(1:Int) + (k3:Int)=((k3 + 1:Nat):Int) by omega,show(1:Int) + (k1:Int)=((k1 + 1:Nat):Int) by omega];obtain⟨len,cnt,⟨ws,lw,hw,hcnt,hall⟩,l1000,gd⟩:=good (k3 + 1) k4 (by omega) (by omega) (by omega);obtain⟨s1,_⟩:=a4j k4 (by omega);unfold Gd at gd;simp only [x1D,Bool.or_eq_true,decide_eq_true_eq,Bool.not_eq_true',decide_eq_false_iff_not] at gd;obtain⟨⟨g1,g2⟩,g3⟩:=gd;have hN2:=hN' (k1 + 1,k2) (k3 + 1,k4) ⟨by omega,by omega⟩ ⟨by omega,by omega⟩;have c1:=fun {n:Nat} {R:PV->Nat->Prop} h=>m_hm k4 (k3 + 1) s1 (by omega) (n:=n) (R:=R) h;have c2:=fun {n:Nat} {R:PV->Nat->Prop} h=>m_rf k4 (k3 + 1) s1 (by omega) (n:=n) (R:=R) h;rw [<- g1] at c1;rw [<- g2] at c2;refine hall _ _ ?_;have lws:(ws.map wdP).length=len:=by rw [x0e,lw]
   generalize eW:ws.map wdP=WS at lws;dsimp only;refine⟨by omega,?_⟩;rw [<- eW];refine a5O wdP (fun w=>prP (rowD w)) ws none _ _ (fun w hw' m Q h=>?_) ?_
   · obtain⟨e1,e2,e3,e4⟩:=hw w hw';walk_at "pu";refine m_row w (rowD w) e2 (by omega) e3 ?_;exact h
   rw [eW];have er:(ws.map fun w=>prP (rowD w))=(ws.map rowD).map prP:=by rw [x1K];rfl
   obtain⟨dl1,dl2⟩:=a8u (rows:=ws.map rowD) (m:=k3 + 1) (fun x hx=>by
     obtain⟨w,hw',rfl⟩:=x1b.mp hx
     exact(hw w hw').2.2.2)
   rw [hcnt] at dl1;rw [er,a4w];have lr:((ws.map rowD).map prP).length=len:=by rw [x0e,x0e,lw]
   generalize (ws.map rowD).map prP=RP at lr ⊢;dsimp only;refine⟨by omega,?_⟩;have dl2':=dl1.symm.trans dl2;refine c1 ?_;rw [lws,dl1];have ne:∀a:Nat,(!eqP (.int (a:Int)) (.int (a:Int)))=false:=fun a=>by rw [a2L,decide_eq_true rfl];rfl
   refine a2a rfl (if_f (ne len) (c2 ⟨dl2',a2a rfl (if_f (ne cnt) ?_)⟩))
   by_cases hk:k3 + 1<=k4 + 2
   · rcases g3 with g3 | ⟨g4,g5⟩
     · exact absurd hk g3
     rw [if_pos (decide_eq_true (by omega))];refine⟨dl2',?_⟩;have e1:atI [PV.int 2,PV.int 5,PV.int 13,PV.int 35,PV.int 96,PV.int 267,PV.int 750] (((k3 + 1:Nat):Int) - 1)=some (.int (([2,5,13,35,96,267,750].getD (k3 + 1 - 1) 0:Nat):Int)):=at_map (fun k:Nat=>PV.int (k:Int)) 0 (xs:=[2,5,13,35,96,267,750]) (k:=k3 + 1 - 1) (by show _ < 7;omega) (by omega);have e2:atI [PV.int 1,PV.int 2,PV.int 4,PV.int 9,PV.int 21,PV.int 51,PV.int 127] (((k3 + 1:Nat):Int) - 1)=some (.int (([1,2,4,9,21,51,127].getD (k3 + 1 - 1) 0:Nat):Int)):=at_map (fun k:Nat=>PV.int (k:Int)) 0 (xs:=[1,2,4,9,21,51,127]) (k:=k3 + 1 - 1) (by show _ < 7;omega) (by omega);rw [e1];dsimp only;rw [e2];dsimp only;rw [<- g4,<- g5];refine a2a rfl (a2a rfl (if_f ?_ ?_))
     · rw [a2L,a2L,decide_eq_true rfl,decide_eq_true rfl];rfl
     · exact hN2 _ _ _ _ _ _ _ _ _ _
   · rw [if_neg (by rw [decide_eq_false (by omega)];exact x0E)];exact hN2 _ _ _ _ _ _ _ _ _ _
 · obtain⟨rfl,asked,la,ha,z2,z3,z4,z5,z6,z7,z8,z9,z10,z11,rfl⟩:=hI;walk_at "pu";generalize 4 * (0 + (List.map (fun(k:Nat)=>PV.int (0 + (k:Int))) (x0g (L + 1))).length)=c;generalize eA:asked.map prI=AS;rw [<- eA];refine a0K (fun k env q=>q=c/\∃z2 z3 z4 z5 z6 z7 z8 z9 z10 z11,env=[some (.v (.scr ns)),some (.v (.lst AS)),z2,z3,z4,z5,z6,z7,z8,z9,z10,z11]) _ 0 _ _ ⟨rfl,z2,z3,z4,z5,z6,z7,z8,z9,z10,z11,by rw [eA]⟩ (fun i x env q N hx hI hN=>?_) (fun env q hI=>trivial);obtain⟨rfl,y2,y3,y4,y5,y6,y7,y8,y9,y10,y11,rfl⟩:=hI;rw [x0p] at hx;cases ep:asked[i]? with
   | none=>rw [ep] at hx;cases hx
   | some p =>
     rw [ep] at hx;cases hx;obtain⟨p1,p2⟩:=ha p (x0X ep);obtain⟨s1,s2⟩:=a4j p.2 p2;obtain⟨t1,t2⟩:=a6f p.2 p2 p.1 (by omega);unfold prI;walk_at "pu";refine m_hm p.2 p.1 s1 p1 ?_;refine m_rf p.2 p.1 s1 p1 ?_;refine m_tb p.2 p.1 s2 p1 ?_;rw [t1,t2];generalize (hms p.2 (ccs p.2 p.1) p.1).getD p.1 0=a;generalize (ccs p.2 p.1).getD p.1 0=b;refine a2a rfl (a2a rfl (if_f ?_ (a6Z _ (if_f rfl (a6Z _ (if_f rfl ?_))))))
     · show(!(eqP (.int a) (.int a) && (eqP (.int b) (.int b) && true)))=false;rw [a2L,a2L,decide_eq_true rfl,decide_eq_true rfl];rfl
     · exact hN _ _ ⟨rfl,_,_,_,_,_,_,_,_,_,_,rfl⟩
end Tb
end
section
namespace L2
open PySem PySem.Spec PyProof.Rows
def CPowB (i j:Int):Prop:=0<=j/\(Builtin.Int.intBits i:Int) * j<=2 ^ 27
theorem b0h {X:Cx}:OpR X (x2b .Pow) (rI CPowB fun i j=>.int (i ^ j.toNat)):=opI fun _ _ _ _ _ _ _ hc q=>pow_int hc.1 hc.2 q
end L2
namespace Tb
open PySem L2 Pu
def tIfS0 (u v:TS)(D:Ends)(σ:St)(H:Hp):Prop:=u { D with nx:=fun σ H=>v D σ H } σ H
section
variable {P:x0x}{w:World}{K:x0a}{mg:Str->Option Value}{base:Heap}
theorem a8g (F:Fn0 K mg "_law_hand" (top 8))(m_len:mg "len"=none)(m_abs:mg "abs"=none):Kn P w K mg base "_law_hand" 1 ["_law_script","_law_place"] (Pu.spPot K):=by
 have sc:a0y ["_law_script","_law_place","_law_cell","_law_digits"] ["_law_script","_law_place"] (a0i (top 8)):=⟨rfl,rfl,rfl,by decide +kernel,rfl,by decide +kernel,by decide +kernel⟩;refine F.ok sc (fun vs H Q E h=>?_) (fun _ _ _ _ _ _=>bd2 fun _ _=>rfl) (fun f cdv A outer s H vs Q E hr h=>?_)
 · obtain⟨a,ns,k,rfl,_⟩:=h
   rfl
 obtain⟨a,ns,k,rfl,hS,h0,h1,q⟩:=h
 refine⟨_,(a0D (a2z (i:=2) sc.nd rfl (Or.inl rfl) a0q)
     (a0D (a9W (a3o op_lt (pv 1) (a1e a2o rfl m_len a7y (a0m (pv 0) a0C)) (a1K _)) (a2y (a2z (i:=2) sc.nd rfl (Or.inl rfl) (a1e a8v rfl m_abs bt_abs (a0m (a2Q a1s (pv 0) (pv 1) (fun _ _=>rfl)) a0C)))) a4u)
     (a0D (a2z (i:=3) sc.nd rfl (Or.inl rfl) (a8c (a3o op_ge (pv 2) (a0O a8R a0q a0q) (a1K _)) (a0O a2B (pv 2) (a0O b0h (a0O a8R a0q a0q) a0q)) a0q))
     (a2y (a3N (a8Q (a0m (pv 3) (a0m (a0O a2C (a0O a2C (a0O a2B (pv 2) a0q) (a0O a2Y a0q (pv 1))) a0q) (a0m a0q a0C))))))))),?_⟩
 have sq:∀(u v:TS) (D:Ends) (σ:St) (x:V) (i:Nat),tIfS0 u v D (σ.set i (some x)) H->tSeq (tAsg (tC x) (a1S i)) (tSeq u v) D σ H:=fun _ _ _ _ _ _ h=>h;refine sq _ _ _ _ _ _ ?_;unfold tIfS0;refine a7G (fun σ' H'=>∃c:Int,0<=c/\σ'=[some (.ref a),some (.int k),some (.int c),none]/\H'=H) (fun key=>?_) ?_
 · refine⟨_,rfl,_,rfl,a,_,rfl,.inl hS,_,_,rfl,rfl,_,rfl,?_⟩;refine ite2 (fun c=>?_) (fun c=>?_)
   · have c':k < (((ns.map V.int).length:Nat):Int):=of_decide_eq_true c;rw [x0e] at c';obtain⟨v,qa⟩:=L2.at_map (ns:=ns) h0 c';exact⟨_,rfl,_,rfl,a,_,_,_,rfl,rfl,hS,qa,_,rfl,key _ _ ⟨_,by split <;> omega,rfl,rfl⟩⟩
   · exact key _ _ ⟨0,by decide,rfl,rfl⟩
 rintro σ' H' ⟨c,c0,rfl,eH⟩;subst eH;dsimp only;have sq2:∀(u:TE) (v:TS) (D:Ends) (σ:St) (i:Nat),u σ H' (fun x H=>v D (σ.set i (some x)) H)->tSeq (tAsg u (a1S i)) v D σ H':=fun _ _ _ _ _ h=>h;refine sq2 _ _ _ _ _ ?_;refine a9r (fun v=>∃o:Int,v=.int o/\0<=o) (fun key=>?_) ?_
 · refine⟨_,rfl,_,_,rfl,rfl,⟨by decide,by decide,by decide⟩,_,_,rfl,rfl,_,rfl,?_⟩;exact ite2 (fun _=>⟨_,rfl,_,_,rfl,rfl,⟨by decide,by decide,by decide⟩,_,_,rfl,rfl,⟨by decide,by decide +kernel⟩,_,_,rfl,rfl,(by show(0:Int) < (10 ^ Int.toNat 60) ^ Int.toNat 17;decide +kernel),key _ ⟨_,rfl,x1Z _ (by decide +kernel)⟩⟩) (fun _=>key _ ⟨_,rfl,by decide⟩)
 rintro v ⟨o,rfl,o0⟩;have m0:=x1Z c (show(2305843009213693951:Int)≠0 by decide);have m1:=x1X c (show(0:Int) < 2305843009213693951 by decide);refine⟨_,rfl,_,rfl,_,_,rfl,rfl,(by show(0:Int) < 2305843009213693951;decide),_,rfl,_,_,rfl,rfl,.inl ⟨by decide,by decide⟩,_,_,rfl,rfl,_,_,rfl,rfl,(by show 3<=x0t;decide),fun p hp=>?_⟩;exact q p _ _ hp ⟨o0,by omega,by omega,by decide,by decide⟩
theorem b0l (F:Fn0 K mg "_law_take" (top 9)):Kn P w K mg base "_law_take" 1 ["_law_hand_here","_law_many"] (a0w K potL a5S):=by
 refine a7p ?_;have sc:a0y ["_law_hand_here","_law_many","_law_digit","_law_turn","_law_mixed"] ["_law_hand_here","_law_many"] (a0i (top 9)):=⟨rfl,rfl,rfl,by decide +kernel,rfl,by decide +kernel,by decide +kernel⟩;refine F.ok sc (fun vs H Q E h=>?_) (fun _ _ _ _ _ _=>bd2 fun _ _=>rfl) (fun f cdv A outer s H vs Q E hr h=>?_)
 · obtain⟨p,own,seed,go,many,rfl,_⟩:=h
   rfl
 obtain⟨p,own,seed,go,many,rfl,hp,⟨o0,s0,s1,g0,g1⟩,g2,n0,n1,q⟩:=h
 refine⟨_,(a0D (a9W (a3o op_gt (a2Q a1s (pv 0) a0q (fun _ _=>rfl)) a0q (a1K _)) (a0D (a2z (i:=2) sc.nd rfl (Or.inl rfl) (a0O a2B (a2Q a1s (pv 0) a0q (fun _ _=>rfl)) (pv 1)))
     (a0D (a4W (a0O a6Q (a2Q a1s (pv 0) a0q (fun _ _=>rfl)) (pv 1)) (a4X (pv 0) a0q a2p))
     (a2y (a3N (pv 2))))) a4u)
     (a0D (a4W (a0O a2C (a2Q a1s (pv 0) a0q (fun _ _=>rfl)) a0q) (a4X (pv 0) a0q a2p))
     (a0D (a2z (i:=3) sc.nd rfl (Or.inl rfl) (a2Q a1s (pv 0) a0q (fun _ _=>rfl)))
     (a0D (a2z (i:=4) sc.nd rfl (Or.inl rfl) (a0O a2B (a0O a2Y (a0O a2C (a2Q a1s (pv 0) a0q (fun _ _=>rfl)) (a0O a2Y a0q (pv 3))) (a0O a2C a0q (a0O a2Y (pv 3) (pv 3)))) a0q))
     (a0D (a4W (a0O a2B (a0O a2Y (pv 4) (a0O a2C (a0O a2B (pv 4) a0q) a0q)) a0q) (a4X (pv 0) a0q a2p))
     (a2y (a3N (a0O a2B (a0O a6Q (a2Q a1s (pv 0) a0q (fun _ _=>rfl)) a0q) (pv 1))))))))),?_⟩
 refine⟨_,rfl,p,_,0,_,rfl,rfl,SqL.of hp,rfl,_,_,rfl,rfl,_,rfl,?_⟩;refine ite2 (fun c=>?_) (fun c=>?_)
 · refine⟨_,rfl,p,_,0,_,rfl,rfl,SqL.of hp,rfl,_,rfl,_,_,rfl,rfl,n0,?_⟩;refine⟨_,rfl,p,_,0,_,rfl,rfl,SqL.of hp,rfl,_,rfl,_,_,rfl,rfl,⟨n0,by omega⟩,?_⟩;refine⟨_,rfl,p,_,0,0,rfl,rfl,hp,rfl,?_⟩;refine⟨_,rfl,?_⟩;exact q _ _ _ _ (x1Z _ (by omega)) (x1X _ n0) ⟨Int.ediv_nonneg o0 (by omega),s0,s1,g0,g1⟩ (by omega)
 · refine⟨_,rfl,p,_,2,_,rfl,rfl,SqL.of hp,rfl,_,_,rfl,rfl,?_⟩;refine⟨_,rfl,p,_,2,2,rfl,rfl,hp,rfl,?_⟩;refine⟨_,rfl,p,_,2,_,rfl,rfl,SqL.of a0n,rfl,?_⟩;refine⟨_,rfl,p,_,1,_,rfl,rfl,SqL.of a0n,rfl,_,rfl,_,_,rfl,rfl,.inl ⟨by decide,by decide⟩,_,_,rfl,rfl,?_⟩;refine⟨_,rfl,_,rfl,_,_,rfl,rfl,.inl ⟨by omega,by omega⟩,_,_,rfl,rfl,_,_,rfl,rfl,?_⟩;refine⟨.inl ⟨by omega,by omega⟩,_,_,rfl,rfl,(by show(0:Int) < 2305843009213693921;decide),?_⟩;dsimp only [a1S];generalize (seed + 39373 * (go + 1)) * (48271 + (go + 1) * (go + 1))=y;have m0:=x1Z y (show(2305843009213693921:Int)≠0 by decide);have m1:=x1X y (show(0:Int) < 2305843009213693921 by decide);generalize y % 2305843009213693921=z at m0 m1 ⊢;refine⟨_,rfl,_,rfl,_,_,rfl,rfl,(by show(0:Int) < 1000003;decide),_,_,rfl,rfl,_,_,rfl,rfl,.inl ⟨by omega,by omega⟩,_,_,rfl,rfl,(by show(0:Int) < 2305843009213693907;decide),?_⟩;dsimp only;have r0:=x1Z (z * (z % 1000003 + 17)) (show(2305843009213693907:Int)≠0 by decide);have r1:=x1X (z * (z % 1000003 + 17)) (show(0:Int) < 2305843009213693907 by decide);generalize z * (z % 1000003 + 17) % 2305843009213693907=sd at r0 r1 ⊢;refine⟨_,rfl,p,_,1,1,rfl,rfl,a0n,rfl,?_⟩;refine⟨_,rfl,p,_,1,_,rfl,rfl,SqL.of a0n,rfl,_,_,rfl,rfl,⟨by decide,by decide⟩,_,rfl,_,_,rfl,rfl,n0,?_⟩
   have e:∀(o o':HO),upd (upd H p o) p o'=upd H p o':=fun o o'=>by
     funext b
     unfold upd
     by_cases hb:b=p <;> simp [hb]
   show Q _ (upd (upd H p _) p _);rw [e];exact q _ _ _ _ (x1Z _ (by omega)) (x1X _ n0) ⟨o0,r0,by omega,by omega,by omega⟩ (by omega)
theorem b0m (F:Fn0 K mg "_law_hand" (top 8))(m_len:mg "len"=none)(m_abs:mg "abs"=none):Kn P w K mg base "_law_hand" 1 ["_law_script","_law_place"] (Pu.a3F K):=a7X (a8g F m_len m_abs)
end
end Tb
end
section
open PySem PySem.W PyProof.Rows
set_option maxRecDepth 100000 in
set_option maxHeartbeats 0 in
theorem PySem.Challenge.cw_touchboats_k16_words_and_rows_counted_holds : PySem.Challenge.rw_touchboats_k16_words_and_rows_counted.Holds := by
 w_on;o_law;k_head;(case hw=>w_witness2)
 k_fill
 refine L2.a7D (l:=PySem.Challenge.rw_touchboats_k16_words_and_rows_counted) (x:="_law_script") (k:=4) rfl rfl ⟨rfl,by decide,by decide,rfl⟩ (fun w h Y=>PySem.W.kIn_of Y) ?F
 case F=>
   intro w mg h KX G
   have f__law_hand:L2.Fn0 (L2.KOf KX) mg "_law_hand" (Tb.top 8):=by
     dsimp only [L2.KOf]
     refine' L2.a1x KX G ?a ?l ?c ?k
     (case a=>k_is);(case l=>k_is);(case c=>k_is);(case k=>k_is)
   have f_longer:L2.Fn0 (L2.KOf KX) mg "longer" (Tb.top 1):=by
     dsimp only [L2.KOf]
     refine' L2.a1x KX G ?a ?l ?c ?k
     (case a=>k_is);(case l=>k_is);(case c=>k_is);(case k=>k_is)
   have f_all_words:L2.Fn0 (L2.KOf KX) mg "all_words" (Tb.top 2):=by
     dsimp only [L2.KOf]
     refine' L2.a1x KX G ?a ?l ?c ?k
     (case a=>k_is);(case l=>k_is);(case c=>k_is);(case k=>k_is)
   have f__law_take:L2.Fn0 (L2.KOf KX) mg "_law_take" (Tb.top 9):=by
     dsimp only [L2.KOf]
     refine' L2.a1x KX G ?a ?l ?c ?k
     (case a=>k_is);(case l=>k_is);(case c=>k_is);(case k=>k_is)
   have f_longer_count:L2.Fn0 (L2.KOf KX) mg "longer_count" (Tb.top 3):=by
     dsimp only [L2.KOf]
     refine' L2.a1x KX G ?a ?l ?c ?k
     (case a=>k_is);(case l=>k_is);(case c=>k_is);(case k=>k_is)
   have f_closed_counts:L2.Fn0 (L2.KOf KX) mg "closed_counts" (Tb.top 4):=by
     dsimp only [L2.KOf]
     refine' L2.a1x KX G ?a ?l ?c ?k
     (case a=>k_is);(case l=>k_is);(case c=>k_is);(case k=>k_is)
   have f_how_many:L2.Fn0 (L2.KOf KX) mg "how_many" (Tb.top 5):=by
     dsimp only [L2.KOf]
     refine' L2.a1x KX G ?a ?l ?c ?k
     (case a=>k_is);(case l=>k_is);(case c=>k_is);(case k=>k_is)
   have f_rows_from:L2.Fn0 (L2.KOf KX) mg "rows_from" (Tb.top 6):=by
     dsimp only [L2.KOf]
     refine' L2.a1x KX G ?a ?l ?c ?k
     (case a=>k_is);(case l=>k_is);(case c=>k_is);(case k=>k_is)
   have f__law_tables:L2.Fn0 (L2.KOf KX) mg "_law_tables" (Tb.top 10):=by
     dsimp only [L2.KOf]
     refine' L2.a1x KX G ?a ?l ?c ?k
     (case a=>k_is);(case l=>k_is);(case c=>k_is);(case k=>k_is)
   have f__law_whole:L2.Fn0 (L2.KOf KX) mg "_law_whole" (Tb.top 12):=by
     dsimp only [L2.KOf]
     refine' L2.a1x KX G ?a ?l ?c ?k
     (case a=>k_is);(case l=>k_is);(case c=>k_is);(case k=>k_is)
   have f__law_row_of:L2.Fn0 (L2.KOf KX) mg "_law_row_of" (Tb.top 11):=by
     dsimp only [L2.KOf]
     refine' L2.a1x KX G ?a ?l ?c ?k
     (case a=>k_is);(case l=>k_is);(case c=>k_is);(case k=>k_is)
   have f_law:L2.Fn0 (L2.KOf KX) mg "law" (Tb.top 13):=by
     dsimp only [L2.KOf]
     refine' L2.a1x KX G ?a ?l ?c ?k
     (case a=>k_is);(case l=>k_is);(case c=>k_is);(case k=>k_is)
   have z:∀x,PySem.W.nsIn (L2.KOf KX) x1z x=some none->mg x=none:=fun x e=>PySem.W.mg_none_of KX G e;have m_abs:mg "abs"=none:=z _ (by dsimp only [L2.KOf];k_is);have m_bool:mg "bool"=none:=z _ (by dsimp only [L2.KOf];k_is);have m_dict:mg "dict"=none:=z _ (by dsimp only [L2.KOf];k_is);have m_enumerate:mg "enumerate"=none:=z _ (by dsimp only [L2.KOf];k_is);have m_int:mg "int"=none:=z _ (by dsimp only [L2.KOf];k_is);have m_isinstance:mg "isinstance"=none:=z _ (by dsimp only [L2.KOf];k_is);have m_len:mg "len"=none:=z _ (by dsimp only [L2.KOf];k_is);have m_list:mg "list"=none:=z _ (by dsimp only [L2.KOf];k_is);have m_max:mg "max"=none:=z _ (by dsimp only [L2.KOf];k_is);have m_min:mg "min"=none:=z _ (by dsimp only [L2.KOf];k_is);have m_range:mg "range"=none:=z _ (by dsimp only [L2.KOf];k_is);have m_sorted:mg "sorted"=none:=z _ (by dsimp only [L2.KOf];k_is);have m_tuple:mg "tuple"=none:=z _ (by dsimp only [L2.KOf];k_is);refine⟨Tb.top 13,f_law,fun _ _ _ _ _ _ s u=>.of_eq rfl,fun base kb nb=>?_⟩;have g__law_hand:=Tb.b0m (P:=PySem.Challenge.rw_touchboats_k16_words_and_rows_counted.prog) (w:=w) (base:=base) f__law_hand m_len m_abs;have g_longer:=Tb.a8l (P:=PySem.Challenge.rw_touchboats_k16_words_and_rows_counted.prog) (w:=w) (base:=base) f_longer m_len m_min m_range;have g_all_words:=Tb.a4B (P:=PySem.Challenge.rw_touchboats_k16_words_and_rows_counted.prog) (w:=w) (base:=base) f_all_words g_longer m_range m_sorted m_tuple
   have g__law_take:=Tb.b0l (P:=PySem.Challenge.rw_touchboats_k16_words_and_rows_counted.prog) (w:=w) (base:=base) f__law_take;have g_longer_count:=Tb.a2R (P:=PySem.Challenge.rw_touchboats_k16_words_and_rows_counted.prog) (w:=w) (base:=base) f_longer_count m_len m_min m_range;have g_closed_counts:=Tb.a2H (P:=PySem.Challenge.rw_touchboats_k16_words_and_rows_counted.prog) (w:=w) (base:=base) f_closed_counts g_longer_count m_range;have g_how_many:=Tb.a5H (P:=PySem.Challenge.rw_touchboats_k16_words_and_rows_counted.prog) (w:=w) (base:=base) f_how_many g_closed_counts g_longer_count m_range;have g_rows_from:=Tb.a4A (P:=PySem.Challenge.rw_touchboats_k16_words_and_rows_counted.prog) (w:=w) (base:=base) f_rows_from g_closed_counts;have g__law_tables:=Tb.a3v (P:=PySem.Challenge.rw_touchboats_k16_words_and_rows_counted.prog) (w:=w) (base:=base) f__law_tables m_max m_range;have g__law_whole:=Tb.a3U (P:=PySem.Challenge.rw_touchboats_k16_words_and_rows_counted.prog) (w:=w) (base:=base) f__law_whole m_bool m_int m_isinstance;have g__law_row_of:=Tb.a3w (P:=PySem.Challenge.rw_touchboats_k16_words_and_rows_counted.prog) (w:=w) (base:=base) f__law_row_of m_enumerate m_len m_list m_range m_tuple;exact Tb.k_law (P:=PySem.Challenge.rw_touchboats_k16_words_and_rows_counted.prog) (w:=w) (base:=base) f_law g__law_hand g__law_take g_all_words g__law_row_of g_rows_from g_how_many g__law_whole g__law_tables m_dict m_len m_range (fun ns hl=>Tb.m_law ns hl)
end
